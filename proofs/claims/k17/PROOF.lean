import PyProof.Rows.All
import Wide.All
import OpenK.AllK
import Wide.FinOn
import Lean
import PyProof.EqAt
import PyProof.EqKinds
import PyProof.TupleCall
import PyProof.SumWalkG
import KE.KTryMore
import PyProof.NeKinds
import PyProof.ExcAttrAll.ValueError
import KE.KRevIter
import PyProof.ReprRoads
import PyProof.ReprLen
import PyProof.TupleOfSeq
import KE.BitLaws
import PyProof.Rows.SortRuns
import PyProof.Rows.SortShell
import KE.KSortKey
import PyProof.WalkInts
import KE.KSortTup
import PyProof.DictValues
import PyProof.DictItems
import KE.KIntText
import PyProof.StrLoop
import PyProof.StrWalks
import PyProof.StrCalls2
import PyProof.ConsumeWalk
import PyProof.StrLawsRepr
import PySem.Challenge.RW_claspwork_k17_journals
set_option genSizeOf false
set_option Elab.async false
set_option linter.all false
set_option maxRecDepth 100000
local macro_rules
 | `(tactic| omega)=>`(tactic| first | lia | omega (config:={}))
namespace L2
open PySem PySem.Spec PyProof.Rows

noncomputable abbrev Key:=Sum Int Str
noncomputable def keyIs:Key→Value→Bool
 | .inl k,v=>Value.isInt k v
 | .inr x,v=>Value.isStrOf x v
noncomputable def keyH (w:World):Key→Int
 | .inl k=>hashInt k
 | .inr x=>hashStr w x
theorem keyIs_shape:∀ {k:Key} {v:Value},keyIs k v = true→(∃ i t,k = Sum.inl i∧v = Value.int i t)∨(∃ x t,k = Sum.inr x∧v = Value.str x t)
 | .inl i,v,h=>by
  obtain ⟨t,e⟩:=Value.isInt_shape (k:=i) (v:=v) h
  exact .inl ⟨i,t,rfl,e⟩
 | .inr x,v,h=>by
  obtain ⟨t,e⟩:=Value.isStrOf_shape (x:=x) (v:=v) h
  exact .inr ⟨x,t,rfl,e⟩
theorem keyIs_int (i:Int) (t:Tok):keyIs (.inl i) (.int i t) = true:=by simp [keyIs,Value.isInt]
theorem keyIs_str (x:Str) (t:Tok):keyIs (.inr x) (.str x t) = true:=by simp [keyIs,Value.isStrOf]
theorem key_ll (a b:Int):decide ((Sum.inl a:Key) = Sum.inl b) = (a == b):=by
 by_cases e:a = b
 ·subst e;simp
 ·have h:¬ (Sum.inl a:Key) = Sum.inl b:=fun q=>e (Sum.inl.inj q)
  rw [decide_eq_false h]
  exact (beq_eq_false_iff_ne.mpr e).symm
theorem key_rr (a b:Str):decide ((Sum.inr a:Key) = Sum.inr b) = decide (a = b):=by
 by_cases e:a = b
 ·subst e;simp
 ·have h:¬ (Sum.inr a:Key) = Sum.inr b:=fun q=>e (Sum.inr.inj q)
  rw [decide_eq_false h,decide_eq_false e]
theorem key_lr (a:Int) (b:Str):decide ((Sum.inl a:Key) = Sum.inr b) = false:=decide_eq_false (fun q=>nomatch q)
theorem key_rl (a:Str) (b:Int):decide ((Sum.inr a:Key) = Sum.inl b) = false:=decide_eq_false (fun q=>nomatch q)

noncomputable def mixKind (prog:Program) (w:World):PySem.KeyKind prog w Key where
 is:=keyIs
 hash:=keyH w
 inj:=fun v a b ha hb=>by
  rcases keyIs_shape ha with ⟨i,t,rfl,rfl⟩ | ⟨x,t,rfl,rfl⟩
  ·rcases keyIs_shape hb with ⟨j,u,rfl,e⟩ | ⟨y,u,rfl,e⟩
   ·injection e with e1 _;rw [e1]
   ·exact nomatch e
  ·rcases keyIs_shape hb with ⟨j,u,rfl,e⟩ | ⟨y,u,rfl,e⟩
   ·exact nomatch e
   ·injection e with e1 _;rw [e1]
 byValue:=fun k v h=>by
  rcases keyIs_shape h with ⟨i,t,rfl,rfl⟩ | ⟨x,t,rfl,rfl⟩ <;> rfl
 pyHash:=fun hv h=>by
  rcases keyIs_shape hv with ⟨i,t,rfl,rfl⟩ | ⟨x,t,rfl,rfl⟩
  ·exact wpAny_pyHash_int h
  ·exact wpAny_pyHash_str h
 eqBool:=fun hu hv h=>by
  rcases keyIs_shape hu with ⟨i,t,rfl,rfl⟩ | ⟨x,t,rfl,rfl⟩
  ·rcases keyIs_shape hv with ⟨j,u,rfl,rfl⟩ | ⟨y,u,rfl,rfl⟩
   ·rw [key_ll] at h;exact wpAny_eqBool_int h
   ·rw [key_lr] at h;exact SeqAt.EqAt.int_str i t y u _ _ _ _ h
  ·rcases keyIs_shape hv with ⟨j,u,rfl,rfl⟩ | ⟨y,u,rfl,rfl⟩
   ·rw [key_rl] at h;exact SeqAt.EqAt.str_int x t j u _ _ _ _ h
   ·rw [key_rr] at h;exact wpAny_eqBool_str h
 «strs»:=fun k x t v h=>by
  rcases keyIs_shape h with ⟨i,u,rfl,e⟩ | ⟨y,u,rfl,e⟩
  ·exact nomatch e
  ·injection e with e1 _
   subst e1
   cases v <;> rfl

theorem mixKind_int (prog:Program) (w:World) (i:Int) (t:Tok):(mixKind prog w).is (.inl i) (.int i t) = true:=keyIs_int i t
theorem mixKind_str (prog:Program) (w:World) (x:Str) (t:Tok):(mixKind prog w).is (.inr x) (.str x t) = true:=keyIs_str x t
end L2

namespace L2
open PySem PySem.Spec PyProof.Rows

inductive V where
 | non | bl (b:Bool) | int (i:Int) | str (x:Str) | byt (b:Array UInt8) | flt (b:UInt64) | ref (a:Addr) | ty (n:String)
 deriving DecidableEq

noncomputable def RelV:V→Value→Prop
 | .non,u=>u = Value.none
 | .bl b,u=>u = Value.bool b
 | .int i,u=>∃ t,u = Value.int i t
 | .str x,u=>∃ t,u = Value.str x t
 | .byt b,u=>∃ t,u = Value.bytes b t
 | .flt b,u=>∃ t,u = Value.float b t
 | .ref a,u=>u = Value.ref a
 | .ty n,u=>u = Value.type n

noncomputable abbrev Vals:List V→List Value→Prop:=Paired RelV
theorem Vals.length {xs:List V} {us:List Value} (r:Vals xs us):xs.length = us.length:=Paired.length r
theorem Vals.get:∀ {xs:List V} {us:List Value} {i:Nat} {x:V},Vals xs us→xs[i]? = some x→∃ u,us[i]? = some u∧RelV x u
 | _,_,_,_,.nil,e=>by simp at e
 | _,_,0,_,.cons r _,e=>by simp at e;subst e;exact ⟨_,rfl,r⟩
 | _,_,i + 1,x,.cons _ t,e=>by
  obtain ⟨u,h1,h2⟩:=Vals.get (i:=i) (x:=x) t (by simpa using e)
  exact ⟨u,by simpa using h1,h2⟩
theorem Vals.set {x:V} {u:Value} (r:RelV x u):∀ {xs:List V} {us:List Value} (i:Nat),Vals xs us→Vals (xs.set i x) (us.set i u)
 | _,_,_,.nil=>.nil
 | _,_,0,.cons _ t=>.cons r t
 | _,_,i + 1,.cons q t=>.cons q (Vals.set r i t)
theorem Vals.append:∀ {xs ys:List V} {us ws:List Value},Vals xs us→Vals ys ws→Vals (xs ++ ys) (us ++ ws)
 | _,_,_,_,.nil,s=>s
 | _,_,_,_,.cons r t,s=>.cons r (Vals.append t s)
noncomputable def RelO:Option V→Option Value→Prop
 | some v,some u=>RelV v u
 | none,none=>True
 | _,_=>False
noncomputable def KV {κ:Type}:List (κ×V)→List (κ×Value)→Prop:=Paired fun (p:κ×V) (q:κ×Value)=>p.1 = q.1∧RelV p.2 q.2

noncomputable def kV:Key→V
 | .inl i=>.int i
 | .inr x=>.str x

inductive HO where
 | lst (xs:List V)
 | tup (xs:List V)
 | dK (kvs:List (Key×V)) | dT (kvs:List (List Key×V))
 | set (S:Int→Bool) (n:Nat)
 | ins (C dx:Addr) (fs:List (Str×V))
 | own (x:Addr)
 | xd (fs:List (Str×V))
 | met (f x:Addr)
 | rng (lo hi:Int)
 | frz (o:Obj) (u:HO)
 | tbl (ps:Array Value)
 | ext (φ:Heap→Prop)

noncomputable abbrev Hp:=Addr→Option HO
noncomputable def upd (H:Hp) (a:Addr) (o:HO):Hp:=fun b=>if b = a then some o else H b
theorem upd_same {H:Hp} {a:Addr} {o:HO}:upd H a o a = some o:=by unfold upd;rw [if_pos rfl]
theorem upd_ne {H:Hp} {a b:Addr} {o:HO} (h:b≠a):upd H a o b = H b:=by unfold upd;rw [if_neg h]
theorem ne_of {H:Hp} {a b:Addr} {o u:HO} (h:H a = some o) (h':H b = some u) (d:o≠u):a≠b:=by
 intro e;subst e;rw [h] at h';exact d (Option.some.inj h')
theorem ne_of_none {H:Hp} {a b:Addr} {o:HO} (h:H a = some o) (h':H b = none):a≠b:=by
 intro e;subst e;rw [h] at h';cases h'

section
variable (P:Program) (w:World)
noncomputable def ObjOk (H : Hp) (h : Heap) (a : Addr) : HO → Prop
  | .lst xs => xs.length ≤ sizeLine ∧ ∃ (its : List Value) (n : Nat), Vals xs its ∧ h.get? a = some { cls := .type "list", data := .seq its.toArray n }
  | .tup xs => xs.length ≤ sizeLine ∧ ∃ its : List Value, Vals xs its ∧ IsTup h a its.toArray
  | .dK kvs => kvs.length ≤ sizeLine ∧ (a == sysModules) = false ∧ ∃ vs, KV kvs vs ∧ h.DictOf (mixKind P w) a vs
  | .dT kvs => kvs.length ≤ sizeLine ∧ (a == sysModules) = false ∧ ∃ xs : List (List Key × Addr × Value),
      Paired (fun (p : List Key × V) (q : List Key × Addr × Value) => p.1 = q.1 ∧ H q.2.1 = some (.tup (p.1.map kV)) ∧ RelV p.2 q.2.2) kvs xs ∧
      ∃ o es ep, h.get? a = some o ∧ o.ExactDict ∧ o.data = .dict es ep ∧ es.toList = xs.map (entryOfKey (tupleKind (mixKind P w))) ∧ (xs.map (·.1)).Nodup
  | .set S n => h.SetOf (intKind P w) a S n
  | .ins C dx fs => H dx = some (.own a) ∧ fs.length ≤ 1000 ∧ dx ≠ a ∧ h.get? a = some (PySem.W.instObj C dx) ∧
      ∃ mA, h.Ns1 dx mA ∧ (∀ f, RelO (fs.lookup f) (mA f)) ∧ PySem.Within mA (fs.map (·.1))
  | .own _ => ∃ o, h.get? a = some o
  | .xd fs => ∃ mA, h.Ns1 a mA ∧ ∀ f, RelO (fs.lookup f) (mA f)
  | .rng lo hi => ∃ t u v, h.get? a = some { cls := .type "range", data := .fields #[.int lo t, .int hi u, .int 1 v] }
  | .frz o u => h.get? a = some o ∧ ObjOk H h a u
  | .tbl ps => h.get? a = some { cls := .none, data := .fields ps }
  | .met f x => h.get? a = some (PySem.W.methodObj (.ref f) (.ref x))
  | .ext φ => φ h ∧ (∃ o, h.get? a = some o) ∧ ∀ h1 h2 : Heap, φ h1 → (∀ o, h1.get? a = some o → h2.get? a = some o) → φ h2
noncomputable def HOk (H:Hp) (h:Heap):Prop:=∀ a o,H a = some o→ObjOk P w H h a o
end

section
variable {P:Program} {w:World} {H H':Hp} {h h':Heap} {a:Addr} {o:HO}
theorem ObjOk.lt (x:ObjOk P w H h a o):a < h.objs.size:=by
 cases o with
 | lst xs=>obtain ⟨_,_,_,_,e⟩:=x;exact Heap.lt_size e
 | tup xs=>obtain ⟨_,_,_,p⟩:=x;exact p.lt
 | dK kvs=>obtain ⟨_,_,_,_,o,_,_,e,_⟩:=x;exact Heap.lt_size e
 | dT kvs=>obtain ⟨_,_,_,_,o,_,_,e,_⟩:=x;exact Heap.lt_size e
 | set S n=>obtain ⟨o,_,_,_,e,_⟩:=x;exact Heap.lt_size e
 | ins C dx fs=>obtain ⟨_,_,_,e,_⟩:=x;exact Heap.lt_size e
 | own y=>obtain ⟨_,e⟩:=x;exact Heap.lt_size e
 | xd fs=>obtain ⟨_,⟨_,_,_,e,_⟩,_⟩:=x;exact Heap.lt_size e
 | rng lo hi=>obtain ⟨_,_,_,e⟩:=x;exact Heap.lt_size e
 | frz ob u=>obtain ⟨e,_⟩:=x;exact Heap.lt_size e
 | tbl ps=>exact Heap.lt_size (show h.get? a = some _ from x)
 | met f y=>exact Heap.lt_size (show h.get? a = some _ from x)
 | ext φ=>obtain ⟨_,⟨_,e⟩,_⟩:=x;exact Heap.lt_size e
theorem Paired.mapP {α β:Type} {F G:α→β→Prop}:∀ {l₁:List α} {l₂:List β},Paired F l₁ l₂→(∀ a b,F a b→G a b)→Paired G l₁ l₂
 | _,_,.nil,_=>.nil
 | _,_,.cons r t,f=>.cons (f _ _ r) (Paired.mapP t f)
theorem ObjOk.stay (x:ObjOk P w H h a o) (k:∀ b u,(b = a∨H b = some (.own a))→h.get? b = some u→h'.get? b = some u)
  (ho:∀ b,H b = some (.own a)→H' b = some (.own a)) (ht:∀ b xs,H b = some (.tup xs)→H' b = some (.tup xs)):ObjOk P w H' h' a o:=by
 induction o with
 | lst xs=>obtain ⟨z,its,n,r,e⟩:=x;exact ⟨z,its,n,r,k _ _ (.inl rfl) e⟩
 | tup xs=>obtain ⟨z,its,r,ob,e,c⟩:=x;exact ⟨z,its,r,ob,k _ _ (.inl rfl) e,c⟩
 | dK kvs=>obtain ⟨z,y,vs,r,ob,es,ep,e,c⟩:=x;exact ⟨z,y,vs,r,ob,es,ep,k _ _ (.inl rfl) e,c⟩
 | dT kvs =>
  obtain ⟨z,y,xs,r,ob,es,ep,e,c⟩:=x
  exact ⟨z,y,xs,Paired.mapP r fun p q z=>⟨z.1,ht _ _ z.2.1,z.2.2⟩,ob,es,ep,k _ _ (.inl rfl) e,c⟩
 | set S n=>obtain ⟨ob,es,ep,t,e,c⟩:=x;exact ⟨ob,es,ep,t,k _ _ (.inl rfl) e,c⟩
 | ins C dx fs =>
  obtain ⟨d,z,ne,e,mA,⟨od,es,ep,e2,c⟩,r⟩:=x
  exact ⟨ho _ d,z,ne,k _ _ (.inl rfl) e,mA,⟨od,es,ep,k _ _ (.inr d) e2,c⟩,r⟩
 | own y=>obtain ⟨ob,e⟩:=x;exact ⟨ob,k _ _ (.inl rfl) e⟩
 | xd fs=>obtain ⟨mA,⟨od,es,ep,e,c⟩,r⟩:=x;exact ⟨mA,⟨od,es,ep,k _ _ (.inl rfl) e,c⟩,r⟩
 | rng lo hi=>obtain ⟨t,u,v,e⟩:=x;exact ⟨t,u,v,k _ _ (.inl rfl) e⟩
 | frz ob u ih=>obtain ⟨e,q⟩:=x;exact ⟨k _ _ (.inl rfl) e,ih q⟩
 | tbl ps =>
  have e:h.get? a = some { cls:=.none,data:=.fields ps }:=x
  show h'.get? a = some { cls:=.none,data:=.fields ps }
  exact k a _ (.inl rfl) e
 | met f y =>
  have e:h.get? a = some (PySem.W.methodObj (.ref f) (.ref y)):=x
  show h'.get? a = some (PySem.W.methodObj (.ref f) (.ref y))
  exact k a _ (.inl rfl) e
 | ext φ=>obtain ⟨p,⟨o,e⟩,st⟩:=x;exact ⟨st _ _ p fun o q=>k _ _ (.inl rfl) q,⟨o,k _ _ (.inl rfl) e⟩,st⟩
theorem HOk.lt (x:HOk P w H h) (e:H a = some o):a < h.objs.size:=(x a o e).lt
theorem HOk.fresh (x:HOk P w H h) (e:h.objs.size≤a):H a = none:=by
 cases q:H a with
 | none=>rfl
 | some u=>exact absurd (Nat.lt_of_lt_of_le (x.lt q) e) (Nat.lt_irrefl _)
theorem HOk.kept (x:HOk P w H h) (k:∀ b u,h.get? b = some u→h'.get? b = some u):HOk P w H h':=fun a o e =>
 (x a o e).stay (fun b u _ q=>k b u q) (fun _ q=>q) fun _ _ q=>q
theorem HOk.laid (x:HOk P w H h) (k:∀ b u,h.get? b = some u→h'.get? b = some u) (hp:h.objs.size≤a) (new:ObjOk P w (upd H a o) h' a o):HOk P w (upd H a o) h':=fun b u e=>by
 have hn:=x.fresh hp
 by_cases hb:b = a
 ·subst hb;rw [upd_same] at e;cases e;exact new
 ·rw [upd_ne hb] at e
  exact (x b u e).stay (fun c v _ q=>k c v q) (fun c q=>by rw [upd_ne (ne_of_none q hn)];exact q) fun c xs q=>by rw [upd_ne (ne_of_none q hn)];exact q
end

noncomputable def Rd (H:Hp) (a:Addr) (u:HO):Prop:=H a = some u∨∃ o,H a = some (.frz o u)
theorem Rd.ok {P:Program} {w:World} {H:Hp} {h:Heap} {a:Addr} {u:HO} (r:Rd H a u) (x:HOk P w H h):ObjOk P w H h a u:=by
 rcases r with r | ⟨o,r⟩
 ·exact x a u r
 ·obtain ⟨_,q⟩:=x a _ r
  exact q
noncomputable def Mut:Option HO→Prop
 | some (.lst _)=>True
 | some (.dK _)=>True
 | some (.dT _)=>True
 | some (.set _ _)=>True
 | some (.ins _ _ _)=>True
 | some (.ext _)=>True
 | _=>False
section
variable {P:Program} {w:World} {H:Hp} {h h':Heap} {x e:Addr} {o':HO}
theorem HOk.write (ok:HOk P w H h) (mu:Mut (H x)) (he:e = x∨H e = some (.own x)) (k:∀ b u,b≠e→h.get? b = some u→h'.get? b = some u) (heo:∃ u,h'.get? e = some u)
  (new:ObjOk P w (upd H x o') h' x o'):HOk P w (upd H x o') h':=fun b u q=>by
 have nown:∀ c y,H c = some (.own y)→c≠x:=fun c y r z=>by subst z;rw [r] at mu;exact mu
 have ntup:∀ c xs,H c = some (.tup xs)→c≠x:=fun c xs r z=>by subst z;rw [r] at mu;exact mu
 by_cases hb:b = x
 ·subst hb;rw [upd_same] at q;cases q;exact new
 ·rw [upd_ne hb] at q
  by_cases hbe:b = e
  ·have q':H b = some (.own x):=by
    rcases he with z | z
    ·exact absurd (hbe.trans z) hb
    ·rw [hbe];exact z
   rw [q] at q';cases q'
   obtain ⟨v,hv⟩:=heo
   exact ⟨v,by rw [hbe];exact hv⟩
  ·refine (ok b u q).stay (fun c v hc r=>k c v ?_ r) (fun c r=>by rw [upd_ne (nown c b r)];exact r) fun c xs r=>by rw [upd_ne (ntup c xs r)];exact r
   rcases hc with rfl | hc
   ·exact hbe
   ·rintro rfl
    rcases he with z | z
    ·exact nown c b hc z
    ·rw [hc] at z;cases z;exact hb rfl
end

structure Un (fs ex:List Addr) (H H':Hp) (h h':Heap):Prop where
 keep:∀ b o,h.get? b = some o→H b = none→b ∉ fs→b ∉ ex→h'.get? b = some o
 slot:∀ b o,h.get? b = some o→H b = none→b∈fs→b ∉ ex→∃ sl,h'.get? b = some { o with slots:=sl }
 free:∀ b o,h.get? b = some o→H b = none→b ∉ ex→H' b = none
 there:∀ b o,h.get? b = some o→b ∉ ex→∃ o',h'.get? b = some o'
 tups:∀ b xs,H b = some (.tup xs)→H' b = some (.tup xs)
 frzs:∀ b o u,H b = some (.frz o u)→H' b = some (.frz o u)
 tbls:∀ b ps,H b = some (.tbl ps)→∃ more,H' b = some (.tbl (ps ++ more))
section
variable {fs fs' ex ex':List Addr} {H H1 H2:Hp} {h h1 h2 h':Heap} {a x e:Addr} {o:HO}
theorem Un.any (u:Un fs ex H H1 h h1) {b:Addr} {ob:Obj} (q:h.get? b = some ob) (n:H b = none) (hx:b ∉ ex):∃ sl,h1.get? b = some { ob with slots:=sl }:=by
 by_cases hb:b∈fs
 ·exact u.slot b ob q n hb hx
 ·exact ⟨ob.slots,u.keep b ob q n hb hx⟩
theorem Un.trans (a:Un fs ex H H1 h h1) (b:Un fs ex H1 H2 h1 h2):Un fs ex H H2 h h2 where
 keep:=fun c ob q n hc hx=>b.keep c ob (a.keep c ob q n hc hx) (a.free c ob q n hx) hc hx
 slot:=fun c ob q n hc hx=>by
  obtain ⟨sl,e1⟩:=a.slot c ob q n hc hx
  obtain ⟨sl',e2⟩:=b.slot c _ e1 (a.free c ob q n hx) hc hx
  exact ⟨sl',e2⟩
 free:=fun c ob q n hx=>by
  obtain ⟨o',e1⟩:=a.there c ob q hx
  exact b.free c o' e1 (a.free c ob q n hx) hx
 there:=fun c ob q hx=>by
  obtain ⟨o',e1⟩:=a.there c ob q hx
  exact b.there c o' e1 hx
 tups:=fun c xs q=>b.tups c xs (a.tups c xs q)
 frzs:=fun c ob xs q=>b.frzs c ob xs (a.frzs c ob xs q)
 tbls:=fun c ps q=>by
  obtain ⟨m1,e1⟩:=a.tbls c ps q
  obtain ⟨m2,e2⟩:=b.tbls c _ e1
  exact ⟨m1 ++ m2,by rw [e2,Array.append_assoc]⟩
theorem Un.kept (k:∀ b u,h.get? b = some u→h'.get? b = some u):Un fs ex H H h h' :=
 ⟨fun b ob q _ _ _=>k b ob q,fun b ob q _ _ _=>⟨ob.slots,k b ob q⟩,fun _ _ _ n _=>n,fun b ob q _=>⟨ob,k b ob q⟩,fun _ _ q=>q,fun _ _ _ q=>q,fun _ ps q=>⟨#[],by rw [q];simp⟩⟩
theorem Un.refl:Un fs ex H H h h:=Un.kept fun _ _ q=>q
theorem Un.laid (k:∀ b u,h.get? b = some u→h'.get? b = some u) (hp:h.objs.size≤a) (hn:H a = none):Un fs ex H (upd H a o) h h' where
 keep:=fun b u q _ _ _=>k b u q
 slot:=fun b u q _ _ _=>⟨u.slots,k b u q⟩
 free:=fun b u q n _=>by rw [upd_ne (Nat.ne_of_lt (Nat.lt_of_lt_of_le (Heap.lt_size q) hp))];exact n
 there:=fun b u q _=>⟨u,k b u q⟩
 tups:=fun b xs q=>by rw [upd_ne (ne_of_none q hn)];exact q
 frzs:=fun b u xs q=>by rw [upd_ne (ne_of_none q hn)];exact q
 tbls:=fun b ps q=>⟨#[],by rw [upd_ne (ne_of_none q hn),q];simp⟩
theorem Un.write (mu:Mut (H x)) (he:e = x∨H e = some (.own x)) (k:∀ b u,b≠e→h.get? b = some u→h'.get? b = some u) (heo:∃ u,h'.get? e = some u):Un fs ex H (upd H x o) h h':=by
 have hx:∀ b,H b = none→b≠x:=fun b n z=>by subst z;rw [n] at mu;exact mu
 have hb:∀ b,H b = none→b≠e:=fun b n z=>by
  subst z
  rcases he with r | r
  ·exact hx b n r
  ·rw [n] at r;cases r
 have hm:∀ b u,H b = some u→¬ Mut (some u)→b≠x:=fun b u q nm z=>by subst z;rw [q] at mu;exact nm mu
 refine ⟨fun b u q n _ _=>k b u (hb b n) q,fun b u q n _ _=>⟨u.slots,k b u (hb b n) q⟩,fun b u q n _=>by rw [upd_ne (hx b n)];exact n,fun b u q _=>?_,
  fun b xs q=>by rw [upd_ne (hm b _ q fun z=>z)];exact q,fun b u xs q=>by rw [upd_ne (hm b _ q fun z=>z)];exact q,fun b ps q=>⟨#[],by rw [upd_ne (hm b _ q fun z=>z),q];simp⟩⟩
 by_cases hbe:b = e
 ·subst hbe;exact heo
 ·exact ⟨u,k b u hbe q⟩
theorem Un.mono (u:Un fs ex H H1 h h1) (hs:∀ b∈fs,b∈fs') (hx:∀ b∈ex,b∈ex'):Un fs' ex' H H1 h h1 :=
 ⟨fun b ob q n hb he=>u.keep b ob q n (fun z=>hb (hs b z)) fun z=>he (hx b z),fun _ _ q n _ he=>u.any q n fun z=>he (hx _ z),fun b ob q n he=>u.free b ob q n fun z=>he (hx b z),fun b ob q he=>u.there b ob q fun z=>he (hx b z),u.tups,u.frzs,u.tbls⟩
end

noncomputable def trk (h:Heap) (H:Hp):List Addr:=(List.range h.objs.size).filter fun a=>(H a).isSome
noncomputable def hidT (h:Heap) (H:Hp):Heap:=PySem.W.hideAll h (trk h H)
theorem hidT_size (h:Heap) (H:Hp):(hidT h H).objs.size = h.objs.size:=PySem.W.hideAll_size _ _
theorem hidT_get {h:Heap} {H:Hp} {b:Addr} {o:Obj} (e:h.get? b = some o) (n:H b = none):(hidT h H).get? b = some o :=
 PySem.W.hideAll_get _ e fun hm=>by
  have q:(H b).isSome = true:=(List.mem_filter.mp hm).2
  rw [n] at q;simp at q
theorem of_hidT {h:Heap} {H:Hp} {b:Addr} {o:Obj} (e:(hidT h H).get? b = some o):h.get? b = some o∧H b = none:=by
 have e':h.get? b = some o:=PySem.W.of_hideAll (trk h H) e
 refine ⟨e',?_⟩
 cases q:H b with
 | none=>rfl
 | some x =>
  have hm:b∈trk h H:=List.mem_filter.mpr ⟨List.mem_range.mpr (Heap.lt_size e'),by simp [q]⟩
  have z:(hidT h H).get? b = none:=PySem.W.hideAll_none (trk h H) hm
  rw [z] at e;cases e

end L2

namespace L2
open PySem PySem.Spec PyProof.Rows

structure Mod (K:PySem.W.Frag) (mg:Str→Option Value) (base:Heap):Prop where
 kin:K.In base
 glob:base.Ns mainGlobals mg
 blt:∃ mb,base.Ns builtinsNs mb∧∀ x:Str,x≠"__name__"→mb x = bootBuiltins x
 nolimit:base.NoLimit

/-- the context: a def's body (or a comprehension's block) running. base: fixed through the whole law; s₀, H₀: the entry; outer: the frames whose slots others may change (a def's callers); stack: all frames that run;
   ex: iterators that were made ahead of the entry and are walked here (a comprehension's); fn: the names whose cells were made at the entry (a def: all; a comprehension's block: its own); calm: not within an except suite; pn: pins that every state bears; xe: what is wanted of an exception that leaves the code -/
structure Cx where
 prog:Program
 w:World
 K:PySem.W.Frag
 mg:Str→Option Value
 base:Heap
 A:Around
 N:List Str
 s₀:Shared
 H₀:Hp
 env:Env
 outer:List Env
 stack:List Env
 ex:List Addr
 fn:Str→Bool
 calm:Bool
 pn:List (Addr×Obj)
 xe:Value→Shared→Prop
noncomputable def frs (l:List Env):List Addr:=l.filterMap (·.frame)
noncomputable abbrev Cx.fs (X:Cx):List Addr:=frs X.outer

noncomputable def Vis (sc:Scope) (x:Str):Prop:=sc.names.lookup x = some .local∨sc.names.lookup x = some .cell∨sc.names.lookup x = some .free
noncomputable def Loc (sc:Scope) (x:Str):Prop:=sc.names.lookup x = some .local∨sc.names.lookup x = some .cell
noncomputable def Look (env:Env) (h:Heap) (m:Str→Option Value) (x:Str) (u:Value):Prop :=
 (env.kindOf x = some .local∧m x = some u)∨((env.kindOf x = some .cell∨env.kindOf x = some .free)∧∃ c,env.cells.lookup x = some c∧h.IsCell c (some u))

structure Cx.Ok (X:Cx):Prop where
 mod:Mod X.K X.mg X.base
 kind:X.env.scope.kind = .function
 glob:X.env.globals = mainGlobals
 blt:X.env.builtins = builtinsNs
 above:X.s₀.heap.objs.size≤X.env.locals
 inj:∀ x y c,X.env.cells.lookup x = some c→X.env.cells.lookup y = some c→x = y
 has:∀ x,(X.env.kindOf x = some .cell∨X.env.kindOf x = some .free)→∃ c,X.env.cells.lookup x = some c
 cab:∀ x c,X.fn x = true→X.env.cells.lookup x = some c→X.s₀.heap.objs.size≤c
 hd:X.calm = true→X.A.handled = none
 frames:X.A.frames = some X.stack
 stk:X.stack = X.outer∨(X.stack = X.env :: X.outer∧X.env.frame = some X.env.locals)
 exf:∀ b∈X.ex,b≠X.env.locals∧∀ x c,X.env.cells.lookup x = some c→c≠b
 bs:∀ b o,X.base.get? b = some o→X.s₀.heap.get? b = some o∧X.H₀ b = none
 bsz:X.base.objs.size≤X.s₀.heap.objs.size
 noex:∀ b o,X.base.get? b = some o→b ∉ X.ex
 exfs:∀ b∈X.ex,b ∉ X.fs
 funs:X.s₀.heap.FunFrames X.base X.outer
 frf:∀ b∈X.fs,X.H₀ b = none

structure Inv (X:Cx) (pins:List (Addr×Obj)) (σ:List (Option V)) (H:Hp) (s:Shared):Prop where
 ok:X.Ok
 os:s.os = X.s₀.os
 bare:AllBare s.gens
 base:Un X.fs X.ex X.H₀ H X.s₀.heap s.heap
 loc:∃ m,s.heap.Ns X.env.locals m∧∀ (i:Nat) (x:Str) (v:V),X.N[i]? = some x→σ[i]? = some (some v)→Vis X.env.scope x→∃ u,RelV v u∧Look X.env s.heap m x u
 cell:∀ x c,X.env.cells.lookup x = some c→∃ v,s.heap.IsCell c v
 free:H X.env.locals = none
 freeC:∀ x c,X.env.cells.lookup x = some c→H c = none
 pin:∀ p∈X.pn ++ pins,s.heap.get? p.1 = some p.2∧H p.1 = none∧p.1≠X.env.locals∧p.1 ∉ X.fs∧∀ v,p.2.data≠.cell v
 hok:HOk X.prog X.w H s.heap
 len:σ.length = X.N.length

section
variable {X:Cx} {pins:List (Addr×Obj)} {σ:List (Option V)} {H H':Hp} {s:Shared} {h':Heap}

theorem Cx.Ok.nofr (ok:X.Ok) {b:Addr} {o:Obj} (e:X.base.get? b = some o):b ∉ X.fs:=fun hb=>by
 have:=(ok.funs.mem hb).1
 rw [e] at this;cases this
theorem Inv.bs (I:Inv X pins σ H s):∀ b o,X.base.get? b = some o→s.heap.get? b = some o∧H b = none:=fun b o e =>
 ⟨I.base.keep b o (I.ok.bs b o e).1 (I.ok.bs b o e).2 (I.ok.nofr e) (I.ok.noex b o e),I.base.free b o (I.ok.bs b o e).1 (I.ok.bs b o e).2 (I.ok.noex b o e)⟩
theorem Inv.bk (I:Inv X pins σ H s):∀ b o,X.base.get? b = some o→s.heap.get? b = some o:=fun b o e=>(I.bs b o e).1
theorem Inv.mod (I:Inv X pins σ H s):Mod X.K X.mg X.base:=I.ok.mod
theorem Inv.kIn (I:Inv X pins σ H s):X.K.In s.heap:=I.ok.mod.kin.keeps I.bk
theorem Inv.lt (I:Inv X pins σ H s):X.env.locals < s.heap.objs.size:=let ⟨_,hn,_⟩:=I.loc;hn.lt
theorem Inv.sz (I:Inv X pins σ H s):X.s₀.heap.objs.size≤s.heap.objs.size:=Nat.le_trans I.ok.above (Nat.le_of_lt I.lt)
theorem Inv.nofs (I:Inv X pins σ H s) {a:Addr} (h:s.heap.objs.size≤a):a ∉ X.fs:=fun hb=>by
 obtain ⟨_,o,ho,_⟩:=I.ok.funs.mem hb
 exact absurd (Nat.lt_of_lt_of_le (Heap.lt_size ho) (Nat.le_trans I.sz h)) (Nat.lt_irrefl _)
theorem Inv.cne (I:Inv X pins σ H s):∀ x c,X.env.cells.lookup x = some c→c≠X.env.locals:=fun x c e z=>by
 obtain ⟨v,o,ho,hd⟩:=I.cell x c e
 obtain ⟨m,⟨o',es,ep,ho',hd',_⟩,_⟩:=I.loc
 rw [z,ho'] at ho;cases ho;rw [hd'] at hd;cases hd
theorem Inv.funs (I:Inv X pins σ H s):s.heap.FunFrames X.base X.outer:=by
 have all:∀ (l:List Env),(∀ b∈frs l,b∈X.fs)→X.s₀.heap.FunFrames X.base l→s.heap.FunFrames X.base l:=by
  intro l
  induction l with
  | nil=>intro _ _;trivial
  | cons env r ih =>
   intro hs hl
   obtain ⟨hk,⟨L,o,hf,hn,ho,hd⟩,hr⟩:=hl
   have hL:L∈X.fs:=hs L (by unfold frs;rw [List.filterMap_cons,hf];exact List.mem_cons_self)
   obtain ⟨sl,e⟩:=I.base.slot L o ho (I.ok.frf L hL) hL fun z=>I.ok.exfs L z hL
   exact ⟨hk,⟨L,_,hf,hn,e,hd⟩,ih (fun b hb=>hs b (by unfold frs;rw [List.filterMap_cons,hf];exact List.mem_cons_of_mem _ hb)) hr⟩
 exact all X.outer (fun _ hb=>hb) I.ok.funs

theorem Inv.stack (I:Inv X pins σ H s):s.heap.FunFrames X.base X.stack:=by
 rcases I.ok.stk with e | ⟨e,hf⟩
 ·rw [e];exact I.funs
 ·rw [e]
  obtain ⟨m,hn,_⟩:=I.loc
  refine .cons (by rw [I.ok.kind];decide) hf hn ?_ I.funs
  exact Heap.get?_none_of_le (Nat.le_trans I.ok.bsz I.ok.above)
theorem Inv.stkSub (I:Inv X pins σ H s):∀ b∈frs X.stack,b∈X.env.locals :: X.fs:=fun b hb=>by
 rcases I.ok.stk with e | ⟨e,hf⟩
 ·rw [e] at hb;exact List.mem_cons_of_mem _ hb
 ·rw [e] at hb
  unfold frs at hb
  rw [List.filterMap_cons,hf] at hb
  exact hb
theorem Inv.stkFree (I:Inv X pins σ H s):∀ b∈frs X.stack,H b = none:=fun b hb=>by
 rcases List.mem_cons.mp (I.stkSub b hb) with e | hb
 ·rw [e];exact I.free
 ·obtain ⟨_,o,ho,_⟩:=I.ok.funs.mem hb
  exact I.base.free b o ho (I.ok.frf b hb) fun z=>I.ok.exfs b z hb

theorem Inv.step {g':Array GenState} {t':Nat} {d':Drawn} {ch:List Addr} (I:Inv X pins σ H s)
  (hch:∀ b∈ch,(b∈X.ex∨X.s₀.heap.objs.size≤b)∧b≠X.env.locals∧(∀ x c,X.env.cells.lookup x = some c→c≠b)∧∀ p∈X.pn ++ pins,p.1≠b)
  (keep:∀ b o,b≠X.env.locals→b ∉ X.fs→b ∉ ch→s.heap.get? b = some o→H b = none→h'.get? b = some o)
  (slot:∀ b o,b≠X.env.locals→b∈X.fs→b ∉ ch→s.heap.get? b = some o→H b = none→∃ sl,h'.get? b = some { o with slots:=sl }) (free:∀ b o,b ∉ ch→s.heap.get? b = some o→H b = none→H' b = none)
  (there:∀ b o,b ∉ ch→s.heap.get? b = some o→∃ o',h'.get? b = some o')
  (tups:∀ b xs,H b = some (.tup xs)→H' b = some (.tup xs)) (frzs:∀ b o u,H b = some (.frz o u)→H' b = some (.frz o u)) (tbls:∀ b ps,H b = some (.tbl ps)→∃ more,H' b = some (.tbl (ps ++ more)))
  (ns:∀ m,s.heap.Ns X.env.locals m→h'.Ns X.env.locals m) (hok:HOk X.prog X.w H' h') (hg:AllBare g') :
  Inv X pins σ H' { s with heap:=h',gens:=g',drawn:=d',toks:=t' }:=by
 have neL:∀ b o,X.s₀.heap.get? b = some o→b≠X.env.locals:=fun b o e=>Nat.ne_of_lt (Nat.lt_of_lt_of_le (Heap.lt_size e) I.ok.above)
 have neC:∀ b o,X.s₀.heap.get? b = some o→b ∉ X.ex→b ∉ ch:=fun b o e hx hb=>by
  rcases (hch b hb).1 with z | z
  ·exact hx z
  ·exact absurd (Nat.lt_of_lt_of_le (Heap.lt_size e) z) (Nat.lt_irrefl _)
 have cellK:∀ x c,X.env.cells.lookup x = some c→∀ v,s.heap.IsCell c v→h'.IsCell c v:=fun x c e v ⟨o,ho,hd⟩=>by
  have nch:c ∉ ch:=fun z=>(hch c z).2.2.1 x c e rfl
  by_cases hc:c∈X.fs
  ·obtain ⟨sl,q⟩:=slot c o (I.cne x c e) hc nch ho (I.freeC x c e)
   exact ⟨_,q,hd⟩
  ·exact ⟨o,keep c o (I.cne x c e) hc nch ho (I.freeC x c e),hd⟩
 refine ⟨I.ok,I.os,hg,⟨fun b o e n hb hx=>?_,fun b o e n hb hx=>?_,fun b o e n hx=>?_,fun b o e hx=>?_,fun b xs e=>tups b xs (I.base.tups b xs e),fun b o xs e=>frzs b o xs (I.base.frzs b o xs e),fun b ps e=>?_⟩,?_,fun x c e=>?_,?_,fun x c e=>?_,fun p hp=>?_,hok,I.len⟩
 ·exact keep b o (neL b o e) hb (neC b o e hx) (I.base.keep b o e n hb hx) (I.base.free b o e n hx)
 ·obtain ⟨sl,e1⟩:=I.base.slot b o e n hb hx
  obtain ⟨sl',e2⟩:=slot b _ (neL b o e) hb (neC b o e hx) e1 (I.base.free b o e n hx)
  exact ⟨sl',e2⟩
 ·obtain ⟨o',e1⟩:=I.base.there b o e hx
  exact free b o' (neC b o e hx) e1 (I.base.free b o e n hx)
 ·obtain ⟨o',e1⟩:=I.base.there b o e hx
  exact there b o' (neC b o e hx) e1
 ·obtain ⟨m1,e1⟩:=I.base.tbls b ps e
  obtain ⟨m2,e2⟩:=tbls b _ e1
  exact ⟨m1 ++ m2,by rw [e2,Array.append_assoc]⟩
 ·obtain ⟨m,hn,hl⟩:=I.loc
  refine ⟨m,ns m hn,fun i x v e1 e2 e3=>?_⟩
  obtain ⟨u,r,l⟩:=hl i x v e1 e2 e3
  refine ⟨u,r,?_⟩
  rcases l with l | ⟨k,c,e,z⟩
  ·exact .inl l
  ·exact .inr ⟨k,c,e,cellK x c e _ z⟩
 ·obtain ⟨v,z⟩:=I.cell x c e
  exact ⟨v,cellK x c e v z⟩
 ·obtain ⟨m,⟨o,_,_,ho,_⟩,_⟩:=I.loc
  exact free _ o (fun z=>(hch _ z).2.1 rfl) ho I.free
 ·obtain ⟨v,o,ho,hd⟩:=I.cell x c e
  exact free c o (fun z=>(hch c z).2.2.1 x c e rfl) ho (I.freeC x c e)
 ·obtain ⟨e,n,ne,nf,d⟩:=I.pin p hp
  have nch:p.1 ∉ ch:=fun z=>(hch p.1 z).2.2.2 p hp rfl
  exact ⟨keep p.1 p.2 ne nf nch e n,free p.1 p.2 nch e n,ne,nf,d⟩
theorem Inv.un {t':Nat} (I:Inv X pins σ H s) (u:Un X.fs [] H H' s.heap h') (hok:HOk X.prog X.w H' h'):Inv X pins σ H' { s with heap:=h',toks:=t' }:=by
 obtain ⟨m,⟨o,es,ep,ho,r⟩,_⟩:=id I.loc
 obtain ⟨sl,hL⟩:=u.any ho I.free (by simp)
 exact I.step (g':=s.gens) (d':=s.drawn) (ch:=[]) (fun _ z=>nomatch z) (fun b o _ hb _ e n=>u.keep b o e n hb (by simp)) (fun b o _ hb _ e n=>u.slot b o e n hb (by simp)) (fun b o _ e n=>u.free b o e n (by simp)) (fun b o _ e=>u.there b o e (by simp)) u.tups u.frzs u.tbls (fun m' hm=>by
  obtain ⟨o',es',ep',ho',r'⟩:=hm
  rw [ho] at ho';cases ho'
  exact ⟨_,es',ep',hL,r'⟩) hok I.bare
theorem Inv.call {g':Array GenState} {t':Nat} {d':Drawn} {ch:List Addr} (I:Inv X pins σ H s) (u:Un (frs X.stack) ch H H' s.heap h') (hok:HOk X.prog X.w H' h') (hg:AllBare g')
  (hch:∀ b∈ch,(b∈X.ex∨X.s₀.heap.objs.size≤b)∧b≠X.env.locals∧(∀ x c,X.env.cells.lookup x = some c→c≠b)∧∀ p∈X.pn ++ pins,p.1≠b) :
  Inv X pins σ H' { s with heap:=h',gens:=g',drawn:=d',toks:=t' }:=by
 obtain ⟨m,⟨o,es,ep,ho,r⟩,_⟩:=id I.loc
 obtain ⟨sl,hL⟩:=u.any ho I.free fun z=>(hch _ z).2.1 rfl
 exact I.step (ch:=ch) hch (fun b o hL hb hc e n=>u.keep b o e n (fun z=>(List.mem_cons.mp (I.stkSub b z)).elim hL hb) hc) (fun b o _ _ hc e n=>u.any e n hc) (fun b o hc e n=>u.free b o e n hc) (fun b o hc e=>u.there b o e hc) u.tups u.frzs u.tbls (fun m' hm=>by
  obtain ⟨o',es',ep',ho',r'⟩:=hm
  rw [ho] at ho';cases ho'
  exact ⟨_,es',ep',hL,r'⟩) hok hg
theorem Inv.turned {t':Nat} {it:Addr} (I:Inv X pins σ H s) (k:∀ b o,b≠it→s.heap.get? b = some o→h'.get? b = some o) (hn:H it = none) (hL:it≠X.env.locals)
  (h1:it∈X.ex∨X.s₀.heap.objs.size≤it) (h2:∀ x c,X.env.cells.lookup x = some c→c≠it) (h3:∀ p∈X.pn ++ pins,p.1≠it):Inv X pins σ H { s with heap:=h',toks:=t' }:=by
 have nit:∀ b u,H b = some u→b≠it:=fun b u e z=>by rw [z,hn] at e;cases e
 refine I.step (g':=s.gens) (d':=s.drawn) (ch:=[it]) (fun b hb=>?_) (fun b o _ _ hc e _=>k b o (fun z=>hc (by simp [z])) e) (fun b o _ _ hc e _=>⟨o.slots,k b o (fun z=>hc (by simp [z])) e⟩) (fun _ _ _ _ n=>n)
  (fun b o hc e=>⟨o,k b o (fun z=>hc (by simp [z])) e⟩) (fun _ _ e=>e) (fun _ _ _ e=>e) (fun b ps e=>⟨#[],by rw [e];simp⟩) (fun m hm=>?_) (fun b u e=>?_) I.bare
 ·have e:b = it:=by simpa using hb
  subst e
  exact ⟨h1,hL,h2,h3⟩
 ·obtain ⟨o,es,ep,ho,r⟩:=hm
  exact ⟨o,es,ep,k _ o (Ne.symm hL) ho,r⟩
 ·refine (I.hok b u e).stay (fun c v hc q=>k c v ?_ q) (fun _ q=>q) fun _ _ q=>q
  rcases hc with z | z
  ·rw [z];exact nit b u e
  ·exact nit c _ z
theorem Inv.tok (I:Inv X pins σ H s) (t:Nat):Inv X pins σ H { s with toks:=t }:=I.un (h':=s.heap) (t':=t) Un.refl I.hok
theorem Inv.kept {t':Nat} (I:Inv X pins σ H s) (k:∀ b u,s.heap.get? b = some u→h'.get? b = some u):Inv X pins σ H { s with heap:=h',toks:=t' }:=I.un (Un.kept k) (I.hok.kept k)
theorem Inv.laid {a : Addr} {o : HO} {t' : Nat} (I : Inv X pins σ H s) (k : ∀ b u, s.heap.get? b = some u → h'.get? b = some u) (hp : s.heap.objs.size ≤ a) (new : ObjOk X.prog X.w (upd H a o) h' a o) :
    Inv X pins σ (upd H a o) { s with heap := h', toks := t' } := I.un (Un.laid k hp (I.hok.fresh hp)) (I.hok.laid k hp new)
theorem Inv.write {x e : Addr} {o : HO} {t' : Nat} (I : Inv X pins σ H s) (mu : Mut (H x)) (he : e = x ∨ H e = some (.own x)) (k : ∀ b u, b ≠ e → s.heap.get? b = some u → h'.get? b = some u) (heo : ∃ u, h'.get? e = some u)
    (new : ObjOk X.prog X.w (upd H x o) h' x o) : Inv X pins σ (upd H x o) { s with heap := h', toks := t' } := I.un (Un.write mu he k heo) (I.hok.write mu he k heo new)
theorem Inv.pins_of {pins':List (Addr×Obj)} (I:Inv X pins σ H s) (h:∀ p∈pins',s.heap.get? p.1 = some p.2∧H p.1 = none∧p.1≠X.env.locals∧p.1 ∉ X.fs∧∀ v,p.2.data≠.cell v):Inv X pins' σ H s :=
 ⟨I.ok,I.os,I.bare,I.base,I.loc,I.cell,I.free,I.freeC,fun p hp=>(List.mem_append.mp hp).elim (fun z=>I.pin p (List.mem_append_left _ z)) (h p),I.hok,I.len⟩

theorem nodup_ix {N:List Str} (hN:N.Nodup) {i j:Nat} {x:Str} (a:N[i]? = some x) (b:N[j]? = some x):i = j:=by
 obtain ⟨h1,e1⟩:=List.getElem?_eq_some_iff.mp a
 obtain ⟨h2,e2⟩:=List.getElem?_eq_some_iff.mp b
 exact (List.getElem_inj hN).mp (e1.trans e2.symm)

theorem store_ok2 {M:Model} {A:Around} {E:Value→Shared→Prop} {i:Nat} {x:Str} {v:V} {u:Value} {Q:Unit→Shared→Prop} (I:Inv X pins σ H s) (hN:X.N.Nodup) (hi:X.N[i]? = some x) (hx:Loc X.env.scope x) (r:RelV v u)
  (h:∀ s',Inv X pins (σ.set i (some v)) H s'→(∃ a,Heap.SameBut a s.heap s'.heap∧(a = X.env.locals∨X.env.cells.lookup x = some a))→Q () s') (hf:X.fn x = true∨X.env.scope.names.lookup x = some .local:=by first | exact .inl rfl | exact .inr rfl | assumption):wpAny M A (storeName X.env x u) Q E s:=by
 obtain ⟨m,hn,hl⟩:=id I.loc
 have hcls:(X.env.scope.kind == .class || (X.env.scope.kind == .module && X.env.locals != X.env.globals)) = false:=by rw [I.ok.kind];rfl
 have hiσ:i < σ.length:=by rw [I.len];exact (List.getElem?_eq_some_iff.mp hi).1
 have cne:=I.cne
 have tracked:∀ {a:Addr} {h':Heap},(∃ o,s.heap.get? a = some o∧H a = none)→Heap.SameBut a s.heap h'→HOk X.prog X.w H h':=fun {a h'} ha hs b ob e=>by
  obtain ⟨_,_,hfree⟩:=ha
  refine (I.hok b ob e).stay (fun c w' hc q=>(hs.2 c ?_).trans q) (fun _ q=>q) fun _ _ q=>q
  rintro rfl
  rcases hc with rfl | hc
  ·rw [hfree] at e;cases e
  ·rw [hfree] at hc;cases hc
 rcases hx with hk | hk
 ·refine wpAny_storeName_local hk hn (fun h' hn' hs=>?_) hcls
  obtain ⟨oL,_,_,hoL,_⟩:=id hn
  refine h _ ⟨I.ok,I.os,I.bare,⟨fun b o e n hb hx=>?_,fun b o e n hb hx=>?_,I.base.free,fun b o e hx=>?_,I.base.tups,I.base.frzs,I.base.tbls⟩,⟨_,hn',fun j y v' e1 e2 e3=>?_⟩,fun y c e=>?_,I.free,I.freeC,fun p hp=>?_,tracked ⟨oL,hoL,I.free⟩ hs,by simpa using I.len⟩ ⟨_,hs,.inl rfl⟩
  ·exact (hs.2 b (Nat.ne_of_lt (Nat.lt_of_lt_of_le (Heap.lt_size e) I.ok.above))).trans (I.base.keep b o e n hb hx)
  ·obtain ⟨sl,e1⟩:=I.base.slot b o e n hb hx
   exact ⟨sl,(hs.2 b (Nat.ne_of_lt (Nat.lt_of_lt_of_le (Heap.lt_size e) I.ok.above))).trans e1⟩
  ·obtain ⟨o',e1⟩:=I.base.there b o e hx
   exact ⟨o',(hs.2 b (Nat.ne_of_lt (Nat.lt_of_lt_of_le (Heap.lt_size e) I.ok.above))).trans e1⟩
  ·by_cases hj:j = i
   ·subst hj
    rw [hi] at e1;cases e1
    rw [List.getElem?_set_self hiσ] at e2
    cases e2
    exact ⟨u,r,.inl ⟨hk,by simp⟩⟩
   ·rw [List.getElem?_set_ne (Ne.symm hj)] at e2
    obtain ⟨u',r',q⟩:=hl j y v' e1 e2 e3
    refine ⟨u',r',?_⟩
    rcases q with ⟨k,e⟩ | ⟨k,c,e,z⟩
    ·refine .inl ⟨k,?_⟩
     have:y≠x:=fun e=>hj (nodup_ix hN e1 (e ▸ hi))
     simp [this,e]
    ·exact .inr ⟨k,c,e,z.sameBut hs (cne y c e)⟩
  ·obtain ⟨w',z⟩:=I.cell y c e
   exact ⟨w',z.sameBut hs (cne y c e)⟩
  ·obtain ⟨e,n,ne,nf,d⟩:=I.pin p hp
   exact ⟨(hs.2 p.1 ne).trans e,n,ne,nf,d⟩
 ·have hfn:X.fn x = true:=by
   rcases hf with z | z
   ·exact z
   ·rw [z] at hk;cases hk
  obtain ⟨c,hc⟩:=I.ok.has x (.inl hk)
  obtain ⟨w',z⟩:=I.cell x c hc
  refine wpAny_storeName_cell I.ok.kind hk hc z (fun h' hc' hs=>?_)
  obtain ⟨oc,hoc,hocd⟩:=id z
  refine h { s with heap:=h' } ⟨I.ok,I.os,I.bare,⟨fun b o e n hb hx=>?_,fun b o e n hb hx=>?_,I.base.free,fun b o e hx=>?_,I.base.tups,I.base.frzs,I.base.tbls⟩,⟨m,hn.sameBut hs (Ne.symm (cne x c hc)),fun j y v' e1 e2 e3=>?_⟩,fun y c' e=>?_,I.free,I.freeC,fun p hp=>?_,tracked ⟨oc,hoc,I.freeC x c hc⟩ hs,by simpa using I.len⟩ ⟨c,hs,.inr hc⟩
  ·exact (hs.2 b (Nat.ne_of_lt (Nat.lt_of_lt_of_le (Heap.lt_size e) (I.ok.cab x c hfn hc)))).trans (I.base.keep b o e n hb hx)
  ·obtain ⟨sl,e1⟩:=I.base.slot b o e n hb hx
   exact ⟨sl,(hs.2 b (Nat.ne_of_lt (Nat.lt_of_lt_of_le (Heap.lt_size e) (I.ok.cab x c hfn hc)))).trans e1⟩
  ·obtain ⟨o',e1⟩:=I.base.there b o e hx
   exact ⟨o',(hs.2 b (Nat.ne_of_lt (Nat.lt_of_lt_of_le (Heap.lt_size e) (I.ok.cab x c hfn hc)))).trans e1⟩
  ·by_cases hj:j = i
   ·subst hj
    rw [hi] at e1;cases e1
    rw [List.getElem?_set_self hiσ] at e2
    cases e2
    exact ⟨u,r,.inr ⟨.inl hk,c,hc,hc'⟩⟩
   ·rw [List.getElem?_set_ne (Ne.symm hj)] at e2
    obtain ⟨u',r',q⟩:=hl j y v' e1 e2 e3
    refine ⟨u',r',?_⟩
    rcases q with q | ⟨k,c',e,z'⟩
    ·exact .inl q
    ·refine .inr ⟨k,c',e,z'.sameBut hs ?_⟩
     rintro rfl
     exact hj (nodup_ix hN e1 (I.ok.inj _ _ _ e hc ▸ hi))
  ·by_cases hcc:c' = c
   ·subst hcc;exact ⟨_,hc'⟩
   ·obtain ⟨w2,z2⟩:=I.cell y c' e
    exact ⟨w2,z2.sameBut hs hcc⟩
  ·obtain ⟨e,n,ne,nf,d⟩:=I.pin p hp
   refine ⟨(hs.2 p.1 ?_).trans e,n,ne,nf,d⟩
   intro q
   rw [q,hoc] at e
   have q':oc = p.2:=Option.some.inj e
   exact d w' (by rw [← q'];exact hocd)
theorem store_ok {M:Model} {A:Around} {E:Value→Shared→Prop} {i:Nat} {x:Str} {v:V} {u:Value} {Q:Unit→Shared→Prop} (I:Inv X pins σ H s) (hN:X.N.Nodup) (hi:X.N[i]? = some x) (hx:Loc X.env.scope x) (r:RelV v u)
  (h:∀ s',Inv X pins (σ.set i (some v)) H s'→Q () s') (hf:X.fn x = true∨X.env.scope.names.lookup x = some .local:=by first | exact .inl rfl | exact .inr rfl | assumption):wpAny M A (storeName X.env x u) Q E s :=
 store_ok2 I hN hi hx r (fun s' I' _=>h s' I') hf
theorem Inv.call' {s':Shared} {ch:List Addr} (I:Inv X pins σ H s) (ho:s'.os = s.os) (u:Un (frs X.stack) ch H H' s.heap s'.heap) (hok:HOk X.prog X.w H' s'.heap) (hg:AllBare s'.gens)
  (hch:∀ b∈ch,(b∈X.ex∨X.s₀.heap.objs.size≤b)∧b≠X.env.locals∧(∀ x c,X.env.cells.lookup x = some c→c≠b)∧∀ p∈X.pn ++ pins,p.1≠b):Inv X pins σ H' s':=by
 obtain ⟨h',g',d',t',o'⟩:=s'
 have e:o' = s.os:=ho
 subst e
 exact I.call (g':=g') (t':=t') (d':=d') u hok hg hch
end

noncomputable abbrev XK:=Value→Option Addr→Hp→Prop
noncomputable abbrev St:=List (Option V)
noncomputable abbrev VK:=V→Hp→Prop
noncomputable abbrev TE:=St→Hp→VK→Prop
noncomputable abbrev TT:=St→Hp→(Bool→Hp→Prop)→Prop
noncomputable abbrev TA:=St→Hp→(List V→Hp→Prop)→Prop
structure Ends where
 nx:St→Hp→Prop
 rt:VK
 bk:St→Hp→Prop:=fun _ _=>False
 ct:St→Hp→Prop:=fun _ _=>False
noncomputable abbrev TS:=Ends→St→Hp→Prop

noncomputable def EP (X:Cx) (pins:List (Addr×Obj)) (σ:St) (Q:VK) (u:Value) (s':Shared):Prop:=∃ v H',Inv X pins σ H' s'∧RelV v u∧Q v H'
noncomputable def TP (X:Cx) (pins:List (Addr×Obj)) (σ:St) (Q:Bool→Hp→Prop) (b:Bool) (s':Shared):Prop:=∃ H',Inv X pins σ H' s'∧Q b H'
noncomputable def AP (X:Cx) (pins:List (Addr×Obj)) (σ:St) (Q:List V→Hp→Prop) (us:List Value) (s':Shared):Prop:=∃ vs H',Inv X pins σ H' s'∧Vals vs us∧Q vs H'
noncomputable def SP (X:Cx) (pins:List (Addr×Obj)) (D:Ends) (f:Flow) (s':Shared):Prop :=
 match f with
 | .next=>∃ σ' H',Inv X pins σ' H' s'∧D.nx σ' H'
 | .brk=>∃ σ' H',Inv X pins σ' H' s'∧D.bk σ' H'
 | .cont=>∃ σ' H',Inv X pins σ' H' s'∧D.ct σ' H'
 | .ret u=>∃ v σ' H',Inv X pins σ' H' s'∧RelV v u∧D.rt v H'

noncomputable def PE (X:Cx) (e:Expr) (t:TE):Prop :=
 ∀ (pins:List (Addr×Obj)) (s:Shared) (σ:St) (H:Hp) (Q:VK),Inv X pins σ H s→t σ H Q→wpAny (model X.prog X.w) X.A (eval e X.env) (EP X pins σ Q) X.xe s
noncomputable def PT (X:Cx) (e:Expr) (t:TT):Prop :=
 ∀ (pins:List (Addr×Obj)) (s:Shared) (σ:St) (H:Hp) (Q:Bool→Hp→Prop),Inv X pins σ H s→t σ H Q→wpAny (model X.prog X.w) X.A (isTrue e X.env (eval e X.env)) (TP X pins σ Q) X.xe s
noncomputable def PW (X:Cx) (e:Expr) (t:TT):Prop :=
 ∀ (whole:Sem Value) (pins:List (Addr×Obj)) (s:Shared) (σ:St) (H:Hp) (Q:Bool→Hp→Prop),Inv X pins σ H s→t σ H Q→wpAny (model X.prog X.w) X.A (isTrue e X.env whole) (TP X pins σ Q) X.xe s
theorem PW.pt {X:Cx} {e:Expr} {t:TT} (h:PW X e t):PT X e t:=h _
noncomputable def PA (X:Cx) (es:List Expr) (t:TA):Prop :=
 ∀ (pos:Pos) (pins:List (Addr×Obj)) (s:Shared) (σ:St) (H:Hp) (Q:List V→Hp→Prop),Inv X pins σ H s→t σ H Q→wpAny (model X.prog X.w) X.A (spliced (backTo pos (starEach es X.env))) (AP X pins σ Q) X.xe s
noncomputable def PS (X:Cx) (st:Stmt) (t:TS):Prop :=
 ∀ (pins:List (Addr×Obj)) (s:Shared) (σ:St) (H:Hp) (D:Ends),Inv X pins σ H s→t D σ H→wpAny (model X.prog X.w) X.A (exec st X.env) (SP X pins D) X.xe s
noncomputable def PSs (X:Cx) (st:List Stmt) (t:TS):Prop :=
 ∀ (pins:List (Addr×Obj)) (s:Shared) (σ:St) (H:Hp) (D:Ends),Inv X pins σ H s→t D σ H→wpAny (model X.prog X.w) X.A (execs st X.env) (SP X pins D) X.xe s
theorem thn {α:Type} {t:Sem α} {Q Q':α→Shared→Prop} {M:Model} {A:Around} {E:Value→Shared→Prop} {s:Shared} (h:wpAny M A t Q E s) (hQ:∀ a s,Q a s→Q' a s):wpAny M A t Q' E s:=wpAny_mono h hQ fun _ _ x=>x
end L2

namespace L2
open PySem PySem.Spec PyProof.Rows
section
variable {X:Cx}

noncomputable def tVar (i:Nat):TE:=fun σ H Q=>∃ v,σ[i]? = some (some v)∧Q v H
noncomputable def tC (v:V):TE:=fun _ H Q=>Q v H
theorem pe_var {i:Nat} {x:Str} {pos:Pos} (hN:X.N[i]? = some x) (hv:Vis X.env.scope x) (hd:(x == ("__debug__":Str)) = false:=by decide) (hcd:(x == ("__classdict__":Str)) = false:=by decide):PE X (.Name x pos) (tVar i):=by
 intro pins s σ H Q I h
 obtain ⟨v,e,h⟩:=h
 obtain ⟨m,hn,hl⟩:=I.loc
 obtain ⟨u,r,l⟩:=hl i x v hN e hv
 have fin:EP X pins σ Q u s:=⟨v,H,I,r,h⟩
 rcases l with ⟨hk,hm⟩ | ⟨hk,c,hc,hcell⟩
 ·exact wpAny_Name (wpAny_loadName_local I.ok.kind hk hn hm fin) hd
 ·rcases hk with hk | hk
  ·exact wpAny_Name (wpAny_loadName_cell I.ok.kind hk hc hcell fin) hd
  ·exact wpAny_Name (wpAny_loadName_free I.ok.kind hk hc hcell fin hcd) hd
theorem pe_int {i j pos}:PE X (.Constant (.int i) j pos) (tC (.int i)):=fun _ _ _ H _ I h=>wpAny_Constant_int ⟨.int i,H,I.tok _,⟨_,rfl⟩,h⟩
theorem pe_bl {b j pos}:PE X (.Constant (.bool b) j pos) (tC (.bl b)):=fun _ _ _ H _ I h=>Constant_bool ⟨.bl b,H,I,rfl,h⟩
theorem pe_non {j pos}:PE X (.Constant .none j pos) (tC .non):=fun _ _ _ H _ I h=>Constant_none ⟨.non,H,I,rfl,h⟩
theorem pe_str {x j pos}:PE X (.Constant (.str x) j pos) (tC (.str x)):=fun _ _ _ H _ I h=>Calls.Constant_str ⟨.str x,H,I.tok _,⟨_,rfl⟩,h⟩

noncomputable def Gl (X:Cx) (x:Str):Prop:=X.env.kindOf x = some .globalImplicit
theorem ld_glob {E:Value→Shared→Prop} {pins:List (Addr×Obj)} {s:Shared} {σ:St} {H:Hp} {x:Str} {u:Value} {pos:Pos} {Q:Value→Shared→Prop} (I:Inv X pins σ H s) (hg:Gl X x) (hm:X.mg x = some u) (h:Q u s)
  (hd:(x == ("__debug__":Str)) = false:=by decide):wpAny (model X.prog X.w) X.A (eval (.Name x pos) X.env) Q E s :=
 Calls.Name_function_global I.ok.kind hg (Calls.loadGlobal_global (by rw [I.ok.glob];exact I.mod.glob.keeps I.bk) hm h) hd
theorem ld_blt {E:Value→Shared→Prop} {pins:List (Addr×Obj)} {s:Shared} {σ:St} {H:Hp} {x:Str} {u:Value} {pos:Pos} {Q:Value→Shared→Prop} (I:Inv X pins σ H s) (hg:Gl X x) (hm:X.mg x = none) (hv:bootBuiltins x = some u) (h:Q u s)
  (hn:x≠"__name__":=by decide) (hd:(x == ("__debug__":Str)) = false:=by decide):wpAny (model X.prog X.w) X.A (eval (.Name x pos) X.env) Q E s:=by
 obtain ⟨mb,h1,h2⟩:=I.mod.blt
 exact Calls.Name_function_global I.ok.kind hg (Calls.loadGlobal_builtin (by rw [I.ok.glob];exact I.mod.glob.keeps I.bk) hm (by rw [I.ok.blt];exact h1.keeps I.bk) ((h2 x hn).trans hv) h) hd
theorem pe_bltn {x:Str} {v:V} {u:Value} {pos:Pos} (hg:Gl X x) (hm:X.mg x = none) (hv:bootBuiltins x = some u) (r:RelV v u) (hn:x≠"__name__":=by decide) (hd:(x == ("__debug__":Str)) = false:=by decide):PE X (.Name x pos) (tC v) :=
 fun _ _ _ H _ I h=>ld_blt I hg hm hv ⟨v,H,I,r,h⟩ hn hd

variable {a b:Expr} {ta tb:TE} {pos:Pos}
noncomputable def PC (X:Cx) (op:CmpOp) (a b:Expr) (t:TE):Prop :=
 ∀ (pins:List (Addr×Obj)) (s:Shared) (σ:St) (H:Hp) (Q:VK),Inv X pins σ H s→t σ H Q →
  wpAny (model X.prog X.w) X.A (eval a X.env) (fun v s₁=>wpAny (model X.prog X.w) X.A (eval b X.env) (fun u s₂=>wpAny (model X.prog X.w) X.A (compareOp op v u) (EP X pins σ Q) X.xe s₂) X.xe s₁) X.xe s
noncomputable def tB (t:TE):TT:=fun σ H Q=>t σ H fun x H1=>∃ c,x = .bl c∧Q c H1
theorem pt_cmp {op:CmpOp} {t:TE} (h:PC X op a b t) (h1:behindInMarks op b = false:=by first | exact nobehind _ (by decide) (by decide) | rfl):PT X (.Compare a [op] [b] pos) (tB t):=by
 intro pins s σ H Q I hw
 refine wpAny_isTrue_Compare1 (thn (h pins s σ H _ I hw) fun v s1 h1=>thn h1 fun u s2 h2=>thn h2 fun c s3 ⟨x,H1,I1,r1,q1⟩=>?_) h1
 obtain ⟨d,rfl,q⟩:=q1
 cases r1
 exact wpAny_truthy_bool ⟨H1,I1,q⟩
theorem pt_val {e:Expr} {t:TE} (h:PE X e t) (he:∀ whole,isTrue e X.env whole = (do let v ← whole;standAt e.pos;holding [v] (truthy v)):=by intro _;rfl):PT X e (tB t):=by
 intro pins s σ H Q I hw
 refine isTrue_plain (thn (h pins s σ H _ I hw) fun v s1 ⟨x,H1,I1,r1,q1⟩=>?_) (he _)
 obtain ⟨d,rfl,q⟩:=q1
 cases r1
 exact wpAny_truthy_bool ⟨H1,I1,q⟩

variable {tA tB':TT} {rest:List Expr}
noncomputable def tAnd (t u:TT):TT:=fun σ H Q=>t σ H fun c H1=>if c = true then u σ H1 Q else Q false H1
noncomputable def tOr (t u:TT):TT:=fun σ H Q=>t σ H fun c H1=>if c = true then Q true H1 else u σ H1 Q
noncomputable def tNot (t:TT):TT:=fun σ H Q=>t σ H fun c H1=>Q (!c) H1
theorem pw_and1 (ha:PT X a tA):PW X (.BoolOp .And [a] pos) tA:=by
 intro wh pins s σ H Q I h
 refine isTrue_and (thn (ha pins s σ H Q I h) fun c s1 e=>?_)
 cases c with
 | true=>exact isTrue_and_nil e
 | false=>exact e
theorem pw_or1 (ha:PT X a tA):PW X (.BoolOp .Or [a] pos) tA:=by
 intro wh pins s σ H Q I h
 refine isTrue_or (thn (ha pins s σ H Q I h) fun c s1 e=>?_)
 cases c with
 | false=>exact isTrue_or_nil e
 | true=>exact e
theorem pw_and (ha:PT X a tA) (hb:PW X (.BoolOp .And (b :: rest) pos) tB'):PW X (.BoolOp .And (a :: b :: rest) pos) (tAnd tA tB'):=by
 intro wh pins s σ H Q I h
 refine isTrue_and (thn (ha pins s σ H _ I h) fun c s1 ⟨H1,I1,q1⟩=>?_)
 cases c with
 | true=>exact hb wh pins s1 σ H1 Q I1 q1
 | false=>exact ⟨H1,I1,q1⟩
theorem pw_or (ha:PT X a tA) (hb:PW X (.BoolOp .Or (b :: rest) pos) tB'):PW X (.BoolOp .Or (a :: b :: rest) pos) (tOr tA tB'):=by
 intro wh pins s σ H Q I h
 refine isTrue_or (thn (ha pins s σ H _ I h) fun c s1 ⟨H1,I1,q1⟩=>?_)
 cases c with
 | true=>exact ⟨H1,I1,q1⟩
 | false=>exact hb wh pins s1 σ H1 Q I1 q1
theorem pt_not (ha:PT X a tA):PT X (.UnaryOp .Not a pos) (tNot tA):=by
 intro pins s σ H Q I h
 exact isTrue_not (ha pins s σ H (fun c H1=>Q (!c) H1) I h)
noncomputable def tAndV (ta tb:TE):TE:=fun σ H Q=>ta σ H fun x H1=>∃ c,x = .bl c∧if c = true then tb σ H1 Q else Q (.bl false) H1
theorem pe_one {op} {t:TE} (h:PE X a t):PE X (.BoolOp op [a] pos) t:=fun pins s σ H Q I hw=>BoolOp_one (h pins s σ H Q I hw)
theorem pe_and (ha:PE X a ta) (hb:PE X (.BoolOp .And (b :: rest) pos) tb):PE X (.BoolOp .And (a :: b :: rest) pos) (tAndV ta tb):=by
 intro pins s σ H Q I h
 refine BoolOp_and (thn (ha pins s σ H _ I h) fun v s1 ⟨x,H1,I1,r1,q1⟩=>?_)
 obtain ⟨c,rfl,q1⟩:=q1
 cases r1
 refine wpAny_truthy_bool ?_
 cases c with
 | true=>exact hb pins s1 σ H1 Q I1 q1
 | false=>exact ⟨.bl false,H1,I1,rfl,q1⟩
noncomputable def tIf (t:TT) (ta tb:TE):TE:=fun σ H Q=>t σ H fun c H1=>if c = true then ta σ H1 Q else tb σ H1 Q
theorem pe_ifExp {c:Expr} (hc:PT X c tA) (ha:PE X a ta) (hb:PE X b tb):PE X (.IfExp c a b pos) (tIf tA ta tb):=by
 intro pins s σ H Q I h
 refine wpAny_IfExp (thn (hc pins s σ H _ I h) fun d s1 ⟨H1,I1,q1⟩=>?_)
 cases d with
 | true=>exact ha pins s1 σ H1 Q I1 q1
 | false=>exact hb pins s1 σ H1 Q I1 q1
end
end L2

namespace L2
open PySem PySem.Spec PyProof.Rows

noncomputable def SqL (K:PySem.W.Frag) (H:Hp) (a:Addr) (xs:List V):Prop :=
 Rd H a (.lst xs) ∨
  ∃ (o:Obj) (its:Array Value) (n:Nat),K.lookup a = some o∧o.cls = .type "list"∧o.dict = none∧o.data = .seq its n∧its.size≤sizeLine∧Vals xs its.toList
noncomputable def SqT (K:PySem.W.Frag) (H:Hp) (a:Addr) (xs:List V):Prop :=
 Rd H a (.tup xs) ∨
  ∃ (o:Obj) (its:Array Value) (n:Nat),K.lookup a = some o∧o.cls = .type "tuple"∧o.data = .seq its n∧its.size≤sizeLine∧Vals xs its.toList
noncomputable def absV:Value→Option V
 | .none=>some .non
 | .bool b=>some (.bl b)
 | .int i _=>some (.int i)
 | .str x _=>some (.str x)
 | .bytes b _=>some (.byt b)
 | .float b _=>some (.flt b)
 | .ref a=>some (.ref a)
 | .type n=>some (.ty n)
 | _=>none
theorem RelV.abs {x:V} {u:Value} (r:RelV x u):absV u = some x:=by
 cases x with
 | non=>cases r;rfl
 | bl _=>cases r;rfl
 | int _=>obtain ⟨t,rfl⟩:=r;rfl
 | str _=>obtain ⟨t,rfl⟩:=r;rfl
 | byt _=>obtain ⟨t,rfl⟩:=r;rfl
 | flt _=>obtain ⟨t,rfl⟩:=r;rfl
 | ref _=>cases r;rfl
 | ty _=>cases r;rfl
theorem RelV.inj {x y:V} {u:Value} (r:RelV x u) (q:RelV y u):x = y:=Option.some.inj (r.abs.symm.trans q.abs)
theorem Vals.inj:∀ {xs ys:List V} {us:List Value},Vals xs us→Vals ys us→xs = ys
 | _,_,_,.nil,.nil=>rfl
 | _,_,_,.cons r t,.cons r' t'=>by rw [r.inj r',Vals.inj t t']
section
variable {X:Cx} {pins:List (Addr×Obj)} {σ:St} {H:Hp} {s:Shared} {a:Addr} {xs ys:List V}
theorem SqL.of {K:PySem.W.Frag} (h:H a = some (.lst xs)):SqL K H a xs:=.inl (.inl h)
theorem SqT.of {K:PySem.W.Frag} (h:H a = some (.tup xs)):SqT K H a xs:=.inl (.inl h)
theorem Inv.list (I:Inv X pins σ H s) (h:SqL X.K H a xs):∃ its:List Value,Vals xs its∧PlainL s.heap a its.toArray∧xs.length≤sizeLine:=by
 rcases h with h | ⟨o,its,n,hk,hc,hd,hs,hz,r⟩
 ·obtain ⟨z,its,n,r,e⟩:=h.ok I.hok
  exact ⟨its,r,⟨_,n,e,rfl,rfl,rfl⟩,z⟩
 ·refine ⟨its.toList,r,⟨o,n,I.kIn a o hk,hc,hd,by simpa using hs⟩,?_⟩
  have e:=r.length
  simp only [Array.length_toList] at e
  omega
theorem Inv.tuple (I:Inv X pins σ H s) (h:SqT X.K H a xs):∃ its:List Value,Vals xs its∧IsTup s.heap a its.toArray∧xs.length≤sizeLine:=by
 rcases h with h | ⟨o,its,n,hk,hc,hs,hz,r⟩
 ·obtain ⟨z,its,r,p⟩:=h.ok I.hok
  exact ⟨its,r,p,z⟩
 ·refine ⟨its.toList,r,⟨o,I.kIn a o hk,hc,n,by simpa using hs⟩,?_⟩
  have e:=r.length
  simp only [Array.length_toList] at e
  omega
theorem Inv.list_inj (I:Inv X pins σ H s) (h:SqL X.K H a xs) (h':SqL X.K H a ys):xs = ys:=by
 obtain ⟨its,r,⟨o,n,e,_,_,d⟩,_⟩:=I.list h
 obtain ⟨its',r',⟨o',n',e',_,_,d'⟩,_⟩:=I.list h'
 rw [e] at e';cases e'
 rw [d] at d'
 injection d' with d1 _
 have:its = its':=by simpa using congrArg Array.toList d1
 subst this
 exact r.inj r'
theorem Inv.tuple_inj (I:Inv X pins σ H s) (h:SqT X.K H a xs) (h':SqT X.K H a ys):xs = ys:=by
 obtain ⟨its,r,⟨o,e,_,n,d⟩,_⟩:=I.tuple h
 obtain ⟨its',r',⟨o',e',_,n',d'⟩,_⟩:=I.tuple h'
 rw [e] at e';cases e'
 rw [d] at d'
 injection d' with d1 _
 have:its = its':=by simpa using congrArg Array.toList d1
 subst this
 exact r.inj r'
end

noncomputable abbrev Cx.wish (X:Cx) (E:Value→Shared→Prop):Cx:={ X with xe:=E }
noncomputable abbrev Cx.nox (X:Cx):Cx:=X.wish fun _ _=>False
theorem Cx.Ok.wish {X:Cx} (ok:X.Ok) (E:Value→Shared→Prop):(X.wish E).Ok :=
 ⟨ok.mod,ok.kind,ok.glob,ok.blt,ok.above,ok.inj,ok.has,ok.cab,ok.hd,ok.frames,ok.stk,ok.exf,ok.bs,ok.bsz,ok.noex,ok.exfs,ok.funs,ok.frf⟩
theorem Cx.Ok.unwish {X:Cx} {E:Value→Shared→Prop} (ok:(X.wish E).Ok):X.Ok :=
 ⟨ok.mod,ok.kind,ok.glob,ok.blt,ok.above,ok.inj,ok.has,ok.cab,ok.hd,ok.frames,ok.stk,ok.exf,ok.bs,ok.bsz,ok.noex,ok.exfs,ok.funs,ok.frf⟩
section
variable {X:Cx} {pins:List (Addr×Obj)} {σ:St} {H:Hp} {s:Shared} {E:Value→Shared→Prop}
theorem Inv.wish (I:Inv X pins σ H s) (E:Value→Shared→Prop):Inv (X.wish E) pins σ H s:=⟨I.ok.wish E,I.os,I.bare,I.base,I.loc,I.cell,I.free,I.freeC,I.pin,I.hok,I.len⟩
theorem Inv.unwish (I:Inv (X.wish E) pins σ H s):Inv X pins σ H s:=⟨I.ok.unwish,I.os,I.bare,I.base,I.loc,I.cell,I.free,I.freeC,I.pin,I.hok,I.len⟩
theorem SP.unwish {D:Ends} {f:Flow} {s':Shared} (h:SP (X.wish E) pins D f s'):SP X pins D f s':=by
 cases f with
 | next=>obtain ⟨σ',H',I,q⟩:=h;exact ⟨σ',H',I.unwish,q⟩
 | brk=>obtain ⟨σ',H',I,q⟩:=h;exact ⟨σ',H',I.unwish,q⟩
 | cont=>obtain ⟨σ',H',I,q⟩:=h;exact ⟨σ',H',I.unwish,q⟩
 | ret u=>obtain ⟨v,σ',H',I,r,q⟩:=h;exact ⟨v,σ',H',I.unwish,r,q⟩
theorem PSs.nox {st:List Stmt} {t:TS} (h:PSs X.nox st t):PSs X st t:=fun pins s σ H D I hw =>
 wpAny_mono (h pins s σ H D (I.wish _) hw) (fun _ _ q=>q.unwish) fun _ _ z=>False.elim z
end

section
variable {X:Cx} {st:Stmt} {rest:List Stmt} {t u:TS} {e:Expr} {te:TE} {pos:Pos}
noncomputable def tNext:TS:=fun D σ H=>D.nx σ H
noncomputable def tSeq (t u:TS):TS:=fun D σ H=>t { D with nx:=u D } σ H
theorem pss_nil:PSs X [] tNext:=fun _ _ σ H _ I h=>wpAny_execs_nil ⟨σ,H,I,h⟩
theorem pss_cons (h1:PS X st t) (h2:PSs X rest u):PSs X (st :: rest) (tSeq t u):=by
 intro pins s σ H D I h
 refine wpAny_execs_cons (thn (h1 pins s σ H { D with nx:=u D } I h) fun f s1 q=>?_)
 cases f with
 | next =>
  obtain ⟨σ',H',I',q⟩:=q
  exact h2 pins s1 σ' H' D I' q
 | ret v=>exact q
 | brk=>exact q
 | cont=>exact q
theorem pss_one (h1:PS X st t):PSs X [st] t:=by
 intro pins s σ H D I h
 refine wpAny_execs_cons (thn (h1 pins s σ H D I h) fun f s1 q=>?_)
 cases f with
 | next=>exact wpAny_execs_nil q
 | ret v=>exact q
 | brk=>exact q
 | cont=>exact q
theorem Inv.quiet {pins:List (Addr×Obj)} {σ:St} {H:Hp} {s:Shared} (I:Inv X pins σ H s):interactive X.env = false:=by simp [interactive,I.ok.kind]
noncomputable def tDrop (te:TE):TS:=fun D σ H=>te σ H fun _ H1=>D.nx σ H1
theorem ps_expr (he:PE X e te) (hs:swapsWith e none pos.line X.env = pure false:=by rfl):PS X (.Expr e pos) (tDrop te):=by
 intro pins s σ H D I h
 exact wpAny_Expr_any (thn (he pins s σ H _ I h) fun v s1 ⟨x,H1,I1,r1,q1⟩=>⟨σ,H1,I1,q1⟩) I.quiet hs
noncomputable def tRet (te:TE):TS:=fun D σ H=>te σ H D.rt
theorem ps_ret (he:PE X e te):PS X (.Return (some e) pos) (tRet te):=by
 intro pins s σ H D I h
 exact wpAny_Return_some (thn (he pins s σ H _ I h) fun v s1 ⟨x,H1,I1,r1,q1⟩=>⟨x,σ,H1,I1,r1,q1⟩)
noncomputable def tRetN:TS:=fun D _ H=>D.rt .non H
theorem ps_retN:PS X (.Return none pos) tRetN:=fun _ _ σ H _ I h=>wpAny_Return_none ⟨.non,σ,H,I,rfl,h⟩
noncomputable def tIfS (c:TT) (t u:TS):TS:=fun D σ H=>c σ H fun b H1=>if b = true then t D σ H1 else u D σ H1
theorem ps_if {c:Expr} {a b:List Stmt} {tc:TT} (hc:PT X c tc) (ha:PSs X a t) (hb:PSs X b u):PS X (.If c a b pos) (tIfS tc t u):=by
 intro pins s σ H D I h
 refine wpAny_If (thn (hc pins s σ H _ I h) fun d s1 ⟨H1,I1,q1⟩=>?_)
 cases d with
 | true=>exact ha pins s1 σ H1 D I1 q1
 | false=>exact hb pins s1 σ H1 D I1 q1
end

noncomputable abbrev TG:=V→St→Hp→(St→Hp→Prop)→Prop
noncomputable abbrev TGs:=List V→St→Hp→(St→Hp→Prop)→Prop
noncomputable def PG (X:Cx) (target:Expr) (t:TG):Prop :=
 ∀ (pins:List (Addr×Obj)) (s:Shared) (σ:St) (H:Hp) (v:V) (u:Value) (Q:St→Hp→Prop),Inv X pins σ H s→RelV v u→t v σ H Q →
  wpAny (model X.prog X.w) X.A (assign target X.env u) (fun _ s'=>∃ σ' H',Inv X pins σ' H' s'∧Q σ' H') X.xe s
noncomputable def PGs (X:Cx) (ts:List Expr) (t:TGs):Prop :=
 ∀ (pins:List (Addr×Obj)) (s:Shared) (σ:St) (H:Hp) (vs:List V) (us:List Value) (Q:St→Hp→Prop),Inv X pins σ H s→Vals vs us→t vs σ H Q →
  wpAny (model X.prog X.w) X.A (assignInOrder ((assignEach ts X.env).map (·.2)) us) (fun _ s'=>∃ σ' H',Inv X pins σ' H' s'∧Q σ' H') X.xe s
noncomputable abbrev TSet:=V→V→V→Hp→(Hp→Prop)→Prop
noncomputable def PSet (X:Cx) (t:TSet):Prop :=
 ∀ (pins:List (Addr×Obj)) (s:Shared) (σ:St) (H:Hp) (o i v:V) (ov iv u:Value) (Q:Hp→Prop),Inv X pins σ H s→RelV o ov→RelV i iv→RelV v u→t o i v H Q →
  wpAny (model X.prog X.w) X.A (setItem ov iv u) (fun _ s'=>∃ H',Inv X pins σ H' s'∧Q H') X.xe s
section
variable {X:Cx} {pos:Pos}
noncomputable def gName (i:Nat):TG:=fun v σ H Q=>Q (σ.set i (some v)) H
theorem pg_name {i:Nat} {x:Str} (hN:X.N.Nodup) (hi:X.N[i]? = some x) (hx:Loc X.env.scope x) (hf:X.fn x = true∨X.env.scope.names.lookup x = some .local:=by first | exact .inl rfl | exact .inr rfl | assumption):PG X (.Name x pos) (gName i):=by
 intro pins s σ H v u Q I r h
 exact wpAny_assign_Name (store_ok I hN hi hx r (fun s' I'=>⟨_,H,I',h⟩) hf)
noncomputable def gNil:TGs:=fun vs σ H Q=>vs = []∧Q σ H
noncomputable def gCons (t:TG) (u:TGs):TGs:=fun vs σ H Q=>∃ v r,vs = v :: r∧t v σ H fun σ' H'=>u r σ' H' Q
theorem pgs_nil:PGs X [] gNil:=by
 intro pins s σ H vs us Q I r h
 obtain ⟨e,h⟩:=h
 subst e
 cases r
 exact assignInOrder_nil ⟨σ,H,I,h⟩
theorem pgs_cons {e:Expr} {es:List Expr} {t:TG} {u:TGs} (h1:PG X e t) (h2:PGs X es u)
  (hs:(assignEach (e :: es) X.env).map (·.2) = assign e X.env :: (assignEach es X.env).map (·.2):=by rfl):PGs X (e :: es) (gCons t u):=by
 intro pins s σ H vs us Q I r h
 obtain ⟨v,vr,e1,h⟩:=h
 subst e1
 cases r with
 | cons r rr =>
  rw [hs]
  refine assignInOrder_cons (thn (h1 pins s σ H _ _ _ I r h) fun _ s1 ⟨σ1,H1,I1,q1⟩=>?_)
  exact h2 pins s1 σ1 H1 _ _ Q I1 rr q1
noncomputable def gTup (K:PySem.W.Frag) (n:Nat) (t:TGs):TG:=fun v σ H Q=>∃ a xs,v = .ref a∧SqT K H a xs∧xs.length = n∧t xs σ H Q
theorem pg_tup {es:List Expr} {k:Nat} {t:TGs} {n:Nat} (hc:X.calm = true) (h:PGs X es t)
  (hn:(assignEach es X.env).length = n:=by rfl) (hst:(assignEach es X.env).findIdx? (·.1) = none:=by rfl):PG X (.Tuple es k pos) (gTup X.K n t):=by
 intro pins s σ H v u Q I r hw
 obtain ⟨a,xs,e1,hq,hl,hw⟩:=hw
 subst e1
 cases r
 obtain ⟨its,rv,ht,hz⟩:=I.tuple hq
 refine assign_Tuple_tuple (I.ok.hd hc) ht (by simp [hn,← hl,rv.length]) hst fun h' hx=>?_
 have I1:Inv X pins σ H { s with heap:=h' }:=I.kept (t':=s.toks) fun b o e=>hx b o (Nat.ne_of_lt (Heap.lt_size e)) e
 exact h pins _ σ H xs _ Q I1 (by simpa using rv) hw
noncomputable def gSub (to ti:TE) (t:TSet):TG:=fun v σ H Q=>to σ H fun o H1=>ti σ H1 fun i H2=>t o i v H2 fun H3=>Q σ H3
theorem pg_sub {o i:Expr} {to ti:TE} {t:TSet} (ho:PE X o to) (hi:PE X i ti) (hs:PSet X t)
  (ha:∀ v,assign (.Subscript o i pos) X.env v = (do
   let ov ← holding [v] (eval o X.env)
   let iv ← holding [v,ov] (eval i X.env)
   standAt pos
   holding [v,ov,iv] (setItem ov iv v)
   release [v,ov,iv] []):=by intro _;rfl):PG X (.Subscript o i pos) (gSub to ti t):=by
 intro pins s σ H v u Q I r h
 rw [ha]
 refine wpAny_bind (wpAny_holding (thn (ho pins s σ H _ I h) fun ov s1 ⟨x,H1,I1,r1,q1⟩=>?_))
 refine wpAny_bind (wpAny_holding (thn (hi pins s1 σ H1 _ I1 q1) fun iv s2 ⟨y,H2,I2,r2,q2⟩=>?_))
 refine wpAny_bind (wpAny_standAt (wpAny_bind (wpAny_holding (thn (hs pins s2 σ H2 x y v ov iv u _ I2 r1 r2 r q2) fun _ s3 ⟨H3,I3,q3⟩=>?_))))
 exact wpAny_release ⟨σ,H3,I3,q3⟩
noncomputable def tAsg (te:TE) (g:TG):TS:=fun D σ H=>te σ H fun x H1=>g x σ H1 D.nx
theorem ps_asg {tg e:Expr} {te:TE} {g:TG} (he:PE X e te) (hg:PG X tg g) (hs:swapsWithSole [tg] e pos.line X.env = pure false:=by rfl) (hw:swappedStores [tg] e X.env = pure none:=by rfl)
  (h1:(assignEach [tg] X.env).map (·.2) = [assign tg X.env]:=by rfl):PS X (.Assign [tg] e pos) (tAsg te g):=by
 intro pins s σ H D I h
 refine wpAny_Assign_stores (thn (he pins s σ H _ I h) fun v s1 ⟨x,H1,I1,r1,q1⟩=>?_) hs hw
 rw [h1]
 exact thn (hg pins s1 σ H1 x v _ I1 r1 q1) fun _ s2 q=>q
theorem ps_set {i:Nat} {x:Str} {e:Expr} {te:TE} {pos':Pos} (hN:X.N.Nodup) (hi:X.N[i]? = some x) (hx:Loc X.env.scope x) (he:PE X e te) (hs:swapsWith e (some (.Name x pos')) pos.line X.env = pure false:=by rfl) (hf:X.fn x = true∨X.env.scope.names.lookup x = some .local:=by first | exact .inl rfl | exact .inr rfl | assumption) :
  PS X (.Assign [.Name x pos'] e pos) (tAsg te (gName i)):=by
 intro pins s σ H D I h
 refine wpAny_Assign_Name (thn (he pins s σ H _ I h) fun v s1 ⟨y,H1,I1,r1,q1⟩=>?_) hs
 exact store_ok I1 hN hi hx r1 (fun s2 I2=>⟨_,H1,I2,q1⟩) hf
end

section
variable {X:Cx} {pos:Pos}
noncomputable def tWhile (c:TT) (tb:TS):TS:=fun D σ H=>∃ W:Nat→St→Hp→Prop,(∃ m,W m σ H)∧∀ m σ H,W m σ H →
 c σ H fun b H1=>if b = true then ∃ N:St→Hp→Prop,(∀ σ' H',N σ' H'→∃ m',m' < m∧W m' σ' H')∧tb { D with nx:=N,ct:=N,bk:=D.nx } σ H1 else D.nx σ H1
theorem ps_while {c:Expr} {body:List Stmt} {tc:TT} {tb:TS} (hp:PassesOwn (model X.prog X.w) X.A X.env X.xe) (hc:PT X c tc) (hb:PSs X body tb):PS X (.While c body [] pos) (tWhile tc tb):=by
 intro pins s σ H D I h
 obtain ⟨W,⟨m0,w0⟩,turn⟩:=h
 refine wpAny_While (codeAny_whileLoop (fun n s'=>∃ σ' H',Inv X pins σ' H' s'∧W n σ' H') ?_ m0 ⟨σ,H,I,w0⟩)
 rintro n s1 ⟨σ1,H1,I1,w1⟩
 refine wpAny_passesOwn hp (thn (hc pins s1 σ1 H1 _ I1 (turn n σ1 H1 w1)) fun b s2 ⟨H2,I2,q2⟩=>?_)
 cases b with
 | true =>
  obtain ⟨N,hN,q2⟩:=q2
  rw [if_pos rfl]
  refine wpAny_passesOwn hp (thn (hb pins s2 σ1 H2 _ I2 q2) fun f s3 q3=>?_)
  cases f with
  | next =>
   obtain ⟨σ3,H3,I3,n3⟩:=q3
   obtain ⟨m',hm,w3⟩:=hN σ3 H3 n3
   exact ⟨m',hm,σ3,H3,I3,w3⟩
  | cont =>
   obtain ⟨σ3,H3,I3,n3⟩:=q3
   obtain ⟨m',hm,w3⟩:=hN σ3 H3 n3
   exact ⟨m',hm,σ3,H3,I3,w3⟩
  | brk=>exact q3
  | ret v=>exact q3
 | false =>
  rw [if_neg Bool.false_ne_true]
  exact wpAny_execs_nil ⟨σ1,H2,I2,q2⟩
end

structure It where
 go:Nat→Hp→Prop
 yld:Nat→Hp→V→Hp→Prop
 stop:Nat→Hp→Prop
noncomputable def FpOk (X:Cx) (pins:List (Addr×Obj)) (H:Hp) (b:Addr):Prop :=
 H b = none∧b≠X.env.locals∧b ∉ X.fs∧(b∈X.ex∨X.s₀.heap.objs.size≤b)∧(∀ x c,X.env.cells.lookup x = some c→c≠b)∧∀ p∈X.pn ++ pins,p.1≠b
theorem Inv.fpOk {X:Cx} {pins:List (Addr×Obj)} {σ:St} {H H':Hp} {s:Shared} {b:Addr} (I:Inv X pins σ H s) (hb:s.heap.objs.size≤b) (hn:H' b = none):FpOk X pins H' b:=by
 refine ⟨hn,Nat.ne_of_gt (Nat.lt_of_lt_of_le I.lt hb),I.nofs hb,.inr (Nat.le_trans I.sz hb),fun x c e z=>?_,fun p hp z=>?_⟩
 ·obtain ⟨v,q⟩:=I.cell x c e
  exact absurd (Nat.lt_of_lt_of_le q.lt (by rw [z];exact hb)) (Nat.lt_irrefl _)
 ·exact absurd (Nat.lt_of_lt_of_le (Heap.lt_size (I.pin p hp).1) (by rw [z];exact hb)) (Nat.lt_irrefl _)
structure Turn (P:Program) (w:World) (K:PySem.W.Frag) (tg:Expr) (J:It) (fp:List Addr) (it:Addr) (tn:Nat→Heap→Prop):Prop where
 mem:it∈fp
 obj:∀ i h,tn i h→∀ b∈fp,∃ o,h.get? b = some o∧∀ v,o.data≠.cell v
 keep:∀ i h h',tn i h→(∀ b∈fp,∀ o,h.get? b = some o→h'.get? b = some o)→tn i h'
 item:∀ (X:Cx),X.prog = P→X.w = w→X.K = K→X.calm = true→∀ (i:Nat) (pins:List (Addr×Obj)) (s:Shared) (σ:St) (H:Hp) (E:Value→Shared→Prop),Inv X pins σ H s→(∀ b∈fp,FpOk X pins H b)→tn i s.heap→J.go i H →
  wpAny (model P w) X.A (pyNext (.ref it)) (fun r s1=>∃ u,r = some u ∧
   wpAny (model P w) X.A (letOwnedTupleGo tg (.ref it) u) (fun _ s2=>∃ x H',Inv X pins σ H' s2∧RelV x u∧J.yld i H x H'∧tn (i + 1) s2.heap∧∀ b∈fp,H' b = none) E s1) E s
 done:∀ (X:Cx),X.prog = P→X.w = w→X.K = K→X.calm = true→∀ (i:Nat) (pins:List (Addr×Obj)) (s:Shared) (σ:St) (H:Hp) (E:Value→Shared→Prop),Inv X pins σ H s→(∀ b∈fp,FpOk X pins H b)→tn i s.heap→J.stop i H →
  wpAny (model P w) X.A (pyNext (.ref it)) (fun r s1=>r = none∧Inv X pins σ H s1) E s
 self:∀ (A:Around) (i:Nat) (s:Shared) (Q:Value→Shared→Prop) (E:Value→Shared→Prop),tn i s.heap→Q (.ref it) s→wpAny (model P w) A (pyIter (.ref it)) Q E s
noncomputable abbrev TI:=St→Hp→(It→Hp→Prop)→Prop
noncomputable def PIE (X:Cx) (pins:List (Addr×Obj)) (σ:St) (tg:Expr) (R:It→Hp→Prop) (itv:Value) (s2:Shared):Prop :=
 ∃ (it:Addr) (fp:List Addr) (tn:Nat→Heap→Prop) (J:It) (H':Hp),itv = .ref it∧Inv X pins σ H' s2∧Turn X.prog X.w X.K tg J fp it tn∧tn 0 s2.heap∧(∀ b∈fp,FpOk X pins H' b)∧R J H'
noncomputable def PI (X:Cx) (tg iter:Expr) (wi:TI):Prop :=
 ∀ (pins:List (Addr×Obj)) (s:Shared) (σ:St) (H:Hp) (R:It→Hp→Prop),Inv X pins σ H s→wi σ H R →
  wpAny (model X.prog X.w) X.A (eval iter X.env) (fun v s1=>wpAny (model X.prog X.w) X.A (pyIter v) (PIE X pins σ tg R) X.xe s1) X.xe s

theorem go_of {M : Model} {A : Around} {E : Value → Shared → Prop} {s : Shared} {tg : Expr} {it : Addr} {u : Value} {o : Obj} {n : String} {vs : Array Value} {Q : Unit → Shared → Prop} (ho : s.heap.get? it = some o) (hc : o.cls = .type n) (hd : o.data = .fields vs)
    (hn : ["enumerate", "zip", "dict_itemiterator", "dict_reverseitemiterator", "odict_iterator", "itertools.zip_longest", "itertools.pairwise"].contains n = false) (hQ : Q () s) : wpAny M A (letOwnedTupleGo tg (.ref it) u) Q E s := by
  unfold letOwnedTupleGo
  cases tg <;> first
    | exact wpAny_pure hQ
    | (cases u <;> first
        | exact wpAny_pure hQ
        | (refine wpAny_bind (wpAny_load ho ?_)
           rw [hc, hd]
           show wpAny M A (if (["enumerate", "zip", "dict_itemiterator", "dict_reverseitemiterator", "odict_iterator", "itertools.zip_longest", "itertools.pairwise"].contains n && vs[0]? == some (rawInt _)) = true then _ else _) Q E s
           rw [if_neg (by intro h; rw [hn, Bool.false_and] at h; cases h)]
           exact wpAny_pure hQ))

noncomputable def Itl (K:PySem.W.Frag) (a:Addr):It :=
 ⟨fun i H=>∃ xs x,SqL K H a xs∧xs[i]? = some x,fun i H x H'=>H' = H∧∀ xs,SqL K H a xs→xs[i]? = some x,fun i H=>∃ xs,SqL K H a xs∧xs.length≤i⟩
noncomputable def Itt (K:PySem.W.Frag) (a:Addr):It :=
 ⟨fun i H=>∃ xs x,SqT K H a xs∧xs[i]? = some x,fun i H x H'=>H' = H∧∀ xs,SqT K H a xs→xs[i]? = some x,fun i H=>∃ xs,SqT K H a xs∧xs.length≤i⟩
noncomputable def Itr (lo:Int) (n:Nat):It:=⟨fun i _=>i < n,fun i H x H'=>H' = H∧x = .int (lo + i),fun i _=>n≤i⟩
theorem turn_list {P:Program} {w:World} {K:PySem.W.Frag} {tg:Expr} (a it:Addr):Turn P w K tg (Itl K a) [it] it (fun i h=>h.IsListIter it a i) where
 mem:=by simp
 obj:=fun i h st b hb=>by
  have e:b = it:=by simpa using hb
  subst e
  obtain ⟨o,e,c,d⟩:=st
  exact ⟨o,e,fun v z=>by rw [d] at z;cases z⟩
 keep:=fun i h h' st k=>st.at fun o e=>k it (by simp) o e
 item:=by
  intro X hP hw hK hc i pins s σ H E I hf st hg
  subst hP hw hK
  obtain ⟨xs,x,hq,hx⟩:=hg
  obtain ⟨its,rv,p,hz⟩:=I.list hq
  obtain ⟨u,hu,ru⟩:=rv.get hx
  obtain ⟨f0,f1,f2,f3,f4,f5⟩:=hf it (by simp)
  refine wpAny_pyNext_list_item st p.isList (x:=u) (by simpa using hu) fun h' st' sb=>?_
  have I1:Inv X pins σ H { s with heap:=h' }:=I.turned (t':=s.toks) (fun b o hb e=>(sb.2 b hb).trans e) f0 f1 f3 f4 f5
  obtain ⟨o,e,c,d⟩:=id st'
  exact ⟨u,rfl,go_of (s:={ s with heap:=h' }) e c d (by decide) ⟨x,H,I1,ru,⟨rfl,fun ys hy=>by rw [I.list_inj hy hq];exact hx⟩,st',fun b hb=>(hf b hb).1⟩⟩
 done:=by
  intro X hP hw hK hc i pins s σ H E I hf st hg
  subst hP hw hK
  obtain ⟨xs,hq,hx⟩:=hg
  obtain ⟨its,rv,p,hz⟩:=I.list hq
  obtain ⟨f0,f1,f2,f3,f4,f5⟩:=hf it (by simp)
  have hl:=rv.length
  exact wpAny_pyNext_list_end (I.ok.hd hc) st p.isList (by simp;omega) fun h' eb=>⟨rfl,I.turned (t':=s.toks) (fun b o hb e=>eb b o hb e) f0 f1 f3 f4 f5⟩
 self:=fun _ _ _ _ _ st h=>wpAny_pyIter_listiter st h
theorem turn_tuple {P:Program} {w:World} {K:PySem.W.Frag} {tg:Expr} (a it:Addr):Turn P w K tg (Itt K a) [it] it (fun i h=>h.IsTupleIter it a i) where
 mem:=by simp
 obj:=fun i h st b hb=>by
  have e:b = it:=by simpa using hb
  subst e
  obtain ⟨o,e,c,d⟩:=st
  exact ⟨o,e,fun v z=>by rw [d] at z;cases z⟩
 keep:=fun i h h' st k=>st.at fun o e=>k it (by simp) o e
 item:=by
  intro X hP hw hK hc i pins s σ H E I hf st hg
  subst hP hw hK
  obtain ⟨xs,x,hq,hx⟩:=hg
  obtain ⟨its,rv,p,hz⟩:=I.tuple hq
  obtain ⟨u,hu,ru⟩:=rv.get hx
  obtain ⟨f0,f1,f2,f3,f4,f5⟩:=hf it (by simp)
  refine wpAny_pyNext_tuple_item st (show s.heap.IsTuple a its.toArray from p) (x:=u) (by simpa using hu) fun h' st' sb=>?_
  have I1:Inv X pins σ H { s with heap:=h' }:=I.turned (t':=s.toks) (fun b o hb e=>(sb.2 b hb).trans e) f0 f1 f3 f4 f5
  obtain ⟨o,e,c,d⟩:=id st'
  exact ⟨u,rfl,go_of (s:={ s with heap:=h' }) e c d (by decide) ⟨x,H,I1,ru,⟨rfl,fun ys hy=>by rw [I.tuple_inj hy hq];exact hx⟩,st',fun b hb=>(hf b hb).1⟩⟩
 done:=by
  intro X hP hw hK hc i pins s σ H E I hf st hg
  subst hP hw hK
  obtain ⟨xs,hq,hx⟩:=hg
  obtain ⟨its,rv,p,hz⟩:=I.tuple hq
  obtain ⟨f0,f1,f2,f3,f4,f5⟩:=hf it (by simp)
  have hl:=rv.length
  exact wpAny_pyNext_tuple_end (I.ok.hd hc) st (show s.heap.IsTuple a its.toArray from p) (by simp;omega) fun h' eb=>⟨rfl,I.turned (t':=s.toks) (fun b o hb e=>eb b o hb e) f0 f1 f3 f4 f5⟩
 self:=fun _ _ _ _ _ st h=>wpAny_pyIter_tupleiter st h
theorem turn_range {P:Program} {w:World} {K:PySem.W.Frag} {tg:Expr} (it:Addr) (lo:Int) (n:Nat):Turn P w K tg (Itr lo n) [it] it (fun i h=>IsRangeIter h it (lo + (i:Nat) * 1) ((n:Int) - (i:Nat)) 1) where
 mem:=by simp
 obj:=fun i h st b hb=>by
  have e:b = it:=by simpa using hb
  subst e
  exact ⟨_,st,fun v z=>by
   have z':Data.fields _ = Data.cell v:=z
   cases z'⟩
 keep:=fun i h h' st k=>k it (by simp) _ st
 item:=by
  intro X hP hw hK hc i pins s σ H E I hf st hg
  subst hP hw hK
  obtain ⟨f0,f1,f2,f3,f4,f5⟩:=hf it (by simp)
  have W:=Walks.range (prog:=X.prog) (w:=X.w) (I.ok.hd hc) it lo 1 n
  refine W.item i s _ _ hg st fun v h' tk hv st' kk=>?_
  obtain ⟨t,rfl⟩:=hv
  have I1:Inv X pins σ H { s with heap:=h',toks:=tk }:=I.turned (fun b o hb e=>kk b o (by simpa using hb) e) f0 f1 f3 f4 f5
  refine ⟨_,rfl,go_of (s:={ s with heap:=h',toks:=tk }) (n:="range_iterator") st' rfl rfl (by decide) ⟨.int (lo + i),H,I1,⟨t,?_⟩,⟨rfl,rfl⟩,st',fun b hb=>(hf b hb).1⟩⟩
  rw [Int.mul_one]
 done:=by
  intro X hP hw hK hc i pins s σ H E I hf st hg
  subst hP hw hK
  obtain ⟨f0,f1,f2,f3,f4,f5⟩:=hf it (by simp)
  exact wpAny_pyNext_range_end (I.ok.hd hc) st (by have:n≤i:=hg;omega) fun h' eb=>⟨rfl,I.turned (t':=s.toks) (fun b o hb e=>eb b o hb e) f0 f1 f3 f4 f5⟩
 self:=fun _ _ _ _ _ st h=>wpAny_pyIter_rangeiter st h
end L2

namespace L2
open PySem PySem.Spec PyProof.Rows
section
variable {X:Cx} {tg:Expr}
noncomputable def iList (K:PySem.W.Frag) (tl:TE):TI:=fun σ H R=>tl σ H fun x H1=>∃ a,x = .ref a∧(∃ xs,SqL K H1 a xs)∧R (Itl K a) H1
noncomputable def iTup (K:PySem.W.Frag) (tl:TE):TI:=fun σ H R=>tl σ H fun x H1=>∃ a,x = .ref a∧(∃ xs,SqT K H1 a xs)∧R (Itt K a) H1
theorem pi_list {l:Expr} {tl:TE} (hl:PE X l tl):PI X tg l (iList X.K tl):=by
 intro pins s σ H R I h
 refine thn (hl pins s σ H _ I h) fun v s1 ⟨x,H1,I1,r1,q1⟩=>?_
 obtain ⟨a,e,⟨xs,hq⟩,q⟩:=q1
 subst e
 cases r1
 obtain ⟨its,rv,p,hz⟩:=I1.list hq
 refine wpAny_pyIter_list p.isList ?_
 refine ⟨s1.heap.objs.size,[s1.heap.objs.size],_,_,H1,rfl,I1.kept (t':=s1.toks) fun b o e=>Heap.get?_push_of_some _ e,turn_list a _,⟨_,Heap.get?_push_size _ rfl,rfl,rfl⟩,fun b hb=>?_,q⟩
 have e:b = s1.heap.objs.size:=by simpa using hb
 subst e
 exact I1.fpOk (Nat.le_refl _) (I1.hok.fresh (Nat.le_refl _))
theorem pi_tup {l:Expr} {tl:TE} (hl:PE X l tl):PI X tg l (iTup X.K tl):=by
 intro pins s σ H R I h
 refine thn (hl pins s σ H _ I h) fun v s1 ⟨x,H1,I1,r1,q1⟩=>?_
 obtain ⟨a,e,⟨xs,hq⟩,q⟩:=q1
 subst e
 cases r1
 obtain ⟨its,rv,p,hz⟩:=I1.tuple hq
 refine wpAny_pyIter_tuple (show s1.heap.IsTuple a its.toArray from p) ?_
 refine ⟨s1.heap.objs.size,[s1.heap.objs.size],_,_,H1,rfl,I1.kept (t':=s1.toks) fun b o e=>Heap.get?_push_of_some _ e,turn_tuple a _,⟨_,Heap.get?_push_size _ rfl,rfl,rfl⟩,fun b hb=>?_,q⟩
 have e:b = s1.heap.objs.size:=by simpa using hb
 subst e
 exact I1.fpOk (Nat.le_refl _) (I1.hok.fresh (Nat.le_refl _))
theorem range_it {pins:List (Addr×Obj)} {σ:St} {H:Hp} {s:Shared} {R:It→Hp→Prop} {E:Value→Shared→Prop} {lo hi:Int} {t u v:Tok} {tk:Nat} (I:Inv X pins σ H s) (h1:-(2 ^ 62)≤lo) (h2:lo < 2 ^ 62) (h3:-(2 ^ 62)≤hi) (h4:hi < 2 ^ 62)
  (q:R (Itr lo (hi - lo).toNat) H):wpAny (model X.prog X.w) X.A (pyIter (.ref s.heap.objs.size)) (PIE X pins σ tg R) E { s with heap:=s.heap.push { cls:=.type "range",data:=.fields #[.int lo t,.int hi u,.int 1 v] },toks:=tk }:=by
 refine wpAny_pyIter_range (IsRange.new ..) (small_one h1 h2 h3 h4) ?_
 have I1:Inv X pins σ H { s with heap:=s.heap.push { cls:=.type "range",data:=.fields #[.int lo t,.int hi u,.int 1 v] },toks:=tk }:=I.kept fun b o e=>Heap.get?_push_of_some _ e
 refine ⟨(s.heap.push { cls:=.type "range",data:=.fields #[.int lo t,.int hi u,.int 1 v] }).objs.size,[(s.heap.push { cls:=.type "range",data:=.fields #[.int lo t,.int hi u,.int 1 v] }).objs.size],_,_,H,rfl,
  I1.kept (t':=tk) fun b o e=>Heap.get?_push_of_some _ e,turn_range _ lo (hi - lo).toNat,?_,fun b hb=>?_,q⟩
 ·have e1:lo + ((0:Nat):Int) * 1 = lo:=by simp
  have e2:(((hi - lo).toNat:Nat):Int) - ((0:Nat):Int) = Builtin.Range.rangeSize lo hi 1:=by rw [rangeSize_one];split <;> omega
  show IsRangeIter _ _ (lo + ((0:Nat):Int) * 1) ((((hi - lo).toNat:Nat):Int) - ((0:Nat):Int)) 1
  rw [e1,e2]
  exact Heap.get?_push_size _ rfl
 ·have e:b = (s.heap.push { cls:=.type "range",data:=.fields #[.int lo t,.int hi u,.int 1 v] }).objs.size:=by simpa using hb
  subst e
  exact I1.fpOk (Nat.le_refl _) (I1.hok.fresh (Nat.le_refl _))
noncomputable def iRng1 (ta:TA):TI:=fun σ H R=>ta σ H fun vs H1=>∃ j:Int,vs = [.int j]∧-(2 ^ 62)≤j∧j < 2 ^ 62∧R (Itr 0 j.toNat) H1
theorem pi_range1 {a:Expr} {ta:TA} {p pos:Pos} (hg:Gl X "range") (hm:X.mg "range" = none) (ha:PA X [a] ta) (hs:starEach [a] X.env = [(false,eval a X.env)]:=by rfl):PI X tg (.Call (.Name "range" p) [a] [] pos) (iRng1 ta):=by
 intro pins s σ H R I h
 refine Call_ (ld_blt I hg hm boot_range (PyProof.Rows.callWith_type1 (thn (ha pos pins s σ H _ I h) fun us s1 ⟨vs,H1,I1,r1,q1⟩=>?_) hs rfl))
 obtain ⟨j,e,q1,q2,q⟩:=q1
 subst e
 cases r1 with
 | cons r rr =>
  cases rr
  obtain ⟨t,rfl⟩:=r
  exact call_range_1 (range_it I1 (by omega) (by omega) q1 q2 (by simpa using q))
noncomputable def tFor (wi:TI) (g:TG) (tb:TS):TS:=fun D σ H=>wi σ H fun J H1=>∃ W:Nat→Nat→St→Hp→Prop,(∃ m,W 0 m σ H1)∧∀ i m σ H,W i m σ H →
 (J.stop i H∧D.nx σ H)∨(J.go i H∧∃ N:St→Hp→Prop,(∀ σ' H',N σ' H'→∃ m',m' < m∧W (i + 1) m' σ' H')∧∀ x H',J.yld i H x H'→g x σ H' fun σ2 H2=>tb { D with nx:=N,ct:=N,bk:=D.nx } σ2 H2)
noncomputable def pinsAt (fp:List Addr) (h:Heap):List (Addr×Obj):=fp.filterMap fun b=>(h.get? b).map fun o=>(b,o)
theorem mem_pinsAt {fp:List Addr} {h:Heap} {b:Addr} {o:Obj} (hb:b∈fp) (e:h.get? b = some o):(b,o)∈pinsAt fp h:=List.mem_filterMap.mpr ⟨b,hb,by rw [e];rfl⟩
theorem of_pinsAt {fp:List Addr} {h:Heap} {p:Addr×Obj} (hp:p∈pinsAt fp h):p.1∈fp∧h.get? p.1 = some p.2:=by
 obtain ⟨b,hb,e⟩:=List.mem_filterMap.mp hp
 cases q:h.get? b with
 | none=>rw [q] at e;cases e
 | some o =>
  rw [q] at e
  have e':(b,o) = p:=Option.some.inj e
  subst e'
  exact ⟨hb,q⟩
theorem Inv.pinned {pins:List (Addr×Obj)} {σ:St} {H:Hp} {s:Shared} {fp:List Addr} (I:Inv X pins σ H s) (hf:∀ b∈fp,FpOk X pins H b) (ho:∀ b∈fp,∃ o,s.heap.get? b = some o∧∀ v,o.data≠.cell v):Inv X (pins ++ pinsAt fp s.heap) σ H s :=
 I.pins_of fun p hp=>(List.mem_append.mp hp).elim (fun z=>I.pin p (List.mem_append_right _ z)) fun z=>by
  obtain ⟨hb,e⟩:=of_pinsAt z
  obtain ⟨f0,f1,f2,_⟩:=hf p.1 hb
  obtain ⟨o,e',d⟩:=ho p.1 hb
  rw [e] at e';cases e'
  exact ⟨e,f0,f1,f2,d⟩
theorem Inv.unpinned {pins pl:List (Addr×Obj)} {σ:St} {H:Hp} {s:Shared} (I:Inv X (pins ++ pl) σ H s):Inv X pins σ H s:=I.pins_of fun p hp=>I.pin p (List.mem_append_right _ (List.mem_append_left _ hp))
theorem ps_for {iter:Expr} {body:List Stmt} {wi:TI} {g:TG} {tb:TS} {pos:Pos} (hp:PassesOwn (model X.prog X.w) X.A X.env X.xe) (hc:X.calm = true) (hi:PI X tg iter wi) (hg:PG X tg g) (hb:PSs X body tb)
  (hs:∀ x,foldedSetIterable iter X.env x = pure x:=by intro _;rfl):PS X (.For tg iter body [] pos) (tFor wi g tb):=by
 intro pins s σ H D I h
 refine wpAny_For (thn (hi pins s σ H _ I h) fun v s1 h1=>thn h1 fun itv s2 h2=>?_) hs
 obtain ⟨it,fp,tn,J,H2,e,I2,T,st2,f2,W,⟨m0,w0⟩,turn⟩:=h2
 subst e
 have stat:∀ {H':Hp},(∀ b∈fp,H' b = none)→∀ b∈fp,FpOk X pins H' b:=fun hn b hb=>⟨hn b hb,(f2 b hb).2⟩
 refine codeAny_forLoop_any (fun n s'=>∃ i σ' H',Inv X pins σ' H' s'∧tn i s'.heap∧(∀ b∈fp,H' b = none)∧W i n σ' H') ?_ m0 ⟨0,σ,H2,I2,st2,fun b hb=>(f2 b hb).1,w0⟩
 rintro n s3 ⟨i,σ3,H3,I3,st3,fr3,w3⟩
 rcases turn i n σ3 H3 w3 with ⟨stop,qn⟩ | ⟨go,N,hN,step⟩
 ·refine wpAny_passesOwn hp (thn (T.done X rfl rfl rfl hc i pins s3 σ3 H3 X.xe I3 (stat fr3) st3 stop) fun r s4 ⟨hr,I4⟩=>?_)
  subst hr
  exact wpAny_execs_nil ⟨σ3,H3,I4,qn⟩
 ·refine wpAny_passesOwn hp (thn (T.item X rfl rfl rfl hc i pins s3 σ3 H3 X.xe I3 (stat fr3) st3 go) fun r s4 ⟨u,hr,h4⟩=>?_)
  subst hr
  refine wpAny_passesOwn hp (thn h4 fun _ s5 ⟨x,H5,I5,r5,y5,st5,fr5⟩=>?_)
  have I5':=I5.pinned (stat fr5) (T.obj _ _ st5)
  refine wpAny_passesOwn hp (thn (hg _ s5 σ3 H5 x u _ I5' r5 (step x H5 y5)) fun _ s6 ⟨σ6,H6,I6,q6⟩=>?_)
  refine wpAny_passesOwn hp (thn (hb _ s6 σ6 H6 _ I6 q6) fun f s7 q7=>?_)
  have again:∀ {σ7:St} {H7:Hp},Inv X (pins ++ pinsAt fp s5.heap) σ7 H7 s7→N σ7 H7→∃ m,m < n∧∃ i σ' H',Inv X pins σ' H' s7∧tn i s7.heap∧(∀ b∈fp,H' b = none)∧W i m σ' H':=fun {σ7 H7} I7 n7=>by
   obtain ⟨m',hm,w7⟩:=hN σ7 H7 n7
   refine ⟨m',hm,i + 1,σ7,H7,I7.unpinned,T.keep _ _ _ st5 fun b hb o e=>(I7.pin (b,o) (List.mem_append_right _ (List.mem_append_right _ (mem_pinsAt hb e)))).1,fun b hb=>?_,w7⟩
   obtain ⟨o,e,d⟩:=T.obj _ _ st5 b hb
   exact (I7.pin (b,o) (List.mem_append_right _ (List.mem_append_right _ (mem_pinsAt hb e)))).2.1
  cases f with
  | next=>obtain ⟨σ7,H7,I7,n7⟩:=q7;exact again I7 n7
  | cont=>obtain ⟨σ7,H7,I7,n7⟩:=q7;exact again I7 n7
  | brk=>obtain ⟨σ7,H7,I7,q7⟩:=q7;exact ⟨σ7,H7,I7.unpinned,q7⟩
  | ret v=>obtain ⟨x7,σ7,H7,I7,r7,q7⟩:=q7;exact ⟨x7,σ7,H7,I7.unpinned,r7,q7⟩
end

theorem for_list {K:PySem.W.Frag} {a:Addr} {xs:List V} {g:TG} {tb:TS} {D:Ends} {σ:St} {H:Hp} (Pv:Nat→St→Hp→Prop) (h0:Pv 0 σ H) (hl:∀ i σ H,i≤xs.length→Pv i σ H→SqL K H a xs)
  (hs:∀ i x σ H,xs[i]? = some x→Pv i σ H→g x σ H fun σ2 H2=>tb { D with nx:=Pv (i + 1),ct:=Pv (i + 1),bk:=D.nx } σ2 H2) (hd:∀ σ H,Pv xs.length σ H→D.nx σ H) :
  ∃ W:Nat→Nat→St→Hp→Prop,(∃ m,W 0 m σ H)∧∀ i m σ H,W i m σ H →
   ((Itl K a).stop i H∧D.nx σ H)∨((Itl K a).go i H∧∃ N:St→Hp→Prop,(∀ σ' H',N σ' H'→∃ m',m' < m∧W (i + 1) m' σ' H')∧∀ x H',(Itl K a).yld i H x H'→g x σ H' fun σ2 H2=>tb { D with nx:=N,ct:=N,bk:=D.nx } σ2 H2):=by
 refine ⟨fun i m σ H=>m = xs.length - i∧i≤xs.length∧Pv i σ H,⟨xs.length,by simp,Nat.zero_le _,h0⟩,?_⟩
 rintro i m σ H ⟨rfl,hi,p⟩
 have q:=hl i σ H hi p
 by_cases hlt:i < xs.length
 ·refine .inr ⟨⟨xs,xs[i],q,by simp [hlt]⟩,Pv (i + 1),fun σ' H' p'=>⟨xs.length - (i + 1),by omega,rfl,hlt,p'⟩,fun x H' y=>?_⟩
  obtain ⟨e,y⟩:=y
  subst e
  exact hs i x σ _ (y xs q) p
 ·have e:i = xs.length:=by omega
  subst e
  exact .inl ⟨⟨xs,q,Nat.le_refl _⟩,hd σ H p⟩
theorem for_tup {K:PySem.W.Frag} {a:Addr} {xs:List V} {g:TG} {tb:TS} {D:Ends} {σ:St} {H:Hp} (Pv:Nat→St→Hp→Prop) (h0:Pv 0 σ H) (hl:∀ i σ H,i≤xs.length→Pv i σ H→SqT K H a xs)
  (hs:∀ i x σ H,xs[i]? = some x→Pv i σ H→g x σ H fun σ2 H2=>tb { D with nx:=Pv (i + 1),ct:=Pv (i + 1),bk:=D.nx } σ2 H2) (hd:∀ σ H,Pv xs.length σ H→D.nx σ H) :
  ∃ W:Nat→Nat→St→Hp→Prop,(∃ m,W 0 m σ H)∧∀ i m σ H,W i m σ H →
   ((Itt K a).stop i H∧D.nx σ H)∨((Itt K a).go i H∧∃ N:St→Hp→Prop,(∀ σ' H',N σ' H'→∃ m',m' < m∧W (i + 1) m' σ' H')∧∀ x H',(Itt K a).yld i H x H'→g x σ H' fun σ2 H2=>tb { D with nx:=N,ct:=N,bk:=D.nx } σ2 H2):=by
 refine ⟨fun i m σ H=>m = xs.length - i∧i≤xs.length∧Pv i σ H,⟨xs.length,by simp,Nat.zero_le _,h0⟩,?_⟩
 rintro i m σ H ⟨rfl,hi,p⟩
 have q:=hl i σ H hi p
 by_cases hlt:i < xs.length
 ·refine .inr ⟨⟨xs,xs[i],q,by simp [hlt]⟩,Pv (i + 1),fun σ' H' p'=>⟨xs.length - (i + 1),by omega,rfl,hlt,p'⟩,fun x H' y=>?_⟩
  obtain ⟨e,y⟩:=y
  subst e
  exact hs i x σ _ (y xs q) p
 ·have e:i = xs.length:=by omega
  subst e
  exact .inl ⟨⟨xs,q,Nat.le_refl _⟩,hd σ H p⟩
theorem for_range {lo:Int} {n:Nat} {g:TG} {tb:TS} {D:Ends} {σ:St} {H:Hp} (Pv:Nat→St→Hp→Prop) (h0:Pv 0 σ H)
  (hs:∀ i σ H,i < n→Pv i σ H→g (.int (lo + i)) σ H fun σ2 H2=>tb { D with nx:=Pv (i + 1),ct:=Pv (i + 1),bk:=D.nx } σ2 H2) (hd:∀ σ H,Pv n σ H→D.nx σ H) :
  ∃ W:Nat→Nat→St→Hp→Prop,(∃ m,W 0 m σ H)∧∀ i m σ H,W i m σ H →
   ((Itr lo n).stop i H∧D.nx σ H)∨((Itr lo n).go i H∧∃ N:St→Hp→Prop,(∀ σ' H',N σ' H'→∃ m',m' < m∧W (i + 1) m' σ' H')∧∀ x H',(Itr lo n).yld i H x H'→g x σ H' fun σ2 H2=>tb { D with nx:=N,ct:=N,bk:=D.nx } σ2 H2):=by
 refine ⟨fun i m σ H=>m = n - i∧i≤n∧Pv i σ H,⟨n,by simp,Nat.zero_le _,h0⟩,?_⟩
 rintro i m σ H ⟨rfl,hi,p⟩
 by_cases hlt:i < n
 ·refine .inr ⟨hlt,Pv (i + 1),fun σ' H' p'=>⟨n - (i + 1),by omega,rfl,hlt,p'⟩,fun x H' y=>?_⟩
  obtain ⟨e,y⟩:=y
  subst e y
  exact hs i σ _ hlt p
 ·have e:i = n:=by omega
  subst e
  exact .inl ⟨Nat.le_refl _,hd σ H p⟩
theorem while_by {c:TT} {tb:TS} {D:Ends} {σ:St} {H:Hp} (Pv:St→Hp→Prop) (μ:St→Hp→Nat) (h0:Pv σ H)
  (hs:∀ σ H,Pv σ H→c σ H fun b H1=>if b = true then tb { D with nx:=fun σ' H'=>Pv σ' H'∧μ σ' H' < μ σ H,ct:=fun σ' H'=>Pv σ' H'∧μ σ' H' < μ σ H,bk:=D.nx } σ H1 else D.nx σ H1)
  (mono:∀ σ H Q Q',(∀ b H1,Q b H1→Q' b H1)→c σ H Q→c σ H Q'):tWhile c tb D σ H:=by
 refine ⟨fun m σ H=>m = μ σ H∧Pv σ H,⟨_,rfl,h0⟩,?_⟩
 rintro m σ H ⟨rfl,p⟩
 refine mono σ H _ _ (fun b H1 q=>?_) (hs σ H p)
 cases b with
 | true=>exact ⟨_,fun σ' H' ⟨p',l⟩=>⟨_,l,rfl,p'⟩,q⟩
 | false=>exact q
end L2

namespace L2
open PySem PySem.Spec PyProof.Rows

noncomputable abbrev R2:=V→V→Hp→VK→Prop
noncomputable def OpR (X:Cx) (f:Value→Value→Sem Value) (r:R2):Prop :=
 ∀ (pins:List (Addr×Obj)) (s:Shared) (σ:St) (H:Hp) (x y:V) (v u:Value) (Q:VK),Inv X pins σ H s→RelV x v→RelV y u→r x y H Q →
  wpAny (model X.prog X.w) X.A (f v u) (EP X pins σ Q) X.xe s
noncomputable def UnR (X:Cx) (f:Value→Sem Value) (r:V→Hp→VK→Prop):Prop :=
 ∀ (pins:List (Addr×Obj)) (s:Shared) (σ:St) (H:Hp) (x:V) (v:Value) (Q:VK),Inv X pins σ H s→RelV x v→r x H Q →
  wpAny (model X.prog X.w) X.A (f v) (EP X pins σ Q) X.xe s
noncomputable def CallR (X:Cx) (f:Value) (r:List V→Hp→VK→Prop):Prop :=
 ∀ (pins:List (Addr×Obj)) (s:Shared) (σ:St) (H:Hp) (xs:List V) (us:List Value) (Q:VK),Inv X pins σ H s→Vals xs us→r xs H Q →
  wpAny (model X.prog X.w) X.A (call f us) (EP X pins σ Q) X.xe s
noncomputable def tOp (r:R2) (ta tb:TE):TE:=fun σ H Q=>ta σ H fun x H1=>tb σ H1 fun y H2=>r x y H2 Q
noncomputable def tUn (r:V→Hp→VK→Prop) (ta:TE):TE:=fun σ H Q=>ta σ H fun x H1=>r x H1 Q
noncomputable def rI (C:Int→Int→Prop) (g:Int→Int→V):R2:=fun x y H Q=>∃ i j,x = .int i∧y = .int j∧C i j∧Q (g i j) H
noncomputable def rI0 (g:Int→Int→V):R2:=fun x y H Q=>∃ i j,x = .int i∧y = .int j∧Q (g i j) H
noncomputable def rU (g:Int→V):V→Hp→VK→Prop:=fun x H Q=>∃ i,x = .int i∧Q (g i) H

section
variable {X:Cx} {a b c:Expr} {ta tb tc:TE} {pos:Pos}

theorem binT (ha:PE X a ta) (hb:PE X b tb) {pins:List (Addr×Obj)} {s:Shared} {σ:St} {H:Hp} {R:V→V→Hp→Prop} (I:Inv X pins σ H s)
  (h:ta σ H fun x H1=>tb σ H1 fun y H2=>R x y H2) {Q:Value→Shared→Prop} {f:Value→Value→Sem Value}
  (hf:∀ v u s2 x y H2,Inv X pins σ H2 s2→RelV x v→RelV y u→R x y H2→wpAny (model X.prog X.w) X.A (f v u) Q X.xe s2) :
  wpAny (model X.prog X.w) X.A (eval a X.env) (fun v s₁=>wpAny (model X.prog X.w) X.A (eval b X.env) (fun u s₂=>wpAny (model X.prog X.w) X.A (f v u) Q X.xe s₂) X.xe s₁) X.xe s:=by
 refine thn (ha pins s σ H _ I h) fun v s1 ⟨x,H1,I1,r1,q1⟩=>?_
 refine thn (hb pins s1 σ H1 _ I1 q1) fun u s2 ⟨y,H2,I2,r2,q2⟩=>?_
 exact hf v u s2 x y H2 I2 r1 r2 q2

theorem pe_op {op:Operator} {r:R2} (ho:OpR X (binaryOp op) r) (ha:PE X a ta) (hb:PE X b tb):PE X (.BinOp a op b pos) (tOp r ta tb):=by
 intro pins s σ H Q I h
 exact wpAny_BinOp (binT ha hb I h fun v u s2 x y H2 I2 rx ry q=>ho pins s2 σ H2 x y v u Q I2 rx ry q)
theorem pe_un {op:UnaryOp} {r:V→Hp→VK→Prop} (ho:UnR X (unaryOp op) r) (ha:PE X a ta):PE X (.UnaryOp op a pos) (tUn r ta):=by
 intro pins s σ H Q I h
 exact UnaryOp_ (thn (ha pins s σ H _ I h) fun v s1 ⟨x,H1,I1,r1,q1⟩=>ho pins s1 σ H1 x v Q I1 r1 q1)
theorem opI {f:Value→Value→Sem Value} {C:Int→Int→Prop} {g:Int→Int→Int}
  (rule:∀ (i j:Int) (t u:Tok) (s:Shared) (Q:Value→Shared→Prop) (E:Value→Shared→Prop),C i j→Q (.int (g i j) s.toks) { s with toks:=s.toks + 1 }→wpAny (model X.prog X.w) X.A (f (.int i t) (.int j u)) Q E s) :
  OpR X f (rI C fun i j=>.int (g i j)):=by
 intro pins s σ H x y v u Q I rx ry h
 obtain ⟨i,j,rfl,rfl,hc,q⟩:=h
 obtain ⟨t,rfl⟩:=rx
 obtain ⟨t',rfl⟩:=ry
 exact rule i j t t' s _ _ hc ⟨.int (g i j),H,I.tok _,⟨_,rfl⟩,q⟩
theorem opI0 {f:Value→Value→Sem Value} {g:Int→Int→Int}
  (rule:∀ (i j:Int) (t u:Tok) (s:Shared) (Q:Value→Shared→Prop) (E:Value→Shared→Prop),Q (.int (g i j) s.toks) { s with toks:=s.toks + 1 }→wpAny (model X.prog X.w) X.A (f (.int i t) (.int j u)) Q E s) :
  OpR X f (rI0 fun i j=>.int (g i j)):=by
 intro pins s σ H x y v u Q I rx ry h
 obtain ⟨i,j,rfl,rfl,q⟩:=h
 obtain ⟨t,rfl⟩:=rx
 obtain ⟨t',rfl⟩:=ry
 exact rule i j t t' s _ _ ⟨.int (g i j),H,I.tok _,⟨_,rfl⟩,q⟩
theorem opB0 {f:Value→Value→Sem Value} {g:Int→Int→Bool}
  (rule:∀ (i j:Int) (t u:Tok) (s:Shared) (Q:Value→Shared→Prop) (E:Value→Shared→Prop),Q (.bool (g i j)) s→wpAny (model X.prog X.w) X.A (f (.int i t) (.int j u)) Q E s) :
  OpR X f (rI0 fun i j=>.bl (g i j)):=by
 intro pins s σ H x y v u Q I rx ry h
 obtain ⟨i,j,rfl,rfl,q⟩:=h
 obtain ⟨t,rfl⟩:=rx
 obtain ⟨t',rfl⟩:=ry
 exact rule i j t t' s _ _ ⟨.bl (g i j),H,I,rfl,q⟩

noncomputable def CDiv (i j:Int):Prop:=0 < j∧j < 1073741824
noncomputable def CMul (i j:Int):Prop:=(-(2 ^ 64) < i∧i < 2 ^ 64)∨(-(2 ^ 64) < j∧j < 2 ^ 64)
theorem CMul.ok {i j:Int} (h:CMul i j):IntMulOk i j:=by
 rcases h with ⟨h1,h2⟩ | ⟨h1,h2⟩
 ·exact .of_left (intBits_le_64 h1 h2)
 ·exact .of_right (intBits_le_64 h1 h2)
theorem op_add:OpR X (binaryOp .Add) (rI0 fun i j=>.int (i + j)):=opI0 fun _ _ _ _ _ _ _ q=>add_int q
theorem op_mul:OpR X (binaryOp .Mult) (rI CMul fun i j=>.int (i * j)):=opI fun _ _ _ _ _ _ _ hc q=>mul_int q hc.ok
theorem op_fdiv:OpR X (binaryOp .FloorDiv) (rI CDiv fun i j=>.int (i / j)):=opI fun i j _ _ _ _ _ hc q=>by
 have h1:(0:Int) < j:=hc.1
 have h2:j < 1073741824:=hc.2
 exact floordiv_int (by omega) (by rw [Int.fdiv_eq_ediv_of_nonneg i (by omega)];exact q) (.inl (PyProof.noPylong_small (by omega)))
theorem op_mod:OpR X (binaryOp .Mod) (rI (fun _ j=>0 < j) fun i j=>.int (i % j)):=opI fun i j _ _ _ _ _ hc q=>by
 have h1:(0:Int) < j:=hc
 exact mod_int' (by omega) (by rw [Int.fmod_eq_emod_of_nonneg i (by omega)];exact q)
theorem op_xor:OpR X (binaryOp .BitXor) (rI0 fun i j=>.int (Builtin.bitXor i j)):=opI0 fun _ _ _ _ _ _ _ q=>xor_int q

theorem unI {f:Value→Sem Value} {g:Int→Int}
  (rule:∀ (i:Int) (t:Tok) (s:Shared) (Q:Value→Shared→Prop) (E:Value→Shared→Prop),Q (.int (g i) s.toks) { s with toks:=s.toks + 1 }→wpAny (model X.prog X.w) X.A (f (.int i t)) Q E s) :
  UnR X f (rU fun i=>.int (g i)):=by
 intro pins s σ H x v Q I rx h
 obtain ⟨i,rfl,q⟩:=h
 obtain ⟨t,rfl⟩:=rx
 exact rule i t s _ _ ⟨.int (g i),H,I.tok _,⟨_,rfl⟩,q⟩
theorem un_neg:UnR X (unaryOp .USub) (rU fun i=>.int (-i)):=unI fun _ _ _ _ _ q=>neg_int q
end

noncomputable def scal:V→V→Bool
 | .non,.non=>true | .non,.int _=>true | .int _,.non=>true | .non,.bl _=>true | .bl _,.non=>true | .non,.str _=>true | .str _,.non=>true
 | .int _,.int _=>true | .bl _,.bl _=>true | .str _,.str _=>true | .byt _,.byt _=>true
 | .int _,.str _=>true | .str _,.int _=>true | .bl _,.str _=>true | .str _,.bl _=>true
 | _,_=>false
noncomputable def rEq:R2:=fun x y H Q=>scal x y = true∧Q (.bl (decide (x = y))) H
noncomputable def rNe:R2:=fun x y H Q=>scal x y = true∧Q (.bl (!decide (x = y))) H

theorem dec_int {i j:Int}:decide (V.int i = V.int j) = (i == j):=by
 rw [Bool.eq_iff_iff]
 simp
theorem dec_bl {i j:Bool}:decide (V.bl i = V.bl j) = (i == j):=by
 rw [Bool.eq_iff_iff]
 simp
theorem dec_str {i j:Str}:decide (V.str i = V.str j) = (i == j):=by
 rw [Bool.eq_iff_iff]
 simp
theorem dec_byt {i j:Array UInt8}:decide (V.byt i = V.byt j) = (i.toList == j.toList):=by
 rw [Bool.eq_iff_iff]
 cases i
 cases j
 simp

section
variable {X:Cx} {a b c:Expr} {ta tb tc:TE} {pos:Pos}
theorem fin_bl {pins:List (Addr×Obj)} {σ:St} {H:Hp} {s:Shared} {Q:VK} {k k':Bool} (I:Inv X pins σ H s) (q:Q (.bl k) H) (e:k = k'):EP X pins σ Q (.bool k') s:=by
 subst e
 exact ⟨.bl k,H,I,rfl,q⟩
theorem op_eq:OpR X (compareOp .Eq) rEq:=by
 intro pins s σ H x y v u Q I rx ry h
 obtain ⟨hs,q⟩:=h
 cases x with
 | non =>
  cases rx
  cases y with
  | non=>cases ry;exact PySem.EqNone.eq_none_none (fin_bl I q (by simp))
  | bl j=>cases ry;exact PySem.EqNone.eq_none_bool (fin_bl I q (by simp))
  | int j=>obtain ⟨t',rfl⟩:=ry;exact PySem.EqNone.eq_none_int (fin_bl I q (by simp))
  | str j=>obtain ⟨t',rfl⟩:=ry;exact PySem.EqNone.eq_none_str (fin_bl I q (by simp))
  | _=>exact absurd (show false = true from hs) Bool.false_ne_true
 | bl i =>
  cases rx
  cases y with
  | non=>cases ry;exact PySem.EqNone.eq_bool_none (fin_bl I q (by simp))
  | bl j=>cases ry;exact eq_bool (fin_bl I q dec_bl)
  | str j=>obtain ⟨t',rfl⟩:=ry;exact PySem.EqMixed.eq_bool_str (fin_bl I q (by simp))
  | _=>exact absurd (show false = true from hs) Bool.false_ne_true
 | int i =>
  obtain ⟨t,rfl⟩:=rx
  cases y with
  | non=>cases ry;exact PySem.EqNone.eq_int_none (fin_bl I q (by simp))
  | int j=>obtain ⟨t',rfl⟩:=ry;exact eq_int (fin_bl I q dec_int)
  | str j=>obtain ⟨t',rfl⟩:=ry;exact PySem.EqMixed.eq_int_str (fin_bl I q (by simp))
  | _=>exact absurd (show false = true from hs) Bool.false_ne_true
 | str i =>
  obtain ⟨t,rfl⟩:=rx
  cases y with
  | non=>cases ry;exact PySem.EqNone.eq_str_none (fin_bl I q (by simp))
  | bl j=>cases ry;exact PySem.EqMixed.eq_str_bool (fin_bl I q (by simp))
  | int j=>obtain ⟨t',rfl⟩:=ry;exact PySem.EqMixed.eq_str_int (fin_bl I q (by simp))
  | str j=>obtain ⟨t',rfl⟩:=ry;exact eq_str (fin_bl I q dec_str)
  | _=>exact absurd (show false = true from hs) Bool.false_ne_true
 | byt i =>
  obtain ⟨t,rfl⟩:=rx
  cases y with
  | byt j=>obtain ⟨t',rfl⟩:=ry;exact PySem.W.eq_bytes (fin_bl I q dec_byt)
  | _=>exact absurd (show false = true from hs) Bool.false_ne_true
 | _=>cases y <;> exact absurd (show false = true from hs) Bool.false_ne_true
theorem op_ne:OpR X (compareOp .NotEq) rNe:=by
 intro pins s σ H x y v u Q I rx ry h
 obtain ⟨hs,q⟩:=h
 cases x with
 | non =>
  cases rx
  cases y with
  | non=>cases ry;exact PySem.EqNone.ne_none_none (fin_bl I q (by simp))
  | bl j=>cases ry;exact PySem.EqNone.ne_none_bool (fin_bl I q (by simp))
  | int j=>obtain ⟨t',rfl⟩:=ry;exact PySem.EqNone.ne_none_int (fin_bl I q (by simp))
  | str j=>obtain ⟨t',rfl⟩:=ry;exact PySem.EqNone.ne_none_str (fin_bl I q (by simp))
  | _=>exact absurd (show false = true from hs) Bool.false_ne_true
 | bl i =>
  cases rx
  cases y with
  | non=>cases ry;exact PySem.EqNone.ne_bool_none (fin_bl I q (by simp))
  | bl j=>cases ry;exact ne_bool (fin_bl I q (congrArg not dec_bl))
  | str j=>obtain ⟨t',rfl⟩:=ry;exact PySem.EqMixed.ne_bool_str (fin_bl I q (by simp))
  | _=>exact absurd (show false = true from hs) Bool.false_ne_true
 | int i =>
  obtain ⟨t,rfl⟩:=rx
  cases y with
  | non=>cases ry;exact PySem.EqNone.ne_int_none (fin_bl I q (by simp))
  | int j=>obtain ⟨t',rfl⟩:=ry;exact ne_int (fin_bl I q (congrArg not dec_int))
  | str j=>obtain ⟨t',rfl⟩:=ry;exact PySem.EqMixed.ne_int_str (fin_bl I q (by simp))
  | _=>exact absurd (show false = true from hs) Bool.false_ne_true
 | str i =>
  obtain ⟨t,rfl⟩:=rx
  cases y with
  | non=>cases ry;exact PySem.EqNone.ne_str_none (fin_bl I q (by simp))
  | bl j=>cases ry;exact PySem.EqMixed.ne_str_bool (fin_bl I q (by simp))
  | int j=>obtain ⟨t',rfl⟩:=ry;exact PySem.EqMixed.ne_str_int (fin_bl I q (by simp))
  | str j=>obtain ⟨t',rfl⟩:=ry;exact ne_str (fin_bl I q (congrArg not dec_str))
  | _=>exact absurd (show false = true from hs) Bool.false_ne_true
 | byt i =>
  obtain ⟨t,rfl⟩:=rx
  cases y with
  | byt j=>obtain ⟨t',rfl⟩:=ry;exact PySem.W.ne_bytes (fin_bl I q (congrArg not dec_byt))
  | _=>exact absurd (show false = true from hs) Bool.false_ne_true
 | _=>cases y <;> exact absurd (show false = true from hs) Bool.false_ne_true

theorem op_lt:OpR X (compareOp .Lt) (rI0 fun i j=>.bl (decide (i < j))):=opB0 fun _ _ _ _ _ _ _ q=>lt_int q
theorem op_le:OpR X (compareOp .LtE) (rI0 fun i j=>.bl (decide (i≤j))):=opB0 fun _ _ _ _ _ _ _ q=>le_int q
theorem op_gt:OpR X (compareOp .Gt) (rI0 fun i j=>.bl (decide (j < i))):=opB0 fun _ _ _ _ _ _ _ q=>gt_int q
theorem op_ge:OpR X (compareOp .GtE) (rI0 fun i j=>.bl (decide (j≤i))):=opB0 fun _ _ _ _ _ _ _ q=>ge_int q
theorem nomark (b:Expr) {op:CmpOp} (h:op≠.In:=by decide) (h2:op≠.NotIn:=by decide):behindInMarks op b = false:=by
 have e1:(op == CmpOp.In) = false:=by cases op <;> first | rfl | exact absurd rfl h
 have e2:(op == CmpOp.NotIn) = false:=by cases op <;> first | rfl | exact absurd rfl h2
 cases b <;> simp [behindInMarks,e1,e2]
theorem pe_cmpR {op:CmpOp} {r:R2} (ho:OpR X (compareOp op) r) (ha:PE X a ta) (hb:PE X b tb) (hm:behindInMarks op b = false):PE X (.Compare a [op] [b] pos) (tOp r ta tb):=by
 intro pins s σ H Q I h
 exact wpAny_Compare1 (binT ha hb I h fun v u s2 x y H2 I2 rx ry q=>ho pins s2 σ H2 x y v u Q I2 rx ry q) hm
noncomputable def tTest (t:TE):TT:=fun σ H Q=>t σ H fun x H'=>∃ k,x = .bl k∧Q k H'
theorem pt_cmpR {op:CmpOp} {r:R2} (ho:OpR X (compareOp op) r) (ha:PE X a ta) (hb:PE X b tb) (hm:behindInMarks op b = false):PT X (.Compare a [op] [b] pos) (tTest (tOp r ta tb)):=by
 intro pins s σ H Q I h
 refine wpAny_isTrue_Compare1 (thn (ha pins s σ H _ I h) fun v s1 ⟨x,H1,I1,r1,q1⟩=>thn (hb pins s1 σ H1 _ I1 q1) fun u s2 ⟨y,H2,I2,r2,q2⟩ =>
  thn (ho pins s2 σ H2 x y v u _ I2 r1 r2 q2) fun c s3 ⟨z,H3,I3,r3,k,e,q3⟩=>?_) hm
 subst e
 cases r3
 exact wpAny_truthy_bool ⟨H3,I3,q3⟩
theorem line63:(sizeLine:Nat) < 2 ^ 63:=by rw [sizeLine_eq];decide
theorem vals1 {x:V} {us:List Value} (r:Vals [x] us):∃ u,us = [u]∧RelV x u:=by
 cases r with
 | cons r1 r2=>cases r2;exact ⟨_,rfl,r1⟩
theorem vals2 {x y:V} {us:List Value} (r:Vals [x,y] us):∃ u w',us = [u,w']∧RelV x u∧RelV y w':=by
 cases r with
 | cons r1 r2 =>
  cases r2 with
  | cons r3 r4=>cases r4;exact ⟨_,_,rfl,r1,r3⟩
theorem call_max2 (hc:X.calm = true):CallR X (.builtin "max") (fun xs H Q=>∃ i j,xs = [.int i,.int j]∧Q (.int (if j > i then j else i)) H):=by
 intro pins s σ H xs us Q I r h
 obtain ⟨i,j,rfl,q⟩:=h
 obtain ⟨u,w',rfl,⟨t,rfl⟩,⟨t',rfl⟩⟩:=vals2 r
 refine max_two_ints (I.ok.hd hc) fun h' tk k=>⟨_,H,I.kept k,?_,q⟩
 by_cases hj:j > i
 ·rw [if_pos hj,if_pos hj];exact ⟨_,rfl⟩
 ·rw [if_neg hj,if_neg hj];exact ⟨_,rfl⟩
theorem call_min2 (hc:X.calm = true):CallR X (.builtin "min") (fun xs H Q=>∃ i j,xs = [.int i,.int j]∧Q (.int (if j < i then j else i)) H):=by
 intro pins s σ H xs us Q I r h
 obtain ⟨i,j,rfl,q⟩:=h
 obtain ⟨u,w',rfl,⟨t,rfl⟩,⟨t',rfl⟩⟩:=vals2 r
 refine min_two_ints (I.ok.hd hc) fun h' tk k=>⟨_,H,I.kept k,?_,q⟩
 by_cases hj:j < i
 ·rw [if_pos hj,if_pos hj];exact ⟨_,rfl⟩
 ·rw [if_neg hj,if_neg hj];exact ⟨_,rfl⟩
end
end L2

namespace L2
open PySem PySem.Spec PyProof.Rows

structure ObjM (h:Heap) (x dx C:Addr) (mA:Str→Option Value):Prop where
 obj:h.get? x = some (PySem.W.instObj C dx)
 ns:h.Ns1 dx mA
 ne:dx≠x

theorem lookIn_ns {h:Heap} {dx:Addr} {mA:Str→Option Value} (n:h.Ns1 dx mA):∃ od,h.get? dx = some od∧∀ name,PySem.W.lookIn name od = some (mA name):=by
 obtain ⟨o,es,ep,ho,hd,hk,_,hm⟩:=n
 refine ⟨o,ho,fun name=>?_⟩
 have e:=hm name
 unfold nsFind findBy at e
 rw [← Array.find?_toList] at e
 unfold PySem.W.lookIn
 rw [hd]
 dsimp only
 split
 ·rename_i y q
  rw [q] at e
  exact congrArg some e
 ·rename_i q
  rw [q] at e
  have a:es.toList.any (·.refKey) = false:=by
   rw [List.any_eq_false]
   intro y hy
   obtain ⟨z,t,hkey⟩:=hk y (Array.mem_toList_iff.mp hy)
   simp [DictEntry.refKey,hkey]
  have a':¬ es.toList.any (·.refKey) = true:=by rw [a];exact Bool.false_ne_true
  rw [if_neg a']
  exact congrArg some e

theorem ObjM.look {h:Heap} {x dx C:Addr} {mA:Str→Option Value} (I:ObjM h x dx C mA):∃ od,PySem.W.InstAt h x (PySem.W.instObj C dx) C (some od)∧∀ name,PySem.W.lookIn name od = some (mA name) :=
 let ⟨od,ho,hl⟩:=lookIn_ns I.ns
 ⟨od,⟨I.obj,rfl,rfl,ho⟩,hl⟩

section
variable {prog:Program} {w:World} {A:Around} {E:Value→Shared→Prop} {s:Shared} {K:PySem.W.Frag} {x dx C f:Addr} {mA:Str→Option Value} {name:Str} {v:Value}

theorem get_map {expr:Bool} {Q:Value→Shared→Prop} (X:K.In s.heap) (I:ObjM s.heap x dx C mA) (hg:PySem.W.plainGet K C name = true) (hh:PySem.W.hasDictIn K C = true)
  (ha:PySem.W.findIn K (.ref C) name = some none) (hv:mA name = some v) (hv':PySem.W.handedIn v = true) (h:Q v { s with toks:=s.toks + 1 }) :
  wpAny (model prog w) A (getAttr (.ref x) name expr) Q E s:=by
 obtain ⟨od,J,hl⟩:=I.look
 exact PySem.W.get_value X J (PySem.W.plainGet_of hg).1 (PySem.W.findObj_own hh ha rfl (by rw [hl,hv])) hv' h

theorem get_meth {pl:Sem Bool} {Q:Value×List Value→Shared→Prop} (X:K.In s.heap) (I:ObjM s.heap x dx C mA) (hg:PySem.W.plainGet K C name = true)
  (hf:PySem.W.findIn K (.ref C) name = some (some (.ref f))) (ht:PySem.W.isFn K (.ref f) = true) (hv:mA name = none) (h:Q (.ref f,[.ref x]) s) :
  wpAny (model prog w) A (getMethod (.ref x) name pl) Q E s:=by
 obtain ⟨od,J,hl⟩:=I.look
 exact PySem.W.method_fn X J (PySem.W.plainGet_of hg).1 (PySem.W.plainGet_of hg).2 hf (beq_iff_eq.mp ht) (by show (PySem.W.lookIn name od).map (·.isSome) = some false;rw [hl,hv];rfl) h

theorem set_map {ns:List Str} {Q:Unit→Shared→Prop} (X:K.In s.heap) (I:ObjM s.heap x dx C mA)
  (hs:PySem.W.findIn K (.ref C) "__setattr__" = some (some (.builtin "object.__setattr__"))) (hp:PySem.W.plainOver K C = true) (ht:PySem.W.takerIn K C name = some none) (hh:PySem.W.hasDictIn K C = true)
  (hw:PySem.Within mA ns) (hsz:ns.length≤sizeLine)
  (h:∀ h',ObjM h' x dx C (fun y=>if y = name then some v else mA y)→Heap.SameBut dx s.heap h'→Q () { s with heap:=h',toks:=s.toks + 2 }) :
  wpAny (model prog w) A (setAttr (.ref x) name v) Q E s:=by
 obtain ⟨od,J,hl⟩:=I.look
 refine PySem.W.set_plain X J hs (PySem.W.osa_open (s:={ s with toks:=s.toks + 1 }) (r:=none) X J hp ht fun b=>?_)
 obtain ⟨cd,hc,hd'⟩:=PySem.W.any_some hh
 have hx:s.heap.get? x = some ⟨.ref C,some dx,.plain,#[]⟩:=I.obj
 refine wpAny_bind (wpAny_pure (wpAny_bind (wpAny_bind (wpAny_loadPart hx (wpAny_bind (PySem.W.Looks.here (s:={ s with toks:=s.toks + 1 }) (PySem.W.looks_clsIn X hc) ?_))))))
 rw [hd']
 refine wpAny_pure (a:=some dx) (wpAny_bind (wpAny_pure (wpAny_bind ?_)))
 refine wpAny_nsSet1 (s:={ s with toks:=s.toks + 1 }) I.ns fun h' hn2 hs2=>?_
 obtain ⟨oD,esD,epD,hoD,hdD,hcD⟩:=hn2.count (PySem.Within.cons name v hw)
 refine wpAny_bind (wpAny_lookBehind hoD (by rw [hdD];exact pastItsLine_dict (Nat.le_trans hcD (by rw [List.length_cons];omega))) ?_)
 exact wpAny_pure (h _ ⟨(hs2.2 _ (Ne.symm I.ne)).trans I.obj,hn2,I.ne⟩ hs2)

theorem make_map {R:Result→Shared→Prop} {vs:List Value} {kw:List (Str×Value)} (X:K.In s.heap) (hm:PySem.W.makesIn K C = true)
  (hi:PySem.W.findIn K (.ref C) "__init__" = some (some (.ref f))) (hf:PySem.W.typeIn K (.ref f) = some (.type "function"))
  (h:codeAny (model prog w) (A.under (.builtin "type.__call__" ⟨.ref C :: vs,kw⟩)) (.call (.ref f) ⟨.ref (s.heap.objs.size + 1) :: vs,kw⟩) (PySem.W.InitBack (s.heap.objs.size + 1) R)
   { s with heap:=(s.heap.push PySem.W.emptyDict).push (PySem.W.instObj C s.heap.objs.size) }) :
  codeAny (model prog w) A (.call (.ref C) ⟨vs,kw⟩) R s:=by
 obtain ⟨hh,g,d,t,os⟩:=s
 exact PySem.W.make_core (PySem.W.makes_of X hm) (PySem.W.looks_findIn X hi) (fun self=>PySem.W.bind_fn X self hf) (.inl rfl) h
end

noncomputable def putF (f:Str) (v:V):List (Str×V)→List (Str×V)
 | []=>[(f,v)]
 | (g,x) :: r=>if g = f then (g,v) :: r else (g,x) :: putF f v r
theorem lookup_putF (f g:Str) (v:V):∀ fs:List (Str×V),(putF f v fs).lookup g = if g = f then some v else fs.lookup g
 | []=>by
  show List.lookup g [(f,v)] = _
  by_cases h:g = f
  ·have hb:(g == f) = true:=beq_iff_eq.mpr h
   simp only [List.lookup,hb,if_pos h]
  ·have hb:(g == f) = false:=beq_eq_false_iff_ne.mpr h
   simp only [List.lookup,hb,if_neg h]
 | (k,x) :: r=>by
  have ih:=lookup_putF f g v r
  rw [show putF f v ((k,x) :: r) = (if k = f then (k,v) :: r else (k,x) :: putF f v r) from rfl]
  by_cases hk:k = f
  ·rw [if_pos hk]
   by_cases h:g = k
   ·have hb:(g == k) = true:=beq_iff_eq.mpr h
    simp only [List.lookup,hb,if_pos (h.trans hk)]
   ·have hb:(g == k) = false:=beq_eq_false_iff_ne.mpr h
    simp only [List.lookup,hb,if_neg (fun e:g = f=>h (e.trans hk.symm))]
  ·rw [if_neg hk]
   by_cases h:g = k
   ·have hb:(g == k) = true:=beq_iff_eq.mpr h
    simp only [List.lookup,hb,if_neg (fun e:g = f=>hk (h.symm.trans e))]
   ·have hb:(g == k) = false:=beq_eq_false_iff_ne.mpr h
    simp only [List.lookup,hb]
    exact ih
theorem keys_putF (f:Str) (v:V):∀ fs:List (Str×V),f∈(putF f v fs).map (·.1)∧∀ g,g∈fs.map (·.1)→g∈(putF f v fs).map (·.1)
 | []=>⟨by simp [putF],fun g h=>by simp at h⟩
 | (k,x) :: r=>by
  obtain ⟨i1,i2⟩:=keys_putF f v r
  rw [show putF f v ((k,x) :: r) = (if k = f then (k,v) :: r else (k,x) :: putF f v r) from rfl]
  by_cases hk:k = f
  ·rw [if_pos hk]
   subst hk
   exact ⟨by simp,fun g h=>by simpa using h⟩
  ·rw [if_neg hk]
   refine ⟨?_,fun g h=>?_⟩
   ·rw [List.map_cons]
    exact List.mem_cons_of_mem _ i1
   ·rw [List.map_cons] at h ⊢
    rcases List.mem_cons.mp h with e | e
    ·exact List.mem_cons.mpr (.inl e)
    ·exact List.mem_cons_of_mem _ (i2 g e)
theorem length_putF (f:Str) (v:V):∀ fs:List (Str×V),(putF f v fs).length≤fs.length + 1
 | []=>by simp [putF]
 | (k,x) :: r=>by
  have ih:=length_putF f v r
  rw [show putF f v ((k,x) :: r) = (if k = f then (k,v) :: r else (k,x) :: putF f v r) from rfl]
  by_cases hk:k = f
  ·rw [if_pos hk,List.length_cons,List.length_cons];omega
  ·rw [if_neg hk,List.length_cons,List.length_cons];omega

theorem RelO.some_of {v:V} {o:Option Value} (r:RelO (some v) o):∃ u,o = some u∧RelV v u:=by
 cases o with
 | none=>exact (show False from r).elim
 | some u=>exact ⟨u,rfl,r⟩
theorem RelO.none_of {o:Option Value} (r:RelO none o):o = none:=by
 cases o with
 | none=>rfl
 | some u=>exact (show False from r).elim
theorem handed_of {v:V} {u:Value} (r:RelV v u):PySem.W.handedIn u = true:=by
 cases v with
 | non=>cases (show u = Value.none from r);rfl
 | bl b=>cases (show u = Value.bool b from r);rfl
 | int i=>obtain ⟨t,e⟩:=(show ∃ t,u = Value.int i t from r);cases e;rfl
 | str x=>obtain ⟨t,e⟩:=(show ∃ t,u = Value.str x t from r);cases e;rfl
 | byt b=>obtain ⟨t,e⟩:=(show ∃ t,u = Value.bytes b t from r);cases e;rfl
 | flt b=>obtain ⟨t,e⟩:=(show ∃ t,u = Value.float b t from r);cases e;rfl
 | ref a=>cases (show u = Value.ref a from r);rfl
 | ty n=>cases (show u = Value.type n from r);rfl

section
variable {P:Program} {w:World} {H H':Hp} {h h':Heap} {a C dx:Addr} {fs fs':List (Str×V)}
theorem ins_get (hok:HOk P w H h) (e:H a = some (.ins C dx fs)):∃ mA,ObjM h a dx C mA∧(∀ f,RelO (fs.lookup f) (mA f))∧PySem.Within mA (fs.map (·.1))∧fs.length≤1000∧H dx = some (.own a):=by
 obtain ⟨d,z,ne,ob,mA,n,r,q⟩:=(show ObjOk P w H h a (.ins C dx fs) from hok a _ e)
 exact ⟨mA,⟨ob,n,ne⟩,r,q,z,d⟩
end

structure Cls (K:PySem.W.Frag) (C:Addr):Prop where
 pg:PySem.W.plainGet K C Str.empty = true
 hd:PySem.W.hasDictIn K C = true
 po:PySem.W.plainOver K C = true
 sa:PySem.W.findIn K (.ref C) "__setattr__" = some (some (.builtin "object.__setattr__"))
theorem Cls.get {K:PySem.W.Frag} {C:Addr} (c:Cls K C) (f:Str):PySem.W.plainGet K C f = true:=c.pg
noncomputable def NoAttr (K:PySem.W.Frag) (C:Addr) (f:Str):Prop:=PySem.W.findIn K (.ref C) f = some none
theorem NoAttr.taker {K:PySem.W.Frag} {C:Addr} {f:Str} (n:NoAttr K C f):PySem.W.takerIn K C f = some none:=by
 unfold PySem.W.takerIn
 rw [show PySem.W.findIn K (.ref C) f = some none from n]
 rfl
structure Meth (K:PySem.W.Frag) (C:Addr) (m:Str) (f:Addr):Prop where
 at_:PySem.W.findIn K (.ref C) m = some (some (.ref f))
 fn:PySem.W.isFn K (.ref f) = true
 kp:PySem.W.keepIn K (.ref f) = true

section
variable {X:Cx} {pins:List (Addr×Obj)} {σ:St} {H:Hp} {s:Shared} {a C dx:Addr} {fs:List (Str×V)} {f:Str} {v:V} {A:Around} {E:Value→Shared→Prop}

theorem getattr_ok {b:Bool} {Q:Value→Shared→Prop} (I:Inv X pins σ H s) (e:H a = some (.ins C dx fs)) (c:Cls X.K C) (n:NoAttr X.K C f) (l:fs.lookup f = some v)
  (h:∀ u s',Inv X pins σ H s'→RelV v u→Q u s'):wpAny (model X.prog X.w) A (getAttr (.ref a) f b) Q E s:=by
 obtain ⟨mA,O,r,_,_,_⟩:=ins_get I.hok e
 obtain ⟨u,hu,ru⟩:=RelO.some_of (v:=v) (o:=mA f) (by rw [← l];exact r f)
 exact get_map I.kIn O (c.get f) c.hd n hu (handed_of ru) (h u _ (I.tok _) ru)

theorem getmeth_ok {m:Str} {g:Addr} {pl:Sem Bool} {Q:Value×List Value→Shared→Prop} (I:Inv X pins σ H s) (e:H a = some (.ins C dx fs)) (c:Cls X.K C) (k:Meth X.K C m g) (l:fs.lookup m = none)
  (h:Q (.ref g,[.ref a]) s):wpAny (model X.prog X.w) A (getMethod (.ref a) m pl) Q E s:=by
 obtain ⟨mA,O,r,_,_,_⟩:=ins_get I.hok e
 have hn:mA m = none:=RelO.none_of (by rw [← l];exact r m)
 exact get_meth I.kIn O (c.get m) k.at_ k.fn hn h

theorem setattr_ok {y:V} {u:Value} {Q:Unit→Shared→Prop} (I:Inv X pins σ H s) (e:H a = some (.ins C dx fs)) (c:Cls X.K C) (n:NoAttr X.K C f) (hl:fs.length < 1000) (ry:RelV y u)
  (h:∀ s',Inv X pins σ (upd H a (.ins C dx (putF f y fs))) s'→Q () s'):wpAny (model X.prog X.w) A (setAttr (.ref a) f u) Q E s:=by
 obtain ⟨mA,O,r,wi,_,ho⟩:=ins_get I.hok e
 have hz:(fs.map (·.1)).length≤sizeLine:=by rw [List.length_map,sizeLine_eq];omega
 refine set_map I.kIn O c.sa c.po n.taker c.hd wi hz fun h' O' sb=>h _ ?_
 have hd:∃ o,h'.get? dx = some o:=let ⟨o,_,_,e',_⟩:=O'.ns;⟨o,e'⟩
 refine I.write (x:=a) (e:=dx) (by rw [e];exact True.intro) (.inr ho) (fun b q hb z=>(sb.2 b hb).trans z) hd ?_
 refine ⟨by rw [upd_ne O.ne];exact ho,?_,O.ne,O'.obj,_,O'.ns,fun g=>?_,fun g hg=>?_⟩
 ·have:=length_putF f y fs;omega
 ·show RelO ((putF f y fs).lookup g) (if g = f then some u else mA g)
  rw [lookup_putF]
  by_cases q:g = f
  ·rw [if_pos q,if_pos q];exact ry
  ·rw [if_neg q,if_neg q];exact r g
 ·by_cases q:g = f
  ·rw [q];exact (keys_putF f y fs).1
  ·refine (keys_putF f y fs).2 g (wi g fun z=>hg ?_)
   show (if g = f then some u else mA g) = none
   rw [if_neg q];exact z

theorem Inv.made (I:Inv X pins σ H s):Inv X pins σ (upd (upd H s.heap.objs.size (.own (s.heap.objs.size + 1))) (s.heap.objs.size + 1) (.ins C s.heap.objs.size []))
  { s with heap:=(s.heap.push PySem.W.emptyDict).push (PySem.W.instObj C s.heap.objs.size) }:=by
 have e1:(s.heap.push PySem.W.emptyDict).get? s.heap.objs.size = some PySem.W.emptyDict:=Heap.get?_push_size s.heap rfl
 have e2:((s.heap.push PySem.W.emptyDict).push (PySem.W.instObj C s.heap.objs.size)).get? (s.heap.objs.size + 1) = some (PySem.W.instObj C s.heap.objs.size):=by
  have:=Heap.get?_push_size (s.heap.push PySem.W.emptyDict) (o:=PySem.W.instObj C s.heap.objs.size) rfl
  rwa [Heap.size_push] at this
 have e3:(s.heap.push PySem.W.emptyDict).Ns s.heap.objs.size (fun _=>none):=⟨PySem.W.emptyDict,#[],_,e1,rfl,(fun e he=>absurd he (by simp)),fun _=>rfl⟩
 have I1:=I.laid (a:=s.heap.objs.size) (o:=.own (s.heap.objs.size + 1)) (h':=s.heap.push PySem.W.emptyDict) (t':=s.toks) (fun b u q=>Heap.get?_push_of_some _ q) (Nat.le_refl _) ⟨_,e1⟩
 refine I1.laid (a:=s.heap.objs.size + 1) (o:=.ins C s.heap.objs.size []) (t':=s.toks) (fun b u q=>Heap.get?_push_of_some _ q) (Nat.le_of_eq (Heap.size_push _ _)) ?_
 have ne:s.heap.objs.size≠s.heap.objs.size + 1:=Nat.ne_of_lt (Nat.lt_succ_self _)
 refine ⟨by rw [upd_ne ne,upd_same],Nat.zero_le _,ne,e2,fun _=>none,(Heap.Ns1.of_empty e3).at fun o q=>Heap.get?_push_of_some _ q,fun _=>True.intro,fun y hy=>absurd rfl hy⟩

theorem attr_of {prog:Program} {w:World} {env:Env} {e:Expr} {f:Str} {pos:Pos} {s:Shared} {Q:Value→Shared→Prop} (hb:attributeBase e f env (eval e env) = eval e env)
  (h:wpAny (model prog w) A (eval e env) (fun o s₁=>wpAny (model prog w) A (getAttr o f true) Q E s₁) E s):wpAny (model prog w) A (eval (.Attribute e f pos) env) Q E s :=
 Attribute_any_ h (by rw [arm_eval_Attribute,hb])
end

noncomputable def tFld (K:PySem.W.Frag) (ta:TE) (f:Str):TE:=fun σ H Q=>ta σ H fun x H1=>∃ a C dx fs v,x = .ref a∧H1 a = some (.ins C dx fs)∧Cls K C∧NoAttr K C f∧fs.lookup f = some v∧Q v H1
noncomputable def sFld (K:PySem.W.Frag) (ta tv:TE) (f:Str):TS:=fun D σ H=>tv σ H fun y H1=>ta σ H1 fun x H2=>∃ a C dx fs,x = .ref a∧H2 a = some (.ins C dx fs)∧Cls K C∧NoAttr K C f∧fs.length < 1000 ∧
 D.nx σ (upd H2 a (.ins C dx (putF f y fs)))
section
variable {X:Cx} {o e value:Expr} {f:Str} {pos pos' tpos:Pos} {ta tv:TE}
theorem pe_fld (he:PE X e ta) (hb:attributeBase e f X.env (eval e X.env) = eval e X.env):PE X (.Attribute e f pos) (tFld X.K ta f):=by
 intro pins s σ H Q I h
 refine attr_of hb (thn (he pins s σ H _ I h) fun u s1 ⟨x,H1,I1,rx,a,C,dx,fs,v,ex,ea,c,n,l,q⟩=>?_)
 subst ex
 obtain rfl:u = Value.ref a:=rx
 exact getattr_ok I1 ea c n l fun u' s2 I2 ru=>⟨v,H1,I2,ru,q⟩
theorem ps_fld (ha:PE X o ta) (hv:PE X value tv) (hs:swapsWith value (some (.Attribute o f pos')) pos.line X.env = pure false):PS X (.Assign [.Attribute o f pos'] value pos) (sFld X.K ta tv f):=by
 intro pins s σ H D I h
 refine plainObj_wpAny_Assign_Attribute (thn (hv pins s σ H _ I h) fun u s1 ⟨y,H1,I1,ry,q⟩=>thn (ha pins s1 σ H1 _ I1 q) fun ov s2 ⟨x,H2,I2,rx,a,C,dx,fs,ex,ea,c,n,l,q2⟩=>?_) hs
 subst ex
 obtain rfl:ov = Value.ref a:=rx
 exact setattr_ok I2 ea c n l ry fun s3 I3=>⟨σ,_,I3,q2⟩
end

section
variable {X:Cx} {pins:List (Addr×Obj)} {σ:St} {H:Hp} {s:Shared} {A:Around} {E:Value→Shared→Prop} {Q:Value→Shared→Prop} {c:Value} {b:Bool}
inductive TyOf (K : PySem.W.Frag) (H : Hp) : V → Value → Prop where
  | non : TyOf K H .non (.type "NoneType")
  | bl (x : Bool) : TyOf K H (.bl x) (.type "bool")
  | int (i : Int) : TyOf K H (.int i) (.type "int")
  | str (x : Str) : TyOf K H (.str x) (.type "str")
  | flt (x : UInt64) : TyOf K H (.flt x) (.type "float")
  | lst {a : Addr} {xs : List V} (e : H a = some (.lst xs)) : TyOf K H (.ref a) (.type "list")
  | frz {a : Addr} {o : Obj} {xs : List V} (e : H a = some (.frz o (.lst xs))) : TyOf K H (.ref a) (.type "list")
  | tup {a : Addr} {xs : List V} (e : H a = some (.tup xs)) : TyOf K H (.ref a) (.type "tuple")
  | dK {a : Addr} {kvs : List (Key × V)} (e : H a = some (.dK kvs)) : TyOf K H (.ref a) (.type "dict")
  | dT {a : Addr} {kvs : List (List Key × V)} (e : H a = some (.dT kvs)) : TyOf K H (.ref a) (.type "dict")
  | ins {a C dx : Addr} {fs : List (Str × V)} (e : H a = some (.ins C dx fs)) (cl : Cls K C) (ha : PySem.W.findIn K (.ref C) "__class__" = some (some (.builtin "object.__class__")))
      (hn : PySem.W.specialIn K (.builtin "object.__class__") "__get__" = some (some (.builtin "getset_descriptor.__get__"))) (htk : PySem.W.takesIn K (.builtin "object.__class__") = some true)
      (hm : PySem.W.mroIn K C (.type "object") = some true) : TyOf K H (.ref a) (.ref C)
theorem isinst_ok {x:V} {u t:Value} (I:Inv X pins σ H s) (rx:RelV x u) (ty:TyOf X.K H x t) (e:PySem.W.kitOne X.K t c = some b) (h:∀ tk,Q (.bool b) { s with toks:=tk }) :
  wpAny (model X.prog X.w) A (call (.builtin "isinstance") [u,c]) Q E s:=by
 cases ty with
 | non=>cases (show u = Value.none from rx);exact PySem.W.kia_one PySem.W.kitx_none I.kIn True.intro e (fun z=>nomatch z) h
 | bl y=>cases (show u = Value.bool y from rx);exact PySem.W.kia_one PySem.W.kitx_bool I.kIn True.intro e (fun z=>nomatch z) h
 | int i=>obtain ⟨t,q⟩:=(show ∃ t,u = Value.int i t from rx);cases q;exact PySem.W.kia_one PySem.W.kitx_int I.kIn True.intro e (fun z=>nomatch z) h
 | str y=>obtain ⟨t,q⟩:=(show ∃ t,u = Value.str y t from rx);cases q;exact PySem.W.kia_one PySem.W.kitx_str I.kIn True.intro e (fun z=>nomatch z) h
 | flt y=>obtain ⟨t,q⟩:=(show ∃ t,u = Value.float y t from rx);cases q;exact PySem.W.kia_one PySem.W.kitx_float I.kIn True.intro e (fun z=>nomatch z) h
 | @lst a xs ea =>
  cases (show u = Value.ref a from rx)
  obtain ⟨_,_,n,_,h1⟩:=(show ObjOk X.prog X.w H s.heap a (.lst xs) from I.hok a _ ea)
  exact PySem.W.kia_one PySem.W.kitx_list I.kIn ⟨_,h1,rfl⟩ e (fun z=>nomatch z) h
 | @frz a ob xs ea =>
  cases (show u = Value.ref a from rx)
  obtain ⟨_,_,_,n,_,h1⟩:=(show ObjOk X.prog X.w H s.heap a (.frz ob (.lst xs)) from I.hok a _ ea)
  exact PySem.W.kia_one PySem.W.kitx_list I.kIn ⟨_,h1,rfl⟩ e (fun z=>nomatch z) h
 | @tup a xs ea =>
  cases (show u = Value.ref a from rx)
  obtain ⟨_,_,_,p⟩:=(show ObjOk X.prog X.w H s.heap a (.tup xs) from I.hok a _ ea)
  obtain ⟨o,h1,h2,_⟩:=p
  exact PySem.W.kia_one PySem.W.kitx_tuple I.kIn ⟨o,h1,h2⟩ e (fun z=>nomatch z) h
 | @dK a kvs ea =>
  cases (show u = Value.ref a from rx)
  obtain ⟨_,_,vs,_,p⟩:=(show ObjOk X.prog X.w H s.heap a (.dK kvs) from I.hok a _ ea)
  obtain ⟨o,es,ep,h1,h2,_⟩:=p
  exact PySem.W.kia_one PySem.W.kitx_dict I.kIn ⟨o,h1,h2.1⟩ e (fun z=>nomatch z) h
 | @dT a kvs ea =>
  cases (show u = Value.ref a from rx)
  obtain ⟨_,_,xs,_,o,es,ep,h1,h2,_⟩:=(show ObjOk X.prog X.w H s.heap a (.dT kvs) from I.hok a _ ea)
  exact PySem.W.kia_one PySem.W.kitx_dict I.kIn ⟨o,h1,h2.1⟩ e (fun z=>nomatch z) h
 | @ins a C dx fs ea cl ha hn htk hm =>
  cases (show u = Value.ref a from rx)
  obtain ⟨mA,O,_⟩:=ins_get I.hok ea
  obtain ⟨od,J,_⟩:=O.look
  exact PySem.W.kia_one (PySem.W.kitx_own (cl.get _) cl.hd ha hn htk hm) I.kIn J e (fun z=>nomatch z) h
end
end L2

namespace L2
open PySem PySem.Spec PyProof.Rows

structure Room (k:Nat) (A:Around):Prop where
 hd:A.handled = none
 dp:A.depth + 3 * k + 5 < recursionLimit
 un:A.units + 16 * k + 200 < cLine
 gd:A.guards = some []
theorem Room.mono {j k:Nat} {A:Around} (r:Room k A) (h:j≤k):Room j A:=⟨r.hd,by have:=r.dp;omega,by have:=r.un;omega,r.gd⟩
theorem Room.deeper {k:Nat} {A:Around} (r:Room (k + 1) A) (env:Env):Room k (A.deeper env) :=
 ⟨r.hd,by have:=r.dp;show A.depth + 1 + 3 * k + 5 < _;omega,by have:=r.un;show A.units + 3 + 16 * k + 200 < _;omega,r.gd⟩
theorem make_depth {A:Around} {C:Addr} {us:List Value} {kw:List (Str×Value)}:(A.under (.builtin "type.__call__" ⟨.ref C :: us,kw⟩)).depth = A.depth + 1:=by
 first | rfl | simp [Around.under,Code.weight,Code.isCreation,Code.isGuard,Code.isCaller,Code.frames,Code.isFrame,guardIds]
theorem make_units {A:Around} {C:Addr} {us:List Value} {kw:List (Str×Value)}:(A.under (.builtin "type.__call__" ⟨.ref C :: us,kw⟩)).units = A.units + 1:=by
 first | rfl | simp [Around.under,Code.cUnits,Code.frames,Code.isFrame]
theorem Room.make {k:Nat} {A:Around} (r:Room (k + 1) A) (C:Addr) (us:List Value) (kw:List (Str×Value)):Room k (A.under (.builtin "type.__call__" ⟨.ref C :: us,kw⟩)) :=
 ⟨r.hd,by have:=r.dp;rw [make_depth];omega,by have:=r.un;rw [make_units];omega,by first | exact r.gd | (have g:=r.gd;simpa [Around.under,Code.isGuard,guardIds] using g)⟩
theorem Room.depth {k:Nat} {A:Around} (r:Room k A):A.depth < recursionLimit:=by have:=r.dp;omega
theorem Room.units {k:Nat} {A:Around} (r:Room k A):A.units + 64 < cLine:=by have:=r.un;omega
noncomputable def tNil:TA:=fun _ H Q=>Q [] H
noncomputable def tCons (ta:TE) (tr:TA):TA:=fun σ H Q=>ta σ H fun x H1=>tr σ H1 fun xs H2=>Q (x :: xs) H2
section
variable {X:Cx} {e:Expr} {es:List Expr} {te:TE} {t:TA} {pos:Pos}
theorem pa_nil:PA X [] tNil:=fun _ _ _ _ H Q I h=>Calls.spliced_nil ⟨[],H,I,.nil,h⟩
theorem pa_cons (ha:PE X e te) (hr:PA X es t) (hs:starEach (e :: es) X.env = (false,eval e X.env) :: starEach es X.env:=by rfl):PA X (e :: es) (tCons te t):=by
 intro pos pins s σ H Q I h
 rw [hs]
 show wpAny _ _ (spliced ((false,eval e X.env) :: backTo pos (starEach es X.env))) _ _ s
 refine Calls.spliced_cons (thn (ha pins s σ H _ I h) fun u s1 ⟨x,H1,I1,r1,q1⟩=>?_)
 exact thn (hr pos pins s1 σ H1 _ I1 q1) fun us s2 ⟨xs,H2,I2,r2,q2⟩=>⟨x :: xs,H2,I2,.cons r1 r2,q2⟩

noncomputable def tTup (t:TA):TE:=fun σ H Q=>t σ H fun xs H1=>xs.length≤sizeLine∧∀ p,H1 p = none→Q (.ref p) (upd H1 p (.tup xs))
noncomputable def tLst (t:TA):TE:=fun σ H Q=>t σ H fun xs H1=>xs.length≤sizeLine∧∀ p,H1 p = none→Q (.ref p) (upd H1 p (.lst xs))
theorem pe_tup {x1} (h:PA X es t):PE X (.Tuple es x1 pos) (tTup t):=by
 intro pins s σ H Q I hq
 refine wpAny_Tuple_spliced (thn (h pos pins s σ H _ I hq) fun us s1 ⟨xs,H1,I1,r,z,q⟩=>⟨by rw [← r.length];exact z,?_⟩)
 have hf:H1 s1.heap.objs.size = none:=I1.hok.fresh (Nat.le_refl _)
 refine ⟨.ref s1.heap.objs.size,upd H1 s1.heap.objs.size (.tup xs),I1.laid (t':=s1.toks) (fun b u e=>Heap.get?_push_of_some _ e) (Nat.le_refl _) ?_,rfl,q _ hf⟩
 exact ⟨z,us,r,⟨_,Heap.get?_push_size _ rfl,rfl,_,rfl⟩⟩
theorem pe_lst (h:PA X es t):PE X (.List es pos) (tLst t):=by
 intro pins s σ H Q I hq
 refine wpAny_List_spliced (thn (h pos pins s σ H _ I hq) fun us s1 ⟨xs,H1,I1,r,z,q⟩=>⟨by rw [← r.length];exact z,?_⟩)
 have hf:H1 s1.heap.objs.size = none:=I1.hok.fresh (Nat.le_refl _)
 refine ⟨.ref s1.heap.objs.size,upd H1 s1.heap.objs.size (.lst xs),I1.laid (t':=s1.toks) (fun b u e=>Heap.get?_push_of_some _ e) (Nat.le_refl _) ?_,rfl,q _ hf⟩
 exact ⟨z,us,0,r,Heap.get?_push_size _ rfl⟩
end

noncomputable abbrev Sp:=List V→Hp→VK→XK→Prop
noncomputable abbrev CXT:=List Env→Hp→Shared→XK→Value→Shared→Prop

structure Env0 (P:Program) (w:World) (K:PySem.W.Frag) (mg:Str→Option Value) (base:Heap) (A:Around) (outer:List Env) (s:Shared) (H:Hp):Prop where
 frames:A.frames = some outer
 mod:Mod K mg base
 bs:∀ b o,base.get? b = some o→s.heap.get? b = some o∧H b = none
 bsz:base.objs.size≤s.heap.objs.size
 funs:s.heap.FunFrames base outer
 frf:∀ b∈frs outer,H b = none
 hok:HOk P w H s.heap
 bare:AllBare s.gens
noncomputable def CE (outer:List Env) (P:Program) (w:World) (H:Hp) (s:Shared) (Q:VK) (u:Value) (s':Shared):Prop :=
 ∃ v H',s'.os = s.os∧AllBare s'.gens∧Un (frs outer) [] H H' s.heap s'.heap∧HOk P w H' s'.heap∧RelV v u∧Q v H'
noncomputable def CR (CX:CXT) (outer:List Env) (P:Program) (w:World) (H:Hp) (s:Shared) (Q:VK) (E:XK) (r:Result) (s':Shared):Prop :=
 match r with
 | .ok (.ret u)=>CE outer P w H s Q u s'
 | .ok _=>False
 | .error e=>CX outer H s E e s'
structure FnOk (P:Program) (w:World) (K:PySem.W.Frag) (mg:Str→Option Value) (base:Heap) (CX:CXT) (k:Nat) (f:Addr) (fd:FuncData) (ps:List Str) (sp:Sp):Prop where
 len:∀ vs H Q E,sp vs H Q E→vs.length = ps.length
 run:∀ (A:Around) (outer:List Env) (s:Shared) (H:Hp) (args:Args) (us:List Value) (vs:List V) (Q:VK) (E:XK),Room k A→Env0 P w K mg base A outer s H→BindsTo s fd args (ps.zip us)→Vals vs us→sp vs H Q E →
  codeAny (model P w) A (.call (.ref f) args) (CR CX outer P w H s Q E) s
theorem Env0.make {P : Program} {w : World} {K : PySem.W.Frag} {mg : Str → Option Value} {base : Heap} {A : Around} {outer : List Env} {s : Shared} {H : Hp} (e : Env0 P w K mg base A outer s H) (C : Addr) (us : List Value) (kw : List (Str × Value)) :
    Env0 P w K mg base (A.under (.builtin "type.__call__" ⟨.ref C :: us, kw⟩)) outer s H := ⟨by first | exact e.frames | (simpa [Around.under, Code.envs, Code.isFrame, pushEnvs] using e.frames), e.mod, e.bs, e.bsz, e.funs, e.frf, e.hok, e.bare⟩
section
variable {X:Cx} {pins:List (Addr×Obj)} {σ:St} {H:Hp} {s s':Shared}
theorem Inv.env0 (I:Inv X pins σ H s):Env0 X.prog X.w X.K X.mg X.base X.A X.stack s H :=
 ⟨I.ok.frames,I.ok.mod,I.bs,Nat.le_trans I.ok.bsz I.sz,I.stack,I.stkFree,I.hok,I.bare⟩
theorem Inv.after {Q:VK} {u:Value} (I:Inv X pins σ H s) (h:CE X.stack X.prog X.w H s Q u s'):EP X pins σ Q u s':=by
 obtain ⟨v,H',os,bare,un,hok,r,q⟩:=h
 obtain ⟨hh,g,d,t,os'⟩:=s'
 obtain rfl:os' = s.os:=os
 exact ⟨v,H',I.call (h':=hh) (g':=g) (d':=d) (t':=t) (ch:=[]) un hok bare (fun b z=>absurd z (by simp)),r,q⟩
end

noncomputable def tCall (sp:Sp) (dvs:List V) (E:XK) (t:TA):TE:=fun σ H Q=>t σ H fun vs H1=>sp (vs ++ dvs) H1 Q E
noncomputable def tMeth (C:Addr) (m:Str) (sp:Sp) (dvs:List V) (E:XK) (ta:TE) (t:TA):TE:=fun σ H Q=>ta σ H fun x H1=>∃ a dx fs,x = .ref a∧H1 a = some (.ins C dx fs)∧fs.lookup m = none ∧
 t σ H1 fun vs H2=>sp (x :: (vs ++ dvs)) H2 Q E
noncomputable def tMake (C:Addr) (sp:Sp) (dvs:List V) (E:XK) (t:TA):TE:=fun σ H Q=>t σ H fun vs H1=>∀ x dx,H1 x = none→H1 dx = none→dx≠x →
 sp (.ref x :: (vs ++ dvs)) (upd (upd H1 dx (.own x)) x (.ins C dx [])) (fun v H2=>v = .non∧Q (.ref x) H2) E

noncomputable def Binds (K:PySem.W.Frag) (fd:FuncData) (ps:List Str) (ds:List Value):Prop :=
 ∀ (s:Shared) (us:List Value),K.In s.heap→(us ++ ds).length = ps.length→BindsTo s fd ⟨us,[]⟩ (ps.zip (us ++ ds))
theorem Binds.all {K:PySem.W.Frag} {fd:FuncData} {ps:List Str} (h:∀ us:List Value,us.length = ps.length→bindArgs fd ⟨us,[]⟩ = pure (ps.zip us)):Binds K fd ps []:=fun s us _ hl=>by
 rw [List.append_nil] at hl ⊢
 exact .of_eq (h us hl)

noncomputable def Passes (CX:CXT) (X:Cx) (E:XK):Prop:=∀ (pins:List (Addr×Obj)) (σ:St) (H:Hp) (s:Shared) (e:Value) (s':Shared),Inv X pins σ H s→CX X.stack H s E e s'→X.xe e s'

section
variable {X:Cx} {CX:CXT} {k:Nat} {f C:Addr} {fd:FuncData} {ps:List Str} {sp:Sp} {dvs:List V} {ds:List Value} {E:XK} {x m:Str} {p pos apos:Pos} {e o:Expr} {es:List Expr} {ta:TE} {t:TA}

theorem run_fn {pins:List (Addr×Obj)} {σ:St} {H:Hp} {s:Shared} {Q:VK} {us:List Value} {vs:List V} (F:FnOk X.prog X.w X.K X.mg X.base CX k f fd ps sp) (hr:Room k X.A) (hb:Binds X.K fd ps ds) (hd:Vals dvs ds) (hx:Passes CX X E)
  (I:Inv X pins σ H s) (r:Vals vs us) (h:sp (vs ++ dvs) H Q E):wpAny (model X.prog X.w) X.A (call (.ref f) us) (EP X pins σ Q) X.xe s:=by
 have r2:Vals (vs ++ dvs) (us ++ ds):=r.append hd
 have hl:(us ++ ds).length = ps.length:=by rw [← r2.length];exact F.len _ _ _ _ h
 refine wpAny_call (codeAny_mono (F.run X.A X.stack s H ⟨us,[]⟩ (us ++ ds) (vs ++ dvs) Q E hr I.env0 (hb s us I.kIn hl) r2 h) fun r s' hq=>?_)
 cases r with
 | error e=>exact hx pins σ H s e s' I hq
 | ok fl =>
  cases fl with
  | ret u=>exact I.after hq
  | next=>exact False.elim hq
  | brk=>exact False.elim hq
  | cont=>exact False.elim hq

theorem pe_call (F:FnOk X.prog X.w X.K X.mg X.base CX k f fd ps sp) (hr:Room k X.A) (hg:Gl X x) (hm:X.mg x = some (.ref f)) (hk:PySem.W.keepIn X.K (.ref f) = true) (hb:Binds X.K fd ps ds) (hd:Vals dvs ds) (hx:Passes CX X E)
  (ha:PA X (e :: es) t) (hdb:(x == ("__debug__":Str)) = false:=by decide) (he:starEach (e :: es) X.env = (false,eval e X.env) :: starEach es X.env:=by rfl) (hpl:(backTo pos (starEach es X.env)).any (·.1) = false:=by rfl) :
  PE X (.Call (.Name x p) (e :: es) [] pos) (tCall sp dvs E t):=by
 intro pins s σ H Q I h
 refine wpAny_Call_Name_kw (ld_glob I hg hm ?_ hdb)
 refine PySem.W.callWith_K (h₀:=X.base) I.ok.mod.kin hk (thn (ha pos pins s σ H _ I h) fun us s1 ⟨vs,H1,I1,r,q⟩=>⟨I1.kIn,?_⟩) he hpl
 exact run_fn F hr hb hd hx I1 r q
theorem pe_meth {pl:Sem Bool} (he:PE X o ta) (c:Cls X.K C) (hm:Meth X.K C m f) (F:FnOk X.prog X.w X.K X.mg X.base CX k f fd ps sp) (hr:Room k X.A) (hb:Binds X.K fd ps ds) (hd:Vals dvs ds) (hx:Passes CX X E) (ha:PA X (e :: es) t)
  (hst:starEach (e :: es) X.env = (false,eval e X.env) :: starEach es X.env:=by rfl) (hpl:(backTo pos (starEach es X.env)).any (·.1) = false:=by rfl)
  (ht:eval (.Call (.Attribute o m apos) (e :: es) [] pos) X.env = (do
   let ov ← eval o X.env
   standAt apos.atName
   let (f,first) ← holding [ov] (getMethod ov m pl)
   callWith pos f first (backTo pos (starEach (e :: es) X.env)) (backToKw pos (keywordEach [] X.env))):=by rfl) :
  PE X (.Call (.Attribute o m apos) (e :: es) [] pos) (tMeth C m sp dvs E ta t):=by
 intro pins s σ H Q I h
 refine PySem.W.methodCall_KW (pl:=pl) (thn (he pins s σ H _ I h) fun u s1 ⟨x,H1,I1,rx,a,dx,fs,ex,ea,l,q⟩=>?_) ht
 subst ex
 obtain rfl:u = Value.ref a:=rx
 refine getmeth_ok I1 ea c hm l ?_
 refine PySem.W.callWith_K (first:=[.ref a]) (h₀:=X.base) I.ok.mod.kin hm.kp (thn (ha pos pins s1 σ H1 _ I1 q) fun us s2 ⟨vs,H2,I2,r,q2⟩=>⟨I2.kIn,?_⟩) hst hpl
 exact run_fn (us:=.ref a :: us) (vs:=.ref a :: vs) F hr hb hd hx I2 (.cons rfl r) q2
theorem pe_meth0 {pl:Sem Bool} (he:PE X o ta) (c:Cls X.K C) (hm:Meth X.K C m f) (F:FnOk X.prog X.w X.K X.mg X.base CX k f fd ps sp) (hr:Room k X.A) (hb:Binds X.K fd ps ds) (hd:Vals dvs ds) (hx:Passes CX X E)
  (ht:eval (.Call (.Attribute o m apos) [] [] pos) X.env = (do
   let ov ← eval o X.env
   standAt apos.atName
   let (f,first) ← holding [ov] (getMethod ov m pl)
   callWith pos f first (backTo pos (starEach [] X.env)) (backToKw pos (keywordEach [] X.env))):=by rfl) :
  PE X (.Call (.Attribute o m apos) [] [] pos) (tMeth C m sp dvs E ta tNil):=by
 intro pins s σ H Q I h
 refine PySem.W.methodCall_KW (pl:=pl) (thn (he pins s σ H _ I h) fun u s1 ⟨x,H1,I1,rx,a,dx,fs,ex,ea,l,q⟩=>?_) ht
 subst ex
 obtain rfl:u = Value.ref a:=rx
 refine getmeth_ok I1 ea c hm l ?_
 exact PySem.W.callWith_K0 (first:=[.ref a]) I1.kIn hm.kp (run_fn (us:=[.ref a]) (vs:=[.ref a]) F hr hb hd hx I1 (.cons rfl .nil) q)

structure Mk (K:PySem.W.Frag) (C f:Addr):Prop where
 makes:PySem.W.makesIn K C = true
 init:PySem.W.findIn K (.ref C) "__init__" = some (some (.ref f))
 fn:PySem.W.isFn K (.ref f) = true
 kp:PySem.W.keepIn K (.ref C) = true

theorem run_make {pins:List (Addr×Obj)} {σ:St} {H:Hp} {s:Shared} {Q:VK} {us:List Value} {vs:List V} (M:Mk X.K C f) (F:FnOk X.prog X.w X.K X.mg X.base CX k f fd ps sp) (hr:Room (k + 1) X.A) (hb:Binds X.K fd ps ds) (hd:Vals dvs ds)
  (hx:Passes CX X E) (I:Inv X pins σ H s) (r:Vals vs us)
  (h:∀ x dx,H x = none→H dx = none→dx≠x→sp (.ref x :: (vs ++ dvs)) (upd (upd H dx (.own x)) x (.ins C dx [])) (fun v H2=>v = .non∧Q (.ref x) H2) E) :
  wpAny (model X.prog X.w) X.A (call (.ref C) us) (EP X pins σ Q) X.xe s:=by
 have hq:=h (s.heap.objs.size + 1) s.heap.objs.size (I.hok.fresh (Nat.le_succ _)) (I.hok.fresh (Nat.le_refl _)) (Nat.ne_of_lt (Nat.lt_succ_self _))
 have I2:=Inv.made (C:=C) I
 have r2:Vals (V.ref (s.heap.objs.size + 1) :: (vs ++ dvs)) (Value.ref (s.heap.objs.size + 1) :: (us ++ ds)):=.cons rfl (r.append hd)
 have hl:(Value.ref (s.heap.objs.size + 1) :: us ++ ds).length = ps.length:=by
  have e:=r2.length
  rw [F.len _ _ _ _ hq] at e
  exact e.symm
 refine wpAny_call (make_map (f:=f) I.kIn M.makes M.init (beq_iff_eq.mp M.fn) (codeAny_mono (F.run _ X.stack _ _ ⟨Value.ref (s.heap.objs.size + 1) :: us,[]⟩ (Value.ref (s.heap.objs.size + 1) :: (us ++ ds)) _ _ E (hr.make C us [])
  (I2.env0.make C us []) (hb _ (Value.ref (s.heap.objs.size + 1) :: us) I2.kIn hl) r2 hq) fun r s' hq'=>?_))
 cases r with
 | error e=>exact hx pins σ _ _ e s' I2 hq'
 | ok fl =>
  cases fl with
  | ret u =>
   obtain ⟨v,H',I3,rv,ev,q3⟩:=I2.after hq'
   subst ev
   exact ⟨rv,⟨V.ref (s.heap.objs.size + 1),H',I3,rfl,q3⟩⟩
  | next=>exact False.elim hq'
  | brk=>exact False.elim hq'
  | cont=>exact False.elim hq'
theorem pe_make (M:Mk X.K C f) (F:FnOk X.prog X.w X.K X.mg X.base CX k f fd ps sp) (hr:Room (k + 1) X.A) (hg:Gl X x) (hm:X.mg x = some (.ref C)) (hb:Binds X.K fd ps ds) (hd:Vals dvs ds) (hx:Passes CX X E)
  (ha:PA X (e :: es) t) (hdb:(x == ("__debug__":Str)) = false:=by decide) (he:starEach (e :: es) X.env = (false,eval e X.env) :: starEach es X.env:=by rfl) (hpl:(backTo pos (starEach es X.env)).any (·.1) = false:=by rfl) :
  PE X (.Call (.Name x p) (e :: es) [] pos) (tMake C sp dvs E t):=by
 intro pins s σ H Q I h
 refine wpAny_Call_Name_kw (ld_glob I hg hm ?_ hdb)
 refine PySem.W.callWith_K (h₀:=X.base) I.ok.mod.kin M.kp (thn (ha pos pins s σ H _ I h) fun us s1 ⟨vs,H1,I1,r,q⟩=>⟨I1.kIn,?_⟩) he hpl
 exact run_make M F hr hb hd hx I1 r q
end


structure FnScope (N P:List Str) (sc:Scope):Prop where
 kind:sc.kind = .function
 co:sc.isCoroutine = false
 gen:sc.isGenerator = false
 nd:N.Nodup
 pre:N.take P.length = P
 par:∀ x∈P,sc.names.lookup x = some .local∨sc.names.lookup x = some .cell
 nofree:∀ y∈sc.names,y.2≠.free

theorem bindL_out {kindOf:Str→Option NameKind} {x:Str}:∀ {binds:List (Str×Value)} {m:Str→Option Value},(∀ v,(x,v) ∉ binds)→bindL kindOf binds m x = m x
 | [],_,_=>rfl
 | (n,v) :: r,m,h=>by
  unfold bindL
  rw [bindL_out fun w hw=>h w (List.mem_cons_of_mem _ hw)]
  split
  ·have:x≠n:=by rintro rfl;exact h v List.mem_cons_self
   simp [this]
  ·rfl
theorem bindC_out {kindOf:Str→Option NameKind} {x:Str}:∀ {binds:List (Str×Value)} {m:Str→Option Value},(∀ v,(x,v) ∉ binds)→bindC kindOf binds m x = m x
 | [],_,_=>rfl
 | (n,v) :: r,m,h=>by
  unfold bindC
  rw [bindC_out fun w hw=>h w (List.mem_cons_of_mem _ hw)]
  split
  ·rfl
  ·have:x≠n:=by rintro rfl;exact h v List.mem_cons_self
   simp [this]
theorem bindL_get {kindOf:Str→Option NameKind} {x:Str} {v:Value}:∀ {P:List Str} {vs:List Value} {i:Nat} {m:Str→Option Value},P.Nodup→P[i]? = some x→vs[i]? = some v→kindOf x = some .local →
  bindL kindOf (P.zip vs) m x = some v
 | [],_,_,_,_,h,_,_=>by simp at h
 | _ :: _,[],_,_,_,_,h,_=>by simp at h
 | p :: P,w :: vs,0,m,nd,h1,h2,hk=>by
  simp at h1 h2;subst h1;subst h2
  show bindL kindOf ((p,w) :: P.zip vs) m p = _
  unfold bindL
  rw [bindL_out fun v hv=>(List.nodup_cons.mp nd).1 (List.of_mem_zip hv).1,if_pos hk]
  simp
 | p :: P,w :: vs,i + 1,m,nd,h1,h2,hk=>by
  show bindL kindOf ((p,w) :: P.zip vs) m x = _
  unfold bindL
  exact bindL_get (i:=i) (List.nodup_cons.mp nd).2 (by simpa using h1) (by simpa using h2) hk
theorem bindC_get {kindOf:Str→Option NameKind} {x:Str} {v:Value}:∀ {P:List Str} {vs:List Value} {i:Nat} {m:Str→Option Value},P.Nodup→P[i]? = some x→vs[i]? = some v→kindOf x≠some .local →
  bindC kindOf (P.zip vs) m x = some v
 | [],_,_,_,_,h,_,_=>by simp at h
 | _ :: _,[],_,_,_,_,h,_=>by simp at h
 | p :: P,w :: vs,0,m,nd,h1,h2,hk=>by
  simp at h1 h2;subst h1;subst h2
  show bindC kindOf ((p,w) :: P.zip vs) m p = _
  unfold bindC
  rw [bindC_out fun v hv=>(List.nodup_cons.mp nd).1 (List.of_mem_zip hv).1,if_neg hk]
  simp
 | p :: P,w :: vs,i + 1,m,nd,h1,h2,hk=>by
  show bindC kindOf ((p,w) :: P.zip vs) m x = _
  unfold bindC
  exact bindC_get (i:=i) (List.nodup_cons.mp nd).2 (by simpa using h1) (by simpa using h2) hk

noncomputable def start (N:List Str) (vs:List V):St:=vs.map some ++ List.replicate (N.length - vs.length) none

noncomputable def cxOf (CX:CXT) (P:Program) (w:World) (K:PySem.W.Frag) (mg:Str→Option Value) (base:Heap) (N:List Str) (qual:Str) (scope:Scope) (f:Addr) (cd:Value) (A:Around) (outer:List Env) (s:Shared) (H:Hp) (E:XK):Cx where
 prog:=P
 w:=w
 K:=K
 mg:=mg
 base:=base
 A:=A.deeper (envOfC qual scope s.heap.objs.size f cd)
 N:=N
 s₀:=s
 H₀:=H
 env:=envOfC qual scope s.heap.objs.size f cd
 outer:=outer
 stack:=envOfC qual scope s.heap.objs.size f cd :: outer
 ex:=[]
 calm:=true
 fn:=fun _=>true
 pn:=[]
 xe:=fun e s'=>wpAny (model P w) (A.deeper (envOfC qual scope s.heap.objs.size f cd)) (leaving (envOfC qual scope s.heap.objs.size f cd) e) (fun _ s''=>CX outer H s E e s'') (fun e' s''=>CX outer H s E e' s'') s'

theorem cell_has {sc:Scope} {n:Nat} {x:Str} (h:sc.names.lookup x = some .cell):∃ c,(cellsFrom n sc.names []).lookup x = some c:=by
 have q:=PySem.W.cellsFrom_some sc.names n [] (.inl h)
 exact Option.isSome_iff_exists.mp q

theorem inv_start {CX:CXT} {P:Program} {w:World} {K:PySem.W.Frag} {mg:Str→Option Value} {base:Heap} {N ps:List Str} {qual:Str} {scope:Scope} {f:Addr} {cd:Value} {A:Around} {outer:List Env} {s s1:Shared} {H:Hp} {E:XK} {us:List Value} {vs:List V}
  (S:FnScope N ps scope) (hd:A.handled = none) (e0:Env0 P w K mg base A outer s H) (hl:vs.length = ps.length) (r:Vals vs us)
  (x:InCallC s s.heap.objs.size (bindL (envOfC qual scope s.heap.objs.size f cd).kindOf (ps.zip us) fun _=>none) (cellsFrom (s.heap.objs.size + 1) scope.names []) (bindC (envOfC qual scope s.heap.objs.size f cd).kindOf (ps.zip us) fun _=>none) s1) :
  Inv (cxOf CX P w K mg base N qual scope f cd A outer s H E) [] (start N vs) H s1:=by
 have hpl:ps.length≤N.length:=by have:=congrArg List.length S.pre;rw [List.length_take] at this;omega
 obtain ⟨h1,tk,rfl,hk⟩:=x.done
 have noA:∀ b:Addr,b ∉ (cxOf CX P w K mg base N qual scope f cd A outer s H E).ex:=fun b z=>absurd (show b∈([]:List Addr) from z) (by simp)
 refine ⟨⟨e0.mod,S.kind,rfl,rfl,Nat.le_refl _,fun y z c h1 h2=>?_,fun y hy=>?_,fun y c _ h=>?_,fun _=>hd,Around.frames_deeper e0.frames,.inr ⟨rfl,rfl⟩,fun b z=>absurd z (noA b),e0.bs,e0.bsz,fun b _ _=>noA b,fun b z=>absurd z (noA b),e0.funs,e0.frf⟩,
  rfl,e0.bare,Un.kept hk,⟨_,x.toInCall.ns,fun i y v h1 h2 h3=>?_⟩,fun y c h=>⟨_,x.cell y c h⟩,e0.hok.fresh (Nat.le_refl _),fun y c h=>?_,fun p hp=>absurd (show p∈([]:List (Addr×Obj)) from hp) (by simp),e0.hok.kept hk,?_⟩
 ·exact name_of_addr x.apart (PySem.mem_of_lookup h1) (PySem.mem_of_lookup h2)
 ·have hy:scope.names.lookup y = some .cell∨scope.names.lookup y = some .free:=hy
  rcases hy with hy | hy
  ·exact cell_has hy
  ·exact absurd rfl (S.nofree _ (PySem.mem_of_lookup hy))
 ·exact Nat.le_of_lt (x.above y c (PySem.mem_of_lookup h))
 ·have hi:i < vs.length:=by
   unfold start at h2
   by_cases hi:i < vs.length
   ·exact hi
   ·rw [List.getElem?_append_right (by simpa using hi)] at h2
    rw [List.getElem?_replicate] at h2
    split at h2 <;> cases h2
  have ha:vs[i]? = some v:=by
   unfold start at h2
   rw [List.getElem?_append_left (by simpa using hi),List.getElem?_map] at h2
   cases e:vs[i]? with
   | none=>rw [e] at h2;cases h2
   | some a=>rw [e] at h2;cases h2;rfl
  obtain ⟨u,hu,rv⟩:=r.get ha
  have hp:ps[i]? = some y:=by
   rw [← S.pre,List.getElem?_take_of_lt (by omega)];exact h1
  have ndP:ps.Nodup:=by rw [← S.pre];exact S.nd.sublist (List.take_sublist _ _)
  refine ⟨u,rv,?_⟩
  rcases S.par y (List.mem_of_getElem? hp) with k | k
  ·exact .inl ⟨k,bindL_get ndP hp hu k⟩
  ·obtain ⟨c,e⟩:=cell_has (n:=s.heap.objs.size + 1) k
   refine .inr ⟨.inl k,c,e,?_⟩
   have q:=x.cell y c e
   rw [bindC_get ndP hp hu (by show scope.names.lookup y≠_;rw [k];decide)] at q
   exact q
 ·exact e0.hok.fresh (Nat.le_of_lt (x.above y c (PySem.mem_of_lookup h)))
 ·unfold start
  show _ = N.length
  rw [List.length_append,List.length_map,List.length_replicate]
  omega

theorem fn_of {CX:CXT} {P:Program} {w:World} {K:PySem.W.Frag} {mg:Str→Option Value} {base:Heap} {k:Nat} {f:Addr} {name qual:Str} {params:Arguments} {body:List Stmt} {scope:Scope} {dV kV doc pm cdv ct oc:Value} {an od:Option Addr}
  {osl:Array (Option Value)} {N ps:List Str} {sp:Sp} (lk:K.lookup f = some ⟨oc,od,.func (PySem.W.fnOf name qual params body scope dV kV doc pm an cdv ct),osl⟩) (hcd:PySem.W.codeIn K cdv qual = true) (S:FnScope N ps scope)
  (len:∀ vs H Q E,sp vs H Q E→vs.length = ps.length)
  (hbody:∀ (A:Around) (outer:List Env) (s:Shared) (H:Hp) (vs:List V) (Q:VK) (E:XK),Room k (A.deeper (envOfC qual scope s.heap.objs.size f cdv))→sp vs H Q E →
   ∃ t,PSs (cxOf CX P w K mg base N qual scope f cdv A outer s H E) body t∧t { nx:=fun _ H'=>Q .non H',rt:=Q } (start N vs) H) :
  FnOk P w K mg base CX (k + 1) f (PySem.W.fnOf name qual params body scope dV kV doc pm an cdv ct) ps sp:=by
 refine ⟨len,fun A outer s H args us vs Q E hr e0 hb r hsp=>?_⟩
 have hl:=len _ _ _ _ hsp
 have KX:K.In s.heap:=e0.mod.kin.keeps fun b o e=>(e0.bs b o e).1
 have lim:s.heap.NoLimit:=e0.mod.nolimit.keeps fun b o e=>(e0.bs b o e).1
 have hkind:∀ y∈ps.zip us,scope.names.lookup y.1 = some .local∨(scope.names.lookup y.1 = some .cell∧((cellsFrom (s.heap.objs.size + 1) scope.names []).lookup y.1).isSome = true):=fun ⟨n,v⟩ hy=>by
  rcases S.par n (List.of_mem_zip hy).1 with q | q
  ·exact .inl q
  ·exact .inr ⟨q,PySem.W.cellsFrom_some _ _ _ (.inl q)⟩
 refine codeAny_call_function hr.depth (KX _ _ lk) rfl S.co S.gen rfl (PySem.W.codeRec_of KX hcd) (hb _ _ _ _ ?_)
 refine wpAny_newFunctionEnv_cells S.kind hkind fun env he s1 x=>?_
 subst he
 refine ⟨lim.keeps x.toInCall.keep,codeAny_func ?_⟩
 obtain ⟨t,ht,hq⟩:=hbody A outer s H vs Q E (hr.deeper _) hsp
 have I:Inv (cxOf CX P w K mg base N qual scope f cdv A outer s H E) [] (start N vs) H s1:=inv_start S hr.hd e0 hl r x
 refine wpAny_mono (ht [] s1 (start N vs) H _ I hq) (fun fl s' hs=>?_) fun e s' hs=>hs
 have fin:∀ {σ':St} {H':Hp} {v:V} {u:Value},Inv (cxOf CX P w K mg base N qual scope f cdv A outer s H E) [] σ' H' s'→RelV v u→Q v H'→CE outer P w H s Q u s' :=
  fun {σ' H' v u} J rv q=>⟨v,H',J.os,J.bare,J.base,J.hok,rv,q⟩
 cases fl with
 | ret u =>
  obtain ⟨v,σ',H',J,rv,q⟩:=hs
  exact fin J rv q
 | next =>
  obtain ⟨σ',H',J,q⟩:=hs
  exact fin (v:=V.non) (u:=Value.none) J rfl q
 | brk =>
  obtain ⟨_,_,_,q⟩:=hs
  exact False.elim q
 | cont =>
  obtain ⟨_,_,_,q⟩:=hs
  exact False.elim q
end L2

namespace L2
open PySem PySem.Spec PyProof.Rows
section
variable {X:Cx} {x:Str} {p pos:Pos} {e:Expr} {es:List Expr} {t:TA} {id T:String} {r:List V→Hp→VK→Prop}

noncomputable def tCB (r:List V→Hp→VK→Prop) (t:TA):TE:=fun σ H Q=>t σ H fun vs H1=>r vs H1 Q
theorem pe_callB (hc:CallR X (.builtin id) r) (hg:Gl X x) (hm:X.mg x = none) (hv:bootBuiltins x = some (.builtin id)) (ha:PA X (e :: es) t) (hn:x≠"__name__":=by decide) (hdb:(x == ("__debug__":Str)) = false:=by decide)
  (he:starEach (e :: es) X.env = (false,eval e X.env) :: starEach es X.env:=by rfl) (hpl:(backTo pos (starEach es X.env)).any (·.1) = false:=by rfl):PE X (.Call (.Name x p) (e :: es) [] pos) (tCB r t):=by
 intro pins s σ H Q I h
 refine wpAny_Call_Name_kw (ld_blt I hg hm hv ?_ hn hdb)
 exact PyProof.Rows.callWith_builtin1 (thn (ha pos pins s σ H _ I h) fun us s1 ⟨vs,H1,I1,r1,q1⟩=>hc pins s1 σ H1 vs us Q I1 r1 q1) he hpl
theorem pe_callTy (hc:CallR X (.type T) r) (hg:Gl X x) (hm:X.mg x = none) (hv:bootBuiltins x = some (.type T)) (ha:PA X (e :: es) t) (hn:x≠"__name__":=by decide) (hdb:(x == ("__debug__":Str)) = false:=by decide)
  (he:starEach (e :: es) X.env = (false,eval e X.env) :: starEach es X.env:=by rfl) (hpl:(backTo pos (starEach es X.env)).any (·.1) = false:=by rfl):PE X (.Call (.Name x p) (e :: es) [] pos) (tCB r t):=by
 intro pins s σ H Q I h
 refine wpAny_Call_Name_kw (ld_blt I hg hm hv ?_ hn hdb)
 exact PyProof.Rows.callWith_type1 (thn (ha pos pins s σ H _ I h) fun us s1 ⟨vs,H1,I1,r1,q1⟩=>hc pins s1 σ H1 vs us Q I1 r1 q1) he hpl
end
end L2

namespace L2
open PySem PySem.Spec PyProof.Rows

section
variable {κ:Type} [DecidableEq κ]
noncomputable def valV (kvs:List (κ×V)) (k:κ):Option V:=(kvs.find? fun kv=>decide (kv.1 = k)).map (·.2)
noncomputable def putK (kvs:List (κ×V)) (k:κ) (v:V):List (κ×V) :=
 if (kvs.any fun kv=>decide (kv.1 = k)) = true then kvs.map (fun kv=>if kv.1 = k then (kv.1,v) else kv) else kvs ++ [(k,v)]
theorem valV_pos {p:κ×V} {r:List (κ×V)} {k:κ} (e:p.1 = k):valV (p :: r) k = some p.2:=by simp [valV,List.find?_cons,e]
theorem valV_neg {p:κ×V} {r:List (κ×V)} {k:κ} (e:¬ p.1 = k):valV (p :: r) k = valV r k:=by simp [valV,List.find?_cons,e]
theorem valV_any (k:κ):∀ kvs:List (κ×V),(kvs.any fun kv=>decide (kv.1 = k)) = (valV kvs k).isSome
 | []=>rfl
 | p :: r=>by
  rw [List.any_cons]
  by_cases e:p.1 = k
  ·simp only [valV_pos e,decide_eq_true e,Bool.true_or,Option.isSome_some]
  ·rw [valV_neg e,decide_eq_false e,Bool.false_or];exact valV_any k r
theorem valV_map (k j:κ) (y:V):∀ kvs:List (κ×V),valV (kvs.map fun kv=>if kv.1 = k then (kv.1,y) else kv) j = (valV kvs j).map fun x=>if j = k then y else x
 | []=>rfl
 | p :: r=>by
  have ih:=valV_map k j y r
  rw [List.map_cons]
  by_cases h:p.1 = k
  ·rw [if_pos h]
   by_cases e:p.1 = j
   ·rw [valV_pos (p:=(p.1,y)) e,valV_pos e,Option.map_some,if_pos (e.symm.trans h)]
   ·rw [valV_neg (p:=(p.1,y)) e,valV_neg e,ih]
  ·rw [if_neg h]
   by_cases e:p.1 = j
   ·rw [valV_pos (p:=p) e,valV_pos e,Option.map_some,if_neg (fun z=>h (e.trans z))]
   ·rw [valV_neg (p:=p) e,valV_neg e,ih]
theorem valV_snoc (k j:κ) (y:V):∀ kvs:List (κ×V),valV kvs k = none→valV (kvs ++ [(k,y)]) j = if j = k then some y else valV kvs j
 | [],_=>by
  by_cases e:k = j
  ·rw [if_pos e.symm];exact valV_pos (p:=(k,y)) e
  ·rw [if_neg (fun z=>e z.symm)];exact valV_neg (p:=(k,y)) e
 | p :: r,hn=>by
  rw [List.cons_append]
  have hk:¬ p.1 = k:=fun z=>by rw [valV_pos z] at hn;cases hn
  rw [valV_neg hk] at hn
  have ih:=valV_snoc k j y r hn
  by_cases e:p.1 = j
  ·rw [valV_pos e,valV_pos e,if_neg (fun z=>hk (e.trans z))]
  ·rw [valV_neg e,valV_neg e,ih]
theorem valV_put (kvs:List (κ×V)) (k j:κ) (y:V):valV (putK kvs k y) j = if j = k then some y else valV kvs j:=by
 unfold putK
 by_cases a:(kvs.any fun kv=>decide (kv.1 = k)) = true
 ·rw [if_pos a,valV_map]
  rw [valV_any] at a
  by_cases e:j = k
  ·obtain ⟨x,hx⟩:=Option.isSome_iff_exists.mp a
   rw [if_pos e,e,hx,Option.map_some,if_pos rfl]
  ·rw [if_neg e]
   cases valV kvs j with
   | none=>rfl
   | some x=>rw [Option.map_some,if_neg e]
 ·rw [if_neg a]
  refine valV_snoc k j y kvs ?_
  rw [valV_any] at a
  cases q:valV kvs k with
  | none=>rfl
  | some x=>rw [q] at a;exact (a rfl).elim
theorem length_putK (kvs:List (κ×V)) (k:κ) (v:V):(putK kvs k v).length≤kvs.length + 1:=by
 unfold putK
 split
 ·rw [List.length_map];omega
 ·rw [List.length_append,List.length_cons,List.length_nil];omega
theorem RelO.isSome_eq {o:Option V} {u:Option Value} (r:RelO o u):o.isSome = u.isSome:=by
 cases o with
 | none=>cases u with
  | none=>rfl
  | some _=>exact (show False from r).elim
 | some _=>cases u with
  | none=>exact (show False from r).elim
  | some _=>rfl
theorem KV.val {kvs:List (κ×V)} {vs:List (κ×Value)} (r:KV kvs vs) (k:κ):RelO (valV kvs k) (valueAt vs k):=by
 unfold KV at r
 induction r with
 | nil=>exact True.intro
 | @cons p q ps qs h t ih =>
  obtain ⟨h1,h2⟩:=h
  by_cases e:p.1 = k
  ·have e':q.1 = k:=h1.symm.trans e
   have b:valueAt (q :: qs) k = some q.2:=by simp [valueAt,List.find?_cons,e']
   rw [valV_pos e,b];exact h2
  ·have e':¬ q.1 = k:=fun z=>e (h1.trans z)
   have b:valueAt (q :: qs) k = valueAt qs k:=by simp [valueAt,List.find?_cons,e']
   rw [valV_neg e,b];exact ih
theorem KV.any {kvs:List (κ×V)} {vs:List (κ×Value)} (r:KV kvs vs) (k:κ):(kvs.any fun kv=>decide (kv.1 = k)) = vs.any fun kv=>decide (kv.1 = k):=by
 unfold KV at r
 induction r with
 | nil=>rfl
 | cons h t ih=>rw [List.any_cons,List.any_cons,ih,h.1]
theorem KV.repl {kvs:List (κ×V)} {vs:List (κ×Value)} (r:KV kvs vs) (k:κ) {y:V} {u:Value} (ry:RelV y u) :
  KV (kvs.map fun kv=>if kv.1 = k then (kv.1,y) else kv) (vs.map fun kv=>if kv.1 = k then (kv.1,u) else kv):=by
 unfold KV at r ⊢
 induction r with
 | nil=>exact .nil
 | @cons p q ps qs h t ih =>
  rw [List.map_cons,List.map_cons]
  refine .cons ?_ ih
  obtain ⟨h1,h2⟩:=h
  by_cases e:p.1 = k
  ·rw [if_pos e,if_pos (h1.symm.trans e)];exact ⟨h1,ry⟩
  ·rw [if_neg e,if_neg (fun z=>e (h1.trans z))];exact ⟨h1,h2⟩
theorem KV.put {kvs:List (κ×V)} {vs:List (κ×Value)} (r:KV kvs vs) (k:κ) {y:V} {u:Value} (ry:RelV y u):KV (putK kvs k y) (stored vs k u):=by
 unfold putK stored
 rw [r.any k]
 by_cases e:(vs.any fun kv=>decide (kv.1 = k)) = true
 ·rw [if_pos e,if_pos e];exact r.repl k ry
 ·rw [if_neg e,if_neg e];exact Paired.snoc r ⟨rfl,ry⟩
theorem KV.length {kvs:List (κ×V)} {vs:List (κ×Value)} (r:KV kvs vs):kvs.length = vs.length:=Paired.length r
end


theorem kV_is {P:Program} {w:World} {k:Key} {u:Value} (r:RelV (kV k) u):(mixKind P w).is k u = true:=by
 cases k with
 | inl i=>obtain ⟨t,e⟩:=(show ∃ t,u = Value.int i t from r);subst e;exact mixKind_int P w i t
 | inr x=>obtain ⟨t,e⟩:=(show ∃ t,u = Value.str x t from r);subst e;exact mixKind_str P w x t
theorem items_are {P:Program} {w:World}:∀ {ks:List Key} {us:List Value},Vals (ks.map kV) us→ItemsAre (mixKind P w) ks us
 | [],_,r=>by rw [List.map_nil] at r;cases r;exact .nil
 | k :: ks,_,r=>by
  rw [List.map_cons] at r
  cases r with
  | cons h t=>exact .cons (kV_is h) (items_are t)

noncomputable abbrev KT (H:Hp):List (List Key×V)→List (List Key×Addr×Value)→Prop:=Paired fun p q=>p.1 = q.1∧H q.2.1 = some (.tup (p.1.map kV))∧RelV p.2 q.2.2
theorem KT.val {H:Hp} {kvs:List (List Key×V)} {xs:List (List Key×Addr×Value)} (r:KT H kvs xs) (k:List Key):RelO (valV kvs k) ((atKey xs k).map (·.2)):=by
 induction r with
 | nil=>exact True.intro
 | @cons p q ps qs h t ih =>
  obtain ⟨h1,_,h2⟩:=h
  by_cases e:p.1 = k
  ·have e':q.1 = k:=h1.symm.trans e
   have b:atKey (q :: qs) k = some q.2:=by simp [atKey,List.find?_cons,e']
   rw [valV_pos e,b];exact h2
  ·have e':¬ q.1 = k:=fun z=>e (h1.trans z)
   have b:atKey (q :: qs) k = atKey qs k:=by simp [atKey,List.find?_cons,e']
   rw [valV_neg e,b];exact ih
theorem KT.repl {H:Hp} {kvs:List (List Key×V)} {xs:List (List Key×Addr×Value)} (r:KT H kvs xs) (k:List Key) {y:V} {u:Value} (ry:RelV y u) :
  KT H (kvs.map fun kv=>if kv.1 = k then (kv.1,y) else kv) (xs.map (putAt k u)):=by
 induction r with
 | nil=>exact .nil
 | @cons p q ps qs h t ih =>
  rw [List.map_cons,List.map_cons]
  refine .cons ?_ ih
  obtain ⟨h1,h2,h3⟩:=h
  unfold putAt
  by_cases e:p.1 = k
  ·rw [if_pos e,if_pos (h1.symm.trans e)];exact ⟨h1,h2,ry⟩
  ·rw [if_neg e,if_neg (fun z=>e (h1.trans z))];exact ⟨h1,h2,h3⟩
theorem KT.put {H:Hp} {kvs:List (List Key×V)} {xs:List (List Key×Addr×Value)} (r:KT H kvs xs) (k:List Key) {b:Addr} {y:V} {u:Value} (hb:H b = some (.tup (k.map kV))) (ry:RelV y u) :
  KT H (putK kvs k y) (storedH xs k b u):=by
 have e:(kvs.any fun kv=>decide (kv.1 = k)) = (atKey xs k).isSome:=by
  rw [valV_any,(r.val k).isSome_eq,Option.isSome_map]
 unfold putK storedH
 rw [e]
 by_cases q:(atKey xs k).isSome = true
 ·rw [if_pos q,if_pos q];exact r.repl k ry
 ·rw [if_neg q,if_neg q];exact Paired.snoc r ⟨rfl,hb,ry⟩
theorem KT.keeps {H H':Hp} {kvs:List (List Key×V)} {xs:List (List Key×Addr×Value)} (r:KT H kvs xs) (ht:∀ b ys,H b = some (.tup ys)→H' b = some (.tup ys)):KT H' kvs xs :=
 Paired.mapP r fun _ _ z=>⟨z.1,ht _ _ z.2.1,z.2.2⟩

section
variable {P:Program} {w:World} {H:Hp} {h:Heap} {a:Addr}
theorem rd_of {u:HO} (ok:HOk P w H h) (e:Rd H a u):ObjOk P w H h a u:=e.ok ok
theorem dk_rd {kvs:List (Key×V)} (ok:HOk P w H h) (e:Rd H a (.dK kvs)):kvs.length≤sizeLine∧(a == sysModules) = false∧∃ vs,KV kvs vs∧h.DictOf (mixKind P w) a vs :=
 show ObjOk P w H h a (.dK kvs) from rd_of ok e
theorem dk_of {kvs:List (Key×V)} (ok:HOk P w H h) (e:H a = some (.dK kvs)):kvs.length≤sizeLine∧(a == sysModules) = false∧∃ vs,KV kvs vs∧h.DictOf (mixKind P w) a vs:=dk_rd ok (.inl e)
theorem key_of {ks:List Key} (ok:HOk P w H h) (e:H a = some (.tup (ks.map kV))):(tupleKind (mixKind P w)).is h ks a:=by
 obtain ⟨_,its,r,o,h1,h2,n,h3⟩:=(show ObjOk P w H h a (.tup (ks.map kV)) from ok a _ e)
 exact ⟨o,its.toArray,n,h1,h2,h3,by simpa using items_are r⟩
theorem dt_rd {kvs:List (List Key×V)} (ok:HOk P w H h) (e:Rd H a (.dT kvs)):kvs.length≤sizeLine∧(a == sysModules) = false ∧
  ∃ xs,KT H kvs xs∧h.DictOfH (tupleKind (mixKind P w)) a xs:=by
 obtain ⟨z,y,xs,r,o,es,ep,h1,h2,h3,h4,h5⟩:=(show ObjOk P w H h a (.dT kvs) from rd_of ok e)
 refine ⟨z,y,xs,r,o,es,ep,h1,h2,h3,h4,fun x hx=>?_,h5⟩
 have all:∀ {l:List (List Key×V)} {m:List (List Key×Addr×Value)},KT H l m→∀ x∈m,(tupleKind (mixKind P w)).is h x.1 x.2.1:=by
  intro l m q
  induction q with
  | nil=>intro x hx;exact nomatch hx
  | @cons p q ps qs hq t ih =>
   intro x hx
   rcases List.mem_cons.mp hx with e | hx
   ·subst e
    exact key_of ok (by rw [← hq.1];exact hq.2.1)
   ·exact ih x hx
 exact all r x hx
theorem dt_of {kvs : List (List Key × V)} (ok : HOk P w H h) (e : H a = some (.dT kvs)) : kvs.length ≤ sizeLine ∧ (a == sysModules) = false ∧
    ∃ xs, KT H kvs xs ∧ h.DictOfH (tupleKind (mixKind P w)) a xs := dt_rd ok (.inl e)
end

noncomputable def DGet (H:Hp) (a:Addr) (y:V) (r:Option V):Prop :=
 (∃ kvs k,Rd H a (.dK kvs)∧y = kV k∧r = valV kvs k)∨∃ kvs k b,Rd H a (.dT kvs)∧y = .ref b∧H b = some (.tup (k.map kV))∧r = valV kvs k
noncomputable def DPut (H:Hp) (a:Addr) (y v:V) (H':Hp):Prop :=
 (∃ kvs k,H a = some (.dK kvs)∧y = kV k∧kvs.length < sizeLine∧H' = upd H a (.dK (putK kvs k v))) ∨
 ∃ kvs k b,H a = some (.dT kvs)∧y = .ref b∧H b = some (.tup (k.map kV))∧kvs.length < sizeLine∧H' = upd H a (.dT (putK kvs k v))
theorem DGet.k {H:Hp} {a:Addr} {kvs:List (Key×V)} {k:Key} (e:H a = some (.dK kvs)):DGet H a (kV k) (valV kvs k):=.inl ⟨kvs,k,.inl e,rfl,rfl⟩
theorem DPut.k {H:Hp} {a:Addr} {kvs:List (Key×V)} {k:Key} {v:V} (e:H a = some (.dK kvs)) (hl:kvs.length < sizeLine):DPut H a (kV k) v (upd H a (.dK (putK kvs k v))):=.inl ⟨kvs,k,e,rfl,hl,rfl⟩
section
variable {X:Cx} {pins:List (Addr×Obj)} {σ:St} {H:Hp} {s:Shared} {a:Addr} {y v:V} {u r:Value} {o:Option V} {A:Around} {E:Value→Shared→Prop}

theorem Inv.big (I:Inv X pins σ H s):sysModules < s.heap.objs.size:=by
 have h:mainGlobals < s.heap.objs.size:=(I.mod.glob.keeps I.bk).lt
 exact Nat.lt_trans (by decide) h

theorem d_notIn {Q:Value→Shared→Prop} (hu:A.units + 1 < cLine) (I:Inv X pins σ H s) (g:DGet H a y o) (ry:RelV y u) (h:∀ s',Inv X pins σ H s'→Q (.bool (!o.isSome)) s') :
  wpAny (model X.prog X.w) A (compareOp .NotIn u (.ref a)) Q E s:=by
 rcases g with ⟨kvs,k,e,ey,l⟩ | ⟨kvs,k,b,e,ey,eb,l⟩
 ·subst ey
  obtain ⟨z,hd,vs,rel,dd⟩:=dk_rd I.hok e
  refine wpAny_notIn_of (kV_is ry) hd dd.mapOf ?_
  rw [← (rel.val k).isSome_eq,← l]
  exact h _ (I.tok _)
 ·subst ey
  cases (show u = Value.ref b from ry)
  obtain ⟨z,hd,xs,rel,dd⟩:=dt_rd I.hok e
  refine wpAny_notIn_heap (tupleKind_room_in1 hu) (key_of I.hok eb) hd dd ?_
  have q:=(rel.val k).isSome_eq
  rw [Option.isSome_map] at q
  rw [← q,← l]
  exact h _ (I.tok _)
theorem d_write {h':Heap} {t':Nat} {ob:HO} (I:Inv X pins σ H s) (mu:Mut (H a)) (hs:Heap.SameBut a s.heap h') (he:∃ q,h'.get? a = some q) (new:ObjOk X.prog X.w (upd H a ob) h' a ob) :
  Inv X pins σ (upd H a ob) { s with heap:=h',toks:=t' } :=
 I.write (x:=a) (e:=a) mu (.inl rfl) (fun b q hb z=>(hs.2 b hb).trans z) he new
theorem dk_new {P : Program} {w : World} {H' : Hp} {h' : Heap} {kvs : List (Key × V)} {vs : List (Key × Value)} (z : kvs.length ≤ sizeLine) (hd : (a == sysModules) = false) (rel : KV kvs vs) (dd : h'.DictOf (mixKind P w) a vs) :
    ObjOk P w H' h' a (.dK kvs) := ⟨z, hd, vs, rel, dd⟩
theorem d_setItem {H':Hp} {Q:Unit→Shared→Prop} (hu:A.units + 1 < cLine) (I:Inv X pins σ H s) (g:DPut H a y v H') (ry:RelV y u) (rv:RelV v r) (h:∀ s',Inv X pins σ H' s'→Q () s') :
  wpAny (model X.prog X.w) A (setItem (.ref a) u r) Q E s:=by
 rcases g with ⟨kvs,k,e,ey,l,eH⟩ | ⟨kvs,k,b,e,ey,eb,l,eH⟩
 ·subst ey eH
  obtain ⟨z,hd,vs,rel,dd⟩:=dk_of I.hok e
  have hz:vs.length≤sizeLine:=by rw [← rel.length];exact z
  have hl:(putK kvs k v).length≤sizeLine:=by have:=length_putK kvs k v;omega
  refine wpAny_setItem_pairs (hsz:=hz) (kV_is ry) dd fun h' dd' hs=>h _ ?_
  have he:∃ q,h'.get? a = some q:=let ⟨q,_,_,hq,_⟩:=dd';⟨q,hq⟩
  exact d_write I (by rw [e];exact True.intro) hs he (dk_new hl hd (rel.put k rv) dd')
 ·subst ey eH
  cases (show u = Value.ref b from ry)
  obtain ⟨z,hd,xs,rel,dd⟩:=dt_of I.hok e
  have hz:xs.length≤sizeLine:=by rw [← Paired.length rel];exact z
  have hl:(putK kvs k v).length≤sizeLine:=by have:=length_putK kvs k v;omega
  refine wpAny_setItem_heap (hsz:=hz) (tupleKind_room_in1 hu) (key_of I.hok eb) dd fun h' dd' hs=>h _ ?_
  obtain ⟨q,es,ep,hq,h2,h3,h4,_,h5⟩:=dd'
  refine d_write I (by rw [e];exact True.intro) hs ⟨q,hq⟩ ⟨hl,hd,_,(rel.put k eb rv).keeps fun c ys ec=>?_,q,es,ep,hq,h2,h3,h4,h5⟩
  rw [upd_ne (ne_of ec e (fun z=>nomatch z))]
  exact ec
end



noncomputable def tDNotIn (ty td:TE):TE:=fun σ H Q=>ty σ H fun y H1=>td σ H1 fun x H2=>∃ a o,x = .ref a∧DGet H2 a y o∧Q (.bl (!o.isSome)) H2
noncomputable def sDPut (td ty tv:TE):TS:=fun D σ H=>tv σ H fun v H1=>td σ H1 fun x H2=>ty σ H2 fun y H3=>∃ a H4,x = .ref a∧DPut H3 a y v H4∧D.nx σ H4
section
variable {X:Cx} {o i e value:Expr} {pos pos' tpos:Pos} {td ty tv:TE}
theorem pc_dnotin (hu:X.A.units + 1 < cLine) (hi:PE X i ty) (ho:PE X o td):PC X .NotIn i o (tDNotIn ty td):=by
 intro pins s σ H Q I h
 refine thn (hi pins s σ H _ I h) fun iv s1 ⟨y,H1,I1,ry,q1⟩=>thn (ho pins s1 σ H1 _ I1 q1) fun u s2 ⟨x,H2,I2,rx,a,ov,ex,g,q2⟩=>?_
 subst ex
 obtain rfl:u = Value.ref a:=rx
 exact d_notIn hu I2 g ry fun s3 I3=>⟨.bl (!ov.isSome),H2,I3,rfl,q2⟩
theorem ps_dput (hu:X.A.units + 1 < cLine) (ho:PE X o td) (hi:PE X i ty) (hv:PE X value tv) (hs:swapsWith value (some (.Subscript o i pos')) pos.line X.env = pure false) :
  PS X (.Assign [.Subscript o i pos'] value pos) (sDPut td ty tv):=by
 intro pins s σ H D I h
 refine wpAny_Assign_Subscript (thn (hv pins s σ H _ I h) fun r s1 ⟨v,H1,I1,rv,q1⟩=>thn (ho pins s1 σ H1 _ I1 q1) fun u s2 ⟨x,H2,I2,rx,q2⟩=>thn (hi pins s2 σ H2 _ I2 q2) fun iv s3 ⟨y,H3,I3,ry,a,H4,ex,g,q3⟩=>?_) hs
 subst ex
 obtain rfl:u = Value.ref a:=rx
 exact d_setItem hu I3 g ry rv fun s4 I4=>⟨σ,H4,I4,q3⟩
end


theorem dk_empty {P:Program} {w:World} {H:Hp} (h:Heap) (hb:sysModules < h.objs.size):ObjOk P w H (h.push { cls:=.type "dict",data:=.dict #[] }) h.objs.size (.dK []) :=
 ⟨Nat.zero_le _,beq_eq_false_iff_ne.mpr (Ne.symm (Nat.ne_of_lt hb)),[],.nil,Heap.DictOf.new h⟩
noncomputable def tDNewK:TE:=fun _ H Q=>∀ p,H p = none→Q (.ref p) (upd H p (.dK []))
section
variable {X:Cx} {pos:Pos}
theorem pe_dnewK:PE X (.Dict [] [] pos) tDNewK:=fun pins s σ H Q I h =>
 wpAny_Dict_empty ⟨.ref s.heap.objs.size,_,I.laid (a:=s.heap.objs.size) (o:=.dK []) (t':=s.toks) (fun _ _ q=>Heap.get?_push_of_some _ q) (Nat.le_refl _) (dk_empty s.heap I.big),rfl,h _ (I.hok.fresh (Nat.le_refl _))⟩
end





end L2




namespace L2
open PySem PySem.Spec PyProof.Rows

noncomputable def ixN (n:Nat) (i:Int):Option Nat:=if 0≤i then (if i < n then some i.toNat else none) else if -(n:Int)≤i then some (i + n).toNat else none
noncomputable def atI {α:Type} (xs:List α) (i:Int):Option α:=(ixN xs.length i).bind fun j=>xs[j]?
theorem ixN_seq {n:Nat} {i:Int} {j:Nat} (h:ixN n i = some j):seqIndex? i n = some j∧j < n∧-(n:Int)≤i∧i < n:=by
 unfold ixN at h
 by_cases h0:0≤i
 ·rw [if_pos h0] at h
  by_cases h1:i < n
  ·rw [if_pos h1] at h
   have e:i.toNat = j:=Option.some.inj h
   exact ⟨by rw [seqIndex_of h0 h1,e],by omega,by omega,h1⟩
  ·rw [if_neg h1] at h;cases h
 ·rw [if_neg h0] at h
  by_cases h1:-(n:Int)≤i
  ·rw [if_pos h1] at h
   have e:(i + n).toNat = j:=Option.some.inj h
   exact ⟨by rw [seqIndex_neg (by omega) h1,e],by omega,h1,by omega⟩
  ·rw [if_neg h1] at h;cases h
theorem atI_get {α:Type} {xs:List α} {i:Int} {v:α} (h:atI xs i = some v):∃ j,seqIndex? i xs.length = some j∧xs[j]? = some v∧j < xs.length∧-(xs.length:Int)≤i∧i < xs.length:=by
 unfold atI at h
 cases e:ixN xs.length i with
 | none=>rw [e] at h;cases h
 | some j =>
  rw [e] at h
  obtain ⟨h1,h2,h3,h4⟩:=ixN_seq e
  exact ⟨j,h1,h,h2,h3,h4⟩
theorem atI_nat {α:Type} {xs:List α} {j:Nat} {v:α} (h:xs[j]? = some v):atI xs (j:Int) = some v:=by
 have hj:j < xs.length:=(List.getElem?_eq_some_iff.mp h).1
 have e:ixN xs.length (j:Int) = some j:=by
  unfold ixN
  rw [if_pos (by omega),if_pos (by omega)];simp
 unfold atI;rw [e];exact h
theorem atI_last {α:Type} (xs:List α) (v:α):atI (xs ++ [v]) (-1) = some v:=by
 have hl:(xs ++ [v]).length = xs.length + 1:=by simp
 have e:ixN (xs ++ [v]).length (-1) = some xs.length:=by
  unfold ixN
  rw [hl,if_neg (by decide),if_pos (by omega)]
  congr 1
  omega
 unfold atI
 rw [e]
 show (xs ++ [v])[xs.length]? = some v
 simp

noncomputable def PlainIx (b:Expr):Prop:=∀ o i,subscripted b false o i = operate [o,i] (getItem o i)
noncomputable def IxR (X:Cx) (r:R2):Prop :=
 ∀ (value slice:Expr) (pins:List (Addr×Obj)) (s:Shared) (σ:St) (H:Hp) (x y:V) (v u:Value) (Q:VK),Inv X pins σ H s→RelV x v→RelV y u→r x y H Q →
  subscripted slice false v u = operate [v,u] (getItem v u)→wpAny (model X.prog X.w) X.A (subscriptTail value slice v u) (EP X pins σ Q) X.xe s
noncomputable def MtR (X:Cx) (id:String) (r:V→List V→Hp→VK→Prop):Prop :=
 ∀ (pins:List (Addr×Obj)) (s:Shared) (σ:St) (H:Hp) (x:V) (xs:List V) (v:Value) (us:List Value) (Q:VK),Inv X pins σ H s→RelV x v→Vals xs us→r x xs H Q →
  wpAny (model X.prog X.w) X.A (call (.builtin id) (v :: us)) (EP X pins σ Q) X.xe s
section
variable {X:Cx} {a b:Expr} {ta tb:TE} {pos:Pos}
theorem pe_ix {r:R2} (hr:IxR X r) (ha:PE X a ta) (hb:PE X b tb) (hs:PlainIx b):PE X (.Subscript a b pos) (tOp r ta tb):=by
 intro pins s σ H Q I h
 exact Subscript_ (binT ha hb I h fun v u s2 x y H2 I2 rx ry q=>hr a b pins s2 σ H2 x y v u Q I2 rx ry q (hs _ _))

noncomputable def rIxL (K:PySem.W.Frag):R2:=fun x y H Q=>∃ p xs i v,x = .ref p∧y = .int i∧SqL K H p xs∧atI xs i = some v∧Q v H
noncomputable def rIxT (K:PySem.W.Frag):R2:=fun x y H Q=>∃ p xs i v,x = .ref p∧y = .int i∧SqT K H p xs∧atI xs i = some v∧Q v H
theorem ix_list:IxR X (rIxL X.K):=by
 intro value slice pins s σ H x y v u Q I rx ry h hs
 obtain ⟨p,xs,i,z,rfl,rfl,hq,he,q⟩:=h
 cases rx
 obtain ⟨t,rfl⟩:=ry
 obtain ⟨its,r,pl,hz⟩:=I.list hq
 obtain ⟨j,h1,h2,h3,h4,h5⟩:=atI_get he
 obtain ⟨w,ew,rw'⟩:=r.get h2
 have hl:=r.length
 have hn:=line63
 have fin:EP X pins σ Q w s:=⟨z,H,I,rw',q⟩
 by_cases h0:0≤i
 ·have hj:i.toNat = j:=by
   rw [seqIndex_of h0 h5] at h1
   exact Option.some.inj h1
  exact item_listR pl.isList h0 (by omega) (by rw [hj];simpa using ew) fin hs
 ·have hj:(i + (its.toArray.size:Int)).toNat = j:=by
   rw [seqIndex_neg (by omega) h4] at h1
   rw [List.size_toArray,← hl]
   exact Option.some.inj h1
  exact subscriptTail_builtinR (x:=w) pl.isList.typeIs slot_list_getitem.lookup
   (wpAny_getItem_list_neg (Q:=fun r s'=>r = w∧EP X pins σ Q r s') pl.isList (by omega) (by rw [List.size_toArray] <;> omega) (by omega) (by rw [hj];simpa using ew) ⟨rfl,fin⟩) hs
theorem ix_tup:IxR X (rIxT X.K):=by
 intro value slice pins s σ H x y v u Q I rx ry h hs
 obtain ⟨p,xs,i,z,rfl,rfl,hq,he,q⟩:=h
 cases rx
 obtain ⟨t,rfl⟩:=ry
 obtain ⟨its,r,pl,hz⟩:=I.tuple hq
 obtain ⟨j,h1,h2,h3,h4,h5⟩:=atI_get he
 obtain ⟨w,ew,rw'⟩:=r.get h2
 have hl:=r.length
 have hn:=line63
 have fin:EP X pins σ Q w s:=⟨z,H,I,rw',q⟩
 exact subscriptTail_builtinR (x:=w) pl.typeIs slot_tuple_getitem.lookup
  (getItem_tuple (j:=j) (Q:=fun r s'=>r = w∧EP X pins σ Q r s') pl (by omega) (by omega) (by rw [List.size_toArray,← hl];exact h1) (by simpa using ew) ⟨rfl,fin⟩) hs
theorem mapSeq_set (its:List Value) (n j:Nat) (u:Value):Obj.mapSeq (·.setIfInBounds j u) { cls:=.type "list",data:=.seq its.toArray n } = { cls:=.type "list",data:=.seq (its.set j u).toArray n }:=by
 simp [Obj.mapSeq]
theorem Inv.lst {pins:List (Addr×Obj)} {σ:St} {H:Hp} {s:Shared} {p:Addr} {xs:List V} (I:Inv X pins σ H s) (h:H p = some (.lst xs)) :
  ∃ (its:List Value) (n:Nat),Vals xs its∧s.heap.get? p = some { cls:=.type "list",data:=.seq its.toArray n }∧xs.length≤sizeLine:=by
 obtain ⟨z,its,n,r,e⟩:=I.hok p _ h
 exact ⟨its,n,r,e,z⟩
theorem Inv.lstUpd {pins:List (Addr×Obj)} {σ:St} {H:Hp} {s:Shared} {p:Addr} {xs ys:List V} {its its':List Value} {n n':Nat} {f:Obj→Obj} (I:Inv X pins σ H s) (h:H p = some (.lst xs))
  (ho:s.heap.get? p = some { cls:=.type "list",data:=.seq its.toArray n }) (hf:f { cls:=.type "list",data:=.seq its.toArray n } = { cls:=.type "list",data:=.seq its'.toArray n' }) (r:Vals ys its') (hz:ys.length≤sizeLine) (t:Nat) :
  Inv X pins σ (upd H p (.lst ys)) { s with heap:=s.heap.update p f,toks:=t }:=by
 have e:(s.heap.update p f).get? p = some { cls:=.type "list",data:=.seq its'.toArray n' }:=by
  rw [Heap.get?_update_self f ho (by rw [hf] <;> rfl),hf]
 refine I.write (x:=p) (e:=p) (by rw [h];trivial) (.inl rfl) (fun b u hb q=>(Heap.get?_update_other _ _ (Ne.symm hb)).trans q) ⟨_,e⟩ ?_
 exact ⟨hz,its',n',r,e⟩
noncomputable def rSetL:V→V→V→Hp→(Hp→Prop)→Prop:=fun o i v H Q=>∃ p xs k j,o = .ref p∧i = .int k∧H p = some (.lst xs)∧ixN xs.length k = some j∧Q (upd H p (.lst (xs.set j v)))
theorem set_list:PSet X rSetL:=by
 intro pins s σ H o i v ov iv u Q I ro ri rv h
 obtain ⟨p,xs,k,j,rfl,rfl,hp,hj,q⟩:=h
 cases ro
 obtain ⟨t,rfl⟩:=ri
 obtain ⟨its,n,r,ho,hz⟩:=I.lst hp
 obtain ⟨h1,h2,h3,h4⟩:=ixN_seq hj
 have hl:=r.length
 have hn:=line63
 have I':Inv X pins σ (upd H p (.lst (xs.set j v))) { s with heap:=s.heap.update p (Obj.mapSeq (·.setIfInBounds j u)) } :=
  I.lstUpd hp ho (mapSeq_set its n j u) (r.set rv j) (by rw [List.length_set];exact hz) s.toks
 by_cases h0:0≤k
 ·have hk:k.toNat = j:=by
   rw [seqIndex_of h0 h4] at h1
   exact Option.some.inj h1
  exact PySem.W.ki_setAt ho h0 (by omega) (by rw [List.size_toArray,← hl];exact h4) (by rw [hk];exact ⟨_,I',q⟩)
 ·have hk:(k + (its.toArray.size:Int)).toNat = j:=by
   rw [seqIndex_neg (by omega) h3] at h1
   rw [List.size_toArray,← hl]
   exact Option.some.inj h1
  exact PySem.W.ki_setBack ho (by omega) (by rw [List.size_toArray,← hl];exact h3) (by omega) (by rw [hk];exact ⟨_,I',q⟩)

noncomputable def flatV:V→Bool
 | .non=>true
 | .bl _=>true
 | .int _=>true
 | .str _=>true
 | _=>false
noncomputable def eqV:V→V→Bool
 | .non,.non=>true
 | .bl a,.bl b=>a == b
 | .bl a,.int b=>(if a then 1 else 0) == b
 | .int a,.bl b=>a == (if b then 1 else 0)
 | .int a,.int b=>a == b
 | .str a,.str b=>a == b
 | _,_=>false
theorem eqAt_V {A:Around} {s:Shared} {y x:V} {u v:Value} (ry:RelV y u) (rx:RelV x v) (fy:flatV y = true) (fx:flatV x = true):SeqAt.EqAt A s u v (eqV y x):=by
 cases y with
 | non =>
  cases ry
  cases x with
  | non=>cases rx;exact SeqAt.EqAt.same _
  | bl b=>cases rx;exact SeqAt.EqAt.none_bool b
  | int b=>obtain ⟨t,rfl⟩:=rx;exact SeqAt.EqAt.none_int b t
  | str b=>obtain ⟨t,rfl⟩:=rx;exact SeqAt.EqAt.none_str b t
  | _=>exact absurd (show false = true from fx) Bool.false_ne_true
 | bl a =>
  cases ry
  cases x with
  | non=>cases rx;exact SeqAt.EqAt.bool_none a
  | bl b=>cases rx;exact SeqAt.EqAt.bool_bool a b
  | int b=>obtain ⟨t,rfl⟩:=rx;exact SeqAt.EqAt.bool_int a b t
  | str b=>obtain ⟨t,rfl⟩:=rx;exact SeqAt.EqAt.bool_str a b t
  | _=>exact absurd (show false = true from fx) Bool.false_ne_true
 | int a =>
  obtain ⟨t',rfl⟩:=ry
  cases x with
  | non=>cases rx;exact SeqAt.EqAt.int_none a t'
  | bl b=>cases rx;exact SeqAt.EqAt.int_bool a t' b
  | int b=>obtain ⟨t,rfl⟩:=rx;exact SeqAt.EqAt.int_int a t' b t
  | str b=>obtain ⟨t,rfl⟩:=rx;exact SeqAt.EqAt.int_str a t' b t
  | _=>exact absurd (show false = true from fx) Bool.false_ne_true
 | str a =>
  obtain ⟨t',rfl⟩:=ry
  cases x with
  | non=>cases rx;exact SeqAt.EqAt.str_none a t'
  | bl b=>cases rx;exact SeqAt.EqAt.str_bool a t' b
  | int b=>obtain ⟨t,rfl⟩:=rx;exact SeqAt.EqAt.str_int a t' b t
  | str b=>obtain ⟨t,rfl⟩:=rx;exact SeqAt.EqAt.str_str a t' b t
  | _=>exact absurd (show false = true from fx) Bool.false_ne_true
 | _=>exact absurd (show false = true from fy) Bool.false_ne_true
noncomputable def eqU (x:V) (u:Value):Bool:=match u with
 | .none=>eqV .non x
 | .bool b=>eqV (.bl b) x
 | .int i _=>eqV (.int i) x
 | .str z _=>eqV (.str z) x
 | _=>false
theorem eqU_of {x y:V} {u:Value} (r:RelV y u) (f:flatV y = true):eqU x u = eqV y x:=by
 cases y with
 | non=>cases r;rfl
 | bl b=>cases r;rfl
 | int i=>obtain ⟨t,rfl⟩:=r;rfl
 | str z=>obtain ⟨t,rfl⟩:=r;rfl
 | _=>exact absurd (show false = true from f) Bool.false_ne_true
theorem any_eqU {x:V}:∀ {xs:List V} {us:List Value},Vals xs us→xs.all flatV = true→us.any (eqU x) = xs.any fun y=>eqV y x
 | _,_,.nil,_=>rfl
 | y :: xs,u :: us,.cons r t,f=>by
  rw [List.all_cons,Bool.and_eq_true] at f
  rw [List.any_cons,List.any_cons,eqU_of r f.1,any_eqU t f.2]
theorem mem_eqAt {A:Around} {s:Shared} {x:V} {v:Value} (rx:RelV x v) (fx:flatV x = true):∀ {xs:List V} {us:List Value},Vals xs us→xs.all flatV = true→∀ u∈us,SeqAt.EqAt A s u v (eqU x u)
 | _,_,.nil,_=>fun u hu=>by cases hu
 | y :: xs,u :: us,.cons r t,f=>fun u' hu=>by
  rw [List.all_cons,Bool.and_eq_true] at f
  rcases List.mem_cons.mp hu with rfl | hu
  ·rw [eqU_of r f.1];exact eqAt_V r rx f.1 fx
  ·exact mem_eqAt rx fx t f.2 u' hu
noncomputable def inV (x:V) (xs:List V):Bool:=xs.any fun y=>eqV y x
noncomputable def rIn (K:PySem.W.Frag) (neg:Bool):R2:=fun x y H Q=>∃ p xs,y = .ref p∧(SqL K H p xs∨SqT K H p xs)∧flatV x = true∧xs.all flatV = true∧Q (.bl (if neg then !inV x xs else inV x xs)) H
theorem op_in_seq:OpR X (compareOp .In) (rIn X.K false):=by
 intro pins s σ H x y v u Q I rx ry h
 obtain ⟨p,xs,rfl,hq,fx,fs,q⟩:=h
 cases ry
 rcases hq with hq | hq
 ·obtain ⟨its,r,pl,hz⟩:=I.list hq
  refine SeqAt.in_listAt (eqU x) pl.isList (fun w hw=>mem_eqAt rx fx r fs w (by simpa using hw)) ⟨.bl _,H,I,rfl,?_⟩
  rw [show its.toArray.any (eqU x) = its.any (eqU x) by simp,any_eqU r fs]
  exact q
 ·obtain ⟨its,r,pl,hz⟩:=I.tuple hq
  refine SeqAt.in_tupleAt (eqU x) pl (fun w hw=>mem_eqAt rx fx r fs w (by simpa using hw)) ⟨.bl _,H,I,rfl,?_⟩
  rw [show its.toArray.any (eqU x) = its.any (eqU x) by simp,any_eqU r fs]
  exact q
theorem call_len_seq:CallR X (.builtin "len") (fun xs H Q=>∃ p ys,xs = [.ref p]∧(SqL X.K H p ys∨SqT X.K H p ys)∧Q (.int ys.length) H):=by
 intro pins s σ H xs us Q I r h
 obtain ⟨p,ys,rfl,hq,q⟩:=h
 obtain ⟨u,rfl,rx⟩:=vals1 r
 cases rx
 have hn:=line63
 rcases hq with hq | hq
 ·obtain ⟨its,r',pl,hz⟩:=I.list hq
  have hlen:=r'.length
  exact Calls.call_len_list pl.isList (by simp only [List.size_toArray] <;> omega) ⟨.int ys.length,H,I.tok _,⟨s.toks + 1,by rw [List.size_toArray,hlen]⟩,q⟩
 ·obtain ⟨its,r',pl,hz⟩:=I.tuple hq
  have hlen:=r'.length
  exact len_tuple pl (by simp only [List.size_toArray] <;> omega) ⟨.int ys.length,H,I.tok _,⟨s.toks + 1,by rw [List.size_toArray,hlen]⟩,q⟩
theorem call_list_of:CallR X (.type "list") (fun xs H Q=>∃ p ys,xs = [.ref p]∧(SqL X.K H p ys∨SqT X.K H p ys)∧∀ l,H l = none→Q (.ref l) (upd H l (.lst ys))):=by
 intro pins s σ H xs us Q I r h
 obtain ⟨p,ys,rfl,hq,q⟩:=h
 obtain ⟨u,rfl,rx⟩:=vals1 r
 cases rx
 have fin:∀ (its:List Value),Vals ys its→ys.length≤sizeLine→∀ (h':Heap) (c':Nat),(∀ b o',s.heap.get? b = some o'→h'.get? b = some o') →
   h'.get? s.heap.objs.size = some { cls:=.type "list",dict:=none,data:=.seq its.toArray c',slots:=#[] }→EP X pins σ Q (.ref s.heap.objs.size) { s with heap:=h' }:=fun its r' hz h' c' kp e =>
  ⟨.ref s.heap.objs.size,_,I.laid (t':=s.toks) kp (Nat.le_refl _) (show ObjOk X.prog X.w _ h' _ (.lst ys) from ⟨hz,its,c',r',e⟩),rfl,q _ (I.hok.fresh (Nat.le_refl _))⟩
 rcases hq with hq | hq
 ·obtain ⟨its,r',pl,hz⟩:=I.list hq
  have hlen:=r'.length
  obtain ⟨o,ho,hc,n,hd⟩:=pl.isList
  exact call_list_seq p (.inl rfl) ho hc hd (fun h' c' kp e=>fin its r' hz h' c' kp e) (by simp only [List.size_toArray] <;> omega)
 ·obtain ⟨its,r',pl,hz⟩:=I.tuple hq
  have hlen:=r'.length
  obtain ⟨o,ho,hc,n,hd⟩:=pl
  exact call_list_seq p (.inr rfl) ho hc hd (fun h' c' kp e=>fin its r' hz h' c' kp e) (by simp only [List.size_toArray] <;> omega)
theorem call_tuple_of:CallR X (.type "tuple") (fun xs H Q=>∃ p ys,xs = [.ref p]∧((SqL X.K H p ys∧∀ l,H l = none→Q (.ref l) (upd H l (.tup ys)))∨(SqT X.K H p ys∧Q (.ref p) H))):=by
 intro pins s σ H xs us Q I r h
 obtain ⟨p,ys,rfl,h⟩:=h
 obtain ⟨u,rfl,rx⟩:=vals1 r
 cases rx
 rcases h with ⟨hq,q⟩ | ⟨hq,q⟩
 ·obtain ⟨its,r',pl,hz⟩:=I.list hq
  have hlen:=r'.length
  refine call_tuple_list pl.isList (fun h' kp=>?_) (by simp only [List.size_toArray] <;> omega)
  have I1:Inv X pins σ H { s with heap:=h' }:=I.kept (t':=s.toks) kp
  have I2:Inv X pins σ (upd H h'.objs.size (.tup ys)) { s with heap:=h'.push { cls:=.type "tuple",data:=.seq its.toArray } } :=
   I1.laid (t':=s.toks) (fun b o e=>Heap.get?_push_of_some _ e) (Nat.le_refl _) (show ObjOk X.prog X.w _ _ _ (.tup ys) from ⟨hz,its,r',IsTup.new _ _⟩)
  exact ⟨.ref h'.objs.size,_,I2,rfl,q _ (I1.hok.fresh (Nat.le_refl _))⟩
 ·obtain ⟨its,r',pl,hz⟩:=I.tuple hq
  exact call_tuple_same pl ⟨.ref p,H,I,rfl,q⟩

noncomputable def tyV (K : PySem.W.Frag) (T : String) (x : V) (H : Hp) : Prop := match x with
  | .str _ => T = "str"
  | .int _ => T = "int"
  | .ref p => (T = "list" ∧ ∃ xs, SqL K H p xs) ∨ (T = "tuple" ∧ ∃ o, K.lookup p = some o ∧ o.cls = .type "tuple" ∧ o.dict = none) ∨
      (T = "dict" ∧ ((∃ kvs, H p = some (.dK kvs)) ∨ ∃ kvs, H p = some (.dT kvs))) ∨ (T = "set" ∧ ∃ S n, H p = some (.set S n))
  | _ => False
theorem tyV_is {pins:List (Addr×Obj)} {σ:St} {H:Hp} {s:Shared} {T:String} {x:V} {v:Value} (I:Inv X pins σ H s) (r:RelV x v) (ty:tyV X.K T x H) :
  s.TypeIs v T∧∀ a,v = .ref a→∃ ob,s.heap.get? a = some ob∧ob.dict = none:=by
 cases x with
 | str z =>
  obtain ⟨t,rfl⟩:=r
  cases (show T = "str" from ty)
  exact ⟨typeIs_str s z t,fun _ e=>nomatch e⟩
 | int i =>
  obtain ⟨t,rfl⟩:=r
  cases (show T = "int" from ty)
  exact ⟨typeIs_int s i t,fun _ e=>nomatch e⟩
 | ref p =>
  cases r
  rcases ty with ⟨rfl,xs,hq⟩ | ⟨rfl,o,hk,hc,hd⟩ | ⟨rfl,hk⟩ | ⟨rfl,S,n,hk⟩
  ·obtain ⟨its,_,pl,_⟩:=I.list hq
   refine ⟨pl.isList.typeIs,fun a e=>?_⟩
   cases e
   obtain ⟨o,n,e,c,hd,_⟩:=pl
   exact ⟨o,e,hd⟩
  ·refine ⟨⟨o,I.kIn p o hk,hc⟩,fun a e=>?_⟩
   cases e
   exact ⟨o,I.kIn _ o hk,hd⟩
  ·have z:∃ o,s.heap.get? p = some o∧o.ExactDict:=by
    rcases hk with ⟨kvs,hk⟩ | ⟨kvs,hk⟩
    ·obtain ⟨_,_,_,_,o,_,_,e,ex,_⟩:=I.hok p _ hk
     exact ⟨o,e,ex⟩
    ·obtain ⟨_,_,_,_,o,_,_,e,ex,_⟩:=I.hok p _ hk
     exact ⟨o,e,ex⟩
   obtain ⟨o,e,ex⟩:=z
   refine ⟨⟨o,e,ex.1⟩,fun a e2=>?_⟩
   cases e2
   exact ⟨o,e,ex.2.1⟩
  ·obtain ⟨o,_,_,_,e,ex,_⟩:=I.hok p _ hk
   refine ⟨⟨o,e,ex.1⟩,fun a e2=>?_⟩
   cases e2
   exact ⟨o,e,ex.2.1⟩
 | _=>exact False.elim ty
noncomputable def tBM0 (K:PySem.W.Frag) (T:String) (r:V→List V→Hp→VK→Prop) (to:TE):TE:=fun σ H Q=>to σ H fun x H1=>tyV K T x H1∧r x [] H1 Q
noncomputable def tBM (K:PySem.W.Frag) (T:String) (r:V→List V→Hp→VK→Prop) (to:TE) (t:TA):TE:=fun σ H Q=>to σ H fun x H1=>tyV K T x H1∧t σ H1 fun xs H2=>r x xs H2 Q
variable {o e:Expr} {es:List Expr} {to:TE} {t:TA} {name:Str} {apos cpos:Pos} {T id:String} {r:V→List V→Hp→VK→Prop}
theorem pe_bm0 (pa:PlainAttrs T) (slot:Slot T name id) (hty:typeOf (.builtin id) = pure (.type "method_descriptor")) (hm:MtR X id r) (ho:PE X o to)
  (hbase:attributeBase o name X.env (eval o X.env) = eval o X.env:=by rfl) (hline:(apos.endLine == cpos.line) = true:=by rfl):PE X (.Call (.Attribute o name apos) [] [] cpos) (tBM0 X.K T r to):=by
 intro pins s σ H Q I h
 refine wpAny_Call_method0_late hbase hline (thn (ho pins s σ H _ I h) fun v s1 ⟨x,H1,I1,r1,ty,q1⟩=>?_)
 obtain ⟨h1,h2⟩:=tyV_is I1 r1 ty
 exact ⟨T,id,pa,slot,hty,h1,h2,Calls.callWith_builtin rfl (PySem.evalArgs_none (hm pins s1 σ H1 x [] v [] Q I1 r1 .nil q1))⟩
theorem pe_bm (pa:PlainAttrs T) (slot:Slot T name id) (hty:typeOf (.builtin id) = pure (.type "method_descriptor")) (hm:MtR X id r) (ho:PE X o to) (ha:PA X (e :: es) t)
  (hbase:attributeBase o name X.env (eval o X.env) = eval o X.env:=by rfl)
  (hfew:((backTo cpos (starEach (e :: es) X.env)).all (fun x=>!x.1) && (backToKw cpos (keywordEach [] X.env)).all (fun x=>x.1.isSome)
   && decide ((e :: es).length + ([]:List Keyword).length + (if ([]:List Keyword).isEmpty then 0 else 1) < 30)) = true:=by rfl)
  (hline:(apos.endLine == cpos.line) = true:=by rfl) (hs:starEach (e :: es) X.env = (false,eval e X.env) :: starEach es X.env:=by rfl) (hplain:(backTo cpos (starEach es X.env)).any (·.1) = false:=by rfl) :
  PE X (.Call (.Attribute o name apos) (e :: es) [] cpos) (tBM X.K T r to t):=by
 intro pins s σ H Q I h
 refine wpAny_Call_method_late hbase hfew hline rfl (thn (ho pins s σ H _ I h) fun v s1 ⟨x,H1,I1,r1,ty,q1⟩=>?_)
 obtain ⟨h1,h2⟩:=tyV_is I1 r1 ty
 refine ⟨T,id,pa,slot,hty,h1,h2,?_⟩
 have hA:=ha cpos pins s1 σ H1 _ I1 q1
 rw [hs] at hA ⊢
 refine Calls.callWith_builtin (by show (false || (backTo cpos (starEach es X.env)).any (·.1)) = false;rw [hplain] <;> rfl) (Calls.evalArgs_plain ?_)
 exact thn hA fun us s2 ⟨vs,H2,I2,r2,q2⟩=>hm pins s2 σ H2 x vs v us Q I2 r1 r2 q2
/- xs.append(e), list.index on a module's tuple .. are MtR facts of 06m -/
end
end L2

namespace L2
open PySem PySem.Spec PyProof.Rows

noncomputable def MtM (X:Cx) (id:String) (r:V→List V→Hp→VK→Prop):Prop :=
 ∀ (pins:List (Addr×Obj)) (s:Shared) (σ:St) (H:Hp) (x:V) (xs:List V) (v:Value) (us:List Value) (Q:VK),Inv X pins σ H s→RelV x v→Vals xs us→r x xs H Q →
  wpAny (model X.prog X.w) X.A (call (.builtin id) (v :: us)) (EP X pins σ Q) X.xe s

theorem Vals.one:∀ {x:V} {us:List Value},Vals [x] us→∃ u,us = [u]∧RelV x u
 | _,_,.cons r .nil=>⟨_,rfl,r⟩
theorem Vals.two:∀ {x y:V} {us:List Value},Vals [x,y] us→∃ u v,us = [u,v]∧RelV x u∧RelV y v
 | _,_,_,.cons r (.cons q .nil)=>⟨_,_,rfl,r,q⟩
theorem Vals.zero:∀ {us:List Value},Vals [] us→us = []
 | _,.nil=>rfl
theorem Vals.dropLast {xs:List V} {us:List Value} (h:Vals xs us):Vals xs.dropLast us.dropLast:=by
 induction h with
 | nil=>exact .nil
 | cons r t ih =>
  cases t with
  | nil=>exact .nil
  | cons q t'=>exact .cons r ih
theorem Vals.eraseIdx:∀ {xs:List V} {us:List Value} (i:Nat),Vals xs us→Vals (xs.eraseIdx i) (us.eraseIdx i)
 | _,_,_,.nil=>.nil
 | _,_,0,.cons _ t=>t
 | _,_,i + 1,.cons r t=>.cons r (Vals.eraseIdx i t)
theorem erase_last {α:Type} (l:List α):l.eraseIdx (l.length - 1) = l.dropLast:=by
 induction l with
 | nil=>rfl
 | cons a r ih =>
  cases r with
  | nil=>rfl
  | cons b r =>
   have e:(a :: b :: r).length - 1 = ((b :: r).length - 1) + 1:=by
    have h1:(a :: b :: r).length = r.length + 2:=rfl
    have h2:(b :: r).length = r.length + 1:=rfl
    omega
   rw [e,List.eraseIdx_cons_succ,ih]
   all_goals rfl
theorem len_erase {α:Type}:∀ (l:List α) (i:Nat),(l.eraseIdx i).length≤l.length
 | [],_=>Nat.le_refl _
 | _ :: _,0=>Nat.le_succ _
 | _ :: r,i + 1=>Nat.succ_le_succ (len_erase r i)
section
variable {X:Cx} {pins:List (Addr×Obj)} {σ:St} {H:Hp} {s:Shared} {l b:Addr} {xs ys zs:List V}

theorem Inv.lset {its its':List Value} {n:Nat} {f:Array Value→Array Value} {t':Nat} (I:Inv X pins σ H s) (hH:H l = some (.lst xs))
  (e:s.heap.get? l = some { cls:=.type "list",data:=.seq its.toArray n }) (hf:f its.toArray = its'.toArray) (hv:Vals ys its') (hz:ys.length≤sizeLine) :
  Inv X pins σ (upd H l (.lst ys)) { s with heap:=s.heap.update l (Obj.mapSeq f),toks:=t' }:=by
 have q:=PySem.IsL.update e f
 rw [hf] at q
 refine I.write (x:=l) (e:=l) (by rw [hH];exact trivial) (.inl rfl) (fun b' u hb hu=>(Heap.get?_update_other s.heap (Obj.mapSeq f) (Ne.symm hb)).trans hu) ⟨_,q⟩ ?_
 exact ⟨hz,its',_,hv,q⟩
theorem Inv.lnew {its:List Value} {t':Nat} (I:Inv X pins σ H s) (hv:Vals ys its) (hz:ys.length≤sizeLine) :
  Inv X pins σ (upd H s.heap.objs.size (.lst ys)) { s with heap:=s.heap.push { cls:=.type "list",data:=.seq its.toArray },toks:=t' } :=
 I.laid (fun _ _ q=>Heap.get?_push_of_some _ q) (Nat.le_refl _) ⟨hz,its,0,hv,Heap.get?_push_size _ rfl⟩
theorem Inv.fresh (I:Inv X pins σ H s):H s.heap.objs.size = none:=I.hok.fresh (Nat.le_refl _)
theorem Inv.lstM (I:Inv X pins σ H s) (hH:H l = some (.lst xs)):xs.length≤sizeLine∧∃ (its:List Value) (n:Nat),Vals xs its∧xs.length = its.length∧s.heap.get? l = some { cls:=.type "list",data:=.seq its.toArray n }:=by
 obtain ⟨z,its,n,r,e⟩:=I.hok l _ hH
 exact ⟨z,its,n,r,r.length,e⟩

end

section
variable {X:Cx}

noncomputable def rAppend:V→List V→Hp→VK→Prop:=fun x vs H Q=>∃ l xs y,x = .ref l∧vs = [y]∧H l = some (.lst xs)∧xs.length < sizeLine∧Q .non (upd H l (.lst (xs ++ [y])))
theorem mt_append:MtM X "list.append" rAppend:=by
 intro pins s σ H x vs v us Q I rx rv h
 obtain ⟨l,xs,y,rfl,rfl,hH,hz,q⟩:=h
 cases rx
 obtain ⟨u,rfl,ru⟩:=rv.one
 obtain ⟨z,its,n,r,hl,e⟩:=I.lstM hH
 refine call_meets F.slot_list_append ⟨_,e,rfl⟩ F.entry_list_append (F.args_list_append_2 _ _) (PySem.list_append l its.toArray n u (by rw [List.size_toArray];omega)) ⟨e,?_⟩
 refine ⟨.non,_,I.lset (its':=its ++ [u]) hH e (by simp) (r.append (.cons ru .nil)) ?_,rfl,q⟩
 rw [List.length_append,List.length_singleton]
 omega

noncomputable def rPop:V→List V→Hp→VK→Prop:=fun x vs H Q=>∃ l xs y,x = .ref l∧vs = []∧H l = some (.lst xs)∧xs[xs.length - 1]? = some y∧Q y (upd H l (.lst xs.dropLast))
theorem mt_pop:MtM X "list.pop" rPop:=by
 intro pins s σ H x vs v us Q I rx rv h
 obtain ⟨l,xs,y,rfl,rfl,hH,hy,q⟩:=h
 cases rx
 have hus:=rv.zero
 subst hus
 obtain ⟨z,its,n,r,hl,e⟩:=I.lstM hH
 obtain ⟨u,hu,ru⟩:=r.get hy
 have hy':its.toArray[its.toArray.size - 1]? = some u:=by
  show its.toArray[its.length - 1]? = some u
  rw [← Array.getElem?_toList,← hl]
  exact hu
 refine call_meets F.slot_list_pop ⟨_,e,rfl⟩ F.entry_list_pop (F.args_list_pop_1 _) (MeetsSeq.list_pop_last l its.toArray n u hy' (by rw [List.size_toArray];omega)) ⟨e,?_⟩
 refine ⟨y,_,I.lset (its':=its.dropLast) hH e ?_ r.dropLast ?_,ru,q⟩
 ·show its.toArray.eraseIdxIfInBounds (its.toArray.size - 1) = its.dropLast.toArray
  rw [List.size_toArray,List.eraseIdxIfInBounds_toArray,erase_last]
 ·rw [List.length_dropLast]
  omega

noncomputable def rPopAt:V→List V→Hp→VK→Prop:=fun x vs H Q=>∃ l xs i k y,x = .ref l∧vs = [.int i]∧H l = some (.lst xs)∧-(2 ^ 63)≤i∧i < 2 ^ 63∧seqIndex? i xs.length = some k∧xs[k]? = some y∧Q y (upd H l (.lst (xs.eraseIdx k)))
theorem mt_popAt:MtM X "list.pop" rPopAt:=by
 intro pins s σ H x vs v us Q I rx rv h
 obtain ⟨l,xs,i,k,y,rfl,rfl,hH,h1,h2,hk,hy,q⟩:=h
 cases rx
 obtain ⟨u,rfl,ru⟩:=rv.one
 obtain ⟨t,rfl⟩:=ru
 obtain ⟨z,its,n,r,hl,e⟩:=I.lstM hH
 obtain ⟨w,hw,rw'⟩:=r.get hy
 refine call_meets F.slot_list_pop ⟨_,e,rfl⟩ F.entry_list_pop (F.args_list_pop_2 _ _)
  (MeetsSeq.list_pop_at l its.toArray n i t k w (fitsIndex_both h1 h2) (by rw [List.size_toArray,← hl];exact hk) (by rw [← Array.getElem?_toList];exact hw) (by rw [List.size_toArray];omega)) ⟨e,?_⟩
 refine ⟨y,_,I.lset (its':=its.eraseIdx k) hH e ?_ (r.eraseIdx k) ?_,rw',q⟩
 ·show its.toArray.eraseIdxIfInBounds k = (its.eraseIdx k).toArray
  rw [List.eraseIdxIfInBounds_toArray]
 ·have:=len_erase xs k
  omega

noncomputable def rClear:V→List V→Hp→VK→Prop:=fun x vs H Q=>∃ l xs,x = .ref l∧vs = []∧H l = some (.lst xs)∧Q .non (upd H l (.lst []))
theorem mt_clear:MtM X "list.clear" rClear:=by
 intro pins s σ H x vs v us Q I rx rv h
 obtain ⟨l,xs,rfl,rfl,hH,q⟩:=h
 cases rx
 have hus:=rv.zero
 subst hus
 obtain ⟨z,its,n,r,hl,e⟩:=I.lstM hH
 refine call_meets F.slot_list_clear ⟨_,e,rfl⟩ F.entry_list_clear (F.args_list_clear_1 _) (AutoSeq1.list_clear_list_0 l its.toArray n (by rw [List.size_toArray];omega)) ⟨e,?_⟩
 exact ⟨.non,_,I.lset (its':=[]) (ys:=[]) hH e rfl .nil (Nat.zero_le _),rfl,q⟩

noncomputable def rCat:R2:=fun x y H Q=>∃ l b xs zs,x = .ref l∧y = .ref b∧H l = some (.lst xs)∧H b = some (.lst zs)∧xs.length + zs.length≤sizeLine∧∀ p,H p = none→Q (.ref p) (upd H p (.lst (xs ++ zs)))
theorem op_cat:OpR X (binaryOp .Add) rCat:=by
 intro pins s σ H x y v u Q I rx ry h
 obtain ⟨l,b,xs,zs,rfl,rfl,hH,hB,hz,q⟩:=h
 cases rx
 cases ry
 obtain ⟨z,its,n,r,hl,e⟩:=I.lstM hH
 obtain ⟨z2,its2,n2,r2,hl2,e2⟩:=I.lstM hB
 refine PySem.P.add_list e e2 ?_ (by rw [List.size_toArray,List.size_toArray];omega)
 have ea:its.toArray ++ its2.toArray = (its ++ its2).toArray:=by simp
 rw [ea]
 exact ⟨.ref _,_,I.lnew (t':=s.toks) (r.append r2) (by rw [List.length_append];omega),rfl,q _ I.fresh⟩
end


end L2

namespace Att
open PySem PySem.W PySem.Calls PyProof.Rows

theorem ints_of_wellAll {P:Params} {h:Heap}:∀ (ns:List Int) (vs:List Value),WellAll P h vs (ns.map WData.int)→IntsAre vs ns:=by
 intro ns
 induction ns with
 | nil =>
  intro vs w
  rw [List.map_nil] at w
  cases w
  exact .nil
 | cons n ns ih =>
  intro vs w
  rw [List.map_cons] at w
  cases w with
  | cons a b =>
   cases a
   exact .cons _ _ (ih _ b)

theorem script_of {l:OpenLaw} {n:Nat} (hn:l.most = some n) {P:Params} {h:Heap} {args:List WData} {vals:List Value}
  (hpre:l.row.toRowW.claim.pre args = true) (hwl:WellAll P h vals args) :
  ∃ a vs ns,vals = [Value.ref a]∧args = [WData.list (ns.map WData.int)]∧h.get? a = some { cls:=.type "list",data:=.seq vs.toArray }∧IntsAre vs ns∧ns.length≤n:=by
 have hsh:WShape.hasAll [] args [.list .int] = true:=(pre_splitW hpre).1
 have hc:l.pre.holds [] { args:=args } = true:=(pre_splitW hpre).2
 obtain ⟨d,r,rfl,h1,h2⟩:=hasAllW_cons hsh
 obtain rfl:=hasAllW_nil h2
 obtain ⟨xs,rfl,h3⟩:=hasW_list h1
 obtain ⟨ns,rfl⟩:=items_int h3
 have hlen:ns.length≤n:=by
  unfold OpenLaw.pre at hc
  have h4:(WTm.not (.lt (.lit (.int (n:Int))) (.len (.arg 0)))).holds [] { args:=[.list (ns.map .int)] } = true:=by
   have h4:=(holds_andW hc).1
   rw [hn] at h4
   exact h4
  have h5:=condW_of h4 (w_not (w_lt w_lit (w_len_list (w_arg rfl))))
  rw [List.length_map] at h5
  refine Nat.le_of_not_lt fun q=>?_
  have q':(n:Int) < ((ns.length:Nat):Int):=by omega
  first
   | (rw [decide_eq_true q'] at h5;exact absurd h5 (by decide))
   | (simp at h5;omega)
 cases hwl with
 | cons w1 w2 =>
  cases w2
  cases w1 with
  | list ho hall=>exact ⟨_,_,ns,rfl,rfl,ho,ints_of_wellAll ns _ hall,hlen⟩

theorem post_true (l:OpenLaw) (args:List WData):l.row.toRowW.claim.post args (.bool true) args = true :=
 postW_of (r:=l.row.toRowW) (X:=(true == true))
  (show WShape.has [] (.bool true) .bool = true by first | rfl | decide | simp [WShape.has,WShape.arms,WShape.armsAll])
  (show (WTm.eq .res (.lit (.bool true))).value [] { args:=args,res:=some (.bool true),after:=args } = some (.bool (true == true)) from w_eq_bool (w_res rfl) w_lit) rfl

theorem attach_call {l:OpenLaw} {n:Nat} {q:Program} {loose:List Str} {XP:(Str→Option Value)→Heap→Prop} {YP:World→Heap→Prop} {d:DefRec}
  (hn:l.most = some n) (hdf:d.params.defaults = [])
  (call:∀ (w:World) (s₀ s₁:Shared) (mg mb:Str→Option Value) (fa:Addr) (o:Obj) (pm cd doc:Value) (a:Addr) (vs:List Value) (ns:List Int),
   Ground q loose [] XP w s₀ mg mb s₁.heap→YP w s₁.heap →
   s₁.heap.get? fa = some o→o.data = .func (docDef d.name d.params d.body d.scope pm cd doc)→s₁.heap.CodeRec cd d.name→mg d.name = some (.ref fa) →
   s₁.heap.get? a = some { cls:=.type "list",data:=.seq vs.toArray }→IntsAre vs ns→ns.length≤n→s₁.gens = #[] →
   codeAny (model l.prog w) callerA (.call (.ref fa) ⟨[.ref a],[]⟩) (fun r s'=>r = .ok (.ret (.bool true))∧OldK s₁.heap s'.heap∧s'.os = s₁.os∧AllBare s'.gens) s₁) :
  WalkO q loose XP YP l.row.toRowW d [] (fun f vs=>PySem.call f vs):=by
 intro w s₀ s₁ mg mb G Y fa o pm cd doc dV kV ho hd hcd hD hmg hg args vals as hpre hlay hrd hwl hlo
 obtain rfl:dV = .none:=Dflts.none hD hdf
 obtain rfl:kV = .none:=Dflts.noKw hD
 obtain ⟨a,vs,ns,rfl,rfl,hobj,hints,hlen⟩:=script_of hn hpre hwl
 refine enter_call (codeAny_mono (call w s₀ s₁ mg mb fa o pm cd doc a vs ns G Y ho (fd_plain hd) hcd hmg hobj hints hlen hg) fun r s' hq=>?_)
 obtain ⟨rfl,h2,h3,h4⟩:=hq
 exact ⟨.inl ⟨.bool true,.bool true,[],rfl,fun _=>rfl,.bool true,post_true l _,fun _=>⟨List.Pairwise.nil,fun _ hm=>(nomatch hm)⟩⟩,h2,h3,h4⟩

end Att

namespace L2
open PySem PySem.Spec PyProof.Rows

theorem vals_ints:∀ {vs:List Value} {ns:List Int},IntsAre vs ns→Vals (ns.map V.int) vs
 | _,_,.nil=>.nil
 | _,_,.cons n t h=>.cons ⟨t,rfl⟩ (vals_ints h)

noncomputable def Only (H:Hp):Prop:=∀ b,H b = none∨∃ o xs,H b = some (.frz o (.lst xs))

theorem law_call {P:Program} {w:World} {K:PySem.W.Frag} {mg mb:Str→Option Value} {CX:CXT} {k:Nat} {fa a:Addr} {fd:FuncData} {x:Str} {sp:Sp} {s₁:Shared} {vs:List Value} {ns:List Int}
  (KX:K.In s₁.heap) (hns:s₁.heap.Ns mainGlobals mg) (hb:s₁.heap.Ns builtinsNs mb) (hbb:∀ x:Str,x≠"__name__"→mb x = bootBuiltins x) (hlim:s₁.heap.NoLimit) (hg:s₁.gens = #[])
  (ha:s₁.heap.get? a = some { cls:=.type "list",data:=.seq vs.toArray }) (hi:IntsAre vs ns) (hl:ns.length≤sizeLine) (hr:Room k callerA)
  (F:∀ base:Heap,K.In base→base.Ns mainGlobals mg→FnOk P w K mg base CX k fa fd [x] sp) (hbind:∀ (s:Shared) (u:Value),BindsTo s fd ⟨[u],[]⟩ [(x,u)])
  (hsp:∀ H:Hp,Only H→SqL K H a (ns.map V.int)→sp [.ref a] H (fun v _=>v = .bl true) fun _ _ _=>False)
  (hCX:∀ H e s',CX [] H s₁ (fun _ _ _=>False) e s'→False) :
  codeAny (model P w) callerA (.call (.ref fa) ⟨[.ref a],[]⟩) (fun r s'=>r = .ok (.ret (.bool true))∧OldK s₁.heap s'.heap∧s'.os = s₁.os∧AllBare s'.gens) s₁:=by
 have rv:=vals_ints hi
 have lenV:=hi.length
 have core:∀ H:Hp,Only H→SqL K H a (ns.map V.int)→HOk P w H s₁.heap→(∀ b,H b≠none→b = a)→(H a≠none→K.lookup a = none) →
   codeAny (model P w) callerA (.call (.ref fa) ⟨[.ref a],[]⟩) (fun r s'=>r = .ok (.ret (.bool true))∧OldK s₁.heap s'.heap∧s'.os = s₁.os∧AllBare s'.gens) s₁:=by
  intro H hO hS hok hA hK
  have base_of:∀ {b:Addr} {o:Obj},s₁.heap.get? b = some o→H b = none→(hidT s₁.heap H).get? b = some o:=fun e n=>hidT_get e n
  have noA:∀ {b:Addr} {o:Obj} {es:Array DictEntry} {ep:Nat},s₁.heap.get? b = some o→o.data = .dict es ep→H b = none:=fun {b o es ep} e d=>by
   cases q:H b with
   | none=>rfl
   | some u =>
    have e':b = a:=hA b (by rw [q];simp)
    subst e'
    rw [ha] at e;cases e
    have d':Data.seq vs.toArray _ = Data.dict es ep:=d
    cases d'
  have nsK:∀ {b:Addr} {m:Str→Option Value},s₁.heap.Ns b m→(hidT s₁.heap H).Ns b m:=fun {b m} ⟨o,es,ep,e,d,r⟩=>⟨o,es,ep,base_of e (noA e d),d,r⟩
  have hKb:K.In (hidT s₁.heap H):=fun b o e=>base_of (KX b o e) (by
   cases q:H b with
   | none=>rfl
   | some u =>
    have e':b = a:=hA b (by rw [q];simp)
    subst e'
    rw [hK (by rw [q];simp)] at e;cases e)
  have hM:Mod K mg (hidT s₁.heap H):=⟨hKb,nsK hns,⟨mb,nsK hb,hbb⟩,let ⟨mc,h1,h2⟩:=hlim;⟨mc,nsK h1,h2⟩⟩
  have e0:Env0 P w K mg (hidT s₁.heap H) callerA [] s₁ H:=⟨rfl,hM,fun b o e=>of_hidT e,Nat.le_of_eq (hidT_size _ _),trivial,fun b hb=>absurd (show b∈([]:List Addr) from hb) (by simp),hok,.of_eq hg⟩
  refine codeAny_mono ((F _ hKb (nsK hns)).run callerA [] s₁ H ⟨[.ref a],[]⟩ [.ref a] [.ref a] _ _ hr e0 (hbind s₁ (.ref a)) (.cons rfl .nil) (hsp H hO hS)) fun r s' h=>?_
  cases r with
  | error e=>exact (hCX H e s' h).elim
  | ok fl =>
   cases fl with
   | next=>exact False.elim h
   | brk=>exact False.elim h
   | cont=>exact False.elim h
   | ret u =>
    obtain ⟨v,H',os,bare,un,hok',r',q⟩:=h
    have q':v = .bl true:=q
    subst q'
    obtain rfl:u = Value.bool true:=r'
    refine ⟨rfl,OldK.of_keep fun b o e=>?_,os,bare⟩
    cases q:H b with
    | none=>exact un.keep b o e q (by intro z;exact absurd (show b∈([]:List Addr) from z) (by simp)) (by simp)
    | some u =>
     rcases hO b with z | ⟨ob,xs,z⟩
     ·rw [q] at z;cases z
     ·have z2:=un.frzs b ob _ z
      obtain ⟨e1,_⟩:=hok b _ z
      obtain ⟨e2,_⟩:=hok' b _ z2
      rw [e] at e1;cases e1
      exact e2
 cases hk:K.lookup a with
 | some o =>
  have e:=KX a o hk
  rw [ha] at e
  cases e
  refine core (fun _=>none) (fun _=>.inl rfl) (.inr ⟨_,vs.toArray,_,hk,rfl,rfl,rfl,by rw [List.size_toArray,lenV];exact hl,by simpa using rv⟩) (fun b u z=>by have z':(none:Option HO) = some u:=z;cases z') (fun b z=>absurd rfl z) fun z=>absurd rfl z
 | none =>
  refine core (fun b=>if b = a then some (.frz { cls:=.type "list",data:=.seq vs.toArray } (.lst (ns.map V.int))) else none) (fun b=>?_) (.inl (.inr ⟨{ cls:=.type "list",data:=.seq vs.toArray },if_pos rfl⟩)) (fun b u z=>?_) (fun b z=>?_) fun _=>hk
  ·by_cases hb:b = a
   ·exact .inr ⟨_,_,if_pos hb⟩
   ·exact .inl (if_neg hb)
  ·by_cases hb:b = a
   ·have z':=(if_pos hb).symm.trans z
    cases z'
    subst hb
    exact ⟨ha,by rw [List.length_map];exact hl,vs,_,rv,ha⟩
   ·have z':=(if_neg hb).symm.trans z
    cases z'
  ·by_cases hb:b = a
   ·exact hb
   ·exact absurd (if_neg hb) z
end L2

namespace L2
open PySem PySem.Spec PyProof.Rows

theorem walk_of {l:PySem.W.OpenLaw} {n k:Nat} {q:Program} {loose:List Str} {XP:(Str→Option Value)→Heap→Prop} {YP:World→Heap→Prop} {d:DefRec} {K:Params→PySem.W.Frag} {CX:World→CXT} {sp:World→Sp} {x:Str}
  (hn:l.most = some n) (hn2:n≤sizeLine) (hdf:d.params.defaults = []) (hr:Room k callerA)
  (hY:∀ (w:World) (h:Heap),YP w h→(K w.params).In h)
  (F:∀ (w:World) (mg:Str→Option Value) (fa:Addr) (h:Heap),(K w.params).In h→h.Ns mainGlobals mg→mg d.name = some (.ref fa) →
   ∃ fd:FuncData,(∀ (s:Shared) (u:Value),BindsTo s fd ⟨[u],[]⟩ [(x,u)]) ∧
    ∀ base:Heap,(K w.params).In base→base.Ns mainGlobals mg→FnOk l.prog w (K w.params) mg base (CX w) k fa fd [x] (sp w))
  (hsp:∀ (w:World) (H:Hp) (a:Addr) (ns:List Int),ns.length≤n→Only H→SqL (K w.params) H a (ns.map V.int)→sp w [.ref a] H (fun v _=>v = .bl true) fun _ _ _=>False)
  (hCX:∀ (w:World) (H:Hp) (s:Shared) (e:Value) (s':Shared),CX w [] H s (fun _ _ _=>False) e s'→False) :
  PySem.W.WalkO q loose XP YP l.row.toRowW d [] (fun f vs=>PySem.call f vs):=by
 refine Att.attach_call hn hdf fun w s₀ s₁ mg mb fa o pm cd doc a vs ns G Y ho hd hcd hmg hobj hints hlen hg=>?_
 have KX:=hY w _ Y
 obtain ⟨fd,hb,hF⟩:=F w mg fa _ KX G.T.g hmg
 exact law_call KX G.T.g G.T.b G.T.builtins G.T.nolimit hg hobj hints (Nat.le_trans hlen hn2) hr hF hb (fun H hO hS=>hsp w H a ns hlen hO hS) fun H e s'=>hCX w H s₁ e s'
end L2

/- THE LAST THEOREM (shape; LID, My.* are yours):
   My.Adr: a structure of the addresses that your layer names (classes, functions); My.Txt K t: a structure (Prop) of the equations over K;
   My.txt_mk : {K} {implicit addresses ..} (e1 : nsIn K mainGlobals "law" = some (some (.ref f))) (e2 : K.lookup f = some ⟨oc, od, .func (fnOf "law" "law" params body scope dV kV doc pm an cdv ct), sl⟩) (e3 : codeIn K cdv "law" = true) .. : ∃ t, My.Txt K t

set_option maxRecDepth 100000 in
set_option maxHeartbeats 0 in
theorem PySem.Challenge.cw_LID_holds : PySem.Challenge.rw_LID.Holds := by
 w_on;o_law;k_head;(case hw=>w_witness2)
 k_fill
 refine L2.walk_of (l:=PySem.Challenge.rw_LID) (n:=63) (k:=40) (x:="script") (CX:=fun w=>..) (sp:=fun _=>My.sp_law) rfl (by decide) rfl ⟨rfl,by decide,by decide⟩ (fun w h Y=>PySem.W.kIn_of Y) ?F ?S ?C
 case F =>
  intro w mg fa h KX G hmg
  have T:∃ t,My.Txt (L2.KOf KX) t:=by
   dsimp only [L2.KOf]                          -- K must stand as «<heap const> w.params» for k_is
   refine' My.txt_mk ?e1 ?e2 ?e3 ..
   (case e1 => PySem.W.k_is)                    -- in the order: a name -> its address -> its object -> its parts
   (case e2=>PySem.W.k_is)
   ..
  obtain ⟨t,T⟩:=T
  have e0:=hmg.symm.trans (PySem.W.mg_of KX G T.law)
  cases e0                                       -- fa is the law's own address
  exact ⟨_, fun s u => .of_eq rfl, fun base kb nb => My.law_fn T kb nb⟩     -- if «.of_eq rfl» comes too early: refine' ⟨_, ?b, fun base kb nb => My.law_fn T kb nb⟩; exact fun s u => .of_eq rfl
 case S=>exact fun w H a ns hl hO hS=>..
 case C=>exact ..
(the tactic k_is has no namespace: write k_is) -/

namespace L2
open PySem PySem.Spec PyProof.Rows

noncomputable def inClass (s:Stmt) (j:Nat):Stmt:=match s with
 | .ClassDef _ _ _ body _ _ _ _ _ _ _=>body.getD j (.Pass ⟨0,0,0,0⟩)
 | _=>.Pass ⟨0,0,0,0⟩
noncomputable def defArgs (s:Stmt):Arguments:=match s with
 | .FunctionDef _ a _ _ _ _ _ _ _ _=>a
 | _=>{ posonlyargs:=[],args:=[],vararg:=none,kwonlyargs:=[],kw_defaults:=[],kwarg:=none,defaults:=[] }
noncomputable def defBody (s:Stmt):List Stmt:=match s with
 | .FunctionDef _ _ b _ _ _ _ _ _ _=>b
 | _=>[]
noncomputable def defScope (s:Stmt):Scope:=match s with
 | .FunctionDef _ _ _ _ _ _ sc _ _ _=>sc
 | _=>{ kind:=.function,names:=[],isGenerator:=false,isCoroutine:=false }

noncomputable abbrev CX0:CXT:=fun _ _ _ _ _ _=>False
noncomputable abbrev E0:XK:=fun _ _ _=>False
theorem pass0 {X:Cx}:Passes CX0 X E0:=fun _ _ _ _ _ _ _ h=>h.elim

structure Fun (K:PySem.W.Frag) (x qual:Str) (st:Stmt) (f:Addr) (fd:FuncData):Prop where
 ex:∃ (oc:Value) (od:Option Addr) (kV doc pm:Value) (an:Option Addr) (cdv ct:Value) (osl:Array (Option Value)),
  fd = PySem.W.fnOf x qual (defArgs st) (defBody st) (defScope st) .none kV doc pm an cdv ct∧K.lookup f = some ⟨oc,od,.func fd,osl⟩∧PySem.W.codeIn K cdv qual = true
 kp:PySem.W.keepIn K (.ref f) = true
section
variable {P:Program} {w:World} {K:PySem.W.Frag} {mg:Str→Option Value} {base:Heap}
theorem Fun.ok {x qual:Str} {st:Stmt} {f:Addr} {fd:FuncData} {N ps:List Str} {k:Nat} {sp:Sp} (F:Fun K x qual st f fd) (S:FnScope N ps (defScope st)) (len:∀ vs H Q E,sp vs H Q E→vs.length = ps.length)
  (hbody:∀ (cdv:Value) (A:Around) (outer:List Env) (s:Shared) (H:Hp) (vs:List V) (Q:VK) (E:XK),Room k (A.deeper (envOfC qual (defScope st) s.heap.objs.size f cdv))→sp vs H Q E →
   ∃ t,PSs (cxOf CX0 P w K mg base N qual (defScope st) f cdv A outer s H E).nox (defBody st) t∧t { nx:=fun _ H'=>Q .non H',rt:=Q } (start N vs) H):FnOk P w K mg base CX0 (k + 1) f fd ps sp:=by
 obtain ⟨oc,od,kV,doc,pm,an,cdv,ct,osl,rfl,lk,hcd⟩:=F.ex
 refine fn_of lk hcd S len fun A outer s H vs Q E hr hsp=>?_
 obtain ⟨t,h,q⟩:=hbody cdv A outer s H vs Q E hr hsp
 exact ⟨t,h.nox,q⟩
theorem Fun.binds {x qual:Str} {st:Stmt} {f:Addr} {fd:FuncData} {ps:List Str} (F:Fun K x qual st f fd)
  (h:∀ (kV doc pm:Value) (an:Option Addr) (cdv ct:Value) (us:List Value),us.length = ps.length→bindArgs (PySem.W.fnOf x qual (defArgs st) (defBody st) (defScope st) .none kV doc pm an cdv ct) ⟨us,[]⟩ = pure (ps.zip us)):Binds K fd ps []:=by
 obtain ⟨oc,od,kV,doc,pm,an,cdv,ct,osl,rfl,lk,hcd⟩:=F.ex
 exact .all (h kV doc pm an cdv ct)
theorem fun_mk {x qual : Str} {st : Stmt} {f : Addr} {oc : Value} {od an : Option Addr} {osl : Array (Option Value)} {kV doc pm cdv ct : Value} (l : K.lookup f = some ⟨oc, od, .func (PySem.W.fnOf x qual (defArgs st) (defBody st) (defScope st) .none kV doc pm an cdv ct), osl⟩)
    (c : PySem.W.codeIn K cdv qual = true) (k : PySem.W.keepIn K (.ref f) = true) : Fun K x qual st f (PySem.W.fnOf x qual (defArgs st) (defBody st) (defScope st) .none kV doc pm an cdv ct) := ⟨⟨oc, od, kV, doc, pm, an, cdv, ct, osl, rfl, l, c⟩, k⟩
end
theorem hu_of {A:Around} {k:Nat} (hr:Room k A):A.units + 1 < cLine:=Nat.lt_of_le_of_lt (Nat.add_le_add_left (by decide:1≤64) _) hr.units
theorem small1000 {n:Nat} (h:n≤1000):n < sizeLine:=Nat.lt_of_le_of_lt h (by decide)

section
variable {X:Cx}
theorem pv (i : Nat) {x : Str} {pos : Pos} (hN : X.N[i]? = some x := by rfl) (hv : Vis X.env.scope x := by first | exact Or.inl rfl | exact Or.inr (Or.inl rfl) | exact Or.inr (Or.inr rfl)) (hd : (x == ("__debug__" : Str)) = false := by decide)
    (hcd : (x == ("__classdict__" : Str)) = false := by decide) : PE X (.Name x pos) (tVar i) := pe_var hN hv hd hcd
end

theorem iteF {A B:Prop} (h:B):if false = true then A else B:=by
 rw [if_neg Bool.false_ne_true]
 exact h
theorem iteT {A B:Prop} (h:A):if true = true then A else B:=by
 rw [if_pos rfl]
 exact h
theorem ite2 {c A B:Prop} [Decidable c] (h1:c→A) (h2:¬ c→B):if c then A else B:=by
 by_cases h:c
 ·rw [if_pos h]
  exact h1 h
 ·rw [if_neg h]
  exact h2 h
noncomputable def Same (H H':Hp):Prop:=∀ b o,H b = some o→H' b = some o
theorem Same.refl (H:Hp):Same H H:=fun _ _ h=>h
theorem Same.trans {H H1 H2:Hp} (a:Same H H1) (b:Same H1 H2):Same H H2:=fun c o h=>b c o (a c o h)
theorem Same.free {H H':Hp} (e:Same H H') {l:Addr} (h:H' l = Option.none):H l = Option.none:=by
 cases q:H l with
 | none=>rfl
 | some o =>
  rw [e l o q] at h
  cases h
theorem Same.seq {K:PySem.W.Frag} {H H':Hp} {a:Addr} {xs:List V} (e:Same H H') (h:SqL K H a xs):SqL K H' a xs:=by
 rcases h with (h | ⟨o,h⟩) | h
 ·exact .inl (.inl (e _ _ h))
 ·exact .inl (.inr ⟨o,e _ _ h⟩)
 ·exact .inr h

end L2



namespace L2
open PySem PySem.Spec PyProof.Rows

theorem quietX {α:Type} {t:Sem α} {Q Q':α→Shared→Prop} {M:Model} {A:Around} {E:Value→Shared→Prop} {s:Shared} (h:wpAny M A t Q (fun _ _=>False) s) (hQ:∀ a s,Q a s→Q' a s):wpAny M A t Q' E s :=
 wpAny_mono h hQ fun _ _ z=>z.elim
theorem vals_of_get:∀ {xs:List V} {us:List Value},xs.length = us.length→(∀ (i:Nat) (x:V) (u:Value),xs[i]? = some x→us[i]? = some u→RelV x u)→Vals xs us
 | [],[],_,_=>.nil
 | [],_ :: _,h,_=>by simp at h
 | _ :: _,[],h,_=>by simp at h
 | x :: xs,u :: us,h,f=>.cons (f 0 x u rfl rfl) (vals_of_get (by simpa using h) fun i y w e1 e2=>f (i + 1) y w (by simpa using e1) (by simpa using e2))

noncomputable def cxComp (X:Cx) (scope:Scope) (cl:List (Str×Addr)) (NC:List Str) (fp:List Addr) (C:Addr) (s₀:Shared) (H₀:Hp):Cx where
 prog:=X.prog
 w:=X.w
 K:=X.K
 mg:=X.mg
 base:=X.base
 A:=X.A
 N:=NC
 s₀:=s₀
 H₀:=H₀
 env:=compEnvC scope cl C X.env
 outer:=X.stack
 stack:=X.stack
 ex:=fp
 fn:=fun _=>false
 calm:=X.calm
 pn:=[]
 xe:=fun _ _=>False
structure CompOk (X:Cx) (scope:Scope) (cl:List (Str×Addr)) (NC:List Str) (ini:List (Option Nat)):Prop where
 clos:closureFor scope X.env = pure cl
 cell:∀ y∈scope.names,y.2≠.cell
 kind:scope.kind = .function
 names:∀ y∈scope.names,y.2 = .local→scope.names.lookup y.1 = some .local
 cls:∀ x c,cl.lookup x = some c→X.env.cells.lookup x = some c
 has:∀ x,((relabel scope X.env).names.lookup x = some .cell∨(relabel scope X.env).names.lookup x = some .free)→∃ c,cl.lookup x = some c
 len:ini.length = NC.length
 src:∀ (i j:Nat) (x:Str),ini[i]? = some (some j)→NC[i]? = some x→X.N[j]? = some x∧(X.env.kindOf x = some .cell∨X.env.kindOf x = some .free) ∧
  ((relabel scope X.env).names.lookup x = some .cell∨(relabel scope X.env).names.lookup x = some .free)
noncomputable def iniSt (ini:List (Option Nat)) (σ:St):St:=ini.map fun o=>o.bind fun j=>(σ[j]?).join
section
variable {X:Cx} {scope:Scope} {cl:List (Str×Addr)} {NC:List Str} {ini:List (Option Nat)} {pins:List (Addr×Obj)} {σ:St} {H:Hp} {s:Shared} {fp:List Addr}
theorem inv_comp {h₁:Heap} {tk:Nat} {m:Str→Option Value} (O:CompOk X scope cl NC ini) (I:Inv X pins σ H s) (hf:∀ b∈fp,FpOk X pins H b) (ho:∀ b∈fp,∃ o,s.heap.get? b = some o)
  (hn:h₁.Ns s.heap.objs.size m) (hk:∀ b o,s.heap.get? b = some o→h₁.get? b = some o) :
  Inv (cxComp X scope cl NC fp s.heap.objs.size s H) [] (iniSt ini σ) H { s with heap:=h₁,toks:=tk }:=by
 have lt:∀ b∈fp,b < s.heap.objs.size:=fun b hb=>let ⟨o,e⟩:=ho b hb;Heap.lt_size e
 refine ⟨⟨I.ok.mod,O.kind,I.ok.glob,I.ok.blt,Nat.le_refl _,fun x y c h1 h2=>I.ok.inj x y c (O.cls x c h1) (O.cls y c h2),O.has,fun x c h=>(Bool.false_ne_true h).elim,I.ok.hd,I.ok.frames,.inl rfl,
   fun b hb=>⟨Nat.ne_of_lt (lt b hb),fun x c h=>(hf b hb).2.2.2.2.1 x c (O.cls x c h)⟩,I.bs,Nat.le_trans I.ok.bsz I.sz,fun b o e hb=>?_,fun b hb hs=>?_,I.stack,I.stkFree⟩,
  rfl,I.bare,Un.kept hk,⟨m,hn,fun i x v e1 e2 e3=>?_⟩,fun x c h=>?_,I.hok.fresh (Nat.le_refl _),fun x c h=>I.freeC x c (O.cls x c h),fun p hp=>absurd (show p∈([]:List (Addr×Obj)) from hp) (by simp),I.hok.kept hk,?_⟩
 ·rcases (hf b hb).2.2.2.1 with z | z
  ·exact I.ok.noex b o e z
  ·exact absurd (Nat.lt_of_lt_of_le (Heap.lt_size e) (Nat.le_trans I.ok.bsz z)) (Nat.lt_irrefl _)
 ·rcases List.mem_cons.mp (I.stkSub b hs) with e | e
  ·exact (hf b hb).2.1 e
  ·exact (hf b hb).2.2.1 e
 ·have e2:(ini.map fun o=>o.bind fun j=>(σ[j]?).join)[i]? = some (some v):=e2
  rw [List.getElem?_map] at e2
  cases q:ini[i]? with
  | none=>rw [q] at e2;cases e2
  | some oj =>
   rw [q] at e2
   cases oj with
   | none=>cases e2
   | some j =>
    have e4:(σ[j]?).join = some v:=Option.some.inj e2
    have e5:σ[j]? = some (some v):=by
     cases z:σ[j]? with
     | none=>rw [z] at e4;cases e4
     | some y =>
      rw [z] at e4
      have e4:y = some v:=e4
      rw [e4]
    obtain ⟨a1,a2,a3⟩:=O.src i j x q e1
    obtain ⟨m0,hn0,hl⟩:=I.loc
    obtain ⟨u,r,l⟩:=hl j x v a1 e5 (.inr a2)
    refine ⟨u,r,?_⟩
    rcases l with ⟨k,_⟩ | ⟨_,c,e,z⟩
    ·rcases a2 with a2 | a2
     ·rw [k] at a2;cases a2
     ·rw [k] at a2;cases a2
    ·obtain ⟨c',e'⟩:=O.has x a3
     have e6:=O.cls x c' e'
     rw [e] at e6
     cases e6
     obtain ⟨oc,h1,h2⟩:=z
     exact .inr ⟨a3,c,e',oc,hk _ _ h1,h2⟩
 ·obtain ⟨v,oc,h1,h2⟩:=I.cell x c (O.cls x c h)
  exact ⟨v,oc,hk _ _ h1,h2⟩
 ·show (ini.map _).length = NC.length
  rw [List.length_map]
  exact O.len
theorem comp_back {pinsC:List (Addr×Obj)} {σ':St} {H':Hp} {s':Shared} {h':Heap} (I:Inv X pins σ H s) (hf:∀ b∈fp,FpOk X pins H b) (J:Inv (cxComp X scope cl NC fp s.heap.objs.size s H) pinsC σ' H' s')
  (hs:Heap.SameBut s.heap.objs.size s'.heap h'):Inv X pins σ H' { s' with heap:=h' }:=by
 have ne:∀ {b:Addr} {o:Obj},s.heap.get? b = some o→b≠s.heap.objs.size:=fun e=>Nat.ne_of_lt (Heap.lt_size e)
 have hfree:H' s.heap.objs.size = none:=J.free
 have B:Un (frs X.stack) fp H H' s.heap s'.heap:=J.base
 refine I.call' (s':={ s' with heap:=h' }) (ch:=fp) J.os ⟨fun b o q n hb hx=>(hs.2 b (ne q)).trans (B.keep b o q n hb hx),fun b o q n hb hx=>?_,B.free,fun b o q hx=>?_,B.tups,B.frzs,B.tbls⟩ (fun b u e=>?_) J.bare
  fun b hb=>⟨(hf b hb).2.2.2.1,(hf b hb).2.1,(hf b hb).2.2.2.2.1,(hf b hb).2.2.2.2.2⟩
 ·obtain ⟨sl,e⟩:=B.slot b o q n hb hx
  exact ⟨sl,(hs.2 b (ne q)).trans e⟩
 ·obtain ⟨o',e⟩:=B.there b o q hx
  exact ⟨o',(hs.2 b (ne q)).trans e⟩
 ·refine (J.hok b u e).stay (fun c v hc q=>(hs.2 c ?_).trans q) (fun _ q=>q) fun _ _ q=>q
  rintro rfl
  rcases hc with hc | hc
  ·rw [← hc,hfree] at e;cases e
  ·rw [hfree] at hc;cases hc
end

noncomputable def PTs (X:Cx) (ifs:List Expr) (t:TT):Prop :=
 ∀ (pins:List (Addr×Obj)) (s:Shared) (σ:St) (H:Hp) (Q:Bool→Hp→Prop),Inv X pins σ H s→t σ H Q →
  wpAny (model X.prog X.w) X.A (forIn ifs true fun c r=>if r = true then do let ok ← isTrue c X.env (eval c X.env);pure (ForInStep.yield ok) else pure (ForInStep.yield r)) (TP X pins σ Q) X.xe s
noncomputable def tYes:TT:=fun _ H Q=>Q true H
theorem tYes_of {σ:St} {H:Hp} {A B:Hp→Prop} (h:A H):tYes σ H (fun b H4=>if b = true then A H4 else B H4):=h
theorem pts_nil {X:Cx}:PTs X [] tYes:=fun _ _ _ H _ I h=>wpAny_tests_nil ⟨H,I,h⟩
theorem pts_one {X:Cx} {c:Expr} {t:TT} (h:PT X c t):PTs X [c] t:=fun pins s σ H Q I hw=>wpAny_tests_one (h pins s σ H Q I hw)

noncomputable def CompW (J:It) (g:TG) (tt:TT) (te:TE) (D:Addr) (Q:VK) (σ₀:St) (H₀:Hp):Prop :=
 ∃ W:Nat→Nat→St→Hp→Prop,(∃ m,W 0 m σ₀ H₀)∧∀ i m σ' H',W i m σ' H' →
  (J.stop i H'∧Q (.ref D) H')∨(J.go i H'∧∃ N:St→Hp→Prop,(∀ σ2 H2,N σ2 H2→∃ m',m' < m∧W (i + 1) m' σ2 H2) ∧
   ∀ x H2,J.yld i H' x H2→g x σ' H2 fun σ3 H3=>tt σ3 H3 fun b H4=>if b = true then te σ3 H4 fun v H5=>∃ ys,H5 D = some (.lst ys)∧ys.length < sizeLine∧N σ3 (upd H5 D (.lst (ys ++ [v]))) else N σ3 H4)
noncomputable def tComp (wi:TI) (g:TG) (tt:TT) (te:TE) (ini:List (Option Nat)):TE:=fun σ H Q=>wi σ H fun J H1=>∀ D,H1 D = none→CompW J g tt te D Q (iniSt ini σ) (upd H1 D (.lst []))
theorem pe_comp {X:Cx} {elt iter tg:Expr} {ifs:List Expr} {scope:Scope} {pos:Pos} {cl:List (Str×Addr)} {NC:List Str} {ini:List (Option Nat)} {wi:TI} {g:TG} {tt:TT} {te:TE}
  (hc:X.calm = true) (O:CompOk X scope cl NC ini) (hi:PI X tg iter wi)
  (hg:∀ fp C s₀ H₀,PG (cxComp X scope cl NC fp C s₀ H₀) tg g) (ht:∀ fp C s₀ H₀,PTs (cxComp X scope cl NC fp C s₀ H₀) ifs tt) (he:∀ fp C s₀ H₀,PE (cxComp X scope cl NC fp C s₀ H₀) elt te)
  (hs:∀ x,foldedSetIterable iter X.env x = pure x:=by intro _;rfl):PE X (.ListComp elt [⟨tg,iter,ifs,0⟩] scope pos) (tComp wi g tt te ini):=by
 intro pins s σ H Q I h
 rw [eval_ListComp]
 refine wpAny_comprehension_free (use:=none) rfl hs O.clos O.kind O.names (thn (hi pins s σ H _ I h) fun v s1 h1=>thn h1 fun itv s2 h2=>?_)
 obtain ⟨it,fp,tn,J,H2,e,I2,T,st2,f2,h2⟩:=h2
 subst e
 have hD:H2 s2.heap.objs.size = none:=I2.hok.fresh (Nat.le_refl _)
 obtain ⟨W,⟨m0,w0⟩,turn⟩:=h2 _ hD
 refine wpAny_newObj_type (wpAny_newFunctionEnv O.cell (by intro y hy;simp at hy) (fun h₁ hns₁ hsb₁=>?_) O.kind)
 dsimp only at hns₁ hsb₁ ⊢
 have I3:Inv X pins σ (upd H2 s2.heap.objs.size (.lst [])) { s2 with heap:=s2.heap.push { cls:=.type "list",dict:=none,data:=.seq ([]:List Value).toArray } }:=I2.lnew (its:=[]) (t':=s2.toks) .nil (by decide)
 have ob2:∀ b∈fp,∃ o,s2.heap.get? b = some o:=fun b hb=>let ⟨o,e,_⟩:=T.obj 0 _ st2 b hb;⟨o,e⟩
 have neD:∀ b∈fp,b≠s2.heap.objs.size:=fun b hb=>let ⟨o,e⟩:=ob2 b hb;Nat.ne_of_lt (Heap.lt_size e)
 have f3:∀ b∈fp,FpOk X pins (upd H2 s2.heap.objs.size (.lst [])) b:=fun b hb=>⟨by rw [upd_ne (neD b hb)];exact (f2 b hb).1,(f2 b hb).2⟩
 generalize hs3:({ s2 with heap:=s2.heap.push { cls:=.type "list",dict:=none,data:=.seq ([]:List Value).toArray } }:Shared) = s3 at I3
 have hh3:s2.heap.push { cls:=.type "list",dict:=none,data:=.seq ([]:List Value).toArray } = s3.heap:=by rw [← hs3]
 have ob3:∀ b∈fp,∃ o,s3.heap.get? b = some o:=fun b hb=>let ⟨o,e⟩:=ob2 b hb;⟨o,by rw [← hh3];exact Heap.get?_push_of_some _ e⟩
 rw [hh3] at hns₁ hsb₁ ⊢
 have old:∀ b o,s3.heap.get? b = some o→h₁.get? b = some o:=fun b o e=>hsb₁.extBut b o (Nat.ne_of_lt (Heap.lt_size e)) (Heap.get?_push_of_some _ e)
 have st1:tn 0 h₁:=T.keep 0 _ _ st2 fun b hb o e=>old b o (by rw [← hh3];exact Heap.get?_push_of_some _ e)
 have IC:∀ tk,Inv (cxComp X scope cl NC fp s3.heap.objs.size s3 (upd H2 s2.heap.objs.size (.lst []))) [] (iniSt ini σ) (upd H2 s2.heap.objs.size (.lst [])) { s3 with heap:=h₁,toks:=tk }:=fun tk=>inv_comp O I3 f3 ob3 hns₁ old
 have stat:∀ {H':Hp},(∀ b∈fp,H' b = none)→∀ b∈fp,FpOk (cxComp X scope cl NC fp s3.heap.objs.size s3 (upd H2 s2.heap.objs.size (.lst []))) [] H' b:=fun {H'} hn b hb=>by
  obtain ⟨o,e⟩:=ob3 b hb
  refine ⟨hn b hb,Nat.ne_of_lt (Heap.lt_size e),fun z=>?_,.inl hb,fun x c hx=>(f3 b hb).2.2.2.2.1 x c (O.cls x c hx),fun p hp=>absurd (show p∈([]:List (Addr×Obj)) from hp) (by simp)⟩
  rcases List.mem_cons.mp (I3.stkSub b z) with q | q
  ·exact (f3 b hb).2.1 q
  ·exact (f3 b hb).2.2.1 q
 have loop:∀ s₃:Shared,s₃ = { s2 with heap:=h₁,toks:=s2.toks + ([]:List (Str×Value)).length } →
   codeAny (model X.prog X.w) X.A (.compLoop (.ListComp elt [⟨tg,iter,ifs,0⟩] scope pos) 0 (.ref it) (.ref s2.heap.objs.size) (compEnvC scope cl s3.heap.objs.size X.env))
    (compPost (model X.prog X.w) X.A X.xe none (EP X pins σ Q) (.ref s2.heap.objs.size) s3.heap.objs.size) s₃:=by
  rintro s₃ rfl
  refine codeAny_loop rfl (fun n s'=>∃ i σ' H',Inv (cxComp X scope cl NC fp s3.heap.objs.size s3 (upd H2 s2.heap.objs.size (.lst []))) [] σ' H' s'∧tn i s'.heap∧(∀ b∈fp,H' b = none)∧W i n σ' H') (fun n s' hI=>?_) m0
   ⟨0,_,_,by have z:=IC (s2.toks + ([]:List (Str×Value)).length);rw [← hs3] at z ⊢;exact z,st1,fun b hb=>(f3 b hb).1,w0⟩
  show wpAny _ X.A ((compTurn (.ListComp elt [⟨tg,iter,ifs,0⟩] scope pos) 0 (.ref it) (.ref s2.heap.objs.size) (compEnvC scope cl s3.heap.objs.size X.env)).onRaise (fun x=>do noteFrame x (compEnvC scope cl s3.heap.objs.size X.env);theTreesLotGoes x)) _ _ s'
  refine wpAny_noted ?_
  rw [compTurn_list]
  obtain ⟨i,σ3,H3,I3',st3,fr3,w3⟩:=hI
  rcases turn i n σ3 H3 w3 with ⟨stop,qn⟩ | ⟨go,N,hN,step⟩
  ·refine wpAny_bind (wpAny_standAt (wpAny_bind (thn (T.done (cxComp X scope cl NC fp s3.heap.objs.size s3 (upd H2 s2.heap.objs.size (.lst []))) rfl rfl rfl hc i [] s' σ3 H3 _ I3' (stat fr3) st3 stop) fun r s4 ⟨hr,I4⟩=>?_)))
   subst hr
   obtain ⟨m',hn',_⟩:=I4.loc
   exact wpAny_pure ⟨m',hn',fun h' hs'=>⟨.ref s2.heap.objs.size,H3,comp_back I3 f3 I4 hs',rfl,qn⟩⟩
  ·refine wpAny_bind (wpAny_standAt (wpAny_bind (thn (T.item (cxComp X scope cl NC fp s3.heap.objs.size s3 (upd H2 s2.heap.objs.size (.lst []))) rfl rfl rfl hc i [] s' σ3 H3 _ I3' (stat fr3) st3 go) fun r s4 ⟨u,hr,h4⟩=>?_)))
   subst hr
   refine wpAny_bind (thn h4 fun _ s5 ⟨x,H5,I5,r5,y5,st5,fr5⟩=>?_)
   have I5':=I5.pinned (stat fr5) (T.obj _ _ st5)
   refine wpAny_bind (quietX (hg fp _ s3 _ _ s5 σ3 H5 x u _ I5' r5 (step x H5 y5)) fun _ s6 ⟨σ6,H6,I6,q6⟩=>?_)
   have again:∀ {s7:Shared} {H7:Hp},Inv (cxComp X scope cl NC fp s3.heap.objs.size s3 (upd H2 s2.heap.objs.size (.lst []))) ([] ++ pinsAt fp s5.heap) σ6 H7 s7→N σ6 H7 →
     ∃ m,m < n∧∃ i σ' H',Inv (cxComp X scope cl NC fp s3.heap.objs.size s3 (upd H2 s2.heap.objs.size (.lst []))) [] σ' H' s7∧tn i s7.heap∧(∀ b∈fp,H' b = none)∧W i m σ' H':=fun {s7 H7} I7 n7=>by
    obtain ⟨m',hm,w7⟩:=hN σ6 H7 n7
    refine ⟨m',hm,i + 1,σ6,H7,I7.unpinned,T.keep _ _ _ st5 fun b hb o e=>(I7.pin (b,o) (List.mem_append_right _ (List.mem_append_right _ (mem_pinsAt hb e)))).1,fun b hb=>?_,w7⟩
    obtain ⟨o,e,d⟩:=T.obj _ _ st5 b hb
    exact (I7.pin (b,o) (List.mem_append_right _ (List.mem_append_right _ (mem_pinsAt hb e)))).2.1
   refine wpAny_bind (quietX (ht fp _ s3 _ _ s6 σ6 H6 _ I6 q6) fun ok s7 ⟨H7,I7,q7⟩=>?_)
   cases ok with
   | false=>exact wpAny_pure ⟨rfl,again I7 q7⟩
   | true =>
    refine wpAny_bind (wpAny_bind (quietX (he fp _ s3 _ _ s7 σ6 H7 _ I7 q7) fun u8 s8 ⟨v8,H8,I8,r8,ys,hy,hz,n8⟩=>?_))
    refine wpAny_bind (quietX (mt_append _ s8 σ6 H8 (.ref s2.heap.objs.size) [v8] (.ref s2.heap.objs.size) [u8] (fun _ H9=>N σ6 H9) I8 rfl (.cons r8 .nil) ⟨_,ys,v8,rfl,rfl,hy,hz,n8⟩) fun _ s9 ⟨_,H9,I9,_,n9⟩=>?_)
    exact wpAny_pure (wpAny_pure ⟨rfl,again I9 n9⟩)
 exact codeAny_compStart_list (loop _ rfl) (T.self _ 0 _ _ _ st1 (loop _ rfl))

theorem comp_list {K:PySem.W.Frag} {a:Addr} {xs:List V} {g:TG} {tt:TT} {te:TE} {D:Addr} {Q:VK} {σ₀:St} {H₀:Hp} (Pv:Nat→St→Hp→Prop) (h0:Pv 0 σ₀ H₀) (hl:∀ i σ H,i≤xs.length→Pv i σ H→SqL K H a xs)
  (hs:∀ i x σ H,xs[i]? = some x→Pv i σ H→g x σ H fun σ3 H3=>tt σ3 H3 fun b H4=>if b = true then te σ3 H4 fun v H5=>∃ ys,H5 D = some (.lst ys)∧ys.length < sizeLine∧Pv (i + 1) σ3 (upd H5 D (.lst (ys ++ [v]))) else Pv (i + 1) σ3 H4)
  (hd:∀ σ H,Pv xs.length σ H→Q (.ref D) H):CompW (Itl K a) g tt te D Q σ₀ H₀:=by
 refine ⟨fun i m σ H=>m = xs.length - i∧i≤xs.length∧Pv i σ H,⟨xs.length,by simp,Nat.zero_le _,h0⟩,?_⟩
 rintro i m σ H ⟨rfl,hi,p⟩
 have q:=hl i σ H hi p
 by_cases hlt:i < xs.length
 ·refine .inr ⟨⟨xs,xs[i],q,by simp [hlt]⟩,Pv (i + 1),fun σ' H' p'=>⟨xs.length - (i + 1),by omega,rfl,hlt,p'⟩,fun x H' y=>?_⟩
  obtain ⟨e,y⟩:=y
  subst e
  exact hs i x σ _ (y xs q) p
 ·have e:i = xs.length:=by omega
  subst e
  exact .inl ⟨⟨xs,q,Nat.le_refl _⟩,hd σ H p⟩
theorem compOk0 {X:Cx} {scope:Scope} {NC:List Str} (hkind:scope.kind = .function) (h:∀ y∈scope.names,y.2≠.cell∧y.2≠.free) (hn:∀ y∈scope.names,y.2 = .local→scope.names.lookup y.1 = some .local) :
  CompOk X scope [] NC (List.replicate NC.length none) where
 clos:=closureFor_none fun x hx=>(h x hx).2
 cell:=fun y hy=>(h y hy).1
 kind:=hkind
 names:=hn
 cls:=fun x c e=>by cases e
 has:=fun x e=>by
  exfalso
  have key:∀ k,(relabel scope X.env).names.lookup x = some k→k = .cell∨k = .free→False:=fun k e hk=>by
   have hm:=PySem.mem_of_lookup e
   obtain ⟨⟨n,k'⟩,hy,ey⟩:=List.mem_map.mp hm
   have h1:=h _ hy
   have hb:(k' == NameKind.free) = false:=by simpa using h1.2
   simp only [hb,Bool.false_and,Bool.false_eq_true,if_false,Prod.mk.injEq] at ey
   obtain ⟨_,rfl⟩:=ey
   rcases hk with hk | hk
   ·exact h1.1 hk
   ·exact h1.2 hk
  rcases e with e | e
  ·exact key _ e (.inl rfl)
  ·exact key _ e (.inr rfl)
 len:=by simp
 src:=fun i j x e _=>by
  rw [List.getElem?_replicate] at e
  split at e <;> cases e

section
variable {X:Cx}
theorem call_rng1:CallR X (.type "range") (fun xs H Q=>∃ j,xs = [.int j]∧∀ p,H p = none→Q (.ref p) (upd H p (.rng 0 j))):=by
 intro pins s σ H xs us Q I r h
 obtain ⟨j,rfl,q⟩:=h
 obtain ⟨u,rfl,ru⟩:=r.one
 obtain ⟨t,rfl⟩:=ru
 refine call_range_1 ⟨.ref s.heap.objs.size,_,I.laid (o:=.rng 0 j) (fun b u e=>Heap.get?_push_of_some _ e) (Nat.le_refl _) ?_,rfl,q _ (I.hok.fresh (Nat.le_refl _))⟩
 exact ⟨_,_,_,Heap.get?_push_size _ rfl⟩
noncomputable def rngV (lo:Int) (n:Nat):List V:=(List.range n).map fun (i:Nat)=>V.int (lo + i)
theorem rngV_len (lo:Int) (n:Nat):(rngV lo n).length = n:=by unfold rngV;rw [List.length_map,List.length_range]
theorem rngV_get {lo:Int} {n i:Nat} (h:i < n):(rngV lo n)[i]? = some (.int (lo + i)):=by
 unfold rngV
 rw [List.getElem?_map,List.getElem?_range h]
 rfl
theorem call_list_rng (hc:X.calm = true):CallR X (.type "list") (fun xs H Q=>∃ p lo hi,xs = [.ref p]∧H p = some (.rng lo hi)∧(-(2 ^ 62)≤lo∧lo < 2 ^ 62∧-(2 ^ 62)≤hi∧hi < 2 ^ 62)∧(hi - lo).toNat≤2 ^ 20 ∧
  ∀ l,H l = none→Q (.ref l) (upd H l (.lst (rngV lo (hi - lo).toNat)))):=by
 intro pins s σ H xs us Q I r h
 obtain ⟨p,lo,hi,rfl,hp,⟨b1,b2,b3,b4⟩,hz,q⟩:=h
 obtain ⟨u,rfl,ru⟩:=r.one
 cases ru
 obtain ⟨t,u',v',e⟩:=I.hok p _ hp
 have hsz:(hi - lo).toNat≤sizeLine:=Nat.le_trans hz (by decide)
 refine call_list_range (n:=(hi - lo).toNat) (I.ok.hd hc) (show IsRange s.heap p lo hi 1 t u' v' from e) (small_one b1 b2 b3 b4) (by rw [rangeSize_one];split <;> omega) (Nat.le_trans hz (by decide)) fun h' tk acc' c' hk hS' hacc=>?_
 refine ⟨.ref s.heap.objs.size,_,I.laid (o:=.lst (rngV lo (hi - lo).toNat)) (t':=tk) hk (Nat.le_refl _) ⟨by rw [rngV_len];exact hsz,acc'.toList,c',?_,by simpa using hS'⟩,rfl,q _ (I.hok.fresh (Nat.le_refl _))⟩
 refine vals_of_get (by rw [rngV_len,Array.length_toList,hacc.1]) fun i x w e1 e2=>?_
 have hi':i < (hi - lo).toNat:=by
  have z:=(List.getElem?_eq_some_iff.mp e1).1
  rw [rngV_len] at z
  exact z
 rw [rngV_get hi'] at e1
 cases e1
 obtain ⟨t,rfl⟩:=hacc.2 i w (by simpa using e2)
 exact ⟨t,by rw [Int.mul_one]⟩
theorem call_isi:CallR X (.builtin "isinstance") (fun xs H Q=>∃ x n t b,xs = [x,.ty n]∧TyOf X.K H x t∧PySem.W.kitOne X.K t (.type n) = some b∧Q (.bl b) H):=by
 intro pins s σ H xs us Q I r h
 obtain ⟨x,n,t,b,rfl,ty,e,q⟩:=h
 obtain ⟨u,v,rfl,ru,rv⟩:=r.two
 cases rv
 exact isinst_ok I ru ty e fun tk=>⟨.bl b,H,I.tok tk,rfl,q⟩
theorem kit_lst_lst (K:PySem.W.Frag):PySem.W.kitOne K (.type "list") (.type "list") = some true:=by unfold PySem.W.kitOne;rw [if_pos (by decide +kernel)]
end

structure Fn (K:PySem.W.Frag) (mg:Str→Option Value) (x:Str) (st:Stmt) (ps:List Str) (f:Addr) (fd:FuncData):Prop where
 fn:Fun K x x st f fd
 b:Binds K fd ps []
 g:mg x = some (.ref f)
theorem Fn.mk' {K : PySem.W.Frag} {mg : Str → Option Value} {x : Str} {st : Stmt} {ps : List Str} {f : Addr} {fd : FuncData} (F : Fun K x x st f fd)
    (h : ∀ (kV doc pm : Value) (an : Option Addr) (cdv ct : Value) (us : List Value), us.length = ps.length → bindArgs (PySem.W.fnOf x x (defArgs st) (defBody st) (defScope st) .none kV doc pm an cdv ct) ⟨us, []⟩ = pure (ps.zip us))
    (g : mg x = some (.ref f)) : Fn K mg x st ps f fd := ⟨F, F.binds h, g⟩
theorem pe_fn {X : Cx} {x : Str} {st : Stmt} {ps : List Str} {f : Addr} {fd : FuncData} {k : Nat} {sp : Sp} {e : Expr} {es : List Expr} {t : TA} {p pos : Pos} (G : FnOk X.prog X.w X.K X.mg X.base CX0 k f fd ps sp) (F : Fn X.K X.mg x st ps f fd) (hr : Room k X.A) (ha : PA X (e :: es) t)
    (hg : Gl X x := by rfl) (hdb : (x == ("__debug__" : Str)) = false := by decide) (he : starEach (e :: es) X.env = (false, eval e X.env) :: starEach es X.env := by rfl) (hpl : (backTo pos (starEach es X.env)).any (·.1) = false := by rfl) :
    PE X (.Call (.Name x p) (e :: es) [] pos) (tCall sp [] E0 t) := pe_call G hr hg F.g F.fn.kp F.b .nil pass0 ha hdb he hpl
noncomputable def spLaw (K:PySem.W.Frag):Sp:=fun vs H Q _=>∃ (a:Addr) (ns:List Int),vs = [.ref a]∧SqL K H a (ns.map V.int)∧ns.length≤63∧∀ H',Q (.bl true) H'

theorem same_upd {H:Hp} {p:Addr} {o:HO} (h:H p = none):Same H (upd H p o):=fun b u e=>by rw [upd_ne (ne_of_none e h)];exact e
theorem Same.upd {H H':Hp} {p:Addr} {o:HO} (s:Same H H') (h:H p = none):Same H (upd H' p o):=fun b u e=>by rw [upd_ne (ne_of_none e h)];exact s b u e
theorem Same.tup {K:PySem.W.Frag} {H H':Hp} {a:Addr} {xs:List V} (e:Same H H') (h:SqT K H a xs):SqT K H' a xs:=by
 rcases h with (h | ⟨o,h⟩) | h
 ·exact .inl (.inl (e _ _ h))
 ·exact .inl (.inr ⟨o,e _ _ h⟩)
 ·exact .inr h
theorem ixN_of {n:Nat} {k:Int} (h0:0≤k) (h1:k < n):ixN n k = some k.toNat:=by unfold ixN;rw [if_pos h0,if_pos h1]
theorem bb_len:bootBuiltins "len" = some (.builtin "len"):=by decide +kernel
theorem bb_isinstance:bootBuiltins "isinstance" = some (.builtin "isinstance"):=by decide +kernel
theorem bb_list:bootBuiltins "list" = some (.type "list"):=by decide +kernel
theorem bb_tuple:bootBuiltins "tuple" = some (.type "tuple"):=by decide +kernel
theorem bb_range:bootBuiltins "range" = some (.type "range"):=by decide +kernel
theorem bb_min:bootBuiltins "min" = some (.builtin "min"):=by decide +kernel
theorem bb_enumerate:bootBuiltins "enumerate" = some (.type "enumerate"):=by decide +kernel
end L2





namespace L2E
open PySem PySem.Spec PyProof.Rows
open Sem (wp)
open AutoSeq1 (wpAny_loadPart')
section
variable {prog:Program} {w:World} {A:Around} {E:Value→Shared→Prop} {s:Shared}
theorem nextOf_tup_item {it t:Addr} {i:Nat} {items:Array Value} {x:Value} {Q:Value→Shared→Prop} (hit:s.heap.IsTupleIter it t i) (ht:s.heap.IsTuple t items) (hx:items[i]? = some x)
  (hQ:∀ h',h'.IsTupleIter it t (i + 1)→Heap.SameBut it s.heap h'→Q x { s with heap:=h' }):wpAny (model prog w) A (Builtin.SmallTypes.nextOf (.ref it)) Q E s:=by
 obtain ⟨o,ho,hc,hd⟩:=id hit
 obtain ⟨ol,hol,_,nl,hdl⟩:=ht
 unfold Builtin.SmallTypes.nextOf
 refine wpAny_bind (wpAny_callSpecial?_slot (name:=Str.ofString "__next__") hit.typeIs F.slot_tuple_iterator_next (wpAny_call_entry F.slot_tuple_iterator_next hit.typeIs F.entry_tuple_iterator_next ?_ (F.args_tuple_iterator_next_1 _)))
 show wpAny _ _ (field (.ref it) 0 >>= _) _ _ s
 refine wpAny_bind (wpAny_field ho hd (x:=.ref t) rfl ?_)
 show wpAny _ _ (if (Value.ref t == Value.none) = true then _ else _) _ _ s
 rw [if_neg (show ¬ ((Value.ref t == Value.none) = true) from Bool.false_ne_true)]
 show wpAny _ _ (field (.ref it) 1 >>= _) _ _ s
 refine wpAny_bind (wpAny_field ho hd (x:=.int i 0) rfl ?_)
 show wpAny _ _ (seqItems? (.ref t) >>= _) _ _ s
 refine wpAny_bind (wpAny_seqItems hol hdl ?_)
 simp only [Int.toNat_natCast,hx]
 refine wpAny_bind (wpAny_setField ho hd (by simp) (wpAny_pure ⟨x,rfl,wpAny_pure (hQ _ ?_ (Heap.SameBut.update ..))⟩))
 exact ⟨_,Heap.get?_update_self _ ho (Obj.isFreed_of_fields (Obj.data_mapFields hd _)),(Obj.cls_mapFields ..).trans hc,by
  rw [Obj.data_mapFields hd];simp [rawInt]⟩
theorem nextOf_tup_end {it t:Addr} {i:Nat} {items:Array Value} {Q:Value→Shared→Prop} (hh:A.handled = none) (hit:s.heap.IsTupleIter it t i) (ht:s.heap.IsTuple t items) (hx:items[i]? = none)
  (hE:∀ h' e,Heap.ExtBut it s.heap h'→(∃ o,h'.get? e = some o∧o.cls = .type "StopIteration")→E (.ref e) { s with heap:=h' }):wpAny (model prog w) A (Builtin.SmallTypes.nextOf (.ref it)) Q E s:=by
 obtain ⟨o,ho,hc,hd⟩:=id hit
 obtain ⟨ol,hol,_,nl,hdl⟩:=ht
 unfold Builtin.SmallTypes.nextOf
 refine wpAny_bind (wpAny_callSpecial?_slot (name:=Str.ofString "__next__") hit.typeIs F.slot_tuple_iterator_next (wpAny_call_entry F.slot_tuple_iterator_next hit.typeIs F.entry_tuple_iterator_next ?_ (F.args_tuple_iterator_next_1 _)))
 show wpAny _ _ (field (.ref it) 0 >>= _) _ _ s
 refine wpAny_bind (wpAny_field ho hd (x:=.ref t) rfl ?_)
 show wpAny _ _ (if (Value.ref t == Value.none) = true then _ else _) _ _ s
 rw [if_neg (show ¬ ((Value.ref t == Value.none) = true) from Bool.false_ne_true)]
 show wpAny _ _ (field (.ref it) 1 >>= _) _ _ s
 refine wpAny_bind (wpAny_field ho hd (x:=.int i 0) rfl ?_)
 show wpAny _ _ (seqItems? (.ref t) >>= _) _ _ s
 refine wpAny_bind (wpAny_seqItems hol hdl ?_)
 simp only [Int.toNat_natCast,hx]
 refine wpAny_bind (wpAny_rule (wpAny_bind (wpAny_setField ho hd (by simp) ?_)))
 show wpAny _ _ (newExc (.type "StopIteration") [] >>= _) _ _ _
 refine wpAny_bind ?_
 simp only [newExc,newTuple]
 refine wpAny_bind (wpAny_newObj_type ?_ (by size_fits))
 refine wpAny_bind (m:=firstArgMember _ _) (wpAny_of_eq (a:=Value.none) (by first | rfl | (simp only [firstArgMember];rfl)) ?_)
 refine wpAny_newObj_type ?_ (by size_fits)
 simp only [raiseNew]
 refine wpAny_bind (wpAny_handled ?_)
 first | rw [show A.in1.handled = none from hh] | rw [hh]
 refine wpAny_bind (wpAny_pure (wpAny_throw ?_))
 exact hE _ _ (((Heap.SameBut.update ..).extBut.push _).push _) ⟨_,Heap.get?_push_size _ rfl,rfl⟩

theorem enum_tup_next {e it l:Addr} {i:Nat} {items:Array Value} {x old:Value} {Q:Value→Shared→Prop}
  (he:IsEnum s.heap e it i old) (hit:s.heap.IsTupleIter it l i) (hl:s.heap.IsTuple l items) (hx:items[i]? = some x) (hne:e≠it)
  (hQ:∀ h',IsEnumOut h' e it ((i:Int) + 1) x s.heap.objs.size→h'.IsTupleIter it l (i + 1)→h'.get? s.heap.objs.size = some { cls:=.type "tuple",data:=.seq #[.int i s.toks,x] }→h'.objs.size = s.heap.objs.size + 1 →
   (∀ b o,b≠e→b≠it→s.heap.get? b = some o→h'.get? b = some o)→Q (.ref s.heap.objs.size) { s with heap:=h',toks:=s.toks + 1 }) :
  wpAny (model prog w) A (Builtin.«enumerate.__next__» ⟨[.ref e],[]⟩) (fun fin s'=>∃ v,fin = .done (.ret v)∧Q v s') E s:=by
 obtain ⟨hp,g,d,tk,os⟩:=s
 show wpAny _ _ (field (.ref e) 2 >>= _) _ _ _
 refine wpAny_bind (wpAny_field he rfl (x:=.ref it) rfl ?_)
 refine wpAny_bind (nextOf_tup_item hit hl hx fun h₁ hit₁ hs₁=>?_)
 replace hs₁:Heap.SameBut it hp h₁:=hs₁
 have he₁:IsEnum h₁ e it i old:=(hs₁.2 e hne).trans he
 show wpAny _ _ (field (.ref e) 3 >>= _) _ _ ⟨h₁,g,d,tk,os⟩
 refine wpAny_bind (wpAny_field he₁ rfl (x:=rawInt i) rfl ?_)
 show wpAny _ _ (field (.ref e) 4 >>= _) _ _ ⟨h₁,g,d,tk,os⟩
 refine wpAny_bind (wpAny_field he₁ rfl (x:=.none) rfl ?_)
 show wpAny _ _ (mkInt i >>= _) _ _ ⟨h₁,g,d,tk,os⟩
 refine wpAny_bind (wpAny_mkInt ?_)
 show wpAny _ _ (setField (.ref e) 3 (rawInt ((i:Int) + 1)) >>= _) _ _ ⟨h₁,g,d,tk + 1,os⟩
 refine wpAny_bind (wpAny_setField_rec he₁ (by simp) fun h₂ he₂ hs₂=>?_)
 replace hs₂:Heap.SameBut e h₁ h₂:=hs₂
 replace he₂:IsEnum h₂ e it ((i:Int) + 1) old:=he₂
 show wpAny _ _ (setField (.ref e) 4 .none >>= _) _ _ ⟨h₂,g,d,tk + 1,os⟩
 refine wpAny_bind (wpAny_setField_rec he₂ (by simp) fun h₃ he₃ hs₃=>?_)
 replace hs₃:Heap.SameBut e h₂ h₃:=hs₃
 replace he₃:IsEnum h₃ e it ((i:Int) + 1) old:=he₃
 show wpAny _ _ (newTuple [.int i tk,x] >>= _) _ _ ⟨h₃,g,d,tk + 1,os⟩
 refine wpAny_bind (wpAny_newTuple ?_)
 have he₄:IsEnum (h₃.push { cls:=.type "tuple",data:=.seq #[.int i tk,x] }) e it ((i:Int) + 1) old:=Heap.get?_push_of_some _ he₃
 generalize hh₄:h₃.push { cls:=.type "tuple",data:=.seq #[.int i tk,x] } = h₄ at he₄
 have hsz:h₃.objs.size = hp.objs.size:=by rw [hs₃.1,hs₂.1,hs₁.1]
 have hel:e < hp.objs.size:=Heap.lt_size he
 have ht₄:h₄.get? hp.objs.size = some { cls:=.type "tuple",data:=.seq #[.int i tk,x] }:=by rw [← hh₄,← hsz];exact Heap.get?_push_size _ rfl
 have hz₄:h₄.objs.size = hp.objs.size + 1:=by rw [← hh₄,Heap.size_push,hsz]
 have hk₄:∀ b o,b≠e→b≠it→hp.get? b = some o→h₄.get? b = some o:=fun b o hbe hbi hb=>by
  rw [← hh₄];exact Heap.get?_push_of_some _ (hs₃.extBut b o hbe (hs₂.extBut b o hbe (hs₁.extBut b o hbi hb)))
 have hit₄:h₄.IsTupleIter it l (i + 1):=by
  rw [← hh₄];obtain ⟨o,ho,r⟩:=(hit₁.extBut hs₂.extBut (Ne.symm hne)).extBut hs₃.extBut (Ne.symm hne);exact ⟨o,Heap.get?_push_of_some _ ho,r⟩
 show wpAny _ _ (Builtin.SmallTypes.ownedTupleIsFree (.ref e) >>= _) _ _ ⟨h₄,g,d,tk + 1,os⟩
 rw [hsz]
 clear hh₄ he₃ hs₃ he₂ hs₂ he₁ hs₁ hit₁ hsz h₃ h₂ h₁
 refine wpAny_bind ?_
 ·unfold Builtin.SmallTypes.ownedTupleIsFree
  refine wpAny_bind (wpAny_field he₄ rfl (x:=.none) rfl (wpAny_pure ?_))
  simp only [if_true]
  refine wpAny_bind (wpAny_rule ?_)
  refine wpAny_bind (wpAny_field he₄ rfl (x:=old) rfl ?_)
  refine wpAny_bind (wpAny_setField_rec he₄ (by simp) fun h₅ he₅ hs₅=>?_)
  replace hs₅:Heap.SameBut e h₄ h₅:=hs₅
  replace he₅:IsEnum h₅ e it ((i:Int) + 1) x:=he₅
  show wpAny _ _ (Builtin.SmallTypes.ownedTupleHandOut (.ref e) (.ref hp.objs.size) >>= _) _ _ ⟨h₅,g,d,tk + 1,os⟩
  refine wpAny_bind ?_
  ·unfold Builtin.SmallTypes.ownedTupleHandOut
   refine wpAny_bind (wpAny_setField_rec he₅ (by simp) fun h₆ he₆ hs₆=>?_)
   replace hs₆:Heap.SameBut e h₅ h₆:=hs₆
   replace he₆:IsEnumOut h₆ e it ((i:Int) + 1) x hp.objs.size:=he₆
   refine wpAny_setField_rec he₆ (by simp) fun h₇ he₇ hs₇=>?_
   replace hs₇:Heap.SameBut e h₆ h₇:=hs₇
   replace he₇:IsEnumOut h₇ e it ((i:Int) + 1) x hp.objs.size:=he₇
   refine wpAny_bind (wpAny_letGo (wpAny_pure ⟨_,rfl,hQ h₇ he₇ ?_ ?_ ?_ ?_⟩))
   ·exact ((hit₄.extBut hs₅.extBut (Ne.symm hne)).extBut hs₆.extBut (Ne.symm hne)).extBut hs₇.extBut (Ne.symm hne)
   ·exact hs₇.extBut _ _ (Nat.ne_of_gt hel) (hs₆.extBut _ _ (Nat.ne_of_gt hel) (hs₅.extBut _ _ (Nat.ne_of_gt hel) ht₄))
   ·rw [hs₇.1,hs₆.1,hs₅.1,hz₄]
   ·exact fun b o hbe hbi hb=>hs₇.extBut b o hbe (hs₆.extBut b o hbe (hs₅.extBut b o hbe (hk₄ b o hbe hbi hb)))
theorem pyNext_enumT_item {e it l:Addr} {i:Nat} {items:Array Value} {x old:Value} {Q:Option Value→Shared→Prop}
  (he:IsEnum s.heap e it i old) (hit:s.heap.IsTupleIter it l i) (hl:s.heap.IsTuple l items) (hx:items[i]? = some x) (hne:e≠it)
  (hQ:∀ h',IsEnumOut h' e it ((i:Int) + 1) x s.heap.objs.size→h'.IsTupleIter it l (i + 1)→h'.get? s.heap.objs.size = some { cls:=.type "tuple",data:=.seq #[.int i s.toks,x] }→h'.objs.size = s.heap.objs.size + 1 →
   (∀ b o,b≠e→b≠it→s.heap.get? b = some o→h'.get? b = some o)→Q (some (.ref s.heap.objs.size)) { s with heap:=h',toks:=s.toks + 1 }) :
  wpAny (model prog w) A (pyNext (.ref e)) Q E s:=by
 have hT:s.TypeIs (.ref e) "enumerate":=⟨_,he,rfl⟩
 unfold pyNext
 exact wpAny_bind (wpAny_attempt (wpAny_callSpecial?_slot (name:=Str.ofString "__next__") hT F.slot_enumerate_next
  (wpAny_call_entry F.slot_enumerate_next hT F.entry_enumerate_next (enum_tup_next he hit hl hx hne fun h' a b c d k=>wpAny_pure (hQ h' a b c d k)) (F.args_enumerate_next_1 _))))
theorem pyNext_enumT_end {e it l:Addr} {i:Nat} {items:Array Value} {old:Value} {Q:Option Value→Shared→Prop} (hh:A.handled = none)
  (he:IsEnum s.heap e it i old) (hit:s.heap.IsTupleIter it l i) (hl:s.heap.IsTuple l items) (hx:items[i]? = none)
  (hQ:∀ h',Heap.ExtBut it s.heap h'→Q none { s with heap:=h' }):wpAny (model prog w) A (pyNext (.ref e)) Q E s:=by
 have hT:s.TypeIs (.ref e) "enumerate":=⟨_,he,rfl⟩
 unfold pyNext
 refine wpAny_bind (wpAny_attempt (wpAny_callSpecial?_slot (name:=Str.ofString "__next__") hT F.slot_enumerate_next (wpAny_call_entry F.slot_enumerate_next hT F.entry_enumerate_next ?_ (F.args_enumerate_next_1 _))))
 show wpAny _ _ (field (.ref e) 2 >>= _) _ _ _
 refine wpAny_bind (wpAny_field he rfl (x:=.ref it) rfl ?_)
 refine wpAny_bind (nextOf_tup_end hh hit hl hx fun h' x he' hx'=>?_)
 obtain ⟨o,ho,hc⟩:=hx'
 refine wpAny_bind (wpAny_isInstance (T:="StopIteration") (b:=true) ⟨o,ho,hc⟩ isSubtype_stop ?_)
 exact wpAny_pure (hQ _ he')

theorem meets_enum_tup (l:Addr) (items:Array Value) (n:Nat) (dct:Option Addr) (sl:Array (Option Value)) :
  Meets (Builtin.«enumerate.__new__» ⟨[.type "enumerate",.ref l],[]⟩) (fun _ R s=>s.heap.get? l = some { cls:=.type "tuple",dict:=dct,data:=.seq items n,slots:=sl } ∧
   R (.ok (.ret (.ref (s.heap.push { cls:=.type "tuple_iterator",data:=.fields #[.ref l,.int 0 0] }).objs.size)))
    { s with heap:=(s.heap.push { cls:=.type "tuple_iterator",data:=.fields #[.ref l,.int 0 0] }).push { cls:=.type "enumerate",data:=.fields #[.none,.bool false,.ref s.heap.objs.size,rawInt 0,.none,.none] } }) :=
 .of_wp fun prog w A R s h=>by
  obtain ⟨hp,g,d,tk,os⟩:=s;obtain ⟨hl,h⟩:=h
  have hsub:=sub_enumerate
  have hL:Heap.IsTuple (Shared.heap ⟨hp,g,d,tk,os⟩) l items:=⟨_,hl,rfl,n,rfl⟩
  wp_walk using wpAny_loadPart' hl
  refine wpAny_stack_any fun st=>wpAny_pure ?_
  split
  ·rename_i c _ _ _ _ _
   cases (c == Value.type "enumerate")
   ·wp_walk using wpAny_loadPart' hl,wpAny_pyIter_tuple hL
    exact ⟨_,rfl,h⟩
   ·wp_walk using wpAny_loadPart' hl,wpAny_pyIter_tuple hL
    exact ⟨_,rfl,h⟩
  ·wp_walk using wpAny_loadPart' hl,wpAny_pyIter_tuple hL
   exact ⟨_,rfl,h⟩
theorem call_enum_tup {l:Addr} {items:Array Value} {Q:Value→Shared→Prop} (hL:s.heap.IsTuple l items)
  (h:∀ h',IsEnum h' (s.heap.objs.size + 1) s.heap.objs.size 0 .none→h'.IsTupleIter s.heap.objs.size l 0→h'.objs.size = s.heap.objs.size + 2 →
   (∀ b o,s.heap.get? b = some o→h'.get? b = some o)→Q (.ref (s.heap.objs.size + 1)) { s with heap:=h' }) :
  wpAny (model prog w) A (call (.type "enumerate") [.ref l]) Q E s:=by
 obtain ⟨⟨c,dct,dt,sl⟩,hl,hc,n,hd⟩:=hL
 replace hc:c = .type "tuple":=hc
 replace hd:dt = .seq items n:=hd
 subst hc hd
 refine callType_new F.called_enumerate (by decide) (F.typeCall_enumerate_1 _) (F.newCall_enumerate_1 _) (fun obj=>F.args_object_init_2 obj _) F.entry_enumerate_new
  (meets_enum_tup l items n dct sl) ⟨hl,?_⟩
 have hz:(s.heap.push { cls:=.type "tuple_iterator",data:=.fields #[.ref l,.int 0 0] }).objs.size = s.heap.objs.size + 1:=Heap.size_push ..
 show _∧_
 rw [hz]
 have he:IsEnum ((s.heap.push { cls:=.type "tuple_iterator",data:=.fields #[.ref l,.int 0 0] }).push
   { cls:=.type "enumerate",data:=.fields #[.none,.bool false,.ref s.heap.objs.size,rawInt 0,.none,.none] }) (s.heap.objs.size + 1) s.heap.objs.size 0 .none:=by
  have:=Heap.get?_push_size (s.heap.push { cls:=.type "tuple_iterator",data:=.fields #[.ref l,.int 0 0] })
   (o:={ cls:=.type "enumerate",data:=.fields #[.none,.bool false,.ref s.heap.objs.size,rawInt 0,.none,.none] }) rfl
  rw [hz] at this;exact this
 refine ⟨⟨_,he,rfl⟩,h _ he ⟨_,Heap.get?_push_of_some _ (Heap.get?_push_size _ rfl),rfl,rfl⟩ (by rw [Heap.size_push,hz]) fun b o x=>Heap.get?_push_of_some _ (Heap.get?_push_of_some _ x)⟩
end
end L2E

namespace L2
open PySem PySem.Spec PyProof.Rows
noncomputable def Ite (K:PySem.W.Frag) (a:Addr):It :=
 ⟨fun i H=>∃ xs x,SqT K H a xs∧xs[i]? = some x,fun i H y H'=>∃ t x,y = .ref t∧H t = none∧H' = upd H t (.tup [.int i,x])∧∀ xs,SqT K H a xs→xs[i]? = some x,fun i H=>∃ xs,SqT K H a xs∧xs.length≤i⟩
theorem turn_enumT {P:Program} {w:World} {K:PySem.W.Frag} {elts:List Expr} {x1:Nat} {tp:Pos} (a e it:Addr) (hei:e≠it) :
  Turn P w K (.Tuple elts x1 tp) (Ite K a) [e,it] e (fun i h=>(∃ old,IsEnum h e it i old)∧h.IsTupleIter it a i) where
 mem:=by simp
 obj:=fun i h st b hb=>by
  obtain ⟨⟨old,he⟩,hit⟩:=st
  rcases List.mem_cons.mp hb with rfl | hb
  ·exact ⟨_,he,fun v z=>by
    have z':Data.fields _ = Data.cell v:=z
    cases z'⟩
  ·have e1:b = it:=by simpa using hb
   subst e1
   obtain ⟨o,e,c,d⟩:=hit
   exact ⟨o,e,fun v z=>by rw [d] at z;cases z⟩
 keep:=fun i h h' st k=>⟨let ⟨old,he⟩:=st.1;⟨old,k e (by simp) _ he⟩,let ⟨o,ho,r⟩:=st.2;⟨o,k it (by simp) o ho,r⟩⟩
 item:=by
  intro X hP hw hK hc i pins s σ H E I hf st hg
  subst hP hw hK
  obtain ⟨⟨old,he⟩,hit⟩:=st
  obtain ⟨xs,x,hq,hx⟩:=hg
  obtain ⟨its,rv,p,hz⟩:=I.tuple hq
  obtain ⟨u,hu,ru⟩:=rv.get hx
  obtain ⟨f0,f1,f2,f3,f4,f5⟩:=hf e (by simp)
  obtain ⟨g0,g1,g2,g3,g4,g5⟩:=hf it (by simp)
  refine L2E.pyNext_enumT_item he hit (show s.heap.IsTuple a its.toArray from p) (x:=u) (by simpa using hu) hei fun h' ho' hit' hT hsz hk=>?_
  refine ⟨_,rfl,wpAny_letOwnedTupleGo_enum ho' fun h'' he'' hs''=>?_⟩
  have hlt:e < s.heap.objs.size:=Heap.lt_size he
  have k2:∀ b o,b≠e→b≠it→s.heap.get? b = some o→h''.get? b = some o:=fun b o h1 h2 q=>(hs''.2 b h1).trans (hk b o h1 h2 q)
  have hT2:h''.get? s.heap.objs.size = some { cls:=.type "tuple",data:=.seq #[.int i s.toks,u] }:=(hs''.2 _ (Nat.ne_of_gt hlt)).trans hT
  have hfr:H s.heap.objs.size = none:=I.hok.fresh (Nat.le_refl _)
  have neT:∀ {b:Addr} {o:Obj},s.heap.get? b = some o→b≠s.heap.objs.size:=fun q=>Nat.ne_of_lt (Heap.lt_size q)
  have trk:∀ {b:Addr} {o:HO},H b = some o→b≠e∧b≠it:=fun q=>⟨fun z=>(by rw [z,f0] at q;cases q),fun z=>(by rw [z,g0] at q;cases q)⟩
  have I2:Inv X pins σ (upd H s.heap.objs.size (.tup [.int i,x])) { s with heap:=h'',toks:=s.toks + 1 }:=by
   refine I.step (g':=s.gens) (d':=s.drawn) (ch:=[e,it]) (fun b hb=>?_) (fun b o _ _ hch q _=>k2 b o (fun z=>hch (by simp [z])) (fun z=>hch (by simp [z])) q) (fun b o _ _ hch q _=>⟨o.slots,k2 b o (fun z=>hch (by simp [z])) (fun z=>hch (by simp [z])) q⟩)
    (fun b o _ q n=>by rw [upd_ne (neT q)];exact n) (fun b o hch q=>⟨o,k2 b o (fun z=>hch (by simp [z])) (fun z=>hch (by simp [z])) q⟩) (fun b ys q=>by rw [upd_ne (ne_of_none q hfr)];exact q) (fun b o ys q=>by rw [upd_ne (ne_of_none q hfr)];exact q)
    (fun b ps q=>⟨#[],by rw [upd_ne (ne_of_none q hfr),q];simp⟩) (fun m hm=>?_) (fun b v q=>?_) I.bare
   ·rcases List.mem_cons.mp hb with rfl | hb
    ·exact ⟨f3,f1,f4,f5⟩
    ·have e1:b = it:=by simpa using hb
     subst e1
     exact ⟨g3,g1,g4,g5⟩
   ·obtain ⟨o,es,ep,ho,r⟩:=hm
    exact ⟨o,es,ep,k2 _ o (Ne.symm f1) (Ne.symm g1) ho,r⟩
   ·by_cases hb:b = s.heap.objs.size
    ·subst hb
     rw [upd_same] at q
     cases q
     exact ⟨by show 2≤sizeLine;decide,[.int i s.toks,u],.cons ⟨_,rfl⟩ (.cons ru .nil),_,hT2,rfl,_,rfl⟩
    ·rw [upd_ne hb] at q
     refine (I.hok b v q).stay (fun c o hc z=>?_) (fun c z=>by rw [upd_ne (ne_of_none z hfr)];exact z) fun c ys z=>by rw [upd_ne (ne_of_none z hfr)];exact z
     rcases hc with rfl | hc
     ·exact k2 c o (trk q).1 (trk q).2 z
     ·exact k2 c o (trk hc).1 (trk hc).2 z
  refine ⟨.ref s.heap.objs.size,_,I2,rfl,⟨_,x,rfl,hfr,rfl,fun ys hy=>by rw [I.tuple_inj hy hq];exact hx⟩,⟨⟨u,by simpa using he''⟩,?_⟩,fun b hb=>?_⟩
  ·obtain ⟨o,q,r⟩:=hit'
   exact ⟨o,(hs''.2 it (Ne.symm hei)).trans q,r⟩
  ·rcases List.mem_cons.mp hb with rfl | hb
   ·rw [upd_ne (Nat.ne_of_lt hlt)];exact f0
   ·have e1:b = it:=by simpa using hb
    subst e1
    obtain ⟨o,q,_⟩:=hit
    rw [upd_ne (neT q)]
    exact g0
 done:=by
  intro X hP hw hK hc i pins s σ H E I hf st hg
  subst hP hw hK
  obtain ⟨⟨old,he⟩,hit⟩:=st
  obtain ⟨xs,hq,hx⟩:=hg
  obtain ⟨its,rv,p,hz⟩:=I.tuple hq
  obtain ⟨g0,g1,g2,g3,g4,g5⟩:=hf it (by simp)
  have hl:=rv.length
  exact L2E.pyNext_enumT_end (I.ok.hd hc) he hit (show s.heap.IsTuple a its.toArray from p) (by simp;omega) fun h' eb=>⟨rfl,I.turned (t':=s.toks) (fun b o hb q=>eb b o hb q) g0 g1 g3 g4 g5⟩
 self:=fun _ _ _ _ _ st h=>let ⟨_,he⟩:=st.1;wpAny_pyIter_enum he h
section
variable {X:Cx}
noncomputable def iEnum (K:PySem.W.Frag) (ta:TA):TI:=fun σ H R=>ta σ H fun vs H1=>∃ a,vs = [.ref a]∧(∃ xs,SqT K H1 a xs)∧R (Ite K a) H1
theorem pg_tupK {K : PySem.W.Frag} {es : List Expr} {k : Nat} {t : TGs} {n : Nat} {pos : Pos} (hK : X.K = K) (hc : X.calm = true) (h : PGs X es t)
    (hn : (assignEach es X.env).length = n := by rfl) (hst : (assignEach es X.env).findIdx? (·.1) = none := by rfl) : PG X (.Tuple es k pos) (gTup K n t) := hK ▸ pg_tup hc h hn hst
theorem pi_enumT {a:Expr} {ta:TA} {p pos:Pos} {elts:List Expr} {x1:Nat} {tp:Pos} (hg:Gl X "enumerate") (hm:X.mg "enumerate" = none) (ha:PA X [a] ta) (hs:starEach [a] X.env = [(false,eval a X.env)]:=by rfl) :
  PI X (.Tuple elts x1 tp) (.Call (.Name "enumerate" p) [a] [] pos) (iEnum X.K ta):=by
 intro pins s σ H R I h
 refine Call_ (ld_blt I hg hm bb_enumerate (PyProof.Rows.callWith_type1 (thn (ha pos pins s σ H _ I h) fun us s1 ⟨vs,H1,I1,r1,q1⟩=>?_) hs rfl))
 obtain ⟨l,e,⟨xs,hq⟩,q⟩:=q1
 subst e
 cases r1 with
 | cons r rr =>
  cases rr
  cases r
  obtain ⟨its,rv,ht,hz⟩:=I1.tuple hq
  refine L2E.call_enum_tup (show s1.heap.IsTuple l its.toArray from ht) fun h' he hit hsz hk=>?_
  have I2:Inv X pins σ H1 { s1 with heap:=h' }:=I1.kept (t':=s1.toks) hk
  refine wpAny_pyIter_enum he ?_
  refine ⟨s1.heap.objs.size + 1,[s1.heap.objs.size + 1,s1.heap.objs.size],_,_,H1,rfl,I2,turn_enumT l _ _ (Nat.succ_ne_self _),⟨⟨_,he⟩,hit⟩,fun b hb=>?_,q⟩
  rcases List.mem_cons.mp hb with rfl | hb
  ·exact (I1.fpOk (Nat.le_succ _) (I1.hok.fresh (Nat.le_succ _)))
  ·have e:b = s1.heap.objs.size:=by simpa using hb
   subst e
   exact I1.fpOk (Nat.le_refl _) (I1.hok.fresh (Nat.le_refl _))
theorem comp_enum {K:PySem.W.Frag} {a:Addr} {xs:List V} {g:TG} {tt:TT} {te:TE} {D:Addr} {Q:VK} {σ₀:St} {H₀:Hp} (Pv:Nat→St→Hp→Prop) (h0:Pv 0 σ₀ H₀) (hl:∀ i σ H,i≤xs.length→Pv i σ H→SqT K H a xs)
  (hs:∀ i x t σ H,xs[i]? = some x→Pv i σ H→H t = none→g (.ref t) σ (upd H t (.tup [.int i,x])) fun σ3 H3=>tt σ3 H3 fun b H4=>if b = true then te σ3 H4 fun v H5=>∃ ys,H5 D = some (.lst ys)∧ys.length < sizeLine∧Pv (i + 1) σ3 (upd H5 D (.lst (ys ++ [v]))) else Pv (i + 1) σ3 H4)
  (hd:∀ σ H,Pv xs.length σ H→Q (.ref D) H):CompW (Ite K a) g tt te D Q σ₀ H₀:=by
 refine ⟨fun i m σ H=>m = xs.length - i∧i≤xs.length∧Pv i σ H,⟨xs.length,by simp,Nat.zero_le _,h0⟩,?_⟩
 rintro i m σ H ⟨rfl,hi,p⟩
 have q:=hl i σ H hi p
 by_cases hlt:i < xs.length
 ·refine .inr ⟨⟨xs,xs[i],q,by simp [hlt]⟩,Pv (i + 1),fun σ' H' p'=>⟨xs.length - (i + 1),by omega,rfl,hlt,p'⟩,fun x H' y=>?_⟩
  obtain ⟨t,z,e,hn,e2,y⟩:=y
  subst e e2
  exact hs i z t σ _ (y xs q) p hn
 ·have e:i = xs.length:=by omega
  subst e
  exact .inl ⟨⟨xs,q,Nat.le_refl _⟩,hd σ H p⟩
theorem comp_tup {K:PySem.W.Frag} {a:Addr} {xs:List V} {g:TG} {tt:TT} {te:TE} {D:Addr} {Q:VK} {σ₀:St} {H₀:Hp} (Pv:Nat→St→Hp→Prop) (h0:Pv 0 σ₀ H₀) (hl:∀ i σ H,i≤xs.length→Pv i σ H→SqT K H a xs)
  (hs:∀ i x σ H,xs[i]? = some x→Pv i σ H→g x σ H fun σ3 H3=>tt σ3 H3 fun b H4=>if b = true then te σ3 H4 fun v H5=>∃ ys,H5 D = some (.lst ys)∧ys.length < sizeLine∧Pv (i + 1) σ3 (upd H5 D (.lst (ys ++ [v]))) else Pv (i + 1) σ3 H4)
  (hd:∀ σ H,Pv xs.length σ H→Q (.ref D) H):CompW (Itt K a) g tt te D Q σ₀ H₀:=by
 refine ⟨fun i m σ H=>m = xs.length - i∧i≤xs.length∧Pv i σ H,⟨xs.length,by simp,Nat.zero_le _,h0⟩,?_⟩
 rintro i m σ H ⟨rfl,hi,p⟩
 have q:=hl i σ H hi p
 by_cases hlt:i < xs.length
 ·refine .inr ⟨⟨xs,xs[i],q,by simp [hlt]⟩,Pv (i + 1),fun σ' H' p'=>⟨xs.length - (i + 1),by omega,rfl,hlt,p'⟩,fun x H' y=>?_⟩
  obtain ⟨e,y⟩:=y
  subst e
  exact hs i x σ _ (y xs q) p
 ·have e:i = xs.length:=by omega
  subst e
  exact .inl ⟨⟨xs,q,Nat.le_refl _⟩,hd σ H p⟩

end
end L2

namespace L2
open PySem PySem.Spec PyProof.Rows

theorem ObjOk.obj {P:Program} {w:World} {H:Hp} {h:Heap} {a:Addr}:∀ {o:HO},ObjOk P w H h a o→∃ u,h.get? a = some u:=fun {o} x=>by
 cases o with
 | lst xs=>obtain ⟨_,_,_,_,e⟩:=x;exact ⟨_,e⟩
 | tup xs=>obtain ⟨_,_,_,o,e,_⟩:=x;exact ⟨_,e⟩
 | dK kvs=>obtain ⟨_,_,_,_,o,_,_,e,_⟩:=x;exact ⟨_,e⟩
 | dT kvs=>obtain ⟨_,_,_,_,o,_,_,e,_⟩:=x;exact ⟨_,e⟩
 | set S n=>obtain ⟨o,_,_,_,e,_⟩:=x;exact ⟨_,e⟩
 | ins C dx fs=>obtain ⟨_,_,_,e,_⟩:=x;exact ⟨_,e⟩
 | own y=>exact x
 | xd fs=>obtain ⟨_,⟨_,_,_,e,_⟩,_⟩:=x;exact ⟨_,e⟩
 | rng lo hi=>obtain ⟨_,_,_,e⟩:=x;exact ⟨_,e⟩
 | frz ob u=>obtain ⟨e,_⟩:=x;exact ⟨_,e⟩
 | tbl ps=>exact ⟨_,(show h.get? a = some _ from x)⟩
 | met f y=>exact ⟨_,(show h.get? a = some _ from x)⟩
 | ext φ=>obtain ⟨_,e,_⟩:=x;exact e
noncomputable def noFr (h:Heap) (l:List Env):Heap:=PySem.W.hideAll h (frs l)
theorem noFr_get {h:Heap} {l:List Env} {b:Addr} {o:Obj} (e:h.get? b = some o) (n:b ∉ frs l):(noFr h l).get? b = some o:=PySem.W.hideAll_get _ e n
theorem of_noFr {h:Heap} {l:List Env} {b:Addr} {o:Obj} (e:(noFr h l).get? b = some o):h.get? b = some o:=PySem.W.of_hideAll _ e
theorem noFr_frames {h base:Heap} {l:List Env} (x:h.FunFrames base l):h.FunFrames (noFr h l) l:=PySem.W.funFrames_hide x fun env he a hf=>List.mem_filterMap.mpr ⟨env,he,hf⟩

noncomputable def Sta (B:Heap) (l:List Env) (a:Addr) (cls:Value) (h:Heap):Prop:=∃ a0,
 (B.StaysIn h∧B.get? a = none∧h.FunFrames B l∧∃ oe vs,h.get? a = some oe∧oe.cls = cls∧oe.data = .fields vs∧vs[1]? = some .none∧vs[0]? = some a0) ∨
 Heap.FlyingW B l a cls a0 h∨∃ L env outer,l = env :: outer∧env.frame = some L∧Heap.HeldW B l a cls a0 L h
theorem Sta.stays {B h:Heap} {l:List Env} {a:Addr} {cls:Value} (x:Sta B l a cls h):B.StaysIn h:=by
 obtain ⟨a0,x | x | ⟨_,_,_,_,_,x⟩⟩:=x
 ·exact x.1
 ·exact x.1
 ·exact x.1
theorem Sta.frames {B h:Heap} {l:List Env} {a:Addr} {cls:Value} (x:Sta B l a cls h):h.FunFrames B l:=by
 obtain ⟨a0,x | x | ⟨_,_,_,_,_,x⟩⟩:=x
 ·exact x.2.2.1
 ·exact x.2.2.1
 ·exact x.2.2.1
section
variable {M:Model} {A:Around} {E:Value→Shared→Prop} {s:Shared} {B:Heap} {env:Env} {outer:List Env} {L a:Addr} {cls:Value}
theorem sta_note {Q:Unit→Shared→Prop} (hfr:A.frames = some (env :: outer)) (hf:env.frame = some L) (x:Sta B (env :: outer) a cls s.heap)
  (hQ:∀ h' a0,Heap.HeldW B (env :: outer) a cls a0 L h'→s.heap.UpToSlots h'→Q () { s with heap:=h' }):wpAny M A (noteFrame (.ref a) env) Q E s:=by
 obtain ⟨a0,⟨x1,x2,x3,oe,vs,he,hc,hd,h1,h0⟩ | x | ⟨L',env',outer',e1,e2,x⟩⟩:=x
 ·unfold noteFrame
  simp only [hf]
  refine wpAny_bind (wpAny_field he hd h1 ?_)
  rw [if_neg (by decide)]
  refine wpAny_entryW hfr x3 hf he x1 x2 hd (Array.getElem?_eq_some_iff.mp h1).1 h0 fun h' hN=>?_
  obtain ⟨k1,k2,k3,k4⟩:=hN
  rw [hc] at k3
  exact hQ h' a0 ⟨k1,x2,k2,k3⟩ k4
 ·exact wpAny_looks_onW hfr hf x fun h' k1 k2=>hQ h' a0 k1 k2
 ·cases e1
  rw [hf] at e2
  cases e2
  exact wpAny_noteFrame_againW hf x.2.2.2 (hQ s.heap a0 x (Heap.UpToSlots.refl _))
theorem sta_leave {Q:Unit→Shared→Prop} (hfr:A.frames = some (env :: outer)) (hf:env.frame = some L) (x:Sta B (env :: outer) a cls s.heap)
  (hQ:∀ h' a0,Heap.FlyingW B outer a cls a0 h'→s.heap.UpToSlots h'→Q () { s with heap:=h' }):wpAny M A (leaving env (.ref a)) Q E s:=by
 unfold leaving
 refine wpAny_bind (sta_note hfr hf x fun h1 a0 k1 k2=>?_)
 refine wpAny_landsW k1 fun h2 k3 k4=>?_
 obtain ⟨c1,c2,⟨_,_,c3⟩,c4⟩:=k3
 exact hQ h2 a0 ⟨c1,c2,c3,c4⟩ (k2.trans k4)
end

structure XAt (P:Program) (w:World) (l:List Env) (ex:List Addr) (H:Hp) (s:Shared) (B:Heap) (a:Addr) (cls:Value) (H':Hp) (s':Shared):Prop where
 os:s'.os = s.os
 bare:AllBare s'.gens
 un:Un (frs l) ex H H' s.heap s'.heap
 hok:HOk P w H' s'.heap
 na:H' a = none
 sta:Sta B l a cls s'.heap
 old:∀ b o,s.heap.get? b = some o→b ∉ frs l→b ∉ ex→∃ o',s'.heap.get? b = some o'∧B.get? b = some o'
 trk:∀ b,H' b≠none→∃ o,s'.heap.get? b = some o∧B.get? b = some o
theorem XAt.move {P:Program} {w:World} {l l':List Env} {ex:List Addr} {H H':Hp} {s s':Shared} {B h':Heap} {a:Addr} {cls:Value} (x:XAt P w l ex H s B a cls H' s') (k:s'.heap.UpToSlots h') (st:Sta B l' a cls h')
  (hsub:∀ b∈frs l',b∈frs l) (hin:∀ b o,s.heap.get? b = some o→b∈frs l→b∈frs l') (hx:∀ b∈frs l,b ∉ ex):XAt P w l' ex H s B a cls H' { s' with heap:=h' }:=by
 have sB:=st.stays
 have nf:∀ b∈frs l,∀ o,s'.heap.get? b = some o→∀ vs,o.data≠.fields vs:=fun b hb o e=>by
  obtain ⟨_,o',e',d⟩:=x.sta.frames.mem hb
  rw [e] at e';cases e'
  exact d
 have oldK:∀ b o,s.heap.get? b = some o→b ∉ frs l'→b ∉ ex→∃ o',s'.heap.get? b = some o'∧B.get? b = some o':=fun b o e hb he=>x.old b o e (fun z=>hb (hin b o e z)) he
 refine ⟨x.os,x.bare,⟨fun b o e n hb he=>?_,fun b o e n hb he=>?_,x.un.free,fun b o e he=>?_,x.un.tups,x.un.frzs,x.un.tbls⟩,fun b u e=>?_,x.na,st,fun b o e hb he=>?_,fun b hb=>?_⟩
 ·have e1:=x.un.keep b o e n (fun z=>hb (hin b o e z)) he
  obtain ⟨o',e2,e3⟩:=oldK b o e hb he
  rw [e1] at e2;cases e2
  exact sB b _ e3
 ·obtain ⟨sl,e1⟩:=x.un.slot b o e n (hsub b hb) he
  obtain ⟨sl',e2⟩:=k b _ e1 (nf b (hsub b hb) _ e1)
  exact ⟨sl',e2⟩
 ·by_cases hb:b∈frs l
  ·obtain ⟨_,o',e',d⟩:=x.sta.frames.mem hb
   obtain ⟨sl',e2⟩:=k b _ e' d
   exact ⟨_,e2⟩
  ·obtain ⟨o',_,e3⟩:=x.old b o e hb he
   exact ⟨o',sB b _ e3⟩
 ·refine (x.hok b u e).stay (fun c v hc q=>?_) (fun _ q=>q) fun _ _ q=>q
  have hn:H' c≠none:=by
   rcases hc with rfl | hc
   ·rw [e];exact fun z=>nomatch z
   ·rw [hc];exact fun z=>nomatch z
  obtain ⟨o',e1,e2⟩:=x.trk c hn
  rw [q] at e1;cases e1
  exact sB c _ e2
 ·obtain ⟨o',_,e3⟩:=oldK b o e hb he
  exact ⟨o',sB b _ e3,e3⟩
 ·obtain ⟨o',_,e3⟩:=x.trk b hb
  exact ⟨o',sB b _ e3,e3⟩

noncomputable def CXo (P:Program) (w:World):CXT:=fun outer H s E e s'=>∃ a cls H' B,e = .ref a∧XAt P w outer [] H s B a cls H' s'∧E cls none H'
noncomputable def BodyX (X:Cx) (E:XK) (e:Value) (s':Shared):Prop:=∃ a cls H' B,e = .ref a∧XAt X.prog X.w X.stack X.ex X.H₀ X.s₀ B a cls H' s'∧E cls none H'
section
variable {X:Cx} {E:XK}
theorem passX {F:Value→Shared→Prop}:Passes (CXo X.prog X.w) (X.wish (BodyX X E)) E:=fun pins σ H s e s' I h=>by
 have I:=I.unwish
 obtain ⟨a,cls,H',B,rfl,x,hE⟩:=h
 have U:Un (frs X.stack) X.ex X.H₀ H X.s₀.heap s.heap:=I.base.mono (fun b hb=>by
  rcases I.ok.stk with z | ⟨z,_⟩
  ·rw [z];exact hb
  ·rw [z];unfold frs;rw [List.filterMap_cons];split
   ·exact hb
   ·exact List.mem_cons_of_mem _ hb) fun b hb=>hb
 have U2:Un (frs X.stack) X.ex H H' s.heap s'.heap:=x.un.mono (fun b hb=>hb) fun b hb=>absurd hb (by simp)
 refine ⟨a,cls,H',B,rfl,⟨x.os.trans I.os,x.bare,U.trans U2,x.hok,x.na,x.sta,fun b o q hb he=>?_,x.trk⟩,hE⟩
 obtain ⟨o1,e1⟩:=U.there b o q he
 exact x.old b o1 e1 hb (by simp)
end
structure Own (X:Cx):Prop where
 ok:X.Ok
 top:X.stack = X.env :: X.outer
 fr:X.env.frame = some X.env.locals
 ex:X.ex = []
theorem Own.loc {X:Cx} (o:Own X):∀ b o',X.s₀.heap.get? b = some o'→b∈frs X.stack→b∈frs X.outer:=fun b o' e hb=>by
 rw [o.top] at hb
 unfold frs at hb
 rw [List.filterMap_cons,o.fr] at hb
 rcases List.mem_cons.mp hb with z | z
 ·subst z
  exact absurd (Nat.lt_of_lt_of_le (Heap.lt_size e) o.ok.above) (Nat.lt_irrefl _)
 ·exact z
structure ECls (K:PySem.W.Frag) (mg:Str→Option Value) (x:Str) (C:Addr):Prop where
 g:mg x = some (.ref C)
 ex:∃ bm newId B initId,PySem.W.excIn K C bm newId = true∧ExcBaseFacts B newId initId bm
noncomputable def tRaise (C:Addr) (t:TA) (E:XK):TS:=fun _ σ H=>t σ H fun vs H1=>vs.length≤sizeLine∧E (.ref C) none H1
theorem ecls_obj {K:PySem.W.Frag} {C:Addr} {bmB:List Value} {newId:String} {h:Heap} (X:K.In h) (q:PySem.W.excIn K C bmB newId = true) :
  ∃ bm ns nm qn bs hd sn sub ab col dd k0 k1 k2 k3 k5 mN,h.get? C = some (excClassObj nm qn C ns bs bm hd sn sub ab col dd k0 k1 k2 k3 k5 newId)∧h.Ns ns mN∧mN "__init__" = none∧OwnTail h bmB bm:=by
 unfold PySem.W.excIn at q
 split at q
 ·rename_i dd cd sl ho
  split at q
  ·rename_i C' bm k0 k1 k2 k3 n k5 hm hs
   simp only [Bool.and_eq_true,beq_iff_eq,Bool.not_eq_true'] at q
   obtain ⟨⟨⟨⟨⟨rfl,rfl⟩,hdel⟩,ht⟩,hok⟩,hni⟩:=q
   obtain ⟨nm,bs,mro,ns,qn,hd,sn,sub,ab,col,del⟩:=cd
   dsimp only at hm hdel hok hni
   subst hm hdel
   have hsl:sl = #[k0,k1,k2,k3,some (.builtin n),k5]:=by
    obtain ⟨l⟩:=sl
    simp only at hs
    rw [hs]
   subst hsl
   exact ⟨bm,ns,nm,qn,bs,hd,sn,sub,ab,col,dd,k0,k1,k2,k3,k5,_,X _ _ ho,.of_isNs (PySem.W.isNs_of_in X hok),PySem.W.nsMap_none_of_in X hok hni,PySem.W.tail_of_in X ht⟩
  ·cases q
 ·cases q
theorem ps_raise {X:Cx} {E:XK} {x:Str} {C:Addr} {np cpos pos:Pos} {e₀:Expr} {rest:List Expr} {t:TA} (hc:X.calm = true) (Z:ECls X.K X.mg x C) (ha:PA (X.wish (BodyX X E)) (e₀ :: rest) t)
  (hg:Gl X x:=by rfl) (hdb:(x == ("__debug__":Str)) = false:=by decide) (he:starEach (e₀ :: rest) X.env = (false,eval e₀ X.env) :: starEach rest X.env:=by rfl) (hplain:(backTo cpos (starEach rest X.env)).any (·.1) = false:=by rfl) :
  PS (X.wish (BodyX X E)) (.Raise (some (.Call (.Name x np) (e₀ :: rest) [] cpos)) none pos) (tRaise C t E):=by
 intro pins s σ H D I h
 obtain ⟨bmB,newId,Bn,initId,q,FB⟩:=Z.ex
 obtain ⟨bm,ns,nm,qn,bs,hd,sn,sub,ab,col,dd,k0,k1,k2,k3,k5,mN,hC,hN,hni,T⟩:=ecls_obj I.kIn q
 have hA:=ha cpos pins s σ H _ I h
 rw [show starEach (e₀ :: rest) (X.wish (BodyX X E)).env = (false,eval e₀ X.env) :: starEach rest X.env from he] at hA
 refine wpAny_Raise_call_subT (C:=C) (nm:=nm) (q:=qn) (N:=ns) (bs:=bs) (bm:=bm) (hdct:=hd) (sn:=sn) (sub:=sub) (ab:=ab) (col:=col) (dd:=dd) (k0:=k0) (k1:=k1) (k2:=k2) (k3:=k3) (k5:=k5)
  FB (mN:=mN) (T.hasType FB.hasBase) (I.ok.hd hc) (by show (backTo cpos (starEach (e₀ :: rest) X.env)).any (·.1) = false;rw [he];show (false || (backTo cpos (starEach rest X.env)).any (·.1)) = false;rw [hplain];rfl) hni (ld_glob I hg Z.g ⟨rfl,?_⟩ hdb)
 show wpAny _ _ (evalArgs (.ref C) true (backTo cpos (starEach (e₀ :: rest) X.env)) []) _ _ s
 rw [he]
 refine Calls.evalArgs_plain (wpAny_mono hA (fun us s2 h2=>?_) fun _ _ y=>y)
 obtain ⟨vs,H2,I2,r2,hz,hE⟩:=h2
 obtain ⟨bm',ns',nm',qn',bs',hd',sn',sub',ab',col',dd',k0',k1',k2',k3',k5',mN',hC2,hN2,hni2,T2⟩:=ecls_obj I2.kIn q
 have J:=I2.unwish
 have st:∀ b o,X.base.get? b = some o→s2.heap.get? b = some o:=J.bk
 have hC':s2.heap.get? C = some (excClassObj nm qn C ns bs bm hd sn sub ab col dd k0 k1 k2 k3 k5 newId):=by
  obtain ⟨bm3,ns3,nm3,qn3,bs3,hd3,sn3,sub3,ab3,col3,dd3,k03,k13,k23,k33,k53,mN3,hC3,hN3,hni3,T3⟩:=ecls_obj J.ok.mod.kin q
  have e1:=(I.unwish.bk _ _ hC3).symm.trans hC
  cases e1
  exact st _ _ hC3
 have hN':s2.heap.Ns ns mN:=by
  obtain ⟨bm3,ns3,nm3,qn3,bs3,hd3,sn3,sub3,ab3,col3,dd3,k03,k13,k23,k33,k53,mN3,hC3,hN3,hni3,T3⟩:=ecls_obj J.ok.mod.kin q
  have e1:=(I.unwish.bk _ _ hC3).symm.trans hC
  injection e1 with e1
  injection e1 with _ _ e1 _
  injection e1 with e1
  injection e1 with _ _ _ e1 _ _ _ _ _ _ _
  subst e1
  have f1:=hN3.keeps I.unwish.bk
  have f2:=hN3.keeps st
  obtain ⟨o1,es1,ep1,g1,g2,g3,g4⟩:=f1
  obtain ⟨o2,es2,ep2,j1,j2,j3,j4⟩:=hN
  rw [g1] at j1;cases j1
  rw [g2] at j2;cases j2
  have em:mN3 = mN:=by funext y;rw [← g4 y,← j4 y]
  rw [← em]
  exact f2
 have T':OwnTail s2.heap bmB bm:=by
  obtain ⟨bm3,ns3,nm3,qn3,bs3,hd3,sn3,sub3,ab3,col3,dd3,k03,k13,k23,k33,k53,mN3,hC3,hN3,hni3,T3⟩:=ecls_obj J.ok.mod.kin q
  have e1:=(I.unwish.bk _ _ hC3).symm.trans hC
  injection e1 with e1
  injection e1 with _ _ e1 _
  injection e1 with e1
  injection e1 with _ _ e1 _ _ _ _ _ _ _ _
  injection e1 with _ e1
  rw [← e1]
  exact T3.keeps st
 refine ⟨rfl,by show us.length≤sizeLine;rw [← r2.length];exact hz,hC',hN',T',fun h' a hx=>?_⟩
 have U:Un (frs X.stack) X.ex X.H₀ H2 X.s₀.heap s2.heap:=J.base.mono (fun b hb=>by
  rcases J.ok.stk with z | ⟨z,_⟩
  ·rw [z];exact hb
  ·rw [z];unfold frs;rw [List.filterMap_cons];split
   ·exact hb
   ·exact List.mem_cons_of_mem _ hb) fun b hb=>hb
 obtain ⟨t0,ht1,ht2,ht3⟩:=hx.there
 refine ⟨a,.ref C,H2,noFr s2.heap X.stack,rfl,⟨J.os,J.bare,U.trans (Un.kept hx.keeps),J.hok.kept hx.keeps,?_,⟨_,.inl ⟨fun b o e=>hx.keeps b o (of_noFr e),?_,?_,_,_,ht1,rfl,rfl,rfl,rfl⟩⟩,fun b o e hb he=>?_,fun b hb=>?_⟩,hE⟩
 ·cases z:H2 a with
  | none=>rfl
  | some u =>
   obtain ⟨o,e⟩:=(J.hok a u z).obj
   rw [hx.new] at e;cases e
 ·cases z:(noFr s2.heap X.stack).get? a with
  | none=>rfl
  | some o=>have:=of_noFr z;rw [hx.new] at this;cases this
 ·exact (noFr_frames J.stack).of_keeps fun b o e _=>⟨o,hx.keeps b o e,rfl⟩
 ·obtain ⟨o1,e1⟩:=U.there b o e he
  exact ⟨o1,hx.keeps b o1 e1,noFr_get e1 hb⟩
 ·obtain ⟨u,hu⟩:=Option.ne_none_iff_exists'.mp hb
  obtain ⟨o,e⟩:=(J.hok b u hu).obj
  exact ⟨o,hx.keeps b o e,noFr_get e fun z=>hb (J.stkFree b z)⟩

theorem Fun.okX {P:Program} {w:World} {K:PySem.W.Frag} {mg:Str→Option Value} {base:Heap} {x qual:Str} {st:Stmt} {f:Addr} {fd:FuncData} {N ps:List Str} {k:Nat} {sp:Sp} (F:Fun K x qual st f fd) (S:FnScope N ps (defScope st)) (len:∀ vs H Q E,sp vs H Q E→vs.length = ps.length)
  (hbody:∀ (cdv:Value) (A:Around) (outer:List Env) (s:Shared) (H:Hp) (vs:List V) (Q:VK) (E:XK),Room k (A.deeper (envOfC qual (defScope st) s.heap.objs.size f cdv))→sp vs H Q E→∀ X:Cx,X = cxOf (CXo P w) P w K mg base N qual (defScope st) f cdv A outer s H E →
   ∃ t,PSs (X.wish (BodyX X E)) (defBody st) t∧t { nx:=fun _ H'=>Q .non H',rt:=Q } (start N vs) H):FnOk P w K mg base (CXo P w) (k + 1) f fd ps sp:=by
 obtain ⟨oc,od,kV,doc,pm,an,cdv,ct,osl,rfl,lk,hcd⟩:=F.ex
 refine fn_of lk hcd S len fun A outer s H vs Q E hr hsp=>?_
 obtain ⟨t,h,q⟩:=hbody cdv A outer s H vs Q E hr hsp _ rfl
 refine ⟨t,fun pins s1 σ H1 D I hw=>?_,q⟩
 refine wpAny_mono (h pins s1 σ H1 D (I.wish _) hw) (fun _ _ q=>q.unwish) fun e s' hx=>?_
 obtain ⟨a,cls,H',B,rfl,x,hE⟩:=hx
 have O:Own (cxOf (CXo P w) P w K mg base N qual (defScope st) f cdv A outer s H E):=⟨I.ok,rfl,rfl,rfl⟩
 show wpAny (model P w) _ (leaving _ (.ref a)) _ _ s'
 refine sta_leave (outer:=outer) I.ok.frames rfl x.sta fun h' a0 k1 k2=>?_
 refine ⟨a,cls,H',B,rfl,x.move k2 ⟨a0,.inr (.inl k1)⟩ (fun b hb=>List.mem_cons_of_mem _ hb) O.loc fun b _=>by simp [cxOf],hE⟩
end L2

namespace L2
open PySem PySem.Spec PyProof.Rows
noncomputable def cxSuite (X:Cx) (a:Addr) (oe:Obj):Cx:={ X with A:=X.A.mark (some (.ref a)),calm:=false,pn:=X.pn ++ [(a,oe)],xe:=fun _ _=>False }
section
variable {X:Cx} {pins:List (Addr×Obj)} {σ:St} {H:Hp} {s:Shared} {a:Addr} {oe:Obj}
theorem Inv.suite (I:Inv X pins σ H s) (e:s.heap.get? a = some oe) (hn:H a = none) (hl:a≠X.env.locals) (hf:a ∉ X.fs) (hd:∀ v,oe.data≠.cell v):Inv (cxSuite X a oe) pins σ H s:=by
 refine ⟨⟨I.ok.mod,I.ok.kind,I.ok.glob,I.ok.blt,I.ok.above,I.ok.inj,I.ok.has,I.ok.cab,fun z=>(Bool.false_ne_true z).elim,I.ok.frames,I.ok.stk,I.ok.exf,I.ok.bs,I.ok.bsz,I.ok.noex,I.ok.exfs,I.ok.funs,I.ok.frf⟩,I.os,I.bare,I.base,I.loc,I.cell,I.free,I.freeC,fun p hp=>?_,I.hok,I.len⟩
 have hp:p∈(X.pn ++ [(a,oe)]) ++ pins:=hp
 rcases List.mem_append.mp hp with z | z
 ·rcases List.mem_append.mp z with z | z
  ·exact I.pin p (List.mem_append_left _ z)
  ·have z:p = (a,oe):=by simpa using z
   subst z
   exact ⟨e,hn,hl,hf,hd⟩
 ·exact I.pin p (List.mem_append_right _ z)
theorem Inv.unsuite (ok:X.Ok) (I:Inv (cxSuite X a oe) pins σ H s):Inv X pins σ H s :=
 ⟨ok,I.os,I.bare,I.base,I.loc,I.cell,I.free,I.freeC,fun p hp=>I.pin p (by
  show p∈(X.pn ++ [(a,oe)]) ++ pins
  rcases List.mem_append.mp hp with z | z
  ·exact List.mem_append_left _ (List.mem_append_left _ z)
  ·exact List.mem_append_right _ z),I.hok,I.len⟩
end
noncomputable def PEX (X:Cx) (e:Expr) (t:XK→TE):Prop :=
 ∀ (E:XK) (pins:List (Addr×Obj)) (s:Shared) (σ:St) (H:Hp) (Q:VK),Inv X pins σ H s→t E σ H Q →
  wpAny (model X.prog X.w) X.A (eval e X.env) (EP X pins σ Q) (fun e s'=>∃ H1 s1,Inv X pins σ H1 s1∧CXo X.prog X.w X.stack H1 s1 E e s') s
end L2

namespace L2
open PySem PySem.Spec PyProof.Rows
section
variable {X:Cx}
theorem ps_sem {b:List Stmt} {R:TS} (h:∀ D σ H,R D σ H→∃ t,PSs X b t∧t D σ H):PSs X b R:=fun pins s σ H D I hw=>by
 obtain ⟨t,ht,hq⟩:=h D σ H hw
 exact ht pins s σ H D I hq
theorem passF:Passes (CXo X.prog X.w) X E0:=fun _ _ _ _ _ _ _ h=>by
 obtain ⟨_,_,_,_,_,_,z⟩:=h
 exact z.elim
theorem pe_fnF {x : Str} {st : Stmt} {ps : List Str} {f : Addr} {fd : FuncData} {k : Nat} {sp : Sp} {e : Expr} {es : List Expr} {t : TA} {p pos : Pos} (G : FnOk X.prog X.w X.K X.mg X.base (CXo X.prog X.w) k f fd ps sp) (F : Fn X.K X.mg x st ps f fd) (hr : Room k X.A) (ha : PA X (e :: es) t)
    (hg : Gl X x := by rfl) (hdb : (x == ("__debug__" : Str)) = false := by decide) (he : starEach (e :: es) X.env = (false, eval e X.env) :: starEach es X.env := by rfl) (hpl : (backTo pos (starEach es X.env)).any (·.1) = false := by rfl) :
    PE X (.Call (.Name x p) (e :: es) [] pos) (tCall sp [] E0 t) := pe_call G hr hg F.g F.fn.kp F.b .nil passF ha hdb he hpl
theorem pe_fnX {E : XK} {x : Str} {st : Stmt} {ps : List Str} {f : Addr} {fd : FuncData} {k : Nat} {sp : Sp} {e : Expr} {es : List Expr} {t : TA} {p pos : Pos} (G : FnOk X.prog X.w X.K X.mg X.base (CXo X.prog X.w) k f fd ps sp) (F : Fn X.K X.mg x st ps f fd) (hr : Room k X.A) (ha : PA (X.wish (BodyX X E)) (e :: es) t)
    (hg : Gl (X.wish (BodyX X E)) x := by rfl) (hdb : (x == ("__debug__" : Str)) = false := by decide) (he : starEach (e :: es) X.env = (false, eval e X.env) :: starEach es X.env := by rfl) (hpl : (backTo pos (starEach es X.env)).any (·.1) = false := by rfl) :
    PE (X.wish (BodyX X E)) (.Call (.Name x p) (e :: es) [] pos) (tCall sp [] E t) := pe_call (X := X.wish (BodyX X E)) G hr hg F.g F.fn.kp F.b .nil (passX (F := fun _ _ => True)) ha hdb he hpl

theorem Fun.okX2 {P:Program} {w:World} {K:PySem.W.Frag} {mg:Str→Option Value} {base:Heap} {x qual:Str} {st:Stmt} {f:Addr} {fd:FuncData} {N ps:List Str} {k:Nat} {sp:Sp} (F:Fun K x qual st f fd) (S:FnScope N ps (defScope st)) (len:∀ vs H Q E,sp vs H Q E→vs.length = ps.length)
  (hbody:∀ (cdv:Value) (A:Around) (outer:List Env) (s:Shared) (H:Hp) (vs:List V) (Q:VK) (E:XK),Room k (A.deeper (envOfC qual (defScope st) s.heap.objs.size f cdv))→sp vs H Q E→Own (cxOf (CXo P w) P w K mg base N qual (defScope st) f cdv A outer s H E) →
   ∃ t,PSs ((cxOf (CXo P w) P w K mg base N qual (defScope st) f cdv A outer s H E).wish (BodyX (cxOf (CXo P w) P w K mg base N qual (defScope st) f cdv A outer s H E) E)) (defBody st) t∧t { nx:=fun _ H'=>Q .non H',rt:=Q } (start N vs) H):FnOk P w K mg base (CXo P w) (k + 1) f fd ps sp:=by
 refine F.okX S len fun cdv A outer s H vs Q E hr h X hX=>?_
 subst hX
 by_cases ok:(cxOf (CXo P w) P w K mg base N qual (defScope st) f cdv A outer s H E).Ok
 ·exact hbody cdv A outer s H vs Q E hr h ⟨ok,rfl,rfl,rfl⟩
 ·exact ⟨fun _ _ _=>True,fun pins s σ H D I _=>absurd I.ok.unwish ok,trivial⟩
theorem Fun.okO {P:Program} {w:World} {K:PySem.W.Frag} {mg:Str→Option Value} {base:Heap} {x qual:Str} {st:Stmt} {f:Addr} {fd:FuncData} {N ps:List Str} {k:Nat} {sp:Sp} (F:Fun K x qual st f fd) (S:FnScope N ps (defScope st)) (len:∀ vs H Q E,sp vs H Q E→vs.length = ps.length)
  (hbody:∀ (cdv:Value) (A:Around) (outer:List Env) (s:Shared) (H:Hp) (vs:List V) (Q:VK) (E:XK),Room k (A.deeper (envOfC qual (defScope st) s.heap.objs.size f cdv))→sp vs H Q E→Own (cxOf CX0 P w K mg base N qual (defScope st) f cdv A outer s H E).nox →
   ∃ t,PSs (cxOf CX0 P w K mg base N qual (defScope st) f cdv A outer s H E).nox (defBody st) t∧t { nx:=fun _ H'=>Q .non H',rt:=Q } (start N vs) H):FnOk P w K mg base CX0 (k + 1) f fd ps sp:=by
 refine F.ok S len fun cdv A outer s H vs Q E hr h=>?_
 by_cases ok:(cxOf CX0 P w K mg base N qual (defScope st) f cdv A outer s H E).nox.Ok
 ·exact hbody cdv A outer s H vs Q E hr h ⟨ok,rfl,rfl,rfl⟩
 ·exact ⟨fun _ _ _=>True,fun pins s σ H D I _=>absurd I.ok ok,trivial⟩

theorem Room.lt {k:Nat} {A:Around} (r:Room k A) (n:Nat) (h:n≤62):A.units + n + 1 < cLine:=by have:=r.units;omega

noncomputable def PJ (X:Cx) (es:List Expr) (m:Nat) (t:St→Hp→Prop):Prop :=
 ∀ (pins:List (Addr×Obj)) (s:Shared) (σ:St) (H:Hp) (out:Str) (Q:Value→Shared→Prop),Inv X pins σ H s→t σ H→out.length + m≤sizeLine→(∀ x tk s',Inv X pins σ H s'→Q (.str x tk) s') →
  wpAny (model X.prog X.w) X.A (joinParts out (evalEach es X.env)) Q X.xe s
noncomputable def jNil:St→Hp→Prop:=fun _ _=>True
theorem pj_nil:PJ X [] 0 jNil:=fun pins s σ H out Q I _ hz q=>joinParts_nil (q _ _ _ (I.tok _)) (by omega)
theorem pj_str {x:Str} {j} {pos:Pos} {es:List Expr} {m:Nat} {t:St→Hp→Prop} (h:PJ X es m t):PJ X (.Constant (.str x) j pos :: es) (x.length + m) t:=fun pins s σ H out Q I ht hz q=>by
 show wpAny _ _ (joinParts out (eval (.Constant (.str x) j pos) X.env :: evalEach es X.env)) Q _ s
 have e:(out ++ x).length = out.length + x.length:=strLen_append _ _
 refine joinParts_cons (Calls.Constant_str ?_)
 exact ⟨by rw [e];omega,h pins _ σ H (out ++ x) Q (I.tok _) ht (by rw [e];omega) q⟩
noncomputable def tFs (t:St→Hp→Prop):TE:=fun σ H Q=>t σ H∧∀ x,Q (.str x) H
theorem pe_fs {a b:Expr} {es:List Expr} {pos:Pos} {m:Nat} {t:St→Hp→Prop} (h:PJ X (a :: b :: es) m t) (hm:m≤1000000):PE X (.JoinedStr (a :: b :: es) pos) (tFs t):=fun pins s σ H Q I hw=>by
 have e:Str.empty.length = 0:=rfl
 have z:sizeLine = 16777216:=sizeLine_eq
 exact JoinedStr_many (h pins s σ H Str.empty _ I hw.1 (by rw [e,z];omega) fun x tk s' I'=>⟨.str x,H,I',⟨_,rfl⟩,hw.2 x⟩)
end

end L2

namespace L2
open PySem PySem.Spec PyProof.Rows
section
variable {X:Cx}
noncomputable def Deep (K:PySem.W.Frag) (H:Hp):Nat→V→V→Prop
 | 0,x,y=>x = y∧flatV x = true
 | n + 1,x,y=>(x = y∧flatV x = true)∨∃ (a b:Addr) (xs ys:List V),x = .ref a∧y = .ref b∧((SqL K H a xs∧SqL K H b ys)∨(SqT K H a xs∧SqT K H b ys))∧xs.length = ys.length∧∀ (i:Nat) (u v:V),xs[i]? = some u→ys[i]? = some v→Deep K H n u v
theorem eqV_self {x:V} (h:flatV x = true):eqV x x = true:=by
 cases x <;> first | rfl | (exact absurd h Bool.false_ne_true) | (show (_ == _) = true;exact beq_self_eq_true _)
theorem vals_at {xs:List V} {its:List Value} {j:Nat} (r:Vals xs its) (hj:j < its.toArray.size):∃ x,xs[j]? = some x∧RelV x its.toArray[j]:=by
 have hl:=r.length
 have hx:j < xs.length:=by rw [List.size_toArray] at hj;omega
 obtain ⟨u,hu,ru⟩:=r.get (List.getElem?_eq_getElem hx)
 refine ⟨_,List.getElem?_eq_getElem hx,?_⟩
 have z:its.toArray[j]? = some u:=by simpa using hu
 rw [(Array.getElem?_eq_some_iff.mp z).2]
 exact ru
theorem all_true (n:Nat):(List.range n).all (fun _=>true) = true:=List.all_eq_true.mpr fun _ _=>rfl
section
variable {pins:List (Addr×Obj)} {σ:St} {H:Hp} {s:Shared}
theorem deep_eqAt (I:Inv X pins σ H s):∀ (n:Nat) {A:Around} {x y:V} {u v:Value},A.units + n < cLine→Deep X.K H n x y→RelV x u→RelV y v→SeqAt.EqAt A s u v true
 | 0,A,x,y,u,v,hu,h,rx,ry=>by
  obtain ⟨rfl,f⟩:=h
  have z:=eqAt_V (A:=A) (s:=s) rx ry f f
  rw [eqV_self f] at z
  exact z
 | n + 1,A,x,y,u,v,hu,h,rx,ry=>by
  rcases h with ⟨rfl,f⟩ | ⟨a,b,xs,ys,rfl,rfl,hs,hl,hd⟩
  ·have z:=eqAt_V (A:=A) (s:=s) rx ry f f
   rw [eqV_self f] at z
   exact z
  ·cases rx
   cases ry
   by_cases e:a = b
   ·subst e;exact SeqAt.EqAt.same _
   ·refine SeqAt.EqAt.of_refs e ?_
    have hu1:A.in1.units + n < cLine:=by show A.units + 1 + n < cLine;omega
    rcases hs with ⟨h1,h2⟩ | ⟨h1,h2⟩
    ·obtain ⟨i1,r1,p1,z1⟩:=I.list h1
     obtain ⟨i2,r2,p2,z2⟩:=I.list h2
     have l1:=r1.length
     have l2:=r2.length
     have z:=SeqAt.RcAt.lists (A:=A) (e:=fun _=>true) p1.isList p2.isList (by simp only [List.size_toArray];omega) (by omega) fun j q1 q2=>by
      obtain ⟨x1,e1,t1⟩:=vals_at r1 q1
      obtain ⟨x2,e2,t2⟩:=vals_at r2 q2
      exact deep_eqAt I n hu1 (hd j x1 x2 e1 e2) t1 t2
     rw [all_true] at z
     exact z
    ·obtain ⟨i1,r1,p1,z1⟩:=I.tuple h1
     obtain ⟨i2,r2,p2,z2⟩:=I.tuple h2
     have l1:=r1.length
     have l2:=r2.length
     have z:=SeqAt.RcAt.tuples (A:=A) (e:=fun _=>true) (show s.heap.IsTuple a i1.toArray from p1) (show s.heap.IsTuple b i2.toArray from p2) (by omega) fun j q1 q2=>by
      obtain ⟨x1,e1,t1⟩:=vals_at r1 q1
      obtain ⟨x2,e2,t2⟩:=vals_at r2 q2
      exact deep_eqAt I n hu1 (hd j x1 x2 e1 e2) t1 t2
     have e3:(i1.toArray.size == i2.toArray.size) = true:=by simp only [List.size_toArray,beq_iff_eq];omega
     rw [all_true,e3] at z
     exact z
end
noncomputable def DeepL (K:PySem.W.Frag) (H:Hp) (n:Nat) (a b:Addr):Prop:=∃ xs ys:List V,SqL K H a xs∧SqL K H b ys∧xs.length = ys.length∧∀ (i:Nat) (u v:V),xs[i]? = some u→ys[i]? = some v→Deep K H n u v
theorem op_eq_deep (n:Nat) (hu:X.A.units + n + 1 < cLine):OpR X (compareOp .Eq) (fun x y H Q=>∃ a b:Addr,x = .ref a∧y = .ref b∧DeepL X.K H n a b∧Q (.bl true) H):=by
 intro pins s σ H x y v u Q I rx ry h
 obtain ⟨a,b,rfl,rfl,⟨xs,ys,h1,h2,hl,hd⟩,q⟩:=h
 cases rx
 cases ry
 obtain ⟨i1,r1,p1,z1⟩:=I.list h1
 obtain ⟨i2,r2,p2,z2⟩:=I.list h2
 have l1:=r1.length
 have l2:=r2.length
 refine SeqAt.eq_listAt (e:=fun _=>true) p1.isList p2.isList (by simp only [List.size_toArray];omega) (by omega) (fun j q1 q2=>?_) ⟨.bl true,H,I,?_,q⟩
 ·obtain ⟨x1,e1,t1⟩:=vals_at r1 q1
  obtain ⟨x2,e2,t2⟩:=vals_at r2 q2
  exact deep_eqAt I n (by show X.A.units + 1 + n < cLine;omega) (hd j x1 x2 e1 e2) t1 t2
 ·show Value.bool _ = Value.bool true
  rw [all_true]
end
end L2

namespace L2
open PySem PySem.Spec PyProof.Rows

theorem compOk1 {X:Cx} {scope:Scope} {pre:List Str} {y:Str} {c:Addr} {j:Nat} (hkind:scope.kind = .function) (h:∀ z∈scope.names,z.2≠.cell∧(z.2 = .free→z.1 = y)) (hn:∀ z∈scope.names,z.2 = .local→scope.names.lookup z.1 = some .local)
  (hcl:closureFor scope X.env = pure [(y,c)]) (hc:X.env.cells.lookup y = some c) (hN:X.N[j]? = some y) (hk:X.env.kindOf y = some .cell) (hr:(relabel scope X.env).names.lookup y = some .cell) :
  CompOk X scope [(y,c)] (pre ++ [y]) (List.replicate pre.length none ++ [some j]) where
 clos:=hcl
 cell:=fun z hz=>(h z hz).1
 kind:=hkind
 names:=hn
 cls:=fun x c' e=>by
  rw [List.lookup_cons] at e
  split at e
  ·rename_i hx
   rw [eq_of_beq hx,← e]
   exact hc
  ·cases e
 has:=fun x e=>by
  have key:∀ k,(relabel scope X.env).names.lookup x = some k→k = .cell∨k = .free→x = y:=fun k e hk=>by
   have hm:=PySem.mem_of_lookup e
   obtain ⟨⟨n,k'⟩,hy,ey⟩:=List.mem_map.mp hm
   have h1:=h _ hy
   by_cases hf:k' = .free
   ·have z:=h1.2 hf
    dsimp only at ey
    split at ey
    ·cases ey;exact z
    ·cases ey;exact z
   ·have hb:(k' == NameKind.free) = false:=by simpa using hf
    simp only [hb,Bool.false_and,Bool.false_eq_true,if_false,Prod.mk.injEq] at ey
    obtain ⟨_,rfl⟩:=ey
    rcases hk with hk | hk
    ·exact absurd hk h1.1
    ·exact absurd hk hf
  have hxy:x = y:=by
   rcases e with e | e
   ·exact key _ e (.inl rfl)
   ·exact key _ e (.inr rfl)
  exact ⟨c,by rw [hxy,List.lookup_cons,beq_self_eq_true]⟩
 len:=by simp
 src:=fun i k x e1 e2=>by
  by_cases hi:i < pre.length
  ·rw [List.getElem?_append_left (by simpa using hi),List.getElem?_replicate,if_pos hi] at e1
   cases e1
  ·have hl:=(List.getElem?_eq_some_iff.mp e2).1
   rw [List.length_append,List.length_singleton] at hl
   have e:i = pre.length:=by omega
   subst e
   rw [List.getElem?_append_right (by simp)] at e1
   rw [List.getElem?_append_right (Nat.le_refl _)] at e2
   simp at e1 e2
   subst e1 e2
   exact ⟨hN,.inl hk,.inl hr⟩

theorem compOk2 {X : Cx} {scope : Scope} {x y : Str} {c : Addr} {j : Nat} (hkind : scope.kind = .function) (h : ∀ z ∈ scope.names, z.2 ≠ .cell ∧ (z.2 = .free → z.1 = y)) (hn : ∀ z ∈ scope.names, z.2 = .local → scope.names.lookup z.1 = some .local)
    (hcl : closureFor scope X.env = pure [(y, c)]) (hc : X.env.cells.lookup y = some c) (hN : X.N[j]? = some y) (hk : X.env.kindOf y = some .cell) (hr : (relabel scope X.env).names.lookup y = some .cell) :
    CompOk X scope [(y, c)] [x, y] [none, some j] := compOk1 (pre := [x]) hkind h hn hcl hc hN hk hr
theorem bind_name {M:Model} {A:Around} {E:Value→Shared→Prop} {s:Shared} {env:Env} {x:Str} {v:Value} {Q:Unit→Shared→Prop} (h:wpAny M A (storeName env x v) Q E s):wpAny M A (bindName env x v) Q E s:=fun Γ p hΓ=>by
 rw [Sem.wp_bindName]
 exact h Γ _ hΓ
theorem ps_comp {X:Cx} {elt iter tg:Expr} {ifs:List Expr} {scope:Scope} {pos pos' ps:Pos} {x:Str} {ix:Nat} {cl:List (Str×Addr)} {NC:List Str} {ini:List (Option Nat)} {wi:TI} {g:TG} {tt:TT} {te:TE}
  (hN:X.N.Nodup) (hix:X.N[ix]? = some x) (hx:Loc X.env.scope x) (hc:X.calm = true) (O:CompOk X scope cl NC ini) (hi:PI X tg iter wi)
  (hg:∀ fp C s₀ H₀,PG (cxComp X scope cl NC fp C s₀ H₀) tg g) (ht:∀ fp C s₀ H₀,PTs (cxComp X scope cl NC fp C s₀ H₀) ifs tt) (he:∀ fp C s₀ H₀,PE (cxComp X scope cl NC fp C s₀ H₀) elt te)
  (hs:∀ x,foldedSetIterable iter X.env x = pure x:=by intro _;rfl) (hsw:swapsWith (.ListComp elt [⟨tg,iter,ifs,0⟩] scope pos) (some (.Name x pos')) ps.line X.env = pure true:=by rfl)
  (hf:X.fn x = true∨X.env.scope.names.lookup x = some .local:=by first | exact .inl rfl | exact .inr rfl | assumption):PS X (.Assign [.Name x pos'] (.ListComp elt [⟨tg,iter,ifs,0⟩] scope pos) ps) (tAsg (tComp wi g tt te ini) (gName ix)):=by
 intro pins s σ H Dn I h
 rw [exec_Assign_Name_used _ _ _ _ hsw]
 refine wpAny_bind (wpAny_standAt (wpAny_bind ?_))
 show wpAny _ _ (comprehension (.ListComp elt [⟨tg,iter,ifs,0⟩] scope pos) scope X.env _ (newList []) false (eval iter X.env) (some (assign (.Name x pos') X.env)) >>= fun _=>pure ()) _ _ s
 refine wpAny_bind ?_
 refine wpAny_comprehension_free (use:=some (assign (.Name x pos') X.env)) rfl hs O.clos O.kind O.names (thn (hi pins s σ H _ I h) fun v s1 h1=>thn h1 fun itv s2 h2=>?_)
 obtain ⟨it,fp,tn,J,H2,e,I2,T,st2,f2,h2⟩:=h2
 subst e
 have hD:H2 s2.heap.objs.size = none:=I2.hok.fresh (Nat.le_refl _)
 obtain ⟨W,⟨m0,w0⟩,turn⟩:=h2 _ hD
 refine wpAny_newObj_type (wpAny_newFunctionEnv O.cell (by intro y hy;simp at hy) (fun h₁ hns₁ hsb₁=>?_) O.kind)
 dsimp only at hns₁ hsb₁ ⊢
 have I3:Inv X pins σ (upd H2 s2.heap.objs.size (.lst [])) { s2 with heap:=s2.heap.push { cls:=.type "list",dict:=none,data:=.seq ([]:List Value).toArray } }:=I2.lnew (its:=[]) (t':=s2.toks) .nil (by decide)
 have ob2:∀ b∈fp,∃ o,s2.heap.get? b = some o:=fun b hb=>let ⟨o,e,_⟩:=T.obj 0 _ st2 b hb;⟨o,e⟩
 have neD:∀ b∈fp,b≠s2.heap.objs.size:=fun b hb=>let ⟨o,e⟩:=ob2 b hb;Nat.ne_of_lt (Heap.lt_size e)
 have f3:∀ b∈fp,FpOk X pins (upd H2 s2.heap.objs.size (.lst [])) b:=fun b hb=>⟨by rw [upd_ne (neD b hb)];exact (f2 b hb).1,(f2 b hb).2⟩
 generalize hs3:({ s2 with heap:=s2.heap.push { cls:=.type "list",dict:=none,data:=.seq ([]:List Value).toArray } }:Shared) = s3 at I3
 have hh3:s2.heap.push { cls:=.type "list",dict:=none,data:=.seq ([]:List Value).toArray } = s3.heap:=by rw [← hs3]
 have ob3:∀ b∈fp,∃ o,s3.heap.get? b = some o:=fun b hb=>let ⟨o,e⟩:=ob2 b hb;⟨o,by rw [← hh3];exact Heap.get?_push_of_some _ e⟩
 rw [hh3] at hns₁ hsb₁ ⊢
 have old:∀ b o,s3.heap.get? b = some o→h₁.get? b = some o:=fun b o e=>hsb₁.extBut b o (Nat.ne_of_lt (Heap.lt_size e)) (Heap.get?_push_of_some _ e)
 have st1:tn 0 h₁:=T.keep 0 _ _ st2 fun b hb o e=>old b o (by rw [← hh3];exact Heap.get?_push_of_some _ e)
 have IC:∀ tk,Inv (cxComp X scope cl NC fp s3.heap.objs.size s3 (upd H2 s2.heap.objs.size (.lst []))) [] (iniSt ini σ) (upd H2 s2.heap.objs.size (.lst [])) { s3 with heap:=h₁,toks:=tk }:=fun tk=>inv_comp O I3 f3 ob3 hns₁ old
 have stat:∀ {H':Hp},(∀ b∈fp,H' b = none)→∀ b∈fp,FpOk (cxComp X scope cl NC fp s3.heap.objs.size s3 (upd H2 s2.heap.objs.size (.lst []))) [] H' b:=fun {H'} hn b hb=>by
  obtain ⟨o,e⟩:=ob3 b hb
  refine ⟨hn b hb,Nat.ne_of_lt (Heap.lt_size e),fun z=>?_,.inl hb,fun x c hx=>(f3 b hb).2.2.2.2.1 x c (O.cls x c hx),fun p hp=>absurd (show p∈([]:List (Addr×Obj)) from hp) (by simp)⟩
  rcases List.mem_cons.mp (I3.stkSub b z) with q | q
  ·exact (f3 b hb).2.1 q
  ·exact (f3 b hb).2.2.1 q
 have loop:∀ s₃:Shared,s₃ = { s2 with heap:=h₁,toks:=s2.toks + ([]:List (Str×Value)).length } →
   codeAny (model X.prog X.w) X.A (.compLoop (.ListComp elt [⟨tg,iter,ifs,0⟩] scope pos) 0 (.ref it) (.ref s2.heap.objs.size) (compEnvC scope cl s3.heap.objs.size X.env))
    (compPost (model X.prog X.w) X.A X.xe (some (assign (.Name x pos') X.env)) (fun _ sE=>wpAny (model X.prog X.w) X.A (pure ()) (fun _ s₁=>wpAny (model X.prog X.w) X.A (pure Flow.next) (SP X pins Dn) X.xe s₁) X.xe sE) (.ref s2.heap.objs.size) s3.heap.objs.size) s₃:=by
  rintro s₃ rfl
  refine codeAny_loop rfl (fun n s'=>∃ i σ' H',Inv (cxComp X scope cl NC fp s3.heap.objs.size s3 (upd H2 s2.heap.objs.size (.lst []))) [] σ' H' s'∧tn i s'.heap∧(∀ b∈fp,H' b = none)∧W i n σ' H') (fun n s' hI=>?_) m0
   ⟨0,_,_,by have z:=IC (s2.toks + ([]:List (Str×Value)).length);rw [← hs3] at z ⊢;exact z,st1,fun b hb=>(f3 b hb).1,w0⟩
  show wpAny _ X.A ((compTurn (.ListComp elt [⟨tg,iter,ifs,0⟩] scope pos) 0 (.ref it) (.ref s2.heap.objs.size) (compEnvC scope cl s3.heap.objs.size X.env)).onRaise (fun x=>do noteFrame x (compEnvC scope cl s3.heap.objs.size X.env);theTreesLotGoes x)) _ _ s'
  refine wpAny_noted ?_
  rw [compTurn_list]
  obtain ⟨i,σ3,H3,I3',st3,fr3,w3⟩:=hI
  rcases turn i n σ3 H3 w3 with ⟨stop,qn⟩ | ⟨go,N,hN,step⟩
  ·refine wpAny_bind (wpAny_standAt (wpAny_bind (thn (T.done (cxComp X scope cl NC fp s3.heap.objs.size s3 (upd H2 s2.heap.objs.size (.lst []))) rfl rfl rfl hc i [] s' σ3 H3 _ I3' (stat fr3) st3 stop) fun r s4 ⟨hr,I4⟩=>?_)))
   subst hr
   obtain ⟨m',hn',_⟩:=I4.loc
   refine wpAny_pure ?_
   show wpAny _ _ (do standAt pos';bindName X.env x (.ref s2.heap.objs.size)) _ _ s4
   refine wpAny_bind (wpAny_standAt ?_)
   have IX:Inv X pins σ H3 s4:=comp_back I3 f3 I4 (Heap.SameBut.refl _ _)
   have fC:FpOk X pins H3 s3.heap.objs.size:=I3.fpOk (Nat.le_refl _) I4.free
   obtain ⟨c0,c1,c2,c3,c4,c5⟩:=fC
   refine bind_name (store_ok2 IX hN hix hx (v:=.ref s2.heap.objs.size) rfl (fun s5 I5 sb=>?_) hf)
   obtain ⟨aa,sb1,sb2⟩:=sb
   have nA:s3.heap.objs.size≠aa:=by
    rcases sb2 with z | z
    ·rw [z];exact c1
    ·exact Ne.symm (c4 x aa z)
   obtain ⟨oo,es,ep,g1,g2⟩:=hn'
   refine ⟨m',⟨oo,es,ep,(sb1.2 _ nA).trans g1,g2⟩,fun h' hs'=>wpAny_pure (wpAny_pure ⟨_,H3,I5.turned (t':=s5.toks) (fun b o hb e=>(hs'.2 b hb).trans e) c0 c1 c3 c4 c5,qn⟩)⟩
  ·refine wpAny_bind (wpAny_standAt (wpAny_bind (thn (T.item (cxComp X scope cl NC fp s3.heap.objs.size s3 (upd H2 s2.heap.objs.size (.lst []))) rfl rfl rfl hc i [] s' σ3 H3 _ I3' (stat fr3) st3 go) fun r s4 ⟨u,hr,h4⟩=>?_)))
   subst hr
   refine wpAny_bind (thn h4 fun _ s5 ⟨x,H5,I5,r5,y5,st5,fr5⟩=>?_)
   have I5':=I5.pinned (stat fr5) (T.obj _ _ st5)
   refine wpAny_bind (quietX (hg fp _ s3 _ _ s5 σ3 H5 x u _ I5' r5 (step x H5 y5)) fun _ s6 ⟨σ6,H6,I6,q6⟩=>?_)
   have again:∀ {s7:Shared} {H7:Hp},Inv (cxComp X scope cl NC fp s3.heap.objs.size s3 (upd H2 s2.heap.objs.size (.lst []))) ([] ++ pinsAt fp s5.heap) σ6 H7 s7→N σ6 H7 →
     ∃ m,m < n∧∃ i σ' H',Inv (cxComp X scope cl NC fp s3.heap.objs.size s3 (upd H2 s2.heap.objs.size (.lst []))) [] σ' H' s7∧tn i s7.heap∧(∀ b∈fp,H' b = none)∧W i m σ' H':=fun {s7 H7} I7 n7=>by
    obtain ⟨m',hm,w7⟩:=hN σ6 H7 n7
    refine ⟨m',hm,i + 1,σ6,H7,I7.unpinned,T.keep _ _ _ st5 fun b hb o e=>(I7.pin (b,o) (List.mem_append_right _ (List.mem_append_right _ (mem_pinsAt hb e)))).1,fun b hb=>?_,w7⟩
    obtain ⟨o,e,d⟩:=T.obj _ _ st5 b hb
    exact (I7.pin (b,o) (List.mem_append_right _ (List.mem_append_right _ (mem_pinsAt hb e)))).2.1
   refine wpAny_bind (quietX (ht fp _ s3 _ _ s6 σ6 H6 _ I6 q6) fun ok s7 ⟨H7,I7,q7⟩=>?_)
   cases ok with
   | false=>exact wpAny_pure ⟨rfl,again I7 q7⟩
   | true =>
    refine wpAny_bind (wpAny_bind (quietX (he fp _ s3 _ _ s7 σ6 H7 _ I7 q7) fun u8 s8 ⟨v8,H8,I8,r8,ys,hy,hz,n8⟩=>?_))
    refine wpAny_bind (quietX (mt_append _ s8 σ6 H8 (.ref s2.heap.objs.size) [v8] (.ref s2.heap.objs.size) [u8] (fun _ H9=>N σ6 H9) I8 rfl (.cons r8 .nil) ⟨_,ys,v8,rfl,rfl,hy,hz,n8⟩) fun _ s9 ⟨_,H9,I9,_,n9⟩=>?_)
    exact wpAny_pure (wpAny_pure ⟨rfl,again I9 n9⟩)
 exact codeAny_compStart_list (loop _ rfl) (T.self _ 0 _ _ _ st1 (loop _ rfl))

theorem ix_tupK {X:Cx} {K:PySem.W.Frag} (hK:X.K = K):IxR X (rIxT K):=hK ▸ ix_tup

end L2

namespace L2
open PySem PySem.Spec PyProof.Rows
theorem reads_ints {h:Heap}:∀ {ns:List Int} {its:List Value},Vals (ns.map V.int) its→ReadsAll h its (ns.map PyData.int) []
 | [],_,.nil=>.nil
 | n :: ns,_ :: _,.cons r t=>by
  obtain ⟨tk,rfl⟩:=r
  exact ReadsAll.cons (as:=[]) (bs:=[]) (.int n tk) (reads_ints t)
theorem ints_showable:∀ {ns:List Int},(∀ n∈ns,n.natAbs.log2 < 1920)→PyData.showableAll (ns.map PyData.int) = true
 | [],_=>rfl
 | n :: ns,h=>by
  show (decide (n.natAbs.log2 < 1920) && PyData.showableAll (ns.map PyData.int)) = true
  rw [decide_eq_true (h n List.mem_cons_self),ints_showable fun m hm=>h m (List.mem_cons_of_mem _ hm)]
  rfl
theorem ints_noDict:∀ ns:List Int,PyData.hasDictAll (ns.map PyData.int) = false
 | []=>rfl
 | n :: ns=>by show (false || PyData.hasDictAll (ns.map PyData.int)) = false;rw [ints_noDict ns];rfl
theorem ints_depth:∀ ns:List Int,PyData.depthAll (ns.map PyData.int) = 0
 | []=>rfl
 | n :: ns=>by show max 0 (PyData.depthAll (ns.map PyData.int)) = 0;rw [ints_depth ns];rfl
theorem ints_shown:∀ {ns:List Int},(∀ n∈ns,n.natAbs.log2 < 1920)→(PyData.shownAll (ns.map PyData.int)).length = ns.length∧((PyData.shownAll (ns.map PyData.int)).map (·.length)).sum≤1921 * ns.length
 | [],_=>⟨rfl,Nat.le_refl _⟩
 | n :: ns,h=>by
  obtain ⟨e1,e2⟩:=ints_shown (ns:=ns) fun m hm=>h m (List.mem_cons_of_mem _ hm)
  have l1:=int_text_length_le (k:=1920) (by decide) (h n List.mem_cons_self)
  refine ⟨by show (PyData.shownAll (ns.map PyData.int)).length + 1 = ns.length + 1;rw [e1],?_⟩
  show (Str.ofString (toString n)).length + ((PyData.shownAll (ns.map PyData.int)).map (·.length)).sum≤1921 * (ns.length + 1)
  rw [PySem.ofString_length]
  omega
end L2

namespace L2
open PySem PySem.Spec PyProof.Rows
theorem bb_max:bootBuiltins "max" = some (.builtin "max"):=by decide +kernel
noncomputable def PSX (X:Cx) (b:List Stmt) (t:XK→TS):Prop :=
 ∀ (E:XK) (pins:List (Addr×Obj)) (s:Shared) (σ:St) (H:Hp) (D:Ends),Inv X pins σ H s→t E D σ H →
  wpAny (model X.prog X.w) X.A (execs b X.env) (SP X pins D) (fun e s'=>∃ H1 s1,Inv X pins σ H1 s1∧CXo X.prog X.w X.stack H1 s1 E e s') s
theorem psx_if {X:Cx} {c:Expr} {a b:List Stmt} {pos:Pos} {tc:TT} {ta tb:XK→TS} (hc:PT X.nox c tc) (ha:PSX X a ta) (hb:PSX X b tb):PSX X [.If c a b pos] (fun E=>tIfS tc (ta E) (tb E)):=fun E pins s σ H D I h=>by
 refine wpAny_execs_cons (wpAny_If (quietX (hc pins s σ H _ (I.wish _) h) fun d s1 ⟨H1,I1,q1⟩=>?_))
 have go:∀ {b':List Stmt} {t':XK→TS},PSX X b' t'→t' E D σ H1→wpAny (model X.prog X.w) X.A (execs b' X.env) (fun f s1=>match f with | .next=>wpAny (model X.prog X.w) X.A (execs [] X.env) (SP X pins D) (fun e s'=>∃ H1 s1,Inv X pins σ H1 s1∧CXo X.prog X.w X.stack H1 s1 E e s') s1 | f=>SP X pins D f s1) (fun e s'=>∃ H1 s1,Inv X pins σ H1 s1∧CXo X.prog X.w X.stack H1 s1 E e s') s1:=fun {b' t'} hb' ht=>by
  refine wpAny_mono (hb' E pins s1 σ H1 D I1.unwish ht) (fun f s2 q=>?_) fun _ _ x=>x
  cases f with
  | next=>exact wpAny_execs_nil q
  | ret v=>exact q
  | brk=>exact q
  | cont=>exact q
 cases d with
 | true=>exact go ha q1
 | false=>exact go hb q1
section
variable {X:Cx}
noncomputable def jTup (te:TE) (t:St→Hp→Prop):St→Hp→Prop:=fun σ H=>te σ H fun v H'=>H' = H∧(∃ (l:Addr) (ns:List Int),v = .ref l∧H l = some (.tup (ns.map V.int))∧ns.length≤100∧∀ n∈ns,n.natAbs.log2 < 1920)∧t σ H
theorem pj_tup {a:Expr} {pos:Pos} {es:List Expr} {m:Nat} {t:St→Hp→Prop} {te:TE} (hg:X.A.guards = some []) (hu:X.A.units + 3 < cLine) (ha:PE X a te) (h:PJ X es m t):PJ X (.FormattedValue a (-1) none pos :: es) (200000 + m) (jTup te t):=fun pins s σ H out Q I ht hz q=>by
 show wpAny _ _ (joinParts out (eval (.FormattedValue a (-1) none pos) X.env :: evalEach es X.env)) Q _ s
 refine joinParts_cons (FormattedValue_plain (thn (ha pins s σ H _ I ht) fun u s1 h1=>?_))
 obtain ⟨v,H1,I1,r,rfl,⟨l,ns,rfl,hl,hn,hsm⟩,ht1⟩:=h1
 cases r
 obtain ⟨z2,its,rv,⟨o,e,hc,n,hd⟩⟩:=I1.hok l _ hl
 have rd:Reads s1.heap (.ref l) (.tuple (ns.map PyData.int)) []:=Reads.tuple (as:=[]) e hc hd (reads_ints rv)
 obtain ⟨e1,e2⟩:=ints_shown hsm
 have l1:=tupleText_len_le (PyData.shownAll (ns.map PyData.int))
 have l2:(PyData.shown (.tuple (ns.map PyData.int))).length≤200000:=by
  show (tupleText (PyData.shownAll (ns.map PyData.int))).length≤200000
  omega
 have sz:=sizeLine_eq
 have dep:(PyData.tuple (ns.map PyData.int)).depth = 1:=by
  show PyData.depthAll (ns.map PyData.int) + 1 = 1
  rw [ints_depth]
 refine formatField_of_reads rd (ints_showable hsm) (PyData.noDict_hsm (ints_noDict ns)) hg (by rw [dep];exact hu) (fun _ _ e=>e) (fun h' u tk hk=>?_) (by rw [sz];omega)
 have e3:(out ++ PyData.shown (.tuple (ns.map PyData.int))).length = out.length + (PyData.shown (.tuple (ns.map PyData.int))).length:=strLen_append _ _
 exact ⟨by rw [e3];omega,h pins _ σ H1 _ Q (I1.kept (t':=tk) hk) ht1 (by rw [e3];omega) q⟩
end
end L2
namespace L2
open PySem PySem.Spec PyProof.Rows
section
variable {X:Cx} {a b c d:Expr} {ta tb tc td:TE} {pos:Pos}
noncomputable def tChain3 (r r' r3:R2) (ta tb tc td:TE):TE:=fun σ H Q=>ta σ H fun x H1=>tb σ H1 fun y H2=>r x y H2 fun z H3=>∃ k,z = .bl k ∧
 (if k = true then tc σ H3 fun y' H4=>r' y y' H4 fun z' H5=>∃ k',z' = .bl k'∧(if k' = true then td σ H5 fun x' H6=>r3 y' x' H6 Q else Q (.bl false) H5) else Q (.bl false) H3)
theorem pt_chain3 {op op' op3:CmpOp} {r r' r3:R2} (ho:OpR X (compareOp op) r) (ho':OpR X (compareOp op') r') (ho3:OpR X (compareOp op3) r3) (ha:PE X a ta) (hb:PE X b tb) (hc:PE X c tc) (hd:PE X d td)
  (hm:lastMarks [op,op',op3] [b,c,d] = false:=by with_unfolding_all rfl):PT X (.Compare a [op,op',op3] [b,c,d] pos) (tTest (tChain3 r r' r3 ta tb tc td)):=by
 intro pins s σ H Q I h
 refine isTrue_chain (thn (ha pins s σ H _ I h) fun v s1 ⟨x,H1,I1,r1,q1⟩=>test_link (thn (hb pins s1 σ H1 _ I1 q1) fun u s2 ⟨y,H2,I2,r2,q2⟩ =>
  thn (ho pins s2 σ H2 x y v u _ I2 r1 r2 q2) fun d s3 ⟨z,H3,I3,r3,k,e,q3⟩=>?_)) hm
 subst e
 cases r3
 refine wpAny_truthy_bool ?_
 cases k with
 | false =>
  obtain ⟨k',e',q'⟩:=q3
  cases e'
  exact ite_ff ⟨H3,I3,q'⟩
 | true =>
  refine ite_tt (test_link (thn (hc pins s3 σ H3 _ I3 q3) fun w' s4 ⟨z',H4,I4,r4,q4⟩=>thn (ho' pins s4 σ H4 y z' u w' _ I4 r2 r4 q4) fun d' s5 ⟨z2,H5,I5,r5,k2,e2,q5⟩=>?_))
  subst e2
  cases r5
  refine wpAny_truthy_bool ?_
  cases k2 with
  | false =>
   obtain ⟨k',e',q'⟩:=q5
   cases e'
   exact ite_ff ⟨H5,I5,q'⟩
  | true =>
   refine ite_tt (test_last (thn (hd pins s5 σ H5 _ I5 q5) fun x5 s6 ⟨z5,H6,I6,r6,q6⟩=>thn (ho3 pins s6 σ H6 z' z5 w' x5 _ I6 r4 r6 q6) fun d3 s7 ⟨z7,H7,I7,r7,k7,e7,q7⟩=>?_))
   subst e7
   cases r7
   exact wpAny_truthy_bool ⟨H7,I7,q7⟩
end
end L2

namespace L2
open PySem PySem.Spec PyProof.Rows
section
variable {X:Cx}
theorem tup_items {s:Shared} {A:Around} {ns ms:List Int} {i1 i2:List Value} (r1:Vals (ns.map V.int) i1) (r2:Vals (ms.map V.int) i2) (j:Nat) (h1:j < i1.toArray.size) (h2:j < i2.toArray.size) :
  SeqAt.EqAt A.in1 s i1.toArray[j] i2.toArray[j] (ns.getD j 0 == ms.getD j 0):=by
 have l1:ns.length = i1.length:=by have z:=r1.length;rwa [List.length_map] at z
 have l2:ms.length = i2.length:=by have z:=r2.length;rwa [List.length_map] at z
 have hj:j < ns.length:=by simp only [List.size_toArray] at h1;omega
 have hj2:j < ms.length:=by simp only [List.size_toArray] at h2;omega
 obtain ⟨x1,e1,t1⟩:=vals_at r1 h1
 obtain ⟨x2,e2,t2⟩:=vals_at r2 h2
 rw [List.getElem?_map,List.getElem?_eq_getElem hj] at e1
 rw [List.getElem?_map,List.getElem?_eq_getElem hj2] at e2
 obtain rfl:=Option.some.inj e1
 obtain rfl:=Option.some.inj e2
 obtain ⟨k1,q1⟩:=t1
 obtain ⟨k2,q2⟩:=t2
 rw [q1,q2]
 have g1:ns.getD j 0 = ns[j]:=by simp [List.getD,List.getElem?_eq_getElem hj]
 have g2:ms.getD j 0 = ms[j]:=by simp [List.getD,List.getElem?_eq_getElem hj2]
 rw [g1,g2]
 exact SeqAt.EqAt.int_int (A:=A.in1) (s:=s) ns[j] k1 ms[j] k2
theorem tup_answer {ns ms:List Int} {i1 i2:List Value} (r1:Vals (ns.map V.int) i1) (r2:Vals (ms.map V.int) i2) :
  ((List.range (min i1.toArray.size i2.toArray.size)).all (fun j=>ns.getD j 0 == ms.getD j 0) && i1.toArray.size == i2.toArray.size) = decide (ns = ms):=by
 have l1:ns.length = i1.length:=by have z:=r1.length;rwa [List.length_map] at z
 have l2:ms.length = i2.length:=by have z:=r2.length;rwa [List.length_map] at z
 by_cases c:ns = ms
 ·subst c
  rw [decide_eq_true rfl,Bool.and_eq_true]
  exact ⟨List.all_eq_true.mpr fun _ _=>beq_self_eq_true _,by simp only [List.size_toArray,← l1,← l2];exact beq_self_eq_true _⟩
 ·rw [decide_eq_false c]
  refine Bool.eq_false_iff.mpr fun z=>c ?_
  rw [Bool.and_eq_true] at z
  have hl:ns.length = ms.length:=by have z2:=eq_of_beq z.2;simp only [List.size_toArray] at z2;omega
  refine List.ext_getElem hl fun j q1 q2=>?_
  have z2:=List.all_eq_true.mp z.1 j (List.mem_range.mpr (by simp only [List.size_toArray];omega))
  have g1:ns.getD j 0 = ns[j]:=by simp [List.getD,List.getElem?_eq_getElem q1]
  have g2:ms.getD j 0 = ms[j]:=by simp [List.getD,List.getElem?_eq_getElem q2]
  rw [← g1,← g2]
  exact eq_of_beq z2
theorem eqAt_tupD {pins:List (Addr×Obj)} {σ:St} {H:Hp} {s:Shared} {A:Around} {t u:Addr} {ns ms:List Int} (I:Inv X pins σ H s) (hu:A.units < cLine) (ht:SqT X.K H t (ns.map V.int)) (hw:SqT X.K H u (ms.map V.int)):SeqAt.EqAt A s (.ref t) (.ref u) (decide (ns = ms)):=by
 obtain ⟨i1,r1,p1,z1⟩:=I.tuple ht
 obtain ⟨i2,r2,p2,z2⟩:=I.tuple hw
 by_cases e:t = u
 ·subst e
  have ee:i1 = i2:=by
   obtain ⟨o1,e1,d1,n1,f1⟩:=p1
   obtain ⟨o2,e2,d2,n2,f2⟩:=p2
   rw [e1] at e2;cases e2
   rw [f1] at f2
   injection f2 with f3 _
   simpa using congrArg Array.toList f3
  subst ee
  have en:ns = ms:=by
   have l1:ns.length = i1.length:=by have z:=r1.length;rwa [List.length_map] at z
   have l2:ms.length = i1.length:=by have z:=r2.length;rwa [List.length_map] at z
   refine List.ext_getElem (by omega) fun j q1 q2=>?_
   have a1:(ns.map V.int)[j]? = some (.int ns[j]):=by rw [List.getElem?_map,List.getElem?_eq_getElem q1];rfl
   have a2:(ms.map V.int)[j]? = some (.int ms[j]):=by rw [List.getElem?_map,List.getElem?_eq_getElem q2];rfl
   obtain ⟨u1,e1,t1,rfl⟩:=r1.get a1
   obtain ⟨u2,e2,t2,rfl⟩:=r2.get a2
   rw [e1] at e2
   injection e2 with e2
   injection e2
  rw [decide_eq_true en]
  exact SeqAt.EqAt.same _
 ·have z:=SeqAt.RcAt.tuples (e:=fun j=>ns.getD j 0 == ms.getD j 0) (show s.heap.IsTuple t i1.toArray from p1) (show s.heap.IsTuple u i2.toArray from p2) hu fun j h1 h2=>tup_items r1 r2 j h1 h2
  rw [tup_answer r1 r2] at z
  exact SeqAt.EqAt.of_refs e z
noncomputable def rTupD (K:PySem.W.Frag) (neg:Bool):R2:=fun x y H Q=>∃ (a b:Addr) (ns ms:List Int),x = .ref a∧y = .ref b∧SqT K H a (ns.map V.int)∧SqT K H b (ms.map V.int)∧Q (.bl (if neg then !decide (ns = ms) else decide (ns = ms))) H
theorem op_eq_tupD (hu:X.A.units < cLine):OpR X (compareOp .Eq) (rTupD X.K false):=by
 intro pins s σ H x y v u Q I rx ry h
 obtain ⟨a,b,ns,ms,rfl,rfl,ha,hb,q⟩:=h
 cases rx
 cases ry
 obtain ⟨i1,r1,p1,z1⟩:=I.tuple ha
 obtain ⟨i2,r2,p2,z2⟩:=I.tuple hb
 refine SeqAt.eq_tupleAt (e:=fun j=>ns.getD j 0 == ms.getD j 0) (show s.heap.IsTuple a i1.toArray from p1) (show s.heap.IsTuple b i2.toArray from p2) hu (fun j h1 h2=>tup_items r1 r2 j h1 h2) ⟨.bl (decide (ns = ms)),H,I,?_,q⟩
 show Value.bool _ = Value.bool _
 congr 1
 exact tup_answer r1 r2
theorem op_ne_tupD (hu:X.A.units < cLine):OpR X (compareOp .NotEq) (rTupD X.K true):=by
 intro pins s σ H x y v u Q I rx ry h
 obtain ⟨a,b,ns,ms,rfl,rfl,ha,hb,q⟩:=h
 cases rx
 cases ry
 obtain ⟨i1,r1,p1,z1⟩:=I.tuple ha
 obtain ⟨i2,r2,p2,z2⟩:=I.tuple hb
 refine SeqAt.RcNeAt.tuples (A:=X.A) (e:=fun j=>ns.getD j 0 == ms.getD j 0) (show s.heap.IsTuple a i1.toArray from p1) (show s.heap.IsTuple b i2.toArray from p2) hu (fun j h1 h2=>tup_items r1 r2 j h1 h2) X.prog X.w X.xe _ ⟨.bl (!decide (ns = ms)),H,I,?_,q⟩
 show Value.bool _ = Value.bool _
 congr 1
 rw [tup_answer r1 r2]
end
end L2




namespace Mir
open PySem L2

noncomputable def farI (e:Int):Int:=if e % 2 = 0 then e + 1 else e - 1
theorem and_one {e:Int} (h:0≤e):Builtin.bitAnd e 1 = e % 2:=by
 unfold Builtin.bitAnd
 rw [decide_eq_true h,decide_eq_true (show (0:Int)≤1 by decide)]
 show ((e.toNat &&& (1:Int).toNat:Nat):Int) = e % 2
 have e1:e.toNat &&& (1:Int).toNat = e.toNat % 2:=Nat.and_one_is_mod _
 rw [e1]
 omega
theorem xor_one {e:Int} (h:0≤e):Builtin.bitXor e 1 = farI e:=by
 rw [PyProof.Rows.bitXor_and,and_one h]
 unfold farI
 split <;> omega

theorem take_snoc {α:Type} {l:List α} {i:Nat} {x:α} (h:l[i]? = some x):l.take (i + 1) = l.take i ++ [x]:=by
 rw [List.take_add_one,h];rfl
noncomputable def spFar:Sp:=fun vs H Q _=>∃ e:Int,vs = [.int e]∧0≤e∧Q (.int (farI e)) H
end Mir

namespace Ch
noncomputable def far (x:Nat):Nat:=if x % 2 = 0 then x + 1 else x - 1
theorem far_far (x:Nat):far (far x) = x:=by unfold far;split <;> split <;> omega
theorem far_ne (x:Nat):far x≠x:=by unfold far;split <;> omega
theorem far_half (x:Nat):far x / 2 = x / 2:=by unfold far;split <;> omega
theorem far_lt {x n:Nat} (h:x < 2 * n):far x < 2 * n:=by unfold far;split <;> omega
theorem far_inj {x y:Nat} (h:far x = far y):x = y:=by rw [← far_far x,← far_far y,h]
theorem half_eq {x y:Nat} (h:x / 2 = y / 2):x = y∨x = far y:=by unfold far;split <;> omega
structure Work (n:Nat) (M:Nat→Nat):Prop where
 lt:∀ x,x < 2 * n→M x < 2 * n
 inv:∀ x,x < 2 * n→M (M x) = x
section
variable {n:Nat} {M:Nat→Nat}
structure Steps (n:Nat) (M:Nat→Nat) (s:Nat) (xs:List Nat):Prop where
 hd:xs[0]? = some s
 step:∀ (i x y:Nat),xs[i]? = some x→xs[i + 1]? = some y→y = M (far x)∧y≠far x∧y≠s
 lt:∀ x∈xs,x < 2 * n
theorem Steps.one {s:Nat} (h:s < 2 * n):Steps n M s [s]:=by
 refine ⟨rfl,fun i x y h1 h2=>?_,fun x hx=>?_⟩
 ·cases i <;> simp at h2
 ·simp at hx;subst hx;exact h
theorem Steps.snoc {s x:Nat} {xs:List Nat} (W:Work n M) (S:Steps n M s (xs ++ [x])) (h1:M (far x)≠far x) (h2:M (far x)≠s):Steps n M s (xs ++ [x] ++ [M (far x)]):=by
 refine ⟨?_,fun i a b ha hb=>?_,fun y hy=>?_⟩
 ·rw [List.getElem?_append_left (by simp)];exact S.hd
 ·by_cases hi:i + 1 < (xs ++ [x]).length
  ·rw [List.getElem?_append_left (by omega)] at ha
   rw [List.getElem?_append_left hi] at hb
   exact S.step i a b ha hb
  ·have hl:(xs ++ [x] ++ [M (far x)]).length = xs.length + 2:=by simp
   have hlt:i + 1 < (xs ++ [x] ++ [M (far x)]).length:=(List.getElem?_eq_some_iff.mp hb).1
   have hl2:(xs ++ [x]).length = xs.length + 1:=by simp
   have e:i = xs.length:=by omega
   subst e
   have e1:a = x:=by
    rw [List.getElem?_append_left (by omega),List.getElem?_append_right (by omega)] at ha
    simpa using ha.symm
   have e2:b = M (far x):=by
    rw [List.getElem?_append_right (by omega)] at hb
    simpa using hb.symm
   subst e1 e2
   exact ⟨rfl,h1,h2⟩
 ·rcases List.mem_append.mp hy with hy | hy
  ·exact S.lt y hy
  ·simp at hy
   subst hy
   exact W.lt _ (far_lt (S.lt x (by simp)))
theorem Steps.back {s:Nat} {xs:List Nat} (W:Work n M) (S:Steps n M s xs) {i x y:Nat} (h1:xs[i]? = some x) (h2:xs[i + 1]? = some y):M y = far x:=by
 obtain ⟨e,_,_⟩:=S.step i x y h1 h2
 rw [e]
 exact W.inv _ (far_lt (S.lt x (List.mem_of_getElem? h1)))
theorem Steps.apart {s:Nat} {xs:List Nat} (W:Work n M) (S:Steps n M s xs):∀ (i d x y:Nat),xs[i]? = some x→xs[i + d + 1]? = some y→x≠y
 | 0,d,x,y,h1,h2=>by
  rw [S.hd] at h1
  cases h1
  have hl:0 + d + 1 < xs.length:=(List.getElem?_eq_some_iff.mp h2).1
  obtain ⟨z,hz⟩:∃ z,xs[0 + d]? = some z:=⟨xs[0 + d]'(by omega),List.getElem?_eq_getElem (by omega)⟩
  exact fun e=>(S.step (0 + d) z y hz h2).2.2 e.symm
 | i + 1,d,x,y,h1,h2=>by
  have hl:i + 1 + d + 1 < xs.length:=(List.getElem?_eq_some_iff.mp h2).1
  obtain ⟨u,hu⟩:∃ z,xs[i]? = some z:=⟨xs[i]'(by omega),List.getElem?_eq_getElem (by omega)⟩
  obtain ⟨v,hv⟩:∃ z,xs[i + d + 1]? = some z:=⟨xs[i + d + 1]'(by omega),List.getElem?_eq_getElem (by omega)⟩
  have ih:=Steps.apart W S i d u v hu hv
  intro e
  subst e
  have e1:=S.back W hu h1
  have e2:=S.back W hv (by rw [show i + d + 1 + 1 = i + 1 + d + 1 by omega];exact h2)
  exact ih (far_inj (e1.symm.trans e2))
theorem Steps.apartF {s:Nat} {xs:List Nat} (W:Work n M) (S:Steps n M s xs):∀ (k d i x y:Nat),d≤k→xs[i]? = some x→xs[i + d]? = some y→x≠far y
 | 0,d,i,x,y,hd,h1,h2=>by
  have e:d = 0:=by omega
  subst e
  rw [Nat.add_zero,h1] at h2
  cases h2
  exact fun e=>far_ne x e.symm
 | k + 1,d,i,x,y,hd,h1,h2=>by
  match d,hd,h2 with
  | 0,_,h2 =>
   rw [Nat.add_zero,h1] at h2
   cases h2
   exact fun e=>far_ne x e.symm
  | 1,_,h2 =>
   obtain ⟨e,h3,_⟩:=S.step i x y h1 h2
   intro z
   exact h3 (by rw [z,far_far])
  | d + 2,hd,h2 =>
   have hl:i + (d + 2) < xs.length:=(List.getElem?_eq_some_iff.mp h2).1
   obtain ⟨u,hu⟩:∃ z,xs[i + 1]? = some z:=⟨xs[i + 1]'(by omega),List.getElem?_eq_getElem (by omega)⟩
   obtain ⟨v,hv⟩:∃ z,xs[i + 1 + d]? = some z:=⟨xs[i + 1 + d]'(by omega),List.getElem?_eq_getElem (by omega)⟩
   have ih:=Steps.apartF W S k d (i + 1) u v (by omega) hu hv
   intro z
   have e1:=(S.step i x u h1 hu).1
   have e2:=S.back W hv (by rw [show i + 1 + d + 1 = i + (d + 2) by omega];exact h2)
   apply ih
   rw [e1,z,far_far,e2]
theorem Steps.nodup {s:Nat} {xs:List Nat} (W:Work n M) (S:Steps n M s xs):(xs.map (· / 2)).Nodup:=by
 rw [List.nodup_iff_pairwise_ne,List.pairwise_iff_getElem]
 intro i j hi hj hij e
 rw [List.length_map] at hi hj
 rw [List.getElem_map,List.getElem_map] at e
 have h1:xs[i]? = some xs[i]:=List.getElem?_eq_getElem hi
 have h2:xs[j]? = some xs[j]:=List.getElem?_eq_getElem hj
 rcases half_eq e with e | e
 ·exact S.apart W i (j - i - 1) _ _ h1 (by rw [show i + (j - i - 1) + 1 = j by omega];exact h2) e
 ·exact S.apartF W (j - i) (j - i) i _ _ (Nat.le_refl _) h1 (by rw [show i + (j - i) = j by omega];exact h2) e
theorem nodup_len:∀ (m:Nat) {es:List Nat},(∀ e∈es,e < m)→es.Nodup→es.length≤m
 | 0,es,h,_=>by
  cases es with
  | nil=>exact Nat.le_refl _
  | cons a r=>exact absurd (h a List.mem_cons_self) (by omega)
 | m + 1,es,h,nd=>by
  by_cases hm:m∈es
  ·have nd2:(es.erase m).Nodup:=nd.erase _
   have h2:∀ e∈es.erase m,e < m:=fun e he=>by
    obtain ⟨h1,h3⟩:=(List.Nodup.mem_erase_iff nd).mp he
    have:=h e h3
    omega
   have z:=nodup_len m h2 nd2
   rw [List.length_erase_of_mem hm] at z
   omega
  ·have h2:∀ e∈es,e < m:=fun e he=>by
    have h1:=h e he
    have:e≠m:=fun z=>hm (z ▸ he)
    omega
   have z:=nodup_len m h2 nd
   omega
theorem Steps.len {s:Nat} {xs:List Nat} (W:Work n M) (S:Steps n M s xs):xs.length≤n:=by
 have z:=nodup_len n (es:=xs.map (· / 2)) (fun e he=>by
  obtain ⟨x,hx,rfl⟩:=List.mem_map.mp he
  have:=S.lt x hx
  omega) (S.nodup W)
 rwa [List.length_map] at z

noncomputable def goF (M:Nat→Nat) (s:Nat):Nat→Nat→List Nat
 | 0,_=>[]
 | k + 1,lv=>if M lv≠lv∧M lv≠s then M lv :: goF M s k (far (M lv)) else []
noncomputable def walk (n:Nat) (M:Nat→Nat) (s:Nat):List Nat:=s :: goF M s n (far s)
theorem goF_stop {s k lv:Nat} (h:¬ (M lv≠lv∧M lv≠s)):goF M s k lv = []:=by
 cases k with
 | zero=>rfl
 | succ k=>show (if M lv≠lv∧M lv≠s then _ else _) = _;rw [if_neg h]
structure Full (n:Nat) (M:Nat→Nat) (s:Nat) (xs:List Nat):Prop where
 st:Steps n M s xs
 ne:xs≠[]
 stop:∀ x,xs.getLast? = some x→¬ (M (far x)≠far x∧M (far x)≠s)
theorem goF_full {s:Nat} (W:Work n M):∀ (k:Nat) (xs:List Nat) (x:Nat),Steps n M s (xs ++ [x])→n≤(xs ++ [x]).length + k→Full n M s (xs ++ [x] ++ goF M s k (far x))
 | 0,xs,x,S,h=>by
  have e:goF M s 0 (far x) = []:=rfl
  rw [e,List.append_nil]
  refine ⟨S,by simp,fun y hy=>?_⟩
  have hy:x = y:=by simpa using hy
  subst hy
  rintro ⟨h1,h2⟩
  have z:=(S.snoc W h1 h2).len W
  rw [List.length_append] at z
  have:[M (far x)].length = 1:=rfl
  omega
 | k + 1,xs,x,S,h=>by
  show Full n M s (xs ++ [x] ++ (if M (far x)≠far x∧M (far x)≠s then M (far x) :: goF M s k (far (M (far x))) else []))
  by_cases c:M (far x)≠far x∧M (far x)≠s
  ·rw [if_pos c]
   have ih:=goF_full W k (xs ++ [x]) (M (far x)) (S.snoc W c.1 c.2) (by simp at h ⊢;omega)
   rw [List.append_assoc (xs ++ [x]) [M (far x)]] at ih
   exact ih
  ·rw [if_neg c,List.append_nil]
   refine ⟨S,by simp,fun y hy=>?_⟩
   have hy:x = y:=by simpa using hy
   subst hy
   exact c
theorem walk_full (W:Work n M) {s:Nat} (h:s < 2 * n):Full n M s (walk n M s):=goF_full (s:=s) W n [] s (Steps.one h) (by simp)
noncomputable def Ends (xs:List Nat) (e:Nat):Prop:=∃ x∈xs,e = x∨e = far x
theorem ends_stave {xs:List Nat} {e:Nat}:Ends xs e↔e / 2∈xs.map (· / 2):=by
 constructor
 ·rintro ⟨x,hx,rfl | rfl⟩
  ·exact List.mem_map.mpr ⟨e,hx,rfl⟩
  ·exact List.mem_map.mpr ⟨x,hx,(far_half x).symm⟩
 ·intro h
  obtain ⟨x,hx,e1⟩:=List.mem_map.mp h
  refine ⟨x,hx,?_⟩
  rcases half_eq e1.symm with z | z
  ·exact .inl z
  ·exact .inr z
structure Shut (n:Nat) (M:Nat→Nat) (C:Nat→Prop):Prop where
 far:∀ e,C e→C (far e)
 mate:∀ e,e < 2 * n→C e→C (M e)
theorem Ends.far {xs:List Nat} {e:Nat} (h:Ends xs e):Ends xs (Ch.far e):=by
 obtain ⟨x,hx,rfl | rfl⟩:=h
 ·exact ⟨e,hx,.inr rfl⟩
 ·exact ⟨x,hx,.inl (far_far x)⟩
theorem Steps.all {s:Nat} {xs:List Nat} {C:Nat→Prop} (W:Work n M) (S:Steps n M s xs) (hC:Shut n M C) {z:Nat} (hz:Ends xs z) (cz:C z):∀ e,Ends xs e→C e:=by
 have at':∀ (i x:Nat),xs[i]? = some x→(C x↔C s):=by
  intro i
  induction i with
  | zero=>intro x h;rw [S.hd] at h;cases h;exact Iff.rfl
  | succ i ih =>
   intro x h
   have hl:i + 1 < xs.length:=(List.getElem?_eq_some_iff.mp h).1
   obtain ⟨u,hu⟩:∃ z,xs[i]? = some z:=⟨xs[i]'(by omega),List.getElem?_eq_getElem (by omega)⟩
   rw [← ih u hu]
   constructor
   ·intro c
    have:=hC.mate x (S.lt x (List.mem_of_getElem? h)) c
    rw [S.back W hu h] at this
    have:=hC.far _ this
    rwa [far_far] at this
   ·intro c
    have:=hC.mate _ (far_lt (S.lt u (List.mem_of_getElem? hu))) (hC.far _ c)
    rwa [← (S.step i u x hu h).1] at this
 have cs:C s:=by
  obtain ⟨x,hx,e⟩:=hz
  obtain ⟨i,hi⟩:=List.mem_iff_getElem?.mp hx
  refine (at' i x hi).mp ?_
  rcases e with e | e
  ·rw [← e];exact cz
  ·have:=hC.far _ cz
   rwa [e,far_far] at this
 rintro e ⟨x,hx,he⟩
 obtain ⟨i,hi⟩:=List.mem_iff_getElem?.mp hx
 have cx:=(at' i x hi).mpr cs
 rcases he with rfl | rfl
 ·exact cx
 ·exact hC.far _ cx
theorem Full.last {s:Nat} {xs:List Nat} (F:Full n M s xs):∃ x,xs.getLast? = some x∧xs[xs.length - 1]? = some x∧x∈xs:=by
 obtain ⟨x,hx⟩:∃ x,xs.getLast? = some x:=by
  cases h:xs.getLast? with
  | none=>exact absurd (List.getLast?_eq_none_iff.mp h) F.ne
  | some x=>exact ⟨x,rfl⟩
 refine ⟨x,hx,?_,?_⟩
 ·rw [← List.getLast?_eq_getElem?];exact hx
 ·exact List.mem_of_getLast? hx
theorem Full.shut {s:Nat} {xs:List Nat} (W:Work n M) (F:Full n M s xs) (h:M s = s∨∃ x,xs.getLast? = some x∧M (far x) = s):Shut n M (Ends xs):=by
 refine ⟨fun e he=>he.far,fun e hlt he=>?_⟩
 obtain ⟨x,hx,hx1,hx2⟩:=F.last
 have hne:0 < xs.length:=by
  have:=F.ne
  cases xs with
  | nil=>exact absurd rfl this
  | cons _ _=>simp
 have hs:s∈xs:=List.mem_of_getElem? F.st.hd
 obtain ⟨y,hy,e1⟩:=he
 obtain ⟨i,hi⟩:=List.mem_iff_getElem?.mp hy
 have hil:i < xs.length:=(List.getElem?_eq_some_iff.mp hi).1
 rcases e1 with rfl | rfl
 ·-- the end by which the stave is come into
  cases i with
  | zero =>
   rw [F.st.hd] at hi
   cases hi
   rcases h with h | ⟨x',hx',h⟩
   ·rw [h];exact ⟨_,hs,.inl rfl⟩
   ·rw [hx] at hx';cases hx'
    have e2:M (M (far x)) = far x:=W.inv _ (far_lt (F.st.lt x hx2))
    rw [h] at e2
    rw [e2]
    exact ⟨x,hx2,.inr rfl⟩
  | succ i =>
   obtain ⟨u,hu⟩:∃ z,xs[i]? = some z:=⟨xs[i]'(by omega),List.getElem?_eq_getElem (by omega)⟩
   rw [F.st.back W hu hi]
   exact ⟨u,List.mem_of_getElem? hu,.inr rfl⟩
 ·-- the other one
  by_cases hl:i + 1 < xs.length
  ·obtain ⟨u,hu⟩:∃ z,xs[i + 1]? = some z:=⟨xs[i + 1]'hl,List.getElem?_eq_getElem hl⟩
   rw [← (F.st.step i y u hi hu).1]
   exact ⟨u,List.mem_of_getElem? hu,.inl rfl⟩
  ·have e2:i = xs.length - 1:=by omega
   rw [e2,hx1] at hi
   cases hi
   by_cases c:M (far x) = far x
   ·rw [c];exact ⟨x,hx2,.inr rfl⟩
   ·by_cases c2:M (far x) = s
    ·rw [c2];exact ⟨s,hs,.inl rfl⟩
    ·exact absurd ⟨c,c2⟩ (F.stop x hx)
noncomputable def lastFar (xs:List Nat):Nat:=far (xs.getLast?.getD 0)
theorem Full.lastFar_eq {s:Nat} {xs:List Nat} (F:Full n M s xs):∃ x,xs.getLast? = some x∧lastFar xs = far x∧x∈xs:=by
 obtain ⟨x,hx,_,h2⟩:=F.last
 exact ⟨x,hx,by unfold lastFar;rw [hx];rfl,h2⟩
theorem row_ends (W:Work n M) {s:Nat} {xs:List Nat} (F:Full n M s xs) (hs:M s = s):M (lastFar xs) = lastFar xs∧lastFar xs≠s∧lastFar xs < 2 * n:=by
 obtain ⟨x,hx,e,hm⟩:=F.lastFar_eq
 have hlt:=far_lt (F.st.lt x hm)
 have hs0:s∈xs:=List.mem_of_getElem? F.st.hd
 have hne:far x≠s:=by
  obtain ⟨_,hx',hx1,_⟩:=F.last
  rw [hx] at hx';cases hx'
  have hpos:0 < xs.length:=by
   have:=F.ne
   cases xs with
   | nil=>exact absurd rfl this
   | cons _ _=>simp
  intro z
  exact F.st.apartF W (xs.length - 1) (xs.length - 1) 0 s x (Nat.le_refl _) F.st.hd (by rw [Nat.zero_add];exact hx1) z.symm
 rw [e]
 refine ⟨?_,hne,hlt⟩
 by_cases c:M (far x) = far x
 ·exact c
 ·by_cases c2:M (far x) = s
  ·have z:=W.inv _ hlt
   rw [c2,hs] at z
   exact absurd z.symm hne
  ·exact absurd ⟨c,c2⟩ (F.stop x hx)
theorem row_loose (W:Work n M) {s:Nat} {xs:List Nat} (F:Full n M s xs) {e:Nat} (he:Ends xs e) (hl:M e = e):e = s∨e = lastFar xs:=by
 obtain ⟨x,hx,hx1,hx2⟩:=F.last
 have elf:lastFar xs = far x:=by unfold lastFar;rw [hx];rfl
 obtain ⟨y,hy,e1⟩:=he
 obtain ⟨i,hi⟩:=List.mem_iff_getElem?.mp hy
 have hil:i < xs.length:=(List.getElem?_eq_some_iff.mp hi).1
 rcases e1 with rfl | rfl
 ·cases i with
  | zero=>rw [F.st.hd] at hi;cases hi;exact .inl rfl
  | succ i =>
   obtain ⟨u,hu⟩:∃ z,xs[i]? = some z:=⟨xs[i]'(by omega),List.getElem?_eq_getElem (by omega)⟩
   have e2:=F.st.back W hu hi
   exact absurd (hl.symm.trans e2) (F.st.step i u e hu hi).2.1
 ·by_cases h1:i + 1 < xs.length
  ·obtain ⟨u,hu⟩:∃ z,xs[i + 1]? = some z:=⟨xs[i + 1]'h1,List.getElem?_eq_getElem h1⟩
   obtain ⟨e2,e3,_⟩:=F.st.step i y u hi hu
   exact absurd (e2.trans hl) e3
  ·have e2:i = xs.length - 1:=by omega
   rw [e2,hx1] at hi
   cases hi
   exact .inr elf.symm

noncomputable def looseL (n:Nat) (M:Nat→Nat):List Nat:=(List.range (2 * n)).filter fun e=>e == M e
noncomputable def rowsL (n:Nat) (M:Nat→Nat):List (List Nat):=((looseL n M).map (walk n M)).filter fun xs=>decide (xs.headD 0 < lastFar xs)
theorem mem_loose {e:Nat}:e∈looseL n M↔e < 2 * n∧M e = e:=by
 unfold looseL
 rw [List.mem_filter,List.mem_range,beq_iff_eq]
 exact ⟨fun h=>⟨h.1,h.2.symm⟩,fun h=>⟨h.1,h.2.symm⟩⟩
theorem loose_sorted:(looseL n M).Pairwise (· < ·):=List.Pairwise.filter _ List.pairwise_lt_range
theorem mem_rows (W:Work n M) {xs:List Nat}:xs∈rowsL n M↔∃ s,s < 2 * n∧M s = s∧xs = walk n M s∧s < lastFar xs:=by
 unfold rowsL
 rw [List.mem_filter,List.mem_map]
 constructor
 ·rintro ⟨⟨s,hs,rfl⟩,h⟩
  obtain ⟨h1,h2⟩:=mem_loose.mp hs
  exact ⟨s,h1,h2,rfl,of_decide_eq_true h⟩
 ·rintro ⟨s,h1,h2,rfl,h⟩
  exact ⟨⟨s,mem_loose.mpr ⟨h1,h2⟩,rfl⟩,decide_eq_true h⟩
theorem row_full (W:Work n M) {xs:List Nat} (h:xs∈rowsL n M):∃ s,s < 2 * n∧M s = s∧Full n M s xs∧s < lastFar xs∧Shut n M (Ends xs):=by
 obtain ⟨s,h1,h2,rfl,h⟩:=(mem_rows W).mp h
 have F:=walk_full W h1
 exact ⟨s,h1,h2,F,h,F.shut W (.inl h2)⟩
theorem shut_same (W:Work n M) {s t:Nat} {xs ys:List Nat} (S:Steps n M s xs) (T:Steps n M t ys) (hy:Shut n M (Ends ys)) {z:Nat} (h1:Ends xs z) (h2:Ends ys z):∀ e,Ends xs e→Ends ys e:=S.all W hy h1 h2
theorem row_of_loose (W:Work n M) {e:Nat} (h1:e < 2 * n) (h2:M e = e):∃ xs∈rowsL n M,Ends xs e:=by
 have F:=walk_full W h1
 obtain ⟨l1,l2,l3⟩:=row_ends W F h2
 have he:Ends (walk n M e) e:=⟨e,List.mem_of_getElem? F.st.hd,.inl rfl⟩
 by_cases c:e < lastFar (walk n M e)
 ·exact ⟨_,(mem_rows W).mpr ⟨e,h1,h2,rfl,c⟩,he⟩
 ·have G:=walk_full W l3
  have hp:Ends (walk n M (lastFar (walk n M e))) (lastFar (walk n M e)):=⟨_,List.mem_of_getElem? G.st.hd,.inl rfl⟩
  have hp2:Ends (walk n M e) (lastFar (walk n M e)):=by
   obtain ⟨x,_,e1,hx⟩:=F.lastFar_eq
   exact ⟨x,hx,.inr e1⟩
  have he2:Ends (walk n M (lastFar (walk n M e))) e:=shut_same W F.st G.st (G.shut W (.inl l1)) hp2 hp e he
  refine ⟨_,(mem_rows W).mpr ⟨_,l3,l1,rfl,?_⟩,he2⟩
  rcases row_loose W G he2 h2 with z | z
  ·exact absurd z.symm l2
  ·rw [← z];omega
theorem rows_apart (W:Work n M) {s t:Nat} (h1:s < 2 * n) (h2:M s = s) (c1:s < lastFar (walk n M s)) (h3:t < 2 * n) (h4:M t = t) (c2:t < lastFar (walk n M t)) {z:Nat} (hz:Ends (walk n M s) z) (hz2:Ends (walk n M t) z):s = t:=by
 have F:=walk_full W h1
 have G:=walk_full W h3
 have a:=shut_same W F.st G.st (G.shut W (.inl h4)) hz hz2
 have hs:Ends (walk n M t) s:=a s ⟨s,List.mem_of_getElem? F.st.hd,.inl rfl⟩
 have hl:Ends (walk n M t) (lastFar (walk n M s)):=a _ (by
  obtain ⟨x,_,e1,hx⟩:=F.lastFar_eq
  exact ⟨x,hx,.inr e1⟩)
 rcases row_loose W G hs h2 with e | e
 ·exact e
 ·rcases row_loose W G hl (row_ends W F h2).1 with e' | e'
  ·omega
  ·omega

noncomputable def ringStep (n:Nat) (M:Nat→Nat) (r:List (List Nat)×List Nat) (st:Nat):List (List Nat)×List Nat :=
 if st∈r.2 then r else (r.1 ++ [walk n M (2 * st)],r.2 ++ (walk n M (2 * st)).map (· / 2))
noncomputable def rowStaves (n:Nat) (M:Nat→Nat):List Nat:=(rowsL n M).flatMap fun xs=>xs.map (· / 2)
noncomputable def ringSt (n:Nat) (M:Nat→Nat) (k:Nat):List (List Nat)×List Nat:=(List.range k).foldl (ringStep n M) ([],rowStaves n M)
noncomputable def ringsL (n:Nat) (M:Nat→Nat):List (List Nat):=(ringSt n M n).1
theorem ringSt_succ (k:Nat):ringSt n M (k + 1) = ringStep n M (ringSt n M k) k:=by unfold ringSt;rw [List.range_succ,List.foldl_append];rfl
structure RingInv (n:Nat) (M:Nat→Nat) (k:Nat) (rs:List (List Nat)) (seen:List Nat):Prop where
 eq:seen = rowStaves n M ++ rs.flatMap fun xs=>xs.map (· / 2)
 nd:seen.Nodup
 lt:∀ e∈seen,e < n
 all:∀ e,e < k→e∈seen
 ring:∀ xs∈rs,∃ st,st < k∧Full n M (2 * st) xs∧(∃ x,xs.getLast? = some x∧M (far x) = 2 * st∧M (far x)≠far x)∧∀ x∈xs,2 * st≤x
 rise:rs.Pairwise fun xs ys=>xs.headD 0 < ys.headD 0
 shut:∀ e,e < 2 * n→e / 2∈seen→M e / 2∈seen
theorem nodup_flat {α β:Type} {f:α→List β}:∀ {l:List α},(∀ x∈l,(f x).Nodup)→l.Pairwise (fun x y=>∀ a,a∈f x→a∈f y→False)→(l.flatMap f).Nodup
 | [],_,_=>by simp
 | x :: r,h,p=>by
  rw [List.flatMap_cons]
  obtain ⟨p1,p2⟩:=List.pairwise_cons.mp p
  refine List.nodup_append.mpr ⟨h x List.mem_cons_self,nodup_flat (fun y hy=>h y (List.mem_cons_of_mem _ hy)) p2,fun a ha b hb e=>?_⟩
  subst e
  obtain ⟨y,hy,hay⟩:=List.mem_flatMap.mp hb
  exact p1 y hy a ha hay
theorem rows_pairwise (W:Work n M):(rowsL n M).Pairwise fun xs ys=>∀ a,a∈xs.map (· / 2)→a∈ys.map (· / 2)→False:=by
 unfold rowsL
 rw [List.pairwise_filter,List.pairwise_map]
 have key:(looseL n M).Pairwise fun s t=>s < 2 * n∧M s = s∧t < 2 * n∧M t = t∧s < t:=by
  refine List.Pairwise.imp_of_mem (fun {a b} ha hb h=>?_) loose_sorted
  obtain ⟨a1,a2⟩:=mem_loose.mp ha
  obtain ⟨b1,b2⟩:=mem_loose.mp hb
  exact ⟨a1,a2,b1,b2,h⟩
 refine key.imp fun {s t} h hs ht a ha hb=>?_
 obtain ⟨h1,h2,h3,h4,h5⟩:=h
 have hs:s < lastFar (walk n M s):=of_decide_eq_true hs
 have ht:t < lastFar (walk n M t):=of_decide_eq_true ht
 have e1:(2 * a) / 2 = a:=by omega
 have za:Ends (walk n M s) (2 * a):=ends_stave.mpr (by rw [e1];exact ha)
 have zb:Ends (walk n M t) (2 * a):=ends_stave.mpr (by rw [e1];exact hb)
 have:=rows_apart W h1 h2 hs h3 h4 ht za zb
 omega
theorem rows_nodup (W : Work n M) : (rowStaves n M).Nodup := nodup_flat (fun xs hx => by
    obtain ⟨s, _, _, F, _, _⟩ := row_full W hx
    exact F.st.nodup W) (rows_pairwise W)
theorem mem_rowStaves {e:Nat}:e∈rowStaves n M↔∃ xs∈rowsL n M,e∈xs.map (· / 2):=List.mem_flatMap
theorem rows_shut (W:Work n M) {e:Nat} (he:e < 2 * n) (h:e / 2∈rowStaves n M):M e / 2∈rowStaves n M:=by
 obtain ⟨xs,hx,h⟩:=mem_rowStaves.mp h
 obtain ⟨s,_,_,F,_,S⟩:=row_full W hx
 exact mem_rowStaves.mpr ⟨xs,hx,ends_stave.mp (S.mate e he (ends_stave.mpr h))⟩
theorem ring_closes (W:Work n M) {st:Nat} (hst:st < n) {C:Nat→Prop} (hC:Shut n M C) (hrow:∀ e,e < 2 * n→M e = e→C e) (hno:¬ C (2 * st)) :
  ∃ x,(walk n M (2 * st)).getLast? = some x∧M (far x) = 2 * st∧M (far x)≠far x:=by
 have F:=walk_full W (show 2 * st < 2 * n by omega)
 obtain ⟨x,hx,hx1,hx2⟩:=F.last
 have hlt:=far_lt (F.st.lt x hx2)
 have nl:M (far x)≠far x:=fun c=>by
  have cf:=hrow _ hlt c
  have:=F.st.all W hC (z:=far x) ⟨x,hx2,.inr rfl⟩ cf (2 * st) ⟨_,List.mem_of_getElem? F.st.hd,.inl rfl⟩
  exact hno this
 refine ⟨x,hx,?_,nl⟩
 by_cases c:M (far x) = 2 * st
 ·exact c
 ·exact absurd ⟨nl,c⟩ (F.stop x hx)
theorem ringInv (W:Work n M):∀ k,k≤n→RingInv n M k (ringSt n M k).1 (ringSt n M k).2
 | 0,_=>by
  refine ⟨?_,rows_nodup W,fun e he=>?_,fun e he=>absurd he (Nat.not_lt_zero _),fun xs hx=>?_,?_,fun e he h=>rows_shut W he h⟩
  ·show rowStaves n M = rowStaves n M ++ []
   rw [List.append_nil]
  ·obtain ⟨xs,hx,h⟩:=mem_rowStaves.mp (show e∈rowStaves n M from he)
   obtain ⟨s,_,_,F,_,_⟩:=row_full W hx
   obtain ⟨x,hx,rfl⟩:=List.mem_map.mp h
   have:=F.st.lt x hx
   omega
  ·exact absurd (show xs∈([]:List (List Nat)) from hx) (by simp)
  ·exact List.Pairwise.nil
 | k + 1,hk=>by
  have ih:=ringInv W k (by omega)
  rw [ringSt_succ]
  generalize hr:ringSt n M k = r at ih
  obtain ⟨rs,seen⟩:=r
  unfold ringStep
  by_cases c:k∈seen
  ·rw [if_pos c]
   refine ⟨ih.eq,ih.nd,ih.lt,fun e he=>?_,fun xs hx=>?_,ih.rise,ih.shut⟩
   ·by_cases h:e = k
    ·subst h;exact c
    ·exact ih.all e (by omega)
   ·obtain ⟨st,h,r⟩:=ih.ring xs hx
    exact ⟨st,by omega,r⟩
  ·rw [if_neg c]
   have hkn:2 * k < 2 * n:=by omega
   have F:=walk_full W hkn
   have hC:Shut n M (fun e=>e / 2∈seen):=⟨fun e h=>by show far e / 2∈seen;rw [far_half];exact h,fun e he h=>ih.shut e he h⟩
   have hrow:∀ e,e < 2 * n→M e = e→e / 2∈seen:=fun e he hl=>by
    obtain ⟨xs,hx,hE⟩:=row_of_loose W he hl
    show e / 2∈seen
    have heq:seen = _:=ih.eq
    rw [heq]
    exact List.mem_append_left _ (mem_rowStaves.mpr ⟨xs,hx,ends_stave.mp hE⟩)
   have e2:2 * k / 2 = k:=by omega
   have hno:¬ (2 * k) / 2∈seen:=by rw [e2];exact c
   have hcl:=ring_closes W (show k < n by omega) hC hrow hno
   have S:Shut n M (Ends (walk n M (2 * k))):=F.shut W (.inr (let ⟨x,h1,h2,_⟩:=hcl;⟨x,h1,h2⟩))
   have hself:Ends (walk n M (2 * k)) (2 * k):=⟨_,List.mem_of_getElem? F.st.hd,.inl rfl⟩
   have dis:∀ a,a∈seen→a∈(walk n M (2 * k)).map (· / 2)→False:=fun a ha hb=>by
    have e1:(2 * a) / 2 = a:=by omega
    exact hno (F.st.all W hC (z:=2 * a) (ends_stave.mpr (by rw [e1];exact hb)) (by show 2 * a / 2∈seen;rw [e1];exact ha) (2 * k) hself)
   refine ⟨?_,?_,fun e he=>?_,fun e he=>?_,fun xs hx=>?_,?_,fun e he h=>?_⟩
   ·show seen ++ _ = _
    have heq:seen = _:=ih.eq
    rw [List.flatMap_append,← List.append_assoc,← heq]
    simp
   ·exact List.nodup_append.mpr ⟨ih.nd,F.st.nodup W,fun a ha b hb e=>dis a ha (e ▸ hb)⟩
   ·rcases List.mem_append.mp he with h | h
    ·exact ih.lt e h
    ·obtain ⟨x,hx,rfl⟩:=List.mem_map.mp h
     have:=F.st.lt x hx
     omega
   ·by_cases h:e = k
    ·subst h
     exact List.mem_append_right _ (List.mem_map.mpr ⟨_,List.mem_of_getElem? F.st.hd,e2⟩)
    ·exact List.mem_append_left _ (ih.all e (by omega))
   ·rcases List.mem_append.mp hx with h | h
    ·obtain ⟨st,h,r⟩:=ih.ring xs h
     exact ⟨st,by omega,r⟩
    ·have:xs = walk n M (2 * k):=by simpa using h
     subst this
     refine ⟨k,by omega,F,hcl,fun x hx=>?_⟩
     have:k≤x / 2:=by
      refine Nat.le_of_not_lt fun z=>?_
      exact dis (x / 2) (ih.all _ z) (List.mem_map.mpr ⟨x,hx,rfl⟩)
     omega
   ·refine List.pairwise_append.mpr ⟨ih.rise,List.pairwise_singleton _ _,fun xs hx ys hy=>?_⟩
    have:ys = walk n M (2 * k):=by simpa using hy
    subst this
    obtain ⟨st,h,G,_⟩:=ih.ring xs hx
    have h0:=G.st.hd
    have:xs.headD 0 = 2 * st:=by
     cases xs with
     | nil=>simp at h0
     | cons a r=>simpa using h0
    rw [this]
    show 2 * st < 2 * k
    omega
   ·rcases List.mem_append.mp h with h | h
    ·exact List.mem_append_left _ (ih.shut e he h)
    ·exact List.mem_append_right _ (ends_stave.mp (S.mate e he (ends_stave.mpr h)))
end
end Ch

namespace Mir
open PySem L2 Ch
noncomputable def nV (ms:List Nat):List V:=ms.map fun (m:Nat)=>V.int m
noncomputable def rowI (xs:List Nat):List Int:=xs.map fun (x:Nat)=>(x:Int)
theorem rowI_V (xs:List Nat):(rowI xs).map V.int = nV xs:=by unfold rowI nV;rw [List.map_map];rfl
theorem nV_len (ms:List Nat):(nV ms).length = ms.length:=by unfold nV;rw [List.length_map]
theorem nV_get {ms:List Nat} {i m:Nat} (h:ms[i]? = some m):(nV ms)[i]? = some (.int m):=by unfold nV;rw [List.getElem?_map,h];rfl
theorem nV_get' {ms:List Nat} {i:Nat} {x:V} (h:(nV ms)[i]? = some x):∃ m,ms[i]? = some m∧x = .int m:=by
 unfold nV at h
 rw [List.getElem?_map] at h
 cases e:ms[i]? with
 | none=>rw [e] at h;cases h
 | some m=>rw [e] at h;exact ⟨m,rfl,(Option.some.inj h).symm⟩
theorem nV_snoc (xs:List Nat) (x:Nat):nV (xs ++ [x]) = nV xs ++ [.int x]:=by unfold nV;rw [List.map_append];rfl
noncomputable def at0 (ms:List Nat) (e:Nat):Nat:=ms.getD e 0
theorem at0_get {ms:List Nat} {e:Nat} (h:e < ms.length):ms[e]? = some (at0 ms e):=by unfold at0;simp [List.getD,List.getElem?_eq_getElem h]
structure WorkL (n:Nat) (ms:List Nat):Prop where
 small:n≤40
 len:ms.length = 2 * n
 wk:Work n (at0 ms)
theorem WorkL.get {n:Nat} {ms:List Nat} (W:WorkL n ms) {e:Nat} (h:e < 2 * n):(nV ms)[e]? = some (.int (at0 ms e)):=nV_get (at0_get (by rw [W.len];exact h))
theorem WorkL.ix {n:Nat} {ms:List Nat} (W:WorkL n ms) {e:Nat} (h:e < 2 * n):atI (nV ms) (e:Int) = some (.int (at0 ms e)):=atI_nat (W.get h)
theorem farI_nat (e:Nat):farI (e:Int) = ((far e:Nat):Int):=by unfold farI far;split <;> split <;> omega
theorem atI_nlast {xs:List Nat} {x:Nat} (h:xs.getLast? = some x):atI (nV xs) (-1) = some (.int x):=by
 obtain ⟨ys,rfl⟩:=List.getLast?_eq_some_iff.mp h
 rw [nV_snoc]
 exact atI_last _ _
noncomputable def RowsT (H:Hp) (l:Addr) (rs:List (List Nat)):Prop :=
 ∃ ts:List Addr,H l = some (.lst (ts.map V.ref))∧ts.length = rs.length∧∀ (i:Nat) (t:Addr) (r:List Nat),ts[i]? = some t→rs[i]? = some r→H t = some (.tup (nV r))
theorem RowsT.same {H H':Hp} {l:Addr} {rs:List (List Nat)} (h:RowsT H l rs) (s:Same H H'):RowsT H' l rs:=by
 obtain ⟨ts,h1,h2,h3⟩:=h
 exact ⟨ts,s _ _ h1,h2,fun i t r e1 e2=>s _ _ (h3 i t r e1 e2)⟩
theorem RowsT.nil {H:Hp} {l:Addr} (h:H l = some (.lst [])):RowsT H l []:=⟨[],h,rfl,fun i t r e=>by simp at e⟩
theorem RowsT.snoc {H:Hp} {l t:Addr} {rs:List (List Nat)} {r:List Nat} (h:RowsT H l rs) (ht:H t = some (.tup (nV r))):∃ xs,H l = some (.lst xs)∧xs.length = rs.length∧RowsT (upd H l (.lst (xs ++ [.ref t]))) l (rs ++ [r]):=by
 obtain ⟨ts,h1,h2,h3⟩:=h
 refine ⟨_,h1,by rw [List.length_map];exact h2,ts ++ [t],by rw [upd_same,List.map_append];rfl,by rw [List.length_append,List.length_append,h2];rfl,fun i u q e1 e2=>?_⟩
 have key:H u = some (.tup (nV q)):=by
  by_cases hi:i < ts.length
  ·rw [List.getElem?_append_left hi] at e1
   rw [List.getElem?_append_left (by omega)] at e2
   exact h3 i u q e1 e2
  ·have hil:=(List.getElem?_eq_some_iff.mp e1).1
   rw [List.length_append,List.length_singleton] at hil
   have e:i = ts.length:=by omega
   subst e
   rw [List.getElem?_append_right (Nat.le_refl _),Nat.sub_self] at e1
   rw [List.getElem?_append_right (by omega),h2,Nat.sub_self] at e2
   obtain rfl:t = u:=Option.some.inj e1
   obtain rfl:r = q:=Option.some.inj e2
   exact ht
 rw [upd_ne (fun e=>by rw [e,h1] at key;cases key)]
 exact key

section
variable (K:PySem.W.Frag)
noncomputable def spStaves:Sp:=fun vs H Q _=>∃ (a:Addr) (n:Nat) (ms:List Nat),vs = [.ref a]∧SqT K H a (nV ms)∧WorkL n ms∧Q (.int n) H
noncomputable def spLoose:Sp:=fun vs H Q _=>∃ (a:Addr) (n:Nat) (ms:List Nat),vs = [.ref a]∧SqT K H a (nV ms)∧WorkL n ms∧∀ (l:Addr) (H':Hp),H l = none→Same H H'→H' l = some (.lst (nV (looseL n (at0 ms))))→Q (.ref l) H'
noncomputable def spWalked:Sp:=fun vs H Q _=>∃ (a:Addr) (n:Nat) (ms:List Nat) (s:Nat),vs = [.ref a,.int s]∧SqT K H a (nV ms)∧WorkL n ms∧s < 2 * n ∧
 ∀ (l:Addr) (H':Hp),H l = none→Same H H'→H' l = some (.tup (nV (walk n (at0 ms) s)))→Q (.ref l) H'
noncomputable def spRows:Sp:=fun vs H Q _=>∃ (a:Addr) (n:Nat) (ms:List Nat),vs = [.ref a]∧SqT K H a (nV ms)∧WorkL n ms∧∀ (l:Addr) (H':Hp),H l = none→Same H H'→RowsT H' l (rowsL n (at0 ms))→Q (.ref l) H'
noncomputable def spRings:Sp:=fun vs H Q _=>∃ (a:Addr) (n:Nat) (ms:List Nat),vs = [.ref a]∧SqT K H a (nV ms)∧WorkL n ms∧∀ (l:Addr) (H':Hp),H l = none→Same H H'→RowsT H' l (ringsL n (at0 ms))→Q (.ref l) H'
noncomputable def spMark:Sp:=fun vs H Q _=>∃ (d c:Addr) (kvs:List (Key×V)) (xs:List Nat),vs = [.ref d,.ref c]∧H d = some (.dK kvs)∧SqT K H c (nV xs)∧kvs.length + xs.length≤100000 ∧
 ∀ (kvs':List (Key×V)) (H':Hp),H' d = some (.dK kvs')→(∀ b o,b≠d→H b = some o→H' b = some o)→kvs'.length≤kvs.length + xs.length →
  (∀ j:Nat,(valV kvs' (Sum.inl (j:Int):Key)).isSome = true↔(valV kvs (Sum.inl (j:Int):Key)).isSome = true∨j∈xs.map (· / 2))→Q .non H'
end
noncomputable def spCellAt (K:PySem.W.Frag):Sp:=fun vs H Q _=>∃ (a:Addr) (ns:List Int) (k:Nat),vs = [.ref a,.int k]∧SqL K H a (ns.map V.int)∧∀ i:Int,Q (.int i) H
noncomputable def clasp (ms:List Nat) (p q:Nat):List Nat:=(ms.set p q).set q p
theorem at0_set {ms:List Nat} {i j v:Nat} (hi:i < ms.length):at0 (ms.set i v) j = if j = i then v else at0 ms j:=by
 unfold at0
 by_cases e:j = i
 ·subst e;rw [if_pos rfl];simp [List.getD,List.getElem?_set_self hi]
 ·rw [if_neg e];simp [List.getD,List.getElem?_set_ne (Ne.symm e)]
theorem clasp_work {n:Nat} {ms:List Nat} (W:WorkL n ms) {p q:Nat} (hp:p < 2 * n) (hq:q < 2 * n) (lp:at0 ms p = p) (lq:at0 ms q = q):WorkL n (clasp ms p q):=by
 have key:∀ j,at0 (clasp ms p q) j = if j = q then p else if j = p then q else at0 ms j:=fun j=>by
  unfold clasp
  rw [at0_set (by rw [List.length_set,W.len];exact hq),at0_set (by rw [W.len];exact hp)]
 refine ⟨W.small,by unfold clasp;rw [List.length_set,List.length_set];exact W.len,fun x hx=>?_,fun x hx=>?_⟩
 ·rw [key]
  split
  ·exact hp
  ·split
   ·exact hq
   ·exact W.wk.lt x hx
 ·rw [key x]
  by_cases c1:x = q
  ·rw [if_pos c1,key]
   by_cases c2:p = q
   ·rw [if_pos c2,c1,c2]
   ·rw [if_neg c2,if_pos rfl,c1]
  ·rw [if_neg c1]
   by_cases c2:x = p
   ·rw [if_pos c2,key,if_pos rfl,c2]
   ·rw [if_neg c2,key]
    have i1:=W.wk.inv x hx
    have c3:at0 ms x≠q:=fun z=>c1 (by rw [← i1,z,lq])
    have c4:at0 ms x≠p:=fun z=>c2 (by rw [← i1,z,lp])
    rw [if_neg c3,if_neg c4,i1]
theorem range_work {n:Nat} (h:n≤40):WorkL n (List.range (2 * n)):=by
 have key:∀ x,x < 2 * n→at0 (List.range (2 * n)) x = x:=fun x hx=>by unfold at0;simp [List.getD,List.getElem?_range hx]
 exact ⟨h,List.length_range,fun x hx=>by rw [key x hx];exact hx,fun x hx=>by rw [key x hx,key x hx]⟩
theorem rngV_nV (n:Nat):rngV 0 n = nV (List.range n):=by
 unfold rngV nV
 refine List.map_congr_left fun a _=>?_
 rw [Int.zero_add]
theorem nV_set (ms:List Nat) (i v:Nat):(nV ms).set i (.int v) = nV (ms.set i v):=by unfold nV;rw [List.map_set]

end Mir

namespace Mt
open Ch

noncomputable def up (xs:List Nat):List Int:=xs.map fun (x:Nat)=>(x:Int)
theorem up_len (xs:List Nat):(up xs).length = xs.length:=by unfold up;rw [List.length_map]

end Mt

namespace Mt
open Ch
section
variable {n:Nat} {M:Nat→Nat}
noncomputable def Lk (M:Nat→Nat) (x y:Nat):Prop:=M (far x) = y∧M y = far x
structure IsCh (n:Nat) (M:Nat→Nat) (xs:List Nat):Prop where
 ne:0 < xs.length
 lt:∀ x∈xs,x < 2 * n
 lk:∀ (i x y:Nat),xs[i]? = some x→xs[i + 1]? = some y→Lk M x y
structure IsRow (n:Nat) (M:Nat→Nat) (xs:List Nat):Prop extends IsCh n M xs where
 fst:∀ x,xs[0]? = some x→M x = x
 lst:∀ x,xs[xs.length - 1]? = some x→M (far x) = far x
structure IsRing (n:Nat) (M:Nat→Nat) (xs:List Nat):Prop extends IsCh n M xs where
 cl:∀ x y,xs[0]? = some x→xs[xs.length - 1]? = some y→Lk M y x
noncomputable def half (xs:List Nat):List Nat:=xs.map (· / 2)
structure Deco (n:Nat) (M:Nat→Nat) (rows rings:List (List Nat)):Prop where
 row:∀ r∈rows,IsRow n M r
 ring:∀ r∈rings,IsRing n M r
 nd:((rows ++ rings).flatMap half).Nodup
 all:∀ s,s < n→s∈(rows ++ rings).flatMap half
theorem mem_half {xs:List Nat} {s:Nat}:s∈half xs↔∃ x∈xs,x / 2 = s:=by unfold half;rw [List.mem_map]
theorem Deco.ch {rows rings:List (List Nat)} (D:Deco n M rows rings) {r:List Nat} (h:r∈rows ++ rings):IsCh n M r:=by
 rcases List.mem_append.mp h with z | z
 ·exact (D.row r z).toIsCh
 ·exact (D.ring r z).toIsCh
theorem Deco.lt {rows rings:List (List Nat)} (D:Deco n M rows rings):∀ s∈(rows ++ rings).flatMap half,s < n:=fun s hs=>by
 obtain ⟨r,hr,h⟩:=List.mem_flatMap.mp hs
 obtain ⟨x,hx,rfl⟩:=mem_half.mp h
 have:=(D.ch hr).lt x hx
 omega
theorem Deco.total {rows rings:List (List Nat)} (D:Deco n M rows rings):((rows ++ rings).flatMap half).Perm (List.range n) :=
 (List.perm_ext_iff_of_nodup D.nd List.nodup_range).mpr fun a=>⟨fun h=>List.mem_range.mpr (D.lt a h),fun h=>D.all a (List.mem_range.mp h)⟩

theorem half_flat (l:List (List Nat)):l.flatMap half = half l.flatten:=by
 unfold half
 rw [List.flatMap_def,List.map_flatten]
end

noncomputable def halfI (es:List Int):List Int:=es.map (· / 2)
noncomputable def Once (es:List Int):Prop:=(halfI es).Perm (up (List.range es.length))
theorem once_of {n:Nat} {xs:List Nat} (h:(half xs).Perm (List.range n)):Once (up xs):=by
 have hl:xs.length = n:=by have z:=h.length_eq;unfold half at z;rw [List.length_map,List.length_range] at z;exact z
 unfold Once halfI
 rw [up_len,hl]
 have e:(up xs).map (· / 2) = up (half xs):=by
  unfold up half
  rw [List.map_map,List.map_map]
  refine List.map_congr_left fun a _=>?_
  show (a:Int) / 2 = ((a / 2:Nat):Int)
  omega
 rw [e]
 unfold up
 exact h.map _
end Mt

namespace Mt
open Ch
section
variable {n:Nat} {M:Nat→Nat}
theorem Full.isCh {s:Nat} {xs:List Nat} (W:Work n M) (F:Full n M s xs):IsCh n M xs:=by
 refine ⟨?_,F.st.lt,fun i x y h1 h2=>⟨(F.st.step i x y h1 h2).1.symm,F.st.back W h1 h2⟩⟩
 have:=F.ne
 cases xs with
 | nil=>exact absurd rfl this
 | cons _ _=>simp
theorem walk_row (W:Work n M) {s:Nat} (h:s < 2 * n) (hl:M s = s):IsRow n M (walk n M s):=by
 have F:=walk_full W h
 obtain ⟨l1,_,_⟩:=row_ends W F hl
 refine ⟨Full.isCh W F,fun x hx=>?_,fun x hx=>?_⟩
 ·rw [F.st.hd] at hx
  obtain rfl:=Option.some.inj hx
  exact hl
 ·obtain ⟨y,hy,hy1,_⟩:=F.last
  rw [hy1] at hx
  obtain rfl:=Option.some.inj hx
  unfold lastFar at l1
  rw [hy] at l1
  exact l1
theorem deco_own (W:Work n M):Deco n M (rowsL n M) (ringsL n M):=by
 have R:=ringInv W n (Nat.le_refl _)
 have e:(rowsL n M ++ ringsL n M).flatMap half = (ringSt n M n).2:=by
  rw [List.flatMap_append,R.eq]
  rfl
 refine ⟨fun r hr=>?_,fun r hr=>?_,by rw [e];exact R.nd,fun s hs=>by rw [e];exact R.all s hs⟩
 ·obtain ⟨s,h1,h2,rfl,_⟩:=(mem_rows W).mp hr
  exact walk_row W h1 h2
 ·obtain ⟨st,h1,F,⟨x,hx,hc,_⟩,_⟩:=R.ring r hr
  refine ⟨Full.isCh W F,fun a b ha hb=>?_⟩
  obtain ⟨y,hy,hy1,hy2⟩:=F.last
  rw [hx] at hy
  obtain rfl:=Option.some.inj hy
  rw [F.st.hd] at ha
  rw [hy1] at hb
  obtain rfl:=Option.some.inj ha
  obtain rfl:=Option.some.inj hb
  exact ⟨hc,by rw [← hc];exact W.inv _ (far_lt (F.st.lt _ hy2))⟩
end


structure GoodCh (cs:List (List Int)):Prop where
 ne:∀ c∈cs,c≠[]
 le:cs.flatten.length≤40
 once:Once cs.flatten
end Mt

namespace Mir
open PySem L2 Ch
theorem map_erase {α β:Type} (f:α→β):∀ (l:List α) (i:Nat),(l.map f).eraseIdx i = (l.eraseIdx i).map f
 | [],i=>by simp
 | a :: r,0=>rfl
 | a :: r,i + 1=>by show f a :: (r.map f).eraseIdx i = f a :: (r.eraseIdx i).map f;rw [map_erase f r i]
noncomputable def Sm (i:Int):Prop:=i.natAbs < 10 ^ 40
theorem Sm.log {i:Int} (h:Sm i):i.natAbs.log2 < 1920:=by
 unfold Sm at h
 by_cases z:i.natAbs = 0
 ·rw [z];decide
 ·exact (Nat.log2_lt z).mpr (Nat.lt_of_lt_of_le h (by decide +kernel))
theorem Sm.of {i:Int} (h1:-(10 ^ 32:Int) < i) (h2:i < (10 ^ 32:Int)):Sm i:=by
 unfold Sm
 have e:(10:Nat) ^ 40 = 100000000 * 10 ^ 32:=by decide +kernel
 rw [e]
 omega
end Mir

namespace L2
open PySem PySem.Spec
section
variable {X:Cx}
theorem ps_one {st:Stmt} {R:TS} (h:∀ D σ H,R D σ H→∃ t,PS X st t∧t D σ H):PS X st R:=fun pins s σ H D I hw=>by
 obtain ⟨t,ht,hq⟩:=h D σ H hw
 exact ht pins s σ H D I hq
end
end L2


namespace Mir
open PySem L2
noncomputable def TsT {α:Type} (f:α→List V) (H:Hp) (l:Addr) (xs:List α):Prop :=
 ∃ ts:List Addr,H l = some (.lst (ts.map V.ref))∧ts.length = xs.length∧∀ (i:Nat) (t:Addr) (x:α),ts[i]? = some t→xs[i]? = some x→H t = some (.tup (f x))
section
variable {α:Type} {f:α→List V} {H H':Hp} {l r b t d:Addr} {xs ys:List α} {x:α}
theorem TsT.same (h:TsT f H l xs) (s:Same H H'):TsT f H' l xs:=by
 obtain ⟨ts,h1,h2,h3⟩:=h
 exact ⟨ts,s _ _ h1,h2,fun i t p e1 e2=>s _ _ (h3 i t p e1 e2)⟩
theorem TsT.nil (h:H l = some (.lst [])):TsT f H l ([]:List α):=⟨[],h,rfl,fun i t r e=>by simp at e⟩
theorem TsT.len (h:TsT f H l xs):∃ vs,H l = some (.lst vs)∧vs.length = xs.length:=by
 obtain ⟨ts,h1,h2,_⟩:=h
 exact ⟨_,h1,by rw [List.length_map];exact h2⟩
theorem TsT.get {i:Nat} (h:TsT f H l xs) (e:xs[i]? = some x):∃ vs t,H l = some (.lst vs)∧vs[i]? = some (.ref t)∧H t = some (.tup (f x)):=by
 obtain ⟨ts,h1,h2,h3⟩:=h
 have hi:=(List.getElem?_eq_some_iff.mp e).1
 have et:ts[i]? = some (ts[i]'(by omega)):=List.getElem?_eq_getElem (by omega)
 exact ⟨_,_,h1,by rw [List.getElem?_map,et];rfl,h3 i _ x et e⟩
noncomputable def Tup (f:α→List V) (H:Hp) (ts:List Addr) (xs:List α):Prop:=ts.length = xs.length∧∀ (i:Nat) (t:Addr) (x:α),ts[i]? = some t→xs[i]? = some x→H t = some (.tup (f x))
theorem TsT.tup (h:TsT f H l xs):∃ ts,H l = some (.lst (ts.map V.ref))∧Tup f H ts xs:=by
 obtain ⟨ts,h1,h2,h3⟩:=h
 exact ⟨ts,h1,h2,h3⟩
theorem Tup.tst {ts:List Addr} (h:Tup f H ts xs) (hl:H l = some (.lst (ts.map V.ref))):TsT f H l xs:=⟨ts,hl,h.1,h.2⟩
theorem Tup.upd {ts:List Addr} {o:HO} {vs:List V} (h:Tup f H ts xs) (hl:H l = some (.lst vs)):Tup f (upd H l o) ts xs:=⟨h.1,fun i t p e1 e2=>by
 have key:=h.2 i t p e1 e2
 rw [upd_ne (fun e=>by rw [e,hl] at key;cases key)]
 exact key⟩
theorem Tup.app {ts us:List Addr} (h:Tup f H ts xs) (k:Tup f H us ys):Tup f H (ts ++ us) (xs ++ ys):=⟨by rw [List.length_append,List.length_append,h.1,k.1],fun i t p e1 e2=>by
 by_cases hi:i < ts.length
 ·rw [List.getElem?_append_left hi] at e1
  rw [List.getElem?_append_left (by have:=h.1;omega)] at e2
  exact h.2 i t p e1 e2
 ·rw [List.getElem?_append_right (by omega)] at e1
  rw [List.getElem?_append_right (by have:=h.1;omega),← h.1] at e2
  exact k.2 _ t p e1 e2⟩
theorem Tup.one (h:H t = some (.tup (f x))):Tup f H [t] [x]:=⟨rfl,fun i u p e1 e2=>by
 cases i with
 | zero=>cases e1;cases e2;exact h
 | succ i=>cases e1⟩
theorem Tup.take {ts:List Addr} (n:Nat) (h:Tup f H ts xs):Tup f H (ts.take n) (xs.take n):=⟨by rw [List.length_take,List.length_take,h.1],fun i t p e1 e2=>by
 rw [List.getElem?_take] at e1 e2
 by_cases hi:i < n
 ·rw [if_pos hi] at e1 e2
  exact h.2 i t p e1 e2
 ·rw [if_neg hi] at e1
  cases e1⟩
theorem TsT.snoc (h:TsT f H l xs) (ht:H t = some (.tup (f x))):∃ vs,H l = some (.lst vs)∧vs.length = xs.length∧TsT f (L2.upd H l (.lst (vs ++ [.ref t]))) l (xs ++ [x]):=by
 obtain ⟨ts,h1,h2⟩:=h.tup
 refine ⟨_,h1,by rw [List.length_map];exact h2.1,?_⟩
 exact ((h2.app (Tup.one ht)).upd h1).tst (by rw [upd_same,List.map_append];rfl)
theorem TsT.deep {K:PySem.W.Frag} (hf:∀ x,∀ v∈f x,flatV v = true) (h:TsT f H l xs) (k:TsT f H r xs):DeepL K H 1 l r:=by
 obtain ⟨ts,h1,h2⟩:=h.tup
 obtain ⟨us,k1,k2⟩:=k.tup
 refine ⟨_,_,SqL.of h1,SqL.of k1,by rw [List.length_map,List.length_map,h2.1,k2.1],fun i u v e1 e2=>?_⟩
 have hi:i < ts.length:=by have z:=(List.getElem?_eq_some_iff.mp e1).1;rw [List.length_map] at z;exact z
 have hi2:i < us.length:=by rw [k2.1,← h2.1];exact hi
 have hx:i < xs.length:=by rw [← h2.1];exact hi
 rw [List.getElem?_map,List.getElem?_eq_getElem hi] at e1
 rw [List.getElem?_map,List.getElem?_eq_getElem hi2] at e2
 obtain rfl:=Option.some.inj e1
 obtain rfl:=Option.some.inj e2
 refine .inr ⟨_,_,_,_,rfl,rfl,.inr ⟨SqT.of (h2.2 i _ _ (List.getElem?_eq_getElem hi) (List.getElem?_eq_getElem hx)),SqT.of (k2.2 i _ _ (List.getElem?_eq_getElem hi2) (List.getElem?_eq_getElem hx))⟩,rfl,fun j a b d1 d2=>?_⟩
 rw [d1] at d2
 obtain rfl:=Option.some.inj d2
 exact ⟨rfl,hf _ _ (List.mem_of_getElem? d1)⟩
end
end Mir



set_option maxHeartbeats 2000000
namespace SrtR
open PySem PyProof.Rows
class RkP where
 G:Keyed→Prop
 nm:Keyed→Int
 kd:SortKind
variable [RkP]
end SrtR



set_option maxHeartbeats 4000000


namespace Mir
open PySem L2 Ch
noncomputable def behM (M:Nat→Nat) (p q e:Nat):Nat :=
 if p = q then (if e = p∨e = M p then e else M e)
 else if e = p then q else if e = q then p
 else if e = M p then (if M q≠q then M q else e)
 else if e = M q then (if M p≠p then M p else e) else M e
noncomputable def beh (ms:List Nat) (p q:Nat):List Nat:=(List.range ms.length).map (behM (at0 ms) p q)
theorem beh_len (ms:List Nat) (p q:Nat):(beh ms p q).length = ms.length:=by unfold beh;rw [List.length_map,List.length_range]
theorem beh_at {ms:List Nat} {p q e:Nat} (h:e < ms.length):at0 (beh ms p q) e = behM (at0 ms) p q e:=by
 unfold beh at0
 simp [List.getD,List.getElem?_map,List.getElem?_range h]
theorem ext_at {a b:List Nat} (h:a.length = b.length) (k:∀ e,e < a.length→at0 a e = at0 b e):a = b:=by
 refine List.ext_getElem? fun i=>?_
 by_cases hi:i < a.length
 ·rw [at0_get hi,at0_get (h ▸ hi),k i hi]
 ·rw [List.getElem?_eq_none (by omega),List.getElem?_eq_none (by omega)]
theorem at0_set' (ms:List Nat) (i j v:Nat):at0 (ms.set i v) j = if j = i∧i < ms.length then v else at0 ms j:=by
 by_cases h:i < ms.length
 ·rw [at0_set h];simp [h]
 ·rw [if_neg (by omega),List.set_eq_of_length_le (by omega)]
noncomputable def Fits (n:Nat) (ms:List Nat) (p q:Int):Prop:=0≤p∧p≤q∧q < 2 * n∧((at0 ms p.toNat:Nat):Int)≠q
noncomputable instance {n:Nat} {ms:List Nat} {p q:Int}:Decidable (Fits n ms p q):=by unfold Fits;infer_instance
theorem Fits.nat {n:Nat} {ms:List Nat} {p q:Int} (h:Fits n ms p q):∃ x y:Nat,p = x∧q = y∧x≤y∧y < 2 * n∧at0 ms x≠y:=by
 obtain ⟨h0,h1,h2,h3⟩:=h
 exact ⟨p.toNat,q.toNat,by omega,by omega,by omega,by omega,by omega⟩
theorem fits_nat {n:Nat} {ms:List Nat} {x y:Nat} (h1:x≤y) (h2:y < 2 * n) (h3:at0 ms x≠y):Fits n ms x y:=by
 refine ⟨by omega,by omega,by omega,?_⟩
 rw [Int.toNat_natCast]
 omega
theorem beh_work {n:Nat} {ms:List Nat} (W:WorkL n ms) {p q:Nat} (hp:p < 2 * n) (hq:q < 2 * n) (hf:at0 ms p≠q):WorkL n (beh ms p q):=by
 have hl:=W.len
 have ip:=W.wk.inv p hp
 have iq:=W.wk.inv q hq
 have lp:=W.wk.lt p hp
 have lq:=W.wk.lt q hq
 refine ⟨W.small,by rw [beh_len];exact hl,fun x hx=>?_,fun x hx=>?_⟩
 ·rw [beh_at (by omega)]
  have lx:=W.wk.lt x hx
  unfold behM
  grind
 ·have lx:=W.wk.lt x hx
  have ix:=W.wk.inv x hx
  have b:behM (at0 ms) p q x < ms.length:=by unfold behM;grind
  rw [beh_at (e:=x) (by omega),beh_at b]
  unfold behM
  grind
noncomputable def lawBeh (ms:List Nat) (p q:Nat):List Nat :=
 let m4:=(((ms.set p p).set q q).set (at0 ms p) (at0 ms p)).set (at0 ms q) (at0 ms q)
 if p = q then m4 else
  let m5:=(m4.set p q).set q p
  if at0 ms p≠p∧at0 ms q≠q then (m5.set (at0 ms p) (at0 ms q)).set (at0 ms q) (at0 ms p) else m5
theorem lawBeh_eq {n : Nat} {ms : List Nat} (W : WorkL n ms) {p q : Nat} (hp : p < 2 * n) (hq : q < 2 * n) (hf : at0 ms p ≠ q) : lawBeh ms p q = beh ms p q := by
  have hl := W.len
  have ip := W.wk.inv p hp
  have iq := W.wk.inv q hq
  have lp := W.wk.lt p hp
  have lq := W.wk.lt q hq
  have ln : (lawBeh ms p q).length = ms.length := by unfold lawBeh; simp only; split; · simp only [List.length_set]
                                                     · split <;> simp only [List.length_set]
  refine ext_at (by rw [ln, beh_len]) fun e he => ?_
  rw [ln] at he
  rw [beh_at he]
  unfold lawBeh behM
  simp only
  by_cases c1 : p = q
  · rw [if_pos c1, if_pos c1]
    simp only [at0_set', List.length_set]
    grind
  · rw [if_neg c1, if_neg c1]
    by_cases c2 : at0 ms p ≠ p ∧ at0 ms q ≠ q
    · rw [if_pos c2]
      simp only [at0_set', List.length_set]
      grind
    · rw [if_neg c2]
      simp only [at0_set', List.length_set]
      grind
noncomputable def frd (ms:List Nat) (p q:Nat):List Nat:=([p,q].filter fun e=>!decide (at0 ms e = e)).map (at0 ms)
noncomputable def progBeh (ms:List Nat) (p q:Nat):List Nat :=
 let fr:=frd ms p q
 clasp (if 0 < fr.length then clasp ms (fr.getD 0 0) (fr.getD (fr.length - 1) 0) else ms) p q
theorem clasp_len (ms:List Nat) (p q:Nat):(clasp ms p q).length = ms.length:=by unfold clasp;simp only [List.length_set]
theorem frd_len (ms:List Nat) (p q:Nat):(frd ms p q).length≤2:=by
 unfold frd
 rw [List.length_map]
 exact List.length_filter_le _ _
theorem frd_cases (ms:List Nat) (p q:Nat):frd ms p q = if at0 ms p = p then (if at0 ms q = q then [] else [at0 ms q]) else (if at0 ms q = q then [at0 ms p] else [at0 ms p,at0 ms q]):=by
 unfold frd
 by_cases a:at0 ms p = p <;> by_cases b:at0 ms q = q <;> simp [a,b]
theorem progBeh_eq {n:Nat} {ms:List Nat} (W:WorkL n ms) {p q:Nat} (hp:p < 2 * n) (hq:q < 2 * n) (hf:at0 ms p≠q):progBeh ms p q = beh ms p q:=by
 have hl:=W.len
 have ip:=W.wk.inv p hp
 have iq:=W.wk.inv q hq
 have lp:=W.wk.lt p hp
 have lq:=W.wk.lt q hq
 have ln:(progBeh ms p q).length = ms.length:=by unfold progBeh;simp only;rw [clasp_len];split <;> first | rw [clasp_len] | rfl
 refine ext_at (by rw [ln,beh_len]) fun e he=>?_
 rw [ln] at he
 rw [beh_at he]
 unfold progBeh behM
 simp only
 rw [frd_cases]
 by_cases a:at0 ms p = p <;> by_cases b:at0 ms q = q
 ·simp [a,b]
  unfold clasp
  simp only [at0_set',List.length_set]
  grind
 ·simp [a,b]
  unfold clasp
  simp only [at0_set',List.length_set]
  grind
 ·simp [a,b]
  unfold clasp
  simp only [at0_set',List.length_set]
  grind
 ·simp [a,b]
  unfold clasp
  simp only [at0_set',List.length_set]
  grind
end Mir
namespace Mir
open PySem L2 Ch
theorem nodup_gone {r:List Nat} {g y:Nat} (nr:r.Nodup) (hg:g < r.length) (hy:r[g]? = some y):y ∉ r.eraseIdx g:=fun z=>by
 obtain ⟨i,hi,e⟩:=List.mem_eraseIdx_iff_getElem?.mp z
 exact hi ((List.getElem?_inj hg nr).mp (hy.trans e.symm)).symm
section
variable (K:PySem.W.Frag)
noncomputable def spFits:Sp:=fun vs H Q _=>∃ (a d:Addr) (n:Nat) (ms:List Nat) (p q:Int),vs = [.ref a,.ref d]∧SqT K H a (nV ms)∧WorkL n ms∧SqT K H d [.int p,.int q]∧Q (.bl (decide (Fits n ms p q))) H
noncomputable def spMisfit (C:Addr):Sp:=fun vs H Q E=>∃ (a d:Addr) (n:Nat) (ms:List Nat) (p q:Int),vs = [.ref a,.ref d]∧SqT K H a (nV ms)∧WorkL n ms∧H d = some (.tup [.int p,.int q])∧Sm p∧Sm q∧(Fits n ms p q→Q .non H)∧(¬ Fits n ms p q→E (.ref C) none H)
noncomputable def spFreedE:Sp:=fun vs H Q _=>∃ (a d:Addr) (n:Nat) (ms:List Nat) (p q:Nat),vs = [.ref a,.ref d]∧SqT K H a (nV ms)∧WorkL n ms∧SqT K H d [.int p,.int q]∧p < 2 * n∧q < 2 * n ∧
 ∀ (l:Addr) (H':Hp),H l = none→Same H H'→H' l = some (.lst (nV (frd ms p q)))→Q (.ref l) H'
noncomputable def spClaspE:Sp:=fun vs H Q _=>∃ (l:Addr) (ms:List Nat) (p q:Nat),vs = [.ref l,.int p,.int q]∧H l = some (.lst (nV ms))∧p < ms.length∧q < ms.length ∧
 ∀ H':Hp,H' l = some (.lst (nV (clasp ms p q)))→(∀ b,b≠l→H' b = H b)→Q .non H'
noncomputable def spRecl (C:Addr):Sp:=fun vs H Q E=>∃ (a d:Addr) (n:Nat) (ms:List Nat) (p q:Int),vs = [.ref a,.ref d]∧SqT K H a (nV ms)∧WorkL n ms∧H d = some (.tup [.int p,.int q])∧Sm p∧Sm q ∧
 (Fits n ms p q→∀ (l:Addr) (H':Hp),H l = none→Same H H'→H' l = some (.tup (nV (beh ms p.toNat q.toNat)))→Q (.ref l) H')∧(¬ Fits n ms p q→E (.ref C) none H)
noncomputable def spLawNumber:Sp:=fun vs H Q _=>∃ (a:Addr) (ns:List Int) (k:Nat),vs = [.ref a,.int k]∧SqL K H a (ns.map V.int)∧k≤1000∧∀ i:Int,Q (.int i) H
noncomputable def spLawWork:Sp:=fun vs H Q _=>∃ (a:Addr) (ns:List Int) (k n:Nat),vs = [.ref a,.int k,.int n]∧SqL K H a (ns.map V.int)∧k≤900∧n≤40∧∀ (l:Addr) (H':Hp) (ms:List Nat),H l = none→Same H H'→WorkL n ms→H' l = some (.tup (nV ms))→Q (.ref l) H'
noncomputable def spLawFits:Sp:=fun vs H Q _=>∃ (a:Addr) (n:Nat) (ms:List Nat) (p q:Int),vs = [.ref a,.int p,.int q]∧SqT K H a (nV ms)∧WorkL n ms∧Q (.bl (decide (Fits n ms p q))) H
noncomputable def spLawBeh:Sp:=fun vs H Q _=>∃ (a:Addr) (n:Nat) (ms:List Nat) (p q:Nat),vs = [.ref a,.int p,.int q]∧SqT K H a (nV ms)∧WorkL n ms∧p < 2 * n∧q < 2 * n∧at0 ms p≠q ∧
 ∀ (l:Addr) (H':Hp),H l = none→Same H H'→H' l = some (.tup (nV (beh ms p q)))→Q (.ref l) H'
end
end Mir

namespace Mir
open PySem L2 Ch
noncomputable def Leads (n:Nat) (ms os:List Nat) (p q:Nat):Prop:=p≤q∧q < 2 * n∧at0 ms p≠q∧beh ms p q = os
noncomputable def IsLeast (n:Nat) (ms os:List Nat) (p q:Nat):Prop:=Leads n ms os p q∧∀ p' q',Leads n ms os p' q'→p < p'∨(p = p'∧q≤q')
section
variable {n:Nat} {ms os:List Nat}
theorem leads_gain (W:WorkL n ms) {p q:Nat} (h:Leads n ms os p q) (c:p≠q):p < at0 os p∧at0 os p = q∧at0 ms p≠at0 os p:=by
 obtain ⟨h1,h2,h3,rfl⟩:=h
 have hl:=W.len
 rw [beh_at (by omega)]
 unfold behM
 grind
theorem leads_open (W:WorkL n ms) {p:Nat} (h:Leads n ms os p p):∀ e,e < 2 * n→¬ (e < at0 os e∧at0 ms e≠at0 os e):=fun e he=>by
 obtain ⟨h1,h2,h3,rfl⟩:=h
 have hl:=W.len
 rw [beh_at (by omega)]
 unfold behM
 grind
end
end Mir





namespace L2
theorem iteY {b:Bool} {A B:Prop} (hb:b = true) (h:A):if b = true then A else B:=by rw [if_pos hb];exact h
theorem iteN {b:Bool} {A B:Prop} (hb:b = false) (h:B):if b = true then A else B:=by rw [if_neg (by rw [hb];decide)];exact h
theorem dInt {i j:Int} (h:i = j):decide (V.int i = V.int j) = true:=decide_eq_true (by rw [h])
theorem dIntN {i j:Int} (h:i≠j):decide (V.int i = V.int j) = false:=decide_eq_false (fun z=>h (by injection z))
end L2



namespace Mir
open PySem L2 Ch
noncomputable def otherP (ms:List Nat) (p q:Nat):Nat×Nat:=(min (at0 ms p) (at0 ms q),max (at0 ms p) (at0 ms q))
noncomputable def leastP (ms:List Nat) (p q:Nat):Nat×Nat :=
 if at0 ms p≠p∧at0 ms q≠q then (if (otherP ms p q).1 < p∨((otherP ms p q).1 = p∧(otherP ms p q).2 < q) then otherP ms p q else (p,q)) else (p,q)
section
variable {n:Nat} {ms:List Nat}
theorem other_leads (W:WorkL n ms) {p q:Nat} (h1:p≤q) (h2:q < 2 * n) (h3:at0 ms p≠q) (c:at0 ms p≠p∧at0 ms q≠q):Leads n ms (beh ms p q) (otherP ms p q).1 (otherP ms p q).2:=by
 have lp:=W.wk.lt p (by omega)
 have lq:=W.wk.lt q h2
 have ip:=W.wk.inv p (by omega)
 have iq:=W.wk.inv q h2
 unfold otherP
 refine ⟨by simp only;omega,by simp only;omega,?_,?_⟩
 ·simp only
  by_cases d:at0 ms p≤at0 ms q
  ·rw [Nat.min_eq_left d,Nat.max_eq_right d,ip]
   grind
  ·rw [Nat.min_eq_right (by omega),Nat.max_eq_left (by omega),iq]
   grind
 ·simp only
  refine ext_at (by rw [beh_len,beh_len]) fun e he=>?_
  rw [beh_len] at he
  rw [beh_at he,beh_at he]
  unfold behM
  by_cases d:at0 ms p≤at0 ms q
  ·rw [Nat.min_eq_left d,Nat.max_eq_right d,ip,iq]
   grind
  ·rw [Nat.min_eq_right (by omega),Nat.max_eq_left (by omega),ip,iq]
   grind
theorem leads_one (W:WorkL n ms) {p q x y:Nat} (h1:p≤q) (h2:q < 2 * n) (h3:at0 ms p≠q) (L:Leads n ms (beh ms p q) x y):(x = p∧y = q)∨((at0 ms p≠p∧at0 ms q≠q)∧x = (otherP ms p q).1∧y = (otherP ms p q).2):=by
 have hl:=W.len
 have ip:=W.wk.inv p (by omega)
 have iq:=W.wk.inv q h2
 have vb:∀ e,e < 2 * n→at0 (beh ms p q) e = behM (at0 ms) p q e:=fun e he=>beh_at (by omega)
 have lx:x < 2 * n:=by have:=L.1;have:=L.2.1;omega
 unfold otherP
 simp only
 by_cases c:x = y
 ·subst c
  have hx:=L.2.2.1
  have ix:=W.wk.inv x lx
  have no:=leads_open W L
  have epq:p = q:=Classical.byContradiction fun z=>no p (by omega) (by
   rw [vb p (by omega)]
   unfold behM
   rw [if_neg z,if_pos rfl]
   exact ⟨by omega,h3⟩)
  subst epq
  have vp:at0 (beh ms x x) p = at0 (beh ms p p) p:=by rw [L.2.2.2]
  rw [beh_at (by omega),beh_at (by omega)] at vp
  unfold behM at vp
  have r1:(if p = p∨p = at0 ms p then p else at0 ms p) = p:=if_pos (.inl rfl)
  rw [if_pos rfl,if_pos rfl,r1] at vp
  by_cases e1:p = x
  ·exact .inl ⟨e1.symm,e1.symm⟩
  ·have e2:p = at0 ms x:=Classical.byContradiction fun z=>by
    rw [if_neg (by rintro (y | y);exact e1 y;exact z y)] at vp
    exact h3 vp
   have e3:at0 ms p = x:=by rw [e2];exact ix
   exact .inr ⟨⟨h3,h3⟩,by omega,by omega⟩
 ·obtain ⟨g1,g2,g3⟩:=leads_gain W L c
  rw [vb x lx] at g1 g2 g3
  unfold behM at g1 g2 g3
  by_cases epq:p = q
  ·exfalso
   rw [if_pos epq] at g2 g3 g1
   by_cases e1:x = p∨x = at0 ms p
   ·rw [if_pos e1] at g2;exact c g2
   ·rw [if_neg e1] at g3;exact g3 rfl
  ·rw [if_neg epq] at g1 g2 g3
   by_cases e1:x = p
   ·rw [if_pos e1] at g2
    exact .inl ⟨e1,g2.symm⟩
   ·rw [if_neg e1] at g1 g2 g3
    by_cases e2:x = q
    ·rw [if_pos e2] at g1
     omega
    ·rw [if_neg e2] at g1 g2 g3
     by_cases e3:x = at0 ms p
     ·rw [if_pos e3] at g1 g2 g3
      by_cases e4:at0 ms q≠q
      ·rw [if_pos e4] at g1 g2
       exact .inr ⟨⟨fun z=>e1 (by rw [e3];exact z),e4⟩,by omega,by omega⟩
      ·rw [if_neg e4] at g2
       exact absurd g2 c
     ·rw [if_neg e3] at g1 g2 g3
      by_cases e4:x = at0 ms q
      ·rw [if_pos e4] at g1 g2 g3
       by_cases e5:at0 ms p≠p
       ·rw [if_pos e5] at g1 g2
        exact .inr ⟨⟨e5,fun z=>e2 (by rw [e4];exact z)⟩,by omega,by omega⟩
       ·rw [if_neg e5] at g2
        exact absurd g2 c
      ·rw [if_neg e4] at g3
       exact absurd rfl g3
theorem leastP_least (W:WorkL n ms) {p q:Nat} (h1:p≤q) (h2:q < 2 * n) (h3:at0 ms p≠q):IsLeast n ms (beh ms p q) (leastP ms p q).1 (leastP ms p q).2:=by
 have L0:Leads n ms (beh ms p q) p q:=⟨h1,h2,h3,rfl⟩
 have one:∀ p' q',Leads n ms (beh ms p q) p' q'→(p' = p∧q' = q)∨((at0 ms p≠p∧at0 ms q≠q)∧p' = (otherP ms p q).1∧q' = (otherP ms p q).2):=fun p' q' L=>leads_one W h1 h2 h3 L
 unfold leastP
 by_cases c:at0 ms p≠p∧at0 ms q≠q
 ·rw [if_pos c]
  have L1:=other_leads W h1 h2 h3 c
  generalize otherP ms p q = o at L1 one
  obtain ⟨o1,o2⟩:=o
  by_cases d:o1 < p∨(o1 = p∧o2 < q)
  ·rw [if_pos d]
   refine ⟨L1,fun p' q' L=>?_⟩
   rcases one p' q' L with ⟨e1,e2⟩ | ⟨_,e1,e2⟩
   ·show o1 < p'∨(o1 = p'∧o2≤q')
    omega
   ·exact .inr ⟨e1.symm,Nat.le_of_eq e2.symm⟩
  ·rw [if_neg d]
   refine ⟨L0,fun p' q' L=>?_⟩
   rcases one p' q' L with ⟨e1,e2⟩ | ⟨_,e1,e2⟩
   ·exact .inr ⟨e1.symm,Nat.le_of_eq e2.symm⟩
   ·show p < p'∨(p = p'∧q≤q')
    simp only at e1 e2
    omega
 ·rw [if_neg c]
  refine ⟨L0,fun p' q' L=>?_⟩
  rcases one p' q' L with ⟨e1,e2⟩ | ⟨z,_⟩
  ·exact .inr ⟨e1.symm,Nat.le_of_eq e2.symm⟩
  ·exact absurd z c
end
end Mir





set_option maxHeartbeats 1000000
namespace PySem.SeqAt
open AutoSeq1 (wpAny_loadPart')
open MeetsSeq MeetsSeq2 MeetsSeq3 SeqRoads2
theorem tuple_lt2 (l m:Addr) (a b c d:Int) (t1 t2 t3 t4:Tok) (n n2:Nat) (dd dd2:Option Addr) (sl sl2:Array (Option Value)) :
  Meets (Builtin.«tuple.__lt__» ⟨[.ref l,.ref m],[]⟩)
   (fun A R s=>s.heap.get? l = some { cls:=.type "tuple",dict:=dd,data:=.seq #[.int a t1,.int b t2] n,slots:=sl }∧s.heap.get? m = some { cls:=.type "tuple",dict:=dd2,data:=.seq #[.int c t3,.int d t4] n2,slots:=sl2 } ∧
    R (.ok (.ret (.bool (decide (a < c∨a = c∧b < d))))) s) :=
 .of_wp fun prog w A R s h=>by
  obtain ⟨hp,g,dr,tk,os⟩:=s
  obtain ⟨hl,hb,h⟩:=h
  have f2:=AutoSeq1.sub_tuple_tuple
  have rc:∀ (x y:Int) (u v:Tok) (Q':Value→Shared→Prop) (E':Value→Shared→Prop) (s':Shared),Q' (.bool (decide (x < y))) s'→wpAny (model prog w) A.in1 (richCompare .Lt (.int x u) (.int y v)) Q' E' s':=fun x y u v Q' E' s' q=>wpAny_lt_int q
  by_cases e1:a = c
  ·have g1:(a == c) = true:=beq_iff_eq.mpr e1
   by_cases e2:b = d
   ·have g2:(b == d) = true:=beq_iff_eq.mpr e2
    have g3:decide (a < c∨a = c∧b < d) = false:=decide_eq_false (by omega)
    rw [g3] at h
    wp_walk using wpAny_loadPart' hl,wpAny_loadPart' hb,wpAny_eqBool_int
    exact ⟨_,rfl,h⟩
   ·have g2:(b == d) = false:=beq_eq_false_iff_ne.mpr e2
    have g3:decide (a < c∨a = c∧b < d) = decide (b < d):=decide_eq_decide.mpr (by omega)
    rw [g3] at h
    wp_walk using wpAny_loadPart' hl,wpAny_loadPart' hb,wpAny_eqBool_int,rc
    exact ⟨_,rfl,h⟩
  ·have g1:(a == c) = false:=beq_eq_false_iff_ne.mpr e1
   have g3:decide (a < c∨a = c∧b < d) = decide (a < c):=decide_eq_decide.mpr (by omega)
   rw [g3] at h
   wp_walk using wpAny_loadPart' hl,wpAny_loadPart' hb,wpAny_eqBool_int,rc
   exact ⟨_,rfl,h⟩
theorem rc_lt2 {prog:Program} {w:World} {A:Around} {s:Shared} {E:Value→Shared→Prop} {Q:Value→Shared→Prop} {l m:Addr} {a b c d:Int} {t1 t2 t3 t4:Tok} (hl:s.heap.IsTuple l #[.int a t1,.int b t2]) (hb:s.heap.IsTuple m #[.int c t3,.int d t4]) (hu:A.units < cLine)
  (h:Q (.bool (decide (a < c∨a = c∧b < d))) s):wpAny (model prog w) A (richCompare .Lt (.ref l) (.ref m)) Q E s:=by
 obtain ⟨⟨cl,d1,da,sl⟩,ho,rfl,n,rfl⟩:=id hl
 obtain ⟨⟨cl2,d2,da2,sl2⟩,ho2,rfl,n2,rfl⟩:=id hb
 exact richCompare_meets_room (op:=.Lt) ⟨_,ho,rfl⟩ ⟨_,ho2,rfl⟩ F.slot_tuple_lt F.entry_tuple_lt (F.args_tuple_lt_2 _ _) (tuple_lt2 l m a b c d t1 t2 t3 t4 n n2 d1 d2 sl sl2)
  ⟨ho,ho2,show Value.bool (decide (a < c∨a = c∧b < d))≠Value.notImplemented∧Q (.bool (decide (a < c∨a = c∧b < d))) s from ⟨(fun x=>nomatch x),h⟩⟩ hu
end PySem.SeqAt

set_option maxHeartbeats 1000000
namespace PySem
section
variable {prog:Program} {w:World} {A:Around} {E:Value→Shared→Prop} {s:Shared}
theorem min_loop2 {I L:Addr} {fp wr:List Addr} {St:Nat→Heap→Prop} {x y:Value} {r:Bool} {R:Result→Shared→Prop} {z:Shared} {c:Nat} (W:Walks prog w A.in1 I fp wr 2 (fun i v=>(#[x,y]:Array Value)[i]? = some v) St) (nL:L ∉ fp) (st:St 0 z.heap)
  (hL:z.heap.get? L = some { cls:=.type "list",dict:=none,data:=.seq #[] c,slots:=#[] })
  (hcmp:∀ (h':Heap) (tk:Nat) (E':Value→Shared→Prop) (Q':Value→Shared→Prop),(∀ q o,q ∉ wr→q≠L→z.heap.get? q = some o→h'.get? q = some o)→Q' (.bool r) { z with heap:=h',toks:=tk }→wpAny (model prog w) A.in1 (richCompare .Lt y x) Q' E' { z with heap:=h',toks:=tk })
  (hR:∀ h' tk,(∀ q o,q ∉ wr→q≠L→z.heap.get? q = some o→h'.get? q = some o)→R (.ok (.ret (if r = true then y else x))) { z with heap:=h',toks:=tk }) :
  codeAny (model prog w) A (.builtin "min.loop" ⟨[.ref I,.none,.ref L],[]⟩) R z:=by
 have nm:(toString "min" ++ toString ".loop":String) = "min.loop":=by decide
 have nw:L ∉ wr:=fun q=>nL (W.sub _ q)
 have fin:∀ (v:Value) (h1:Heap) (k1 c1:Nat),St 2 h1→h1.get? L = some { cls:=.type "list",dict:=none,data:=.seq #[v,v] c1,slots:=#[] }→(∀ q o,q ∉ wr→q≠L→z.heap.get? q = some o→h1.get? q = some o)→v = (if r = true then y else x) →
   codeAny (model prog w) A (.builtin "min.loop" ⟨[.ref I,.none,.ref L],[]⟩) R { z with heap:=h1,toks:=k1 }:=fun v h1 k1 c1 s1 l1 kp ev=>by
  refine codeAny_builtin F.entry_min_loop ?_
  rw [Around.under_plainId F.plain_min_loop _]
  show wpAny _ A.in1 (seqItems? (.ref L) >>= _) _ _ { z with heap:=h1,toks:=k1 }
  refine wpAny_bind (wpAny_seqItems l1 rfl ?_)
  show wpAny _ A.in1 (tryCatch (pyNext (.ref I)) _ >>= _) _ _ { z with heap:=h1,toks:=k1 }
  refine wpAny_bind (wpAny_tryCatch (W.done _ _ _ s1 fun h2 k2 kq=>?_))
  have l2:=kq L _ nw l1
  show wpAny _ A.in1 (updateSeq L (fun _=>#[]) >>= _) _ _ _
  refine wpAny_bind (wpAny_updateSeq l2 rfl (wpAny_bind (wpAny_letGo (wpAny_pure ?_))))
  rw [ev]
  exact hR _ k2 fun q o q1 q2 e=>(Heap.get?_update_other _ _ (Ne.symm q2)).trans (kq q o q1 (kp q o q1 q2 e))
 refine codeAny_builtin F.entry_min_loop ?_
 rw [Around.under_plainId F.plain_min_loop _]
 show wpAny _ A.in1 (seqItems? (.ref L) >>= _) _ _ z
 refine wpAny_bind (wpAny_seqItems hL rfl ?_)
 show wpAny _ A.in1 (tryCatch (pyNext (.ref I)) _ >>= _) _ _ z
 refine wpAny_bind (wpAny_tryCatch (W.item 0 z _ _ (by decide) st fun v h1 k1 pv s1 kq=>?_))
 obtain rfl:v = x:=(Option.some.inj pv).symm
 have l1:=kq L _ nw hL
 show wpAny _ A.in1 (updateSeq L (fun _=>#[v,v]) >>= _) _ _ _
 refine wpAny_bind (wpAny_updateSeq l1 rfl ?_)
 rw [nm]
 refine wpAny_pure ⟨plainId_quiet F.plain_min_loop _,codeAny_builtin F.entry_min_loop ?_⟩
 rw [Around.under_plainId F.plain_min_loop _]
 obtain ⟨c2,l2⟩:∃ c2,(h1.update L (Obj.mapSeq fun _=>#[v,v])).get? L = some { cls:=.type "list",dict:=none,data:=.seq #[v,v] c2,slots:=#[] }:=⟨_,PyProof.Rows.get?_update_seq l1 fun _=>#[v,v]⟩
 have s2:St 1 _:=W.frame 1 h1 (h1.update L (Obj.mapSeq fun _=>#[v,v])) s1 fun q hq o e=>(Heap.get?_update_other _ _ (fun u:L = q=>nL (by rw [u];exact hq))).trans e
 have kp2:∀ q o,q ∉ wr→q≠L→z.heap.get? q = some o→(h1.update L (Obj.mapSeq fun _=>#[v,v])).get? q = some o:=fun q o q1 q2 e=>(Heap.get?_update_other _ _ (Ne.symm q2)).trans (kq q o q1 e)
 show wpAny (model prog w) A.in1 _ _ _ { z with heap:=h1.update L (Obj.mapSeq fun _=>#[v,v]),toks:=k1 }
 generalize h1.update L (Obj.mapSeq fun _=>#[v,v]) = h2 at l2 s2 kp2
 show wpAny _ A.in1 (seqItems? (.ref L) >>= _) _ _ { z with heap:=h2,toks:=k1 }
 refine wpAny_bind (wpAny_seqItems l2 rfl ?_)
 show wpAny _ A.in1 (tryCatch (pyNext (.ref I)) _ >>= _) _ _ { z with heap:=h2,toks:=k1 }
 refine wpAny_bind (wpAny_tryCatch (W.item 1 _ _ _ (by decide) s2 fun u h3 k3 pu s3 kr=>?_))
 obtain rfl:u = y:=(Option.some.inj pu).symm
 have l3:=kr L _ nw l2
 have kp3:∀ q o,q ∉ wr→q≠L→z.heap.get? q = some o→h3.get? q = some o:=fun q o q1 q2 e=>kr q o q1 (kp2 q o q1 q2 e)
 show wpAny _ A.in1 (tryCatch (holding [u,u] (richCompare .Lt u v >>= _)) _ >>= _) _ _ { z with heap:=h3,toks:=k3 }
 refine wpAny_bind (wpAny_tryCatch (wpAny_holding (wpAny_bind (hcmp h3 k3 _ _ kp3 ?_))))
 refine wpAny_bind (wpAny_holding (wpAny_truthy_bool (wpAny_bind (wpAny_letGo (wpAny_pure ?_)))))
 cases r with
 | true =>
  simp only [if_true]
  refine wpAny_bind (wpAny_updateSeq l3 rfl (wpAny_bind (wpAny_letGo ?_)))
  rw [nm]
  obtain ⟨c4,l4⟩:∃ c4,(h3.update L (Obj.mapSeq fun _=>#[u,u])).get? L = some { cls:=.type "list",dict:=none,data:=.seq #[u,u] c4,slots:=#[] }:=⟨_,PyProof.Rows.get?_update_seq l3 fun _=>#[u,u]⟩
  refine wpAny_pure ⟨plainId_quiet F.plain_min_loop _,fin u _ k3 c4 (W.frame 2 h3 _ s3 fun q hq o e=>(Heap.get?_update_other _ _ (fun g:L = q=>nL (by rw [g];exact hq))).trans e) l4 (fun q o q1 q2 e=>(Heap.get?_update_other _ _ (Ne.symm q2)).trans (kp3 q o q1 q2 e)) rfl⟩
 | false =>
  simp only [Bool.false_eq_true,if_false]
  refine wpAny_bind (wpAny_letGo ?_)
  rw [nm]
  exact wpAny_pure ⟨plainId_quiet F.plain_min_loop _,fin v h3 k3 c2 s3 l3 kp3 rfl⟩
theorem min_two_at {a b:Value} {r:Bool} {Q:Value→Shared→Prop} (hh:A.handled = none)
  (hcmp:∀ (h':Heap) (tk:Nat) (E':Value→Shared→Prop) (Q':Value→Shared→Prop),(∀ c o,s.heap.get? c = some o→h'.get? c = some o)→Q' (.bool r) { s with heap:=h',toks:=tk }→wpAny (model prog w) A.in1 (richCompare .Lt b a) Q' E' { s with heap:=h',toks:=tk })
  (h:∀ h' tk,(∀ c o,s.heap.get? c = some o→h'.get? c = some o)→Q (if r = true then b else a) { s with heap:=h',toks:=tk }) :
  wpAny (model prog w) A (call (.builtin "min") [a,b]) Q E s:=by
 have nm:(toString "min" ++ toString ".loop":String) = "min.loop":=by decide
 have hT:(s.heap.push { cls:=.type "tuple",data:=.seq #[a,b] }).IsTuple s.heap.objs.size #[a,b]:=⟨_,Heap.get?_push_size _ rfl,rfl,0,rfl⟩
 have z1:(s.heap.push { cls:=.type "tuple",data:=.seq #[a,b] }).objs.size = s.heap.objs.size + 1:=Heap.size_push ..
 refine call_function_tree F.kind_min F.plain_min F.entry_min (F.args_min2 _ _) ?_
 refine wpAny_bind (m:=Builtin.Builtins.bindParams "min" ["key","default"] 0 ⟨[],[]⟩) (wpAny_of_eq (show Builtin.Builtins.bindParams "min" ["key","default"] 0 ⟨[],[]⟩ = pure [none,none] from rfl) (wpAny_bind (m:=newTuple [a,b]) (wpAny_newObj_type (wpAny_bind (wpAny_pyIter_tuple hT ?_)))))
 have W:=Walks.tuple (prog:=prog) (w:=w) (A:=A.in1) hh (s.heap.objs.size + 1) s.heap.objs.size (Nat.ne_of_lt (Nat.lt_succ_self _)) #[a,b]
 show wpAny (model prog w) A.in1 _ _ _ { s with heap:=(s.heap.push { cls:=.type "tuple",data:=.seq #[a,b] }).push { cls:=.type "tuple_iterator",data:=.fields #[.ref s.heap.objs.size,.int 0 0] } }
 rw [z1]
 refine wpAny_bind (wpAny_newObj_type ?_)
 rw [nm]
 have z2:((s.heap.push { cls:=.type "tuple",data:=.seq #[a,b] }).push { cls:=.type "tuple_iterator",data:=.fields #[.ref s.heap.objs.size,.int 0 0] }).objs.size = s.heap.objs.size + 2:=by rw [Heap.size_push,z1]
 have g1:((s.heap.push { cls:=.type "tuple",data:=.seq #[a,b] }).push { cls:=.type "tuple_iterator",data:=.fields #[.ref s.heap.objs.size,.int 0 0] }).get? (s.heap.objs.size + 1) = some { cls:=.type "tuple_iterator",data:=.fields #[.ref s.heap.objs.size,.int 0 0] }:=z1 ▸ Heap.get?_push_size _ rfl
 have up:∀ q o,s.heap.get? q = some o→(((s.heap.push { cls:=.type "tuple",data:=.seq #[a,b] }).push { cls:=.type "tuple_iterator",data:=.fields #[.ref s.heap.objs.size,.int 0 0] }).push { cls:=.type "list",data:=.seq #[] }).get? q = some o∧q ∉ [s.heap.objs.size + 1]∧q≠s.heap.objs.size + 2:=fun q o e=>by
  have lt:q < s.heap.objs.size:=Heap.lt_size e
  refine ⟨Heap.get?_push_of_some _ (Heap.get?_push_of_some _ (Heap.get?_push_of_some _ e)),fun y=>?_,Nat.ne_of_lt (Nat.lt_succ_of_lt (Nat.lt_succ_of_lt lt))⟩
  exact absurd (List.mem_singleton.mp y) (Nat.ne_of_lt (Nat.lt_succ_of_lt lt))
 refine wpAny_pure ⟨plainId_quiet F.plain_min_loop _,?_⟩
 show codeAny (model prog w) A (.builtin "min.loop" ⟨[.ref (s.heap.objs.size + 1),.none,.ref ((s.heap.push { cls:=.type "tuple",data:=.seq #[a,b] }).push { cls:=.type "tuple_iterator",data:=.fields #[.ref s.heap.objs.size,.int 0 0] }).objs.size],[]⟩) _ { s with heap:=(((s.heap.push { cls:=.type "tuple",data:=.seq #[a,b] }).push { cls:=.type "tuple_iterator",data:=.fields #[.ref s.heap.objs.size,.int 0 0] }).push { cls:=.type "list",data:=.seq #[] }) }
 rw [z2]
 refine min_loop2 (r:=r) W (fun y=>?_) ⟨⟨_,Heap.get?_push_of_some _ g1,rfl,rfl⟩,(hT.push _).push _⟩ (c:=0) (z2 ▸ Heap.get?_push_size _ rfl) (fun h' tk E' Q' kp q=>?_) fun h' tk kp=>?_
 ·rcases List.mem_cons.mp y with y | y
  ·exact absurd y (Nat.ne_of_gt (Nat.lt_succ_self _))
  ·exact absurd (List.mem_singleton.mp y) (Nat.ne_of_gt (Nat.lt_succ_of_lt (Nat.lt_succ_self _)))
 ·exact hcmp h' tk E' Q' (fun q o e=>kp q o (up q o e).2.1 (up q o e).2.2 (up q o e).1) q
 ·exact h h' tk fun q o e=>kp q o (up q o e).2.1 (up q o e).2.2 (up q o e).1
end
end PySem
namespace L2
open PySem PySem.Spec PyProof.Rows
section
variable {X:Cx}
theorem call_min2T (hc:X.calm = true) (hu:X.A.units + 1 < cLine):CallR X (.builtin "min") (fun xs H Q=>∃ (p q:Addr) (a b c d:Int),xs = [.ref p,.ref q]∧SqT X.K H p [.int a,.int b]∧SqT X.K H q [.int c,.int d]∧Q (.ref (if c < a∨c = a∧d < b then q else p)) H):=by
 intro pins s σ H xs us Q I r h
 obtain ⟨p,q,a,b,c,d,rfl,hp,hq,k⟩:=h
 obtain ⟨u,w',rfl,ru,rw'⟩:=vals2 r
 cases ru
 cases rw'
 obtain ⟨i1,v1,p1,_⟩:=I.tuple hp
 obtain ⟨i2,v2,p2,_⟩:=I.tuple hq
 obtain ⟨x1,x2,rfl,⟨t1,rfl⟩,⟨t2,rfl⟩⟩:=vals2 v1
 obtain ⟨y1,y2,rfl,⟨t3,rfl⟩,⟨t4,rfl⟩⟩:=vals2 v2
 have g1:s.heap.IsTuple p #[.int a t1,.int b t2]:=p1
 have g2:s.heap.IsTuple q #[.int c t3,.int d t4]:=p2
 refine min_two_at (r:=decide (c < a∨c = a∧d < b)) (I.ok.hd hc) (fun h' tk E' Q' kp y=>?_) fun h' tk kp=>?_
 ·exact SeqAt.rc_lt2 (s:={ s with heap:=h',toks:=tk }) (g2.at fun o e=>kp _ _ e) (g1.at fun o e=>kp _ _ e) (by show X.A.in1.units < cLine;exact hu) y
 ·refine ⟨.ref (if c < a∨c = a∧d < b then q else p),H,I.kept kp,?_,k⟩
  by_cases e:c < a∨c = a∧d < b
  ·rw [if_pos e,if_pos (decide_eq_true e)];rfl
  ·rw [if_neg e,if_neg (by rw [decide_eq_false e];decide)];rfl
theorem lst2 {its:List Value} {x y:Int} (r:Vals [.int x,.int y] its):∃ t u,its = [.int x t,.int y u]:=by
 obtain ⟨a,b,rfl,⟨t,rfl⟩,⟨u,rfl⟩⟩:=vals2 r
 exact ⟨t,u,rfl⟩
theorem call_minL2 (hc:X.calm = true):CallR X (.builtin "min") (fun xs H Q=>∃ (p:Addr) (x y:Int),xs = [.ref p]∧SqL X.K H p [.int x,.int y]∧Q (.int (min x y)) H):=by
 intro pins s σ H xs us Q I r h
 obtain ⟨p,x,y,rfl,hq,q⟩:=h
 obtain ⟨u,rfl,ru⟩:=r.one
 cases ru
 obtain ⟨its,rv,pl,hz⟩:=I.list hq
 obtain ⟨t1,t2,rfl⟩:=lst2 rv
 have hl:=pl.isList
 have hlt:p < s.heap.objs.size:=let ⟨_,e,_⟩:=hl;Heap.lt_size e
 refine call_min_walk (wpAny_pyIter_list hl ?_)
 refine ⟨_,_,_,_,_,_,_,rfl,Walks.list (A:=X.A.in1) (I.ok.hd hc) s.heap.objs.size p (Nat.ne_of_lt hlt) #[.int x t1,.int y t2],⟨⟨_,Heap.get?_push_size _ rfl,rfl,rfl⟩,hl.push _⟩,fun b hb=>?_,(by show 0 < 2;decide),
  CmpOf.ints_lt (fun i=>if i = 0 then x else y) (fun i v hv=>?_),fun v h' tk hP hk=>?_⟩
 ·rw [Heap.size_push]
  rcases List.mem_cons.mp hb with e | e
  ·rw [e];exact Nat.lt_succ_self _
  ·rw [List.mem_singleton.mp e];exact Nat.lt_succ_of_lt hlt
 ·match i,hv with
  | 0,hv=>exact ⟨t1,(Option.some.inj hv).symm⟩
  | 1,hv=>exact ⟨t2,(Option.some.inj hv).symm⟩
  | i + 2,hv=>exact absurd hv (by simp)
 ·have hold:∀ c o,s.heap.get? c = some o→h'.get? c = some o:=fun c o e=>hk c o (fun z=>absurd (List.mem_singleton.mp z) (Nat.ne_of_lt (Heap.lt_size e))) (Heap.get?_push_of_some _ e)
  refine ⟨.int (min x y),H,I.kept hold,?_,q⟩
  by_cases g:y < x
  ·have e:argBest (fun i j=>decide ((if i = 0 then x else y) < (if j = 0 then x else y))) 1 = 1:=by simp [argBest,g]
   have hP:(#[.int x t1,.int y t2]:Array Value)[argBest (fun i j=>decide ((if i = 0 then x else y) < (if j = 0 then x else y))) 1]? = some v:=hP
   rw [e] at hP
   have hv:v = .int y t2:=(Option.some.inj hP).symm
   exact ⟨t2,by rw [hv,Int.min_eq_right (by omega)]⟩
  ·have e:argBest (fun i j=>decide ((if i = 0 then x else y) < (if j = 0 then x else y))) 1 = 0:=by simp [argBest,g]
   have hP:(#[.int x t1,.int y t2]:Array Value)[argBest (fun i j=>decide ((if i = 0 then x else y) < (if j = 0 then x else y))) 1]? = some v:=hP
   rw [e] at hP
   have hv:v = .int x t1:=(Option.some.inj hP).symm
   exact ⟨t1,by rw [hv,Int.min_eq_left (by omega)]⟩
theorem call_maxL2 (hc:X.calm = true):CallR X (.builtin "max") (fun xs H Q=>∃ (p:Addr) (x y:Int),xs = [.ref p]∧SqL X.K H p [.int x,.int y]∧Q (.int (max x y)) H):=by
 intro pins s σ H xs us Q I r h
 obtain ⟨p,x,y,rfl,hq,q⟩:=h
 obtain ⟨u,rfl,ru⟩:=r.one
 cases ru
 obtain ⟨its,rv,pl,hz⟩:=I.list hq
 obtain ⟨t1,t2,rfl⟩:=lst2 rv
 have hl:=pl.isList
 have hlt:p < s.heap.objs.size:=let ⟨_,e,_⟩:=hl;Heap.lt_size e
 refine call_max_walk (wpAny_pyIter_list hl ?_)
 refine ⟨_,_,_,_,_,_,_,rfl,Walks.list (A:=X.A.in1) (I.ok.hd hc) s.heap.objs.size p (Nat.ne_of_lt hlt) #[.int x t1,.int y t2],⟨⟨_,Heap.get?_push_size _ rfl,rfl,rfl⟩,hl.push _⟩,fun b hb=>?_,(by show 0 < 2;decide),
  CmpOf.ints_gt (fun i=>if i = 0 then x else y) (fun i v hv=>?_),fun v h' tk hP hk=>?_⟩
 ·rw [Heap.size_push]
  rcases List.mem_cons.mp hb with e | e
  ·rw [e];exact Nat.lt_succ_self _
  ·rw [List.mem_singleton.mp e];exact Nat.lt_succ_of_lt hlt
 ·match i,hv with
  | 0,hv=>exact ⟨t1,(Option.some.inj hv).symm⟩
  | 1,hv=>exact ⟨t2,(Option.some.inj hv).symm⟩
  | i + 2,hv=>exact absurd hv (by simp)
 ·have hold:∀ c o,s.heap.get? c = some o→h'.get? c = some o:=fun c o e=>hk c o (fun z=>absurd (List.mem_singleton.mp z) (Nat.ne_of_lt (Heap.lt_size e))) (Heap.get?_push_of_some _ e)
  refine ⟨.int (max x y),H,I.kept hold,?_,q⟩
  by_cases g:y > x
  ·have e:argBest (fun i j=>decide ((if i = 0 then x else y) > (if j = 0 then x else y))) 1 = 1:=by simp [argBest,g]
   have hP:(#[.int x t1,.int y t2]:Array Value)[argBest (fun i j=>decide ((if i = 0 then x else y) > (if j = 0 then x else y))) 1]? = some v:=hP
   rw [e] at hP
   have hv:v = .int y t2:=(Option.some.inj hP).symm
   exact ⟨t2,by rw [hv,Int.max_eq_right (by omega)]⟩
  ·have e:argBest (fun i j=>decide ((if i = 0 then x else y) > (if j = 0 then x else y))) 1 = 0:=by simp [argBest,g]
   have hP:(#[.int x t1,.int y t2]:Array Value)[argBest (fun i j=>decide ((if i = 0 then x else y) > (if j = 0 then x else y))) 1]? = some v:=hP
   rw [e] at hP
   have hv:v = .int x t1:=(Option.some.inj hP).symm
   exact ⟨t1,by rw [hv,Int.max_eq_left (by omega)]⟩
end
end L2



namespace Mir
open PySem L2
noncomputable def pf (c:Nat×Nat):List V:=[.int (c.1:Nat),.int (c.2:Nat)]
variable (K:PySem.W.Frag)
noncomputable def spLeastPair:Sp:=fun vs H Q _=>∃ (a d:Addr) (n p q:Nat) (ms:List Nat),vs = [.ref a,.ref d]∧SqT K H a (nV ms)∧WorkL n ms∧SqT K H d [.int (p:Nat),.int (q:Nat)]∧p < 2 * n∧q < 2 * n ∧
 ∀ (l:Addr) (H':Hp),H l = none→Same H H'→H' l = some (.tup (pf (leastP ms p q)))→Q (.ref l) H'
end Mir




namespace Mir
open PySem L2
open Classical
section
variable {n:Nat} {ms os:List Nat}
theorem fits_iff {p q:Nat} (h1:p≤q) (h2:q < 2 * n):Fits n ms (p:Nat) (q:Nat)↔at0 ms p≠q:=by
 constructor
 ·intro h z
  exact h.2.2.2 (by rw [Int.toNat_natCast,z])
 ·intro h
  exact fits_nat h1 h2 h
end
end Mir



set_option maxHeartbeats 4000000





namespace Mir
open PySem L2
open Classical
variable (K:PySem.W.Frag)
noncomputable def spToldD (C:Addr):Sp:=fun vs H Q E=>∃ (a d:Addr) (n p q:Nat) (ms:List Nat),vs = [.ref a,.ref d]∧SqT K H a (nV ms)∧WorkL n ms∧H d = some (.tup [.int (p:Nat),.int (q:Nat)])∧p≤q∧q < 2 * n ∧
 (at0 ms p≠q→∀ (l:Addr) (H':Hp),H l = none→Same H H'→H' l = some (.tup (pf (leastP ms p q)))→Q (.ref l) H')∧(at0 ms p = q→E (.ref C) none H)
end Mir

namespace L2
open PySem PySem.Spec PyProof.Rows
noncomputable def tupI (H:Hp) (t:Addr):List Int:=match H t with
 | some (.tup xs)=>xs.map fun v=>match v with
  | .int i=>i
  | _=>0
 | _=>[]
theorem tupI_of {H:Hp} {t:Addr} {ns:List Int} (h:H t = some (.tup (ns.map V.int))):tupI H t = ns:=by
 unfold tupI
 rw [h]
 show (ns.map V.int).map _ = ns
 rw [List.map_map]
 exact List.map_id' ns
noncomputable def eqT (H:Hp) (ns:List Int):Value→Bool
 | .ref t=>decide (tupI H t = ns)
 | _=>false
theorem vals_refsI:∀ {ts:List Addr} {its:List Value},Vals (ts.map V.ref) its→its = ts.map Value.ref
 | [],_,.nil=>rfl
 | t :: ts,_,.cons h r=>by rw [vals_refsI r];cases h;rfl
noncomputable def rInT:R2:=fun x y H Q=>∃ (t p:Addr) (ts:List Addr) (ns:List Int) (rows:List (List Int)),x = .ref t∧y = .ref p∧H t = some (.tup (ns.map V.int))∧H p = some (.lst (ts.map V.ref))∧ts.length = rows.length∧(∀ (i:Nat) (u:Addr) (r:List Int),ts[i]? = some u→rows[i]? = some r→H u = some (.tup (r.map V.int)))∧Q (.bl (decide (ns∈rows))) H
section
variable {X:Cx}
theorem op_in_tups {K:PySem.W.Frag} (hK:X.K = K) (hu:X.A.units + 1 < cLine):OpR X (compareOp .In) rInT:=by
 subst hK
 intro pins s σ H x y v u Q I rx ry h
 obtain ⟨t,p,ts,ns,rows,rfl,rfl,ht,hp,hl,hr,q⟩:=h
 cases rx
 cases ry
 obtain ⟨its,r,pl,hz⟩:=I.list (SqL.of hp)
 have er:its = ts.map Value.ref:=vals_refsI r
 subst er
 have row:∀ w∈ts,∃ rr∈rows,H w = some (.tup (rr.map V.int)):=fun w hw=>by
  obtain ⟨i,hi,rfl⟩:=List.getElem_of_mem hw
  exact ⟨rows[i]'(by omega),List.getElem_mem _,hr i _ _ (List.getElem?_eq_getElem hi) (List.getElem?_eq_getElem (by omega))⟩
 refine SeqAt.in_listAt (eqT H ns) pl.isList (fun w hw=>?_) ⟨.bl _,H,I,rfl,?_⟩
 ·obtain ⟨a,ha,rfl⟩:=List.mem_map.mp (show w∈ts.map Value.ref by simpa using hw)
  obtain ⟨rr,_,e⟩:=row a ha
  have z:=eqAt_tupD (A:=X.A.in1) (ns:=rr) (ms:=ns) I (by show X.A.units + 1 < cLine;exact hu) (SqT.of e) (SqT.of ht)
  show SeqAt.EqAt _ _ _ _ (decide (tupI H a = ns))
  rw [tupI_of e]
  exact z
 ·have e:(ts.map Value.ref).toArray.any (eqT H ns) = decide (ns∈rows):=by
   rw [show (ts.map Value.ref).toArray.any (eqT H ns) = (ts.map Value.ref).any (eqT H ns) by simp,Bool.eq_iff_iff,List.any_eq_true,decide_eq_true_iff]
   constructor
   ·rintro ⟨w,hw,hz⟩
    obtain ⟨a,ha,rfl⟩:=List.mem_map.mp hw
    obtain ⟨rr,hrr,e⟩:=row a ha
    have hz:tupI H a = ns:=of_decide_eq_true hz
    rw [tupI_of e] at hz
    rw [← hz]
    exact hrr
   ·intro hm
    obtain ⟨i,hi,e1⟩:=List.getElem_of_mem hm
    have hi2:i < ts.length:=by omega
    refine ⟨.ref ts[i],List.mem_map.mpr ⟨_,List.getElem_mem hi2,rfl⟩,?_⟩
    show decide (tupI H ts[i] = ns) = true
    rw [tupI_of (hr i _ _ (List.getElem?_eq_getElem hi2) (List.getElem?_eq_getElem hi)),e1]
    exact decide_eq_true rfl
  rw [e]
  exact q
end
end L2


namespace Mir
open PySem L2 Ch
theorem up_flat (l:List (List Nat)):(l.map Mt.up).flatten = Mt.up l.flatten:=by
 unfold Mt.up
 rw [List.map_flatten]
theorem deco_len {n:Nat} {M:Nat→Nat} {rows rings:List (List Nat)} (D:Mt.Deco n M rows rings):(rows ++ rings).flatten.length = n:=by
 have z:=D.total.length_eq
 rw [Mt.half_flat,List.length_range] at z
 unfold Mt.half at z
 rw [List.length_map] at z
 exact z
theorem deco_good {n:Nat} {M:Nat→Nat} {rows rings:List (List Nat)} (hn:n≤40) (D:Mt.Deco n M rows rings):Mt.GoodCh (rows.map Mt.up ++ rings.map Mt.up):=by
 have e:(rows.map Mt.up ++ rings.map Mt.up).flatten = Mt.up (rows ++ rings).flatten:=by rw [← List.map_append,up_flat]
 refine ⟨fun c hc=>?_,by rw [e,Mt.up_len,deco_len D];exact hn,by rw [e];refine Mt.once_of (n:=n) ?_;rw [← Mt.half_flat];exact D.total⟩
 rw [← List.map_append] at hc
 obtain ⟨r,hr,rfl⟩:=List.mem_map.mp hc
 have z:=(D.ch hr).ne
 intro h
 have y:r.length = 0:=by rw [← Mt.up_len r,h];rfl
 omega
theorem len_le_flat {α:Type}:∀ {l:List (List α)},(∀ r∈l,0 < r.length)→l.length≤l.flatten.length
 | [],_=>Nat.le_refl _
 | a :: r,h=>by
  have z:=len_le_flat (l:=r) fun x hx=>h x (List.mem_cons_of_mem _ hx)
  have y:=h a List.mem_cons_self
  rw [List.flatten_cons,List.length_append,List.length_cons]
  omega
end Mir

namespace Mir
open PySem L2 Ch
theorem deco_bounds {n:Nat} {M:Nat→Nat} {rows rings:List (List Nat)} (hn:n≤40) (D:Mt.Deco n M rows rings):(rows.map Mt.up ++ rings.map Mt.up).flatten.length≤40∧(rows.map Mt.up ++ rings.map Mt.up).length≤40:=by
 have G:=deco_good hn D
 exact ⟨G.le,Nat.le_trans (len_le_flat fun x hx=>Nat.pos_of_ne_zero fun z=>G.ne x hx (List.eq_nil_of_length_eq_zero z)) G.le⟩
end Mir

namespace L2
theorem op_in_seqK {X:Cx} {K:PySem.W.Frag} (hK:X.K = K):OpR X (PySem.compareOp .In) (rIn K false):=hK ▸ op_in_seq
end L2
namespace Mir
open PySem L2
noncomputable def hasS (e:Nat) (c:List Nat):Bool:=decide (2 * (e / 2)∈c) || decide (2 * (e / 2) + 1∈c)
noncomputable def chainF (rs:List (List Nat)) (e:Nat):List Nat:=(rs.find? (hasS e)).getD []
noncomputable def allC (n:Nat) (ms:List Nat):List (List Nat):=Ch.rowsL n (at0 ms) ++ Ch.ringsL n (at0 ms)
theorem inV_nats (x:Nat):∀ l:List Nat,inV (.int (x:Nat)) (nV l) = decide (x∈l)
 | []=>rfl
 | y :: r=>by
  have ih:=inV_nats x r
  unfold inV at ih ⊢
  show ((decide ((y:Int) = (x:Int))) || (nV r).any _) = _
  rw [ih]
  by_cases c:x = y
  ·subst c
   rw [decide_eq_true (rfl:(x:Int) = x),Bool.true_or,decide_eq_true List.mem_cons_self]
  ·rw [decide_eq_false (fun z=>c (by omega)),Bool.false_or]
   exact decide_eq_decide.mpr ⟨fun z=>List.mem_cons_of_mem _ z,fun z=>(List.mem_cons.mp z).resolve_left c⟩
theorem flat_nats (l:List Nat):(nV l).all flatV = true:=List.all_eq_true.mpr fun v hv=>by
 obtain ⟨x,_,rfl⟩:=List.mem_map.mp hv
 rfl
theorem chain_there {n:Nat} {ms:List Nat} (W:WorkL n ms) {e:Nat} (he:e < 2 * n):∃ c,(allC n ms).find? (hasS e) = some c:=by
 have D:=Mt.deco_own W.wk
 obtain ⟨c,hc,hh⟩:=List.mem_flatMap.mp (D.all (e / 2) (by omega))
 obtain ⟨x,hx,hx2⟩:=List.mem_map.mp hh
 have:hasS e c = true:=by
  unfold hasS
  rw [Bool.or_eq_true,decide_eq_true_iff,decide_eq_true_iff]
  by_cases o:x % 2 = 0
  ·exact .inl (by rw [show 2 * (e / 2) = x by omega];exact hx)
  ·exact .inr (by rw [show 2 * (e / 2) + 1 = x by omega];exact hx)
 cases z:(allC n ms).find? (hasS e) with
 | some y=>exact ⟨y,rfl⟩
 | none=>exact absurd this (by simpa using List.find?_eq_none.mp z c hc)
theorem allC_len {n:Nat} {ms:List Nat} (W:WorkL n ms):(allC n ms).length≤40:=by
 have z:=(deco_bounds W.small (Mt.deco_own W.wk)).2
 rw [List.length_append,List.length_map,List.length_map] at z
 unfold allC
 rw [List.length_append]
 exact z
theorem RowsT.app {H:Hp} {l r p:Addr} {rs qs:List (List Nat)} {ts us:List Addr} (h1:RowsT H l rs) (h2:RowsT H r qs) (e1:H l = some (.lst (ts.map V.ref))) (e2:H r = some (.lst (us.map V.ref))) (hp:H p = none):RowsT (L2.upd H p (.lst (ts.map V.ref ++ us.map V.ref))) p (rs ++ qs):=by
 obtain ⟨ts',a1,a2,a3⟩:=h1
 obtain ⟨us',b1,b2,b3⟩:=h2
 have inj:∀ {x y:List Addr},x.map V.ref = y.map V.ref→x = y:=fun {x y} z=>(List.map_inj_right (f:=V.ref) fun a b h=>by injection h).mp z
 rw [e1] at a1
 rw [e2] at b1
 obtain rfl:ts = ts':=inj (by injection a1 with a1;injection a1)
 obtain rfl:us = us':=inj (by injection b1 with b1;injection b1)
 refine ⟨ts ++ us,by rw [upd_same,List.map_append],by rw [List.length_append,List.length_append,a2,b2],fun i t x c1 c2=>same_upd hp _ _ ?_⟩
 by_cases c:i < ts.length
 ·rw [List.getElem?_append_left c] at c1
  rw [List.getElem?_append_left (by omega)] at c2
  exact a3 i t x c1 c2
 ·rw [List.getElem?_append_right (by omega)] at c1
  rw [List.getElem?_append_right (by omega),← a2] at c2
  exact b3 _ t x c1 c2
theorem rowI_mem {c:List Nat} {rs:List (List Nat)}:rowI c∈rs.map rowI↔c∈rs:=by
 constructor
 ·intro h
  obtain ⟨d,hd,e⟩:=List.mem_map.mp h
  unfold rowI at e
  have:d = c:=(List.map_inj_right (f:=fun (x:Nat)=>(x:Int)) fun a b h=>by omega).mp e
  rw [← this]
  exact hd
 ·exact fun h=>List.mem_map.mpr ⟨c,h,rfl⟩
theorem rowI_eq {c d:List Nat}:rowI c = rowI d↔c = d:=⟨fun e=>(List.map_inj_right (f:=fun (x:Nat)=>(x:Int)) fun a b h=>by omega).mp e,fun e=>by rw [e]⟩
noncomputable def kindF (n:Nat) (ms:List Nat) (p q:Nat):Str :=
 let lo:=chainF (allC n ms) p
 let hi:=chainF (allC n ms) q
 if p = q then (if lo∈Ch.ringsL n (at0 ms) then "opened" else "cut")
 else if at0 ms p = p∧at0 ms q = q then (if lo = hi then "closed" else "joined")
 else if lo = hi then (if (allC n (beh ms p q)).length = (allC n ms).length then "turned" else "parted")
 else if lo∈Ch.ringsL n (at0 ms)∨hi∈Ch.ringsL n (at0 ms) then "taken" else "crossed"
variable (K:PySem.W.Frag)
noncomputable def spChainW:Sp:=fun vs H Q _=>∃ (l:Addr) (rs:List (List Nat)) (e:Nat) (c:List Nat),vs = [.ref l,.int (e:Nat)]∧RowsT H l rs∧rs.length≤200∧rs.find? (hasS e) = some c∧∀ (t:Addr) (H':Hp),Same H H'→H' t = some (.tup (nV c))→Q (.ref t) H'
noncomputable def spKind (C:Addr):Sp:=fun vs H Q E=>∃ (a d:Addr) (n:Nat) (ms:List Nat) (p q:Int),vs = [.ref a,.ref d]∧SqT K H a (nV ms)∧WorkL n ms∧H d = some (.tup [.int p,.int q])∧Sm p∧Sm q ∧
 (Fits n ms p q→∀ H':Hp,Same H H'→Q (.str (kindF n ms p.toNat q.toNat)) H')∧(¬ Fits n ms p q→E (.ref C) none H)
end Mir

namespace Mir
open PySem L2 Ch
noncomputable def behs (ms:List Nat) (ds:List (Int×Int)):List Nat:=ds.foldl (fun m d=>beh m d.1.toNat d.2.toNat) ms
noncomputable def worksOf (ms:List Nat) (ds:List (Int×Int)):List (List Nat):=(List.range (ds.length + 1)).map fun j=>behs ms (ds.take j)
theorem behs_snoc (ms:List Nat) (ds:List (Int×Int)) (d:Int×Int):behs ms (ds ++ [d]) = beh (behs ms ds) d.1.toNat d.2.toNat:=by unfold behs;rw [List.foldl_append];rfl
theorem worksOf_len (ms:List Nat) (ds:List (Int×Int)):(worksOf ms ds).length = ds.length + 1:=by unfold worksOf;rw [List.length_map,List.length_range]
theorem worksOf_get {ms:List Nat} {ds:List (Int×Int)} {j:Nat} (h:j≤ds.length):(worksOf ms ds)[j]? = some (behs ms (ds.take j)):=by
 unfold worksOf
 rw [List.getElem?_map,List.getElem?_range (by omega)]
 rfl
theorem worksOf_snoc (ms:List Nat) (ds:List (Int×Int)) (d:Int×Int):worksOf ms (ds ++ [d]) = worksOf ms ds ++ [beh (behs ms ds) d.1.toNat d.2.toNat]:=by
 unfold worksOf
 rw [List.length_append,List.length_singleton,List.range_succ,List.map_append]
 congr 1
 ·refine List.map_congr_left fun j hj=>?_
  have hj:=List.mem_range.mp hj
  rw [List.take_append_of_le_length (by omega)]
 ·show [behs ms ((ds ++ [d]).take (ds.length + 1))] = _
  rw [List.take_of_length_le (by simp),behs_snoc]
end Mir

namespace Mir
open PySem L2
open Classical
theorem TsT.copy {α:Type} {f:α→List V} {H:Hp} {l r:Addr} {xs:List α} {vs:List V} (h:TsT f H l xs) (hv:H l = some (.lst vs)) (hr:H r = none):TsT f (L2.upd H r (.lst vs)) r xs:=by
 obtain ⟨ts,h1,h2,h3⟩:=h
 rw [hv] at h1
 obtain rfl:vs = ts.map V.ref:=by injection h1 with h1;injection h1
 exact ⟨ts,upd_same,h2,fun i t x e1 e2=>(same_upd hr) _ _ (h3 i t x e1 e2)⟩
variable (K:PySem.W.Frag)
end Mir





set_option maxHeartbeats 4000000










namespace Mir
open PySem L2
noncomputable def zp (d:Int×Int):List V:=[.int d.1,.int d.2]
variable (P:Program) (w:World) (K:PySem.W.Frag)
end Mir

set_option maxHeartbeats 1000000
namespace L2
open PySem PySem.Spec PyProof.Rows
section
variable {X:Cx}
theorem ps_tryN {body:List Stmt} {h₀:ExceptHandler} {hs:List ExceptHandler} {pos:Pos} {t:TS} (hc:PSs X.nox body t):PS X (.Try body (h₀ :: hs) [] [] pos) t:=by
 intro pins s σ H D I h
 refine wpAny_Try_except (quietX (hc pins s σ H D (I.wish _) h) fun f s1 q=>?_)
 cases f with
 | next=>obtain ⟨σ1,H1,I1,q1⟩:=q;exact wpAny_execs_nil ⟨σ1,H1,I1.unwish,q1⟩
 | ret v=>obtain ⟨x,σ1,H1,I1,r1,q1⟩:=q;exact ⟨x,σ1,H1,I1.unwish,r1,q1⟩
 | brk=>obtain ⟨σ1,H1,I1,q1⟩:=q;exact ⟨σ1,H1,I1.unwish,q1⟩
 | cont=>obtain ⟨σ1,H1,I1,q1⟩:=q;exact ⟨σ1,H1,I1.unwish,q1⟩
noncomputable def DeepT (K:PySem.W.Frag) (H:Hp) (n:Nat) (a b:Addr):Prop:=∃ xs ys:List V,SqT K H a xs∧SqT K H b ys∧xs.length = ys.length∧∀ (i:Nat) (u v:V),xs[i]? = some u→ys[i]? = some v→Deep K H n u v
theorem op_ne_deepT (n:Nat) (hu:X.A.units + n + 1 < cLine):OpR X (compareOp .NotEq) (fun x y H Q=>∃ a b:Addr,x = .ref a∧y = .ref b∧DeepT X.K H n a b∧Q (.bl false) H):=by
 intro pins s σ H x y v u Q I rx ry h
 obtain ⟨a,b,rfl,rfl,⟨xs,ys,h1,h2,hl,hd⟩,q⟩:=h
 cases rx
 cases ry
 obtain ⟨i1,r1,p1,z1⟩:=I.tuple h1
 obtain ⟨i2,r2,p2,z2⟩:=I.tuple h2
 have l1:=r1.length
 have l2:=r2.length
 refine SeqAt.RcNeAt.tuples (A:=X.A) (e:=fun _=>true) (show s.heap.IsTuple a i1.toArray from p1) (show s.heap.IsTuple b i2.toArray from p2) (by omega) (fun j q1 q2=>?_) X.prog X.w X.xe _ ⟨.bl false,H,I,?_,q⟩
 ·obtain ⟨x1,e1,t1⟩:=vals_at r1 q1
  obtain ⟨x2,e2,t2⟩:=vals_at r2 q2
  exact deep_eqAt I n (by show X.A.units + 1 + n < cLine;omega) (hd j x1 x2 e1 e2) t1 t2
 ·show Value.bool _ = Value.bool false
  have e3:(i1.toArray.size == i2.toArray.size) = true:=by simp only [List.size_toArray,beq_iff_eq];omega
  rw [all_true,e3]
  rfl
end
end L2

set_option maxHeartbeats 1000000

namespace Mir
open PySem L2
theorem atI_end {xs:List V} {v:V} (h:xs.getLast? = some v):atI xs (-1) = some v:=by
 obtain ⟨ys,rfl⟩:=List.getLast?_eq_some_iff.mp h
 exact atI_last _ _
end Mir



namespace L2
open PySem PySem.Spec PyProof.Rows
structure MFn (K:PySem.W.Frag) (C:Addr) (m q:Str) (st:Stmt) (ps:List Str) (f:Addr) (fd:FuncData):Prop where
 fn:Fun K m q st f fd
 b:Binds K fd ps []
 m:Meth K C m f
section
variable {X:Cx} {k:Nat} {f C:Addr} {fd:FuncData} {ps:List Str} {sp:Sp} {m q:Str} {st:Stmt} {pos apos:Pos} {e o:Expr} {es:List Expr} {ta:TE} {t:TA}
theorem pe_m0 {pl : Sem Bool} (he : PE X o ta) (c : Cls X.K C) (F : MFn X.K C m q st ps f fd) (G : FnOk X.prog X.w X.K X.mg X.base CX0 k f fd ps sp) (hr : Room k X.A)
    (ht : eval (.Call (.Attribute o m apos) [] [] pos) X.env = (do
      let ov ← eval o X.env
      standAt apos.atName
      let (f, first) ← holding [ov] (getMethod ov m pl)
      callWith pos f first (backTo pos (starEach [] X.env)) (backToKw pos (keywordEach [] X.env))) := by rfl) : PE X (.Call (.Attribute o m apos) [] [] pos) (tMeth C m sp [] E0 ta tNil) := pe_meth0 (pl := pl) he c F.m G hr F.b .nil pass0 ht
theorem pe_mF {pl : Sem Bool} (he : PE X o ta) (c : Cls X.K C) (F : MFn X.K C m q st ps f fd) (G : FnOk X.prog X.w X.K X.mg X.base (CXo X.prog X.w) k f fd ps sp) (hr : Room k X.A) (ha : PA X (e :: es) t)
    (hst : starEach (e :: es) X.env = (false, eval e X.env) :: starEach es X.env := by rfl) (hpl : (backTo pos (starEach es X.env)).any (·.1) = false := by rfl)
    (ht : eval (.Call (.Attribute o m apos) (e :: es) [] pos) X.env = (do
      let ov ← eval o X.env
      standAt apos.atName
      let (f, first) ← holding [ov] (getMethod ov m pl)
      callWith pos f first (backTo pos (starEach (e :: es) X.env)) (backToKw pos (keywordEach [] X.env))) := by rfl) : PE X (.Call (.Attribute o m apos) (e :: es) [] pos) (tMeth C m sp [] E0 ta t) := pe_meth (pl := pl) he c F.m G hr F.b .nil passF ha hst hpl ht
theorem pe_mF0 {pl : Sem Bool} (he : PE X o ta) (c : Cls X.K C) (F : MFn X.K C m q st ps f fd) (G : FnOk X.prog X.w X.K X.mg X.base (CXo X.prog X.w) k f fd ps sp) (hr : Room k X.A)
    (ht : eval (.Call (.Attribute o m apos) [] [] pos) X.env = (do
      let ov ← eval o X.env
      standAt apos.atName
      let (f, first) ← holding [ov] (getMethod ov m pl)
      callWith pos f first (backTo pos (starEach [] X.env)) (backToKw pos (keywordEach [] X.env))) := by rfl) : PE X (.Call (.Attribute o m apos) [] [] pos) (tMeth C m sp [] E0 ta tNil) := pe_meth0 (pl := pl) he c F.m G hr F.b .nil passF ht
theorem pe_mX {E : XK} {pl : Sem Bool} (he : PE (X.wish (BodyX X E)) o ta) (c : Cls X.K C) (F : MFn X.K C m q st ps f fd) (G : FnOk X.prog X.w X.K X.mg X.base (CXo X.prog X.w) k f fd ps sp) (hr : Room k X.A) (ha : PA (X.wish (BodyX X E)) (e :: es) t)
    (hst : starEach (e :: es) X.env = (false, eval e X.env) :: starEach es X.env := by rfl) (hpl : (backTo pos (starEach es X.env)).any (·.1) = false := by rfl)
    (ht : eval (.Call (.Attribute o m apos) (e :: es) [] pos) X.env = (do
      let ov ← eval o X.env
      standAt apos.atName
      let (f, first) ← holding [ov] (getMethod ov m pl)
      callWith pos f first (backTo pos (starEach (e :: es) X.env)) (backToKw pos (keywordEach [] X.env))) := by rfl) : PE (X.wish (BodyX X E)) (.Call (.Attribute o m apos) (e :: es) [] pos) (tMeth C m sp [] E ta t) := pe_meth (X := X.wish (BodyX X E)) (pl := pl) he c F.m G hr F.b .nil (passX (F := fun _ _ => True)) ha hst hpl ht
theorem pex_run {pins:List (Addr×Obj)} {σ:St} {H:Hp} {s:Shared} {Q:VK} {E:XK} {us:List Value} {vs:List V} (G:FnOk X.prog X.w X.K X.mg X.base (CXo X.prog X.w) k f fd ps sp) (hr:Room k X.A) (hb:Binds X.K fd ps []) (I:Inv X pins σ H s) (r:Vals vs us) (h:sp vs H Q E) :
  wpAny (model X.prog X.w) X.A (call (.ref f) us) (EP X pins σ Q) (fun e s'=>∃ H1 s1,Inv X pins σ H1 s1∧CXo X.prog X.w X.stack H1 s1 E e s') s:=by
 have hl:us.length = ps.length:=by rw [← r.length];exact G.len _ _ _ _ h
 have hb:=hb s us I.kIn (by rw [List.append_nil];exact hl)
 rw [List.append_nil] at hb
 refine wpAny_call (codeAny_mono (G.run X.A X.stack s H ⟨us,[]⟩ us vs Q E hr I.env0 hb r h) fun r s' hq=>?_)
 cases r with
 | error e=>exact ⟨H,s,I,hq⟩
 | ok fl =>
  cases fl with
  | ret u=>exact I.after hq
  | next=>exact False.elim hq
  | brk=>exact False.elim hq
  | cont=>exact False.elim hq
theorem pex_m {pl:Sem Bool} (he:PE X.nox o ta) (c:Cls X.K C) (F:MFn X.K C m q st ps f fd) (G:FnOk X.prog X.w X.K X.mg X.base (CXo X.prog X.w) k f fd ps sp) (hr:Room k X.A) (ha:PA X.nox (e :: es) t)
  (hst:starEach (e :: es) X.env = (false,eval e X.env) :: starEach es X.env:=by rfl) (hpl:(backTo pos (starEach es X.env)).any (·.1) = false:=by rfl)
  (ht:eval (.Call (.Attribute o m apos) (e :: es) [] pos) X.env = (do
   let ov ← eval o X.env
   standAt apos.atName
   let (f,first) ← holding [ov] (getMethod ov m pl)
   callWith pos f first (backTo pos (starEach (e :: es) X.env)) (backToKw pos (keywordEach [] X.env))):=by rfl):PEX X (.Call (.Attribute o m apos) (e :: es) [] pos) (fun E=>tMeth C m sp [] E ta t):=by
 intro E pins s σ H Q I h
 refine PySem.W.methodCall_KW (pl:=pl) (quietX (he pins s σ H _ (I.wish _) h) fun u s1 ⟨x,H1,I1,rx,a,dx,fs,ex,ea,l,q⟩=>?_) ht
 subst ex
 obtain rfl:u = Value.ref a:=rx
 refine getmeth_ok I1.unwish ea c F.m l ?_
 refine PySem.W.callWith_K (first:=[.ref a]) (h₀:=X.base) I.ok.mod.kin F.m.kp (quietX (ha pos pins s1 σ H1 _ I1 q) fun us s2 ⟨vs,H2,I2,r,q2⟩=>⟨I2.kIn,?_⟩) hst hpl
 have q2:sp (V.ref a :: (vs ++ [])) H2 Q E:=q2
 rw [List.append_nil] at q2
 exact pex_run (us:=.ref a :: us) (vs:=.ref a :: vs) G hr F.b I2.unwish (.cons rfl r) q2
theorem pex_m0 {pl:Sem Bool} (he:PE X.nox o ta) (c:Cls X.K C) (F:MFn X.K C m q st ps f fd) (G:FnOk X.prog X.w X.K X.mg X.base (CXo X.prog X.w) k f fd ps sp) (hr:Room k X.A)
  (ht:eval (.Call (.Attribute o m apos) [] [] pos) X.env = (do
   let ov ← eval o X.env
   standAt apos.atName
   let (f,first) ← holding [ov] (getMethod ov m pl)
   callWith pos f first (backTo pos (starEach [] X.env)) (backToKw pos (keywordEach [] X.env))):=by rfl):PEX X (.Call (.Attribute o m apos) [] [] pos) (fun E=>tMeth C m sp [] E ta tNil):=by
 intro E pins s σ H Q I h
 refine PySem.W.methodCall_KW (pl:=pl) (quietX (he pins s σ H _ (I.wish _) h) fun u s1 ⟨x,H1,I1,rx,a,dx,fs,ex,ea,l,q⟩=>?_) ht
 subst ex
 obtain rfl:u = Value.ref a:=rx
 refine getmeth_ok I1.unwish ea c F.m l ?_
 exact PySem.W.callWith_K0 (first:=[.ref a]) I1.kIn F.m.kp (pex_run (us:=[.ref a]) (vs:=[.ref a]) G hr F.b I1.unwish (.cons rfl .nil) q)
theorem psx_setF {ce:Expr} {x:Str} {pos' pos:Pos} {t:XK→TE} (hc:PEX X ce t) (hs:swapsWith ce (some (.Name x pos')) pos.line X.env = pure false:=by rfl):PSX X [.Assign [.Name x pos'] ce pos] (fun E D σ H=>t E σ H fun _ _=>False):=fun E pins s σ H D I h=>by
 refine wpAny_execs_cons (wpAny_Assign_Name (wpAny_mono (hc E pins s σ H _ I h) (fun v s1 ⟨y,H1,I1,r1,q1⟩=>q1.elim) fun e s' hx=>hx) hs)
end
noncomputable def tTry2 (K:PySem.W.Frag) (t:XK→TS) (c c':Value) (tb tb':TS):TS:=fun D σ H=>∃ E:XK,t E { nx:=fun _ _=>False,rt:=D.rt } σ H∧∀ cls H',E cls none H'→(PySem.W.exmOne K cls c = some true∧tb D σ H')∨(PySem.W.exmOne K cls c = some false∧PySem.W.exmOne K cls c' = some true∧tb' D σ H')
theorem ps_try2 {X:Cx} {body:List Stmt} {hpos hpos' pos np np':Pos} {x x':Str} {b₀ b₁:Stmt} {suite suite':List Stmt} {t:XK→TS} {C C':Addr} {tb tb':TS} (O:Own X)
  (hm:X.mg x = some (.ref C)) (hm':X.mg x' = some (.ref C')) (hc:PSX X body t) (hb:∀ a oe,PSs (cxSuite X a oe) (b₀ :: suite) tb) (hb':∀ a oe,PSs (cxSuite X a oe) (b₁ :: suite') tb') (hg:Gl X x:=by rfl) (hg':Gl X x':=by rfl) (hdb:(x == ("__debug__":Str)) = false:=by decide) (hdb':(x' == ("__debug__":Str)) = false:=by decide) :
  PS X (.Try body [.ExceptHandler (some (.Name x np)) none (b₀ :: suite) hpos,.ExceptHandler (some (.Name x' np')) none (b₁ :: suite') hpos'] [] [] pos) (tTry2 X.K t (.ref C) (.ref C') tb tb'):=by
 intro pins s σ H D I h
 obtain ⟨E,hbody,hcatch⟩:=h
 have hfr:X.A.frames = some (X.env :: X.outer):=by rw [← O.top];exact O.ok.frames
 refine wpAny_Try_except (wpAny_mono (hc E pins s σ H _ I hbody) (fun f s1 q=>?_) fun e s' hx=>?_)
 ·cases f with
  | next=>obtain ⟨_,_,_,z⟩:=q;exact z.elim
  | brk=>obtain ⟨_,_,_,z⟩:=q;exact z.elim
  | cont=>obtain ⟨_,_,_,z⟩:=q;exact z.elim
  | ret v=>exact q
 ·obtain ⟨H1,s1,I1,a,cls,H',B,rfl,x0,hE⟩:=hx
  have st:=x0.sta
  rw [O.top] at st
  have noex:∀ b∈frs X.stack,b ∉ ([]:List Addr):=fun b _=>by simp
  refine sta_note hfr O.fr st fun h4 a0 k4 u4=>?_
  have x4:=x0.move (l':=X.stack) u4 (by rw [O.top];exact ⟨a0,.inr (.inr ⟨_,_,_,rfl,O.fr,k4⟩)⟩) (fun b hb=>hb) (fun b o _ hb=>hb) noex
  refine wpAny_landsW (s:={ s' with heap:=h4 }) k4 fun h5 k5 u5=>?_
  have x5:=x4.move (l':=X.stack) u5 (by rw [O.top];exact ⟨a0,.inr (.inl k5)⟩) (fun b hb=>hb) (fun b o _ hb=>hb) noex
  have I5:Inv X pins σ H' { s' with heap:=h5 }:=I1.call' (ch:=[]) x5.os x5.un x5.hok x5.bare fun b hb=>absurd hb (by simp)
  have mk:∀ {h6:Heap},Heap.FlyingW B (X.env :: X.outer) a cls a0 h6→XAt X.prog X.w X.stack [] H1 s1 B a cls H' { s' with heap:=h6 }→∃ oe,h6.get? a = some oe∧oe.cls = cls∧Inv (cxSuite X a oe) pins σ H' { s' with heap:=h6 }:=fun {h6} k6 x6=>by
   obtain ⟨oe,vs,e1,e2,e3,_⟩:=k6.first
   have I6:Inv X pins σ H' { s' with heap:=h6 }:=I1.call' (ch:=[]) x6.os x6.un x6.hok x6.bare fun b hb=>absurd hb (by simp)
   refine ⟨oe,e1,e2,I6.suite e1 x6.na (fun z=>?_) (fun z=>?_) fun v z=>by rw [e3] at z;cases z⟩
   ·obtain ⟨m,⟨o',es,ep,ho',hd',_⟩,_⟩:=I6.loc
    rw [← z] at ho'
    have ho':h6.get? a = some o':=ho'
    rw [e1] at ho';cases ho'
    rw [e3] at hd';cases hd'
   ·obtain ⟨_,o',ho',hd'⟩:=I6.funs.mem z
    have ho':h6.get? a = some o':=ho'
    rw [e1] at ho';cases ho'
    exact hd' _ e3
  obtain ⟨oe5,e51,e52,J5⟩:=mk k5 x5
  have LT:PySem.W.Looks (model X.prog X.w) h5 (typeOf (.ref a)) cls:=by
   have z:PySem.W.Looks (model X.prog X.w) h5 (typeOf (.ref a)) oe5.cls:=(PySem.W.Looks.ld (M:=model X.prog X.w) e51).andThen .now
   rw [e52] at z
   exact z
  have suit:∀ {b:Stmt} {su:List Stmt} {hp:Pos} {t0:TS},(∀ a oe,PSs (cxSuite X a oe) (b :: su) t0)→t0 D σ H'→codeAny (model X.prog X.w) (X.A.mark (some (.ref a))) (.handlers (.ref a) [.ExceptHandler none none (b :: su) hp] X.env) (fun r s₂=>match r with
     | .ok f=>SP X pins D f s₂
     | .error x=>cameBackBy (model X.prog X.w) X.A X.env X.xe x s₂) { s' with heap:=h5 }:=fun {b su hp t0} hb0 hsuite=>by
   refine codeAny_handlers_suite ?_
   refine lands_againW (s:={ s' with heap:=h5 }) k5 fun h6 k6 u6=>?_
   have x6:=x5.move (l':=X.stack) u6 (by rw [O.top];exact ⟨a0,.inr (.inl k6)⟩) (fun b hb=>hb) (fun b o _ hb=>hb) noex
   obtain ⟨oe,e61,e62,J6⟩:=mk k6 x6
   refine quietX (hb0 a oe pins _ σ H' _ J6 hsuite) fun f s8 q8=>?_
   cases f with
   | next=>obtain ⟨σ8,H8,J8,q8⟩:=q8;exact ⟨σ8,H8,J8.unsuite O.ok,q8⟩
   | brk=>obtain ⟨σ8,H8,J8,q8⟩:=q8;exact ⟨σ8,H8,J8.unsuite O.ok,q8⟩
   | cont=>obtain ⟨σ8,H8,J8,q8⟩:=q8;exact ⟨σ8,H8,J8.unsuite O.ok,q8⟩
   | ret u=>obtain ⟨v8,σ8,H8,J8,r8,q8⟩:=q8;exact ⟨v8,σ8,H8,J8.unsuite O.ok,r8,q8⟩
  refine wpAny_handleBy_cons (codeAny_handlers_test (ld_glob (X:=cxSuite X a oe5) J5 hg hm ?_ hdb)) (by intro q;cases q)
  rcases hcatch cls H' hE with ⟨hexm,hsuite⟩ | ⟨hexm,hexm',hsuite⟩
  ·refine (PySem.W.exm_one (M:=model X.prog X.w) (h:=h5) I5.kIn LT hexm).at ?_
   show codeAny _ _ _ _ _
   exact suit hb hsuite
  ·refine (PySem.W.exm_one (M:=model X.prog X.w) (h:=h5) I5.kIn LT hexm).at ?_
   show wpAny _ _ (handleBy _ _ _) _ _ _
   refine wpAny_handleBy_cons (codeAny_handlers_test (ld_glob (X:=cxSuite X a oe5) J5 hg' hm' ?_ hdb')) (by intro q;cases q)
   refine (PySem.W.exm_one (M:=model X.prog X.w) (h:=h5) I5.kIn LT hexm').at ?_
   show codeAny _ _ _ _ _
   exact suit hb' hsuite
end L2

namespace Mir
open PySem L2
noncomputable def FitR (n:Nat):List Nat→List (Int×Int)→Prop
 | _,[]=>True
 | ms,d :: r=>Fits n ms d.1 d.2∧FitR n (beh ms d.1.toNat d.2.toNat) r
theorem FitR.app {n:Nat}:∀ {xs ys:List (Int×Int)} {ms:List Nat},FitR n ms (xs ++ ys)↔FitR n ms xs∧FitR n (behs ms xs) ys
 | [],ys,ms=>⟨fun h=>⟨trivial,h⟩,fun h=>h.2⟩
 | d :: r,ys,ms=>by
  show Fits n ms d.1 d.2∧FitR n (beh ms d.1.toNat d.2.toNat) (r ++ ys)↔(Fits n ms d.1 d.2∧FitR n (beh ms d.1.toNat d.2.toNat) r)∧FitR n (behs (beh ms d.1.toNat d.2.toNat) r) ys
  rw [FitR.app (xs:=r)]
  exact and_assoc.symm
theorem fits_work {n:Nat} {ms:List Nat} {p q:Int} (W:WorkL n ms) (h:Fits n ms p q):WorkL n (beh ms p.toNat q.toNat):=by
 obtain ⟨x,y,rfl,rfl,h1,h2,h3⟩:=h.nat
 rw [Int.toNat_natCast,Int.toNat_natCast]
 exact beh_work W (by omega) h2 h3
theorem FitR.work {n:Nat}:∀ {xs:List (Int×Int)} {ms:List Nat},WorkL n ms→FitR n ms xs→WorkL n (behs ms xs)
 | [],ms,W,_=>W
 | d :: r,ms,W,h=>FitR.work (xs:=r) (fits_work W h.1) h.2
noncomputable def lstP (ms:List Nat) (d:Int×Int):Int×Int:=(((leastP ms d.1.toNat d.2.toNat).1:Nat),((leastP ms d.1.toNat d.2.toNat).2:Nat))
theorem lstP_fits {n:Nat} {ms:List Nat} {d:Int×Int} (W:WorkL n ms) (h:Fits n ms d.1 d.2):Fits n ms (lstP ms d).1 (lstP ms d).2∧beh ms (lstP ms d).1.toNat (lstP ms d).2.toNat = beh ms d.1.toNat d.2.toNat:=by
 obtain ⟨x,y,e1,e2,h1,h2,h3⟩:=h.nat
 unfold lstP
 rw [e1,e2,Int.toNat_natCast,Int.toNat_natCast]
 obtain ⟨⟨l1,l2,l3,l4⟩,_⟩:=leastP_least W h1 h2 h3
 exact ⟨fits_nat l1 l2 l3,by rw [Int.toNat_natCast,Int.toNat_natCast];exact l4⟩
inductive Tg where
 | d (p q:Int)
 | b
 | a
noncomputable def step (n:Nat) (w:List Nat) (ds us:List (Int×Int)):Tg→Option ((Str ⊕ (Int×Int))×List (Int×Int)×List (Int×Int))
 | .d p q=>if Fits n (behs w ds) p q then some (.inl (kindF n (behs w ds) p.toNat q.toNat),ds ++ [lstP (behs w ds) (p,q)],[]) else none
 | .b=>match ds.getLast? with
  | none=>none
  | some d=>some (.inr d,ds.dropLast,us ++ [d])
 | .a=>match us.getLast? with
  | none=>none
  | some d=>some (.inl (kindF n (behs w ds) d.1.toNat d.2.toNat),ds ++ [lstP (behs w ds) d],us.dropLast)
section
variable {n:Nat} {w:List Nat} {ds us:List (Int×Int)} {d:Int×Int} {p q:Int}
theorem step_dY (c:Fits n (behs w ds) p q):step n w ds us (.d p q) = some (.inl (kindF n (behs w ds) p.toNat q.toNat),ds ++ [lstP (behs w ds) (p,q)],[]):=if_pos c
theorem step_dN (c:¬ Fits n (behs w ds) p q):step n w ds us (.d p q) = none:=if_neg c
theorem step_bY (g:ds.getLast? = some d):step n w ds us .b = some (.inr d,ds.dropLast,us ++ [d]):=by unfold step;simp only [g]
theorem step_bN (g:ds.getLast? = none):step n w ds us .b = none:=by unfold step;simp only [g]
theorem step_aY (g:us.getLast? = some d):step n w ds us .a = some (.inl (kindF n (behs w ds) d.1.toNat d.2.toNat),ds ++ [lstP (behs w ds) d],us.dropLast):=by unfold step;simp only [g]
theorem step_aN (g:us.getLast? = none):step n w ds us .a = none:=by unfold step;simp only [g]
end
structure Jok (n:Nat) (w:List Nat) (ds us:List (Int×Int)) (m:Nat):Prop where
 W:WorkL n w
 fit:FitR n w (ds ++ us.reverse)
 len:ds.length + us.length≤m
 big:m≤100
section
variable {n m:Nat} {w:List Nat} {ds us ds' us':List (Int×Int)} {x:Str ⊕ (Int×Int)}
theorem Jok.now (J:Jok n w ds us m):WorkL n (behs w ds):=FitR.work J.W (FitR.app.mp J.fit).1
theorem getLast_snoc {α:Type} {l:List α} {x:α} (h:l.getLast? = some x):l = l.dropLast ++ [x]:=by
 obtain ⟨ys,e⟩:=List.getLast?_eq_some_iff.mp h
 subst e
 rw [List.dropLast_concat]
theorem Jok.fit_last (J:Jok n w ds us m) {d:Int×Int} (h:us.getLast? = some d):Fits n (behs w ds) d.1 d.2:=by
 have e:=getLast_snoc h
 have f:=(FitR.app.mp J.fit).2
 rw [e,List.reverse_append] at f
 exact f.1
theorem Jok.mono (J:Jok n w ds us m) (h:m + 1≤100):Jok n w ds us (m + 1):=⟨J.W,J.fit,by have:=J.len;omega,h⟩
theorem Jok.step (J : Jok n w ds us m) (h : m + 1 ≤ 100) {t : Tg} (e : step n w ds us t = some (x, ds', us')) : Jok n w ds' us' (m + 1) := by
  have jl := J.len
  cases t with
  | d p q =>
    by_cases c : Fits n (behs w ds) p q
    · rw [step_dY c] at e
      injection e with e
      injection e with e1 e
      injection e with e2 e3
      subst e2 e3
      refine ⟨J.W, ?_, by rw [List.length_append]; simp only [List.length_cons, List.length_nil]; omega, h⟩
      rw [List.reverse_nil, List.append_nil]
      exact FitR.app.mpr ⟨(FitR.app.mp J.fit).1, (lstP_fits (d := (p, q)) J.now c).1, trivial⟩
    · rw [step_dN c] at e; cases e
  | b =>
    cases g : ds.getLast? with
    | none => rw [step_bN g] at e; cases e
    | some d =>
      rw [step_bY g] at e
      injection e with e
      injection e with e1 e
      injection e with e2 e3
      subst e2 e3
      have eg := getLast_snoc g
      refine ⟨J.W, ?_, by rw [List.length_append, List.length_dropLast, List.length_singleton]; have : ds.length ≠ 0 := fun z => by rw [List.length_eq_zero_iff.mp z] at g; cases g
                          omega, h⟩
      rw [List.reverse_append, List.reverse_singleton, ← List.append_assoc, ← eg]
      exact J.fit
  | a =>
    cases g : us.getLast? with
    | none => rw [step_aN g] at e; cases e
    | some d =>
      rw [step_aY g] at e
      injection e with e
      injection e with e1 e
      injection e with e2 e3
      subst e2 e3
      have eg := getLast_snoc g
      have fl := J.fit_last g
      have q := lstP_fits J.now fl
      refine ⟨J.W, ?_, by rw [List.length_append, List.length_dropLast, List.length_singleton]; have : us.length ≠ 0 := fun z => by rw [List.length_eq_zero_iff.mp z] at g; cases g
                          omega, h⟩
      have f := FitR.app.mp J.fit
      have f2 := f.2
      rw [eg, List.reverse_append] at f2
      have f2 : Fits n (behs w ds) d.1 d.2 ∧ FitR n (beh (behs w ds) d.1.toNat d.2.toNat) us.dropLast.reverse := f2
      rw [List.append_assoc]
      refine FitR.app.mpr ⟨f.1, q.1, ?_⟩
      rw [q.2]
      exact f2.2
theorem works_dropLast {d:Int×Int} (h:ds.getLast? = some d):(worksOf w ds).dropLast = worksOf w ds.dropLast:=by
 conv=>lhs;rw [getLast_snoc h,worksOf_snoc,List.dropLast_concat]
theorem works_last:(worksOf w ds)[(worksOf w ds).length - 1]? = some (behs w ds):=by
 rw [worksOf_len,worksOf_get (by omega),show ds.length + 1 - 1 = ds.length from rfl,List.take_length]
end
noncomputable def Fr (L:List Addr) (H H':Hp):Prop:=∀ b o,H b = some o→b ∉ L→H' b = some o
noncomputable def Ls (H:Hp) (L:List Addr):Prop:=∀ l∈L,∃ vs,H l = some (.lst vs)
section
variable {α:Type} {f:α→List V} {L M:List Addr} {H H' H2:Hp} {l t:Addr} {xs:List α} {x:α} {vs:List V}
theorem Fr.same (s:Same H H'):Fr L H H':=fun b o h _=>s b o h
theorem Fr.trans (h:Fr L H H') (k:Fr L H' H2):Fr L H H2:=fun b o e n=>k b o (h b o e n) n
theorem Fr.mono (h:Fr L H H') (k:∀ b∈L,b∈M):Fr M H H':=fun b o e n=>h b o e fun z=>n (k b z)
theorem Fr.upd {o:HO} (h:l∈L):Fr L H (L2.upd H l o):=fun b o e n=>by rw [upd_ne (fun z:b = l=>n (by rw [z];exact h))];exact e
theorem Fr.tup {zs:List V} (h:Fr L H H') (q:Ls H L) (e:H t = some (.tup zs)):H' t = some (.tup zs):=h t _ e fun z=>by
 obtain ⟨vs,k⟩:=q t z
 rw [e] at k
 cases k
theorem Fr.tst (h:Fr L H H') (q:Ls H L) (e:TsT f H l xs) (n:l ∉ L):TsT f H' l xs:=by
 obtain ⟨ts,h1,h2⟩:=e.tup
 exact (show Tup f H' ts xs from ⟨h2.1,fun i t p e1 e2=>h.tup q (h2.2 i t p e1 e2)⟩).tst (h l _ h1 n)
theorem TsT.lst (e:TsT f H l xs):∃ vs,H l = some (.lst vs):=⟨_,e.tup.choose_spec.1⟩
theorem TsT.pop (e:TsT f H l xs) (h:xs.getLast? = some x):∃ vs t,H l = some (.lst vs)∧vs[vs.length - 1]? = some (.ref t)∧H t = some (.tup (f x))∧TsT f (L2.upd H l (.lst vs.dropLast)) l xs.dropLast:=by
 obtain ⟨ts,h1,h2⟩:=e.tup
 have e3:=getLast_snoc h
 have hl:=h2.1
 have hx:xs[ts.length - 1]? = some x:=by rw [hl,← List.getLast?_eq_getElem?];exact h
 have hn:ts.length≠0:=fun z=>by rw [List.length_eq_zero_iff.mp (hl.symm.trans z)] at h;cases h
 have ht:ts[ts.length - 1]? = some (ts[ts.length - 1]'(by omega)):=List.getElem?_eq_getElem (by omega)
 refine ⟨_,_,h1,by rw [List.length_map,List.getElem?_map,ht];rfl,h2.2 _ _ _ ht hx,?_⟩
 have z:=(h2.take (ts.length - 1)).upd (o:=.lst ((ts.map V.ref).dropLast)) h1
 have e5:xs.take (ts.length - 1) = xs.dropLast:=by rw [hl];exact (List.dropLast_eq_take).symm
 rw [e5] at z
 exact z.tst (by rw [upd_same,← List.dropLast_eq_take,List.map_dropLast])
end
noncomputable def jF (a b c:Addr):List (Str×V):=putF "undone_deeds" (.ref c) (putF "done_deeds" (.ref b) (putF "passed_works" (.ref a) []))
theorem k12:¬ (("passed_works":Str) = "done_deeds"):=by decide +kernel
theorem k13:¬ (("passed_works":Str) = "undone_deeds"):=by decide +kernel
theorem k23:¬ (("done_deeds":Str) = "undone_deeds"):=by decide +kernel
section
variable {a b c:Addr}
theorem jF_w:(jF a b c).lookup ("passed_works":Str) = some (.ref a):=by unfold jF;rw [lookup_putF,if_neg k13,lookup_putF,if_neg k12,lookup_putF,if_pos rfl]
theorem jF_d:(jF a b c).lookup ("done_deeds":Str) = some (.ref b):=by unfold jF;rw [lookup_putF,if_neg k23,lookup_putF,if_pos rfl]
theorem jF_u:(jF a b c).lookup ("undone_deeds":Str) = some (.ref c):=by unfold jF;rw [lookup_putF,if_pos rfl]
theorem jF_no {m:Str} (h:¬ m = "passed_works"∧¬ m = "done_deeds"∧¬ m = "undone_deeds"):(jF a b c).lookup m = none:=by
 unfold jF
 rw [lookup_putF,if_neg h.2.2,lookup_putF,if_neg h.2.1,lookup_putF,if_neg h.1]
 rfl
end
structure Tri3 (H:Hp) (a b c:Addr) (w:List Nat) (ds us:List (Int×Int)):Prop where
 w:TsT nV H a (worksOf w ds)
 d:TsT zp H b ds
 u:TsT zp H c us
 ab:a≠b
 ac:a≠c
 bc:b≠c
structure JAt (C:Addr) (H:Hp) (p a b c:Addr) (w:List Nat) (ds us:List (Int×Int)):Prop where
 ob:∃ dx,H p = some (.ins C dx (jF a b c))
 t:Tri3 H a b c w ds us
structure SAt (H:Hp) (p a b c:Addr) (w:List Nat) (ds us:List (Int×Int)):Prop where
 ob:H p = some (.lst [.ref a,.ref b,.ref c])
 t:Tri3 H a b c w ds us
 out:p ∉ [a,b,c]
section
variable {H H':Hp} {p a b c C l t:Addr} {w:List Nat} {ds us:List (Int×Int)} {L:List Addr}
theorem Tri3.ls (T:Tri3 H a b c w ds us):Ls H [a,b,c]:=fun l hl=>by
 rcases List.mem_cons.mp hl with rfl | hl
 ·exact T.w.lst
 ·rcases List.mem_cons.mp hl with rfl | hl
  ·exact T.d.lst
  ·cases List.mem_singleton.mp hl
   exact T.u.lst
theorem Tri3.fr (T:Tri3 H a b c w ds us) (h:Fr L H H') (q:Ls H L) (n:∀ x∈[a,b,c],x ∉ L):Tri3 H' a b c w ds us :=
 ⟨h.tst q T.w (n _ (by simp)),h.tst q T.d (n _ (by simp)),h.tst q T.u (n _ (by simp)),T.ab,T.ac,T.bc⟩
theorem Tri3.same (T:Tri3 H a b c w ds us) (h:Same H H'):Tri3 H' a b c w ds us:=⟨T.w.same h,T.d.same h,T.u.same h,T.ab,T.ac,T.bc⟩
theorem JAt.same (J:JAt C H p a b c w ds us) (h:Same H H'):JAt C H' p a b c w ds us:=⟨by obtain ⟨dx,e⟩:=J.ob;exact ⟨dx,h _ _ e⟩,J.t.same h⟩
theorem SAt.same (J:SAt H p a b c w ds us) (h:Same H H'):SAt H' p a b c w ds us:=⟨h _ _ J.ob,J.t.same h,J.out⟩
theorem JAt.fr (J:JAt C H p a b c w ds us) (h:Fr L H H') (q:Ls H L) (n:∀ x∈[a,b,c],x ∉ L):JAt C H' p a b c w ds us :=
 ⟨by
  obtain ⟨dx,e⟩:=J.ob
  exact ⟨dx,h _ _ e fun z=>by obtain ⟨vs,k⟩:=q p z;rw [e] at k;cases k⟩,J.t.fr h q n⟩
theorem SAt.fr (J:SAt H p a b c w ds us) (h:Fr L H H') (q:Ls H L) (n:∀ x∈[a,b,c],x ∉ L) (np:p ∉ L):SAt H' p a b c w ds us:=⟨h _ _ J.ob np,J.t.fr h q n,J.out⟩
end
structure JC (K:PySem.W.Frag) (mg:Str→Option Value) (C:Addr):Prop where
 cl:Cls K C
 nw:NoAttr K C "passed_works"
 nd:NoAttr K C "done_deeds"
 nu:NoAttr K C "undone_deeds"
 g:mg "Journal" = some (.ref C)
 mks:PySem.W.makesIn K C = true∧PySem.W.keepIn K (.ref C) = true
variable (K:PySem.W.Frag)
noncomputable def spInit (C:Addr):Sp:=fun vs H Q _=>∃ (p t dx:Addr) (w:List Nat),vs = [.ref p,.ref t]∧H p = some (.ins C dx [])∧H t = some (.tup (nV w))∧∀ (a b c:Addr) (H':Hp),H a = none→H b = none→H c = none→JAt C H' p a b c w [] []→Fr [p] H H'→Q .non H'
noncomputable def spNow (C:Addr):Sp:=fun vs H Q _=>∃ (p a b c:Addr) (w:List Nat) (ds us:List (Int×Int)),vs = [.ref p]∧JAt C H p a b c w ds us∧∀ t:Addr,H t = some (.tup (nV (behs w ds)))→Q (.ref t) H
noncomputable def spDeedsJ (C:Addr):Sp:=fun vs H Q _=>∃ (p a b c:Addr) (w:List Nat) (ds us:List (Int×Int)),vs = [.ref p]∧JAt C H p a b c w ds us∧∀ (l:Addr) (H':Hp),H l = none→Same H H'→TsT zp H' l ds→Q (.ref l) H'
noncomputable def spWorksJ (C:Addr):Sp:=fun vs H Q _=>∃ (p a b c:Addr) (w:List Nat) (ds us:List (Int×Int)),vs = [.ref p]∧JAt C H p a b c w ds us∧∀ (l:Addr) (H':Hp),H l = none→Same H H'→TsT nV H' l (worksOf w ds)→Q (.ref l) H'
noncomputable def spGo (C CB:Addr):Sp:=fun vs H Q E=>∃ (p a b c t:Addr) (n m:Nat) (w:List Nat) (ds us:List (Int×Int)) (d:Int×Int),vs = [.ref p,.ref t]∧JAt C H p a b c w ds us∧H t = some (.tup (zp d))∧Sm d.1∧Sm d.2∧WorkL n (behs w ds)∧ds.length≤100 ∧
 (Fits n (behs w ds) d.1 d.2→∀ H':Hp,JAt C H' p a b c w (ds ++ [lstP (behs w ds) d]) us→Fr [a,b,c] H H'→Q (.str (kindF n (behs w ds) d.1.toNat d.2.toNat)) H')∧(¬ Fits n (behs w ds) d.1 d.2→E (.ref CB) none H)
noncomputable def spDo (C CB:Addr):Sp:=fun vs H Q E=>∃ (p a b c t:Addr) (n m:Nat) (w:List Nat) (ds us:List (Int×Int)) (d:Int×Int),vs = [.ref p,.ref t]∧JAt C H p a b c w ds us∧H t = some (.tup (zp d))∧Sm d.1∧Sm d.2∧WorkL n (behs w ds)∧ds.length≤100 ∧
 (Fits n (behs w ds) d.1 d.2→∀ H':Hp,JAt C H' p a b c w (ds ++ [lstP (behs w ds) d]) []→Fr [a,b,c] H H'→Q (.str (kindF n (behs w ds) d.1.toNat d.2.toNat)) H')∧(¬ Fits n (behs w ds) d.1 d.2→E (.ref CB) none H)
noncomputable def spBackJ (C CN:Addr):Sp:=fun vs H Q E=>∃ (p a b c:Addr) (n m:Nat) (w:List Nat) (ds us:List (Int×Int)),vs = [.ref p]∧JAt C H p a b c w ds us∧Jok n w ds us m ∧
 (∀ d,ds.getLast? = some d→∀ (t:Addr) (H':Hp),H' t = some (.tup (zp d))→JAt C H' p a b c w ds.dropLast (us ++ [d])→Fr [a,b,c] H H'→Q (.ref t) H')∧(ds.getLast? = none→E (.ref CN) none H)
noncomputable def spAgainJ (C CN:Addr):Sp:=fun vs H Q E=>∃ (p a b c:Addr) (n m:Nat) (w:List Nat) (ds us:List (Int×Int)),vs = [.ref p]∧JAt C H p a b c w ds us∧Jok n w ds us m ∧
 (∀ d,us.getLast? = some d→∀ H':Hp,JAt C H' p a b c w (ds ++ [lstP (behs w ds) d]) us.dropLast→Fr [a,b,c] H H'→Q (.str (kindF n (behs w ds) d.1.toNat d.2.toNat)) H')∧(us.getLast? = none→E (.ref CN) none H)
noncomputable def ThgT (H:Hp) (t:Addr):Tg→Prop
 | .d p q=>∃ u,H t = some (.tup [.str "do",.ref u])∧H u = some (.tup (zp (p,q)))∧Sm p∧Sm q
 | .b=>H t = some (.tup [.str "back",.non])
 | .a=>H t = some (.tup [.str "again",.non])
noncomputable def tgN:Tg→Str
 | .d _ _=>"deed"
 | .b=>"none"
 | .a=>"none"
noncomputable def TolV (H:Hp) (v:V):Str ⊕ (Int×Int)→Prop
 | .inl z=>v = .str z
 | .inr d=>∃ t,v = .ref t∧H t = some (.tup (zp d))
noncomputable def ResT (H:Hp) (r:Addr) (t:Tg):Option ((Str ⊕ (Int×Int))×List (Int×Int)×List (Int×Int))→Prop
 | none=>H r = some (.tup [.str (tgN t),.non])
 | some x=>∃ v,H r = some (.tup [.str "",v])∧TolV H v x.1
noncomputable def Aft (ds us:List (Int×Int)):Option ((Str ⊕ (Int×Int))×List (Int×Int)×List (Int×Int))→List (Int×Int)×List (Int×Int)
 | none=>(ds,us)
 | some x=>x.2
noncomputable def spDoneJ (C:Addr):Sp:=fun vs H Q _=>∃ (p a b c t:Addr) (n m:Nat) (w:List Nat) (ds us:List (Int×Int)) (g:Tg),vs = [.ref p,.ref t]∧JAt C H p a b c w ds us∧Jok n w ds us m∧ThgT H t g ∧
 ∀ (r:Addr) (H':Hp),ResT H' r g (step n w ds us g)→JAt C H' p a b c w (Aft ds us (step n w ds us g)).1 (Aft ds us (step n w ds us g)).2→Fr [a,b,c] H H'→Q (.ref r) H'
noncomputable def spDueJ:Sp:=fun vs H Q _=>∃ (p a b c t:Addr) (n m:Nat) (w:List Nat) (ds us:List (Int×Int)) (g:Tg),vs = [.ref p,.ref t]∧SAt H p a b c w ds us∧Jok n w ds us m∧ThgT H t g ∧
 ∀ (r:Addr) (H':Hp),ResT H' r g (step n w ds us g)→Same H H'→Q (.ref r) H'
noncomputable def spMovedJ:Sp:=fun vs H Q _=>∃ (p a b c t:Addr) (n m:Nat) (w:List Nat) (ds us ds' us':List (Int×Int)) (g:Tg) (x:Str ⊕ (Int×Int)),vs = [.ref p,.ref t]∧SAt H p a b c w ds us∧Jok n w ds us m∧ThgT H t g∧step n w ds us g = some (x,ds',us') ∧
 ∀ H':Hp,SAt H' p a b c w ds' us'→Fr [a,b,c] H H'→Q .non H'
noncomputable def spThingJ:Sp:=fun vs H Q _=>∃ (t:Addr) (n:Nat) (c:Int) (ms:List Nat),vs = [.int c,.ref t]∧SqT K H t (nV ms)∧WorkL n ms∧∀ (r:Addr) (g:Tg) (H':Hp),Same H H'→ThgT H' r g→Q (.ref r) H'
noncomputable def spShowsJ (C:Addr):Sp:=fun vs H Q _=>∃ (p a b c s x y z:Addr) (w:List Nat) (ds us:List (Int×Int)),vs = [.ref p,.ref s]∧JAt C H p a b c w ds us∧SAt H s x y z w ds us∧∀ H':Hp,Same H H'→Q (.bl true) H'
end Mir

namespace L2
open PySem PySem.Spec PyProof.Rows
section
variable {X:Cx}
theorem range_alls (bs:List Bool):((List.range bs.length).all fun i=>(bs[i]?).getD true) = bs.all id:=by
 rw [Bool.eq_iff_iff,List.all_eq_true,List.all_eq_true]
 constructor
 ·intro h b hb
  obtain ⟨i,hi,rfl⟩:=List.mem_iff_getElem.mp hb
  have z:=h i (List.mem_range.mpr hi)
  rw [List.getElem?_eq_getElem hi] at z
  exact z
 ·intro h i hi
  have hi:=List.mem_range.mp hi
  rw [List.getElem?_eq_getElem hi]
  exact h _ (List.getElem_mem hi)
theorem call_all_bl (hc:X.calm = true):CallR X (.builtin "all") (fun xs H Q=>∃ (p:Addr) (bs:List Bool),xs = [.ref p]∧H p = some (.lst (bs.map V.bl))∧Q (.bl (bs.all id)) H):=by
 intro pins s σ H xs us Q I r h
 obtain ⟨p,bs,rfl,hp,q⟩:=h
 obtain ⟨u,rfl,ru⟩:=r.one
 cases ru
 obtain ⟨z,its,n,rv,hlen,e⟩:=I.lstM hp
 have hl:s.heap.IsList p its.toArray:=⟨_,e,rfl,n,rfl⟩
 have hlt:p < s.heap.objs.size:=Heap.lt_size e
 have hbl:bs.length = its.length:=by rw [← hlen,List.length_map]
 refine call_all_walk (wpAny_pyIter_list hl ⟨s.heap.objs.size,[s.heap.objs.size,p],[s.heap.objs.size],its.toArray.size,_,_,fun i=>(bs[i]?).getD true,rfl,Walks.list (A:=X.A.in1) (I.ok.hd hc) _ p (Nat.ne_of_lt hlt) its.toArray,
  ⟨⟨_,Heap.get?_push_size _ rfl,rfl,rfl⟩,hl.push _⟩,fun i v s' Q' E' hP hQ=>?_,fun h' tk hk=>?_⟩)
 ·have hP:its[i]? = some v:=by simpa using hP
  have hi:i < bs.length:=by rw [hbl];exact (List.getElem?_eq_some_iff.mp hP).1
  have eb:(bs.map V.bl)[i]? = some (.bl bs[i]):=by rw [List.getElem?_map,List.getElem?_eq_getElem hi];rfl
  obtain ⟨u,e1,r1⟩:=rv.get eb
  rw [hP] at e1
  obtain rfl:=Option.some.inj e1
  cases r1
  dsimp only at hQ
  rw [List.getElem?_eq_getElem hi] at hQ
  exact wpAny_truthy_bool hQ
 ·have e2:((List.range its.toArray.size).all fun i=>(bs[i]?).getD true) = bs.all id:=by rw [List.size_toArray,← hbl];exact range_alls bs
  rw [e2]
  exact ⟨.bl _,H,I.kept (t':=tk) fun b o eb=>hk b o (fun hm=>by rw [List.mem_singleton.mp hm] at eb;exact Nat.lt_irrefl _ (Heap.lt_size eb)) (Heap.get?_push_of_some _ eb),rfl,q⟩
end
end L2

namespace Mir
open PySem L2
noncomputable def stN {α:Type} (f:Nat→α) (k:Nat) (x:α):Nat→α:=fun j=>if j = k then x else f j
theorem stN_same {α:Type} {f:Nat→α} {k:Nat} {x:α}:stN f k x k = x:=if_pos rfl
theorem stN_ne {α:Type} {f:Nat→α} {k j:Nat} {x:α} (h:j≠k):stN f k x j = f j:=if_neg h
noncomputable abbrev Rws:=Nat→List (Int×Int)
structure Bk (C:Addr) (H:Hp) (bl sl:Addr) (p s:Nat→Addr) (m:Nat→Nat→Addr) (w:Nat→List Nat) (dJ uJ dS uS:Rws) (N:Nat):Prop where
 hb:H bl = some (.lst ((List.range N).map fun k=>V.ref (p k)))
 hs:H sl = some (.lst ((List.range N).map fun k=>V.ref (s k)))
 J:∀ k,k < N→JAt C H (p k) (m k 0) (m k 1) (m k 2) (w k) (dJ k) (uJ k)
 S:∀ k,k < N→SAt H (s k) (m k 3) (m k 4) (m k 5) (w k) (dS k) (uS k)
 inj:∀ k i k' i',k < N→i < 6→k' < N→i' < 6→m k i = m k' i'→k = k'∧i = i'
 out:∀ k i,k < N→i < 6→m k i≠bl∧m k i≠sl∧∀ k',k' < N→m k i≠s k'
 so:∀ k,k < N→s k≠bl∧s k≠sl
 bs:bl≠sl
section
variable {C bl sl:Addr} {H H':Hp} {p s:Nat→Addr} {m:Nat→Nat→Addr} {w:Nat→List Nat} {dJ uJ dS uS:Rws} {N k:Nat}
theorem Bk.ls (B:Bk C H bl sl p s m w dJ uJ dS uS N):∀ k i,k < N→i < 6→∃ vs,H (m k i) = some (.lst vs)
 | k,0,h,_=>(B.J k h).t.w.lst
 | k,1,h,_=>(B.J k h).t.d.lst
 | k,2,h,_=>(B.J k h).t.u.lst
 | k,3,h,_=>(B.S k h).t.w.lst
 | k,4,h,_=>(B.S k h).t.d.lst
 | k,5,h,_=>(B.S k h).t.u.lst
 | k,i + 6,_,h=>absurd h (by omega)
theorem Bk.same (B:Bk C H bl sl p s m w dJ uJ dS uS N) (h:Same H H'):Bk C H' bl sl p s m w dJ uJ dS uS N :=
 ⟨h _ _ B.hb,h _ _ B.hs,fun k q=>(B.J k q).same h,fun k q=>(B.S k q).same h,B.inj,B.out,B.so,B.bs⟩
theorem mem3 {a b c x:Addr} {P:Addr→Prop} (h:x∈[a,b,c]) (ha:P a) (hb:P b) (hc:P c):P x:=by
 rcases List.mem_cons.mp h with rfl | h
 ·exact ha
 ·rcases List.mem_cons.mp h with rfl | h
  ·exact hb
  ·cases List.mem_singleton.mp h
   exact hc
theorem nm3 {a b c x:Addr} (ha:x≠a) (hb:x≠b) (hc:x≠c):x ∉ [a,b,c]:=fun z=>mem3 (P:=fun y=>x = y→False) z ha hb hc rfl
theorem Bk.nin (B:Bk C H bl sl p s m w dJ uJ dS uS N) (hk:k < N) {k' i:Nat} (hk':k' < N) (hi:i < 6) {o:Nat} (ho:o≤3) (h:k'≠k∨¬ (o≤i∧i < o + 3)):m k' i ∉ [m k o,m k (o + 1),m k (o + 2)] :=
 nm3 (fun z=>by have:=B.inj _ _ _ _ hk' hi hk (by omega) z;omega) (fun z=>by have:=B.inj _ _ _ _ hk' hi hk (by omega) z;omega) (fun z=>by have:=B.inj _ _ _ _ hk' hi hk (by omega) z;omega)
theorem Bk.nin3 (B:Bk C H bl sl p s m w dJ uJ dS uS N) (hk:k < N) {k':Nat} (hk':k' < N) {o o':Nat} (ho:o≤3) (ho':o'≤3) (h:k'≠k∨o + 3≤o'∨o' + 3≤o):∀ x∈[m k' o',m k' (o' + 1),m k' (o' + 2)],x ∉ [m k o,m k (o + 1),m k (o + 2)]:=fun x hx =>
 mem3 (P:=fun x=>x ∉ [m k o,m k (o + 1),m k (o + 2)]) hx (B.nin hk hk' (i:=o') (by omega) ho (by omega)) (B.nin hk hk' (i:=o' + 1) (by omega) ho (by omega)) (B.nin hk hk' (i:=o' + 2) (by omega) ho (by omega))
theorem Bk.lsJ (B:Bk C H bl sl p s m w dJ uJ dS uS N) (hk:k < N):Ls H [m k 0,m k 1,m k 2]:=(B.J k hk).t.ls
theorem Bk.lsS (B:Bk C H bl sl p s m w dJ uJ dS uS N) (hk:k < N):Ls H [m k 3,m k 4,m k 5]:=(B.S k hk).t.ls
theorem Bk.setJ (B:Bk C H bl sl p s m w dJ uJ dS uS N) (hk:k < N) {d u:List (Int×Int)} (f:Fr [m k 0,m k 1,m k 2] H H') (J':JAt C H' (p k) (m k 0) (m k 1) (m k 2) (w k) d u):Bk C H' bl sl p s m w (stN dJ k d) (stN uJ k u) dS uS N:=by
 have o0:=B.out k 0 hk (by omega)
 have o1:=B.out k 1 hk (by omega)
 have o2:=B.out k 2 hk (by omega)
 have q:=B.lsJ hk
 refine ⟨f _ _ B.hb (nm3 o0.1.symm o1.1.symm o2.1.symm),f _ _ B.hs (nm3 o0.2.1.symm o1.2.1.symm o2.2.1.symm),fun j hj=>?_,fun j hj=>?_,B.inj,B.out,B.so,B.bs⟩
 ·by_cases e:j = k
  ·subst e
   rw [stN_same,stN_same]
   exact J'
  ·rw [stN_ne e,stN_ne e]
   exact (B.J j hj).fr f q (B.nin3 hk hj (o:=0) (o':=0) (by omega) (by omega) (.inl e))
 ·exact (B.S j hj).fr f q (B.nin3 hk hj (o:=0) (o':=3) (by omega) (by omega) (.inr (by omega))) (nm3 (o0.2.2 j hj).symm (o1.2.2 j hj).symm (o2.2.2 j hj).symm)
theorem Bk.setS (B:Bk C H bl sl p s m w dJ uJ dS uS N) (hk:k < N) {d u:List (Int×Int)} (f:Fr [m k 3,m k 4,m k 5] H H') (S':SAt H' (s k) (m k 3) (m k 4) (m k 5) (w k) d u):Bk C H' bl sl p s m w dJ uJ (stN dS k d) (stN uS k u) N:=by
 have o0:=B.out k 3 hk (by omega)
 have o1:=B.out k 4 hk (by omega)
 have o2:=B.out k 5 hk (by omega)
 have q:=B.lsS hk
 refine ⟨f _ _ B.hb (nm3 o0.1.symm o1.1.symm o2.1.symm),f _ _ B.hs (nm3 o0.2.1.symm o1.2.1.symm o2.2.1.symm),fun j hj=>?_,fun j hj=>?_,B.inj,B.out,B.so,B.bs⟩
 ·exact (B.J j hj).fr f q (B.nin3 hk hj (o:=3) (o':=0) (by omega) (by omega) (.inr (by omega)))
 ·by_cases e:j = k
  ·subst e
   rw [stN_same,stN_same]
   exact S'
  ·rw [stN_ne e,stN_ne e]
   exact (B.S j hj).fr f q (B.nin3 hk hj (o:=3) (o':=3) (by omega) (by omega) (.inl e)) (nm3 (o0.2.2 j hj).symm (o1.2.2 j hj).symm (o2.2.2 j hj).symm)
structure Off (bl sl:Addr) (s:Nat→Addr) (m:Nat→Nat→Addr) (N:Nat) (l:Addr):Prop where
 xb:bl≠l
 xs:sl≠l
 xt:∀ k,k < N→s k≠l
 xm:∀ k i,k < N→i < 6→m k i≠l
theorem Bk.off (B:Bk C H bl sl p s m w dJ uJ dS uS N) {l:Addr} (h:H l = none):Off bl sl s m N l :=
 ⟨(fun z=>by have:=B.hb;rw [z,h] at this;cases this),(fun z=>by have:=B.hs;rw [z,h] at this;cases this),(fun k hk z=>by have:=(B.S k hk).ob;rw [z,h] at this;cases this),fun k i hk hi z=>by obtain ⟨vs,e⟩:=B.ls k i hk hi;rw [z,h] at e;cases e⟩
theorem Bk.frL (B:Bk C H bl sl p s m w dJ uJ dS uS N) {l:Addr} (o:Off bl sl s m N l) {vs:List V} (hl:H l = some (.lst vs)) (f:Fr [l] H H'):Bk C H' bl sl p s m w dJ uJ dS uS N:=by
 have q:Ls H [l]:=fun x hx=>by cases List.mem_singleton.mp hx;exact ⟨_,hl⟩
 have n:∀ k i,k < N→i < 6→m k i ∉ [l]:=fun k i hk hi z=>o.xm k i hk hi (List.mem_singleton.mp z)
 exact ⟨f _ _ B.hb fun z=>o.xb (List.mem_singleton.mp z),f _ _ B.hs fun z=>o.xs (List.mem_singleton.mp z),fun k hk=>(B.J k hk).fr f q fun x hx=>mem3 (P:=fun x=>x ∉ [l]) hx (n _ 0 hk (by omega)) (n _ 1 hk (by omega)) (n _ 2 hk (by omega)),
  fun k hk=>(B.S k hk).fr f q (fun x hx=>mem3 (P:=fun x=>x ∉ [l]) hx (n _ 3 hk (by omega)) (n _ 4 hk (by omega)) (n _ 5 hk (by omega))) fun z=>o.xt k hk (List.mem_singleton.mp z),B.inj,B.out,B.so,B.bs⟩
end
noncomputable def HeldE (bl sl:Addr) (s:Nat→Addr) (m:Nat→Nat→Addr) (N:Nat) (hl:Addr) (H:Hp) (t:Addr):Prop:=∃ x y,H t = some (.tup [.ref x,.ref y])∧(Off bl sl s m N x∧hl≠x)∧(Off bl sl s m N y∧hl≠y)∧((∃ d,TsT zp H x d∧TsT zp H y d)∨∃ r,TsT nV H x r∧TsT nV H y r)
structure HeldL (bl sl:Addr) (s:Nat→Addr) (m:Nat→Nat→Addr) (N:Nat) (hl:Addr) (H:Hp) (ts:List Addr):Prop where
 l:H hl = some (.lst (ts.map V.ref))
 e:∀ t∈ts,HeldE bl sl s m N hl H t
 o:Off bl sl s m N hl
section
variable {C bl sl hl:Addr} {H H':Hp} {p s:Nat→Addr} {m:Nat→Nat→Addr} {w:Nat→List Nat} {dJ uJ dS uS:Rws} {N k:Nat} {ts:List Addr} {t:Addr} {L:List Addr}
theorem HeldE.fr (h:HeldE bl sl s m N hl H t) (f:Fr L H H') (q:Ls H L) (n:∀ x,Off bl sl s m N x∧hl≠x→x ∉ L):HeldE bl sl s m N hl H' t:=by
 obtain ⟨x,y,h1,h2,h3,h4⟩:=h
 refine ⟨x,y,f.tup q h1,h2,h3,?_⟩
 rcases h4 with ⟨d,a,b⟩ | ⟨d,a,b⟩
 ·exact .inl ⟨d,f.tst q a (n x h2),f.tst q b (n y h3)⟩
 ·exact .inr ⟨d,f.tst q a (n x h2),f.tst q b (n y h3)⟩
theorem HeldE.same (h:HeldE bl sl s m N hl H t) (f:Same H H'):HeldE bl sl s m N hl H' t:=h.fr (L:=[]) (Fr.same f) (fun _ z=>absurd z List.not_mem_nil) fun _ _=>List.not_mem_nil
theorem HeldL.same (h:HeldL bl sl s m N hl H ts) (f:Same H H'):HeldL bl sl s m N hl H' ts:=⟨f _ _ h.l,fun t ht=>(h.e t ht).same f,h.o⟩
theorem HeldL.fr3 (h:HeldL bl sl s m N hl H ts) (hk:k < N) {o:Nat} (ho:o≤3) (f:Fr [m k o,m k (o + 1),m k (o + 2)] H H') (q:Ls H [m k o,m k (o + 1),m k (o + 2)]):HeldL bl sl s m N hl H' ts:=by
 have n:∀ x,Off bl sl s m N x→x ∉ [m k o,m k (o + 1),m k (o + 2)]:=fun x hx=>nm3 (hx.xm _ _ hk (by omega)).symm (hx.xm _ _ hk (by omega)).symm (hx.xm _ _ hk (by omega)).symm
 exact ⟨f _ _ h.l (n _ h.o),fun t ht=>(h.e t ht).fr f q fun x hx=>n x hx.1,h.o⟩
theorem HeldL.push (h:HeldL bl sl s m N hl H ts) (ht:HeldE bl sl s m N hl H t):HeldL bl sl s m N hl (L2.upd H hl (.lst (ts.map V.ref ++ [.ref t]))) (ts ++ [t]):=by
 have f:Fr [hl] H (L2.upd H hl (.lst (ts.map V.ref ++ [.ref t]))):=Fr.upd (List.mem_singleton.mpr rfl)
 have q:Ls H [hl]:=fun x hx=>by cases List.mem_singleton.mp hx;exact ⟨_,h.l⟩
 have n:∀ x,Off bl sl s m N x∧hl≠x→x ∉ [hl]:=fun x hx z=>hx.2 (List.mem_singleton.mp z).symm
 refine ⟨by rw [upd_same,List.map_append];rfl,fun t' ht'=>?_,h.o⟩
 rcases List.mem_append.mp ht' with z | z
 ·exact (h.e t' z).fr f q n
 ·cases List.mem_singleton.mp z
  exact ht.fr f q n
end
theorem nd_inj {l:List Addr} (h:l.Nodup) {i j:Nat} (hi:i < l.length) (hj:j < l.length) (e:l.getD i 0 = l.getD j 0):i = j:=by
 rw [List.getD_eq_getElem?_getD,List.getD_eq_getElem?_getD,List.getElem?_eq_getElem hi,List.getElem?_eq_getElem hj] at e
 exact (List.getElem_inj h).mp e
section
variable {C bl sl:Addr} {H H':Hp} {p s:Nat→Addr} {m:Nat→Nat→Addr} {w:Nat→List Nat} {dJ uJ dS uS:Rws} {N:Nat}
theorem Bk.more (B:Bk C H bl sl p s m w dJ uJ dS uS N) {q r a b c x y z:Addr} {ms:List Nat} (ha:H a = none) (hb:H b = none) (hc:H c = none) (hx:H x = none) (hy:H y = none) (hz:H z = none) (hr:H r = none) (nd:[a,b,c,x,y,z].Nodup) (nr:r ∉ [a,b,c,x,y,z]) (J:JAt C H' q a b c ms [] []) (S:SAt H' r x y z ms [] [])
  (f:Fr [bl,sl] H H') (h1:H' bl = some (.lst ((List.range (N + 1)).map fun k=>V.ref (stN p N q k)))) (h2:H' sl = some (.lst ((List.range (N + 1)).map fun k=>V.ref (stN s N r k)))) :
  Bk C H' bl sl (stN p N q) (stN s N r) (stN m N fun i=>[a,b,c,x,y,z].getD i 0) (stN w N ms) (stN dJ N []) (stN uJ N []) (stN dS N []) (stN uS N []) (N + 1):=by
 have qs:Ls H [bl,sl]:=fun l hl=>by
  rcases List.mem_cons.mp hl with rfl | hl
  ·exact ⟨_,B.hb⟩
  ·cases List.mem_singleton.mp hl
   exact ⟨_,B.hs⟩
 have n2:∀ {l:Addr},l≠bl→l≠sl→l ∉ [bl,sl]:=fun {l} e1 e2 e=>by
  rcases List.mem_cons.mp e with e | e
  ·exact e1 e
  ·exact e2 (List.mem_singleton.mp e)
 have fresh:∀ i,i < 6→H ([a,b,c,x,y,z].getD i 0) = none:=fun i hi=>match i,hi with
  | 0,_=>ha
  | 1,_=>hb
  | 2,_=>hc
  | 3,_=>hx
  | 4,_=>hy
  | 5,_=>hz
  | i + 6,hi=>absurd hi (by omega)
 have mem:∀ i,i < 6→[a,b,c,x,y,z].getD i 0∈[a,b,c,x,y,z]:=fun i hi=>by
  rw [List.getD_eq_getElem?_getD,List.getElem?_eq_getElem (show i < [a,b,c,x,y,z].length from hi)]
  exact List.getElem_mem _
 have nb:∀ {l:Addr},H l = none→l≠bl:=fun {l} e e'=>by have:=B.hb;rw [← e',e] at this;cases this
 have ns:∀ {l:Addr},H l = none→l≠sl:=fun {l} e e'=>by have:=B.hs;rw [← e',e] at this;cases this
 have nm:∀ k i,k < N→i < 6→∀ {l:Addr},H l = none→l≠m k i:=fun k i hk hi l e e'=>by obtain ⟨vs,g⟩:=B.ls k i hk hi;rw [← e',e] at g;cases g
 have nS:∀ k,k < N→∀ {l:Addr},H l = none→l≠s k:=fun k hk l e e'=>by have:=(B.S k hk).ob;rw [← e',e] at this;cases this
 refine ⟨h1,h2,fun k hk=>?_,fun k hk=>?_,fun k i k' i' hk hi hk' hi' e=>?_,fun k i hk hi=>?_,fun k hk=>?_,B.bs⟩
 ·by_cases e:k = N
  ·subst e
   rw [stN_same,stN_same,stN_same,stN_same,stN_same]
   exact J
  ·rw [stN_ne e,stN_ne e,stN_ne e,stN_ne e,stN_ne e]
   have hk:k < N:=by omega
   exact (B.J k hk).fr f qs fun l hl=>mem3 (P:=fun l=>l ∉ [bl,sl]) hl (n2 (B.out k 0 hk (by omega)).1 (B.out k 0 hk (by omega)).2.1) (n2 (B.out k 1 hk (by omega)).1 (B.out k 1 hk (by omega)).2.1) (n2 (B.out k 2 hk (by omega)).1 (B.out k 2 hk (by omega)).2.1)
 ·by_cases e:k = N
  ·subst e
   rw [stN_same,stN_same,stN_same,stN_same,stN_same]
   exact S
  ·rw [stN_ne e,stN_ne e,stN_ne e,stN_ne e,stN_ne e]
   have hk:k < N:=by omega
   exact (B.S k hk).fr f qs (fun l hl=>mem3 (P:=fun l=>l ∉ [bl,sl]) hl (n2 (B.out k 3 hk (by omega)).1 (B.out k 3 hk (by omega)).2.1) (n2 (B.out k 4 hk (by omega)).1 (B.out k 4 hk (by omega)).2.1) (n2 (B.out k 5 hk (by omega)).1 (B.out k 5 hk (by omega)).2.1)) (n2 (B.so k hk).1 (B.so k hk).2)
 ·by_cases c1:k = N
  ·by_cases c2:k' = N
   ·subst c1
    subst c2
    rw [stN_same] at e
    exact ⟨rfl,nd_inj nd hi hi' e⟩
   ·subst c1
    rw [stN_same,stN_ne c2] at e
    exact absurd e (nm k' i' (by omega) hi' (fresh i hi))
  ·by_cases c2:k' = N
   ·subst c2
    rw [stN_same,stN_ne c1] at e
    exact absurd e.symm (nm k i (by omega) hi (fresh i' hi'))
   ·rw [stN_ne c1,stN_ne c2] at e
    exact B.inj k i k' i' (by omega) hi (by omega) hi' e
 ·by_cases c1:k = N
  ·subst c1
   rw [stN_same]
   refine ⟨nb (fresh i hi),ns (fresh i hi),fun k' hk'=>?_⟩
   by_cases c2:k' = k
   ·subst c2
    rw [stN_same]
    exact fun e=>nr (e ▸ mem i hi)
   ·rw [stN_ne c2]
    exact nS k' (by omega) (fresh i hi)
  ·rw [stN_ne c1]
   have o:=B.out k i (by omega) hi
   refine ⟨o.1,o.2.1,fun k' hk'=>?_⟩
   by_cases c2:k' = N
   ·subst c2
    rw [stN_same]
    exact (nm k i (by omega) hi hr).symm
   ·rw [stN_ne c2]
    exact o.2.2 k' (by omega)
 ·by_cases c1:k = N
  ·subst c1
   rw [stN_same]
   exact ⟨nb hr,ns hr⟩
  ·rw [stN_ne c1]
   exact B.so k (by omega)
end
theorem six {P:Addr→Prop} {a b c x y z:Addr} (ha:P a) (hb:P b) (hc:P c) (hx:P x) (hy:P y) (hz:P z):∀ i,i < 6→P ([a,b,c,x,y,z].getD i 0)
 | 0,_=>ha
 | 1,_=>hb
 | 2,_=>hc
 | 3,_=>hx
 | 4,_=>hy
 | 5,_=>hz
 | i + 6,hi=>absurd hi (by omega)
theorem stN_nil {k:Nat}:stN (fun _=>([]:List (Int×Int))) k [] = fun _=>[]:=funext fun j=>by unfold stN;split <;> rfl
theorem range_snoc {p:Nat→Addr} {N:Nat} {q:Addr}:(List.range N).map (fun k=>V.ref (p k)) ++ [.ref q] = (List.range (N + 1)).map fun k=>V.ref (stN p N q k):=by
 rw [List.range_succ,List.map_append,List.map_singleton,stN_same]
 congr 1
 refine List.map_congr_left fun k hk=>?_
 rw [stN_ne (Nat.ne_of_lt (List.mem_range.mp hk))]
theorem bb_all17:bootBuiltins "all" = some (.builtin "all"):=by decide +kernel
structure St17 (C:Addr) (H:Hp) (bl sl hl:Addr) (p s:Nat→Addr) (m:Nat→Nat→Addr) (w:Nat→List Nat) (n:Nat→Nat) (ds us:Rws) (ts:List Addr) (i:Nat):Prop where
 B:Bk C H bl sl p s m w ds us ds us 2
 L:HeldL bl sl s m 2 hl H ts
 K:∀ k,k < 2→Jok (n k) (w k) (ds k) (us k) i
 tl:ts.length≤10
theorem St17.same {C:Addr} {H H':Hp} {bl sl hl:Addr} {p s:Nat→Addr} {m:Nat→Nat→Addr} {w:Nat→List Nat} {n:Nat→Nat} {ds us:Rws} {ts:List Addr} {i:Nat} (h:St17 C H bl sl hl p s m w n ds us ts i) (f:Same H H'):St17 C H' bl sl hl p s m w n ds us ts i:=⟨h.B.same f,h.L.same f,h.K,h.tl⟩
theorem get2 {p:Nat→Addr} {k:Nat} (h:k < 2):atI ((List.range 2).map fun k=>V.ref (p k)) (k:Int) = some (.ref (p k)):=atI_nat (by rw [List.getElem?_map,List.getElem?_range h];rfl)
theorem stN_self {α:Type} {f:Nat→α} {k:Nat}:stN f k (f k) = f:=funext fun j=>by
 unfold stN
 split
 ·next h=>rw [h]
 ·rfl
noncomputable def Inv17 (C a bl sl hl:Addr) (p s:Nat→Addr) (m:Nat→Nat→Addr) (w:Nat→List Nat) (n:Nat→Nat) (H0:Hp) (i:Nat) (σ:St) (H:Hp):Prop:=∃ (ds us:Rws) (ts:List Addr) (v3 v4 v6 v7 v8:Option V),σ = [some (.ref a),some (.ref bl),some (.ref sl),v3,v4,some (.ref hl),v6,v7,v8]∧Same H0 H∧St17 C H bl sl hl p s m w n ds us ts i
noncomputable def Mid17 (C a bl sl:Addr) (p s:Nat→Addr) (m:Nat→Nat→Addr) (w:Nat→List Nat) (n:Nat→Nat) (H0:Hp) (D:Ends) (σ:St) (H:Hp):Prop:=∃ (hl:Addr) (i k:Nat) (ds us:Rws) (ts:List Addr) (v4 v6 v7 v8:Option V),k < 2∧σ = [some (.ref a),some (.ref bl),some (.ref sl),some (.int (k:Nat)),v4,some (.ref hl),v6,v7,v8]∧Same H0 H∧H0 hl = none∧St17 C H bl sl hl p s m w n ds us ts i∧∀ σ' H',Inv17 C a bl sl hl p s m w n H0 i σ' H'→D.nx σ' H'
section
variable {L:List Addr} {H H':Hp} {r:Addr} {g:Tg} {o:Option ((Str ⊕ (Int×Int))×List (Int×Int)×List (Int×Int))}
theorem ResT.fr (h:ResT H r g o) (f:Fr L H H') (q:Ls H L):ResT H' r g o:=by
 match o,h with
 | none,h=>exact f.tup q h
 | some (.inl z,_),⟨v,h1,h2⟩=>exact ⟨v,f.tup q h1,h2⟩
 | some (.inr d,_),⟨v,h1,t,h2,h3⟩=>exact ⟨v,f.tup q h1,t,h2,f.tup q h3⟩
theorem ThgT.fr (h:ThgT H r g) (f:Fr L H H') (q:Ls H L):ThgT H' r g:=by
 cases g with
 | d x y=>obtain ⟨u,h1,h2,h3⟩:=h;exact ⟨u,f.tup q h1,f.tup q h2,h3⟩
 | b=>exact f.tup q h
 | a=>exact f.tup q h
theorem ThgT.same (h:ThgT H r g) (f:Same H H'):ThgT H' r g:=h.fr (L:=[]) (Fr.same f) fun _ z=>absurd z List.not_mem_nil
end
theorem tgN_ne:∀ g:Tg,¬ (V.str (tgN g) = V.str "")
 | .d _ _=>show ¬ (V.str "deed" = V.str "") by decide +kernel
 | .b=>show ¬ (V.str "none" = V.str "") by decide +kernel
 | .a=>show ¬ (V.str "none" = V.str "") by decide +kernel
theorem ResT.deep {K:PySem.W.Frag} {H:Hp} {r r':Addr} {g:Tg} {o:Option ((Str ⊕ (Int×Int))×List (Int×Int)×List (Int×Int))} (h:ResT H r g o) (h':ResT H r' g o):DeepT K H 1 r r':=by
 cases o with
 | none =>
  have h:H r = some (.tup [.str (tgN g),.non]):=h
  have h':H r' = some (.tup [.str (tgN g),.non]):=h'
  refine ⟨_,_,SqT.of h,SqT.of h',rfl,fun i u v e1 e2=>.inl ?_⟩
  cases e1.symm.trans e2
  match i,e1 with
  | 0,e1=>cases e1;exact ⟨rfl,rfl⟩
  | 1,e1=>cases e1;exact ⟨rfl,rfl⟩
 | some x =>
  obtain ⟨v,h1,h2⟩:=h
  obtain ⟨v',h1',h2'⟩:=h'
  refine ⟨_,_,SqT.of h1,SqT.of h1',rfl,fun i u u' e1 e2=>?_⟩
  match i,e1,e2 with
  | 0,e1,e2=>cases e1;cases e2;exact .inl ⟨rfl,rfl⟩
  | 1,e1,e2 =>
   cases e1
   cases e2
   match x,h2,h2' with
   | (.inl z,_),h2,h2' =>
    have h2:v = .str z:=h2
    have h2':v' = .str z:=h2'
    subst h2 h2'
    exact .inl ⟨rfl,rfl⟩
   | (.inr d,_),h2,h2' =>
    obtain ⟨t,rfl,g1⟩:=h2
    obtain ⟨t',rfl,g2⟩:=h2'
    refine .inr ⟨t,t',_,_,rfl,rfl,.inr ⟨SqT.of g1,SqT.of g2⟩,rfl,fun i u v e1 e2=>?_⟩
    cases e1.symm.trans e2
    match i,e1 with
    | 0,e1=>cases e1;exact ⟨rfl,rfl⟩
    | 1,e1=>cases e1;exact ⟨rfl,rfl⟩
end Mir
namespace L2
open PySem
theorem op_eq_deepK {X:Cx} {K:PySem.W.Frag} (hK:X.K = K) (n:Nat) (hu:X.A.units + n + 1 < cLine):OpR X (compareOp .Eq) (fun x y H Q=>∃ a b:Addr,x = .ref a∧y = .ref b∧DeepL K H n a b∧Q (.bl true) H):=hK ▸ op_eq_deep n hu
end L2

set_option maxHeartbeats 2000000
namespace Law
open PySem L2
noncomputable def top (i:Nat):Stmt:=PySem.Challenge.pw_claspwork_k17_journals.main.body.getD i (.Pass ⟨0,0,0,0⟩)
noncomputable abbrev s_staves_in:Stmt:=top 5
noncomputable abbrev s_far_end:Stmt:=top 6
noncomputable abbrev s_loose_ends:Stmt:=top 7
noncomputable abbrev s_rows_in:Stmt:=top 9
noncomputable abbrev s_rings_in:Stmt:=top 10
noncomputable abbrev s_walked_from:Stmt:=top 11
noncomputable abbrev s_mark_staves:Stmt:=top 12
noncomputable abbrev s_fits_work:Stmt:=top 14
noncomputable abbrev s_refuse_misfit:Stmt:=top 15
noncomputable abbrev s_reclasped:Stmt:=top 16
noncomputable abbrev s_freed_ends:Stmt:=top 17
noncomputable abbrev s_clasp_ends:Stmt:=top 18
noncomputable abbrev s_told_deed:Stmt:=top 19
noncomputable abbrev s_least_pair:Stmt:=top 20
noncomputable abbrev s_deed_kind:Stmt:=top 21
noncomputable abbrev s_chain_with:Stmt:=top 22
noncomputable abbrev s_law_cell:Stmt:=top 26
noncomputable abbrev s_law_number:Stmt:=top 27
noncomputable abbrev s_law_work:Stmt:=top 28
noncomputable abbrev s_law_fits:Stmt:=top 29
noncomputable abbrev s_law_behind:Stmt:=top 30
noncomputable abbrev s_law_done:Stmt:=top 31
noncomputable abbrev s_law_due:Stmt:=top 32
noncomputable abbrev s_law_moved:Stmt:=top 33
noncomputable abbrev s_law_thing:Stmt:=top 34
noncomputable abbrev s_law_shows:Stmt:=top 35
noncomputable abbrev s_law:Stmt:=top 36
theorem sc_staves_in:FnScope ["work"] ["work"] (defScope s_staves_in):=⟨rfl,rfl,rfl,by decide +kernel,rfl,by decide +kernel,by decide +kernel⟩
theorem sc_far_end:FnScope ["end"] ["end"] (defScope s_far_end):=⟨rfl,rfl,rfl,by decide +kernel,rfl,by decide +kernel,by decide +kernel⟩
theorem sc_loose_ends:FnScope ["work"] ["work"] (defScope s_loose_ends):=⟨rfl,rfl,rfl,by decide +kernel,rfl,by decide +kernel,by decide +kernel⟩
theorem sc_rows_in:FnScope ["work","rows","end","row"] ["work"] (defScope s_rows_in):=⟨rfl,rfl,rfl,by decide +kernel,rfl,by decide +kernel,by decide +kernel⟩
theorem sc_rings_in:FnScope ["work","seen","row","rings","stave","ring"] ["work"] (defScope s_rings_in):=⟨rfl,rfl,rfl,by decide +kernel,rfl,by decide +kernel,by decide +kernel⟩
theorem sc_walked_from:FnScope ["work","start","entered","leaving"] ["work","start"] (defScope s_walked_from):=⟨rfl,rfl,rfl,by decide +kernel,rfl,by decide +kernel,by decide +kernel⟩
theorem sc_mark_staves:FnScope ["seen","chain","end"] ["seen","chain"] (defScope s_mark_staves):=⟨rfl,rfl,rfl,by decide +kernel,rfl,by decide +kernel,by decide +kernel⟩
theorem sc_fits_work:FnScope ["work","deed","low","high"] ["work","deed"] (defScope s_fits_work):=⟨rfl,rfl,rfl,by decide +kernel,rfl,by decide +kernel,by decide +kernel⟩
theorem sc_refuse_misfit:FnScope ["work","deed"] ["work","deed"] (defScope s_refuse_misfit):=⟨rfl,rfl,rfl,by decide +kernel,rfl,by decide +kernel,by decide +kernel⟩
theorem sc_reclasped:FnScope ["work","deed","mates","freed"] ["work","deed"] (defScope s_reclasped):=⟨rfl,rfl,rfl,by decide +kernel,rfl,by decide +kernel,by decide +kernel⟩
theorem sc_freed_ends:FnScope ["work","deed"] ["work","deed"] (defScope s_freed_ends):=⟨rfl,rfl,rfl,by decide +kernel,rfl,by decide +kernel,by decide +kernel⟩
theorem sc_clasp_ends:FnScope ["mates","one","other"] ["mates","one","other"] (defScope s_clasp_ends):=⟨rfl,rfl,rfl,by decide +kernel,rfl,by decide +kernel,by decide +kernel⟩
theorem sc_told_deed:FnScope ["work","deed"] ["work","deed"] (defScope s_told_deed):=⟨rfl,rfl,rfl,by decide +kernel,rfl,by decide +kernel,by decide +kernel⟩
theorem sc_least_pair:FnScope ["work","deed","pair","freed"] ["work","deed"] (defScope s_least_pair):=⟨rfl,rfl,rfl,by decide +kernel,rfl,by decide +kernel,by decide +kernel⟩
theorem sc_deed_kind:FnScope ["work","deed","behind","low","high","rings","chains","low_chain","high_chain"] ["work","deed"] (defScope s_deed_kind):=⟨rfl,rfl,rfl,by decide +kernel,rfl,by decide +kernel,by decide +kernel⟩
theorem sc_chain_with:FnScope ["chains","end","stave","found"] ["chains","end"] (defScope s_chain_with):=⟨rfl,rfl,rfl,by decide +kernel,rfl,by decide +kernel,by decide +kernel⟩
theorem sc_law_cell:FnScope ["script","k"] ["script","k"] (defScope s_law_cell):=⟨rfl,rfl,rfl,by decide +kernel,rfl,by decide +kernel,by decide +kernel⟩
theorem sc_law_number:FnScope ["script","k","cell"] ["script","k"] (defScope s_law_number):=⟨rfl,rfl,rfl,by decide +kernel,rfl,by decide +kernel,by decide +kernel⟩
theorem sc_law_work:FnScope ["script","at","staves","left","mates","one","pick","other"] ["script","at","staves"] (defScope s_law_work):=⟨rfl,rfl,rfl,by decide +kernel,rfl,by decide +kernel,by decide +kernel⟩
theorem sc_law_fits:FnScope ["work","one","two"] ["work","one","two"] (defScope s_law_fits):=⟨rfl,rfl,rfl,by decide +kernel,rfl,by decide +kernel,by decide +kernel⟩
theorem sc_law_behind:FnScope ["work","one","two","mates","first","second","end"] ["work","one","two"] (defScope s_law_behind):=⟨rfl,rfl,rfl,by decide +kernel,rfl,by decide +kernel,by decide +kernel⟩
theorem sc_law_done:FnScope ["book","thing","caught","told"] ["book","thing"] (defScope s_law_done):=⟨rfl,rfl,rfl,by decide +kernel,rfl,by decide +kernel,by decide +kernel⟩
theorem sc_law_due:FnScope ["state","thing","work"] ["state","thing"] (defScope s_law_due):=⟨rfl,rfl,rfl,by decide +kernel,rfl,by decide +kernel,by decide +kernel⟩
theorem sc_law_moved:FnScope ["state","thing","work","deed"] ["state","thing"] (defScope s_law_moved):=⟨rfl,rfl,rfl,by decide +kernel,rfl,by decide +kernel,by decide +kernel⟩
theorem sc_law_thing:FnScope ["cell","work","way","size","one","two"] ["cell","work"] (defScope s_law_thing):=⟨rfl,rfl,rfl,by decide +kernel,rfl,by decide +kernel,by decide +kernel⟩
theorem sc_law_shows:FnScope ["book","state"] ["book","state"] (defScope s_law_shows):=⟨rfl,rfl,rfl,by decide +kernel,rfl,by decide +kernel,by decide +kernel⟩
theorem sc_law:FnScope ["script","books","states","k","work","held","cell","thing","due"] ["script"] (defScope s_law):=⟨rfl,rfl,rfl,by decide +kernel,rfl,by decide +kernel,by decide +kernel⟩
noncomputable abbrev s_Journal_init:Stmt:=inClass (top 24) 0
theorem sc_Journal_init:FnScope ["self","work"] ["self","work"] (defScope s_Journal_init):=⟨rfl,rfl,rfl,by decide +kernel,rfl,by decide +kernel,by decide +kernel⟩
noncomputable abbrev s_Journal_now:Stmt:=inClass (top 24) 1
theorem sc_Journal_now:FnScope ["self"] ["self"] (defScope s_Journal_now):=⟨rfl,rfl,rfl,by decide +kernel,rfl,by decide +kernel,by decide +kernel⟩
noncomputable abbrev s_Journal_deeds:Stmt:=inClass (top 24) 2
theorem sc_Journal_deeds:FnScope ["self"] ["self"] (defScope s_Journal_deeds):=⟨rfl,rfl,rfl,by decide +kernel,rfl,by decide +kernel,by decide +kernel⟩
noncomputable abbrev s_Journal_works:Stmt:=inClass (top 24) 3
theorem sc_Journal_works:FnScope ["self"] ["self"] (defScope s_Journal_works):=⟨rfl,rfl,rfl,by decide +kernel,rfl,by decide +kernel,by decide +kernel⟩
noncomputable abbrev s_Journal_do:Stmt:=inClass (top 24) 4
theorem sc_Journal_do:FnScope ["self","deed","kind"] ["self","deed"] (defScope s_Journal_do):=⟨rfl,rfl,rfl,by decide +kernel,rfl,by decide +kernel,by decide +kernel⟩
noncomputable abbrev s_Journal_go_on:Stmt:=inClass (top 24) 5
theorem sc_Journal_go_on:FnScope ["self","deed","work","kind"] ["self","deed"] (defScope s_Journal_go_on):=⟨rfl,rfl,rfl,by decide +kernel,rfl,by decide +kernel,by decide +kernel⟩
noncomputable abbrev s_Journal_back:Stmt:=inClass (top 24) 6
theorem sc_Journal_back:FnScope ["self"] ["self"] (defScope s_Journal_back):=⟨rfl,rfl,rfl,by decide +kernel,rfl,by decide +kernel,by decide +kernel⟩
noncomputable abbrev s_Journal_again:Stmt:=inClass (top 24) 7
theorem sc_Journal_again:FnScope ["self"] ["self"] (defScope s_Journal_again):=⟨rfl,rfl,rfl,by decide +kernel,rfl,by decide +kernel,by decide +kernel⟩
structure Bl (mg:Str→Option Value):Prop where
 «all»:mg "all" = none
 «enumerate»:mg "enumerate" = none
 «isinstance»:mg "isinstance" = none
 «len»:mg "len" = none
 «list»:mg "list" = none
 «max»:mg "max" = none
 «min»:mg "min" = none
 «range»:mg "range" = none
 «tuple»:mg "tuple" = none
section
variable {P:Program} {w:World} {K:PySem.W.Frag} {mg:Str→Option Value} {base:Heap}
theorem ok_staves_in {f:Addr} {fd:FuncData} (B:Bl mg) (F:Fn K mg "staves_in" s_staves_in ["work"] f fd):FnOk P w K mg base CX0 1 f fd ["work"] (Mir.spStaves K):=by
 refine F.fn.ok sc_staves_in (fun vs H Q E h=>?_) (fun cdv A outer s H vs Q E hr h=>?_)
 ·obtain ⟨a,n,ms,rfl,_⟩:=h
  rfl
 ·obtain ⟨a,n,ms,rfl,hS,W,q⟩:=h
  refine ⟨_,pss_one (ps_ret (pe_op op_fdiv (pe_callB call_len_seq rfl B.len bb_len (pa_cons (pv 0) pa_nil)) pe_int)),?_⟩
  refine ⟨_,rfl,a,_,rfl,.inr hS,_,_,rfl,rfl,⟨by decide,by decide⟩,?_⟩
  have e:(((Mir.nV ms).length:Nat):Int) / 2 = n:=by rw [Mir.nV_len,W.len];omega
  show Q (.int ((((Mir.nV ms).length:Nat):Int) / 2)) H
  rw [e]
  exact q
end
section
variable {P:Program} {w:World} {K:PySem.W.Frag} {mg:Str→Option Value} {base:Heap}
theorem ok_far_end {f:Addr} {fd:FuncData} (F:Fn K mg "far_end" s_far_end ["end"] f fd):FnOk P w K mg base CX0 1 f fd ["end"] Mir.spFar:=by
 refine F.fn.ok sc_far_end (fun vs H Q E h=>?_) (fun cdv A outer s H vs Q E hr h=>?_)
 ·obtain ⟨e,rfl,_⟩:=h
  rfl
 ·obtain ⟨e,rfl,h0,q⟩:=h
  refine ⟨_,pss_one (ps_ret (pe_op op_xor (pv 0) pe_int)),?_⟩
  refine ⟨_,rfl,_,_,rfl,rfl,?_⟩
  rw [← Mir.xor_one h0] at q
  exact q
end
section
variable {P:Program} {w:World} {K:PySem.W.Frag} {mg:Str→Option Value} {base:Heap}
theorem ok_loose_ends {f:Addr} {fd:FuncData} (B:Bl mg) (F:Fn K mg "loose_ends" s_loose_ends ["work"] f fd):FnOk P w K mg base CX0 1 f fd ["work"] (Mir.spLoose K):=by
 refine F.fn.ok sc_loose_ends (fun vs H Q E h=>?_) (fun cdv A outer s H vs Q E hr h=>?_)
 ·obtain ⟨a,n,ms,rfl,_⟩:=h
  rfl
 ·obtain ⟨a,n,ms,rfl,hS,W,k⟩:=h
  have nd2:(["end","mate"]:List Str).Nodup:=by decide +kernel
  refine ⟨_,pss_one (ps_ret (pe_comp (NC:=["end","mate"]) rfl (compOk0 rfl (by decide +kernel) (by decide +kernel)) (pi_enumT rfl B.enumerate (pa_cons (pv 0) pa_nil))
   (fun _ _ _ _=>pg_tupK (K:=K) (n:=2) rfl rfl (pgs_cons (pg_name (i:=0) nd2 rfl (Or.inl rfl)) (pgs_cons (pg_name (i:=1) nd2 rfl (Or.inl rfl)) pgs_nil))) (fun _ _ _ _=>pts_one (pt_cmpR op_eq (pv 0) (pv 1) (nomark _))) (fun _ _ _ _=>pv 0))),?_⟩
  refine ⟨_,rfl,a,rfl,⟨_,hS⟩,fun D hD=>?_⟩
  refine comp_enum (K:=K) (a:=a) (xs:=Mir.nV ms) (fun i σ H2=>∃ v0 v1:Option V,σ = [v0,v1]∧Same H H2∧H2 D = some (.lst (Mir.nV ((List.range i).filter fun e=>e == Mir.at0 ms e))))
   ⟨none,none,rfl,same_upd hD,upd_same⟩ (fun i σ H2 _ ⟨_,_,_,s2,_⟩=>s2.tup hS) ?_ ?_
  ·rintro i x t σ H2 hx ⟨v0,v1,rfl,s2,hD2⟩ ht
   obtain ⟨m,hm,rfl⟩:=Mir.nV_get' hx
   have hi:i < 2 * n:=by have z:=(List.getElem?_eq_some_iff.mp hm).1;rw [W.len] at z;exact z
   have em:m = Mir.at0 ms i:=by have z:=Mir.at0_get (ms:=ms) (e:=i) (by rw [W.len];exact hi);rw [hm] at z;exact Option.some.inj z
   have nDt:D≠t:=ne_of_none hD2 ht
   refine ⟨t,_,rfl,SqT.of upd_same,rfl,_,_,rfl,_,_,rfl,rfl,?_⟩
   refine ⟨_,rfl,_,rfl,rfl,_,rfl,?_⟩
   refine ite2 (fun h1=>?_) (fun h1=>?_)
   ·have h1:=of_decide_eq_true h1
    injection h1 with h1
    refine ⟨_,rfl,_,by rw [upd_ne nDt];exact hD2,small1000 ?_,_,_,rfl,(s2.upd (s2.free ht)).upd hD,?_⟩
    ·rw [Mir.nV_len]
     have z:=List.length_filter_le (fun e=>e == Mir.at0 ms e) (List.range i)
     rw [List.length_range] at z
     have:=W.small
     omega
    ·have e:(i == Mir.at0 ms i) = true:=by rw [beq_iff_eq,← em];omega
     rw [upd_same,List.range_succ,List.filter_append,List.filter_cons_of_pos (by exact e),List.filter_nil,Mir.nV_snoc]
   ·refine ⟨_,_,rfl,s2.upd (s2.free ht),?_⟩
    have e:¬ (i == Mir.at0 ms i) = true:=fun z=>h1 (decide_eq_true (by rw [beq_iff_eq,← em] at z;rw [z]))
    rw [upd_ne nDt,hD2,List.range_succ,List.filter_append,List.filter_cons_of_neg (by exact e),List.filter_nil,List.append_nil]
  ·rintro σ H2 ⟨v0,v1,rfl,s2,hD2⟩
   rw [Mir.nV_len,W.len] at hD2
   exact k D H2 hD s2 hD2
end
section
variable {P:Program} {w:World} {K:PySem.W.Frag} {mg:Str→Option Value} {base:Heap}
theorem ok_walked_from {f fF:Addr} {fd fdF:FuncData} (B:Bl mg) (F:Fn K mg "walked_from" s_walked_from ["work","start"] f fd) (FF:Fn K mg "far_end" s_far_end ["end"] fF fdF):FnOk P w K mg base CX0 2 f fd ["work","start"] (Mir.spWalked K):=by
 have GF:FnOk P w K mg base CX0 1 fF fdF ["end"] Mir.spFar:=ok_far_end FF
 refine F.fn.ok sc_walked_from (fun vs H Q E h=>?_) (fun cdv A outer s H vs Q E hr h=>?_)
 ·obtain ⟨a,n,ms,s,rfl,_⟩:=h
  rfl
 ·obtain ⟨a,n,ms,st,rfl,hS,W,hst,k⟩:=h
  have hsm:=W.small
  refine ⟨_,pss_cons (ps_set (i:=2) sc_walked_from.nd rfl (Or.inl rfl) (pe_lst (pa_cons (pv 1) pa_nil)))
   (pss_cons (ps_set (i:=3) sc_walked_from.nd rfl (Or.inl rfl) (pe_fn GF FF hr (pa_cons (pv 1) pa_nil)))
   (pss_cons (ps_while PassesOwn.never (PW.pt (pw_and (pt_cmpR op_ne (pe_ix ix_tup (pv 0) (pv 3) (fun _ _=>rfl)) (pv 3) (nomark _)) (pw_and1 (pt_cmpR op_ne (pe_ix ix_tup (pv 0) (pv 3) (fun _ _=>rfl)) (pv 1) (nomark _)))))
    (pss_cons (ps_expr (pe_bm PySem.F.plainAttrs_list PySem.F.slot_list_append PySem.F.type_list_append mt_append (pv 2) (pa_cons (pe_ix ix_tup (pv 0) (pv 3) (fun _ _=>rfl)) pa_nil)))
    (pss_one (ps_set (i:=3) sc_walked_from.nd rfl (Or.inl rfl) (pe_fn GF FF hr (pa_cons (pe_ix ix_tup (pv 0) (pv 3) (fun _ _=>rfl)) pa_nil))))))
   (pss_one (ps_ret (pe_callTy call_tuple_of rfl B.tuple bb_tuple (pa_cons (pv 2) pa_nil)))))),?_⟩
  refine ⟨_,rfl,by show 1≤sizeLine;decide,fun l hl=>?_⟩
  refine ⟨_,rfl,_,rfl,Int.natCast_nonneg _,?_⟩
  rw [Mir.farI_nat]
  refine while_by (fun σ H2=>∃ (xs:List Nat) (x j:Nat),σ = [some (.ref a),some (.int st),some (.ref l),some (.int (Ch.far x:Nat))]∧Same H H2∧H2 l = some (.lst (Mir.nV (xs ++ [x]))) ∧
    Ch.Steps n (Mir.at0 ms) st (xs ++ [x])∧(xs ++ [x]).length + j = n + 1∧xs ++ [x] ++ Ch.goF (Mir.at0 ms) st j (Ch.far x) = Ch.walk n (Mir.at0 ms) st)
   (fun σ H2=>match H2 l with | some (.lst ys)=>n + 1 - ys.length | _=>0)
   ⟨[],st,n,rfl,same_upd hl,upd_same,Ch.Steps.one hst,by simp;omega,rfl⟩ ?_ ?_
  ·rintro σ H2 ⟨xs,x,j,rfl,s2,hl2,S,hj,hw⟩
   have hx:x < 2 * n:=S.lt x (by simp)
   have hfx:=Ch.far_lt hx
   have hix:=W.ix hfx
   have hlen:=S.len W.wk
   have out:∀ D:Ends,(∀ H3,Same H H3→H3 l = some (.lst (Mir.nV (Ch.walk n (Mir.at0 ms) st)))→D.nx [some (.ref a),some (.int st),some (.ref l),some (.int (Ch.far x:Nat))] H3) →
     ¬ (Mir.at0 ms (Ch.far x)≠Ch.far x∧Mir.at0 ms (Ch.far x)≠st)→D.nx [some (.ref a),some (.int st),some (.ref l),some (.int (Ch.far x:Nat))] H2:=fun D hD hc=>by
    refine hD H2 s2 ?_
    rw [hl2,← hw,Ch.goF_stop hc,List.append_nil]
   refine ⟨_,rfl,_,rfl,a,_,_,_,rfl,rfl,s2.tup hS,hix,_,rfl,rfl,_,rfl,?_⟩
   refine ite2 (fun h1=>?_) (fun h1=>?_)
   ·have c1:Mir.at0 ms (Ch.far x)≠Ch.far x:=fun z=>by
     rw [z] at h1
     simp at h1
    refine ⟨_,rfl,_,rfl,a,_,_,_,rfl,rfl,s2.tup hS,hix,_,rfl,rfl,_,rfl,?_⟩
    refine ite2 (fun h2=>?_) (fun h2=>?_)
    ·have c2:Mir.at0 ms (Ch.far x)≠st:=fun z=>by
      rw [z] at h2
      simp at h2
     have S2:=S.snoc W.wk c1 c2
     have hlen2:=S2.len W.wk
     have hll:(xs ++ [x] ++ [Mir.at0 ms (Ch.far x)]).length = (xs ++ [x]).length + 1:=by simp
     obtain ⟨j',rfl⟩:∃ j',j = j' + 1:=⟨j - 1,by omega⟩
     refine ⟨_,rfl,.inl ⟨rfl,_,SqL.of hl2⟩,_,rfl,_,rfl,a,_,_,_,rfl,rfl,s2.tup hS,hix,l,_,_,rfl,rfl,hl2,small1000 (by rw [Mir.nV_len];omega),?_⟩
     have s3:Same H (upd H2 l (.lst (Mir.nV (xs ++ [x]) ++ [V.int (Mir.at0 ms (Ch.far x):Nat)]))):=s2.upd hl
     refine ⟨_,rfl,_,rfl,a,_,_,_,rfl,rfl,s3.tup hS,hix,_,rfl,Int.natCast_nonneg _,?_⟩
     rw [Mir.farI_nat]
     refine ⟨⟨xs ++ [x],Mir.at0 ms (Ch.far x),j',rfl,s3,by rw [upd_same,← Mir.nV_snoc],S2,by omega,?_⟩,?_⟩
     ·rw [← hw,List.append_assoc (xs ++ [x])]
      congr 1
      show _ = (if Mir.at0 ms (Ch.far x)≠Ch.far x∧Mir.at0 ms (Ch.far x)≠st then _ else _)
      rw [if_pos ⟨c1,c2⟩]
      rfl
     ·show (match (upd H2 l (.lst (Mir.nV (xs ++ [x]) ++ [V.int (Mir.at0 ms (Ch.far x):Nat)]))) l with | some (.lst ys)=>n + 1 - ys.length | _=>0) < (match H2 l with | some (.lst ys)=>n + 1 - ys.length | _=>0)
      rw [upd_same,hl2]
      show n + 1 - (Mir.nV (xs ++ [x]) ++ [V.int (Mir.at0 ms (Ch.far x):Nat)]).length < n + 1 - (Mir.nV (xs ++ [x])).length
      rw [List.length_append,Mir.nV_len,List.length_singleton]
      omega
    ·refine out _ (fun H3 s3 h3=>?_) (fun z=>h2 ?_)
     ·refine ⟨_,rfl,l,_,rfl,.inl ⟨SqL.of h3,fun r hr'=>k r _ (s3.free hr') (s3.upd (s3.free hr')) upd_same⟩⟩
     ·have z2:=z.2
      simp only [Bool.not_eq_true',decide_eq_false_iff_not]
      intro e
      injection e with e
      exact z2 (by omega)
   ·refine out _ (fun H3 s3 h3=>?_) (fun z=>h1 ?_)
    ·refine ⟨_,rfl,l,_,rfl,.inl ⟨SqL.of h3,fun r hr'=>k r _ (s3.free hr') (s3.upd (s3.free hr')) upd_same⟩⟩
    ·have z1:=z.1
     simp only [Bool.not_eq_true',decide_eq_false_iff_not]
     intro e
     injection e with e
     exact z1 (by omega)
  ·rintro σ H2 R R' hR ⟨a1,e1,a2,e2,p,ys,i,z,e3,e4,e5,e6,a3,e7,sc,c,ec,h⟩
   refine ⟨a1,e1,a2,e2,p,ys,i,z,e3,e4,e5,e6,a3,e7,sc,c,ec,?_⟩
   cases c with
   | false=>exact hR _ _ h
   | true =>
    obtain ⟨b1,d1,b2,d2,p',ys',i',z',d3,d4,d5,d6,b3,d7,sc',c',ec',h⟩:=h
    exact ⟨b1,d1,b2,d2,p',ys',i',z',d3,d4,d5,d6,b3,d7,sc',c',ec',hR _ _ h⟩
end
section
variable {P:Program} {w:World} {K:PySem.W.Frag} {mg:Str→Option Value} {base:Heap}
theorem ok_mark_staves {f:Addr} {fd:FuncData} (F:Fn K mg "mark_staves" s_mark_staves ["seen","chain"] f fd):FnOk P w K mg base CX0 1 f fd ["seen","chain"] (Mir.spMark K):=by
 refine F.fn.ok sc_mark_staves (fun vs H Q E h=>?_) (fun cdv A outer s H vs Q E hr h=>?_)
 ·obtain ⟨d,c,kvs,xs,rfl,_⟩:=h
  rfl
 ·obtain ⟨d,c,kvs,xs,rfl,hd,hS,hlen,k⟩:=h
  have hu:=hu_of hr
  refine ⟨_,pss_one (ps_for PassesOwn.never rfl (pi_tup (pv 1)) (pg_name (i:=2) sc_mark_staves.nd rfl (Or.inl rfl)) (pss_one (ps_dput hu (pv 0) (pe_op op_fdiv (pv 2) pe_int) pe_bl rfl))),?_⟩
  have hcd:∀ {o:HO},(H d = some (.dK kvs))→Rd H c o→(∀ z,o≠.dK z)→c≠d:=fun h r ne e=>by
   subst e
   rcases r with r | ⟨ob,r⟩
   ·rw [h] at r;exact ne _ (Option.some.inj r).symm
   ·rw [h] at r;cases r
  have stay:∀ H2:Hp,(∀ b o,b≠d→H b = some o→H2 b = some o)→SqT K H2 c (Mir.nV xs):=fun H2 s2=>by
   rcases hS with r | r
   ·have ne:=hcd hd r (by intro z;intro e;cases e)
    rcases r with r | ⟨ob,r⟩
    ·exact .inl (.inl (s2 c _ ne r))
    ·exact .inl (.inr ⟨ob,s2 c _ ne r⟩)
   ·exact .inr r
  refine ⟨_,rfl,c,rfl,⟨_,hS⟩,for_tup (K:=K) (a:=c) (xs:=Mir.nV xs) (fun i σ H2=>∃ (v:Option V) (kv2:List (Key×V)),σ = [some (.ref d),some (.ref c),v]∧(∀ b o,b≠d→H b = some o→H2 b = some o)∧H2 d = some (.dK kv2) ∧
    kv2.length≤kvs.length + i∧∀ j:Nat,(valV kv2 (Sum.inl (j:Int):Key)).isSome = true↔(valV kvs (Sum.inl (j:Int):Key)).isSome = true∨j∈(xs.take i).map (· / 2))
   ⟨none,kvs,rfl,fun b o _ e=>e,hd,Nat.le_refl _,fun j=>by simp⟩ (fun i σ H2 _ ⟨_,_,_,s2,_⟩=>stay H2 s2) ?_ ?_⟩
  ·rintro i y σ H2 hy ⟨v,kv2,rfl,s2,hd2,hl2,hk2⟩
   obtain ⟨x,hx,rfl⟩:=Mir.nV_get' hy
   have hil:i < xs.length:=(List.getElem?_eq_some_iff.mp hx).1
   refine ⟨_,rfl,_,rfl,_,_,rfl,rfl,⟨by decide,by decide⟩,d,_,rfl,DPut.k (k:=Sum.inl ((x:Int) / 2)) hd2 (Nat.lt_of_le_of_lt (show kv2.length≤200000 by omega) (by decide)),?_⟩
   refine ⟨_,_,rfl,fun b o hb e=>by rw [upd_ne hb];exact s2 b o hb e,upd_same,?_,fun j=>?_⟩
   ·have z:=length_putK kv2 (Sum.inl ((x:Int) / 2):Key) (V.bl true)
    omega
   ·rw [valV_put,Mir.take_snoc hx,List.map_append,List.mem_append]
    by_cases e:(Sum.inl (j:Int):Key) = Sum.inl ((x:Int) / 2)
    ·rw [if_pos e]
     have e2:j = x / 2:=by injection e with e;omega
     constructor
     ·intro _;exact .inr (.inr (by simp [e2]))
     ·intro _;rfl
    ·rw [if_neg e,hk2 j]
     have e2:j≠x / 2:=fun z=>e (by congr 1;omega)
     constructor
     ·rintro (h | h)
      ·exact .inl h
      ·exact .inr (.inl h)
     ·rintro (h | h | h)
      ·exact .inl h
      ·exact .inr h
      ·simp at h;exact absurd h e2
  ·rintro σ H2 ⟨v,kv2,rfl,s2,hd2,hl2,hk2⟩
   rw [Mir.nV_len] at hl2 hk2
   rw [List.take_length] at hk2
   exact k kv2 H2 hd2 s2 hl2 hk2
end
section
variable {P:Program} {w:World} {K:PySem.W.Frag} {mg:Str→Option Value} {base:Heap}
theorem ok_rows_in {f fF fL fW:Addr} {fd fdF fdL fdW:FuncData} (B:Bl mg) (F:Fn K mg "rows_in" s_rows_in ["work"] f fd) (FF:Fn K mg "far_end" s_far_end ["end"] fF fdF) (FL:Fn K mg "loose_ends" s_loose_ends ["work"] fL fdL)
  (FW:Fn K mg "walked_from" s_walked_from ["work","start"] fW fdW):FnOk P w K mg base CX0 3 f fd ["work"] (Mir.spRows K):=by
 have GF:FnOk P w K mg base CX0 1 fF fdF ["end"] Mir.spFar:=ok_far_end FF
 have GL:FnOk P w K mg base CX0 1 fL fdL ["work"] (Mir.spLoose K):=ok_loose_ends B FL
 have GW:FnOk P w K mg base CX0 2 fW fdW ["work","start"] (Mir.spWalked K):=ok_walked_from B FW FF
 refine F.fn.ok sc_rows_in (fun vs H Q E h=>?_) (fun cdv A outer s H vs Q E hr h=>?_)
 ·obtain ⟨a,n,ms,rfl,_⟩:=h
  rfl
 ·obtain ⟨a,n,ms,rfl,hS,W,k⟩:=h
  have hr1:Room 1 _:=hr.mono (by decide)
  have hsm:=W.small
  refine ⟨_,pss_cons (ps_set (i:=1) sc_rows_in.nd rfl (Or.inl rfl) (pe_lst pa_nil))
   (pss_cons (ps_for PassesOwn.never rfl (pi_list (pe_fn GL FL hr1 (pa_cons (pv 0) pa_nil))) (pg_name (i:=2) sc_rows_in.nd rfl (Or.inl rfl))
    (pss_cons (ps_set (i:=3) sc_rows_in.nd rfl (Or.inl rfl) (pe_fn GW FW hr (pa_cons (pv 0) (pa_cons (pv 2) pa_nil))))
    (pss_one (ps_if (pt_cmpR op_lt (pv 2) (pe_fn GF FF hr1 (pa_cons (pe_ix ix_tup (pv 3) (pe_un un_neg pe_int) (fun _ _=>rfl)) pa_nil)) (nomark _))
     (pss_one (ps_expr (pe_bm PySem.F.plainAttrs_list PySem.F.slot_list_append PySem.F.type_list_append mt_append (pv 1) (pa_cons (pv 3) pa_nil)))) pss_nil))))
   (pss_one (ps_ret (pv 1)))),?_⟩
  refine ⟨by show 0≤sizeLine;decide,fun l hl=>?_⟩
  have s1:Same H (upd H l (.lst [])):=same_upd hl
  refine ⟨_,rfl,a,n,ms,rfl,s1.tup hS,W,fun ll H1 hll s2 hl1=>?_⟩
  have sA:Same H H1:=s1.trans s2
  have hlr:H1 l = some (.lst []):=s2 l _ upd_same
  refine ⟨ll,rfl,⟨_,SqL.of hl1⟩,for_list (K:=K) (a:=ll) (xs:=Mir.nV (Ch.looseL n (Mir.at0 ms))) (fun i σ H2=>∃ v2 v3:Option V,σ = [some (.ref a),some (.ref l),v2,v3]∧Same H H2∧H2 ll = some (.lst (Mir.nV (Ch.looseL n (Mir.at0 ms)))) ∧
    Mir.RowsT H2 l ((((Ch.looseL n (Mir.at0 ms)).take i).map (Ch.walk n (Mir.at0 ms))).filter fun xs=>decide (xs.headD 0 < Ch.lastFar xs)))
   ⟨none,none,rfl,sA,hl1,.nil hlr⟩ (fun i σ H2 _ ⟨_,_,_,_,e,_⟩=>SqL.of e) ?_ ?_⟩
  ·rintro i x σ H2 hx ⟨v2,v3,rfl,s3,hll2,R⟩
   obtain ⟨e,he,rfl⟩:=Mir.nV_get' hx
   obtain ⟨he1,he2⟩:=Ch.mem_loose.mp (List.mem_of_getElem? he)
   refine ⟨_,rfl,_,rfl,a,n,ms,e,rfl,s3.tup hS,W,he1,fun t H3 ht s4 ht3=>?_⟩
   have Fu:=Ch.walk_full W.wk he1
   obtain ⟨x,hx1,hx2,hx3⟩:=Fu.lastFar_eq
   have hst:(Ch.walk n (Mir.at0 ms) e).headD 0 = e:=rfl
   have htk:((Ch.looseL n (Mir.at0 ms)).take (i + 1)).map (Ch.walk n (Mir.at0 ms)) = ((Ch.looseL n (Mir.at0 ms)).take i).map (Ch.walk n (Mir.at0 ms)) ++ [Ch.walk n (Mir.at0 ms) e]:=by
    rw [Mir.take_snoc he,List.map_append];rfl
   have R3:=R.same s4
   have hll3:=s4 ll _ hll2
   refine ⟨_,rfl,_,rfl,_,rfl,t,_,_,_,rfl,rfl,SqT.of ht3,Mir.atI_nlast hx1,_,rfl,Int.natCast_nonneg _,_,_,rfl,rfl,_,rfl,?_⟩
   rw [Mir.farI_nat,← hx2]
   refine ite2 (fun h1=>?_) (fun h1=>?_)
   ·have h1:e < Ch.lastFar (Ch.walk n (Mir.at0 ms) e):=by have z:=of_decide_eq_true h1;omega
    obtain ⟨ys,hy,hyl,R4⟩:=R3.snoc ht3
    refine ⟨_,rfl,.inl ⟨rfl,_,SqL.of hy⟩,_,rfl,l,_,_,rfl,rfl,hy,small1000 ?_,?_⟩
    ·rw [hyl]
     have z1:=List.length_filter_le (fun xs=>decide (xs.headD 0 < Ch.lastFar xs)) (((Ch.looseL n (Mir.at0 ms)).take i).map (Ch.walk n (Mir.at0 ms)))
     rw [List.length_map,List.length_take] at z1
     have z2:(Ch.looseL n (Mir.at0 ms)).length≤2 * n:=by
      have z:=List.length_filter_le (fun e=>e == Mir.at0 ms e) (List.range (2 * n))
      rw [List.length_range] at z
      exact z
     omega
    ·refine ⟨_,_,rfl,(s3.trans s4).upd hl,?_,?_⟩
     ·rw [upd_ne (fun z=>by rw [z] at hll;rw [upd_same] at hll;cases hll)];exact hll3
     ·rw [htk,List.filter_append,List.filter_cons_of_pos (by rw [hst];exact decide_eq_true h1),List.filter_nil]
      exact R4
   ·have h1:¬ e < Ch.lastFar (Ch.walk n (Mir.at0 ms) e):=fun z=>h1 (decide_eq_true (by omega))
    refine ⟨_,_,rfl,s3.trans s4,hll3,?_⟩
    rw [htk,List.filter_append,List.filter_cons_of_neg (by rw [hst];simpa using h1),List.filter_nil,List.append_nil]
    exact R3
  ·rintro σ H2 ⟨v2,v3,rfl,s3,hll2,R⟩
   rw [Mir.nV_len,List.take_length] at R
   exact ⟨_,rfl,k l H2 hl s3 R⟩
end
section
variable {P:Program} {w:World} {K:PySem.W.Frag} {mg:Str→Option Value} {base:Heap}
theorem ok_rings_in {f fS fF fL fR fW fM:Addr} {fd fdS fdF fdL fdR fdW fdM:FuncData} (B:Bl mg) (F:Fn K mg "rings_in" s_rings_in ["work"] f fd) (FS:Fn K mg "staves_in" s_staves_in ["work"] fS fdS) (FF:Fn K mg "far_end" s_far_end ["end"] fF fdF)
  (FL:Fn K mg "loose_ends" s_loose_ends ["work"] fL fdL) (FR:Fn K mg "rows_in" s_rows_in ["work"] fR fdR) (FW:Fn K mg "walked_from" s_walked_from ["work","start"] fW fdW) (FM:Fn K mg "mark_staves" s_mark_staves ["seen","chain"] fM fdM) :
  FnOk P w K mg base CX0 4 f fd ["work"] (Mir.spRings K):=by
 have GS:FnOk P w K mg base CX0 1 fS fdS ["work"] (Mir.spStaves K):=ok_staves_in B FS
 have GR:FnOk P w K mg base CX0 3 fR fdR ["work"] (Mir.spRows K):=ok_rows_in B FR FF FL FW
 have GW:FnOk P w K mg base CX0 2 fW fdW ["work","start"] (Mir.spWalked K):=ok_walked_from B FW FF
 have GM:FnOk P w K mg base CX0 1 fM fdM ["seen","chain"] (Mir.spMark K):=ok_mark_staves FM
 refine F.fn.ok sc_rings_in (fun vs H Q E h=>?_) (fun cdv A outer s H vs Q E hr h=>?_)
 ·obtain ⟨a,n,ms,rfl,_⟩:=h
  rfl
 ·obtain ⟨a,n,ms,rfl,hS,W,k⟩:=h
  have hr1:Room 1 _:=hr.mono (by decide)
  have hr2:Room 2 _:=hr.mono (by decide)
  have hu:=hu_of hr
  have hsm:=W.small
  refine ⟨_,pss_cons (ps_set (i:=1) sc_rings_in.nd rfl (Or.inl rfl) pe_dnewK)
   (pss_cons (ps_for PassesOwn.never rfl (pi_list (pe_fn GR FR hr (pa_cons (pv 0) pa_nil))) (pg_name (i:=2) sc_rings_in.nd rfl (Or.inl rfl)) (pss_one (ps_expr (pe_fn GM FM hr1 (pa_cons (pv 1) (pa_cons (pv 2) pa_nil))))))
   (pss_cons (ps_set (i:=3) sc_rings_in.nd rfl (Or.inl rfl) (pe_lst pa_nil))
   (pss_cons (ps_for PassesOwn.never rfl (pi_range1 rfl B.range (pa_cons (pe_fn GS FS hr1 (pa_cons (pv 0) pa_nil)) pa_nil)) (pg_name (i:=4) sc_rings_in.nd rfl (Or.inl rfl))
    (pss_one (ps_if (pt_cmp (pc_dnotin hu (pv 4) (pv 1)))
     (pss_cons (ps_set (i:=5) sc_rings_in.nd rfl (Or.inl rfl) (pe_fn GW FW hr2 (pa_cons (pv 0) (pa_cons (pe_op op_mul pe_int (pv 4)) pa_nil))))
     (pss_cons (ps_expr (pe_fn GM FM hr1 (pa_cons (pv 1) (pa_cons (pv 5) pa_nil))))
     (pss_one (ps_expr (pe_bm PySem.F.plainAttrs_list PySem.F.slot_list_append PySem.F.type_list_append mt_append (pv 3) (pa_cons (pv 5) pa_nil)))))) pss_nil)))
   (pss_one (ps_ret (pv 3)))))),?_⟩
  intro d hd
  have s1:Same H (upd H d (.dK [])):=same_upd hd
  refine ⟨_,rfl,a,n,ms,rfl,s1.tup hS,W,fun lr H1 hlr s2 R1=>?_⟩
  obtain ⟨ts,ht1,ht2,ht3⟩:=R1
  have hd1:H1 d = some (.dK []):=s2 d _ upd_same
  have nlr:lr≠d:=fun z=>by rw [z,upd_same] at hlr;cases hlr
  have rowlen:∀ (i:Nat) (r:List Nat),(Ch.rowsL n (Mir.at0 ms))[i]? = some r→r.length≤n:=fun i r e=>by
   obtain ⟨s,_,_,Fu,_,_⟩:=Ch.row_full W.wk (List.mem_of_getElem? e)
   exact Fu.st.len W.wk
  refine ⟨lr,rfl,⟨_,SqL.of ht1⟩,for_list (K:=K) (a:=lr) (xs:=ts.map V.ref) (fun i σ H2=>∃ (v:Option V) (kv:List (Key×V)),σ = [some (.ref a),some (.ref d),v,none,none,none]∧(∀ b o,b≠d→H1 b = some o→H2 b = some o)∧H2 d = some (.dK kv) ∧
    kv.length≤40 * i∧∀ j:Nat,(valV kv (Sum.inl (j:Int):Key)).isSome = true↔j∈((Ch.rowsL n (Mir.at0 ms)).take i).flatMap fun xs=>xs.map (· / 2))
   ⟨none,[],rfl,fun b o _ e=>e,hd1,Nat.le_refl _,fun j=>by simp [valV]⟩ (fun i σ H2 _ ⟨_,_,_,s3,_⟩=>SqL.of (s3 lr _ nlr ht1)) ?_ ?_⟩
  ·rintro i x σ H2 hx ⟨v,kv,rfl,s3,hd2,hl2,hk2⟩
   have hit:i < ts.length:=by have z:=(List.getElem?_eq_some_iff.mp hx).1;rw [List.length_map] at z;exact z
   have ht:ts[i]? = some ts[i]:=List.getElem?_eq_getElem hit
   rw [List.getElem?_map,ht] at hx
   obtain rfl:V.ref ts[i] = x:=Option.some.inj hx
   have hri:(Ch.rowsL n (Mir.at0 ms))[i]? = some ((Ch.rowsL n (Mir.at0 ms))[i]'(by omega)):=List.getElem?_eq_getElem (by omega)
   generalize (Ch.rowsL n (Mir.at0 ms))[i]'(by omega) = r at hri
   have hrl:=rowlen i r hri
   have htr:=ht3 i _ r ht hri
   have ntd:ts[i]≠d:=fun z=>by rw [z,hd1] at htr;cases htr
   have hil:i < 1000:=by
    have z1:(Ch.rowsL n (Mir.at0 ms)).length≤2 * n:=by
     have z1:=List.length_filter_le (fun xs=>decide (xs.headD 0 < Ch.lastFar xs)) ((Ch.looseL n (Mir.at0 ms)).map (Ch.walk n (Mir.at0 ms)))
     rw [List.length_map] at z1
     have z2:=List.length_filter_le (fun e=>e == Mir.at0 ms e) (List.range (2 * n))
     rw [List.length_range] at z2
     exact Nat.le_trans z1 z2
    omega
   refine ⟨_,rfl,_,rfl,d,ts[i],kv,r,rfl,hd2,SqT.of (s3 _ _ ntd htr),by omega,fun kv' H3 hd3 s4 hl3 hk3=>?_⟩
   refine ⟨_,kv',rfl,fun b o hb e=>s4 b o hb (s3 b o hb e),hd3,by omega,fun j=>?_⟩
   rw [hk3 j,hk2 j,Mir.take_snoc hri,List.flatMap_append,List.mem_append]
   simp
  ·rintro σ H2 ⟨v,kv,rfl,s3,hd2,hl2,hk2⟩
   rw [List.length_map,ht2,List.take_length] at hk2
   rw [List.length_map] at hl2
   have hsame2:∀ b o,H b = some o→H2 b = some o:=fun b o e=>s3 b o (ne_of_none e hd) (s2 b o (s1 b o e))
   refine ⟨by show 0≤sizeLine;decide,fun l hl=>?_⟩
   have nld:l≠d:=fun z=>by rw [z,hd2] at hl;cases hl
   have sB:Same H (upd H2 l (.lst [])):=fun b o e=>by rw [upd_ne (ne_of_none (hsame2 b o e) hl)];exact hsame2 b o e
   have hlH:H l = none:=Same.free hsame2 hl
   have tl:ts.length≤80:=by
    have z1:(Ch.rowsL n (Mir.at0 ms)).length≤2 * n:=by
     have z1:=List.length_filter_le (fun xs=>decide (xs.headD 0 < Ch.lastFar xs)) ((Ch.looseL n (Mir.at0 ms)).map (Ch.walk n (Mir.at0 ms)))
     rw [List.length_map] at z1
     have z2:=List.length_filter_le (fun e=>e == Mir.at0 ms e) (List.range (2 * n))
     rw [List.length_range] at z2
     exact Nat.le_trans z1 z2
    omega
   refine ⟨_,rfl,a,n,ms,rfl,sB.tup hS,W,_,rfl,by omega,by omega,for_range (lo:=0) (n:=((n:Nat):Int).toNat) (fun i σ H3=>∃ (v4 v5:Option V) (kv:List (Key×V)),σ = [some (.ref a),some (.ref d),v,some (.ref l),v4,v5]∧Same H H3 ∧
     H3 d = some (.dK kv)∧kv.length≤3200 + 40 * i∧(∀ j:Nat,(valV kv (Sum.inl (j:Int):Key)).isSome = true↔j∈(Ch.ringSt n (Mir.at0 ms) i).2)∧Mir.RowsT H3 l (Ch.ringSt n (Mir.at0 ms) i).1)
    ⟨none,none,kv,rfl,sB,by rw [upd_ne nld.symm];exact hd2,by omega,hk2,.nil upd_same⟩ ?_ ?_⟩
   ·rintro i σ H3 hi ⟨v4,v5,kv3,rfl,s5,hd3,hl3,hk3,R3⟩
    have hin:i < n:=by omega
    have ez:(0:Int) + (i:Nat) = ((i:Nat):Int):=by omega
    have rl:(Ch.ringSt n (Mir.at0 ms) i).1.length≤i:=by
     have key:∀ m,(Ch.ringSt n (Mir.at0 ms) m).1.length≤m:=by
      intro m
      induction m with
      | zero=>exact Nat.le_refl _
      | succ m ih =>
       rw [Ch.ringSt_succ]
       unfold Ch.ringStep
       split
       ·omega
       ·show ((Ch.ringSt n (Mir.at0 ms) m).1 ++ [_]).length≤m + 1
        rw [List.length_append,List.length_singleton]
        omega
     exact key i
    refine ⟨_,rfl,_,rfl,d,_,rfl,DGet.k (k:=Sum.inl ((0:Int) + (i:Nat))) hd3,_,rfl,?_⟩
    rw [ez]
    by_cases c:i∈(Ch.ringSt n (Mir.at0 ms) i).2
    ·have e1:(valV kv3 (Sum.inl ((i:Nat):Int):Key)).isSome = true:=(hk3 i).mpr c
     rw [e1]
     refine iteF ?_
     have e2:Ch.ringSt n (Mir.at0 ms) (i + 1) = Ch.ringSt n (Mir.at0 ms) i:=by rw [Ch.ringSt_succ];unfold Ch.ringStep;rw [if_pos c]
     refine ⟨_,_,kv3,rfl,s5,hd3,by omega,?_,?_⟩
     ·rw [e2];exact hk3
     ·rw [e2];exact R3
    ·have e1:(valV kv3 (Sum.inl ((i:Nat):Int):Key)).isSome = false:=by
      cases q:(valV kv3 (Sum.inl ((i:Nat):Int):Key)).isSome with
      | false=>rfl
      | true=>exact absurd ((hk3 i).mp q) c
     rw [e1]
     refine iteT ?_
     have e2:Ch.ringSt n (Mir.at0 ms) (i + 1) = ((Ch.ringSt n (Mir.at0 ms) i).1 ++ [Ch.walk n (Mir.at0 ms) (2 * i)],(Ch.ringSt n (Mir.at0 ms) i).2 ++ (Ch.walk n (Mir.at0 ms) (2 * i)).map (· / 2)):=by
      rw [Ch.ringSt_succ];unfold Ch.ringStep;rw [if_neg c]
     have Fu:=Ch.walk_full W.wk (show 2 * i < 2 * n by omega)
     have wl:=Fu.st.len W.wk
     refine ⟨_,rfl,_,rfl,_,_,rfl,rfl,.inl ⟨by decide,by decide⟩,a,n,ms,2 * i,by congr 2,s5.tup hS,W,by omega,fun t H4 ht s6 ht4=>?_⟩
     have hd4:=s6 d _ hd3
     have ntd:t≠d:=fun z=>by rw [z,hd4] at ht4;cases ht4
     refine ⟨_,rfl,_,rfl,d,t,kv3,_,rfl,hd4,SqT.of ht4,by omega,fun kv5 H5 hd5 s7 hl5 hk5=>?_⟩
     have nld4:l≠d:=nld
     have R5:Mir.RowsT H5 l (Ch.ringSt n (Mir.at0 ms) i).1:=by
      obtain ⟨us,u1,u2,u3⟩:=R3.same s6
      refine ⟨us,s7 l _ nld u1,u2,fun j u r q1 q2=>?_⟩
      have z:=u3 j u r q1 q2
      exact s7 u _ (fun q=>by rw [q,hd4] at z;cases z) z
     obtain ⟨ys,hy,hyl,R6⟩:=R5.snoc (s7 t _ ntd ht4)
     refine ⟨_,rfl,.inl ⟨rfl,_,SqL.of hy⟩,_,rfl,l,_,_,rfl,rfl,hy,small1000 (by omega),?_⟩
     refine ⟨_,_,kv5,rfl,fun b o e=>?_,by rw [upd_ne nld.symm];exact hd5,by omega,fun j=>?_,?_⟩
     ·rw [upd_ne (ne_of_none e hlH)]
      exact s7 b o (ne_of_none e hd) (s6 b o (s5 b o e))
     ·rw [hk5 j,hk3 j,e2,List.mem_append]
     ·rw [e2];exact R6
   ·rintro σ H3 ⟨v4,v5,kv3,rfl,s5,hd3,hl3,hk3,R3⟩
    have e:((n:Nat):Int).toNat = n:=by omega
    rw [e] at R3
    exact ⟨_,rfl,k l H3 hlH s5 R3⟩
end
section
variable {P:Program} {w:World} {K:PySem.W.Frag} {mg:Str→Option Value} {base:Heap}
theorem ok_fits_work {f:Addr} {fd:FuncData} (B:Bl mg) (F:Fn K mg "fits_work" s_fits_work ["work","deed"] f fd):FnOk P w K mg base CX0 1 f fd ["work","deed"] (Mir.spFits K):=by
 refine F.fn.ok sc_fits_work (fun vs H Q E h=>?_) (fun cdv A outer s H vs Q E hr h=>?_)
 ·obtain ⟨a,d,n,ms,p,q,rfl,_⟩:=h
  rfl
 ·obtain ⟨a,d,n,ms,p,q,rfl,hS,W,hD,k⟩:=h
  refine ⟨_,pss_cons (ps_set (i:=2) sc_fits_work.nd rfl (Or.inl rfl) (pe_ix ix_tup (pv 1) pe_int (fun _ _=>rfl)))
   (pss_cons (ps_set (i:=3) sc_fits_work.nd rfl (Or.inl rfl) (pe_ix ix_tup (pv 1) pe_int (fun _ _=>rfl)))
   (pss_cons (ps_if (pt_not (pt_chain3 op_le op_le op_lt pe_int (pv 2) (pv 3) (pe_callB call_len_seq rfl B.len bb_len (pa_cons (pv 0) pa_nil)))) (pss_one (ps_ret pe_bl)) pss_nil)
   (pss_one (ps_ret (pe_cmpR op_ne (pe_ix ix_tup (pv 0) (pv 2) (fun _ _=>rfl)) (pv 3) (nomark _)))))),?_⟩
  refine ⟨_,rfl,d,_,_,_,rfl,rfl,hD,rfl,?_⟩
  refine ⟨_,rfl,d,_,_,_,rfl,rfl,hD,rfl,?_⟩
  have no:¬ Mir.Fits n ms p q→Q (.bl false) H:=fun z=>by rw [decide_eq_false z] at k;exact k
  refine ⟨_,rfl,_,_,rfl,rfl,_,rfl,ite2 (fun h1=>?_) (fun h1=>?_)⟩
  ·have h1:0≤p:=of_decide_eq_true h1
   refine ⟨_,rfl,_,_,rfl,rfl,_,rfl,ite2 (fun h2=>?_) (fun h2=>?_)⟩
   ·have h2:p≤q:=of_decide_eq_true h2
    refine ⟨_,rfl,a,_,rfl,.inr hS,_,_,rfl,rfl,_,rfl,ite2 (fun h3=>?_) (fun h3=>?_)⟩
    ·have h3:¬ q < ((Mir.nV ms).length:Nat):=by simpa using h3
     rw [Mir.nV_len,W.len] at h3
     exact no fun z=>h3 (by have:=z.2.2.1;omega)
    ·have h3:q < ((Mir.nV ms).length:Nat):=by simpa using h3
     rw [Mir.nV_len,W.len] at h3
     have hx:p = ((p.toNat:Nat):Int):=by omega
     have hix:=W.ix (e:=p.toNat) (by omega)
     rw [← hx] at hix
     refine ⟨_,rfl,_,rfl,a,_,_,_,rfl,rfl,hS,hix,_,rfl,rfl,?_⟩
     have e:decide (Mir.Fits n ms p q) = !decide (V.int ((Mir.at0 ms p.toNat:Nat):Int) = V.int q):=by
      by_cases c:((Mir.at0 ms p.toNat:Nat):Int) = q
      ·rw [decide_eq_false (fun z:Mir.Fits n ms p q=>z.2.2.2 c),decide_eq_true (congrArg V.int c)];rfl
      ·rw [decide_eq_true (show Mir.Fits n ms p q from ⟨h1,h2,by omega,c⟩),decide_eq_false (fun z=>c (by injection z))];rfl
     rw [e] at k
     exact k
   ·have h2:¬ p≤q:=fun z=>h2 (decide_eq_true z)
    exact ⟨_,rfl,iteT (no fun z=>h2 z.2.1)⟩
  ·have h1:¬ 0≤p:=fun z=>h1 (decide_eq_true z)
   exact ⟨_,rfl,iteT (no fun z=>h1 z.1)⟩
end
section
variable {P:Program} {w:World} {K:PySem.W.Frag} {mg:Str→Option Value} {base:Heap}
theorem ok_refuse_misfit {f fF C:Addr} {fd fdF:FuncData} (B:Bl mg) (Z:ECls K mg "BadDeed" C) (F:Fn K mg "refuse_misfit" s_refuse_misfit ["work","deed"] f fd) (FF:Fn K mg "fits_work" s_fits_work ["work","deed"] fF fdF):FnOk P w K mg base (CXo P w) 2 f fd ["work","deed"] (Mir.spMisfit K C):=by
 have GF:FnOk P w K mg base CX0 1 fF fdF ["work","deed"] (Mir.spFits K):=ok_fits_work B FF
 refine F.fn.okX2 sc_refuse_misfit (fun vs H Q E h=>?_) (fun cdv A outer s H vs Q E hr h own=>?_)
 ·obtain ⟨a,d,n,ms,p,q,rfl,_⟩:=h
  rfl
 ·obtain ⟨a,d,n,ms,p,q,rfl,hS,W,hD,sp,sq,kg,kb⟩:=h
  refine ⟨_,pss_one (ps_if (pt_not (pt_val (pe_fn GF FF hr (pa_cons (pv 0) (pa_cons (pv 1) pa_nil))))) (pss_one (ps_raise rfl Z (pa_cons (pe_fs (pj_str (pj_tup hr.gd (hr.lt 2 (by decide)) (pv 1) (pj_str pj_nil))) (by decide)) pa_nil))) pss_nil),?_⟩
  refine ⟨_,rfl,_,rfl,a,d,n,ms,p,q,rfl,hS,W,SqT.of hD,_,rfl,?_⟩
  by_cases c:Mir.Fits n ms p q
  ·rw [decide_eq_true c]
   exact iteF (kg c)
  ·rw [decide_eq_false c]
   refine iteT ⟨⟨_,rfl,rfl,⟨d,[p,q],rfl,hD,by show 2≤100;decide,fun m hm=>?_⟩,trivial⟩,fun x=>⟨by show 1≤sizeLine;decide,kb c⟩⟩
   rcases List.mem_cons.mp hm with rfl | hm
   ·exact sp.log
   ·rw [List.mem_singleton.mp hm];exact sq.log
end
section
variable {P:Program} {w:World} {K:PySem.W.Frag} {mg:Str→Option Value} {base:Heap}
theorem ok_freed_ends {f:Addr} {fd:FuncData} (F:Fn K mg "freed_ends" s_freed_ends ["work","deed"] f fd):FnOk P w K mg base CX0 1 f fd ["work","deed"] (Mir.spFreedE K):=by
 refine F.fn.ok sc_freed_ends (fun vs H Q E h=>?_) (fun cdv A outer s H vs Q E hr h=>?_)
 ·obtain ⟨a,d,n,ms,p,q,rfl,_⟩:=h
  rfl
 ·obtain ⟨a,d,n,ms,p,q,rfl,hS,W,hD,hp,hq,k⟩:=h
  have nd2:(["end","work"]:List Str).Nodup:=by decide +kernel
  refine ⟨_,pss_one (ps_ret (pe_comp (NC:=["end","work"]) rfl (compOk2 (c:=s.heap.objs.size + 1) (j:=0) rfl (by decide +kernel) (by decide +kernel) rfl rfl rfl rfl rfl) (pi_tup (pv 1))
   (fun _ _ _ _=>pg_name (i:=0) nd2 rfl (Or.inl rfl)) (fun _ _ _ _=>pts_one (pt_cmpR op_ne (pe_ix (ix_tupK (K:=K) rfl) (pv 1) (pv 0) (fun _ _=>rfl)) (pv 0) (nomark _))) (fun _ _ _ _=>pe_ix (ix_tupK (K:=K) rfl) (pv 1) (pv 0) (fun _ _=>rfl)))),?_⟩
  refine ⟨_,rfl,d,rfl,⟨_,hD⟩,fun D hDn=>?_⟩
  refine comp_tup (K:=K) (a:=d) (xs:=Mir.nV [p,q]) (fun i σ H2=>∃ v0:Option V,σ = [v0,some (.ref a)]∧Same H H2∧H2 D = some (.lst (Mir.nV ((([p,q].take i).filter fun e=>!decide (Mir.at0 ms e = e)).map (Mir.at0 ms)))))
   ⟨none,rfl,same_upd hDn,upd_same⟩ (fun i σ H2 _ ⟨_,_,s2,_⟩=>s2.tup hD) ?_ ?_
  ·rintro i x σ H2 hx ⟨v0,rfl,s2,h2⟩
   obtain ⟨e,he,rfl⟩:=Mir.nV_get' hx
   have hi:i < 2:=(List.getElem?_eq_some_iff.mp he).1
   have he2:e < 2 * n:=by
    rcases List.mem_cons.mp (List.mem_of_getElem? he) with rfl | z
    ·exact hp
    ·rw [List.mem_singleton.mp z];exact hq
   have hlen:((([p,q].take i).filter fun e=>!decide (Mir.at0 ms e = e)).map (Mir.at0 ms)).length≤2:=by
    rw [List.length_map]
    refine Nat.le_trans (List.length_filter_le _ _) ?_
    rw [List.length_take]
    exact Nat.min_le_right _ _
   refine ⟨_,rfl,_,rfl,a,_,_,_,rfl,rfl,s2.tup hS,W.ix he2,_,rfl,rfl,_,rfl,?_⟩
   rw [Mir.take_snoc he,List.filter_append,List.map_append]
   refine ite2 (fun h1=>?_) (fun h1=>?_)
   ·have h1:Mir.at0 ms e≠e:=fun z=>by rw [z] at h1;simp at h1
    refine ⟨_,rfl,_,rfl,a,_,_,_,rfl,rfl,s2.tup hS,W.ix he2,_,h2,small1000 (by rw [Mir.nV_len];omega),_,rfl,s2.upd hDn,?_⟩
    rw [upd_same]
    simp [h1,Mir.nV]
   ·have h1:Mir.at0 ms e = e:=by
     by_cases z:Mir.at0 ms e = e
     ·exact z
     ·exact absurd (by simp;omega) h1
    refine ⟨_,rfl,s2,?_⟩
    rw [h2]
    simp [h1]
  ·rintro σ H2 ⟨v0,rfl,s2,h2⟩
   exact k D H2 hDn s2 h2
theorem ok_clasp_ends {f:Addr} {fd:FuncData} (F:Fn K mg "clasp_ends" s_clasp_ends ["mates","one","other"] f fd):FnOk P w K mg base CX0 1 f fd ["mates","one","other"] Mir.spClaspE:=by
 refine F.fn.ok sc_clasp_ends (fun vs H Q E h=>?_) (fun cdv A outer s H vs Q E hr h=>?_)
 ·obtain ⟨l,ms,p,q,rfl,_⟩:=h
  rfl
 ·obtain ⟨l,ms,p,q,rfl,hl,hp,hq,k⟩:=h
  refine ⟨_,pss_cons (ps_asg (pv 2) (pg_sub (pv 0) (pv 1) set_list)) (pss_one (ps_asg (pv 1) (pg_sub (pv 0) (pv 2) set_list))),?_⟩
  refine ⟨_,rfl,_,rfl,_,rfl,l,_,_,_,rfl,rfl,hl,ixN_of (Int.natCast_nonneg _) (by rw [Mir.nV_len];omega),?_⟩
  rw [Int.toNat_natCast,Mir.nV_set]
  refine ⟨_,rfl,_,rfl,_,rfl,l,_,_,_,rfl,rfl,upd_same,ixN_of (Int.natCast_nonneg _) (by rw [Mir.nV_len,List.length_set];omega),?_⟩
  rw [Int.toNat_natCast,Mir.nV_set]
  exact k _ upd_same fun b hb=>by rw [upd_ne hb,upd_ne hb]
end
section
variable {P:Program} {w:World} {K:PySem.W.Frag} {mg:Str→Option Value} {base:Heap}
theorem ok_reclasped {f fM fR fC C fF:Addr} {fd fdM fdR fdC fdF:FuncData} (B:Bl mg) (Z:ECls K mg "BadDeed" C) (F:Fn K mg "reclasped" s_reclasped ["work","deed"] f fd) (FF:Fn K mg "fits_work" s_fits_work ["work","deed"] fF fdF) (FM:Fn K mg "refuse_misfit" s_refuse_misfit ["work","deed"] fM fdM)
  (FR:Fn K mg "freed_ends" s_freed_ends ["work","deed"] fR fdR) (FC:Fn K mg "clasp_ends" s_clasp_ends ["mates","one","other"] fC fdC):FnOk P w K mg base (CXo P w) 3 f fd ["work","deed"] (Mir.spRecl K C):=by
 have GM:FnOk P w K mg base (CXo P w) 2 fM fdM ["work","deed"] (Mir.spMisfit K C):=ok_refuse_misfit B Z FM FF
 have GR:FnOk P w K mg base CX0 1 fR fdR ["work","deed"] (Mir.spFreedE K):=ok_freed_ends FR
 have GC:FnOk P w K mg base CX0 1 fC fdC ["mates","one","other"] Mir.spClaspE:=ok_clasp_ends FC
 refine F.fn.okX2 sc_reclasped (fun vs H Q E h=>?_) (fun cdv A outer s H vs Q E hr h own=>?_)
 ·obtain ⟨a,d,n,ms,p,q,rfl,_⟩:=h
  rfl
 ·obtain ⟨a,d,n,ms,p,q,rfl,hS,W,hD,sp,sq,kg,kb⟩:=h
  have hr1:Room 1 _:=hr.mono (by decide)
  refine ⟨_,pss_cons (ps_expr (pe_fnX GM FM hr (pa_cons (pv 0) (pa_cons (pv 1) pa_nil))))
   (pss_cons (ps_set (i:=2) sc_reclasped.nd rfl (Or.inl rfl) (pe_callTy call_list_of rfl B.list bb_list (pa_cons (pv 0) pa_nil)))
   (pss_cons (ps_set (i:=3) sc_reclasped.nd rfl (Or.inl rfl) (pe_fn GR FR hr1 (pa_cons (pv 0) (pa_cons (pv 1) pa_nil))))
   (pss_cons (ps_if (pt_cmpR op_gt (pe_callB call_len_seq rfl B.len bb_len (pa_cons (pv 3) pa_nil)) pe_int (nomark _)) (pss_one (ps_expr (pe_fn GC FC hr1 (pa_cons (pv 2) (pa_cons (pe_ix ix_list (pv 3) pe_int (fun _ _=>rfl)) (pa_cons (pe_ix ix_list (pv 3) (pe_un un_neg pe_int) (fun _ _=>rfl)) pa_nil)))))) pss_nil)
   (pss_cons (ps_expr (pe_fn GC FC hr1 (pa_cons (pv 2) (pa_cons (pe_ix ix_tup (pv 1) pe_int (fun _ _=>rfl)) (pa_cons (pe_ix ix_tup (pv 1) pe_int (fun _ _=>rfl)) pa_nil)))))
   (pss_one (ps_ret (pe_callTy call_tuple_of rfl B.tuple bb_tuple (pa_cons (pv 2) pa_nil)))))))),?_⟩
  refine ⟨_,rfl,_,rfl,a,d,n,ms,p,q,rfl,hS,W,hD,sp,sq,fun hf=>?_,kb⟩
  obtain ⟨x,y,rfl,rfl,hxy,hy,hne⟩:=hf.nat
  have k:=kg hf
  rw [Int.toNat_natCast,Int.toNat_natCast] at k
  have hx:x < 2 * n:=by omega
  refine ⟨_,rfl,a,_,rfl,.inr hS,fun l hl=>?_⟩
  have s1:Same H (upd H l (.lst (Mir.nV ms))):=same_upd hl
  refine ⟨_,rfl,_,rfl,a,d,n,ms,x,y,rfl,s1.tup hS,W,SqT.of (s1 _ _ hD),hx,hy,fun lf H2 hlf s2 h2=>?_⟩
  have hl2:=s2 _ _ (show upd H l (.lst (Mir.nV ms)) l = some (.lst (Mir.nV ms)) from upd_same)
  have nll:l≠lf:=ne_of_none upd_same hlf
  have s12:=s1.trans s2
  have fin:∀ (H3:Hp) (m1:List Nat),Same H H3→H3 l = some (.lst (Mir.nV m1))→m1.length = 2 * n→Mir.clasp m1 x y = Mir.beh ms x y →
    ((tSeq (tDrop (tCall Mir.spClaspE [] E0 (tCons (tVar 2) (tCons (tOp (rIxT K) (tVar 1) (tC (.int 0))) (tCons (tOp (rIxT K) (tVar 1) (tC (.int 1))) tNil))))) (tRet (fun σ H Q=>∃ v,σ[2]? = some (some v)∧∃ p ys,[v] = [V.ref p]∧((SqL K H p ys∧∀ l,H l = none→Q (.ref l) (upd H l (.tup ys)))∨(SqT K H p ys∧Q (.ref p) H)))))
     { nx:=fun _ H'=>Q .non H',rt:=Q } [some (.ref a),some (.ref d),some (.ref l),some (.ref lf)] H3):=fun H3 m1 s3 h3 hlen hbe=>by
   refine ⟨_,rfl,_,rfl,d,_,_,_,rfl,rfl,SqT.of (s3 _ _ hD),rfl,_,rfl,d,_,_,_,rfl,rfl,SqT.of (s3 _ _ hD),rfl,l,m1,x,y,rfl,h3,by omega,by omega,fun H4 h4 o4=>?_⟩
   rw [hbe] at h4
   refine ⟨_,rfl,l,_,rfl,.inl ⟨SqL.of h4,fun r hr'=>?_⟩⟩
   have s4:Same H H4:=fun b o e=>by
    rw [o4 b (ne_of_none e hl)]
    exact s3 b o e
   exact k r _ (s4.free hr') (s4.upd (s4.free hr')) upd_same
  have hcm:=Mir.progBeh_eq W hx hy hne
  have hfl:=Mir.frd_len ms x y
  unfold Mir.progBeh at hcm
  refine ⟨_,rfl,lf,_,rfl,.inl (SqL.of h2),_,_,rfl,rfl,_,rfl,?_⟩
  rw [Mir.nV_len]
  refine ite2 (fun h1=>?_) (fun h1=>?_)
  ·have h1:0 < (Mir.frd ms x y).length:=by have z:=of_decide_eq_true h1;omega
   simp only [h1,if_true] at hcm
   have mem:∀ e∈Mir.frd ms x y,e < 2 * n:=fun e he=>by
    have lx:=W.wk.lt x hx
    have ly:=W.wk.lt y hy
    rw [Mir.frd_cases] at he
    split at he <;> split at he <;> simp at he <;> omega
   have hg:∀ i,i < (Mir.frd ms x y).length→(Mir.frd ms x y).getD i 0 < 2 * n:=fun i hi=>mem _ (List.mem_of_getElem? (Mir.at0_get hi))
   have a0:atI (Mir.nV (Mir.frd ms x y)) 0 = some (.int ((Mir.frd ms x y).getD 0 0:Nat)):=atI_nat (j:=0) (Mir.nV_get (Mir.at0_get h1))
   have a1:atI (Mir.nV (Mir.frd ms x y)) (-1) = some (.int ((Mir.frd ms x y).getD ((Mir.frd ms x y).length - 1) 0:Nat)):=Mir.atI_nlast (by rw [List.getLast?_eq_getElem?];exact Mir.at0_get (by omega))
   refine ⟨_,rfl,_,rfl,lf,_,_,_,rfl,rfl,SqL.of h2,a0,_,rfl,_,rfl,lf,_,_,_,rfl,rfl,SqL.of h2,a1,l,ms,_,_,rfl,hl2,by have:=hg 0 h1;rw [W.len];exact this,by have:=hg ((Mir.frd ms x y).length - 1) (by omega);rw [W.len];exact this,fun H3 h3 o3=>?_⟩
   refine fin H3 _ (fun b o e=>?_) h3 (by rw [Mir.clasp_len,W.len]) hcm
   rw [o3 b (ne_of_none e hl)]
   exact s12 b o e
  ·have h1:¬ 0 < (Mir.frd ms x y).length:=fun z=>h1 (decide_eq_true (by omega))
   simp only [h1,if_false] at hcm
   exact fin H2 ms s12 hl2 W.len hcm
end
section
variable {P:Program} {w:World} {K:PySem.W.Frag} {mg:Str→Option Value} {base:Heap}
theorem ok_chain_with {f:Addr} {fd:FuncData} (F:Fn K mg "chain_with" s_chain_with ["chains","end"] f fd):FnOk P w K mg base CX0 1 f fd ["chains","end"] Mir.spChainW:=by
 refine F.fn.ok sc_chain_with (fun vs H Q E h=>?_) (fun cdv A outer s H vs Q E hr h=>?_)
 ·obtain ⟨l,rs,e,c,rfl,_⟩:=h
  rfl
 ·obtain ⟨l,rs,e,c,rfl,hR,hn,hc,k⟩:=h
  refine ⟨_,(pss_cons (ps_set (i:=2) sc_chain_with.nd rfl (Or.inr rfl) (pe_op op_fdiv (pv 1) pe_int))
   (pss_cons (ps_comp (ix:=3) (NC:=["chain","stave"]) sc_chain_with.nd rfl (Or.inl rfl) rfl (compOk2 (c:=s.heap.objs.size + 1) (j:=2) rfl (by decide +kernel) (by decide +kernel) rfl rfl rfl rfl rfl) (pi_list (pv 0)) (fun _ _ _ _=>(pg_name (i:=0) (show (["chain","stave"]:List Str).Nodup by decide +kernel) rfl (Or.inl rfl))) (fun _ _ _ _=>(pts_one (PW.pt (pw_or (pt_cmpR (op_in_seqK (K:=K) rfl) (pe_op op_mul pe_int (pv 1)) (pv 0) (by with_unfolding_all rfl)) (pw_or1 (pt_cmpR (op_in_seqK (K:=K) rfl) (pe_op op_add (pe_op op_mul pe_int (pv 1)) pe_int) (pv 0) (by with_unfolding_all rfl))))))) (fun _ _ _ _=>(pv 0)))
   (pss_one (ps_ret (pe_ix ix_list (pv 3) pe_int (fun _ _=>rfl)))))),?_⟩
  refine ⟨_,rfl,_,_,rfl,rfl,⟨by decide,by decide⟩,?_⟩
  dsimp only
  rw [show (e:Int) / 2 = ((e / 2:Nat):Int) by omega]
  obtain ⟨ts,h1,h2,h3⟩:=id hR
  refine ⟨_,rfl,l,rfl,⟨_,SqL.of h1⟩,fun D hD=>comp_list (K:=K) (a:=l) (xs:=ts.map V.ref) (fun i σ H2=>∃ v:Option V,σ = [v,some (.int ((e / 2:Nat):Int))]∧Same H H2∧Mir.RowsT H2 D ((rs.take i).filter (Mir.hasS e)))
   ⟨none,rfl,same_upd hD,Mir.RowsT.nil upd_same⟩ (fun i σ H2 _ h=>by obtain ⟨_,_,s2,_⟩:=h;exact SqL.of (s2 _ _ h1)) ?_ ?_⟩
  ·rintro i x σ H2 hx ⟨v,rfl,s2,hD2⟩
   obtain ⟨t,hti,rfl⟩:∃ t,ts[i]? = some t∧x = .ref t:=by
    rw [List.getElem?_map] at hx
    obtain ⟨t,e1,e2⟩:=Option.map_eq_some_iff.mp hx
    exact ⟨t,e1,e2.symm⟩
   have hi:i < rs.length:=by rw [← h2];exact (List.getElem?_eq_some_iff.mp hti).1
   have hri:=List.getElem?_eq_getElem hi
   have htt:=s2 _ _ (h3 i t _ hti hri)
   generalize rs[i] = r at hri htt
   have fl:((rs.take i).filter (Mir.hasS e)).length≤200:=Nat.le_trans (List.length_filter_le _ _) (by rw [List.length_take];omega)
   have e1:(2:Int) * ((e / 2:Nat):Int) = ((2 * (e / 2):Nat):Int):=by omega
   have e2:(2:Int) * ((e / 2:Nat):Int) + 1 = ((2 * (e / 2) + 1:Nat):Int):=by omega
   have fin:∀ b:Bool,Mir.hasS e r = b→(if b = true then ∃ ys,H2 D = some (.lst ys)∧ys.length < sizeLine∧∃ v:Option V,[some (.ref t),some (.int ((e / 2:Nat):Int))] = [v,some (.int ((e / 2:Nat):Int))]∧Same H (upd H2 D (.lst (ys ++ [.ref t])))∧Mir.RowsT (upd H2 D (.lst (ys ++ [.ref t]))) D ((rs.take (i + 1)).filter (Mir.hasS e)) else ∃ v:Option V,[some (.ref t),some (.int ((e / 2:Nat):Int))] = [v,some (.int ((e / 2:Nat):Int))]∧Same H H2∧Mir.RowsT H2 D ((rs.take (i + 1)).filter (Mir.hasS e))):=by
    intro b hb
    rw [Mir.take_snoc hri,List.filter_append]
    cases b with
    | true =>
     rw [if_pos rfl,List.filter_cons_of_pos hb,List.filter_nil]
     obtain ⟨xs,y1,y2,y3⟩:=hD2.snoc htt
     exact ⟨xs,y1,small1000 (by rw [y2];omega),_,rfl,s2.upd hD,y3⟩
    | false =>
     rw [if_neg (by decide),List.filter_cons_of_neg (by rw [hb];decide),List.filter_nil,List.append_nil]
     exact ⟨_,rfl,s2,hD2⟩
   refine ⟨_,rfl,_,_,rfl,rfl,.inl ⟨by decide,by decide⟩,_,rfl,t,Mir.nV r,rfl,.inr (SqT.of htt),rfl,Mir.flat_nats r,_,rfl,?_⟩
   have i1:inV (.int ((2:Int) * ((e / 2:Nat):Int))) (Mir.nV r) = decide (2 * (e / 2)∈r):=by rw [e1];exact Mir.inV_nats _ r
   have i2:inV (.int ((2:Int) * ((e / 2:Nat):Int) + 1)) (Mir.nV r) = decide (2 * (e / 2) + 1∈r):=by rw [e2];exact Mir.inV_nats _ r
   show (if inV (.int ((2:Int) * ((e / 2:Nat):Int))) (Mir.nV r) = true then _ else _)
   rw [i1]
   by_cases c1:2 * (e / 2)∈r
   ·rw [decide_eq_true c1]
    refine iteT ?_
    have z:=fin true (by unfold Mir.hasS;rw [decide_eq_true c1];rfl)
    exact iteT ⟨_,rfl,by rw [if_pos rfl] at z;exact z⟩
   ·rw [decide_eq_false c1]
    refine iteF ?_
    refine ⟨_,rfl,_,_,rfl,rfl,.inl ⟨by decide,by decide⟩,_,_,rfl,rfl,_,rfl,t,Mir.nV r,rfl,.inr (SqT.of htt),rfl,Mir.flat_nats r,_,rfl,?_⟩
    show (if inV (.int ((2:Int) * ((e / 2:Nat):Int) + 1)) (Mir.nV r) = true then _ else _)
    rw [i2]
    by_cases c2:2 * (e / 2) + 1∈r
    ·rw [decide_eq_true c2]
     have z:=fin true (by unfold Mir.hasS;rw [decide_eq_true c2,Bool.or_true])
     exact iteT ⟨_,rfl,by rw [if_pos rfl] at z;exact z⟩
    ·rw [decide_eq_false c2]
     have z:=fin false (by unfold Mir.hasS;rw [decide_eq_false c1,decide_eq_false c2];rfl)
     exact iteF (by rw [if_neg (by decide)] at z;exact z)
  ·rintro σ H2 ⟨v,rfl,s2,hD2⟩
   rw [List.length_map,h2,List.take_length] at hD2
   have hf:(rs.filter (Mir.hasS e))[0]? = some c:=by rw [← List.head?_eq_getElem?,List.head?_filter];exact hc
   obtain ⟨us,u1,u2,u3⟩:=hD2
   have ul:0 < us.length:=by rw [u2];exact (List.getElem?_eq_some_iff.mp hf).1
   have hu0:=List.getElem?_eq_getElem ul
   refine ⟨_,rfl,D,_,_,_,rfl,rfl,SqL.of u1,atI_nat (j:=0) (show (us.map V.ref)[0]? = some (.ref us[0]) by rw [List.getElem?_map,hu0];rfl),k _ _ s2 (u3 0 _ _ hu0 hf)⟩
end
section
seal L2.PSs L2.PS L2.PE L2.PT L2.PA
variable {P:Program} {w:World} {K:PySem.W.Frag} {mg:Str→Option Value} {base:Heap}
theorem ok_deed_kind {f f1 f2 f3 f4 C:Addr} {fd fd1 fd2 fd3 fd4:FuncData} (B:Bl mg) (F:Fn K mg "deed_kind" s_deed_kind ["work","deed"] f fd) (F_reclasped:Fn K mg "reclasped" s_reclasped ["work","deed"] f1 fd1) (G_reclasped:FnOk P w K mg base (CXo P w) 3 f1 fd1 ["work","deed"] (Mir.spRecl K C)) (F_rings_in:Fn K mg "rings_in" s_rings_in ["work"] f2 fd2) (G_rings_in:FnOk P w K mg base CX0 4 f2 fd2 ["work"] (Mir.spRings K))
  (F_rows_in:Fn K mg "rows_in" s_rows_in ["work"] f3 fd3) (G_rows_in:FnOk P w K mg base CX0 3 f3 fd3 ["work"] (Mir.spRows K)) (F_chain_with:Fn K mg "chain_with" s_chain_with ["chains","end"] f4 fd4):FnOk P w K mg base (CXo P w) 5 f fd ["work","deed"] (Mir.spKind K C):=by
 have G_chain_with:FnOk P w K mg base CX0 1 f4 fd4 ["chains","end"] Mir.spChainW:=ok_chain_with F_chain_with
 refine F.fn.okX2 sc_deed_kind (fun vs H Q E h=>?_) (fun cdv A outer s H vs Q E hr h own=>?_)
 ·obtain ⟨a,d,n,ms,p,q,rfl,_⟩:=h
  rfl
 ·obtain ⟨a,d,n,ms,p,q,rfl,hS,W,hD,sp,sq,kg,kb⟩:=h
  have hu:=hu_of hr
  refine ⟨_,(pss_cons (ps_set (i:=2) sc_deed_kind.nd rfl (Or.inl rfl) (pe_fnX G_reclasped F_reclasped (hr.mono (by decide)) (pa_cons (pv 0) (pa_cons (pv 1) pa_nil))))
   (pss_cons (ps_set (i:=3) sc_deed_kind.nd rfl (Or.inl rfl) (pe_ix ix_tup (pv 1) pe_int (fun _ _=>rfl)))
   (pss_cons (ps_set (i:=4) sc_deed_kind.nd rfl (Or.inl rfl) (pe_ix ix_tup (pv 1) pe_int (fun _ _=>rfl)))
   (pss_cons (ps_set (i:=5) sc_deed_kind.nd rfl (Or.inl rfl) (pe_fn G_rings_in F_rings_in (hr.mono (by decide)) (pa_cons (pv 0) pa_nil)))
   (pss_cons (ps_set (i:=6) sc_deed_kind.nd rfl (Or.inl rfl) (pe_op op_cat (pe_fn G_rows_in F_rows_in (hr.mono (by decide)) (pa_cons (pv 0) pa_nil)) (pv 5)))
   (pss_cons (ps_set (i:=7) sc_deed_kind.nd rfl (Or.inl rfl) (pe_fn G_chain_with F_chain_with (hr.mono (by decide)) (pa_cons (pv 6) (pa_cons (pv 3) pa_nil))))
   (pss_cons (ps_set (i:=8) sc_deed_kind.nd rfl (Or.inl rfl) (pe_fn G_chain_with F_chain_with (hr.mono (by decide)) (pa_cons (pv 6) (pa_cons (pv 4) pa_nil))))
   (pss_cons (ps_if (pt_cmpR op_eq (pv 3) (pv 4) (nomark _)) (pss_one (ps_ret (pe_ifExp (pt_cmpR (op_in_tups (K:=K) rfl hu) (pv 7) (pv 5) (by with_unfolding_all rfl)) pe_str pe_str))) pss_nil)
   (pss_cons (ps_if (PW.pt (pw_and (pt_cmpR op_eq (pe_ix ix_tup (pv 0) (pv 3) (fun _ _=>rfl)) (pv 3) (nomark _)) (pw_and1 (pt_cmpR op_eq (pe_ix ix_tup (pv 0) (pv 4) (fun _ _=>rfl)) (pv 4) (nomark _))))) (pss_one (ps_ret (pe_ifExp (pt_cmpR (op_eq_tupD (Nat.lt_of_succ_lt hu)) (pv 7) (pv 8) (nomark _)) pe_str pe_str))) pss_nil)
   (ps_sem (R:=fun D σ H7=>∃ (x y:Nat) (b lg lc tl th:Addr) (cl ch:List Nat),σ = [some (.ref a),some (.ref d),some (.ref b),some (.int (x:Nat)),some (.int (y:Nat)),some (.ref lg),some (.ref lc),some (.ref tl),some (.ref th)]∧H7 b = some (.tup (Mir.nV (Mir.beh ms x y)))∧Mir.WorkL n (Mir.beh ms x y)∧Mir.RowsT H7 lg (Ch.ringsL n (Mir.at0 ms))∧Mir.RowsT H7 lc (Mir.allC n ms)∧H7 tl = some (.tup (Mir.nV cl))∧H7 th = some (.tup (Mir.nV ch))∧∀ (z:Str) (H8:Hp),Same H7 H8→z = (if cl = ch then (if (Mir.allC n (Mir.beh ms x y)).length = (Mir.allC n ms).length then ("turned":Str) else "parted") else if cl∈Ch.ringsL n (Mir.at0 ms)∨ch∈Ch.ringsL n (Mir.at0 ms) then "taken" else "crossed")→D.rt (.str z) H8) fun D σ H7 hR=>?rest)))))))))),?_⟩
  case rest =>
   obtain ⟨x,y,b,lg,lc,tl,th,cl,ch,rfl,hb,WB,rg,rc,hl,hh,kx⟩:=hR
   refine ⟨_,(pss_cons (ps_if (pt_cmpR (op_eq_tupD (Nat.lt_of_succ_lt hu)) (pv 7) (pv 8) (nomark _)) (pss_one (ps_ret (pe_ifExp (pt_cmpR op_eq (pe_callB call_len_seq rfl B.len bb_len (pa_cons (pe_op op_cat (pe_fn G_rows_in F_rows_in (hr.mono (by decide)) (pa_cons (pv 2) pa_nil)) (pe_fn G_rings_in F_rings_in (hr.mono (by decide)) (pa_cons (pv 2) pa_nil))) pa_nil)) (pe_callB call_len_seq rfl B.len bb_len (pa_cons (pv 6) pa_nil)) (nomark _)) pe_str pe_str))) pss_nil)
   (pss_one (ps_ret (pe_ifExp (PW.pt (pw_or (pt_cmpR (op_in_tups (K:=K) rfl hu) (pv 7) (pv 5) (by with_unfolding_all rfl)) (pw_or1 (pt_cmpR (op_in_tups (K:=K) rfl hu) (pv 8) (pv 5) (by with_unfolding_all rfl))))) pe_str pe_str)))),?_⟩
   refine ⟨_,rfl,_,rfl,tl,th,Mir.rowI cl,Mir.rowI ch,rfl,rfl,by rw [Mir.rowI_V];exact SqT.of hl,by rw [Mir.rowI_V];exact SqT.of hh,_,rfl,?_⟩
   show (if decide (Mir.rowI cl = Mir.rowI ch) = true then _ else _)
   rw [show decide (Mir.rowI cl = Mir.rowI ch) = decide (cl = ch) from decide_eq_decide.mpr Mir.rowI_eq]
   by_cases c3:cl = ch
   ·rw [decide_eq_true c3]
    refine iteT ⟨_,rfl,b,n,_,rfl,SqT.of hb,WB,fun lr H8 hlr s8 rr=>?_⟩
    refine ⟨_,rfl,b,n,_,rfl,SqT.of (s8 _ _ hb),WB,fun lg2 H9 hlg s9 rg2=>?_⟩
    have rr9:=rr.same s9
    obtain ⟨ts,t1,t2,t3⟩:=id rr9
    obtain ⟨us,u1,u2,u3⟩:=id rg2
    have al:=Mir.allC_len WB
    have al2:ts.length + us.length = (Mir.allC n (Mir.beh ms x y)).length:=by rw [t2,u2];unfold Mir.allC;rw [List.length_append]
    refine ⟨lr,lg2,_,_,rfl,rfl,t1,u1,by rw [List.length_map,List.length_map];exact Nat.le_trans (show ts.length + us.length≤40 by omega) (by decide),fun lq hlq=>?_⟩
    have s10:Same H9 (upd H9 lq (.lst (ts.map V.ref ++ us.map V.ref))):=same_upd hlq
    have h10:upd H9 lq (.lst (ts.map V.ref ++ us.map V.ref)) lq = some (.lst (ts.map V.ref ++ us.map V.ref)):=upd_same
    generalize upd H9 lq (.lst (ts.map V.ref ++ us.map V.ref)) = H10 at s10 h10
    have s7:=(s8.trans s9).trans s10
    obtain ⟨vs,w1,w2,w3⟩:=rc.same s7
    refine ⟨lq,_,rfl,.inl (SqL.of h10),_,rfl,lc,_,rfl,.inl (SqL.of w1),rfl,_,rfl,?_⟩
    have el:(((ts.map V.ref ++ us.map V.ref).length:Nat):Int) = ((Mir.allC n (Mir.beh ms x y)).length:Nat):=by rw [List.length_append,List.length_map,List.length_map,al2]
    have er:(((vs.map V.ref).length:Nat):Int) = ((Mir.allC n ms).length:Nat):=by rw [List.length_map,w2]
    rw [el,er]
    by_cases c4:(Mir.allC n (Mir.beh ms x y)).length = (Mir.allC n ms).length
    ·exact iteY (dInt (by rw [c4])) (kx _ _ s7 (by rw [if_pos c3,if_pos c4]))
    ·exact iteN (dIntN (by omega)) (kx _ _ s7 (by rw [if_pos c3,if_neg c4]))
   ·rw [decide_eq_false c3]
    refine iteF ?_
    have inR:∀ {tt:Addr} {cc:List Nat} {Q':VK},H7 tt = some (.tup (Mir.nV cc))→Q' (.bl (decide (cc∈Ch.ringsL n (Mir.at0 ms)))) H7→rInT (.ref tt) (.ref lg) H7 Q':=fun {tt cc Q'} h7 q=>by
     obtain ⟨us,u1,u2,u3⟩:=id rg
     refine ⟨tt,lg,us,Mir.rowI cc,(Ch.ringsL n (Mir.at0 ms)).map Mir.rowI,rfl,rfl,by rw [Mir.rowI_V];exact h7,u1,by rw [List.length_map];exact u2,fun i u r c1 c2=>?_,?_⟩
     ·rw [List.getElem?_map] at c2
      obtain ⟨r2,c3,rfl⟩:=Option.map_eq_some_iff.mp c2
      rw [Mir.rowI_V]
      exact u3 i u r2 c1 c3
     ·rw [show decide (Mir.rowI cc∈(Ch.ringsL n (Mir.at0 ms)).map Mir.rowI) = decide (cc∈Ch.ringsL n (Mir.at0 ms)) from decide_eq_decide.mpr Mir.rowI_mem]
      exact q
    refine ⟨_,rfl,_,rfl,inR hl ?_⟩
    refine ⟨_,rfl,?_⟩
    by_cases c5:cl∈Ch.ringsL n (Mir.at0 ms)
    ·rw [decide_eq_true c5]
     exact iteT (iteT (kx _ _ (Same.refl _) (by rw [if_neg c3,if_pos (.inl c5)])))
    ·rw [decide_eq_false c5]
     refine iteF ⟨_,rfl,_,rfl,inR hh ?_⟩
     refine ⟨_,rfl,?_⟩
     by_cases c6:ch∈Ch.ringsL n (Mir.at0 ms)
     ·rw [decide_eq_true c6]
      exact iteT (kx _ _ (Same.refl _) (by rw [if_neg c3,if_pos (.inr c6)]))
     ·rw [decide_eq_false c6]
      exact iteF (kx _ _ (Same.refl _) (by rw [if_neg c3,if_neg (fun z=>z.elim c5 c6)]))
  refine ⟨_,rfl,_,rfl,a,d,n,ms,p,q,rfl,hS,W,hD,sp,sq,fun hf b H1 hb s1 h1=>?_,kb⟩
  obtain ⟨x,y,rfl,rfl,hxy,hy,hne⟩:=hf.nat
  have k:=kg hf
  rw [Int.toNat_natCast,Int.toNat_natCast] at k h1
  have hx:x < 2 * n:=by omega
  have hD1:=s1 _ _ hD
  refine ⟨_,rfl,d,_,_,_,rfl,rfl,SqT.of hD1,rfl,?_⟩
  refine ⟨_,rfl,d,_,_,_,rfl,rfl,SqT.of hD1,rfl,?_⟩
  refine ⟨_,rfl,a,n,ms,rfl,s1.tup hS,W,fun lg H2 hlg s2 rg=>?_⟩
  have s12:=s1.trans s2
  refine ⟨_,rfl,a,n,ms,rfl,s12.tup hS,W,fun lr H3 hlr s3 rr=>?_⟩
  have s13:=s12.trans s3
  have rg3:=rg.same s3
  obtain ⟨ts,t1,t2,t3⟩:=id rr
  obtain ⟨us,u1,u2,u3⟩:=id rg3
  have al:=Mir.allC_len W
  have al2:ts.length + us.length≤40:=by rw [t2,u2];unfold Mir.allC at al;rwa [List.length_append] at al
  refine ⟨_,rfl,lr,lg,_,_,rfl,rfl,t1,u1,by rw [List.length_map,List.length_map];exact Nat.le_trans al2 (by decide),fun lc hlc=>?_⟩
  have rc:=rr.app rg3 t1 u1 hlc
  have s4:Same H3 (upd H3 lc (.lst (ts.map V.ref ++ us.map V.ref))):=same_upd hlc
  generalize upd H3 lc (.lst (ts.map V.ref ++ us.map V.ref)) = H4 at rc s4
  have rc:Mir.RowsT H4 lc (Mir.allC n ms):=rc
  obtain ⟨cl,hcl⟩:=Mir.chain_there W hx
  obtain ⟨ch,hch⟩:=Mir.chain_there W hy
  refine ⟨_,rfl,_,rfl,lc,_,x,cl,rfl,rc,by omega,hcl,fun tl H5 s5 h5=>?_⟩
  refine ⟨_,rfl,_,rfl,lc,_,y,ch,rfl,rc.same s5,by omega,hch,fun th H6 s6 h6=>?_⟩
  have s16:=((s13.trans s4).trans s5).trans s6
  have s36:=(s4.trans s5).trans s6
  have h5':=s6 _ _ h5
  have ecl:Mir.chainF (Mir.allC n ms) x = cl:=by unfold Mir.chainF;rw [hcl];rfl
  have ech:Mir.chainF (Mir.allC n ms) y = ch:=by unfold Mir.chainF;rw [hch];rfl
  have inR:∀ {H7:Hp} {tt:Addr} {cc:List Nat} {Q':VK},Same H6 H7→H7 tt = some (.tup (Mir.nV cc))→Q' (.bl (decide (cc∈Ch.ringsL n (Mir.at0 ms)))) H7→rInT (.ref tt) (.ref lg) H7 Q':=fun {H7 tt cc Q'} s7 h7 q=>by
   refine ⟨tt,lg,us,Mir.rowI cc,(Ch.ringsL n (Mir.at0 ms)).map Mir.rowI,rfl,rfl,by rw [Mir.rowI_V];exact h7,s7 _ _ (s36 _ _ u1),by rw [List.length_map];exact u2,fun i u r c1 c2=>?_,?_⟩
   ·rw [List.getElem?_map] at c2
    obtain ⟨r2,c3,rfl⟩:=Option.map_eq_some_iff.mp c2
    rw [Mir.rowI_V]
    exact s7 _ _ (s36 _ _ (u3 i u r2 c1 c3))
   ·rw [show decide (Mir.rowI cc∈(Ch.ringsL n (Mir.at0 ms)).map Mir.rowI) = decide (cc∈Ch.ringsL n (Mir.at0 ms)) from decide_eq_decide.mpr Mir.rowI_mem]
    exact q
  have kk:∀ {H7:Hp} {z:Str},Same H6 H7→Mir.kindF n ms x y = z→Q (.str z) H7:=fun s7 e=>by rw [← e];exact k _ (s16.trans s7)
  refine ⟨_,rfl,_,rfl,rfl,_,rfl,?_⟩
  by_cases c1:x = y
  ·refine iteY (dInt (by rw [c1])) ?_
   refine ⟨_,rfl,_,rfl,inR (Same.refl _) h5' ?_⟩
   refine ⟨_,rfl,?_⟩
   by_cases c2:cl∈Ch.ringsL n (Mir.at0 ms)
   ·rw [decide_eq_true c2]
    exact iteT (kk (Same.refl _) (by unfold Mir.kindF;rw [if_pos c1,ecl,if_pos c2]))
   ·rw [decide_eq_false c2]
    exact iteF (kk (Same.refl _) (by unfold Mir.kindF;rw [if_pos c1,ecl,if_neg c2]))
  ·refine iteN (dIntN (by omega)) ?_
   have eqc:∀ {H7:Hp} {Q':VK},Same H6 H7→Q' (.bl (decide (cl = ch))) H7→rTupD K false (.ref tl) (.ref th) H7 Q':=fun {H7 Q'} s7 q=>by
    refine ⟨tl,th,Mir.rowI cl,Mir.rowI ch,rfl,rfl,by rw [Mir.rowI_V];exact SqT.of (s7 _ _ h5'),by rw [Mir.rowI_V];exact SqT.of (s7 _ _ h6),?_⟩
    show Q' (.bl (decide (Mir.rowI cl = Mir.rowI ch))) H7
    rw [show decide (Mir.rowI cl = Mir.rowI ch) = decide (cl = ch) from decide_eq_decide.mpr Mir.rowI_eq]
    exact q
   have hS6:=s16.tup hS
   refine ⟨_,rfl,_,rfl,a,_,_,_,rfl,rfl,hS6,W.ix hx,_,rfl,rfl,_,rfl,?_⟩
   by_cases c2:Mir.at0 ms x = x∧Mir.at0 ms y = y
   ·refine iteY (dInt (by rw [c2.1])) ?_
    refine ⟨_,rfl,_,rfl,a,_,_,_,rfl,rfl,hS6,W.ix hy,_,rfl,rfl,_,rfl,iteY (dInt (by rw [c2.2])) ?_⟩
    refine ⟨_,rfl,_,rfl,eqc (Same.refl _) ?_⟩
    refine ⟨_,rfl,?_⟩
    by_cases c3:cl = ch
    ·rw [decide_eq_true c3]
     exact iteT (kk (Same.refl _) (by unfold Mir.kindF;rw [if_neg c1,if_pos c2,ecl,ech,if_pos c3]))
    ·rw [decide_eq_false c3]
     exact iteF (kk (Same.refl _) (by unfold Mir.kindF;rw [if_neg c1,if_pos c2,ecl,ech,if_neg c3]))
   ·have WBx:=Mir.beh_work W (p:=x) (q:=y) hx hy hne
    have rest:∀ (z:Str) (H8:Hp),Same H6 H8→z = (if cl = ch then (if (Mir.allC n (Mir.beh ms x y)).length = (Mir.allC n ms).length then ("turned":Str) else "parted") else if cl∈Ch.ringsL n (Mir.at0 ms)∨ch∈Ch.ringsL n (Mir.at0 ms) then "taken" else "crossed")→Q (.str z) H8:=fun z H8 s8 e=>kk s8 (by unfold Mir.kindF;rw [if_neg c1,if_neg c2,ecl,ech,e])
    have sm:=(s2.trans s3).trans s36
    by_cases c2a:Mir.at0 ms x = x
    ·refine iteY (dInt (by rw [c2a])) ?_
     refine ⟨_,rfl,_,rfl,a,_,_,_,rfl,rfl,hS6,W.ix hy,_,rfl,rfl,_,rfl,iteN (dIntN (fun z=>c2 ⟨c2a,by omega⟩)) ?_⟩
     exact ⟨x,y,b,lg,lc,tl,th,cl,ch,rfl,sm _ _ h1,WBx,rg3.same s36,rc.same (s5.trans s6),h5',h6,rest⟩
    ·refine iteN (dIntN (by omega)) (iteF ?_)
     exact ⟨x,y,b,lg,lc,tl,th,cl,ch,rfl,sm _ _ h1,WBx,rg3.same s36,rc.same (s5.trans s6),h5',h6,rest⟩
end
section
seal L2.PSs L2.PS L2.PE L2.PT
variable {P:Program} {w:World} {K:PySem.W.Frag} {mg:Str→Option Value} {base:Heap}
theorem ok_least_pair {f f1:Addr} {fd fd1:FuncData} (B:Bl mg) (F:Fn K mg "least_pair" s_least_pair ["work","deed"] f fd) (F_freed_ends:Fn K mg "freed_ends" s_freed_ends ["work","deed"] f1 fd1):FnOk P w K mg base CX0 2 f fd ["work","deed"] (Mir.spLeastPair K):=by
 have G_freed_ends:FnOk P w K mg base CX0 1 f1 fd1 ["work","deed"] (Mir.spFreedE K):=ok_freed_ends F_freed_ends
 refine F.fn.ok sc_least_pair (fun vs H Q E h=>?_) (fun cdv A outer s H vs Q E hr h=>?_)
 ·obtain ⟨a,d,n,p,q,ms,rfl,_⟩:=h
  rfl
 ·obtain ⟨a,d,n,p,q,ms,rfl,hS,W,hD,hp,hq,k⟩:=h
  have hu:=hu_of hr
  refine ⟨_,(pss_cons (ps_set (i:=2) sc_least_pair.nd rfl (Or.inl rfl) (pe_tup (pa_cons (pe_ix ix_tup (pv 1) pe_int (fun _ _=>rfl)) (pa_cons (pe_ix ix_tup (pv 1) pe_int (fun _ _=>rfl)) pa_nil))))
   (pss_cons (ps_set (i:=3) sc_least_pair.nd rfl (Or.inl rfl) (pe_fn G_freed_ends F_freed_ends (hr.mono (by decide)) (pa_cons (pv 0) (pa_cons (pv 1) pa_nil))))
   (pss_cons (ps_if (pt_cmpR op_lt (pe_callB call_len_seq rfl B.len bb_len (pa_cons (pv 3) pa_nil)) pe_int (nomark _)) (pss_one (ps_ret (pv 2))) pss_nil)
   (pss_one (ps_ret (pe_callB (call_min2T rfl hu) rfl B.min bb_min (pa_cons (pv 2) (pa_cons (pe_tup (pa_cons (pe_callB (call_minL2 rfl) rfl B.min bb_min (pa_cons (pv 3) pa_nil)) (pa_cons (pe_callB (call_maxL2 rfl) rfl B.max bb_max (pa_cons (pv 3) pa_nil)) pa_nil))) pa_nil)))))))),?_⟩
  refine ⟨_,rfl,d,_,_,_,rfl,rfl,hD,rfl,_,rfl,d,_,_,_,rfl,rfl,hD,rfl,(by show 2≤sizeLine;decide),fun pr hpr=>?_⟩
  have s1:Same H (upd H pr (.tup [.int (p:Nat),.int (q:Nat)])):=same_upd hpr
  have e1:upd H pr (.tup [.int (p:Nat),.int (q:Nat)]) pr = some (.tup [.int (p:Nat),.int (q:Nat)]):=upd_same
  generalize upd H pr (.tup [.int (p:Nat),.int (q:Nat)]) = H1 at s1 e1
  refine ⟨_,rfl,_,rfl,a,d,n,ms,p,q,rfl,s1.tup hS,W,s1.tup hD,hp,hq,fun fr H2 hfr s2 h2=>?_⟩
  have s12:=s1.trans s2
  have ec:=Mir.frd_cases ms p q
  refine ⟨_,rfl,fr,_,rfl,.inl (SqL.of h2),_,_,rfl,rfl,_,rfl,?_⟩
  by_cases c:Mir.at0 ms p≠p∧Mir.at0 ms q≠q
  ·rw [if_neg c.1,if_neg c.2] at ec
   rw [ec] at h2
   have h2:H2 fr = some (.lst [.int (Mir.at0 ms p:Nat),.int (Mir.at0 ms q:Nat)]):=h2
   refine iteN (decide_eq_false (by rw [Mir.nV_len,ec];show ¬ ((2:Nat):Int) < 2;decide)) ?_
   refine ⟨_,rfl,_,rfl,fr,_,_,rfl,SqL.of h2,_,rfl,fr,_,_,rfl,SqL.of h2,(by show 2≤sizeLine;decide),fun pp hpp=>?_⟩
   have s3:=same_upd (o:=.tup [.int (min ((Mir.at0 ms p:Nat):Int) (Mir.at0 ms q:Nat)),.int (max ((Mir.at0 ms p:Nat):Int) (Mir.at0 ms q:Nat))]) hpp
   have e3:upd H2 pp (.tup [.int (min ((Mir.at0 ms p:Nat):Int) (Mir.at0 ms q:Nat)),.int (max ((Mir.at0 ms p:Nat):Int) (Mir.at0 ms q:Nat))]) pp = some (.tup (Mir.pf (Mir.otherP ms p q))):=by
    rw [upd_same]
    unfold Mir.pf Mir.otherP
    simp only
    rw [show min ((Mir.at0 ms p:Nat):Int) (Mir.at0 ms q:Nat) = ((min (Mir.at0 ms p) (Mir.at0 ms q):Nat):Int) by omega,show max ((Mir.at0 ms p:Nat):Int) (Mir.at0 ms q:Nat) = ((max (Mir.at0 ms p) (Mir.at0 ms q):Nat):Int) by omega]
   generalize upd H2 pp (.tup [.int (min ((Mir.at0 ms p:Nat):Int) (Mir.at0 ms q:Nat)),.int (max ((Mir.at0 ms p:Nat):Int) (Mir.at0 ms q:Nat))]) = H3 at s3 e3
   have s13:=s12.trans s3
   have e1':=s3 _ _ (s2 _ _ e1)
   refine ⟨pr,pp,_,_,_,_,rfl,SqT.of e1',SqT.of e3,?_⟩
   have el:Mir.leastP ms p q = if ((Mir.otherP ms p q).1:Int) < (p:Nat)∨((Mir.otherP ms p q).1:Int) = (p:Nat)∧((Mir.otherP ms p q).2:Int) < (q:Nat) then Mir.otherP ms p q else (p,q):=by
    unfold Mir.leastP
    rw [if_pos c]
    by_cases d:(Mir.otherP ms p q).1 < p∨((Mir.otherP ms p q).1 = p∧(Mir.otherP ms p q).2 < q)
    ·rw [if_pos d,if_pos (by omega)]
    ·rw [if_neg d,if_neg (by omega)]
   by_cases d:((Mir.otherP ms p q).1:Int) < (p:Nat)∨((Mir.otherP ms p q).1:Int) = (p:Nat)∧((Mir.otherP ms p q).2:Int) < (q:Nat)
   ·rw [if_pos d] at el ⊢
    exact k pp H3 (s12.free hpp) s13 (by rw [el];exact e3)
   ·rw [if_neg d] at el ⊢
    exact k pr H3 hpr s13 (by rw [el];exact e1')
  ·have el:Mir.leastP ms p q = (p,q):=by unfold Mir.leastP;rw [if_neg c]
   have hlen:(Mir.frd ms p q).length < 2:=by
    rw [ec]
    by_cases c1:Mir.at0 ms p = p
    ·rw [if_pos c1];split <;> simp
    ·rw [if_neg c1]
     have c2:Mir.at0 ms q = q:=Classical.byContradiction fun z=>c ⟨c1,z⟩
     rw [if_pos c2];simp
   refine iteY (decide_eq_true (by rw [Mir.nV_len];omega)) ?_
   exact ⟨_,rfl,k pr H2 hpr s12 (by rw [el];exact s2 _ _ e1)⟩
end
section
seal L2.PSs L2.PS L2.PE L2.PT L2.PA
variable {P:Program} {w:World} {K:PySem.W.Frag} {mg:Str→Option Value} {base:Heap}
theorem ok_told_deed {f f1 f2 f3 f4 C:Addr} {fd fd1 fd2 fd3 fd4:FuncData} (B:Bl mg) (Z:ECls K mg "BadDeed" C) (F:Fn K mg "told_deed" s_told_deed ["work","deed"] f fd) (F_refuse_misfit:Fn K mg "refuse_misfit" s_refuse_misfit ["work","deed"] f1 fd1) (F_fits_work:Fn K mg "fits_work" s_fits_work ["work","deed"] f2 fd2) (F_least_pair:Fn K mg "least_pair" s_least_pair ["work","deed"] f3 fd3) (F_freed_ends:Fn K mg "freed_ends" s_freed_ends ["work","deed"] f4 fd4):FnOk P w K mg base (CXo P w) 3 f fd ["work","deed"] (Mir.spToldD K C):=by
 have G_refuse_misfit:FnOk P w K mg base (CXo P w) 2 f1 fd1 ["work","deed"] (Mir.spMisfit K C):=ok_refuse_misfit B Z F_refuse_misfit F_fits_work
 have G_least_pair:FnOk P w K mg base CX0 2 f3 fd3 ["work","deed"] (Mir.spLeastPair K):=ok_least_pair B F_least_pair F_freed_ends
 refine F.fn.okX2 sc_told_deed (fun vs H Q E h=>?_) (fun cdv A outer s H vs Q E hr h own=>?_)
 ·obtain ⟨a,d,n,p,q,ms,rfl,_⟩:=h
  rfl
 ·obtain ⟨a,d,n,p,q,ms,rfl,hS,W,hD,h1,h2,kg,kb⟩:=h
  have hsm:=W.small
  have sm:∀ k:Nat,k < 2 * n→Mir.Sm (k:Int):=fun k hk=>Mir.Sm.of (by omega) (by omega)
  refine ⟨_,(pss_cons (ps_expr (pe_fnX G_refuse_misfit F_refuse_misfit (hr.mono (by decide)) (pa_cons (pv 0) (pa_cons (pv 1) pa_nil))))
   (pss_one (ps_ret (pe_fn G_least_pair F_least_pair (hr.mono (by decide)) (pa_cons (pv 0) (pa_cons (pv 1) pa_nil)))))),?_⟩
  refine ⟨_,rfl,_,rfl,a,d,n,ms,(p:Nat),(q:Nat),rfl,hS,W,hD,sm _ (by omega),sm _ h2,fun hf=>?_,fun hn=>kb (Classical.byContradiction fun z=>hn ((Mir.fits_iff h1 h2).mpr z))⟩
  have hf:=(Mir.fits_iff h1 h2).mp hf
  exact ⟨_,rfl,_,rfl,a,d,n,p,q,ms,rfl,hS,W,SqT.of hD,by omega,h2,fun l H' hl s' h'=>kg hf l H' hl s' h'⟩
end
section
variable {P:Program} {w:World} {K:PySem.W.Frag} {mg:Str→Option Value} {base:Heap}
theorem ok_law_cell {f:Addr} {fd:FuncData} (B:Bl mg) (F:Fn K mg "_law_cell" s_law_cell ["script","k"] f fd):FnOk P w K mg base CX0 1 f fd ["script","k"] (Mir.spCellAt K):=by
 refine F.fn.ok sc_law_cell (fun vs H Q E h=>?_) (fun cdv A outer s H vs Q E hr h=>?_)
 ·obtain ⟨a,ns,k,rfl,_⟩:=h
  rfl
 ·obtain ⟨a,ns,k,rfl,hS,q⟩:=h
  refine ⟨_,pss_cons (ps_if (pt_cmpR op_lt (pv 1) (pe_callB call_len_seq rfl B.len bb_len (pa_cons (pv 0) pa_nil)) (nomark _)) (pss_one (ps_ret (pe_ix ix_list (pv 0) (pv 1) (fun _ _=>rfl)))) pss_nil) (pss_one (ps_ret pe_int)),?_⟩
  refine ⟨_,rfl,_,rfl,a,_,rfl,.inl hS,_,_,rfl,rfl,_,rfl,?_⟩
  refine ite2 (fun h1=>?_) (fun h1=>?_)
  ·have h1:=of_decide_eq_true h1
   rw [List.length_map] at h1
   have hk:k < ns.length:=by omega
   have e:(ns.map V.int)[k]? = some (.int ns[k]):=by rw [List.getElem?_map,List.getElem?_eq_getElem hk];rfl
   exact ⟨_,rfl,_,rfl,a,_,_,_,rfl,rfl,hS,atI_nat e,q _⟩
  ·exact q 0
end
section
variable {P:Program} {w:World} {K:PySem.W.Frag} {mg:Str→Option Value} {base:Heap}
theorem ok_law_number {f fC:Addr} {fd fdC:FuncData} (B:Bl mg) (F:Fn K mg "_law_number" s_law_number ["script","k"] f fd) (FC:Fn K mg "_law_cell" s_law_cell ["script","k"] fC fdC):FnOk P w K mg base CX0 2 f fd ["script","k"] (Mir.spLawNumber K):=by
 have GC:FnOk P w K mg base CX0 1 fC fdC ["script","k"] (Mir.spCellAt K):=ok_law_cell B FC
 refine F.fn.ok sc_law_number (fun vs H Q E h=>?_) (fun cdv A outer s H vs Q E hr h=>?_)
 ·obtain ⟨a,ns,k,rfl,_⟩:=h
  rfl
 ·obtain ⟨a,ns,k,rfl,hS,hk,q⟩:=h
  refine ⟨_,pss_cons (ps_if (pt_cmpR op_lt (pv 1) (pe_callB call_len_seq rfl B.len bb_len (pa_cons (pv 0) pa_nil)) (nomark _)) (pss_one (ps_ret (pe_ix ix_list (pv 0) (pv 1) (fun _ _=>rfl)))) pss_nil)
   (pss_cons (ps_set (i:=2) sc_law_number.nd rfl (Or.inl rfl) (pe_op op_mod (pe_fn GC FC hr (pa_cons (pv 0) (pa_cons (pe_op op_mod (pv 1) (pe_callB (call_max2 rfl) rfl B.max bb_max (pa_cons pe_int (pa_cons (pe_callB call_len_seq rfl B.len bb_len (pa_cons (pv 0) pa_nil)) pa_nil)))) pa_nil))) pe_int))
   (pss_one (ps_ret (pe_op op_mod (pe_op op_mul (pe_op op_add (pe_op op_add (pe_op op_add (pe_op op_mul (pv 2) pe_int) (pe_op op_mul (pe_op op_mul (pv 1) (pv 1)) pe_int)) (pe_op op_mul pe_int (pv 1))) pe_int) (pe_op op_add (pe_op op_mul (pv 1) (pv 1)) pe_int)) pe_int)))),?_⟩
  refine ⟨_,rfl,_,rfl,a,_,rfl,.inl hS,_,_,rfl,rfl,_,rfl,?_⟩
  refine ite2 (fun h1=>?_) (fun h1=>?_)
  ·have h1:=of_decide_eq_true h1
   rw [List.length_map] at h1
   have hk:k < ns.length:=by omega
   have e:(ns.map V.int)[k]? = some (.int ns[k]):=by rw [List.getElem?_map,List.getElem?_eq_getElem hk];rfl
   exact ⟨_,rfl,_,rfl,a,_,_,_,rfl,rfl,hS,atI_nat e,q _⟩
  ·refine ⟨_,rfl,_,rfl,_,rfl,a,_,rfl,.inl hS,_,_,rfl,?_⟩
   generalize hm:(if (((ns.map V.int).length:Nat):Int) > 1 then (((ns.map V.int).length:Nat):Int) else 1) = m
   have hm0:0 < m:=by rw [← hm];split <;> omega
   refine ⟨_,_,rfl,rfl,hm0,?_⟩
   have z0:=Int.emod_nonneg (k:Int) (show m≠0 by omega)
   obtain ⟨r,hr'⟩:∃ r:Nat,(k:Int) % m = r:=⟨((k:Int) % m).toNat,by omega⟩
   dsimp only
   rw [hr']
   refine ⟨a,ns,r,rfl,hS,fun c=>?_⟩
   have c0:=Int.emod_nonneg c (show (1000000007:Int)≠0 by decide)
   have c1:=Int.emod_lt_of_pos c (show (0:Int) < 1000000007 by decide)
   have k0:(0:Int)≤(k:Int) * k:=by exact_mod_cast Nat.zero_le (k * k)
   have k1:(k:Int) * k≤1000000:=by
    have z:k * k≤1000 * 1000:=Nat.mul_le_mul hk hk
    have z2:((k * k:Nat):Int)≤1000000:=by omega
    rw [Int.natCast_mul] at z2
    exact z2
   refine ⟨_,_,rfl,rfl,(by show (0:Int) < 1000000007;decide),?_⟩
   refine ⟨_,rfl,_,_,rfl,rfl,.inr ⟨by decide,by decide⟩,_,rfl,_,rfl,_,_,rfl,rfl,.inl ⟨by omega,by omega⟩,_,_,rfl,rfl,.inr ⟨by decide,by decide⟩,_,_,rfl,rfl,_,rfl,_,_,rfl,rfl,.inl ⟨by decide,by decide⟩,_,_,rfl,rfl,_,_,rfl,rfl,?_⟩
   refine ⟨_,rfl,_,rfl,_,_,rfl,rfl,.inl ⟨by omega,by omega⟩,_,_,rfl,rfl,_,_,rfl,rfl,.inr ⟨?_,?_⟩,_,_,rfl,rfl,(by show (0:Int) < 2147483647;decide),q _⟩
   ·omega
   ·omega
end
section
variable {P:Program} {w:World} {K:PySem.W.Frag} {mg:Str→Option Value} {base:Heap}
theorem ok_law_work {f fC fN:Addr} {fd fdC fdN:FuncData} (B:Bl mg) (F:Fn K mg "_law_work" s_law_work ["script","at","staves"] f fd) (FC:Fn K mg "_law_cell" s_law_cell ["script","k"] fC fdC) (FN:Fn K mg "_law_number" s_law_number ["script","k"] fN fdN):FnOk P w K mg base CX0 3 f fd ["script","at","staves"] (Mir.spLawWork K):=by
 have GN:FnOk P w K mg base CX0 2 fN fdN ["script","k"] (Mir.spLawNumber K):=ok_law_number B FN FC
 refine F.fn.ok sc_law_work (fun vs H Q E h=>?_) (fun cdv A outer s H vs Q E hr h=>?_)
 ·obtain ⟨a,ns,k,n,rfl,_⟩:=h
  rfl
 ·obtain ⟨a,ns,at',n,rfl,hS,hat,hn,k⟩:=h
  refine ⟨_,pss_cons (ps_set (i:=3) sc_law_work.nd rfl (Or.inl rfl) (pe_callTy (call_list_rng rfl) rfl B.list bb_list (pa_cons (pe_callTy call_rng1 rfl B.range bb_range (pa_cons (pe_op op_mul pe_int (pv 2)) pa_nil)) pa_nil)))
   (pss_cons (ps_set (i:=4) sc_law_work.nd rfl (Or.inl rfl) (pe_callTy (call_list_rng rfl) rfl B.list bb_list (pa_cons (pe_callTy call_rng1 rfl B.range bb_range (pa_cons (pe_op op_mul pe_int (pv 2)) pa_nil)) pa_nil)))
   (pss_cons (ps_while PassesOwn.never (pt_cmpR op_gt (pe_callB call_len_seq rfl B.len bb_len (pa_cons (pv 3) pa_nil)) pe_int (nomark _))
    (pss_cons (ps_set (i:=5) sc_law_work.nd rfl (Or.inl rfl) (pe_bm PySem.F.plainAttrs_list PySem.F.slot_list_pop PySem.F.type_list_pop mt_popAt (pv 3) (pa_cons pe_int pa_nil)))
    (pss_cons (ps_set (i:=6) sc_law_work.nd rfl (Or.inl rfl) (pe_op op_mod (pe_fn GN FN hr (pa_cons (pv 0) (pa_cons (pv 1) pa_nil))) (pe_op op_add (pe_callB call_len_seq rfl B.len bb_len (pa_cons (pv 3) pa_nil)) pe_int)))
    (pss_cons (ps_set (i:=1) sc_law_work.nd rfl (Or.inl rfl) (pe_op op_add (pv 1) pe_int))
    (pss_one (ps_if (pt_cmpR op_lt (pv 6) (pe_callB call_len_seq rfl B.len bb_len (pa_cons (pv 3) pa_nil)) (nomark _))
     (pss_cons (ps_set (i:=7) sc_law_work.nd rfl (Or.inl rfl) (pe_bm PySem.F.plainAttrs_list PySem.F.slot_list_pop PySem.F.type_list_pop mt_popAt (pv 3) (pa_cons (pv 6) pa_nil)))
     (pss_cons (ps_asg (pv 7) (pg_sub (pv 4) (pv 5) set_list))
     (pss_one (ps_asg (pv 5) (pg_sub (pv 4) (pv 7) set_list))))) pss_nil))))))
   (pss_one (ps_ret (pe_callTy call_tuple_of rfl B.tuple bb_tuple (pa_cons (pv 4) pa_nil)))))),?_⟩
  have e0:rngV 0 (2 * (n:Int) - 0).toNat = Mir.nV (List.range (2 * n)):=by
   rw [show (2 * (n:Int) - 0).toNat = 2 * n by omega]
   exact Mir.rngV_nV _
  refine ⟨_,rfl,_,_,rfl,rfl,.inl ⟨by decide,by decide⟩,_,rfl,fun p hp=>⟨p,0,_,rfl,upd_same,⟨by omega,by omega,by omega,by omega⟩,by omega,fun ll hll=>?_⟩⟩
  rw [e0]
  have s1:Same H (upd (upd H p (.rng 0 (2 * (n:Int)))) ll (.lst (Mir.nV (List.range (2 * n))))):=(same_upd hp).trans (same_upd hll)
  have g1:upd (upd H p (.rng 0 (2 * (n:Int)))) ll (.lst (Mir.nV (List.range (2 * n)))) ll = some (.lst (Mir.nV (List.range (2 * n)))):=upd_same
  have nl:H ll = none:=(same_upd hp).free hll
  generalize upd (upd H p (.rng 0 (2 * (n:Int)))) ll (.lst (Mir.nV (List.range (2 * n)))) = H1 at s1 g1
  refine ⟨_,rfl,_,_,rfl,rfl,.inl ⟨by decide,by decide⟩,_,rfl,fun p2 hp2=>⟨p2,0,_,rfl,upd_same,⟨by omega,by omega,by omega,by omega⟩,by omega,fun lm hlm=>?_⟩⟩
  rw [e0]
  have s2:Same H1 (upd (upd H1 p2 (.rng 0 (2 * (n:Int)))) lm (.lst (Mir.nV (List.range (2 * n))))):=(same_upd hp2).trans (same_upd hlm)
  have g2:upd (upd H1 p2 (.rng 0 (2 * (n:Int)))) lm (.lst (Mir.nV (List.range (2 * n)))) lm = some (.lst (Mir.nV (List.range (2 * n)))):=upd_same
  have nm1:H1 lm = none:=(same_upd hp2).free hlm
  generalize upd (upd H1 p2 (.rng 0 (2 * (n:Int)))) lm (.lst (Mir.nV (List.range (2 * n)))) = H2 at s2 g2
  have nm:H lm = none:=s1.free nm1
  have nlm:ll≠lm:=ne_of_none g1 nm1
  have g3:=s2 _ _ g1
  refine while_by (fun σ H3=>∃ (v5 v6 v7:Option V) (lf ms:List Nat) (j:Nat),σ = [some (.ref a),some (.int j),some (.int n),some (.ref ll),some (.ref lm),v5,v6,v7]∧Same H H3∧H3 ll = some (.lst (Mir.nV lf))∧H3 lm = some (.lst (Mir.nV ms)) ∧
    Mir.WorkL n ms∧lf.Nodup∧(∀ x∈lf,x < 2 * n∧Mir.at0 ms x = x)∧lf.length≤2 * n∧j + lf.length≤at' + 2 * n)
   (fun σ H3=>match H3 ll with | some (.lst ys)=>ys.length | _=>0)
   ⟨none,none,none,List.range (2 * n),List.range (2 * n),at',rfl,s1.trans s2,g3,g2,Mir.range_work hn,List.nodup_range,fun x hx=>?_,by rw [List.length_range];omega,by rw [List.length_range];omega⟩ ?_ ?_
  ·have hx:=List.mem_range.mp hx
   exact ⟨hx,by unfold Mir.at0;simp [List.getD,List.getElem?_range hx]⟩
  ·rintro σ H3 ⟨v5,v6,v7,lf,ms,j,rfl,s3,h1,h2,W,nd,hm,hl1,hl2⟩
   refine ⟨_,rfl,ll,_,rfl,.inl (SqL.of h1),_,_,rfl,rfl,_,rfl,?_⟩
   rw [Mir.nV_len]
   refine ite2 (fun c1=>?_) (fun c1=>?_)
   ·have c1:=of_decide_eq_true c1
    obtain ⟨x,r,rfl⟩:∃ x r,lf = x :: r:=by
     cases lf with
     | nil=>exact absurd c1 (by simp)
     | cons x r=>exact ⟨x,r,rfl⟩
    obtain ⟨hx,hxl⟩:=hm x List.mem_cons_self
    rw [List.length_cons] at hl1 hl2
    refine ⟨_,rfl,.inl ⟨rfl,_,SqL.of h1⟩,ll,_,_,0,_,rfl,rfl,h1,by decide,by decide,(ixN_seq (ixN_of (by decide) (by rw [Mir.nV_len];simp))).1,rfl,?_⟩
    have e1:(Mir.nV (x :: r)).eraseIdx 0 = Mir.nV r:=rfl
    rw [e1]
    have s4:Same H (upd H3 ll (.lst (Mir.nV r))):=s3.upd nl
    have k1:upd H3 ll (.lst (Mir.nV r)) ll = some (.lst (Mir.nV r)):=upd_same
    have k2:upd H3 ll (.lst (Mir.nV r)) lm = some (.lst (Mir.nV ms)):=by rw [upd_ne nlm.symm];exact h2
    generalize upd H3 ll (.lst (Mir.nV r)) = H4 at s4 k1 k2
    refine ⟨_,rfl,_,rfl,a,ns,j,rfl,s4.seq hS,by omega,fun c=>?_⟩
    have lpos:(0:Int) < ((Mir.nV r).length:Nat) + 2:=by omega
    refine ⟨_,rfl,ll,_,rfl,.inl (SqL.of k1),_,_,rfl,rfl,_,_,rfl,rfl,lpos,?_⟩
    have q0:=Int.emod_nonneg c (show (((Mir.nV r).length:Nat):Int) + 2≠0 by omega)
    have q1:=Int.emod_lt_of_pos c lpos
    obtain ⟨g,hg⟩:∃ g:Nat,c % ((((Mir.nV r).length:Nat):Int) + 2) = g:=⟨(c % ((((Mir.nV r).length:Nat):Int) + 2)).toNat,by omega⟩
    dsimp only
    rw [hg]
    refine ⟨_,rfl,_,_,rfl,rfl,?_⟩
    have ej:((j:Nat):Int) + 1 = ((j + 1:Nat):Int):=by omega
    dsimp only
    rw [ej]
    have mu:(match H3 ll with | some (.lst ys)=>ys.length | _=>0) = r.length + 1:=by rw [h1];show (Mir.nV (x :: r)).length = _;rw [Mir.nV_len];rfl
    obtain ⟨nx,nr⟩:=List.nodup_cons.mp nd
    refine ⟨_,rfl,_,rfl,ll,_,rfl,.inl (SqL.of k1),_,_,rfl,rfl,_,rfl,?_⟩
    refine ite2 (fun c2=>?_) (fun c2=>?_)
    ·have c2:=of_decide_eq_true c2
     rw [Mir.nV_len] at c2
     have hgl:g < r.length:=by omega
     have hy:r[g]? = some r[g]:=List.getElem?_eq_getElem hgl
     have hym:r[g]∈r:=List.getElem_mem hgl
     generalize r[g] = y at hy hym
     obtain ⟨hyl,hyy⟩:=hm y (List.mem_cons_of_mem _ hym)
     refine ⟨_,rfl,.inl ⟨rfl,_,SqL.of k1⟩,_,rfl,ll,_,_,g,_,rfl,rfl,k1,by omega,by omega,(ixN_seq (ixN_of (Int.natCast_nonneg _) (by rw [Mir.nV_len];omega))).1,Mir.nV_get hy,?_⟩
     have e2:(Mir.nV r).eraseIdx g = Mir.nV (r.eraseIdx g):=Mir.map_erase _ _ _
     rw [e2]
     have k3:upd H4 ll (.lst (Mir.nV (r.eraseIdx g))) lm = some (.lst (Mir.nV ms)):=by rw [upd_ne nlm.symm];exact k2
     refine ⟨_,rfl,_,rfl,_,rfl,lm,_,_,_,rfl,rfl,k3,ixN_of (Int.natCast_nonneg _) (by rw [Mir.nV_len,W.len];omega),?_⟩
     rw [Int.toNat_natCast,Mir.nV_set]
     refine ⟨_,rfl,_,rfl,_,rfl,lm,_,_,_,rfl,rfl,upd_same,ixN_of (Int.natCast_nonneg _) (by rw [Mir.nV_len,List.length_set,W.len];omega),?_⟩
     rw [Int.toNat_natCast,Mir.nV_set]
     have lr:(r.eraseIdx g).length = r.length - 1:=List.length_eraseIdx_of_lt hgl
     have sub:∀ z∈r.eraseIdx g,z∈r:=fun z hz=>List.mem_of_mem_eraseIdx hz
     have nyr:y ∉ r.eraseIdx g:=Mir.nodup_gone nr hgl hy
     refine ⟨⟨_,_,_,r.eraseIdx g,Mir.clasp ms x y,j + 1,rfl,((s4.upd nl).upd nm).upd nm,?_,upd_same,Mir.clasp_work W hx hyl hxl hyy,nr.eraseIdx g,fun z hz=>?_,by omega,by omega⟩,?_⟩
     ·rw [upd_ne nlm,upd_ne nlm,upd_same]
     ·obtain ⟨z1,z2⟩:=hm z (List.mem_cons_of_mem _ (sub z hz))
      refine ⟨z1,?_⟩
      unfold Mir.clasp
      have zx:z≠x:=fun e=>nx (e ▸ sub z hz)
      have zy:z≠y:=fun e=>nyr (e ▸ hz)
      rw [Mir.at0_set',Mir.at0_set',if_neg (by omega),if_neg (by omega)]
      exact z2
     ·show (match (upd _ lm _) ll with | some (.lst ys)=>ys.length | _=>0) < (match H3 ll with | some (.lst ys)=>ys.length | _=>0)
      rw [mu,upd_ne nlm,upd_ne nlm,upd_same]
      show (Mir.nV (r.eraseIdx g)).length < _
      rw [Mir.nV_len]
      omega
    ·refine ⟨⟨_,_,_,r,ms,j + 1,rfl,s4,k1,k2,W,nr,fun z hz=>hm z (List.mem_cons_of_mem _ hz),by omega,by omega⟩,?_⟩
     show (match H4 ll with | some (.lst ys)=>ys.length | _=>0) < (match H3 ll with | some (.lst ys)=>ys.length | _=>0)
     rw [mu,k1]
     show (Mir.nV r).length < _
     rw [Mir.nV_len]
     omega
   ·refine ⟨_,rfl,lm,_,rfl,.inl ⟨SqL.of h2,fun t ht=>k t _ ms (s3.free ht) (s3.upd (s3.free ht)) W upd_same⟩⟩
  ·rintro σ H3 R R' hR ⟨v,e1,p,ys,e2,e3,i,j,e4,e5,b,e6,h⟩
   exact ⟨v,e1,p,ys,e2,e3,i,j,e4,e5,b,e6,hR _ _ h⟩
end
section
variable {P:Program} {w:World} {K:PySem.W.Frag} {mg:Str→Option Value} {base:Heap}
theorem ok_law_fits {f:Addr} {fd:FuncData} (B:Bl mg) (F:Fn K mg "_law_fits" s_law_fits ["work","one","two"] f fd):FnOk P w K mg base CX0 1 f fd ["work","one","two"] (Mir.spLawFits K):=by
 refine F.fn.ok sc_law_fits (fun vs H Q E h=>?_) (fun cdv A outer s H vs Q E hr h=>?_)
 ·obtain ⟨a,n,ms,p,q,rfl,_⟩:=h
  rfl
 ·obtain ⟨a,n,ms,p,q,rfl,hS,W,k⟩:=h
  refine ⟨_,pss_cons (ps_if (PW.pt (pw_or (pt_cmpR op_lt (pv 1) pe_int (nomark _)) (pw_or (pt_cmpR op_gt (pv 1) (pv 2) (nomark _)) (pw_or1 (pt_cmpR op_ge (pv 2) (pe_callB call_len_seq rfl B.len bb_len (pa_cons (pv 0) pa_nil)) (nomark _)))))) (pss_one (ps_ret pe_bl)) pss_nil)
   (pss_one (ps_ret (pe_cmpR op_ne (pe_ix ix_tup (pv 0) (pv 1) (fun _ _=>rfl)) (pv 2) (nomark _)))),?_⟩
  have no:¬ Mir.Fits n ms p q→Q (.bl false) H:=fun z=>by rw [decide_eq_false z] at k;exact k
  refine ⟨_,rfl,_,_,rfl,rfl,_,rfl,ite2 (fun h1=>?_) (fun h1=>?_)⟩
  ·have h1:p < 0:=of_decide_eq_true h1
   exact no fun z=>by have:=z.1;omega
  ·have h1:¬ p < 0:=fun z=>h1 (decide_eq_true z)
   refine ⟨_,rfl,_,rfl,_,_,rfl,rfl,_,rfl,ite2 (fun h2=>?_) (fun h2=>?_)⟩
   ·have h2:q < p:=of_decide_eq_true h2
    exact no fun z=>by have:=z.2.1;omega
   ·have h2:¬ q < p:=fun z=>h2 (decide_eq_true z)
    refine ⟨_,rfl,_,rfl,a,_,rfl,.inr hS,_,_,rfl,rfl,_,rfl,ite2 (fun h3=>?_) (fun h3=>?_)⟩
    ·have h3:((Mir.nV ms).length:Nat)≤q:=of_decide_eq_true h3
     rw [Mir.nV_len,W.len] at h3
     exact no fun z=>by have:=z.2.2.1;omega
    ·have h3:¬ ((Mir.nV ms).length:Nat)≤q:=fun z=>h3 (decide_eq_true z)
     rw [Mir.nV_len,W.len] at h3
     have hx:p = ((p.toNat:Nat):Int):=by omega
     have hix:=W.ix (e:=p.toNat) (by omega)
     rw [← hx] at hix
     refine ⟨_,rfl,_,rfl,a,_,_,_,rfl,rfl,hS,hix,_,rfl,rfl,?_⟩
     have e:decide (Mir.Fits n ms p q) = !decide (V.int ((Mir.at0 ms p.toNat:Nat):Int) = V.int q):=by
      by_cases c:((Mir.at0 ms p.toNat:Nat):Int) = q
      ·rw [decide_eq_false (fun z:Mir.Fits n ms p q=>z.2.2.2 c),decide_eq_true (congrArg V.int c)];rfl
      ·rw [decide_eq_true (show Mir.Fits n ms p q from ⟨by omega,by omega,by omega,c⟩),decide_eq_false (fun z=>c (by injection z))];rfl
     rw [e] at k
     exact k
end
section
variable {P:Program} {w:World} {K:PySem.W.Frag} {mg:Str→Option Value} {base:Heap}
theorem ok_law_behind {f:Addr} {fd:FuncData} (B:Bl mg) (F:Fn K mg "_law_behind" s_law_behind ["work","one","two"] f fd):FnOk P w K mg base CX0 1 f fd ["work","one","two"] (Mir.spLawBeh K):=by
 refine F.fn.ok sc_law_behind (fun vs H Q E h=>?_) (fun cdv A outer s H vs Q E hr h=>?_)
 ·obtain ⟨a,n,ms,p,q,rfl,_⟩:=h
  rfl
 ·obtain ⟨a,n,ms,p,q,rfl,hS,W,hp,hq,hne,k⟩:=h
  refine ⟨_,pss_cons (ps_set (i:=3) sc_law_behind.nd rfl (Or.inl rfl) (pe_callTy call_list_of rfl B.list bb_list (pa_cons (pv 0) pa_nil)))
   (pss_cons (ps_set (i:=4) sc_law_behind.nd rfl (Or.inl rfl) (pe_ix ix_tup (pv 0) (pv 1) (fun _ _=>rfl)))
   (pss_cons (ps_set (i:=5) sc_law_behind.nd rfl (Or.inl rfl) (pe_ix ix_tup (pv 0) (pv 2) (fun _ _=>rfl)))
   (pss_cons (ps_for PassesOwn.never rfl (pi_list (pe_lst (pa_cons (pv 1) (pa_cons (pv 2) (pa_cons (pv 4) (pa_cons (pv 5) pa_nil)))))) (pg_name (i:=6) sc_law_behind.nd rfl (Or.inl rfl))
    (pss_one (ps_asg (pv 6) (pg_sub (pv 3) (pv 6) set_list))))
   (pss_cons (ps_if (pt_cmpR op_ne (pv 1) (pv 2) (nomark _))
    (pss_cons (ps_asg (pv 2) (pg_sub (pv 3) (pv 1) set_list))
    (pss_cons (ps_asg (pv 1) (pg_sub (pv 3) (pv 2) set_list))
    (pss_one (ps_if (PW.pt (pw_and (pt_cmpR op_ne (pv 4) (pv 1) (nomark _)) (pw_and1 (pt_cmpR op_ne (pv 5) (pv 2) (nomark _)))))
     (pss_cons (ps_asg (pv 5) (pg_sub (pv 3) (pv 4) set_list)) (pss_one (ps_asg (pv 4) (pg_sub (pv 3) (pv 5) set_list)))) pss_nil)))) pss_nil)
   (pss_one (ps_ret (pe_callTy call_tuple_of rfl B.tuple bb_tuple (pa_cons (pv 3) pa_nil)))))))),?_⟩
  have lp:=W.wk.lt p hp
  have lq:=W.wk.lt q hq
  have hbe:=Mir.lawBeh_eq W hp hq hne
  refine ⟨_,rfl,a,_,rfl,.inr hS,fun l hl=>?_⟩
  have s1:Same H (upd H l (.lst (Mir.nV ms))):=same_upd hl
  have h1:upd H l (.lst (Mir.nV ms)) l = some (.lst (Mir.nV ms)):=upd_same
  generalize upd H l (.lst (Mir.nV ms)) = H1 at s1 h1
  refine ⟨_,rfl,_,rfl,a,_,_,_,rfl,rfl,s1.tup hS,W.ix hp,?_⟩
  refine ⟨_,rfl,_,rfl,a,_,_,_,rfl,rfl,s1.tup hS,W.ix hq,?_⟩
  have setl:∀ (H3:Hp) (m:List Nat) (i v:Nat),Same H H3→H3 l = some (.lst (Mir.nV m))→Same H (upd H3 l (.lst (Mir.nV (m.set i v))))∧upd H3 l (.lst (Mir.nV (m.set i v))) l = some (.lst (Mir.nV (m.set i v))):=fun H3 m i v s3 h3=>⟨s3.upd hl,upd_same⟩
  have fin:∀ (H3:Hp) (v6:Option V),Same H H3→H3 l = some (.lst (Mir.nV (Mir.lawBeh ms p q)))→(tRet (fun σ H Q=>∃ v,σ[3]? = some (some v)∧∃ p ys,[v] = [V.ref p]∧((SqL K H p ys∧∀ l,H l = none→Q (.ref l) (upd H l (.tup ys)))∨(SqT K H p ys∧Q (.ref p) H))))
     { nx:=fun _ H'=>Q .non H',rt:=Q } [some (.ref a),some (.int p),some (.int q),some (.ref l),some (.int (Mir.at0 ms p:Nat)),some (.int (Mir.at0 ms q:Nat)),v6] H3:=fun H3 v6 s3 h3=>by
   rw [hbe] at h3
   exact ⟨_,rfl,l,_,rfl,.inl ⟨SqL.of h3,fun r hr'=>k r _ (s3.free hr') (s3.upd (s3.free hr')) upd_same⟩⟩
  refine ⟨_,rfl,_,rfl,_,rfl,_,rfl,by show 4≤sizeLine;decide,fun le hle=>⟨le,rfl,⟨_,SqL.of upd_same⟩,for_list (K:=K) (a:=le) (xs:=Mir.nV [p,q,Mir.at0 ms p,Mir.at0 ms q])
   (fun j σ H3=>∃ v:Option V,σ = [some (.ref a),some (.int p),some (.int q),some (.ref l),some (.int (Mir.at0 ms p:Nat)),some (.int (Mir.at0 ms q:Nat)),v]∧Same H H3∧H3 le = some (.lst (Mir.nV [p,q,Mir.at0 ms p,Mir.at0 ms q]))∧H3 l = some (.lst (Mir.nV (([p,q,Mir.at0 ms p,Mir.at0 ms q].take j).foldl (fun m e=>m.set e e) ms))))
   ⟨none,rfl,s1.upd (s1.free hle),upd_same,by rw [upd_ne (ne_of_none h1 hle)];exact h1⟩ (fun j σ H3 _ ⟨_,_,_,e,_⟩=>SqL.of e) ?_ ?_⟩⟩
  ·rintro j y σ H3 hj ⟨v,rfl,s3,hle3,hl3⟩
   obtain ⟨e,he,rfl⟩:=Mir.nV_get' hj
   have he2:e < 2 * n:=by
    have z:=List.mem_of_getElem? he
    simp at z
    rcases z with rfl | rfl | rfl | rfl <;> assumption
   have hlen:(([p,q,Mir.at0 ms p,Mir.at0 ms q].take j).foldl (fun m e=>m.set e e) ms).length = 2 * n:=by
    rw [← W.len]
    generalize [p,q,Mir.at0 ms p,Mir.at0 ms q].take j = es
    clear k hbe hS W hne lp lq fin setl s1 h1 hl3 hle3 s3 hj he
    induction es generalizing ms with
    | nil=>rfl
    | cons a r ih=>rw [List.foldl_cons,ih,List.length_set]
   have nll:l≠le:=ne_of_none h1 hle
   refine ⟨_,rfl,_,rfl,_,rfl,l,_,_,_,rfl,rfl,hl3,ixN_of (Int.natCast_nonneg _) (by rw [Mir.nV_len,hlen];omega),?_⟩
   rw [Int.toNat_natCast,Mir.nV_set]
   refine ⟨_,rfl,s3.upd hl,by rw [upd_ne nll.symm];exact hle3,?_⟩
   rw [upd_same,Mir.take_snoc he,List.foldl_append]
   rfl
  ·rintro σ H3 ⟨v,rfl,s3,hle3,hl3⟩
   have e4:([p,q,Mir.at0 ms p,Mir.at0 ms q].take (Mir.nV [p,q,Mir.at0 ms p,Mir.at0 ms q]).length).foldl (fun m e=>m.set e e) ms = (((ms.set p p).set q q).set (Mir.at0 ms p) (Mir.at0 ms p)).set (Mir.at0 ms q) (Mir.at0 ms q):=rfl
   rw [e4] at hl3
   have l4:((((ms.set p p).set q q).set (Mir.at0 ms p) (Mir.at0 ms p)).set (Mir.at0 ms q) (Mir.at0 ms q)).length = 2 * n:=by simp only [List.length_set];exact W.len
   unfold Mir.lawBeh at fin
   simp only at fin
   generalize (((ms.set p p).set q q).set (Mir.at0 ms p) (Mir.at0 ms p)).set (Mir.at0 ms q) (Mir.at0 ms q) = m4 at hl3 l4 fin
   refine ⟨_,rfl,_,rfl,rfl,_,rfl,ite2 (fun c1=>?_) (fun c1=>?_)⟩
   ·have c1:p≠q:=fun z=>by rw [z] at c1;simp at c1
    rw [if_neg c1] at fin
    refine ⟨_,rfl,_,rfl,_,rfl,l,_,_,_,rfl,rfl,hl3,ixN_of (Int.natCast_nonneg _) (by rw [Mir.nV_len,l4];omega),?_⟩
    rw [Int.toNat_natCast,Mir.nV_set]
    obtain ⟨s5,h5⟩:=setl H3 m4 p q s3 hl3
    refine ⟨_,rfl,_,rfl,_,rfl,l,_,_,_,rfl,rfl,h5,ixN_of (Int.natCast_nonneg _) (by rw [Mir.nV_len,List.length_set,l4];omega),?_⟩
    rw [Int.toNat_natCast,Mir.nV_set]
    obtain ⟨s6,h6⟩:=setl _ _ q p s5 h5
    refine ⟨_,rfl,_,rfl,rfl,_,rfl,ite2 (fun c2=>?_) (fun c2=>?_)⟩
    ·have c2:Mir.at0 ms p≠p:=fun z=>by rw [z] at c2;simp at c2
     refine ⟨_,rfl,_,rfl,rfl,_,rfl,ite2 (fun c3=>?_) (fun c3=>?_)⟩
     ·have c3:Mir.at0 ms q≠q:=fun z=>by rw [z] at c3;simp at c3
      rw [if_pos ⟨c2,c3⟩] at fin
      refine ⟨_,rfl,_,rfl,_,rfl,l,_,_,_,rfl,rfl,h6,ixN_of (Int.natCast_nonneg _) (by simp only [Mir.nV_len,List.length_set,l4];omega),?_⟩
      rw [Int.toNat_natCast,Mir.nV_set]
      obtain ⟨s7,h7⟩:=setl _ _ (Mir.at0 ms p) (Mir.at0 ms q) s6 h6
      refine ⟨_,rfl,_,rfl,_,rfl,l,_,_,_,rfl,rfl,h7,ixN_of (Int.natCast_nonneg _) (by simp only [Mir.nV_len,List.length_set,l4];omega),?_⟩
      rw [Int.toNat_natCast,Mir.nV_set]
      obtain ⟨s8,h8⟩:=setl _ _ (Mir.at0 ms q) (Mir.at0 ms p) s7 h7
      exact fin _ _ s8 h8
     ·have c3:Mir.at0 ms q = q:=by
       by_cases z:Mir.at0 ms q = q
       ·exact z
       ·exact absurd (by simp;omega) c3
      rw [if_neg (fun z=>z.2 c3)] at fin
      exact fin _ _ s6 h6
    ·have c2:Mir.at0 ms p = p:=by
      by_cases z:Mir.at0 ms p = p
      ·exact z
      ·exact absurd (by simp;omega) c2
     rw [if_neg (fun z=>z.1 c2)] at fin
     exact fin _ _ s6 h6
   ·have c1:p = q:=by
     by_cases z:p = q
     ·exact z
     ·exact absurd (by simp;omega) c1
    rw [if_pos c1] at fin
    exact fin _ _ s3 hl3
end
section
variable {P:Program} {w:World} {K:PySem.W.Frag} {mg:Str→Option Value} {base:Heap}
theorem ok_Journal_init {f C:Addr} {fd:FuncData} (T:Mir.JC K mg C) (M:MFn K C "__init__" "Journal.__init__" s_Journal_init ["self","work"] f fd):FnOk P w K mg base CX0 1 f fd ["self","work"] (Mir.spInit C):=by
 refine M.fn.ok sc_Journal_init (fun vs H Q E h=>?_) (fun cdv A outer s H vs Q E hr h=>?_)
 ·obtain ⟨p,t,dx,w0,rfl,_⟩:=h
  rfl
 ·obtain ⟨p,t,dx,w0,rfl,hp,ht,k⟩:=h
  refine ⟨_,(pss_cons (ps_fld (pv 0) (pe_lst (pa_cons (pv 1) pa_nil)) rfl)
   (pss_cons (ps_fld (pv 0) (pe_lst pa_nil) rfl)
   (pss_one (ps_fld (pv 0) (pe_lst pa_nil) rfl)))),?_⟩
  refine ⟨_,rfl,by show 1≤sizeLine;decide,fun a ha=>?_⟩
  have npa:p≠a:=ne_of_none hp ha
  have fr:∀ {G:Hp} {o:HO} {x y:Addr},L2.upd G x o y = none→y≠x∧G y = none:=fun {G o x y} h=>by
   have n:y≠x:=fun z=>by rw [z,upd_same] at h;cases h
   rw [upd_ne n] at h
   exact ⟨n,h⟩
  have hp1:L2.upd H a (.lst [.ref t]) p = some (.ins C dx []):=by rw [upd_ne npa];exact hp
  refine ⟨_,rfl,p,C,dx,_,rfl,hp1,T.cl,T.nw,(by show 0 < 1000;decide),?_⟩
  refine ⟨by show 0≤sizeLine;decide,fun b hb=>?_⟩
  obtain ⟨nbp,hb1⟩:=fr hb
  obtain ⟨nba,hb2⟩:=fr hb1
  refine ⟨_,rfl,p,C,dx,_,rfl,(by rw [upd_ne (Ne.symm nbp),upd_same]),T.cl,T.nd,(by show 1 < 1000;decide),?_⟩
  refine ⟨by show 0≤sizeLine;decide,fun c hc=>?_⟩
  obtain ⟨ncp,hc1⟩:=fr hc
  obtain ⟨ncb,hc2⟩:=fr hc1
  obtain ⟨_,hc3⟩:=fr hc2
  obtain ⟨nca,hc4⟩:=fr hc3
  refine ⟨_,rfl,p,C,dx,_,rfl,(by rw [upd_ne (Ne.symm ncp),upd_same]),T.cl,T.nu,(by show (putF "done_deeds" (V.ref b) (putF "passed_works" (V.ref a) [])).length < 1000;rw [show (putF "done_deeds" (V.ref b) (putF "passed_works" (V.ref a) [])) = (if ("passed_works":Str) = "done_deeds" then [(("passed_works":Str),V.ref b)] else (("passed_works":Str),V.ref a) :: [("done_deeds",V.ref b)]) from rfl,if_neg Mir.k12];show 2 < 1000;decide),?_⟩
  have nat:a≠t:=fun z=>by rw [z,ht] at ha;cases ha
  have nbt:b≠t:=fun z=>by rw [z,ht] at hb2;cases hb2
  have nct:c≠t:=fun z=>by rw [z,ht] at hc4;cases hc4
  have npt:p≠t:=ne_of hp ht (by intro z;cases z)
  refine k a b c _ ha hb2 hc4 ⟨⟨dx,upd_same⟩,⟨[t],?_,rfl,fun i u x e1 e2=>?_⟩,Mir.TsT.nil ?_,Mir.TsT.nil ?_,Ne.symm nba,Ne.symm nca,Ne.symm ncb⟩ fun x o e hx=>?_
  ·rw [upd_ne (Ne.symm npa),upd_ne (Ne.symm nca),upd_ne (Ne.symm npa),upd_ne (Ne.symm nba),upd_ne (Ne.symm npa),upd_same];rfl
  ·cases i with
   | zero =>
    cases e1
    cases e2
    rw [upd_ne (Ne.symm npt),upd_ne (Ne.symm nct),upd_ne (Ne.symm npt),upd_ne (Ne.symm nbt),upd_ne (Ne.symm npt),upd_ne (Ne.symm nat)]
    exact ht
   | succ i=>cases e1
  ·rw [upd_ne nbp,upd_ne (Ne.symm ncb),upd_ne nbp,upd_same]
  ·rw [upd_ne ncp,upd_same]
  ·have hx:x≠p:=fun z=>hx (List.mem_singleton.mpr z)
   rw [upd_ne hx,upd_ne (ne_of_none e hc4),upd_ne hx,upd_ne (ne_of_none e hb2),upd_ne hx,upd_ne (ne_of_none e ha)]
   exact e
end
section
variable {P:Program} {w:World} {K:PySem.W.Frag} {mg:Str→Option Value} {base:Heap}
theorem ok_Journal_now {f C:Addr} {fd:FuncData} (T:Mir.JC K mg C) (M:MFn K C "now" "Journal.now" s_Journal_now ["self"] f fd):FnOk P w K mg base CX0 1 f fd ["self"] (Mir.spNow C):=by
 refine M.fn.ok sc_Journal_now (fun vs H Q E h=>?_) (fun cdv A outer s H vs Q E hr h=>?_)
 ·obtain ⟨p,a,b,c,w0,ds,us,rfl,_⟩:=h
  rfl
 ·obtain ⟨p,a,b,c,w0,ds,us,rfl,J,k⟩:=h
  refine ⟨_,(pss_one (ps_ret (pe_ix ix_list (pe_fld (pv 0) rfl) (pe_un un_neg pe_int) (fun _ _=>rfl)))),?_⟩
  obtain ⟨dx,hp⟩:=J.ob
  obtain ⟨vs,t,h1,h2,h3⟩:=J.t.w.get Mir.works_last
  obtain ⟨vs',h4,h5⟩:=J.t.w.len
  rw [h1] at h4
  obtain rfl:vs = vs':=by injection h4 with h4;injection h4
  refine ⟨_,rfl,p,C,dx,_,_,rfl,hp,T.cl,T.nw,Mir.jF_w,?_⟩
  exact ⟨_,rfl,a,_,_,_,rfl,rfl,SqL.of h1,Mir.atI_end (by rw [List.getLast?_eq_getElem?,h5];exact h2),k t h3⟩
theorem ok_Journal_deeds {f C:Addr} {fd:FuncData} (B:Bl mg) (T:Mir.JC K mg C) (M:MFn K C "deeds" "Journal.deeds" s_Journal_deeds ["self"] f fd):FnOk P w K mg base CX0 1 f fd ["self"] (Mir.spDeedsJ C):=by
 refine M.fn.ok sc_Journal_deeds (fun vs H Q E h=>?_) (fun cdv A outer s H vs Q E hr h=>?_)
 ·obtain ⟨p,a,b,c,w0,ds,us,rfl,_⟩:=h
  rfl
 ·obtain ⟨p,a,b,c,w0,ds,us,rfl,J,k⟩:=h
  refine ⟨_,(pss_one (ps_ret (pe_callTy call_list_of rfl B.list bb_list (pa_cons (pe_fld (pv 0) rfl) pa_nil)))),?_⟩
  obtain ⟨dx,hp⟩:=J.ob
  obtain ⟨vs,h1⟩:=J.t.d.lst
  refine ⟨_,rfl,p,C,dx,_,_,rfl,hp,T.cl,T.nd,Mir.jF_d,?_⟩
  exact ⟨b,_,rfl,.inl (SqL.of h1),fun l hl=>k l _ hl (same_upd hl) (J.t.d.copy h1 hl)⟩
theorem ok_Journal_works {f C:Addr} {fd:FuncData} (B:Bl mg) (T:Mir.JC K mg C) (M:MFn K C "works" "Journal.works" s_Journal_works ["self"] f fd):FnOk P w K mg base CX0 1 f fd ["self"] (Mir.spWorksJ C):=by
 refine M.fn.ok sc_Journal_works (fun vs H Q E h=>?_) (fun cdv A outer s H vs Q E hr h=>?_)
 ·obtain ⟨p,a,b,c,w0,ds,us,rfl,_⟩:=h
  rfl
 ·obtain ⟨p,a,b,c,w0,ds,us,rfl,J,k⟩:=h
  refine ⟨_,(pss_one (ps_ret (pe_callTy call_list_of rfl B.list bb_list (pa_cons (pe_fld (pv 0) rfl) pa_nil)))),?_⟩
  obtain ⟨dx,hp⟩:=J.ob
  obtain ⟨vs,h1⟩:=J.t.w.lst
  refine ⟨_,rfl,p,C,dx,_,_,rfl,hp,T.cl,T.nw,Mir.jF_w,?_⟩
  exact ⟨a,_,rfl,.inl (SqL.of h1),fun l hl=>k l _ hl (same_upd hl) (J.t.w.copy h1 hl)⟩
end
section
seal L2.PSs L2.PS L2.PE L2.PT L2.PA
variable {P:Program} {w:World} {K:PySem.W.Frag} {mg:Str→Option Value} {base:Heap}
theorem ok_Journal_go_on {f C CB f1 f2 f3 f4:Addr} {fd fd1 fd2 fd3 fd4:FuncData} (T:Mir.JC K mg C) (M:MFn K C "go_on" "Journal.go_on" s_Journal_go_on ["self","deed"] f fd) (M_now:MFn K C "now" "Journal.now" s_Journal_now ["self"] f1 fd1)
  (F_deed_kind:Fn K mg "deed_kind" s_deed_kind ["work","deed"] f2 fd2) (G_deed_kind:FnOk P w K mg base (CXo P w) 5 f2 fd2 ["work","deed"] (Mir.spKind K CB)) (F_told_deed:Fn K mg "told_deed" s_told_deed ["work","deed"] f3 fd3) (G_told_deed:FnOk P w K mg base (CXo P w) 3 f3 fd3 ["work","deed"] (Mir.spToldD K CB)) (F_reclasped:Fn K mg "reclasped" s_reclasped ["work","deed"] f4 fd4) (G_reclasped:FnOk P w K mg base (CXo P w) 3 f4 fd4 ["work","deed"] (Mir.spRecl K CB)) :
  FnOk P w K mg base (CXo P w) 6 f fd ["self","deed"] (Mir.spGo C CB):=by
 have G_now:FnOk P w K mg base CX0 1 f1 fd1 ["self"] (Mir.spNow C):=ok_Journal_now T M_now
 refine M.fn.okX2 sc_Journal_go_on (fun vs H Q E h=>?_) (fun cdv A outer s H vs Q E hr h own=>?_)
 ·obtain ⟨p,a,b,c,t,n,m,w0,ds,us,d,rfl,_⟩:=h
  rfl
 ·obtain ⟨p,a,b,c,t,n,m,w0,ds,us,d,rfl,J,ht,s1,s2,W,hl,kg,kb⟩:=h
  refine ⟨_,(pss_cons (ps_set (i:=2) sc_Journal_go_on.nd rfl (Or.inl rfl) (pe_m0 (pv 0) T.cl M_now G_now (hr.mono (by decide))))
   (pss_cons (ps_set (i:=3) sc_Journal_go_on.nd rfl (Or.inl rfl) (pe_fnX G_deed_kind F_deed_kind (hr.mono (by decide)) (pa_cons (pv 2) (pa_cons (pv 1) pa_nil))))
   (pss_cons (ps_expr (pe_bm PySem.F.plainAttrs_list PySem.F.slot_list_append PySem.F.type_list_append mt_append (pe_fld (pv 0) rfl) (pa_cons (pe_fnX G_told_deed F_told_deed (hr.mono (by decide)) (pa_cons (pv 2) (pa_cons (pv 1) pa_nil))) pa_nil)))
   (pss_cons (ps_expr (pe_bm PySem.F.plainAttrs_list PySem.F.slot_list_append PySem.F.type_list_append mt_append (pe_fld (pv 0) rfl) (pa_cons (pe_fnX G_reclasped F_reclasped (hr.mono (by decide)) (pa_cons (pv 2) (pa_cons (pv 1) pa_nil))) pa_nil)))
   (pss_one (ps_ret (pv 3))))))),?_⟩
  obtain ⟨dx,hp⟩:=J.ob
  refine ⟨_,rfl,p,dx,_,rfl,hp,Mir.jF_no (by decide +kernel),p,a,b,c,w0,ds,us,rfl,J,fun u hu=>?_⟩
  refine ⟨_,rfl,_,rfl,u,t,n,Mir.behs w0 ds,d.1,d.2,rfl,SqT.of hu,W,ht,s1,s2,fun hf H1 s1=>?_,kb⟩
  have kg:=kg hf
  obtain ⟨x,y,e1,e2,hxy,hy,hne⟩:=hf.nat
  have ht1:=s1 _ _ ht
  have hu1:=s1 _ _ hu
  have J1:=J.same s1
  have ht1':H1 t = some (.tup [.int (x:Nat),.int (y:Nat)]):=by rw [ht1];show some (HO.tup [.int d.1,.int d.2]) = _;rw [e1,e2]
  have ez:Mir.zp (Mir.lstP (Mir.behs w0 ds) d) = Mir.pf (Mir.leastP (Mir.behs w0 ds) x y):=by unfold Mir.zp Mir.lstP Mir.pf;rw [e1,e2,Int.toNat_natCast,Int.toNat_natCast]
  obtain ⟨vb,hb⟩:=J1.t.d.lst
  refine ⟨_,rfl,p,C,dx,_,_,rfl,s1 _ _ hp,T.cl,T.nd,Mir.jF_d,.inl ⟨rfl,_,SqL.of hb⟩,?_⟩
  refine ⟨_,rfl,_,rfl,u,t,n,x,y,Mir.behs w0 ds,rfl,SqT.of hu1,W,ht1',hxy,hy,fun _ l H2 hl2 s12 hl'=>?_,fun z=>absurd z hne⟩
  have s02:=s1.trans s12
  have J2:=J1.same s12
  obtain ⟨v2,g1,g2,g3⟩:=J2.t.d.snoc (x:=Mir.lstP (Mir.behs w0 ds) d) (t:=l) (by rw [ez];exact hl')
  refine ⟨b,_,_,rfl,rfl,g1,by rw [g2];exact small1000 (by omega),?_⟩
  have f3:Mir.Fr [b] H2 (L2.upd H2 b (.lst (v2 ++ [.ref l]))):=Mir.Fr.upd (List.mem_singleton.mpr rfl)
  have q3:Mir.Ls H2 [b]:=fun z hz=>by cases List.mem_singleton.mp hz;exact ⟨_,g1⟩
  generalize L2.upd H2 b (.lst (v2 ++ [.ref l])) = H3 at f3 g3
  have hp2:=s02 _ _ hp
  have hp3:H3 p = some (.ins C dx (Mir.jF a b c)):=f3 p _ hp2 fun z=>by cases List.mem_singleton.mp z;rw [g1] at hp2;cases hp2
  have ha3:Mir.TsT Mir.nV H3 a (Mir.worksOf w0 ds):=f3.tst q3 J2.t.w (fun z=>J.t.ab (List.mem_singleton.mp z))
  have hc3:Mir.TsT Mir.zp H3 c us:=f3.tst q3 J2.t.u (fun z=>J.t.bc (List.mem_singleton.mp z).symm)
  have hu3:=f3.tup q3 (s12 _ _ hu1)
  have ht3:=f3.tup q3 (s12 _ _ ht1)
  obtain ⟨va,ha⟩:=ha3.lst
  refine ⟨_,rfl,p,C,dx,_,_,rfl,hp3,T.cl,T.nw,Mir.jF_w,.inl ⟨rfl,_,SqL.of ha⟩,?_⟩
  refine ⟨_,rfl,_,rfl,u,t,n,Mir.behs w0 ds,d.1,d.2,rfl,SqT.of hu3,W,ht3,‹Mir.Sm d.1›,s2,fun _ r H4 hr4 s34 hr'=>?_,fun z=>absurd hf z⟩
  obtain ⟨v4,i1,i2,i3⟩:=(ha3.same s34).snoc hr'
  refine ⟨a,_,_,rfl,rfl,i1,by rw [i2,Mir.worksOf_len];exact small1000 (by omega),?_⟩
  have f5:Mir.Fr [a] H4 (L2.upd H4 a (.lst (v4 ++ [.ref r]))):=Mir.Fr.upd (List.mem_singleton.mpr rfl)
  have q5:Mir.Ls H4 [a]:=fun z hz=>by cases List.mem_singleton.mp hz;exact ⟨_,i1⟩
  generalize L2.upd H4 a (.lst (v4 ++ [.ref r])) = H5 at f5 i3
  have hp4:=s34 _ _ hp3
  refine ⟨_,rfl,kg H5 ⟨⟨dx,f5 p _ hp4 fun z=>by cases List.mem_singleton.mp z;rw [i1] at hp4;cases hp4⟩,?_,f5.tst q5 (g3.same s34) (fun z=>J.t.ab (List.mem_singleton.mp z).symm),f5.tst q5 (hc3.same s34) (fun z=>J.t.ac (List.mem_singleton.mp z).symm),J.t.ab,J.t.ac,J.t.bc⟩ ?_⟩
  ·rw [Mir.worksOf_snoc,(Mir.lstP_fits W hf).2]
   exact i3
  ·exact ((Mir.Fr.same s02).trans (f3.mono (M:=[a,b,c]) fun z hz=>by cases List.mem_singleton.mp hz;simp)).trans ((Mir.Fr.same s34).trans (f5.mono fun z hz=>by cases List.mem_singleton.mp hz;simp))
end
section
seal L2.PSs L2.PS L2.PE L2.PT L2.PA
variable {P:Program} {w:World} {K:PySem.W.Frag} {mg:Str→Option Value} {base:Heap}
theorem ok_Journal_do {f C CB f1:Addr} {fd fd1:FuncData} (T:Mir.JC K mg C) (M:MFn K C "do" "Journal.do" s_Journal_do ["self","deed"] f fd) (M_go_on:MFn K C "go_on" "Journal.go_on" s_Journal_go_on ["self","deed"] f1 fd1) (G_go_on:FnOk P w K mg base (CXo P w) 6 f1 fd1 ["self","deed"] (Mir.spGo C CB)) :
  FnOk P w K mg base (CXo P w) 7 f fd ["self","deed"] (Mir.spDo C CB):=by
 refine M.fn.okX2 sc_Journal_do (fun vs H Q E h=>?_) (fun cdv A outer s H vs Q E hr h own=>?_)
 ·obtain ⟨p,a,b,c,t,n,m,w0,ds,us,d,rfl,_⟩:=h
  rfl
 ·obtain ⟨p,a,b,c,t,n,m,w0,ds,us,d,rfl,J,ht,s1,s2,W,hl,kg,kb⟩:=h
  refine ⟨_,(pss_cons (ps_set (i:=2) sc_Journal_do.nd rfl (Or.inl rfl) (pe_mX (pv 0) T.cl M_go_on G_go_on (hr.mono (by decide)) (pa_cons (pv 1) pa_nil)))
   (pss_cons (ps_expr (pe_bm0 PySem.F.plainAttrs_list PySem.F.slot_list_clear PySem.F.type_list_clear mt_clear (pe_fld (pv 0) rfl)))
   (pss_one (ps_ret (pv 2))))),?_⟩
  obtain ⟨dx,hp⟩:=J.ob
  refine ⟨_,rfl,p,dx,_,rfl,hp,Mir.jF_no (by decide +kernel),_,rfl,p,a,b,c,t,n,m,w0,ds,us,d,rfl,J,ht,s1,s2,W,hl,fun hf H1 J1 f1=>?_,kb⟩
  obtain ⟨dy,hp1⟩:=J1.ob
  obtain ⟨vc,hc⟩:=J1.t.u.lst
  refine ⟨_,rfl,p,C,dy,_,_,rfl,hp1,T.cl,T.nu,Mir.jF_u,.inl ⟨rfl,_,SqL.of hc⟩,?_⟩
  refine ⟨c,_,rfl,rfl,hc,?_⟩
  have f3:Mir.Fr [c] H1 (L2.upd H1 c (.lst [])):=Mir.Fr.upd (List.mem_singleton.mpr rfl)
  have q3:Mir.Ls H1 [c]:=fun z hz=>by cases List.mem_singleton.mp hz;exact ⟨_,hc⟩
  have g3:Mir.TsT Mir.zp (L2.upd H1 c (.lst [])) c []:=Mir.TsT.nil upd_same
  generalize L2.upd H1 c (.lst []) = H3 at f3 g3
  refine ⟨_,rfl,kg hf H3 ⟨⟨dy,f3 p _ hp1 fun z=>by cases List.mem_singleton.mp z;rw [hc] at hp1;cases hp1⟩,f3.tst q3 J1.t.w (fun z=>J.t.ac (List.mem_singleton.mp z)),f3.tst q3 J1.t.d (fun z=>J.t.bc (List.mem_singleton.mp z)),g3,J.t.ab,J.t.ac,J.t.bc⟩ (f1.trans (f3.mono fun z hz=>by cases List.mem_singleton.mp hz;simp))⟩
theorem ok_Journal_back {f C CN:Addr} {fd:FuncData} (B:Bl mg) (T:Mir.JC K mg C) (Z_NoSuch:ECls K mg "NoSuch" CN) (M:MFn K C "back" "Journal.back" s_Journal_back ["self"] f fd):FnOk P w K mg base (CXo P w) 1 f fd ["self"] (Mir.spBackJ C CN):=by
 refine M.fn.okX2 sc_Journal_back (fun vs H Q E h=>?_) (fun cdv A outer s H vs Q E hr h own=>?_)
 ·obtain ⟨p,a,b,c,n,m,w0,ds,us,rfl,_⟩:=h
  rfl
 ·obtain ⟨p,a,b,c,n,m,w0,ds,us,rfl,J,JK,kg,kb⟩:=h
  have lm:=JK.len
  have lb:=JK.big
  refine ⟨_,(pss_cons (ps_if (pt_cmpR op_eq (pe_callB call_len_seq rfl B.len bb_len (pa_cons (pe_fld (pv 0) rfl) pa_nil)) pe_int (nomark _)) (pss_one (ps_raise rfl Z_NoSuch (pa_cons pe_str pa_nil))) pss_nil)
   (pss_cons (ps_expr (pe_bm0 PySem.F.plainAttrs_list PySem.F.slot_list_pop PySem.F.type_list_pop mt_pop (pe_fld (pv 0) rfl)))
   (pss_cons (ps_expr (pe_bm PySem.F.plainAttrs_list PySem.F.slot_list_append PySem.F.type_list_append mt_append (pe_fld (pv 0) rfl) (pa_cons (pe_bm0 PySem.F.plainAttrs_list PySem.F.slot_list_pop PySem.F.type_list_pop mt_pop (pe_fld (pv 0) rfl)) pa_nil)))
   (pss_one (ps_ret (pe_ix ix_list (pe_fld (pv 0) rfl) (pe_un un_neg pe_int) (fun _ _=>rfl))))))),?_⟩
  obtain ⟨dx,hp⟩:=J.ob
  obtain ⟨vb,hb,lb'⟩:=J.t.d.len
  refine ⟨_,rfl,p,C,dx,_,_,rfl,hp,T.cl,T.nd,Mir.jF_d,b,_,rfl,.inl (SqL.of hb),rfl,_,rfl,?_⟩
  cases g:ds.getLast? with
  | none =>
   refine iteY (dInt (by rw [lb',List.getLast?_eq_none_iff.mp g];rfl)) ?_
   exact ⟨by show 1≤sizeLine;decide,kb g⟩
  | some d =>
   have hne:ds.length≠0:=fun z=>by rw [List.length_eq_zero_iff.mp z] at g;cases g
   refine iteN (dIntN (by rw [lb'];omega)) ?_
   obtain ⟨va,ta,ha,ha2,ha3,ga⟩:=J.t.w.pop (x:=Mir.behs w0 ds) (by rw [List.getLast?_eq_getElem?];exact Mir.works_last)
   refine ⟨_,rfl,p,C,dx,_,_,rfl,hp,T.cl,T.nw,Mir.jF_w,.inl ⟨rfl,_,SqL.of ha⟩,?_⟩
   refine ⟨a,_,_,rfl,rfl,ha,ha2,?_⟩
   have f1:Mir.Fr [a] H (L2.upd H a (.lst va.dropLast)):=Mir.Fr.upd (List.mem_singleton.mpr rfl)
   have q1:Mir.Ls H [a]:=fun z hz=>by cases List.mem_singleton.mp hz;exact ⟨_,ha⟩
   generalize L2.upd H a (.lst va.dropLast) = H1 at f1 ga
   have hp1:H1 p = some (.ins C dx (Mir.jF a b c)):=f1 p _ hp fun z=>by cases List.mem_singleton.mp z;rw [ha] at hp;cases hp
   have hb1:=f1.tst q1 J.t.d (fun z=>J.t.ab (List.mem_singleton.mp z).symm)
   have hc1:=f1.tst q1 J.t.u (fun z=>J.t.ac (List.mem_singleton.mp z).symm)
   obtain ⟨vc,hc⟩:=hc1.lst
   obtain ⟨vd,td,hd,hd2,hd3,gb⟩:=hb1.pop g
   refine ⟨_,rfl,p,C,dx,_,_,rfl,hp1,T.cl,T.nu,Mir.jF_u,.inl ⟨rfl,_,SqL.of hc⟩,?_⟩
   refine ⟨_,rfl,p,C,dx,_,_,rfl,hp1,T.cl,T.nd,Mir.jF_d,.inl ⟨rfl,_,SqL.of hd⟩,?_⟩
   refine ⟨b,_,_,rfl,rfl,hd,hd2,?_⟩
   have f2:Mir.Fr [b] H1 (L2.upd H1 b (.lst vd.dropLast)):=Mir.Fr.upd (List.mem_singleton.mpr rfl)
   have q2:Mir.Ls H1 [b]:=fun z hz=>by cases List.mem_singleton.mp hz;exact ⟨_,hd⟩
   generalize L2.upd H1 b (.lst vd.dropLast) = H2 at f2 gb
   have hp2:H2 p = some (.ins C dx (Mir.jF a b c)):=f2 p _ hp1 fun z=>by cases List.mem_singleton.mp z;rw [hd] at hp1;cases hp1
   have ha2:=f2.tst q2 ga (fun z=>J.t.ab (List.mem_singleton.mp z))
   have hc2:=f2.tst q2 hc1 (fun z=>J.t.bc (List.mem_singleton.mp z).symm)
   have hd4:=f2.tup q2 hd3
   obtain ⟨ve,e1,e2,e3⟩:=hc2.snoc hd4
   refine ⟨c,_,_,rfl,rfl,e1,by rw [e2];exact small1000 (by omega),?_⟩
   have f3:Mir.Fr [c] H2 (L2.upd H2 c (.lst (ve ++ [.ref td]))):=Mir.Fr.upd (List.mem_singleton.mpr rfl)
   have q3:Mir.Ls H2 [c]:=fun z hz=>by cases List.mem_singleton.mp hz;exact ⟨_,e1⟩
   have hc3:L2.upd H2 c (.lst (ve ++ [.ref td])) c = some (.lst (ve ++ [.ref td])):=upd_same
   generalize L2.upd H2 c (.lst (ve ++ [.ref td])) = H3 at f3 e3 hc3
   have hp3:H3 p = some (.ins C dx (Mir.jF a b c)):=f3 p _ hp2 fun z=>by cases List.mem_singleton.mp z;rw [e1] at hp2;cases hp2
   refine ⟨_,rfl,p,C,dx,_,_,rfl,hp3,T.cl,T.nu,Mir.jF_u,_,rfl,c,_,_,_,rfl,rfl,SqL.of hc3,Mir.atI_end List.getLast?_concat,?_⟩
   refine kg d g td H3 (f3.tup q3 hd4) ⟨⟨dx,hp3⟩,?_,f3.tst q3 gb (fun z=>J.t.bc (List.mem_singleton.mp z)),e3,J.t.ab,J.t.ac,J.t.bc⟩ ?_
   ·rw [← Mir.works_dropLast g]
    exact f3.tst q3 ha2 (fun z=>J.t.ac (List.mem_singleton.mp z))
   ·exact ((f1.mono (M:=[a,b,c]) fun z hz=>by cases List.mem_singleton.mp hz;simp).trans (f2.mono fun z hz=>by cases List.mem_singleton.mp hz;simp)).trans (f3.mono fun z hz=>by cases List.mem_singleton.mp hz;simp)
theorem ok_Journal_again {f C CB CN f1:Addr} {fd fd1:FuncData} (B:Bl mg) (T:Mir.JC K mg C) (Z_NoSuch:ECls K mg "NoSuch" CN) (M:MFn K C "again" "Journal.again" s_Journal_again ["self"] f fd) (M_go_on:MFn K C "go_on" "Journal.go_on" s_Journal_go_on ["self","deed"] f1 fd1) (G_go_on:FnOk P w K mg base (CXo P w) 6 f1 fd1 ["self","deed"] (Mir.spGo C CB)) :
  FnOk P w K mg base (CXo P w) 7 f fd ["self"] (Mir.spAgainJ C CN):=by
 refine M.fn.okX2 sc_Journal_again (fun vs H Q E h=>?_) (fun cdv A outer s H vs Q E hr h own=>?_)
 ·obtain ⟨p,a,b,c,n,m,w0,ds,us,rfl,_⟩:=h
  rfl
 ·obtain ⟨p,a,b,c,n,m,w0,ds,us,rfl,J,JK,kg,kb⟩:=h
  have lm:=JK.len
  have lb:=JK.big
  refine ⟨_,(pss_cons (ps_if (pt_cmpR op_eq (pe_callB call_len_seq rfl B.len bb_len (pa_cons (pe_fld (pv 0) rfl) pa_nil)) pe_int (nomark _)) (pss_one (ps_raise rfl Z_NoSuch (pa_cons pe_str pa_nil))) pss_nil)
   (pss_one (ps_ret (pe_mX (pv 0) T.cl M_go_on G_go_on (hr.mono (by decide)) (pa_cons (pe_bm0 PySem.F.plainAttrs_list PySem.F.slot_list_pop PySem.F.type_list_pop mt_pop (pe_fld (pv 0) rfl)) pa_nil))))),?_⟩
  obtain ⟨dx,hp⟩:=J.ob
  obtain ⟨vc,hc,lc'⟩:=J.t.u.len
  refine ⟨_,rfl,p,C,dx,_,_,rfl,hp,T.cl,T.nu,Mir.jF_u,c,_,rfl,.inl (SqL.of hc),rfl,_,rfl,?_⟩
  cases g:us.getLast? with
  | none =>
   refine iteY (dInt (by rw [lc',List.getLast?_eq_none_iff.mp g];rfl)) ?_
   exact ⟨by show 1≤sizeLine;decide,kb g⟩
  | some d =>
   have hne:us.length≠0:=fun z=>by rw [List.length_eq_zero_iff.mp z] at g;cases g
   refine iteN (dIntN (by rw [lc'];omega)) ?_
   obtain ⟨vd,td,hd,hd2,hd3,gb⟩:=J.t.u.pop g
   refine ⟨_,rfl,p,dx,_,rfl,hp,Mir.jF_no (by decide +kernel),?_⟩
   refine ⟨_,rfl,p,C,dx,_,_,rfl,hp,T.cl,T.nu,Mir.jF_u,.inl ⟨rfl,_,SqL.of hd⟩,?_⟩
   refine ⟨c,_,_,rfl,rfl,hd,hd2,?_⟩
   have f2:Mir.Fr [c] H (L2.upd H c (.lst vd.dropLast)):=Mir.Fr.upd (List.mem_singleton.mpr rfl)
   have q2:Mir.Ls H [c]:=fun z hz=>by cases List.mem_singleton.mp hz;exact ⟨_,hd⟩
   generalize L2.upd H c (.lst vd.dropLast) = H2 at f2 gb
   have hp2:H2 p = some (.ins C dx (Mir.jF a b c)):=f2 p _ hp fun z=>by cases List.mem_singleton.mp z;rw [hd] at hp;cases hp
   have fl:=JK.fit_last g
   obtain ⟨x,y,e1,e2,hxy,hy,hne⟩:=fl.nat
   have hsm:=JK.W.small
   refine ⟨p,a,b,c,td,n,m,w0,ds,us.dropLast,d,rfl,⟨⟨dx,hp2⟩,f2.tst q2 J.t.w (fun z=>J.t.ac (List.mem_singleton.mp z)),f2.tst q2 J.t.d (fun z=>J.t.bc (List.mem_singleton.mp z)),gb,J.t.ab,J.t.ac,J.t.bc⟩,f2.tup q2 hd3,by rw [e1];exact Mir.Sm.of (by omega) (by omega),by rw [e2];exact Mir.Sm.of (by omega) (by omega),JK.now,by omega,fun _ H3 J3 f3=>kg d g H3 J3 ((f2.mono fun z hz=>by cases List.mem_singleton.mp hz;simp).trans f3),fun z=>absurd fl z⟩
end
section
seal L2.PSs L2.PS L2.PE L2.PT L2.PA
variable {P:Program} {w:World} {K:PySem.W.Frag} {mg:Str→Option Value} {base:Heap}
theorem ok_law_thing {f:Addr} {fd:FuncData} (B:Bl mg) (F:Fn K mg "_law_thing" s_law_thing ["cell","work"] f fd):FnOk P w K mg base CX0 1 f fd ["cell","work"] (Mir.spThingJ K):=by
 refine F.fn.ok sc_law_thing (fun vs H Q E h=>?_) (fun cdv A outer s H vs Q E hr h=>?_)
 ·obtain ⟨t,n,c,ms,rfl,_⟩:=h
  rfl
 ·obtain ⟨t,n,c,ms,rfl,hS,W,k⟩:=h
  have hsm:=W.small
  refine ⟨_,(pss_cons (ps_set (i:=2) sc_law_thing.nd rfl (Or.inl rfl) (pe_op op_mod (pv 0) pe_int))
   (pss_cons (ps_if (pt_cmpR op_gt (pv 2) pe_int (nomark _)) (pss_one (ps_ret (pe_tup (pa_cons pe_str (pa_cons pe_non pa_nil))))) pss_nil)
   (pss_cons (ps_if (pt_cmpR op_eq (pv 2) pe_int (nomark _)) (pss_one (ps_ret (pe_tup (pa_cons pe_str (pa_cons pe_non pa_nil))))) pss_nil)
   (pss_cons (ps_set (i:=3) sc_law_thing.nd rfl (Or.inl rfl) (pe_op op_add (pe_callB call_len_seq rfl B.len bb_len (pa_cons (pv 1) pa_nil)) pe_int))
   (pss_cons (ps_set (i:=4) sc_law_thing.nd rfl (Or.inl rfl) (pe_op op_mod (pe_op op_fdiv (pv 0) pe_int) (pv 3)))
   (pss_cons (ps_set (i:=5) sc_law_thing.nd rfl (Or.inl rfl) (pe_op op_mod (pe_op op_add (pe_op op_fdiv (pv 0) pe_int) (pv 0)) (pv 3)))
   (pss_one (ps_ret (pe_tup (pa_cons pe_str (pa_cons (pe_tup (pa_cons (pe_callB (call_min2 rfl) rfl B.min bb_min (pa_cons (pv 4) (pa_cons (pv 5) pa_nil))) (pa_cons (pe_callB (call_max2 rfl) rfl B.max bb_max (pa_cons (pv 4) (pa_cons (pv 5) pa_nil))) pa_nil))) pa_nil))))))))))),?_⟩
  refine ⟨_,rfl,_,_,rfl,rfl,(by show (0:Int) < 8;decide),?_⟩
  refine ⟨_,rfl,_,_,rfl,rfl,_,rfl,ite2 (fun _=>?_) (fun _=>?_)⟩
  ·exact ⟨by show 2≤sizeLine;decide,fun r hr=>k r .b _ (same_upd hr) upd_same⟩
  refine ⟨_,rfl,rfl,_,rfl,ite2 (fun _=>?_) (fun _=>?_)⟩
  ·exact ⟨by show 2≤sizeLine;decide,fun r hr=>k r .a _ (same_upd hr) upd_same⟩
  have hl:(((Mir.nV ms).length:Nat):Int) = 2 * n:=by rw [Mir.nV_len,W.len];omega
  refine ⟨_,rfl,t,_,rfl,.inr hS,_,_,rfl,rfl,?_⟩
  dsimp only
  rw [hl]
  have sp:0 < 2 * (n:Int) + 1:=by omega
  refine ⟨_,rfl,_,_,rfl,rfl,⟨by decide,by decide⟩,_,rfl,_,_,rfl,rfl,sp,?_⟩
  refine ⟨_,rfl,_,_,rfl,rfl,⟨by decide,by decide⟩,_,rfl,_,_,rfl,rfl,_,rfl,_,_,rfl,rfl,sp,?_⟩
  have sm:∀ v:Int,Mir.Sm (v % (2 * (n:Int) + 1)):=fun v=>by
   have z0:=Int.emod_nonneg v (show 2 * (n:Int) + 1≠0 by omega)
   have z1:=Int.emod_lt_of_pos v sp
   exact Mir.Sm.of (by omega) (by omega)
  refine ⟨_,rfl,_,rfl,_,_,rfl,_,rfl,_,rfl,_,_,rfl,by show 2≤sizeLine;decide,fun u hu=>?_⟩
  refine ⟨by show 2≤sizeLine;decide,fun r hr=>?_⟩
  have nur:u≠r:=fun z=>by rw [← z,upd_same] at hr;cases hr
  exact k r (.d (if (c / 97 + c) % (2 * (n:Int) + 1) < c / 8 % (2 * (n:Int) + 1) then (c / 97 + c) % (2 * (n:Int) + 1) else c / 8 % (2 * (n:Int) + 1)) (if (c / 97 + c) % (2 * (n:Int) + 1) > c / 8 % (2 * (n:Int) + 1) then (c / 97 + c) % (2 * (n:Int) + 1) else c / 8 % (2 * (n:Int) + 1))) _ ((same_upd hu).trans (same_upd hr)) ⟨u,upd_same,by rw [upd_ne nur,upd_same];rfl,by split <;> exact sm _,by split <;> exact sm _⟩
end
section
seal L2.PSs L2.PS L2.PE L2.PT L2.PA
variable {P:Program} {w:World} {K:PySem.W.Frag} {mg:Str→Option Value} {base:Heap}
theorem ok_law_due {f f1 f2 CB:Addr} {fd fd1 fd2:FuncData} (B:Bl mg) (F:Fn K mg "_law_due" s_law_due ["state","thing"] f fd) (F_law_fits:Fn K mg "_law_fits" s_law_fits ["work","one","two"] f1 fd1) (G_law_fits:FnOk P w K mg base CX0 1 f1 fd1 ["work","one","two"] (Mir.spLawFits K))
  (F_deed_kind:Fn K mg "deed_kind" s_deed_kind ["work","deed"] f2 fd2) (G_deed_kind:FnOk P w K mg base (CXo P w) 5 f2 fd2 ["work","deed"] (Mir.spKind K CB)):FnOk P w K mg base CX0 6 f fd ["state","thing"] Mir.spDueJ:=by
 refine F.fn.ok sc_law_due (fun vs H Q E h=>?_) (fun cdv A outer s H vs Q E hr h=>?_)
 ·obtain ⟨p,a,b,c,t,n,m,w0,ds,us,g,rfl,_⟩:=h
  rfl
 ·obtain ⟨p,a,b,c,t,n,m,w0,ds,us,g,rfl,S,JK,ht,k⟩:=h
  refine ⟨_,(pss_cons (ps_set (i:=2) sc_law_due.nd rfl (Or.inl rfl) (pe_ix ix_list (pe_ix ix_list (pv 0) pe_int (fun _ _=>rfl)) (pe_un un_neg pe_int) (fun _ _=>rfl)))
   (pss_cons (ps_if (pt_cmpR op_eq (pe_ix ix_tup (pv 1) pe_int (fun _ _=>rfl)) pe_str (nomark _)) (pss_cons (ps_if (pt_not (pt_val (pe_fn G_law_fits F_law_fits (hr.mono (by decide)) (pa_cons (pv 2) (pa_cons (pe_ix ix_tup (pe_ix ix_tup (pv 1) pe_int (fun _ _=>rfl)) pe_int (fun _ _=>rfl)) (pa_cons (pe_ix ix_tup (pe_ix ix_tup (pv 1) pe_int (fun _ _=>rfl)) pe_int (fun _ _=>rfl)) pa_nil)))))) (pss_one (ps_ret (pe_tup (pa_cons pe_str (pa_cons pe_non pa_nil))))) pss_nil)
   (pss_one (ps_ret (pe_tup (pa_cons pe_str (pa_cons (pe_fnF G_deed_kind F_deed_kind (hr.mono (by decide)) (pa_cons (pv 2) (pa_cons (pe_ix ix_tup (pv 1) pe_int (fun _ _=>rfl)) pa_nil))) pa_nil)))))) pss_nil)
   (pss_cons (ps_if (pt_cmpR op_eq (pe_ix ix_tup (pv 1) pe_int (fun _ _=>rfl)) pe_str (nomark _)) (pss_cons (ps_if (pt_cmpR op_eq (pe_callB call_len_seq rfl B.len bb_len (pa_cons (pe_ix ix_list (pv 0) pe_int (fun _ _=>rfl)) pa_nil)) pe_int (nomark _)) (pss_one (ps_ret (pe_tup (pa_cons pe_str (pa_cons pe_non pa_nil))))) pss_nil)
   (pss_one (ps_ret (pe_tup (pa_cons pe_str (pa_cons (pe_ix ix_list (pe_ix ix_list (pv 0) pe_int (fun _ _=>rfl)) (pe_un un_neg pe_int) (fun _ _=>rfl)) pa_nil)))))) pss_nil)
   (pss_cons (ps_if (pt_cmpR op_eq (pe_callB call_len_seq rfl B.len bb_len (pa_cons (pe_ix ix_list (pv 0) pe_int (fun _ _=>rfl)) pa_nil)) pe_int (nomark _)) (pss_one (ps_ret (pe_tup (pa_cons pe_str (pa_cons pe_non pa_nil))))) pss_nil)
   (pss_one (ps_ret (pe_tup (pa_cons pe_str (pa_cons (pe_fnF G_deed_kind F_deed_kind (hr.mono (by decide)) (pa_cons (pv 2) (pa_cons (pe_ix ix_list (pe_ix ix_list (pv 0) pe_int (fun _ _=>rfl)) (pe_un un_neg pe_int) (fun _ _=>rfl)) pa_nil))) pa_nil))))))))),?_⟩
  have W:=JK.now
  obtain ⟨vs,u,h1,h2,h3⟩:=S.t.w.get Mir.works_last
  obtain ⟨vs',h4,h5⟩:=S.t.w.len
  rw [h1] at h4
  obtain rfl:vs = vs':=by injection h4 with h4;injection h4
  refine ⟨_,rfl,p,_,_,_,rfl,rfl,SqL.of S.ob,rfl,_,rfl,a,_,_,_,rfl,rfl,SqL.of h1,Mir.atI_end (by rw [List.getLast?_eq_getElem?,h5];exact h2),?_⟩
  cases g with
  | d x y =>
   obtain ⟨v,g1,g2,sx,sy⟩:=ht
   refine ⟨_,rfl,t,_,_,_,rfl,rfl,SqT.of g1,rfl,rfl,_,rfl,iteT ?_⟩
   refine ⟨_,rfl,_,rfl,t,_,_,_,rfl,rfl,SqT.of g1,rfl,v,_,_,_,rfl,rfl,SqT.of g2,rfl,_,rfl,t,_,_,_,rfl,rfl,SqT.of g1,rfl,v,_,_,_,rfl,rfl,SqT.of g2,rfl,u,n,_,x,y,rfl,SqT.of h3,W,_,rfl,?_⟩
   by_cases c1:Mir.Fits n (Mir.behs w0 ds) x y
   ·rw [decide_eq_true c1]
    refine iteF ?_
    refine ⟨_,rfl,_,rfl,t,_,_,_,rfl,rfl,SqT.of g1,rfl,u,v,n,_,x,y,rfl,SqT.of h3,W,g2,sx,sy,fun _ H1 s1=>?_,fun z=>absurd c1 z⟩
    refine ⟨by show 2≤sizeLine;decide,fun r hr=>k r _ ?_ (s1.trans (same_upd hr))⟩
    rw [Mir.step_dY c1]
    exact ⟨_,upd_same,rfl⟩
   ·rw [decide_eq_false c1]
    refine iteT ⟨by show 2≤sizeLine;decide,fun r hr=>k r _ ?_ (same_upd hr)⟩
    rw [Mir.step_dN c1]
    exact upd_same
  | b =>
   have g1:H t = some (.tup [.str "back",.non]):=ht
   refine ⟨_,rfl,t,_,_,_,rfl,rfl,SqT.of g1,rfl,rfl,_,rfl,iteF ?_⟩
   refine ⟨_,rfl,t,_,_,_,rfl,rfl,SqT.of g1,rfl,rfl,_,rfl,iteT ?_⟩
   obtain ⟨vb,hb,lb⟩:=S.t.d.len
   refine ⟨_,rfl,p,_,_,_,rfl,rfl,SqL.of S.ob,rfl,b,_,rfl,.inl (SqL.of hb),rfl,_,rfl,?_⟩
   cases e:ds.getLast? with
   | none =>
    refine iteY (dInt (by rw [lb,List.getLast?_eq_none_iff.mp e];rfl)) ⟨by show 2≤sizeLine;decide,fun r hr=>k r _ ?_ (same_upd hr)⟩
    rw [Mir.step_bN e]
    exact upd_same
   | some d =>
    have hne:ds.length≠0:=fun z=>by rw [List.length_eq_zero_iff.mp z] at e;cases e
    refine iteN (dIntN (by rw [lb];omega)) ?_
    obtain ⟨vd,td,hd,hd2,hd3,_⟩:=S.t.d.pop e
    refine ⟨_,rfl,p,_,_,_,rfl,rfl,SqL.of S.ob,rfl,_,rfl,b,_,_,_,rfl,rfl,SqL.of hd,Mir.atI_end (by rw [List.getLast?_eq_getElem?];exact hd2),?_⟩
    refine ⟨by show 2≤sizeLine;decide,fun r hr=>k r _ ?_ (same_upd hr)⟩
    rw [Mir.step_bY e]
    exact ⟨_,upd_same,td,rfl,same_upd hr _ _ hd3⟩
  | a =>
   have g1:H t = some (.tup [.str "again",.non]):=ht
   refine ⟨_,rfl,t,_,_,_,rfl,rfl,SqT.of g1,rfl,rfl,_,rfl,iteF ?_⟩
   refine ⟨_,rfl,t,_,_,_,rfl,rfl,SqT.of g1,rfl,rfl,_,rfl,iteF ?_⟩
   obtain ⟨vb,hb,lb⟩:=S.t.u.len
   refine ⟨_,rfl,p,_,_,_,rfl,rfl,SqL.of S.ob,rfl,c,_,rfl,.inl (SqL.of hb),rfl,_,rfl,?_⟩
   cases e:us.getLast? with
   | none =>
    refine iteY (dInt (by rw [lb,List.getLast?_eq_none_iff.mp e];rfl)) ⟨by show 2≤sizeLine;decide,fun r hr=>k r _ ?_ (same_upd hr)⟩
    rw [Mir.step_aN e]
    exact upd_same
   | some d =>
    have hne:us.length≠0:=fun z=>by rw [List.length_eq_zero_iff.mp z] at e;cases e
    refine iteN (dIntN (by rw [lb];omega)) ?_
    obtain ⟨vd,td,hd,hd2,hd3,_⟩:=S.t.u.pop e
    have fl:=JK.fit_last e
    obtain ⟨x,y,e1,e2,hxy,hy,hne'⟩:=fl.nat
    have hsm:=JK.W.small
    refine ⟨_,rfl,_,rfl,p,_,_,_,rfl,rfl,SqL.of S.ob,rfl,_,rfl,c,_,_,_,rfl,rfl,SqL.of hd,Mir.atI_end (by rw [List.getLast?_eq_getElem?];exact hd2),?_⟩
    refine ⟨u,td,n,_,d.1,d.2,rfl,SqT.of h3,W,hd3,by rw [e1];exact Mir.Sm.of (by omega) (by omega),by rw [e2];exact Mir.Sm.of (by omega) (by omega),fun _ H1 s1=>?_,fun z=>absurd fl z⟩
    refine ⟨by show 2≤sizeLine;decide,fun r hr=>k r _ ?_ (s1.trans (same_upd hr))⟩
    rw [Mir.step_aY e]
    exact ⟨_,upd_same,rfl⟩
end
section
seal L2.PSs L2.PS L2.PE L2.PT L2.PA
variable {P:Program} {w:World} {K:PySem.W.Frag} {mg:Str→Option Value} {base:Heap}
theorem ok_law_moved {f f1 f2 CB:Addr} {fd fd1 fd2:FuncData} (B:Bl mg) (F:Fn K mg "_law_moved" s_law_moved ["state","thing"] f fd) (F_law_behind:Fn K mg "_law_behind" s_law_behind ["work","one","two"] f1 fd1) (G_law_behind:FnOk P w K mg base CX0 1 f1 fd1 ["work","one","two"] (Mir.spLawBeh K))
  (F_told_deed:Fn K mg "told_deed" s_told_deed ["work","deed"] f2 fd2) (G_told_deed:FnOk P w K mg base (CXo P w) 3 f2 fd2 ["work","deed"] (Mir.spToldD K CB)):FnOk P w K mg base CX0 4 f fd ["state","thing"] Mir.spMovedJ:=by
 refine F.fn.ok sc_law_moved (fun vs H Q E h=>?_) (fun cdv A outer s H vs Q E hr h=>?_)
 ·obtain ⟨p,a,b,c,t,n,m,w0,ds,us,ds',us',g,x,rfl,_⟩:=h
  rfl
 ·obtain ⟨p,a,b,c,t,n,m,w0,ds,us,ds',us',g,x,rfl,S,JK,ht,hs,k⟩:=h
  have lm:=JK.len
  have lb:=JK.big
  refine ⟨_,(pss_cons (ps_set (i:=2) sc_law_moved.nd rfl (Or.inl rfl) (pe_ix ix_list (pe_ix ix_list (pv 0) pe_int (fun _ _=>rfl)) (pe_un un_neg pe_int) (fun _ _=>rfl)))
   (pss_cons (ps_if (pt_cmpR op_eq (pe_ix ix_tup (pv 1) pe_int (fun _ _=>rfl)) pe_str (nomark _)) (pss_cons (ps_expr (pe_bm PySem.F.plainAttrs_list PySem.F.slot_list_append PySem.F.type_list_append mt_append (pe_ix ix_list (pv 0) pe_int (fun _ _=>rfl)) (pa_cons (pe_bm0 PySem.F.plainAttrs_list PySem.F.slot_list_pop PySem.F.type_list_pop mt_pop (pe_ix ix_list (pv 0) pe_int (fun _ _=>rfl))) pa_nil)))
   (pss_cons (ps_expr (pe_bm0 PySem.F.plainAttrs_list PySem.F.slot_list_pop PySem.F.type_list_pop mt_pop (pe_ix ix_list (pv 0) pe_int (fun _ _=>rfl))))
   (pss_one ps_retN))) pss_nil)
   (pss_cons (ps_set (i:=3) sc_law_moved.nd rfl (Or.inl rfl) (pe_ix ix_tup (pv 1) pe_int (fun _ _=>rfl)))
   (pss_cons (ps_if (pt_cmpR op_eq (pe_ix ix_tup (pv 1) pe_int (fun _ _=>rfl)) pe_str (nomark _)) (pss_one (ps_set (i:=3) sc_law_moved.nd rfl (Or.inl rfl) (pe_bm0 PySem.F.plainAttrs_list PySem.F.slot_list_pop PySem.F.type_list_pop mt_pop (pe_ix ix_list (pv 0) pe_int (fun _ _=>rfl))))) (pss_one (ps_expr (pe_bm0 PySem.F.plainAttrs_list PySem.F.slot_list_clear PySem.F.type_list_clear mt_clear (pe_ix ix_list (pv 0) pe_int (fun _ _=>rfl))))))
   (ps_sem (R:=fun D σ H2=>∃ (u v:Addr) (us2:List (Int×Int)) (d:Int×Int),σ = [some (.ref p),some (.ref t),some (.ref u),some (.ref v)]∧Mir.SAt H2 p a b c w0 ds us2∧H2 u = some (.tup (Mir.nV (Mir.behs w0 ds)))∧H2 v = some (.tup (Mir.zp d))∧Mir.Fits n (Mir.behs w0 ds) d.1 d.2∧Mir.Fr [a,b,c] H H2∧ds' = ds ++ [Mir.lstP (Mir.behs w0 ds) d]∧us' = us2∧(∀ σ' H',Q .non H'→D.nx σ' H')) fun D σ H2 hR=>?rest))))),?_⟩
  case rest =>
   obtain ⟨u,v,us2,d,rfl,S2,hu,hv,hf,f2,rfl,rfl,nx⟩:=hR
   refine ⟨_,(pss_cons (ps_expr (pe_bm PySem.F.plainAttrs_list PySem.F.slot_list_append PySem.F.type_list_append mt_append (pe_ix ix_list (pv 0) pe_int (fun _ _=>rfl)) (pa_cons (pe_fnF G_told_deed F_told_deed (hr.mono (by decide)) (pa_cons (pv 2) (pa_cons (pv 3) pa_nil))) pa_nil)))
   (pss_one (ps_expr (pe_bm PySem.F.plainAttrs_list PySem.F.slot_list_append PySem.F.type_list_append mt_append (pe_ix ix_list (pv 0) pe_int (fun _ _=>rfl)) (pa_cons (pe_fn G_law_behind F_law_behind (hr.mono (by decide)) (pa_cons (pv 2) (pa_cons (pe_ix ix_tup (pv 3) pe_int (fun _ _=>rfl)) (pa_cons (pe_ix ix_tup (pv 3) pe_int (fun _ _=>rfl)) pa_nil)))) pa_nil))))),?_⟩
   have W:=JK.now
   obtain ⟨x0,y0,e1,e2,hxy,hy,hne⟩:=hf.nat
   have hv':H2 v = some (.tup [.int (x0:Nat),.int (y0:Nat)]):=by rw [hv];show some (HO.tup [.int d.1,.int d.2]) = _;rw [e1,e2]
   have ez:Mir.zp (Mir.lstP (Mir.behs w0 ds) d) = Mir.pf (Mir.leastP (Mir.behs w0 ds) x0 y0):=by unfold Mir.zp Mir.lstP Mir.pf;rw [e1,e2,Int.toNat_natCast,Int.toNat_natCast]
   obtain ⟨vb,hb⟩:=S2.t.d.lst
   have ob2:=S2.ob
   refine ⟨_,rfl,p,_,_,_,rfl,rfl,SqL.of ob2,rfl,.inl ⟨rfl,_,SqL.of hb⟩,?_⟩
   refine ⟨_,rfl,_,rfl,u,v,n,x0,y0,_,rfl,SqT.of hu,W,hv',hxy,hy,fun _ l H3 hl3 s23 hl'=>?_,fun z=>absurd z hne⟩
   have S3:=S2.same s23
   obtain ⟨v2,g1,g2,g3⟩:=S3.t.d.snoc (x:=Mir.lstP (Mir.behs w0 ds) d) (t:=l) (by rw [ez];exact hl')
   refine ⟨b,_,_,rfl,rfl,g1,by rw [g2];exact small1000 (by omega),?_⟩
   have f4:Mir.Fr [b] H3 (L2.upd H3 b (.lst (v2 ++ [.ref l]))):=Mir.Fr.upd (List.mem_singleton.mpr rfl)
   have q4:Mir.Ls H3 [b]:=fun z hz=>by cases List.mem_singleton.mp hz;exact ⟨_,g1⟩
   generalize L2.upd H3 b (.lst (v2 ++ [.ref l])) = H4 at f4 g3
   have out:=S.out
   have ob4:H4 p = some (.lst [.ref a,.ref b,.ref c]):=f4 p _ S3.ob fun z=>out (by cases List.mem_singleton.mp z;simp)
   have ha4:Mir.TsT Mir.nV H4 a (Mir.worksOf w0 ds):=f4.tst q4 S3.t.w (fun z=>S.t.ab (List.mem_singleton.mp z))
   have hc4:Mir.TsT Mir.zp H4 c us':=f4.tst q4 S3.t.u (fun z=>S.t.bc (List.mem_singleton.mp z).symm)
   have hu4:=f4.tup q4 (s23 _ _ hu)
   have hv4:=f4.tup q4 (s23 _ _ hv')
   obtain ⟨va,ha⟩:=ha4.lst
   refine ⟨_,rfl,p,_,_,_,rfl,rfl,SqL.of ob4,rfl,.inl ⟨rfl,_,SqL.of ha⟩,?_⟩
   refine ⟨_,rfl,_,rfl,v,_,_,_,rfl,rfl,SqT.of hv4,rfl,_,rfl,v,_,_,_,rfl,rfl,SqT.of hv4,rfl,?_⟩
   refine ⟨u,n,_,x0,y0,rfl,SqT.of hu4,W,by omega,hy,hne,fun r H5 hr5 s45 hr'=>?_⟩
   obtain ⟨v4,i1,i2,i3⟩:=(ha4.same s45).snoc hr'
   refine ⟨a,_,_,rfl,rfl,i1,by rw [i2,Mir.worksOf_len];exact small1000 (by omega),?_⟩
   have f6:Mir.Fr [a] H5 (L2.upd H5 a (.lst (v4 ++ [.ref r]))):=Mir.Fr.upd (List.mem_singleton.mpr rfl)
   have q6:Mir.Ls H5 [a]:=fun z hz=>by cases List.mem_singleton.mp hz;exact ⟨_,i1⟩
   generalize L2.upd H5 a (.lst (v4 ++ [.ref r])) = H6 at f6 i3
   refine nx _ _ (k H6 ⟨f6 p _ (s45 _ _ ob4) fun z=>out (by cases List.mem_singleton.mp z;simp),⟨?_,f6.tst q6 (g3.same s45) (fun z=>S.t.ab (List.mem_singleton.mp z).symm),f6.tst q6 (hc4.same s45) (fun z=>S.t.ac (List.mem_singleton.mp z).symm),S.t.ab,S.t.ac,S.t.bc⟩,out⟩ ?_)
   ·rw [Mir.worksOf_snoc,(Mir.lstP_fits W hf).2,e1,e2,Int.toNat_natCast,Int.toNat_natCast]
    exact i3
   ·exact f2.trans (((Mir.Fr.same s23).trans (f4.mono (M:=[a,b,c]) fun z hz=>by cases List.mem_singleton.mp hz;simp)).trans ((Mir.Fr.same s45).trans (f6.mono fun z hz=>by cases List.mem_singleton.mp hz;simp)))
  have W:=JK.now
  have out:=S.out
  obtain ⟨vs,u,h1,h2,h3⟩:=S.t.w.get Mir.works_last
  obtain ⟨vs',h4,h5⟩:=S.t.w.len
  rw [h1] at h4
  obtain rfl:vs = vs':=by injection h4 with h4;injection h4
  refine ⟨_,rfl,p,_,_,_,rfl,rfl,SqL.of S.ob,rfl,_,rfl,a,_,_,_,rfl,rfl,SqL.of h1,Mir.atI_end (by rw [List.getLast?_eq_getElem?,h5];exact h2),?_⟩
  cases g with
  | d x y =>
   obtain ⟨v,g1,g2,sx,sy⟩:=ht
   refine ⟨_,rfl,t,_,_,_,rfl,rfl,SqT.of g1,rfl,rfl,_,rfl,iteF ?_⟩
   refine ⟨_,rfl,t,_,_,_,rfl,rfl,SqT.of g1,rfl,?_⟩
   refine ⟨_,rfl,t,_,_,_,rfl,rfl,SqT.of g1,rfl,rfl,_,rfl,iteF ?_⟩
   obtain ⟨vc,hc⟩:=S.t.u.lst
   refine ⟨_,rfl,p,_,_,_,rfl,rfl,SqL.of S.ob,rfl,.inl ⟨rfl,_,SqL.of hc⟩,?_⟩
   refine ⟨c,_,rfl,rfl,hc,?_⟩
   have f3:Mir.Fr [c] H (L2.upd H c (.lst [])):=Mir.Fr.upd (List.mem_singleton.mpr rfl)
   have q3:Mir.Ls H [c]:=fun z hz=>by cases List.mem_singleton.mp hz;exact ⟨_,hc⟩
   have g3:Mir.TsT Mir.zp (L2.upd H c (.lst [])) c []:=Mir.TsT.nil upd_same
   generalize L2.upd H c (.lst []) = H3 at f3 g3
   have c1:Mir.Fits n (Mir.behs w0 ds) x y:=Classical.byContradiction fun z=>by rw [Mir.step_dN z] at hs;cases hs
   rw [Mir.step_dY c1] at hs
   injection hs with hs
   injection hs with _ hs
   injection hs with e1 e2
   exact ⟨u,v,[],(x,y),rfl,⟨f3 p _ S.ob fun z=>out (by cases List.mem_singleton.mp z;simp),⟨f3.tst q3 S.t.w (fun z=>S.t.ac (List.mem_singleton.mp z)),f3.tst q3 S.t.d (fun z=>S.t.bc (List.mem_singleton.mp z)),g3,S.t.ab,S.t.ac,S.t.bc⟩,out⟩,f3.tup q3 h3,f3.tup q3 g2,c1,f3.mono fun z hz=>by cases List.mem_singleton.mp hz;simp,e1.symm,e2.symm,fun _ _ q=>q⟩
  | b =>
   have g1:H t = some (.tup [.str "back",.non]):=ht
   refine ⟨_,rfl,t,_,_,_,rfl,rfl,SqT.of g1,rfl,rfl,_,rfl,iteT ?_⟩
   cases e:ds.getLast? with
   | none=>rw [Mir.step_bN e] at hs;cases hs
   | some d =>
    rw [Mir.step_bY e] at hs
    injection hs with hs
    injection hs with _ hs
    injection hs with e1 e2
    subst e1 e2
    obtain ⟨vc,hc⟩:=S.t.u.lst
    obtain ⟨vd,td,hd,hd2,hd3,gb⟩:=S.t.d.pop e
    refine ⟨_,rfl,p,_,_,_,rfl,rfl,SqL.of S.ob,rfl,.inl ⟨rfl,_,SqL.of hc⟩,?_⟩
    refine ⟨_,rfl,p,_,_,_,rfl,rfl,SqL.of S.ob,rfl,.inl ⟨rfl,_,SqL.of hd⟩,?_⟩
    refine ⟨b,_,_,rfl,rfl,hd,hd2,?_⟩
    have f2:Mir.Fr [b] H (L2.upd H b (.lst vd.dropLast)):=Mir.Fr.upd (List.mem_singleton.mpr rfl)
    have q2:Mir.Ls H [b]:=fun z hz=>by cases List.mem_singleton.mp hz;exact ⟨_,hd⟩
    generalize L2.upd H b (.lst vd.dropLast) = H2 at f2 gb
    have ob2:H2 p = some (.lst [.ref a,.ref b,.ref c]):=f2 p _ S.ob fun z=>out (by cases List.mem_singleton.mp z;simp)
    have ha2:=f2.tst q2 S.t.w (fun z=>S.t.ab (List.mem_singleton.mp z))
    have hc2:=f2.tst q2 S.t.u (fun z=>S.t.bc (List.mem_singleton.mp z).symm)
    have hd4:=f2.tup q2 hd3
    obtain ⟨ve,e1,e2,e3⟩:=hc2.snoc hd4
    refine ⟨c,_,_,rfl,rfl,e1,by rw [e2];exact small1000 (by omega),?_⟩
    have f3:Mir.Fr [c] H2 (L2.upd H2 c (.lst (ve ++ [.ref td]))):=Mir.Fr.upd (List.mem_singleton.mpr rfl)
    have q3:Mir.Ls H2 [c]:=fun z hz=>by cases List.mem_singleton.mp hz;exact ⟨_,e1⟩
    generalize L2.upd H2 c (.lst (ve ++ [.ref td])) = H3 at f3 e3
    have ob3:H3 p = some (.lst [.ref a,.ref b,.ref c]):=f3 p _ ob2 fun z=>out (by cases List.mem_singleton.mp z;simp)
    have ha3:=f3.tst q3 ha2 (fun z=>S.t.ac (List.mem_singleton.mp z))
    obtain ⟨va,ta,ha,ha2,ha4,ga⟩:=ha3.pop (x:=Mir.behs w0 ds) (by rw [List.getLast?_eq_getElem?];exact Mir.works_last)
    refine ⟨_,rfl,p,_,_,_,rfl,rfl,SqL.of ob3,rfl,.inl ⟨rfl,_,SqL.of ha⟩,?_⟩
    refine ⟨a,_,_,rfl,rfl,ha,ha2,?_⟩
    have f1:Mir.Fr [a] H3 (L2.upd H3 a (.lst va.dropLast)):=Mir.Fr.upd (List.mem_singleton.mpr rfl)
    have q1:Mir.Ls H3 [a]:=fun z hz=>by cases List.mem_singleton.mp hz;exact ⟨_,ha⟩
    generalize L2.upd H3 a (.lst va.dropLast) = H4 at f1 ga
    refine k H4 ⟨f1 p _ ob3 fun z=>out (by cases List.mem_singleton.mp z;simp),⟨?_,f1.tst q1 (f3.tst q3 gb (fun z=>S.t.bc (List.mem_singleton.mp z))) (fun z=>S.t.ab (List.mem_singleton.mp z).symm),f1.tst q1 e3 (fun z=>S.t.ac (List.mem_singleton.mp z).symm),S.t.ab,S.t.ac,S.t.bc⟩,out⟩ ?_
    ·rw [← Mir.works_dropLast e]
     exact ga
    ·exact ((f2.mono (M:=[a,b,c]) fun z hz=>by cases List.mem_singleton.mp hz;simp).trans (f3.mono fun z hz=>by cases List.mem_singleton.mp hz;simp)).trans (f1.mono fun z hz=>by cases List.mem_singleton.mp hz;simp)
  | a =>
   have g1:H t = some (.tup [.str "again",.non]):=ht
   refine ⟨_,rfl,t,_,_,_,rfl,rfl,SqT.of g1,rfl,rfl,_,rfl,iteF ?_⟩
   refine ⟨_,rfl,t,_,_,_,rfl,rfl,SqT.of g1,rfl,?_⟩
   refine ⟨_,rfl,t,_,_,_,rfl,rfl,SqT.of g1,rfl,rfl,_,rfl,iteT ?_⟩
   cases e:us.getLast? with
   | none=>rw [Mir.step_aN e] at hs;cases hs
   | some d =>
    rw [Mir.step_aY e] at hs
    injection hs with hs
    injection hs with _ hs
    injection hs with e1 e2
    obtain ⟨vd,td,hd,hd2,hd3,gb⟩:=S.t.u.pop e
    refine ⟨_,rfl,p,_,_,_,rfl,rfl,SqL.of S.ob,rfl,.inl ⟨rfl,_,SqL.of hd⟩,?_⟩
    refine ⟨c,_,_,rfl,rfl,hd,hd2,?_⟩
    have f3:Mir.Fr [c] H (L2.upd H c (.lst vd.dropLast)):=Mir.Fr.upd (List.mem_singleton.mpr rfl)
    have q3:Mir.Ls H [c]:=fun z hz=>by cases List.mem_singleton.mp hz;exact ⟨_,hd⟩
    generalize L2.upd H c (.lst vd.dropLast) = H3 at f3 gb
    exact ⟨u,td,us.dropLast,d,rfl,⟨f3 p _ S.ob fun z=>out (by cases List.mem_singleton.mp z;simp),⟨f3.tst q3 S.t.w (fun z=>S.t.ac (List.mem_singleton.mp z)),f3.tst q3 S.t.d (fun z=>S.t.bc (List.mem_singleton.mp z)),gb,S.t.ab,S.t.ac,S.t.bc⟩,out⟩,f3.tup q3 h3,f3.tup q3 hd3,JK.fit_last e,f3.mono fun z hz=>by cases List.mem_singleton.mp hz;simp,e1.symm,e2.symm,fun _ _ q=>q⟩
end
section
seal L2.PSs L2.PS L2.PE L2.PT L2.PA
variable {P:Program} {w:World} {K:PySem.W.Frag} {mg:Str→Option Value} {base:Heap}
theorem ok_law_done {f C CB CN m1 m2 m3:Addr} {fd n1 n2 n3:FuncData} (B:Bl mg) (T:Mir.JC K mg C) (MB:mg "BadDeed" = some (.ref CB)) (MN:mg "NoSuch" = some (.ref CN)) (x1:PySem.W.exmOne K (.ref CB) (.ref CB) = some true) (x2:PySem.W.exmOne K (.ref CN) (.ref CB) = some false) (x3:PySem.W.exmOne K (.ref CN) (.ref CN) = some true)
  (F:Fn K mg "_law_done" s_law_done ["book","thing"] f fd) (M_do:MFn K C "do" "Journal.do" s_Journal_do ["self","deed"] m1 n1) (G_do:FnOk P w K mg base (CXo P w) 7 m1 n1 ["self","deed"] (Mir.spDo C CB)) (M_back:MFn K C "back" "Journal.back" s_Journal_back ["self"] m2 n2) (G_back:FnOk P w K mg base (CXo P w) 1 m2 n2 ["self"] (Mir.spBackJ C CN))
  (M_again:MFn K C "again" "Journal.again" s_Journal_again ["self"] m3 n3) (G_again:FnOk P w K mg base (CXo P w) 7 m3 n3 ["self"] (Mir.spAgainJ C CN)):FnOk P w K mg base CX0 8 f fd ["book","thing"] (Mir.spDoneJ C):=by
 refine F.fn.okO sc_law_done (fun vs H Q E h=>?_) (fun cdv A outer s H vs Q E hr h own=>?_)
 ·obtain ⟨p,a,b,c,t,n,m,w0,ds,us,g,rfl,_⟩:=h
  rfl
 ·obtain ⟨p,a,b,c,t,n,m,w0,ds,us,g,rfl,J,JK,ht,k⟩:=h
  have lm:=JK.len
  have lb:=JK.big
  have W:=JK.now
  obtain ⟨dx,hp⟩:=J.ob
  refine ⟨_,pss_cons (ps_set (i:=2) sc_law_done.nd rfl (Or.inl rfl) pe_str) (pss_cons (ps_set (i:=3) sc_law_done.nd rfl (Or.inl rfl) pe_non)
   (pss_cons (ps_one (R:=fun D σ H2=>H2 = H∧σ = [some (.ref p),some (.ref t),some (.str ""),some .non]∧∀ (z:Str) (v:V) (H':Hp),(∀ r,H' r = none→Mir.ResT (upd H' r (.tup [.str z,v])) r g (Mir.step n w0 ds us g))→Mir.JAt C H' p a b c w0 (Mir.Aft ds us (Mir.step n w0 ds us g)).1 (Mir.Aft ds us (Mir.step n w0 ds us g)).2→Mir.Fr [a,b,c] H H'→D.nx [some (.ref p),some (.ref t),some (.str z),some v] H') fun D σ H2 hR=>?tr)
   (pss_one (ps_ret (pe_tup (pa_cons (pv 2) (pa_cons (pv 3) pa_nil))))))),?_⟩
  case tr =>
   obtain ⟨rfl,rfl,nx⟩:=hR
   cases e:Mir.step n w0 ds us g with
   | none =>
    rw [e] at nx
    refine ⟨_,ps_try2 own MB MN (psx_if (pt_cmpR op_eq (pe_ix ix_tup (pv 1) pe_int (fun _ _=>rfl)) pe_str (nomark _)) (psx_setF (pex_m (pv 0) T.cl M_do G_do hr (pa_cons (pe_ix ix_tup (pv 1) pe_int (fun _ _=>rfl)) pa_nil)))
     (psx_if (pt_cmpR op_eq (pe_ix ix_tup (pv 1) pe_int (fun _ _=>rfl)) pe_str (nomark _)) (psx_setF (pex_m0 (pv 0) T.cl M_back G_back (hr.mono (by decide)))) (psx_setF (pex_m0 (pv 0) T.cl M_again G_again hr))))
     (fun e oe=>pss_one (ps_set (i:=2) sc_law_done.nd rfl (Or.inl rfl) pe_str)) (fun e oe=>pss_one (ps_set (i:=2) sc_law_done.nd rfl (Or.inl rfl) pe_str)),?_⟩
    cases g with
    | d x y =>
     obtain ⟨v,g1,g2,sx,sy⟩:=ht
     have c1:¬ Mir.Fits n (Mir.behs w0 ds) x y:=fun z=>by rw [Mir.step_dY z] at e;cases e
     refine ⟨fun cls _ H'=>cls = .ref CB∧H' = H2,?_,fun cls H' hE=>?_⟩
     ·refine ⟨_,rfl,t,_,_,_,rfl,rfl,SqT.of g1,rfl,rfl,_,rfl,iteT ?_⟩
      exact ⟨_,rfl,p,dx,_,rfl,hp,Mir.jF_no (by decide +kernel),_,rfl,t,_,_,_,rfl,rfl,SqT.of g1,rfl,p,a,b,c,v,n,m,w0,ds,us,(x,y),rfl,J,g2,sx,sy,W,by omega,fun hf=>absurd hf c1,fun _=>⟨rfl,rfl⟩⟩
     ·obtain ⟨rfl,rfl⟩:=hE
      exact .inl ⟨x1,nx "deed" .non _ (fun r hr=>upd_same) J fun _ _ z _=>z⟩
    | b =>
     have g1:H2 t = some (.tup [.str "back",.non]):=ht
     have c1:ds.getLast? = none:=by
      cases q:ds.getLast? with
      | none=>rfl
      | some d=>rw [Mir.step_bY q] at e;cases e
     refine ⟨fun cls _ H'=>cls = .ref CN∧H' = H2,?_,fun cls H' hE=>?_⟩
     ·refine ⟨_,rfl,t,_,_,_,rfl,rfl,SqT.of g1,rfl,rfl,_,rfl,iteF ?_⟩
      refine ⟨_,rfl,t,_,_,_,rfl,rfl,SqT.of g1,rfl,rfl,_,rfl,iteT ?_⟩
      exact ⟨_,rfl,p,dx,_,rfl,hp,Mir.jF_no (by decide +kernel),p,a,b,c,n,m,w0,ds,us,rfl,J,JK,(fun d hd=>by rw [c1] at hd;cases hd),fun _=>⟨rfl,rfl⟩⟩
     ·obtain ⟨rfl,rfl⟩:=hE
      exact .inr ⟨x2,x3,nx "none" .non _ (fun r hr=>upd_same) J fun _ _ z _=>z⟩
    | a =>
     have g1:H2 t = some (.tup [.str "again",.non]):=ht
     have c1:us.getLast? = none:=by
      cases q:us.getLast? with
      | none=>rfl
      | some d=>rw [Mir.step_aY q] at e;cases e
     refine ⟨fun cls _ H'=>cls = .ref CN∧H' = H2,?_,fun cls H' hE=>?_⟩
     ·refine ⟨_,rfl,t,_,_,_,rfl,rfl,SqT.of g1,rfl,rfl,_,rfl,iteF ?_⟩
      refine ⟨_,rfl,t,_,_,_,rfl,rfl,SqT.of g1,rfl,rfl,_,rfl,iteF ?_⟩
      exact ⟨_,rfl,p,dx,_,rfl,hp,Mir.jF_no (by decide +kernel),p,a,b,c,n,m,w0,ds,us,rfl,J,JK,(fun d hd=>by rw [c1] at hd;cases hd),fun _=>⟨rfl,rfl⟩⟩
     ·obtain ⟨rfl,rfl⟩:=hE
      exact .inr ⟨x2,x3,nx "none" .non _ (fun r hr=>upd_same) J fun _ _ z _=>z⟩
   | some x =>
    refine ⟨_,ps_tryN (pss_one (ps_if (pt_cmpR op_eq (pe_ix ix_tup (pv 1) pe_int (fun _ _=>rfl)) pe_str (nomark _)) (pss_one (ps_set (i:=3) sc_law_done.nd rfl (Or.inl rfl) (pe_mF (pv 0) T.cl M_do G_do hr (pa_cons (pe_ix ix_tup (pv 1) pe_int (fun _ _=>rfl)) pa_nil))))
     (pss_one (ps_if (pt_cmpR op_eq (pe_ix ix_tup (pv 1) pe_int (fun _ _=>rfl)) pe_str (nomark _)) (pss_one (ps_set (i:=3) sc_law_done.nd rfl (Or.inl rfl) (pe_mF0 (pv 0) T.cl M_back G_back (hr.mono (by decide))))) (pss_one (ps_set (i:=3) sc_law_done.nd rfl (Or.inl rfl) (pe_mF0 (pv 0) T.cl M_again G_again hr))))))),?_⟩
    cases g with
    | d x y =>
     obtain ⟨v,g1,g2,sx,sy⟩:=ht
     have c1:Mir.Fits n (Mir.behs w0 ds) x y:=Classical.byContradiction fun z=>by rw [Mir.step_dN z] at e;cases e
     rw [Mir.step_dY c1] at nx
     refine ⟨_,rfl,t,_,_,_,rfl,rfl,SqT.of g1,rfl,rfl,_,rfl,iteT ?_⟩
     exact ⟨_,rfl,p,dx,_,rfl,hp,Mir.jF_no (by decide +kernel),_,rfl,t,_,_,_,rfl,rfl,SqT.of g1,rfl,p,a,b,c,v,n,m,w0,ds,us,(x,y),rfl,J,g2,sx,sy,W,by omega,fun hf H' J' f'=>nx "" _ H' (fun r hr=>⟨_,upd_same,rfl⟩) J' f',fun z=>absurd c1 z⟩
    | b =>
     have g1:H2 t = some (.tup [.str "back",.non]):=ht
     refine ⟨_,rfl,t,_,_,_,rfl,rfl,SqT.of g1,rfl,rfl,_,rfl,iteF ?_⟩
     refine ⟨_,rfl,t,_,_,_,rfl,rfl,SqT.of g1,rfl,rfl,_,rfl,iteT ?_⟩
     cases q:ds.getLast? with
     | none=>rw [Mir.step_bN q] at e;cases e
     | some d =>
      rw [Mir.step_bY q] at nx
      exact ⟨_,rfl,p,dx,_,rfl,hp,Mir.jF_no (by decide +kernel),p,a,b,c,n,m,w0,ds,us,rfl,J,JK,(fun d' hd u H' hu J' f'=>by
       cases q.symm.trans hd
       exact nx "" _ H' (fun r hr=>⟨_,upd_same,u,rfl,same_upd hr _ _ hu⟩) J' f'),fun z=>by rw [q] at z;cases z⟩
    | a =>
     have g1:H2 t = some (.tup [.str "again",.non]):=ht
     refine ⟨_,rfl,t,_,_,_,rfl,rfl,SqT.of g1,rfl,rfl,_,rfl,iteF ?_⟩
     refine ⟨_,rfl,t,_,_,_,rfl,rfl,SqT.of g1,rfl,rfl,_,rfl,iteF ?_⟩
     cases q:us.getLast? with
     | none=>rw [Mir.step_aN q] at e;cases e
     | some d =>
      rw [Mir.step_aY q] at nx
      exact ⟨_,rfl,p,dx,_,rfl,hp,Mir.jF_no (by decide +kernel),p,a,b,c,n,m,w0,ds,us,rfl,J,JK,(fun d' hd H' J' f'=>by
       cases q.symm.trans hd
       exact nx "" _ H' (fun r hr=>⟨_,upd_same,rfl⟩) J' f'),fun z=>by rw [q] at z;cases z⟩
  refine ⟨rfl,rfl,fun z v H' h1 h2 h3=>?_⟩
  refine ⟨_,rfl,_,rfl,by show 2≤sizeLine;decide,fun r hr=>k r _ (h1 r hr) (h2.same (same_upd hr)) (h3.trans (Mir.Fr.same (same_upd hr)))⟩
end
section
seal L2.PSs L2.PS L2.PE L2.PT L2.PA
variable {P:Program} {w:World} {K:PySem.W.Frag} {mg:Str→Option Value} {base:Heap}
theorem ok_law_shows {f C m1 m2 m3:Addr} {fd n1 n2 n3:FuncData} (B:Bl mg) (T:Mir.JC K mg C) (F:Fn K mg "_law_shows" s_law_shows ["book","state"] f fd) (M_now:MFn K C "now" "Journal.now" s_Journal_now ["self"] m1 n1) (M_deeds:MFn K C "deeds" "Journal.deeds" s_Journal_deeds ["self"] m2 n2) (M_works:MFn K C "works" "Journal.works" s_Journal_works ["self"] m3 n3) :
  FnOk P w K mg base CX0 2 f fd ["book","state"] (Mir.spShowsJ C):=by
 have G_now:FnOk P w K mg base CX0 1 m1 n1 ["self"] (Mir.spNow C):=ok_Journal_now T M_now
 have G_deeds:FnOk P w K mg base CX0 1 m2 n2 ["self"] (Mir.spDeedsJ C):=ok_Journal_deeds B T M_deeds
 have G_works:FnOk P w K mg base CX0 1 m3 n3 ["self"] (Mir.spWorksJ C):=ok_Journal_works B T M_works
 refine F.fn.ok sc_law_shows (fun vs H Q E h=>?_) (fun cdv A outer s H vs Q E hr h=>?_)
 ·obtain ⟨p,a,b,c,s,x,y,z,w0,ds,us,rfl,_⟩:=h
  rfl
 ·obtain ⟨p,a,b,c,s,x,y,z,w0,ds,us,rfl,J,S,k⟩:=h
  have hu:=hu_of hr
  refine ⟨_,(pss_cons (ps_if (PW.pt (pw_or (pt_cmpR (op_ne_tupD (Nat.lt_of_succ_lt hu)) (pe_m0 (pv 0) T.cl M_now G_now (hr.mono (by decide))) (pe_ix ix_list (pe_ix ix_list (pv 1) pe_int (fun _ _=>rfl)) (pe_un un_neg pe_int) (fun _ _=>rfl)) (nomark _)) (pw_or (pt_not (pt_val (pe_callB call_isi rfl B.isinstance bb_isinstance (pa_cons (pe_m0 (pv 0) T.cl M_deeds G_deeds (hr.mono (by decide))) (pa_cons (pe_bltn (v:=.ty "list") rfl B.list bb_list rfl) pa_nil))))) (pw_or1 (pt_not (pt_val (pe_callB call_isi rfl B.isinstance bb_isinstance (pa_cons (pe_m0 (pv 0) T.cl M_works G_works (hr.mono (by decide))) (pa_cons (pe_bltn (v:=.ty "list") rfl B.list bb_list rfl) pa_nil))))))))) (pss_one (ps_ret pe_bl)) pss_nil)
   (pss_one (ps_ret (pe_and (pe_cmpR (op_eq_deep 1 (hr.lt 1 (by decide))) (pe_m0 (pv 0) T.cl M_deeds G_deeds (hr.mono (by decide))) (pe_ix ix_list (pv 1) pe_int (fun _ _=>rfl)) (nomark _)) (pe_one (pe_cmpR (op_eq_deep 1 (hr.lt 1 (by decide))) (pe_m0 (pv 0) T.cl M_works G_works (hr.mono (by decide))) (pe_ix ix_list (pv 1) pe_int (fun _ _=>rfl)) (nomark _))))))),?_⟩
  obtain ⟨dx,hp⟩:=J.ob
  obtain ⟨vs,u,h1,h2,h3⟩:=S.t.w.get Mir.works_last
  obtain ⟨vs',h4,h5⟩:=S.t.w.len
  rw [h1] at h4
  obtain rfl:vs = vs':=by injection h4 with h4;injection h4
  refine ⟨_,rfl,p,dx,_,rfl,hp,Mir.jF_no (by decide +kernel),p,a,b,c,w0,ds,us,rfl,J,fun t ht=>?_⟩
  refine ⟨_,rfl,s,_,_,_,rfl,rfl,SqL.of S.ob,rfl,_,rfl,x,_,_,_,rfl,rfl,SqL.of h1,Mir.atI_end (by rw [List.getLast?_eq_getElem?,h5];exact h2),?_⟩
  refine ⟨t,u,Mir.rowI (Mir.behs w0 ds),Mir.rowI (Mir.behs w0 ds),rfl,rfl,by rw [Mir.rowI_V];exact SqT.of ht,by rw [Mir.rowI_V];exact SqT.of h3,_,rfl,?_⟩
  rw [decide_eq_true (rfl:Mir.rowI (Mir.behs w0 ds) = Mir.rowI (Mir.behs w0 ds))]
  refine iteF ?_
  refine ⟨_,rfl,p,dx,_,rfl,hp,Mir.jF_no (by decide +kernel),p,a,b,c,w0,ds,us,rfl,J,fun l1 H1 hl1 s1 t1=>?_⟩
  obtain ⟨v1,k1⟩:=t1.lst
  refine ⟨_,_,_,_,rfl,.lst k1,kit_lst_lst _,_,rfl,iteF ?_⟩
  have J1:=J.same s1
  have S1:=S.same s1
  have hp1:=s1 _ _ hp
  refine ⟨_,rfl,p,dx,_,rfl,hp1,Mir.jF_no (by decide +kernel),p,a,b,c,w0,ds,us,rfl,J1,fun l2 H2 hl2 s2 t2=>?_⟩
  obtain ⟨v2,k2⟩:=t2.lst
  refine ⟨_,_,_,_,rfl,.lst k2,kit_lst_lst _,_,rfl,iteF ?_⟩
  have J2:=J1.same s2
  have S2:=S1.same s2
  have hp2:=s2 _ _ hp1
  have fz:∀ d:Int×Int,∀ v∈Mir.zp d,flatV v = true:=fun d v hv=>by
   rcases List.mem_cons.mp hv with rfl | hv
   ·rfl
   ·cases List.mem_singleton.mp hv
    rfl
  have fn:∀ d:List Nat,∀ v∈Mir.nV d,flatV v = true:=fun d=>List.all_eq_true.mp (Mir.flat_nats d)
  refine ⟨_,rfl,p,dx,_,rfl,hp2,Mir.jF_no (by decide +kernel),p,a,b,c,w0,ds,us,rfl,J2,fun l3 H3 hl3 s3 t3=>?_⟩
  have J3:=J2.same s3
  have S3:=S2.same s3
  have hp3:=s3 _ _ hp2
  refine ⟨_,rfl,s,_,_,_,rfl,rfl,SqL.of S3.ob,rfl,l3,y,rfl,rfl,Mir.TsT.deep fz t3 S3.t.d,_,rfl,iteT ?_⟩
  refine ⟨_,rfl,p,dx,_,rfl,hp3,Mir.jF_no (by decide +kernel),p,a,b,c,w0,ds,us,rfl,J3,fun l4 H4 hl4 s4 t4=>?_⟩
  have S4:=S3.same s4
  exact ⟨_,rfl,s,_,_,_,rfl,rfl,SqL.of S4.ob,rfl,l4,x,rfl,rfl,Mir.TsT.deep fn t4 S4.t.w,k H4 (((s1.trans s2).trans s3).trans s4)⟩
end
section
variable {P:Program} {w:World} {K:PySem.W.Frag} {mg:Str→Option Value} {base:Heap}
seal L2.PSs L2.PS L2.PE L2.PT L2.PA
theorem ok_law {C_BadDeed C_NoSuch C_Journal:Addr} (B:Bl mg) (Z:ECls K mg "BadDeed" C_BadDeed) (Z_NoSuch:ECls K mg "NoSuch" C_NoSuch) (T:Mir.JC K mg C_Journal) (x1:PySem.W.exmOne K (.ref C_BadDeed) (.ref C_BadDeed) = some true) (x2:PySem.W.exmOne K (.ref C_NoSuch) (.ref C_BadDeed) = some false) (x3:PySem.W.exmOne K (.ref C_NoSuch) (.ref C_NoSuch) = some true) {f0 f1 f2 f3 f4 f5 f6 f7 f8 f9 f10 f11 f12 f13 f14 f15 f16 f17 f18 f19 f20 f21 f22 f23 f24 f25 f26:Addr} {fd0 fd1 fd2 fd3 fd4 fd5 fd6 fd7 fd8 fd9 fd10 fd11 fd12 fd13 fd14 fd15 fd16 fd17 fd18 fd19 fd20 fd21 fd22 fd23 fd24 fd25 fd26:FuncData} (F_staves_in:Fn K mg "staves_in" s_staves_in ["work"] f0 fd0) (F_far_end:Fn K mg "far_end" s_far_end ["end"] f1 fd1) (F_loose_ends:Fn K mg "loose_ends" s_loose_ends ["work"] f2 fd2) (F_rows_in:Fn K mg "rows_in" s_rows_in ["work"] f3 fd3) (F_rings_in:Fn K mg "rings_in" s_rings_in ["work"] f4 fd4) (F_walked_from:Fn K mg "walked_from" s_walked_from ["work","start"] f5 fd5) (F_mark_staves:Fn K mg "mark_staves" s_mark_staves ["seen","chain"] f6 fd6) (F_fits_work:Fn K mg "fits_work" s_fits_work ["work","deed"] f7 fd7) (F_refuse_misfit:Fn K mg "refuse_misfit" s_refuse_misfit ["work","deed"] f8 fd8) (F_reclasped:Fn K mg "reclasped" s_reclasped ["work","deed"] f9 fd9) (F_freed_ends:Fn K mg "freed_ends" s_freed_ends ["work","deed"] f10 fd10) (F_clasp_ends:Fn K mg "clasp_ends" s_clasp_ends ["mates","one","other"] f11 fd11) (F_told_deed:Fn K mg "told_deed" s_told_deed ["work","deed"] f12 fd12) (F_least_pair:Fn K mg "least_pair" s_least_pair ["work","deed"] f13 fd13) (F_deed_kind:Fn K mg "deed_kind" s_deed_kind ["work","deed"] f14 fd14) (F_chain_with:Fn K mg "chain_with" s_chain_with ["chains","end"] f15 fd15) (F_law_cell:Fn K mg "_law_cell" s_law_cell ["script","k"] f16 fd16) (F_law_number:Fn K mg "_law_number" s_law_number ["script","k"] f17 fd17) (F_law_work:Fn K mg "_law_work" s_law_work ["script","at","staves"] f18 fd18) (F_law_fits:Fn K mg "_law_fits" s_law_fits ["work","one","two"] f19 fd19) (F_law_behind:Fn K mg "_law_behind" s_law_behind ["work","one","two"] f20 fd20) (F_law_done:Fn K mg "_law_done" s_law_done ["book","thing"] f21 fd21) (F_law_due:Fn K mg "_law_due" s_law_due ["state","thing"] f22 fd22) (F_law_moved:Fn K mg "_law_moved" s_law_moved ["state","thing"] f23 fd23) (F_law_thing:Fn K mg "_law_thing" s_law_thing ["cell","work"] f24 fd24) (F_law_shows:Fn K mg "_law_shows" s_law_shows ["book","state"] f25 fd25) (F_law:Fn K mg "law" s_law ["script"] f26 fd26) {m0 m1 m2 m3 m4 m5 m6 m7:Addr} {md0 md1 md2 md3 md4 md5 md6 md7:FuncData} (M_init:MFn K C_Journal "__init__" "Journal.__init__" s_Journal_init ["self","work"] m0 md0) (M_now:MFn K C_Journal "now" "Journal.now" s_Journal_now ["self"] m1 md1) (M_deeds:MFn K C_Journal "deeds" "Journal.deeds" s_Journal_deeds ["self"] m2 md2) (M_works:MFn K C_Journal "works" "Journal.works" s_Journal_works ["self"] m3 md3) (M_do:MFn K C_Journal "do" "Journal.do" s_Journal_do ["self","deed"] m4 md4) (M_go_on:MFn K C_Journal "go_on" "Journal.go_on" s_Journal_go_on ["self","deed"] m5 md5) (M_back:MFn K C_Journal "back" "Journal.back" s_Journal_back ["self"] m6 md6) (M_again:MFn K C_Journal "again" "Journal.again" s_Journal_again ["self"] m7 md7):FnOk P w K mg base CX0 9 f26 fd26 ["script"] (spLaw K):=by
 have G_law_cell:FnOk P w K mg base CX0 1 _ _ ["script","k"] (Mir.spCellAt K):=ok_law_cell B F_law_cell
 have G_law_work:FnOk P w K mg base CX0 3 _ _ ["script","at","staves"] (Mir.spLawWork K):=ok_law_work B F_law_work F_law_cell F_law_number
 have G_law_fits:FnOk P w K mg base CX0 1 _ _ ["work","one","two"] (Mir.spLawFits K):=ok_law_fits B F_law_fits
 have G_law_behind:FnOk P w K mg base CX0 1 _ _ ["work","one","two"] (Mir.spLawBeh K):=ok_law_behind B F_law_behind
 have GR:FnOk P w K mg base (CXo P w) 3 _ _ ["work","deed"] (Mir.spRecl K C_BadDeed):=ok_reclasped B Z F_reclasped F_fits_work F_refuse_misfit F_freed_ends F_clasp_ends
 have GO:FnOk P w K mg base CX0 3 _ _ ["work"] (Mir.spRows K):=ok_rows_in B F_rows_in F_far_end F_loose_ends F_walked_from
 have GI:FnOk P w K mg base CX0 4 _ _ ["work"] (Mir.spRings K):=ok_rings_in B F_rings_in F_staves_in F_far_end F_loose_ends F_rows_in F_walked_from F_mark_staves
 have G_deed_kind:FnOk P w K mg base (CXo P w) 5 _ _ ["work","deed"] (Mir.spKind K C_BadDeed):=ok_deed_kind B F_deed_kind F_reclasped GR F_rings_in GI F_rows_in GO F_chain_with
 have G_told_deed:FnOk P w K mg base (CXo P w) 3 _ _ ["work","deed"] (Mir.spToldD K C_BadDeed):=ok_told_deed B Z F_told_deed F_refuse_misfit F_fits_work F_least_pair F_freed_ends
 have G_init:FnOk P w K mg base CX0 1 _ _ ["self","work"] (Mir.spInit C_Journal):=ok_Journal_init T M_init
 have G_deeds:FnOk P w K mg base CX0 1 _ _ ["self"] (Mir.spDeedsJ C_Journal):=ok_Journal_deeds B T M_deeds
 have G_works:FnOk P w K mg base CX0 1 _ _ ["self"] (Mir.spWorksJ C_Journal):=ok_Journal_works B T M_works
 have G_go_on:FnOk P w K mg base (CXo P w) 6 _ _ ["self","deed"] (Mir.spGo C_Journal C_BadDeed):=ok_Journal_go_on T M_go_on M_now F_deed_kind G_deed_kind F_told_deed G_told_deed F_reclasped GR
 have G_do:FnOk P w K mg base (CXo P w) 7 _ _ ["self","deed"] (Mir.spDo C_Journal C_BadDeed):=ok_Journal_do T M_do M_go_on G_go_on
 have G_back:FnOk P w K mg base (CXo P w) 1 _ _ ["self"] (Mir.spBackJ C_Journal C_NoSuch):=ok_Journal_back B T Z_NoSuch M_back
 have G_again:FnOk P w K mg base (CXo P w) 7 _ _ ["self"] (Mir.spAgainJ C_Journal C_NoSuch):=ok_Journal_again B T Z_NoSuch M_again M_go_on G_go_on
 have G_law_thing:FnOk P w K mg base CX0 1 _ _ ["cell","work"] (Mir.spThingJ K):=ok_law_thing B F_law_thing
 have G_law_due:FnOk P w K mg base CX0 6 _ _ ["state","thing"] Mir.spDueJ:=ok_law_due B F_law_due F_law_fits G_law_fits F_deed_kind G_deed_kind
 have G_law_moved:FnOk P w K mg base CX0 4 _ _ ["state","thing"] Mir.spMovedJ:=ok_law_moved B F_law_moved F_law_behind G_law_behind F_told_deed G_told_deed
 have G_law_done:FnOk P w K mg base CX0 8 _ _ ["book","thing"] (Mir.spDoneJ C_Journal):=ok_law_done B T Z.g Z_NoSuch.g x1 x2 x3 F_law_done M_do G_do M_back G_back M_again G_again
 have G_law_shows:FnOk P w K mg base CX0 2 _ _ ["book","state"] (Mir.spShowsJ C_Journal):=ok_law_shows B T F_law_shows M_now M_deeds M_works
 have Mk_Journal:Mk K C_Journal _:=⟨T.mks.1,M_init.m.at_,M_init.m.fn,T.mks.2⟩
 refine F_law.fn.ok sc_law (fun vs H Q E h=>?_) (fun cdv A outer s H vs Q E hr h=>?_)
 ·obtain ⟨a,ns,rfl,_⟩:=h
  rfl
 ·obtain ⟨a,ns,rfl,hS,hlen,k⟩:=h
  refine ⟨_,(pss_cons (ps_set (i:=1) sc_law.nd rfl (Or.inl rfl) (pe_lst pa_nil))
   (pss_cons (ps_set (i:=2) sc_law.nd rfl (Or.inl rfl) (pe_lst pa_nil))
   (pss_cons (ps_for PassesOwn.never rfl (pi_range1 rfl B.range (pa_cons pe_int pa_nil)) (pg_name (i:=3) sc_law.nd rfl (Or.inl rfl)) (pss_cons (ps_set (i:=4) sc_law.nd rfl (Or.inl rfl) (pe_fn G_law_work F_law_work (hr.mono (by decide)) (pa_cons (pv 0) (pa_cons (pe_op op_add pe_int (pe_op op_mul pe_int (pv 3))) (pa_cons (pe_op op_add pe_int (pe_op op_mod (pe_fn G_law_cell F_law_cell (hr.mono (by decide)) (pa_cons (pv 0) (pa_cons (pv 3) pa_nil))) pe_int)) pa_nil)))))
   (pss_cons (ps_expr (pe_bm PySem.F.plainAttrs_list PySem.F.slot_list_append PySem.F.type_list_append mt_append (pv 1) (pa_cons (pe_make Mk_Journal G_init (hr.mono (by decide)) rfl T.g M_init.b .nil pass0 (pa_cons (pv 4) pa_nil)) pa_nil)))
   (pss_one (ps_expr (pe_bm PySem.F.plainAttrs_list PySem.F.slot_list_append PySem.F.type_list_append mt_append (pv 2) (pa_cons (pe_lst (pa_cons (pe_lst (pa_cons (pv 4) pa_nil)) (pa_cons (pe_lst pa_nil) (pa_cons (pe_lst pa_nil) pa_nil)))) pa_nil)))))))
   (ps_sem (R:=fun D σ H2=>∃ (bl sl:Addr) (p s:Nat→Addr) (m:Nat→Nat→Addr) (w0:Nat→List Nat) (n:Nat→Nat) (v3 v4:Option V),σ = [some (.ref a),some (.ref bl),some (.ref sl),v3,v4,none,none,none,none]∧Same H H2∧Mir.Bk C_Journal H2 bl sl p s m w0 (fun _=>[]) (fun _=>[]) (fun _=>[]) (fun _=>[]) 2∧(∀ j,j < 2→Mir.WorkL (n j) (w0 j))∧(∀ j i,j < 2→i < 6→H (m j i) = none)∧H bl = none∧D.rt = Q) fun D σ H2 hR=>?rest)))),?_⟩
  case rest =>
   obtain ⟨bl,sl,p,s,m,w0,n,v3,v4,rfl,s2,BB,WW,FF,hbl,hQ⟩:=hR
   refine ⟨_,(pss_cons (ps_set (i:=5) sc_law.nd rfl (Or.inl rfl) (pe_lst pa_nil))
   (pss_cons (ps_for PassesOwn.never rfl (pi_list (pv 0)) (pg_name (i:=6) sc_law.nd rfl (Or.inl rfl)) (pss_cons (ps_set (i:=3) sc_law.nd rfl (Or.inl rfl) (pe_op op_mod (pe_op op_fdiv (pv 6) pe_int) pe_int))
   (pss_cons (ps_set (i:=7) sc_law.nd rfl (Or.inl rfl) (pe_fn G_law_thing F_law_thing (hr.mono (by decide)) (pa_cons (pv 6) (pa_cons (pe_ix ix_list (pe_ix ix_list (pe_ix ix_list (pv 2) (pv 3) (fun _ _=>rfl)) pe_int (fun _ _=>rfl)) (pe_un un_neg pe_int) (fun _ _=>rfl)) pa_nil))))
   (pss_cons (ps_set (i:=8) sc_law.nd rfl (Or.inl rfl) (pe_fn G_law_due F_law_due (hr.mono (by decide)) (pa_cons (pe_ix ix_list (pv 2) (pv 3) (fun _ _=>rfl)) (pa_cons (pv 7) pa_nil))))
   (pss_cons (ps_if (pt_cmpR (op_ne_deepT 1 (hr.lt 1 (by decide))) (pe_fn G_law_done F_law_done (hr.mono (by decide)) (pa_cons (pe_ix ix_list (pv 1) (pv 3) (fun _ _=>rfl)) (pa_cons (pv 7) pa_nil))) (pv 8) (nomark _)) (pss_one (ps_ret pe_bl)) pss_nil)
   (pss_cons (ps_if (pt_cmpR op_eq (pe_ix ix_tup (pv 8) pe_int (fun _ _=>rfl)) pe_str (nomark _)) (pss_one (ps_expr (pe_fn G_law_moved F_law_moved (hr.mono (by decide)) (pa_cons (pe_ix ix_list (pv 2) (pv 3) (fun _ _=>rfl)) (pa_cons (pv 7) pa_nil))))) pss_nil)
   (ps_sem (R:=Mir.Mid17 C_Journal a bl sl p s m w0 n H) fun D σ H3 hM=>?mid)))))))
   (pss_one (ps_ret (pe_callB (call_all_bl rfl) rfl B.all Mir.bb_all17 (pa_cons (pe_comp (NC:=["told","copy"]) rfl (compOk0 rfl (by decide +kernel) (by decide +kernel)) (pi_list (pv 5)) (fun _ _ _ _=>(pg_tupK (K:=K) (n:=2) rfl rfl (pgs_cons (pg_name (i:=0) (show (["told","copy"]:List Str).Nodup by decide +kernel) rfl (Or.inl rfl)) (pgs_cons (pg_name (i:=1) (show (["told","copy"]:List Str).Nodup by decide +kernel) rfl (Or.inl rfl)) pgs_nil)))) (fun _ _ _ _=>pts_nil) (fun _ _ _ _=>(pe_cmpR (op_eq_deepK (K:=K) rfl 1 (hr.lt 1 (by decide))) (pv 0) (pv 1) (nomark _)))) pa_nil)))))),?_⟩
   case mid =>
    obtain ⟨hl,i,kk,ds,us,ts,v4,v6,v7,v8,hk,rfl,sH,h0,S0,nx⟩:=hM
    refine ⟨_,(pss_cons (ps_if (PW.pt (pw_or (pt_not (pt_val (pe_fn G_law_shows F_law_shows (hr.mono (by decide)) (pa_cons (pe_ix ix_list (pv 1) pe_int (fun _ _=>rfl)) (pa_cons (pe_ix ix_list (pv 2) pe_int (fun _ _=>rfl)) pa_nil))))) (pw_or1 (pt_not (pt_val (pe_fn G_law_shows F_law_shows (hr.mono (by decide)) (pa_cons (pe_ix ix_list (pv 1) pe_int (fun _ _=>rfl)) (pa_cons (pe_ix ix_list (pv 2) pe_int (fun _ _=>rfl)) pa_nil)))))))) (pss_one (ps_ret pe_bl)) pss_nil)
   (pss_cons (ps_if (pt_cmpR op_lt (pe_callB call_len_seq rfl B.len bb_len (pa_cons (pv 5) pa_nil)) pe_int (nomark _)) (pss_cons (ps_expr (pe_bm PySem.F.plainAttrs_list PySem.F.slot_list_append PySem.F.type_list_append mt_append (pv 5) (pa_cons (pe_tup (pa_cons (pe_m0 (pe_ix ix_list (pv 1) (pv 3) (fun _ _=>rfl)) T.cl M_deeds G_deeds (hr.mono (by decide))) (pa_cons (pe_callTy call_list_of rfl B.list bb_list (pa_cons (pe_ix ix_list (pe_ix ix_list (pv 2) (pv 3) (fun _ _=>rfl)) pe_int (fun _ _=>rfl)) pa_nil)) pa_nil))) pa_nil)))
   (pss_one (ps_expr (pe_bm PySem.F.plainAttrs_list PySem.F.slot_list_append PySem.F.type_list_append mt_append (pv 5) (pa_cons (pe_tup (pa_cons (pe_m0 (pe_ix ix_list (pv 1) (pv 3) (fun _ _=>rfl)) T.cl M_works G_works (hr.mono (by decide))) (pa_cons (pe_callTy call_list_of rfl B.list bb_list (pa_cons (pe_ix ix_list (pe_ix ix_list (pv 2) (pv 3) (fun _ _=>rfl)) pe_int (fun _ _=>rfl)) pa_nil)) pa_nil))) pa_nil))))) pss_nil)
   (ps_sem (R:=Mir.Mid17 C_Journal a bl sl p s m w0 n H) fun D σ H3 hM=>?mid2))),?_⟩
    case mid2 =>
     obtain ⟨hl,i,kk,ds,us,ts,v4,v6,v7,v8,hk,rfl,sH,h0,S0,nx⟩:=hM
     refine ⟨_,(pss_cons (ps_expr (pe_bm PySem.F.plainAttrs_list PySem.F.slot_list_append PySem.F.type_list_append mt_append (pe_m0 (pe_ix ix_list (pv 1) (pv 3) (fun _ _=>rfl)) T.cl M_deeds G_deeds (hr.mono (by decide))) (pa_cons (pe_tup (pa_cons pe_int (pa_cons pe_int pa_nil))) pa_nil)))
   (pss_one (ps_expr (pe_bm0 PySem.F.plainAttrs_list PySem.F.slot_list_clear PySem.F.type_list_clear mt_clear (pe_m0 (pe_ix ix_list (pv 1) (pv 3) (fun _ _=>rfl)) T.cl M_works G_works (hr.mono (by decide))))))),?_⟩
     have hB:=S0.B
     have J:=hB.J kk hk
     obtain ⟨dx,hp⟩:=J.ob
     refine ⟨_,rfl,_,rfl,bl,_,_,_,rfl,rfl,SqL.of hB.hb,Mir.get2 hk,p kk,dx,_,rfl,hp,Mir.jF_no (by decide +kernel),p kk,m kk 0,m kk 1,m kk 2,w0 kk,ds kk,us kk,rfl,J,fun l1 H1 hl1 s1 t1=>?_⟩
     obtain ⟨u1,u2,u3⟩:=t1.len
     have jk:=(S0.K kk hk).len
     have jb:=(S0.K kk hk).big
     refine ⟨.inl ⟨rfl,_,SqL.of u2⟩,by show 2≤sizeLine;decide,fun t ht=>?_⟩
     have h1:upd H1 t (.tup [.int 0,.int 0]) l1 = some (.lst u1):=same_upd ht _ _ u2
     refine ⟨l1,_,_,rfl,rfl,h1,by rw [u3];exact small1000 (by omega),?_⟩
     have s12:Same H3 (upd (upd H1 t (.tup [.int 0,.int 0])) l1 (.lst (u1 ++ [.ref t]))):=fun b o e=>by
      rw [upd_ne (ne_of_none e hl1),upd_ne (ne_of_none (s1 _ _ e) ht)]
      exact s1 _ _ e
     generalize upd (upd H1 t (.tup [.int 0,.int 0])) l1 (.lst (u1 ++ [.ref t])) = H2' at s12
     have B2:=hB.same s12
     have J2:=B2.J kk hk
     refine ⟨_,rfl,_,rfl,bl,_,_,_,rfl,rfl,SqL.of B2.hb,Mir.get2 hk,p kk,dx,_,rfl,s12 _ _ hp,Mir.jF_no (by decide +kernel),p kk,m kk 0,m kk 1,m kk 2,w0 kk,ds kk,us kk,rfl,J2,fun l2 H4 hl2 s4 t2=>?_⟩
     obtain ⟨w1,w2,w3⟩:=t2.len
     refine ⟨.inl ⟨rfl,_,SqL.of w2⟩,l2,_,rfl,rfl,w2,?_⟩
     have s5:Same H3 (upd H4 l2 (.lst [])):=fun b o e=>by
      rw [upd_ne (ne_of_none (s12 _ _ e) hl2)]
      exact s4 _ _ (s12 _ _ e)
     exact nx _ _ ⟨ds,us,ts,_,_,_,_,_,rfl,sH.trans s5,S0.same s5⟩
    have hB:=S0.B
    refine ⟨_,rfl,bl,_,_,_,rfl,rfl,SqL.of hB.hb,Mir.get2 (k:=0) (by decide),_,rfl,sl,_,_,_,rfl,rfl,SqL.of hB.hs,Mir.get2 (k:=0) (by decide),p 0,m 0 0,m 0 1,m 0 2,s 0,m 0 3,m 0 4,m 0 5,w0 0,ds 0,us 0,rfl,hB.J 0 (by decide),hB.S 0 (by decide),fun H4 s4=>⟨_,rfl,iteF ?_⟩⟩
    have B4:=hB.same s4
    refine ⟨_,rfl,bl,_,_,_,rfl,rfl,SqL.of B4.hb,Mir.get2 (k:=1) (by decide),_,rfl,sl,_,_,_,rfl,rfl,SqL.of B4.hs,Mir.get2 (k:=1) (by decide),p 1,m 1 0,m 1 1,m 1 2,s 1,m 1 3,m 1 4,m 1 5,w0 1,ds 1,us 1,rfl,B4.J 1 (by decide),B4.S 1 (by decide),fun H5 s5=>⟨_,rfl,iteF ?_⟩⟩
    have s35:=s4.trans s5
    have S5:=S0.same s35
    have sH5:=sH.trans s35
    have tl:=S5.tl
    refine ⟨_,rfl,hl,_,rfl,.inl (SqL.of S5.L.l),_,_,rfl,rfl,_,rfl,ite2 (fun hlt=>?_) (fun hlt=>?_)⟩
    ·have hlt:=of_decide_eq_true hlt
     rw [List.length_map] at hlt
     have B5:=S5.B
     have J5:=B5.J kk hk
     have Q5:=B5.S kk hk
     obtain ⟨dx,hp⟩:=J5.ob
     refine ⟨_,rfl,.inl ⟨rfl,_,SqL.of S5.L.l⟩,_,rfl,_,rfl,bl,_,_,_,rfl,rfl,SqL.of B5.hb,Mir.get2 hk,p kk,dx,_,rfl,hp,Mir.jF_no (by decide +kernel),p kk,m kk 0,m kk 1,m kk 2,w0 kk,ds kk,us kk,rfl,J5,fun l1 H6 hl1 s6 t1=>?_⟩
     have Q6:=Q5.same s6
     obtain ⟨vd,hd⟩:=Q6.t.d.lst
     refine ⟨_,rfl,_,rfl,sl,_,_,_,rfl,rfl,SqL.of (s6 _ _ B5.hs),Mir.get2 hk,s kk,_,_,_,rfl,rfl,SqL.of Q6.ob,rfl,m kk 4,_,rfl,.inl (SqL.of hd),fun l2 hl2=>?_⟩
     have s67:Same H6 (upd H6 l2 (.lst vd)):=same_upd hl2
     have t2:=Q6.t.d.copy hd hl2
     generalize upd H6 l2 (.lst vd) = H7 at s67 t2
     refine ⟨by show 2≤sizeLine;decide,fun t ht=>?_⟩
     have s78:Same H7 (upd H7 t (.tup [.ref l1,.ref l2])):=same_upd ht
     have t8:upd H7 t (.tup [.ref l1,.ref l2]) t = some (.tup [.ref l1,.ref l2]):=upd_same
     generalize upd H7 t (.tup [.ref l1,.ref l2]) = H8 at s78 t8
     have s58:=(s6.trans s67).trans s78
     have L8:=S5.L.same s58
     have e8:Mir.HeldE bl sl s m 2 hl H8 t:=⟨l1,l2,t8,⟨B5.off hl1,ne_of_none S5.L.l hl1⟩,⟨(B5.same s6).off hl2,ne_of_none (S5.L.same s6).l hl2⟩,.inl ⟨_,(t1.same s67).same s78,t2.same s78⟩⟩
     refine ⟨hl,_,_,rfl,rfl,L8.l,by rw [List.length_map];exact small1000 (by omega),?_⟩
     have f9:Mir.Fr [hl] H8 (upd H8 hl (.lst (ts.map V.ref ++ [.ref t]))):=Mir.Fr.upd (List.mem_singleton.mpr rfl)
     have L9:=L8.push e8
     have B9:=(B5.same s58).frL S5.L.o L8.l f9
     generalize upd H8 hl (.lst (ts.map V.ref ++ [.ref t])) = H9 at f9 L9 B9
     have J9:=B9.J kk hk
     have Q9:=B9.S kk hk
     obtain ⟨dy,hp9⟩:=J9.ob
     refine ⟨_,rfl,.inl ⟨rfl,_,SqL.of L9.l⟩,_,rfl,_,rfl,bl,_,_,_,rfl,rfl,SqL.of B9.hb,Mir.get2 hk,p kk,dy,_,rfl,hp9,Mir.jF_no (by decide +kernel),p kk,m kk 0,m kk 1,m kk 2,w0 kk,ds kk,us kk,rfl,J9,fun l3 H10 hl3 s10 t3=>?_⟩
     have Q10:=Q9.same s10
     obtain ⟨vw,hw⟩:=Q10.t.w.lst
     refine ⟨_,rfl,_,rfl,sl,_,_,_,rfl,rfl,SqL.of (s10 _ _ B9.hs),Mir.get2 hk,s kk,_,_,_,rfl,rfl,SqL.of Q10.ob,rfl,m kk 3,_,rfl,.inl (SqL.of hw),fun l4 hl4=>?_⟩
     have s1011:Same H10 (upd H10 l4 (.lst vw)):=same_upd hl4
     have t4:=Q10.t.w.copy hw hl4
     generalize upd H10 l4 (.lst vw) = H11 at s1011 t4
     refine ⟨by show 2≤sizeLine;decide,fun t' ht'=>?_⟩
     have s1112:Same H11 (upd H11 t' (.tup [.ref l3,.ref l4])):=same_upd ht'
     have t12:upd H11 t' (.tup [.ref l3,.ref l4]) t' = some (.tup [.ref l3,.ref l4]):=upd_same
     generalize upd H11 t' (.tup [.ref l3,.ref l4]) = H12 at s1112 t12
     have s912:=(s10.trans s1011).trans s1112
     have L12:=L9.same s912
     have e12:Mir.HeldE bl sl s m 2 hl H12 t':=⟨l3,l4,t12,⟨B9.off hl3,ne_of_none L9.l hl3⟩,⟨(B9.same s10).off hl4,ne_of_none (L9.same s10).l hl4⟩,.inr ⟨_,(t3.same s1011).same s1112,t4.same s1112⟩⟩
     refine ⟨hl,_,_,rfl,rfl,L12.l,by rw [List.length_map,List.length_append,List.length_singleton];exact small1000 (by omega),?_⟩
     have f13:Mir.Fr [hl] H12 (upd H12 hl (.lst ((ts ++ [t]).map V.ref ++ [.ref t']))):=Mir.Fr.upd (List.mem_singleton.mpr rfl)
     have L13:=L12.push e12
     have B13:=(B9.same s912).frL S5.L.o L12.l f13
     generalize upd H12 hl (.lst ((ts ++ [t]).map V.ref ++ [.ref t'])) = H13 at f13 L13 B13
     refine ⟨hl,i,kk,ds,us,_,_,_,_,_,hk,rfl,fun b o e=>?_,h0,⟨B13,L13,S5.K,by rw [List.length_append,List.length_append,List.length_singleton,List.length_singleton];omega⟩,nx⟩
     have ne:b ∉ [hl]:=fun z=>ne_of_none e h0 (List.mem_singleton.mp z)
     exact f13 _ _ (s912 _ _ (f9 _ _ (s58 _ _ (sH5 _ _ e)) ne)) ne
    ·exact ⟨hl,i,kk,ds,us,ts,_,_,_,_,hk,rfl,sH5,h0,S5,nx⟩
   refine ⟨by show 0≤sizeLine;decide,fun hl hhl=>?_⟩
   have s3:Same H2 (upd H2 hl (.lst [])):=same_upd hhl
   have l3:upd H2 hl (.lst []) hl = some (.lst []):=upd_same
   have h0:H hl = none:=s2.free hhl
   have off:=BB.off hhl
   generalize upd H2 hl (.lst []) = H3 at s3 l3
   refine ⟨_,rfl,a,rfl,⟨_,(s2.trans s3).seq hS⟩,for_list (K:=K) (a:=a) (xs:=ns.map V.int) (Mir.Inv17 C_Journal a bl sl hl p s m w0 n H) ⟨fun _=>[],fun _=>[],[],_,_,_,_,_,rfl,s2.trans s3,BB.same s3,⟨l3,fun t h=>absurd h List.not_mem_nil,off⟩,fun j hj=>⟨WW j hj,trivial,Nat.le_refl _,by omega⟩,Nat.zero_le _⟩ (fun i σ H4 _ ⟨_,_,_,_,_,_,_,_,_,s4,_⟩=>s4.seq hS) ?_ ?_⟩
   ·rintro i x σ H4 hx ⟨ds,us,ts,v3,v4,v6,v7,v8,rfl,s4,S4⟩
    have hil:i < 63:=by have z:=(List.getElem?_eq_some_iff.mp hx).1;rw [List.length_map] at z;omega
    rw [List.getElem?_map] at hx
    obtain ⟨c,_,rfl⟩:=Option.map_eq_some_iff.mp hx
    obtain ⟨kk,ek,hk⟩:∃ kk:Nat,c / 1009 % 2 = (kk:Int)∧kk < 2:=⟨(c / 1009 % 2).toNat,by omega,by omega⟩
    refine ⟨_,rfl,_,_,rfl,rfl,⟨by decide,by decide⟩,_,_,rfl,rfl,by show (0:Int) < 2;decide,?_⟩
    dsimp only
    rw [ek]
    have hB:=S4.B
    have JK:=S4.K kk hk
    have SS:=hB.S kk hk
    have W:=JK.now
    obtain ⟨vs,u,h1,h2,h3⟩:=SS.t.w.get Mir.works_last
    obtain ⟨vs',h4,h5⟩:=SS.t.w.len
    rw [h1] at h4
    obtain rfl:vs = vs':=by injection h4 with h4;injection h4
    refine ⟨_,rfl,_,rfl,_,rfl,sl,_,_,_,rfl,rfl,SqL.of hB.hs,Mir.get2 hk,s kk,_,_,_,rfl,rfl,SqL.of SS.ob,rfl,_,rfl,m kk 3,_,_,_,rfl,rfl,SqL.of h1,Mir.atI_end (by rw [List.getLast?_eq_getElem?,h5];exact h2),?_⟩
    refine ⟨u,n kk,c,_,rfl,SqT.of h3,W,fun th g H5 s5 hth=>?_⟩
    have B5:=hB.same s5
    refine ⟨_,rfl,_,rfl,sl,_,_,_,rfl,rfl,SqL.of B5.hs,Mir.get2 hk,_,rfl,s kk,m kk 3,m kk 4,m kk 5,th,n kk,i,w0 kk,ds kk,us kk,g,rfl,B5.S kk hk,JK,hth,fun rd H6 hres s6=>?_⟩
    have B6:=B5.same s6
    have L6:=(S4.L.same s5).same s6
    have hth6:=hth.same s6
    refine ⟨_,rfl,_,rfl,bl,_,_,_,rfl,rfl,SqL.of B6.hb,Mir.get2 hk,_,rfl,p kk,m kk 0,m kk 1,m kk 2,th,n kk,i,w0 kk,ds kk,us kk,g,rfl,B6.J kk hk,JK,hth6,fun r2 H7 hres2 J7 f7=>?_⟩
    have q7:=B6.lsJ hk
    have res7:=hres.fr f7 q7
    have th7:=hth6.fr f7 q7
    have L7:=L6.fr3 hk (o:=0) (by omega) f7 q7
    have B7:=B6.setJ hk f7 J7
    have s47:Same H H7:=fun b o e=>f7 b o (s6 _ _ (s5 _ _ (s4 _ _ e))) fun z=>Mir.mem3 (P:=fun y=>b≠y) z (ne_of_none e (FF kk 0 hk (by omega))) (ne_of_none e (FF kk 1 hk (by omega))) (ne_of_none e (FF kk 2 hk (by omega))) rfl
    refine ⟨_,rfl,r2,rd,rfl,rfl,hres2.deep res7,_,rfl,iteF ?_⟩
    cases e:Mir.step (n kk) (w0 kk) (ds kk) (us kk) g with
    | none =>
     rw [e] at res7 B7
     have res7:H7 rd = some (.tup [.str (Mir.tgN g),.non]):=res7
     refine ⟨_,rfl,rd,_,_,_,rfl,rfl,SqT.of res7,rfl,rfl,_,rfl,iteN (decide_eq_false (Mir.tgN_ne g)) ?_⟩
     have B7:Mir.Bk C_Journal H7 bl sl p s m w0 (Mir.stN ds kk (ds kk)) (Mir.stN us kk (us kk)) ds us 2:=B7
     rw [Mir.stN_self,Mir.stN_self] at B7
     exact ⟨hl,i + 1,kk,ds,us,ts,_,_,_,_,hk,rfl,s47,h0,⟨B7,L7,fun j hj=>(S4.K j hj).mono (by omega),S4.tl⟩,fun _ _ z=>z⟩
    | some x =>
     rw [e] at res7 B7
     obtain ⟨v,g1,g2⟩:=res7
     refine ⟨_,rfl,rd,_,_,_,rfl,rfl,SqT.of g1,rfl,rfl,_,rfl,iteT ?_⟩
     refine ⟨_,rfl,_,rfl,sl,_,_,_,rfl,rfl,SqL.of B7.hs,Mir.get2 hk,_,rfl,s kk,m kk 3,m kk 4,m kk 5,th,n kk,i,w0 kk,ds kk,us kk,x.2.1,x.2.2,g,x.1,rfl,B7.S kk hk,JK,th7,e,fun H8 S8 f8=>?_⟩
     have q8:=B7.lsS hk
     have B8:Mir.Bk C_Journal H8 bl sl p s m w0 (Mir.stN ds kk x.2.1) (Mir.stN us kk x.2.2) (Mir.stN ds kk x.2.1) (Mir.stN us kk x.2.2) 2:=B7.setS hk f8 S8
     have s48:Same H H8:=fun b o e=>f8 b o (s47 _ _ e) fun z=>Mir.mem3 (P:=fun y=>b≠y) z (ne_of_none e (FF kk 3 hk (by omega))) (ne_of_none e (FF kk 4 hk (by omega))) (ne_of_none e (FF kk 5 hk (by omega))) rfl
     refine ⟨hl,i + 1,kk,_,_,ts,_,_,_,_,hk,rfl,s48,h0,⟨B8,L7.fr3 hk (o:=3) (by omega) f8 q8,fun j hj=>?_,S4.tl⟩,fun _ _ z=>z⟩
     by_cases c1:j = kk
     ·subst c1
      rw [Mir.stN_same,Mir.stN_same]
      exact JK.step (by omega) e
     ·rw [Mir.stN_ne c1,Mir.stN_ne c1]
      exact (S4.K j hj).mono (by omega)
   ·rintro σ H4 ⟨ds,us,ts,v3,v4,v6,v7,v8,rfl,s4,S4⟩
    refine ⟨_,rfl,hl,rfl,⟨_,SqL.of S4.L.l⟩,fun D' hD=>?_⟩
    refine comp_list (K:=K) (a:=hl) (xs:=ts.map V.ref) (fun i σ H5=>∃ v0 v1:Option V,σ = [v0,v1]∧Same H4 H5∧H5 D' = some (.lst ((List.replicate i true).map V.bl))) ⟨none,none,rfl,same_upd hD,upd_same⟩ (fun i σ H5 _ ⟨_,_,_,s5,_⟩=>SqL.of (s5 _ _ S4.L.l)) ?_ ?_
    ·rintro i x σ H5 hx ⟨v0,v1,rfl,s5,h5⟩
     have tl:=S4.tl
     have hil:=(List.getElem?_eq_some_iff.mp hx).1
     rw [List.length_map] at hil
     rw [List.getElem?_map] at hx
     obtain ⟨t,ht,rfl⟩:=Option.map_eq_some_iff.mp hx
     obtain ⟨x,y,t1,_,_,t2⟩:=(S4.L.e t (List.mem_of_getElem? ht)).same s5
     refine ⟨t,_,rfl,SqT.of t1,rfl,_,_,rfl,_,_,rfl,rfl,?_⟩
     refine tYes_of ?_
     have fz:∀ d:Int×Int,∀ v∈Mir.zp d,flatV v = true:=fun d v hv=>by
      rcases List.mem_cons.mp hv with rfl | hv
      ·rfl
      ·cases List.mem_singleton.mp hv
       rfl
     have fn:∀ d:List Nat,∀ v∈Mir.nV d,flatV v = true:=fun d=>List.all_eq_true.mp (Mir.flat_nats d)
     refine ⟨_,rfl,_,rfl,x,y,rfl,rfl,?_,_,h5,small1000 (by rw [List.length_map,List.length_replicate];omega),_,_,rfl,s5.upd hD,?_⟩
     ·rcases t2 with ⟨d,q1,q2⟩ | ⟨d,q1,q2⟩
      ·exact Mir.TsT.deep fz q1 q2
      ·exact Mir.TsT.deep fn q1 q2
     ·rw [upd_same,List.replicate_succ',List.map_append]
      rfl
    ·rintro σ H5 ⟨v0,v1,rfl,s5,h5⟩
     refine ⟨D',_,rfl,h5,?_⟩
     have:(List.replicate (ts.map V.ref).length true).all id = true:=List.all_eq_true.mpr fun b hb=>(List.mem_replicate.mp hb).2
     rw [this]
     exact hQ ▸ k _
  refine ⟨by show 0≤sizeLine;decide,fun bl hbl=>?_⟩
  refine ⟨by show 0≤sizeLine;decide,fun sl hsl=>?_⟩
  have nbs:bl≠sl:=fun z=>by rw [← z,upd_same] at hsl;cases hsl
  have hsl0:H sl = none:=by rwa [upd_ne (Ne.symm nbs)] at hsl
  have sm0:Same H (upd (upd H bl (.lst [])) sl (.lst [])):=(same_upd hbl).trans (same_upd hsl)
  have hb0:upd (upd H bl (.lst [])) sl (.lst []) bl = some (.lst []):=by rw [upd_ne nbs,upd_same]
  have hs0:upd (upd H bl (.lst [])) sl (.lst []) sl = some (.lst []):=upd_same
  generalize upd (upd H bl (.lst [])) sl (.lst []) = H1 at sm0 hb0 hs0
  refine ⟨2,rfl,by decide,by decide,for_range (lo:=0) (n:=2) (fun i σ H2=>∃ (p s:Nat→Addr) (m:Nat→Nat→Addr) (w0:Nat→List Nat) (n:Nat→Nat) (v3 v4:Option V),σ = [some (.ref a),some (.ref bl),some (.ref sl),v3,v4,none,none,none,none]∧Same H H2∧Mir.Bk C_Journal H2 bl sl p s m w0 (fun _=>[]) (fun _=>[]) (fun _=>[]) (fun _=>[]) i∧(∀ j i',j < i→i' < 6→H (m j i') = none)∧∀ j,j < i→Mir.WorkL (n j) (w0 j)) ?_ ?_ ?_⟩
  ·exact ⟨fun _=>0,fun _=>0,fun _ _=>0,fun _=>[],fun _=>0,none,none,rfl,sm0,⟨hb0,hs0,fun k h=>absurd h (by omega),fun k h=>absurd h (by omega),fun k i k' i' h=>absurd h (by omega),fun k i h=>absurd h (by omega),fun k h=>absurd h (by omega),nbs⟩,fun j i h=>absurd h (by omega),fun j h=>absurd h (by omega)⟩
  ·rintro i σ H2 hi ⟨p,s,m,w0,n,v3,v4,rfl,s2,BB,FF,WW⟩
   have e0:(0:Int) + (i:Nat) = ((i:Nat):Int):=by omega
   rw [e0]
   have e1:(2:Int) + 10 * ((i:Nat):Int) = ((2 + 10 * i:Nat):Int):=by omega
   refine ⟨_,rfl,_,rfl,_,_,rfl,rfl,.inl ⟨by decide,by decide⟩,_,_,rfl,rfl,_,rfl,_,rfl,a,ns,i,rfl,s2.seq hS,fun v=>?_⟩
   have e2:(1:Int) + v % 5 = (((1 + v % 5).toNat:Nat):Int):=by omega
   have e3:(1 + v % 5).toNat≤40:=by omega
   refine ⟨_,_,rfl,rfl,by show (0:Int) < 5;decide,_,_,rfl,rfl,?_⟩
   refine ⟨a,ns,2 + 10 * i,(1 + v % 5).toNat,by show [V.ref a,V.int (2 + 10 * ((i:Nat):Int)),V.int (1 + v % 5)] = _;rw [e1,← e2],s2.seq hS,by omega,e3,fun l H3 ms hl s3 W0 ht=>?_⟩
   have B3:=BB.same s3
   have s13:=s2.trans s3
   refine ⟨_,rfl,.inl ⟨rfl,_,SqL.of B3.hb⟩,_,rfl,fun x dx nx ndx nex=>?_⟩
   have s33:Same H3 (upd (upd H3 dx (.own x)) x (.ins C_Journal dx [])):=fun b o e=>by rw [upd_ne (ne_of_none e nx),upd_ne (ne_of_none e ndx)];exact e
   refine ⟨x,l,dx,ms,rfl,upd_same,s33 _ _ ht,fun a' b' c' H4 ha hb hc J4 f4=>⟨rfl,?_⟩⟩
   have s34:Same H3 H4:=fun b o e=>f4 b o (s33 b o e) fun z=>ne_of_none e nx (List.mem_singleton.mp z)
   have ha:=s33.free ha
   have hb:=s33.free hb
   have hc:=s33.free hc
   have hb4:=s34 _ _ B3.hb
   refine ⟨bl,_,_,rfl,rfl,hb4,by rw [List.length_map,List.length_range];exact small1000 (by omega),?_⟩
   have f5:Mir.Fr [bl] H4 (upd H4 bl (.lst ((List.range i).map (fun k=>V.ref (p k)) ++ [.ref x]))):=Mir.Fr.upd (List.mem_singleton.mpr rfl)
   have q5:Mir.Ls H4 [bl]:=fun z hz=>by cases List.mem_singleton.mp hz;exact ⟨_,hb4⟩
   have hb5:upd H4 bl (.lst ((List.range i).map (fun k=>V.ref (p k)) ++ [.ref x])) bl = some (.lst ((List.range i).map (fun k=>V.ref (p k)) ++ [.ref x])):=upd_same
   have n5:∀ y,upd H4 bl (.lst ((List.range i).map (fun k=>V.ref (p k)) ++ [.ref x])) y = none→H4 y = none:=fun y e=>by
    rwa [upd_ne (fun z=>by rw [z,upd_same] at e;cases e)] at e
   generalize upd H4 bl (.lst ((List.range i).map (fun k=>V.ref (p k)) ++ [.ref x])) = H5 at f5 hb5 n5
   have nbl:∀ {y:Addr},H3 y = none→y ∉ [bl]:=fun {y} e z=>by have q:=B3.hb;rw [← List.mem_singleton.mp z,e] at q;cases q
   have J5:Mir.JAt C_Journal H5 x a' b' c' ms [] []:=J4.fr f5 q5 fun y hy=>Mir.mem3 (P:=fun y=>y ∉ [bl]) hy (nbl ha) (nbl hb) (nbl hc)
   have hs5:H5 sl = some (.lst ((List.range i).map fun k=>V.ref (s k))):=f5 _ _ (s34 _ _ B3.hs) fun z=>B3.bs (List.mem_singleton.mp z).symm
   have hl5:H5 l = some (.tup (Mir.nV ms)):=f5.tup q5 (s34 _ _ ht)
   obtain ⟨va,a5⟩:=J5.t.w.lst
   obtain ⟨vb,b5⟩:=J5.t.d.lst
   obtain ⟨vc,c5⟩:=J5.t.u.lst
   refine ⟨_,rfl,.inl ⟨rfl,_,SqL.of hs5⟩,_,rfl,by show 1≤sizeLine;decide,fun xx hxx=>?_⟩
   have s56:Same H5 (upd H5 xx (.lst [.ref l])):=same_upd hxx
   have x6:upd H5 xx (.lst [.ref l]) xx = some (.lst [.ref l]):=upd_same
   generalize upd H5 xx (.lst [.ref l]) = H6 at s56 x6
   refine ⟨by show 0≤sizeLine;decide,fun yy hyy=>?_⟩
   have s67:Same H6 (upd H6 yy (.lst [])):=same_upd hyy
   have y7:upd H6 yy (.lst []) yy = some (.lst []):=upd_same
   generalize upd H6 yy (.lst []) = H7 at s67 y7
   refine ⟨by show 0≤sizeLine;decide,fun zz hzz=>?_⟩
   have s78:Same H7 (upd H7 zz (.lst [])):=same_upd hzz
   have z8:upd H7 zz (.lst []) zz = some (.lst []):=upd_same
   generalize upd H7 zz (.lst []) = H8 at s78 z8
   refine ⟨by show 3≤sizeLine;decide,fun r hr=>?_⟩
   have s89:Same H8 (upd H8 r (.lst [.ref xx,.ref yy,.ref zz])):=same_upd hr
   have r9:upd H8 r (.lst [.ref xx,.ref yy,.ref zz]) r = some (.lst [.ref xx,.ref yy,.ref zz]):=upd_same
   generalize upd H8 r (.lst [.ref xx,.ref yy,.ref zz]) = H9 at s89 r9
   have s57:=s56.trans s67
   have s58:=s57.trans s78
   have s59:=s58.trans s89
   have hs9:=s59 _ _ hs5
   refine ⟨sl,_,_,rfl,rfl,hs9,by rw [List.length_map,List.length_range];exact small1000 (by omega),?_⟩
   have f10:Mir.Fr [sl] H9 (upd H9 sl (.lst ((List.range i).map (fun k=>V.ref (s k)) ++ [.ref r]))):=Mir.Fr.upd (List.mem_singleton.mpr rfl)
   have q9:Mir.Ls H9 [sl]:=fun z hz=>by cases List.mem_singleton.mp hz;exact ⟨_,hs9⟩
   have hs10:upd H9 sl (.lst ((List.range i).map (fun k=>V.ref (s k)) ++ [.ref r])) sl = some (.lst ((List.range i).map (fun k=>V.ref (s k)) ++ [.ref r])):=upd_same
   generalize upd H9 sl (.lst ((List.range i).map (fun k=>V.ref (s k)) ++ [.ref r])) = H10 at f10 hs10
   have fx:H3 xx = none:=s34.free (n5 _ hxx)
   have fy:H3 yy = none:=s34.free (n5 _ (s56.free hyy))
   have fz:H3 zz = none:=s34.free (n5 _ (s57.free hzz))
   have frr:H3 r = none:=s34.free (n5 _ (s58.free hr))
   have nsl:∀ {y:Addr},H3 y = none→y ∉ [sl]:=fun {y} e z=>by have q:=B3.hs;rw [← List.mem_singleton.mp z,e] at q;cases q
   have x8:=(s67.trans s78) _ _ x6
   have y8:=s78 _ _ y7
   have nxr:xx≠r:=ne_of_none x8 hr
   have nyr:yy≠r:=ne_of_none y8 hr
   have nzr:zz≠r:=ne_of_none z8 hr
   have nd:[a',b',c',xx,yy,zz].Nodup:=by
    have h1:=J5.t.ab
    have h2:=J5.t.ac
    have h3:=J5.t.bc
    have h4:=ne_of_none a5 hxx
    have h5:=ne_of_none b5 hxx
    have h6:=ne_of_none c5 hxx
    have h7:=ne_of_none (s56 _ _ a5) hyy
    have h8:=ne_of_none (s56 _ _ b5) hyy
    have h9:=ne_of_none (s56 _ _ c5) hyy
    have g1:=ne_of_none (s57 _ _ a5) hzz
    have g2:=ne_of_none (s57 _ _ b5) hzz
    have g3:=ne_of_none (s57 _ _ c5) hzz
    have g4:=ne_of_none x6 hyy
    have g5:=ne_of_none (s67 _ _ x6) hzz
    have g6:=ne_of_none y7 hzz
    simp [h1,h2,h3,h4,h5,h6,h7,h8,h9,g1,g2,g3,g4,g5,g6]
   have nr:r ∉ [a',b',c',xx,yy,zz]:=fun z=>by
    have g1:=ne_of_none (s58 _ _ a5) hr
    have g2:=ne_of_none (s58 _ _ b5) hr
    have g3:=ne_of_none (s58 _ _ c5) hr
    simp [g1.symm,g2.symm,g3.symm,nxr.symm,nyr.symm,nzr.symm] at z
   have J10:Mir.JAt C_Journal H10 x a' b' c' ms [] []:=(J5.same s59).fr f10 q9 fun y hy=>Mir.mem3 (P:=fun y=>y ∉ [sl]) hy (nsl ha) (nsl hb) (nsl hc)
   have S10:Mir.SAt H10 r xx yy zz ms [] []:=by
    refine ⟨f10 _ _ r9 (nsl frr),⟨?_,?_,?_,?_,?_,?_⟩,Mir.nm3 nxr.symm nyr.symm nzr.symm⟩
    ·refine ⟨[l],f10 _ _ (s89 _ _ x8) (nsl fx),rfl,fun j u q e1 e2=>?_⟩
     cases j with
     | zero =>
      cases e1
      cases e2
      exact f10.tup q9 (s59 _ _ hl5)
     | succ j=>cases e1
    ·exact Mir.TsT.nil (f10 _ _ (s89 _ _ y8) (nsl fy))
    ·exact Mir.TsT.nil (f10 _ _ (s89 _ _ z8) (nsl fz))
    ·exact ne_of_none x6 hyy
    ·exact ne_of_none (s67 _ _ x6) hzz
    ·exact ne_of_none y7 hzz
   have F:Mir.Fr [bl,sl] H3 H10:=((Mir.Fr.same s34).trans (f5.mono (M:=[bl,sl]) fun z hz=>by cases List.mem_singleton.mp hz;simp)).trans ((Mir.Fr.same s59).trans (f10.mono fun z hz=>by cases List.mem_singleton.mp hz;simp))
   have BM:=B3.more (q:=x) (r:=r) ha hb hc fx fy fz frr nd nr J10 S10 F (by rw [f10 _ _ (s59 _ _ hb5) fun z=>B3.bs (List.mem_singleton.mp z),Mir.range_snoc]) (by rw [hs10,Mir.range_snoc])
   rw [Mir.stN_nil] at BM
   have s10:Same H H10:=fun b o e=>F b o (s13 b o e) fun z=>by
    rcases List.mem_cons.mp z with z | z
    ·exact ne_of_none e hbl z
    ·exact ne_of_none e hsl0 (List.mem_singleton.mp z)
   refine ⟨_,_,_,_,Mir.stN n i (1 + v % 5).toNat,_,_,rfl,s10,BM,fun j i' hj hi'=>?_,fun j hj=>?_⟩
   ·by_cases c:j = i
    ·subst c
     rw [Mir.stN_same]
     exact Mir.six (P:=fun y=>H y = none) (s13.free ha) (s13.free hb) (s13.free hc) (s13.free fx) (s13.free fy) (s13.free fz) i' hi'
    ·rw [Mir.stN_ne c]
     exact FF j i' (by omega) hi'
   by_cases c:j = i
   ·subst c
    rw [Mir.stN_same,Mir.stN_same]
    exact W0
   ·rw [Mir.stN_ne c,Mir.stN_ne c]
    exact WW j (by omega)
  ·rintro σ H2 ⟨p,s,m,w0,n,v3,v4,rfl,s2,BB,FF,WW⟩
   exact ⟨bl,sl,p,s,m,w0,n,v3,v4,rfl,s2,BB,WW,FF,hbl,rfl⟩
end
theorem us0 {R:List Value→Prop} (h:∀ _:Unit,R []) (us:List Value) (e:us.length = 0):R us:=(List.length_eq_zero_iff.mp e) ▸ h ()
theorem us1 {R:List Value→Prop} (h:∀ x0:Value,R [x0]) (us:List Value) (e:us.length = 1):R us:=by
 obtain ⟨a,r,rfl⟩:=List.exists_cons_of_length_eq_add_one e
 exact us0 (R:=fun r=>R (a :: r)) (fun _=>h a) r (Nat.succ.inj e)
theorem us2 {R:List Value→Prop} (h:∀ x0 x1:Value,R [x0,x1]) (us:List Value) (e:us.length = 2):R us:=by
 obtain ⟨a,r,rfl⟩:=List.exists_cons_of_length_eq_add_one e
 exact us1 (R:=fun r=>R (a :: r)) (h a) r (Nat.succ.inj e)
theorem us3 {R:List Value→Prop} (h:∀ x0 x1 x2:Value,R [x0,x1,x2]) (us:List Value) (e:us.length = 3):R us:=by
 obtain ⟨a,r,rfl⟩:=List.exists_cons_of_length_eq_add_one e
 exact us2 (R:=fun r=>R (a :: r)) (h a) r (Nat.succ.inj e)
theorem fn1 (x:Str) (st:Stmt) (p0:Str) {K:PySem.W.Frag} {h:Heap} {mg:Str→Option Value} {f:Addr} {od an:Option Addr} {sl:Array (Option Value)} {oc kV dc pm cd ct:Value} (X:K.In h) (G:h.Ns mainGlobals mg) (a:PySem.W.nsIn K mainGlobals x = some (some (.ref f))) (l:K.lookup f = some ⟨oc,od,.func (PySem.W.fnOf x x (defArgs st) (defBody st) (defScope st) .none kV dc pm an cd ct),sl⟩) (c:PySem.W.codeIn K cd x = true) (k:PySem.W.keepIn K (.ref f) = true) (hb:∀ (kV doc pm:Value) (an:Option Addr) (cdv ct:Value) (x0:Value),bindArgs (PySem.W.fnOf x x (defArgs st) (defBody st) (defScope st) .none kV doc pm an cdv ct) ⟨[x0],[]⟩ = pure (List.zip [p0] [x0])):Fn K mg x st [p0] f (PySem.W.fnOf x x (defArgs st) (defBody st) (defScope st) .none kV dc pm an cd ct) :=
 Fn.mk' (fun_mk (st:=st) l c k) (fun kV doc pm an cdv ct us hl=>us1 (R:=fun us=>bindArgs _ ⟨us,[]⟩ = pure (List.zip _ us)) (hb kV doc pm an cdv ct) us hl) (PySem.W.mg_of X G a)
theorem fn2 (x:Str) (st:Stmt) (p0 p1:Str) {K:PySem.W.Frag} {h:Heap} {mg:Str→Option Value} {f:Addr} {od an:Option Addr} {sl:Array (Option Value)} {oc kV dc pm cd ct:Value} (X:K.In h) (G:h.Ns mainGlobals mg) (a:PySem.W.nsIn K mainGlobals x = some (some (.ref f))) (l:K.lookup f = some ⟨oc,od,.func (PySem.W.fnOf x x (defArgs st) (defBody st) (defScope st) .none kV dc pm an cd ct),sl⟩) (c:PySem.W.codeIn K cd x = true) (k:PySem.W.keepIn K (.ref f) = true) (hb:∀ (kV doc pm:Value) (an:Option Addr) (cdv ct:Value) (x0 x1:Value),bindArgs (PySem.W.fnOf x x (defArgs st) (defBody st) (defScope st) .none kV doc pm an cdv ct) ⟨[x0,x1],[]⟩ = pure (List.zip [p0,p1] [x0,x1])):Fn K mg x st [p0,p1] f (PySem.W.fnOf x x (defArgs st) (defBody st) (defScope st) .none kV dc pm an cd ct) :=
 Fn.mk' (fun_mk (st:=st) l c k) (fun kV doc pm an cdv ct us hl=>us2 (R:=fun us=>bindArgs _ ⟨us,[]⟩ = pure (List.zip _ us)) (hb kV doc pm an cdv ct) us hl) (PySem.W.mg_of X G a)
theorem fn3 (x:Str) (st:Stmt) (p0 p1 p2:Str) {K:PySem.W.Frag} {h:Heap} {mg:Str→Option Value} {f:Addr} {od an:Option Addr} {sl:Array (Option Value)} {oc kV dc pm cd ct:Value} (X:K.In h) (G:h.Ns mainGlobals mg) (a:PySem.W.nsIn K mainGlobals x = some (some (.ref f))) (l:K.lookup f = some ⟨oc,od,.func (PySem.W.fnOf x x (defArgs st) (defBody st) (defScope st) .none kV dc pm an cd ct),sl⟩) (c:PySem.W.codeIn K cd x = true) (k:PySem.W.keepIn K (.ref f) = true) (hb:∀ (kV doc pm:Value) (an:Option Addr) (cdv ct:Value) (x0 x1 x2:Value),bindArgs (PySem.W.fnOf x x (defArgs st) (defBody st) (defScope st) .none kV doc pm an cdv ct) ⟨[x0,x1,x2],[]⟩ = pure (List.zip [p0,p1,p2] [x0,x1,x2])):Fn K mg x st [p0,p1,p2] f (PySem.W.fnOf x x (defArgs st) (defBody st) (defScope st) .none kV dc pm an cd ct) :=
 Fn.mk' (fun_mk (st:=st) l c k) (fun kV doc pm an cdv ct us hl=>us3 (R:=fun us=>bindArgs _ ⟨us,[]⟩ = pure (List.zip _ us)) (hb kV doc pm an cdv ct) us hl) (PySem.W.mg_of X G a)
theorem mfn1 (x q:Str) (st:Stmt) (p0:Str) {cn:Str} {K:PySem.W.Frag} {C:Addr} {mg:Str→Option Value} {f:Addr} {od an:Option Addr} {sl:Array (Option Value)} {oc kV dc pm cd ct:Value} {h:Heap} (_:K.In h) (_:mg cn = some (.ref C)) (a:PySem.W.findIn K (.ref C) x = some (some (.ref f))) (i:PySem.W.isFn K (.ref f) = true) (l:K.lookup f = some ⟨oc,od,.func (PySem.W.fnOf x q (defArgs st) (defBody st) (defScope st) .none kV dc pm an cd ct),sl⟩) (c:PySem.W.codeIn K cd q = true) (k:PySem.W.keepIn K (.ref f) = true) (hb:∀ (kV doc pm:Value) (an:Option Addr) (cdv ct:Value) (x0:Value),bindArgs (PySem.W.fnOf x q (defArgs st) (defBody st) (defScope st) .none kV doc pm an cdv ct) ⟨[x0],[]⟩ = pure (List.zip [p0] [x0])):MFn K C x q st [p0] f (PySem.W.fnOf x q (defArgs st) (defBody st) (defScope st) .none kV dc pm an cd ct) :=
 ⟨fun_mk (st:=st) l c k,(fun_mk (st:=st) l c k).binds (fun kV doc pm an cdv ct us hl=>us1 (R:=fun us=>bindArgs _ ⟨us,[]⟩ = pure (List.zip _ us)) (hb kV doc pm an cdv ct) us hl),⟨a,i,k⟩⟩
theorem mfn2 (x q:Str) (st:Stmt) (p0 p1:Str) {cn:Str} {K:PySem.W.Frag} {C:Addr} {mg:Str→Option Value} {f:Addr} {od an:Option Addr} {sl:Array (Option Value)} {oc kV dc pm cd ct:Value} {h:Heap} (_:K.In h) (_:mg cn = some (.ref C)) (a:PySem.W.findIn K (.ref C) x = some (some (.ref f))) (i:PySem.W.isFn K (.ref f) = true) (l:K.lookup f = some ⟨oc,od,.func (PySem.W.fnOf x q (defArgs st) (defBody st) (defScope st) .none kV dc pm an cd ct),sl⟩) (c:PySem.W.codeIn K cd q = true) (k:PySem.W.keepIn K (.ref f) = true) (hb:∀ (kV doc pm:Value) (an:Option Addr) (cdv ct:Value) (x0 x1:Value),bindArgs (PySem.W.fnOf x q (defArgs st) (defBody st) (defScope st) .none kV doc pm an cdv ct) ⟨[x0,x1],[]⟩ = pure (List.zip [p0,p1] [x0,x1])):MFn K C x q st [p0,p1] f (PySem.W.fnOf x q (defArgs st) (defBody st) (defScope st) .none kV dc pm an cd ct) :=
 ⟨fun_mk (st:=st) l c k,(fun_mk (st:=st) l c k).binds (fun kV doc pm an cdv ct us hl=>us2 (R:=fun us=>bindArgs _ ⟨us,[]⟩ = pure (List.zip _ us)) (hb kV doc pm an cdv ct) us hl),⟨a,i,k⟩⟩
theorem walk {l:PySem.W.OpenLaw} {q:Program} {loose:List Str} {XP:(Str→Option Value)→Heap→Prop} {YP:World→Heap→Prop} {d:DefRec} {K:Params→PySem.W.Frag} (hn:l.most = some 63) (hdf:d.params.defaults = [])
  (hY:∀ (w:World) (h:Heap),YP w h→(K w.params).In h)
  (F:∀ (w:World) (mg:Str→Option Value) (fa:Addr) (h:Heap),(K w.params).In h→h.Ns mainGlobals mg→mg d.name = some (.ref fa) →
   ∃ fd:FuncData,(∀ (s:Shared) (u:Value),BindsTo s fd ⟨[u],[]⟩ [("script",u)])∧∀ base:Heap,(K w.params).In base→base.Ns mainGlobals mg→FnOk l.prog w (K w.params) mg base CX0 9 fa fd ["script"] (spLaw (K w.params))) :
  PySem.W.WalkO q loose XP YP l.row.toRowW d [] (fun f vs=>PySem.call f vs) :=
 L2.walk_of (n:=63) (k:=9) (x:="script") (CX:=fun _=>CX0) (sp:=fun w=>spLaw (K w.params)) hn (by decide) hdf ⟨rfl,by decide,by decide,rfl⟩ hY F (fun _ _ a ns hl _ hS=>⟨a,ns,rfl,hS,hl,fun _=>rfl⟩) fun _ _ _ _ _ z=>z
end Law
noncomputable def PySem.W.Fast.tw2420935728168041768:=0
noncomputable def PySem.W.Fast.tw15436548455358224535:=0
noncomputable def PySem.W.Fast.tw17552580994208703663:=0
noncomputable def PySem.W.Fast.tw7575856099066935500:=0
noncomputable def PySem.W.Fast.tw17370602442405943826:=0
noncomputable def PySem.W.Fast.tw8069297913360449199:=0
noncomputable def PySem.W.Fast.tw3759196134494616773:=0
noncomputable def PySem.W.Fast.tw13018641493393148386:=0
noncomputable def PySem.W.Fast.tw4507317178085379624:=0
noncomputable def PySem.W.Fast.tw12393647938765742619:=0
noncomputable def PySem.W.Fast.tw1756110784662704261:=0
noncomputable def PySem.W.Fast.tw13298456574319816352:=0
noncomputable def PySem.W.Fast.tw10921042577471293984:=0
noncomputable def PySem.W.Fast.tw14639584182971282123:=0
noncomputable def PySem.W.Fast.tw15408642321667697348:=0
noncomputable def PySem.W.Fast.tw13459314124630665612:=0
noncomputable def PySem.W.Fast.tw5039756146727368951:=0
noncomputable def PySem.W.Fast.tw15349290849860418038:=0
noncomputable def PySem.W.Fast.tw8449542037636044314:=0
noncomputable def PySem.W.Fast.tw9889171666955528468:=0
noncomputable def PySem.W.Fast.tw17748829694572577058:=0
noncomputable def PySem.W.Fast.tw2992124162216356188:=0
noncomputable def PySem.W.Fast.tw16818752171819702038:=0
noncomputable def PySem.W.Fast.tw12638764819052709463:=0
noncomputable def PySem.W.Fast.tw2275620052254978460:=0
noncomputable def PySem.W.Fast.tw1910721802020863447:=0
noncomputable def PySem.W.Fast.tw15120859533502556060:=0
noncomputable def PySem.W.Fast.tw182797063482571010:=0
noncomputable def PySem.W.Fast.tw13829060496991366473:=0
noncomputable def PySem.W.Fast.tw390491250022389770:=0
noncomputable def PySem.W.Fast.tw6672770052895056734:=0
noncomputable def PySem.W.Fast.tw14550752976785387472:=0
noncomputable def PySem.W.Fast.tw17587393288425540273:=0
noncomputable def PySem.W.Fast.tw18395539388273442842:=0
noncomputable def PySem.W.Fast.tw14176482426476174793:=0
noncomputable def PySem.W.Fast.tw9051302827575640476:=0
noncomputable def PySem.W.Fast.tw13971117383380246659:=0
noncomputable def PySem.W.Fast.tw8154393455068015126:=0
noncomputable def PySem.W.Fast.tw17816212121484701737:=0
noncomputable def PySem.W.Fast.tw16450543241670909029:=0
noncomputable def PySem.W.Fast.tw6297521282448899395:=0
noncomputable def PySem.W.Fast.tw10083359220650389303:=0
noncomputable def PySem.W.Fast.tw14942714515210608140:=0
noncomputable def PySem.W.Fast.tw9788617915743130023:=0
noncomputable def PySem.W.Fast.tw1689629152669022394:=0
noncomputable def PySem.W.Fast.tw17758863440921525686:=0
noncomputable def PySem.W.Fast.tw15032718727912336650:=0
noncomputable def PySem.W.Fast.tw7723877904241901617:=0
noncomputable def PySem.W.Fast.tw3794222759927215702:=0
noncomputable def PySem.W.Fast.tw18092481938624774934:=0
noncomputable def PySem.W.Fast.tw15624841683155562009:=0
noncomputable def PySem.W.Fast.tw3999602826475375773:=0
noncomputable def PySem.W.Fast.tw17473741370853766873:=0
noncomputable def PySem.W.Fast.tw9090030999023029945:=0
noncomputable def PySem.W.Fast.tw12250810073122493199:=0
open PySem PySem.W PyProof.Rows
set_option maxRecDepth 100000 in
set_option maxHeartbeats 0 in
theorem PySem.Challenge.cw_claspwork_k17_journals_holds : PySem.Challenge.rw_claspwork_k17_journals.Holds := by
 w_on;o_law;k_head;(case hw=>w_witness2)
 k_fill
 refine Law.walk (l:=PySem.Challenge.rw_claspwork_k17_journals) rfl rfl (fun w h Y=>PySem.W.kIn_of Y) ?F
 case F =>
  intro w mg fa h X G hmg
  have F0:=Law.fn1 "staves_in" Law.s_staves_in "work" X G (by k_is) (by k_is) (by k_is) (by k_is) fun _ _ _ _ _ _ _=>rfl
  have F1:=Law.fn1 "far_end" Law.s_far_end "end" X G (by k_is) (by k_is) (by k_is) (by k_is) fun _ _ _ _ _ _ _=>rfl
  have F2:=Law.fn1 "loose_ends" Law.s_loose_ends "work" X G (by k_is) (by k_is) (by k_is) (by k_is) fun _ _ _ _ _ _ _=>rfl
  have F3:=Law.fn1 "rows_in" Law.s_rows_in "work" X G (by k_is) (by k_is) (by k_is) (by k_is) fun _ _ _ _ _ _ _=>rfl
  have F4:=Law.fn1 "rings_in" Law.s_rings_in "work" X G (by k_is) (by k_is) (by k_is) (by k_is) fun _ _ _ _ _ _ _=>rfl
  have F5:=Law.fn2 "walked_from" Law.s_walked_from "work" "start" X G (by k_is) (by k_is) (by k_is) (by k_is) fun _ _ _ _ _ _ _ _=>rfl
  have F6:=Law.fn2 "mark_staves" Law.s_mark_staves "seen" "chain" X G (by k_is) (by k_is) (by k_is) (by k_is) fun _ _ _ _ _ _ _ _=>rfl
  have F7:=Law.fn2 "fits_work" Law.s_fits_work "work" "deed" X G (by k_is) (by k_is) (by k_is) (by k_is) fun _ _ _ _ _ _ _ _=>rfl
  have F8:=Law.fn2 "refuse_misfit" Law.s_refuse_misfit "work" "deed" X G (by k_is) (by k_is) (by k_is) (by k_is) fun _ _ _ _ _ _ _ _=>rfl
  have F9:=Law.fn2 "reclasped" Law.s_reclasped "work" "deed" X G (by k_is) (by k_is) (by k_is) (by k_is) fun _ _ _ _ _ _ _ _=>rfl
  have F10:=Law.fn2 "freed_ends" Law.s_freed_ends "work" "deed" X G (by k_is) (by k_is) (by k_is) (by k_is) fun _ _ _ _ _ _ _ _=>rfl
  have F11:=Law.fn3 "clasp_ends" Law.s_clasp_ends "mates" "one" "other" X G (by k_is) (by k_is) (by k_is) (by k_is) fun _ _ _ _ _ _ _ _ _=>rfl
  have F12:=Law.fn2 "told_deed" Law.s_told_deed "work" "deed" X G (by k_is) (by k_is) (by k_is) (by k_is) fun _ _ _ _ _ _ _ _=>rfl
  have F13:=Law.fn2 "least_pair" Law.s_least_pair "work" "deed" X G (by k_is) (by k_is) (by k_is) (by k_is) fun _ _ _ _ _ _ _ _=>rfl
  have F14:=Law.fn2 "deed_kind" Law.s_deed_kind "work" "deed" X G (by k_is) (by k_is) (by k_is) (by k_is) fun _ _ _ _ _ _ _ _=>rfl
  have F15:=Law.fn2 "chain_with" Law.s_chain_with "chains" "end" X G (by k_is) (by k_is) (by k_is) (by k_is) fun _ _ _ _ _ _ _ _=>rfl
  have F16:=Law.fn2 "_law_cell" Law.s_law_cell "script" "k" X G (by k_is) (by k_is) (by k_is) (by k_is) fun _ _ _ _ _ _ _ _=>rfl
  have F17:=Law.fn2 "_law_number" Law.s_law_number "script" "k" X G (by k_is) (by k_is) (by k_is) (by k_is) fun _ _ _ _ _ _ _ _=>rfl
  have F18:=Law.fn3 "_law_work" Law.s_law_work "script" "at" "staves" X G (by k_is) (by k_is) (by k_is) (by k_is) fun _ _ _ _ _ _ _ _ _=>rfl
  have F19:=Law.fn3 "_law_fits" Law.s_law_fits "work" "one" "two" X G (by k_is) (by k_is) (by k_is) (by k_is) fun _ _ _ _ _ _ _ _ _=>rfl
  have F20:=Law.fn3 "_law_behind" Law.s_law_behind "work" "one" "two" X G (by k_is) (by k_is) (by k_is) (by k_is) fun _ _ _ _ _ _ _ _ _=>rfl
  have F21:=Law.fn2 "_law_done" Law.s_law_done "book" "thing" X G (by k_is) (by k_is) (by k_is) (by k_is) fun _ _ _ _ _ _ _ _=>rfl
  have F22:=Law.fn2 "_law_due" Law.s_law_due "state" "thing" X G (by k_is) (by k_is) (by k_is) (by k_is) fun _ _ _ _ _ _ _ _=>rfl
  have F23:=Law.fn2 "_law_moved" Law.s_law_moved "state" "thing" X G (by k_is) (by k_is) (by k_is) (by k_is) fun _ _ _ _ _ _ _ _=>rfl
  have F24:=Law.fn2 "_law_thing" Law.s_law_thing "cell" "work" X G (by k_is) (by k_is) (by k_is) (by k_is) fun _ _ _ _ _ _ _ _=>rfl
  have F25:=Law.fn2 "_law_shows" Law.s_law_shows "book" "state" X G (by k_is) (by k_is) (by k_is) (by k_is) fun _ _ _ _ _ _ _ _=>rfl
  have F26:=Law.fn1 "law" Law.s_law "script" X G (by k_is) (by k_is) (by k_is) (by k_is) fun _ _ _ _ _ _ _=>rfl
  have g_Journal:=PySem.W.mg_of (n:="Journal") X G (by k_is)
  have M0:=Law.mfn2 "__init__" "Journal.__init__" Law.s_Journal_init "self" "work" X g_Journal (by k_is) (by k_is) (by k_is) (by k_is) (by k_is) fun _ _ _ _ _ _ _ _=>rfl
  have M1:=Law.mfn1 "now" "Journal.now" Law.s_Journal_now "self" X g_Journal (by k_is) (by k_is) (by k_is) (by k_is) (by k_is) fun _ _ _ _ _ _ _=>rfl
  have M2:=Law.mfn1 "deeds" "Journal.deeds" Law.s_Journal_deeds "self" X g_Journal (by k_is) (by k_is) (by k_is) (by k_is) (by k_is) fun _ _ _ _ _ _ _=>rfl
  have M3:=Law.mfn1 "works" "Journal.works" Law.s_Journal_works "self" X g_Journal (by k_is) (by k_is) (by k_is) (by k_is) (by k_is) fun _ _ _ _ _ _ _=>rfl
  have M4:=Law.mfn2 "do" "Journal.do" Law.s_Journal_do "self" "deed" X g_Journal (by k_is) (by k_is) (by k_is) (by k_is) (by k_is) fun _ _ _ _ _ _ _ _=>rfl
  have M5:=Law.mfn2 "go_on" "Journal.go_on" Law.s_Journal_go_on "self" "deed" X g_Journal (by k_is) (by k_is) (by k_is) (by k_is) (by k_is) fun _ _ _ _ _ _ _ _=>rfl
  have M6:=Law.mfn1 "back" "Journal.back" Law.s_Journal_back "self" X g_Journal (by k_is) (by k_is) (by k_is) (by k_is) (by k_is) fun _ _ _ _ _ _ _=>rfl
  have M7:=Law.mfn1 "again" "Journal.again" Law.s_Journal_again "self" X g_Journal (by k_is) (by k_is) (by k_is) (by k_is) (by k_is) fun _ _ _ _ _ _ _=>rfl
  cases hmg.symm.trans F26.g
  have g_BadDeed:=PySem.W.mg_of (n:="BadDeed") X G (by k_is)
  have g_NoSuch:=PySem.W.mg_of (n:="NoSuch") X G (by k_is)
  refine' ⟨_,fun s v=>.of_eq rfl,fun base _ _=>Law.ok_law ⟨PySem.W.mg_none_of X G (by k_is),PySem.W.mg_none_of X G (by k_is),PySem.W.mg_none_of X G (by k_is),PySem.W.mg_none_of X G (by k_is),PySem.W.mg_none_of X G (by k_is),PySem.W.mg_none_of X G (by k_is),PySem.W.mg_none_of X G (by k_is),PySem.W.mg_none_of X G (by k_is),PySem.W.mg_none_of X G (by k_is)⟩ ⟨g_BadDeed,⟨_,_,_,_,(by kernel_rfl),PySem.F.excBase_ValueError⟩⟩ ⟨g_NoSuch,⟨_,_,_,_,(by kernel_rfl),PySem.F.excBase_ValueError⟩⟩ ⟨⟨by k_is,by k_is,by k_is,by k_is⟩,(by unfold L2.NoAttr;k_is),(by unfold L2.NoAttr;k_is),(by unfold L2.NoAttr;k_is),g_Journal,⟨by k_is,by k_is⟩⟩ (by kernel_rfl) (by kernel_rfl) (by kernel_rfl) F0 F1 F2 F3 F4 F5 F6 F7 F8 F9 F10 F11 F12 F13 F14 F15 F16 F17 F18 F19 F20 F21 F22 F23 F24 F25 F26 M0 M1 M2 M3 M4 M5 M6 M7⟩


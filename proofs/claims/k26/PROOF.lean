import PyProof.Rows.All
import Wide.All
import OpenK.AllK
import Wide.FinOn
import Lean
import PyProof.EqAt
import PyProof.EqKinds
import PyProof.TupleCall
import PyProof.SumWalkG
import KE.KTryMore
import PyProof.NeKinds
import PyProof.ExcAttrAll.ValueError
import KE.KRevIter
import PyProof.ReprRoads
import PyProof.ReprLen
import PyProof.TupleOfSeq
import KE.BitLaws
import PyProof.Rows.SortRuns
import PyProof.Rows.SortShell
import KE.KSortKey
import PyProof.WalkInts
import KE.KSortTup
import PyProof.DictValues
import PyProof.DictItems
import PySem.Challenge.RW_claspwork_k26_papers_refused
set_option genSizeOf false
set_option Elab.async false
set_option linter.all false
set_option maxRecDepth 100000
local macro_rules
 | `(tactic| omega)=>`(tactic| first | lia | omega (config:={}))
namespace L2
open PySem PySem.Spec PyProof.Rows

noncomputable abbrev Key:=Sum Int Str
noncomputable def keyIs:Key→Value→Bool
 | .inl k,v=>Value.isInt k v
 | .inr x,v=>Value.isStrOf x v
noncomputable def keyH (w:World):Key→Int
 | .inl k=>hashInt k
 | .inr x=>hashStr w x
theorem keyIs_shape:∀ {k:Key} {v:Value},keyIs k v = true→(∃ i t,k = Sum.inl i∧v = Value.int i t)∨(∃ x t,k = Sum.inr x∧v = Value.str x t)
 | .inl i,v,h=>by
  obtain ⟨t,e⟩:=Value.isInt_shape (k:=i) (v:=v) h
  exact .inl ⟨i,t,rfl,e⟩
 | .inr x,v,h=>by
  obtain ⟨t,e⟩:=Value.isStrOf_shape (x:=x) (v:=v) h
  exact .inr ⟨x,t,rfl,e⟩
theorem keyIs_int (i:Int) (t:Tok):keyIs (.inl i) (.int i t) = true:=by simp [keyIs,Value.isInt]
theorem keyIs_str (x:Str) (t:Tok):keyIs (.inr x) (.str x t) = true:=by simp [keyIs,Value.isStrOf]
theorem key_ll (a b:Int):decide ((Sum.inl a:Key) = Sum.inl b) = (a == b):=by
 by_cases e:a = b
 ·subst e;simp
 ·have h:¬ (Sum.inl a:Key) = Sum.inl b:=fun q=>e (Sum.inl.inj q)
  rw [decide_eq_false h]
  exact (beq_eq_false_iff_ne.mpr e).symm
theorem key_rr (a b:Str):decide ((Sum.inr a:Key) = Sum.inr b) = decide (a = b):=by
 by_cases e:a = b
 ·subst e;simp
 ·have h:¬ (Sum.inr a:Key) = Sum.inr b:=fun q=>e (Sum.inr.inj q)
  rw [decide_eq_false h,decide_eq_false e]
theorem key_lr (a:Int) (b:Str):decide ((Sum.inl a:Key) = Sum.inr b) = false:=decide_eq_false (fun q=>nomatch q)
theorem key_rl (a:Str) (b:Int):decide ((Sum.inr a:Key) = Sum.inl b) = false:=decide_eq_false (fun q=>nomatch q)

noncomputable def mixKind (prog:Program) (w:World):PySem.KeyKind prog w Key where
 is:=keyIs
 hash:=keyH w
 inj:=fun v a b ha hb=>by
  rcases keyIs_shape ha with ⟨i,t,rfl,rfl⟩ | ⟨x,t,rfl,rfl⟩
  ·rcases keyIs_shape hb with ⟨j,u,rfl,e⟩ | ⟨y,u,rfl,e⟩
   ·injection e with e1 _;rw [e1]
   ·exact nomatch e
  ·rcases keyIs_shape hb with ⟨j,u,rfl,e⟩ | ⟨y,u,rfl,e⟩
   ·exact nomatch e
   ·injection e with e1 _;rw [e1]
 byValue:=fun k v h=>by
  rcases keyIs_shape h with ⟨i,t,rfl,rfl⟩ | ⟨x,t,rfl,rfl⟩ <;> rfl
 pyHash:=fun hv h=>by
  rcases keyIs_shape hv with ⟨i,t,rfl,rfl⟩ | ⟨x,t,rfl,rfl⟩
  ·exact wpAny_pyHash_int h
  ·exact wpAny_pyHash_str h
 eqBool:=fun hu hv h=>by
  rcases keyIs_shape hu with ⟨i,t,rfl,rfl⟩ | ⟨x,t,rfl,rfl⟩
  ·rcases keyIs_shape hv with ⟨j,u,rfl,rfl⟩ | ⟨y,u,rfl,rfl⟩
   ·rw [key_ll] at h;exact wpAny_eqBool_int h
   ·rw [key_lr] at h;exact SeqAt.EqAt.int_str i t y u _ _ _ _ h
  ·rcases keyIs_shape hv with ⟨j,u,rfl,rfl⟩ | ⟨y,u,rfl,rfl⟩
   ·rw [key_rl] at h;exact SeqAt.EqAt.str_int x t j u _ _ _ _ h
   ·rw [key_rr] at h;exact wpAny_eqBool_str h
 «strs»:=fun k x t v h=>by
  rcases keyIs_shape h with ⟨i,u,rfl,e⟩ | ⟨y,u,rfl,e⟩
  ·exact nomatch e
  ·injection e with e1 _
   subst e1
   cases v <;> rfl

theorem mixKind_int (prog:Program) (w:World) (i:Int) (t:Tok):(mixKind prog w).is (.inl i) (.int i t) = true:=keyIs_int i t
theorem mixKind_str (prog:Program) (w:World) (x:Str) (t:Tok):(mixKind prog w).is (.inr x) (.str x t) = true:=keyIs_str x t
end L2

namespace L2
open PySem PySem.Spec PyProof.Rows

inductive V where
 | non | bl (b:Bool) | int (i:Int) | str (x:Str) | byt (b:Array UInt8) | flt (b:UInt64) | ref (a:Addr) | ty (n:String)
 deriving DecidableEq

noncomputable def RelV:V→Value→Prop
 | .non,u=>u = Value.none
 | .bl b,u=>u = Value.bool b
 | .int i,u=>∃ t,u = Value.int i t
 | .str x,u=>∃ t,u = Value.str x t
 | .byt b,u=>∃ t,u = Value.bytes b t
 | .flt b,u=>∃ t,u = Value.float b t
 | .ref a,u=>u = Value.ref a
 | .ty n,u=>u = Value.type n

noncomputable abbrev Vals:List V→List Value→Prop:=Paired RelV
theorem Vals.length {xs:List V} {us:List Value} (r:Vals xs us):xs.length = us.length:=Paired.length r
theorem Vals.get:∀ {xs:List V} {us:List Value} {i:Nat} {x:V},Vals xs us→xs[i]? = some x→∃ u,us[i]? = some u∧RelV x u
 | _,_,_,_,.nil,e=>by simp at e
 | _,_,0,_,.cons r _,e=>by simp at e;subst e;exact ⟨_,rfl,r⟩
 | _,_,i + 1,x,.cons _ t,e=>by
  obtain ⟨u,h1,h2⟩:=Vals.get (i:=i) (x:=x) t (by simpa using e)
  exact ⟨u,by simpa using h1,h2⟩
theorem Vals.set {x:V} {u:Value} (r:RelV x u):∀ {xs:List V} {us:List Value} (i:Nat),Vals xs us→Vals (xs.set i x) (us.set i u)
 | _,_,_,.nil=>.nil
 | _,_,0,.cons _ t=>.cons r t
 | _,_,i + 1,.cons q t=>.cons q (Vals.set r i t)
theorem Vals.append:∀ {xs ys:List V} {us ws:List Value},Vals xs us→Vals ys ws→Vals (xs ++ ys) (us ++ ws)
 | _,_,_,_,.nil,s=>s
 | _,_,_,_,.cons r t,s=>.cons r (Vals.append t s)
theorem Vals.take:∀ {xs:List V} {us:List Value} (n:Nat),Vals xs us→Vals (xs.take n) (us.take n)
 | _,_,0,_=>.nil
 | _,_,_ + 1,.nil=>.nil
 | _,_,n + 1,.cons r t=>.cons r (Vals.take n t)
theorem Vals.drop:∀ {xs:List V} {us:List Value} (n:Nat),Vals xs us→Vals (xs.drop n) (us.drop n)
 | _,_,0,r=>r
 | _,_,_ + 1,.nil=>.nil
 | _,_,n + 1,.cons _ t=>Vals.drop n t
noncomputable def RelO:Option V→Option Value→Prop
 | some v,some u=>RelV v u
 | none,none=>True
 | _,_=>False
noncomputable def KV {κ:Type}:List (κ×V)→List (κ×Value)→Prop:=Paired fun (p:κ×V) (q:κ×Value)=>p.1 = q.1∧RelV p.2 q.2

noncomputable def kV:Key→V
 | .inl i=>.int i
 | .inr x=>.str x

inductive HO where
 | lst (xs:List V)
 | tup (xs:List V)
 | dK (kvs:List (Key×V)) | dT (kvs:List (List Key×V))
 | set (S:Int→Bool) (n:Nat)
 | ins (C dx:Addr) (fs:List (Str×V))
 | own (x:Addr)
 | xd (fs:List (Str×V))
 | met (f x:Addr)
 | rng (lo hi:Int)
 | frz (o:Obj) (u:HO)
 | tbl (ps:Array Value)
 | ext (φ:Heap→Prop)

noncomputable abbrev Hp:=Addr→Option HO
noncomputable def upd (H:Hp) (a:Addr) (o:HO):Hp:=fun b=>if b = a then some o else H b
theorem upd_same {H:Hp} {a:Addr} {o:HO}:upd H a o a = some o:=by unfold upd;rw [if_pos rfl]
theorem upd_ne {H:Hp} {a b:Addr} {o:HO} (h:b≠a):upd H a o b = H b:=by unfold upd;rw [if_neg h]
theorem upd_upd {H:Hp} {a:Addr} {o u:HO}:upd (upd H a o) a u = upd H a u:=by
 funext b;unfold upd;split <;> rfl
theorem ne_of {H:Hp} {a b:Addr} {o u:HO} (h:H a = some o) (h':H b = some u) (d:o≠u):a≠b:=by
 intro e;subst e;rw [h] at h';exact d (Option.some.inj h')
theorem ne_of_none {H:Hp} {a b:Addr} {o:HO} (h:H a = some o) (h':H b = none):a≠b:=by
 intro e;subst e;rw [h] at h';cases h'

section
variable (P:Program) (w:World)
noncomputable def ObjOk (H : Hp) (h : Heap) (a : Addr) : HO → Prop
  | .lst xs => xs.length ≤ sizeLine ∧ ∃ (its : List Value) (n : Nat), Vals xs its ∧ h.get? a = some { cls := .type "list", data := .seq its.toArray n }
  | .tup xs => xs.length ≤ sizeLine ∧ ∃ its : List Value, Vals xs its ∧ IsTup h a its.toArray
  | .dK kvs => kvs.length ≤ sizeLine ∧ (a == sysModules) = false ∧ ∃ vs, KV kvs vs ∧ h.DictOf (mixKind P w) a vs
  | .dT kvs => kvs.length ≤ sizeLine ∧ (a == sysModules) = false ∧ ∃ xs : List (List Key × Addr × Value),
      Paired (fun (p : List Key × V) (q : List Key × Addr × Value) => p.1 = q.1 ∧ H q.2.1 = some (.tup (p.1.map kV)) ∧ RelV p.2 q.2.2) kvs xs ∧
      ∃ o es ep, h.get? a = some o ∧ o.ExactDict ∧ o.data = .dict es ep ∧ es.toList = xs.map (entryOfKey (tupleKind (mixKind P w))) ∧ (xs.map (·.1)).Nodup
  | .set S n => h.SetOf (intKind P w) a S n
  | .ins C dx fs => H dx = some (.own a) ∧ fs.length ≤ 1000 ∧ dx ≠ a ∧ h.get? a = some (PySem.W.instObj C dx) ∧
      ∃ mA, h.Ns1 dx mA ∧ (∀ f, RelO (fs.lookup f) (mA f)) ∧ PySem.Within mA (fs.map (·.1))
  | .own _ => ∃ o, h.get? a = some o
  | .xd fs => ∃ mA, h.Ns1 a mA ∧ ∀ f, RelO (fs.lookup f) (mA f)
  | .rng lo hi => ∃ t u v, h.get? a = some { cls := .type "range", data := .fields #[.int lo t, .int hi u, .int 1 v] }
  | .frz o u => h.get? a = some o ∧ ObjOk H h a u
  | .tbl ps => h.get? a = some { cls := .none, data := .fields ps }
  | .met f x => h.get? a = some (PySem.W.methodObj (.ref f) (.ref x))
  | .ext φ => φ h ∧ (∃ o, h.get? a = some o) ∧ ∀ h1 h2 : Heap, φ h1 → (∀ o, h1.get? a = some o → h2.get? a = some o) → φ h2
noncomputable def HOk (H:Hp) (h:Heap):Prop:=∀ a o,H a = some o→ObjOk P w H h a o
end

section
variable {P:Program} {w:World} {H H':Hp} {h h':Heap} {a:Addr} {o:HO}
theorem ObjOk.lt (x:ObjOk P w H h a o):a < h.objs.size:=by
 cases o with
 | lst xs=>obtain ⟨_,_,_,_,e⟩:=x;exact Heap.lt_size e
 | tup xs=>obtain ⟨_,_,_,p⟩:=x;exact p.lt
 | dK kvs=>obtain ⟨_,_,_,_,o,_,_,e,_⟩:=x;exact Heap.lt_size e
 | dT kvs=>obtain ⟨_,_,_,_,o,_,_,e,_⟩:=x;exact Heap.lt_size e
 | set S n=>obtain ⟨o,_,_,_,e,_⟩:=x;exact Heap.lt_size e
 | ins C dx fs=>obtain ⟨_,_,_,e,_⟩:=x;exact Heap.lt_size e
 | own y=>obtain ⟨_,e⟩:=x;exact Heap.lt_size e
 | xd fs=>obtain ⟨_,⟨_,_,_,e,_⟩,_⟩:=x;exact Heap.lt_size e
 | rng lo hi=>obtain ⟨_,_,_,e⟩:=x;exact Heap.lt_size e
 | frz ob u=>obtain ⟨e,_⟩:=x;exact Heap.lt_size e
 | tbl ps=>exact Heap.lt_size (show h.get? a = some _ from x)
 | met f y=>exact Heap.lt_size (show h.get? a = some _ from x)
 | ext φ=>obtain ⟨_,⟨_,e⟩,_⟩:=x;exact Heap.lt_size e
theorem Paired.mapP {α β:Type} {F G:α→β→Prop}:∀ {l₁:List α} {l₂:List β},Paired F l₁ l₂→(∀ a b,F a b→G a b)→Paired G l₁ l₂
 | _,_,.nil,_=>.nil
 | _,_,.cons r t,f=>.cons (f _ _ r) (Paired.mapP t f)
theorem ObjOk.stay (x:ObjOk P w H h a o) (k:∀ b u,(b = a∨H b = some (.own a))→h.get? b = some u→h'.get? b = some u)
  (ho:∀ b,H b = some (.own a)→H' b = some (.own a)) (ht:∀ b xs,H b = some (.tup xs)→H' b = some (.tup xs)):ObjOk P w H' h' a o:=by
 induction o with
 | lst xs=>obtain ⟨z,its,n,r,e⟩:=x;exact ⟨z,its,n,r,k _ _ (.inl rfl) e⟩
 | tup xs=>obtain ⟨z,its,r,ob,e,c⟩:=x;exact ⟨z,its,r,ob,k _ _ (.inl rfl) e,c⟩
 | dK kvs=>obtain ⟨z,y,vs,r,ob,es,ep,e,c⟩:=x;exact ⟨z,y,vs,r,ob,es,ep,k _ _ (.inl rfl) e,c⟩
 | dT kvs =>
  obtain ⟨z,y,xs,r,ob,es,ep,e,c⟩:=x
  exact ⟨z,y,xs,Paired.mapP r fun p q z=>⟨z.1,ht _ _ z.2.1,z.2.2⟩,ob,es,ep,k _ _ (.inl rfl) e,c⟩
 | set S n=>obtain ⟨ob,es,ep,t,e,c⟩:=x;exact ⟨ob,es,ep,t,k _ _ (.inl rfl) e,c⟩
 | ins C dx fs =>
  obtain ⟨d,z,ne,e,mA,⟨od,es,ep,e2,c⟩,r⟩:=x
  exact ⟨ho _ d,z,ne,k _ _ (.inl rfl) e,mA,⟨od,es,ep,k _ _ (.inr d) e2,c⟩,r⟩
 | own y=>obtain ⟨ob,e⟩:=x;exact ⟨ob,k _ _ (.inl rfl) e⟩
 | xd fs=>obtain ⟨mA,⟨od,es,ep,e,c⟩,r⟩:=x;exact ⟨mA,⟨od,es,ep,k _ _ (.inl rfl) e,c⟩,r⟩
 | rng lo hi=>obtain ⟨t,u,v,e⟩:=x;exact ⟨t,u,v,k _ _ (.inl rfl) e⟩
 | frz ob u ih=>obtain ⟨e,q⟩:=x;exact ⟨k _ _ (.inl rfl) e,ih q⟩
 | tbl ps =>
  have e:h.get? a = some { cls:=.none,data:=.fields ps }:=x
  show h'.get? a = some { cls:=.none,data:=.fields ps }
  exact k a _ (.inl rfl) e
 | met f y =>
  have e:h.get? a = some (PySem.W.methodObj (.ref f) (.ref y)):=x
  show h'.get? a = some (PySem.W.methodObj (.ref f) (.ref y))
  exact k a _ (.inl rfl) e
 | ext φ=>obtain ⟨p,⟨o,e⟩,st⟩:=x;exact ⟨st _ _ p fun o q=>k _ _ (.inl rfl) q,⟨o,k _ _ (.inl rfl) e⟩,st⟩
theorem HOk.lt (x:HOk P w H h) (e:H a = some o):a < h.objs.size:=(x a o e).lt
theorem HOk.fresh (x:HOk P w H h) (e:h.objs.size≤a):H a = none:=by
 cases q:H a with
 | none=>rfl
 | some u=>exact absurd (Nat.lt_of_lt_of_le (x.lt q) e) (Nat.lt_irrefl _)
theorem HOk.kept (x:HOk P w H h) (k:∀ b u,h.get? b = some u→h'.get? b = some u):HOk P w H h':=fun a o e =>
 (x a o e).stay (fun b u _ q=>k b u q) (fun _ q=>q) fun _ _ q=>q
theorem HOk.laid (x:HOk P w H h) (k:∀ b u,h.get? b = some u→h'.get? b = some u) (hp:h.objs.size≤a) (new:ObjOk P w (upd H a o) h' a o):HOk P w (upd H a o) h':=fun b u e=>by
 have hn:=x.fresh hp
 by_cases hb:b = a
 ·subst hb;rw [upd_same] at e;cases e;exact new
 ·rw [upd_ne hb] at e
  exact (x b u e).stay (fun c v _ q=>k c v q) (fun c q=>by rw [upd_ne (ne_of_none q hn)];exact q) fun c xs q=>by rw [upd_ne (ne_of_none q hn)];exact q
end

noncomputable def Rd (H:Hp) (a:Addr) (u:HO):Prop:=H a = some u∨∃ o,H a = some (.frz o u)
theorem Rd.ok {P:Program} {w:World} {H:Hp} {h:Heap} {a:Addr} {u:HO} (r:Rd H a u) (x:HOk P w H h):ObjOk P w H h a u:=by
 rcases r with r | ⟨o,r⟩
 ·exact x a u r
 ·obtain ⟨_,q⟩:=x a _ r
  exact q
noncomputable def Mut:Option HO→Prop
 | some (.lst _)=>True
 | some (.dK _)=>True
 | some (.dT _)=>True
 | some (.set _ _)=>True
 | some (.ins _ _ _)=>True
 | some (.ext _)=>True
 | _=>False
section
variable {P:Program} {w:World} {H:Hp} {h h':Heap} {x e:Addr} {o':HO}
theorem HOk.write (ok:HOk P w H h) (mu:Mut (H x)) (he:e = x∨H e = some (.own x)) (k:∀ b u,b≠e→h.get? b = some u→h'.get? b = some u) (heo:∃ u,h'.get? e = some u)
  (new:ObjOk P w (upd H x o') h' x o'):HOk P w (upd H x o') h':=fun b u q=>by
 have nown:∀ c y,H c = some (.own y)→c≠x:=fun c y r z=>by subst z;rw [r] at mu;exact mu
 have ntup:∀ c xs,H c = some (.tup xs)→c≠x:=fun c xs r z=>by subst z;rw [r] at mu;exact mu
 by_cases hb:b = x
 ·subst hb;rw [upd_same] at q;cases q;exact new
 ·rw [upd_ne hb] at q
  by_cases hbe:b = e
  ·have q':H b = some (.own x):=by
    rcases he with z | z
    ·exact absurd (hbe.trans z) hb
    ·rw [hbe];exact z
   rw [q] at q';cases q'
   obtain ⟨v,hv⟩:=heo
   exact ⟨v,by rw [hbe];exact hv⟩
  ·refine (ok b u q).stay (fun c v hc r=>k c v ?_ r) (fun c r=>by rw [upd_ne (nown c b r)];exact r) fun c xs r=>by rw [upd_ne (ntup c xs r)];exact r
   rcases hc with rfl | hc
   ·exact hbe
   ·rintro rfl
    rcases he with z | z
    ·exact nown c b hc z
    ·rw [hc] at z;cases z;exact hb rfl
end

structure Un (fs ex:List Addr) (H H':Hp) (h h':Heap):Prop where
 keep:∀ b o,h.get? b = some o→H b = none→b ∉ fs→b ∉ ex→h'.get? b = some o
 slot:∀ b o,h.get? b = some o→H b = none→b∈fs→b ∉ ex→∃ sl,h'.get? b = some { o with slots:=sl }
 free:∀ b o,h.get? b = some o→H b = none→b ∉ ex→H' b = none
 there:∀ b o,h.get? b = some o→b ∉ ex→∃ o',h'.get? b = some o'
 tups:∀ b xs,H b = some (.tup xs)→H' b = some (.tup xs)
 frzs:∀ b o u,H b = some (.frz o u)→H' b = some (.frz o u)
 tbls:∀ b ps,H b = some (.tbl ps)→∃ more,H' b = some (.tbl (ps ++ more))
section
variable {fs fs' ex ex':List Addr} {H H1 H2:Hp} {h h1 h2 h':Heap} {a x e:Addr} {o:HO}
theorem Un.any (u:Un fs ex H H1 h h1) {b:Addr} {ob:Obj} (q:h.get? b = some ob) (n:H b = none) (hx:b ∉ ex):∃ sl,h1.get? b = some { ob with slots:=sl }:=by
 by_cases hb:b∈fs
 ·exact u.slot b ob q n hb hx
 ·exact ⟨ob.slots,u.keep b ob q n hb hx⟩
theorem Un.trans (a:Un fs ex H H1 h h1) (b:Un fs ex H1 H2 h1 h2):Un fs ex H H2 h h2 where
 keep:=fun c ob q n hc hx=>b.keep c ob (a.keep c ob q n hc hx) (a.free c ob q n hx) hc hx
 slot:=fun c ob q n hc hx=>by
  obtain ⟨sl,e1⟩:=a.slot c ob q n hc hx
  obtain ⟨sl',e2⟩:=b.slot c _ e1 (a.free c ob q n hx) hc hx
  exact ⟨sl',e2⟩
 free:=fun c ob q n hx=>by
  obtain ⟨o',e1⟩:=a.there c ob q hx
  exact b.free c o' e1 (a.free c ob q n hx) hx
 there:=fun c ob q hx=>by
  obtain ⟨o',e1⟩:=a.there c ob q hx
  exact b.there c o' e1 hx
 tups:=fun c xs q=>b.tups c xs (a.tups c xs q)
 frzs:=fun c ob xs q=>b.frzs c ob xs (a.frzs c ob xs q)
 tbls:=fun c ps q=>by
  obtain ⟨m1,e1⟩:=a.tbls c ps q
  obtain ⟨m2,e2⟩:=b.tbls c _ e1
  exact ⟨m1 ++ m2,by rw [e2,Array.append_assoc]⟩
theorem Un.kept (k:∀ b u,h.get? b = some u→h'.get? b = some u):Un fs ex H H h h' :=
 ⟨fun b ob q _ _ _=>k b ob q,fun b ob q _ _ _=>⟨ob.slots,k b ob q⟩,fun _ _ _ n _=>n,fun b ob q _=>⟨ob,k b ob q⟩,fun _ _ q=>q,fun _ _ _ q=>q,fun _ ps q=>⟨#[],by rw [q];simp⟩⟩
theorem Un.refl:Un fs ex H H h h:=Un.kept fun _ _ q=>q
theorem Un.laid (k:∀ b u,h.get? b = some u→h'.get? b = some u) (hp:h.objs.size≤a) (hn:H a = none):Un fs ex H (upd H a o) h h' where
 keep:=fun b u q _ _ _=>k b u q
 slot:=fun b u q _ _ _=>⟨u.slots,k b u q⟩
 free:=fun b u q n _=>by rw [upd_ne (Nat.ne_of_lt (Nat.lt_of_lt_of_le (Heap.lt_size q) hp))];exact n
 there:=fun b u q _=>⟨u,k b u q⟩
 tups:=fun b xs q=>by rw [upd_ne (ne_of_none q hn)];exact q
 frzs:=fun b u xs q=>by rw [upd_ne (ne_of_none q hn)];exact q
 tbls:=fun b ps q=>⟨#[],by rw [upd_ne (ne_of_none q hn),q];simp⟩
theorem Un.write (mu:Mut (H x)) (he:e = x∨H e = some (.own x)) (k:∀ b u,b≠e→h.get? b = some u→h'.get? b = some u) (heo:∃ u,h'.get? e = some u):Un fs ex H (upd H x o) h h':=by
 have hx:∀ b,H b = none→b≠x:=fun b n z=>by subst z;rw [n] at mu;exact mu
 have hb:∀ b,H b = none→b≠e:=fun b n z=>by
  subst z
  rcases he with r | r
  ·exact hx b n r
  ·rw [n] at r;cases r
 have hm:∀ b u,H b = some u→¬ Mut (some u)→b≠x:=fun b u q nm z=>by subst z;rw [q] at mu;exact nm mu
 refine ⟨fun b u q n _ _=>k b u (hb b n) q,fun b u q n _ _=>⟨u.slots,k b u (hb b n) q⟩,fun b u q n _=>by rw [upd_ne (hx b n)];exact n,fun b u q _=>?_,
  fun b xs q=>by rw [upd_ne (hm b _ q fun z=>z)];exact q,fun b u xs q=>by rw [upd_ne (hm b _ q fun z=>z)];exact q,fun b ps q=>⟨#[],by rw [upd_ne (hm b _ q fun z=>z),q];simp⟩⟩
 by_cases hbe:b = e
 ·subst hbe;exact heo
 ·exact ⟨u,k b u hbe q⟩
theorem Un.mono (u:Un fs ex H H1 h h1) (hs:∀ b∈fs,b∈fs') (hx:∀ b∈ex,b∈ex'):Un fs' ex' H H1 h h1 :=
 ⟨fun b ob q n hb he=>u.keep b ob q n (fun z=>hb (hs b z)) fun z=>he (hx b z),fun _ _ q n _ he=>u.any q n fun z=>he (hx _ z),fun b ob q n he=>u.free b ob q n fun z=>he (hx b z),fun b ob q he=>u.there b ob q fun z=>he (hx b z),u.tups,u.frzs,u.tbls⟩
end

noncomputable def trk (h:Heap) (H:Hp):List Addr:=(List.range h.objs.size).filter fun a=>(H a).isSome
noncomputable def hidT (h:Heap) (H:Hp):Heap:=PySem.W.hideAll h (trk h H)
theorem hidT_size (h:Heap) (H:Hp):(hidT h H).objs.size = h.objs.size:=PySem.W.hideAll_size _ _
theorem hidT_get {h:Heap} {H:Hp} {b:Addr} {o:Obj} (e:h.get? b = some o) (n:H b = none):(hidT h H).get? b = some o :=
 PySem.W.hideAll_get _ e fun hm=>by
  have q:(H b).isSome = true:=(List.mem_filter.mp hm).2
  rw [n] at q;simp at q
theorem of_hidT {h:Heap} {H:Hp} {b:Addr} {o:Obj} (e:(hidT h H).get? b = some o):h.get? b = some o∧H b = none:=by
 have e':h.get? b = some o:=PySem.W.of_hideAll (trk h H) e
 refine ⟨e',?_⟩
 cases q:H b with
 | none=>rfl
 | some x =>
  have hm:b∈trk h H:=List.mem_filter.mpr ⟨List.mem_range.mpr (Heap.lt_size e'),by simp [q]⟩
  have z:(hidT h H).get? b = none:=PySem.W.hideAll_none (trk h H) hm
  rw [z] at e;cases e

end L2

namespace L2
open PySem PySem.Spec PyProof.Rows

structure Mod (K:PySem.W.Frag) (mg:Str→Option Value) (base:Heap):Prop where
 kin:K.In base
 glob:base.Ns mainGlobals mg
 blt:∃ mb,base.Ns builtinsNs mb∧∀ x:Str,x≠"__name__"→mb x = bootBuiltins x
 nolimit:base.NoLimit

/-- the context: a def's body (or a comprehension's block) running. base: fixed through the whole law; s₀, H₀: the entry; outer: the frames whose slots others may change (a def's callers); stack: all frames that run;
   ex: iterators that were made ahead of the entry and are walked here (a comprehension's); fn: the names whose cells were made at the entry (a def: all; a comprehension's block: its own); calm: not within an except suite; pn: pins that every state bears; xe: what is wanted of an exception that leaves the code -/
structure Cx where
 prog:Program
 w:World
 K:PySem.W.Frag
 mg:Str→Option Value
 base:Heap
 A:Around
 N:List Str
 s₀:Shared
 H₀:Hp
 env:Env
 outer:List Env
 stack:List Env
 ex:List Addr
 fn:Str→Bool
 calm:Bool
 pn:List (Addr×Obj)
 xe:Value→Shared→Prop
noncomputable def frs (l:List Env):List Addr:=l.filterMap (·.frame)
noncomputable abbrev Cx.fs (X:Cx):List Addr:=frs X.outer

noncomputable def Vis (sc:Scope) (x:Str):Prop:=sc.names.lookup x = some .local∨sc.names.lookup x = some .cell∨sc.names.lookup x = some .free
noncomputable def Loc (sc:Scope) (x:Str):Prop:=sc.names.lookup x = some .local∨sc.names.lookup x = some .cell
noncomputable def Look (env:Env) (h:Heap) (m:Str→Option Value) (x:Str) (u:Value):Prop :=
 (env.kindOf x = some .local∧m x = some u)∨((env.kindOf x = some .cell∨env.kindOf x = some .free)∧∃ c,env.cells.lookup x = some c∧h.IsCell c (some u))

structure Cx.Ok (X:Cx):Prop where
 mod:Mod X.K X.mg X.base
 kind:X.env.scope.kind = .function
 glob:X.env.globals = mainGlobals
 blt:X.env.builtins = builtinsNs
 above:X.s₀.heap.objs.size≤X.env.locals
 inj:∀ x y c,X.env.cells.lookup x = some c→X.env.cells.lookup y = some c→x = y
 has:∀ x,(X.env.kindOf x = some .cell∨X.env.kindOf x = some .free)→∃ c,X.env.cells.lookup x = some c
 cab:∀ x c,X.fn x = true→X.env.cells.lookup x = some c→X.s₀.heap.objs.size≤c
 hd:X.calm = true→X.A.handled = none
 frames:X.A.frames = some X.stack
 stk:X.stack = X.outer∨(X.stack = X.env :: X.outer∧X.env.frame = some X.env.locals)
 exf:∀ b∈X.ex,b≠X.env.locals∧∀ x c,X.env.cells.lookup x = some c→c≠b
 bs:∀ b o,X.base.get? b = some o→X.s₀.heap.get? b = some o∧X.H₀ b = none
 bsz:X.base.objs.size≤X.s₀.heap.objs.size
 noex:∀ b o,X.base.get? b = some o→b ∉ X.ex
 exfs:∀ b∈X.ex,b ∉ X.fs
 funs:X.s₀.heap.FunFrames X.base X.outer
 frf:∀ b∈X.fs,X.H₀ b = none

structure Inv (X:Cx) (pins:List (Addr×Obj)) (σ:List (Option V)) (H:Hp) (s:Shared):Prop where
 ok:X.Ok
 os:s.os = X.s₀.os
 bare:AllBare s.gens
 base:Un X.fs X.ex X.H₀ H X.s₀.heap s.heap
 loc:∃ m,s.heap.Ns X.env.locals m∧∀ (i:Nat) (x:Str) (v:V),X.N[i]? = some x→σ[i]? = some (some v)→Vis X.env.scope x→∃ u,RelV v u∧Look X.env s.heap m x u
 cell:∀ x c,X.env.cells.lookup x = some c→∃ v,s.heap.IsCell c v
 free:H X.env.locals = none
 freeC:∀ x c,X.env.cells.lookup x = some c→H c = none
 pin:∀ p∈X.pn ++ pins,s.heap.get? p.1 = some p.2∧H p.1 = none∧p.1≠X.env.locals∧p.1 ∉ X.fs∧∀ v,p.2.data≠.cell v
 hok:HOk X.prog X.w H s.heap
 len:σ.length = X.N.length

section
variable {X:Cx} {pins:List (Addr×Obj)} {σ:List (Option V)} {H H':Hp} {s:Shared} {h':Heap}

theorem Cx.Ok.nofr (ok:X.Ok) {b:Addr} {o:Obj} (e:X.base.get? b = some o):b ∉ X.fs:=fun hb=>by
 have:=(ok.funs.mem hb).1
 rw [e] at this;cases this
theorem Inv.bs (I:Inv X pins σ H s):∀ b o,X.base.get? b = some o→s.heap.get? b = some o∧H b = none:=fun b o e =>
 ⟨I.base.keep b o (I.ok.bs b o e).1 (I.ok.bs b o e).2 (I.ok.nofr e) (I.ok.noex b o e),I.base.free b o (I.ok.bs b o e).1 (I.ok.bs b o e).2 (I.ok.noex b o e)⟩
theorem Inv.bk (I:Inv X pins σ H s):∀ b o,X.base.get? b = some o→s.heap.get? b = some o:=fun b o e=>(I.bs b o e).1
theorem Inv.mod (I:Inv X pins σ H s):Mod X.K X.mg X.base:=I.ok.mod
theorem Inv.kIn (I:Inv X pins σ H s):X.K.In s.heap:=I.ok.mod.kin.keeps I.bk
theorem Inv.lt (I:Inv X pins σ H s):X.env.locals < s.heap.objs.size:=let ⟨_,hn,_⟩:=I.loc;hn.lt
theorem Inv.sz (I:Inv X pins σ H s):X.s₀.heap.objs.size≤s.heap.objs.size:=Nat.le_trans I.ok.above (Nat.le_of_lt I.lt)
theorem Inv.nofs (I:Inv X pins σ H s) {a:Addr} (h:s.heap.objs.size≤a):a ∉ X.fs:=fun hb=>by
 obtain ⟨_,o,ho,_⟩:=I.ok.funs.mem hb
 exact absurd (Nat.lt_of_lt_of_le (Heap.lt_size ho) (Nat.le_trans I.sz h)) (Nat.lt_irrefl _)
theorem Inv.cne (I:Inv X pins σ H s):∀ x c,X.env.cells.lookup x = some c→c≠X.env.locals:=fun x c e z=>by
 obtain ⟨v,o,ho,hd⟩:=I.cell x c e
 obtain ⟨m,⟨o',es,ep,ho',hd',_⟩,_⟩:=I.loc
 rw [z,ho'] at ho;cases ho;rw [hd'] at hd;cases hd
theorem Inv.funs (I:Inv X pins σ H s):s.heap.FunFrames X.base X.outer:=by
 have all:∀ (l:List Env),(∀ b∈frs l,b∈X.fs)→X.s₀.heap.FunFrames X.base l→s.heap.FunFrames X.base l:=by
  intro l
  induction l with
  | nil=>intro _ _;trivial
  | cons env r ih =>
   intro hs hl
   obtain ⟨hk,⟨L,o,hf,hn,ho,hd⟩,hr⟩:=hl
   have hL:L∈X.fs:=hs L (by unfold frs;rw [List.filterMap_cons,hf];exact List.mem_cons_self)
   obtain ⟨sl,e⟩:=I.base.slot L o ho (I.ok.frf L hL) hL fun z=>I.ok.exfs L z hL
   exact ⟨hk,⟨L,_,hf,hn,e,hd⟩,ih (fun b hb=>hs b (by unfold frs;rw [List.filterMap_cons,hf];exact List.mem_cons_of_mem _ hb)) hr⟩
 exact all X.outer (fun _ hb=>hb) I.ok.funs

theorem Inv.stack (I:Inv X pins σ H s):s.heap.FunFrames X.base X.stack:=by
 rcases I.ok.stk with e | ⟨e,hf⟩
 ·rw [e];exact I.funs
 ·rw [e]
  obtain ⟨m,hn,_⟩:=I.loc
  refine .cons (by rw [I.ok.kind];decide) hf hn ?_ I.funs
  exact Heap.get?_none_of_le (Nat.le_trans I.ok.bsz I.ok.above)
theorem Inv.stkSub (I:Inv X pins σ H s):∀ b∈frs X.stack,b∈X.env.locals :: X.fs:=fun b hb=>by
 rcases I.ok.stk with e | ⟨e,hf⟩
 ·rw [e] at hb;exact List.mem_cons_of_mem _ hb
 ·rw [e] at hb
  unfold frs at hb
  rw [List.filterMap_cons,hf] at hb
  exact hb
theorem Inv.stkFree (I:Inv X pins σ H s):∀ b∈frs X.stack,H b = none:=fun b hb=>by
 rcases List.mem_cons.mp (I.stkSub b hb) with e | hb
 ·rw [e];exact I.free
 ·obtain ⟨_,o,ho,_⟩:=I.ok.funs.mem hb
  exact I.base.free b o ho (I.ok.frf b hb) fun z=>I.ok.exfs b z hb

theorem Inv.step {g':Array GenState} {t':Nat} {d':Drawn} {ch:List Addr} (I:Inv X pins σ H s)
  (hch:∀ b∈ch,(b∈X.ex∨X.s₀.heap.objs.size≤b)∧b≠X.env.locals∧(∀ x c,X.env.cells.lookup x = some c→c≠b)∧∀ p∈X.pn ++ pins,p.1≠b)
  (keep:∀ b o,b≠X.env.locals→b ∉ X.fs→b ∉ ch→s.heap.get? b = some o→H b = none→h'.get? b = some o)
  (slot:∀ b o,b≠X.env.locals→b∈X.fs→b ∉ ch→s.heap.get? b = some o→H b = none→∃ sl,h'.get? b = some { o with slots:=sl }) (free:∀ b o,b ∉ ch→s.heap.get? b = some o→H b = none→H' b = none)
  (there:∀ b o,b ∉ ch→s.heap.get? b = some o→∃ o',h'.get? b = some o')
  (tups:∀ b xs,H b = some (.tup xs)→H' b = some (.tup xs)) (frzs:∀ b o u,H b = some (.frz o u)→H' b = some (.frz o u)) (tbls:∀ b ps,H b = some (.tbl ps)→∃ more,H' b = some (.tbl (ps ++ more)))
  (ns:∀ m,s.heap.Ns X.env.locals m→h'.Ns X.env.locals m) (hok:HOk X.prog X.w H' h') (hg:AllBare g') :
  Inv X pins σ H' { s with heap:=h',gens:=g',drawn:=d',toks:=t' }:=by
 have neL:∀ b o,X.s₀.heap.get? b = some o→b≠X.env.locals:=fun b o e=>Nat.ne_of_lt (Nat.lt_of_lt_of_le (Heap.lt_size e) I.ok.above)
 have neC:∀ b o,X.s₀.heap.get? b = some o→b ∉ X.ex→b ∉ ch:=fun b o e hx hb=>by
  rcases (hch b hb).1 with z | z
  ·exact hx z
  ·exact absurd (Nat.lt_of_lt_of_le (Heap.lt_size e) z) (Nat.lt_irrefl _)
 have cellK:∀ x c,X.env.cells.lookup x = some c→∀ v,s.heap.IsCell c v→h'.IsCell c v:=fun x c e v ⟨o,ho,hd⟩=>by
  have nch:c ∉ ch:=fun z=>(hch c z).2.2.1 x c e rfl
  by_cases hc:c∈X.fs
  ·obtain ⟨sl,q⟩:=slot c o (I.cne x c e) hc nch ho (I.freeC x c e)
   exact ⟨_,q,hd⟩
  ·exact ⟨o,keep c o (I.cne x c e) hc nch ho (I.freeC x c e),hd⟩
 refine ⟨I.ok,I.os,hg,⟨fun b o e n hb hx=>?_,fun b o e n hb hx=>?_,fun b o e n hx=>?_,fun b o e hx=>?_,fun b xs e=>tups b xs (I.base.tups b xs e),fun b o xs e=>frzs b o xs (I.base.frzs b o xs e),fun b ps e=>?_⟩,?_,fun x c e=>?_,?_,fun x c e=>?_,fun p hp=>?_,hok,I.len⟩
 ·exact keep b o (neL b o e) hb (neC b o e hx) (I.base.keep b o e n hb hx) (I.base.free b o e n hx)
 ·obtain ⟨sl,e1⟩:=I.base.slot b o e n hb hx
  obtain ⟨sl',e2⟩:=slot b _ (neL b o e) hb (neC b o e hx) e1 (I.base.free b o e n hx)
  exact ⟨sl',e2⟩
 ·obtain ⟨o',e1⟩:=I.base.there b o e hx
  exact free b o' (neC b o e hx) e1 (I.base.free b o e n hx)
 ·obtain ⟨o',e1⟩:=I.base.there b o e hx
  exact there b o' (neC b o e hx) e1
 ·obtain ⟨m1,e1⟩:=I.base.tbls b ps e
  obtain ⟨m2,e2⟩:=tbls b _ e1
  exact ⟨m1 ++ m2,by rw [e2,Array.append_assoc]⟩
 ·obtain ⟨m,hn,hl⟩:=I.loc
  refine ⟨m,ns m hn,fun i x v e1 e2 e3=>?_⟩
  obtain ⟨u,r,l⟩:=hl i x v e1 e2 e3
  refine ⟨u,r,?_⟩
  rcases l with l | ⟨k,c,e,z⟩
  ·exact .inl l
  ·exact .inr ⟨k,c,e,cellK x c e _ z⟩
 ·obtain ⟨v,z⟩:=I.cell x c e
  exact ⟨v,cellK x c e v z⟩
 ·obtain ⟨m,⟨o,_,_,ho,_⟩,_⟩:=I.loc
  exact free _ o (fun z=>(hch _ z).2.1 rfl) ho I.free
 ·obtain ⟨v,o,ho,hd⟩:=I.cell x c e
  exact free c o (fun z=>(hch c z).2.2.1 x c e rfl) ho (I.freeC x c e)
 ·obtain ⟨e,n,ne,nf,d⟩:=I.pin p hp
  have nch:p.1 ∉ ch:=fun z=>(hch p.1 z).2.2.2 p hp rfl
  exact ⟨keep p.1 p.2 ne nf nch e n,free p.1 p.2 nch e n,ne,nf,d⟩
theorem Inv.un {t':Nat} (I:Inv X pins σ H s) (u:Un X.fs [] H H' s.heap h') (hok:HOk X.prog X.w H' h'):Inv X pins σ H' { s with heap:=h',toks:=t' }:=by
 obtain ⟨m,⟨o,es,ep,ho,r⟩,_⟩:=id I.loc
 obtain ⟨sl,hL⟩:=u.any ho I.free (by simp)
 exact I.step (g':=s.gens) (d':=s.drawn) (ch:=[]) (fun _ z=>nomatch z) (fun b o _ hb _ e n=>u.keep b o e n hb (by simp)) (fun b o _ hb _ e n=>u.slot b o e n hb (by simp)) (fun b o _ e n=>u.free b o e n (by simp)) (fun b o _ e=>u.there b o e (by simp)) u.tups u.frzs u.tbls (fun m' hm=>by
  obtain ⟨o',es',ep',ho',r'⟩:=hm
  rw [ho] at ho';cases ho'
  exact ⟨_,es',ep',hL,r'⟩) hok I.bare
theorem Inv.call {g':Array GenState} {t':Nat} {d':Drawn} {ch:List Addr} (I:Inv X pins σ H s) (u:Un (frs X.stack) ch H H' s.heap h') (hok:HOk X.prog X.w H' h') (hg:AllBare g')
  (hch:∀ b∈ch,(b∈X.ex∨X.s₀.heap.objs.size≤b)∧b≠X.env.locals∧(∀ x c,X.env.cells.lookup x = some c→c≠b)∧∀ p∈X.pn ++ pins,p.1≠b) :
  Inv X pins σ H' { s with heap:=h',gens:=g',drawn:=d',toks:=t' }:=by
 obtain ⟨m,⟨o,es,ep,ho,r⟩,_⟩:=id I.loc
 obtain ⟨sl,hL⟩:=u.any ho I.free fun z=>(hch _ z).2.1 rfl
 exact I.step (ch:=ch) hch (fun b o hL hb hc e n=>u.keep b o e n (fun z=>(List.mem_cons.mp (I.stkSub b z)).elim hL hb) hc) (fun b o _ _ hc e n=>u.any e n hc) (fun b o hc e n=>u.free b o e n hc) (fun b o hc e=>u.there b o e hc) u.tups u.frzs u.tbls (fun m' hm=>by
  obtain ⟨o',es',ep',ho',r'⟩:=hm
  rw [ho] at ho';cases ho'
  exact ⟨_,es',ep',hL,r'⟩) hok hg
theorem Inv.turned {t':Nat} {it:Addr} (I:Inv X pins σ H s) (k:∀ b o,b≠it→s.heap.get? b = some o→h'.get? b = some o) (hn:H it = none) (hL:it≠X.env.locals)
  (h1:it∈X.ex∨X.s₀.heap.objs.size≤it) (h2:∀ x c,X.env.cells.lookup x = some c→c≠it) (h3:∀ p∈X.pn ++ pins,p.1≠it):Inv X pins σ H { s with heap:=h',toks:=t' }:=by
 have nit:∀ b u,H b = some u→b≠it:=fun b u e z=>by rw [z,hn] at e;cases e
 refine I.step (g':=s.gens) (d':=s.drawn) (ch:=[it]) (fun b hb=>?_) (fun b o _ _ hc e _=>k b o (fun z=>hc (by simp [z])) e) (fun b o _ _ hc e _=>⟨o.slots,k b o (fun z=>hc (by simp [z])) e⟩) (fun _ _ _ _ n=>n)
  (fun b o hc e=>⟨o,k b o (fun z=>hc (by simp [z])) e⟩) (fun _ _ e=>e) (fun _ _ _ e=>e) (fun b ps e=>⟨#[],by rw [e];simp⟩) (fun m hm=>?_) (fun b u e=>?_) I.bare
 ·have e:b = it:=by simpa using hb
  subst e
  exact ⟨h1,hL,h2,h3⟩
 ·obtain ⟨o,es,ep,ho,r⟩:=hm
  exact ⟨o,es,ep,k _ o (Ne.symm hL) ho,r⟩
 ·refine (I.hok b u e).stay (fun c v hc q=>k c v ?_ q) (fun _ q=>q) fun _ _ q=>q
  rcases hc with z | z
  ·rw [z];exact nit b u e
  ·exact nit c _ z
theorem Inv.tok (I:Inv X pins σ H s) (t:Nat):Inv X pins σ H { s with toks:=t }:=I.un (h':=s.heap) (t':=t) Un.refl I.hok
theorem Inv.kept {t':Nat} (I:Inv X pins σ H s) (k:∀ b u,s.heap.get? b = some u→h'.get? b = some u):Inv X pins σ H { s with heap:=h',toks:=t' }:=I.un (Un.kept k) (I.hok.kept k)
theorem Inv.laid {a : Addr} {o : HO} {t' : Nat} (I : Inv X pins σ H s) (k : ∀ b u, s.heap.get? b = some u → h'.get? b = some u) (hp : s.heap.objs.size ≤ a) (new : ObjOk X.prog X.w (upd H a o) h' a o) :
    Inv X pins σ (upd H a o) { s with heap := h', toks := t' } := I.un (Un.laid k hp (I.hok.fresh hp)) (I.hok.laid k hp new)
theorem Inv.write {x e : Addr} {o : HO} {t' : Nat} (I : Inv X pins σ H s) (mu : Mut (H x)) (he : e = x ∨ H e = some (.own x)) (k : ∀ b u, b ≠ e → s.heap.get? b = some u → h'.get? b = some u) (heo : ∃ u, h'.get? e = some u)
    (new : ObjOk X.prog X.w (upd H x o) h' x o) : Inv X pins σ (upd H x o) { s with heap := h', toks := t' } := I.un (Un.write mu he k heo) (I.hok.write mu he k heo new)
theorem Inv.pins_of {pins':List (Addr×Obj)} (I:Inv X pins σ H s) (h:∀ p∈pins',s.heap.get? p.1 = some p.2∧H p.1 = none∧p.1≠X.env.locals∧p.1 ∉ X.fs∧∀ v,p.2.data≠.cell v):Inv X pins' σ H s :=
 ⟨I.ok,I.os,I.bare,I.base,I.loc,I.cell,I.free,I.freeC,fun p hp=>(List.mem_append.mp hp).elim (fun z=>I.pin p (List.mem_append_left _ z)) (h p),I.hok,I.len⟩

theorem nodup_ix {N:List Str} (hN:N.Nodup) {i j:Nat} {x:Str} (a:N[i]? = some x) (b:N[j]? = some x):i = j:=by
 obtain ⟨h1,e1⟩:=List.getElem?_eq_some_iff.mp a
 obtain ⟨h2,e2⟩:=List.getElem?_eq_some_iff.mp b
 exact (List.getElem_inj hN).mp (e1.trans e2.symm)

theorem store_ok2 {M:Model} {A:Around} {E:Value→Shared→Prop} {i:Nat} {x:Str} {v:V} {u:Value} {Q:Unit→Shared→Prop} (I:Inv X pins σ H s) (hN:X.N.Nodup) (hi:X.N[i]? = some x) (hx:Loc X.env.scope x) (r:RelV v u)
  (h:∀ s',Inv X pins (σ.set i (some v)) H s'→(∃ a,Heap.SameBut a s.heap s'.heap∧(a = X.env.locals∨X.env.cells.lookup x = some a))→Q () s') (hf:X.fn x = true∨X.env.scope.names.lookup x = some .local:=by first | exact .inl rfl | exact .inr rfl | assumption):wpAny M A (storeName X.env x u) Q E s:=by
 obtain ⟨m,hn,hl⟩:=id I.loc
 have hcls:(X.env.scope.kind == .class || (X.env.scope.kind == .module && X.env.locals != X.env.globals)) = false:=by rw [I.ok.kind];rfl
 have hiσ:i < σ.length:=by rw [I.len];exact (List.getElem?_eq_some_iff.mp hi).1
 have cne:=I.cne
 have tracked:∀ {a:Addr} {h':Heap},(∃ o,s.heap.get? a = some o∧H a = none)→Heap.SameBut a s.heap h'→HOk X.prog X.w H h':=fun {a h'} ha hs b ob e=>by
  obtain ⟨_,_,hfree⟩:=ha
  refine (I.hok b ob e).stay (fun c w' hc q=>(hs.2 c ?_).trans q) (fun _ q=>q) fun _ _ q=>q
  rintro rfl
  rcases hc with rfl | hc
  ·rw [hfree] at e;cases e
  ·rw [hfree] at hc;cases hc
 rcases hx with hk | hk
 ·refine wpAny_storeName_local hk hn (fun h' hn' hs=>?_) hcls
  obtain ⟨oL,_,_,hoL,_⟩:=id hn
  refine h _ ⟨I.ok,I.os,I.bare,⟨fun b o e n hb hx=>?_,fun b o e n hb hx=>?_,I.base.free,fun b o e hx=>?_,I.base.tups,I.base.frzs,I.base.tbls⟩,⟨_,hn',fun j y v' e1 e2 e3=>?_⟩,fun y c e=>?_,I.free,I.freeC,fun p hp=>?_,tracked ⟨oL,hoL,I.free⟩ hs,by simpa using I.len⟩ ⟨_,hs,.inl rfl⟩
  ·exact (hs.2 b (Nat.ne_of_lt (Nat.lt_of_lt_of_le (Heap.lt_size e) I.ok.above))).trans (I.base.keep b o e n hb hx)
  ·obtain ⟨sl,e1⟩:=I.base.slot b o e n hb hx
   exact ⟨sl,(hs.2 b (Nat.ne_of_lt (Nat.lt_of_lt_of_le (Heap.lt_size e) I.ok.above))).trans e1⟩
  ·obtain ⟨o',e1⟩:=I.base.there b o e hx
   exact ⟨o',(hs.2 b (Nat.ne_of_lt (Nat.lt_of_lt_of_le (Heap.lt_size e) I.ok.above))).trans e1⟩
  ·by_cases hj:j = i
   ·subst hj
    rw [hi] at e1;cases e1
    rw [List.getElem?_set_self hiσ] at e2
    cases e2
    exact ⟨u,r,.inl ⟨hk,by simp⟩⟩
   ·rw [List.getElem?_set_ne (Ne.symm hj)] at e2
    obtain ⟨u',r',q⟩:=hl j y v' e1 e2 e3
    refine ⟨u',r',?_⟩
    rcases q with ⟨k,e⟩ | ⟨k,c,e,z⟩
    ·refine .inl ⟨k,?_⟩
     have:y≠x:=fun e=>hj (nodup_ix hN e1 (e ▸ hi))
     simp [this,e]
    ·exact .inr ⟨k,c,e,z.sameBut hs (cne y c e)⟩
  ·obtain ⟨w',z⟩:=I.cell y c e
   exact ⟨w',z.sameBut hs (cne y c e)⟩
  ·obtain ⟨e,n,ne,nf,d⟩:=I.pin p hp
   exact ⟨(hs.2 p.1 ne).trans e,n,ne,nf,d⟩
 ·have hfn:X.fn x = true:=by
   rcases hf with z | z
   ·exact z
   ·rw [z] at hk;cases hk
  obtain ⟨c,hc⟩:=I.ok.has x (.inl hk)
  obtain ⟨w',z⟩:=I.cell x c hc
  refine wpAny_storeName_cell I.ok.kind hk hc z (fun h' hc' hs=>?_)
  obtain ⟨oc,hoc,hocd⟩:=id z
  refine h { s with heap:=h' } ⟨I.ok,I.os,I.bare,⟨fun b o e n hb hx=>?_,fun b o e n hb hx=>?_,I.base.free,fun b o e hx=>?_,I.base.tups,I.base.frzs,I.base.tbls⟩,⟨m,hn.sameBut hs (Ne.symm (cne x c hc)),fun j y v' e1 e2 e3=>?_⟩,fun y c' e=>?_,I.free,I.freeC,fun p hp=>?_,tracked ⟨oc,hoc,I.freeC x c hc⟩ hs,by simpa using I.len⟩ ⟨c,hs,.inr hc⟩
  ·exact (hs.2 b (Nat.ne_of_lt (Nat.lt_of_lt_of_le (Heap.lt_size e) (I.ok.cab x c hfn hc)))).trans (I.base.keep b o e n hb hx)
  ·obtain ⟨sl,e1⟩:=I.base.slot b o e n hb hx
   exact ⟨sl,(hs.2 b (Nat.ne_of_lt (Nat.lt_of_lt_of_le (Heap.lt_size e) (I.ok.cab x c hfn hc)))).trans e1⟩
  ·obtain ⟨o',e1⟩:=I.base.there b o e hx
   exact ⟨o',(hs.2 b (Nat.ne_of_lt (Nat.lt_of_lt_of_le (Heap.lt_size e) (I.ok.cab x c hfn hc)))).trans e1⟩
  ·by_cases hj:j = i
   ·subst hj
    rw [hi] at e1;cases e1
    rw [List.getElem?_set_self hiσ] at e2
    cases e2
    exact ⟨u,r,.inr ⟨.inl hk,c,hc,hc'⟩⟩
   ·rw [List.getElem?_set_ne (Ne.symm hj)] at e2
    obtain ⟨u',r',q⟩:=hl j y v' e1 e2 e3
    refine ⟨u',r',?_⟩
    rcases q with q | ⟨k,c',e,z'⟩
    ·exact .inl q
    ·refine .inr ⟨k,c',e,z'.sameBut hs ?_⟩
     rintro rfl
     exact hj (nodup_ix hN e1 (I.ok.inj _ _ _ e hc ▸ hi))
  ·by_cases hcc:c' = c
   ·subst hcc;exact ⟨_,hc'⟩
   ·obtain ⟨w2,z2⟩:=I.cell y c' e
    exact ⟨w2,z2.sameBut hs hcc⟩
  ·obtain ⟨e,n,ne,nf,d⟩:=I.pin p hp
   refine ⟨(hs.2 p.1 ?_).trans e,n,ne,nf,d⟩
   intro q
   rw [q,hoc] at e
   have q':oc = p.2:=Option.some.inj e
   exact d w' (by rw [← q'];exact hocd)
theorem store_ok {M:Model} {A:Around} {E:Value→Shared→Prop} {i:Nat} {x:Str} {v:V} {u:Value} {Q:Unit→Shared→Prop} (I:Inv X pins σ H s) (hN:X.N.Nodup) (hi:X.N[i]? = some x) (hx:Loc X.env.scope x) (r:RelV v u)
  (h:∀ s',Inv X pins (σ.set i (some v)) H s'→Q () s') (hf:X.fn x = true∨X.env.scope.names.lookup x = some .local:=by first | exact .inl rfl | exact .inr rfl | assumption):wpAny M A (storeName X.env x u) Q E s :=
 store_ok2 I hN hi hx r (fun s' I' _=>h s' I') hf
theorem Inv.call' {s':Shared} {ch:List Addr} (I:Inv X pins σ H s) (ho:s'.os = s.os) (u:Un (frs X.stack) ch H H' s.heap s'.heap) (hok:HOk X.prog X.w H' s'.heap) (hg:AllBare s'.gens)
  (hch:∀ b∈ch,(b∈X.ex∨X.s₀.heap.objs.size≤b)∧b≠X.env.locals∧(∀ x c,X.env.cells.lookup x = some c→c≠b)∧∀ p∈X.pn ++ pins,p.1≠b):Inv X pins σ H' s':=by
 obtain ⟨h',g',d',t',o'⟩:=s'
 have e:o' = s.os:=ho
 subst e
 exact I.call (g':=g') (t':=t') (d':=d') u hok hg hch
end

noncomputable abbrev XK:=Value→Option Addr→Hp→Prop
noncomputable abbrev St:=List (Option V)
noncomputable abbrev VK:=V→Hp→Prop
noncomputable abbrev TE:=St→Hp→VK→Prop
noncomputable abbrev TT:=St→Hp→(Bool→Hp→Prop)→Prop
noncomputable abbrev TA:=St→Hp→(List V→Hp→Prop)→Prop
structure Ends where
 nx:St→Hp→Prop
 rt:VK
 bk:St→Hp→Prop:=fun _ _=>False
 ct:St→Hp→Prop:=fun _ _=>False
noncomputable abbrev TS:=Ends→St→Hp→Prop

noncomputable def EP (X:Cx) (pins:List (Addr×Obj)) (σ:St) (Q:VK) (u:Value) (s':Shared):Prop:=∃ v H',Inv X pins σ H' s'∧RelV v u∧Q v H'
noncomputable def TP (X:Cx) (pins:List (Addr×Obj)) (σ:St) (Q:Bool→Hp→Prop) (b:Bool) (s':Shared):Prop:=∃ H',Inv X pins σ H' s'∧Q b H'
noncomputable def AP (X:Cx) (pins:List (Addr×Obj)) (σ:St) (Q:List V→Hp→Prop) (us:List Value) (s':Shared):Prop:=∃ vs H',Inv X pins σ H' s'∧Vals vs us∧Q vs H'
noncomputable def SP (X:Cx) (pins:List (Addr×Obj)) (D:Ends) (f:Flow) (s':Shared):Prop :=
 match f with
 | .next=>∃ σ' H',Inv X pins σ' H' s'∧D.nx σ' H'
 | .brk=>∃ σ' H',Inv X pins σ' H' s'∧D.bk σ' H'
 | .cont=>∃ σ' H',Inv X pins σ' H' s'∧D.ct σ' H'
 | .ret u=>∃ v σ' H',Inv X pins σ' H' s'∧RelV v u∧D.rt v H'

noncomputable def PE (X:Cx) (e:Expr) (t:TE):Prop :=
 ∀ (pins:List (Addr×Obj)) (s:Shared) (σ:St) (H:Hp) (Q:VK),Inv X pins σ H s→t σ H Q→wpAny (model X.prog X.w) X.A (eval e X.env) (EP X pins σ Q) X.xe s
noncomputable def PT (X:Cx) (e:Expr) (t:TT):Prop :=
 ∀ (pins:List (Addr×Obj)) (s:Shared) (σ:St) (H:Hp) (Q:Bool→Hp→Prop),Inv X pins σ H s→t σ H Q→wpAny (model X.prog X.w) X.A (isTrue e X.env (eval e X.env)) (TP X pins σ Q) X.xe s
noncomputable def PW (X:Cx) (e:Expr) (t:TT):Prop :=
 ∀ (whole:Sem Value) (pins:List (Addr×Obj)) (s:Shared) (σ:St) (H:Hp) (Q:Bool→Hp→Prop),Inv X pins σ H s→t σ H Q→wpAny (model X.prog X.w) X.A (isTrue e X.env whole) (TP X pins σ Q) X.xe s
theorem PW.pt {X:Cx} {e:Expr} {t:TT} (h:PW X e t):PT X e t:=h _
noncomputable def PA (X:Cx) (es:List Expr) (t:TA):Prop :=
 ∀ (pos:Pos) (pins:List (Addr×Obj)) (s:Shared) (σ:St) (H:Hp) (Q:List V→Hp→Prop),Inv X pins σ H s→t σ H Q→wpAny (model X.prog X.w) X.A (spliced (backTo pos (starEach es X.env))) (AP X pins σ Q) X.xe s
noncomputable def PS (X:Cx) (st:Stmt) (t:TS):Prop :=
 ∀ (pins:List (Addr×Obj)) (s:Shared) (σ:St) (H:Hp) (D:Ends),Inv X pins σ H s→t D σ H→wpAny (model X.prog X.w) X.A (exec st X.env) (SP X pins D) X.xe s
noncomputable def PSs (X:Cx) (st:List Stmt) (t:TS):Prop :=
 ∀ (pins:List (Addr×Obj)) (s:Shared) (σ:St) (H:Hp) (D:Ends),Inv X pins σ H s→t D σ H→wpAny (model X.prog X.w) X.A (execs st X.env) (SP X pins D) X.xe s
theorem thn {α:Type} {t:Sem α} {Q Q':α→Shared→Prop} {M:Model} {A:Around} {E:Value→Shared→Prop} {s:Shared} (h:wpAny M A t Q E s) (hQ:∀ a s,Q a s→Q' a s):wpAny M A t Q' E s:=wpAny_mono h hQ fun _ _ x=>x
end L2

namespace L2
open PySem PySem.Spec PyProof.Rows
section
variable {X:Cx}

noncomputable def tVar (i:Nat):TE:=fun σ H Q=>∃ v,σ[i]? = some (some v)∧Q v H
noncomputable def tC (v:V):TE:=fun _ H Q=>Q v H
theorem pe_var {i:Nat} {x:Str} {pos:Pos} (hN:X.N[i]? = some x) (hv:Vis X.env.scope x) (hd:(x == ("__debug__":Str)) = false:=by decide) (hcd:(x == ("__classdict__":Str)) = false:=by decide):PE X (.Name x pos) (tVar i):=by
 intro pins s σ H Q I h
 obtain ⟨v,e,h⟩:=h
 obtain ⟨m,hn,hl⟩:=I.loc
 obtain ⟨u,r,l⟩:=hl i x v hN e hv
 have fin:EP X pins σ Q u s:=⟨v,H,I,r,h⟩
 rcases l with ⟨hk,hm⟩ | ⟨hk,c,hc,hcell⟩
 ·exact wpAny_Name (wpAny_loadName_local I.ok.kind hk hn hm fin) hd
 ·rcases hk with hk | hk
  ·exact wpAny_Name (wpAny_loadName_cell I.ok.kind hk hc hcell fin) hd
  ·exact wpAny_Name (wpAny_loadName_free I.ok.kind hk hc hcell fin hcd) hd
theorem pe_int {i j pos}:PE X (.Constant (.int i) j pos) (tC (.int i)):=fun _ _ _ H _ I h=>wpAny_Constant_int ⟨.int i,H,I.tok _,⟨_,rfl⟩,h⟩
theorem pe_bl {b j pos}:PE X (.Constant (.bool b) j pos) (tC (.bl b)):=fun _ _ _ H _ I h=>Constant_bool ⟨.bl b,H,I,rfl,h⟩
theorem pe_non {j pos}:PE X (.Constant .none j pos) (tC .non):=fun _ _ _ H _ I h=>Constant_none ⟨.non,H,I,rfl,h⟩
theorem pe_str {x j pos}:PE X (.Constant (.str x) j pos) (tC (.str x)):=fun _ _ _ H _ I h=>Calls.Constant_str ⟨.str x,H,I.tok _,⟨_,rfl⟩,h⟩

noncomputable def Gl (X:Cx) (x:Str):Prop:=X.env.kindOf x = some .globalImplicit
theorem ld_glob {E:Value→Shared→Prop} {pins:List (Addr×Obj)} {s:Shared} {σ:St} {H:Hp} {x:Str} {u:Value} {pos:Pos} {Q:Value→Shared→Prop} (I:Inv X pins σ H s) (hg:Gl X x) (hm:X.mg x = some u) (h:Q u s)
  (hd:(x == ("__debug__":Str)) = false:=by decide):wpAny (model X.prog X.w) X.A (eval (.Name x pos) X.env) Q E s :=
 Calls.Name_function_global I.ok.kind hg (Calls.loadGlobal_global (by rw [I.ok.glob];exact I.mod.glob.keeps I.bk) hm h) hd
theorem ld_blt {E:Value→Shared→Prop} {pins:List (Addr×Obj)} {s:Shared} {σ:St} {H:Hp} {x:Str} {u:Value} {pos:Pos} {Q:Value→Shared→Prop} (I:Inv X pins σ H s) (hg:Gl X x) (hm:X.mg x = none) (hv:bootBuiltins x = some u) (h:Q u s)
  (hn:x≠"__name__":=by decide) (hd:(x == ("__debug__":Str)) = false:=by decide):wpAny (model X.prog X.w) X.A (eval (.Name x pos) X.env) Q E s:=by
 obtain ⟨mb,h1,h2⟩:=I.mod.blt
 exact Calls.Name_function_global I.ok.kind hg (Calls.loadGlobal_builtin (by rw [I.ok.glob];exact I.mod.glob.keeps I.bk) hm (by rw [I.ok.blt];exact h1.keeps I.bk) ((h2 x hn).trans hv) h) hd
theorem pe_glob {x:Str} {v:V} {u:Value} {pos:Pos} (hg:Gl X x) (hm:X.mg x = some u) (r:RelV v u) (hd:(x == ("__debug__":Str)) = false:=by decide):PE X (.Name x pos) (tC v) :=
 fun _ _ _ H _ I h=>ld_glob I hg hm ⟨v,H,I,r,h⟩ hd
theorem pe_bltn {x:Str} {v:V} {u:Value} {pos:Pos} (hg:Gl X x) (hm:X.mg x = none) (hv:bootBuiltins x = some u) (r:RelV v u) (hn:x≠"__name__":=by decide) (hd:(x == ("__debug__":Str)) = false:=by decide):PE X (.Name x pos) (tC v) :=
 fun _ _ _ H _ I h=>ld_blt I hg hm hv ⟨v,H,I,r,h⟩ hn hd

variable {a b:Expr} {ta tb:TE} {pos:Pos}
noncomputable def PC (X:Cx) (op:CmpOp) (a b:Expr) (t:TE):Prop :=
 ∀ (pins:List (Addr×Obj)) (s:Shared) (σ:St) (H:Hp) (Q:VK),Inv X pins σ H s→t σ H Q →
  wpAny (model X.prog X.w) X.A (eval a X.env) (fun v s₁=>wpAny (model X.prog X.w) X.A (eval b X.env) (fun u s₂=>wpAny (model X.prog X.w) X.A (compareOp op v u) (EP X pins σ Q) X.xe s₂) X.xe s₁) X.xe s
noncomputable def tB (t:TE):TT:=fun σ H Q=>t σ H fun x H1=>∃ c,x = .bl c∧Q c H1
theorem pt_cmp {op:CmpOp} {t:TE} (h:PC X op a b t) (h1:behindInMarks op b = false:=by first | exact nobehind _ (by decide) (by decide) | rfl):PT X (.Compare a [op] [b] pos) (tB t):=by
 intro pins s σ H Q I hw
 refine wpAny_isTrue_Compare1 (thn (h pins s σ H _ I hw) fun v s1 h1=>thn h1 fun u s2 h2=>thn h2 fun c s3 ⟨x,H1,I1,r1,q1⟩=>?_) h1
 obtain ⟨d,rfl,q⟩:=q1
 cases r1
 exact wpAny_truthy_bool ⟨H1,I1,q⟩
theorem pt_val {e:Expr} {t:TE} (h:PE X e t) (he:∀ whole,isTrue e X.env whole = (do let v ← whole;standAt e.pos;holding [v] (truthy v)):=by intro _;rfl):PT X e (tB t):=by
 intro pins s σ H Q I hw
 refine isTrue_plain (thn (h pins s σ H _ I hw) fun v s1 ⟨x,H1,I1,r1,q1⟩=>?_) (he _)
 obtain ⟨d,rfl,q⟩:=q1
 cases r1
 exact wpAny_truthy_bool ⟨H1,I1,q⟩

variable {tA tB':TT} {rest:List Expr}
noncomputable def tAnd (t u:TT):TT:=fun σ H Q=>t σ H fun c H1=>if c = true then u σ H1 Q else Q false H1
noncomputable def tOr (t u:TT):TT:=fun σ H Q=>t σ H fun c H1=>if c = true then Q true H1 else u σ H1 Q
noncomputable def tNot (t:TT):TT:=fun σ H Q=>t σ H fun c H1=>Q (!c) H1
theorem pw_and1 (ha:PT X a tA):PW X (.BoolOp .And [a] pos) tA:=by
 intro wh pins s σ H Q I h
 refine isTrue_and (thn (ha pins s σ H Q I h) fun c s1 e=>?_)
 cases c with
 | true=>exact isTrue_and_nil e
 | false=>exact e
theorem pw_or1 (ha:PT X a tA):PW X (.BoolOp .Or [a] pos) tA:=by
 intro wh pins s σ H Q I h
 refine isTrue_or (thn (ha pins s σ H Q I h) fun c s1 e=>?_)
 cases c with
 | false=>exact isTrue_or_nil e
 | true=>exact e
theorem pw_and (ha:PT X a tA) (hb:PW X (.BoolOp .And (b :: rest) pos) tB'):PW X (.BoolOp .And (a :: b :: rest) pos) (tAnd tA tB'):=by
 intro wh pins s σ H Q I h
 refine isTrue_and (thn (ha pins s σ H _ I h) fun c s1 ⟨H1,I1,q1⟩=>?_)
 cases c with
 | true=>exact hb wh pins s1 σ H1 Q I1 q1
 | false=>exact ⟨H1,I1,q1⟩
theorem pw_or (ha:PT X a tA) (hb:PW X (.BoolOp .Or (b :: rest) pos) tB'):PW X (.BoolOp .Or (a :: b :: rest) pos) (tOr tA tB'):=by
 intro wh pins s σ H Q I h
 refine isTrue_or (thn (ha pins s σ H _ I h) fun c s1 ⟨H1,I1,q1⟩=>?_)
 cases c with
 | true=>exact ⟨H1,I1,q1⟩
 | false=>exact hb wh pins s1 σ H1 Q I1 q1
theorem pt_not (ha:PT X a tA):PT X (.UnaryOp .Not a pos) (tNot tA):=by
 intro pins s σ H Q I h
 exact isTrue_not (ha pins s σ H (fun c H1=>Q (!c) H1) I h)
noncomputable def tAndV (ta tb:TE):TE:=fun σ H Q=>ta σ H fun x H1=>∃ c,x = .bl c∧if c = true then tb σ H1 Q else Q (.bl false) H1
theorem pe_one {op} {t:TE} (h:PE X a t):PE X (.BoolOp op [a] pos) t:=fun pins s σ H Q I hw=>BoolOp_one (h pins s σ H Q I hw)
theorem pe_and (ha:PE X a ta) (hb:PE X (.BoolOp .And (b :: rest) pos) tb):PE X (.BoolOp .And (a :: b :: rest) pos) (tAndV ta tb):=by
 intro pins s σ H Q I h
 refine BoolOp_and (thn (ha pins s σ H _ I h) fun v s1 ⟨x,H1,I1,r1,q1⟩=>?_)
 obtain ⟨c,rfl,q1⟩:=q1
 cases r1
 refine wpAny_truthy_bool ?_
 cases c with
 | true=>exact hb pins s1 σ H1 Q I1 q1
 | false=>exact ⟨.bl false,H1,I1,rfl,q1⟩
noncomputable def tIf (t:TT) (ta tb:TE):TE:=fun σ H Q=>t σ H fun c H1=>if c = true then ta σ H1 Q else tb σ H1 Q
theorem pe_ifExp {c:Expr} (hc:PT X c tA) (ha:PE X a ta) (hb:PE X b tb):PE X (.IfExp c a b pos) (tIf tA ta tb):=by
 intro pins s σ H Q I h
 refine wpAny_IfExp (thn (hc pins s σ H _ I h) fun d s1 ⟨H1,I1,q1⟩=>?_)
 cases d with
 | true=>exact ha pins s1 σ H1 Q I1 q1
 | false=>exact hb pins s1 σ H1 Q I1 q1
end
end L2

namespace L2
open PySem PySem.Spec PyProof.Rows

noncomputable def SqL (K:PySem.W.Frag) (H:Hp) (a:Addr) (xs:List V):Prop :=
 Rd H a (.lst xs) ∨
  ∃ (o:Obj) (its:Array Value) (n:Nat),K.lookup a = some o∧o.cls = .type "list"∧o.dict = none∧o.data = .seq its n∧its.size≤sizeLine∧Vals xs its.toList
noncomputable def SqT (K:PySem.W.Frag) (H:Hp) (a:Addr) (xs:List V):Prop :=
 Rd H a (.tup xs) ∨
  ∃ (o:Obj) (its:Array Value) (n:Nat),K.lookup a = some o∧o.cls = .type "tuple"∧o.data = .seq its n∧its.size≤sizeLine∧Vals xs its.toList
noncomputable def absV:Value→Option V
 | .none=>some .non
 | .bool b=>some (.bl b)
 | .int i _=>some (.int i)
 | .str x _=>some (.str x)
 | .bytes b _=>some (.byt b)
 | .float b _=>some (.flt b)
 | .ref a=>some (.ref a)
 | .type n=>some (.ty n)
 | _=>none
theorem RelV.abs {x:V} {u:Value} (r:RelV x u):absV u = some x:=by
 cases x with
 | non=>cases r;rfl
 | bl _=>cases r;rfl
 | int _=>obtain ⟨t,rfl⟩:=r;rfl
 | str _=>obtain ⟨t,rfl⟩:=r;rfl
 | byt _=>obtain ⟨t,rfl⟩:=r;rfl
 | flt _=>obtain ⟨t,rfl⟩:=r;rfl
 | ref _=>cases r;rfl
 | ty _=>cases r;rfl
theorem RelV.inj {x y:V} {u:Value} (r:RelV x u) (q:RelV y u):x = y:=Option.some.inj (r.abs.symm.trans q.abs)
theorem Vals.inj:∀ {xs ys:List V} {us:List Value},Vals xs us→Vals ys us→xs = ys
 | _,_,_,.nil,.nil=>rfl
 | _,_,_,.cons r t,.cons r' t'=>by rw [r.inj r',Vals.inj t t']
section
variable {X:Cx} {pins:List (Addr×Obj)} {σ:St} {H:Hp} {s:Shared} {a:Addr} {xs ys:List V}
theorem SqL.of {K:PySem.W.Frag} (h:H a = some (.lst xs)):SqL K H a xs:=.inl (.inl h)
theorem SqT.of {K:PySem.W.Frag} (h:H a = some (.tup xs)):SqT K H a xs:=.inl (.inl h)
theorem Inv.list (I:Inv X pins σ H s) (h:SqL X.K H a xs):∃ its:List Value,Vals xs its∧PlainL s.heap a its.toArray∧xs.length≤sizeLine:=by
 rcases h with h | ⟨o,its,n,hk,hc,hd,hs,hz,r⟩
 ·obtain ⟨z,its,n,r,e⟩:=h.ok I.hok
  exact ⟨its,r,⟨_,n,e,rfl,rfl,rfl⟩,z⟩
 ·refine ⟨its.toList,r,⟨o,n,I.kIn a o hk,hc,hd,by simpa using hs⟩,?_⟩
  have e:=r.length
  simp only [Array.length_toList] at e
  omega
theorem Inv.tuple (I:Inv X pins σ H s) (h:SqT X.K H a xs):∃ its:List Value,Vals xs its∧IsTup s.heap a its.toArray∧xs.length≤sizeLine:=by
 rcases h with h | ⟨o,its,n,hk,hc,hs,hz,r⟩
 ·obtain ⟨z,its,r,p⟩:=h.ok I.hok
  exact ⟨its,r,p,z⟩
 ·refine ⟨its.toList,r,⟨o,I.kIn a o hk,hc,n,by simpa using hs⟩,?_⟩
  have e:=r.length
  simp only [Array.length_toList] at e
  omega
theorem Inv.list_inj (I:Inv X pins σ H s) (h:SqL X.K H a xs) (h':SqL X.K H a ys):xs = ys:=by
 obtain ⟨its,r,⟨o,n,e,_,_,d⟩,_⟩:=I.list h
 obtain ⟨its',r',⟨o',n',e',_,_,d'⟩,_⟩:=I.list h'
 rw [e] at e';cases e'
 rw [d] at d'
 injection d' with d1 _
 have:its = its':=by simpa using congrArg Array.toList d1
 subst this
 exact r.inj r'
theorem Inv.tuple_inj (I:Inv X pins σ H s) (h:SqT X.K H a xs) (h':SqT X.K H a ys):xs = ys:=by
 obtain ⟨its,r,⟨o,e,_,n,d⟩,_⟩:=I.tuple h
 obtain ⟨its',r',⟨o',e',_,n',d'⟩,_⟩:=I.tuple h'
 rw [e] at e';cases e'
 rw [d] at d'
 injection d' with d1 _
 have:its = its':=by simpa using congrArg Array.toList d1
 subst this
 exact r.inj r'
end

noncomputable abbrev Cx.wish (X:Cx) (E:Value→Shared→Prop):Cx:={ X with xe:=E }
noncomputable abbrev Cx.nox (X:Cx):Cx:=X.wish fun _ _=>False
theorem Cx.Ok.wish {X:Cx} (ok:X.Ok) (E:Value→Shared→Prop):(X.wish E).Ok :=
 ⟨ok.mod,ok.kind,ok.glob,ok.blt,ok.above,ok.inj,ok.has,ok.cab,ok.hd,ok.frames,ok.stk,ok.exf,ok.bs,ok.bsz,ok.noex,ok.exfs,ok.funs,ok.frf⟩
theorem Cx.Ok.unwish {X:Cx} {E:Value→Shared→Prop} (ok:(X.wish E).Ok):X.Ok :=
 ⟨ok.mod,ok.kind,ok.glob,ok.blt,ok.above,ok.inj,ok.has,ok.cab,ok.hd,ok.frames,ok.stk,ok.exf,ok.bs,ok.bsz,ok.noex,ok.exfs,ok.funs,ok.frf⟩
section
variable {X:Cx} {pins:List (Addr×Obj)} {σ:St} {H:Hp} {s:Shared} {E:Value→Shared→Prop}
theorem Inv.wish (I:Inv X pins σ H s) (E:Value→Shared→Prop):Inv (X.wish E) pins σ H s:=⟨I.ok.wish E,I.os,I.bare,I.base,I.loc,I.cell,I.free,I.freeC,I.pin,I.hok,I.len⟩
theorem Inv.unwish (I:Inv (X.wish E) pins σ H s):Inv X pins σ H s:=⟨I.ok.unwish,I.os,I.bare,I.base,I.loc,I.cell,I.free,I.freeC,I.pin,I.hok,I.len⟩
theorem SP.unwish {D:Ends} {f:Flow} {s':Shared} (h:SP (X.wish E) pins D f s'):SP X pins D f s':=by
 cases f with
 | next=>obtain ⟨σ',H',I,q⟩:=h;exact ⟨σ',H',I.unwish,q⟩
 | brk=>obtain ⟨σ',H',I,q⟩:=h;exact ⟨σ',H',I.unwish,q⟩
 | cont=>obtain ⟨σ',H',I,q⟩:=h;exact ⟨σ',H',I.unwish,q⟩
 | ret u=>obtain ⟨v,σ',H',I,r,q⟩:=h;exact ⟨v,σ',H',I.unwish,r,q⟩
theorem PSs.nox {st:List Stmt} {t:TS} (h:PSs X.nox st t):PSs X st t:=fun pins s σ H D I hw =>
 wpAny_mono (h pins s σ H D (I.wish _) hw) (fun _ _ q=>q.unwish) fun _ _ z=>False.elim z
end

section
variable {X:Cx} {st:Stmt} {rest:List Stmt} {t u:TS} {e:Expr} {te:TE} {pos:Pos}
noncomputable def tNext:TS:=fun D σ H=>D.nx σ H
noncomputable def tSeq (t u:TS):TS:=fun D σ H=>t { D with nx:=u D } σ H
theorem pss_nil:PSs X [] tNext:=fun _ _ σ H _ I h=>wpAny_execs_nil ⟨σ,H,I,h⟩
theorem pss_cons (h1:PS X st t) (h2:PSs X rest u):PSs X (st :: rest) (tSeq t u):=by
 intro pins s σ H D I h
 refine wpAny_execs_cons (thn (h1 pins s σ H { D with nx:=u D } I h) fun f s1 q=>?_)
 cases f with
 | next =>
  obtain ⟨σ',H',I',q⟩:=q
  exact h2 pins s1 σ' H' D I' q
 | ret v=>exact q
 | brk=>exact q
 | cont=>exact q
theorem pss_one (h1:PS X st t):PSs X [st] t:=by
 intro pins s σ H D I h
 refine wpAny_execs_cons (thn (h1 pins s σ H D I h) fun f s1 q=>?_)
 cases f with
 | next=>exact wpAny_execs_nil q
 | ret v=>exact q
 | brk=>exact q
 | cont=>exact q
theorem Inv.quiet {pins:List (Addr×Obj)} {σ:St} {H:Hp} {s:Shared} (I:Inv X pins σ H s):interactive X.env = false:=by simp [interactive,I.ok.kind]
noncomputable def tDrop (te:TE):TS:=fun D σ H=>te σ H fun _ H1=>D.nx σ H1
theorem ps_expr (he:PE X e te) (hs:swapsWith e none pos.line X.env = pure false:=by rfl):PS X (.Expr e pos) (tDrop te):=by
 intro pins s σ H D I h
 exact wpAny_Expr_any (thn (he pins s σ H _ I h) fun v s1 ⟨x,H1,I1,r1,q1⟩=>⟨σ,H1,I1,q1⟩) I.quiet hs
noncomputable def tRet (te:TE):TS:=fun D σ H=>te σ H D.rt
theorem ps_ret (he:PE X e te):PS X (.Return (some e) pos) (tRet te):=by
 intro pins s σ H D I h
 exact wpAny_Return_some (thn (he pins s σ H _ I h) fun v s1 ⟨x,H1,I1,r1,q1⟩=>⟨x,σ,H1,I1,r1,q1⟩)
noncomputable def tIfS (c:TT) (t u:TS):TS:=fun D σ H=>c σ H fun b H1=>if b = true then t D σ H1 else u D σ H1
theorem ps_if {c:Expr} {a b:List Stmt} {tc:TT} (hc:PT X c tc) (ha:PSs X a t) (hb:PSs X b u):PS X (.If c a b pos) (tIfS tc t u):=by
 intro pins s σ H D I h
 refine wpAny_If (thn (hc pins s σ H _ I h) fun d s1 ⟨H1,I1,q1⟩=>?_)
 cases d with
 | true=>exact ha pins s1 σ H1 D I1 q1
 | false=>exact hb pins s1 σ H1 D I1 q1
noncomputable def tNever:TS:=fun _ _ _=>False
theorem pss_never {sts:List Stmt}:PSs X sts tNever:=fun _ _ _ _ _ _ h=>h.elim
end

noncomputable abbrev TG:=V→St→Hp→(St→Hp→Prop)→Prop
noncomputable abbrev TGs:=List V→St→Hp→(St→Hp→Prop)→Prop
noncomputable def PG (X:Cx) (target:Expr) (t:TG):Prop :=
 ∀ (pins:List (Addr×Obj)) (s:Shared) (σ:St) (H:Hp) (v:V) (u:Value) (Q:St→Hp→Prop),Inv X pins σ H s→RelV v u→t v σ H Q →
  wpAny (model X.prog X.w) X.A (assign target X.env u) (fun _ s'=>∃ σ' H',Inv X pins σ' H' s'∧Q σ' H') X.xe s
noncomputable def PGs (X:Cx) (ts:List Expr) (t:TGs):Prop :=
 ∀ (pins:List (Addr×Obj)) (s:Shared) (σ:St) (H:Hp) (vs:List V) (us:List Value) (Q:St→Hp→Prop),Inv X pins σ H s→Vals vs us→t vs σ H Q →
  wpAny (model X.prog X.w) X.A (assignInOrder ((assignEach ts X.env).map (·.2)) us) (fun _ s'=>∃ σ' H',Inv X pins σ' H' s'∧Q σ' H') X.xe s
noncomputable abbrev TSet:=V→V→V→Hp→(Hp→Prop)→Prop
noncomputable def PSet (X:Cx) (t:TSet):Prop :=
 ∀ (pins:List (Addr×Obj)) (s:Shared) (σ:St) (H:Hp) (o i v:V) (ov iv u:Value) (Q:Hp→Prop),Inv X pins σ H s→RelV o ov→RelV i iv→RelV v u→t o i v H Q →
  wpAny (model X.prog X.w) X.A (setItem ov iv u) (fun _ s'=>∃ H',Inv X pins σ H' s'∧Q H') X.xe s
section
variable {X:Cx} {pos:Pos}
noncomputable def gName (i:Nat):TG:=fun v σ H Q=>Q (σ.set i (some v)) H
theorem pg_name {i:Nat} {x:Str} (hN:X.N.Nodup) (hi:X.N[i]? = some x) (hx:Loc X.env.scope x) (hf:X.fn x = true∨X.env.scope.names.lookup x = some .local:=by first | exact .inl rfl | exact .inr rfl | assumption):PG X (.Name x pos) (gName i):=by
 intro pins s σ H v u Q I r h
 exact wpAny_assign_Name (store_ok I hN hi hx r (fun s' I'=>⟨_,H,I',h⟩) hf)
noncomputable def gNil:TGs:=fun vs σ H Q=>vs = []∧Q σ H
noncomputable def gCons (t:TG) (u:TGs):TGs:=fun vs σ H Q=>∃ v r,vs = v :: r∧t v σ H fun σ' H'=>u r σ' H' Q
theorem pgs_nil:PGs X [] gNil:=by
 intro pins s σ H vs us Q I r h
 obtain ⟨e,h⟩:=h
 subst e
 cases r
 exact assignInOrder_nil ⟨σ,H,I,h⟩
theorem pgs_cons {e:Expr} {es:List Expr} {t:TG} {u:TGs} (h1:PG X e t) (h2:PGs X es u)
  (hs:(assignEach (e :: es) X.env).map (·.2) = assign e X.env :: (assignEach es X.env).map (·.2):=by rfl):PGs X (e :: es) (gCons t u):=by
 intro pins s σ H vs us Q I r h
 obtain ⟨v,vr,e1,h⟩:=h
 subst e1
 cases r with
 | cons r rr =>
  rw [hs]
  refine assignInOrder_cons (thn (h1 pins s σ H _ _ _ I r h) fun _ s1 ⟨σ1,H1,I1,q1⟩=>?_)
  exact h2 pins s1 σ1 H1 _ _ Q I1 rr q1
noncomputable def gTup (K:PySem.W.Frag) (n:Nat) (t:TGs):TG:=fun v σ H Q=>∃ a xs,v = .ref a∧SqT K H a xs∧xs.length = n∧t xs σ H Q
theorem pg_tup {es:List Expr} {k:Nat} {t:TGs} {n:Nat} (hc:X.calm = true) (h:PGs X es t)
  (hn:(assignEach es X.env).length = n:=by rfl) (hst:(assignEach es X.env).findIdx? (·.1) = none:=by rfl):PG X (.Tuple es k pos) (gTup X.K n t):=by
 intro pins s σ H v u Q I r hw
 obtain ⟨a,xs,e1,hq,hl,hw⟩:=hw
 subst e1
 cases r
 obtain ⟨its,rv,ht,hz⟩:=I.tuple hq
 refine assign_Tuple_tuple (I.ok.hd hc) ht (by simp [hn,← hl,rv.length]) hst fun h' hx=>?_
 have I1:Inv X pins σ H { s with heap:=h' }:=I.kept (t':=s.toks) fun b o e=>hx b o (Nat.ne_of_lt (Heap.lt_size e)) e
 exact h pins _ σ H xs _ Q I1 (by simpa using rv) hw
noncomputable def gSub (to ti:TE) (t:TSet):TG:=fun v σ H Q=>to σ H fun o H1=>ti σ H1 fun i H2=>t o i v H2 fun H3=>Q σ H3
theorem pg_sub {o i:Expr} {to ti:TE} {t:TSet} (ho:PE X o to) (hi:PE X i ti) (hs:PSet X t)
  (ha:∀ v,assign (.Subscript o i pos) X.env v = (do
   let ov ← holding [v] (eval o X.env)
   let iv ← holding [v,ov] (eval i X.env)
   standAt pos
   holding [v,ov,iv] (setItem ov iv v)
   release [v,ov,iv] []):=by intro _;rfl):PG X (.Subscript o i pos) (gSub to ti t):=by
 intro pins s σ H v u Q I r h
 rw [ha]
 refine wpAny_bind (wpAny_holding (thn (ho pins s σ H _ I h) fun ov s1 ⟨x,H1,I1,r1,q1⟩=>?_))
 refine wpAny_bind (wpAny_holding (thn (hi pins s1 σ H1 _ I1 q1) fun iv s2 ⟨y,H2,I2,r2,q2⟩=>?_))
 refine wpAny_bind (wpAny_standAt (wpAny_bind (wpAny_holding (thn (hs pins s2 σ H2 x y v ov iv u _ I2 r1 r2 r q2) fun _ s3 ⟨H3,I3,q3⟩=>?_))))
 exact wpAny_release ⟨σ,H3,I3,q3⟩
noncomputable def tAsg (te:TE) (g:TG):TS:=fun D σ H=>te σ H fun x H1=>g x σ H1 D.nx
theorem ps_asg {tg e:Expr} {te:TE} {g:TG} (he:PE X e te) (hg:PG X tg g) (hs:swapsWithSole [tg] e pos.line X.env = pure false:=by rfl) (hw:swappedStores [tg] e X.env = pure none:=by rfl)
  (h1:(assignEach [tg] X.env).map (·.2) = [assign tg X.env]:=by rfl):PS X (.Assign [tg] e pos) (tAsg te g):=by
 intro pins s σ H D I h
 refine wpAny_Assign_stores (thn (he pins s σ H _ I h) fun v s1 ⟨x,H1,I1,r1,q1⟩=>?_) hs hw
 rw [h1]
 exact thn (hg pins s1 σ H1 x v _ I1 r1 q1) fun _ s2 q=>q
theorem ps_set {i:Nat} {x:Str} {e:Expr} {te:TE} {pos':Pos} (hN:X.N.Nodup) (hi:X.N[i]? = some x) (hx:Loc X.env.scope x) (he:PE X e te) (hs:swapsWith e (some (.Name x pos')) pos.line X.env = pure false:=by rfl) (hf:X.fn x = true∨X.env.scope.names.lookup x = some .local:=by first | exact .inl rfl | exact .inr rfl | assumption) :
  PS X (.Assign [.Name x pos'] e pos) (tAsg te (gName i)):=by
 intro pins s σ H D I h
 refine wpAny_Assign_Name (thn (he pins s σ H _ I h) fun v s1 ⟨y,H1,I1,r1,q1⟩=>?_) hs
 exact store_ok I1 hN hi hx r1 (fun s2 I2=>⟨_,H1,I2,q1⟩) hf
end

section
variable {X:Cx} {pos:Pos}
noncomputable def tWhile (c:TT) (tb:TS):TS:=fun D σ H=>∃ W:Nat→St→Hp→Prop,(∃ m,W m σ H)∧∀ m σ H,W m σ H →
 c σ H fun b H1=>if b = true then ∃ N:St→Hp→Prop,(∀ σ' H',N σ' H'→∃ m',m' < m∧W m' σ' H')∧tb { D with nx:=N,ct:=N,bk:=D.nx } σ H1 else D.nx σ H1
theorem ps_while {c:Expr} {body:List Stmt} {tc:TT} {tb:TS} (hp:PassesOwn (model X.prog X.w) X.A X.env X.xe) (hc:PT X c tc) (hb:PSs X body tb):PS X (.While c body [] pos) (tWhile tc tb):=by
 intro pins s σ H D I h
 obtain ⟨W,⟨m0,w0⟩,turn⟩:=h
 refine wpAny_While (codeAny_whileLoop (fun n s'=>∃ σ' H',Inv X pins σ' H' s'∧W n σ' H') ?_ m0 ⟨σ,H,I,w0⟩)
 rintro n s1 ⟨σ1,H1,I1,w1⟩
 refine wpAny_passesOwn hp (thn (hc pins s1 σ1 H1 _ I1 (turn n σ1 H1 w1)) fun b s2 ⟨H2,I2,q2⟩=>?_)
 cases b with
 | true =>
  obtain ⟨N,hN,q2⟩:=q2
  rw [if_pos rfl]
  refine wpAny_passesOwn hp (thn (hb pins s2 σ1 H2 _ I2 q2) fun f s3 q3=>?_)
  cases f with
  | next =>
   obtain ⟨σ3,H3,I3,n3⟩:=q3
   obtain ⟨m',hm,w3⟩:=hN σ3 H3 n3
   exact ⟨m',hm,σ3,H3,I3,w3⟩
  | cont =>
   obtain ⟨σ3,H3,I3,n3⟩:=q3
   obtain ⟨m',hm,w3⟩:=hN σ3 H3 n3
   exact ⟨m',hm,σ3,H3,I3,w3⟩
  | brk=>exact q3
  | ret v=>exact q3
 | false =>
  rw [if_neg Bool.false_ne_true]
  exact wpAny_execs_nil ⟨σ1,H2,I2,q2⟩
end

structure It where
 go:Nat→Hp→Prop
 yld:Nat→Hp→V→Hp→Prop
 stop:Nat→Hp→Prop
noncomputable def FpOk (X:Cx) (pins:List (Addr×Obj)) (H:Hp) (b:Addr):Prop :=
 H b = none∧b≠X.env.locals∧b ∉ X.fs∧(b∈X.ex∨X.s₀.heap.objs.size≤b)∧(∀ x c,X.env.cells.lookup x = some c→c≠b)∧∀ p∈X.pn ++ pins,p.1≠b
theorem Inv.fpOk {X:Cx} {pins:List (Addr×Obj)} {σ:St} {H H':Hp} {s:Shared} {b:Addr} (I:Inv X pins σ H s) (hb:s.heap.objs.size≤b) (hn:H' b = none):FpOk X pins H' b:=by
 refine ⟨hn,Nat.ne_of_gt (Nat.lt_of_lt_of_le I.lt hb),I.nofs hb,.inr (Nat.le_trans I.sz hb),fun x c e z=>?_,fun p hp z=>?_⟩
 ·obtain ⟨v,q⟩:=I.cell x c e
  exact absurd (Nat.lt_of_lt_of_le q.lt (by rw [z];exact hb)) (Nat.lt_irrefl _)
 ·exact absurd (Nat.lt_of_lt_of_le (Heap.lt_size (I.pin p hp).1) (by rw [z];exact hb)) (Nat.lt_irrefl _)
structure Turn (P:Program) (w:World) (K:PySem.W.Frag) (tg:Expr) (J:It) (fp:List Addr) (it:Addr) (tn:Nat→Heap→Prop):Prop where
 mem:it∈fp
 obj:∀ i h,tn i h→∀ b∈fp,∃ o,h.get? b = some o∧∀ v,o.data≠.cell v
 keep:∀ i h h',tn i h→(∀ b∈fp,∀ o,h.get? b = some o→h'.get? b = some o)→tn i h'
 item:∀ (X:Cx),X.prog = P→X.w = w→X.K = K→X.calm = true→∀ (i:Nat) (pins:List (Addr×Obj)) (s:Shared) (σ:St) (H:Hp) (E:Value→Shared→Prop),Inv X pins σ H s→(∀ b∈fp,FpOk X pins H b)→tn i s.heap→J.go i H →
  wpAny (model P w) X.A (pyNext (.ref it)) (fun r s1=>∃ u,r = some u ∧
   wpAny (model P w) X.A (letOwnedTupleGo tg (.ref it) u) (fun _ s2=>∃ x H',Inv X pins σ H' s2∧RelV x u∧J.yld i H x H'∧tn (i + 1) s2.heap∧∀ b∈fp,H' b = none) E s1) E s
 done:∀ (X:Cx),X.prog = P→X.w = w→X.K = K→X.calm = true→∀ (i:Nat) (pins:List (Addr×Obj)) (s:Shared) (σ:St) (H:Hp) (E:Value→Shared→Prop),Inv X pins σ H s→(∀ b∈fp,FpOk X pins H b)→tn i s.heap→J.stop i H →
  wpAny (model P w) X.A (pyNext (.ref it)) (fun r s1=>r = none∧Inv X pins σ H s1) E s
 self:∀ (A:Around) (i:Nat) (s:Shared) (Q:Value→Shared→Prop) (E:Value→Shared→Prop),tn i s.heap→Q (.ref it) s→wpAny (model P w) A (pyIter (.ref it)) Q E s
noncomputable abbrev TI:=St→Hp→(It→Hp→Prop)→Prop
noncomputable def PIE (X:Cx) (pins:List (Addr×Obj)) (σ:St) (tg:Expr) (R:It→Hp→Prop) (itv:Value) (s2:Shared):Prop :=
 ∃ (it:Addr) (fp:List Addr) (tn:Nat→Heap→Prop) (J:It) (H':Hp),itv = .ref it∧Inv X pins σ H' s2∧Turn X.prog X.w X.K tg J fp it tn∧tn 0 s2.heap∧(∀ b∈fp,FpOk X pins H' b)∧R J H'
noncomputable def PI (X:Cx) (tg iter:Expr) (wi:TI):Prop :=
 ∀ (pins:List (Addr×Obj)) (s:Shared) (σ:St) (H:Hp) (R:It→Hp→Prop),Inv X pins σ H s→wi σ H R →
  wpAny (model X.prog X.w) X.A (eval iter X.env) (fun v s1=>wpAny (model X.prog X.w) X.A (pyIter v) (PIE X pins σ tg R) X.xe s1) X.xe s

theorem go_of {M : Model} {A : Around} {E : Value → Shared → Prop} {s : Shared} {tg : Expr} {it : Addr} {u : Value} {o : Obj} {n : String} {vs : Array Value} {Q : Unit → Shared → Prop} (ho : s.heap.get? it = some o) (hc : o.cls = .type n) (hd : o.data = .fields vs)
    (hn : ["enumerate", "zip", "dict_itemiterator", "dict_reverseitemiterator", "odict_iterator", "itertools.zip_longest", "itertools.pairwise"].contains n = false) (hQ : Q () s) : wpAny M A (letOwnedTupleGo tg (.ref it) u) Q E s := by
  unfold letOwnedTupleGo
  cases tg <;> first
    | exact wpAny_pure hQ
    | (cases u <;> first
        | exact wpAny_pure hQ
        | (refine wpAny_bind (wpAny_load ho ?_)
           rw [hc, hd]
           show wpAny M A (if (["enumerate", "zip", "dict_itemiterator", "dict_reverseitemiterator", "odict_iterator", "itertools.zip_longest", "itertools.pairwise"].contains n && vs[0]? == some (rawInt _)) = true then _ else _) Q E s
           rw [if_neg (by intro h; rw [hn, Bool.false_and] at h; cases h)]
           exact wpAny_pure hQ))

noncomputable def Itl (K:PySem.W.Frag) (a:Addr):It :=
 ⟨fun i H=>∃ xs x,SqL K H a xs∧xs[i]? = some x,fun i H x H'=>H' = H∧∀ xs,SqL K H a xs→xs[i]? = some x,fun i H=>∃ xs,SqL K H a xs∧xs.length≤i⟩
noncomputable def Itt (K:PySem.W.Frag) (a:Addr):It :=
 ⟨fun i H=>∃ xs x,SqT K H a xs∧xs[i]? = some x,fun i H x H'=>H' = H∧∀ xs,SqT K H a xs→xs[i]? = some x,fun i H=>∃ xs,SqT K H a xs∧xs.length≤i⟩
noncomputable def Itr (lo:Int) (n:Nat):It:=⟨fun i _=>i < n,fun i H x H'=>H' = H∧x = .int (lo + i),fun i _=>n≤i⟩
theorem turn_list {P:Program} {w:World} {K:PySem.W.Frag} {tg:Expr} (a it:Addr):Turn P w K tg (Itl K a) [it] it (fun i h=>h.IsListIter it a i) where
 mem:=by simp
 obj:=fun i h st b hb=>by
  have e:b = it:=by simpa using hb
  subst e
  obtain ⟨o,e,c,d⟩:=st
  exact ⟨o,e,fun v z=>by rw [d] at z;cases z⟩
 keep:=fun i h h' st k=>st.at fun o e=>k it (by simp) o e
 item:=by
  intro X hP hw hK hc i pins s σ H E I hf st hg
  subst hP hw hK
  obtain ⟨xs,x,hq,hx⟩:=hg
  obtain ⟨its,rv,p,hz⟩:=I.list hq
  obtain ⟨u,hu,ru⟩:=rv.get hx
  obtain ⟨f0,f1,f2,f3,f4,f5⟩:=hf it (by simp)
  refine wpAny_pyNext_list_item st p.isList (x:=u) (by simpa using hu) fun h' st' sb=>?_
  have I1:Inv X pins σ H { s with heap:=h' }:=I.turned (t':=s.toks) (fun b o hb e=>(sb.2 b hb).trans e) f0 f1 f3 f4 f5
  obtain ⟨o,e,c,d⟩:=id st'
  exact ⟨u,rfl,go_of (s:={ s with heap:=h' }) e c d (by decide) ⟨x,H,I1,ru,⟨rfl,fun ys hy=>by rw [I.list_inj hy hq];exact hx⟩,st',fun b hb=>(hf b hb).1⟩⟩
 done:=by
  intro X hP hw hK hc i pins s σ H E I hf st hg
  subst hP hw hK
  obtain ⟨xs,hq,hx⟩:=hg
  obtain ⟨its,rv,p,hz⟩:=I.list hq
  obtain ⟨f0,f1,f2,f3,f4,f5⟩:=hf it (by simp)
  have hl:=rv.length
  exact wpAny_pyNext_list_end (I.ok.hd hc) st p.isList (by simp;omega) fun h' eb=>⟨rfl,I.turned (t':=s.toks) (fun b o hb e=>eb b o hb e) f0 f1 f3 f4 f5⟩
 self:=fun _ _ _ _ _ st h=>wpAny_pyIter_listiter st h
theorem turn_tuple {P:Program} {w:World} {K:PySem.W.Frag} {tg:Expr} (a it:Addr):Turn P w K tg (Itt K a) [it] it (fun i h=>h.IsTupleIter it a i) where
 mem:=by simp
 obj:=fun i h st b hb=>by
  have e:b = it:=by simpa using hb
  subst e
  obtain ⟨o,e,c,d⟩:=st
  exact ⟨o,e,fun v z=>by rw [d] at z;cases z⟩
 keep:=fun i h h' st k=>st.at fun o e=>k it (by simp) o e
 item:=by
  intro X hP hw hK hc i pins s σ H E I hf st hg
  subst hP hw hK
  obtain ⟨xs,x,hq,hx⟩:=hg
  obtain ⟨its,rv,p,hz⟩:=I.tuple hq
  obtain ⟨u,hu,ru⟩:=rv.get hx
  obtain ⟨f0,f1,f2,f3,f4,f5⟩:=hf it (by simp)
  refine wpAny_pyNext_tuple_item st (show s.heap.IsTuple a its.toArray from p) (x:=u) (by simpa using hu) fun h' st' sb=>?_
  have I1:Inv X pins σ H { s with heap:=h' }:=I.turned (t':=s.toks) (fun b o hb e=>(sb.2 b hb).trans e) f0 f1 f3 f4 f5
  obtain ⟨o,e,c,d⟩:=id st'
  exact ⟨u,rfl,go_of (s:={ s with heap:=h' }) e c d (by decide) ⟨x,H,I1,ru,⟨rfl,fun ys hy=>by rw [I.tuple_inj hy hq];exact hx⟩,st',fun b hb=>(hf b hb).1⟩⟩
 done:=by
  intro X hP hw hK hc i pins s σ H E I hf st hg
  subst hP hw hK
  obtain ⟨xs,hq,hx⟩:=hg
  obtain ⟨its,rv,p,hz⟩:=I.tuple hq
  obtain ⟨f0,f1,f2,f3,f4,f5⟩:=hf it (by simp)
  have hl:=rv.length
  exact wpAny_pyNext_tuple_end (I.ok.hd hc) st (show s.heap.IsTuple a its.toArray from p) (by simp;omega) fun h' eb=>⟨rfl,I.turned (t':=s.toks) (fun b o hb e=>eb b o hb e) f0 f1 f3 f4 f5⟩
 self:=fun _ _ _ _ _ st h=>wpAny_pyIter_tupleiter st h
theorem turn_range {P:Program} {w:World} {K:PySem.W.Frag} {tg:Expr} (it:Addr) (lo:Int) (n:Nat):Turn P w K tg (Itr lo n) [it] it (fun i h=>IsRangeIter h it (lo + (i:Nat) * 1) ((n:Int) - (i:Nat)) 1) where
 mem:=by simp
 obj:=fun i h st b hb=>by
  have e:b = it:=by simpa using hb
  subst e
  exact ⟨_,st,fun v z=>by
   have z':Data.fields _ = Data.cell v:=z
   cases z'⟩
 keep:=fun i h h' st k=>k it (by simp) _ st
 item:=by
  intro X hP hw hK hc i pins s σ H E I hf st hg
  subst hP hw hK
  obtain ⟨f0,f1,f2,f3,f4,f5⟩:=hf it (by simp)
  have W:=Walks.range (prog:=X.prog) (w:=X.w) (I.ok.hd hc) it lo 1 n
  refine W.item i s _ _ hg st fun v h' tk hv st' kk=>?_
  obtain ⟨t,rfl⟩:=hv
  have I1:Inv X pins σ H { s with heap:=h',toks:=tk }:=I.turned (fun b o hb e=>kk b o (by simpa using hb) e) f0 f1 f3 f4 f5
  refine ⟨_,rfl,go_of (s:={ s with heap:=h',toks:=tk }) (n:="range_iterator") st' rfl rfl (by decide) ⟨.int (lo + i),H,I1,⟨t,?_⟩,⟨rfl,rfl⟩,st',fun b hb=>(hf b hb).1⟩⟩
  rw [Int.mul_one]
 done:=by
  intro X hP hw hK hc i pins s σ H E I hf st hg
  subst hP hw hK
  obtain ⟨f0,f1,f2,f3,f4,f5⟩:=hf it (by simp)
  exact wpAny_pyNext_range_end (I.ok.hd hc) st (by have:n≤i:=hg;omega) fun h' eb=>⟨rfl,I.turned (t':=s.toks) (fun b o hb e=>eb b o hb e) f0 f1 f3 f4 f5⟩
 self:=fun _ _ _ _ _ st h=>wpAny_pyIter_rangeiter st h
end L2

namespace L2
open PySem PySem.Spec PyProof.Rows
section
variable {X:Cx} {tg:Expr}
noncomputable def iList (K:PySem.W.Frag) (tl:TE):TI:=fun σ H R=>tl σ H fun x H1=>∃ a,x = .ref a∧(∃ xs,SqL K H1 a xs)∧R (Itl K a) H1
noncomputable def iTup (K:PySem.W.Frag) (tl:TE):TI:=fun σ H R=>tl σ H fun x H1=>∃ a,x = .ref a∧(∃ xs,SqT K H1 a xs)∧R (Itt K a) H1
theorem pi_list {l:Expr} {tl:TE} (hl:PE X l tl):PI X tg l (iList X.K tl):=by
 intro pins s σ H R I h
 refine thn (hl pins s σ H _ I h) fun v s1 ⟨x,H1,I1,r1,q1⟩=>?_
 obtain ⟨a,e,⟨xs,hq⟩,q⟩:=q1
 subst e
 cases r1
 obtain ⟨its,rv,p,hz⟩:=I1.list hq
 refine wpAny_pyIter_list p.isList ?_
 refine ⟨s1.heap.objs.size,[s1.heap.objs.size],_,_,H1,rfl,I1.kept (t':=s1.toks) fun b o e=>Heap.get?_push_of_some _ e,turn_list a _,⟨_,Heap.get?_push_size _ rfl,rfl,rfl⟩,fun b hb=>?_,q⟩
 have e:b = s1.heap.objs.size:=by simpa using hb
 subst e
 exact I1.fpOk (Nat.le_refl _) (I1.hok.fresh (Nat.le_refl _))
theorem pi_tup {l:Expr} {tl:TE} (hl:PE X l tl):PI X tg l (iTup X.K tl):=by
 intro pins s σ H R I h
 refine thn (hl pins s σ H _ I h) fun v s1 ⟨x,H1,I1,r1,q1⟩=>?_
 obtain ⟨a,e,⟨xs,hq⟩,q⟩:=q1
 subst e
 cases r1
 obtain ⟨its,rv,p,hz⟩:=I1.tuple hq
 refine wpAny_pyIter_tuple (show s1.heap.IsTuple a its.toArray from p) ?_
 refine ⟨s1.heap.objs.size,[s1.heap.objs.size],_,_,H1,rfl,I1.kept (t':=s1.toks) fun b o e=>Heap.get?_push_of_some _ e,turn_tuple a _,⟨_,Heap.get?_push_size _ rfl,rfl,rfl⟩,fun b hb=>?_,q⟩
 have e:b = s1.heap.objs.size:=by simpa using hb
 subst e
 exact I1.fpOk (Nat.le_refl _) (I1.hok.fresh (Nat.le_refl _))
theorem range_it {pins:List (Addr×Obj)} {σ:St} {H:Hp} {s:Shared} {R:It→Hp→Prop} {E:Value→Shared→Prop} {lo hi:Int} {t u v:Tok} {tk:Nat} (I:Inv X pins σ H s) (h1:-(2 ^ 62)≤lo) (h2:lo < 2 ^ 62) (h3:-(2 ^ 62)≤hi) (h4:hi < 2 ^ 62)
  (q:R (Itr lo (hi - lo).toNat) H):wpAny (model X.prog X.w) X.A (pyIter (.ref s.heap.objs.size)) (PIE X pins σ tg R) E { s with heap:=s.heap.push { cls:=.type "range",data:=.fields #[.int lo t,.int hi u,.int 1 v] },toks:=tk }:=by
 refine wpAny_pyIter_range (IsRange.new ..) (small_one h1 h2 h3 h4) ?_
 have I1:Inv X pins σ H { s with heap:=s.heap.push { cls:=.type "range",data:=.fields #[.int lo t,.int hi u,.int 1 v] },toks:=tk }:=I.kept fun b o e=>Heap.get?_push_of_some _ e
 refine ⟨(s.heap.push { cls:=.type "range",data:=.fields #[.int lo t,.int hi u,.int 1 v] }).objs.size,[(s.heap.push { cls:=.type "range",data:=.fields #[.int lo t,.int hi u,.int 1 v] }).objs.size],_,_,H,rfl,
  I1.kept (t':=tk) fun b o e=>Heap.get?_push_of_some _ e,turn_range _ lo (hi - lo).toNat,?_,fun b hb=>?_,q⟩
 ·have e1:lo + ((0:Nat):Int) * 1 = lo:=by simp
  have e2:(((hi - lo).toNat:Nat):Int) - ((0:Nat):Int) = Builtin.Range.rangeSize lo hi 1:=by rw [rangeSize_one];split <;> omega
  show IsRangeIter _ _ (lo + ((0:Nat):Int) * 1) ((((hi - lo).toNat:Nat):Int) - ((0:Nat):Int)) 1
  rw [e1,e2]
  exact Heap.get?_push_size _ rfl
 ·have e:b = (s.heap.push { cls:=.type "range",data:=.fields #[.int lo t,.int hi u,.int 1 v] }).objs.size:=by simpa using hb
  subst e
  exact I1.fpOk (Nat.le_refl _) (I1.hok.fresh (Nat.le_refl _))
noncomputable def iRng1 (ta:TA):TI:=fun σ H R=>ta σ H fun vs H1=>∃ j:Int,vs = [.int j]∧-(2 ^ 62)≤j∧j < 2 ^ 62∧R (Itr 0 j.toNat) H1
noncomputable def iRng2 (ta:TA):TI:=fun σ H R=>ta σ H fun vs H1=>∃ i j:Int,vs = [.int i,.int j]∧(-(2 ^ 62)≤i∧i < 2 ^ 62∧-(2 ^ 62)≤j∧j < 2 ^ 62)∧R (Itr i (j - i).toNat) H1
theorem pi_range1 {a:Expr} {ta:TA} {p pos:Pos} (hg:Gl X "range") (hm:X.mg "range" = none) (ha:PA X [a] ta) (hs:starEach [a] X.env = [(false,eval a X.env)]:=by rfl):PI X tg (.Call (.Name "range" p) [a] [] pos) (iRng1 ta):=by
 intro pins s σ H R I h
 refine Call_ (ld_blt I hg hm boot_range (PyProof.Rows.callWith_type1 (thn (ha pos pins s σ H _ I h) fun us s1 ⟨vs,H1,I1,r1,q1⟩=>?_) hs rfl))
 obtain ⟨j,e,q1,q2,q⟩:=q1
 subst e
 cases r1 with
 | cons r rr =>
  cases rr
  obtain ⟨t,rfl⟩:=r
  exact call_range_1 (range_it I1 (by omega) (by omega) q1 q2 (by simpa using q))
theorem pi_range2 {a b:Expr} {ta:TA} {p pos:Pos} (hg:Gl X "range") (hm:X.mg "range" = none) (ha:PA X [a,b] ta) (hs:starEach [a,b] X.env = [(false,eval a X.env),(false,eval b X.env)]:=by rfl) (hs2:starEach [b] X.env = [(false,eval b X.env)]:=by rfl) :
  PI X tg (.Call (.Name "range" p) [a,b] [] pos) (iRng2 ta):=by
 intro pins s σ H R I h
 refine Call_ (ld_blt I hg hm boot_range (PyProof.Rows.callWith_type1 (thn (ha pos pins s σ H _ I h) fun us s1 ⟨vs,H1,I1,r1,q1⟩=>?_) (by rw [hs,hs2]) (by rw [hs2];rfl)))
 obtain ⟨i,j,e,⟨q1,q2,q3,q4⟩,q⟩:=q1
 subst e
 cases r1 with
 | cons r rr =>
  cases rr with
  | cons r' rr =>
   cases rr
   obtain ⟨t,rfl⟩:=r
   obtain ⟨t',rfl⟩:=r'
   exact call_range_2 (range_it I1 q1 q2 q3 q4 q)

noncomputable def tFor (wi:TI) (g:TG) (tb:TS):TS:=fun D σ H=>wi σ H fun J H1=>∃ W:Nat→Nat→St→Hp→Prop,(∃ m,W 0 m σ H1)∧∀ i m σ H,W i m σ H →
 (J.stop i H∧D.nx σ H)∨(J.go i H∧∃ N:St→Hp→Prop,(∀ σ' H',N σ' H'→∃ m',m' < m∧W (i + 1) m' σ' H')∧∀ x H',J.yld i H x H'→g x σ H' fun σ2 H2=>tb { D with nx:=N,ct:=N,bk:=D.nx } σ2 H2)
noncomputable def pinsAt (fp:List Addr) (h:Heap):List (Addr×Obj):=fp.filterMap fun b=>(h.get? b).map fun o=>(b,o)
theorem mem_pinsAt {fp:List Addr} {h:Heap} {b:Addr} {o:Obj} (hb:b∈fp) (e:h.get? b = some o):(b,o)∈pinsAt fp h:=List.mem_filterMap.mpr ⟨b,hb,by rw [e];rfl⟩
theorem of_pinsAt {fp:List Addr} {h:Heap} {p:Addr×Obj} (hp:p∈pinsAt fp h):p.1∈fp∧h.get? p.1 = some p.2:=by
 obtain ⟨b,hb,e⟩:=List.mem_filterMap.mp hp
 cases q:h.get? b with
 | none=>rw [q] at e;cases e
 | some o =>
  rw [q] at e
  have e':(b,o) = p:=Option.some.inj e
  subst e'
  exact ⟨hb,q⟩
theorem Inv.pinned {pins:List (Addr×Obj)} {σ:St} {H:Hp} {s:Shared} {fp:List Addr} (I:Inv X pins σ H s) (hf:∀ b∈fp,FpOk X pins H b) (ho:∀ b∈fp,∃ o,s.heap.get? b = some o∧∀ v,o.data≠.cell v):Inv X (pins ++ pinsAt fp s.heap) σ H s :=
 I.pins_of fun p hp=>(List.mem_append.mp hp).elim (fun z=>I.pin p (List.mem_append_right _ z)) fun z=>by
  obtain ⟨hb,e⟩:=of_pinsAt z
  obtain ⟨f0,f1,f2,_⟩:=hf p.1 hb
  obtain ⟨o,e',d⟩:=ho p.1 hb
  rw [e] at e';cases e'
  exact ⟨e,f0,f1,f2,d⟩
theorem Inv.unpinned {pins pl:List (Addr×Obj)} {σ:St} {H:Hp} {s:Shared} (I:Inv X (pins ++ pl) σ H s):Inv X pins σ H s:=I.pins_of fun p hp=>I.pin p (List.mem_append_right _ (List.mem_append_left _ hp))
theorem ps_for {iter:Expr} {body:List Stmt} {wi:TI} {g:TG} {tb:TS} {pos:Pos} (hp:PassesOwn (model X.prog X.w) X.A X.env X.xe) (hc:X.calm = true) (hi:PI X tg iter wi) (hg:PG X tg g) (hb:PSs X body tb)
  (hs:∀ x,foldedSetIterable iter X.env x = pure x:=by intro _;rfl):PS X (.For tg iter body [] pos) (tFor wi g tb):=by
 intro pins s σ H D I h
 refine wpAny_For (thn (hi pins s σ H _ I h) fun v s1 h1=>thn h1 fun itv s2 h2=>?_) hs
 obtain ⟨it,fp,tn,J,H2,e,I2,T,st2,f2,W,⟨m0,w0⟩,turn⟩:=h2
 subst e
 have stat:∀ {H':Hp},(∀ b∈fp,H' b = none)→∀ b∈fp,FpOk X pins H' b:=fun hn b hb=>⟨hn b hb,(f2 b hb).2⟩
 refine codeAny_forLoop_any (fun n s'=>∃ i σ' H',Inv X pins σ' H' s'∧tn i s'.heap∧(∀ b∈fp,H' b = none)∧W i n σ' H') ?_ m0 ⟨0,σ,H2,I2,st2,fun b hb=>(f2 b hb).1,w0⟩
 rintro n s3 ⟨i,σ3,H3,I3,st3,fr3,w3⟩
 rcases turn i n σ3 H3 w3 with ⟨stop,qn⟩ | ⟨go,N,hN,step⟩
 ·refine wpAny_passesOwn hp (thn (T.done X rfl rfl rfl hc i pins s3 σ3 H3 X.xe I3 (stat fr3) st3 stop) fun r s4 ⟨hr,I4⟩=>?_)
  subst hr
  exact wpAny_execs_nil ⟨σ3,H3,I4,qn⟩
 ·refine wpAny_passesOwn hp (thn (T.item X rfl rfl rfl hc i pins s3 σ3 H3 X.xe I3 (stat fr3) st3 go) fun r s4 ⟨u,hr,h4⟩=>?_)
  subst hr
  refine wpAny_passesOwn hp (thn h4 fun _ s5 ⟨x,H5,I5,r5,y5,st5,fr5⟩=>?_)
  have I5':=I5.pinned (stat fr5) (T.obj _ _ st5)
  refine wpAny_passesOwn hp (thn (hg _ s5 σ3 H5 x u _ I5' r5 (step x H5 y5)) fun _ s6 ⟨σ6,H6,I6,q6⟩=>?_)
  refine wpAny_passesOwn hp (thn (hb _ s6 σ6 H6 _ I6 q6) fun f s7 q7=>?_)
  have again:∀ {σ7:St} {H7:Hp},Inv X (pins ++ pinsAt fp s5.heap) σ7 H7 s7→N σ7 H7→∃ m,m < n∧∃ i σ' H',Inv X pins σ' H' s7∧tn i s7.heap∧(∀ b∈fp,H' b = none)∧W i m σ' H':=fun {σ7 H7} I7 n7=>by
   obtain ⟨m',hm,w7⟩:=hN σ7 H7 n7
   refine ⟨m',hm,i + 1,σ7,H7,I7.unpinned,T.keep _ _ _ st5 fun b hb o e=>(I7.pin (b,o) (List.mem_append_right _ (List.mem_append_right _ (mem_pinsAt hb e)))).1,fun b hb=>?_,w7⟩
   obtain ⟨o,e,d⟩:=T.obj _ _ st5 b hb
   exact (I7.pin (b,o) (List.mem_append_right _ (List.mem_append_right _ (mem_pinsAt hb e)))).2.1
  cases f with
  | next=>obtain ⟨σ7,H7,I7,n7⟩:=q7;exact again I7 n7
  | cont=>obtain ⟨σ7,H7,I7,n7⟩:=q7;exact again I7 n7
  | brk=>obtain ⟨σ7,H7,I7,q7⟩:=q7;exact ⟨σ7,H7,I7.unpinned,q7⟩
  | ret v=>obtain ⟨x7,σ7,H7,I7,r7,q7⟩:=q7;exact ⟨x7,σ7,H7,I7.unpinned,r7,q7⟩
end

theorem for_list {K:PySem.W.Frag} {a:Addr} {xs:List V} {g:TG} {tb:TS} {D:Ends} {σ:St} {H:Hp} (Pv:Nat→St→Hp→Prop) (h0:Pv 0 σ H) (hl:∀ i σ H,i≤xs.length→Pv i σ H→SqL K H a xs)
  (hs:∀ i x σ H,xs[i]? = some x→Pv i σ H→g x σ H fun σ2 H2=>tb { D with nx:=Pv (i + 1),ct:=Pv (i + 1),bk:=D.nx } σ2 H2) (hd:∀ σ H,Pv xs.length σ H→D.nx σ H) :
  ∃ W:Nat→Nat→St→Hp→Prop,(∃ m,W 0 m σ H)∧∀ i m σ H,W i m σ H →
   ((Itl K a).stop i H∧D.nx σ H)∨((Itl K a).go i H∧∃ N:St→Hp→Prop,(∀ σ' H',N σ' H'→∃ m',m' < m∧W (i + 1) m' σ' H')∧∀ x H',(Itl K a).yld i H x H'→g x σ H' fun σ2 H2=>tb { D with nx:=N,ct:=N,bk:=D.nx } σ2 H2):=by
 refine ⟨fun i m σ H=>m = xs.length - i∧i≤xs.length∧Pv i σ H,⟨xs.length,by simp,Nat.zero_le _,h0⟩,?_⟩
 rintro i m σ H ⟨rfl,hi,p⟩
 have q:=hl i σ H hi p
 by_cases hlt:i < xs.length
 ·refine .inr ⟨⟨xs,xs[i],q,by simp [hlt]⟩,Pv (i + 1),fun σ' H' p'=>⟨xs.length - (i + 1),by omega,rfl,hlt,p'⟩,fun x H' y=>?_⟩
  obtain ⟨e,y⟩:=y
  subst e
  exact hs i x σ _ (y xs q) p
 ·have e:i = xs.length:=by omega
  subst e
  exact .inl ⟨⟨xs,q,Nat.le_refl _⟩,hd σ H p⟩
theorem for_tup {K:PySem.W.Frag} {a:Addr} {xs:List V} {g:TG} {tb:TS} {D:Ends} {σ:St} {H:Hp} (Pv:Nat→St→Hp→Prop) (h0:Pv 0 σ H) (hl:∀ i σ H,i≤xs.length→Pv i σ H→SqT K H a xs)
  (hs:∀ i x σ H,xs[i]? = some x→Pv i σ H→g x σ H fun σ2 H2=>tb { D with nx:=Pv (i + 1),ct:=Pv (i + 1),bk:=D.nx } σ2 H2) (hd:∀ σ H,Pv xs.length σ H→D.nx σ H) :
  ∃ W:Nat→Nat→St→Hp→Prop,(∃ m,W 0 m σ H)∧∀ i m σ H,W i m σ H →
   ((Itt K a).stop i H∧D.nx σ H)∨((Itt K a).go i H∧∃ N:St→Hp→Prop,(∀ σ' H',N σ' H'→∃ m',m' < m∧W (i + 1) m' σ' H')∧∀ x H',(Itt K a).yld i H x H'→g x σ H' fun σ2 H2=>tb { D with nx:=N,ct:=N,bk:=D.nx } σ2 H2):=by
 refine ⟨fun i m σ H=>m = xs.length - i∧i≤xs.length∧Pv i σ H,⟨xs.length,by simp,Nat.zero_le _,h0⟩,?_⟩
 rintro i m σ H ⟨rfl,hi,p⟩
 have q:=hl i σ H hi p
 by_cases hlt:i < xs.length
 ·refine .inr ⟨⟨xs,xs[i],q,by simp [hlt]⟩,Pv (i + 1),fun σ' H' p'=>⟨xs.length - (i + 1),by omega,rfl,hlt,p'⟩,fun x H' y=>?_⟩
  obtain ⟨e,y⟩:=y
  subst e
  exact hs i x σ _ (y xs q) p
 ·have e:i = xs.length:=by omega
  subst e
  exact .inl ⟨⟨xs,q,Nat.le_refl _⟩,hd σ H p⟩
theorem for_range {lo:Int} {n:Nat} {g:TG} {tb:TS} {D:Ends} {σ:St} {H:Hp} (Pv:Nat→St→Hp→Prop) (h0:Pv 0 σ H)
  (hs:∀ i σ H,i < n→Pv i σ H→g (.int (lo + i)) σ H fun σ2 H2=>tb { D with nx:=Pv (i + 1),ct:=Pv (i + 1),bk:=D.nx } σ2 H2) (hd:∀ σ H,Pv n σ H→D.nx σ H) :
  ∃ W:Nat→Nat→St→Hp→Prop,(∃ m,W 0 m σ H)∧∀ i m σ H,W i m σ H →
   ((Itr lo n).stop i H∧D.nx σ H)∨((Itr lo n).go i H∧∃ N:St→Hp→Prop,(∀ σ' H',N σ' H'→∃ m',m' < m∧W (i + 1) m' σ' H')∧∀ x H',(Itr lo n).yld i H x H'→g x σ H' fun σ2 H2=>tb { D with nx:=N,ct:=N,bk:=D.nx } σ2 H2):=by
 refine ⟨fun i m σ H=>m = n - i∧i≤n∧Pv i σ H,⟨n,by simp,Nat.zero_le _,h0⟩,?_⟩
 rintro i m σ H ⟨rfl,hi,p⟩
 by_cases hlt:i < n
 ·refine .inr ⟨hlt,Pv (i + 1),fun σ' H' p'=>⟨n - (i + 1),by omega,rfl,hlt,p'⟩,fun x H' y=>?_⟩
  obtain ⟨e,y⟩:=y
  subst e y
  exact hs i σ _ hlt p
 ·have e:i = n:=by omega
  subst e
  exact .inl ⟨Nat.le_refl _,hd σ H p⟩
theorem while_by {c:TT} {tb:TS} {D:Ends} {σ:St} {H:Hp} (Pv:St→Hp→Prop) (μ:St→Hp→Nat) (h0:Pv σ H)
  (hs:∀ σ H,Pv σ H→c σ H fun b H1=>if b = true then tb { D with nx:=fun σ' H'=>Pv σ' H'∧μ σ' H' < μ σ H,ct:=fun σ' H'=>Pv σ' H'∧μ σ' H' < μ σ H,bk:=D.nx } σ H1 else D.nx σ H1)
  (mono:∀ σ H Q Q',(∀ b H1,Q b H1→Q' b H1)→c σ H Q→c σ H Q'):tWhile c tb D σ H:=by
 refine ⟨fun m σ H=>m = μ σ H∧Pv σ H,⟨_,rfl,h0⟩,?_⟩
 rintro m σ H ⟨rfl,p⟩
 refine mono σ H _ _ (fun b H1 q=>?_) (hs σ H p)
 cases b with
 | true=>exact ⟨_,fun σ' H' ⟨p',l⟩=>⟨_,l,rfl,p'⟩,q⟩
 | false=>exact q
end L2

namespace L2
open PySem PySem.Spec PyProof.Rows

noncomputable abbrev R2:=V→V→Hp→VK→Prop
noncomputable def OpR (X:Cx) (f:Value→Value→Sem Value) (r:R2):Prop :=
 ∀ (pins:List (Addr×Obj)) (s:Shared) (σ:St) (H:Hp) (x y:V) (v u:Value) (Q:VK),Inv X pins σ H s→RelV x v→RelV y u→r x y H Q →
  wpAny (model X.prog X.w) X.A (f v u) (EP X pins σ Q) X.xe s
noncomputable def UnR (X:Cx) (f:Value→Sem Value) (r:V→Hp→VK→Prop):Prop :=
 ∀ (pins:List (Addr×Obj)) (s:Shared) (σ:St) (H:Hp) (x:V) (v:Value) (Q:VK),Inv X pins σ H s→RelV x v→r x H Q →
  wpAny (model X.prog X.w) X.A (f v) (EP X pins σ Q) X.xe s
noncomputable def CallR (X:Cx) (f:Value) (r:List V→Hp→VK→Prop):Prop :=
 ∀ (pins:List (Addr×Obj)) (s:Shared) (σ:St) (H:Hp) (xs:List V) (us:List Value) (Q:VK),Inv X pins σ H s→Vals xs us→r xs H Q →
  wpAny (model X.prog X.w) X.A (call f us) (EP X pins σ Q) X.xe s
noncomputable def tOp (r:R2) (ta tb:TE):TE:=fun σ H Q=>ta σ H fun x H1=>tb σ H1 fun y H2=>r x y H2 Q
noncomputable def tUn (r:V→Hp→VK→Prop) (ta:TE):TE:=fun σ H Q=>ta σ H fun x H1=>r x H1 Q
noncomputable def rI (C:Int→Int→Prop) (g:Int→Int→V):R2:=fun x y H Q=>∃ i j,x = .int i∧y = .int j∧C i j∧Q (g i j) H
noncomputable def rI0 (g:Int→Int→V):R2:=fun x y H Q=>∃ i j,x = .int i∧y = .int j∧Q (g i j) H
noncomputable def rU (g:Int→V):V→Hp→VK→Prop:=fun x H Q=>∃ i,x = .int i∧Q (g i) H

section
variable {X:Cx} {a b c:Expr} {ta tb tc:TE} {pos:Pos}

theorem binT (ha:PE X a ta) (hb:PE X b tb) {pins:List (Addr×Obj)} {s:Shared} {σ:St} {H:Hp} {R:V→V→Hp→Prop} (I:Inv X pins σ H s)
  (h:ta σ H fun x H1=>tb σ H1 fun y H2=>R x y H2) {Q:Value→Shared→Prop} {f:Value→Value→Sem Value}
  (hf:∀ v u s2 x y H2,Inv X pins σ H2 s2→RelV x v→RelV y u→R x y H2→wpAny (model X.prog X.w) X.A (f v u) Q X.xe s2) :
  wpAny (model X.prog X.w) X.A (eval a X.env) (fun v s₁=>wpAny (model X.prog X.w) X.A (eval b X.env) (fun u s₂=>wpAny (model X.prog X.w) X.A (f v u) Q X.xe s₂) X.xe s₁) X.xe s:=by
 refine thn (ha pins s σ H _ I h) fun v s1 ⟨x,H1,I1,r1,q1⟩=>?_
 refine thn (hb pins s1 σ H1 _ I1 q1) fun u s2 ⟨y,H2,I2,r2,q2⟩=>?_
 exact hf v u s2 x y H2 I2 r1 r2 q2

theorem pe_op {op:Operator} {r:R2} (ho:OpR X (binaryOp op) r) (ha:PE X a ta) (hb:PE X b tb):PE X (.BinOp a op b pos) (tOp r ta tb):=by
 intro pins s σ H Q I h
 exact wpAny_BinOp (binT ha hb I h fun v u s2 x y H2 I2 rx ry q=>ho pins s2 σ H2 x y v u Q I2 rx ry q)
theorem pe_un {op:UnaryOp} {r:V→Hp→VK→Prop} (ho:UnR X (unaryOp op) r) (ha:PE X a ta):PE X (.UnaryOp op a pos) (tUn r ta):=by
 intro pins s σ H Q I h
 exact UnaryOp_ (thn (ha pins s σ H _ I h) fun v s1 ⟨x,H1,I1,r1,q1⟩=>ho pins s1 σ H1 x v Q I1 r1 q1)
theorem opI {f:Value→Value→Sem Value} {C:Int→Int→Prop} {g:Int→Int→Int}
  (rule:∀ (i j:Int) (t u:Tok) (s:Shared) (Q:Value→Shared→Prop) (E:Value→Shared→Prop),C i j→Q (.int (g i j) s.toks) { s with toks:=s.toks + 1 }→wpAny (model X.prog X.w) X.A (f (.int i t) (.int j u)) Q E s) :
  OpR X f (rI C fun i j=>.int (g i j)):=by
 intro pins s σ H x y v u Q I rx ry h
 obtain ⟨i,j,rfl,rfl,hc,q⟩:=h
 obtain ⟨t,rfl⟩:=rx
 obtain ⟨t',rfl⟩:=ry
 exact rule i j t t' s _ _ hc ⟨.int (g i j),H,I.tok _,⟨_,rfl⟩,q⟩
theorem opI0 {f:Value→Value→Sem Value} {g:Int→Int→Int}
  (rule:∀ (i j:Int) (t u:Tok) (s:Shared) (Q:Value→Shared→Prop) (E:Value→Shared→Prop),Q (.int (g i j) s.toks) { s with toks:=s.toks + 1 }→wpAny (model X.prog X.w) X.A (f (.int i t) (.int j u)) Q E s) :
  OpR X f (rI0 fun i j=>.int (g i j)):=by
 intro pins s σ H x y v u Q I rx ry h
 obtain ⟨i,j,rfl,rfl,q⟩:=h
 obtain ⟨t,rfl⟩:=rx
 obtain ⟨t',rfl⟩:=ry
 exact rule i j t t' s _ _ ⟨.int (g i j),H,I.tok _,⟨_,rfl⟩,q⟩
theorem opB0 {f:Value→Value→Sem Value} {g:Int→Int→Bool}
  (rule:∀ (i j:Int) (t u:Tok) (s:Shared) (Q:Value→Shared→Prop) (E:Value→Shared→Prop),Q (.bool (g i j)) s→wpAny (model X.prog X.w) X.A (f (.int i t) (.int j u)) Q E s) :
  OpR X f (rI0 fun i j=>.bl (g i j)):=by
 intro pins s σ H x y v u Q I rx ry h
 obtain ⟨i,j,rfl,rfl,q⟩:=h
 obtain ⟨t,rfl⟩:=rx
 obtain ⟨t',rfl⟩:=ry
 exact rule i j t t' s _ _ ⟨.bl (g i j),H,I,rfl,q⟩

noncomputable def CDiv (i j:Int):Prop:=0 < j∧j < 1073741824
noncomputable def CPow (i j:Int):Prop:=0≤j∧j≤1000000∧i.natAbs < 2 ^ 64
noncomputable def CMul (i j:Int):Prop:=(-(2 ^ 64) < i∧i < 2 ^ 64)∨(-(2 ^ 64) < j∧j < 2 ^ 64)
theorem CMul.ok {i j:Int} (h:CMul i j):IntMulOk i j:=by
 rcases h with ⟨h1,h2⟩ | ⟨h1,h2⟩
 ·exact .of_left (intBits_le_64 h1 h2)
 ·exact .of_right (intBits_le_64 h1 h2)
theorem op_add:OpR X (binaryOp .Add) (rI0 fun i j=>.int (i + j)):=opI0 fun _ _ _ _ _ _ _ q=>add_int q
theorem op_sub:OpR X (binaryOp .Sub) (rI0 fun i j=>.int (i - j)):=opI0 fun _ _ _ _ _ _ _ q=>sub_int q
theorem op_mul:OpR X (binaryOp .Mult) (rI CMul fun i j=>.int (i * j)):=opI fun _ _ _ _ _ _ _ hc q=>mul_int q hc.ok
theorem op_fdiv:OpR X (binaryOp .FloorDiv) (rI CDiv fun i j=>.int (i / j)):=opI fun i j _ _ _ _ _ hc q=>by
 have h1:(0:Int) < j:=hc.1
 have h2:j < 1073741824:=hc.2
 exact floordiv_int (by omega) (by rw [Int.fdiv_eq_ediv_of_nonneg i (by omega)];exact q) (.inl (PyProof.noPylong_small (by omega)))
theorem op_mod:OpR X (binaryOp .Mod) (rI (fun _ j=>0 < j) fun i j=>.int (i % j)):=opI fun i j _ _ _ _ _ hc q=>by
 have h1:(0:Int) < j:=hc
 exact mod_int' (by omega) (by rw [Int.fmod_eq_emod_of_nonneg i (by omega)];exact q)
theorem op_pow:OpR X (binaryOp .Pow) (rI CPow fun i j=>.int (i ^ j.toNat)):=opI fun _ _ _ _ _ _ _ hc q=>pow_int_small hc.1 hc.2.1 hc.2.2 q
theorem unI {f:Value→Sem Value} {g:Int→Int}
  (rule:∀ (i:Int) (t:Tok) (s:Shared) (Q:Value→Shared→Prop) (E:Value→Shared→Prop),Q (.int (g i) s.toks) { s with toks:=s.toks + 1 }→wpAny (model X.prog X.w) X.A (f (.int i t)) Q E s) :
  UnR X f (rU fun i=>.int (g i)):=by
 intro pins s σ H x v Q I rx h
 obtain ⟨i,rfl,q⟩:=h
 obtain ⟨t,rfl⟩:=rx
 exact rule i t s _ _ ⟨.int (g i),H,I.tok _,⟨_,rfl⟩,q⟩
theorem un_neg:UnR X (unaryOp .USub) (rU fun i=>.int (-i)):=unI fun _ _ _ _ _ q=>neg_int q
end

noncomputable def scal:V→V→Bool
 | .non,.non=>true | .non,.int _=>true | .int _,.non=>true | .non,.bl _=>true | .bl _,.non=>true | .non,.str _=>true | .str _,.non=>true
 | .int _,.int _=>true | .bl _,.bl _=>true | .str _,.str _=>true | .byt _,.byt _=>true
 | .int _,.str _=>true | .str _,.int _=>true | .bl _,.str _=>true | .str _,.bl _=>true
 | _,_=>false
noncomputable def rEq:R2:=fun x y H Q=>scal x y = true∧Q (.bl (decide (x = y))) H
noncomputable def rNe:R2:=fun x y H Q=>scal x y = true∧Q (.bl (!decide (x = y))) H

theorem dec_int {i j:Int}:decide (V.int i = V.int j) = (i == j):=by
 rw [Bool.eq_iff_iff]
 simp
theorem dec_bl {i j:Bool}:decide (V.bl i = V.bl j) = (i == j):=by
 rw [Bool.eq_iff_iff]
 simp
theorem dec_str {i j:Str}:decide (V.str i = V.str j) = (i == j):=by
 rw [Bool.eq_iff_iff]
 simp
theorem dec_byt {i j:Array UInt8}:decide (V.byt i = V.byt j) = (i.toList == j.toList):=by
 rw [Bool.eq_iff_iff]
 cases i
 cases j
 simp

section
variable {X:Cx} {a b c:Expr} {ta tb tc:TE} {pos:Pos}
theorem fin_bl {pins:List (Addr×Obj)} {σ:St} {H:Hp} {s:Shared} {Q:VK} {k k':Bool} (I:Inv X pins σ H s) (q:Q (.bl k) H) (e:k = k'):EP X pins σ Q (.bool k') s:=by
 subst e
 exact ⟨.bl k,H,I,rfl,q⟩
theorem op_eq:OpR X (compareOp .Eq) rEq:=by
 intro pins s σ H x y v u Q I rx ry h
 obtain ⟨hs,q⟩:=h
 cases x with
 | non =>
  cases rx
  cases y with
  | non=>cases ry;exact PySem.EqNone.eq_none_none (fin_bl I q (by simp))
  | bl j=>cases ry;exact PySem.EqNone.eq_none_bool (fin_bl I q (by simp))
  | int j=>obtain ⟨t',rfl⟩:=ry;exact PySem.EqNone.eq_none_int (fin_bl I q (by simp))
  | str j=>obtain ⟨t',rfl⟩:=ry;exact PySem.EqNone.eq_none_str (fin_bl I q (by simp))
  | _=>exact absurd (show false = true from hs) Bool.false_ne_true
 | bl i =>
  cases rx
  cases y with
  | non=>cases ry;exact PySem.EqNone.eq_bool_none (fin_bl I q (by simp))
  | bl j=>cases ry;exact eq_bool (fin_bl I q dec_bl)
  | str j=>obtain ⟨t',rfl⟩:=ry;exact PySem.EqMixed.eq_bool_str (fin_bl I q (by simp))
  | _=>exact absurd (show false = true from hs) Bool.false_ne_true
 | int i =>
  obtain ⟨t,rfl⟩:=rx
  cases y with
  | non=>cases ry;exact PySem.EqNone.eq_int_none (fin_bl I q (by simp))
  | int j=>obtain ⟨t',rfl⟩:=ry;exact eq_int (fin_bl I q dec_int)
  | str j=>obtain ⟨t',rfl⟩:=ry;exact PySem.EqMixed.eq_int_str (fin_bl I q (by simp))
  | _=>exact absurd (show false = true from hs) Bool.false_ne_true
 | str i =>
  obtain ⟨t,rfl⟩:=rx
  cases y with
  | non=>cases ry;exact PySem.EqNone.eq_str_none (fin_bl I q (by simp))
  | bl j=>cases ry;exact PySem.EqMixed.eq_str_bool (fin_bl I q (by simp))
  | int j=>obtain ⟨t',rfl⟩:=ry;exact PySem.EqMixed.eq_str_int (fin_bl I q (by simp))
  | str j=>obtain ⟨t',rfl⟩:=ry;exact eq_str (fin_bl I q dec_str)
  | _=>exact absurd (show false = true from hs) Bool.false_ne_true
 | byt i =>
  obtain ⟨t,rfl⟩:=rx
  cases y with
  | byt j=>obtain ⟨t',rfl⟩:=ry;exact PySem.W.eq_bytes (fin_bl I q dec_byt)
  | _=>exact absurd (show false = true from hs) Bool.false_ne_true
 | _=>cases y <;> exact absurd (show false = true from hs) Bool.false_ne_true
theorem op_ne:OpR X (compareOp .NotEq) rNe:=by
 intro pins s σ H x y v u Q I rx ry h
 obtain ⟨hs,q⟩:=h
 cases x with
 | non =>
  cases rx
  cases y with
  | non=>cases ry;exact PySem.EqNone.ne_none_none (fin_bl I q (by simp))
  | bl j=>cases ry;exact PySem.EqNone.ne_none_bool (fin_bl I q (by simp))
  | int j=>obtain ⟨t',rfl⟩:=ry;exact PySem.EqNone.ne_none_int (fin_bl I q (by simp))
  | str j=>obtain ⟨t',rfl⟩:=ry;exact PySem.EqNone.ne_none_str (fin_bl I q (by simp))
  | _=>exact absurd (show false = true from hs) Bool.false_ne_true
 | bl i =>
  cases rx
  cases y with
  | non=>cases ry;exact PySem.EqNone.ne_bool_none (fin_bl I q (by simp))
  | bl j=>cases ry;exact ne_bool (fin_bl I q (congrArg not dec_bl))
  | str j=>obtain ⟨t',rfl⟩:=ry;exact PySem.EqMixed.ne_bool_str (fin_bl I q (by simp))
  | _=>exact absurd (show false = true from hs) Bool.false_ne_true
 | int i =>
  obtain ⟨t,rfl⟩:=rx
  cases y with
  | non=>cases ry;exact PySem.EqNone.ne_int_none (fin_bl I q (by simp))
  | int j=>obtain ⟨t',rfl⟩:=ry;exact ne_int (fin_bl I q (congrArg not dec_int))
  | str j=>obtain ⟨t',rfl⟩:=ry;exact PySem.EqMixed.ne_int_str (fin_bl I q (by simp))
  | _=>exact absurd (show false = true from hs) Bool.false_ne_true
 | str i =>
  obtain ⟨t,rfl⟩:=rx
  cases y with
  | non=>cases ry;exact PySem.EqNone.ne_str_none (fin_bl I q (by simp))
  | bl j=>cases ry;exact PySem.EqMixed.ne_str_bool (fin_bl I q (by simp))
  | int j=>obtain ⟨t',rfl⟩:=ry;exact PySem.EqMixed.ne_str_int (fin_bl I q (by simp))
  | str j=>obtain ⟨t',rfl⟩:=ry;exact ne_str (fin_bl I q (congrArg not dec_str))
  | _=>exact absurd (show false = true from hs) Bool.false_ne_true
 | byt i =>
  obtain ⟨t,rfl⟩:=rx
  cases y with
  | byt j=>obtain ⟨t',rfl⟩:=ry;exact PySem.W.ne_bytes (fin_bl I q (congrArg not dec_byt))
  | _=>exact absurd (show false = true from hs) Bool.false_ne_true
 | _=>cases y <;> exact absurd (show false = true from hs) Bool.false_ne_true

theorem op_lt:OpR X (compareOp .Lt) (rI0 fun i j=>.bl (decide (i < j))):=opB0 fun _ _ _ _ _ _ _ q=>lt_int q
theorem op_le:OpR X (compareOp .LtE) (rI0 fun i j=>.bl (decide (i≤j))):=opB0 fun _ _ _ _ _ _ _ q=>le_int q
theorem op_gt:OpR X (compareOp .Gt) (rI0 fun i j=>.bl (decide (j < i))):=opB0 fun _ _ _ _ _ _ _ q=>gt_int q
theorem op_notN:OpR X (compareOp .IsNot) (fun x y H Q=>y = .non∧Q (.bl (!decide (x = .non))) H):=by
 intro pins s σ H x y v u Q I rx ry h
 obtain ⟨rfl,q⟩:=h
 cases ry
 refine isnot_none_gen (fin_bl I q ?_)
 cases x <;> first
  | (cases rx;rfl)
  | (obtain ⟨t,rfl⟩:=rx;rfl)

theorem nomark (b:Expr) {op:CmpOp} (h:op≠.In:=by decide) (h2:op≠.NotIn:=by decide):behindInMarks op b = false:=by
 have e1:(op == CmpOp.In) = false:=by cases op <;> first | rfl | exact absurd rfl h
 have e2:(op == CmpOp.NotIn) = false:=by cases op <;> first | rfl | exact absurd rfl h2
 cases b <;> simp [behindInMarks,e1,e2]
theorem pe_cmpR {op:CmpOp} {r:R2} (ho:OpR X (compareOp op) r) (ha:PE X a ta) (hb:PE X b tb) (hm:behindInMarks op b = false):PE X (.Compare a [op] [b] pos) (tOp r ta tb):=by
 intro pins s σ H Q I h
 exact wpAny_Compare1 (binT ha hb I h fun v u s2 x y H2 I2 rx ry q=>ho pins s2 σ H2 x y v u Q I2 rx ry q) hm
noncomputable def tTest (t:TE):TT:=fun σ H Q=>t σ H fun x H'=>∃ k,x = .bl k∧Q k H'
theorem pt_cmpR {op:CmpOp} {r:R2} (ho:OpR X (compareOp op) r) (ha:PE X a ta) (hb:PE X b tb) (hm:behindInMarks op b = false):PT X (.Compare a [op] [b] pos) (tTest (tOp r ta tb)):=by
 intro pins s σ H Q I h
 refine wpAny_isTrue_Compare1 (thn (ha pins s σ H _ I h) fun v s1 ⟨x,H1,I1,r1,q1⟩=>thn (hb pins s1 σ H1 _ I1 q1) fun u s2 ⟨y,H2,I2,r2,q2⟩ =>
  thn (ho pins s2 σ H2 x y v u _ I2 r1 r2 q2) fun c s3 ⟨z,H3,I3,r3,k,e,q3⟩=>?_) hm
 subst e
 cases r3
 exact wpAny_truthy_bool ⟨H3,I3,q3⟩
theorem line63:(sizeLine:Nat) < 2 ^ 63:=by rw [sizeLine_eq];decide
theorem vals1 {x:V} {us:List Value} (r:Vals [x] us):∃ u,us = [u]∧RelV x u:=by
 cases r with
 | cons r1 r2=>cases r2;exact ⟨_,rfl,r1⟩
theorem vals2 {x y:V} {us:List Value} (r:Vals [x,y] us):∃ u w',us = [u,w']∧RelV x u∧RelV y w':=by
 cases r with
 | cons r1 r2 =>
  cases r2 with
  | cons r3 r4=>cases r4;exact ⟨_,_,rfl,r1,r3⟩
theorem call_max2 (hc:X.calm = true):CallR X (.builtin "max") (fun xs H Q=>∃ i j,xs = [.int i,.int j]∧Q (.int (if j > i then j else i)) H):=by
 intro pins s σ H xs us Q I r h
 obtain ⟨i,j,rfl,q⟩:=h
 obtain ⟨u,w',rfl,⟨t,rfl⟩,⟨t',rfl⟩⟩:=vals2 r
 refine max_two_ints (I.ok.hd hc) fun h' tk k=>⟨_,H,I.kept k,?_,q⟩
 by_cases hj:j > i
 ·rw [if_pos hj,if_pos hj];exact ⟨_,rfl⟩
 ·rw [if_neg hj,if_neg hj];exact ⟨_,rfl⟩
theorem call_min2 (hc:X.calm = true):CallR X (.builtin "min") (fun xs H Q=>∃ i j,xs = [.int i,.int j]∧Q (.int (if j < i then j else i)) H):=by
 intro pins s σ H xs us Q I r h
 obtain ⟨i,j,rfl,q⟩:=h
 obtain ⟨u,w',rfl,⟨t,rfl⟩,⟨t',rfl⟩⟩:=vals2 r
 refine min_two_ints (I.ok.hd hc) fun h' tk k=>⟨_,H,I.kept k,?_,q⟩
 by_cases hj:j < i
 ·rw [if_pos hj,if_pos hj];exact ⟨_,rfl⟩
 ·rw [if_neg hj,if_neg hj];exact ⟨_,rfl⟩
end
end L2


namespace L2
open PySem PySem.Spec PyProof.Rows

structure Room (k:Nat) (A:Around):Prop where
 hd:A.handled = none
 dp:A.depth + 3 * k + 5 < recursionLimit
 un:A.units + 16 * k + 200 < cLine
 gd:A.guards = some []
theorem Room.mono {j k:Nat} {A:Around} (r:Room k A) (h:j≤k):Room j A:=⟨r.hd,by have:=r.dp;omega,by have:=r.un;omega,r.gd⟩
theorem Room.deeper {k:Nat} {A:Around} (r:Room (k + 1) A) (env:Env):Room k (A.deeper env) :=
 ⟨r.hd,by have:=r.dp;show A.depth + 1 + 3 * k + 5 < _;omega,by have:=r.un;show A.units + 3 + 16 * k + 200 < _;omega,r.gd⟩
theorem Room.in1 {k:Nat} {A:Around} (r:Room (k + 1) A):Room k A.in1 :=
 ⟨r.hd,by have:=r.dp;show A.depth + 3 * k + 5 < _;omega,by have:=r.un;show A.units + 1 + 16 * k + 200 < _;omega,r.gd⟩
theorem Room.depth {k:Nat} {A:Around} (r:Room k A):A.depth < recursionLimit:=by have:=r.dp;omega
theorem Room.units {k:Nat} {A:Around} (r:Room k A):A.units + 64 < cLine:=by have:=r.un;omega
noncomputable def tNil:TA:=fun _ H Q=>Q [] H
noncomputable def tCons (ta:TE) (tr:TA):TA:=fun σ H Q=>ta σ H fun x H1=>tr σ H1 fun xs H2=>Q (x :: xs) H2
section
variable {X:Cx} {e:Expr} {es:List Expr} {te:TE} {t:TA} {pos:Pos}
theorem pa_nil:PA X [] tNil:=fun _ _ _ _ H Q I h=>Calls.spliced_nil ⟨[],H,I,.nil,h⟩
theorem pa_cons (ha:PE X e te) (hr:PA X es t) (hs:starEach (e :: es) X.env = (false,eval e X.env) :: starEach es X.env:=by rfl):PA X (e :: es) (tCons te t):=by
 intro pos pins s σ H Q I h
 rw [hs]
 show wpAny _ _ (spliced ((false,eval e X.env) :: backTo pos (starEach es X.env))) _ _ s
 refine Calls.spliced_cons (thn (ha pins s σ H _ I h) fun u s1 ⟨x,H1,I1,r1,q1⟩=>?_)
 exact thn (hr pos pins s1 σ H1 _ I1 q1) fun us s2 ⟨xs,H2,I2,r2,q2⟩=>⟨x :: xs,H2,I2,.cons r1 r2,q2⟩

noncomputable def tTup (t:TA):TE:=fun σ H Q=>t σ H fun xs H1=>xs.length≤sizeLine∧∀ p,H1 p = none→Q (.ref p) (upd H1 p (.tup xs))
noncomputable def tLst (t:TA):TE:=fun σ H Q=>t σ H fun xs H1=>xs.length≤sizeLine∧∀ p,H1 p = none→Q (.ref p) (upd H1 p (.lst xs))
theorem pe_tup {x1} (h:PA X es t):PE X (.Tuple es x1 pos) (tTup t):=by
 intro pins s σ H Q I hq
 refine wpAny_Tuple_spliced (thn (h pos pins s σ H _ I hq) fun us s1 ⟨xs,H1,I1,r,z,q⟩=>⟨by rw [← r.length];exact z,?_⟩)
 have hf:H1 s1.heap.objs.size = none:=I1.hok.fresh (Nat.le_refl _)
 refine ⟨.ref s1.heap.objs.size,upd H1 s1.heap.objs.size (.tup xs),I1.laid (t':=s1.toks) (fun b u e=>Heap.get?_push_of_some _ e) (Nat.le_refl _) ?_,rfl,q _ hf⟩
 exact ⟨z,us,r,⟨_,Heap.get?_push_size _ rfl,rfl,_,rfl⟩⟩
theorem pe_lst (h:PA X es t):PE X (.List es pos) (tLst t):=by
 intro pins s σ H Q I hq
 refine wpAny_List_spliced (thn (h pos pins s σ H _ I hq) fun us s1 ⟨xs,H1,I1,r,z,q⟩=>⟨by rw [← r.length];exact z,?_⟩)
 have hf:H1 s1.heap.objs.size = none:=I1.hok.fresh (Nat.le_refl _)
 refine ⟨.ref s1.heap.objs.size,upd H1 s1.heap.objs.size (.lst xs),I1.laid (t':=s1.toks) (fun b u e=>Heap.get?_push_of_some _ e) (Nat.le_refl _) ?_,rfl,q _ hf⟩
 exact ⟨z,us,0,r,Heap.get?_push_size _ rfl⟩
end

noncomputable abbrev Sp:=List V→Hp→VK→XK→Prop
noncomputable abbrev CXT:=List Env→Hp→Shared→XK→Value→Shared→Prop

structure Env0 (P:Program) (w:World) (K:PySem.W.Frag) (mg:Str→Option Value) (base:Heap) (A:Around) (outer:List Env) (s:Shared) (H:Hp):Prop where
 frames:A.frames = some outer
 mod:Mod K mg base
 bs:∀ b o,base.get? b = some o→s.heap.get? b = some o∧H b = none
 bsz:base.objs.size≤s.heap.objs.size
 funs:s.heap.FunFrames base outer
 frf:∀ b∈frs outer,H b = none
 hok:HOk P w H s.heap
 bare:AllBare s.gens
noncomputable def CE (outer:List Env) (P:Program) (w:World) (H:Hp) (s:Shared) (Q:VK) (u:Value) (s':Shared):Prop :=
 ∃ v H',s'.os = s.os∧AllBare s'.gens∧Un (frs outer) [] H H' s.heap s'.heap∧HOk P w H' s'.heap∧RelV v u∧Q v H'
noncomputable def CR (CX:CXT) (outer:List Env) (P:Program) (w:World) (H:Hp) (s:Shared) (Q:VK) (E:XK) (r:Result) (s':Shared):Prop :=
 match r with
 | .ok (.ret u)=>CE outer P w H s Q u s'
 | .ok _=>False
 | .error e=>CX outer H s E e s'
structure FnOk (P:Program) (w:World) (K:PySem.W.Frag) (mg:Str→Option Value) (base:Heap) (CX:CXT) (k:Nat) (f:Addr) (fd:FuncData) (ps:List Str) (sp:Sp):Prop where
 len:∀ vs H Q E,sp vs H Q E→vs.length = ps.length
 run:∀ (A:Around) (outer:List Env) (s:Shared) (H:Hp) (args:Args) (us:List Value) (vs:List V) (Q:VK) (E:XK),Room k A→Env0 P w K mg base A outer s H→BindsTo s fd args (ps.zip us)→Vals vs us→sp vs H Q E →
  codeAny (model P w) A (.call (.ref f) args) (CR CX outer P w H s Q E) s
theorem Env0.in1 {P : Program} {w : World} {K : PySem.W.Frag} {mg : Str → Option Value} {base : Heap} {A : Around} {outer : List Env} {s : Shared} {H : Hp} (e : Env0 P w K mg base A outer s H) :
    Env0 P w K mg base A.in1 outer s H := ⟨e.frames, e.mod, e.bs, e.bsz, e.funs, e.frf, e.hok, e.bare⟩

section
variable {X:Cx} {pins:List (Addr×Obj)} {σ:St} {H:Hp} {s s':Shared}
theorem Inv.env0 (I:Inv X pins σ H s):Env0 X.prog X.w X.K X.mg X.base X.A X.stack s H :=
 ⟨I.ok.frames,I.ok.mod,I.bs,Nat.le_trans I.ok.bsz I.sz,I.stack,I.stkFree,I.hok,I.bare⟩
theorem Inv.after {Q:VK} {u:Value} (I:Inv X pins σ H s) (h:CE X.stack X.prog X.w H s Q u s'):EP X pins σ Q u s':=by
 obtain ⟨v,H',os,bare,un,hok,r,q⟩:=h
 obtain ⟨hh,g,d,t,os'⟩:=s'
 obtain rfl:os' = s.os:=os
 exact ⟨v,H',I.call (h':=hh) (g':=g) (d':=d) (t':=t) (ch:=[]) un hok bare (fun b z=>absurd z (by simp)),r,q⟩
end

noncomputable def tCall (sp:Sp) (dvs:List V) (E:XK) (t:TA):TE:=fun σ H Q=>t σ H fun vs H1=>sp (vs ++ dvs) H1 Q E
noncomputable def Binds (K:PySem.W.Frag) (fd:FuncData) (ps:List Str) (ds:List Value):Prop :=
 ∀ (s:Shared) (us:List Value),K.In s.heap→(us ++ ds).length = ps.length→BindsTo s fd ⟨us,[]⟩ (ps.zip (us ++ ds))
theorem Binds.all {K:PySem.W.Frag} {fd:FuncData} {ps:List Str} (h:∀ us:List Value,us.length = ps.length→bindArgs fd ⟨us,[]⟩ = pure (ps.zip us)):Binds K fd ps []:=fun s us _ hl=>by
 rw [List.append_nil] at hl ⊢
 exact .of_eq (h us hl)

noncomputable def Passes (CX:CXT) (X:Cx) (E:XK):Prop:=∀ (pins:List (Addr×Obj)) (σ:St) (H:Hp) (s:Shared) (e:Value) (s':Shared),Inv X pins σ H s→CX X.stack H s E e s'→X.xe e s'

section
variable {X:Cx} {CX:CXT} {k:Nat} {f C:Addr} {fd:FuncData} {ps:List Str} {sp:Sp} {dvs:List V} {ds:List Value} {E:XK} {x m:Str} {p pos apos:Pos} {e o:Expr} {es:List Expr} {ta:TE} {t:TA}

theorem run_fn {pins:List (Addr×Obj)} {σ:St} {H:Hp} {s:Shared} {Q:VK} {us:List Value} {vs:List V} (F:FnOk X.prog X.w X.K X.mg X.base CX k f fd ps sp) (hr:Room k X.A) (hb:Binds X.K fd ps ds) (hd:Vals dvs ds) (hx:Passes CX X E)
  (I:Inv X pins σ H s) (r:Vals vs us) (h:sp (vs ++ dvs) H Q E):wpAny (model X.prog X.w) X.A (call (.ref f) us) (EP X pins σ Q) X.xe s:=by
 have r2:Vals (vs ++ dvs) (us ++ ds):=r.append hd
 have hl:(us ++ ds).length = ps.length:=by rw [← r2.length];exact F.len _ _ _ _ h
 refine wpAny_call (codeAny_mono (F.run X.A X.stack s H ⟨us,[]⟩ (us ++ ds) (vs ++ dvs) Q E hr I.env0 (hb s us I.kIn hl) r2 h) fun r s' hq=>?_)
 cases r with
 | error e=>exact hx pins σ H s e s' I hq
 | ok fl =>
  cases fl with
  | ret u=>exact I.after hq
  | next=>exact False.elim hq
  | brk=>exact False.elim hq
  | cont=>exact False.elim hq

theorem pe_call (F:FnOk X.prog X.w X.K X.mg X.base CX k f fd ps sp) (hr:Room k X.A) (hg:Gl X x) (hm:X.mg x = some (.ref f)) (hk:PySem.W.keepIn X.K (.ref f) = true) (hb:Binds X.K fd ps ds) (hd:Vals dvs ds) (hx:Passes CX X E)
  (ha:PA X (e :: es) t) (hdb:(x == ("__debug__":Str)) = false:=by decide) (he:starEach (e :: es) X.env = (false,eval e X.env) :: starEach es X.env:=by rfl) (hpl:(backTo pos (starEach es X.env)).any (·.1) = false:=by rfl) :
  PE X (.Call (.Name x p) (e :: es) [] pos) (tCall sp dvs E t):=by
 intro pins s σ H Q I h
 refine wpAny_Call_Name_kw (ld_glob I hg hm ?_ hdb)
 refine PySem.W.callWith_K (h₀:=X.base) I.ok.mod.kin hk (thn (ha pos pins s σ H _ I h) fun us s1 ⟨vs,H1,I1,r,q⟩=>⟨I1.kIn,?_⟩) he hpl
 exact run_fn F hr hb hd hx I1 r q
end

noncomputable def PK (X:Cx) (kws:List Keyword) (t:TA):Prop :=
 ∀ (pos:Pos) (pins:List (Addr×Obj)) (s:Shared) (σ:St) (H:Hp) (Q:List V→Hp→Prop),Inv X pins σ H s→t σ H Q→wpAny (model X.prog X.w) X.A (evalAll ((backToKw pos (keywordEach kws X.env)).map (·.2))) (AP X pins σ Q) X.xe s
section
variable {X:Cx} {CX:CXT} {k:Nat} {f C:Addr} {fd:FuncData} {ps ks:List Str} {sp:Sp} {E:XK} {x m:Str} {p pos apos kpos:Pos} {e o:Expr} {es:List Expr} {kws:List Keyword} {te ta:TE} {t tk:TA} {nm:Option Str}
theorem pk_nil:PK X [] tNil:=fun _ _ _ _ H Q I h=>wpAny_evalAll_nil ⟨[],H,I,.nil,h⟩
theorem pk_cons (ha:PE X e te) (hr:PK X kws t):PK X (⟨nm,e,kpos⟩ :: kws) (tCons te t):=by
 intro pos pins s σ H Q I h
 show wpAny _ _ (evalAll ((do let v ← eval e X.env;standAt pos;pure v) :: (backToKw pos (keywordEach kws X.env)).map (·.2))) _ _ s
 refine wpAny_evalAll_cons (wpAny_bind (thn (ha pins s σ H _ I h) fun u s1 ⟨x,H1,I1,r1,q1⟩=>wpAny_bind (wpAny_standAt (wpAny_pure ?_))))
 exact thn (hr pos pins s1 σ H1 _ I1 q1) fun us s2 ⟨xs,H2,I2,r2,q2⟩=>⟨x :: xs,H2,I2,.cons r1 r2,q2⟩

variable {g:List Value→List Value→List Value} {gV:List V→List V→List V}
end

structure FnScope (N P:List Str) (sc:Scope):Prop where
 kind:sc.kind = .function
 co:sc.isCoroutine = false
 gen:sc.isGenerator = false
 nd:N.Nodup
 pre:N.take P.length = P
 par:∀ x∈P,sc.names.lookup x = some .local∨sc.names.lookup x = some .cell
 nofree:∀ y∈sc.names,y.2≠.free

theorem bindL_out {kindOf:Str→Option NameKind} {x:Str}:∀ {binds:List (Str×Value)} {m:Str→Option Value},(∀ v,(x,v) ∉ binds)→bindL kindOf binds m x = m x
 | [],_,_=>rfl
 | (n,v) :: r,m,h=>by
  unfold bindL
  rw [bindL_out fun w hw=>h w (List.mem_cons_of_mem _ hw)]
  split
  ·have:x≠n:=by rintro rfl;exact h v List.mem_cons_self
   simp [this]
  ·rfl
theorem bindC_out {kindOf:Str→Option NameKind} {x:Str}:∀ {binds:List (Str×Value)} {m:Str→Option Value},(∀ v,(x,v) ∉ binds)→bindC kindOf binds m x = m x
 | [],_,_=>rfl
 | (n,v) :: r,m,h=>by
  unfold bindC
  rw [bindC_out fun w hw=>h w (List.mem_cons_of_mem _ hw)]
  split
  ·rfl
  ·have:x≠n:=by rintro rfl;exact h v List.mem_cons_self
   simp [this]
theorem bindL_get {kindOf:Str→Option NameKind} {x:Str} {v:Value}:∀ {P:List Str} {vs:List Value} {i:Nat} {m:Str→Option Value},P.Nodup→P[i]? = some x→vs[i]? = some v→kindOf x = some .local →
  bindL kindOf (P.zip vs) m x = some v
 | [],_,_,_,_,h,_,_=>by simp at h
 | _ :: _,[],_,_,_,_,h,_=>by simp at h
 | p :: P,w :: vs,0,m,nd,h1,h2,hk=>by
  simp at h1 h2;subst h1;subst h2
  show bindL kindOf ((p,w) :: P.zip vs) m p = _
  unfold bindL
  rw [bindL_out fun v hv=>(List.nodup_cons.mp nd).1 (List.of_mem_zip hv).1,if_pos hk]
  simp
 | p :: P,w :: vs,i + 1,m,nd,h1,h2,hk=>by
  show bindL kindOf ((p,w) :: P.zip vs) m x = _
  unfold bindL
  exact bindL_get (i:=i) (List.nodup_cons.mp nd).2 (by simpa using h1) (by simpa using h2) hk
theorem bindC_get {kindOf:Str→Option NameKind} {x:Str} {v:Value}:∀ {P:List Str} {vs:List Value} {i:Nat} {m:Str→Option Value},P.Nodup→P[i]? = some x→vs[i]? = some v→kindOf x≠some .local →
  bindC kindOf (P.zip vs) m x = some v
 | [],_,_,_,_,h,_,_=>by simp at h
 | _ :: _,[],_,_,_,_,h,_=>by simp at h
 | p :: P,w :: vs,0,m,nd,h1,h2,hk=>by
  simp at h1 h2;subst h1;subst h2
  show bindC kindOf ((p,w) :: P.zip vs) m p = _
  unfold bindC
  rw [bindC_out fun v hv=>(List.nodup_cons.mp nd).1 (List.of_mem_zip hv).1,if_neg hk]
  simp
 | p :: P,w :: vs,i + 1,m,nd,h1,h2,hk=>by
  show bindC kindOf ((p,w) :: P.zip vs) m x = _
  unfold bindC
  exact bindC_get (i:=i) (List.nodup_cons.mp nd).2 (by simpa using h1) (by simpa using h2) hk

noncomputable def start (N:List Str) (vs:List V):St:=vs.map some ++ List.replicate (N.length - vs.length) none

noncomputable def cxOf (CX:CXT) (P:Program) (w:World) (K:PySem.W.Frag) (mg:Str→Option Value) (base:Heap) (N:List Str) (qual:Str) (scope:Scope) (f:Addr) (cd:Value) (A:Around) (outer:List Env) (s:Shared) (H:Hp) (E:XK):Cx where
 prog:=P
 w:=w
 K:=K
 mg:=mg
 base:=base
 A:=A.deeper (envOfC qual scope s.heap.objs.size f cd)
 N:=N
 s₀:=s
 H₀:=H
 env:=envOfC qual scope s.heap.objs.size f cd
 outer:=outer
 stack:=envOfC qual scope s.heap.objs.size f cd :: outer
 ex:=[]
 calm:=true
 fn:=fun _=>true
 pn:=[]
 xe:=fun e s'=>wpAny (model P w) (A.deeper (envOfC qual scope s.heap.objs.size f cd)) (leaving (envOfC qual scope s.heap.objs.size f cd) e) (fun _ s''=>CX outer H s E e s'') (fun e' s''=>CX outer H s E e' s'') s'

theorem cell_has {sc:Scope} {n:Nat} {x:Str} (h:sc.names.lookup x = some .cell):∃ c,(cellsFrom n sc.names []).lookup x = some c:=by
 have q:=PySem.W.cellsFrom_some sc.names n [] (.inl h)
 exact Option.isSome_iff_exists.mp q

theorem inv_start {CX:CXT} {P:Program} {w:World} {K:PySem.W.Frag} {mg:Str→Option Value} {base:Heap} {N ps:List Str} {qual:Str} {scope:Scope} {f:Addr} {cd:Value} {A:Around} {outer:List Env} {s s1:Shared} {H:Hp} {E:XK} {us:List Value} {vs:List V}
  (S:FnScope N ps scope) (hd:A.handled = none) (e0:Env0 P w K mg base A outer s H) (hl:vs.length = ps.length) (r:Vals vs us)
  (x:InCallC s s.heap.objs.size (bindL (envOfC qual scope s.heap.objs.size f cd).kindOf (ps.zip us) fun _=>none) (cellsFrom (s.heap.objs.size + 1) scope.names []) (bindC (envOfC qual scope s.heap.objs.size f cd).kindOf (ps.zip us) fun _=>none) s1) :
  Inv (cxOf CX P w K mg base N qual scope f cd A outer s H E) [] (start N vs) H s1:=by
 have hpl:ps.length≤N.length:=by have:=congrArg List.length S.pre;rw [List.length_take] at this;omega
 obtain ⟨h1,tk,rfl,hk⟩:=x.done
 have noA:∀ b:Addr,b ∉ (cxOf CX P w K mg base N qual scope f cd A outer s H E).ex:=fun b z=>absurd (show b∈([]:List Addr) from z) (by simp)
 refine ⟨⟨e0.mod,S.kind,rfl,rfl,Nat.le_refl _,fun y z c h1 h2=>?_,fun y hy=>?_,fun y c _ h=>?_,fun _=>hd,Around.frames_deeper e0.frames,.inr ⟨rfl,rfl⟩,fun b z=>absurd z (noA b),e0.bs,e0.bsz,fun b _ _=>noA b,fun b z=>absurd z (noA b),e0.funs,e0.frf⟩,
  rfl,e0.bare,Un.kept hk,⟨_,x.toInCall.ns,fun i y v h1 h2 h3=>?_⟩,fun y c h=>⟨_,x.cell y c h⟩,e0.hok.fresh (Nat.le_refl _),fun y c h=>?_,fun p hp=>absurd (show p∈([]:List (Addr×Obj)) from hp) (by simp),e0.hok.kept hk,?_⟩
 ·exact name_of_addr x.apart (PySem.mem_of_lookup h1) (PySem.mem_of_lookup h2)
 ·have hy:scope.names.lookup y = some .cell∨scope.names.lookup y = some .free:=hy
  rcases hy with hy | hy
  ·exact cell_has hy
  ·exact absurd rfl (S.nofree _ (PySem.mem_of_lookup hy))
 ·exact Nat.le_of_lt (x.above y c (PySem.mem_of_lookup h))
 ·have hi:i < vs.length:=by
   unfold start at h2
   by_cases hi:i < vs.length
   ·exact hi
   ·rw [List.getElem?_append_right (by simpa using hi)] at h2
    rw [List.getElem?_replicate] at h2
    split at h2 <;> cases h2
  have ha:vs[i]? = some v:=by
   unfold start at h2
   rw [List.getElem?_append_left (by simpa using hi),List.getElem?_map] at h2
   cases e:vs[i]? with
   | none=>rw [e] at h2;cases h2
   | some a=>rw [e] at h2;cases h2;rfl
  obtain ⟨u,hu,rv⟩:=r.get ha
  have hp:ps[i]? = some y:=by
   rw [← S.pre,List.getElem?_take_of_lt (by omega)];exact h1
  have ndP:ps.Nodup:=by rw [← S.pre];exact S.nd.sublist (List.take_sublist _ _)
  refine ⟨u,rv,?_⟩
  rcases S.par y (List.mem_of_getElem? hp) with k | k
  ·exact .inl ⟨k,bindL_get ndP hp hu k⟩
  ·obtain ⟨c,e⟩:=cell_has (n:=s.heap.objs.size + 1) k
   refine .inr ⟨.inl k,c,e,?_⟩
   have q:=x.cell y c e
   rw [bindC_get ndP hp hu (by show scope.names.lookup y≠_;rw [k];decide)] at q
   exact q
 ·exact e0.hok.fresh (Nat.le_of_lt (x.above y c (PySem.mem_of_lookup h)))
 ·unfold start
  show _ = N.length
  rw [List.length_append,List.length_map,List.length_replicate]
  omega

theorem fn_of {CX:CXT} {P:Program} {w:World} {K:PySem.W.Frag} {mg:Str→Option Value} {base:Heap} {k:Nat} {f:Addr} {name qual:Str} {params:Arguments} {body:List Stmt} {scope:Scope} {dV kV doc pm cdv ct oc:Value} {an od:Option Addr}
  {osl:Array (Option Value)} {N ps:List Str} {sp:Sp} (lk:K.lookup f = some ⟨oc,od,.func (PySem.W.fnOf name qual params body scope dV kV doc pm an cdv ct),osl⟩) (hcd:PySem.W.codeIn K cdv qual = true) (S:FnScope N ps scope)
  (len:∀ vs H Q E,sp vs H Q E→vs.length = ps.length)
  (hbody:∀ (A:Around) (outer:List Env) (s:Shared) (H:Hp) (vs:List V) (Q:VK) (E:XK),Room k (A.deeper (envOfC qual scope s.heap.objs.size f cdv))→sp vs H Q E →
   ∃ t,PSs (cxOf CX P w K mg base N qual scope f cdv A outer s H E) body t∧t { nx:=fun _ H'=>Q .non H',rt:=Q } (start N vs) H) :
  FnOk P w K mg base CX (k + 1) f (PySem.W.fnOf name qual params body scope dV kV doc pm an cdv ct) ps sp:=by
 refine ⟨len,fun A outer s H args us vs Q E hr e0 hb r hsp=>?_⟩
 have hl:=len _ _ _ _ hsp
 have KX:K.In s.heap:=e0.mod.kin.keeps fun b o e=>(e0.bs b o e).1
 have lim:s.heap.NoLimit:=e0.mod.nolimit.keeps fun b o e=>(e0.bs b o e).1
 have hkind:∀ y∈ps.zip us,scope.names.lookup y.1 = some .local∨(scope.names.lookup y.1 = some .cell∧((cellsFrom (s.heap.objs.size + 1) scope.names []).lookup y.1).isSome = true):=fun ⟨n,v⟩ hy=>by
  rcases S.par n (List.of_mem_zip hy).1 with q | q
  ·exact .inl q
  ·exact .inr ⟨q,PySem.W.cellsFrom_some _ _ _ (.inl q)⟩
 refine codeAny_call_function hr.depth (KX _ _ lk) rfl S.co S.gen rfl (PySem.W.codeRec_of KX hcd) (hb _ _ _ _ ?_)
 refine wpAny_newFunctionEnv_cells S.kind hkind fun env he s1 x=>?_
 subst he
 refine ⟨lim.keeps x.toInCall.keep,codeAny_func ?_⟩
 obtain ⟨t,ht,hq⟩:=hbody A outer s H vs Q E (hr.deeper _) hsp
 have I:Inv (cxOf CX P w K mg base N qual scope f cdv A outer s H E) [] (start N vs) H s1:=inv_start S hr.hd e0 hl r x
 refine wpAny_mono (ht [] s1 (start N vs) H _ I hq) (fun fl s' hs=>?_) fun e s' hs=>hs
 have fin:∀ {σ':St} {H':Hp} {v:V} {u:Value},Inv (cxOf CX P w K mg base N qual scope f cdv A outer s H E) [] σ' H' s'→RelV v u→Q v H'→CE outer P w H s Q u s' :=
  fun {σ' H' v u} J rv q=>⟨v,H',J.os,J.bare,J.base,J.hok,rv,q⟩
 cases fl with
 | ret u =>
  obtain ⟨v,σ',H',J,rv,q⟩:=hs
  exact fin J rv q
 | next =>
  obtain ⟨σ',H',J,q⟩:=hs
  exact fin (v:=V.non) (u:=Value.none) J rfl q
 | brk =>
  obtain ⟨_,_,_,q⟩:=hs
  exact False.elim q
 | cont =>
  obtain ⟨_,_,_,q⟩:=hs
  exact False.elim q
end L2

namespace L2
open PySem PySem.Spec PyProof.Rows
section
variable {X:Cx} {x:Str} {p pos:Pos} {e:Expr} {es:List Expr} {t:TA} {id T:String} {r:List V→Hp→VK→Prop}

noncomputable def tCB (r:List V→Hp→VK→Prop) (t:TA):TE:=fun σ H Q=>t σ H fun vs H1=>r vs H1 Q
theorem pe_callB (hc:CallR X (.builtin id) r) (hg:Gl X x) (hm:X.mg x = none) (hv:bootBuiltins x = some (.builtin id)) (ha:PA X (e :: es) t) (hn:x≠"__name__":=by decide) (hdb:(x == ("__debug__":Str)) = false:=by decide)
  (he:starEach (e :: es) X.env = (false,eval e X.env) :: starEach es X.env:=by rfl) (hpl:(backTo pos (starEach es X.env)).any (·.1) = false:=by rfl):PE X (.Call (.Name x p) (e :: es) [] pos) (tCB r t):=by
 intro pins s σ H Q I h
 refine wpAny_Call_Name_kw (ld_blt I hg hm hv ?_ hn hdb)
 exact PyProof.Rows.callWith_builtin1 (thn (ha pos pins s σ H _ I h) fun us s1 ⟨vs,H1,I1,r1,q1⟩=>hc pins s1 σ H1 vs us Q I1 r1 q1) he hpl
theorem pe_callTy (hc:CallR X (.type T) r) (hg:Gl X x) (hm:X.mg x = none) (hv:bootBuiltins x = some (.type T)) (ha:PA X (e :: es) t) (hn:x≠"__name__":=by decide) (hdb:(x == ("__debug__":Str)) = false:=by decide)
  (he:starEach (e :: es) X.env = (false,eval e X.env) :: starEach es X.env:=by rfl) (hpl:(backTo pos (starEach es X.env)).any (·.1) = false:=by rfl):PE X (.Call (.Name x p) (e :: es) [] pos) (tCB r t):=by
 intro pins s σ H Q I h
 refine wpAny_Call_Name_kw (ld_blt I hg hm hv ?_ hn hdb)
 exact PyProof.Rows.callWith_type1 (thn (ha pos pins s σ H _ I h) fun us s1 ⟨vs,H1,I1,r1,q1⟩=>hc pins s1 σ H1 vs us Q I1 r1 q1) he hpl
end
end L2

namespace L2
open PySem PySem.Spec PyProof.Rows

section
variable {κ:Type} [DecidableEq κ]
noncomputable def valV (kvs:List (κ×V)) (k:κ):Option V:=(kvs.find? fun kv=>decide (kv.1 = k)).map (·.2)
noncomputable def putK (kvs:List (κ×V)) (k:κ) (v:V):List (κ×V) :=
 if (kvs.any fun kv=>decide (kv.1 = k)) = true then kvs.map (fun kv=>if kv.1 = k then (kv.1,v) else kv) else kvs ++ [(k,v)]
theorem valV_pos {p:κ×V} {r:List (κ×V)} {k:κ} (e:p.1 = k):valV (p :: r) k = some p.2:=by simp [valV,List.find?_cons,e]
theorem valV_neg {p:κ×V} {r:List (κ×V)} {k:κ} (e:¬ p.1 = k):valV (p :: r) k = valV r k:=by simp [valV,List.find?_cons,e]
theorem valV_any (k:κ):∀ kvs:List (κ×V),(kvs.any fun kv=>decide (kv.1 = k)) = (valV kvs k).isSome
 | []=>rfl
 | p :: r=>by
  rw [List.any_cons]
  by_cases e:p.1 = k
  ·simp only [valV_pos e,decide_eq_true e,Bool.true_or,Option.isSome_some]
  ·rw [valV_neg e,decide_eq_false e,Bool.false_or];exact valV_any k r
theorem valV_map (k j:κ) (y:V):∀ kvs:List (κ×V),valV (kvs.map fun kv=>if kv.1 = k then (kv.1,y) else kv) j = (valV kvs j).map fun x=>if j = k then y else x
 | []=>rfl
 | p :: r=>by
  have ih:=valV_map k j y r
  rw [List.map_cons]
  by_cases h:p.1 = k
  ·rw [if_pos h]
   by_cases e:p.1 = j
   ·rw [valV_pos (p:=(p.1,y)) e,valV_pos e,Option.map_some,if_pos (e.symm.trans h)]
   ·rw [valV_neg (p:=(p.1,y)) e,valV_neg e,ih]
  ·rw [if_neg h]
   by_cases e:p.1 = j
   ·rw [valV_pos (p:=p) e,valV_pos e,Option.map_some,if_neg (fun z=>h (e.trans z))]
   ·rw [valV_neg (p:=p) e,valV_neg e,ih]
theorem valV_snoc (k j:κ) (y:V):∀ kvs:List (κ×V),valV kvs k = none→valV (kvs ++ [(k,y)]) j = if j = k then some y else valV kvs j
 | [],_=>by
  by_cases e:k = j
  ·rw [if_pos e.symm];exact valV_pos (p:=(k,y)) e
  ·rw [if_neg (fun z=>e z.symm)];exact valV_neg (p:=(k,y)) e
 | p :: r,hn=>by
  rw [List.cons_append]
  have hk:¬ p.1 = k:=fun z=>by rw [valV_pos z] at hn;cases hn
  rw [valV_neg hk] at hn
  have ih:=valV_snoc k j y r hn
  by_cases e:p.1 = j
  ·rw [valV_pos e,valV_pos e,if_neg (fun z=>hk (e.trans z))]
  ·rw [valV_neg e,valV_neg e,ih]
theorem valV_put (kvs:List (κ×V)) (k j:κ) (y:V):valV (putK kvs k y) j = if j = k then some y else valV kvs j:=by
 unfold putK
 by_cases a:(kvs.any fun kv=>decide (kv.1 = k)) = true
 ·rw [if_pos a,valV_map]
  rw [valV_any] at a
  by_cases e:j = k
  ·obtain ⟨x,hx⟩:=Option.isSome_iff_exists.mp a
   rw [if_pos e,e,hx,Option.map_some,if_pos rfl]
  ·rw [if_neg e]
   cases valV kvs j with
   | none=>rfl
   | some x=>rw [Option.map_some,if_neg e]
 ·rw [if_neg a]
  refine valV_snoc k j y kvs ?_
  rw [valV_any] at a
  cases q:valV kvs k with
  | none=>rfl
  | some x=>rw [q] at a;exact (a rfl).elim
theorem length_putK (kvs:List (κ×V)) (k:κ) (v:V):(putK kvs k v).length≤kvs.length + 1:=by
 unfold putK
 split
 ·rw [List.length_map];omega
 ·rw [List.length_append,List.length_cons,List.length_nil];omega
theorem RelO.isSome_eq {o:Option V} {u:Option Value} (r:RelO o u):o.isSome = u.isSome:=by
 cases o with
 | none=>cases u with
  | none=>rfl
  | some _=>exact (show False from r).elim
 | some _=>cases u with
  | none=>exact (show False from r).elim
  | some _=>rfl
theorem KV.val {kvs:List (κ×V)} {vs:List (κ×Value)} (r:KV kvs vs) (k:κ):RelO (valV kvs k) (valueAt vs k):=by
 unfold KV at r
 induction r with
 | nil=>exact True.intro
 | @cons p q ps qs h t ih =>
  obtain ⟨h1,h2⟩:=h
  by_cases e:p.1 = k
  ·have e':q.1 = k:=h1.symm.trans e
   have b:valueAt (q :: qs) k = some q.2:=by simp [valueAt,List.find?_cons,e']
   rw [valV_pos e,b];exact h2
  ·have e':¬ q.1 = k:=fun z=>e (h1.trans z)
   have b:valueAt (q :: qs) k = valueAt qs k:=by simp [valueAt,List.find?_cons,e']
   rw [valV_neg e,b];exact ih
theorem KV.any {kvs:List (κ×V)} {vs:List (κ×Value)} (r:KV kvs vs) (k:κ):(kvs.any fun kv=>decide (kv.1 = k)) = vs.any fun kv=>decide (kv.1 = k):=by
 unfold KV at r
 induction r with
 | nil=>rfl
 | cons h t ih=>rw [List.any_cons,List.any_cons,ih,h.1]
theorem KV.repl {kvs:List (κ×V)} {vs:List (κ×Value)} (r:KV kvs vs) (k:κ) {y:V} {u:Value} (ry:RelV y u) :
  KV (kvs.map fun kv=>if kv.1 = k then (kv.1,y) else kv) (vs.map fun kv=>if kv.1 = k then (kv.1,u) else kv):=by
 unfold KV at r ⊢
 induction r with
 | nil=>exact .nil
 | @cons p q ps qs h t ih =>
  rw [List.map_cons,List.map_cons]
  refine .cons ?_ ih
  obtain ⟨h1,h2⟩:=h
  by_cases e:p.1 = k
  ·rw [if_pos e,if_pos (h1.symm.trans e)];exact ⟨h1,ry⟩
  ·rw [if_neg e,if_neg (fun z=>e (h1.trans z))];exact ⟨h1,h2⟩
theorem KV.put {kvs:List (κ×V)} {vs:List (κ×Value)} (r:KV kvs vs) (k:κ) {y:V} {u:Value} (ry:RelV y u):KV (putK kvs k y) (stored vs k u):=by
 unfold putK stored
 rw [r.any k]
 by_cases e:(vs.any fun kv=>decide (kv.1 = k)) = true
 ·rw [if_pos e,if_pos e];exact r.repl k ry
 ·rw [if_neg e,if_neg e];exact Paired.snoc r ⟨rfl,ry⟩
theorem KV.length {kvs:List (κ×V)} {vs:List (κ×Value)} (r:KV kvs vs):kvs.length = vs.length:=Paired.length r
end


theorem kV_is {P:Program} {w:World} {k:Key} {u:Value} (r:RelV (kV k) u):(mixKind P w).is k u = true:=by
 cases k with
 | inl i=>obtain ⟨t,e⟩:=(show ∃ t,u = Value.int i t from r);subst e;exact mixKind_int P w i t
 | inr x=>obtain ⟨t,e⟩:=(show ∃ t,u = Value.str x t from r);subst e;exact mixKind_str P w x t
theorem items_are {P:Program} {w:World}:∀ {ks:List Key} {us:List Value},Vals (ks.map kV) us→ItemsAre (mixKind P w) ks us
 | [],_,r=>by rw [List.map_nil] at r;cases r;exact .nil
 | k :: ks,_,r=>by
  rw [List.map_cons] at r
  cases r with
  | cons h t=>exact .cons (kV_is h) (items_are t)

noncomputable abbrev KT (H:Hp):List (List Key×V)→List (List Key×Addr×Value)→Prop:=Paired fun p q=>p.1 = q.1∧H q.2.1 = some (.tup (p.1.map kV))∧RelV p.2 q.2.2
theorem KT.val {H:Hp} {kvs:List (List Key×V)} {xs:List (List Key×Addr×Value)} (r:KT H kvs xs) (k:List Key):RelO (valV kvs k) ((atKey xs k).map (·.2)):=by
 induction r with
 | nil=>exact True.intro
 | @cons p q ps qs h t ih =>
  obtain ⟨h1,_,h2⟩:=h
  by_cases e:p.1 = k
  ·have e':q.1 = k:=h1.symm.trans e
   have b:atKey (q :: qs) k = some q.2:=by simp [atKey,List.find?_cons,e']
   rw [valV_pos e,b];exact h2
  ·have e':¬ q.1 = k:=fun z=>e (h1.trans z)
   have b:atKey (q :: qs) k = atKey qs k:=by simp [atKey,List.find?_cons,e']
   rw [valV_neg e,b];exact ih
theorem KT.repl {H:Hp} {kvs:List (List Key×V)} {xs:List (List Key×Addr×Value)} (r:KT H kvs xs) (k:List Key) {y:V} {u:Value} (ry:RelV y u) :
  KT H (kvs.map fun kv=>if kv.1 = k then (kv.1,y) else kv) (xs.map (putAt k u)):=by
 induction r with
 | nil=>exact .nil
 | @cons p q ps qs h t ih =>
  rw [List.map_cons,List.map_cons]
  refine .cons ?_ ih
  obtain ⟨h1,h2,h3⟩:=h
  unfold putAt
  by_cases e:p.1 = k
  ·rw [if_pos e,if_pos (h1.symm.trans e)];exact ⟨h1,h2,ry⟩
  ·rw [if_neg e,if_neg (fun z=>e (h1.trans z))];exact ⟨h1,h2,h3⟩
theorem KT.put {H:Hp} {kvs:List (List Key×V)} {xs:List (List Key×Addr×Value)} (r:KT H kvs xs) (k:List Key) {b:Addr} {y:V} {u:Value} (hb:H b = some (.tup (k.map kV))) (ry:RelV y u) :
  KT H (putK kvs k y) (storedH xs k b u):=by
 have e:(kvs.any fun kv=>decide (kv.1 = k)) = (atKey xs k).isSome:=by
  rw [valV_any,(r.val k).isSome_eq,Option.isSome_map]
 unfold putK storedH
 rw [e]
 by_cases q:(atKey xs k).isSome = true
 ·rw [if_pos q,if_pos q];exact r.repl k ry
 ·rw [if_neg q,if_neg q];exact Paired.snoc r ⟨rfl,hb,ry⟩
theorem KT.keeps {H H':Hp} {kvs:List (List Key×V)} {xs:List (List Key×Addr×Value)} (r:KT H kvs xs) (ht:∀ b ys,H b = some (.tup ys)→H' b = some (.tup ys)):KT H' kvs xs :=
 Paired.mapP r fun _ _ z=>⟨z.1,ht _ _ z.2.1,z.2.2⟩

section
variable {P:Program} {w:World} {H:Hp} {h:Heap} {a:Addr}
theorem rd_of {u:HO} (ok:HOk P w H h) (e:Rd H a u):ObjOk P w H h a u:=e.ok ok
theorem dk_rd {kvs:List (Key×V)} (ok:HOk P w H h) (e:Rd H a (.dK kvs)):kvs.length≤sizeLine∧(a == sysModules) = false∧∃ vs,KV kvs vs∧h.DictOf (mixKind P w) a vs :=
 show ObjOk P w H h a (.dK kvs) from rd_of ok e
theorem dk_of {kvs:List (Key×V)} (ok:HOk P w H h) (e:H a = some (.dK kvs)):kvs.length≤sizeLine∧(a == sysModules) = false∧∃ vs,KV kvs vs∧h.DictOf (mixKind P w) a vs:=dk_rd ok (.inl e)
theorem key_of {ks:List Key} (ok:HOk P w H h) (e:H a = some (.tup (ks.map kV))):(tupleKind (mixKind P w)).is h ks a:=by
 obtain ⟨_,its,r,o,h1,h2,n,h3⟩:=(show ObjOk P w H h a (.tup (ks.map kV)) from ok a _ e)
 exact ⟨o,its.toArray,n,h1,h2,h3,by simpa using items_are r⟩
theorem dt_rd {kvs:List (List Key×V)} (ok:HOk P w H h) (e:Rd H a (.dT kvs)):kvs.length≤sizeLine∧(a == sysModules) = false ∧
  ∃ xs,KT H kvs xs∧h.DictOfH (tupleKind (mixKind P w)) a xs:=by
 obtain ⟨z,y,xs,r,o,es,ep,h1,h2,h3,h4,h5⟩:=(show ObjOk P w H h a (.dT kvs) from rd_of ok e)
 refine ⟨z,y,xs,r,o,es,ep,h1,h2,h3,h4,fun x hx=>?_,h5⟩
 have all:∀ {l:List (List Key×V)} {m:List (List Key×Addr×Value)},KT H l m→∀ x∈m,(tupleKind (mixKind P w)).is h x.1 x.2.1:=by
  intro l m q
  induction q with
  | nil=>intro x hx;exact nomatch hx
  | @cons p q ps qs hq t ih =>
   intro x hx
   rcases List.mem_cons.mp hx with e | hx
   ·subst e
    exact key_of ok (by rw [← hq.1];exact hq.2.1)
   ·exact ih x hx
 exact all r x hx
theorem dt_of {kvs : List (List Key × V)} (ok : HOk P w H h) (e : H a = some (.dT kvs)) : kvs.length ≤ sizeLine ∧ (a == sysModules) = false ∧
    ∃ xs, KT H kvs xs ∧ h.DictOfH (tupleKind (mixKind P w)) a xs := dt_rd ok (.inl e)
end

noncomputable def DGet (H:Hp) (a:Addr) (y:V) (r:Option V):Prop :=
 (∃ kvs k,Rd H a (.dK kvs)∧y = kV k∧r = valV kvs k)∨∃ kvs k b,Rd H a (.dT kvs)∧y = .ref b∧H b = some (.tup (k.map kV))∧r = valV kvs k
noncomputable def DPut (H:Hp) (a:Addr) (y v:V) (H':Hp):Prop :=
 (∃ kvs k,H a = some (.dK kvs)∧y = kV k∧kvs.length < sizeLine∧H' = upd H a (.dK (putK kvs k v))) ∨
 ∃ kvs k b,H a = some (.dT kvs)∧y = .ref b∧H b = some (.tup (k.map kV))∧kvs.length < sizeLine∧H' = upd H a (.dT (putK kvs k v))
theorem DGet.k {H:Hp} {a:Addr} {kvs:List (Key×V)} {k:Key} (e:H a = some (.dK kvs)):DGet H a (kV k) (valV kvs k):=.inl ⟨kvs,k,.inl e,rfl,rfl⟩
theorem DPut.k {H:Hp} {a:Addr} {kvs:List (Key×V)} {k:Key} {v:V} (e:H a = some (.dK kvs)) (hl:kvs.length < sizeLine):DPut H a (kV k) v (upd H a (.dK (putK kvs k v))):=.inl ⟨kvs,k,e,rfl,hl,rfl⟩
section
variable {X:Cx} {pins:List (Addr×Obj)} {σ:St} {H:Hp} {s:Shared} {a:Addr} {y v:V} {u r:Value} {o:Option V} {A:Around} {E:Value→Shared→Prop}

theorem Inv.big (I:Inv X pins σ H s):sysModules < s.heap.objs.size:=by
 have h:mainGlobals < s.heap.objs.size:=(I.mod.glob.keeps I.bk).lt
 exact Nat.lt_trans (by decide) h

theorem d_notIn {Q:Value→Shared→Prop} (hu:A.units + 1 < cLine) (I:Inv X pins σ H s) (g:DGet H a y o) (ry:RelV y u) (h:∀ s',Inv X pins σ H s'→Q (.bool (!o.isSome)) s') :
  wpAny (model X.prog X.w) A (compareOp .NotIn u (.ref a)) Q E s:=by
 rcases g with ⟨kvs,k,e,ey,l⟩ | ⟨kvs,k,b,e,ey,eb,l⟩
 ·subst ey
  obtain ⟨z,hd,vs,rel,dd⟩:=dk_rd I.hok e
  refine wpAny_notIn_of (kV_is ry) hd dd.mapOf ?_
  rw [← (rel.val k).isSome_eq,← l]
  exact h _ (I.tok _)
 ·subst ey
  cases (show u = Value.ref b from ry)
  obtain ⟨z,hd,xs,rel,dd⟩:=dt_rd I.hok e
  refine wpAny_notIn_heap (tupleKind_room_in1 hu) (key_of I.hok eb) hd dd ?_
  have q:=(rel.val k).isSome_eq
  rw [Option.isSome_map] at q
  rw [← q,← l]
  exact h _ (I.tok _)
theorem d_write {h':Heap} {t':Nat} {ob:HO} (I:Inv X pins σ H s) (mu:Mut (H a)) (hs:Heap.SameBut a s.heap h') (he:∃ q,h'.get? a = some q) (new:ObjOk X.prog X.w (upd H a ob) h' a ob) :
  Inv X pins σ (upd H a ob) { s with heap:=h',toks:=t' } :=
 I.write (x:=a) (e:=a) mu (.inl rfl) (fun b q hb z=>(hs.2 b hb).trans z) he new
theorem dk_new {P : Program} {w : World} {H' : Hp} {h' : Heap} {kvs : List (Key × V)} {vs : List (Key × Value)} (z : kvs.length ≤ sizeLine) (hd : (a == sysModules) = false) (rel : KV kvs vs) (dd : h'.DictOf (mixKind P w) a vs) :
    ObjOk P w H' h' a (.dK kvs) := ⟨z, hd, vs, rel, dd⟩
theorem d_setItem {H':Hp} {Q:Unit→Shared→Prop} (hu:A.units + 1 < cLine) (I:Inv X pins σ H s) (g:DPut H a y v H') (ry:RelV y u) (rv:RelV v r) (h:∀ s',Inv X pins σ H' s'→Q () s') :
  wpAny (model X.prog X.w) A (setItem (.ref a) u r) Q E s:=by
 rcases g with ⟨kvs,k,e,ey,l,eH⟩ | ⟨kvs,k,b,e,ey,eb,l,eH⟩
 ·subst ey eH
  obtain ⟨z,hd,vs,rel,dd⟩:=dk_of I.hok e
  have hz:vs.length≤sizeLine:=by rw [← rel.length];exact z
  have hl:(putK kvs k v).length≤sizeLine:=by have:=length_putK kvs k v;omega
  refine wpAny_setItem_pairs (hsz:=hz) (kV_is ry) dd fun h' dd' hs=>h _ ?_
  have he:∃ q,h'.get? a = some q:=let ⟨q,_,_,hq,_⟩:=dd';⟨q,hq⟩
  exact d_write I (by rw [e];exact True.intro) hs he (dk_new hl hd (rel.put k rv) dd')
 ·subst ey eH
  cases (show u = Value.ref b from ry)
  obtain ⟨z,hd,xs,rel,dd⟩:=dt_of I.hok e
  have hz:xs.length≤sizeLine:=by rw [← Paired.length rel];exact z
  have hl:(putK kvs k v).length≤sizeLine:=by have:=length_putK kvs k v;omega
  refine wpAny_setItem_heap (hsz:=hz) (tupleKind_room_in1 hu) (key_of I.hok eb) dd fun h' dd' hs=>h _ ?_
  obtain ⟨q,es,ep,hq,h2,h3,h4,_,h5⟩:=dd'
  refine d_write I (by rw [e];exact True.intro) hs ⟨q,hq⟩ ⟨hl,hd,_,(rel.put k eb rv).keeps fun c ys ec=>?_,q,es,ep,hq,h2,h3,h4,h5⟩
  rw [upd_ne (ne_of ec e (fun z=>nomatch z))]
  exact ec
end



noncomputable def tDNotIn (ty td:TE):TE:=fun σ H Q=>ty σ H fun y H1=>td σ H1 fun x H2=>∃ a o,x = .ref a∧DGet H2 a y o∧Q (.bl (!o.isSome)) H2
noncomputable def sDPut (td ty tv:TE):TS:=fun D σ H=>tv σ H fun v H1=>td σ H1 fun x H2=>ty σ H2 fun y H3=>∃ a H4,x = .ref a∧DPut H3 a y v H4∧D.nx σ H4
section
variable {X:Cx} {o i e value:Expr} {pos pos' tpos:Pos} {td ty tv:TE}
theorem pc_dnotin (hu:X.A.units + 1 < cLine) (hi:PE X i ty) (ho:PE X o td):PC X .NotIn i o (tDNotIn ty td):=by
 intro pins s σ H Q I h
 refine thn (hi pins s σ H _ I h) fun iv s1 ⟨y,H1,I1,ry,q1⟩=>thn (ho pins s1 σ H1 _ I1 q1) fun u s2 ⟨x,H2,I2,rx,a,ov,ex,g,q2⟩=>?_
 subst ex
 obtain rfl:u = Value.ref a:=rx
 exact d_notIn hu I2 g ry fun s3 I3=>⟨.bl (!ov.isSome),H2,I3,rfl,q2⟩
theorem ps_dput (hu:X.A.units + 1 < cLine) (ho:PE X o td) (hi:PE X i ty) (hv:PE X value tv) (hs:swapsWith value (some (.Subscript o i pos')) pos.line X.env = pure false) :
  PS X (.Assign [.Subscript o i pos'] value pos) (sDPut td ty tv):=by
 intro pins s σ H D I h
 refine wpAny_Assign_Subscript (thn (hv pins s σ H _ I h) fun r s1 ⟨v,H1,I1,rv,q1⟩=>thn (ho pins s1 σ H1 _ I1 q1) fun u s2 ⟨x,H2,I2,rx,q2⟩=>thn (hi pins s2 σ H2 _ I2 q2) fun iv s3 ⟨y,H3,I3,ry,a,H4,ex,g,q3⟩=>?_) hs
 subst ex
 obtain rfl:u = Value.ref a:=rx
 exact d_setItem hu I3 g ry rv fun s4 I4=>⟨σ,H4,I4,q3⟩
end


theorem dk_empty {P:Program} {w:World} {H:Hp} (h:Heap) (hb:sysModules < h.objs.size):ObjOk P w H (h.push { cls:=.type "dict",data:=.dict #[] }) h.objs.size (.dK []) :=
 ⟨Nat.zero_le _,beq_eq_false_iff_ne.mpr (Ne.symm (Nat.ne_of_lt hb)),[],.nil,Heap.DictOf.new h⟩
noncomputable def tDNewK:TE:=fun _ H Q=>∀ p,H p = none→Q (.ref p) (upd H p (.dK []))
section
variable {X:Cx} {pos:Pos}
theorem pe_dnewK:PE X (.Dict [] [] pos) tDNewK:=fun pins s σ H Q I h =>
 wpAny_Dict_empty ⟨.ref s.heap.objs.size,_,I.laid (a:=s.heap.objs.size) (o:=.dK []) (t':=s.toks) (fun _ _ q=>Heap.get?_push_of_some _ q) (Nat.le_refl _) (dk_empty s.heap I.big),rfl,h _ (I.hok.fresh (Nat.le_refl _))⟩
end





end L2


namespace HT
open PySem PyProof.Rows


section
variable {prog:Program} {w:World} {A:Around} {E:Value→Shared→Prop} {s:Shared}

theorem cat_tup {t b:Addr} {vs ws:List Value} {Q:Value→Shared→Prop} (ht:IsTup s.heap t vs.toArray) (hb:IsTup s.heap b ws.toArray) (hv:vs≠[])
  (h1:ws = []→Q (.ref t) s) (h2:ws≠[]→Q (.ref s.heap.objs.size) { s with heap:=s.heap.push { cls:=.type "tuple",data:=.seq (vs ++ ws).toArray } })
  (hsz:vs.length + ws.length≤sizeLine):wpAny (model prog w) A (binaryOp .Add (.ref t) (.ref b)) Q E s:=by
 obtain ⟨⟨cls,dd,data,sl⟩,ho,hc,n,hd⟩:=id ht
 obtain ⟨⟨cls2,dd2,data2,sl2⟩,ho2,hc2,n2,hd2⟩:=id hb
 simp only at hc hd hc2 hd2
 subst hc hd hc2 hd2
 have e:vs.toArray ++ ws.toArray = (vs ++ ws).toArray:=by simp
 by_cases hw:ws = []
 ·exact concat_meets ⟨_,ho,rfl⟩ ⟨_,ho2,rfl⟩ noFill_tuple_add seq_tuple_add PySem.F.slot_tuple_add PySem.F.entry_tuple_add (PySem.F.args_tuple_add_2 _ _)
   (tuple_addW1 t b vs.toArray ws.toArray n n2 dd dd2 sl sl2 (by simpa using hv) (by simp [hw])) ⟨ho,ho2,h1 hw⟩
 ·refine concat_meets ⟨_,ho,rfl⟩ ⟨_,ho2,rfl⟩ noFill_tuple_add seq_tuple_add PySem.F.slot_tuple_add PySem.F.entry_tuple_add (PySem.F.args_tuple_add_2 _ _)
   (tuple_addW2 t b vs.toArray ws.toArray n n2 dd dd2 sl sl2 (by simpa using hv) (by simpa using hw) (by rw [List.size_toArray,List.size_toArray];exact hsz)) ⟨ho,ho2,?_⟩
  rw [e]
  exact h2 hw

noncomputable def sIx (n d:Nat):Option Int→Nat
 | none=>d
 | some v=>if v < 0 then (v + (n:Int)).toNat else min v.toNat n
theorem sIx_none (n d:Nat):sIx n d none = d:=rfl
theorem sIx_nat (n d k:Nat):sIx n d (some (k:Int)) = min k n:=by
 show (if (k:Int) < 0 then ((k:Int) + (n:Int)).toNat else min (k:Int).toNat n) = min k n
 rw [if_neg (by omega),Int.toNat_natCast]
theorem sIx_le (n d:Nat) (hd:d≤n) (o:Option Int):sIx n d o≤n:=by
 cases o with
 | none=>exact hd
 | some v =>
  show (if v < 0 then (v + (n:Int)).toNat else min v.toNat n)≤n
  by_cases hv:v < 0
  ·rw [if_pos hv];omega
  ·rw [if_neg hv];exact Nat.min_le_right _ _
theorem clip_eq (v:Int) (n d:Nat):(if v < 0 then max (v + (n:Int)) 0 else min v (n:Int)) = ((sIx n d (some v):Nat):Int):=by
 show (if v < 0 then max (v + (n:Int)) 0 else min v (n:Int)) = (((if v < 0 then (v + (n:Int)).toNat else min v.toNat n):Nat):Int)
 by_cases hv:v < 0
 ·simp only [if_pos hv];omega
 ·simp only [if_neg hv];omega
theorem adjust_gen (lo hi:Option Int) (n:Nat):Builtin.Slice.sliceAdjust lo hi 1 (n:Int) = (((sIx n 0 lo:Nat):Int),((sIx n n hi:Nat):Int)):=by
 have h1:¬ ((1:Int) < 0):=by omega
 unfold Builtin.Slice.sliceAdjust
 simp only [h1,if_false]
 refine Prod.ext ?_ ?_
 ·cases lo with
  | none=>rfl
  | some v=>exact clip_eq v n 0
 ·cases hi with
  | none=>rfl
  | some v=>exact clip_eq v n n
theorem places_gen (i j:Nat):Builtin.Slice.slicePlaces (i:Int) (j:Int) 1 = j - i:=by
 unfold Builtin.Slice.slicePlaces
 have h1:(1:Int) > 0:=by omega
 simp only [h1,if_true,Int.ediv_one]
 split <;> omega
theorem slicePart_ {v:Value} {o:Option Int} {Q:Option Int→Shared→Prop} (p:IsPart v o) (h:Q o s):wpAny (model prog w) A (Builtin.Slice.slicePartIndex v) Q E s:=by
 cases p with
 | none=>exact slicePart_none h
 | int i t=>exact slicePart_int h
theorem sliceApplied_gen {sl:Addr} {vl vu:Value} {lo hi:Option Int} {n:Nat} {Q:Int×Int×Nat→Shared→Prop} (hs:s.heap.IsSliceOf sl vl vu .none) (pl:IsPart vl lo) (pu:IsPart vu hi)
  (h:Q (((sIx n 0 lo:Nat):Int),1,sIx n n hi - sIx n 0 lo) s):wpAny (model prog w) A (Builtin.Slice.sliceApplied (.ref sl) (pure (n:Int))) Q E s:=by
 obtain ⟨os,hos,hcs,hds⟩:=id hs
 unfold Builtin.Slice.sliceApplied Builtin.Slice.sliceFields
 refine wpAny_bind (wpAny_bind (wpAny_field hos hds (x:=vl) rfl (wpAny_bind (wpAny_field hos hds (x:=vu) rfl (wpAny_bind (wpAny_field hos hds (x:=.none) rfl (wpAny_pure ?_)))))))
 refine wpAny_bind (slicePart_none ?_)
 show wpAny _ _ (if ((1:Int) == 0) = true then _ else _) _ _ s
 rw [if_neg (by decide)]
 refine wpAny_bind (slicePart_ pl (wpAny_bind (slicePart_ pu (wpAny_bind (wpAny_pure ?_)))))
 show wpAny _ _ (match Builtin.Slice.sliceAdjust lo hi 1 (n:Int) with | (lo,hi)=>pure (lo,(1:Int),Builtin.Slice.slicePlaces lo hi 1)) _ _ s
 rw [adjust_gen lo hi n]
 show wpAny _ _ (pure (((sIx n 0 lo:Nat):Int),(1:Int),Builtin.Slice.slicePlaces ((sIx n 0 lo:Nat):Int) ((sIx n n hi:Nat):Int) 1)) _ _ s
 rw [places_gen]
 exact wpAny_pure h
theorem pick_gen (xs:Array Value) (i k:Nat):((List.range k).filterMap fun (m:Nat)=>xs[((i:Int) + (m:Int) * 1).toNat]?).toArray = ((xs.toList.drop i).take k).toArray:=by
 have e:(fun (m:Nat)=>xs[((i:Int) + (m:Int) * 1).toNat]?) = fun m=>xs[i + m]?:=by
  funext m
  have:((i:Int) + (m:Int) * 1).toNat = i + m:=by omega
  rw [this]
 rw [e]
 have:=pick_run xs i k
 rw [List.filterMap_map] at this
 have e2:((fun x=>xs[x]?) ∘ fun x=>i + x) = fun m=>xs[i + m]?:=rfl
 rw [e2] at this
 rw [this]

theorem getItem_tuple_cut {t sl:Addr} {items:Array Value} {vl vu:Value} {lo hi:Option Int} {Q:Value→Shared→Prop} (ht:IsTup s.heap t items) (hs:s.heap.IsSliceOf sl vl vu .none) (pl:IsPart vl lo) (pu:IsPart vu hi)
  (hw:¬ (sIx items.size 0 lo = 0∧sIx items.size items.size hi = items.size))
  (h:Q (.ref s.heap.objs.size) { s with heap:=s.heap.push { cls:=.type "tuple",data:=.seq ((items.toList.drop (sIx items.size 0 lo)).take (sIx items.size items.size hi - sIx items.size 0 lo)).toArray } })
  (hsz:items.size≤sizeLine):wpAny (model prog w) A (getItem (.ref t) (.ref sl)) Q E s:=by
 have htake:sizeOk (.seq ((items.toList.drop (sIx items.size 0 lo)).take (sIx items.size items.size hi - sIx items.size 0 lo)).toArray):=by
  show ((items.toList.drop (sIx items.size 0 lo)).take (sIx items.size items.size hi - sIx items.size 0 lo)).toArray.size≤sizeLine
  rw [List.size_toArray,List.length_take,List.length_drop,Array.length_toList]
  omega
 have hj:sIx items.size items.size hi≤items.size:=sIx_le _ _ (Nat.le_refl _) hi
 obtain ⟨os,hos,hcs,hds⟩:=id hs
 have hTs:s.TypeIs (.ref sl) "slice":=⟨os,hos,hcs⟩
 unfold getItem
 try with_reducible refine wpAny_holding ?_
 first | refine wpAny_bind (wpAny_pure ?_) | skip
 refine wpAny_bind (wpAny_sequenceKey ht.typeIs (by decide) ?_)
 refine wpAny_bind (wpAny_callSpecial?_slot (name:=Str.ofString "__getitem__") ht.typeIs PyProof.Rows.slot_tuple_getitem
  (wpAny_call_entry PyProof.Rows.slot_tuple_getitem ht.typeIs entry_tuple_getitem ?_ (args_tuple_getitem _ _)))
 show wpAny _ _ (Builtin.Tuple.tupleItemsOf (.ref t) >>= _) _ _ s
 refine wpAny_bind (tupleItemsOf_ ht ?_)
 refine wpAny_bind (wpAny_typeOf hTs ?_)
 rw [if_pos (by decide)]
 refine wpAny_bind (sliceApplied_gen hs pl pu ?_)
 have hno:¬ ((((sIx items.size 0 lo:Nat):Int) == 0 && (1:Int) == 1 && (sIx items.size items.size hi - sIx items.size 0 lo) == items.size) = true):=by
  intro q
  rw [Bool.and_eq_true,Bool.and_eq_true] at q
  have q1:((sIx items.size 0 lo:Nat):Int) = 0:=eq_of_beq q.1.1
  have q2:sIx items.size items.size hi - sIx items.size 0 lo = items.size:=eq_of_beq q.2
  exact hw ⟨by omega,by omega⟩
 show wpAny _ _ (if (((sIx items.size 0 lo:Nat):Int) == 0 && (1:Int) == 1 && (sIx items.size items.size hi - sIx items.size 0 lo) == items.size) = true then _ else _) _ _ s
 rw [if_neg hno,pick_gen]
 first
  | exact wpAny_bind (m:=Builtin.Tuple.tupleExact _) (wpAny_newObj_type (wpAny_pure ⟨_,rfl,wpAny_pure h⟩) htake)
  | exact wpAny_bind (m:=Builtin.Tuple.tupleExact _) (wpAny_newObj_type (wpAny_bind (wpAny_pure (wpAny_pure ⟨_,rfl,wpAny_pure h⟩))) htake)
  | exact wpAny_bind (wpAny_bind (m:=Builtin.Tuple.tupleExact _) (wpAny_newObj_type (wpAny_pure (wpAny_pure ⟨_,rfl,wpAny_pure h⟩)) htake))
  | exact wpAny_bind (wpAny_bind (m:=Builtin.Tuple.tupleExact _) (wpAny_newObj_type (wpAny_pure ⟨_,rfl,wpAny_pure h⟩) htake))
end
end HT

namespace L2
open PySem PySem.Spec PyProof.Rows

noncomputable abbrev TO:=St→Hp→(Option Int→Hp→Prop)→Prop
noncomputable def PO (X:Cx) (e:Option Expr) (t:TO):Prop :=
 ∀ (pins:List (Addr×Obj)) (s:Shared) (σ:St) (H:Hp) (Q:Option Int→Hp→Prop),Inv X pins σ H s→t σ H Q →
  wpAny (model X.prog X.w) X.A (evalPart e X.env) (fun u s'=>∃ o H',Inv X pins σ H' s'∧IsPart u o∧Q o H') X.xe s
noncomputable def tNoPart:TO:=fun _ H Q=>Q none H
noncomputable def tPart (t:TE):TO:=fun σ H Q=>t σ H fun x H1=>∃ i,x = .int i∧Q (some i) H1

section
variable {X:Cx} {e:Expr} {te:TE} {lo hi:Option Expr} {tl th:TO} {pos p2:Pos}

theorem po_none:PO X none tNoPart:=by
 intro pins s σ H Q I h
 rw [evalPart_none]
 exact wpAny_pure ⟨none,H,I,.none,h⟩
theorem po_some (h:PE X e te):PO X (some e) (tPart te):=by
 intro pins s σ H Q I hw
 rw [evalPart_some]
 refine thn (h pins s σ H _ I hw) fun u s1 ⟨x,H1,I1,r1,q1⟩=>?_
 obtain ⟨i,rfl,q⟩:=q1
 obtain ⟨t,rfl⟩:=r1
 exact ⟨some i,H1,I1,.int i t,q⟩

noncomputable def SlR (X:Cx) (r:V→Option Int→Option Int→Hp→VK→Prop):Prop :=
 ∀ (pins:List (Addr×Obj)) (s:Shared) (σ:St) (H:Hp) (x:V) (v vl vu:Value) (lo hi:Option Int) (sl:Addr) (Q:VK),Inv X pins σ H s→RelV x v→s.heap.IsSliceOf sl vl vu .none→IsPart vl lo→IsPart vu hi→r x lo hi H Q →
  ∃ T id,typeLookup (.type T) "__getitem__" = pure (some (.builtin id))∧s.TypeIs v T∧wpAny (model X.prog X.w) X.A (getItem v (.ref sl)) (EP X pins σ Q) X.xe s
noncomputable def tSl (r:V→Option Int→Option Int→Hp→VK→Prop) (te:TE) (tl th:TO):TE:=fun σ H Q=>te σ H fun x H1=>tl σ H1 fun l H2=>th σ H2 fun u H3=>r x l u H3 Q
theorem pe_slice {r:V→Option Int→Option Int→Hp→VK→Prop} (hr:SlR X r) (he:PE X e te) (hl:PO X lo tl) (hu:PO X hi th):PE X (.Subscript e (.Slice lo hi none p2) pos) (tSl r te tl th):=by
 intro pins s σ H Q I h
 refine Subscript_ (thn (he pins s σ H _ I h) fun v s1 ⟨x,H1,I1,r1,q1⟩=>?_)
 refine wpAny_Slice (thn (hl pins s1 σ H1 _ I1 q1) fun vl s2 ⟨l,H2,I2,pl,q2⟩=>thn (hu pins s2 σ H2 _ I2 q2) fun vu s3 ⟨u,H3,I3,pu,q3⟩=>?_)
 rw [evalPart_none]
 refine wpAny_pure ?_
 have I4:Inv X pins σ H3 { s3 with heap:=s3.heap.push { cls:=.type "slice",data:=.fields #[vl,vu,.none] } }:=I3.kept (t':=s3.toks) fun b ob q=>Heap.get?_push_of_some _ q
 obtain ⟨T,id,hT,ht,hg⟩:=hr pins { s3 with heap:=s3.heap.push { cls:=.type "slice",data:=.fields #[vl,vu,.none] } } σ H3 x v vl vu l u s3.heap.objs.size Q I4 r1 (Heap.IsSliceOf.new ..) pl pu q3
 show wpAny (model X.prog X.w) X.A (subscriptTail e (.Slice lo hi none p2) v (.ref s3.heap.objs.size)) (EP X pins σ Q) X.xe { s3 with heap:=s3.heap.push { cls:=.type "slice",data:=.fields #[vl,vu,.none] } }
 exact tail_any (ops:=[.ref s3.heap.objs.size,v]) ht hT hg (by with_unfolding_all rfl)

noncomputable def cutV (xs:List V) (lo hi:Option Int):List V:=(xs.drop (HT.sIx xs.length 0 lo)).take (HT.sIx xs.length xs.length hi - HT.sIx xs.length 0 lo)
theorem cutV_length (xs:List V) (lo hi:Option Int):(cutV xs lo hi).length≤xs.length:=by
 unfold cutV
 rw [List.length_take,List.length_drop]
 omega
noncomputable def rSlT (K:PySem.W.Frag):V→Option Int→Option Int→Hp→VK→Prop:=fun x lo hi H Q=>∃ a xs,x = .ref a∧SqT K H a xs ∧
 ¬ (HT.sIx xs.length 0 lo = 0∧HT.sIx xs.length xs.length hi = xs.length)∧∀ p,H p = none→Q (.ref p) (upd H p (.tup (cutV xs lo hi)))
theorem sl_tup:SlR X (rSlT X.K):=by
 intro pins s σ H x v vl vu lo hi sl Q I rx hs pl pu h
 obtain ⟨a,xs,rfl,hx,hw,q⟩:=h
 cases rx
 obtain ⟨its,r,ht,hz⟩:=I.tuple hx
 have hlen:its.toArray.size = xs.length:=by rw [List.size_toArray];exact r.length.symm
 refine ⟨"tuple",_,PyProof.Rows.slot_tuple_getitem.lookup,ht.typeIs,?_⟩
 refine HT.getItem_tuple_cut ht hs pl pu (by rw [hlen];exact hw) ?_ (by rw [hlen];exact hz)
 rw [hlen]
 refine ⟨.ref s.heap.objs.size,_,I.laid (t':=s.toks) (o:=.tup (cutV xs lo hi)) (fun b ob q=>Heap.get?_push_of_some _ q) (Nat.le_refl _) ?_,rfl,q _ (I.hok.fresh (Nat.le_refl _))⟩
 exact ⟨Nat.le_trans (cutV_length xs lo hi) hz,_,(r.drop (HT.sIx xs.length 0 lo)).take (HT.sIx xs.length xs.length hi - HT.sIx xs.length 0 lo),IsTup.new _ _⟩

noncomputable def rCatT (K:PySem.W.Frag):R2:=fun x y H Q=>∃ a b xs ys,x = .ref a∧y = .ref b∧SqT K H a xs∧SqT K H b ys∧xs≠[]∧xs.length + ys.length≤sizeLine ∧
 (ys = []→Q (.ref a) H)∧(ys≠[]→∀ p,H p = none→Q (.ref p) (upd H p (.tup (xs ++ ys))))
theorem Vals.nil_iff {xs:List V} {us:List Value} (r:Vals xs us):us = []↔xs = []:=by
 cases r with
 | nil=>simp
 | cons _ _=>simp
theorem op_catT:OpR X (binaryOp .Add) (rCatT X.K):=by
 intro pins s σ H x y v u Q I rx ry h
 obtain ⟨a,b,xs,ys,rfl,rfl,ha,hb,hx,hz,q1,q2⟩:=h
 cases rx
 cases ry
 obtain ⟨its,r1,p1,_⟩:=I.tuple ha
 obtain ⟨its2,r2,p2,_⟩:=I.tuple hb
 refine HT.cat_tup p1 p2 (fun z=>hx (r1.nil_iff.mp z)) (fun z=>⟨.ref a,H,I,rfl,q1 (r2.nil_iff.mp z)⟩) (fun z=>?_) (by rw [← r1.length,← r2.length];exact hz)
 refine ⟨.ref s.heap.objs.size,_,I.laid (t':=s.toks) (o:=.tup (xs ++ ys)) (fun b ob q=>Heap.get?_push_of_some _ q) (Nat.le_refl _) ?_,rfl,q2 (fun w=>z (r2.nil_iff.mpr w)) _ (I.hok.fresh (Nat.le_refl _))⟩
 exact ⟨by rw [List.length_append];exact hz,_,r1.append r2,IsTup.new _ _⟩
end
end L2

namespace L2
open PySem PySem.Spec PyProof.Rows

noncomputable def ixN (n:Nat) (i:Int):Option Nat:=if 0≤i then (if i < n then some i.toNat else none) else if -(n:Int)≤i then some (i + n).toNat else none
noncomputable def atI {α:Type} (xs:List α) (i:Int):Option α:=(ixN xs.length i).bind fun j=>xs[j]?
theorem ixN_seq {n:Nat} {i:Int} {j:Nat} (h:ixN n i = some j):seqIndex? i n = some j∧j < n∧-(n:Int)≤i∧i < n:=by
 unfold ixN at h
 by_cases h0:0≤i
 ·rw [if_pos h0] at h
  by_cases h1:i < n
  ·rw [if_pos h1] at h
   have e:i.toNat = j:=Option.some.inj h
   exact ⟨by rw [seqIndex_of h0 h1,e],by omega,by omega,h1⟩
  ·rw [if_neg h1] at h;cases h
 ·rw [if_neg h0] at h
  by_cases h1:-(n:Int)≤i
  ·rw [if_pos h1] at h
   have e:(i + n).toNat = j:=Option.some.inj h
   exact ⟨by rw [seqIndex_neg (by omega) h1,e],by omega,h1,by omega⟩
  ·rw [if_neg h1] at h;cases h
theorem atI_get {α:Type} {xs:List α} {i:Int} {v:α} (h:atI xs i = some v):∃ j,seqIndex? i xs.length = some j∧xs[j]? = some v∧j < xs.length∧-(xs.length:Int)≤i∧i < xs.length:=by
 unfold atI at h
 cases e:ixN xs.length i with
 | none=>rw [e] at h;cases h
 | some j =>
  rw [e] at h
  obtain ⟨h1,h2,h3,h4⟩:=ixN_seq e
  exact ⟨j,h1,h,h2,h3,h4⟩
theorem atI_nat {α:Type} {xs:List α} {j:Nat} {v:α} (h:xs[j]? = some v):atI xs (j:Int) = some v:=by
 have hj:j < xs.length:=(List.getElem?_eq_some_iff.mp h).1
 have e:ixN xs.length (j:Int) = some j:=by
  unfold ixN
  rw [if_pos (by omega),if_pos (by omega)];simp
 unfold atI;rw [e];exact h
theorem atI_last {α:Type} (xs:List α) (v:α):atI (xs ++ [v]) (-1) = some v:=by
 have hl:(xs ++ [v]).length = xs.length + 1:=by simp
 have e:ixN (xs ++ [v]).length (-1) = some xs.length:=by
  unfold ixN
  rw [hl,if_neg (by decide),if_pos (by omega)]
  congr 1
  omega
 unfold atI
 rw [e]
 show (xs ++ [v])[xs.length]? = some v
 simp

noncomputable def PlainIx (b:Expr):Prop:=∀ o i,subscripted b false o i = operate [o,i] (getItem o i)
noncomputable def IxR (X:Cx) (r:R2):Prop :=
 ∀ (value slice:Expr) (pins:List (Addr×Obj)) (s:Shared) (σ:St) (H:Hp) (x y:V) (v u:Value) (Q:VK),Inv X pins σ H s→RelV x v→RelV y u→r x y H Q →
  subscripted slice false v u = operate [v,u] (getItem v u)→wpAny (model X.prog X.w) X.A (subscriptTail value slice v u) (EP X pins σ Q) X.xe s
noncomputable def MtR (X:Cx) (id:String) (r:V→List V→Hp→VK→Prop):Prop :=
 ∀ (pins:List (Addr×Obj)) (s:Shared) (σ:St) (H:Hp) (x:V) (xs:List V) (v:Value) (us:List Value) (Q:VK),Inv X pins σ H s→RelV x v→Vals xs us→r x xs H Q →
  wpAny (model X.prog X.w) X.A (call (.builtin id) (v :: us)) (EP X pins σ Q) X.xe s
section
variable {X:Cx} {a b:Expr} {ta tb:TE} {pos:Pos}
theorem pe_ix {r:R2} (hr:IxR X r) (ha:PE X a ta) (hb:PE X b tb) (hs:PlainIx b):PE X (.Subscript a b pos) (tOp r ta tb):=by
 intro pins s σ H Q I h
 exact Subscript_ (binT ha hb I h fun v u s2 x y H2 I2 rx ry q=>hr a b pins s2 σ H2 x y v u Q I2 rx ry q (hs _ _))

noncomputable def rIxL (K:PySem.W.Frag):R2:=fun x y H Q=>∃ p xs i v,x = .ref p∧y = .int i∧SqL K H p xs∧atI xs i = some v∧Q v H
noncomputable def rIxT (K:PySem.W.Frag):R2:=fun x y H Q=>∃ p xs i v,x = .ref p∧y = .int i∧SqT K H p xs∧atI xs i = some v∧Q v H
theorem ix_list:IxR X (rIxL X.K):=by
 intro value slice pins s σ H x y v u Q I rx ry h hs
 obtain ⟨p,xs,i,z,rfl,rfl,hq,he,q⟩:=h
 cases rx
 obtain ⟨t,rfl⟩:=ry
 obtain ⟨its,r,pl,hz⟩:=I.list hq
 obtain ⟨j,h1,h2,h3,h4,h5⟩:=atI_get he
 obtain ⟨w,ew,rw'⟩:=r.get h2
 have hl:=r.length
 have hn:=line63
 have fin:EP X pins σ Q w s:=⟨z,H,I,rw',q⟩
 by_cases h0:0≤i
 ·have hj:i.toNat = j:=by
   rw [seqIndex_of h0 h5] at h1
   exact Option.some.inj h1
  exact item_listR pl.isList h0 (by omega) (by rw [hj];simpa using ew) fin hs
 ·have hj:(i + (its.toArray.size:Int)).toNat = j:=by
   rw [seqIndex_neg (by omega) h4] at h1
   rw [List.size_toArray,← hl]
   exact Option.some.inj h1
  exact subscriptTail_builtinR (x:=w) pl.isList.typeIs slot_list_getitem.lookup
   (wpAny_getItem_list_neg (Q:=fun r s'=>r = w∧EP X pins σ Q r s') pl.isList (by omega) (by rw [List.size_toArray] <;> omega) (by omega) (by rw [hj];simpa using ew) ⟨rfl,fin⟩) hs
theorem ix_tup:IxR X (rIxT X.K):=by
 intro value slice pins s σ H x y v u Q I rx ry h hs
 obtain ⟨p,xs,i,z,rfl,rfl,hq,he,q⟩:=h
 cases rx
 obtain ⟨t,rfl⟩:=ry
 obtain ⟨its,r,pl,hz⟩:=I.tuple hq
 obtain ⟨j,h1,h2,h3,h4,h5⟩:=atI_get he
 obtain ⟨w,ew,rw'⟩:=r.get h2
 have hl:=r.length
 have hn:=line63
 have fin:EP X pins σ Q w s:=⟨z,H,I,rw',q⟩
 exact subscriptTail_builtinR (x:=w) pl.typeIs slot_tuple_getitem.lookup
  (getItem_tuple (j:=j) (Q:=fun r s'=>r = w∧EP X pins σ Q r s') pl (by omega) (by omega) (by rw [List.size_toArray,← hl];exact h1) (by simpa using ew) ⟨rfl,fin⟩) hs
theorem mapSeq_set (its:List Value) (n j:Nat) (u:Value):Obj.mapSeq (·.setIfInBounds j u) { cls:=.type "list",data:=.seq its.toArray n } = { cls:=.type "list",data:=.seq (its.set j u).toArray n }:=by
 simp [Obj.mapSeq]
theorem Inv.lst {pins:List (Addr×Obj)} {σ:St} {H:Hp} {s:Shared} {p:Addr} {xs:List V} (I:Inv X pins σ H s) (h:H p = some (.lst xs)) :
  ∃ (its:List Value) (n:Nat),Vals xs its∧s.heap.get? p = some { cls:=.type "list",data:=.seq its.toArray n }∧xs.length≤sizeLine:=by
 obtain ⟨z,its,n,r,e⟩:=I.hok p _ h
 exact ⟨its,n,r,e,z⟩
theorem Inv.lstUpd {pins:List (Addr×Obj)} {σ:St} {H:Hp} {s:Shared} {p:Addr} {xs ys:List V} {its its':List Value} {n n':Nat} {f:Obj→Obj} (I:Inv X pins σ H s) (h:H p = some (.lst xs))
  (ho:s.heap.get? p = some { cls:=.type "list",data:=.seq its.toArray n }) (hf:f { cls:=.type "list",data:=.seq its.toArray n } = { cls:=.type "list",data:=.seq its'.toArray n' }) (r:Vals ys its') (hz:ys.length≤sizeLine) (t:Nat) :
  Inv X pins σ (upd H p (.lst ys)) { s with heap:=s.heap.update p f,toks:=t }:=by
 have e:(s.heap.update p f).get? p = some { cls:=.type "list",data:=.seq its'.toArray n' }:=by
  rw [Heap.get?_update_self f ho (by rw [hf] <;> rfl),hf]
 refine I.write (x:=p) (e:=p) (by rw [h];trivial) (.inl rfl) (fun b u hb q=>(Heap.get?_update_other _ _ (Ne.symm hb)).trans q) ⟨_,e⟩ ?_
 exact ⟨hz,its',n',r,e⟩
noncomputable def rSetL:V→V→V→Hp→(Hp→Prop)→Prop:=fun o i v H Q=>∃ p xs k j,o = .ref p∧i = .int k∧H p = some (.lst xs)∧ixN xs.length k = some j∧Q (upd H p (.lst (xs.set j v)))
theorem set_list:PSet X rSetL:=by
 intro pins s σ H o i v ov iv u Q I ro ri rv h
 obtain ⟨p,xs,k,j,rfl,rfl,hp,hj,q⟩:=h
 cases ro
 obtain ⟨t,rfl⟩:=ri
 obtain ⟨its,n,r,ho,hz⟩:=I.lst hp
 obtain ⟨h1,h2,h3,h4⟩:=ixN_seq hj
 have hl:=r.length
 have hn:=line63
 have I':Inv X pins σ (upd H p (.lst (xs.set j v))) { s with heap:=s.heap.update p (Obj.mapSeq (·.setIfInBounds j u)) } :=
  I.lstUpd hp ho (mapSeq_set its n j u) (r.set rv j) (by rw [List.length_set];exact hz) s.toks
 by_cases h0:0≤k
 ·have hk:k.toNat = j:=by
   rw [seqIndex_of h0 h4] at h1
   exact Option.some.inj h1
  exact PySem.W.ki_setAt ho h0 (by omega) (by rw [List.size_toArray,← hl];exact h4) (by rw [hk];exact ⟨_,I',q⟩)
 ·have hk:(k + (its.toArray.size:Int)).toNat = j:=by
   rw [seqIndex_neg (by omega) h3] at h1
   rw [List.size_toArray,← hl]
   exact Option.some.inj h1
  exact PySem.W.ki_setBack ho (by omega) (by rw [List.size_toArray,← hl];exact h3) (by omega) (by rw [hk];exact ⟨_,I',q⟩)

theorem slice_bounds (lo hi:Option Int) (n:Nat):(sliceBounds lo hi none n).1 = ((HT.sIx n 0 lo:Nat):Int)∧(sliceBounds lo hi none n).2.1 = ((HT.sIx n n hi:Nat):Int)∧(sliceBounds lo hi none n).2.2 = 1:=by
 refine ⟨?_,?_,rfl⟩
 ·cases lo with
  | none=>simp [sliceBounds,HT.sIx]
  | some i =>
   simp only [sliceBounds,HT.sIx,Option.getD_none,show (1:Int) > 0 by decide,if_true]
   by_cases h:i < 0
   ·simp only [h,if_true] <;> omega
   ·simp only [h,if_false] <;> omega
 ·cases hi with
  | none=>simp [sliceBounds,HT.sIx]
  | some i =>
   simp only [sliceBounds,HT.sIx,Option.getD_none,show (1:Int) > 0 by decide,if_true]
   by_cases h:i < 0
   ·simp only [h,if_true] <;> omega
   ·simp only [h,if_false] <;> omega
theorem slicePick_cut (its:List Value) (lo hi:Option Int):slicePick its.toArray lo hi none = ((its.drop (HT.sIx its.length 0 lo)).take (HT.sIx its.length its.length hi - HT.sIx its.length 0 lo)).toArray:=by
 obtain ⟨h1,h2,h3⟩:=slice_bounds lo hi its.toArray.size
 unfold slicePick
 rw [h1,h2,h3]
 simp only [sliceRange_one,pick_run,List.size_toArray] <;> rfl
noncomputable def rSlL (K:PySem.W.Frag):V→Option Int→Option Int→Hp→VK→Prop:=fun x lo hi H Q=>∃ a xs,x = .ref a∧SqL K H a xs∧∀ p,H p = none→Q (.ref p) (upd H p (.lst (cutV xs lo hi)))
theorem sl_list:SlR X (rSlL X.K):=by
 intro pins s σ H x v vl vu lo hi sl Q I rx hs pl pu h
 obtain ⟨a,xs,rfl,hx,q⟩:=h
 cases rx
 obtain ⟨its,r,ht,hz⟩:=I.list hx
 have hlen:=r.length
 refine ⟨"list",_,slot_list_getitem.lookup,ht.isList.typeIs,?_⟩
 refine wpAny_getItem_list_slice ht.isList hs pl pu .none (by simp) ?_ (by rw [List.size_toArray] <;> omega)
 rw [slicePick_cut,← hlen]
 refine ⟨.ref s.heap.objs.size,_,I.laid (t':=s.toks) (o:=.lst (cutV xs lo hi)) (fun b ob q=>Heap.get?_push_of_some _ q) (Nat.le_refl _) ?_,rfl,q _ (I.hok.fresh (Nat.le_refl _))⟩
 exact ⟨Nat.le_trans (cutV_length xs lo hi) hz,_,0,(r.drop (HT.sIx xs.length 0 lo)).take (HT.sIx xs.length xs.length hi - HT.sIx xs.length 0 lo),Heap.get?_push_size _ rfl⟩

noncomputable def flatV:V→Bool
 | .non=>true
 | .bl _=>true
 | .int _=>true
 | .str _=>true
 | _=>false
noncomputable def eqV:V→V→Bool
 | .non,.non=>true
 | .bl a,.bl b=>a == b
 | .bl a,.int b=>(if a then 1 else 0) == b
 | .int a,.bl b=>a == (if b then 1 else 0)
 | .int a,.int b=>a == b
 | .str a,.str b=>a == b
 | _,_=>false
theorem eqAt_V {A:Around} {s:Shared} {y x:V} {u v:Value} (ry:RelV y u) (rx:RelV x v) (fy:flatV y = true) (fx:flatV x = true):SeqAt.EqAt A s u v (eqV y x):=by
 cases y with
 | non =>
  cases ry
  cases x with
  | non=>cases rx;exact SeqAt.EqAt.same _
  | bl b=>cases rx;exact SeqAt.EqAt.none_bool b
  | int b=>obtain ⟨t,rfl⟩:=rx;exact SeqAt.EqAt.none_int b t
  | str b=>obtain ⟨t,rfl⟩:=rx;exact SeqAt.EqAt.none_str b t
  | _=>exact absurd (show false = true from fx) Bool.false_ne_true
 | bl a =>
  cases ry
  cases x with
  | non=>cases rx;exact SeqAt.EqAt.bool_none a
  | bl b=>cases rx;exact SeqAt.EqAt.bool_bool a b
  | int b=>obtain ⟨t,rfl⟩:=rx;exact SeqAt.EqAt.bool_int a b t
  | str b=>obtain ⟨t,rfl⟩:=rx;exact SeqAt.EqAt.bool_str a b t
  | _=>exact absurd (show false = true from fx) Bool.false_ne_true
 | int a =>
  obtain ⟨t',rfl⟩:=ry
  cases x with
  | non=>cases rx;exact SeqAt.EqAt.int_none a t'
  | bl b=>cases rx;exact SeqAt.EqAt.int_bool a t' b
  | int b=>obtain ⟨t,rfl⟩:=rx;exact SeqAt.EqAt.int_int a t' b t
  | str b=>obtain ⟨t,rfl⟩:=rx;exact SeqAt.EqAt.int_str a t' b t
  | _=>exact absurd (show false = true from fx) Bool.false_ne_true
 | str a =>
  obtain ⟨t',rfl⟩:=ry
  cases x with
  | non=>cases rx;exact SeqAt.EqAt.str_none a t'
  | bl b=>cases rx;exact SeqAt.EqAt.str_bool a t' b
  | int b=>obtain ⟨t,rfl⟩:=rx;exact SeqAt.EqAt.str_int a t' b t
  | str b=>obtain ⟨t,rfl⟩:=rx;exact SeqAt.EqAt.str_str a t' b t
  | _=>exact absurd (show false = true from fx) Bool.false_ne_true
 | _=>exact absurd (show false = true from fy) Bool.false_ne_true
theorem call_len_seq:CallR X (.builtin "len") (fun xs H Q=>∃ p ys,xs = [.ref p]∧(SqL X.K H p ys∨SqT X.K H p ys)∧Q (.int ys.length) H):=by
 intro pins s σ H xs us Q I r h
 obtain ⟨p,ys,rfl,hq,q⟩:=h
 obtain ⟨u,rfl,rx⟩:=vals1 r
 cases rx
 have hn:=line63
 rcases hq with hq | hq
 ·obtain ⟨its,r',pl,hz⟩:=I.list hq
  have hlen:=r'.length
  exact Calls.call_len_list pl.isList (by simp only [List.size_toArray] <;> omega) ⟨.int ys.length,H,I.tok _,⟨s.toks + 1,by rw [List.size_toArray,hlen]⟩,q⟩
 ·obtain ⟨its,r',pl,hz⟩:=I.tuple hq
  have hlen:=r'.length
  exact len_tuple pl (by simp only [List.size_toArray] <;> omega) ⟨.int ys.length,H,I.tok _,⟨s.toks + 1,by rw [List.size_toArray,hlen]⟩,q⟩
theorem call_list_of:CallR X (.type "list") (fun xs H Q=>∃ p ys,xs = [.ref p]∧(SqL X.K H p ys∨SqT X.K H p ys)∧∀ l,H l = none→Q (.ref l) (upd H l (.lst ys))):=by
 intro pins s σ H xs us Q I r h
 obtain ⟨p,ys,rfl,hq,q⟩:=h
 obtain ⟨u,rfl,rx⟩:=vals1 r
 cases rx
 have fin:∀ (its:List Value),Vals ys its→ys.length≤sizeLine→∀ (h':Heap) (c':Nat),(∀ b o',s.heap.get? b = some o'→h'.get? b = some o') →
   h'.get? s.heap.objs.size = some { cls:=.type "list",dict:=none,data:=.seq its.toArray c',slots:=#[] }→EP X pins σ Q (.ref s.heap.objs.size) { s with heap:=h' }:=fun its r' hz h' c' kp e =>
  ⟨.ref s.heap.objs.size,_,I.laid (t':=s.toks) kp (Nat.le_refl _) (show ObjOk X.prog X.w _ h' _ (.lst ys) from ⟨hz,its,c',r',e⟩),rfl,q _ (I.hok.fresh (Nat.le_refl _))⟩
 rcases hq with hq | hq
 ·obtain ⟨its,r',pl,hz⟩:=I.list hq
  have hlen:=r'.length
  obtain ⟨o,ho,hc,n,hd⟩:=pl.isList
  exact call_list_seq p (.inl rfl) ho hc hd (fun h' c' kp e=>fin its r' hz h' c' kp e) (by simp only [List.size_toArray] <;> omega)
 ·obtain ⟨its,r',pl,hz⟩:=I.tuple hq
  have hlen:=r'.length
  obtain ⟨o,ho,hc,n,hd⟩:=pl
  exact call_list_seq p (.inr rfl) ho hc hd (fun h' c' kp e=>fin its r' hz h' c' kp e) (by simp only [List.size_toArray] <;> omega)
theorem call_tuple_of:CallR X (.type "tuple") (fun xs H Q=>∃ p ys,xs = [.ref p]∧((SqL X.K H p ys∧∀ l,H l = none→Q (.ref l) (upd H l (.tup ys)))∨(SqT X.K H p ys∧Q (.ref p) H))):=by
 intro pins s σ H xs us Q I r h
 obtain ⟨p,ys,rfl,h⟩:=h
 obtain ⟨u,rfl,rx⟩:=vals1 r
 cases rx
 rcases h with ⟨hq,q⟩ | ⟨hq,q⟩
 ·obtain ⟨its,r',pl,hz⟩:=I.list hq
  have hlen:=r'.length
  refine call_tuple_list pl.isList (fun h' kp=>?_) (by simp only [List.size_toArray] <;> omega)
  have I1:Inv X pins σ H { s with heap:=h' }:=I.kept (t':=s.toks) kp
  have I2:Inv X pins σ (upd H h'.objs.size (.tup ys)) { s with heap:=h'.push { cls:=.type "tuple",data:=.seq its.toArray } } :=
   I1.laid (t':=s.toks) (fun b o e=>Heap.get?_push_of_some _ e) (Nat.le_refl _) (show ObjOk X.prog X.w _ _ _ (.tup ys) from ⟨hz,its,r',IsTup.new _ _⟩)
  exact ⟨.ref h'.objs.size,_,I2,rfl,q _ (I1.hok.fresh (Nat.le_refl _))⟩
 ·obtain ⟨its,r',pl,hz⟩:=I.tuple hq
  exact call_tuple_same pl ⟨.ref p,H,I,rfl,q⟩

noncomputable def tyV (K : PySem.W.Frag) (T : String) (x : V) (H : Hp) : Prop := match x with
  | .str _ => T = "str"
  | .int _ => T = "int"
  | .ref p => (T = "list" ∧ ∃ xs, SqL K H p xs) ∨ (T = "tuple" ∧ ∃ o, K.lookup p = some o ∧ o.cls = .type "tuple" ∧ o.dict = none) ∨
      (T = "dict" ∧ ((∃ kvs, H p = some (.dK kvs)) ∨ ∃ kvs, H p = some (.dT kvs))) ∨ (T = "set" ∧ ∃ S n, H p = some (.set S n))
  | _ => False
theorem tyV_is {pins:List (Addr×Obj)} {σ:St} {H:Hp} {s:Shared} {T:String} {x:V} {v:Value} (I:Inv X pins σ H s) (r:RelV x v) (ty:tyV X.K T x H) :
  s.TypeIs v T∧∀ a,v = .ref a→∃ ob,s.heap.get? a = some ob∧ob.dict = none:=by
 cases x with
 | str z =>
  obtain ⟨t,rfl⟩:=r
  cases (show T = "str" from ty)
  exact ⟨typeIs_str s z t,fun _ e=>nomatch e⟩
 | int i =>
  obtain ⟨t,rfl⟩:=r
  cases (show T = "int" from ty)
  exact ⟨typeIs_int s i t,fun _ e=>nomatch e⟩
 | ref p =>
  cases r
  rcases ty with ⟨rfl,xs,hq⟩ | ⟨rfl,o,hk,hc,hd⟩ | ⟨rfl,hk⟩ | ⟨rfl,S,n,hk⟩
  ·obtain ⟨its,_,pl,_⟩:=I.list hq
   refine ⟨pl.isList.typeIs,fun a e=>?_⟩
   cases e
   obtain ⟨o,n,e,c,hd,_⟩:=pl
   exact ⟨o,e,hd⟩
  ·refine ⟨⟨o,I.kIn p o hk,hc⟩,fun a e=>?_⟩
   cases e
   exact ⟨o,I.kIn _ o hk,hd⟩
  ·have z:∃ o,s.heap.get? p = some o∧o.ExactDict:=by
    rcases hk with ⟨kvs,hk⟩ | ⟨kvs,hk⟩
    ·obtain ⟨_,_,_,_,o,_,_,e,ex,_⟩:=I.hok p _ hk
     exact ⟨o,e,ex⟩
    ·obtain ⟨_,_,_,_,o,_,_,e,ex,_⟩:=I.hok p _ hk
     exact ⟨o,e,ex⟩
   obtain ⟨o,e,ex⟩:=z
   refine ⟨⟨o,e,ex.1⟩,fun a e2=>?_⟩
   cases e2
   exact ⟨o,e,ex.2.1⟩
  ·obtain ⟨o,_,_,_,e,ex,_⟩:=I.hok p _ hk
   refine ⟨⟨o,e,ex.1⟩,fun a e2=>?_⟩
   cases e2
   exact ⟨o,e,ex.2.1⟩
 | _=>exact False.elim ty
noncomputable def tBM0 (K:PySem.W.Frag) (T:String) (r:V→List V→Hp→VK→Prop) (to:TE):TE:=fun σ H Q=>to σ H fun x H1=>tyV K T x H1∧r x [] H1 Q
noncomputable def tBM (K:PySem.W.Frag) (T:String) (r:V→List V→Hp→VK→Prop) (to:TE) (t:TA):TE:=fun σ H Q=>to σ H fun x H1=>tyV K T x H1∧t σ H1 fun xs H2=>r x xs H2 Q
variable {o e:Expr} {es:List Expr} {to:TE} {t:TA} {name:Str} {apos cpos:Pos} {T id:String} {r:V→List V→Hp→VK→Prop}
theorem pe_bm0 (pa:PlainAttrs T) (slot:Slot T name id) (hty:typeOf (.builtin id) = pure (.type "method_descriptor")) (hm:MtR X id r) (ho:PE X o to)
  (hbase:attributeBase o name X.env (eval o X.env) = eval o X.env:=by rfl) (hline:(apos.endLine == cpos.line) = true:=by rfl):PE X (.Call (.Attribute o name apos) [] [] cpos) (tBM0 X.K T r to):=by
 intro pins s σ H Q I h
 refine wpAny_Call_method0_late hbase hline (thn (ho pins s σ H _ I h) fun v s1 ⟨x,H1,I1,r1,ty,q1⟩=>?_)
 obtain ⟨h1,h2⟩:=tyV_is I1 r1 ty
 exact ⟨T,id,pa,slot,hty,h1,h2,Calls.callWith_builtin rfl (PySem.evalArgs_none (hm pins s1 σ H1 x [] v [] Q I1 r1 .nil q1))⟩
theorem pe_bm (pa:PlainAttrs T) (slot:Slot T name id) (hty:typeOf (.builtin id) = pure (.type "method_descriptor")) (hm:MtR X id r) (ho:PE X o to) (ha:PA X (e :: es) t)
  (hbase:attributeBase o name X.env (eval o X.env) = eval o X.env:=by rfl)
  (hfew:((backTo cpos (starEach (e :: es) X.env)).all (fun x=>!x.1) && (backToKw cpos (keywordEach [] X.env)).all (fun x=>x.1.isSome)
   && decide ((e :: es).length + ([]:List Keyword).length + (if ([]:List Keyword).isEmpty then 0 else 1) < 30)) = true:=by rfl)
  (hline:(apos.endLine == cpos.line) = true:=by rfl) (hs:starEach (e :: es) X.env = (false,eval e X.env) :: starEach es X.env:=by rfl) (hplain:(backTo cpos (starEach es X.env)).any (·.1) = false:=by rfl) :
  PE X (.Call (.Attribute o name apos) (e :: es) [] cpos) (tBM X.K T r to t):=by
 intro pins s σ H Q I h
 refine wpAny_Call_method_late hbase hfew hline rfl (thn (ho pins s σ H _ I h) fun v s1 ⟨x,H1,I1,r1,ty,q1⟩=>?_)
 obtain ⟨h1,h2⟩:=tyV_is I1 r1 ty
 refine ⟨T,id,pa,slot,hty,h1,h2,?_⟩
 have hA:=ha cpos pins s1 σ H1 _ I1 q1
 rw [hs] at hA ⊢
 refine Calls.callWith_builtin (by show (false || (backTo cpos (starEach es X.env)).any (·.1)) = false;rw [hplain] <;> rfl) (Calls.evalArgs_plain ?_)
 exact thn hA fun us s2 ⟨vs,H2,I2,r2,q2⟩=>hm pins s2 σ H2 x vs v us Q I2 r1 r2 q2
/- xs.append(e), list.index on a module's tuple .. are MtR facts of 06m -/
end
end L2

namespace L2
open PySem PySem.Spec PyProof.Rows

noncomputable def MtM (X:Cx) (id:String) (r:V→List V→Hp→VK→Prop):Prop :=
 ∀ (pins:List (Addr×Obj)) (s:Shared) (σ:St) (H:Hp) (x:V) (xs:List V) (v:Value) (us:List Value) (Q:VK),Inv X pins σ H s→RelV x v→Vals xs us→r x xs H Q →
  wpAny (model X.prog X.w) X.A (call (.builtin id) (v :: us)) (EP X pins σ Q) X.xe s

theorem Vals.one:∀ {x:V} {us:List Value},Vals [x] us→∃ u,us = [u]∧RelV x u
 | _,_,.cons r .nil=>⟨_,rfl,r⟩
theorem Vals.two:∀ {x y:V} {us:List Value},Vals [x,y] us→∃ u v,us = [u,v]∧RelV x u∧RelV y v
 | _,_,_,.cons r (.cons q .nil)=>⟨_,_,rfl,r,q⟩
theorem Vals.zero:∀ {us:List Value},Vals [] us→us = []
 | _,.nil=>rfl
theorem Vals.dropLast {xs:List V} {us:List Value} (h:Vals xs us):Vals xs.dropLast us.dropLast:=by
 induction h with
 | nil=>exact .nil
 | cons r t ih =>
  cases t with
  | nil=>exact .nil
  | cons q t'=>exact .cons r ih
theorem Vals.eraseIdx:∀ {xs:List V} {us:List Value} (i:Nat),Vals xs us→Vals (xs.eraseIdx i) (us.eraseIdx i)
 | _,_,_,.nil=>.nil
 | _,_,0,.cons _ t=>t
 | _,_,i + 1,.cons r t=>.cons r (Vals.eraseIdx i t)
theorem erase_last {α:Type} (l:List α):l.eraseIdx (l.length - 1) = l.dropLast:=by
 induction l with
 | nil=>rfl
 | cons a r ih =>
  cases r with
  | nil=>rfl
  | cons b r =>
   have e:(a :: b :: r).length - 1 = ((b :: r).length - 1) + 1:=by
    have h1:(a :: b :: r).length = r.length + 2:=rfl
    have h2:(b :: r).length = r.length + 1:=rfl
    omega
   rw [e,List.eraseIdx_cons_succ,ih]
   all_goals rfl
theorem len_erase {α:Type}:∀ (l:List α) (i:Nat),(l.eraseIdx i).length≤l.length
 | [],_=>Nat.le_refl _
 | _ :: _,0=>Nat.le_succ _
 | _ :: r,i + 1=>Nat.succ_le_succ (len_erase r i)
section
variable {X:Cx} {pins:List (Addr×Obj)} {σ:St} {H:Hp} {s:Shared} {l b:Addr} {xs ys zs:List V}

theorem Inv.lset {its its':List Value} {n:Nat} {f:Array Value→Array Value} {t':Nat} (I:Inv X pins σ H s) (hH:H l = some (.lst xs))
  (e:s.heap.get? l = some { cls:=.type "list",data:=.seq its.toArray n }) (hf:f its.toArray = its'.toArray) (hv:Vals ys its') (hz:ys.length≤sizeLine) :
  Inv X pins σ (upd H l (.lst ys)) { s with heap:=s.heap.update l (Obj.mapSeq f),toks:=t' }:=by
 have q:=PySem.IsL.update e f
 rw [hf] at q
 refine I.write (x:=l) (e:=l) (by rw [hH];exact trivial) (.inl rfl) (fun b' u hb hu=>(Heap.get?_update_other s.heap (Obj.mapSeq f) (Ne.symm hb)).trans hu) ⟨_,q⟩ ?_
 exact ⟨hz,its',_,hv,q⟩
theorem Inv.lnew {its:List Value} {t':Nat} (I:Inv X pins σ H s) (hv:Vals ys its) (hz:ys.length≤sizeLine) :
  Inv X pins σ (upd H s.heap.objs.size (.lst ys)) { s with heap:=s.heap.push { cls:=.type "list",data:=.seq its.toArray },toks:=t' } :=
 I.laid (fun _ _ q=>Heap.get?_push_of_some _ q) (Nat.le_refl _) ⟨hz,its,0,hv,Heap.get?_push_size _ rfl⟩
theorem Inv.lstM (I:Inv X pins σ H s) (hH:H l = some (.lst xs)):xs.length≤sizeLine∧∃ (its:List Value) (n:Nat),Vals xs its∧xs.length = its.length∧s.heap.get? l = some { cls:=.type "list",data:=.seq its.toArray n }:=by
 obtain ⟨z,its,n,r,e⟩:=I.hok l _ hH
 exact ⟨z,its,n,r,r.length,e⟩

theorem notLongL {n:Nat} (h:n≤sizeLine):Builtin.List.listTooLong n = false:=by
 unfold Builtin.List.listTooLong
 exact decide_eq_false (by omega)
end

section
variable {X:Cx}

noncomputable def rAppend:V→List V→Hp→VK→Prop:=fun x vs H Q=>∃ l xs y,x = .ref l∧vs = [y]∧H l = some (.lst xs)∧xs.length < sizeLine∧Q .non (upd H l (.lst (xs ++ [y])))
theorem mt_append:MtM X "list.append" rAppend:=by
 intro pins s σ H x vs v us Q I rx rv h
 obtain ⟨l,xs,y,rfl,rfl,hH,hz,q⟩:=h
 cases rx
 obtain ⟨u,rfl,ru⟩:=rv.one
 obtain ⟨z,its,n,r,hl,e⟩:=I.lstM hH
 refine call_meets F.slot_list_append ⟨_,e,rfl⟩ F.entry_list_append (F.args_list_append_2 _ _) (PySem.list_append l its.toArray n u (by rw [List.size_toArray];omega)) ⟨e,?_⟩
 refine ⟨.non,_,I.lset (its':=its ++ [u]) hH e (by simp) (r.append (.cons ru .nil)) ?_,rfl,q⟩
 rw [List.length_append,List.length_singleton]
 omega

noncomputable def rExtend:V→List V→Hp→VK→Prop:=fun x vs H Q=>∃ l b xs zs,x = .ref l∧vs = [.ref b]∧H l = some (.lst xs)∧H b = some (.lst zs)∧xs.length + zs.length≤sizeLine∧Q .non (upd H l (.lst (xs ++ zs)))
theorem mt_extend:MtM X "list.extend" rExtend:=by
 intro pins s σ H x vs v us Q I rx rv h
 obtain ⟨l,b,xs,zs,rfl,rfl,hH,hB,hz,q⟩:=h
 cases rx
 obtain ⟨u,rfl,ru⟩:=rv.one
 cases ru
 obtain ⟨z,its,n,r,hl,e⟩:=I.lstM hH
 obtain ⟨z2,its2,n2,r2,hl2,e2⟩:=I.lstM hB
 have hsz:its.toArray.size + its2.toArray.size≤sizeLine:=by rw [List.size_toArray,List.size_toArray];omega
 have hlong:¬ (!its.toArray.isEmpty && Builtin.List.listTooLong (its.toArray.size + its2.toArray.size)) = true:=by
  rw [notLongL hsz,Bool.and_false]
  exact Bool.false_ne_true
 refine call_meets F.slot_list_extend ⟨_,e,rfl⟩ F.entry_list_extend (F.args_list_extend_2 _ _)
  (AutoSeq1.list_extend_list_list_0 l its.toArray n b its2.toArray n2 hlong (by rw [List.size_toArray];omega) (by omega)) ⟨e,e2,?_⟩
 refine ⟨.non,_,I.lset (its':=its ++ its2) hH e (by simp) (r.append r2) ?_,rfl,q⟩
 rw [List.length_append]
 omega

noncomputable def rPop:V→List V→Hp→VK→Prop:=fun x vs H Q=>∃ l xs y,x = .ref l∧vs = []∧H l = some (.lst xs)∧xs[xs.length - 1]? = some y∧Q y (upd H l (.lst xs.dropLast))
theorem mt_pop:MtM X "list.pop" rPop:=by
 intro pins s σ H x vs v us Q I rx rv h
 obtain ⟨l,xs,y,rfl,rfl,hH,hy,q⟩:=h
 cases rx
 have hus:=rv.zero
 subst hus
 obtain ⟨z,its,n,r,hl,e⟩:=I.lstM hH
 obtain ⟨u,hu,ru⟩:=r.get hy
 have hy':its.toArray[its.toArray.size - 1]? = some u:=by
  show its.toArray[its.length - 1]? = some u
  rw [← Array.getElem?_toList,← hl]
  exact hu
 refine call_meets F.slot_list_pop ⟨_,e,rfl⟩ F.entry_list_pop (F.args_list_pop_1 _) (MeetsSeq.list_pop_last l its.toArray n u hy' (by rw [List.size_toArray];omega)) ⟨e,?_⟩
 refine ⟨y,_,I.lset (its':=its.dropLast) hH e ?_ r.dropLast ?_,ru,q⟩
 ·show its.toArray.eraseIdxIfInBounds (its.toArray.size - 1) = its.dropLast.toArray
  rw [List.size_toArray,List.eraseIdxIfInBounds_toArray,erase_last]
 ·rw [List.length_dropLast]
  omega

noncomputable def rPopAt:V→List V→Hp→VK→Prop:=fun x vs H Q=>∃ l xs i k y,x = .ref l∧vs = [.int i]∧H l = some (.lst xs)∧-(2 ^ 63)≤i∧i < 2 ^ 63∧seqIndex? i xs.length = some k∧xs[k]? = some y∧Q y (upd H l (.lst (xs.eraseIdx k)))
theorem mt_popAt:MtM X "list.pop" rPopAt:=by
 intro pins s σ H x vs v us Q I rx rv h
 obtain ⟨l,xs,i,k,y,rfl,rfl,hH,h1,h2,hk,hy,q⟩:=h
 cases rx
 obtain ⟨u,rfl,ru⟩:=rv.one
 obtain ⟨t,rfl⟩:=ru
 obtain ⟨z,its,n,r,hl,e⟩:=I.lstM hH
 obtain ⟨w,hw,rw'⟩:=r.get hy
 refine call_meets F.slot_list_pop ⟨_,e,rfl⟩ F.entry_list_pop (F.args_list_pop_2 _ _)
  (MeetsSeq.list_pop_at l its.toArray n i t k w (fitsIndex_both h1 h2) (by rw [List.size_toArray,← hl];exact hk) (by rw [← Array.getElem?_toList];exact hw) (by rw [List.size_toArray];omega)) ⟨e,?_⟩
 refine ⟨y,_,I.lset (its':=its.eraseIdx k) hH e ?_ (r.eraseIdx k) ?_,rw',q⟩
 ·show its.toArray.eraseIdxIfInBounds k = (its.eraseIdx k).toArray
  rw [List.eraseIdxIfInBounds_toArray]
 ·have:=len_erase xs k
  omega

end

section
variable {prog:Program} {w:World} {A:Around} {E:Value→Shared→Prop} {s:Shared}
theorem splice_eq (its its2 : List Value) (a c : Nat) : its.toArray.extract 0 a ++ its2.toArray ++ its.toArray.extract c its.toArray.size = (its.take a ++ its2 ++ its.drop c).toArray := by
  apply Array.toList_inj.mp
  first
    | (simp
       exact List.take_of_length_le (by simp))
    | simp [List.take_of_length_le]
    | simp
end

end L2

namespace Att
open PySem PySem.W PySem.Calls PyProof.Rows

theorem ints_of_wellAll {P:Params} {h:Heap}:∀ (ns:List Int) (vs:List Value),WellAll P h vs (ns.map WData.int)→IntsAre vs ns:=by
 intro ns
 induction ns with
 | nil =>
  intro vs w
  rw [List.map_nil] at w
  cases w
  exact .nil
 | cons n ns ih =>
  intro vs w
  rw [List.map_cons] at w
  cases w with
  | cons a b =>
   cases a
   exact .cons _ _ (ih _ b)

theorem script_of {l:OpenLaw} {n:Nat} (hn:l.most = some n) {P:Params} {h:Heap} {args:List WData} {vals:List Value}
  (hpre:l.row.toRowW.claim.pre args = true) (hwl:WellAll P h vals args) :
  ∃ a vs ns,vals = [Value.ref a]∧args = [WData.list (ns.map WData.int)]∧h.get? a = some { cls:=.type "list",data:=.seq vs.toArray }∧IntsAre vs ns∧ns.length≤n:=by
 have hsh:WShape.hasAll [] args [.list .int] = true:=(pre_splitW hpre).1
 have hc:l.pre.holds [] { args:=args } = true:=(pre_splitW hpre).2
 obtain ⟨d,r,rfl,h1,h2⟩:=hasAllW_cons hsh
 obtain rfl:=hasAllW_nil h2
 obtain ⟨xs,rfl,h3⟩:=hasW_list h1
 obtain ⟨ns,rfl⟩:=items_int h3
 have hlen:ns.length≤n:=by
  unfold OpenLaw.pre at hc
  have h4:(WTm.not (.lt (.lit (.int (n:Int))) (.len (.arg 0)))).holds [] { args:=[.list (ns.map .int)] } = true:=by
   have h4:=(holds_andW hc).1
   rw [hn] at h4
   exact h4
  have h5:=condW_of h4 (w_not (w_lt w_lit (w_len_list (w_arg rfl))))
  rw [List.length_map] at h5
  refine Nat.le_of_not_lt fun q=>?_
  have q':(n:Int) < ((ns.length:Nat):Int):=by omega
  first
   | (rw [decide_eq_true q'] at h5;exact absurd h5 (by decide))
   | (simp at h5;omega)
 cases hwl with
 | cons w1 w2 =>
  cases w2
  cases w1 with
  | list ho hall=>exact ⟨_,_,ns,rfl,rfl,ho,ints_of_wellAll ns _ hall,hlen⟩

theorem post_true (l:OpenLaw) (args:List WData):l.row.toRowW.claim.post args (.bool true) args = true :=
 postW_of (r:=l.row.toRowW) (X:=(true == true))
  (show WShape.has [] (.bool true) .bool = true by first | rfl | decide | simp [WShape.has,WShape.arms,WShape.armsAll])
  (show (WTm.eq .res (.lit (.bool true))).value [] { args:=args,res:=some (.bool true),after:=args } = some (.bool (true == true)) from w_eq_bool (w_res rfl) w_lit) rfl

theorem attach_call {l:OpenLaw} {n:Nat} {q:Program} {loose:List Str} {XP:(Str→Option Value)→Heap→Prop} {YP:World→Heap→Prop} {d:DefRec}
  (hn:l.most = some n) (hdf:d.params.defaults = [])
  (call:∀ (w:World) (s₀ s₁:Shared) (mg mb:Str→Option Value) (fa:Addr) (o:Obj) (pm cd doc:Value) (a:Addr) (vs:List Value) (ns:List Int),
   Ground q loose [] XP w s₀ mg mb s₁.heap→YP w s₁.heap →
   s₁.heap.get? fa = some o→o.data = .func (docDef d.name d.params d.body d.scope pm cd doc)→s₁.heap.CodeRec cd d.name→mg d.name = some (.ref fa) →
   s₁.heap.get? a = some { cls:=.type "list",data:=.seq vs.toArray }→IntsAre vs ns→ns.length≤n→s₁.gens = #[] →
   codeAny (model l.prog w) callerA (.call (.ref fa) ⟨[.ref a],[]⟩) (fun r s'=>r = .ok (.ret (.bool true))∧OldK s₁.heap s'.heap∧s'.os = s₁.os∧AllBare s'.gens) s₁) :
  WalkO q loose XP YP l.row.toRowW d [] (fun f vs=>PySem.call f vs):=by
 intro w s₀ s₁ mg mb G Y fa o pm cd doc dV kV ho hd hcd hD hmg hg args vals as hpre hlay hrd hwl hlo
 obtain rfl:dV = .none:=Dflts.none hD hdf
 obtain rfl:kV = .none:=Dflts.noKw hD
 obtain ⟨a,vs,ns,rfl,rfl,hobj,hints,hlen⟩:=script_of hn hpre hwl
 refine enter_call (codeAny_mono (call w s₀ s₁ mg mb fa o pm cd doc a vs ns G Y ho (fd_plain hd) hcd hmg hobj hints hlen hg) fun r s' hq=>?_)
 obtain ⟨rfl,h2,h3,h4⟩:=hq
 exact ⟨.inl ⟨.bool true,.bool true,[],rfl,fun _=>rfl,.bool true,post_true l _,fun _=>⟨List.Pairwise.nil,fun _ hm=>(nomatch hm)⟩⟩,h2,h3,h4⟩

end Att

namespace L2
open PySem PySem.Spec PyProof.Rows

theorem vals_ints:∀ {vs:List Value} {ns:List Int},IntsAre vs ns→Vals (ns.map V.int) vs
 | _,_,.nil=>.nil
 | _,_,.cons n t h=>.cons ⟨t,rfl⟩ (vals_ints h)

noncomputable def Only (H:Hp):Prop:=∀ b,H b = none∨∃ o xs,H b = some (.frz o (.lst xs))

theorem law_call {P:Program} {w:World} {K:PySem.W.Frag} {mg mb:Str→Option Value} {CX:CXT} {k:Nat} {fa a:Addr} {fd:FuncData} {x:Str} {sp:Sp} {s₁:Shared} {vs:List Value} {ns:List Int}
  (KX:K.In s₁.heap) (hns:s₁.heap.Ns mainGlobals mg) (hb:s₁.heap.Ns builtinsNs mb) (hbb:∀ x:Str,x≠"__name__"→mb x = bootBuiltins x) (hlim:s₁.heap.NoLimit) (hg:s₁.gens = #[])
  (ha:s₁.heap.get? a = some { cls:=.type "list",data:=.seq vs.toArray }) (hi:IntsAre vs ns) (hl:ns.length≤sizeLine) (hr:Room k callerA)
  (F:∀ base:Heap,K.In base→base.Ns mainGlobals mg→FnOk P w K mg base CX k fa fd [x] sp) (hbind:∀ (s:Shared) (u:Value),BindsTo s fd ⟨[u],[]⟩ [(x,u)])
  (hsp:∀ H:Hp,Only H→SqL K H a (ns.map V.int)→sp [.ref a] H (fun v _=>v = .bl true) fun _ _ _=>False)
  (hCX:∀ H e s',CX [] H s₁ (fun _ _ _=>False) e s'→False) :
  codeAny (model P w) callerA (.call (.ref fa) ⟨[.ref a],[]⟩) (fun r s'=>r = .ok (.ret (.bool true))∧OldK s₁.heap s'.heap∧s'.os = s₁.os∧AllBare s'.gens) s₁:=by
 have rv:=vals_ints hi
 have lenV:=hi.length
 have core:∀ H:Hp,Only H→SqL K H a (ns.map V.int)→HOk P w H s₁.heap→(∀ b,H b≠none→b = a)→(H a≠none→K.lookup a = none) →
   codeAny (model P w) callerA (.call (.ref fa) ⟨[.ref a],[]⟩) (fun r s'=>r = .ok (.ret (.bool true))∧OldK s₁.heap s'.heap∧s'.os = s₁.os∧AllBare s'.gens) s₁:=by
  intro H hO hS hok hA hK
  have base_of:∀ {b:Addr} {o:Obj},s₁.heap.get? b = some o→H b = none→(hidT s₁.heap H).get? b = some o:=fun e n=>hidT_get e n
  have noA:∀ {b:Addr} {o:Obj} {es:Array DictEntry} {ep:Nat},s₁.heap.get? b = some o→o.data = .dict es ep→H b = none:=fun {b o es ep} e d=>by
   cases q:H b with
   | none=>rfl
   | some u =>
    have e':b = a:=hA b (by rw [q];simp)
    subst e'
    rw [ha] at e;cases e
    have d':Data.seq vs.toArray _ = Data.dict es ep:=d
    cases d'
  have nsK:∀ {b:Addr} {m:Str→Option Value},s₁.heap.Ns b m→(hidT s₁.heap H).Ns b m:=fun {b m} ⟨o,es,ep,e,d,r⟩=>⟨o,es,ep,base_of e (noA e d),d,r⟩
  have hKb:K.In (hidT s₁.heap H):=fun b o e=>base_of (KX b o e) (by
   cases q:H b with
   | none=>rfl
   | some u =>
    have e':b = a:=hA b (by rw [q];simp)
    subst e'
    rw [hK (by rw [q];simp)] at e;cases e)
  have hM:Mod K mg (hidT s₁.heap H):=⟨hKb,nsK hns,⟨mb,nsK hb,hbb⟩,let ⟨mc,h1,h2⟩:=hlim;⟨mc,nsK h1,h2⟩⟩
  have e0:Env0 P w K mg (hidT s₁.heap H) callerA [] s₁ H:=⟨rfl,hM,fun b o e=>of_hidT e,Nat.le_of_eq (hidT_size _ _),trivial,fun b hb=>absurd (show b∈([]:List Addr) from hb) (by simp),hok,.of_eq hg⟩
  refine codeAny_mono ((F _ hKb (nsK hns)).run callerA [] s₁ H ⟨[.ref a],[]⟩ [.ref a] [.ref a] _ _ hr e0 (hbind s₁ (.ref a)) (.cons rfl .nil) (hsp H hO hS)) fun r s' h=>?_
  cases r with
  | error e=>exact (hCX H e s' h).elim
  | ok fl =>
   cases fl with
   | next=>exact False.elim h
   | brk=>exact False.elim h
   | cont=>exact False.elim h
   | ret u =>
    obtain ⟨v,H',os,bare,un,hok',r',q⟩:=h
    have q':v = .bl true:=q
    subst q'
    obtain rfl:u = Value.bool true:=r'
    refine ⟨rfl,OldK.of_keep fun b o e=>?_,os,bare⟩
    cases q:H b with
    | none=>exact un.keep b o e q (by intro z;exact absurd (show b∈([]:List Addr) from z) (by simp)) (by simp)
    | some u =>
     rcases hO b with z | ⟨ob,xs,z⟩
     ·rw [q] at z;cases z
     ·have z2:=un.frzs b ob _ z
      obtain ⟨e1,_⟩:=hok b _ z
      obtain ⟨e2,_⟩:=hok' b _ z2
      rw [e] at e1;cases e1
      exact e2
 cases hk:K.lookup a with
 | some o =>
  have e:=KX a o hk
  rw [ha] at e
  cases e
  refine core (fun _=>none) (fun _=>.inl rfl) (.inr ⟨_,vs.toArray,_,hk,rfl,rfl,rfl,by rw [List.size_toArray,lenV];exact hl,by simpa using rv⟩) (fun b u z=>by have z':(none:Option HO) = some u:=z;cases z') (fun b z=>absurd rfl z) fun z=>absurd rfl z
 | none =>
  refine core (fun b=>if b = a then some (.frz { cls:=.type "list",data:=.seq vs.toArray } (.lst (ns.map V.int))) else none) (fun b=>?_) (.inl (.inr ⟨{ cls:=.type "list",data:=.seq vs.toArray },if_pos rfl⟩)) (fun b u z=>?_) (fun b z=>?_) fun _=>hk
  ·by_cases hb:b = a
   ·exact .inr ⟨_,_,if_pos hb⟩
   ·exact .inl (if_neg hb)
  ·by_cases hb:b = a
   ·have z':=(if_pos hb).symm.trans z
    cases z'
    subst hb
    exact ⟨ha,by rw [List.length_map];exact hl,vs,_,rv,ha⟩
   ·have z':=(if_neg hb).symm.trans z
    cases z'
  ·by_cases hb:b = a
   ·exact hb
   ·exact absurd (if_neg hb) z
end L2

namespace L2
open PySem PySem.Spec PyProof.Rows

theorem walk_of {l:PySem.W.OpenLaw} {n k:Nat} {q:Program} {loose:List Str} {XP:(Str→Option Value)→Heap→Prop} {YP:World→Heap→Prop} {d:DefRec} {K:Params→PySem.W.Frag} {CX:World→CXT} {sp:World→Sp} {x:Str}
  (hn:l.most = some n) (hn2:n≤sizeLine) (hdf:d.params.defaults = []) (hr:Room k callerA)
  (hY:∀ (w:World) (h:Heap),YP w h→(K w.params).In h)
  (F:∀ (w:World) (mg:Str→Option Value) (fa:Addr) (h:Heap),(K w.params).In h→h.Ns mainGlobals mg→mg d.name = some (.ref fa) →
   ∃ fd:FuncData,(∀ (s:Shared) (u:Value),BindsTo s fd ⟨[u],[]⟩ [(x,u)]) ∧
    ∀ base:Heap,(K w.params).In base→base.Ns mainGlobals mg→FnOk l.prog w (K w.params) mg base (CX w) k fa fd [x] (sp w))
  (hsp:∀ (w:World) (H:Hp) (a:Addr) (ns:List Int),ns.length≤n→Only H→SqL (K w.params) H a (ns.map V.int)→sp w [.ref a] H (fun v _=>v = .bl true) fun _ _ _=>False)
  (hCX:∀ (w:World) (H:Hp) (s:Shared) (e:Value) (s':Shared),CX w [] H s (fun _ _ _=>False) e s'→False) :
  PySem.W.WalkO q loose XP YP l.row.toRowW d [] (fun f vs=>PySem.call f vs):=by
 refine Att.attach_call hn hdf fun w s₀ s₁ mg mb fa o pm cd doc a vs ns G Y ho hd hcd hmg hobj hints hlen hg=>?_
 have KX:=hY w _ Y
 obtain ⟨fd,hb,hF⟩:=F w mg fa _ KX G.T.g hmg
 exact law_call KX G.T.g G.T.b G.T.builtins G.T.nolimit hg hobj hints (Nat.le_trans hlen hn2) hr hF hb (fun H hO hS=>hsp w H a ns hlen hO hS) fun H e s'=>hCX w H s₁ e s'
end L2

/- THE LAST THEOREM (shape; LID, My.* are yours):
   My.Adr: a structure of the addresses that your layer names (classes, functions); My.Txt K t: a structure (Prop) of the equations over K;
   My.txt_mk : {K} {implicit addresses ..} (e1 : nsIn K mainGlobals "law" = some (some (.ref f))) (e2 : K.lookup f = some ⟨oc, od, .func (fnOf "law" "law" params body scope dV kV doc pm an cdv ct), sl⟩) (e3 : codeIn K cdv "law" = true) .. : ∃ t, My.Txt K t

set_option maxRecDepth 100000 in
set_option maxHeartbeats 0 in
theorem PySem.Challenge.cw_LID_holds : PySem.Challenge.rw_LID.Holds := by
 w_on;o_law;k_head;(case hw=>w_witness2)
 k_fill
 refine L2.walk_of (l:=PySem.Challenge.rw_LID) (n:=63) (k:=40) (x:="script") (CX:=fun w=>..) (sp:=fun _=>My.sp_law) rfl (by decide) rfl ⟨rfl,by decide,by decide⟩ (fun w h Y=>PySem.W.kIn_of Y) ?F ?S ?C
 case F =>
  intro w mg fa h KX G hmg
  have T:∃ t,My.Txt (L2.KOf KX) t:=by
   dsimp only [L2.KOf]                          -- K must stand as «<heap const> w.params» for k_is
   refine' My.txt_mk ?e1 ?e2 ?e3 ..
   (case e1 => PySem.W.k_is)                    -- in the order: a name -> its address -> its object -> its parts
   (case e2=>PySem.W.k_is)
   ..
  obtain ⟨t,T⟩:=T
  have e0:=hmg.symm.trans (PySem.W.mg_of KX G T.law)
  cases e0                                       -- fa is the law's own address
  exact ⟨_, fun s u => .of_eq rfl, fun base kb nb => My.law_fn T kb nb⟩     -- if «.of_eq rfl» comes too early: refine' ⟨_, ?b, fun base kb nb => My.law_fn T kb nb⟩; exact fun s u => .of_eq rfl
 case S=>exact fun w H a ns hl hO hS=>..
 case C=>exact ..
(the tactic k_is has no namespace: write k_is) -/

namespace L2
open PySem PySem.Spec PyProof.Rows

noncomputable def defArgs (s:Stmt):Arguments:=match s with
 | .FunctionDef _ a _ _ _ _ _ _ _ _=>a
 | _=>{ posonlyargs:=[],args:=[],vararg:=none,kwonlyargs:=[],kw_defaults:=[],kwarg:=none,defaults:=[] }
noncomputable def defBody (s:Stmt):List Stmt:=match s with
 | .FunctionDef _ _ b _ _ _ _ _ _ _=>b
 | _=>[]
noncomputable def defScope (s:Stmt):Scope:=match s with
 | .FunctionDef _ _ _ _ _ _ sc _ _ _=>sc
 | _=>{ kind:=.function,names:=[],isGenerator:=false,isCoroutine:=false }

noncomputable abbrev CX0:CXT:=fun _ _ _ _ _ _=>False
noncomputable abbrev E0:XK:=fun _ _ _=>False
theorem pass0 {X:Cx}:Passes CX0 X E0:=fun _ _ _ _ _ _ _ h=>h.elim

structure Fun (K:PySem.W.Frag) (x qual:Str) (st:Stmt) (f:Addr) (fd:FuncData):Prop where
 ex:∃ (oc:Value) (od:Option Addr) (kV doc pm:Value) (an:Option Addr) (cdv ct:Value) (osl:Array (Option Value)),
  fd = PySem.W.fnOf x qual (defArgs st) (defBody st) (defScope st) .none kV doc pm an cdv ct∧K.lookup f = some ⟨oc,od,.func fd,osl⟩∧PySem.W.codeIn K cdv qual = true
 kp:PySem.W.keepIn K (.ref f) = true
section
variable {P:Program} {w:World} {K:PySem.W.Frag} {mg:Str→Option Value} {base:Heap}
theorem Fun.ok {x qual:Str} {st:Stmt} {f:Addr} {fd:FuncData} {N ps:List Str} {k:Nat} {sp:Sp} (F:Fun K x qual st f fd) (S:FnScope N ps (defScope st)) (len:∀ vs H Q E,sp vs H Q E→vs.length = ps.length)
  (hbody:∀ (cdv:Value) (A:Around) (outer:List Env) (s:Shared) (H:Hp) (vs:List V) (Q:VK) (E:XK),Room k (A.deeper (envOfC qual (defScope st) s.heap.objs.size f cdv))→sp vs H Q E →
   ∃ t,PSs (cxOf CX0 P w K mg base N qual (defScope st) f cdv A outer s H E).nox (defBody st) t∧t { nx:=fun _ H'=>Q .non H',rt:=Q } (start N vs) H):FnOk P w K mg base CX0 (k + 1) f fd ps sp:=by
 obtain ⟨oc,od,kV,doc,pm,an,cdv,ct,osl,rfl,lk,hcd⟩:=F.ex
 refine fn_of lk hcd S len fun A outer s H vs Q E hr hsp=>?_
 obtain ⟨t,h,q⟩:=hbody cdv A outer s H vs Q E hr hsp
 exact ⟨t,h.nox,q⟩
theorem Fun.binds {x qual:Str} {st:Stmt} {f:Addr} {fd:FuncData} {ps:List Str} (F:Fun K x qual st f fd)
  (h:∀ (kV doc pm:Value) (an:Option Addr) (cdv ct:Value) (us:List Value),us.length = ps.length→bindArgs (PySem.W.fnOf x qual (defArgs st) (defBody st) (defScope st) .none kV doc pm an cdv ct) ⟨us,[]⟩ = pure (ps.zip us)):Binds K fd ps []:=by
 obtain ⟨oc,od,kV,doc,pm,an,cdv,ct,osl,rfl,lk,hcd⟩:=F.ex
 exact .all (h kV doc pm an cdv ct)
theorem fun_mk {x qual : Str} {st : Stmt} {f : Addr} {oc : Value} {od an : Option Addr} {osl : Array (Option Value)} {kV doc pm cdv ct : Value} (l : K.lookup f = some ⟨oc, od, .func (PySem.W.fnOf x qual (defArgs st) (defBody st) (defScope st) .none kV doc pm an cdv ct), osl⟩)
    (c : PySem.W.codeIn K cdv qual = true) (k : PySem.W.keepIn K (.ref f) = true) : Fun K x qual st f (PySem.W.fnOf x qual (defArgs st) (defBody st) (defScope st) .none kV doc pm an cdv ct) := ⟨⟨oc, od, kV, doc, pm, an, cdv, ct, osl, rfl, l, c⟩, k⟩
end
theorem hu_of {A:Around} {k:Nat} (hr:Room k A):A.units + 1 < cLine:=Nat.lt_of_le_of_lt (Nat.add_le_add_left (by decide:1≤64) _) hr.units
theorem small1000 {n:Nat} (h:n≤1000):n < sizeLine:=Nat.lt_of_le_of_lt h (by decide)

section
variable {X:Cx}
theorem pv (i : Nat) {x : Str} {pos : Pos} (hN : X.N[i]? = some x := by rfl) (hv : Vis X.env.scope x := by first | exact Or.inl rfl | exact Or.inr (Or.inl rfl) | exact Or.inr (Or.inr rfl)) (hd : (x == ("__debug__" : Str)) = false := by decide)
    (hcd : (x == ("__classdict__" : Str)) = false := by decide) : PE X (.Name x pos) (tVar i) := pe_var hN hv hd hcd
end

theorem iteF {A B:Prop} (h:B):if false = true then A else B:=by
 rw [if_neg Bool.false_ne_true]
 exact h
theorem iteT {A B:Prop} (h:A):if true = true then A else B:=by
 rw [if_pos rfl]
 exact h
theorem ite2 {c A B:Prop} [Decidable c] (h1:c→A) (h2:¬ c→B):if c then A else B:=by
 by_cases h:c
 ·rw [if_pos h]
  exact h1 h
 ·rw [if_neg h]
  exact h2 h
theorem iteNS {c A B:Prop} [Decidable c] (hc:c) (h:B):if (!decide c) = true then A else B:=by
 rw [decide_eq_true hc]
 exact iteF h

noncomputable def Same (H H':Hp):Prop:=∀ b o,H b = some o→H' b = some o
theorem Same.refl (H:Hp):Same H H:=fun _ _ h=>h
theorem Same.trans {H H1 H2:Hp} (a:Same H H1) (b:Same H1 H2):Same H H2:=fun c o h=>b c o (a c o h)
theorem Same.free {H H':Hp} (e:Same H H') {l:Addr} (h:H' l = Option.none):H l = Option.none:=by
 cases q:H l with
 | none=>rfl
 | some o =>
  rw [e l o q] at h
  cases h
theorem Same.seq {K:PySem.W.Frag} {H H':Hp} {a:Addr} {xs:List V} (e:Same H H') (h:SqL K H a xs):SqL K H' a xs:=by
 rcases h with (h | ⟨o,h⟩) | h
 ·exact .inl (.inl (e _ _ h))
 ·exact .inl (.inr ⟨o,e _ _ h⟩)
 ·exact .inr h

end L2



namespace L2
open PySem PySem.Spec PyProof.Rows

theorem quietX {α:Type} {t:Sem α} {Q Q':α→Shared→Prop} {M:Model} {A:Around} {E:Value→Shared→Prop} {s:Shared} (h:wpAny M A t Q (fun _ _=>False) s) (hQ:∀ a s,Q a s→Q' a s):wpAny M A t Q' E s :=
 wpAny_mono h hQ fun _ _ z=>z.elim
theorem vals_of_get:∀ {xs:List V} {us:List Value},xs.length = us.length→(∀ (i:Nat) (x:V) (u:Value),xs[i]? = some x→us[i]? = some u→RelV x u)→Vals xs us
 | [],[],_,_=>.nil
 | [],_ :: _,h,_=>by simp at h
 | _ :: _,[],h,_=>by simp at h
 | x :: xs,u :: us,h,f=>.cons (f 0 x u rfl rfl) (vals_of_get (by simpa using h) fun i y w e1 e2=>f (i + 1) y w (by simpa using e1) (by simpa using e2))

noncomputable def cxComp (X:Cx) (scope:Scope) (cl:List (Str×Addr)) (NC:List Str) (fp:List Addr) (C:Addr) (s₀:Shared) (H₀:Hp):Cx where
 prog:=X.prog
 w:=X.w
 K:=X.K
 mg:=X.mg
 base:=X.base
 A:=X.A
 N:=NC
 s₀:=s₀
 H₀:=H₀
 env:=compEnvC scope cl C X.env
 outer:=X.stack
 stack:=X.stack
 ex:=fp
 fn:=fun _=>false
 calm:=X.calm
 pn:=[]
 xe:=fun _ _=>False
structure CompOk (X:Cx) (scope:Scope) (cl:List (Str×Addr)) (NC:List Str) (ini:List (Option Nat)):Prop where
 clos:closureFor scope X.env = pure cl
 cell:∀ y∈scope.names,y.2≠.cell
 kind:scope.kind = .function
 names:∀ y∈scope.names,y.2 = .local→scope.names.lookup y.1 = some .local
 cls:∀ x c,cl.lookup x = some c→X.env.cells.lookup x = some c
 has:∀ x,((relabel scope X.env).names.lookup x = some .cell∨(relabel scope X.env).names.lookup x = some .free)→∃ c,cl.lookup x = some c
 len:ini.length = NC.length
 src:∀ (i j:Nat) (x:Str),ini[i]? = some (some j)→NC[i]? = some x→X.N[j]? = some x∧(X.env.kindOf x = some .cell∨X.env.kindOf x = some .free) ∧
  ((relabel scope X.env).names.lookup x = some .cell∨(relabel scope X.env).names.lookup x = some .free)
noncomputable def iniSt (ini:List (Option Nat)) (σ:St):St:=ini.map fun o=>o.bind fun j=>(σ[j]?).join
section
variable {X:Cx} {scope:Scope} {cl:List (Str×Addr)} {NC:List Str} {ini:List (Option Nat)} {pins:List (Addr×Obj)} {σ:St} {H:Hp} {s:Shared} {fp:List Addr}
theorem inv_comp {h₁:Heap} {tk:Nat} {m:Str→Option Value} (O:CompOk X scope cl NC ini) (I:Inv X pins σ H s) (hf:∀ b∈fp,FpOk X pins H b) (ho:∀ b∈fp,∃ o,s.heap.get? b = some o)
  (hn:h₁.Ns s.heap.objs.size m) (hk:∀ b o,s.heap.get? b = some o→h₁.get? b = some o) :
  Inv (cxComp X scope cl NC fp s.heap.objs.size s H) [] (iniSt ini σ) H { s with heap:=h₁,toks:=tk }:=by
 have lt:∀ b∈fp,b < s.heap.objs.size:=fun b hb=>let ⟨o,e⟩:=ho b hb;Heap.lt_size e
 refine ⟨⟨I.ok.mod,O.kind,I.ok.glob,I.ok.blt,Nat.le_refl _,fun x y c h1 h2=>I.ok.inj x y c (O.cls x c h1) (O.cls y c h2),O.has,fun x c h=>(Bool.false_ne_true h).elim,I.ok.hd,I.ok.frames,.inl rfl,
   fun b hb=>⟨Nat.ne_of_lt (lt b hb),fun x c h=>(hf b hb).2.2.2.2.1 x c (O.cls x c h)⟩,I.bs,Nat.le_trans I.ok.bsz I.sz,fun b o e hb=>?_,fun b hb hs=>?_,I.stack,I.stkFree⟩,
  rfl,I.bare,Un.kept hk,⟨m,hn,fun i x v e1 e2 e3=>?_⟩,fun x c h=>?_,I.hok.fresh (Nat.le_refl _),fun x c h=>I.freeC x c (O.cls x c h),fun p hp=>absurd (show p∈([]:List (Addr×Obj)) from hp) (by simp),I.hok.kept hk,?_⟩
 ·rcases (hf b hb).2.2.2.1 with z | z
  ·exact I.ok.noex b o e z
  ·exact absurd (Nat.lt_of_lt_of_le (Heap.lt_size e) (Nat.le_trans I.ok.bsz z)) (Nat.lt_irrefl _)
 ·rcases List.mem_cons.mp (I.stkSub b hs) with e | e
  ·exact (hf b hb).2.1 e
  ·exact (hf b hb).2.2.1 e
 ·have e2:(ini.map fun o=>o.bind fun j=>(σ[j]?).join)[i]? = some (some v):=e2
  rw [List.getElem?_map] at e2
  cases q:ini[i]? with
  | none=>rw [q] at e2;cases e2
  | some oj =>
   rw [q] at e2
   cases oj with
   | none=>cases e2
   | some j =>
    have e4:(σ[j]?).join = some v:=Option.some.inj e2
    have e5:σ[j]? = some (some v):=by
     cases z:σ[j]? with
     | none=>rw [z] at e4;cases e4
     | some y =>
      rw [z] at e4
      have e4:y = some v:=e4
      rw [e4]
    obtain ⟨a1,a2,a3⟩:=O.src i j x q e1
    obtain ⟨m0,hn0,hl⟩:=I.loc
    obtain ⟨u,r,l⟩:=hl j x v a1 e5 (.inr a2)
    refine ⟨u,r,?_⟩
    rcases l with ⟨k,_⟩ | ⟨_,c,e,z⟩
    ·rcases a2 with a2 | a2
     ·rw [k] at a2;cases a2
     ·rw [k] at a2;cases a2
    ·obtain ⟨c',e'⟩:=O.has x a3
     have e6:=O.cls x c' e'
     rw [e] at e6
     cases e6
     obtain ⟨oc,h1,h2⟩:=z
     exact .inr ⟨a3,c,e',oc,hk _ _ h1,h2⟩
 ·obtain ⟨v,oc,h1,h2⟩:=I.cell x c (O.cls x c h)
  exact ⟨v,oc,hk _ _ h1,h2⟩
 ·show (ini.map _).length = NC.length
  rw [List.length_map]
  exact O.len
theorem comp_back {pinsC:List (Addr×Obj)} {σ':St} {H':Hp} {s':Shared} {h':Heap} (I:Inv X pins σ H s) (hf:∀ b∈fp,FpOk X pins H b) (J:Inv (cxComp X scope cl NC fp s.heap.objs.size s H) pinsC σ' H' s')
  (hs:Heap.SameBut s.heap.objs.size s'.heap h'):Inv X pins σ H' { s' with heap:=h' }:=by
 have ne:∀ {b:Addr} {o:Obj},s.heap.get? b = some o→b≠s.heap.objs.size:=fun e=>Nat.ne_of_lt (Heap.lt_size e)
 have hfree:H' s.heap.objs.size = none:=J.free
 have B:Un (frs X.stack) fp H H' s.heap s'.heap:=J.base
 refine I.call' (s':={ s' with heap:=h' }) (ch:=fp) J.os ⟨fun b o q n hb hx=>(hs.2 b (ne q)).trans (B.keep b o q n hb hx),fun b o q n hb hx=>?_,B.free,fun b o q hx=>?_,B.tups,B.frzs,B.tbls⟩ (fun b u e=>?_) J.bare
  fun b hb=>⟨(hf b hb).2.2.2.1,(hf b hb).2.1,(hf b hb).2.2.2.2.1,(hf b hb).2.2.2.2.2⟩
 ·obtain ⟨sl,e⟩:=B.slot b o q n hb hx
  exact ⟨sl,(hs.2 b (ne q)).trans e⟩
 ·obtain ⟨o',e⟩:=B.there b o q hx
  exact ⟨o',(hs.2 b (ne q)).trans e⟩
 ·refine (J.hok b u e).stay (fun c v hc q=>(hs.2 c ?_).trans q) (fun _ q=>q) fun _ _ q=>q
  rintro rfl
  rcases hc with hc | hc
  ·rw [← hc,hfree] at e;cases e
  ·rw [hfree] at hc;cases hc
end

noncomputable def PTs (X:Cx) (ifs:List Expr) (t:TT):Prop :=
 ∀ (pins:List (Addr×Obj)) (s:Shared) (σ:St) (H:Hp) (Q:Bool→Hp→Prop),Inv X pins σ H s→t σ H Q →
  wpAny (model X.prog X.w) X.A (forIn ifs true fun c r=>if r = true then do let ok ← isTrue c X.env (eval c X.env);pure (ForInStep.yield ok) else pure (ForInStep.yield r)) (TP X pins σ Q) X.xe s
noncomputable def tYes:TT:=fun _ H Q=>Q true H
theorem pts_nil {X:Cx}:PTs X [] tYes:=fun _ _ _ H _ I h=>wpAny_tests_nil ⟨H,I,h⟩
theorem pts_one {X:Cx} {c:Expr} {t:TT} (h:PT X c t):PTs X [c] t:=fun pins s σ H Q I hw=>wpAny_tests_one (h pins s σ H Q I hw)

noncomputable def CompW (J:It) (g:TG) (tt:TT) (te:TE) (D:Addr) (Q:VK) (σ₀:St) (H₀:Hp):Prop :=
 ∃ W:Nat→Nat→St→Hp→Prop,(∃ m,W 0 m σ₀ H₀)∧∀ i m σ' H',W i m σ' H' →
  (J.stop i H'∧Q (.ref D) H')∨(J.go i H'∧∃ N:St→Hp→Prop,(∀ σ2 H2,N σ2 H2→∃ m',m' < m∧W (i + 1) m' σ2 H2) ∧
   ∀ x H2,J.yld i H' x H2→g x σ' H2 fun σ3 H3=>tt σ3 H3 fun b H4=>if b = true then te σ3 H4 fun v H5=>∃ ys,H5 D = some (.lst ys)∧ys.length < sizeLine∧N σ3 (upd H5 D (.lst (ys ++ [v]))) else N σ3 H4)
noncomputable def tComp (wi:TI) (g:TG) (tt:TT) (te:TE) (ini:List (Option Nat)):TE:=fun σ H Q=>wi σ H fun J H1=>∀ D,H1 D = none→CompW J g tt te D Q (iniSt ini σ) (upd H1 D (.lst []))
theorem pe_comp {X:Cx} {elt iter tg:Expr} {ifs:List Expr} {scope:Scope} {pos:Pos} {cl:List (Str×Addr)} {NC:List Str} {ini:List (Option Nat)} {wi:TI} {g:TG} {tt:TT} {te:TE}
  (hc:X.calm = true) (O:CompOk X scope cl NC ini) (hi:PI X tg iter wi)
  (hg:∀ fp C s₀ H₀,PG (cxComp X scope cl NC fp C s₀ H₀) tg g) (ht:∀ fp C s₀ H₀,PTs (cxComp X scope cl NC fp C s₀ H₀) ifs tt) (he:∀ fp C s₀ H₀,PE (cxComp X scope cl NC fp C s₀ H₀) elt te)
  (hs:∀ x,foldedSetIterable iter X.env x = pure x:=by intro _;rfl):PE X (.ListComp elt [⟨tg,iter,ifs,0⟩] scope pos) (tComp wi g tt te ini):=by
 intro pins s σ H Q I h
 rw [eval_ListComp]
 refine wpAny_comprehension_free (use:=none) rfl hs O.clos O.kind O.names (thn (hi pins s σ H _ I h) fun v s1 h1=>thn h1 fun itv s2 h2=>?_)
 obtain ⟨it,fp,tn,J,H2,e,I2,T,st2,f2,h2⟩:=h2
 subst e
 have hD:H2 s2.heap.objs.size = none:=I2.hok.fresh (Nat.le_refl _)
 obtain ⟨W,⟨m0,w0⟩,turn⟩:=h2 _ hD
 refine wpAny_newObj_type (wpAny_newFunctionEnv O.cell (by intro y hy;simp at hy) (fun h₁ hns₁ hsb₁=>?_) O.kind)
 dsimp only at hns₁ hsb₁ ⊢
 have I3:Inv X pins σ (upd H2 s2.heap.objs.size (.lst [])) { s2 with heap:=s2.heap.push { cls:=.type "list",dict:=none,data:=.seq ([]:List Value).toArray } }:=I2.lnew (its:=[]) (t':=s2.toks) .nil (by decide)
 have ob2:∀ b∈fp,∃ o,s2.heap.get? b = some o:=fun b hb=>let ⟨o,e,_⟩:=T.obj 0 _ st2 b hb;⟨o,e⟩
 have neD:∀ b∈fp,b≠s2.heap.objs.size:=fun b hb=>let ⟨o,e⟩:=ob2 b hb;Nat.ne_of_lt (Heap.lt_size e)
 have f3:∀ b∈fp,FpOk X pins (upd H2 s2.heap.objs.size (.lst [])) b:=fun b hb=>⟨by rw [upd_ne (neD b hb)];exact (f2 b hb).1,(f2 b hb).2⟩
 generalize hs3:({ s2 with heap:=s2.heap.push { cls:=.type "list",dict:=none,data:=.seq ([]:List Value).toArray } }:Shared) = s3 at I3
 have hh3:s2.heap.push { cls:=.type "list",dict:=none,data:=.seq ([]:List Value).toArray } = s3.heap:=by rw [← hs3]
 have ob3:∀ b∈fp,∃ o,s3.heap.get? b = some o:=fun b hb=>let ⟨o,e⟩:=ob2 b hb;⟨o,by rw [← hh3];exact Heap.get?_push_of_some _ e⟩
 rw [hh3] at hns₁ hsb₁ ⊢
 have old:∀ b o,s3.heap.get? b = some o→h₁.get? b = some o:=fun b o e=>hsb₁.extBut b o (Nat.ne_of_lt (Heap.lt_size e)) (Heap.get?_push_of_some _ e)
 have st1:tn 0 h₁:=T.keep 0 _ _ st2 fun b hb o e=>old b o (by rw [← hh3];exact Heap.get?_push_of_some _ e)
 have IC:∀ tk,Inv (cxComp X scope cl NC fp s3.heap.objs.size s3 (upd H2 s2.heap.objs.size (.lst []))) [] (iniSt ini σ) (upd H2 s2.heap.objs.size (.lst [])) { s3 with heap:=h₁,toks:=tk }:=fun tk=>inv_comp O I3 f3 ob3 hns₁ old
 have stat:∀ {H':Hp},(∀ b∈fp,H' b = none)→∀ b∈fp,FpOk (cxComp X scope cl NC fp s3.heap.objs.size s3 (upd H2 s2.heap.objs.size (.lst []))) [] H' b:=fun {H'} hn b hb=>by
  obtain ⟨o,e⟩:=ob3 b hb
  refine ⟨hn b hb,Nat.ne_of_lt (Heap.lt_size e),fun z=>?_,.inl hb,fun x c hx=>(f3 b hb).2.2.2.2.1 x c (O.cls x c hx),fun p hp=>absurd (show p∈([]:List (Addr×Obj)) from hp) (by simp)⟩
  rcases List.mem_cons.mp (I3.stkSub b z) with q | q
  ·exact (f3 b hb).2.1 q
  ·exact (f3 b hb).2.2.1 q
 have loop:∀ s₃:Shared,s₃ = { s2 with heap:=h₁,toks:=s2.toks + ([]:List (Str×Value)).length } →
   codeAny (model X.prog X.w) X.A (.compLoop (.ListComp elt [⟨tg,iter,ifs,0⟩] scope pos) 0 (.ref it) (.ref s2.heap.objs.size) (compEnvC scope cl s3.heap.objs.size X.env))
    (compPost (model X.prog X.w) X.A X.xe none (EP X pins σ Q) (.ref s2.heap.objs.size) s3.heap.objs.size) s₃:=by
  rintro s₃ rfl
  refine codeAny_loop rfl (fun n s'=>∃ i σ' H',Inv (cxComp X scope cl NC fp s3.heap.objs.size s3 (upd H2 s2.heap.objs.size (.lst []))) [] σ' H' s'∧tn i s'.heap∧(∀ b∈fp,H' b = none)∧W i n σ' H') (fun n s' hI=>?_) m0
   ⟨0,_,_,by have z:=IC (s2.toks + ([]:List (Str×Value)).length);rw [← hs3] at z ⊢;exact z,st1,fun b hb=>(f3 b hb).1,w0⟩
  show wpAny _ X.A ((compTurn (.ListComp elt [⟨tg,iter,ifs,0⟩] scope pos) 0 (.ref it) (.ref s2.heap.objs.size) (compEnvC scope cl s3.heap.objs.size X.env)).onRaise (fun x=>do noteFrame x (compEnvC scope cl s3.heap.objs.size X.env);theTreesLotGoes x)) _ _ s'
  refine wpAny_noted ?_
  rw [compTurn_list]
  obtain ⟨i,σ3,H3,I3',st3,fr3,w3⟩:=hI
  rcases turn i n σ3 H3 w3 with ⟨stop,qn⟩ | ⟨go,N,hN,step⟩
  ·refine wpAny_bind (wpAny_standAt (wpAny_bind (thn (T.done (cxComp X scope cl NC fp s3.heap.objs.size s3 (upd H2 s2.heap.objs.size (.lst []))) rfl rfl rfl hc i [] s' σ3 H3 _ I3' (stat fr3) st3 stop) fun r s4 ⟨hr,I4⟩=>?_)))
   subst hr
   obtain ⟨m',hn',_⟩:=I4.loc
   exact wpAny_pure ⟨m',hn',fun h' hs'=>⟨.ref s2.heap.objs.size,H3,comp_back I3 f3 I4 hs',rfl,qn⟩⟩
  ·refine wpAny_bind (wpAny_standAt (wpAny_bind (thn (T.item (cxComp X scope cl NC fp s3.heap.objs.size s3 (upd H2 s2.heap.objs.size (.lst []))) rfl rfl rfl hc i [] s' σ3 H3 _ I3' (stat fr3) st3 go) fun r s4 ⟨u,hr,h4⟩=>?_)))
   subst hr
   refine wpAny_bind (thn h4 fun _ s5 ⟨x,H5,I5,r5,y5,st5,fr5⟩=>?_)
   have I5':=I5.pinned (stat fr5) (T.obj _ _ st5)
   refine wpAny_bind (quietX (hg fp _ s3 _ _ s5 σ3 H5 x u _ I5' r5 (step x H5 y5)) fun _ s6 ⟨σ6,H6,I6,q6⟩=>?_)
   have again:∀ {s7:Shared} {H7:Hp},Inv (cxComp X scope cl NC fp s3.heap.objs.size s3 (upd H2 s2.heap.objs.size (.lst []))) ([] ++ pinsAt fp s5.heap) σ6 H7 s7→N σ6 H7 →
     ∃ m,m < n∧∃ i σ' H',Inv (cxComp X scope cl NC fp s3.heap.objs.size s3 (upd H2 s2.heap.objs.size (.lst []))) [] σ' H' s7∧tn i s7.heap∧(∀ b∈fp,H' b = none)∧W i m σ' H':=fun {s7 H7} I7 n7=>by
    obtain ⟨m',hm,w7⟩:=hN σ6 H7 n7
    refine ⟨m',hm,i + 1,σ6,H7,I7.unpinned,T.keep _ _ _ st5 fun b hb o e=>(I7.pin (b,o) (List.mem_append_right _ (List.mem_append_right _ (mem_pinsAt hb e)))).1,fun b hb=>?_,w7⟩
    obtain ⟨o,e,d⟩:=T.obj _ _ st5 b hb
    exact (I7.pin (b,o) (List.mem_append_right _ (List.mem_append_right _ (mem_pinsAt hb e)))).2.1
   refine wpAny_bind (quietX (ht fp _ s3 _ _ s6 σ6 H6 _ I6 q6) fun ok s7 ⟨H7,I7,q7⟩=>?_)
   cases ok with
   | false=>exact wpAny_pure ⟨rfl,again I7 q7⟩
   | true =>
    refine wpAny_bind (wpAny_bind (quietX (he fp _ s3 _ _ s7 σ6 H7 _ I7 q7) fun u8 s8 ⟨v8,H8,I8,r8,ys,hy,hz,n8⟩=>?_))
    refine wpAny_bind (quietX (mt_append _ s8 σ6 H8 (.ref s2.heap.objs.size) [v8] (.ref s2.heap.objs.size) [u8] (fun _ H9=>N σ6 H9) I8 rfl (.cons r8 .nil) ⟨_,ys,v8,rfl,rfl,hy,hz,n8⟩) fun _ s9 ⟨_,H9,I9,_,n9⟩=>?_)
    exact wpAny_pure (wpAny_pure ⟨rfl,again I9 n9⟩)
 exact codeAny_compStart_list (loop _ rfl) (T.self _ 0 _ _ _ st1 (loop _ rfl))

theorem comp_list {K:PySem.W.Frag} {a:Addr} {xs:List V} {g:TG} {tt:TT} {te:TE} {D:Addr} {Q:VK} {σ₀:St} {H₀:Hp} (Pv:Nat→St→Hp→Prop) (h0:Pv 0 σ₀ H₀) (hl:∀ i σ H,i≤xs.length→Pv i σ H→SqL K H a xs)
  (hs:∀ i x σ H,xs[i]? = some x→Pv i σ H→g x σ H fun σ3 H3=>tt σ3 H3 fun b H4=>if b = true then te σ3 H4 fun v H5=>∃ ys,H5 D = some (.lst ys)∧ys.length < sizeLine∧Pv (i + 1) σ3 (upd H5 D (.lst (ys ++ [v]))) else Pv (i + 1) σ3 H4)
  (hd:∀ σ H,Pv xs.length σ H→Q (.ref D) H):CompW (Itl K a) g tt te D Q σ₀ H₀:=by
 refine ⟨fun i m σ H=>m = xs.length - i∧i≤xs.length∧Pv i σ H,⟨xs.length,by simp,Nat.zero_le _,h0⟩,?_⟩
 rintro i m σ H ⟨rfl,hi,p⟩
 have q:=hl i σ H hi p
 by_cases hlt:i < xs.length
 ·refine .inr ⟨⟨xs,xs[i],q,by simp [hlt]⟩,Pv (i + 1),fun σ' H' p'=>⟨xs.length - (i + 1),by omega,rfl,hlt,p'⟩,fun x H' y=>?_⟩
  obtain ⟨e,y⟩:=y
  subst e
  exact hs i x σ _ (y xs q) p
 ·have e:i = xs.length:=by omega
  subst e
  exact .inl ⟨⟨xs,q,Nat.le_refl _⟩,hd σ H p⟩
theorem compOk0 {X:Cx} {scope:Scope} {NC:List Str} (hkind:scope.kind = .function) (h:∀ y∈scope.names,y.2≠.cell∧y.2≠.free) (hn:∀ y∈scope.names,y.2 = .local→scope.names.lookup y.1 = some .local) :
  CompOk X scope [] NC (List.replicate NC.length none) where
 clos:=closureFor_none fun x hx=>(h x hx).2
 cell:=fun y hy=>(h y hy).1
 kind:=hkind
 names:=hn
 cls:=fun x c e=>by cases e
 has:=fun x e=>by
  exfalso
  have key:∀ k,(relabel scope X.env).names.lookup x = some k→k = .cell∨k = .free→False:=fun k e hk=>by
   have hm:=PySem.mem_of_lookup e
   obtain ⟨⟨n,k'⟩,hy,ey⟩:=List.mem_map.mp hm
   have h1:=h _ hy
   have hb:(k' == NameKind.free) = false:=by simpa using h1.2
   simp only [hb,Bool.false_and,Bool.false_eq_true,if_false,Prod.mk.injEq] at ey
   obtain ⟨_,rfl⟩:=ey
   rcases hk with hk | hk
   ·exact h1.1 hk
   ·exact h1.2 hk
  rcases e with e | e
  ·exact key _ e (.inl rfl)
  ·exact key _ e (.inr rfl)
 len:=by simp
 src:=fun i j x e _=>by
  rw [List.getElem?_replicate] at e
  split at e <;> cases e

section
variable {X:Cx}
theorem call_rng1:CallR X (.type "range") (fun xs H Q=>∃ j,xs = [.int j]∧∀ p,H p = none→Q (.ref p) (upd H p (.rng 0 j))):=by
 intro pins s σ H xs us Q I r h
 obtain ⟨j,rfl,q⟩:=h
 obtain ⟨u,rfl,ru⟩:=r.one
 obtain ⟨t,rfl⟩:=ru
 refine call_range_1 ⟨.ref s.heap.objs.size,_,I.laid (o:=.rng 0 j) (fun b u e=>Heap.get?_push_of_some _ e) (Nat.le_refl _) ?_,rfl,q _ (I.hok.fresh (Nat.le_refl _))⟩
 exact ⟨_,_,_,Heap.get?_push_size _ rfl⟩
noncomputable def rngV (lo:Int) (n:Nat):List V:=(List.range n).map fun (i:Nat)=>V.int (lo + i)
theorem rngV_len (lo:Int) (n:Nat):(rngV lo n).length = n:=by unfold rngV;rw [List.length_map,List.length_range]
theorem rngV_get {lo:Int} {n i:Nat} (h:i < n):(rngV lo n)[i]? = some (.int (lo + i)):=by
 unfold rngV
 rw [List.getElem?_map,List.getElem?_range h]
 rfl
theorem call_list_rng (hc:X.calm = true):CallR X (.type "list") (fun xs H Q=>∃ p lo hi,xs = [.ref p]∧H p = some (.rng lo hi)∧(-(2 ^ 62)≤lo∧lo < 2 ^ 62∧-(2 ^ 62)≤hi∧hi < 2 ^ 62)∧(hi - lo).toNat≤2 ^ 20 ∧
  ∀ l,H l = none→Q (.ref l) (upd H l (.lst (rngV lo (hi - lo).toNat)))):=by
 intro pins s σ H xs us Q I r h
 obtain ⟨p,lo,hi,rfl,hp,⟨b1,b2,b3,b4⟩,hz,q⟩:=h
 obtain ⟨u,rfl,ru⟩:=r.one
 cases ru
 obtain ⟨t,u',v',e⟩:=I.hok p _ hp
 have hsz:(hi - lo).toNat≤sizeLine:=Nat.le_trans hz (by decide)
 refine call_list_range (n:=(hi - lo).toNat) (I.ok.hd hc) (show IsRange s.heap p lo hi 1 t u' v' from e) (small_one b1 b2 b3 b4) (by rw [rangeSize_one];split <;> omega) (Nat.le_trans hz (by decide)) fun h' tk acc' c' hk hS' hacc=>?_
 refine ⟨.ref s.heap.objs.size,_,I.laid (o:=.lst (rngV lo (hi - lo).toNat)) (t':=tk) hk (Nat.le_refl _) ⟨by rw [rngV_len];exact hsz,acc'.toList,c',?_,by simpa using hS'⟩,rfl,q _ (I.hok.fresh (Nat.le_refl _))⟩
 refine vals_of_get (by rw [rngV_len,Array.length_toList,hacc.1]) fun i x w e1 e2=>?_
 have hi':i < (hi - lo).toNat:=by
  have z:=(List.getElem?_eq_some_iff.mp e1).1
  rw [rngV_len] at z
  exact z
 rw [rngV_get hi'] at e1
 cases e1
 obtain ⟨t,rfl⟩:=hacc.2 i w (by simpa using e2)
 exact ⟨t,by rw [Int.mul_one]⟩
end

structure Fn (K:PySem.W.Frag) (mg:Str→Option Value) (x:Str) (st:Stmt) (ps:List Str) (f:Addr) (fd:FuncData):Prop where
 fn:Fun K x x st f fd
 b:Binds K fd ps []
 g:mg x = some (.ref f)
theorem Fn.mk' {K : PySem.W.Frag} {mg : Str → Option Value} {x : Str} {st : Stmt} {ps : List Str} {f : Addr} {fd : FuncData} (F : Fun K x x st f fd)
    (h : ∀ (kV doc pm : Value) (an : Option Addr) (cdv ct : Value) (us : List Value), us.length = ps.length → bindArgs (PySem.W.fnOf x x (defArgs st) (defBody st) (defScope st) .none kV doc pm an cdv ct) ⟨us, []⟩ = pure (ps.zip us))
    (g : mg x = some (.ref f)) : Fn K mg x st ps f fd := ⟨F, F.binds h, g⟩
theorem pe_fn {X : Cx} {x : Str} {st : Stmt} {ps : List Str} {f : Addr} {fd : FuncData} {k : Nat} {sp : Sp} {e : Expr} {es : List Expr} {t : TA} {p pos : Pos} (G : FnOk X.prog X.w X.K X.mg X.base CX0 k f fd ps sp) (F : Fn X.K X.mg x st ps f fd) (hr : Room k X.A) (ha : PA X (e :: es) t)
    (hg : Gl X x := by rfl) (hdb : (x == ("__debug__" : Str)) = false := by decide) (he : starEach (e :: es) X.env = (false, eval e X.env) :: starEach es X.env := by rfl) (hpl : (backTo pos (starEach es X.env)).any (·.1) = false := by rfl) :
    PE X (.Call (.Name x p) (e :: es) [] pos) (tCall sp [] E0 t) := pe_call G hr hg F.g F.fn.kp F.b .nil pass0 ha hdb he hpl
noncomputable def spLaw (K:PySem.W.Frag):Sp:=fun vs H Q _=>∃ (a:Addr) (ns:List Int),vs = [.ref a]∧SqL K H a (ns.map V.int)∧ns.length≤63∧∀ H',Q (.bl true) H'

theorem same_upd {H:Hp} {p:Addr} {o:HO} (h:H p = none):Same H (upd H p o):=fun b u e=>by rw [upd_ne (ne_of_none e h)];exact e
theorem Same.upd {H H':Hp} {p:Addr} {o:HO} (s:Same H H') (h:H p = none):Same H (upd H' p o):=fun b u e=>by rw [upd_ne (ne_of_none e h)];exact s b u e
theorem Same.tup {K:PySem.W.Frag} {H H':Hp} {a:Addr} {xs:List V} (e:Same H H') (h:SqT K H a xs):SqT K H' a xs:=by
 rcases h with (h | ⟨o,h⟩) | h
 ·exact .inl (.inl (e _ _ h))
 ·exact .inl (.inr ⟨o,e _ _ h⟩)
 ·exact .inr h
theorem none_upd {H:Hp} {p l:Addr} {o:HO} (h:upd H p o l = none):l≠p∧H l = none:=by
 by_cases e:l = p
 ·rw [e,upd_same] at h;cases h
 ·rw [upd_ne e] at h;exact ⟨e,h⟩
theorem ixN_of {n:Nat} {k:Int} (h0:0≤k) (h1:k < n):ixN n k = some k.toNat:=by unfold ixN;rw [if_pos h0,if_pos h1]
theorem bb_len:bootBuiltins "len" = some (.builtin "len"):=by decide +kernel
theorem bb_isinstance:bootBuiltins "isinstance" = some (.builtin "isinstance"):=by decide +kernel
theorem bb_sorted:bootBuiltins "sorted" = some (.builtin "sorted"):=by decide +kernel
theorem bb_list:bootBuiltins "list" = some (.type "list"):=by decide +kernel
theorem bb_tuple:bootBuiltins "tuple" = some (.type "tuple"):=by decide +kernel
theorem bb_range:bootBuiltins "range" = some (.type "range"):=by decide +kernel
theorem bb_min:bootBuiltins "min" = some (.builtin "min"):=by decide +kernel
theorem bb_enumerate:bootBuiltins "enumerate" = some (.type "enumerate"):=by decide +kernel
end L2

namespace Th
open Classical
theorem sub_len {α:Type}:∀ {l m:List α},l.Nodup→(∀ x∈l,x∈m)→l.length≤m.length
 | [],m,_,_=>Nat.zero_le _
 | a :: l,m,nd,h=>by
  obtain ⟨h1,h2⟩:=List.nodup_cons.mp nd
  have ha:=h a List.mem_cons_self
  have z:=sub_len (l:=l) (m:=m.erase a) h2 fun x hx=>by
   have hne:x≠a:=fun e=>h1 (e ▸ hx)
   exact (List.mem_erase_of_ne hne).mpr (h x (List.mem_cons_of_mem _ hx))
  rw [List.length_erase_of_mem ha] at z
  have:0 < m.length:=List.length_pos_of_mem ha
  rw [List.length_cons]
  omega
structure Two (N:Nat) (f g:Nat→Nat):Prop where
 fl:∀ x,x < N→f x < N
 gl:∀ x,x < N→g x < N
 ff:∀ x,x < N→f (f x) = x
 gg:∀ x,x < N→g (g x) = x
theorem Two.swap {N:Nat} {f g:Nat→Nat} (h:Two N f g):Two N g f:=⟨h.gl,h.fl,h.gg,h.ff⟩
noncomputable def stp (f g:Nat→Nat) (i x:Nat):Nat:=if i % 2 = 0 then f x else g x
noncomputable def wlk (f g:Nat→Nat) (s:Nat):Nat→Nat
 | 0=>s
 | i + 1=>stp f g i (wlk f g s i)
section
variable {N:Nat} {f g:Nat→Nat} {s:Nat}
theorem stp_lt (T:Two N f g) (i:Nat) {x:Nat} (h:x < N):stp f g i x < N:=by
 unfold stp;split
 ·exact T.fl x h
 ·exact T.gl x h
theorem stp_stp (T:Two N f g) (i:Nat) {x:Nat} (h:x < N):stp f g i (stp f g i x) = x:=by
 unfold stp;split
 ·exact T.ff x h
 ·exact T.gg x h
theorem stp_par {i j:Nat} (h:i % 2 = j % 2) (x:Nat):stp f g i x = stp f g j x:=by unfold stp;rw [h]
theorem wlk_lt (T:Two N f g) (hs:s < N):∀ i,wlk f g s i < N
 | 0=>hs
 | i + 1=>stp_lt T i (wlk_lt T hs i)
theorem wlk_back (T:Two N f g) (hs:s < N) (i:Nat):stp f g i (wlk f g s (i + 1)) = wlk f g s i:=stp_stp T i (wlk_lt T hs i)
structure Goes (f g:Nat→Nat) (s k:Nat):Prop where
 mv:∀ i,i < k→wlk f g s (i + 1)≠wlk f g s i
 rt:g s = s∨∀ j,0 < j→j≤k→wlk f g s j≠s
theorem apart (T:Two N f g) (hs:s < N) {k:Nat} (G:Goes f g s k):∀ j,j≤k→∀ i,i < j→wlk f g s i≠wlk f g s j:=by
 intro j
 induction j using Nat.strongRecOn with
 | _ j ih =>
  intro hj i hi e
  obtain ⟨j',rfl⟩:∃ j',j = j' + 1:=⟨j - 1,by omega⟩
  by_cases i0:i = 0
  ·subst i0
   rcases G.rt with gs | hr
   ·have e:s = stp f g j' (wlk f g s j'):=e
    by_cases p:j' % 2 = 0
    ·have e1:wlk f g s j' = f s:=by
      have e':f (wlk f g s j') = s:=by unfold stp at e;rw [if_pos p] at e;exact e.symm
      have z:=T.ff _ (wlk_lt T hs j')
      rw [e'] at z
      exact z.symm
     have e2:wlk f g s 1 = f s:=rfl
     by_cases j0:j' = 0
     ·subst j0
      exact G.mv 0 (by omega) (by rw [e2,← e1])
     ·exact ih j' (by omega) (by omega) 1 (by omega) (by rw [e2,e1])
    ·have e1:wlk f g s j' = s:=by
      have e':g (wlk f g s j') = s:=by unfold stp at e;rw [if_neg p] at e;exact e.symm
      have z:=T.gg _ (wlk_lt T hs j')
      rw [e',gs] at z
      exact z.symm
     exact ih j' (by omega) (by omega) 0 (by omega) e1.symm
   ·exact hr (j' + 1) (by omega) hj e.symm
  ·obtain ⟨i',rfl⟩:∃ i',i = i' + 1:=⟨i - 1,by omega⟩
   by_cases p:i' % 2 = j' % 2
   ·have e1:wlk f g s i' = wlk f g s j':=by
     rw [← wlk_back T hs i',← wlk_back T hs j',e]
     exact stp_par p _
    exact ih j' (by omega) (by omega) i' (by omega) e1
   ·have e1:wlk f g s (i' + 2) = wlk f g s j':=by
     rw [← wlk_back T hs j',← e]
     exact stp_par (by omega) _
    by_cases c:i' + 2 < j'
    ·exact ih j' (by omega) (by omega) (i' + 2) c e1
    ·have c2:j' = i' + 1:=by omega
     subst c2
     exact G.mv (i' + 1) (by omega) e.symm
noncomputable def Conn (f g:Nat→Nat) (x y:Nat):Prop:=∀ S:Nat→Prop,S x→(∀ z,S z→S (f z)∧S (g z))→S y
theorem Conn.refl (x:Nat):Conn f g x x:=fun S h _=>h
theorem Conn.trans {x y z:Nat} (h:Conn f g x y) (k:Conn f g y z):Conn f g x z:=fun S hx hS=>k S (h S hx hS) hS
theorem Conn.sf {x y:Nat} (h:Conn f g x y):Conn f g x (f y):=fun S hx hS=>(hS y (h S hx hS)).1
theorem Conn.sg {x y:Nat} (h:Conn f g x y):Conn f g x (g y):=fun S hx hS=>(hS y (h S hx hS)).2
theorem Conn.lt (T:Two N f g) {x y:Nat} (hx:x < N) (h:Conn f g x y):y < N:=h (· < N) hx fun z hz=>⟨T.fl z hz,T.gl z hz⟩
theorem Conn.symm (T:Two N f g) {x y:Nat} (hx:x < N) (h:Conn f g x y):Conn f g y x:=by
 have z:=h (fun z=>z < N∧Conn f g z x) ⟨hx,Conn.refl x⟩ fun z ⟨hz,hc⟩=>⟨⟨T.fl z hz,fun S a b=>hc S (by have:=(b _ a).1;rwa [T.ff z hz] at this) b⟩,T.gl z hz,fun S a b=>hc S (by have:=(b _ a).2;rwa [T.gg z hz] at this) b⟩
 exact z.2
theorem Conn.swap {x y:Nat} (h:Conn f g x y):Conn g f x y:=fun S hx hS=>h S hx fun z hz=>⟨(hS z hz).2,(hS z hz).1⟩
theorem conn_swap {x y:Nat}:Conn g f x y↔Conn f g x y:=⟨Conn.swap,Conn.swap⟩
theorem conn_wlk:∀ i,Conn f g s (wlk f g s i)
 | 0=>Conn.refl s
 | i + 1=>by
  show Conn f g s (stp f g i (wlk f g s i))
  unfold stp;split
  ·exact (conn_wlk i).sf
  ·exact (conn_wlk i).sg
noncomputable def Whole (f g:Nat→Nat) (x:Nat):Prop:=∀ y,Conn f g x y→f y≠y∧g y≠y
theorem Whole.of (T:Two N f g) {x y:Nat} (hx:x < N) (h:Whole f g x) (c:Conn f g x y):Whole f g y:=fun z hz=>h z (c.trans hz)
noncomputable def thrL (f g:Nat→Nat) (s K:Nat):List Nat:=(List.range K).map (wlk f g s)
theorem thrL_len (K:Nat):(thrL f g s K).length = K:=by unfold thrL;rw [List.length_map,List.length_range]
theorem thrL_get {K i:Nat} (h:i < K):(thrL f g s K)[i]? = some (wlk f g s i):=by
 unfold thrL
 rw [List.getElem?_map,List.getElem?_range h]
 rfl
theorem thrL_mem {K y:Nat}:y∈thrL f g s K↔∃ i,i < K∧wlk f g s i = y:=by
 unfold thrL
 rw [List.mem_map]
 exact ⟨fun ⟨i,h,e⟩=>⟨i,List.mem_range.mp h,e⟩,fun ⟨i,h,e⟩=>⟨i,List.mem_range.mpr h,e⟩⟩
theorem thrL_snoc (K:Nat):thrL f g s (K + 1) = thrL f g s K ++ [wlk f g s K]:=by
 unfold thrL
 rw [List.range_succ,List.map_append]
 rfl
structure Ends (f g:Nat→Nat) (s K:Nat):Prop where
 goes:Goes f g s K
 stop:wlk f g s (K + 1) = wlk f g s K∨wlk f g s (K + 1) = s
 ok:g s = s∨Whole f g s
theorem thrL_nodup (T:Two N f g) (hs:s < N) {K:Nat} (G:Goes f g s K):(thrL f g s (K + 1)).Nodup:=by
 unfold thrL
 rw [List.nodup_iff_pairwise_ne,List.pairwise_map]
 refine List.pairwise_lt_range.imp_of_mem fun {i j} _ hj hij=>?_
 exact apart T hs G j (by have:=List.mem_range.mp hj;omega) i hij
theorem goes_lt (T:Two N f g) (hs:s < N) {K:Nat} (G:Goes f g s K):K < N:=by
 have nd:=thrL_nodup T hs G
 have sub:∀ y∈thrL f g s (K + 1),y∈List.range N:=fun y hy=>by
  obtain ⟨i,_,rfl⟩:=thrL_mem.mp hy
  exact List.mem_range.mpr (wlk_lt T hs i)
 have z:=sub_len nd sub
 rw [thrL_len,List.length_range] at z
 omega
theorem Ends.ring (T:Two N f g) (hs:s < N) {K:Nat} (E:Ends f g s K) (h:g s≠s):wlk f g s (K + 1) = s∧K % 2 = 1∧g s = wlk f g s K:=by
 have W:Whole f g s:=E.ok.resolve_left h
 have ns:wlk f g s (K + 1)≠wlk f g s K:=fun z=>by
  have z:stp f g K (wlk f g s K) = wlk f g s K:=z
  have w:=W _ (conn_wlk (s:=s) K)
  unfold stp at z
  split at z
  ·exact w.1 z
  ·exact w.2 z
 have rt:wlk f g s (K + 1) = s:=E.stop.resolve_left ns
 have od:K % 2 = 1:=by
  refine Classical.byContradiction fun p=>?_
  have p:K % 2 = 0:=by omega
  have e:f (wlk f g s K) = s:=by have z:stp f g K (wlk f g s K) = s:=rt;unfold stp at z;rw [if_pos p] at z;exact z
  have e1:wlk f g s K = f s:=by have z:=T.ff _ (wlk_lt T hs K);rw [e] at z;exact z.symm
  by_cases k0:K = 0
  ·subst k0
   exact ns (by rw [rt];rfl)
  ·exact apart T hs E.goes K (Nat.le_refl _) 1 (by omega) (by rw [e1];rfl)
 refine ⟨rt,od,?_⟩
 have e:g (wlk f g s K) = s:=by have z:stp f g K (wlk f g s K) = s:=rt;unfold stp at z;rw [if_neg (by omega)] at z;exact z
 have z:=T.gg _ (wlk_lt T hs K)
 rw [e] at z
 exact z
theorem Ends.stuck (T:Two N f g) (hs:s < N) {K:Nat} (E:Ends f g s K) (h:g s = s):wlk f g s (K + 1) = wlk f g s K:=by
 rcases E.stop with z | z
 ·exact z
 ·refine Classical.byContradiction fun q=>?_
  have G:Goes f g s (K + 1):=⟨fun i hi=>by
   by_cases c:i = K
   ·subst c;exact q
   ·exact E.goes.mv i (by omega),.inl h⟩
  exact apart T hs G (K + 1) (Nat.le_refl _) 0 (by omega) z.symm
theorem Ends.mem (T:Two N f g) (hs:s < N) {K:Nat} (E:Ends f g s K) {y:Nat}:y∈thrL f g s (K + 1)↔Conn f g s y:=by
 constructor
 ·intro h
  obtain ⟨i,_,rfl⟩:=thrL_mem.mp h
  exact conn_wlk i
 ·intro h
  refine h (·∈thrL f g s (K + 1)) (thrL_mem.mpr ⟨0,by omega,rfl⟩) fun z hz=>?_
  obtain ⟨i,hi,rfl⟩:=thrL_mem.mp hz
  have fw:stp f g i (wlk f g s i)∈thrL f g s (K + 1):=by
   by_cases c:i < K
   ·exact thrL_mem.mpr ⟨i + 1,by omega,rfl⟩
   ·have c:i = K:=by omega
    subst c
    rcases E.stop with z | z
    ·exact thrL_mem.mpr ⟨i,by omega,z.symm⟩
    ·exact thrL_mem.mpr ⟨0,by omega,z.symm⟩
  have bw:(if i % 2 = 0 then g (wlk f g s i) else f (wlk f g s i))∈thrL f g s (K + 1):=by
   by_cases i0:i = 0
   ·subst i0
    show g s∈_
    by_cases h:g s = s
    ·exact thrL_mem.mpr ⟨0,by omega,h.symm⟩
    ·exact thrL_mem.mpr ⟨K,by omega,(E.ring T hs h).2.2.symm⟩
   ·obtain ⟨i',rfl⟩:∃ i',i = i' + 1:=⟨i - 1,by omega⟩
    refine thrL_mem.mpr ⟨i',by omega,?_⟩
    rw [← wlk_back T hs i']
    unfold stp
    by_cases p:i' % 2 = 0
    ·rw [if_pos p,if_neg (by omega)]
    ·rw [if_neg p,if_pos (by omega)]
  by_cases p:i % 2 = 0
  ·unfold stp at fw
   rw [if_pos p] at fw bw
   exact ⟨fw,bw⟩
  ·unfold stp at fw
   rw [if_neg p] at fw bw
   exact ⟨bw,fw⟩
theorem Ends.loose (T:Two N f g) (hs:s < N) {K:Nat} (E:Ends f g s K) (h:g s = s) {i:Nat} (hi:i≤K) :
  (f (wlk f g s i) = wlk f g s i↔i = K∧K % 2 = 0)∧(g (wlk f g s i) = wlk f g s i↔i = 0∨(i = K∧K % 2 = 1)):=by
 have st:=E.stuck T hs h
 have fwd:stp f g i (wlk f g s i) = wlk f g s i↔i = K:=by
  constructor
  ·intro z
   refine Classical.byContradiction fun c=>E.goes.mv i (by omega) z
  ·rintro rfl
   exact st
 have bwd:0 < i→(if i % 2 = 0 then g (wlk f g s i) else f (wlk f g s i))≠wlk f g s i:=fun h0 z=>by
  obtain ⟨i',rfl⟩:∃ i',i = i' + 1:=⟨i - 1,by omega⟩
  have z2:stp f g i' (wlk f g s (i' + 1)) = wlk f g s (i' + 1):=by
   unfold stp
   by_cases p:i' % 2 = 0
   ·rw [if_neg (by omega)] at z;rw [if_pos p];exact z
   ·rw [if_pos (by omega)] at z;rw [if_neg p];exact z
  rw [wlk_back T hs i'] at z2
  exact E.goes.mv i' (by omega) z2.symm
 unfold stp at fwd
 by_cases p:i % 2 = 0
 ·rw [if_pos p] at fwd bwd
  refine ⟨⟨fun z=>⟨fwd.mp z,by have:=fwd.mp z;omega⟩,fun z=>fwd.mpr z.1⟩,⟨fun z=>?_,fun z=>?_⟩⟩
  ·by_cases i0:i = 0
   ·exact .inl i0
   ·exact absurd z (bwd (by omega))
  ·rcases z with rfl | ⟨z1,z2⟩
   ·exact h
   ·omega
 ·rw [if_neg p] at fwd bwd
  refine ⟨⟨fun z=>absurd z (bwd (by omega)),fun z=>by omega⟩,⟨fun z=>.inr ⟨fwd.mp z,by have:=fwd.mp z;omega⟩,fun z=>?_⟩⟩
  rcases z with rfl | ⟨z1,z2⟩
  ·omega
  ·exact fwd.mpr z1
theorem ends_ex (T:Two N f g) (hs:s < N) (h:g s = s∨Whole f g s):∃ K,Ends f g s K:=by
 refine Classical.byContradiction fun no=>?_
 have all:∀ k,Goes f g s k:=fun k=>by
  induction k with
  | zero=>exact ⟨fun i hi=>absurd hi (Nat.not_lt_zero _),by rcases h with h | h;exact .inl h;exact .inr fun j h1 h2=>by omega⟩
  | succ k ih =>
   have q:¬ (wlk f g s (k + 1) = wlk f g s k∨wlk f g s (k + 1) = s):=fun z=>no ⟨k,ih,z,h⟩
   refine ⟨fun i hi=>?_,?_⟩
   ·by_cases c:i = k
    ·subst c;exact fun z=>q (.inl z)
    ·exact ih.mv i (by omega)
   ·rcases ih.rt with z | z
    ·exact .inl z
    ·refine .inr fun j h1 h2=>?_
     by_cases c:j = k + 1
     ·subst c;exact fun z=>q (.inr z)
     ·exact z j h1 (by omega)
 have:=goes_lt T hs (all N)
 omega
end
end Th

namespace Th
open Classical
theorem ex_least {P:Nat→Prop}:∀ n,P n→∃ m,P m∧∀ k,P k→m≤k:=fun n=>by
 induction n using Nat.strongRecOn with
 | _ n ih =>
  intro h
  by_cases c:∃ k,k < n∧P k
  ·obtain ⟨k,hk,hp⟩:=c
   exact ih k hk hp
  ·exact ⟨n,h,fun k hk=>Nat.le_of_not_lt fun z=>c ⟨k,z,hk⟩⟩
theorem nodup_map {α β:Type} {l:List α} {φ:α→β} (nd:l.Nodup) (h:∀ x∈l,∀ y∈l,φ x = φ y→x = y):(l.map φ).Nodup:=by
 rw [List.nodup_iff_pairwise_ne,List.pairwise_map]
 exact (List.nodup_iff_pairwise_ne.mp nd).imp_of_mem fun {x y} hx hy hne e=>hne (h x hx y hy e)
theorem even_len:∀ (k:Nat) (l:List Nat) (φ:Nat→Nat),l.length≤k→l.Nodup→(∀ x∈l,φ x∈l∧φ (φ x) = x∧φ x≠x)→l.length % 2 = 0
 | 0,l,φ,hk,_,_=>by omega
 | k + 1,[],φ,hk,_,_=>rfl
 | k + 1,x :: r,φ,hk,nd,h=>by
  obtain ⟨h1,h2⟩:=List.nodup_cons.mp nd
  obtain ⟨a1,a2,a3⟩:=h x List.mem_cons_self
  have hy:φ x∈r:=by
   rcases List.mem_cons.mp a1 with z | z
   ·exact absurd z a3
   ·exact z
  have z:=even_len k (r.erase (φ x)) φ (by rw [List.length_erase_of_mem hy];rw [List.length_cons] at hk;omega) (h2.erase _) fun w hw=>by
   obtain ⟨w1,w2⟩:=(List.Nodup.mem_erase_iff h2).mp hw
   obtain ⟨b1,b2,b3⟩:=h w (List.mem_cons_of_mem _ w2)
   refine ⟨(List.Nodup.mem_erase_iff h2).mpr ⟨fun e=>?_,?_⟩,b2,b3⟩
   ·have:w = x:=by rw [← b2,e,a2]
    exact h1 (this ▸ w2)
   ·rcases List.mem_cons.mp b1 with e | e
    ·exact absurd (by rw [← b2,e]) w1
    ·exact e
  rw [List.length_erase_of_mem hy] at z
  have:0 < r.length:=List.length_pos_of_mem hy
  rw [List.length_cons]
  omega
theorem filter_two {α:Type} (p:α→Bool):∀ l:List α,(l.filter p).length + (l.filter fun x=>!p x).length = l.length
 | []=>rfl
 | a :: l=>by
  have ih:=filter_two p l
  by_cases c:p a = true
  ·rw [List.filter_cons_of_pos c,List.filter_cons_of_neg (by simp [c]),List.length_cons,List.length_cons];omega
  ·rw [List.filter_cons_of_neg c,List.filter_cons_of_pos (by simpa using c),List.length_cons,List.length_cons];omega
section
variable {N:Nat} {a b:Nat→Nat}
noncomputable def Least (a b:Nat→Nat) (m:Nat):Prop:=∀ y,Conn a b m y→m≤y
noncomputable def OddC (a b:Nat→Nat) (m:Nat):Prop:=(∃ u,Conn a b m u∧a u = u)∧∃ z,Conn a b m z∧b z = z
noncomputable def OL (a b:Nat→Nat) (i:Nat):List Nat:=(List.range i).filter fun u=>decide (a u = u∧∃ z,Conn a b u z∧b z = z)
noncomputable def RL (a b:Nat→Nat) (i:Nat):List Nat:=(List.range i).filter fun m=>decide (Least a b m∧Whole a b m)
noncomputable def score (a b:Nat→Nat) (N:Nat):Nat:=2 * (RL a b N).length + (OL a b N).length
theorem mem_OL {i u:Nat}:u∈OL a b i↔u < i∧a u = u∧∃ z,Conn a b u z∧b z = z:=by unfold OL;rw [List.mem_filter,List.mem_range,decide_eq_true_iff]
theorem mem_RL {i u:Nat}:u∈RL a b i↔u < i∧Least a b u∧Whole a b u:=by unfold RL;rw [List.mem_filter,List.mem_range,decide_eq_true_iff]
theorem nd_OL {i:Nat}:(OL a b i).Nodup:=List.nodup_range.filter _
theorem nd_RL {i:Nat}:(RL a b i).Nodup:=List.nodup_range.filter _
theorem odd_one (T:Two N a b) {u v z:Nat} (hu:u < N) (au:a u = u) (hv:Conn a b u v) (av:a v = v) (hz:Conn a b u z) (bz:b z = z):v = u:=by
 obtain ⟨K,E⟩:=ends_ex T.swap hu (.inl au)
 obtain ⟨i,hi,rfl⟩:=thrL_mem.mp ((E.mem T.swap hu).mpr hz.swap)
 obtain ⟨j,hj,rfl⟩:=thrL_mem.mp ((E.mem T.swap hu).mpr hv.swap)
 have q1:=(E.loose T.swap hu au (i:=i) (by omega)).1.mp bz
 rcases (E.loose T.swap hu au (i:=j) (by omega)).2.mp av with e | e
 ·subst e;rfl
 ·omega
theorem least_ex (T:Two N a b) {x:Nat} (hx:x < N):∃ m,Conn a b x m∧m < N∧Least a b m:=by
 obtain ⟨m,h1,h2⟩:=ex_least (P:=fun y=>Conn a b x y) x (Conn.refl x)
 exact ⟨m,h1,h1.lt T hx,fun y hy=>h2 y (h1.trans hy)⟩
theorem bare_two (T:Two N a b) {u:Nat} (hu:u < N) (au:a u = u) (no:¬ ∃ z,Conn a b u z∧b z = z):∃ v,v≠u∧Conn a b u v∧a v = v∧∀ w,Conn a b u w→a w = w→w = u∨w = v:=by
 obtain ⟨K,E⟩:=ends_ex T.swap hu (.inl au)
 have last:wlk b a u K∈thrL b a u (K + 1):=thrL_mem.mpr ⟨K,by omega,rfl⟩
 have od:K % 2 = 1:=by
  refine Classical.byContradiction fun p=>no ⟨wlk b a u K,((E.mem T.swap hu).mp last).swap,(E.loose T.swap hu au (Nat.le_refl _)).1.mpr ⟨rfl,by omega⟩⟩
 refine ⟨wlk b a u K,fun e=>?_,((E.mem T.swap hu).mp last).swap,(E.loose T.swap hu au (Nat.le_refl _)).2.mpr (.inr ⟨rfl,od⟩),fun w hw aw=>?_⟩
 ·exact apart T.swap hu E.goes K (Nat.le_refl _) 0 (by omega) e.symm
 ·obtain ⟨i,hi,rfl⟩:=thrL_mem.mp ((E.mem T.swap hu).mpr hw.swap)
  rcases (E.loose T.swap hu au (i:=i) (by omega)).2.mp aw with e | e
  ·subst e;exact .inl rfl
  ·rw [e.1];exact .inr rfl
theorem OL_even (T:Two N a b) (hN:N % 2 = 0):(OL a b N).length % 2 = 0:=by
 have e1:((List.range N).filter fun x=>!decide (a x = x)).length % 2 = 0:=by
  refine even_len N _ a (by have:=List.length_filter_le (fun x=>!decide (a x = x)) (List.range N);rwa [List.length_range] at this) (List.nodup_range.filter _) fun x hx=>?_
  rw [List.mem_filter,List.mem_range] at hx
  have ne:a x≠x:=by simpa using hx.2
  have ne2:a (a x)≠a x:=fun z=>ne (by rw [T.ff x hx.1] at z;exact z.symm)
  exact ⟨List.mem_filter.mpr ⟨List.mem_range.mpr (T.fl x hx.1),by simpa using ne2⟩,T.ff x hx.1,ne⟩
 have e2:=filter_two (fun x=>decide (a x = x)) (List.range N)
 rw [List.length_range] at e2
 have e3:=filter_two (fun u=>decide (∃ z,Conn a b u z∧b z = z)) ((List.range N).filter fun x=>decide (a x = x))
 have e4:((List.range N).filter fun x=>decide (a x = x)).filter (fun u=>decide (∃ z,Conn a b u z∧b z = z)) = OL a b N:=by
  unfold OL
  rw [List.filter_filter]
  refine List.filter_congr fun x _=>?_
  rw [Bool.eq_iff_iff,Bool.and_eq_true,decide_eq_true_iff,decide_eq_true_iff,decide_eq_true_iff]
  exact ⟨fun h=>⟨h.2,h.1⟩,fun h=>⟨h.2,h.1⟩⟩
 have e5:(((List.range N).filter fun x=>decide (a x = x)).filter (fun u=>!decide (∃ z,Conn a b u z∧b z = z))).length % 2 = 0:=by
  have ch:∀ u,∃ v,u < N→a u = u→(¬ ∃ z,Conn a b u z∧b z = z)→v≠u∧Conn a b u v∧a v = v∧∀ w,Conn a b u w→a w = w→w = u∨w = v:=fun u=>by
   by_cases c:u < N∧a u = u∧¬ ∃ z,Conn a b u z∧b z = z
   ·obtain ⟨v,h⟩:=bare_two T c.1 c.2.1 c.2.2;exact ⟨v,fun _ _ _=>h⟩
   ·exact ⟨0,fun h1 h2 h3=>absurd ⟨h1,h2,h3⟩ c⟩
  obtain ⟨φ,hφ⟩:=Classical.axiomOfChoice ch
  have mem:∀ x,x∈((List.range N).filter fun x=>decide (a x = x)).filter (fun u=>!decide (∃ z,Conn a b u z∧b z = z))↔x < N∧a x = x∧¬ ∃ z,Conn a b x z∧b z = z:=fun x=>by
   rw [List.mem_filter,List.mem_filter,List.mem_range,decide_eq_true_iff,Bool.not_eq_true',decide_eq_false_iff_not,and_assoc]
  refine even_len N _ φ ?_ ((List.nodup_range.filter _).filter _) fun x hx=>?_
  ·have z1:=List.length_filter_le (fun u=>!decide (∃ z,Conn a b u z∧b z = z)) ((List.range N).filter fun x=>decide (a x = x))
   have z2:=List.length_filter_le (fun x=>decide (a x = x)) (List.range N)
   rw [List.length_range] at z2
   omega
  ·obtain ⟨x1,x2,x3⟩:=(mem x).mp hx
   obtain ⟨q1,q2,q3,q4⟩:=hφ x x1 x2 x3
   have hv:=q2.lt T x1
   have no:¬ ∃ z,Conn a b (φ x) z∧b z = z:=fun ⟨z,z1,z2⟩=>x3 ⟨z,q2.trans z1,z2⟩
   refine ⟨(mem _).mpr ⟨hv,q3,no⟩,?_,q1⟩
   obtain ⟨r1,r2,r3,r4⟩:=hφ (φ x) hv q3 no
   rcases q4 _ (q2.trans r2) r3 with e | e
   ·exact e
   ·exact absurd e r1
 rw [e4] at e3
 omega
theorem score_even (T:Two N a b) (hN:N % 2 = 0):score a b N % 2 = 0:=by
 have:=OL_even T hN
 unfold score
 omega
noncomputable def ML (a b:Nat→Nat) (N:Nat):List Nat:=OL a b N ++ (RL a b N ++ (RL a b N).map a)
theorem ML_len:(ML a b N).length = score a b N:=by unfold ML score;rw [List.length_append,List.length_append,List.length_map];omega
theorem ML_nodup (T:Two N a b):(ML a b N).Nodup:=by
 unfold ML
 refine List.nodup_append.mpr ⟨nd_OL,List.nodup_append.mpr ⟨nd_RL,nodup_map nd_RL fun x hx y hy e=>?_,fun x hx y hy e=>?_⟩,fun x hx y hy e=>?_⟩
 ·have x1:=(mem_RL.mp hx).1
  have y1:=(mem_RL.mp hy).1
  rw [← T.ff x x1,e,T.ff y y1]
 ·subst e
  obtain ⟨x1,x2,x3⟩:=mem_RL.mp hx
  obtain ⟨m,hm,rfl⟩:=List.mem_map.mp hy
  obtain ⟨m1,m2,m3⟩:=mem_RL.mp hm
  have c:Conn a b m (a m):=(Conn.refl m).sf
  have:=m2 _ c
  have:=x2 m (c.symm T m1)
  exact (m3 m (Conn.refl m)).1 (by omega)
 ·subst e
  obtain ⟨x1,x2,_⟩:=mem_OL.mp hx
  rcases List.mem_append.mp hy with h | h
  ·exact ((mem_RL.mp h).2.2 x (Conn.refl x)).1 x2
  ·obtain ⟨m,hm,rfl⟩:=List.mem_map.mp h
   exact ((mem_RL.mp hm).2.2 (a m) (Conn.refl m).sf).1 x2
theorem ML_lt (T:Two N a b):∀ x∈ML a b N,x∈List.range N:=fun x hx=>by
 rw [List.mem_range]
 rcases List.mem_append.mp hx with h | h
 ·exact (mem_OL.mp h).1
 ·rcases List.mem_append.mp h with h | h
  ·exact (mem_RL.mp h).1
  ·obtain ⟨m,hm,rfl⟩:=List.mem_map.mp h
   exact T.fl m (mem_RL.mp hm).1
theorem score_le (T:Two N a b):score a b N≤N:=by
 have z:=sub_len (ML_nodup T) (ML_lt T)
 rwa [ML_len,List.length_range] at z
theorem score_full (T:Two N a b):score a b N = N↔∀ x,x < N→a x = b x:=by
 constructor
 ·intro h
  have all:∀ x,x < N→x∈ML a b N:=fun x hx=>Classical.byContradiction fun no=>by
   have z:=sub_len (ML_nodup T) (m:=(List.range N).erase x) fun y hy=>(List.mem_erase_of_ne (fun e=>no (by rw [← e];exact hy))).mpr (ML_lt T y hy)
   rw [ML_len,h,List.length_erase_of_mem (List.mem_range.mpr hx),List.length_range] at z
   omega
  have loose:∀ x,x < N→a x = x→b x = x:=fun x hx ax=>by
   have hO:∀ y,y < N→a y = y→y∈OL a b N:=fun y hy ay=>by
    rcases List.mem_append.mp (all y hy) with h | h
    ·exact h
    ·rcases List.mem_append.mp h with h | h
     ·exact absurd ay ((mem_RL.mp h).2.2 y (Conn.refl y)).1
     ·obtain ⟨m,hm,rfl⟩:=List.mem_map.mp h
      exact absurd ay ((mem_RL.mp hm).2.2 (a m) (Conn.refl m).sf).1
   obtain ⟨_,_,z,z1,z2⟩:=mem_OL.mp (hO x hx ax)
   have hb:=T.gl x hx
   have cb:Conn a b x (b x):=(Conn.refl x).sg
   rcases List.mem_append.mp (all (b x) hb) with h | h
   ·exact odd_one T hx ax cb (mem_OL.mp h).2.1 z1 z2
   ·exfalso
    have wh:Whole a b (b x):=by
     rcases List.mem_append.mp h with h | h
     ·exact (mem_RL.mp h).2.2
     ·obtain ⟨m,hm,e⟩:=List.mem_map.mp h
      rw [← e]
      exact (mem_RL.mp hm).2.2.of T (mem_RL.mp hm).1 (Conn.refl m).sf
    exact (wh x (cb.symm T hx)).1 ax
  intro x hx
  by_cases ax:a x = x
  ·rw [ax,loose x hx ax]
  ·have pair:∀ m,m∈RL a b N→b m = a m:=fun m hm=>by
    obtain ⟨m1,m2,m3⟩:=mem_RL.mp hm
    have cb:Conn a b m (b m):=(Conn.refl m).sg
    rcases List.mem_append.mp (all (b m) (T.gl m m1)) with h | h
    ·exact absurd (mem_OL.mp h).2.1 (m3 _ cb).1
    ·rcases List.mem_append.mp h with h | h
     ·obtain ⟨q1,q2,_⟩:=mem_RL.mp h
      have:=m2 _ cb
      have:=q2 m (cb.symm T m1)
      exact absurd (show b m = m by omega) (m3 m (Conn.refl m)).2
     ·obtain ⟨m',hm',e⟩:=List.mem_map.mp h
      obtain ⟨q1,q2,_⟩:=mem_RL.mp hm'
      have c:Conn a b m m':=by
       have z:Conn a b m (a m'):=e ▸ cb
       have z2:=z.sf
       rwa [T.ff m' q1] at z2
      have:=m2 _ c
      have:=q2 m (c.symm T m1)
      have e2:m' = m:=by omega
      rw [← e,e2]
   rcases List.mem_append.mp (all x hx) with h | h
   ·exact absurd (mem_OL.mp h).2.1 ax
   ·rcases List.mem_append.mp h with h | h
    ·exact (pair x h).symm
    ·obtain ⟨m,hm,rfl⟩:=List.mem_map.mp h
     have m1:=(mem_RL.mp hm).1
     have e:=pair m hm
     rw [T.ff m m1,← e,T.gg m m1]
 ·intro h
  refine Nat.le_antisymm (score_le T) ?_
  have z:=sub_len (l:=List.range N) (m:=ML a b N) List.nodup_range fun x hx=>?_
  ·rwa [ML_len,List.length_range] at z
  have hx:=List.mem_range.mp hx
  by_cases ax:a x = x
  ·exact List.mem_append_left _ (mem_OL.mpr ⟨hx,ax,x,Conn.refl x,by rw [← h x hx];exact ax⟩)
  ·have cl:∀ y,y < N→∀ z,Conn a b y z→z = y∨z = a y:=fun y hy z hc=>hc (fun z=>z = y∨z = a y) (.inl rfl) fun w hw=>by
    rcases hw with rfl | rfl
    ·exact ⟨.inr rfl,.inr (h w hy).symm⟩
    ·refine ⟨.inl (T.ff y hy),.inl ?_⟩
     rw [← h _ (T.fl y hy),T.ff y hy]
   have wh:∀ y,y < N→a y≠y→Whole a b y:=fun y hy ne z hc=>by
    rcases cl y hy z hc with rfl | rfl
    ·exact ⟨ne,by rw [← h z hy];exact ne⟩
    ·have n2:a (a y)≠a y:=by rw [T.ff y hy];exact Ne.symm ne
     exact ⟨n2,by rw [← h _ (T.fl y hy)];exact n2⟩
   have al:=T.fl x hx
   have ne2:a (a x)≠a x:=by rw [T.ff x hx];exact Ne.symm ax
   refine List.mem_append_right _ ?_
   by_cases c:x < a x
   ·refine List.mem_append_left _ (mem_RL.mpr ⟨hx,fun y hy=>?_,wh x hx ax⟩)
    rcases cl x hx y hy with rfl | rfl <;> omega
   ·refine List.mem_append_right _ (List.mem_map.mpr ⟨a x,mem_RL.mpr ⟨al,fun y hy=>?_,wh _ al ne2⟩,T.ff x hx⟩)
    rcases cl _ al y hy with rfl | rfl
    ·omega
    ·rw [T.ff x hx];omega
structure IsComp (a b:Nat→Nat) (x:Nat) (L:List Nat):Prop where
 nd:L.Nodup
 mem:∀ y,y∈L↔Conn a b x y
theorem comp_len {x:Nat} {L M:List Nat} (h:IsComp a b x L) (k:IsComp a b x M):L.length = M.length :=
 Nat.le_antisymm (sub_len h.nd fun y hy=>(k.mem y).mpr ((h.mem y).mp hy)) (sub_len k.nd fun y hy=>(h.mem y).mpr ((k.mem y).mp hy))
theorem comp_whole (T:Two N a b) {x:Nat} (hx:x < N) {L:List Nat} (h:IsComp a b x L) (w:Whole a b x):L.length % 2 = 0:=by
 refine even_len L.length L a (Nat.le_refl _) h.nd fun y hy=>?_
 have hc:=(h.mem y).mp hy
 exact ⟨(h.mem _).mpr hc.sf,T.ff y (hc.lt T hx),(w y hc).1⟩
theorem comp_odd (T:Two N a b) {x:Nat} (hx:x < N) {L:List Nat} (h:IsComp a b x L):L.length % 2 = 1↔OddC a b x:=by
 have fromA:∀ u,Conn a b x u→a u = u→(L.length % 2 = 1↔∃ z,Conn a b x z∧b z = z):=fun u hu au=>by
  have hul:=hu.lt T hx
  obtain ⟨K,E⟩:=ends_ex T.swap hul (.inl au)
  have C:IsComp a b x (thrL b a u (K + 1)):=⟨thrL_nodup T.swap hul E.goes,fun y=>by
   rw [E.mem T.swap hul,conn_swap]
   exact ⟨fun z=>hu.trans z,fun z=>(hu.symm T hx).trans z⟩⟩
  rw [comp_len h C,thrL_len]
  constructor
  ·intro p
   exact ⟨wlk b a u K,(C.mem _).mp (thrL_mem.mpr ⟨K,by omega,rfl⟩),(E.loose T.swap hul au (Nat.le_refl _)).1.mpr ⟨rfl,by omega⟩⟩
  ·rintro ⟨z,z1,z2⟩
   obtain ⟨i,hi,rfl⟩:=thrL_mem.mp ((C.mem z).mpr z1)
   have:=(E.loose T.swap hul au (i:=i) (by omega)).1.mp z2
   omega
 constructor
 ·intro p
  by_cases cA:∃ u,Conn a b x u∧a u = u
  ·obtain ⟨u,hu,au⟩:=cA
   exact ⟨⟨u,hu,au⟩,(fromA u hu au).mp p⟩
  ·exfalso
   by_cases cB:∃ z,Conn a b x z∧b z = z
   ·obtain ⟨u,hu,bu⟩:=cB
    have hul:=hu.lt T hx
    obtain ⟨K,E⟩:=ends_ex T hul (.inl bu)
    have C:IsComp a b x (thrL a b u (K + 1)):=⟨thrL_nodup T hul E.goes,fun y=>by
     rw [E.mem T hul]
     exact ⟨fun z=>hu.trans z,fun z=>(hu.symm T hx).trans z⟩⟩
    rw [comp_len h C,thrL_len] at p
    exact cA ⟨wlk a b u K,(C.mem _).mp (thrL_mem.mpr ⟨K,by omega,rfl⟩),(E.loose T hul bu (Nat.le_refl _)).1.mpr ⟨rfl,by omega⟩⟩
   ·have w:Whole a b x:=fun y hy=>⟨fun z=>cA ⟨y,hy,z⟩,fun z=>cB ⟨y,hy,z⟩⟩
    have:=comp_whole T hx h w
    omega
 ·rintro ⟨⟨u,hu,au⟩,hz⟩
  exact (fromA u hu au).mpr hz
end
end Th

namespace Th
open Classical
section
variable {N:Nat} {f g:Nat→Nat} {s:Nat}
theorem ends_uniq (T:Two N f g) (hs:s < N) {K K':Nat} (E:Ends f g s K) (E':Ends f g s K'):K = K':=by
 have z:=comp_len (a:=f) (b:=g) (x:=s) ⟨thrL_nodup T hs E.goes,fun y=>E.mem T hs⟩ ⟨thrL_nodup T hs E'.goes,fun y=>E'.mem T hs⟩
 rw [thrL_len,thrL_len] at z
 omega
noncomputable def thr (f g:Nat→Nat) (s:Nat):List Nat:=if h:∃ K,Ends f g s K then thrL f g s (Classical.choose h + 1) else []
theorem thr_of (T:Two N f g) (hs:s < N) {K:Nat} (E:Ends f g s K):thr f g s = thrL f g s (K + 1):=by
 have h:∃ K,Ends f g s K:=⟨K,E⟩
 unfold thr
 rw [dif_pos h,ends_uniq T hs (Classical.choose_spec h) E]
theorem thr_comp (T:Two N f g) (hs:s < N) (h:g s = s∨Whole f g s):IsComp f g s (thr f g s):=by
 obtain ⟨K,E⟩:=ends_ex T hs h
 rw [thr_of T hs E]
 exact ⟨thrL_nodup T hs E.goes,fun y=>E.mem T hs⟩
theorem thr_len (T:Two N f g) (hs:s < N) (h:g s = s∨Whole f g s):0 < (thr f g s).length∧(thr f g s).length≤N:=by
 obtain ⟨K,E⟩:=ends_ex T hs h
 rw [thr_of T hs E,thrL_len]
 have:=goes_lt T hs E.goes
 omega
end
section
variable {N:Nat} {a b:Nat→Nat}
inductive Kd | ring | odd | bare | tied
deriving DecidableEq
noncomputable def lastD (L:List Nat):Nat:=L.getLastD 0
theorem thr_even {f g:Nat→Nat} {s:Nat} (T:Two N f g) (hs:s < N) (gs:g s = s) (ev:(thr f g s).length % 2 = 0) :
  lastD (thr f g s)≠s∧Conn f g s (lastD (thr f g s))∧g (lastD (thr f g s)) = lastD (thr f g s)∧(∀ w,Conn f g s w→g w = w→w = s∨w = lastD (thr f g s))∧∀ w,Conn f g s w→f w≠w:=by
 obtain ⟨K,E⟩:=ends_ex T hs (.inl gs)
 rw [thr_of T hs E,thrL_len] at ev
 have el:lastD (thr f g s) = wlk f g s K:=by
  rw [thr_of T hs E,thrL_snoc]
  unfold lastD
  rw [List.getLastD_concat]
 rw [el]
 have ld:=fun i (hi:i≤K)=>E.loose T hs gs hi
 refine ⟨fun e=>?_,conn_wlk K,(ld K (Nat.le_refl _)).2.mpr (.inr ⟨rfl,by omega⟩),fun w hw gw=>?_,fun w hw fw=>?_⟩
 ·exact apart T hs E.goes K (Nat.le_refl _) 0 (by omega) e.symm
 ·obtain ⟨i,hi,rfl⟩:=thrL_mem.mp ((E.mem T hs).mpr hw)
  rcases (ld i (by omega)).2.mp gw with e | e
  ·subst e;exact .inl rfl
  ·rw [e.1];exact .inr rfl
 ·obtain ⟨i,hi,rfl⟩:=thrL_mem.mp ((E.mem T hs).mpr hw)
  have:=(ld i (by omega)).1.mp fw
  omega
theorem thr_odd {f g:Nat→Nat} {s:Nat} (T:Two N f g) (hs:s < N) (gs:g s = s):(thr f g s).length % 2 = 1↔∃ z,Conn f g s z∧f z = z:=by
 have z:=comp_odd T hs (thr_comp T hs (.inl gs))
 rw [z]
 exact ⟨fun h=>h.1,fun h=>⟨h,s,Conn.refl s,gs⟩⟩
noncomputable def pA (a b:Nat→Nat) (u:Nat):Prop:=(thr b a u).length % 2 = 1∨u < lastD (thr b a u)
noncomputable def eA (a b:Nat→Nat) (u:Nat):Kd×List Nat:=(if (thr b a u).length % 2 = 1 then .odd else .bare,thr b a u)
noncomputable def pB (a b:Nat→Nat) (z:Nat):Prop:=(thr a b z).length % 2 = 0∧z < lastD (thr a b z)
noncomputable def eB (a b:Nat→Nat) (z:Nat):Kd×List Nat:=(.tied,thr a b z)
noncomputable def lsL (N:Nat) (a:Nat→Nat):List Nat:=(List.range N).filter fun e=>e == a e
theorem mem_ls {u:Nat}:u∈lsL N a↔u < N∧a u = u:=by
 unfold lsL
 rw [List.mem_filter,List.mem_range,beq_iff_eq]
 exact ⟨fun h=>⟨h.1,h.2.symm⟩,fun h=>⟨h.1,h.2.symm⟩⟩
theorem nd_ls:(lsL N a).Nodup:=List.nodup_range.filter _
noncomputable def openA (N:Nat) (a b:Nat→Nat) (us:List Nat):List (Kd×List Nat):=(us.filter fun u=>decide (pA a b u)).map (eA a b)
noncomputable def openB (N:Nat) (a b:Nat→Nat) (zs:List Nat):List (Kd×List Nat):=(zs.filter fun z=>decide (pB a b z)).map (eB a b)
noncomputable def openL (N:Nat) (a b:Nat→Nat):List (Kd×List Nat):=openA N a b (lsL N a) ++ openB N a b (lsL N b)
noncomputable def ringsTo (a b:Nat→Nat) (i:Nat):List (Kd×List Nat):=(RL a b i).map fun m=>(Kd.ring,thr a b m)
noncomputable def unL (N:Nat) (a b:Nat→Nat):List (Kd×List Nat):=openL N a b ++ ringsTo a b N
theorem openA_snoc (us:List Nat) (u:Nat):openA N a b (us ++ [u]) = openA N a b us ++ (if pA a b u then [eA a b u] else []):=by
 unfold openA
 rw [List.filter_append,List.map_append]
 congr 1
 by_cases c:pA a b u
 ·rw [if_pos c,List.filter_cons_of_pos (by simpa using c)];rfl
 ·rw [if_neg c,List.filter_cons_of_neg (by simpa using c)];rfl
theorem openB_snoc (us:List Nat) (u:Nat):openB N a b (us ++ [u]) = openB N a b us ++ (if pB a b u then [eB a b u] else []):=by
 unfold openB
 rw [List.filter_append,List.map_append]
 congr 1
 by_cases c:pB a b u
 ·rw [if_pos c,List.filter_cons_of_pos (by simpa using c)];rfl
 ·rw [if_neg c,List.filter_cons_of_neg (by simpa using c)];rfl
theorem openA_len (us:List Nat):(openA N a b us).length≤us.length:=by unfold openA;rw [List.length_map];exact List.length_filter_le _ _
theorem openB_len (us:List Nat):(openB N a b us).length≤us.length:=by unfold openB;rw [List.length_map];exact List.length_filter_le _ _
theorem last_get {L:List Nat} (h:0 < L.length):L.getLast? = some (lastD L):=by
 unfold lastD
 cases L with
 | nil=>exact absurd h (Nat.lt_irrefl _)
 | cons x r=>rw [List.getLastD_eq_getLast?,List.getLast?_cons];rfl
theorem open_comp (T:Two N a b) {th:Kd×List Nat} (h:th∈openL N a b):∃ u,u < N∧¬ Whole a b u∧IsComp a b u th.2:=by
 unfold openL openA openB at h
 rcases List.mem_append.mp h with h | h
 ·obtain ⟨u,hu,rfl⟩:=List.mem_map.mp h
  obtain ⟨u1,u2⟩:=mem_ls.mp (List.mem_filter.mp hu).1
  have C:=thr_comp T.swap u1 (.inl u2)
  exact ⟨u,u1,fun w=>(w u (Conn.refl u)).1 u2,C.nd,fun y=>by rw [← conn_swap];exact C.mem y⟩
 ·obtain ⟨u,hu,rfl⟩:=List.mem_map.mp h
  obtain ⟨u1,u2⟩:=mem_ls.mp (List.mem_filter.mp hu).1
  exact ⟨u,u1,fun w=>(w u (Conn.refl u)).2 u2,thr_comp T u1 (.inl u2)⟩
theorem open_seen (T:Two N a b) {x:Nat} (hx:x < N):(∃ th∈openL N a b,x∈th.2)↔¬ Whole a b x:=by
 constructor
 ·rintro ⟨th,h1,h2⟩ w
  obtain ⟨u,u1,u2,C⟩:=open_comp T h1
  exact u2 (w.of T hx (((C.mem x).mp h2).symm T u1))
 ·intro nw
  have side:∀ u,u < N→a u = u→Conn a b u x→∃ th∈openL N a b,x∈th.2:=fun u hu au hc=>by
   have inA:∀ v,v < N→a v = v→pA a b v→Conn a b v x→∃ th∈openL N a b,x∈th.2:=fun v hv av pv hcv=>by
    refine ⟨eA a b v,List.mem_append_left _ (List.mem_map.mpr ⟨v,List.mem_filter.mpr ⟨mem_ls.mpr ⟨hv,av⟩,decide_eq_true pv⟩,rfl⟩),?_⟩
    exact ((thr_comp T.swap hv (.inl av)).mem x).mpr hcv.swap
   by_cases p:pA a b u
   ·exact inA u hu au p hc
   ·have p1:¬ (thr b a u).length % 2 = 1:=fun z=>p (.inl z)
    have p2:¬ u < lastD (thr b a u):=fun z=>p (.inr z)
    obtain ⟨l1,l2,l3,l4,l5⟩:=thr_even T.swap hu au (by omega)
    have lv:=l2.swap.lt T hu
    refine inA _ lv l3 ?_ ((l2.swap.symm T hu).trans hc)
    by_cases q:(thr b a (lastD (thr b a u))).length % 2 = 1
    ·exact .inl q
    ·refine .inr ?_
     obtain ⟨m1,m2,m3,m4,m5⟩:=thr_even T.swap lv l3 (by omega)
     rcases l4 _ (l2.trans m2) m3 with e | e
     ·rw [e];omega
     ·exact absurd e m1
  by_cases cA:∃ u,Conn a b x u∧a u = u
  ·obtain ⟨u,hu,au⟩:=cA
   exact side u (hu.lt T hx) au (hu.symm T hx)
  ·have cB:∃ z,Conn a b x z∧b z = z:=Classical.byContradiction fun no=>nw fun y hy=>⟨fun e=>cA ⟨y,hy,e⟩,fun e=>no ⟨y,hy,e⟩⟩
   obtain ⟨z,hz,bz⟩:=cB
   have hzl:=hz.lt T hx
   have ev:∀ v,v < N→Conn a b x v→b v = v→(thr a b v).length % 2 = 0:=fun v hv hc bv=>by
    have:=(thr_odd T hv bv)
    by_cases q:(thr a b v).length % 2 = 1
    ·obtain ⟨w,w1,w2⟩:=this.mp q
     exact absurd ⟨w,hc.trans w1,w2⟩ cA
    ·omega
   have inB:∀ v,v < N→b v = v→pB a b v→Conn a b v x→∃ th∈openL N a b,x∈th.2:=fun v hv bv pv hcv=>by
    refine ⟨eB a b v,List.mem_append_right _ (List.mem_map.mpr ⟨v,List.mem_filter.mpr ⟨mem_ls.mpr ⟨hv,bv⟩,decide_eq_true pv⟩,rfl⟩),?_⟩
    exact ((thr_comp T hv (.inl bv)).mem x).mpr hcv
   have e1:=ev z hzl hz bz
   obtain ⟨l1,l2,l3,l4,l5⟩:=thr_even T hzl bz e1
   have lv:=l2.lt T hzl
   by_cases p:z < lastD (thr a b z)
   ·exact inB z hzl bz ⟨e1,p⟩ (hz.symm T hx)
   ·have e2:=ev _ lv (hz.trans l2) l3
    obtain ⟨m1,m2,m3,m4,m5⟩:=thr_even T lv l3 e2
    refine inB _ lv l3 ⟨e2,?_⟩ ((hz.trans l2).symm T hx)
    rcases l4 _ (l2.trans m2) m3 with e | e
    ·rw [e];omega
    ·exact absurd e m1
theorem ring_next (T:Two N a b) {i:Nat} (hi:i < N):(Least a b i∧Whole a b i)↔¬ (¬ Whole a b i∨∃ th∈ringsTo a b i,i∈th.2):=by
 have rm:(∃ th∈ringsTo a b i,i∈th.2)↔∃ m,m < i∧Least a b m∧Whole a b m∧Conn a b m i:=by
  unfold ringsTo
  constructor
  ·rintro ⟨th,h1,h2⟩
   obtain ⟨m,hm,rfl⟩:=List.mem_map.mp h1
   obtain ⟨m1,m2,m3⟩:=mem_RL.mp hm
   exact ⟨m,m1,m2,m3,((thr_comp T (by omega) (.inr m3)).mem i).mp h2⟩
  ·rintro ⟨m,m1,m2,m3,m4⟩
   exact ⟨_,List.mem_map.mpr ⟨m,mem_RL.mpr ⟨m1,m2,m3⟩,rfl⟩,((thr_comp T (by omega) (.inr m3)).mem i).mpr m4⟩
 rw [rm]
 constructor
 ·rintro ⟨h1,h2⟩ h
  rcases h with h | ⟨m,m1,m2,m3,m4⟩
  ·exact h h2
  ·have:=h1 m (m4.symm T (by omega))
   omega
 ·intro h
  have w:Whole a b i:=Classical.byContradiction fun z=>h (.inl z)
  refine ⟨fun y hy=>Classical.byContradiction fun z=>?_,w⟩
  obtain ⟨m,c1,c2,c3⟩:=least_ex T hi
  have:=c3 y ((c1.symm T hi).trans hy)
  exact h (.inr ⟨m,by omega,c3,w.of T hi c1,c1.symm T hi⟩)
theorem ringsTo_succ (i:Nat):ringsTo a b (i + 1) = ringsTo a b i ++ (if Least a b i∧Whole a b i then [(Kd.ring,thr a b i)] else []):=by
 unfold ringsTo RL
 rw [List.range_succ,List.filter_append,List.map_append]
 congr 1
 by_cases c:Least a b i∧Whole a b i
 ·rw [if_pos c,List.filter_cons_of_pos (by simpa using c)];rfl
 ·rw [if_neg c,List.filter_cons_of_neg (by simpa using c)];rfl
theorem ringsTo_len (i:Nat):(ringsTo a b i).length≤i:=by
 unfold ringsTo RL
 rw [List.length_map]
 have z:=List.length_filter_le (fun m=>decide (Least a b m∧Whole a b m)) (List.range i)
 rwa [List.length_range] at z
noncomputable def mn (L:List Nat):Nat:=L.foldl min (L.headD 0)
theorem mn_le : ∀ (L : List Nat) (k : Nat), L.foldl min k ≤ k ∧ (∀ x ∈ L, L.foldl min k ≤ x) ∧ (L.foldl min k = k ∨ L.foldl min k ∈ L)
  | [], k => ⟨Nat.le_refl _, fun x hx => absurd hx List.not_mem_nil, .inl rfl⟩
  | y :: r, k => by
    obtain ⟨h1, h2, h3⟩ := mn_le r (min k y)
    rw [List.foldl_cons]
    refine ⟨by omega, fun x hx => ?_, ?_⟩
    · rcases List.mem_cons.mp hx with rfl | hx
      · omega
      · exact h2 x hx
    · rcases h3 with e | e
      · by_cases c : k ≤ y
        · exact .inl (by rw [e]; omega)
        · exact .inr (by rw [e]; have : min k y = y := by omega
                         rw [this]; exact List.mem_cons_self)
      · exact .inr (List.mem_cons_of_mem _ e)
theorem mn_comp {x:Nat} {L:List Nat} (C:IsComp a b x L):Conn a b x (mn L)∧∀ y,Conn a b x y→mn L≤y:=by
 obtain ⟨h1,h2,h3⟩:=mn_le L (L.headD 0)
 have hx:=(C.mem x).mpr (Conn.refl x)
 have hd:L.headD 0∈L:=by
  cases L with
  | nil=>cases hx
  | cons z r=>exact List.mem_cons_self
 refine ⟨(C.mem _).mp ?_,fun y hy=>h2 y ((C.mem y).mpr hy)⟩
 rcases h3 with e | e
 ·unfold mn;rw [e];exact hd
 ·exact e
theorem mn_inj (T:Two N a b) {x y:Nat} {L M:List Nat} (hx:x < N) (hy:y < N) (C:IsComp a b x L) (D:IsComp a b y M) (e:mn L = mn M):Conn a b x y:=by
 have h1:=(mn_comp C).1
 rw [e] at h1
 exact h1.trans ((mn_comp D).1.symm T hy)
theorem keys_nodup (T:Two N a b):((unL N a b).map fun th=>mn th.2).Nodup:=by
 have cA:∀ u,u∈lsL N a→IsComp a b u (thr b a u):=fun u hu=>by
  obtain ⟨u1,u2⟩:=mem_ls.mp hu
  have C:=thr_comp T.swap u1 (.inl u2)
  exact ⟨C.nd,fun y=>by rw [← conn_swap];exact C.mem y⟩
 have cB:∀ u,u∈lsL N b→IsComp a b u (thr a b u):=fun u hu=>by
  obtain ⟨u1,u2⟩:=mem_ls.mp hu
  exact thr_comp T u1 (.inl u2)
 unfold unL openL openA openB ringsTo
 rw [List.map_append,List.map_append,List.map_map,List.map_map,List.map_map]
 refine List.nodup_append.mpr ⟨List.nodup_append.mpr ⟨nodup_map (nd_ls.filter _) fun x hx y hy e=>?_,nodup_map (nd_ls.filter _) fun x hx y hy e=>?_,?_⟩,nodup_map nd_RL fun x hx y hy e=>?_,?_⟩
 ·obtain ⟨x1,x2⟩:=List.mem_filter.mp hx
  obtain ⟨y1,y2⟩:=List.mem_filter.mp hy
  obtain ⟨xl,ax⟩:=mem_ls.mp x1
  obtain ⟨yl,ay⟩:=mem_ls.mp y1
  have c:=mn_inj T xl yl (cA x x1) (cA y y1) e
  have px:pA a b x:=of_decide_eq_true x2
  have py:pA a b y:=of_decide_eq_true y2
  by_cases o:(thr b a x).length % 2 = 1
  ·obtain ⟨z,z1,z2⟩:=(thr_odd T.swap xl ax).mp o
   exact (odd_one T xl ax c ay z1.swap z2).symm
  ·obtain ⟨l1,l2,l3,l4,l5⟩:=thr_even T.swap xl ax (by omega)
   rcases l4 y c.swap ay with e | e
   ·exact e.symm
   ·exfalso
    have o2:¬ (thr b a y).length % 2 = 1:=fun o2=>by
     obtain ⟨z,z1,z2⟩:=(thr_odd T.swap yl ay).mp o2
     exact l5 z (c.swap.trans z1) z2
    obtain ⟨m1,m2,m3,m4,m5⟩:=thr_even T.swap yl ay (by omega)
    have q1:x < lastD (thr b a x):=px.resolve_left o
    have q2:y < lastD (thr b a y):=py.resolve_left o2
    rcases l4 _ (c.swap.trans m2) m3 with w | w
    ·omega
    ·exact m1 (by omega)
 ·obtain ⟨x1,x2⟩:=List.mem_filter.mp hx
  obtain ⟨y1,y2⟩:=List.mem_filter.mp hy
  obtain ⟨xl,ax⟩:=mem_ls.mp x1
  obtain ⟨yl,ay⟩:=mem_ls.mp y1
  have c:=mn_inj T xl yl (cB x x1) (cB y y1) e
  obtain ⟨px1,px2⟩:pB a b x:=of_decide_eq_true x2
  obtain ⟨py1,py2⟩:pB a b y:=of_decide_eq_true y2
  obtain ⟨l1,l2,l3,l4,l5⟩:=thr_even T xl ax px1
  obtain ⟨m1,m2,m3,m4,m5⟩:=thr_even T yl ay py1
  rcases l4 y c ay with e | e
  ·exact e.symm
  ·rcases l4 _ (c.trans m2) m3 with w | w
   ·omega
   ·exact absurd (show lastD (thr a b y) = y by omega) m1
 ·intro p hp q hq e
  obtain ⟨x,hx,rfl⟩:=List.mem_map.mp hp
  obtain ⟨y,hy,rfl⟩:=List.mem_map.mp hq
  obtain ⟨x1,x2⟩:=List.mem_filter.mp hx
  obtain ⟨y1,y2⟩:=List.mem_filter.mp hy
  obtain ⟨xl,ax⟩:=mem_ls.mp x1
  obtain ⟨yl,ay⟩:=mem_ls.mp y1
  have c:=mn_inj T xl yl (cA x x1) (cB y y1) e
  obtain ⟨py1,py2⟩:pB a b y:=of_decide_eq_true y2
  obtain ⟨m1,m2,m3,m4,m5⟩:=thr_even T yl ay py1
  exact m5 x (c.symm T xl) ax
 ·obtain ⟨x1,x2,x3⟩:=mem_RL.mp hx
  obtain ⟨y1,y2,y3⟩:=mem_RL.mp hy
  have c:=mn_inj T x1 y1 (thr_comp T x1 (.inr x3)) (thr_comp T y1 (.inr y3)) e
  have:=x2 y c
  have:=y2 x (c.symm T x1)
  omega
 ·intro p hp q hq e
  obtain ⟨y,hy,rfl⟩:=List.mem_map.mp hq
  obtain ⟨y1,y2,y3⟩:=mem_RL.mp hy
  have key:∃ x,x < N∧¬ Whole a b x∧∃ L,IsComp a b x L∧p = mn L:=by
   rcases List.mem_append.mp hp with h | h
   ·obtain ⟨x,hx,rfl⟩:=List.mem_map.mp h
    have x1:=(List.mem_filter.mp hx).1
    obtain ⟨xl,ax⟩:=mem_ls.mp x1
    exact ⟨x,xl,fun w=>(w x (Conn.refl x)).1 ax,_,cA x x1,rfl⟩
   ·obtain ⟨x,hx,rfl⟩:=List.mem_map.mp h
    have x1:=(List.mem_filter.mp hx).1
    obtain ⟨xl,ax⟩:=mem_ls.mp x1
    exact ⟨x,xl,fun w=>(w x (Conn.refl x)).2 ax,_,cB x x1,rfl⟩
  obtain ⟨x,xl,nw,L,C,rfl⟩:=key
  exact nw (y3.of T y1 ((mn_inj T xl y1 C (thr_comp T y1 (.inr y3)) e).symm T xl))
theorem un_comp (T:Two N a b) {th:Kd×List Nat} (h:th∈unL N a b):∃ u,u < N∧IsComp a b u th.2:=by
 rcases List.mem_append.mp h with h | h
 ·obtain ⟨u,h1,_,h2⟩:=open_comp T h
  exact ⟨u,h1,h2⟩
 ·obtain ⟨m,hm,rfl⟩:=List.mem_map.mp h
  obtain ⟨m1,m2,m3⟩:=mem_RL.mp hm
  exact ⟨m,m1,thr_comp T m1 (.inr m3)⟩
theorem un_len (T:Two N a b):(unL N a b).length≤N:=by
 have z:=sub_len (keys_nodup T) (m:=List.range N) fun x hx=>by
  obtain ⟨th,h,rfl⟩:=List.mem_map.mp hx
  obtain ⟨u,hu,C⟩:=un_comp T h
  exact List.mem_range.mpr ((mn_comp C).1.lt T hu)
 rwa [List.length_map,List.length_range] at z
theorem un_odd (T:Two N a b):((unL N a b).filter fun th=>th.1 = .odd).length = (OL a b N).length:=by
 unfold unL openL openA openB ringsTo
 rw [List.filter_append,List.filter_append,List.filter_map,List.filter_map,List.filter_map,List.length_append,List.length_append,List.length_map,List.length_map,List.length_map]
 have e1:(((lsL N b).filter fun z=>decide (pB a b z)).filter ((fun th:Kd×List Nat=>decide (th.1 = .odd)) ∘ eB a b)) = []:=List.filter_eq_nil_iff.mpr fun x _=>by simp [eB]
 have e2:((RL a b N).filter ((fun th:Kd×List Nat=>decide (th.1 = .odd)) ∘ fun m=>(Kd.ring,thr a b m))) = []:=List.filter_eq_nil_iff.mpr fun x _=>by simp
 rw [e1,e2]
 have e3:(((lsL N a).filter fun u=>decide (pA a b u)).filter ((fun th:Kd×List Nat=>decide (th.1 = .odd)) ∘ eA a b)) = OL a b N:=by
  unfold OL lsL
  rw [List.filter_filter,List.filter_filter]
  refine List.filter_congr fun x hx=>?_
  have xl:=List.mem_range.mp hx
  rw [Bool.eq_iff_iff,Bool.and_eq_true,Bool.and_eq_true,beq_iff_eq,decide_eq_true_iff,decide_eq_true_iff]
  show (decide ((if (thr b a x).length % 2 = 1 then Kd.odd else Kd.bare) = Kd.odd) = true∧_)∧_↔_
  rw [decide_eq_true_iff]
  constructor
  ·rintro ⟨⟨h1,h2⟩,h3⟩
   have ax:=h3.symm
   have o:(thr b a x).length % 2 = 1:=by
    refine Classical.byContradiction fun z=>?_
    rw [if_neg z] at h1
    cases h1
   obtain ⟨z,z1,z2⟩:=(thr_odd T.swap xl ax).mp o
   exact ⟨ax,z,z1.swap,z2⟩
  ·rintro ⟨ax,z,z1,z2⟩
   have o:=(thr_odd T.swap xl ax).mpr ⟨z,z1.swap,z2⟩
   exact ⟨⟨by rw [if_pos o],.inl o⟩,ax.symm⟩
 rw [e3]
 rfl
theorem un_ring:((unL N a b).filter fun th=>th.1 = .ring).length = (RL a b N).length:=by
 unfold unL openL openA openB ringsTo
 rw [List.filter_append,List.filter_append,List.filter_map,List.filter_map,List.filter_map,List.length_append,List.length_append,List.length_map,List.length_map,List.length_map]
 have e1:(((lsL N b).filter fun z=>decide (pB a b z)).filter ((fun th:Kd×List Nat=>decide (th.1 = .ring)) ∘ eB a b)) = []:=List.filter_eq_nil_iff.mpr fun x _=>by simp [eB]
 have e3:(((lsL N a).filter fun u=>decide (pA a b u)).filter ((fun th:Kd×List Nat=>decide (th.1 = .ring)) ∘ eA a b)) = []:=List.filter_eq_nil_iff.mpr fun x _=>by
  simp only [Function.comp,eA]
  split <;> simp
 have e2:((RL a b N).filter ((fun th:Kd×List Nat=>decide (th.1 = .ring)) ∘ fun m=>(Kd.ring,thr a b m))) = RL a b N:=List.filter_eq_self.mpr fun x _=>by simp
 rw [e1,e2,e3]
 simp
end
end Th

namespace Th
open Classical
noncomputable def cnt (N:Nat) (P:Nat→Prop):Nat:=((List.range N).filter fun x=>decide (P x)).length
theorem cnt_congr {N:Nat} {P Q:Nat→Prop} (h:∀ x,x < N→(P x↔Q x)):cnt N P = cnt N Q:=by
 unfold cnt
 congr 1
 refine List.filter_congr fun x hx=>?_
 have:=h x (List.mem_range.mp hx)
 simp [this]
theorem cnt_add {N m:Nat} {P Q:Nat→Prop} (hm:m < N) (hP:¬ P m) (h:∀ x,x < N→(Q x↔P x∨x = m)):cnt N Q = cnt N P + 1:=by
 unfold cnt
 have nd:(List.range N).Nodup:=List.nodup_range
 have mem:m∈List.range N:=List.mem_range.mpr hm
 have lt:∀ x∈List.range N,x < N:=fun x hx=>List.mem_range.mp hx
 generalize List.range N = l at nd mem lt
 induction l with
 | nil=>cases mem
 | cons y l ih =>
  rw [List.nodup_cons] at nd
  have hy:=h y (lt y (List.mem_cons_self ..))
  by_cases e:y = m
  ·subst e
   have hq:Q y:=hy.mpr (.inr rfl)
   rw [List.filter_cons_of_pos (by simpa using hq),List.filter_cons_of_neg (by simpa using hP),List.length_cons]
   congr 2
   refine List.filter_congr fun x hx=>?_
   have h1:=h x (lt x (List.mem_cons_of_mem _ hx))
   have h2:x≠y:=fun z=>nd.1 (z ▸ hx)
   simp [h1,h2]
  ·have mem:m∈l:=by
    rcases List.mem_cons.mp mem with z | z
    ·exact absurd z.symm e
    ·exact z
   have ih:=ih nd.2 mem (fun x hx=>lt x (List.mem_cons_of_mem _ hx))
   by_cases hp:P y
   ·rw [List.filter_cons_of_pos (by simpa using hy.mpr (.inl hp)),List.filter_cons_of_pos (by simpa using hp),List.length_cons,List.length_cons,ih]
   ·have hq:¬ Q y:=fun z=>by
     rcases hy.mp z with z | z
     ·exact hp z
     ·exact e z
    rw [List.filter_cons_of_neg (by simpa using hq),List.filter_cons_of_neg (by simpa using hp),ih]
variable {N:Nat} {a b:Nat→Nat}
noncomputable def OddE (a b:Nat→Nat) (u:Nat):Prop:=∃ z,Conn a b u z∧b z = z
theorem score_cnt:score a b N = 2 * cnt N (fun m=>Least a b m∧Whole a b m) + cnt N (fun u=>a u = u∧OddE a b u):=by
 unfold score cnt RL OL OddE
 congr 1
 ·congr 2;refine List.filter_congr fun x _=>?_;simp
 ·congr 1;refine List.filter_congr fun x _=>?_;simp
theorem conn_congr {a2 b2:Nat→Nat} (T:Two N a b) (ea:∀ x,x < N→a2 x = a x) (eb:∀ x,x < N→b2 x = b x) {x y:Nat} (hx:x < N) (h:Conn a b x y):Conn a2 b2 x y:=fun S h1 h2 =>
 (h (fun z=>z < N∧S z) ⟨hx,h1⟩ fun z ⟨z1,z2⟩=>⟨⟨T.fl z z1,ea z z1 ▸ (h2 z z2).1⟩,⟨T.gl z z1,eb z z1 ▸ (h2 z z2).2⟩⟩).2
theorem Two.congr {a2 b2:Nat→Nat} (T:Two N a b) (ea:∀ x,x < N→a2 x = a x) (eb:∀ x,x < N→b2 x = b x):Two N a2 b2 :=
 ⟨fun x h=>by rw [ea x h];exact T.fl x h,fun x h=>by rw [eb x h];exact T.gl x h,fun x h=>by rw [ea x h,ea _ (T.fl x h)];exact T.ff x h,fun x h=>by rw [eb x h,eb _ (T.gl x h)];exact T.gg x h⟩
theorem score_congr {a2 b2:Nat→Nat} (T:Two N a b) (ea:∀ x,x < N→a2 x = a x) (eb:∀ x,x < N→b2 x = b x):score a2 b2 N = score a b N:=by
 have T2:=T.congr ea eb
 have cc:∀ x y,x < N→(Conn a2 b2 x y↔Conn a b x y):=fun x y hx=>⟨fun h=>conn_congr T2 (fun z hz=>(ea z hz).symm) (fun z hz=>(eb z hz).symm) hx h,fun h=>conn_congr T ea eb hx h⟩
 rw [score_cnt,score_cnt]
 congr 1
 ·congr 1
  refine cnt_congr fun m hm=>?_
  unfold Least Whole
  constructor
  ·rintro ⟨h1,h2⟩
   refine ⟨fun y hy=>h1 y ((cc m y hm).mpr hy),fun y hy=>?_⟩
   have hyN:=hy.lt T hm
   have:=h2 y ((cc m y hm).mpr hy)
   rwa [ea y hyN,eb y hyN] at this
  ·rintro ⟨h1,h2⟩
   refine ⟨fun y hy=>h1 y ((cc m y hm).mp hy),fun y hy=>?_⟩
   have hy:=(cc m y hm).mp hy
   have hyN:=hy.lt T hm
   rw [ea y hyN,eb y hyN]
   exact h2 y hy
 ·refine cnt_congr fun u hu=>?_
  unfold OddE
  rw [ea u hu]
  constructor
  ·rintro ⟨h1,z,h2,h3⟩
   have h2:=(cc u z hu).mp h2
   exact ⟨h1,z,h2,by rwa [eb z (h2.lt T hu)] at h3⟩
  ·rintro ⟨h1,z,h2,h3⟩
   exact ⟨h1,z,(cc u z hu).mpr h2,by rw [eb z (h2.lt T hu)];exact h3⟩
noncomputable def link (a:Nat→Nat) (u v x:Nat):Nat:=if x = u then v else if x = v then u else a x
section
variable {u v:Nat}
theorem link_two (T:Two N a b) (hu:u < N) (hv:v < N) (au:a u = u) (av:a v = v):Two N (link a u v) b:=by
 refine ⟨fun x h=>?_,T.gl,fun x h=>?_,T.gg⟩
 ·have:=T.fl x h
  unfold link
  split
  ·exact hv
  ·split <;> assumption
 ·have:=T.ff x h
  have:=T.fl x h
  unfold link
  grind
theorem conn_link (T:Two N a b) (hu:u < N) (hv:v < N) (au:a u = u) (av:a v = v) (x y:Nat):Conn (link a u v) b x y↔Conn a b x y∨(Conn a b x u∧Conn a b v y)∨(Conn a b x v∧Conn a b u y):=by
 have up:∀ {x y},Conn a b x y→Conn (link a u v) b x y:=fun {x y} h S h1 h2=>h S h1 fun z hz=>by
  have:=h2 z hz
  unfold link at this
  refine ⟨?_,this.2⟩
  by_cases e1:z = u
  ·rw [e1,au];rwa [e1] at hz
  ·by_cases e2:z = v
   ·rw [e2,av];rwa [e2] at hz
   ·simpa [e1,e2] using this.1
 have uv:Conn (link a u v) b u v:=by
  have:=(Conn.refl (f:=link a u v) (g:=b) u).sf
  rwa [show link a u v u = v by unfold link;rw [if_pos rfl]] at this
 have vu:Conn (link a u v) b v u:=by
  have:=(Conn.refl (f:=link a u v) (g:=b) v).sf
  by_cases e:v = u
  ·subst e;exact Conn.refl _
  ·rwa [show link a u v v = u by unfold link;rw [if_neg e,if_pos rfl]] at this
 constructor
 ·intro h
  refine h (fun y=>Conn a b x y∨(Conn a b x u∧Conn a b v y)∨(Conn a b x v∧Conn a b u y)) (.inl (Conn.refl _)) fun z hz=>⟨?_,?_⟩
  ·show Conn a b x (link a u v z)∨(Conn a b x u∧Conn a b v (link a u v z))∨(Conn a b x v∧Conn a b u (link a u v z))
   unfold link
   by_cases e1:z = u
   ·subst e1
    rw [if_pos rfl]
    rcases hz with h1 | ⟨h1,h2⟩ | ⟨h1,h2⟩
    ·exact .inr (.inl ⟨h1,Conn.refl _⟩)
    ·exact .inr (.inl ⟨h1,Conn.refl _⟩)
    ·exact .inl h1
   ·rw [if_neg e1]
    by_cases e2:z = v
    ·subst e2
     rw [if_pos rfl]
     rcases hz with h1 | ⟨h1,h2⟩ | ⟨h1,h2⟩
     ·exact .inr (.inr ⟨h1,Conn.refl _⟩)
     ·exact .inl h1
     ·exact .inr (.inr ⟨h1,Conn.refl _⟩)
    ·rw [if_neg e2]
     rcases hz with h1 | ⟨h1,h2⟩ | ⟨h1,h2⟩
     ·exact .inl h1.sf
     ·exact .inr (.inl ⟨h1,h2.sf⟩)
     ·exact .inr (.inr ⟨h1,h2.sf⟩)
  ·rcases hz with h1 | ⟨h1,h2⟩ | ⟨h1,h2⟩
   ·exact .inl h1.sg
   ·exact .inr (.inl ⟨h1,h2.sg⟩)
   ·exact .inr (.inr ⟨h1,h2.sg⟩)
 ·rintro (h | ⟨h1,h2⟩ | ⟨h1,h2⟩)
  ·exact up h
  ·exact ((up h1).trans uv).trans (up h2)
  ·exact ((up h1).trans vu).trans (up h2)
noncomputable def pt (a b:Nat→Nat) (u:Nat):Option Nat:=if h:∃ v,v≠u∧Conn a b u v∧a v = v then some (choose h) else none
theorem pt_odd (T:Two N a b) (hu:u < N) (au:a u = u):pt a b u = none↔OddE a b u:=by
 unfold pt
 constructor
 ·intro h
  by_cases c:OddE a b u
  ·exact c
  ·obtain ⟨v,v1,v2,v3,_⟩:=bare_two T hu au c
   rw [dif_pos ⟨v,v1,v2,v3⟩] at h
   cases h
 ·rintro ⟨z,z1,z2⟩
  rw [dif_neg]
  rintro ⟨v,v1,v2,v3⟩
  exact v1 (odd_one T hu au v2 v3 z1 z2)
theorem pt_some (T:Two N a b) (hu:u < N) (au:a u = u):pt a b u = some v↔v≠u∧Conn a b u v∧a v = v:=by
 constructor
 ·intro h
  unfold pt at h
  split at h
  ·rename_i hx
   have:=choose_spec hx
   rw [Option.some.inj h] at this
   exact this
  ·cases h
 ·rintro ⟨v1,v2,v3⟩
  have no:¬ OddE a b u:=fun ⟨z,z1,z2⟩=>v1 (odd_one T hu au v2 v3 z1 z2)
  obtain ⟨w,w1,w2,w3,w4⟩:=bare_two T hu au no
  have hx:∃ v,v≠u∧Conn a b u v∧a v = v:=⟨v,v1,v2,v3⟩
  unfold pt
  rw [dif_pos hx]
  obtain ⟨q1,q2,q3⟩:=choose_spec hx
  have e1:=(w4 v v2 v3).resolve_left v1
  have e2:=(w4 _ q2 q3).resolve_left q1
  rw [e2,e1]
theorem pt_sym (T:Two N a b) (hu:u < N) (au:a u = u) (h:pt a b u = some v):v < N∧a v = v∧v≠u∧pt a b v = some u:=by
 obtain ⟨h1,h2,h3⟩:=(pt_some T hu au).mp h
 have hv:=h2.lt T hu
 exact ⟨hv,h3,h1,(pt_some T hv h3).mpr ⟨h1.symm,h2.symm T hu,au⟩⟩
theorem pt_conn (T:Two N a b) (hu:u < N) (au:a u = u) (av:a v = v) (h:Conn a b u v):v = u∨pt a b u = some v:=by
 by_cases e:v = u
 ·exact .inl e
 ·exact .inr ((pt_some T hu au).mpr ⟨e,h,av⟩)
noncomputable def dl (a b:Nat→Nat) (u v:Nat):Int:=if pt a b u = some v then 2 else if pt a b u = none∧pt a b v = none then -2 else 0
theorem link_pt (T:Two N a b) (hu:u < N) (hv:v < N) (au:a u = u) (av:a v = v) (huv:u≠v) {w:Nat} (hw:w < N) (aw:a w = w) (wu:w≠u) (wv:w≠v) :
  pt (link a u v) b w = if pt a b w = some u then pt a b v else if pt a b w = some v then pt a b u else pt a b w:=by
 have T2:=link_two T hu hv au av
 have lw:∀ {x},x≠u→x≠v→link a u v x = a x:=fun {x} h1 h2=>by unfold link;rw [if_neg h1,if_neg h2]
 have lu:link a u v u = v:=by unfold link;rw [if_pos rfl]
 have lv:link a u v v = u:=by unfold link;rw [if_neg huv.symm,if_pos rfl]
 have law:link a u v w = w:=by rw [lw wu wv];exact aw
 have cl:=conn_link T hu hv au av
 by_cases c1:pt a b w = some u
 ·rw [if_pos c1]
  obtain ⟨_,_,_,c1s⟩:=pt_sym T hw aw c1
  obtain ⟨d1,d2,d3⟩:=(pt_some T hw aw).mp c1
  cases hp:pt a b v with
  | none =>
   obtain ⟨z,z1,z2⟩:=(pt_odd T hv av).mp hp
   exact (pt_odd T2 hw law).mpr ⟨z,(cl w z).mpr (.inr (.inl ⟨d2,z1⟩)),z2⟩
  | some v' =>
   obtain ⟨e1,e2,e3⟩:=(pt_some T hv av).mp hp
   obtain ⟨_,_,_,hps⟩:=pt_sym T hv av hp
   have n1:v'≠w:=fun z=>by rw [z,c1] at hps;exact huv (Option.some.inj hps)
   have n2:v'≠u:=fun z=>by rw [z,c1s] at hps;exact wv (Option.some.inj hps)
   exact (pt_some T2 hw law).mpr ⟨n1,(cl w v').mpr (.inr (.inl ⟨d2,e2⟩)),by rw [lw n2 e1];exact e3⟩
 ·rw [if_neg c1]
  by_cases c2:pt a b w = some v
  ·rw [if_pos c2]
   obtain ⟨_,_,_,c2s⟩:=pt_sym T hw aw c2
   obtain ⟨d1,d2,d3⟩:=(pt_some T hw aw).mp c2
   cases hp:pt a b u with
   | none =>
    obtain ⟨z,z1,z2⟩:=(pt_odd T hu au).mp hp
    exact (pt_odd T2 hw law).mpr ⟨z,(cl w z).mpr (.inr (.inr ⟨d2,z1⟩)),z2⟩
   | some u' =>
    obtain ⟨e1,e2,e3⟩:=(pt_some T hu au).mp hp
    obtain ⟨_,_,_,hps⟩:=pt_sym T hu au hp
    have n1:u'≠w:=fun z=>by rw [z,c2] at hps;exact huv (Option.some.inj hps).symm
    have n2:u'≠v:=fun z=>by rw [z,c2s] at hps;exact wu (Option.some.inj hps)
    exact (pt_some T2 hw law).mpr ⟨n1,(cl w u').mpr (.inr (.inr ⟨d2,e2⟩)),by rw [lw e1 n2];exact e3⟩
  ·rw [if_neg c2]
   cases hp:pt a b w with
   | none =>
    obtain ⟨z,z1,z2⟩:=(pt_odd T hw aw).mp hp
    exact (pt_odd T2 hw law).mpr ⟨z,(cl w z).mpr (.inl z1),z2⟩
   | some w' =>
    obtain ⟨e1,e2,e3⟩:=(pt_some T hw aw).mp hp
    have n1:w'≠u:=fun z=>c1 (by rw [hp,z])
    have n2:w'≠v:=fun z=>c2 (by rw [hp,z])
    exact (pt_some T2 hw law).mpr ⟨e1,(cl w w').mpr (.inl e2),by rw [lw n1 n2];exact e3⟩
theorem link_score (T:Two N a b) (hu:u < N) (hv:v < N) (au:a u = u) (av:a v = v) (huv:u≠v):(score (link a u v) b N:Int) = score a b N + dl a b u v:=by
 have T2:=link_two T hu hv au av
 have lw:∀ {x},x≠u→x≠v→link a u v x = a x:=fun {x} h1 h2=>by unfold link;rw [if_neg h1,if_neg h2]
 have lu:link a u v u = v:=by unfold link;rw [if_pos rfl]
 have lv:link a u v v = u:=by unfold link;rw [if_neg huv.symm,if_pos rfl]
 have cl:=conn_link T hu hv au av
 have lo:∀ x,link a u v x = x↔a x = x∧x≠u∧x≠v:=fun x=>by
  unfold link
  constructor
  ·intro h
   split at h
   ·rename_i e;exact absurd (h.trans e).symm huv
   ·split at h
    ·rename_i e;exact absurd (h.trans e) huv
    ·exact ⟨h,by assumption,by assumption⟩
  ·rintro ⟨h1,h2,h3⟩
   rw [if_neg h2,if_neg h3]
   exact h1
 have od:∀ w,w < N→((link a u v w = w∧OddE (link a u v) b w)↔(a w = w∧w≠u∧w≠v∧(if pt a b w = some u then pt a b v else if pt a b w = some v then pt a b u else pt a b w) = none)):=fun w hw=>by
  constructor
  ·rintro ⟨h1,h2⟩
   obtain ⟨h3,h4,h5⟩:=(lo w).mp h1
   refine ⟨h3,h4,h5,?_⟩
   rw [← link_pt T hu hv au av huv hw h3 h4 h5]
   exact (pt_odd T2 hw h1).mpr h2
  ·rintro ⟨h3,h4,h5,h6⟩
   have h1:=(lo w).mpr ⟨h3,h4,h5⟩
   rw [← link_pt T hu hv au av huv hw h3 h4 h5] at h6
   exact ⟨h1,(pt_odd T2 hw h1).mp h6⟩
 have od0:∀ w,w < N→((a w = w∧OddE a b w)↔(a w = w∧pt a b w = none)):=fun w hw=>by
  constructor
  ·rintro ⟨h1,h2⟩;exact ⟨h1,(pt_odd T hw h1).mpr h2⟩
  ·rintro ⟨h1,h2⟩;exact ⟨h1,(pt_odd T hw h1).mp h2⟩
 have sy:∀ {x y},x < N→a x = x→pt a b x = some y→pt a b y = some x:=fun hx ax h=>(pt_sym T hx ax h).2.2.2
 rw [score_cnt,score_cnt]
 have far:∀ m,m < N→¬ Conn a b m u→¬ Conn a b m v→((Least (link a u v) b m∧Whole (link a u v) b m)↔(Least a b m∧Whole a b m)):=fun m hm n1 n2=>by
  have cc:∀ y,Conn (link a u v) b m y↔Conn a b m y:=fun y=>by
   rw [cl m y]
   constructor
   ·rintro (h | ⟨h,_⟩ | ⟨h,_⟩)
    ·exact h
    ·exact absurd h n1
    ·exact absurd h n2
   ·exact .inl
  unfold Least Whole
  constructor
  ·rintro ⟨h1,h2⟩
   refine ⟨fun y hy=>h1 y ((cc y).mpr hy),fun y hy=>?_⟩
   have:=h2 y ((cc y).mpr hy)
   rwa [lw (fun z=>n1 (z ▸ hy)) (fun z=>n2 (z ▸ hy))] at this
  ·rintro ⟨h1,h2⟩
   refine ⟨fun y hy=>h1 y ((cc y).mp hy),fun y hy=>?_⟩
   have hy:=(cc y).mp hy
   rw [lw (fun z=>n1 (z ▸ hy)) (fun z=>n2 (z ▸ hy))]
   exact h2 y hy
 have near:∀ m,Conn a b m u∨Conn a b m v→¬ Whole a b m:=fun m h w=>by
  rcases h with h | h
  ·exact (w u h).1 au
  ·exact (w v h).1 av
 have rs:(∃ z,(Conn (link a u v) b u z∧(link a u v z = z∨b z = z)))→cnt N (fun m=>Least (link a u v) b m∧Whole (link a u v) b m) = cnt N (fun m=>Least a b m∧Whole a b m):=fun ⟨z,z1,z2⟩=>cnt_congr fun m hm=>by
  by_cases n1:Conn a b m u∨Conn a b m v
  ·constructor
   ·rintro ⟨_,h2⟩
    have mz:Conn (link a u v) b m z:=by
     rcases n1 with n1 | n1
     ·exact Conn.trans ((cl m u).mpr (.inl n1)) z1
     ·exact Conn.trans ((cl m u).mpr (.inr (.inr ⟨n1,Conn.refl _⟩))) z1
    have:=h2 z mz
    rcases z2 with z2 | z2
    ·exact absurd z2 this.1
    ·exact absurd z2 this.2
   ·rintro ⟨_,h2⟩
    exact absurd h2 (near m n1)
  ·exact far m hm (fun z=>n1 (.inl z)) (fun z=>n1 (.inr z))
 unfold dl
 by_cases c1:pt a b u = some v
 ·have c1s:=sy hu au c1
  rw [if_pos c1]
  obtain ⟨_,cuv,_⟩:=(pt_some T hu au).mp c1
  have nou:¬ OddE a b u:=fun h=>by rw [(pt_odd T hu au).mpr h] at c1;cases c1
  have e1:cnt N (fun w=>link a u v w = w∧OddE (link a u v) b w) = cnt N (fun w=>a w = w∧OddE a b w):=cnt_congr fun w hw=>by
   rw [od w hw,od0 w hw]
   constructor
   ·rintro ⟨h1,h2,h3,h4⟩
    refine ⟨h1,?_⟩
    split at h4
    ·rename_i e;have:=sy hw h1 e;rw [c1] at this;exact absurd (Option.some.inj this).symm h3
    ·split at h4
     ·rename_i e;have:=sy hw h1 e;rw [c1s] at this;exact absurd (Option.some.inj this).symm h2
     ·exact h4
   ·rintro ⟨h1,h2⟩
    refine ⟨h1,fun z=>(by rw [z,c1] at h2;cases h2),fun z=>(by rw [z,c1s] at h2;cases h2),?_⟩
    rw [h2];rfl
  obtain ⟨m0,m1,m2,m3⟩:=least_ex T hu
  have e2:cnt N (fun m=>Least (link a u v) b m∧Whole (link a u v) b m) = cnt N (fun m=>Least a b m∧Whole a b m) + 1:=by
   have m0u:=m1.symm T hu
   refine cnt_add m2 (fun z=>near m0 (.inl m0u) z.2) fun m hm=>?_
   by_cases n1:Conn a b m u
   ·have cc:∀ y,Conn (link a u v) b m y↔Conn a b m y:=fun y=>by
     rw [cl m y]
     constructor
     ·rintro (h | ⟨h,h'⟩ | ⟨h,h'⟩)
      ·exact h
      ·exact (n1.trans cuv).trans h'
      ·exact n1.trans h'
     ·exact .inl
    have wh:Whole (link a u v) b m:=fun y hy=>by
     have hy:=(cc y).mp hy
     have uy:Conn a b u y:=(n1.symm T hm).trans hy
     refine ⟨fun z=>?_,fun z=>nou ⟨y,uy,z⟩⟩
     obtain ⟨z1,z2,z3⟩:=(lo y).mp z
     rcases pt_conn T hu au z1 uy with e | e
     ·exact z2 e
     ·rw [c1] at e;exact z3 (Option.some.inj e).symm
    constructor
    ·rintro ⟨h1,_⟩
     have q1:=h1 m0 ((cc m0).mpr (n1.trans m1))
     have q2:=m3 m (m0u.trans (n1.symm T hm))
     exact .inr (by omega)
    ·rintro (h | h)
     ·exact absurd h.2 (near m (.inl n1))
     ·subst h
      exact ⟨fun y hy=>m3 y ((cc y).mp hy),wh⟩
   ·have n2:¬ Conn a b m v:=fun z=>n1 (z.trans (cuv.symm T hu))
    rw [far m hm n1 n2]
    constructor
    ·exact .inl
    ·rintro (h | h)
     ·exact h
     ·subst h;exact absurd m0u n1
  rw [e1,e2]
  omega
 ·rw [if_neg c1]
  have c1v:pt a b v≠some u:=fun z=>c1 (sy hv av z)
  by_cases c2:pt a b u = none∧pt a b v = none
  ·obtain ⟨c2,c3⟩:=c2
   rw [if_pos ⟨c2,c3⟩]
   have nw:∀ w,w < N→a w = w→pt a b w≠some u∧pt a b w≠some v:=fun w hw aw=>⟨fun z=>(by have:=sy hw aw z;rw [c2] at this;cases this),fun z=>(by have:=sy hw aw z;rw [c3] at this;cases this)⟩
   have e1:cnt N (fun w=>a w = w∧OddE a b w) = cnt N (fun w=>(link a u v w = w∧OddE (link a u v) b w)∨w = u) + 1:=by
    refine cnt_add hv ?_ fun w hw=>?_
    ·rintro (h | h)
     ·exact ((lo v).mp h.1).2.2 rfl
     ·exact huv h.symm
    ·rw [od w hw,od0 w hw]
     constructor
     ·rintro ⟨h1,h2⟩
      by_cases q1:w = u
      ·exact .inl (.inr q1)
      ·by_cases q2:w = v
       ·exact .inr q2
       ·refine .inl (.inl ⟨h1,q1,q2,?_⟩)
        rw [h2];rfl
     ·rintro ((⟨h1,h2,h3,h4⟩ | h) | h)
      ·rw [if_neg (nw w hw h1).1,if_neg (nw w hw h1).2] at h4
       exact ⟨h1,h4⟩
      ·subst h;exact ⟨au,c2⟩
      ·subst h;exact ⟨av,c3⟩
   have e2:cnt N (fun w=>(link a u v w = w∧OddE (link a u v) b w)∨w = u) = cnt N (fun w=>link a u v w = w∧OddE (link a u v) b w) + 1 :=
    cnt_add hu (fun z=>((lo u).mp z.1).2.1 rfl) fun w hw=>Iff.rfl
   have e3:=rs (by
    obtain ⟨z,z1,z2⟩:=(pt_odd T hu au).mp c2
    exact ⟨z,(cl u z).mpr (.inl z1),.inr z2⟩)
   rw [e1,e2,e3]
   omega
  ·rw [if_neg c2]
   cases hpu:pt a b u with
   | some u' =>
    obtain ⟨u1,u2,u3,u4⟩:=pt_sym T hu au hpu
    have nuv:u'≠v:=fun z=>c1 (by rw [hpu,z])
    have e3:=rs ⟨u',(cl u u').mpr (.inl ((pt_some T hu au).mp hpu).2.1),.inl ((lo u').mpr ⟨u2,u3,nuv⟩)⟩
    rw [e3]
    cases hpv:pt a b v with
    | some v' =>
     obtain ⟨v1,v2,v3,v4⟩:=pt_sym T hv av hpv
     have e1:cnt N (fun w=>link a u v w = w∧OddE (link a u v) b w) = cnt N (fun w=>a w = w∧OddE a b w):=cnt_congr fun w hw=>by
      rw [od w hw,od0 w hw]
      constructor
      ·rintro ⟨h1,h2,h3,h4⟩
       refine ⟨h1,?_⟩
       split at h4
       ·rw [hpv] at h4;cases h4
       ·split at h4
        ·rw [hpu] at h4;cases h4
        ·exact h4
      ·rintro ⟨h1,h2⟩
       refine ⟨h1,fun z=>(by rw [z,hpu] at h2;cases h2),fun z=>(by rw [z,hpv] at h2;cases h2),?_⟩
       rw [h2];rfl
     rw [e1]
     omega
    | none =>
     have nw:∀ w,w < N→a w = w→pt a b w≠some v:=fun w hw aw z=>by have:=sy hw aw z;rw [hpv] at this;cases this
     have e1:cnt N (fun w=>a w = w∧OddE a b w) = cnt N (fun w=>a w = w∧OddE a b w∧w≠v) + 1:=by
      refine cnt_add hv (fun z=>z.2.2 rfl) fun w hw=>?_
      constructor
      ·rintro ⟨h1,h2⟩
       by_cases q:w = v
       ·exact .inr q
       ·exact .inl ⟨h1,h2,q⟩
      ·rintro (⟨h1,h2,_⟩ | h)
       ·exact ⟨h1,h2⟩
       ·subst h;exact ⟨av,(pt_odd T hw av).mp hpv⟩
     have e2:cnt N (fun w=>link a u v w = w∧OddE (link a u v) b w) = cnt N (fun w=>a w = w∧OddE a b w∧w≠v) + 1:=by
      refine cnt_add u1 (fun z=>by have:=(pt_odd T u1 u2).mpr z.2.1;rw [u4] at this;cases this) fun w hw=>?_
      rw [od w hw]
      constructor
      ·rintro ⟨h1,h2,h3,h4⟩
       split at h4
       ·rename_i e
        have:=sy hw h1 e
        rw [hpu] at this
        exact .inr (Option.some.inj this).symm
       ·rw [if_neg (nw w hw h1)] at h4
        exact .inl ⟨h1,(pt_odd T hw h1).mp h4,h3⟩
      ·rintro (⟨h1,h2,h3⟩ | h)
       ·have h4:=(pt_odd T hw h1).mpr h2
        refine ⟨h1,fun z=>(by rw [z,hpu] at h4;cases h4),h3,?_⟩
        rw [h4];rfl
       ·subst h
        refine ⟨u2,u3,nuv,?_⟩
        rw [if_pos u4]
        exact hpv
     rw [e1,e2]
     omega
   | none =>
    cases hpv:pt a b v with
    | none=>exact absurd ⟨hpu,hpv⟩ c2
    | some v' =>
     obtain ⟨v1,v2,v3,v4⟩:=pt_sym T hv av hpv
     have nvu:v'≠u:=fun z=>c1v (by rw [hpv,z])
     have e3:=rs ⟨v',(cl u v').mpr (.inr (.inl ⟨Conn.refl _,((pt_some T hv av).mp hpv).2.1⟩)),.inl ((lo v').mpr ⟨v2,nvu,v3⟩)⟩
     rw [e3]
     have nw:∀ w,w < N→a w = w→pt a b w≠some u:=fun w hw aw z=>by have:=sy hw aw z;rw [hpu] at this;cases this
     have e1:cnt N (fun w=>a w = w∧OddE a b w) = cnt N (fun w=>a w = w∧OddE a b w∧w≠u) + 1:=by
      refine cnt_add hu (fun z=>z.2.2 rfl) fun w hw=>?_
      constructor
      ·rintro ⟨h1,h2⟩
       by_cases q:w = u
       ·exact .inr q
       ·exact .inl ⟨h1,h2,q⟩
      ·rintro (⟨h1,h2,_⟩ | h)
       ·exact ⟨h1,h2⟩
       ·subst h;exact ⟨au,(pt_odd T hw au).mp hpu⟩
     have e2:cnt N (fun w=>link a u v w = w∧OddE (link a u v) b w) = cnt N (fun w=>a w = w∧OddE a b w∧w≠u) + 1:=by
      refine cnt_add v1 (fun z=>by have:=(pt_odd T v1 v2).mpr z.2.1;rw [v4] at this;cases this) fun w hw=>?_
      rw [od w hw]
      constructor
      ·rintro ⟨h1,h2,h3,h4⟩
       rw [if_neg (nw w hw h1)] at h4
       split at h4
       ·rename_i e
        have:=sy hw h1 e
        rw [hpv] at this
        exact .inr (Option.some.inj this).symm
       ·exact .inl ⟨h1,(pt_odd T hw h1).mp h4,h2⟩
      ·rintro (⟨h1,h2,h3⟩ | h)
       ·have h4:=(pt_odd T hw h1).mpr h2
        refine ⟨h1,h3,fun z=>(by rw [z,hpv] at h4;cases h4),?_⟩
        rw [h4];rfl
       ·subst h
        refine ⟨v2,nvu,v3,?_⟩
        rw [if_neg (nw _ v1 v2),if_pos v4]
        exact hpu
     rw [e1,e2]
     omega
end
end Th

namespace L2E
open PySem PySem.Spec PyProof.Rows
open Sem (wp)
open AutoSeq1 (wpAny_loadPart')
section
variable {prog:Program} {w:World} {A:Around} {E:Value→Shared→Prop} {s:Shared}
theorem nextOf_tup_item {it t:Addr} {i:Nat} {items:Array Value} {x:Value} {Q:Value→Shared→Prop} (hit:s.heap.IsTupleIter it t i) (ht:s.heap.IsTuple t items) (hx:items[i]? = some x)
  (hQ:∀ h',h'.IsTupleIter it t (i + 1)→Heap.SameBut it s.heap h'→Q x { s with heap:=h' }):wpAny (model prog w) A (Builtin.SmallTypes.nextOf (.ref it)) Q E s:=by
 obtain ⟨o,ho,hc,hd⟩:=id hit
 obtain ⟨ol,hol,_,nl,hdl⟩:=ht
 unfold Builtin.SmallTypes.nextOf
 refine wpAny_bind (wpAny_callSpecial?_slot (name:=Str.ofString "__next__") hit.typeIs F.slot_tuple_iterator_next (wpAny_call_entry F.slot_tuple_iterator_next hit.typeIs F.entry_tuple_iterator_next ?_ (F.args_tuple_iterator_next_1 _)))
 show wpAny _ _ (field (.ref it) 0 >>= _) _ _ s
 refine wpAny_bind (wpAny_field ho hd (x:=.ref t) rfl ?_)
 show wpAny _ _ (if (Value.ref t == Value.none) = true then _ else _) _ _ s
 rw [if_neg (show ¬ ((Value.ref t == Value.none) = true) from Bool.false_ne_true)]
 show wpAny _ _ (field (.ref it) 1 >>= _) _ _ s
 refine wpAny_bind (wpAny_field ho hd (x:=.int i 0) rfl ?_)
 show wpAny _ _ (seqItems? (.ref t) >>= _) _ _ s
 refine wpAny_bind (wpAny_seqItems hol hdl ?_)
 simp only [Int.toNat_natCast,hx]
 refine wpAny_bind (wpAny_setField ho hd (by simp) (wpAny_pure ⟨x,rfl,wpAny_pure (hQ _ ?_ (Heap.SameBut.update ..))⟩))
 exact ⟨_,Heap.get?_update_self _ ho (Obj.isFreed_of_fields (Obj.data_mapFields hd _)),(Obj.cls_mapFields ..).trans hc,by
  rw [Obj.data_mapFields hd];simp [rawInt]⟩
theorem nextOf_tup_end {it t:Addr} {i:Nat} {items:Array Value} {Q:Value→Shared→Prop} (hh:A.handled = none) (hit:s.heap.IsTupleIter it t i) (ht:s.heap.IsTuple t items) (hx:items[i]? = none)
  (hE:∀ h' e,Heap.ExtBut it s.heap h'→(∃ o,h'.get? e = some o∧o.cls = .type "StopIteration")→E (.ref e) { s with heap:=h' }):wpAny (model prog w) A (Builtin.SmallTypes.nextOf (.ref it)) Q E s:=by
 obtain ⟨o,ho,hc,hd⟩:=id hit
 obtain ⟨ol,hol,_,nl,hdl⟩:=ht
 unfold Builtin.SmallTypes.nextOf
 refine wpAny_bind (wpAny_callSpecial?_slot (name:=Str.ofString "__next__") hit.typeIs F.slot_tuple_iterator_next (wpAny_call_entry F.slot_tuple_iterator_next hit.typeIs F.entry_tuple_iterator_next ?_ (F.args_tuple_iterator_next_1 _)))
 show wpAny _ _ (field (.ref it) 0 >>= _) _ _ s
 refine wpAny_bind (wpAny_field ho hd (x:=.ref t) rfl ?_)
 show wpAny _ _ (if (Value.ref t == Value.none) = true then _ else _) _ _ s
 rw [if_neg (show ¬ ((Value.ref t == Value.none) = true) from Bool.false_ne_true)]
 show wpAny _ _ (field (.ref it) 1 >>= _) _ _ s
 refine wpAny_bind (wpAny_field ho hd (x:=.int i 0) rfl ?_)
 show wpAny _ _ (seqItems? (.ref t) >>= _) _ _ s
 refine wpAny_bind (wpAny_seqItems hol hdl ?_)
 simp only [Int.toNat_natCast,hx]
 refine wpAny_bind (wpAny_rule (wpAny_bind (wpAny_setField ho hd (by simp) ?_)))
 show wpAny _ _ (newExc (.type "StopIteration") [] >>= _) _ _ _
 refine wpAny_bind ?_
 simp only [newExc,newTuple]
 refine wpAny_bind (wpAny_newObj_type ?_ (by size_fits))
 refine wpAny_bind (m:=firstArgMember _ _) (wpAny_of_eq (a:=Value.none) (by first | rfl | (simp only [firstArgMember];rfl)) ?_)
 refine wpAny_newObj_type ?_ (by size_fits)
 simp only [raiseNew]
 refine wpAny_bind (wpAny_handled ?_)
 first | rw [show A.in1.handled = none from hh] | rw [hh]
 refine wpAny_bind (wpAny_pure (wpAny_throw ?_))
 exact hE _ _ (((Heap.SameBut.update ..).extBut.push _).push _) ⟨_,Heap.get?_push_size _ rfl,rfl⟩

theorem enum_tup_next {e it l:Addr} {i:Nat} {items:Array Value} {x old:Value} {Q:Value→Shared→Prop}
  (he:IsEnum s.heap e it i old) (hit:s.heap.IsTupleIter it l i) (hl:s.heap.IsTuple l items) (hx:items[i]? = some x) (hne:e≠it)
  (hQ:∀ h',IsEnumOut h' e it ((i:Int) + 1) x s.heap.objs.size→h'.IsTupleIter it l (i + 1)→h'.get? s.heap.objs.size = some { cls:=.type "tuple",data:=.seq #[.int i s.toks,x] }→h'.objs.size = s.heap.objs.size + 1 →
   (∀ b o,b≠e→b≠it→s.heap.get? b = some o→h'.get? b = some o)→Q (.ref s.heap.objs.size) { s with heap:=h',toks:=s.toks + 1 }) :
  wpAny (model prog w) A (Builtin.«enumerate.__next__» ⟨[.ref e],[]⟩) (fun fin s'=>∃ v,fin = .done (.ret v)∧Q v s') E s:=by
 obtain ⟨hp,g,d,tk,os⟩:=s
 show wpAny _ _ (field (.ref e) 2 >>= _) _ _ _
 refine wpAny_bind (wpAny_field he rfl (x:=.ref it) rfl ?_)
 refine wpAny_bind (nextOf_tup_item hit hl hx fun h₁ hit₁ hs₁=>?_)
 replace hs₁:Heap.SameBut it hp h₁:=hs₁
 have he₁:IsEnum h₁ e it i old:=(hs₁.2 e hne).trans he
 show wpAny _ _ (field (.ref e) 3 >>= _) _ _ ⟨h₁,g,d,tk,os⟩
 refine wpAny_bind (wpAny_field he₁ rfl (x:=rawInt i) rfl ?_)
 show wpAny _ _ (field (.ref e) 4 >>= _) _ _ ⟨h₁,g,d,tk,os⟩
 refine wpAny_bind (wpAny_field he₁ rfl (x:=.none) rfl ?_)
 show wpAny _ _ (mkInt i >>= _) _ _ ⟨h₁,g,d,tk,os⟩
 refine wpAny_bind (wpAny_mkInt ?_)
 show wpAny _ _ (setField (.ref e) 3 (rawInt ((i:Int) + 1)) >>= _) _ _ ⟨h₁,g,d,tk + 1,os⟩
 refine wpAny_bind (wpAny_setField_rec he₁ (by simp) fun h₂ he₂ hs₂=>?_)
 replace hs₂:Heap.SameBut e h₁ h₂:=hs₂
 replace he₂:IsEnum h₂ e it ((i:Int) + 1) old:=he₂
 show wpAny _ _ (setField (.ref e) 4 .none >>= _) _ _ ⟨h₂,g,d,tk + 1,os⟩
 refine wpAny_bind (wpAny_setField_rec he₂ (by simp) fun h₃ he₃ hs₃=>?_)
 replace hs₃:Heap.SameBut e h₂ h₃:=hs₃
 replace he₃:IsEnum h₃ e it ((i:Int) + 1) old:=he₃
 show wpAny _ _ (newTuple [.int i tk,x] >>= _) _ _ ⟨h₃,g,d,tk + 1,os⟩
 refine wpAny_bind (wpAny_newTuple ?_)
 have he₄:IsEnum (h₃.push { cls:=.type "tuple",data:=.seq #[.int i tk,x] }) e it ((i:Int) + 1) old:=Heap.get?_push_of_some _ he₃
 generalize hh₄:h₃.push { cls:=.type "tuple",data:=.seq #[.int i tk,x] } = h₄ at he₄
 have hsz:h₃.objs.size = hp.objs.size:=by rw [hs₃.1,hs₂.1,hs₁.1]
 have hel:e < hp.objs.size:=Heap.lt_size he
 have ht₄:h₄.get? hp.objs.size = some { cls:=.type "tuple",data:=.seq #[.int i tk,x] }:=by rw [← hh₄,← hsz];exact Heap.get?_push_size _ rfl
 have hz₄:h₄.objs.size = hp.objs.size + 1:=by rw [← hh₄,Heap.size_push,hsz]
 have hk₄:∀ b o,b≠e→b≠it→hp.get? b = some o→h₄.get? b = some o:=fun b o hbe hbi hb=>by
  rw [← hh₄];exact Heap.get?_push_of_some _ (hs₃.extBut b o hbe (hs₂.extBut b o hbe (hs₁.extBut b o hbi hb)))
 have hit₄:h₄.IsTupleIter it l (i + 1):=by
  rw [← hh₄];obtain ⟨o,ho,r⟩:=(hit₁.extBut hs₂.extBut (Ne.symm hne)).extBut hs₃.extBut (Ne.symm hne);exact ⟨o,Heap.get?_push_of_some _ ho,r⟩
 show wpAny _ _ (Builtin.SmallTypes.ownedTupleIsFree (.ref e) >>= _) _ _ ⟨h₄,g,d,tk + 1,os⟩
 rw [hsz]
 clear hh₄ he₃ hs₃ he₂ hs₂ he₁ hs₁ hit₁ hsz h₃ h₂ h₁
 refine wpAny_bind ?_
 ·unfold Builtin.SmallTypes.ownedTupleIsFree
  refine wpAny_bind (wpAny_field he₄ rfl (x:=.none) rfl (wpAny_pure ?_))
  simp only [if_true]
  refine wpAny_bind (wpAny_rule ?_)
  refine wpAny_bind (wpAny_field he₄ rfl (x:=old) rfl ?_)
  refine wpAny_bind (wpAny_setField_rec he₄ (by simp) fun h₅ he₅ hs₅=>?_)
  replace hs₅:Heap.SameBut e h₄ h₅:=hs₅
  replace he₅:IsEnum h₅ e it ((i:Int) + 1) x:=he₅
  show wpAny _ _ (Builtin.SmallTypes.ownedTupleHandOut (.ref e) (.ref hp.objs.size) >>= _) _ _ ⟨h₅,g,d,tk + 1,os⟩
  refine wpAny_bind ?_
  ·unfold Builtin.SmallTypes.ownedTupleHandOut
   refine wpAny_bind (wpAny_setField_rec he₅ (by simp) fun h₆ he₆ hs₆=>?_)
   replace hs₆:Heap.SameBut e h₅ h₆:=hs₆
   replace he₆:IsEnumOut h₆ e it ((i:Int) + 1) x hp.objs.size:=he₆
   refine wpAny_setField_rec he₆ (by simp) fun h₇ he₇ hs₇=>?_
   replace hs₇:Heap.SameBut e h₆ h₇:=hs₇
   replace he₇:IsEnumOut h₇ e it ((i:Int) + 1) x hp.objs.size:=he₇
   refine wpAny_bind (wpAny_letGo (wpAny_pure ⟨_,rfl,hQ h₇ he₇ ?_ ?_ ?_ ?_⟩))
   ·exact ((hit₄.extBut hs₅.extBut (Ne.symm hne)).extBut hs₆.extBut (Ne.symm hne)).extBut hs₇.extBut (Ne.symm hne)
   ·exact hs₇.extBut _ _ (Nat.ne_of_gt hel) (hs₆.extBut _ _ (Nat.ne_of_gt hel) (hs₅.extBut _ _ (Nat.ne_of_gt hel) ht₄))
   ·rw [hs₇.1,hs₆.1,hs₅.1,hz₄]
   ·exact fun b o hbe hbi hb=>hs₇.extBut b o hbe (hs₆.extBut b o hbe (hs₅.extBut b o hbe (hk₄ b o hbe hbi hb)))
theorem pyNext_enumT_item {e it l:Addr} {i:Nat} {items:Array Value} {x old:Value} {Q:Option Value→Shared→Prop}
  (he:IsEnum s.heap e it i old) (hit:s.heap.IsTupleIter it l i) (hl:s.heap.IsTuple l items) (hx:items[i]? = some x) (hne:e≠it)
  (hQ:∀ h',IsEnumOut h' e it ((i:Int) + 1) x s.heap.objs.size→h'.IsTupleIter it l (i + 1)→h'.get? s.heap.objs.size = some { cls:=.type "tuple",data:=.seq #[.int i s.toks,x] }→h'.objs.size = s.heap.objs.size + 1 →
   (∀ b o,b≠e→b≠it→s.heap.get? b = some o→h'.get? b = some o)→Q (some (.ref s.heap.objs.size)) { s with heap:=h',toks:=s.toks + 1 }) :
  wpAny (model prog w) A (pyNext (.ref e)) Q E s:=by
 have hT:s.TypeIs (.ref e) "enumerate":=⟨_,he,rfl⟩
 unfold pyNext
 exact wpAny_bind (wpAny_attempt (wpAny_callSpecial?_slot (name:=Str.ofString "__next__") hT F.slot_enumerate_next
  (wpAny_call_entry F.slot_enumerate_next hT F.entry_enumerate_next (enum_tup_next he hit hl hx hne fun h' a b c d k=>wpAny_pure (hQ h' a b c d k)) (F.args_enumerate_next_1 _))))
theorem pyNext_enumT_end {e it l:Addr} {i:Nat} {items:Array Value} {old:Value} {Q:Option Value→Shared→Prop} (hh:A.handled = none)
  (he:IsEnum s.heap e it i old) (hit:s.heap.IsTupleIter it l i) (hl:s.heap.IsTuple l items) (hx:items[i]? = none)
  (hQ:∀ h',Heap.ExtBut it s.heap h'→Q none { s with heap:=h' }):wpAny (model prog w) A (pyNext (.ref e)) Q E s:=by
 have hT:s.TypeIs (.ref e) "enumerate":=⟨_,he,rfl⟩
 unfold pyNext
 refine wpAny_bind (wpAny_attempt (wpAny_callSpecial?_slot (name:=Str.ofString "__next__") hT F.slot_enumerate_next (wpAny_call_entry F.slot_enumerate_next hT F.entry_enumerate_next ?_ (F.args_enumerate_next_1 _))))
 show wpAny _ _ (field (.ref e) 2 >>= _) _ _ _
 refine wpAny_bind (wpAny_field he rfl (x:=.ref it) rfl ?_)
 refine wpAny_bind (nextOf_tup_end hh hit hl hx fun h' x he' hx'=>?_)
 obtain ⟨o,ho,hc⟩:=hx'
 refine wpAny_bind (wpAny_isInstance (T:="StopIteration") (b:=true) ⟨o,ho,hc⟩ isSubtype_stop ?_)
 exact wpAny_pure (hQ _ he')

theorem meets_enum_tup (l:Addr) (items:Array Value) (n:Nat) (dct:Option Addr) (sl:Array (Option Value)) :
  Meets (Builtin.«enumerate.__new__» ⟨[.type "enumerate",.ref l],[]⟩) (fun _ R s=>s.heap.get? l = some { cls:=.type "tuple",dict:=dct,data:=.seq items n,slots:=sl } ∧
   R (.ok (.ret (.ref (s.heap.push { cls:=.type "tuple_iterator",data:=.fields #[.ref l,.int 0 0] }).objs.size)))
    { s with heap:=(s.heap.push { cls:=.type "tuple_iterator",data:=.fields #[.ref l,.int 0 0] }).push { cls:=.type "enumerate",data:=.fields #[.none,.bool false,.ref s.heap.objs.size,rawInt 0,.none,.none] } }) :=
 .of_wp fun prog w A R s h=>by
  obtain ⟨hp,g,d,tk,os⟩:=s;obtain ⟨hl,h⟩:=h
  have hsub:=sub_enumerate
  have hL:Heap.IsTuple (Shared.heap ⟨hp,g,d,tk,os⟩) l items:=⟨_,hl,rfl,n,rfl⟩
  wp_walk using wpAny_loadPart' hl
  refine wpAny_stack_any fun st=>wpAny_pure ?_
  split
  ·rename_i c _ _ _ _ _
   cases (c == Value.type "enumerate")
   ·wp_walk using wpAny_loadPart' hl,wpAny_pyIter_tuple hL
    exact ⟨_,rfl,h⟩
   ·wp_walk using wpAny_loadPart' hl,wpAny_pyIter_tuple hL
    exact ⟨_,rfl,h⟩
  ·wp_walk using wpAny_loadPart' hl,wpAny_pyIter_tuple hL
   exact ⟨_,rfl,h⟩
theorem call_enum_tup {l:Addr} {items:Array Value} {Q:Value→Shared→Prop} (hL:s.heap.IsTuple l items)
  (h:∀ h',IsEnum h' (s.heap.objs.size + 1) s.heap.objs.size 0 .none→h'.IsTupleIter s.heap.objs.size l 0→h'.objs.size = s.heap.objs.size + 2 →
   (∀ b o,s.heap.get? b = some o→h'.get? b = some o)→Q (.ref (s.heap.objs.size + 1)) { s with heap:=h' }) :
  wpAny (model prog w) A (call (.type "enumerate") [.ref l]) Q E s:=by
 obtain ⟨⟨c,dct,dt,sl⟩,hl,hc,n,hd⟩:=hL
 replace hc:c = .type "tuple":=hc
 replace hd:dt = .seq items n:=hd
 subst hc hd
 refine callType_new F.called_enumerate (by decide) (F.typeCall_enumerate_1 _) (F.newCall_enumerate_1 _) (fun obj=>F.args_object_init_2 obj _) F.entry_enumerate_new
  (meets_enum_tup l items n dct sl) ⟨hl,?_⟩
 have hz:(s.heap.push { cls:=.type "tuple_iterator",data:=.fields #[.ref l,.int 0 0] }).objs.size = s.heap.objs.size + 1:=Heap.size_push ..
 show _∧_
 rw [hz]
 have he:IsEnum ((s.heap.push { cls:=.type "tuple_iterator",data:=.fields #[.ref l,.int 0 0] }).push
   { cls:=.type "enumerate",data:=.fields #[.none,.bool false,.ref s.heap.objs.size,rawInt 0,.none,.none] }) (s.heap.objs.size + 1) s.heap.objs.size 0 .none:=by
  have:=Heap.get?_push_size (s.heap.push { cls:=.type "tuple_iterator",data:=.fields #[.ref l,.int 0 0] })
   (o:={ cls:=.type "enumerate",data:=.fields #[.none,.bool false,.ref s.heap.objs.size,rawInt 0,.none,.none] }) rfl
  rw [hz] at this;exact this
 refine ⟨⟨_,he,rfl⟩,h _ he ⟨_,Heap.get?_push_of_some _ (Heap.get?_push_size _ rfl),rfl,rfl⟩ (by rw [Heap.size_push,hz]) fun b o x=>Heap.get?_push_of_some _ (Heap.get?_push_of_some _ x)⟩
end
end L2E

namespace L2
open PySem PySem.Spec PyProof.Rows
noncomputable def Ite (K:PySem.W.Frag) (a:Addr):It :=
 ⟨fun i H=>∃ xs x,SqT K H a xs∧xs[i]? = some x,fun i H y H'=>∃ t x,y = .ref t∧H t = none∧H' = upd H t (.tup [.int i,x])∧∀ xs,SqT K H a xs→xs[i]? = some x,fun i H=>∃ xs,SqT K H a xs∧xs.length≤i⟩
theorem turn_enumT {P:Program} {w:World} {K:PySem.W.Frag} {elts:List Expr} {x1:Nat} {tp:Pos} (a e it:Addr) (hei:e≠it) :
  Turn P w K (.Tuple elts x1 tp) (Ite K a) [e,it] e (fun i h=>(∃ old,IsEnum h e it i old)∧h.IsTupleIter it a i) where
 mem:=by simp
 obj:=fun i h st b hb=>by
  obtain ⟨⟨old,he⟩,hit⟩:=st
  rcases List.mem_cons.mp hb with rfl | hb
  ·exact ⟨_,he,fun v z=>by
    have z':Data.fields _ = Data.cell v:=z
    cases z'⟩
  ·have e1:b = it:=by simpa using hb
   subst e1
   obtain ⟨o,e,c,d⟩:=hit
   exact ⟨o,e,fun v z=>by rw [d] at z;cases z⟩
 keep:=fun i h h' st k=>⟨let ⟨old,he⟩:=st.1;⟨old,k e (by simp) _ he⟩,let ⟨o,ho,r⟩:=st.2;⟨o,k it (by simp) o ho,r⟩⟩
 item:=by
  intro X hP hw hK hc i pins s σ H E I hf st hg
  subst hP hw hK
  obtain ⟨⟨old,he⟩,hit⟩:=st
  obtain ⟨xs,x,hq,hx⟩:=hg
  obtain ⟨its,rv,p,hz⟩:=I.tuple hq
  obtain ⟨u,hu,ru⟩:=rv.get hx
  obtain ⟨f0,f1,f2,f3,f4,f5⟩:=hf e (by simp)
  obtain ⟨g0,g1,g2,g3,g4,g5⟩:=hf it (by simp)
  refine L2E.pyNext_enumT_item he hit (show s.heap.IsTuple a its.toArray from p) (x:=u) (by simpa using hu) hei fun h' ho' hit' hT hsz hk=>?_
  refine ⟨_,rfl,wpAny_letOwnedTupleGo_enum ho' fun h'' he'' hs''=>?_⟩
  have hlt:e < s.heap.objs.size:=Heap.lt_size he
  have k2:∀ b o,b≠e→b≠it→s.heap.get? b = some o→h''.get? b = some o:=fun b o h1 h2 q=>(hs''.2 b h1).trans (hk b o h1 h2 q)
  have hT2:h''.get? s.heap.objs.size = some { cls:=.type "tuple",data:=.seq #[.int i s.toks,u] }:=(hs''.2 _ (Nat.ne_of_gt hlt)).trans hT
  have hfr:H s.heap.objs.size = none:=I.hok.fresh (Nat.le_refl _)
  have neT:∀ {b:Addr} {o:Obj},s.heap.get? b = some o→b≠s.heap.objs.size:=fun q=>Nat.ne_of_lt (Heap.lt_size q)
  have trk:∀ {b:Addr} {o:HO},H b = some o→b≠e∧b≠it:=fun q=>⟨fun z=>(by rw [z,f0] at q;cases q),fun z=>(by rw [z,g0] at q;cases q)⟩
  have I2:Inv X pins σ (upd H s.heap.objs.size (.tup [.int i,x])) { s with heap:=h'',toks:=s.toks + 1 }:=by
   refine I.step (g':=s.gens) (d':=s.drawn) (ch:=[e,it]) (fun b hb=>?_) (fun b o _ _ hch q _=>k2 b o (fun z=>hch (by simp [z])) (fun z=>hch (by simp [z])) q) (fun b o _ _ hch q _=>⟨o.slots,k2 b o (fun z=>hch (by simp [z])) (fun z=>hch (by simp [z])) q⟩)
    (fun b o _ q n=>by rw [upd_ne (neT q)];exact n) (fun b o hch q=>⟨o,k2 b o (fun z=>hch (by simp [z])) (fun z=>hch (by simp [z])) q⟩) (fun b ys q=>by rw [upd_ne (ne_of_none q hfr)];exact q) (fun b o ys q=>by rw [upd_ne (ne_of_none q hfr)];exact q)
    (fun b ps q=>⟨#[],by rw [upd_ne (ne_of_none q hfr),q];simp⟩) (fun m hm=>?_) (fun b v q=>?_) I.bare
   ·rcases List.mem_cons.mp hb with rfl | hb
    ·exact ⟨f3,f1,f4,f5⟩
    ·have e1:b = it:=by simpa using hb
     subst e1
     exact ⟨g3,g1,g4,g5⟩
   ·obtain ⟨o,es,ep,ho,r⟩:=hm
    exact ⟨o,es,ep,k2 _ o (Ne.symm f1) (Ne.symm g1) ho,r⟩
   ·by_cases hb:b = s.heap.objs.size
    ·subst hb
     rw [upd_same] at q
     cases q
     exact ⟨by show 2≤sizeLine;decide,[.int i s.toks,u],.cons ⟨_,rfl⟩ (.cons ru .nil),_,hT2,rfl,_,rfl⟩
    ·rw [upd_ne hb] at q
     refine (I.hok b v q).stay (fun c o hc z=>?_) (fun c z=>by rw [upd_ne (ne_of_none z hfr)];exact z) fun c ys z=>by rw [upd_ne (ne_of_none z hfr)];exact z
     rcases hc with rfl | hc
     ·exact k2 c o (trk q).1 (trk q).2 z
     ·exact k2 c o (trk hc).1 (trk hc).2 z
  refine ⟨.ref s.heap.objs.size,_,I2,rfl,⟨_,x,rfl,hfr,rfl,fun ys hy=>by rw [I.tuple_inj hy hq];exact hx⟩,⟨⟨u,by simpa using he''⟩,?_⟩,fun b hb=>?_⟩
  ·obtain ⟨o,q,r⟩:=hit'
   exact ⟨o,(hs''.2 it (Ne.symm hei)).trans q,r⟩
  ·rcases List.mem_cons.mp hb with rfl | hb
   ·rw [upd_ne (Nat.ne_of_lt hlt)];exact f0
   ·have e1:b = it:=by simpa using hb
    subst e1
    obtain ⟨o,q,_⟩:=hit
    rw [upd_ne (neT q)]
    exact g0
 done:=by
  intro X hP hw hK hc i pins s σ H E I hf st hg
  subst hP hw hK
  obtain ⟨⟨old,he⟩,hit⟩:=st
  obtain ⟨xs,hq,hx⟩:=hg
  obtain ⟨its,rv,p,hz⟩:=I.tuple hq
  obtain ⟨g0,g1,g2,g3,g4,g5⟩:=hf it (by simp)
  have hl:=rv.length
  exact L2E.pyNext_enumT_end (I.ok.hd hc) he hit (show s.heap.IsTuple a its.toArray from p) (by simp;omega) fun h' eb=>⟨rfl,I.turned (t':=s.toks) (fun b o hb q=>eb b o hb q) g0 g1 g3 g4 g5⟩
 self:=fun _ _ _ _ _ st h=>let ⟨_,he⟩:=st.1;wpAny_pyIter_enum he h
section
variable {X:Cx}
noncomputable def iEnum (K:PySem.W.Frag) (ta:TA):TI:=fun σ H R=>ta σ H fun vs H1=>∃ a,vs = [.ref a]∧(∃ xs,SqT K H1 a xs)∧R (Ite K a) H1
theorem pg_tupK {K : PySem.W.Frag} {es : List Expr} {k : Nat} {t : TGs} {n : Nat} {pos : Pos} (hK : X.K = K) (hc : X.calm = true) (h : PGs X es t)
    (hn : (assignEach es X.env).length = n := by rfl) (hst : (assignEach es X.env).findIdx? (·.1) = none := by rfl) : PG X (.Tuple es k pos) (gTup K n t) := hK ▸ pg_tup hc h hn hst
theorem pi_enumT {a:Expr} {ta:TA} {p pos:Pos} {elts:List Expr} {x1:Nat} {tp:Pos} (hg:Gl X "enumerate") (hm:X.mg "enumerate" = none) (ha:PA X [a] ta) (hs:starEach [a] X.env = [(false,eval a X.env)]:=by rfl) :
  PI X (.Tuple elts x1 tp) (.Call (.Name "enumerate" p) [a] [] pos) (iEnum X.K ta):=by
 intro pins s σ H R I h
 refine Call_ (ld_blt I hg hm bb_enumerate (PyProof.Rows.callWith_type1 (thn (ha pos pins s σ H _ I h) fun us s1 ⟨vs,H1,I1,r1,q1⟩=>?_) hs rfl))
 obtain ⟨l,e,⟨xs,hq⟩,q⟩:=q1
 subst e
 cases r1 with
 | cons r rr =>
  cases rr
  cases r
  obtain ⟨its,rv,ht,hz⟩:=I1.tuple hq
  refine L2E.call_enum_tup (show s1.heap.IsTuple l its.toArray from ht) fun h' he hit hsz hk=>?_
  have I2:Inv X pins σ H1 { s1 with heap:=h' }:=I1.kept (t':=s1.toks) hk
  refine wpAny_pyIter_enum he ?_
  refine ⟨s1.heap.objs.size + 1,[s1.heap.objs.size + 1,s1.heap.objs.size],_,_,H1,rfl,I2,turn_enumT l _ _ (Nat.succ_ne_self _),⟨⟨_,he⟩,hit⟩,fun b hb=>?_,q⟩
  rcases List.mem_cons.mp hb with rfl | hb
  ·exact (I1.fpOk (Nat.le_succ _) (I1.hok.fresh (Nat.le_succ _)))
  ·have e:b = s1.heap.objs.size:=by simpa using hb
   subst e
   exact I1.fpOk (Nat.le_refl _) (I1.hok.fresh (Nat.le_refl _))
theorem for_enum {K:PySem.W.Frag} {a:Addr} {xs:List V} {g:TG} {tb:TS} {D:Ends} {σ:St} {H:Hp} (Pv:Nat→St→Hp→Prop) (h0:Pv 0 σ H) (hl:∀ i σ H,i≤xs.length→Pv i σ H→SqT K H a xs)
  (hs:∀ i x t σ H,xs[i]? = some x→Pv i σ H→H t = none→g (.ref t) σ (upd H t (.tup [.int i,x])) fun σ2 H2=>tb { D with nx:=Pv (i + 1),ct:=Pv (i + 1),bk:=D.nx } σ2 H2) (hd:∀ σ H,Pv xs.length σ H→D.nx σ H) :
  ∃ W:Nat→Nat→St→Hp→Prop,(∃ m,W 0 m σ H)∧∀ i m σ H,W i m σ H →
   ((Ite K a).stop i H∧D.nx σ H)∨((Ite K a).go i H∧∃ N:St→Hp→Prop,(∀ σ' H',N σ' H'→∃ m',m' < m∧W (i + 1) m' σ' H')∧∀ x H',(Ite K a).yld i H x H'→g x σ H' fun σ2 H2=>tb { D with nx:=N,ct:=N,bk:=D.nx } σ2 H2):=by
 refine ⟨fun i m σ H=>m = xs.length - i∧i≤xs.length∧Pv i σ H,⟨xs.length,by simp,Nat.zero_le _,h0⟩,?_⟩
 rintro i m σ H ⟨rfl,hi,p⟩
 have q:=hl i σ H hi p
 by_cases hlt:i < xs.length
 ·refine .inr ⟨⟨xs,xs[i],q,by simp [hlt]⟩,Pv (i + 1),fun σ' H' p'=>⟨xs.length - (i + 1),by omega,rfl,hlt,p'⟩,fun x H' y=>?_⟩
  obtain ⟨t,z,e,hn,e2,y⟩:=y
  subst e e2
  exact hs i z t σ _ (y xs q) p hn
 ·have e:i = xs.length:=by omega
  subst e
  exact .inl ⟨⟨xs,q,Nat.le_refl _⟩,hd σ H p⟩
theorem comp_enum {K:PySem.W.Frag} {a:Addr} {xs:List V} {g:TG} {tt:TT} {te:TE} {D:Addr} {Q:VK} {σ₀:St} {H₀:Hp} (Pv:Nat→St→Hp→Prop) (h0:Pv 0 σ₀ H₀) (hl:∀ i σ H,i≤xs.length→Pv i σ H→SqT K H a xs)
  (hs:∀ i x t σ H,xs[i]? = some x→Pv i σ H→H t = none→g (.ref t) σ (upd H t (.tup [.int i,x])) fun σ3 H3=>tt σ3 H3 fun b H4=>if b = true then te σ3 H4 fun v H5=>∃ ys,H5 D = some (.lst ys)∧ys.length < sizeLine∧Pv (i + 1) σ3 (upd H5 D (.lst (ys ++ [v]))) else Pv (i + 1) σ3 H4)
  (hd:∀ σ H,Pv xs.length σ H→Q (.ref D) H):CompW (Ite K a) g tt te D Q σ₀ H₀:=by
 refine ⟨fun i m σ H=>m = xs.length - i∧i≤xs.length∧Pv i σ H,⟨xs.length,by simp,Nat.zero_le _,h0⟩,?_⟩
 rintro i m σ H ⟨rfl,hi,p⟩
 have q:=hl i σ H hi p
 by_cases hlt:i < xs.length
 ·refine .inr ⟨⟨xs,xs[i],q,by simp [hlt]⟩,Pv (i + 1),fun σ' H' p'=>⟨xs.length - (i + 1),by omega,rfl,hlt,p'⟩,fun x H' y=>?_⟩
  obtain ⟨t,z,e,hn,e2,y⟩:=y
  subst e e2
  exact hs i z t σ _ (y xs q) p hn
 ·have e:i = xs.length:=by omega
  subst e
  exact .inl ⟨⟨xs,q,Nat.le_refl _⟩,hd σ H p⟩
theorem comp_tup {K:PySem.W.Frag} {a:Addr} {xs:List V} {g:TG} {tt:TT} {te:TE} {D:Addr} {Q:VK} {σ₀:St} {H₀:Hp} (Pv:Nat→St→Hp→Prop) (h0:Pv 0 σ₀ H₀) (hl:∀ i σ H,i≤xs.length→Pv i σ H→SqT K H a xs)
  (hs:∀ i x σ H,xs[i]? = some x→Pv i σ H→g x σ H fun σ3 H3=>tt σ3 H3 fun b H4=>if b = true then te σ3 H4 fun v H5=>∃ ys,H5 D = some (.lst ys)∧ys.length < sizeLine∧Pv (i + 1) σ3 (upd H5 D (.lst (ys ++ [v]))) else Pv (i + 1) σ3 H4)
  (hd:∀ σ H,Pv xs.length σ H→Q (.ref D) H):CompW (Itt K a) g tt te D Q σ₀ H₀:=by
 refine ⟨fun i m σ H=>m = xs.length - i∧i≤xs.length∧Pv i σ H,⟨xs.length,by simp,Nat.zero_le _,h0⟩,?_⟩
 rintro i m σ H ⟨rfl,hi,p⟩
 have q:=hl i σ H hi p
 by_cases hlt:i < xs.length
 ·refine .inr ⟨⟨xs,xs[i],q,by simp [hlt]⟩,Pv (i + 1),fun σ' H' p'=>⟨xs.length - (i + 1),by omega,rfl,hlt,p'⟩,fun x H' y=>?_⟩
  obtain ⟨e,y⟩:=y
  subst e
  exact hs i x σ _ (y xs q) p
 ·have e:i = xs.length:=by omega
  subst e
  exact .inl ⟨⟨xs,q,Nat.le_refl _⟩,hd σ H p⟩

theorem call_min_tup (hc:X.calm = true):CallR X (.builtin "min") (fun xs H Q=>∃ (p:Addr) (ns:List Int),xs = [.ref p]∧SqT X.K H p (ns.map V.int)∧0 < ns.length∧∀ M:Int,M∈ns→(∀ a∈ns,M≤a)→Q (.int M) H):=by
 intro pins s σ H xs us Q I r h
 obtain ⟨p,ns,rfl,hq,hne,q⟩:=h
 obtain ⟨u,rfl,ru⟩:=r.one
 cases ru
 obtain ⟨its,rv,ht,hz⟩:=I.tuple hq
 have hit:s.heap.IsTuple p its.toArray:=ht
 have hlen:ns.length = its.length:=by have z:=rv.length;rwa [List.length_map] at z
 have hlt:p < s.heap.objs.size:=let ⟨_,e,_⟩:=ht;Heap.lt_size e
 have val:∀ (i:Nat) (v:Value),its.toArray[i]? = some v→i < ns.length∧∃ t,v = .int (ns.getD i 0) t:=fun i v hv=>by
  have hv:its[i]? = some v:=by simpa using hv
  have hi:i < its.length:=(List.getElem?_eq_some_iff.mp hv).1
  have hi2:i < ns.length:=by omega
  have e1:(ns.map V.int)[i]? = some (.int ns[i]):=by rw [List.getElem?_map,List.getElem?_eq_getElem hi2];rfl
  obtain ⟨u,hu,t,e⟩:=rv.get e1
  rw [hv] at hu
  cases hu
  exact ⟨hi2,t,by rw [e];simp [List.getD,List.getElem?_eq_getElem hi2]⟩
 refine call_min_walk (wpAny_pyIter_tuple hit ?_)
 refine ⟨_,_,_,_,_,_,_,rfl,Walks.tuple (A:=X.A.in1) (I.ok.hd hc) s.heap.objs.size p (Nat.ne_of_lt hlt) its.toArray,⟨⟨_,Heap.get?_push_size _ rfl,rfl,rfl⟩,hit.push _⟩,fun b hb=>?_,by rw [List.size_toArray];omega,
  CmpOf.ints_lt (fun i=>ns.getD i 0) (fun i v hv=>(val i v hv).2),fun v h' tk hP hk=>?_⟩
 ·rw [Heap.size_push]
  rcases List.mem_cons.mp hb with e | e
  ·rw [e];exact Nat.lt_succ_self _
  ·have e:b = p:=by simpa using e
   rw [e];exact Nat.lt_succ_of_lt hlt
 ·obtain ⟨h1,t,rfl⟩:=val _ v hP
  obtain ⟨h2,h3⟩:=argBest_lt (fun i=>ns.getD i 0) (its.toArray.size - 1)
  have I':Inv X pins σ H { s with heap:=h',toks:=tk }:=I.kept fun b o e=>hk b o (fun z=>absurd (List.mem_singleton.mp z) (Nat.ne_of_lt (Heap.lt_size e))) (Heap.get?_push_of_some _ e)
  refine ⟨.int _,H,I',⟨t,rfl⟩,q _ ?_ fun a ha=>?_⟩
  ·have e:ns.getD (argBest (fun i j=>decide (ns.getD i 0 < ns.getD j 0)) (its.toArray.size - 1)) 0 = ns[argBest (fun i j=>decide (ns.getD i 0 < ns.getD j 0)) (its.toArray.size - 1)]'h1:=by rw [List.getD_eq_getElem?_getD,List.getElem?_eq_getElem h1];rfl
   rw [e]
   exact List.getElem_mem _
  ·obtain ⟨j,hj⟩:=List.mem_iff_getElem?.mp ha
   have hjl:j < ns.length:=(List.getElem?_eq_some_iff.mp hj).1
   have z:=h3 j (by rw [List.size_toArray];omega)
   have e:ns.getD j 0 = a:=by simp [List.getD,hj]
   rw [e] at z
   exact z

end
end L2

namespace L2
open PySem PySem.Spec PyProof.Rows

theorem ObjOk.obj {P:Program} {w:World} {H:Hp} {h:Heap} {a:Addr}:∀ {o:HO},ObjOk P w H h a o→∃ u,h.get? a = some u:=fun {o} x=>by
 cases o with
 | lst xs=>obtain ⟨_,_,_,_,e⟩:=x;exact ⟨_,e⟩
 | tup xs=>obtain ⟨_,_,_,o,e,_⟩:=x;exact ⟨_,e⟩
 | dK kvs=>obtain ⟨_,_,_,_,o,_,_,e,_⟩:=x;exact ⟨_,e⟩
 | dT kvs=>obtain ⟨_,_,_,_,o,_,_,e,_⟩:=x;exact ⟨_,e⟩
 | set S n=>obtain ⟨o,_,_,_,e,_⟩:=x;exact ⟨_,e⟩
 | ins C dx fs=>obtain ⟨_,_,_,e,_⟩:=x;exact ⟨_,e⟩
 | own y=>exact x
 | xd fs=>obtain ⟨_,⟨_,_,_,e,_⟩,_⟩:=x;exact ⟨_,e⟩
 | rng lo hi=>obtain ⟨_,_,_,e⟩:=x;exact ⟨_,e⟩
 | frz ob u=>obtain ⟨e,_⟩:=x;exact ⟨_,e⟩
 | tbl ps=>exact ⟨_,(show h.get? a = some _ from x)⟩
 | met f y=>exact ⟨_,(show h.get? a = some _ from x)⟩
 | ext φ=>obtain ⟨_,e,_⟩:=x;exact e
noncomputable def noFr (h:Heap) (l:List Env):Heap:=PySem.W.hideAll h (frs l)
theorem noFr_get {h:Heap} {l:List Env} {b:Addr} {o:Obj} (e:h.get? b = some o) (n:b ∉ frs l):(noFr h l).get? b = some o:=PySem.W.hideAll_get _ e n
theorem of_noFr {h:Heap} {l:List Env} {b:Addr} {o:Obj} (e:(noFr h l).get? b = some o):h.get? b = some o:=PySem.W.of_hideAll _ e
theorem noFr_frames {h base:Heap} {l:List Env} (x:h.FunFrames base l):h.FunFrames (noFr h l) l:=PySem.W.funFrames_hide x fun env he a hf=>List.mem_filterMap.mpr ⟨env,he,hf⟩

noncomputable def Sta (B:Heap) (l:List Env) (a:Addr) (cls:Value) (h:Heap):Prop:=∃ a0,
 (B.StaysIn h∧B.get? a = none∧h.FunFrames B l∧∃ oe vs,h.get? a = some oe∧oe.cls = cls∧oe.data = .fields vs∧vs[1]? = some .none∧vs[0]? = some a0) ∨
 Heap.FlyingW B l a cls a0 h∨∃ L env outer,l = env :: outer∧env.frame = some L∧Heap.HeldW B l a cls a0 L h
theorem Sta.stays {B h:Heap} {l:List Env} {a:Addr} {cls:Value} (x:Sta B l a cls h):B.StaysIn h:=by
 obtain ⟨a0,x | x | ⟨_,_,_,_,_,x⟩⟩:=x
 ·exact x.1
 ·exact x.1
 ·exact x.1
theorem Sta.frames {B h:Heap} {l:List Env} {a:Addr} {cls:Value} (x:Sta B l a cls h):h.FunFrames B l:=by
 obtain ⟨a0,x | x | ⟨_,_,_,_,_,x⟩⟩:=x
 ·exact x.2.2.1
 ·exact x.2.2.1
 ·exact x.2.2.1
section
variable {M:Model} {A:Around} {E:Value→Shared→Prop} {s:Shared} {B:Heap} {env:Env} {outer:List Env} {L a:Addr} {cls:Value}
theorem sta_note {Q:Unit→Shared→Prop} (hfr:A.frames = some (env :: outer)) (hf:env.frame = some L) (x:Sta B (env :: outer) a cls s.heap)
  (hQ:∀ h' a0,Heap.HeldW B (env :: outer) a cls a0 L h'→s.heap.UpToSlots h'→Q () { s with heap:=h' }):wpAny M A (noteFrame (.ref a) env) Q E s:=by
 obtain ⟨a0,⟨x1,x2,x3,oe,vs,he,hc,hd,h1,h0⟩ | x | ⟨L',env',outer',e1,e2,x⟩⟩:=x
 ·unfold noteFrame
  simp only [hf]
  refine wpAny_bind (wpAny_field he hd h1 ?_)
  rw [if_neg (by decide)]
  refine wpAny_entryW hfr x3 hf he x1 x2 hd (Array.getElem?_eq_some_iff.mp h1).1 h0 fun h' hN=>?_
  obtain ⟨k1,k2,k3,k4⟩:=hN
  rw [hc] at k3
  exact hQ h' a0 ⟨k1,x2,k2,k3⟩ k4
 ·exact wpAny_looks_onW hfr hf x fun h' k1 k2=>hQ h' a0 k1 k2
 ·cases e1
  rw [hf] at e2
  cases e2
  exact wpAny_noteFrame_againW hf x.2.2.2 (hQ s.heap a0 x (Heap.UpToSlots.refl _))
theorem sta_leave {Q:Unit→Shared→Prop} (hfr:A.frames = some (env :: outer)) (hf:env.frame = some L) (x:Sta B (env :: outer) a cls s.heap)
  (hQ:∀ h' a0,Heap.FlyingW B outer a cls a0 h'→s.heap.UpToSlots h'→Q () { s with heap:=h' }):wpAny M A (leaving env (.ref a)) Q E s:=by
 unfold leaving
 refine wpAny_bind (sta_note hfr hf x fun h1 a0 k1 k2=>?_)
 refine wpAny_landsW k1 fun h2 k3 k4=>?_
 obtain ⟨c1,c2,⟨_,_,c3⟩,c4⟩:=k3
 exact hQ h2 a0 ⟨c1,c2,c3,c4⟩ (k2.trans k4)
theorem held_back {F:Value→Shared→Prop} {a0:Value} (hf:env.frame = some L) (x:Heap.HeldW B (env :: outer) a cls a0 L s.heap)
  (hQ:∀ h',Heap.HeldW B (env :: outer) a cls a0 L h'→s.heap.UpToSlots h'→F (.ref a) { s with heap:=h' }):cameBackBy M A env F (.ref a) s:=by
 obtain ⟨hkb,hen,hl,oe,vs,T,oT,ts,he,hcls,hd,h1,hnT,hTe,hT,hdT,h3⟩:=x
 unfold cameBackBy
 refine wpAny_bind (wpAny_field he hd h1 ?_)
 rw [if_neg (show ¬ ((Value.ref T == Value.none) = true) from Bool.false_ne_true)]
 rw [hf]
 have hsz3:3 < ts.size:=(Array.getElem?_eq_some_iff.mp h3).1
 have other:∀ b,b≠T→(s.heap.update T (Obj.mapFields (·.setIfInBounds 3 ((some L).elim Value.none fun f=>rawInt f)))).get? b = s.heap.get? b:=fun b hb=>Heap.get?_update_other _ _ (Ne.symm hb)
 have noRecord:∀ b o,s.heap.get? b = some o→(∀ vs,o.data≠.fields vs)→b≠T:=fun b o hb hnf q=>by
  rw [q,hT] at hb;injection hb with hb;subst hb;exact hnf ts hdT
 unfold setFlight
 refine wpAny_bind (wpAny_field he hd h1 ?_)
 rw [if_pos (show (Value.ref T != Value.none) = true from by simp)]
 refine wpAny_setField hT hdT hsz3 (hQ _ ⟨fun b o hbo=>(other b fun q=>by rw [q,hnT] at hbo;cases hbo).trans (hkb b o hbo),hen,
  hl.of_keeps fun b o hb hnf=>⟨o,(other b (noRecord b o hb hnf)).trans hb,rfl⟩,?_⟩ fun b o hb hnf=>⟨o.slots,(other b (noRecord b o hb hnf)).trans hb⟩)
 exact ⟨oe,vs,T,_,_,(other a (Ne.symm hTe)).trans he,hcls,hd,h1,hnT,hTe,Heap.get?_update_self _ hT (Obj.isFreed_of_fields (Obj.data_mapFields hdT _)),Obj.data_mapFields hdT _,by simp [hsz3]⟩
end

structure XAt (P:Program) (w:World) (l:List Env) (ex:List Addr) (H:Hp) (s:Shared) (B:Heap) (a:Addr) (cls:Value) (H':Hp) (s':Shared):Prop where
 os:s'.os = s.os
 bare:AllBare s'.gens
 un:Un (frs l) ex H H' s.heap s'.heap
 hok:HOk P w H' s'.heap
 na:H' a = none
 sta:Sta B l a cls s'.heap
 old:∀ b o,s.heap.get? b = some o→b ∉ frs l→b ∉ ex→∃ o',s'.heap.get? b = some o'∧B.get? b = some o'
 trk:∀ b,H' b≠none→∃ o,s'.heap.get? b = some o∧B.get? b = some o
theorem XAt.move {P:Program} {w:World} {l l':List Env} {ex:List Addr} {H H':Hp} {s s':Shared} {B h':Heap} {a:Addr} {cls:Value} (x:XAt P w l ex H s B a cls H' s') (k:s'.heap.UpToSlots h') (st:Sta B l' a cls h')
  (hsub:∀ b∈frs l',b∈frs l) (hin:∀ b o,s.heap.get? b = some o→b∈frs l→b∈frs l') (hx:∀ b∈frs l,b ∉ ex):XAt P w l' ex H s B a cls H' { s' with heap:=h' }:=by
 have sB:=st.stays
 have nf:∀ b∈frs l,∀ o,s'.heap.get? b = some o→∀ vs,o.data≠.fields vs:=fun b hb o e=>by
  obtain ⟨_,o',e',d⟩:=x.sta.frames.mem hb
  rw [e] at e';cases e'
  exact d
 have oldK:∀ b o,s.heap.get? b = some o→b ∉ frs l'→b ∉ ex→∃ o',s'.heap.get? b = some o'∧B.get? b = some o':=fun b o e hb he=>x.old b o e (fun z=>hb (hin b o e z)) he
 refine ⟨x.os,x.bare,⟨fun b o e n hb he=>?_,fun b o e n hb he=>?_,x.un.free,fun b o e he=>?_,x.un.tups,x.un.frzs,x.un.tbls⟩,fun b u e=>?_,x.na,st,fun b o e hb he=>?_,fun b hb=>?_⟩
 ·have e1:=x.un.keep b o e n (fun z=>hb (hin b o e z)) he
  obtain ⟨o',e2,e3⟩:=oldK b o e hb he
  rw [e1] at e2;cases e2
  exact sB b _ e3
 ·obtain ⟨sl,e1⟩:=x.un.slot b o e n (hsub b hb) he
  obtain ⟨sl',e2⟩:=k b _ e1 (nf b (hsub b hb) _ e1)
  exact ⟨sl',e2⟩
 ·by_cases hb:b∈frs l
  ·obtain ⟨_,o',e',d⟩:=x.sta.frames.mem hb
   obtain ⟨sl',e2⟩:=k b _ e' d
   exact ⟨_,e2⟩
  ·obtain ⟨o',_,e3⟩:=x.old b o e hb he
   exact ⟨o',sB b _ e3⟩
 ·refine (x.hok b u e).stay (fun c v hc q=>?_) (fun _ q=>q) fun _ _ q=>q
  have hn:H' c≠none:=by
   rcases hc with rfl | hc
   ·rw [e];exact fun z=>nomatch z
   ·rw [hc];exact fun z=>nomatch z
  obtain ⟨o',e1,e2⟩:=x.trk c hn
  rw [q] at e1;cases e1
  exact sB c _ e2
 ·obtain ⟨o',_,e3⟩:=oldK b o e hb he
  exact ⟨o',sB b _ e3,e3⟩
 ·obtain ⟨o',_,e3⟩:=x.trk b hb
  exact ⟨o',sB b _ e3,e3⟩

noncomputable def CXo (P:Program) (w:World):CXT:=fun outer H s E e s'=>∃ a cls H' B,e = .ref a∧XAt P w outer [] H s B a cls H' s'∧E cls none H'
noncomputable def BodyX (X:Cx) (E:XK) (e:Value) (s':Shared):Prop:=∃ a cls H' B,e = .ref a∧XAt X.prog X.w X.stack X.ex X.H₀ X.s₀ B a cls H' s'∧E cls none H'
section
variable {X:Cx} {E:XK}
theorem passX {F:Value→Shared→Prop}:Passes (CXo X.prog X.w) (X.wish (BodyX X E)) E:=fun pins σ H s e s' I h=>by
 have I:=I.unwish
 obtain ⟨a,cls,H',B,rfl,x,hE⟩:=h
 have U:Un (frs X.stack) X.ex X.H₀ H X.s₀.heap s.heap:=I.base.mono (fun b hb=>by
  rcases I.ok.stk with z | ⟨z,_⟩
  ·rw [z];exact hb
  ·rw [z];unfold frs;rw [List.filterMap_cons];split
   ·exact hb
   ·exact List.mem_cons_of_mem _ hb) fun b hb=>hb
 have U2:Un (frs X.stack) X.ex H H' s.heap s'.heap:=x.un.mono (fun b hb=>hb) fun b hb=>absurd hb (by simp)
 refine ⟨a,cls,H',B,rfl,⟨x.os.trans I.os,x.bare,U.trans U2,x.hok,x.na,x.sta,fun b o q hb he=>?_,x.trk⟩,hE⟩
 obtain ⟨o1,e1⟩:=U.there b o q he
 exact x.old b o1 e1 hb (by simp)
end
structure Own (X:Cx):Prop where
 ok:X.Ok
 top:X.stack = X.env :: X.outer
 fr:X.env.frame = some X.env.locals
 ex:X.ex = []
theorem Own.loc {X:Cx} (o:Own X):∀ b o',X.s₀.heap.get? b = some o'→b∈frs X.stack→b∈frs X.outer:=fun b o' e hb=>by
 rw [o.top] at hb
 unfold frs at hb
 rw [List.filterMap_cons,o.fr] at hb
 rcases List.mem_cons.mp hb with z | z
 ·subst z
  exact absurd (Nat.lt_of_lt_of_le (Heap.lt_size e) o.ok.above) (Nat.lt_irrefl _)
 ·exact z
theorem own_passes {X:Cx} {E:XK} (O:Own X):PassesOwn (model X.prog X.w) X.A X.env (BodyX X E):=fun e s' h=>by
 obtain ⟨a,cls,H',B,rfl,x,hE⟩:=h
 have hfr:X.A.frames = some (X.env :: X.outer):=by rw [← O.top];exact O.ok.frames
 have x':=x
 have st:=x.sta
 rw [O.top] at st
 show wpAny _ _ (noteFrame (.ref a) X.env) _ _ s'
 refine sta_note hfr O.fr st fun h1 a0 k1 k2=>?_
 have x1:XAt X.prog X.w X.stack X.ex X.H₀ X.s₀ B a cls H' { s' with heap:=h1 }:=x.move k2 (by rw [O.top];exact ⟨a0,.inr (.inr ⟨_,_,_,rfl,O.fr,k1⟩)⟩) (fun b hb=>hb) (fun b o _ hb=>hb) fun b _=>by rw [O.ex];simp
 refine held_back (s:={ s' with heap:=h1 }) O.fr k1 fun h2 k3 k4=>?_
 exact ⟨a,cls,H',B,rfl,x1.move k4 (by rw [O.top];exact ⟨a0,.inr (.inr ⟨_,_,_,rfl,O.fr,k3⟩)⟩) (fun b hb=>hb) (fun b o _ hb=>hb) fun b _=>by rw [O.ex];simp,hE⟩

structure ECls (K:PySem.W.Frag) (mg:Str→Option Value) (x:Str) (C:Addr):Prop where
 g:mg x = some (.ref C)
 ex:∃ bm newId B initId,PySem.W.excIn K C bm newId = true∧ExcBaseFacts B newId initId bm
noncomputable def tRaise (C:Addr) (t:TA) (E:XK):TS:=fun _ σ H=>t σ H fun vs H1=>vs.length≤sizeLine∧E (.ref C) none H1
theorem ecls_obj {K:PySem.W.Frag} {C:Addr} {bmB:List Value} {newId:String} {h:Heap} (X:K.In h) (q:PySem.W.excIn K C bmB newId = true) :
  ∃ bm ns nm qn bs hd sn sub ab col dd k0 k1 k2 k3 k5 mN,h.get? C = some (excClassObj nm qn C ns bs bm hd sn sub ab col dd k0 k1 k2 k3 k5 newId)∧h.Ns ns mN∧mN "__init__" = none∧OwnTail h bmB bm:=by
 unfold PySem.W.excIn at q
 split at q
 ·rename_i dd cd sl ho
  split at q
  ·rename_i C' bm k0 k1 k2 k3 n k5 hm hs
   simp only [Bool.and_eq_true,beq_iff_eq,Bool.not_eq_true'] at q
   obtain ⟨⟨⟨⟨⟨rfl,rfl⟩,hdel⟩,ht⟩,hok⟩,hni⟩:=q
   obtain ⟨nm,bs,mro,ns,qn,hd,sn,sub,ab,col,del⟩:=cd
   dsimp only at hm hdel hok hni
   subst hm hdel
   have hsl:sl = #[k0,k1,k2,k3,some (.builtin n),k5]:=by
    obtain ⟨l⟩:=sl
    simp only at hs
    rw [hs]
   subst hsl
   exact ⟨bm,ns,nm,qn,bs,hd,sn,sub,ab,col,dd,k0,k1,k2,k3,k5,_,X _ _ ho,.of_isNs (PySem.W.isNs_of_in X hok),PySem.W.nsMap_none_of_in X hok hni,PySem.W.tail_of_in X ht⟩
  ·cases q
 ·cases q
theorem ps_raise {X:Cx} {E:XK} {x:Str} {C:Addr} {np cpos pos:Pos} {e₀:Expr} {rest:List Expr} {t:TA} (hc:X.calm = true) (Z:ECls X.K X.mg x C) (ha:PA (X.wish (BodyX X E)) (e₀ :: rest) t)
  (hg:Gl X x:=by rfl) (hdb:(x == ("__debug__":Str)) = false:=by decide) (he:starEach (e₀ :: rest) X.env = (false,eval e₀ X.env) :: starEach rest X.env:=by rfl) (hplain:(backTo cpos (starEach rest X.env)).any (·.1) = false:=by rfl) :
  PS (X.wish (BodyX X E)) (.Raise (some (.Call (.Name x np) (e₀ :: rest) [] cpos)) none pos) (tRaise C t E):=by
 intro pins s σ H D I h
 obtain ⟨bmB,newId,Bn,initId,q,FB⟩:=Z.ex
 obtain ⟨bm,ns,nm,qn,bs,hd,sn,sub,ab,col,dd,k0,k1,k2,k3,k5,mN,hC,hN,hni,T⟩:=ecls_obj I.kIn q
 have hA:=ha cpos pins s σ H _ I h
 rw [show starEach (e₀ :: rest) (X.wish (BodyX X E)).env = (false,eval e₀ X.env) :: starEach rest X.env from he] at hA
 refine wpAny_Raise_call_subT (C:=C) (nm:=nm) (q:=qn) (N:=ns) (bs:=bs) (bm:=bm) (hdct:=hd) (sn:=sn) (sub:=sub) (ab:=ab) (col:=col) (dd:=dd) (k0:=k0) (k1:=k1) (k2:=k2) (k3:=k3) (k5:=k5)
  FB (mN:=mN) (T.hasType FB.hasBase) (I.ok.hd hc) (by show (backTo cpos (starEach (e₀ :: rest) X.env)).any (·.1) = false;rw [he];show (false || (backTo cpos (starEach rest X.env)).any (·.1)) = false;rw [hplain];rfl) hni (ld_glob I hg Z.g ⟨rfl,?_⟩ hdb)
 show wpAny _ _ (evalArgs (.ref C) true (backTo cpos (starEach (e₀ :: rest) X.env)) []) _ _ s
 rw [he]
 refine Calls.evalArgs_plain (wpAny_mono hA (fun us s2 h2=>?_) fun _ _ y=>y)
 obtain ⟨vs,H2,I2,r2,hz,hE⟩:=h2
 obtain ⟨bm',ns',nm',qn',bs',hd',sn',sub',ab',col',dd',k0',k1',k2',k3',k5',mN',hC2,hN2,hni2,T2⟩:=ecls_obj I2.kIn q
 have J:=I2.unwish
 have st:∀ b o,X.base.get? b = some o→s2.heap.get? b = some o:=J.bk
 have hC':s2.heap.get? C = some (excClassObj nm qn C ns bs bm hd sn sub ab col dd k0 k1 k2 k3 k5 newId):=by
  obtain ⟨bm3,ns3,nm3,qn3,bs3,hd3,sn3,sub3,ab3,col3,dd3,k03,k13,k23,k33,k53,mN3,hC3,hN3,hni3,T3⟩:=ecls_obj J.ok.mod.kin q
  have e1:=(I.unwish.bk _ _ hC3).symm.trans hC
  cases e1
  exact st _ _ hC3
 have hN':s2.heap.Ns ns mN:=by
  obtain ⟨bm3,ns3,nm3,qn3,bs3,hd3,sn3,sub3,ab3,col3,dd3,k03,k13,k23,k33,k53,mN3,hC3,hN3,hni3,T3⟩:=ecls_obj J.ok.mod.kin q
  have e1:=(I.unwish.bk _ _ hC3).symm.trans hC
  injection e1 with e1
  injection e1 with _ _ e1 _
  injection e1 with e1
  injection e1 with _ _ _ e1 _ _ _ _ _ _ _
  subst e1
  have f1:=hN3.keeps I.unwish.bk
  have f2:=hN3.keeps st
  obtain ⟨o1,es1,ep1,g1,g2,g3,g4⟩:=f1
  obtain ⟨o2,es2,ep2,j1,j2,j3,j4⟩:=hN
  rw [g1] at j1;cases j1
  rw [g2] at j2;cases j2
  have em:mN3 = mN:=by funext y;rw [← g4 y,← j4 y]
  rw [← em]
  exact f2
 have T':OwnTail s2.heap bmB bm:=by
  obtain ⟨bm3,ns3,nm3,qn3,bs3,hd3,sn3,sub3,ab3,col3,dd3,k03,k13,k23,k33,k53,mN3,hC3,hN3,hni3,T3⟩:=ecls_obj J.ok.mod.kin q
  have e1:=(I.unwish.bk _ _ hC3).symm.trans hC
  injection e1 with e1
  injection e1 with _ _ e1 _
  injection e1 with e1
  injection e1 with _ _ e1 _ _ _ _ _ _ _ _
  injection e1 with _ e1
  rw [← e1]
  exact T3.keeps st
 refine ⟨rfl,by show us.length≤sizeLine;rw [← r2.length];exact hz,hC',hN',T',fun h' a hx=>?_⟩
 have U:Un (frs X.stack) X.ex X.H₀ H2 X.s₀.heap s2.heap:=J.base.mono (fun b hb=>by
  rcases J.ok.stk with z | ⟨z,_⟩
  ·rw [z];exact hb
  ·rw [z];unfold frs;rw [List.filterMap_cons];split
   ·exact hb
   ·exact List.mem_cons_of_mem _ hb) fun b hb=>hb
 obtain ⟨t0,ht1,ht2,ht3⟩:=hx.there
 refine ⟨a,.ref C,H2,noFr s2.heap X.stack,rfl,⟨J.os,J.bare,U.trans (Un.kept hx.keeps),J.hok.kept hx.keeps,?_,⟨_,.inl ⟨fun b o e=>hx.keeps b o (of_noFr e),?_,?_,_,_,ht1,rfl,rfl,rfl,rfl⟩⟩,fun b o e hb he=>?_,fun b hb=>?_⟩,hE⟩
 ·cases z:H2 a with
  | none=>rfl
  | some u =>
   obtain ⟨o,e⟩:=(J.hok a u z).obj
   rw [hx.new] at e;cases e
 ·cases z:(noFr s2.heap X.stack).get? a with
  | none=>rfl
  | some o=>have:=of_noFr z;rw [hx.new] at this;cases this
 ·exact (noFr_frames J.stack).of_keeps fun b o e _=>⟨o,hx.keeps b o e,rfl⟩
 ·obtain ⟨o1,e1⟩:=U.there b o e he
  exact ⟨o1,hx.keeps b o1 e1,noFr_get e1 hb⟩
 ·obtain ⟨u,hu⟩:=Option.ne_none_iff_exists'.mp hb
  obtain ⟨o,e⟩:=(J.hok b u hu).obj
  exact ⟨o,hx.keeps b o e,noFr_get e fun z=>hb (J.stkFree b z)⟩

theorem Fun.okX {P:Program} {w:World} {K:PySem.W.Frag} {mg:Str→Option Value} {base:Heap} {x qual:Str} {st:Stmt} {f:Addr} {fd:FuncData} {N ps:List Str} {k:Nat} {sp:Sp} (F:Fun K x qual st f fd) (S:FnScope N ps (defScope st)) (len:∀ vs H Q E,sp vs H Q E→vs.length = ps.length)
  (hbody:∀ (cdv:Value) (A:Around) (outer:List Env) (s:Shared) (H:Hp) (vs:List V) (Q:VK) (E:XK),Room k (A.deeper (envOfC qual (defScope st) s.heap.objs.size f cdv))→sp vs H Q E→∀ X:Cx,X = cxOf (CXo P w) P w K mg base N qual (defScope st) f cdv A outer s H E →
   ∃ t,PSs (X.wish (BodyX X E)) (defBody st) t∧t { nx:=fun _ H'=>Q .non H',rt:=Q } (start N vs) H):FnOk P w K mg base (CXo P w) (k + 1) f fd ps sp:=by
 obtain ⟨oc,od,kV,doc,pm,an,cdv,ct,osl,rfl,lk,hcd⟩:=F.ex
 refine fn_of lk hcd S len fun A outer s H vs Q E hr hsp=>?_
 obtain ⟨t,h,q⟩:=hbody cdv A outer s H vs Q E hr hsp _ rfl
 refine ⟨t,fun pins s1 σ H1 D I hw=>?_,q⟩
 refine wpAny_mono (h pins s1 σ H1 D (I.wish _) hw) (fun _ _ q=>q.unwish) fun e s' hx=>?_
 obtain ⟨a,cls,H',B,rfl,x,hE⟩:=hx
 have O:Own (cxOf (CXo P w) P w K mg base N qual (defScope st) f cdv A outer s H E):=⟨I.ok,rfl,rfl,rfl⟩
 show wpAny (model P w) _ (leaving _ (.ref a)) _ _ s'
 refine sta_leave (outer:=outer) I.ok.frames rfl x.sta fun h' a0 k1 k2=>?_
 refine ⟨a,cls,H',B,rfl,x.move k2 ⟨a0,.inr (.inl k1)⟩ (fun b hb=>List.mem_cons_of_mem _ hb) O.loc fun b _=>by simp [cxOf],hE⟩
end L2

namespace L2
open PySem PySem.Spec PyProof.Rows
section
variable {X:Cx} {pins:List (Addr×Obj)} {σ:St} {H:Hp} {s:Shared}
theorem Inv.unname {i:Nat} {x:Str} {h':Heap} {m':Str→Option Value} {t':Nat} (I:Inv X pins σ H s) (hN:X.N.Nodup) (hi:X.N[i]? = some x) (hm:∀ m,s.heap.Ns X.env.locals m→∃ v,h'.Ns X.env.locals (fun y=>if y = x then v else m y))
  (hs:Heap.SameBut X.env.locals s.heap h'):Inv X pins (σ.set i none) H { s with heap:=h',toks:=t' }:=by
 obtain ⟨m,hn,hl⟩:=id I.loc
 obtain ⟨v0,hn'⟩:=hm m hn
 have cne:=I.cne
 have hiσ:i < σ.length:=by rw [I.len];exact (List.getElem?_eq_some_iff.mp hi).1
 refine ⟨I.ok,I.os,I.bare,⟨fun b o e n hb hx=>?_,fun b o e n hb hx=>?_,I.base.free,fun b o e hx=>?_,I.base.tups,I.base.frzs,I.base.tbls⟩,⟨_,hn',fun j y v' e1 e2 e3=>?_⟩,fun y c e=>?_,I.free,I.freeC,fun p hp=>?_,fun b ob e=>?_,by simpa using I.len⟩
 ·exact (hs.2 b (Nat.ne_of_lt (Nat.lt_of_lt_of_le (Heap.lt_size e) I.ok.above))).trans (I.base.keep b o e n hb hx)
 ·obtain ⟨sl,e1⟩:=I.base.slot b o e n hb hx
  exact ⟨sl,(hs.2 b (Nat.ne_of_lt (Nat.lt_of_lt_of_le (Heap.lt_size e) I.ok.above))).trans e1⟩
 ·obtain ⟨o',e1⟩:=I.base.there b o e hx
  exact ⟨o',(hs.2 b (Nat.ne_of_lt (Nat.lt_of_lt_of_le (Heap.lt_size e) I.ok.above))).trans e1⟩
 ·by_cases hj:j = i
  ·subst hj
   rw [List.getElem?_set_self hiσ] at e2
   cases e2
  ·rw [List.getElem?_set_ne (Ne.symm hj)] at e2
   obtain ⟨u',r',q⟩:=hl j y v' e1 e2 e3
   refine ⟨u',r',?_⟩
   rcases q with ⟨k,e⟩ | ⟨k,c,e,z⟩
   ·refine .inl ⟨k,?_⟩
    have:y≠x:=fun e=>hj (nodup_ix hN e1 (e ▸ hi))
    simp [this,e]
   ·exact .inr ⟨k,c,e,z.sameBut hs (cne y c e)⟩
 ·obtain ⟨w',z⟩:=I.cell y c e
  exact ⟨w',z.sameBut hs (cne y c e)⟩
 ·obtain ⟨e,n,ne,nf,d⟩:=I.pin p hp
  exact ⟨(hs.2 p.1 ne).trans e,n,ne,nf,d⟩
 ·refine (I.hok b ob e).stay (fun c w' hc q=>(hs.2 c ?_).trans q) (fun _ q=>q) fun _ _ q=>q
  rintro rfl
  rcases hc with rfl | hc
  ·rw [I.free] at e;cases e
  ·rw [I.free] at hc;cases hc
end
noncomputable def cxSuite (X:Cx) (a:Addr) (oe:Obj):Cx:={ X with A:=X.A.mark (some (.ref a)),calm:=false,pn:=X.pn ++ [(a,oe)],xe:=fun _ _=>False }
section
variable {X:Cx} {pins:List (Addr×Obj)} {σ:St} {H:Hp} {s:Shared} {a:Addr} {oe:Obj}
theorem Inv.suite (I:Inv X pins σ H s) (e:s.heap.get? a = some oe) (hn:H a = none) (hl:a≠X.env.locals) (hf:a ∉ X.fs) (hd:∀ v,oe.data≠.cell v):Inv (cxSuite X a oe) pins σ H s:=by
 refine ⟨⟨I.ok.mod,I.ok.kind,I.ok.glob,I.ok.blt,I.ok.above,I.ok.inj,I.ok.has,I.ok.cab,fun z=>(Bool.false_ne_true z).elim,I.ok.frames,I.ok.stk,I.ok.exf,I.ok.bs,I.ok.bsz,I.ok.noex,I.ok.exfs,I.ok.funs,I.ok.frf⟩,I.os,I.bare,I.base,I.loc,I.cell,I.free,I.freeC,fun p hp=>?_,I.hok,I.len⟩
 have hp:p∈(X.pn ++ [(a,oe)]) ++ pins:=hp
 rcases List.mem_append.mp hp with z | z
 ·rcases List.mem_append.mp z with z | z
  ·exact I.pin p (List.mem_append_left _ z)
  ·have z:p = (a,oe):=by simpa using z
   subst z
   exact ⟨e,hn,hl,hf,hd⟩
 ·exact I.pin p (List.mem_append_right _ z)
theorem Inv.unsuite (ok:X.Ok) (I:Inv (cxSuite X a oe) pins σ H s):Inv X pins σ H s :=
 ⟨ok,I.os,I.bare,I.base,I.loc,I.cell,I.free,I.freeC,fun p hp=>I.pin p (by
  show p∈(X.pn ++ [(a,oe)]) ++ pins
  rcases List.mem_append.mp hp with z | z
  ·exact List.mem_append_left _ (List.mem_append_left _ z)
  ·exact List.mem_append_right _ z),I.hok,I.len⟩
end
noncomputable def PEX (X:Cx) (e:Expr) (t:XK→TE):Prop :=
 ∀ (E:XK) (pins:List (Addr×Obj)) (s:Shared) (σ:St) (H:Hp) (Q:VK),Inv X pins σ H s→t E σ H Q →
  wpAny (model X.prog X.w) X.A (eval e X.env) (EP X pins σ Q) (fun e s'=>∃ H1 s1,Inv X pins σ H1 s1∧CXo X.prog X.w X.stack H1 s1 E e s') s
theorem pex_fn {X:Cx} {x:Str} {st:Stmt} {ps:List Str} {f:Addr} {fd:FuncData} {k:Nat} {sp:Sp} {e:Expr} {es:List Expr} {t:TA} {p pos:Pos} (G:FnOk X.prog X.w X.K X.mg X.base (CXo X.prog X.w) k f fd ps sp) (F:Fn X.K X.mg x st ps f fd) (hr:Room k X.A) (ha:PA X.nox (e :: es) t)
  (hg:Gl X x:=by rfl) (hdb:(x == ("__debug__":Str)) = false:=by decide) (he:starEach (e :: es) X.env = (false,eval e X.env) :: starEach es X.env:=by rfl) (hpl:(backTo pos (starEach es X.env)).any (·.1) = false:=by rfl) :
  PEX X (.Call (.Name x p) (e :: es) [] pos) (fun E=>tCall sp [] E t):=by
 intro E pins s σ H Q I h
 refine wpAny_Call_Name_kw (ld_glob I hg F.g ?_ hdb)
 refine PySem.W.callWith_K (h₀:=X.base) I.ok.mod.kin F.fn.kp (quietX (ha pos pins s σ H _ (I.wish _) h) fun us s1 ⟨vs,H1,I1,r,q⟩=>⟨I1.kIn,?_⟩) he hpl
 have I1:=I1.unwish
 have q':sp (vs ++ []) H1 Q E:=q
 rw [List.append_nil] at q'
 have hl:us.length = ps.length:=by rw [← r.length];exact G.len _ _ _ _ q'
 have hb:=F.b s1 us I1.kIn (by rw [List.append_nil];exact hl)
 rw [List.append_nil] at hb
 refine wpAny_call (codeAny_mono (G.run X.A X.stack s1 H1 ⟨us,[]⟩ us vs Q E hr I1.env0 hb r q') fun r s' hq=>?_)
 cases r with
 | error e=>exact ⟨H1,s1,I1,hq⟩
 | ok fl =>
  cases fl with
  | ret u=>exact I1.after hq
  | next=>exact False.elim hq
  | brk=>exact False.elim hq
  | cont=>exact False.elim hq
end L2

namespace L2
open PySem PySem.Spec PyProof.Rows
section
variable {X:Cx}
theorem ps_sem {b:List Stmt} {R:TS} (h:∀ D σ H,R D σ H→∃ t,PSs X b t∧t D σ H):PSs X b R:=fun pins s σ H D I hw=>by
 obtain ⟨t,ht,hq⟩:=h D σ H hw
 exact ht pins s σ H D I hq
theorem call_tuple_any:CallR X (.type "tuple") (fun xs H Q=>∃ p ys,xs = [.ref p]∧(H p = some (.lst ys)∨H p = some (.tup ys))∧∀ t H1,Same H H1→H1 t = some (.tup ys)→Q (.ref t) H1):=by
 intro pins s σ H xs us Q I r h
 obtain ⟨p,ys,rfl,hp,q⟩:=h
 refine call_tuple_of pins s σ H [.ref p] us Q I r ⟨p,ys,rfl,?_⟩
 rcases hp with hp | hp
 ·exact .inl ⟨SqL.of hp,fun l hl=>q l _ (same_upd hl) upd_same⟩
 ·exact .inr ⟨SqT.of hp,q p H (Same.refl H) hp⟩
theorem passF:Passes (CXo X.prog X.w) X E0:=fun _ _ _ _ _ _ _ h=>by
 obtain ⟨_,_,_,_,_,_,z⟩:=h
 exact z.elim
theorem pe_fnF {x : Str} {st : Stmt} {ps : List Str} {f : Addr} {fd : FuncData} {k : Nat} {sp : Sp} {e : Expr} {es : List Expr} {t : TA} {p pos : Pos} (G : FnOk X.prog X.w X.K X.mg X.base (CXo X.prog X.w) k f fd ps sp) (F : Fn X.K X.mg x st ps f fd) (hr : Room k X.A) (ha : PA X (e :: es) t)
    (hg : Gl X x := by rfl) (hdb : (x == ("__debug__" : Str)) = false := by decide) (he : starEach (e :: es) X.env = (false, eval e X.env) :: starEach es X.env := by rfl) (hpl : (backTo pos (starEach es X.env)).any (·.1) = false := by rfl) :
    PE X (.Call (.Name x p) (e :: es) [] pos) (tCall sp [] E0 t) := pe_call G hr hg F.g F.fn.kp F.b .nil passF ha hdb he hpl
theorem pe_fnX {E : XK} {x : Str} {st : Stmt} {ps : List Str} {f : Addr} {fd : FuncData} {k : Nat} {sp : Sp} {e : Expr} {es : List Expr} {t : TA} {p pos : Pos} (G : FnOk X.prog X.w X.K X.mg X.base (CXo X.prog X.w) k f fd ps sp) (F : Fn X.K X.mg x st ps f fd) (hr : Room k X.A) (ha : PA (X.wish (BodyX X E)) (e :: es) t)
    (hg : Gl (X.wish (BodyX X E)) x := by rfl) (hdb : (x == ("__debug__" : Str)) = false := by decide) (he : starEach (e :: es) X.env = (false, eval e X.env) :: starEach es X.env := by rfl) (hpl : (backTo pos (starEach es X.env)).any (·.1) = false := by rfl) :
    PE (X.wish (BodyX X E)) (.Call (.Name x p) (e :: es) [] pos) (tCall sp [] E t) := pe_call (X := X.wish (BodyX X E)) G hr hg F.g F.fn.kp F.b .nil (passX (F := fun _ _ => True)) ha hdb he hpl

theorem Fun.okX2 {P:Program} {w:World} {K:PySem.W.Frag} {mg:Str→Option Value} {base:Heap} {x qual:Str} {st:Stmt} {f:Addr} {fd:FuncData} {N ps:List Str} {k:Nat} {sp:Sp} (F:Fun K x qual st f fd) (S:FnScope N ps (defScope st)) (len:∀ vs H Q E,sp vs H Q E→vs.length = ps.length)
  (hbody:∀ (cdv:Value) (A:Around) (outer:List Env) (s:Shared) (H:Hp) (vs:List V) (Q:VK) (E:XK),Room k (A.deeper (envOfC qual (defScope st) s.heap.objs.size f cdv))→sp vs H Q E→Own (cxOf (CXo P w) P w K mg base N qual (defScope st) f cdv A outer s H E) →
   ∃ t,PSs ((cxOf (CXo P w) P w K mg base N qual (defScope st) f cdv A outer s H E).wish (BodyX (cxOf (CXo P w) P w K mg base N qual (defScope st) f cdv A outer s H E) E)) (defBody st) t∧t { nx:=fun _ H'=>Q .non H',rt:=Q } (start N vs) H):FnOk P w K mg base (CXo P w) (k + 1) f fd ps sp:=by
 refine F.okX S len fun cdv A outer s H vs Q E hr h X hX=>?_
 subst hX
 by_cases ok:(cxOf (CXo P w) P w K mg base N qual (defScope st) f cdv A outer s H E).Ok
 ·exact hbody cdv A outer s H vs Q E hr h ⟨ok,rfl,rfl,rfl⟩
 ·exact ⟨fun _ _ _=>True,fun pins s σ H D I _=>absurd I.ok.unwish ok,trivial⟩
theorem Fun.okO {P:Program} {w:World} {K:PySem.W.Frag} {mg:Str→Option Value} {base:Heap} {x qual:Str} {st:Stmt} {f:Addr} {fd:FuncData} {N ps:List Str} {k:Nat} {sp:Sp} (F:Fun K x qual st f fd) (S:FnScope N ps (defScope st)) (len:∀ vs H Q E,sp vs H Q E→vs.length = ps.length)
  (hbody:∀ (cdv:Value) (A:Around) (outer:List Env) (s:Shared) (H:Hp) (vs:List V) (Q:VK) (E:XK),Room k (A.deeper (envOfC qual (defScope st) s.heap.objs.size f cdv))→sp vs H Q E→Own (cxOf CX0 P w K mg base N qual (defScope st) f cdv A outer s H E).nox →
   ∃ t,PSs (cxOf CX0 P w K mg base N qual (defScope st) f cdv A outer s H E).nox (defBody st) t∧t { nx:=fun _ H'=>Q .non H',rt:=Q } (start N vs) H):FnOk P w K mg base CX0 (k + 1) f fd ps sp:=by
 refine F.ok S len fun cdv A outer s H vs Q E hr h=>?_
 by_cases ok:(cxOf CX0 P w K mg base N qual (defScope st) f cdv A outer s H E).nox.Ok
 ·exact hbody cdv A outer s H vs Q E hr h ⟨ok,rfl,rfl,rfl⟩
 ·exact ⟨fun _ _ _=>True,fun pins s σ H D I _=>absurd I.ok ok,trivial⟩

theorem Room.lt {k:Nat} {A:Around} (r:Room k A) (n:Nat) (h:n≤62):A.units + n + 1 < cLine:=by have:=r.units;omega

noncomputable def PJ (X:Cx) (es:List Expr) (m:Nat) (t:St→Hp→Prop):Prop :=
 ∀ (pins:List (Addr×Obj)) (s:Shared) (σ:St) (H:Hp) (out:Str) (Q:Value→Shared→Prop),Inv X pins σ H s→t σ H→out.length + m≤sizeLine→(∀ x tk s',Inv X pins σ H s'→Q (.str x tk) s') →
  wpAny (model X.prog X.w) X.A (joinParts out (evalEach es X.env)) Q X.xe s
noncomputable def jNil:St→Hp→Prop:=fun _ _=>True
theorem pj_nil:PJ X [] 0 jNil:=fun pins s σ H out Q I _ hz q=>joinParts_nil (q _ _ _ (I.tok _)) (by omega)
theorem pj_str {x:Str} {j} {pos:Pos} {es:List Expr} {m:Nat} {t:St→Hp→Prop} (h:PJ X es m t):PJ X (.Constant (.str x) j pos :: es) (x.length + m) t:=fun pins s σ H out Q I ht hz q=>by
 show wpAny _ _ (joinParts out (eval (.Constant (.str x) j pos) X.env :: evalEach es X.env)) Q _ s
 have e:(out ++ x).length = out.length + x.length:=strLen_append _ _
 refine joinParts_cons (Calls.Constant_str ?_)
 exact ⟨by rw [e];omega,h pins _ σ H (out ++ x) Q (I.tok _) ht (by rw [e];omega) q⟩
noncomputable def tFs (t:St→Hp→Prop):TE:=fun σ H Q=>t σ H∧∀ x,Q (.str x) H
theorem pe_fs {a b:Expr} {es:List Expr} {pos:Pos} {m:Nat} {t:St→Hp→Prop} (h:PJ X (a :: b :: es) m t) (hm:m≤1000000):PE X (.JoinedStr (a :: b :: es) pos) (tFs t):=fun pins s σ H Q I hw=>by
 have e:Str.empty.length = 0:=rfl
 have z:sizeLine = 16777216:=sizeLine_eq
 exact JoinedStr_many (h pins s σ H Str.empty _ I hw.1 (by rw [e,z];omega) fun x tk s' I'=>⟨.str x,H,I',⟨_,rfl⟩,hw.2 x⟩)
end

open PySem.W in
structure ExK (K:Frag) (D:Addr):Prop where
 ga:findIn K (.ref D) "__getattribute__" = some (some (.builtin "BaseException.__getattribute__"))
 gt:findIn K (.ref D) "__getattr__" = some none
 cl:findIn K (.ref D) "__class__" = some (some (.builtin "object.__class__"))
 sp:specialIn K (.builtin "object.__class__") "__get__" = some (some (.builtin "getset_descriptor.__get__"))
 tk:takesIn K (.builtin "object.__class__") = some true
 mo:mroIn K D (.type "object") = some true
 mb:mroIn K D (.type "BaseException") = some true
 hd:(clsIn K D).isSome = true
section
open PySem.W PySem.Calls Builtin Builtin.ObjectAttr Builtin.Getset_descriptor
variable {prog:Program} {w:World} {A:Around} {E:Value→Shared→Prop} {K:Frag} {x D:Addr} {hp:Heap} {gs:Array GenState} {dr:Drawn} {tn:Nat} {os:OsState}
theorem find_class (kin:K.In hp) (Z:ExK K D) (M:Model):Looks M hp (Builtin.ObjectAttr.find (.ref x) (.ref D) "__class__") (.bind (.builtin "getset_descriptor.__get__") (.builtin "object.__class__")):=by
 refine (looks_findIn (M:=M) kin Z.cl).andThen ?_
 refine (looks_specialIn (M:=M) kin Z.sp).andThen ?_
 refine Looks.andThen (a:=some (.builtin "getset_descriptor.__get__",.builtin "object.__class__")) ?_ (Looks.tag .now)
 refine (looks_takesIn (M:=M) kin Z.tk).andThen ?_
 exact .now
theorem exc_class_get {R:Result→Shared→Prop} {tp:Value} (kin:K.In hp) (LT:∀ M:Model,Looks M hp (typeOf (.ref x)) (.ref D)) (Z:ExK K D) (h:R (.ok (.ret (.ref D))) ⟨hp,gs,dr,tn,os⟩) :
  codeAny (model prog w) A (.call (.builtin "getset_descriptor.__get__") ⟨[.builtin "object.__class__",.ref x,tp],[]⟩) R ⟨hp,gs,dr,tn,os⟩:=by
 have la:=LT (model prog w)
 have lb:=looks_mroIn (M:=model prog w) kin Z.mo
 refine codeAny_call_builtin KF.slot_gs.plain KF.entry_gs (KF.slot_gs.check _ _ _ _ _ _ _ _ KF.type_class (KF.args_gs _ _ _) ?_)
 unfold Builtin.«getset_descriptor.__get__» descrGet;rw [dga_obj]
 refine wpAny_bind (wpAny_pure ?_)
 unfold descrGetter descrCheckInstance descrNameAndClass isInstance;simp only [KF.owner_class]
 repeat lk
 refine ⟨Code.quiet_builtin _ (by decide +kernel),codeAny_builtin KF.entry_class ?_⟩
 unfold Builtin.«object.__class__» shownTypeOf;repeat lk
 exact h
theorem exc_entry {Q:Fin→Shared→Prop} {tk:Tok} (kin:K.In hp) (LT:∀ M:Model,Looks M hp (typeOf (.ref x)) (.ref D)) (Z:ExK K D) (h:Q (.done (.ret (.ref D))) ⟨hp,gs,dr,tn,os⟩) :
  wpAny (model prog w) A (Builtin.«object.__getattribute__» ⟨[.ref x,.str "__class__" tk],[]⟩) Q E ⟨hp,gs,dr,tn,os⟩:=by
 have la:=LT (model prog w)
 have lb:=find_class (x:=x) kin Z (model prog w)
 unfold Builtin.«object.__getattribute__»
 refine wpAny_bind (m:=slotArgs "__getattribute__" 1 ⟨[.ref x,.str "__class__" tk],[]⟩) (wpAny_pure ?_)
 show wpAny _ _ (attrName (.str "__class__" tk) >>= _) _ _ _
 refine wpAny_bind (m:=attrName (.str "__class__" tk)) (wpAny_pure ?_)
 refine wpAny_bind (la.at ?_)
 refine wpAny_bind (lb.at ?_)
 show wpAny _ _ (bindTo (.builtin "getset_descriptor.__get__") (.builtin "object.__class__") (.ref x) (.ref D)) _ _ _
 unfold bindTo
 refine wpAny_bind (wpAny_holding (wpAny_call (exc_class_get kin LT Z ?_)))
 exact wpAny_pure h
theorem exc_class {Q:Option Value→Shared→Prop} (kin:K.In hp) (LT:∀ M:Model,Looks M hp (typeOf (.ref x)) (.ref D)) (Z:ExK K D) (h:Q (some (.ref D)) ⟨hp,gs,dr,tn + 1,os⟩) :
  wpAny (model prog w) A (getAttr? (.ref x) "__class__") Q E ⟨hp,gs,dr,tn,os⟩:=by
 have la:=LT (model prog w)
 have lb:=looks_findIn (M:=model prog w) kin Z.ga
 have lc:=looks_findIn (M:=model prog w) kin Z.gt
 have ld:=looks_mroIn (M:=model prog w) kin Z.mb
 have li:Looks (model prog w) hp (isInstance (.ref x) (.type "BaseException")) true:=la.andThen ld
 have sl:=PySem.F.attr_ValueError.ga
 have hne:(onTheHeap (Value.ref D) && Value.builtin "BaseException.__getattribute__" == Value.builtin "object.__getattribute__") = false:=by
  rw [show (Value.builtin "BaseException.__getattribute__" == Value.builtin "object.__getattribute__") = false from by decide +kernel]
  rfl
 unfold getAttr? getAttrBy? getAttrBy
 refine wpAny_bind (wpAny_mkText (wpAny_bind (wpAny_attempt (wpAny_holding (wpAny_bind (la.at (wpAny_bind (lb.at ?_))))))))
 show wpAny _ _ (if (onTheHeap (Value.ref D) && Value.builtin "BaseException.__getattribute__" == Value.builtin "object.__getattribute__") = true then _ else getAttrByItsOwn _ _ _ _ _ _) _ _ _
 rw [hne,if_neg Bool.false_ne_true]
 unfold getAttrByItsOwn
 show wpAny _ _ (typeLookup (.ref D) "__getattr__" >>= _) _ _ _
 refine wpAny_bind (lc.at ?_)
 refine wpAny_bind (wpAny_attempt (wpAny_holding ?_))
 show wpAny _ _ (boundAndCalled _ _ _) _ _ _
 unfold boundAndCalled
 refine wpAny_bind (wpAny_of_eq (sl.bind (.ref x)) ?_)
 show wpAny _ _ (call (.builtin "BaseException.__getattribute__") [.ref x,.str "__class__" tn]) _ _ _
 have hk:builtinKind "BaseException.__getattribute__" = some .slot:=by decide +kernel
 have hs:splitId "BaseException.__getattribute__" = some ("BaseException","__getattribute__"):=by decide +kernel
 have hg:=PySem.F.args_bexc_ga (.ref x) (.str "__class__" tn)
 refine wpAny_call (codeAny_call_builtin sl.plain PySem.F.entry_bexc_ga ?_)
 simp only [checkBuiltinCall,hk,hs]
 refine wpAny_bind (li.at ?_)
 repeat (first | assumption | with_reducible refine exc_entry kin LT Z ?_ | wp_step)
theorem kitx_exc (Z:ExK K D):KitX K (.ref x) (.ref D) (fun h=>∃ oe,h.get? x = some oe∧oe.cls = .ref D) where
 ty:=fun M h _ q=>by
  obtain ⟨oe,e,c⟩:=q
  rw [← c]
  exact (Looks.ld e).andThen .now
 it:=fun _ _ kin _=>by
  have hd:=Z.hd
  unfold clsIn at hd
  split at hd
  ·rename_i ho
   intro A' Q' E' s' kk qq
   unfold isType loadHead
   exact wpAny_bind (wpAny_loadPart (kk _ _ (kin _ _ ho)) (wpAny_pure qq))
  ·cases hd
 ne:=fun h tp dd its n sl kin htp=>by
  have hd:=Z.hd
  refine Bool.eq_false_iff.mpr fun q=>?_
  have e:D = tp:=Value.ref.inj (beq_iff_eq.mp q)
  rw [e] at hd
  unfold clsIn at hd
  split at hd
  ·rename_i ho
   have z:=(kin _ _ ho).symm.trans htp
   cases z
  ·cases hd
 ca:=fun {_ _ _ _ _ s} kin q k=>by
  obtain ⟨hp,gs,dr,tn,os⟩:=s
  obtain ⟨oe,e,c⟩:=q
  exact exc_class kin (fun M=>by rw [← c];exact (Looks.ld e).andThen .now) Z k
end
theorem bb_ValueError:bootBuiltins "ValueError" = some (.type "ValueError"):=by decide +kernel
theorem call_isx {X:Cx} {a D:Addr} {oe:Obj} (he:oe.cls = .ref D) (Z:ExK X.K D):CallR (cxSuite X a oe) (.builtin "isinstance") (fun xs H Q=>∃ c b,((∃ c',c = V.ref c'∧PySem.W.kitOne X.K (.ref D) (.ref c') = some b)∨(∃ n,c = V.ty n∧PySem.W.kitOne X.K (.ref D) (.type n) = some b))∧xs = [.ref a,c]∧Q (.bl b) H):=by
 intro pins s σ H xs us Q I r h
 obtain ⟨c,b,hc,rfl,q⟩:=h
 obtain ⟨u,v,rfl,ru,rv⟩:=r.two
 cases ru
 have hp:=(I.pin (a,oe) (List.mem_append_left _ (List.mem_append_right _ (List.mem_singleton.mpr rfl)))).1
 have kin:X.K.In s.heap:=I.kIn
 rcases hc with ⟨c',rfl,e⟩ | ⟨n,rfl,e⟩
 ·cases rv
  exact PySem.W.kia_one (kitx_exc Z) kin ⟨oe,hp,he⟩ e (fun z=>nomatch z) fun tk=>⟨.bl b,H,I.tok tk,rfl,q⟩
 ·cases rv
  exact PySem.W.kia_one (kitx_exc Z) kin ⟨oe,hp,he⟩ e (fun z=>nomatch z) fun tk=>⟨.bl b,H,I.tok tk,rfl,q⟩
end L2

namespace L2
open PySem PySem.Spec PyProof.Rows
section
variable {X:Cx}
noncomputable def rInsert:V→List V→Hp→VK→Prop:=fun x vs H Q=>∃ l xs i k y,x = .ref l∧vs = [.int i,y]∧H l = some (.lst xs)∧i = ((k:Nat):Int)∧k≤xs.length∧xs.length < sizeLine∧Q .non (upd H l (.lst (xs.take k ++ y :: xs.drop k)))
theorem mt_insert:MtM X "list.insert" rInsert:=by
 intro pins s σ H x vs v us Q I rx rv h
 obtain ⟨l,xs,i,k,y,rfl,rfl,hH,hi,hk,hz,q⟩:=h
 cases rx
 obtain ⟨u1,u2,rfl,r1,r2⟩:=rv.two
 obtain ⟨t,rfl⟩:=r1
 obtain ⟨z,its,n,r,hl,e⟩:=I.lstM hH
 have hz2:xs.length < 16777216:=by rw [← sizeLine_eq];exact hz
 have hfit:Builtin.List.listFitsIndex i = true:=by
  have h1:-(2 ^ 63:Int)≤i:=by omega
  have h2:i < 2 ^ 63:=by omega
  exact fitsIndex_both h1 h2
 have hn1:¬ (!Builtin.List.listFitsIndex i) = true:=fun z=>by rw [hfit] at z;exact Bool.false_ne_true z
 have hn2:its.toArray.size≤sizeLine:=by rw [List.size_toArray];omega
 refine call_meets F.slot_list_insert ⟨_,e,rfl⟩ F.entry_list_insert (F.args_list_insert_3 _ _ _) (AutoSeq1.list_insert_list_int_val_1 l its.toArray n i t u2 hn1 hn2) ⟨e,?_⟩
 refine ⟨.non,_,I.lset (its':=its.take k ++ u2 :: its.drop k) hH e ?_ ((r.take k).append (.cons r2 (r.drop k))) ?_,rfl,q⟩
 ·have hmin:(if i < 0 then (i + (its.toArray.size:Int)).toNat else min i.toNat its.toArray.size) = k:=by
   rw [if_neg (by omega),hi,Int.toNat_natCast,List.size_toArray]
   omega
  show (its.toArray.extract 0 (if i < 0 then (i + (its.toArray.size:Int)).toNat else min i.toNat its.toArray.size)).push u2 ++ its.toArray.extract (if i < 0 then (i + (its.toArray.size:Int)).toNat else min i.toNat its.toArray.size) = _
  rw [hmin]
  have z2:=splice_eq its [u2] k k
  rw [Array.push_eq_append]
  have e3:its.take k ++ [u2] ++ its.drop k = its.take k ++ u2 :: its.drop k:=by simp
  rw [e3] at z2
  exact z2
 ·rw [List.length_append,List.length_cons,List.length_take,List.length_drop]
  omega

noncomputable def Deep (K:PySem.W.Frag) (H:Hp):Nat→V→V→Prop
 | 0,x,y=>x = y∧flatV x = true
 | n + 1,x,y=>(x = y∧flatV x = true)∨∃ (a b:Addr) (xs ys:List V),x = .ref a∧y = .ref b∧((SqL K H a xs∧SqL K H b ys)∨(SqT K H a xs∧SqT K H b ys))∧xs.length = ys.length∧∀ (i:Nat) (u v:V),xs[i]? = some u→ys[i]? = some v→Deep K H n u v
theorem eqV_self {x:V} (h:flatV x = true):eqV x x = true:=by
 cases x <;> first | rfl | (exact absurd h Bool.false_ne_true) | (show (_ == _) = true;exact beq_self_eq_true _)
theorem vals_at {xs:List V} {its:List Value} {j:Nat} (r:Vals xs its) (hj:j < its.toArray.size):∃ x,xs[j]? = some x∧RelV x its.toArray[j]:=by
 have hl:=r.length
 have hx:j < xs.length:=by rw [List.size_toArray] at hj;omega
 obtain ⟨u,hu,ru⟩:=r.get (List.getElem?_eq_getElem hx)
 refine ⟨_,List.getElem?_eq_getElem hx,?_⟩
 have z:its.toArray[j]? = some u:=by simpa using hu
 rw [(Array.getElem?_eq_some_iff.mp z).2]
 exact ru
theorem all_true (n:Nat):(List.range n).all (fun _=>true) = true:=List.all_eq_true.mpr fun _ _=>rfl
section
variable {pins:List (Addr×Obj)} {σ:St} {H:Hp} {s:Shared}
theorem deep_eqAt (I:Inv X pins σ H s):∀ (n:Nat) {A:Around} {x y:V} {u v:Value},A.units + n < cLine→Deep X.K H n x y→RelV x u→RelV y v→SeqAt.EqAt A s u v true
 | 0,A,x,y,u,v,hu,h,rx,ry=>by
  obtain ⟨rfl,f⟩:=h
  have z:=eqAt_V (A:=A) (s:=s) rx ry f f
  rw [eqV_self f] at z
  exact z
 | n + 1,A,x,y,u,v,hu,h,rx,ry=>by
  rcases h with ⟨rfl,f⟩ | ⟨a,b,xs,ys,rfl,rfl,hs,hl,hd⟩
  ·have z:=eqAt_V (A:=A) (s:=s) rx ry f f
   rw [eqV_self f] at z
   exact z
  ·cases rx
   cases ry
   by_cases e:a = b
   ·subst e;exact SeqAt.EqAt.same _
   ·refine SeqAt.EqAt.of_refs e ?_
    have hu1:A.in1.units + n < cLine:=by show A.units + 1 + n < cLine;omega
    rcases hs with ⟨h1,h2⟩ | ⟨h1,h2⟩
    ·obtain ⟨i1,r1,p1,z1⟩:=I.list h1
     obtain ⟨i2,r2,p2,z2⟩:=I.list h2
     have l1:=r1.length
     have l2:=r2.length
     have z:=SeqAt.RcAt.lists (A:=A) (e:=fun _=>true) p1.isList p2.isList (by simp only [List.size_toArray];omega) (by omega) fun j q1 q2=>by
      obtain ⟨x1,e1,t1⟩:=vals_at r1 q1
      obtain ⟨x2,e2,t2⟩:=vals_at r2 q2
      exact deep_eqAt I n hu1 (hd j x1 x2 e1 e2) t1 t2
     rw [all_true] at z
     exact z
    ·obtain ⟨i1,r1,p1,z1⟩:=I.tuple h1
     obtain ⟨i2,r2,p2,z2⟩:=I.tuple h2
     have l1:=r1.length
     have l2:=r2.length
     have z:=SeqAt.RcAt.tuples (A:=A) (e:=fun _=>true) (show s.heap.IsTuple a i1.toArray from p1) (show s.heap.IsTuple b i2.toArray from p2) (by omega) fun j q1 q2=>by
      obtain ⟨x1,e1,t1⟩:=vals_at r1 q1
      obtain ⟨x2,e2,t2⟩:=vals_at r2 q2
      exact deep_eqAt I n hu1 (hd j x1 x2 e1 e2) t1 t2
     have e3:(i1.toArray.size == i2.toArray.size) = true:=by simp only [List.size_toArray,beq_iff_eq];omega
     rw [all_true,e3] at z
     exact z
end
noncomputable def DeepL (K:PySem.W.Frag) (H:Hp) (n:Nat) (a b:Addr):Prop:=∃ xs ys:List V,SqL K H a xs∧SqL K H b ys∧xs.length = ys.length∧∀ (i:Nat) (u v:V),xs[i]? = some u→ys[i]? = some v→Deep K H n u v
theorem op_eq_deep (n:Nat) (hu:X.A.units + n + 1 < cLine):OpR X (compareOp .Eq) (fun x y H Q=>∃ a b:Addr,x = .ref a∧y = .ref b∧DeepL X.K H n a b∧Q (.bl true) H):=by
 intro pins s σ H x y v u Q I rx ry h
 obtain ⟨a,b,rfl,rfl,⟨xs,ys,h1,h2,hl,hd⟩,q⟩:=h
 cases rx
 cases ry
 obtain ⟨i1,r1,p1,z1⟩:=I.list h1
 obtain ⟨i2,r2,p2,z2⟩:=I.list h2
 have l1:=r1.length
 have l2:=r2.length
 refine SeqAt.eq_listAt (e:=fun _=>true) p1.isList p2.isList (by simp only [List.size_toArray];omega) (by omega) (fun j q1 q2=>?_) ⟨.bl true,H,I,?_,q⟩
 ·obtain ⟨x1,e1,t1⟩:=vals_at r1 q1
  obtain ⟨x2,e2,t2⟩:=vals_at r2 q2
  exact deep_eqAt I n (by show X.A.units + 1 + n < cLine;omega) (hd j x1 x2 e1 e2) t1 t2
 ·show Value.bool _ = Value.bool true
  rw [all_true]
theorem op_ne_deep (n:Nat) (hu:X.A.units + n + 1 < cLine):OpR X (compareOp .NotEq) (fun x y H Q=>∃ a b:Addr,x = .ref a∧y = .ref b∧DeepL X.K H n a b∧Q (.bl false) H):=by
 intro pins s σ H x y v u Q I rx ry h
 obtain ⟨a,b,rfl,rfl,⟨xs,ys,h1,h2,hl,hd⟩,q⟩:=h
 cases rx
 cases ry
 obtain ⟨i1,r1,p1,z1⟩:=I.list h1
 obtain ⟨i2,r2,p2,z2⟩:=I.list h2
 have l1:=r1.length
 have l2:=r2.length
 refine SeqAt.RcNeAt.lists (A:=X.A) (e:=fun _=>true) p1.isList p2.isList (by simp only [List.size_toArray];omega) (by omega) (fun j q1 q2=>?_) X.prog X.w X.xe _ ⟨.bl false,H,I,?_,q⟩
 ·obtain ⟨x1,e1,t1⟩:=vals_at r1 q1
  obtain ⟨x2,e2,t2⟩:=vals_at r2 q2
  exact deep_eqAt I n (by show X.A.units + 1 + n < cLine;omega) (hd j x1 x2 e1 e2) t1 t2
 ·show Value.bool _ = Value.bool false
  rw [all_true]
  rfl
end
end L2

namespace L2
open PySem PySem.Spec PyProof.Rows

theorem compOk1 {X:Cx} {scope:Scope} {pre:List Str} {y:Str} {c:Addr} {j:Nat} (hkind:scope.kind = .function) (h:∀ z∈scope.names,z.2≠.cell∧(z.2 = .free→z.1 = y)) (hn:∀ z∈scope.names,z.2 = .local→scope.names.lookup z.1 = some .local)
  (hcl:closureFor scope X.env = pure [(y,c)]) (hc:X.env.cells.lookup y = some c) (hN:X.N[j]? = some y) (hk:X.env.kindOf y = some .cell) (hr:(relabel scope X.env).names.lookup y = some .cell) :
  CompOk X scope [(y,c)] (pre ++ [y]) (List.replicate pre.length none ++ [some j]) where
 clos:=hcl
 cell:=fun z hz=>(h z hz).1
 kind:=hkind
 names:=hn
 cls:=fun x c' e=>by
  rw [List.lookup_cons] at e
  split at e
  ·rename_i hx
   rw [eq_of_beq hx,← e]
   exact hc
  ·cases e
 has:=fun x e=>by
  have key:∀ k,(relabel scope X.env).names.lookup x = some k→k = .cell∨k = .free→x = y:=fun k e hk=>by
   have hm:=PySem.mem_of_lookup e
   obtain ⟨⟨n,k'⟩,hy,ey⟩:=List.mem_map.mp hm
   have h1:=h _ hy
   by_cases hf:k' = .free
   ·have z:=h1.2 hf
    dsimp only at ey
    split at ey
    ·cases ey;exact z
    ·cases ey;exact z
   ·have hb:(k' == NameKind.free) = false:=by simpa using hf
    simp only [hb,Bool.false_and,Bool.false_eq_true,if_false,Prod.mk.injEq] at ey
    obtain ⟨_,rfl⟩:=ey
    rcases hk with hk | hk
    ·exact absurd hk h1.1
    ·exact absurd hk hf
  have hxy:x = y:=by
   rcases e with e | e
   ·exact key _ e (.inl rfl)
   ·exact key _ e (.inr rfl)
  exact ⟨c,by rw [hxy,List.lookup_cons,beq_self_eq_true]⟩
 len:=by simp
 src:=fun i k x e1 e2=>by
  by_cases hi:i < pre.length
  ·rw [List.getElem?_append_left (by simpa using hi),List.getElem?_replicate,if_pos hi] at e1
   cases e1
  ·have hl:=(List.getElem?_eq_some_iff.mp e2).1
   rw [List.length_append,List.length_singleton] at hl
   have e:i = pre.length:=by omega
   subst e
   rw [List.getElem?_append_right (by simp)] at e1
   rw [List.getElem?_append_right (Nat.le_refl _)] at e2
   simp at e1 e2
   subst e1 e2
   exact ⟨hN,.inl hk,.inl hr⟩

theorem compOk2 {X : Cx} {scope : Scope} {x y : Str} {c : Addr} {j : Nat} (hkind : scope.kind = .function) (h : ∀ z ∈ scope.names, z.2 ≠ .cell ∧ (z.2 = .free → z.1 = y)) (hn : ∀ z ∈ scope.names, z.2 = .local → scope.names.lookup z.1 = some .local)
    (hcl : closureFor scope X.env = pure [(y, c)]) (hc : X.env.cells.lookup y = some c) (hN : X.N[j]? = some y) (hk : X.env.kindOf y = some .cell) (hr : (relabel scope X.env).names.lookup y = some .cell) :
    CompOk X scope [(y, c)] [x, y] [none, some j] := compOk1 (pre := [x]) hkind h hn hcl hc hN hk hr
theorem bind_name {M:Model} {A:Around} {E:Value→Shared→Prop} {s:Shared} {env:Env} {x:Str} {v:Value} {Q:Unit→Shared→Prop} (h:wpAny M A (storeName env x v) Q E s):wpAny M A (bindName env x v) Q E s:=fun Γ p hΓ=>by
 rw [Sem.wp_bindName]
 exact h Γ _ hΓ
theorem ps_comp {X:Cx} {elt iter tg:Expr} {ifs:List Expr} {scope:Scope} {pos pos' ps:Pos} {x:Str} {ix:Nat} {cl:List (Str×Addr)} {NC:List Str} {ini:List (Option Nat)} {wi:TI} {g:TG} {tt:TT} {te:TE}
  (hN:X.N.Nodup) (hix:X.N[ix]? = some x) (hx:Loc X.env.scope x) (hc:X.calm = true) (O:CompOk X scope cl NC ini) (hi:PI X tg iter wi)
  (hg:∀ fp C s₀ H₀,PG (cxComp X scope cl NC fp C s₀ H₀) tg g) (ht:∀ fp C s₀ H₀,PTs (cxComp X scope cl NC fp C s₀ H₀) ifs tt) (he:∀ fp C s₀ H₀,PE (cxComp X scope cl NC fp C s₀ H₀) elt te)
  (hs:∀ x,foldedSetIterable iter X.env x = pure x:=by intro _;rfl) (hsw:swapsWith (.ListComp elt [⟨tg,iter,ifs,0⟩] scope pos) (some (.Name x pos')) ps.line X.env = pure true:=by rfl)
  (hf:X.fn x = true∨X.env.scope.names.lookup x = some .local:=by first | exact .inl rfl | exact .inr rfl | assumption):PS X (.Assign [.Name x pos'] (.ListComp elt [⟨tg,iter,ifs,0⟩] scope pos) ps) (tAsg (tComp wi g tt te ini) (gName ix)):=by
 intro pins s σ H Dn I h
 rw [exec_Assign_Name_used _ _ _ _ hsw]
 refine wpAny_bind (wpAny_standAt (wpAny_bind ?_))
 show wpAny _ _ (comprehension (.ListComp elt [⟨tg,iter,ifs,0⟩] scope pos) scope X.env _ (newList []) false (eval iter X.env) (some (assign (.Name x pos') X.env)) >>= fun _=>pure ()) _ _ s
 refine wpAny_bind ?_
 refine wpAny_comprehension_free (use:=some (assign (.Name x pos') X.env)) rfl hs O.clos O.kind O.names (thn (hi pins s σ H _ I h) fun v s1 h1=>thn h1 fun itv s2 h2=>?_)
 obtain ⟨it,fp,tn,J,H2,e,I2,T,st2,f2,h2⟩:=h2
 subst e
 have hD:H2 s2.heap.objs.size = none:=I2.hok.fresh (Nat.le_refl _)
 obtain ⟨W,⟨m0,w0⟩,turn⟩:=h2 _ hD
 refine wpAny_newObj_type (wpAny_newFunctionEnv O.cell (by intro y hy;simp at hy) (fun h₁ hns₁ hsb₁=>?_) O.kind)
 dsimp only at hns₁ hsb₁ ⊢
 have I3:Inv X pins σ (upd H2 s2.heap.objs.size (.lst [])) { s2 with heap:=s2.heap.push { cls:=.type "list",dict:=none,data:=.seq ([]:List Value).toArray } }:=I2.lnew (its:=[]) (t':=s2.toks) .nil (by decide)
 have ob2:∀ b∈fp,∃ o,s2.heap.get? b = some o:=fun b hb=>let ⟨o,e,_⟩:=T.obj 0 _ st2 b hb;⟨o,e⟩
 have neD:∀ b∈fp,b≠s2.heap.objs.size:=fun b hb=>let ⟨o,e⟩:=ob2 b hb;Nat.ne_of_lt (Heap.lt_size e)
 have f3:∀ b∈fp,FpOk X pins (upd H2 s2.heap.objs.size (.lst [])) b:=fun b hb=>⟨by rw [upd_ne (neD b hb)];exact (f2 b hb).1,(f2 b hb).2⟩
 generalize hs3:({ s2 with heap:=s2.heap.push { cls:=.type "list",dict:=none,data:=.seq ([]:List Value).toArray } }:Shared) = s3 at I3
 have hh3:s2.heap.push { cls:=.type "list",dict:=none,data:=.seq ([]:List Value).toArray } = s3.heap:=by rw [← hs3]
 have ob3:∀ b∈fp,∃ o,s3.heap.get? b = some o:=fun b hb=>let ⟨o,e⟩:=ob2 b hb;⟨o,by rw [← hh3];exact Heap.get?_push_of_some _ e⟩
 rw [hh3] at hns₁ hsb₁ ⊢
 have old:∀ b o,s3.heap.get? b = some o→h₁.get? b = some o:=fun b o e=>hsb₁.extBut b o (Nat.ne_of_lt (Heap.lt_size e)) (Heap.get?_push_of_some _ e)
 have st1:tn 0 h₁:=T.keep 0 _ _ st2 fun b hb o e=>old b o (by rw [← hh3];exact Heap.get?_push_of_some _ e)
 have IC:∀ tk,Inv (cxComp X scope cl NC fp s3.heap.objs.size s3 (upd H2 s2.heap.objs.size (.lst []))) [] (iniSt ini σ) (upd H2 s2.heap.objs.size (.lst [])) { s3 with heap:=h₁,toks:=tk }:=fun tk=>inv_comp O I3 f3 ob3 hns₁ old
 have stat:∀ {H':Hp},(∀ b∈fp,H' b = none)→∀ b∈fp,FpOk (cxComp X scope cl NC fp s3.heap.objs.size s3 (upd H2 s2.heap.objs.size (.lst []))) [] H' b:=fun {H'} hn b hb=>by
  obtain ⟨o,e⟩:=ob3 b hb
  refine ⟨hn b hb,Nat.ne_of_lt (Heap.lt_size e),fun z=>?_,.inl hb,fun x c hx=>(f3 b hb).2.2.2.2.1 x c (O.cls x c hx),fun p hp=>absurd (show p∈([]:List (Addr×Obj)) from hp) (by simp)⟩
  rcases List.mem_cons.mp (I3.stkSub b z) with q | q
  ·exact (f3 b hb).2.1 q
  ·exact (f3 b hb).2.2.1 q
 have loop:∀ s₃:Shared,s₃ = { s2 with heap:=h₁,toks:=s2.toks + ([]:List (Str×Value)).length } →
   codeAny (model X.prog X.w) X.A (.compLoop (.ListComp elt [⟨tg,iter,ifs,0⟩] scope pos) 0 (.ref it) (.ref s2.heap.objs.size) (compEnvC scope cl s3.heap.objs.size X.env))
    (compPost (model X.prog X.w) X.A X.xe (some (assign (.Name x pos') X.env)) (fun _ sE=>wpAny (model X.prog X.w) X.A (pure ()) (fun _ s₁=>wpAny (model X.prog X.w) X.A (pure Flow.next) (SP X pins Dn) X.xe s₁) X.xe sE) (.ref s2.heap.objs.size) s3.heap.objs.size) s₃:=by
  rintro s₃ rfl
  refine codeAny_loop rfl (fun n s'=>∃ i σ' H',Inv (cxComp X scope cl NC fp s3.heap.objs.size s3 (upd H2 s2.heap.objs.size (.lst []))) [] σ' H' s'∧tn i s'.heap∧(∀ b∈fp,H' b = none)∧W i n σ' H') (fun n s' hI=>?_) m0
   ⟨0,_,_,by have z:=IC (s2.toks + ([]:List (Str×Value)).length);rw [← hs3] at z ⊢;exact z,st1,fun b hb=>(f3 b hb).1,w0⟩
  show wpAny _ X.A ((compTurn (.ListComp elt [⟨tg,iter,ifs,0⟩] scope pos) 0 (.ref it) (.ref s2.heap.objs.size) (compEnvC scope cl s3.heap.objs.size X.env)).onRaise (fun x=>do noteFrame x (compEnvC scope cl s3.heap.objs.size X.env);theTreesLotGoes x)) _ _ s'
  refine wpAny_noted ?_
  rw [compTurn_list]
  obtain ⟨i,σ3,H3,I3',st3,fr3,w3⟩:=hI
  rcases turn i n σ3 H3 w3 with ⟨stop,qn⟩ | ⟨go,N,hN,step⟩
  ·refine wpAny_bind (wpAny_standAt (wpAny_bind (thn (T.done (cxComp X scope cl NC fp s3.heap.objs.size s3 (upd H2 s2.heap.objs.size (.lst []))) rfl rfl rfl hc i [] s' σ3 H3 _ I3' (stat fr3) st3 stop) fun r s4 ⟨hr,I4⟩=>?_)))
   subst hr
   obtain ⟨m',hn',_⟩:=I4.loc
   refine wpAny_pure ?_
   show wpAny _ _ (do standAt pos';bindName X.env x (.ref s2.heap.objs.size)) _ _ s4
   refine wpAny_bind (wpAny_standAt ?_)
   have IX:Inv X pins σ H3 s4:=comp_back I3 f3 I4 (Heap.SameBut.refl _ _)
   have fC:FpOk X pins H3 s3.heap.objs.size:=I3.fpOk (Nat.le_refl _) I4.free
   obtain ⟨c0,c1,c2,c3,c4,c5⟩:=fC
   refine bind_name (store_ok2 IX hN hix hx (v:=.ref s2.heap.objs.size) rfl (fun s5 I5 sb=>?_) hf)
   obtain ⟨aa,sb1,sb2⟩:=sb
   have nA:s3.heap.objs.size≠aa:=by
    rcases sb2 with z | z
    ·rw [z];exact c1
    ·exact Ne.symm (c4 x aa z)
   obtain ⟨oo,es,ep,g1,g2⟩:=hn'
   refine ⟨m',⟨oo,es,ep,(sb1.2 _ nA).trans g1,g2⟩,fun h' hs'=>wpAny_pure (wpAny_pure ⟨_,H3,I5.turned (t':=s5.toks) (fun b o hb e=>(hs'.2 b hb).trans e) c0 c1 c3 c4 c5,qn⟩)⟩
  ·refine wpAny_bind (wpAny_standAt (wpAny_bind (thn (T.item (cxComp X scope cl NC fp s3.heap.objs.size s3 (upd H2 s2.heap.objs.size (.lst []))) rfl rfl rfl hc i [] s' σ3 H3 _ I3' (stat fr3) st3 go) fun r s4 ⟨u,hr,h4⟩=>?_)))
   subst hr
   refine wpAny_bind (thn h4 fun _ s5 ⟨x,H5,I5,r5,y5,st5,fr5⟩=>?_)
   have I5':=I5.pinned (stat fr5) (T.obj _ _ st5)
   refine wpAny_bind (quietX (hg fp _ s3 _ _ s5 σ3 H5 x u _ I5' r5 (step x H5 y5)) fun _ s6 ⟨σ6,H6,I6,q6⟩=>?_)
   have again:∀ {s7:Shared} {H7:Hp},Inv (cxComp X scope cl NC fp s3.heap.objs.size s3 (upd H2 s2.heap.objs.size (.lst []))) ([] ++ pinsAt fp s5.heap) σ6 H7 s7→N σ6 H7 →
     ∃ m,m < n∧∃ i σ' H',Inv (cxComp X scope cl NC fp s3.heap.objs.size s3 (upd H2 s2.heap.objs.size (.lst []))) [] σ' H' s7∧tn i s7.heap∧(∀ b∈fp,H' b = none)∧W i m σ' H':=fun {s7 H7} I7 n7=>by
    obtain ⟨m',hm,w7⟩:=hN σ6 H7 n7
    refine ⟨m',hm,i + 1,σ6,H7,I7.unpinned,T.keep _ _ _ st5 fun b hb o e=>(I7.pin (b,o) (List.mem_append_right _ (List.mem_append_right _ (mem_pinsAt hb e)))).1,fun b hb=>?_,w7⟩
    obtain ⟨o,e,d⟩:=T.obj _ _ st5 b hb
    exact (I7.pin (b,o) (List.mem_append_right _ (List.mem_append_right _ (mem_pinsAt hb e)))).2.1
   refine wpAny_bind (quietX (ht fp _ s3 _ _ s6 σ6 H6 _ I6 q6) fun ok s7 ⟨H7,I7,q7⟩=>?_)
   cases ok with
   | false=>exact wpAny_pure ⟨rfl,again I7 q7⟩
   | true =>
    refine wpAny_bind (wpAny_bind (quietX (he fp _ s3 _ _ s7 σ6 H7 _ I7 q7) fun u8 s8 ⟨v8,H8,I8,r8,ys,hy,hz,n8⟩=>?_))
    refine wpAny_bind (quietX (mt_append _ s8 σ6 H8 (.ref s2.heap.objs.size) [v8] (.ref s2.heap.objs.size) [u8] (fun _ H9=>N σ6 H9) I8 rfl (.cons r8 .nil) ⟨_,ys,v8,rfl,rfl,hy,hz,n8⟩) fun _ s9 ⟨_,H9,I9,_,n9⟩=>?_)
    exact wpAny_pure (wpAny_pure ⟨rfl,again I9 n9⟩)
 exact codeAny_compStart_list (loop _ rfl) (T.self _ 0 _ _ _ st1 (loop _ rfl))

theorem ix_tupK {X:Cx} {K:PySem.W.Frag} (hK:X.K = K):IxR X (rIxT K):=hK ▸ ix_tup

end L2

namespace L2
open PySem PySem.Spec PyProof.Rows
theorem reads_ints {h:Heap}:∀ {ns:List Int} {its:List Value},Vals (ns.map V.int) its→ReadsAll h its (ns.map PyData.int) []
 | [],_,.nil=>.nil
 | n :: ns,_ :: _,.cons r t=>by
  obtain ⟨tk,rfl⟩:=r
  exact ReadsAll.cons (as:=[]) (bs:=[]) (.int n tk) (reads_ints t)
theorem ints_showable:∀ {ns:List Int},(∀ n∈ns,n.natAbs.log2 < 1920)→PyData.showableAll (ns.map PyData.int) = true
 | [],_=>rfl
 | n :: ns,h=>by
  show (decide (n.natAbs.log2 < 1920) && PyData.showableAll (ns.map PyData.int)) = true
  rw [decide_eq_true (h n List.mem_cons_self),ints_showable fun m hm=>h m (List.mem_cons_of_mem _ hm)]
  rfl
theorem ints_noDict:∀ ns:List Int,PyData.hasDictAll (ns.map PyData.int) = false
 | []=>rfl
 | n :: ns=>by show (false || PyData.hasDictAll (ns.map PyData.int)) = false;rw [ints_noDict ns];rfl
theorem ints_depth:∀ ns:List Int,PyData.depthAll (ns.map PyData.int) = 0
 | []=>rfl
 | n :: ns=>by show max 0 (PyData.depthAll (ns.map PyData.int)) = 0;rw [ints_depth ns];rfl
theorem ints_shown:∀ {ns:List Int},(∀ n∈ns,n.natAbs.log2 < 1920)→(PyData.shownAll (ns.map PyData.int)).length = ns.length∧((PyData.shownAll (ns.map PyData.int)).map (·.length)).sum≤1921 * ns.length
 | [],_=>⟨rfl,Nat.le_refl _⟩
 | n :: ns,h=>by
  obtain ⟨e1,e2⟩:=ints_shown (ns:=ns) fun m hm=>h m (List.mem_cons_of_mem _ hm)
  have l1:=int_text_length_le (k:=1920) (by decide) (h n List.mem_cons_self)
  refine ⟨by show (PyData.shownAll (ns.map PyData.int)).length + 1 = ns.length + 1;rw [e1],?_⟩
  show (Str.ofString (toString n)).length + ((PyData.shownAll (ns.map PyData.int)).map (·.length)).sum≤1921 * (ns.length + 1)
  rw [PySem.ofString_length]
  omega
end L2

namespace L2
open PySem PySem.Spec PyProof.Rows
theorem bb_max:bootBuiltins "max" = some (.builtin "max"):=by decide +kernel
noncomputable def PSX (X:Cx) (b:List Stmt) (t:XK→TS):Prop :=
 ∀ (E:XK) (pins:List (Addr×Obj)) (s:Shared) (σ:St) (H:Hp) (D:Ends),Inv X pins σ H s→t E D σ H →
  wpAny (model X.prog X.w) X.A (execs b X.env) (SP X pins D) (fun e s'=>∃ H1 s1,Inv X pins σ H1 s1∧CXo X.prog X.w X.stack H1 s1 E e s') s
theorem psx_expr {X:Cx} {ce:Expr} {epos:Pos} {t:XK→TE} (hc:PEX X ce t) (hsw:swapsWith ce none epos.line X.env = pure false:=by rfl):PSX X [.Expr ce epos] (fun E D σ H=>t E σ H fun _ H1=>D.nx σ H1):=fun E pins s σ H D I h=>by
 refine wpAny_execs_cons (wpAny_Expr_any (wpAny_mono (hc E pins s σ H _ I h) (fun v s1 ⟨y,H1,I1,r1,q1⟩=>?_) fun e s' hx=>hx) I.quiet hsw)
 exact wpAny_execs_nil (show SP X pins D .next s1 from ⟨σ,H1,I1,q1⟩)
theorem psx_ret {X:Cx} {ce:Expr} {epos:Pos} {t:XK→TE} (hc:PEX X ce t):PSX X [.Return (some ce) epos] (fun E D σ H=>t E σ H D.rt):=fun E pins s σ H D I h=>by
 refine wpAny_execs_cons (wpAny_Return_some (wpAny_mono (hc E pins s σ H _ I h) (fun v s1 ⟨y,H1,I1,r1,q1⟩=>?_) fun e s' hx=>hx))
 exact (show SP X pins D (.ret v) s1 from ⟨y,σ,H1,I1,r1,q1⟩)
noncomputable def cxAfter (X:Cx) (a:Addr) (oe:Obj):Cx:={ X with pn:=X.pn ++ [(a,oe)] }
theorem Inv.afterS {X:Cx} {pins:List (Addr×Obj)} {σ:St} {H:Hp} {s:Shared} {a:Addr} {oe:Obj} (ok:X.Ok) (I:Inv (cxSuite X a oe) pins σ H s):Inv (cxAfter X a oe) pins σ H s :=
 ⟨⟨ok.mod,ok.kind,ok.glob,ok.blt,ok.above,ok.inj,ok.has,ok.cab,ok.hd,ok.frames,ok.stk,ok.exf,ok.bs,ok.bsz,ok.noex,ok.exfs,ok.funs,ok.frf⟩,I.os,I.bare,I.base,I.loc,I.cell,I.free,I.freeC,I.pin,I.hok,I.len⟩
theorem Inv.unafter {X:Cx} {pins:List (Addr×Obj)} {σ:St} {H:Hp} {s:Shared} {a:Addr} {oe:Obj} (ok:X.Ok) (I:Inv (cxAfter X a oe) pins σ H s):Inv X pins σ H s :=
 ⟨ok,I.os,I.bare,I.base,I.loc,I.cell,I.free,I.freeC,fun p hp=>I.pin p (by
  show p∈(X.pn ++ [(a,oe)]) ++ pins
  rcases List.mem_append.mp hp with z | z
  ·exact List.mem_append_left _ (List.mem_append_left _ z)
  ·exact List.mem_append_right _ z),I.hok,I.len⟩
noncomputable def tTryR (K:PySem.W.Frag) (t:XK→TS) (c:Value) (i:Nat) (tb tr:Value→Addr→TS):TS:=fun D σ H=>∃ E:XK,t E { nx:=fun _ _=>False,rt:=D.rt } σ H∧∀ cls H',E cls none H'→PySem.W.exmOne K cls c = some true ∧
 ∀ a,H' a = none→tb cls a { nx:=fun σ' H2=>tr cls a D (σ'.set i none) H2,rt:=D.rt } (σ.set i (some (.ref a))) H'
theorem pss_tryR {X:Cx} {body rest:List Stmt} {hpos pos np:Pos} {x n:Str} {b₀:Stmt} {suite:List Stmt} {t:XK→TS} {C:Addr} {i:Nat} {tb tr:Value→Addr→TS} (O:Own X) (hN:X.N.Nodup) (hi:X.N[i]? = some n) (hloc:X.env.scope.names.lookup n = some .local)
  (hm:X.mg x = some (.ref C)) (hc:PSX X body t) (hb:∀ cls a oe,oe.cls = cls→PSs (cxSuite X a oe) (b₀ :: suite) (tb cls a)) (hR:∀ cls a oe,oe.cls = cls→PSs (cxAfter X a oe) rest (tr cls a)) (hg:Gl X x:=by rfl) (hdb:(x == ("__debug__":Str)) = false:=by decide) :
  PSs X (.Try body [.ExceptHandler (some (.Name x np)) (some n) (b₀ :: suite) hpos] [] [] pos :: rest) (tTryR X.K t (.ref C) i tb tr):=by
 intro pins s σ H D I h
 obtain ⟨E,hbody,hcatch⟩:=h
 have hcls:(X.env.scope.kind == .class || (X.env.scope.kind == .module && X.env.locals != X.env.globals)) = false:=by rw [I.ok.kind];rfl
 have hfr:X.A.frames = some (X.env :: X.outer):=by rw [← O.top];exact O.ok.frames
 refine wpAny_execs_cons (wpAny_Try_except (wpAny_mono (hc E pins s σ H _ I hbody) (fun f s1 q=>?_) fun e s' hx=>?_))
 ·cases f with
  | next=>obtain ⟨_,_,_,z⟩:=q;exact z.elim
  | brk=>obtain ⟨_,_,_,z⟩:=q;exact z.elim
  | cont=>obtain ⟨_,_,_,z⟩:=q;exact z.elim
  | ret v=>exact q
 ·obtain ⟨H1,s1,I1,a,cls,H',B,rfl,x0,hE⟩:=hx
  obtain ⟨hexm,hsuite⟩:=hcatch cls H' hE
  have st:=x0.sta
  rw [O.top] at st
  have noex:∀ b∈frs X.stack,b ∉ ([]:List Addr):=fun b _=>by simp
  refine sta_note hfr O.fr st fun h4 a0 k4 u4=>?_
  have x4:=x0.move (l':=X.stack) u4 (by rw [O.top];exact ⟨a0,.inr (.inr ⟨_,_,_,rfl,O.fr,k4⟩)⟩) (fun b hb=>hb) (fun b o _ hb=>hb) noex
  refine wpAny_landsW (s:={ s' with heap:=h4 }) k4 fun h5 k5 u5=>?_
  have x5:=x4.move (l':=X.stack) u5 (by rw [O.top];exact ⟨a0,.inr (.inl k5)⟩) (fun b hb=>hb) (fun b o _ hb=>hb) noex
  have I5:Inv X pins σ H' { s' with heap:=h5 }:=I1.call' (ch:=[]) x5.os x5.un x5.hok x5.bare fun b hb=>absurd hb (by simp)
  have mk:∀ {h6:Heap},Heap.FlyingW B (X.env :: X.outer) a cls a0 h6→XAt X.prog X.w X.stack [] H1 s1 B a cls H' { s' with heap:=h6 }→∃ oe,h6.get? a = some oe∧oe.cls = cls∧Inv (cxSuite X a oe) pins σ H' { s' with heap:=h6 }:=fun {h6} k6 x6=>by
   obtain ⟨oe,vs,e1,e2,e3,_⟩:=k6.first
   have I6:Inv X pins σ H' { s' with heap:=h6 }:=I1.call' (ch:=[]) x6.os x6.un x6.hok x6.bare fun b hb=>absurd hb (by simp)
   refine ⟨oe,e1,e2,I6.suite e1 x6.na (fun z=>?_) (fun z=>?_) fun v z=>by rw [e3] at z;cases z⟩
   ·obtain ⟨m,⟨o',es,ep,ho',hd',_⟩,_⟩:=I6.loc
    rw [← z] at ho'
    have ho':h6.get? a = some o':=ho'
    rw [e1] at ho';cases ho'
    rw [e3] at hd';cases hd'
   ·obtain ⟨_,o',ho',hd'⟩:=I6.funs.mem z
    have ho':h6.get? a = some o':=ho'
    rw [e1] at ho';cases ho'
    exact hd' _ e3
  obtain ⟨oe5,e51,e52,J5⟩:=mk k5 x5
  refine wpAny_handleBy_cons (codeAny_handlers_test (ld_glob (X:=cxSuite X a oe5) J5 hg hm ?_ hdb)) (by intro q;cases q)
  have LT:PySem.W.Looks (model X.prog X.w) h5 (typeOf (.ref a)) cls:=by
   have z:PySem.W.Looks (model X.prog X.w) h5 (typeOf (.ref a)) oe5.cls:=(PySem.W.Looks.ld (M:=model X.prog X.w) e51).andThen .now
   rw [e52] at z
   exact z
  refine (PySem.W.exm_one (M:=model X.prog X.w) (h:=h5) I5.kIn LT hexm).at ?_
  show codeAny _ _ _ _ _
  refine codeAny_handlers_suite_as ?_
  refine lands_againW (s:={ s' with heap:=h5 }) k5 fun h6 k6 u6=>?_
  have x6:=x5.move (l':=X.stack) u6 (by rw [O.top];exact ⟨a0,.inr (.inl k6)⟩) (fun b hb=>hb) (fun b o _ hb=>hb) noex
  obtain ⟨oe,e61,e62,J6⟩:=mk k6 x6
  refine store_ok (X:=cxSuite X a oe) (i:=i) (v:=.ref a) J6 hN hi (.inl hloc) rfl (fun s7 J7=>?_) (.inr hloc)
  refine quietX (hb cls a oe e62 pins s7 _ H' _ J7 (hsuite a x6.na)) fun f s8 q8=>?_
  have go:∀ {σ8:St} {H8:Hp} {Q8:Unit→Shared→Prop},Inv (cxSuite X a oe) pins σ8 H8 s8→(∀ s9,Inv (cxAfter X a oe) pins (σ8.set i none) H8 s9→Q8 () s9)→wpAny (model X.prog X.w) X.A (do bindName X.env n .none;unbindBehindTheSuite X.env n hpos) Q8 X.xe s8:=fun {σ8 H8 Q8} J8 hq=>by
   have I8:=J8.afterS O.ok
   obtain ⟨m,hn,_⟩:=id I8.loc
   refine wpAny_nameGoes_keeps hloc hn hcls fun h9 v hn9 hs9=>?_
   refine hq _ (I8.unname (h':=h9) (m':=m) (t':=s8.toks + 1) hN hi (fun m2 hn2=>?_) hs9)
   have em:m2 = m:=by
    obtain ⟨o1,es1,ep1,g1,g2,g3,g4⟩:=hn
    obtain ⟨o2,es2,ep2,j1,j2,j3,j4⟩:=hn2
    rw [g1] at j1;cases j1
    rw [g2] at j2;cases j2
    funext y
    rw [← g4 y,← j4 y]
   subst em
   exact ⟨v,hn9⟩
  cases f with
  | next =>
   obtain ⟨σ8,H8,J8,q8⟩:=q8
   refine go J8 fun s9 I9=>?_
   refine wpAny_mono (hR cls a oe e62 pins s9 _ H8 D I9 q8) (fun f' s' q'=>?_) fun _ _ x=>x
   cases f' with
   | next=>obtain ⟨σ',H',I',q⟩:=q';exact ⟨σ',H',I'.unafter O.ok,q⟩
   | brk=>obtain ⟨σ',H',I',q⟩:=q';exact ⟨σ',H',I'.unafter O.ok,q⟩
   | cont=>obtain ⟨σ',H',I',q⟩:=q';exact ⟨σ',H',I'.unafter O.ok,q⟩
   | ret u=>obtain ⟨v,σ',H',I',r,q⟩:=q';exact ⟨v,σ',H',I'.unafter O.ok,r,q⟩
  | brk=>obtain ⟨σ8,H8,J8,q8⟩:=q8;exact q8.elim
  | cont=>obtain ⟨σ8,H8,J8,q8⟩:=q8;exact q8.elim
  | ret u =>
   obtain ⟨v8,σ8,H8,J8,r8,q8⟩:=q8
   exact go J8 fun s9 I9=>⟨v8,_,H8,I9.unafter O.ok,r8,q8⟩
section
variable {X:Cx}
noncomputable def jTup (te:TE) (t:St→Hp→Prop):St→Hp→Prop:=fun σ H=>te σ H fun v H'=>H' = H∧(∃ (l:Addr) (ns:List Int),v = .ref l∧H l = some (.tup (ns.map V.int))∧ns.length≤100∧∀ n∈ns,n.natAbs.log2 < 1920)∧t σ H
theorem pj_tup {a:Expr} {pos:Pos} {es:List Expr} {m:Nat} {t:St→Hp→Prop} {te:TE} (hg:X.A.guards = some []) (hu:X.A.units + 3 < cLine) (ha:PE X a te) (h:PJ X es m t):PJ X (.FormattedValue a (-1) none pos :: es) (200000 + m) (jTup te t):=fun pins s σ H out Q I ht hz q=>by
 show wpAny _ _ (joinParts out (eval (.FormattedValue a (-1) none pos) X.env :: evalEach es X.env)) Q _ s
 refine joinParts_cons (FormattedValue_plain (thn (ha pins s σ H _ I ht) fun u s1 h1=>?_))
 obtain ⟨v,H1,I1,r,rfl,⟨l,ns,rfl,hl,hn,hsm⟩,ht1⟩:=h1
 cases r
 obtain ⟨z2,its,rv,⟨o,e,hc,n,hd⟩⟩:=I1.hok l _ hl
 have rd:Reads s1.heap (.ref l) (.tuple (ns.map PyData.int)) []:=Reads.tuple (as:=[]) e hc hd (reads_ints rv)
 obtain ⟨e1,e2⟩:=ints_shown hsm
 have l1:=tupleText_len_le (PyData.shownAll (ns.map PyData.int))
 have l2:(PyData.shown (.tuple (ns.map PyData.int))).length≤200000:=by
  show (tupleText (PyData.shownAll (ns.map PyData.int))).length≤200000
  omega
 have sz:=sizeLine_eq
 have dep:(PyData.tuple (ns.map PyData.int)).depth = 1:=by
  show PyData.depthAll (ns.map PyData.int) + 1 = 1
  rw [ints_depth]
 refine formatField_of_reads rd (ints_showable hsm) (PyData.noDict_hsm (ints_noDict ns)) hg (by rw [dep];exact hu) (fun _ _ e=>e) (fun h' u tk hk=>?_) (by rw [sz];omega)
 have e3:(out ++ PyData.shown (.tuple (ns.map PyData.int))).length = out.length + (PyData.shown (.tuple (ns.map PyData.int))).length:=strLen_append _ _
 exact ⟨by rw [e3];omega,h pins _ σ H1 _ Q (I1.kept (t':=tk) hk) ht1 (by rw [e3];omega) q⟩
end
end L2
namespace L2
open PySem PySem.Spec PyProof.Rows
section
variable {X:Cx} {a b c d:Expr} {ta tb tc td:TE} {pos:Pos}
noncomputable def tChain3 (r r' r3:R2) (ta tb tc td:TE):TE:=fun σ H Q=>ta σ H fun x H1=>tb σ H1 fun y H2=>r x y H2 fun z H3=>∃ k,z = .bl k ∧
 (if k = true then tc σ H3 fun y' H4=>r' y y' H4 fun z' H5=>∃ k',z' = .bl k'∧(if k' = true then td σ H5 fun x' H6=>r3 y' x' H6 Q else Q (.bl false) H5) else Q (.bl false) H3)
theorem pt_chain3 {op op' op3:CmpOp} {r r' r3:R2} (ho:OpR X (compareOp op) r) (ho':OpR X (compareOp op') r') (ho3:OpR X (compareOp op3) r3) (ha:PE X a ta) (hb:PE X b tb) (hc:PE X c tc) (hd:PE X d td)
  (hm:lastMarks [op,op',op3] [b,c,d] = false:=by with_unfolding_all rfl):PT X (.Compare a [op,op',op3] [b,c,d] pos) (tTest (tChain3 r r' r3 ta tb tc td)):=by
 intro pins s σ H Q I h
 refine isTrue_chain (thn (ha pins s σ H _ I h) fun v s1 ⟨x,H1,I1,r1,q1⟩=>test_link (thn (hb pins s1 σ H1 _ I1 q1) fun u s2 ⟨y,H2,I2,r2,q2⟩ =>
  thn (ho pins s2 σ H2 x y v u _ I2 r1 r2 q2) fun d s3 ⟨z,H3,I3,r3,k,e,q3⟩=>?_)) hm
 subst e
 cases r3
 refine wpAny_truthy_bool ?_
 cases k with
 | false =>
  obtain ⟨k',e',q'⟩:=q3
  cases e'
  exact ite_ff ⟨H3,I3,q'⟩
 | true =>
  refine ite_tt (test_link (thn (hc pins s3 σ H3 _ I3 q3) fun w' s4 ⟨z',H4,I4,r4,q4⟩=>thn (ho' pins s4 σ H4 y z' u w' _ I4 r2 r4 q4) fun d' s5 ⟨z2,H5,I5,r5,k2,e2,q5⟩=>?_))
  subst e2
  cases r5
  refine wpAny_truthy_bool ?_
  cases k2 with
  | false =>
   obtain ⟨k',e',q'⟩:=q5
   cases e'
   exact ite_ff ⟨H5,I5,q'⟩
  | true =>
   refine ite_tt (test_last (thn (hd pins s5 σ H5 _ I5 q5) fun x5 s6 ⟨z5,H6,I6,r6,q6⟩=>thn (ho3 pins s6 σ H6 z' z5 w' x5 _ I6 r4 r6 q6) fun d3 s7 ⟨z7,H7,I7,r7,k7,e7,q7⟩=>?_))
   subst e7
   cases r7
   exact wpAny_truthy_bool ⟨H7,I7,q7⟩
end
end L2

namespace L2
open PySem PySem.Spec PyProof.Rows
section
variable {X:Cx}
theorem tup_items {s:Shared} {A:Around} {ns ms:List Int} {i1 i2:List Value} (r1:Vals (ns.map V.int) i1) (r2:Vals (ms.map V.int) i2) (j:Nat) (h1:j < i1.toArray.size) (h2:j < i2.toArray.size) :
  SeqAt.EqAt A.in1 s i1.toArray[j] i2.toArray[j] (ns.getD j 0 == ms.getD j 0):=by
 have l1:ns.length = i1.length:=by have z:=r1.length;rwa [List.length_map] at z
 have l2:ms.length = i2.length:=by have z:=r2.length;rwa [List.length_map] at z
 have hj:j < ns.length:=by simp only [List.size_toArray] at h1;omega
 have hj2:j < ms.length:=by simp only [List.size_toArray] at h2;omega
 obtain ⟨x1,e1,t1⟩:=vals_at r1 h1
 obtain ⟨x2,e2,t2⟩:=vals_at r2 h2
 rw [List.getElem?_map,List.getElem?_eq_getElem hj] at e1
 rw [List.getElem?_map,List.getElem?_eq_getElem hj2] at e2
 obtain rfl:=Option.some.inj e1
 obtain rfl:=Option.some.inj e2
 obtain ⟨k1,q1⟩:=t1
 obtain ⟨k2,q2⟩:=t2
 rw [q1,q2]
 have g1:ns.getD j 0 = ns[j]:=by simp [List.getD,List.getElem?_eq_getElem hj]
 have g2:ms.getD j 0 = ms[j]:=by simp [List.getD,List.getElem?_eq_getElem hj2]
 rw [g1,g2]
 exact SeqAt.EqAt.int_int (A:=A.in1) (s:=s) ns[j] k1 ms[j] k2
theorem tup_answer {ns ms:List Int} {i1 i2:List Value} (r1:Vals (ns.map V.int) i1) (r2:Vals (ms.map V.int) i2) :
  ((List.range (min i1.toArray.size i2.toArray.size)).all (fun j=>ns.getD j 0 == ms.getD j 0) && i1.toArray.size == i2.toArray.size) = decide (ns = ms):=by
 have l1:ns.length = i1.length:=by have z:=r1.length;rwa [List.length_map] at z
 have l2:ms.length = i2.length:=by have z:=r2.length;rwa [List.length_map] at z
 by_cases c:ns = ms
 ·subst c
  rw [decide_eq_true rfl,Bool.and_eq_true]
  exact ⟨List.all_eq_true.mpr fun _ _=>beq_self_eq_true _,by simp only [List.size_toArray,← l1,← l2];exact beq_self_eq_true _⟩
 ·rw [decide_eq_false c]
  refine Bool.eq_false_iff.mpr fun z=>c ?_
  rw [Bool.and_eq_true] at z
  have hl:ns.length = ms.length:=by have z2:=eq_of_beq z.2;simp only [List.size_toArray] at z2;omega
  refine List.ext_getElem hl fun j q1 q2=>?_
  have z2:=List.all_eq_true.mp z.1 j (List.mem_range.mpr (by simp only [List.size_toArray];omega))
  have g1:ns.getD j 0 = ns[j]:=by simp [List.getD,List.getElem?_eq_getElem q1]
  have g2:ms.getD j 0 = ms[j]:=by simp [List.getD,List.getElem?_eq_getElem q2]
  rw [← g1,← g2]
  exact eq_of_beq z2
theorem eqAt_tupD {pins:List (Addr×Obj)} {σ:St} {H:Hp} {s:Shared} {A:Around} {t u:Addr} {ns ms:List Int} (I:Inv X pins σ H s) (hu:A.units < cLine) (ht:SqT X.K H t (ns.map V.int)) (hw:SqT X.K H u (ms.map V.int)):SeqAt.EqAt A s (.ref t) (.ref u) (decide (ns = ms)):=by
 obtain ⟨i1,r1,p1,z1⟩:=I.tuple ht
 obtain ⟨i2,r2,p2,z2⟩:=I.tuple hw
 by_cases e:t = u
 ·subst e
  have ee:i1 = i2:=by
   obtain ⟨o1,e1,d1,n1,f1⟩:=p1
   obtain ⟨o2,e2,d2,n2,f2⟩:=p2
   rw [e1] at e2;cases e2
   rw [f1] at f2
   injection f2 with f3 _
   simpa using congrArg Array.toList f3
  subst ee
  have en:ns = ms:=by
   have l1:ns.length = i1.length:=by have z:=r1.length;rwa [List.length_map] at z
   have l2:ms.length = i1.length:=by have z:=r2.length;rwa [List.length_map] at z
   refine List.ext_getElem (by omega) fun j q1 q2=>?_
   have a1:(ns.map V.int)[j]? = some (.int ns[j]):=by rw [List.getElem?_map,List.getElem?_eq_getElem q1];rfl
   have a2:(ms.map V.int)[j]? = some (.int ms[j]):=by rw [List.getElem?_map,List.getElem?_eq_getElem q2];rfl
   obtain ⟨u1,e1,t1,rfl⟩:=r1.get a1
   obtain ⟨u2,e2,t2,rfl⟩:=r2.get a2
   rw [e1] at e2
   injection e2 with e2
   injection e2
  rw [decide_eq_true en]
  exact SeqAt.EqAt.same _
 ·have z:=SeqAt.RcAt.tuples (e:=fun j=>ns.getD j 0 == ms.getD j 0) (show s.heap.IsTuple t i1.toArray from p1) (show s.heap.IsTuple u i2.toArray from p2) hu fun j h1 h2=>tup_items r1 r2 j h1 h2
  rw [tup_answer r1 r2] at z
  exact SeqAt.EqAt.of_refs e z
noncomputable def rTupD (K:PySem.W.Frag) (neg:Bool):R2:=fun x y H Q=>∃ (a b:Addr) (ns ms:List Int),x = .ref a∧y = .ref b∧SqT K H a (ns.map V.int)∧SqT K H b (ms.map V.int)∧Q (.bl (if neg then !decide (ns = ms) else decide (ns = ms))) H
theorem op_eq_tupD (hu:X.A.units < cLine):OpR X (compareOp .Eq) (rTupD X.K false):=by
 intro pins s σ H x y v u Q I rx ry h
 obtain ⟨a,b,ns,ms,rfl,rfl,ha,hb,q⟩:=h
 cases rx
 cases ry
 obtain ⟨i1,r1,p1,z1⟩:=I.tuple ha
 obtain ⟨i2,r2,p2,z2⟩:=I.tuple hb
 refine SeqAt.eq_tupleAt (e:=fun j=>ns.getD j 0 == ms.getD j 0) (show s.heap.IsTuple a i1.toArray from p1) (show s.heap.IsTuple b i2.toArray from p2) hu (fun j h1 h2=>tup_items r1 r2 j h1 h2) ⟨.bl (decide (ns = ms)),H,I,?_,q⟩
 show Value.bool _ = Value.bool _
 congr 1
 exact tup_answer r1 r2
end
end L2
namespace L2E
open PySem AutoSeq1 MeetsSeq
theorem tuple_addW0 (l b:Addr) (items items2:Array Value) (n n2:Nat) (dd dd2:Option Addr) (sl sl2:Array (Option Value)) (hc0:items.isEmpty = true) :
  Meets (Builtin.«tuple.__add__» ⟨[.ref l,.ref b],[]⟩) (fun _ R s=>s.heap.get? l = some { cls:=.type "tuple",dict:=dd,data:=.seq items n,slots:=sl }∧s.heap.get? b = some { cls:=.type "tuple",dict:=dd2,data:=.seq items2 n2,slots:=sl2 }∧R (.ok (.ret (Value.ref b))) s) :=
 .of_wp fun prog w A R s h=>by obtain ⟨hp,g,d,tk,os⟩:=s;obtain ⟨hl,hb,h⟩:=h;have f1:=idx_int;have f2:=sub_tuple_tuple;have f3:=sub_list_list;have f4:=sub_tuple_list;have f5:=sub_list_tuple;wp_walk using wpAny_loadPart' hl,wpAny_loadPart' hb;exact ⟨_,rfl,h⟩
end L2E
namespace L2
open PySem PySem.Spec PyProof.Rows
section
variable {X:Cx}
noncomputable def rCatT2 (K:PySem.W.Frag):R2:=fun x y H Q=>∃ a b xs ys,x = .ref a∧y = .ref b∧SqT K H a xs∧SqT K H b ys∧ys≠[]∧xs.length + ys.length≤sizeLine ∧
 (xs = []→Q (.ref b) H)∧(xs≠[]→∀ p,H p = none→Q (.ref p) (upd H p (.tup (xs ++ ys))))
theorem op_catT2:OpR X (binaryOp .Add) (rCatT2 X.K):=by
 intro pins s σ H x y v u Q I rx ry h
 obtain ⟨a,b,xs,ys,ex,ey,ha,hb,hy,hz,q1,q2⟩:=h
 by_cases hx:xs = []
 ·subst ex ey
  cases rx
  cases ry
  obtain ⟨its,r1,p1,_⟩:=I.tuple ha
  obtain ⟨its2,r2,p2,_⟩:=I.tuple hb
  obtain ⟨⟨cls,dd,data,sl⟩,ho,hc,n,hd⟩:=id p1
  obtain ⟨⟨cls2,dd2,data2,sl2⟩,ho2,hc2,n2,hd2⟩:=id p2
  simp only at hc hd hc2 hd2
  subst hc hd hc2 hd2
  have e:its = []:=r1.nil_iff.mpr hx
  exact concat_meets ⟨_,ho,rfl⟩ ⟨_,ho2,rfl⟩ noFill_tuple_add seq_tuple_add PySem.F.slot_tuple_add PySem.F.entry_tuple_add (PySem.F.args_tuple_add_2 _ _)
   (L2E.tuple_addW0 a b its.toArray its2.toArray n n2 dd dd2 sl sl2 (by rw [e];rfl)) ⟨ho,ho2,⟨.ref b,H,I,rfl,q1 hx⟩⟩
 ·exact op_catT pins s σ H x y v u Q I rx ry ⟨a,b,xs,ys,ex,ey,ha,hb,hx,hz,fun z=>absurd z hy,fun _=>q2 hx⟩
end
end L2

namespace L2
open PySem PySem.Spec PyProof.Rows
noncomputable def tTry0 (K:PySem.W.Frag) (t:XK→TS) (c:Value) (tb:TS):TS:=fun D σ H=>∃ E:XK,t E { nx:=fun _ _=>False,rt:=D.rt } σ H∧∀ cls H',E cls none H'→PySem.W.exmOne K cls c = some true∧tb D σ H'
theorem ps_try0 {X:Cx} {body:List Stmt} {hpos pos np:Pos} {x:Str} {b₀:Stmt} {suite:List Stmt} {t:XK→TS} {C:Addr} {tb:TS} (O:Own X)
  (hm:X.mg x = some (.ref C)) (hc:PSX X body t) (hb:∀ a oe,PSs (cxSuite X a oe) (b₀ :: suite) tb) (hg:Gl X x:=by rfl) (hdb:(x == ("__debug__":Str)) = false:=by decide) :
  PS X (.Try body [.ExceptHandler (some (.Name x np)) none (b₀ :: suite) hpos] [] [] pos) (tTry0 X.K t (.ref C) tb):=by
 intro pins s σ H D I h
 obtain ⟨E,hbody,hcatch⟩:=h
 have hfr:X.A.frames = some (X.env :: X.outer):=by rw [← O.top];exact O.ok.frames
 refine wpAny_Try_except (wpAny_mono (hc E pins s σ H _ I hbody) (fun f s1 q=>?_) fun e s' hx=>?_)
 ·cases f with
  | next=>obtain ⟨_,_,_,z⟩:=q;exact z.elim
  | brk=>obtain ⟨_,_,_,z⟩:=q;exact z.elim
  | cont=>obtain ⟨_,_,_,z⟩:=q;exact z.elim
  | ret v=>exact q
 ·obtain ⟨H1,s1,I1,a,cls,H',B,rfl,x0,hE⟩:=hx
  obtain ⟨hexm,hsuite⟩:=hcatch cls H' hE
  have st:=x0.sta
  rw [O.top] at st
  have noex:∀ b∈frs X.stack,b ∉ ([]:List Addr):=fun b _=>by simp
  refine sta_note hfr O.fr st fun h4 a0 k4 u4=>?_
  have x4:=x0.move (l':=X.stack) u4 (by rw [O.top];exact ⟨a0,.inr (.inr ⟨_,_,_,rfl,O.fr,k4⟩)⟩) (fun b hb=>hb) (fun b o _ hb=>hb) noex
  refine wpAny_landsW (s:={ s' with heap:=h4 }) k4 fun h5 k5 u5=>?_
  have x5:=x4.move (l':=X.stack) u5 (by rw [O.top];exact ⟨a0,.inr (.inl k5)⟩) (fun b hb=>hb) (fun b o _ hb=>hb) noex
  have I5:Inv X pins σ H' { s' with heap:=h5 }:=I1.call' (ch:=[]) x5.os x5.un x5.hok x5.bare fun b hb=>absurd hb (by simp)
  have mk:∀ {h6:Heap},Heap.FlyingW B (X.env :: X.outer) a cls a0 h6→XAt X.prog X.w X.stack [] H1 s1 B a cls H' { s' with heap:=h6 }→∃ oe,h6.get? a = some oe∧oe.cls = cls∧Inv (cxSuite X a oe) pins σ H' { s' with heap:=h6 }:=fun {h6} k6 x6=>by
   obtain ⟨oe,vs,e1,e2,e3,_⟩:=k6.first
   have I6:Inv X pins σ H' { s' with heap:=h6 }:=I1.call' (ch:=[]) x6.os x6.un x6.hok x6.bare fun b hb=>absurd hb (by simp)
   refine ⟨oe,e1,e2,I6.suite e1 x6.na (fun z=>?_) (fun z=>?_) fun v z=>by rw [e3] at z;cases z⟩
   ·obtain ⟨m,⟨o',es,ep,ho',hd',_⟩,_⟩:=I6.loc
    rw [← z] at ho'
    have ho':h6.get? a = some o':=ho'
    rw [e1] at ho';cases ho'
    rw [e3] at hd';cases hd'
   ·obtain ⟨_,o',ho',hd'⟩:=I6.funs.mem z
    have ho':h6.get? a = some o':=ho'
    rw [e1] at ho';cases ho'
    exact hd' _ e3
  obtain ⟨oe5,e51,e52,J5⟩:=mk k5 x5
  refine wpAny_handleBy_cons (codeAny_handlers_test (ld_glob (X:=cxSuite X a oe5) J5 hg hm ?_ hdb)) (by intro q;cases q)
  have LT:PySem.W.Looks (model X.prog X.w) h5 (typeOf (.ref a)) cls:=by
   have z:PySem.W.Looks (model X.prog X.w) h5 (typeOf (.ref a)) oe5.cls:=(PySem.W.Looks.ld (M:=model X.prog X.w) e51).andThen .now
   rw [e52] at z
   exact z
  refine (PySem.W.exm_one (M:=model X.prog X.w) (h:=h5) I5.kIn LT hexm).at ?_
  show codeAny _ _ _ _ _
  refine codeAny_handlers_suite ?_
  refine lands_againW (s:={ s' with heap:=h5 }) k5 fun h6 k6 u6=>?_
  have x6:=x5.move (l':=X.stack) u6 (by rw [O.top];exact ⟨a0,.inr (.inl k6)⟩) (fun b hb=>hb) (fun b o _ hb=>hb) noex
  obtain ⟨oe,e61,e62,J6⟩:=mk k6 x6
  refine quietX (hb a oe pins _ σ H' _ J6 hsuite) fun f s8 q8=>?_
  cases f with
  | next=>obtain ⟨σ8,H8,J8,q8⟩:=q8;exact ⟨σ8,H8,J8.unsuite O.ok,q8⟩
  | brk=>obtain ⟨σ8,H8,J8,q8⟩:=q8;exact ⟨σ8,H8,J8.unsuite O.ok,q8⟩
  | cont=>obtain ⟨σ8,H8,J8,q8⟩:=q8;exact ⟨σ8,H8,J8.unsuite O.ok,q8⟩
  | ret u=>obtain ⟨v8,σ8,H8,J8,r8,q8⟩:=q8;exact ⟨v8,σ8,H8,J8.unsuite O.ok,r8,q8⟩
end L2

namespace L2E
open PySem PySem.Spec PyProof.Rows
open Sem (wp)
open AutoSeq1 (wpAny_loadPart')
theorem meets_extend_tup (l:Addr) (items:Array Value) (n:Nat) (b:Addr) (items2:Array Value) (n2:Nat) (dct:Option Addr) (sl:Array (Option Value)) (hs0:¬(!items.isEmpty && Builtin.List.listTooLong (items.size + items2.size)) = true) (hs1:items.size≤sizeLine) (hs2:items.size + items2.size≤sizeLine + 1) :
  Meets (Builtin.«list.extend» ⟨[.ref l,.ref b],[]⟩) (fun _ R s=>s.heap.get? l = some { cls:=.type "list",dict:=none,data:=.seq items n,slots:=#[] }∧s.heap.get? b = some { cls:=.type "tuple",dict:=dct,data:=.seq items2 n2,slots:=sl }∧R (.ok (.ret Value.none)) { s with heap:=s.heap.update l (Obj.mapSeq fun x=>x ++ items2),toks:=s.toks }) :=
 .of_wp fun prog w A R s h=>by
  obtain ⟨hp,g,d,tk,os⟩:=s;obtain ⟨hl,hb,h⟩:=h;have f1:=AutoSeq1.idx_int;have f2:=AutoSeq1.sub_tuple_tuple;have f3:=AutoSeq1.sub_list_list;have f4:=AutoSeq1.sub_tuple_list;have f5:=AutoSeq1.sub_list_tuple;
  have hz':(items ++ items2).size≤sizeLine + 1:=by rw [Array.size_append];exact hs2
  wp_walk using (wpAny_updateSeq hl rfl (hz:=hs1) (_hz':=hz')),wpAny_loadPart' hl,wpAny_loadPart' hb;exact ⟨_,rfl,h⟩
end L2E
namespace L2
open PySem PySem.Spec PyProof.Rows
section
variable {X:Cx}
noncomputable def LT (H:Hp) (a:Addr) (xs:List V):Prop:=H a = some (.lst xs)∨H a = some (.tup xs)
noncomputable def rExtendA:V→List V→Hp→VK→Prop:=fun x vs H Q=>∃ l b xs zs,x = .ref l∧vs = [.ref b]∧H l = some (.lst xs)∧LT H b zs∧xs.length + zs.length≤sizeLine∧Q .non (upd H l (.lst (xs ++ zs)))
theorem mt_extendA:MtM X "list.extend" rExtendA:=by
 intro pins s σ H x vs v us Q I rx rv h
 obtain ⟨l,b,xs,zs,ex,ev,hH,hB,hz,q⟩:=h
 rcases hB with hB | hB
 ·exact mt_extend pins s σ H x vs v us Q I rx rv ⟨l,b,xs,zs,ex,ev,hH,hB,hz,q⟩
 subst ex ev
 cases rx
 obtain ⟨u,rfl,ru⟩:=rv.one
 cases ru
 obtain ⟨z,its,n,r,hl,e⟩:=I.lstM hH
 obtain ⟨z2,its2,r2,⟨⟨c,dct,dt,sl⟩,e2,hc,n2,hd⟩⟩:=I.hok b _ hB
 have hc:c = .type "tuple":=hc
 have hd:dt = .seq its2.toArray n2:=hd
 subst hc hd
 have hl2:=r2.length
 have hsz:its.toArray.size + its2.toArray.size≤sizeLine:=by rw [List.size_toArray,List.size_toArray];omega
 have hlong:¬ (!its.toArray.isEmpty && Builtin.List.listTooLong (its.toArray.size + its2.toArray.size)) = true:=by
  rw [notLongL hsz,Bool.and_false]
  exact Bool.false_ne_true
 refine call_meets F.slot_list_extend ⟨_,e,rfl⟩ F.entry_list_extend (F.args_list_extend_2 _ _)
  (L2E.meets_extend_tup l its.toArray n b its2.toArray n2 dct sl hlong (by rw [List.size_toArray];omega) (by omega)) ⟨e,e2,?_⟩
 refine ⟨.non,_,I.lset (its':=its ++ its2) hH e (by simp) (r.append r2) ?_,rfl,q⟩
 rw [List.length_append]
 omega
end
end L2

namespace L2
open PySem PySem.Spec PyProof.Rows
section
variable {X:Cx}
theorem op_ne_intsD (hu:X.A.units < cLine):OpR X (compareOp .NotEq) (fun x y H Q=>∃ (a b:Addr) (ns ms:List Int),x = .ref a∧y = .ref b∧SqL X.K H a (ns.map V.int)∧SqL X.K H b (ms.map V.int)∧ns.length = ms.length∧Q (.bl (!decide (ns = ms))) H):=by
 intro pins s σ H x y v u Q I rx ry h
 obtain ⟨a,b,ns,ms,rfl,rfl,ha,hb,hl,q⟩:=h
 cases rx
 cases ry
 obtain ⟨i1,r1,p1,z1⟩:=I.list ha
 obtain ⟨i2,r2,p2,z2⟩:=I.list hb
 have l1:ns.length = i1.length:=by have z:=r1.length;rwa [List.length_map] at z
 have l2:ms.length = i2.length:=by have z:=r2.length;rwa [List.length_map] at z
 refine SeqAt.RcNeAt.lists (A:=X.A) (e:=fun j=>ns.getD j 0 == ms.getD j 0) p1.isList p2.isList (by simp only [List.size_toArray];omega) (by omega) (fun j q1 q2=>tup_items r1 r2 j q1 q2) X.prog X.w X.xe _ ⟨.bl (!decide (ns = ms)),H,I,?_,q⟩
 show Value.bool _ = Value.bool _
 congr 1
 have z:=tup_answer r1 r2
 have e:(i1.toArray.size == i2.toArray.size) = true:=by simp only [List.size_toArray,beq_iff_eq];omega
 have e2:min i1.toArray.size i2.toArray.size = i1.toArray.size:=by simp only [List.size_toArray];omega
 rw [e,Bool.and_true,e2] at z
 rw [z]
end
end L2

namespace Mir
open PySem L2

theorem take_snoc {α:Type} {l:List α} {i:Nat} {x:α} (h:l[i]? = some x):l.take (i + 1) = l.take i ++ [x]:=by
 rw [List.take_add_one,h];rfl
end Mir

namespace Ch
structure Work (n:Nat) (M:Nat→Nat):Prop where
 lt:∀ x,x < 2 * n→M x < 2 * n
 inv:∀ x,x < 2 * n→M (M x) = x
section
variable {n:Nat} {M:Nat→Nat}
noncomputable def looseL (n:Nat) (M:Nat→Nat):List Nat:=(List.range (2 * n)).filter fun e=>e == M e
end
end Ch

namespace Mir
open PySem L2 Ch
noncomputable def nV (ms:List Nat):List V:=ms.map fun (m:Nat)=>V.int m
theorem nV_len (ms:List Nat):(nV ms).length = ms.length:=by unfold nV;rw [List.length_map]
theorem nV_get {ms:List Nat} {i m:Nat} (h:ms[i]? = some m):(nV ms)[i]? = some (.int m):=by unfold nV;rw [List.getElem?_map,h];rfl
theorem nV_get' {ms:List Nat} {i:Nat} {x:V} (h:(nV ms)[i]? = some x):∃ m,ms[i]? = some m∧x = .int m:=by
 unfold nV at h
 rw [List.getElem?_map] at h
 cases e:ms[i]? with
 | none=>rw [e] at h;cases h
 | some m=>rw [e] at h;exact ⟨m,rfl,(Option.some.inj h).symm⟩
theorem nV_snoc (xs:List Nat) (x:Nat):nV (xs ++ [x]) = nV xs ++ [.int x]:=by unfold nV;rw [List.map_append];rfl
noncomputable def at0 (ms:List Nat) (e:Nat):Nat:=ms.getD e 0
theorem at0_get {ms:List Nat} {e:Nat} (h:e < ms.length):ms[e]? = some (at0 ms e):=by unfold at0;simp [List.getD,List.getElem?_eq_getElem h]
structure WorkL (n:Nat) (ms:List Nat):Prop where
 small:n≤40
 len:ms.length = 2 * n
 wk:Work n (at0 ms)
theorem WorkL.get {n:Nat} {ms:List Nat} (W:WorkL n ms) {e:Nat} (h:e < 2 * n):(nV ms)[e]? = some (.int (at0 ms e)):=nV_get (at0_get (by rw [W.len];exact h))
theorem WorkL.ix {n:Nat} {ms:List Nat} (W:WorkL n ms) {e:Nat} (h:e < 2 * n):atI (nV ms) (e:Int) = some (.int (at0 ms e)):=atI_nat (W.get h)
theorem atI_nlast {xs:List Nat} {x:Nat} (h:xs.getLast? = some x):atI (nV xs) (-1) = some (.int x):=by
 obtain ⟨ys,rfl⟩:=List.getLast?_eq_some_iff.mp h
 rw [nV_snoc]
 exact atI_last _ _
section
variable (K:PySem.W.Frag)
noncomputable def spStaves:Sp:=fun vs H Q _=>∃ (a:Addr) (n:Nat) (ms:List Nat),vs = [.ref a]∧SqT K H a (nV ms)∧WorkL n ms∧Q (.int n) H
noncomputable def spLoose:Sp:=fun vs H Q _=>∃ (a:Addr) (n:Nat) (ms:List Nat),vs = [.ref a]∧SqT K H a (nV ms)∧WorkL n ms∧∀ (l:Addr) (H':Hp),H l = none→Same H H'→H' l = some (.lst (nV (looseL n (at0 ms))))→Q (.ref l) H'
end
noncomputable def spCellAt (K:PySem.W.Frag):Sp:=fun vs H Q _=>∃ (a:Addr) (ns:List Int) (k:Nat),vs = [.ref a,.int k]∧SqL K H a (ns.map V.int)∧∀ i:Int,Q (.int i) H
noncomputable def spMates (K:PySem.W.Frag):Sp:=fun vs H Q _=>∃ (a:Addr) (cs:List Int) (n:Nat),vs = [.ref a,.int n]∧SqL K H a (cs.map V.int)∧n≤40 ∧
 ∀ (l:Addr) (H':Hp) (ms:List Nat),H l = none→Same H H'→WorkL n ms→H' l = some (.lst (nV ms))→Q (.ref l) H'

noncomputable def freed (ms:List Nat) (e:Nat):List Nat:=(ms.set (at0 ms e) (at0 ms e)).set e e
noncomputable def clasp (ms:List Nat) (p q:Nat):List Nat:=(ms.set p q).set q p
theorem at0_set {ms:List Nat} {i j v:Nat} (hi:i < ms.length):at0 (ms.set i v) j = if j = i then v else at0 ms j:=by
 unfold at0
 by_cases e:j = i
 ·subst e;rw [if_pos rfl];simp [List.getD,List.getElem?_set_self hi]
 ·rw [if_neg e];simp [List.getD,List.getElem?_set_ne (Ne.symm e)]
theorem freed_len (ms:List Nat) (e:Nat):(freed ms e).length = ms.length:=by unfold freed;rw [List.length_set,List.length_set]
theorem freed_at {n:Nat} {ms:List Nat} (W:WorkL n ms) {e:Nat} (he:e < 2 * n) (j:Nat):at0 (freed ms e) j = if j = e then e else if j = at0 ms e then at0 ms e else at0 ms j:=by
 unfold freed
 rw [at0_set (by rw [List.length_set,W.len];exact he),at0_set (by rw [W.len];exact W.wk.lt e he)]
theorem freed_work {n:Nat} {ms:List Nat} (W:WorkL n ms) {e:Nat} (he:e < 2 * n):WorkL n (freed ms e)∧at0 (freed ms e) e = e:=by
 have m:=W.wk.lt e he
 have key:=freed_at W he
 refine ⟨⟨W.small,by rw [freed_len];exact W.len,fun x hx=>?_,fun x hx=>?_⟩,by rw [key,if_pos rfl]⟩
 ·rw [key]
  split
  ·exact he
  ·split
   ·exact m
   ·exact W.wk.lt x hx
 ·rw [key x]
  by_cases c1:x = e
  ·rw [if_pos c1,key,if_pos rfl,c1]
  ·rw [if_neg c1]
   by_cases c2:x = at0 ms e
   ·rw [if_pos c2,key]
    by_cases c3:at0 ms e = e
    ·exact absurd (c2.trans c3) c1
    ·rw [if_neg c3,if_pos rfl,c2]
   ·rw [if_neg c2,key]
    have i1:=W.wk.inv x hx
    have c3:at0 ms x≠e:=fun z=>c2 (by rw [← z,i1])
    have c4:at0 ms x≠at0 ms e:=fun z=>c1 (by rw [← i1,z,W.wk.inv e he])
    rw [if_neg c3,if_neg c4,i1]
theorem clasp_work {n:Nat} {ms:List Nat} (W:WorkL n ms) {p q:Nat} (hp:p < 2 * n) (hq:q < 2 * n) (lp:at0 ms p = p) (lq:at0 ms q = q):WorkL n (clasp ms p q):=by
 have key:∀ j,at0 (clasp ms p q) j = if j = q then p else if j = p then q else at0 ms j:=fun j=>by
  unfold clasp
  rw [at0_set (by rw [List.length_set,W.len];exact hq),at0_set (by rw [W.len];exact hp)]
 refine ⟨W.small,by unfold clasp;rw [List.length_set,List.length_set];exact W.len,fun x hx=>?_,fun x hx=>?_⟩
 ·rw [key]
  split
  ·exact hp
  ·split
   ·exact hq
   ·exact W.wk.lt x hx
 ·rw [key x]
  by_cases c1:x = q
  ·rw [if_pos c1,key]
   by_cases c2:p = q
   ·rw [if_pos c2,c1,c2]
   ·rw [if_neg c2,if_pos rfl,c1]
  ·rw [if_neg c1]
   by_cases c2:x = p
   ·rw [if_pos c2,key,if_pos rfl,c2]
   ·rw [if_neg c2,key]
    have i1:=W.wk.inv x hx
    have c3:at0 ms x≠q:=fun z=>c1 (by rw [← i1,z,lq])
    have c4:at0 ms x≠p:=fun z=>c2 (by rw [← i1,z,lp])
    rw [if_neg c3,if_neg c4,i1]
theorem freed_keeps {n:Nat} {ms:List Nat} (W:WorkL n ms) {e:Nat} (he:e < 2 * n) {j:Nat} (hj:at0 ms j = j):at0 (freed ms e) j = j:=by
 rw [freed_at W he]
 split
 ·rename_i h;exact h.symm
 ·split
  ·rename_i h;exact h.symm
  ·exact hj
theorem range_work {n:Nat} (h:n≤40):WorkL n (List.range (2 * n)):=by
 have key:∀ x,x < 2 * n→at0 (List.range (2 * n)) x = x:=fun x hx=>by unfold at0;simp [List.getD,List.getElem?_range hx]
 exact ⟨h,List.length_range,fun x hx=>by rw [key x hx];exact hx,fun x hx=>by rw [key x hx,key x hx]⟩
theorem rngV_nV (n:Nat):rngV 0 n = nV (List.range n):=by
 unfold rngV nV
 refine List.map_congr_left fun a _=>?_
 rw [Int.zero_add]
theorem nV_set (ms:List Nat) (i v:Nat):(nV ms).set i (.int v) = nV (ms.set i v):=by unfold nV;rw [List.map_set]

theorem cutV_ints (ns:List Int) (lo hi:Option Int):∃ cs:List Int,cutV (ns.map V.int) lo hi = cs.map V.int∧cs.length≤ns.length:=by
 have h:=cutV_length (ns.map V.int) lo hi
 rw [List.length_map] at h
 unfold cutV at h ⊢
 rw [← List.map_drop,← List.map_take] at h ⊢
 exact ⟨_,rfl,by rw [List.length_map] at h;exact h⟩
theorem nV_append (xs ys:List Nat):nV (xs ++ ys) = nV xs ++ nV ys:=by unfold nV;rw [List.map_append]
end Mir

namespace Mt
open Ch

noncomputable def up (xs:List Nat):List Int:=xs.map fun (x:Nat)=>(x:Int)
theorem up_len (xs:List Nat):(up xs).length = xs.length:=by unfold up;rw [List.length_map]

end Mt



namespace Mir
open PySem L2 Ch
noncomputable def iV (ns:List Int):List V:=ns.map V.int
theorem iV_len (ns:List Int):(iV ns).length = ns.length:=by unfold iV;rw [List.length_map]
theorem nV_up (ms:List Nat):nV ms = iV (Mt.up ms):=by unfold nV iV Mt.up;rw [List.map_map];rfl
noncomputable def Sm (i:Int):Prop:=i.natAbs < 10 ^ 40
theorem Sm.log {i:Int} (h:Sm i):i.natAbs.log2 < 1920:=by
 unfold Sm at h
 by_cases z:i.natAbs = 0
 ·rw [z];decide
 ·exact (Nat.log2_lt z).mpr (Nat.lt_of_lt_of_le h (by decide +kernel))
theorem Sm.of {i:Int} (h1:-(10 ^ 32:Int) < i) (h2:i < (10 ^ 32:Int)):Sm i:=by
 unfold Sm
 have e:(10:Nat) ^ 40 = 100000000 * 10 ^ 32:=by decide +kernel
 rw [e]
 omega
end Mir


namespace L2
open PySem PySem.Spec PyProof.Rows
section
variable {X:Cx}
noncomputable def rCatA:R2:=fun x y H Q=>∃ a b xs ys,x = .ref a∧y = .ref b∧H a = some (.tup xs)∧H b = some (.tup ys)∧xs.length + ys.length≤sizeLine∧∀ p H1,Same H H1→H1 p = some (.tup (xs ++ ys))→Q (.ref p) H1
theorem op_catA:OpR X (binaryOp .Add) rCatA:=by
 intro pins s σ H x y v u Q I rx ry h
 obtain ⟨a,b,xs,ys,ex,ey,ha,hb,hz,q⟩:=h
 by_cases hy:ys = []
 ·subst hy
  by_cases hx:xs = []
  ·subst hx ex ey
   cases rx
   cases ry
   obtain ⟨its,r1,p1,_⟩:=I.tuple (SqT.of ha)
   obtain ⟨its2,r2,p2,_⟩:=I.tuple (SqT.of hb)
   obtain ⟨⟨cls,dd,data,sl⟩,ho,hc,n,hd⟩:=id p1
   obtain ⟨⟨cls2,dd2,data2,sl2⟩,ho2,hc2,n2,hd2⟩:=id p2
   simp only at hc hd hc2 hd2
   subst hc hd hc2 hd2
   have e:its = []:=r1.nil_iff.mpr rfl
   exact concat_meets ⟨_,ho,rfl⟩ ⟨_,ho2,rfl⟩ noFill_tuple_add seq_tuple_add PySem.F.slot_tuple_add PySem.F.entry_tuple_add (PySem.F.args_tuple_add_2 _ _)
    (L2E.tuple_addW0 a b its.toArray its2.toArray n n2 dd dd2 sl sl2 (by rw [e];rfl)) ⟨ho,ho2,⟨.ref b,H,I,rfl,q b H (Same.refl _) hb⟩⟩
  ·exact op_catT pins s σ H x y v u Q I rx ry ⟨a,b,xs,[],ex,ey,SqT.of ha,SqT.of hb,hx,hz,fun _=>q a H (Same.refl _) (by rw [List.append_nil];exact ha),fun z=>absurd rfl z⟩
 ·exact op_catT2 pins s σ H x y v u Q I rx ry ⟨a,b,xs,ys,ex,ey,SqT.of ha,SqT.of hb,hy,hz,fun z=>q b H (Same.refl _) (by rw [z];exact hb),fun _ p hp=>q p _ (same_upd hp) upd_same⟩
end
end L2

namespace L2
open PySem PySem.Spec
theorem pt_sem {X:Cx} {c:Expr} {R:TT} (h:∀ σ H Q,R σ H Q→∃ t,PT X c t∧t σ H Q):PT X c R:=fun pins s σ H Q I hw=>by
 obtain ⟨t,ht,hq⟩:=h σ H Q hw
 exact ht pins s σ H Q I hq
end L2
namespace Mir
open PySem L2
noncomputable def TsT {α:Type} (f:α→List V) (H:Hp) (l:Addr) (xs:List α):Prop :=
 ∃ ts:List Addr,H l = some (.lst (ts.map V.ref))∧ts.length = xs.length∧∀ (i:Nat) (t:Addr) (x:α),ts[i]? = some t→xs[i]? = some x→H t = some (.tup (f x))
section
variable {α:Type} {f:α→List V} {H H':Hp} {l r b t d:Addr} {xs ys:List α} {x:α}
theorem TsT.same (h:TsT f H l xs) (s:Same H H'):TsT f H' l xs:=by
 obtain ⟨ts,h1,h2,h3⟩:=h
 exact ⟨ts,s _ _ h1,h2,fun i t p e1 e2=>s _ _ (h3 i t p e1 e2)⟩
theorem TsT.nil (h:H l = some (.lst [])):TsT f H l ([]:List α):=⟨[],h,rfl,fun i t r e=>by simp at e⟩
theorem TsT.len (h:TsT f H l xs):∃ vs,H l = some (.lst vs)∧vs.length = xs.length:=by
 obtain ⟨ts,h1,h2,_⟩:=h
 exact ⟨_,h1,by rw [List.length_map];exact h2⟩
theorem TsT.get {i:Nat} (h:TsT f H l xs) (e:xs[i]? = some x):∃ vs t,H l = some (.lst vs)∧vs[i]? = some (.ref t)∧H t = some (.tup (f x)):=by
 obtain ⟨ts,h1,h2,h3⟩:=h
 have hi:=(List.getElem?_eq_some_iff.mp e).1
 have et:ts[i]? = some (ts[i]'(by omega)):=List.getElem?_eq_getElem (by omega)
 exact ⟨_,_,h1,by rw [List.getElem?_map,et];rfl,h3 i _ x et e⟩
noncomputable def Tup (f:α→List V) (H:Hp) (ts:List Addr) (xs:List α):Prop:=ts.length = xs.length∧∀ (i:Nat) (t:Addr) (x:α),ts[i]? = some t→xs[i]? = some x→H t = some (.tup (f x))
theorem TsT.tup (h:TsT f H l xs):∃ ts,H l = some (.lst (ts.map V.ref))∧Tup f H ts xs:=by
 obtain ⟨ts,h1,h2,h3⟩:=h
 exact ⟨ts,h1,h2,h3⟩
theorem Tup.tst {ts:List Addr} (h:Tup f H ts xs) (hl:H l = some (.lst (ts.map V.ref))):TsT f H l xs:=⟨ts,hl,h.1,h.2⟩
theorem Tup.same {ts:List Addr} (h:Tup f H ts xs) (s:Same H H'):Tup f H' ts xs:=⟨h.1,fun i t p e1 e2=>s _ _ (h.2 i t p e1 e2)⟩
theorem Tup.upd {ts:List Addr} {o:HO} {vs:List V} (h:Tup f H ts xs) (hl:H l = some (.lst vs)):Tup f (upd H l o) ts xs:=⟨h.1,fun i t p e1 e2=>by
 have key:=h.2 i t p e1 e2
 rw [upd_ne (fun e=>by rw [e,hl] at key;cases key)]
 exact key⟩
theorem Tup.app {ts us:List Addr} (h:Tup f H ts xs) (k:Tup f H us ys):Tup f H (ts ++ us) (xs ++ ys):=⟨by rw [List.length_append,List.length_append,h.1,k.1],fun i t p e1 e2=>by
 by_cases hi:i < ts.length
 ·rw [List.getElem?_append_left hi] at e1
  rw [List.getElem?_append_left (by have:=h.1;omega)] at e2
  exact h.2 i t p e1 e2
 ·rw [List.getElem?_append_right (by omega)] at e1
  rw [List.getElem?_append_right (by have:=h.1;omega),← h.1] at e2
  exact k.2 _ t p e1 e2⟩
theorem Tup.one (h:H t = some (.tup (f x))):Tup f H [t] [x]:=⟨rfl,fun i u p e1 e2=>by
 cases i with
 | zero=>cases e1;cases e2;exact h
 | succ i=>cases e1⟩
theorem Tup.take {ts:List Addr} (n:Nat) (h:Tup f H ts xs):Tup f H (ts.take n) (xs.take n):=⟨by rw [List.length_take,List.length_take,h.1],fun i t p e1 e2=>by
 rw [List.getElem?_take] at e1 e2
 by_cases hi:i < n
 ·rw [if_pos hi] at e1 e2
  exact h.2 i t p e1 e2
 ·rw [if_neg hi] at e1
  cases e1⟩
theorem Tup.drop {ts:List Addr} (n:Nat) (h:Tup f H ts xs):Tup f H (ts.drop n) (xs.drop n):=⟨by rw [List.length_drop,List.length_drop,h.1],fun i t p e1 e2=>by
 rw [List.getElem?_drop] at e1 e2
 exact h.2 _ t p e1 e2⟩
theorem TsT.snoc (h:TsT f H l xs) (ht:H t = some (.tup (f x))):∃ vs,H l = some (.lst vs)∧vs.length = xs.length∧TsT f (L2.upd H l (.lst (vs ++ [.ref t]))) l (xs ++ [x]):=by
 obtain ⟨ts,h1,h2⟩:=h.tup
 refine ⟨_,h1,by rw [List.length_map];exact h2.1,?_⟩
 exact ((h2.app (Tup.one ht)).upd h1).tst (by rw [upd_same,List.map_append];rfl)
theorem TsT.other {vs:List V} {o:HO} (h:TsT f H l xs) (hd:H d = some (.lst vs)) (ne:d≠l):TsT f (L2.upd H d o) l xs:=by
 obtain ⟨ts,h1,h2⟩:=h.tup
 exact (h2.upd hd).tst (by rw [upd_ne (Ne.symm ne)];exact h1)
end
end Mir



set_option maxHeartbeats 2000000
namespace SrtR
open PySem PyProof.Rows
class RkP where
 G:Keyed→Prop
 nm:Keyed→Int
 kd:SortKind
variable [RkP]
noncomputable def num (p:Keyed):Int:=RkP.nm p
noncomputable def K (xs:Array Keyed) (i:Nat):Int:=match xs[i]? with
 | some p=>num p
 | none=>0
noncomputable def IntKeys (xs:Array Keyed):Prop:=∀ p∈xs.toList,RkP.G p
noncomputable def SortedTo (xs:Array Keyed) (k:Nat):Prop:=∀ i j,i≤j→j < k→K xs i≤K xs j
noncomputable abbrev oneType':SortKind:=RkP.kd
noncomputable def Asks (prog:Program) (w:World) (A:Around) (s:Shared):Prop:=∀ x y:Keyed,RkP.G x→RkP.G y→∀ (E:Value→Shared→Prop) (Q:Bool→Shared→Prop),Q (decide (num x < num y)) s→wpAny (model prog w) A (keyLt' oneType' x.1 y.1) Q E s
structure IKA (prog:Program) (w:World) (A:Around) (s:Shared) (xs:Array Keyed):Prop where
 ik:IntKeys xs
 as:Asks prog w A s
theorem K_congr {xs ys:Array Keyed} {i j:Nat} (h:xs[i]? = ys[j]?):K xs i = K ys j:=by unfold K;rw [h]
theorem K_bubble {xs:Array Keyed} {src d:Nat} (hs:src < xs.size) (hd:d≤src) (k:Nat):K (bubble xs src d) k = if k = src - d then K xs src else if src - d < k∧k≤src then K xs (k - 1) else K xs k:=by
 have e:=getElem?_bubble hs d hd k
 split at e
 ·rw [if_pos (by assumption)];exact K_congr e
 ·rw [if_neg (by assumption)]
  split at e
  ·rw [if_pos (by assumption)];exact K_congr e
  ·rw [if_neg (by assumption)];exact K_congr e
theorem K_mirror {xs:Array Keyed} {i j:Nat} (hj:j≤xs.size) (k:Nat):K (mirror xs i j ((j - i) / 2)) k = if i≤k∧k < j then K xs (i + j - 1 - k) else K xs k:=by
 have e:=getElem?_mirror_all (i:=i) hj k
 split at e
 ·rw [if_pos (by assumption)];exact K_congr e
 ·rw [if_neg (by assumption)];exact K_congr e
theorem K_mirror_equal {xs:Array Keyed} {i j:Nat} (hj:j≤xs.size) (heq:∀ k,i≤k→k < j→K xs k = K xs (j - 1)) (k:Nat):K (mirror xs i j ((j - i) / 2)) k = K xs k:=by
 rw [K_mirror hj]
 by_cases c:i≤k∧k < j
 ·rw [if_pos c,heq k c.1 c.2]
  exact heq _ (by omega) (by omega)
 ·rw [if_neg c]
section
variable {prog:Program} {w:World} {A:Around} {E:Value→Shared→Prop} {s:Shared}
theorem wpS_lt {st:SortSt} {x y:Keyed} {i j:Int} {Q:Option Bool→SortSt→Prop} (as:Asks prog w A s) (hk:kindOf st = oneType') (hx:RkP.G x∧num x = i) (hy:RkP.G y∧num y = j) (h:Q (some (decide (i < j))) st):wpS (model prog w) A E s (lt' x y) Q st:=by
 rw [lt'_eq]
 refine wpS_bind (wpS_get ?_)
 rw [hk]
 refine wpS_bind (wpS_lift (wpAny_attempt (as x y hx.1 hy.1 _ _ ⟨rfl,?_⟩)))
 rw [hx.2,hy.2]
 exact wpS_pure h
theorem wpS_elem {st:SortSt} {arr:Array Keyed} {i:Nat} {Q:Keyed→SortSt→Prop} {p:Keyed} (hp:arr[i]? = some p) (h:Q p st):wpS (model prog w) A E s (elem' arr i) Q st:=by
 rw [elem'_eq,hp]
 exact wpS_pure h
theorem wpS_ite {α:Type} {c:Prop} [Decidable c] {m m':StateT SortSt Sem α} {Q:α→SortSt→Prop} {st:SortSt} (h1:c→wpS (model prog w) A E s m Q st) (h2:¬ c→wpS (model prog w) A E s m' Q st):wpS (model prog w) A E s (if c then m else m') Q st:=by
 by_cases h:c
 ·rw [if_pos h];exact h1 h
 ·rw [if_neg h];exact h2 h
end
section
variable {a b out:Array Keyed} {ia ib k:Nat}
theorem num_K {xs:Array Keyed} {i:Nat} {p:Keyed} (h:xs[i]? = some p):K xs i = num p:=by unfold K;rw [h]
end
structure SB (a₀:Array Keyed) (pd:Array (Nat×Nat×Nat)) (lo:Nat) (f:Nat→Int) (st:SortSt):Prop where
 perm:(arrOf st).Perm a₀
 kd:kindOf st = oneType'
 fl:failedOf st = none
 pd:pendingOf st = pd
 pre:∀ i,i < lo→K (arrOf st) i = f i
section
variable {a₀:Array Keyed} {pd:Array (Nat×Nat×Nat)} {lo:Nat} {f:Nat→Int} {st:SortSt}
theorem SB.sz (h:SB a₀ pd lo f st):(arrOf st).size = a₀.size:=h.perm.size_eq
theorem SB.put (h:SB a₀ pd lo f st) {xs:Array Keyed} (hp:xs.Perm (arrOf st)) (hk:∀ i,i < lo→K xs i = K (arrOf st) i):SB a₀ pd lo f (setArr st xs):=⟨hp.trans h.perm,h.kd,h.fl,h.pd,fun i hi=>(hk i hi).trans (h.pre i hi)⟩
theorem SB.item (h:SB a₀ pd lo f st) (h0:IntKeys a₀) {i:Nat} (hi:i < a₀.size):∃ p,(arrOf st)[i]? = some p∧RkP.G p∧num p = K (arrOf st) i:=by
 have hi':i < (arrOf st).size:=h.sz.symm ▸ hi
 have e:(arrOf st)[i]? = some (arrOf st)[i]:=getElem?_pos _ i hi'
 exact ⟨(arrOf st)[i],e,h0 _ ((Array.perm_iff_toList_perm.mp h.perm).mem_iff.mp (Array.getElem_mem_toList hi')),(num_K e).symm⟩
end
noncomputable def AscL (lo:Nat) (xs:Array Keyed) (n:Nat):Prop:=∀ i j,i≤j→j < n→K xs (lo + i)≤K xs (lo + j)
noncomputable def DscL (lo:Nat) (xs:Array Keyed) (n:Nat):Prop:=∀ i j,i≤j→j < n→K xs (lo + j)≤K xs (lo + i)
theorem AscL.more {lo n:Nat} {xs:Array Keyed} (h:AscL lo xs n) (hn:1≤n) (k:K xs (lo + n - 1)≤K xs (lo + n)):AscL lo xs (n + 1):=fun i j hij hj=>by
 by_cases c:j < n
 ·exact h i j hij c
 ·obtain rfl:j = n:=by omega
  by_cases d:i = j
  ·rw [d];exact Int.le_refl _
  ·have z:=h i (j - 1) (by omega) (by omega)
   rw [show lo + (j - 1) = lo + j - 1 by omega] at z
   exact Int.le_trans z k
theorem DscL.more {lo n:Nat} {xs:Array Keyed} (h:DscL lo xs n) (hn:1≤n) (k:K xs (lo + n)≤K xs (lo + n - 1)):DscL lo xs (n + 1):=fun i j hij hj=>by
 by_cases c:j < n
 ·exact h i j hij c
 ·obtain rfl:j = n:=by omega
  by_cases d:i = j
  ·rw [d];exact Int.le_refl _
  ·have z:=h i (j - 1) (by omega) (by omega)
   rw [show lo + (j - 1) = lo + j - 1 by omega] at z
   exact Int.le_trans k z
theorem AscL.one {lo:Nat} {xs:Array Keyed}:AscL lo xs 1:=fun i j hij hj=>by
 obtain rfl:i = j:=by omega
 exact Int.le_refl _
theorem DscL.one {lo:Nat} {xs:Array Keyed}:DscL lo xs 1:=fun i j hij hj=>by
 obtain rfl:i = j:=by omega
 exact Int.le_refl _
theorem DscL.congr {lo n:Nat} {xs ys:Array Keyed} (h:DscL lo xs n) (e:∀ k,K ys k = K xs k):DscL lo ys n:=fun i j hij hj=>by rw [e,e];exact h i j hij hj
noncomputable def upL (lo a m:Nat):StateT SortSt Sem AscSt :=
 forIn [a:m] ((none,a):AscSt) fun _ c=>do
  let x ← ltAt' (lo + c.2) (lo + c.2 - 1)
  match x with
  | some b=>if b = true then pure (ForInStep.done (none,c.2)) else pure (ForInStep.yield (none,c.2 + 1))
  | _=>pure (ForInStep.done (some none,c.2))
noncomputable def endL (lo n m:Nat):StateT SortSt Sem (Option Nat):=do
 reverseSlice' lo (lo + n)
 let c ← upL lo n m
 match c.1 with
 | some r=>pure r
 | none=>pure (some c.2)
noncomputable def downL (lo n m:Nat):StateT SortSt Sem DescSt :=
 forIn [n:m] ((none,n,0):DescSt) fun _ c=>do
  let x ← ltAt' (lo + c.2.1) (lo + c.2.1 - 1)
  match x with
  | some b =>
   if b = true then
    if c.2.2 > 0 then do
     reverseSlice' (lo + c.2.1 - (c.2.2 + 1)) (lo + c.2.1)
     pure (ForInStep.yield (none,c.2.1 + 1,0))
    else pure (ForInStep.yield (none,c.2.1 + 1,0))
   else do
    let y ← ltAt' (lo + c.2.1 - 1) (lo + c.2.1)
    match y with
    | some g=>if g = true then pure (ForInStep.done (none,c.2.1,c.2.2)) else pure (ForInStep.yield (none,c.2.1 + 1,c.2.2 + 1))
    | _=>pure (ForInStep.done (some none,c.2.1,c.2.2))
  | _=>pure (ForInStep.done (some none,c.2.1,c.2.2))
noncomputable def downP (lo n m:Nat):StateT SortSt Sem (Option Nat):=do
 liftM (rule "list.sort.descending-run")
 let c ← downL lo (n + 1) m
 match c.1 with
 | some r=>pure r
 | none =>
  if c.2.2 > 0 then do
   reverseSlice' (lo + c.2.1 - (c.2.2 + 1)) (lo + c.2.1)
   endL lo c.2.1 m
  else endL lo c.2.1 m
theorem countL_eq (lo m:Nat):countRun' lo m = (do
  let c ← upL lo 1 m
  match c.1 with
  | some r=>pure r
  | none =>
   if (c.2 == m) = true then pure (some c.2)
   else if c.2 > 1 then do
    let x ← ltAt' lo (lo + c.2 - 1)
    match x with
    | some b=>if b = true then pure (some c.2) else do
      reverseSlice' lo (lo + c.2)
      downP lo c.2 m
    | _=>pure none
   else downP lo c.2 m):=by
 rw [countRun'_eq]
 dsimp only
 unfold downP endL downL upL
 congr 1
 funext c
 obtain ⟨r,n⟩:=c
 cases r with
 | some r=>rfl
 | none =>
  dsimp only
  split
  ·rfl
  ·split
   ·congr 1;funext x
    cases x with
    | none=>rfl
    | some b =>
     dsimp only
     split
     ·rfl
     ·congr 1;funext _r
      congr 1;funext _u
      congr 1;congr 1;funext s2
      obtain ⟨r2,n2,q2⟩:=s2
      cases r2 with
      | some r2=>rfl
      | none =>
       dsimp only
       split
       ·congr 1;funext _v;congr 1;funext _w;congr 1;funext s3;obtain ⟨r3,n3⟩:=s3;cases r3 <;> rfl
       ·congr 1;funext _w;congr 1;funext s3;obtain ⟨r3,n3⟩:=s3;cases r3 <;> rfl
   ·congr 1;funext _u
    congr 1;congr 1;funext s2
    obtain ⟨r2,n2,q2⟩:=s2
    cases r2 with
    | some r2=>rfl
    | none =>
     dsimp only
     split
     ·congr 1;funext _v;congr 1;funext _w;congr 1;funext s3;obtain ⟨r3,n3⟩:=s3;cases r3 <;> rfl
     ·congr 1;funext _w;congr 1;funext s3;obtain ⟨r3,n3⟩:=s3;cases r3 <;> rfl
theorem bub_if {f:Nat→Int} {lo l k i:Nat} (hi:i≤k):(if lo + i = lo + l then f (lo + k) else if lo + l < lo + i∧lo + i≤lo + k then f (lo + i - 1) else f (lo + i)) = if i = l then f (lo + k) else if i < l then f (lo + i) else f (lo + (i - 1)):=by
 by_cases c:i = l
 ·rw [if_pos (congrArg _ c),if_pos c]
 ·rw [if_neg (fun z=>c (Nat.add_left_cancel z)),if_neg c]
  by_cases d:i < l
  ·rw [if_neg (fun z=>Nat.lt_asymm d (Nat.lt_of_add_lt_add_left z.1)),if_pos d]
  ·rw [if_pos ⟨Nat.add_lt_add_left (Nat.lt_of_le_of_ne (Nat.le_of_not_lt d) (Ne.symm c)) lo,Nat.add_le_add_left hi lo⟩,if_neg d,Nat.add_sub_assoc (by omega)]
theorem bub_asc {X Y:Nat→Int} {l k:Nat} (hY:∀ i,i≤k→Y i = if i = l then X k else if i < l then X i else X (i - 1)) (up:∀ i j,i≤j→j < k→X i≤X j) (p4:∀ i,i < l→X i≤X k) (p5:∀ i,l≤i→i < k→X k < X i) (i j:Nat) (hij:i≤j) (hj:j≤k):Y i≤Y j:=by
 rw [hY i (Nat.le_trans hij hj),hY j hj]
 by_cases ci:i = l
 ·rw [if_pos ci]
  by_cases cj:j = l
  ·rw [if_pos cj];exact Int.le_refl _
  ·rw [if_neg cj,if_neg (by omega)];exact Int.le_of_lt (p5 _ (by omega) (by omega))
 ·rw [if_neg ci]
  by_cases ci2:i < l
  ·rw [if_pos ci2]
   by_cases cj:j = l
   ·rw [if_pos cj];exact p4 i ci2
   ·rw [if_neg cj]
    by_cases cj2:j < l
    ·rw [if_pos cj2]
     by_cases cl:l≤k
     ·exact up i j hij (Nat.lt_of_lt_of_le cj2 cl)
     ·by_cases ck:j = k
      ·rw [ck];exact p4 i ci2
      ·exact up i j hij (Nat.lt_of_le_of_ne hj ck)
    ·rw [if_neg cj2];exact up i (j - 1) (by omega) (by omega)
  ·rw [if_neg ci2,if_neg (by omega),if_neg (by omega)];exact up _ _ (Nat.sub_le_sub_right hij 1) (by omega)
section
variable {prog:Program} {w:World} {A:Around} {E:Value→Shared→Prop} {s:Shared} {a₀:Array Keyed} {pd:Array (Nat×Nat×Nat)} {lo:Nat} {f:Nat→Int}
theorem wpS_askL {st:SortSt} {i j:Nat} {Q:Option Bool→SortSt→Prop} (hB:SB a₀ pd lo f st) (h0:IKA prog w A s a₀) (hi:i < a₀.size) (hj:j < a₀.size) (h:Q (some (decide (K (arrOf st) i < K (arrOf st) j))) st):wpS (model prog w) A E s (ltAt' i j) Q st:=by
 obtain ⟨p,e1,g1⟩:=hB.item h0.ik hi
 obtain ⟨q,e2,g2⟩:=hB.item h0.ik hj
 rw [ltAt'_eq]
 refine wpS_bind (wpS_get ?_)
 refine wpS_bind (wpS_elem e1 (wpS_bind (wpS_elem e2 ?_)))
 exact wpS_lt h0.as hB.kd g1 g2 h
theorem SB.turn {st:SortSt} (hB:SB a₀ pd lo f st) {i j:Nat} (hi:lo≤i) (hj:j≤a₀.size):SB a₀ pd lo f (setArr st (mirror (arrOf st) i j ((j - i) / 2))) :=
 hB.put (mirror_perm _ _ _ _) fun k hk=>by rw [K_mirror (by rw [hB.sz];exact hj),if_neg (by omega)]
theorem wpS_upL {st:SortSt} {a m:Nat} {Q:AscSt→SortSt→Prop} (h0:IKA prog w A s a₀) (hn:lo + m≤a₀.size) (ha:1≤a) (han:a≤m) (hB:SB a₀ pd lo f st) (hs:AscL lo (arrOf st) a)
  (h:∀ n,a≤n→n≤m→AscL lo (arrOf st) n→(n = m∨K (arrOf st) (lo + n) < K (arrOf st) (lo + n - 1))→Q (none,n) st):wpS (model prog w) A E s (upL lo a m) Q st:=by
 unfold upL
 refine wpS_forRange (I:=fun x c st'=>st' = st∧c = (none,x)∧AscL lo (arrOf st) x) ?step ?fin ⟨rfl,rfl,hs⟩
 case fin =>
  rintro c st' ⟨e1,e2,g⟩
  subst e1 e2
  have e:max a m = m:=Nat.max_eq_right han
  rw [e] at g ⊢
  exact h m han (Nat.le_refl _) g (.inl rfl)
 case step =>
  rintro x c st' hax hxm ⟨e1,e2,g⟩
  subst e1 e2
  dsimp only
  refine wpS_bind (wpS_askL hB h0 (by omega) (by omega) ?_)
  dsimp only
  refine wpS_ite (fun z=>?_) (fun z=>?_)
  ·exact wpS_pure (h x hax (by omega) g (.inr (of_decide_eq_true z)))
  ·exact wpS_pure ⟨rfl,rfl,g.more (by omega) (Int.not_lt.mp fun y=>z (decide_eq_true y))⟩
theorem wpS_endL {st:SortSt} {n m:Nat} {Q:Option Nat→SortSt→Prop} (h0:IKA prog w A s a₀) (hn:lo + m≤a₀.size) (h1:1≤n) (hnn:n≤m) (hB:SB a₀ pd lo f st) (hs:DscL lo (arrOf st) n)
  (h:∀ k st',SB a₀ pd lo f st'→1≤k→k≤m→AscL lo (arrOf st') k→Q (some k) st'):wpS (model prog w) A E s (endL lo n m) Q st:=by
 unfold endL
 have hz:lo + n≤(arrOf st).size:=by rw [hB.sz];omega
 have hB':=hB.turn (i:=lo) (j:=lo + n) (Nat.le_refl _) (by omega)
 refine wpS_bind (wpS_reverse (wpS_bind (wpS_upL h0 hn h1 hnn hB' (fun i j hij hj=>?_) fun k k1 k2 g _=>wpS_pure (h k _ hB' (by omega) k2 g))))
 show K (mirror (arrOf st) lo (lo + n) _) (lo + i)≤K (mirror (arrOf st) lo (lo + n) _) (lo + j)
 rw [K_mirror hz,K_mirror hz,if_pos (by omega),if_pos (by omega)]
 have z:=hs (n - 1 - j) (n - 1 - i) (by omega) (by omega)
 rw [show lo + (n - 1 - j) = lo + (lo + n) - 1 - (lo + j) by omega,show lo + (n - 1 - i) = lo + (lo + n) - 1 - (lo + i) by omega] at z
 exact z
theorem wpS_downL {st:SortSt} {n m:Nat} {Q:DescSt→SortSt→Prop} (h0:IKA prog w A s a₀) (hn:lo + m≤a₀.size) (h1:1≤n) (hnn:n≤m) (hB:SB a₀ pd lo f st) (hs:DscL lo (arrOf st) n)
  (h:∀ k q st',SB a₀ pd lo f st'→n≤k→k≤m→DscL lo (arrOf st') k→q + 1≤k→(∀ i,lo + k - (q + 1)≤i→i < lo + k→K (arrOf st') i = K (arrOf st') (lo + k - 1))→Q (none,k,q) st'):wpS (model prog w) A E s (downL lo n m) Q st:=by
 unfold downL
 refine wpS_forRange (I:=fun x c st'=>∃ q,c = (none,x,q)∧SB a₀ pd lo f st'∧DscL lo (arrOf st') x∧q + 1≤x∧(∀ i,lo + x - (q + 1)≤i→i < lo + x→K (arrOf st') i = K (arrOf st') (lo + x - 1))) ?step ?fin
  ⟨0,rfl,hB,hs,by omega,fun i z1 z2=>congrArg _ (by omega)⟩
 case fin =>
  rintro c st' ⟨q,e,g1,g2,g3,g4⟩
  subst e
  have e:max n m = m:=Nat.max_eq_right hnn
  rw [e] at g2 g3 g4 ⊢
  exact h m q st' g1 hnn (Nat.le_refl _) g2 g3 g4
 case step =>
  rintro x c st' hax hxm ⟨q,e,g1,g2,g3,g4⟩
  subst e
  dsimp only
  refine wpS_bind (wpS_askL g1 h0 (by omega) (by omega) ?_)
  dsimp only
  refine wpS_ite (fun z=>?_) (fun z=>?_)
  ·have z:=Int.le_of_lt (of_decide_eq_true z)
   refine wpS_ite (fun y=>?_) (fun y=>?_)
   ·have hz:lo + x≤(arrOf st').size:=by rw [g1.sz];omega
    have ke:=K_mirror_equal (i:=lo + x - (q + 1)) hz g4
    refine wpS_bind (wpS_reverse (wpS_pure ⟨0,rfl,g1.turn (by omega) (by omega),(g2.congr ke).more (by omega) ?_,by omega,fun i z1 z2=>congrArg _ (by omega)⟩))
    show K (mirror (arrOf st') _ _ _) _≤K (mirror (arrOf st') _ _ _) _
    rw [ke,ke]
    exact z
   ·exact wpS_pure ⟨0,rfl,g1,g2.more (by omega) z,by omega,fun i z1 z2=>congrArg _ (by omega)⟩
  ·have z:K (arrOf st') (lo + x - 1)≤K (arrOf st') (lo + x):=Int.not_lt.mp fun y=>z (decide_eq_true y)
   refine wpS_bind (wpS_askL g1 h0 (by omega) (by omega) ?_)
   dsimp only
   refine wpS_ite (fun y=>?_) (fun y=>?_)
   ·exact wpS_pure (h x q st' g1 hax (by omega) g2 g3 g4)
   ·have y:K (arrOf st') (lo + x)≤K (arrOf st') (lo + x - 1):=Int.not_lt.mp fun u=>y (decide_eq_true u)
    have ee:K (arrOf st') (lo + x) = K (arrOf st') (lo + x - 1):=Int.le_antisymm y z
    refine wpS_pure ⟨q + 1,rfl,g1,g2.more (by omega) y,by omega,fun i z1 z2=>?_⟩
    rw [show lo + (x + 1) - 1 = lo + x by omega]
    by_cases c:i = lo + x
    ·rw [c]
    ·rw [ee];exact g4 i (by omega) (by omega)
theorem wpS_downP {st:SortSt} {n m:Nat} {Q:Option Nat→SortSt→Prop} (h0:IKA prog w A s a₀) (hn:lo + m≤a₀.size) (hnn:n + 1≤m) (hB:SB a₀ pd lo f st) (hs:DscL lo (arrOf st) (n + 1))
  (h:∀ k st',SB a₀ pd lo f st'→1≤k→k≤m→AscL lo (arrOf st') k→Q (some k) st'):wpS (model prog w) A E s (downP lo n m) Q st:=by
 unfold downP
 refine wpS_bind (wpS_lift (wpAny_rule ⟨rfl,wpS_bind (wpS_downL h0 hn (by omega) hnn hB hs fun k q st' g1 k1 k2 g2 g3 g4=>?_)⟩))
 dsimp only
 have hz:lo + k≤(arrOf st').size:=by rw [g1.sz];omega
 refine wpS_ite (fun y=>?_) (fun y=>?_)
 ·exact wpS_bind (wpS_reverse (wpS_endL h0 hn (by omega) k2 (g1.turn (by omega) (by omega)) (g2.congr (K_mirror_equal (i:=lo + k - (q + 1)) hz g4)) h))
 ·exact wpS_endL h0 hn (by omega) k2 g1 g2 h
theorem wpS_countL {st:SortSt} {m:Nat} {Q:Option Nat→SortSt→Prop} (h0:IKA prog w A s a₀) (hn:lo + m≤a₀.size) (h1:1≤m) (hB:SB a₀ pd lo f st)
  (h:∀ k st',SB a₀ pd lo f st'→1≤k→k≤m→AscL lo (arrOf st') k→Q (some k) st'):wpS (model prog w) A E s (countRun' lo m) Q st:=by
 rw [countL_eq]
 refine wpS_bind (wpS_upL h0 hn (Nat.le_refl 1) h1 hB AscL.one fun n n1 n2 g hor=>?_)
 dsimp only
 refine wpS_ite (fun c=>?_) (fun c=>?_)
 ·exact wpS_pure (h n st hB n1 n2 g)
 ·have c:n≠m:=fun z=>c (by rw [z];exact beq_self_eq_true _)
  have hlt:=Int.le_of_lt (hor.resolve_left c)
  refine wpS_ite (fun d=>?_) (fun d=>?_)
  ·refine wpS_bind (wpS_askL hB h0 (by omega) (by omega) ?_)
   dsimp only
   refine wpS_ite (fun y=>?_) (fun y=>?_)
   ·exact wpS_pure (h n st hB n1 n2 g)
   ·have y:K (arrOf st) (lo + n - 1)≤K (arrOf st) lo:=Int.not_lt.mp fun u=>y (decide_eq_true u)
    have hz:lo + n≤(arrOf st).size:=by rw [hB.sz];omega
    have all:∀ k,lo≤k→k < lo + n→K (arrOf st) k = K (arrOf st) (lo + n - 1):=fun k z1 z2=>by
     have a1:=g 0 (k - lo) (by omega) (by omega)
     have a2:=g (k - lo) (n - 1) (by omega) (by omega)
     rw [show lo + (k - lo) = k by omega] at a1 a2
     rw [show lo + (n - 1) = lo + n - 1 by omega] at a2
     rw [Nat.add_zero] at a1
     omega
    have ke:=K_mirror_equal (i:=lo) hz all
    have dn:DscL lo (arrOf st) n:=fun i j hij hj=>by rw [all (lo + i) (by omega) (by omega),all (lo + j) (by omega) (by omega)];exact Int.le_refl _
    exact wpS_bind (wpS_reverse (wpS_downP h0 hn (by omega) (hB.turn (Nat.le_refl _) (by omega)) ((dn.more (by omega) hlt).congr ke) h))
  ·obtain rfl:n = 1:=by omega
   exact wpS_downP h0 hn (by omega) hB (DscL.one.more (Nat.le_refl _) hlt) h
theorem wpS_binL {st:SortSt} {n ok:Nat} {Q:Bool→SortSt→Prop} (h0:IKA prog w A s a₀) (hn:lo + n≤a₀.size) (hok1:1≤ok) (hok:ok≤n) (hB:SB a₀ pd lo f st) (hs:AscL lo (arrOf st) ok)
  (h:∀ st',SB a₀ pd lo f st'→AscL lo (arrOf st') n→Q true st'):wpS (model prog w) A E s (binarySort' lo n ok) Q st:=by
 rw [binarySort'_eq]
 have em:max ok 1 = ok:=Nat.max_eq_left hok1
 rw [em]
 refine wpS_bind (wpS_mono (wpS_forRange (I:=fun k c st'=>c = (none,())∧SB a₀ pd lo f st'∧AscL lo (arrOf st') k) (Q:=fun c st'=>c = (none,())∧SB a₀ pd lo f st'∧AscL lo (arrOf st') n) ?step ?fin ⟨rfl,hB,hs⟩) ?post)
 case post =>
  rintro c st' ⟨e,g1,g2⟩
  subst e
  exact wpS_pure (h st' g1 g2)
 case fin =>
  rintro c st' ⟨e,g1,g2⟩
  have e2:max ok n = n:=Nat.max_eq_right hok
  rw [e2] at g2
  exact ⟨e,g1,g2⟩
 case step =>
  rintro k c st' hak hkn ⟨e,g1,g2⟩
  subst e
  have hk:lo + k < a₀.size:=by omega
  refine wpS_bind (wpS_mono (wpS_forRange (I:=fun x c st''=>st'' = st'∧∃ l r,c = (none,l,r)∧l≤r∧r≤k∧r - l≤k - x∧(∀ i,i < l→K (arrOf st') (lo + i)≤K (arrOf st') (lo + k))∧(∀ i,r≤i→i < k→K (arrOf st') (lo + k) < K (arrOf st') (lo + i)))
   (Q:=fun c st''=>st'' = st'∧∃ l r,c = (none,l,r)∧l≤k∧(∀ i,i < l→K (arrOf st') (lo + i)≤K (arrOf st') (lo + k))∧(∀ i,l≤i→i < k→K (arrOf st') (lo + k) < K (arrOf st') (lo + i))) ?istep ?ifin
   ⟨rfl,0,k,rfl,Nat.zero_le _,Nat.le_refl _,Nat.le_refl _,fun i z=>absurd z (Nat.not_lt_zero _),fun i z1 z2=>absurd z1 (by omega)⟩) ?ipost)
  case ifin =>
   rintro c st'' ⟨e1,l,r,e2,p1,p2,p3,p4,p5⟩
   obtain rfl:l = r:=by omega
   exact ⟨e1,l,l,e2,p2,p4,p5⟩
  case istep =>
   rintro x c st'' _ hxk ⟨e1,l,r,e2,p1,p2,p3,p4,p5⟩
   subst e1 e2
   dsimp only
   refine wpS_ite (fun y=>?_) (fun y=>?_)
   ·obtain rfl:l = r:=by omega
    exact wpS_pure ⟨rfl,l,l,rfl,p2,p4,p5⟩
   ·refine wpS_bind (wpS_askL g1 h0 hk (by omega) ?_)
    dsimp only
    refine wpS_ite (fun z=>?_) (fun z=>?_)
    ·have z:=of_decide_eq_true z
     exact wpS_pure ⟨rfl,l,(l + r) / 2,rfl,by omega,by omega,by omega,p4,fun i z1 z2=>Int.lt_of_lt_of_le z (g2 _ _ z1 z2)⟩
    ·have z:=Int.not_lt.mp fun u=>z (decide_eq_true u)
     exact wpS_pure ⟨rfl,(l + r) / 2 + 1,r,rfl,by omega,by omega,by omega,fun i z1=>Int.le_trans (g2 i ((l + r) / 2) (by omega) (by omega)) z,p5⟩
  case ipost =>
   rintro c st'' ⟨e1,l,r,e2,p2,p4,p5⟩
   subst e1 e2
   show wpS _ _ _ _ (do moveDown' (lo + k) (lo + l);pure (ForInStep.yield (none,()))) _ _
   rw [moveDown'_eq]
   have hz:lo + k < (arrOf st'').size:=by rw [g1.sz];exact hk
   have dl:lo + k - (lo + l) = k - l:=Nat.add_sub_add_left lo k l
   rw [dl]
   have pk:lo + k - (k - l) = lo + l:=by omega
   have kb:=fun i=>K_bubble (d:=k - l) hz (Nat.le_trans (Nat.sub_le k l) (Nat.le_add_left k lo)) i
   rw [pk] at kb
   refine wpS_bind (wpS_modify (wpS_pure ⟨rfl,g1.put (bubble_perm _ _ _) fun i hi=>?_,fun i j hij hj=>?_⟩))
   ·rw [kb,if_neg (by omega),if_neg (by omega)]
   ·refine bub_asc (X:=fun i=>K (arrOf st'') (lo + i)) (Y:=fun i=>K (bubble (arrOf st'') (lo + k) (k - l)) (lo + i)) (l:=l) (k:=k) (fun i hi=>?_) (fun a b=>g2 a b) p4 p5 i j hij (Nat.le_of_lt_succ hj)
    show K (bubble (arrOf st'') (lo + k) (k - l)) (lo + i) = _
    rw [kb]
    exact bub_if (f:=fun i=>K (arrOf st'') i) hi
end
section
variable {prog:Program} {w:World} {A:Around} {E:Value→Shared→Prop} {s:Shared} {a₀:Array Keyed}
theorem sortedTo_asc {xs:Array Keyed} {n:Nat} (h:AscL 0 xs n):SortedTo xs n:=fun i j hij hj=>by
 have z:=h i j hij hj
 rw [Nat.zero_add,Nat.zero_add] at z
 exact z
end
end SrtR



set_option maxHeartbeats 4000000
namespace L2
open PySem PySem.Spec PyProof.Rows
section
variable {X:Cx}
theorem Inv.adopt {pins:List (Addr×Obj)} {σ:L2.St} {H:Hp} {s:Shared} {D:Addr} {o:HO} (I:Inv X pins σ H s) (f:FpOk X pins H D) (new:ObjOk X.prog X.w (upd H D o) s.heap D o):Inv X pins σ (upd H D o) s:=by
 obtain ⟨f0,f1,f2,f3,f4,f5⟩:=f
 have z:=I.step (h':=s.heap) (H':=upd H D o) (g':=s.gens) (t':=s.toks) (d':=s.drawn) (ch:=[D]) (fun b hb=>?_) (fun b o' _ _ _ q _=>q) (fun b o' _ _ _ q _=>⟨o'.slots,q⟩) (fun b o' hc q n=>by rw [upd_ne (fun z=>hc (by simp [z]))];exact n) (fun b o' _ q=>⟨o',q⟩)
  (fun b ys q=>by rw [upd_ne (ne_of_none q f0)];exact q) (fun b o' u q=>by rw [upd_ne (ne_of_none q f0)];exact q) (fun b ps q=>⟨#[],by rw [upd_ne (ne_of_none q f0),q];simp⟩) (fun m hm=>hm) (fun b v q=>?_) I.bare
 ·exact z
 ·rw [List.mem_singleton.mp hb]
  exact ⟨f3,f1,f4,f5⟩
 ·by_cases hb:b = D
  ·subst hb
   rw [upd_same] at q
   cases q
   exact new
  ·rw [upd_ne hb] at q
   exact (I.hok b v q).stay (fun c o' _ z=>z) (fun c z=>by rw [upd_ne (ne_of_none z f0)];exact z) fun c ys z=>by rw [upd_ne (ne_of_none z f0)];exact z
end
end L2

namespace L2
open PySem PySem.Spec PyProof.Rows
inductive Two:List (Int×Value)→List (Int×V)→Prop
 | nil:Two [] []
 | cons {k:Int} {u:Value} {v:V} {a:List (Int×Value)} {b:List (Int×V)}:RelV v u→Two a b→Two ((k,u) :: a) ((k,v) :: b)
theorem perm_two {a b:List (Int×Value)} (h:a.Perm b):∀ {c:List (Int×V)},Two b c→∃ d,d.Perm c∧Two a d:=by
 induction h with
 | nil=>intro c t;exact ⟨c,List.Perm.refl _,t⟩
 | cons x _ ih =>
  intro c t
  cases t with
  | cons r t =>
   obtain ⟨d,hd,td⟩:=ih t
   exact ⟨_,hd.cons _,.cons r td⟩
 | swap x y l =>
  intro c t
  cases t with
  | cons r t =>
   cases t with
   | cons r2 t=>exact ⟨_,List.Perm.swap _ _ _,.cons r2 (.cons r t)⟩
 | trans _ _ ih1 ih2 =>
  intro c t
  obtain ⟨d,hd,td⟩:=ih2 t
  obtain ⟨e,he,te⟩:=ih1 td
  exact ⟨e,he.trans hd,te⟩
theorem two_zip:∀ {xs:List V} {its:List Value},Vals xs its→∀ kz:List Int,Two (kz.zip its) (kz.zip xs)
 | _,_,.nil,kz=>by simp;exact .nil
 | _,_,.cons r v,[]=>by simp;exact .nil
 | _,_,.cons r v,k :: kz=>.cons r (two_zip v kz)
theorem two_fst:∀ {a:List (Int×Value)} {b:List (Int×V)},Two a b→a.map (·.1) = b.map (·.1)
 | _,_,.nil=>rfl
 | _,_,.cons r t=>by rw [List.map_cons,List.map_cons,two_fst t]
theorem two_vals:∀ {a:List (Int×Value)} {b:List (Int×V)},Two a b→Vals (b.map (·.2)) (a.map (·.2))
 | _,_,.nil=>.nil
 | _,_,.cons r t=>.cons r (two_vals t)
end L2

namespace Mir
open PySem L2 Ch
noncomputable def behM (M:Nat→Nat) (p q e:Nat):Nat :=
 if p = q then (if e = p∨e = M p then e else M e)
 else if e = p then q else if e = q then p
 else if e = M p then (if M q≠q then M q else e)
 else if e = M q then (if M p≠p then M p else e) else M e
noncomputable def beh (ms:List Nat) (p q:Nat):List Nat:=(List.range ms.length).map (behM (at0 ms) p q)
theorem beh_len (ms:List Nat) (p q:Nat):(beh ms p q).length = ms.length:=by unfold beh;rw [List.length_map,List.length_range]
theorem beh_at {ms:List Nat} {p q e:Nat} (h:e < ms.length):at0 (beh ms p q) e = behM (at0 ms) p q e:=by
 unfold beh at0
 simp [List.getD,List.getElem?_map,List.getElem?_range h]
theorem ext_at {a b:List Nat} (h:a.length = b.length) (k:∀ e,e < a.length→at0 a e = at0 b e):a = b:=by
 refine List.ext_getElem? fun i=>?_
 by_cases hi:i < a.length
 ·rw [at0_get hi,at0_get (h ▸ hi),k i hi]
 ·rw [List.getElem?_eq_none (by omega),List.getElem?_eq_none (by omega)]
theorem at0_set' (ms:List Nat) (i j v:Nat):at0 (ms.set i v) j = if j = i∧i < ms.length then v else at0 ms j:=by
 by_cases h:i < ms.length
 ·rw [at0_set h];simp [h]
 ·rw [if_neg (by omega),List.set_eq_of_length_le (by omega)]
noncomputable def Fits (n:Nat) (ms:List Nat) (p q:Int):Prop:=0≤p∧p≤q∧q < 2 * n∧((at0 ms p.toNat:Nat):Int)≠q
noncomputable instance {n:Nat} {ms:List Nat} {p q:Int}:Decidable (Fits n ms p q):=by unfold Fits;infer_instance
theorem Fits.nat {n:Nat} {ms:List Nat} {p q:Int} (h:Fits n ms p q):∃ x y:Nat,p = x∧q = y∧x≤y∧y < 2 * n∧at0 ms x≠y:=by
 obtain ⟨h0,h1,h2,h3⟩:=h
 exact ⟨p.toNat,q.toNat,by omega,by omega,by omega,by omega,by omega⟩
theorem fits_nat {n:Nat} {ms:List Nat} {x y:Nat} (h1:x≤y) (h2:y < 2 * n) (h3:at0 ms x≠y):Fits n ms x y:=by
 refine ⟨by omega,by omega,by omega,?_⟩
 rw [Int.toNat_natCast]
 omega
theorem beh_work {n:Nat} {ms:List Nat} (W:WorkL n ms) {p q:Nat} (hp:p < 2 * n) (hq:q < 2 * n) (hf:at0 ms p≠q):WorkL n (beh ms p q):=by
 have hl:=W.len
 have ip:=W.wk.inv p hp
 have iq:=W.wk.inv q hq
 have lp:=W.wk.lt p hp
 have lq:=W.wk.lt q hq
 refine ⟨W.small,by rw [beh_len];exact hl,fun x hx=>?_,fun x hx=>?_⟩
 ·rw [beh_at (by omega)]
  have lx:=W.wk.lt x hx
  unfold behM
  grind
 ·have lx:=W.wk.lt x hx
  have ix:=W.wk.inv x hx
  have b:behM (at0 ms) p q x < ms.length:=by unfold behM;grind
  rw [beh_at (e:=x) (by omega),beh_at b]
  unfold behM
  grind
noncomputable def frd (ms:List Nat) (p q:Nat):List Nat:=([p,q].filter fun e=>!decide (at0 ms e = e)).map (at0 ms)
noncomputable def progBeh (ms:List Nat) (p q:Nat):List Nat :=
 let fr:=frd ms p q
 clasp (if 0 < fr.length then clasp ms (fr.getD 0 0) (fr.getD (fr.length - 1) 0) else ms) p q
theorem clasp_len (ms:List Nat) (p q:Nat):(clasp ms p q).length = ms.length:=by unfold clasp;simp only [List.length_set]
theorem frd_len (ms:List Nat) (p q:Nat):(frd ms p q).length≤2:=by
 unfold frd
 rw [List.length_map]
 exact List.length_filter_le _ _
theorem frd_cases (ms:List Nat) (p q:Nat):frd ms p q = if at0 ms p = p then (if at0 ms q = q then [] else [at0 ms q]) else (if at0 ms q = q then [at0 ms p] else [at0 ms p,at0 ms q]):=by
 unfold frd
 by_cases a:at0 ms p = p <;> by_cases b:at0 ms q = q <;> simp [a,b]
theorem progBeh_eq {n:Nat} {ms:List Nat} (W:WorkL n ms) {p q:Nat} (hp:p < 2 * n) (hq:q < 2 * n) (hf:at0 ms p≠q):progBeh ms p q = beh ms p q:=by
 have hl:=W.len
 have ip:=W.wk.inv p hp
 have iq:=W.wk.inv q hq
 have lp:=W.wk.lt p hp
 have lq:=W.wk.lt q hq
 have ln:(progBeh ms p q).length = ms.length:=by unfold progBeh;simp only;rw [clasp_len];split <;> first | rw [clasp_len] | rfl
 refine ext_at (by rw [ln,beh_len]) fun e he=>?_
 rw [ln] at he
 rw [beh_at he]
 unfold progBeh behM
 simp only
 rw [frd_cases]
 by_cases a:at0 ms p = p <;> by_cases b:at0 ms q = q
 ·simp [a,b]
  unfold clasp
  simp only [at0_set',List.length_set]
  grind
 ·simp [a,b]
  unfold clasp
  simp only [at0_set',List.length_set]
  grind
 ·simp [a,b]
  unfold clasp
  simp only [at0_set',List.length_set]
  grind
 ·simp [a,b]
  unfold clasp
  simp only [at0_set',List.length_set]
  grind
end Mir
namespace Mir
open PySem L2 Ch
section
variable (K:PySem.W.Frag)
noncomputable def spFits:Sp:=fun vs H Q _=>∃ (a d:Addr) (n:Nat) (ms:List Nat) (p q:Int),vs = [.ref a,.ref d]∧SqT K H a (nV ms)∧WorkL n ms∧SqT K H d [.int p,.int q]∧Q (.bl (decide (Fits n ms p q))) H
noncomputable def spMisfit (C:Addr):Sp:=fun vs H Q E=>∃ (a d:Addr) (n:Nat) (ms:List Nat) (p q:Int),vs = [.ref a,.ref d]∧SqT K H a (nV ms)∧WorkL n ms∧H d = some (.tup [.int p,.int q])∧Sm p∧Sm q∧(Fits n ms p q→Q .non H)∧(¬ Fits n ms p q→E (.ref C) none H)
noncomputable def spFreedE:Sp:=fun vs H Q _=>∃ (a d:Addr) (n:Nat) (ms:List Nat) (p q:Nat),vs = [.ref a,.ref d]∧SqT K H a (nV ms)∧WorkL n ms∧SqT K H d [.int p,.int q]∧p < 2 * n∧q < 2 * n ∧
 ∀ (l:Addr) (H':Hp),H l = none→Same H H'→H' l = some (.lst (nV (frd ms p q)))→Q (.ref l) H'
noncomputable def spClaspE:Sp:=fun vs H Q _=>∃ (l:Addr) (ms:List Nat) (p q:Nat),vs = [.ref l,.int p,.int q]∧H l = some (.lst (nV ms))∧p < ms.length∧q < ms.length ∧
 ∀ H':Hp,H' l = some (.lst (nV (clasp ms p q)))→(∀ b,b≠l→H' b = H b)→Q .non H'
noncomputable def spRecl (C:Addr):Sp:=fun vs H Q E=>∃ (a d:Addr) (n:Nat) (ms:List Nat) (p q:Int),vs = [.ref a,.ref d]∧SqT K H a (nV ms)∧WorkL n ms∧H d = some (.tup [.int p,.int q])∧Sm p∧Sm q ∧
 (Fits n ms p q→∀ (l:Addr) (H':Hp),H l = none→Same H H'→H' l = some (.tup (nV (beh ms p.toNat q.toNat)))→Q (.ref l) H')∧(¬ Fits n ms p q→E (.ref C) none H)
end
end Mir

namespace Mir
open PySem L2 Ch
noncomputable def Leads (n:Nat) (ms os:List Nat) (p q:Nat):Prop:=p≤q∧q < 2 * n∧at0 ms p≠q∧beh ms p q = os
noncomputable def IsLeast (n:Nat) (ms os:List Nat) (p q:Nat):Prop:=Leads n ms os p q∧∀ p' q',Leads n ms os p' q'→p < p'∨(p = p'∧q≤q')
section
variable {n:Nat} {ms os:List Nat}
theorem leads_gain (W:WorkL n ms) {p q:Nat} (h:Leads n ms os p q) (c:p≠q):p < at0 os p∧at0 os p = q∧at0 ms p≠at0 os p:=by
 obtain ⟨h1,h2,h3,rfl⟩:=h
 have hl:=W.len
 rw [beh_at (by omega)]
 unfold behM
 grind
theorem leads_open (W:WorkL n ms) {p:Nat} (h:Leads n ms os p p):∀ e,e < 2 * n→¬ (e < at0 os e∧at0 ms e≠at0 os e):=fun e he=>by
 obtain ⟨h1,h2,h3,rfl⟩:=h
 have hl:=W.len
 rw [beh_at (by omega)]
 unfold behM
 grind
end
end Mir
namespace Mir
open PySem L2 Ch
section
variable (K:PySem.W.Frag)
noncomputable def spUnlike (CU:Addr):Sp:=fun vs H Q E=>∃ (a b:Addr) (n m:Nat) (ms os:List Nat),vs = [.ref a,.ref b]∧SqT K H a (nV ms)∧WorkL n ms∧SqT K H b (nV os)∧os.length = 2 * m∧(n = m→Q .non H)∧(n≠m→E (.ref CU) none H)
end
end Mir
namespace Mir
open PySem L2 Ch
theorem at0_app (a b:List Nat) (e:Nat):at0 (a ++ b) e = if e < a.length then at0 a e else at0 b (e - a.length):=by
 unfold at0 List.getD
 rw [List.getElem?_append]
 split <;> rfl
theorem wider_work {n:Nat} {ms:List Nat} (W:WorkL n ms) (h:n + 1≤40):WorkL (n + 1) (ms ++ [2 * n,2 * n + 1]):=by
 have hl:=W.len
 have key:∀ e,e < 2 * (n + 1)→at0 (ms ++ [2 * n,2 * n + 1]) e = if e < 2 * n then at0 ms e else e:=fun e he=>by
  rw [at0_app,hl]
  split
  ·rfl
  ·by_cases c:e = 2 * n
   ·subst c;rw [Nat.sub_self];rfl
   ·have c2:e = 2 * n + 1:=by omega
    subst c2
    rw [show 2 * n + 1 - 2 * n = 1 by omega];rfl
 refine ⟨h,by rw [List.length_append,hl];show 2 * n + 2 = 2 * (n + 1);omega,fun x hx=>?_,fun x hx=>?_⟩
 ·rw [key x hx]
  split
  ·have:=W.wk.lt x (by assumption);omega
  ·exact hx
 ·rw [key x hx]
  split
  ·rename_i c
   have z:=W.wk.lt x c
   rw [key _ (by omega),if_pos z,W.wk.inv x c]
  ·rename_i c
   rw [key _ hx,if_neg c]
end Mir

namespace Mir
open PySem L2
theorem two_of {n:Nat} {ms os:List Nat} (W:WorkL n ms) (WO:WorkL n os):Th.Two (2 * n) (at0 ms) (at0 os):=⟨W.wk.lt,WO.wk.lt,W.wk.inv,WO.wk.inv⟩
theorem loose_ls (n:Nat) (M:Nat→Nat):Ch.looseL n M = Th.lsL (2 * n) M:=rfl
noncomputable def ks:Th.Kd→Str
 | .ring=>"ring"
 | .odd=>"odd"
 | .bare=>"bare"
 | .tied=>"tied"
noncomputable abbrev Ent:=Th.Kd×Addr×List Nat
noncomputable def tf (x:Ent):List V:=[.str (ks x.1),.ref x.2.1]
noncomputable def en (x:Ent):Th.Kd×List Nat:=(x.1,x.2.2)
noncomputable def ThT (H:Hp) (l:Addr) (ths:List (Th.Kd×List Nat)):Prop:=∃ xs:List Ent,TsT tf H l xs∧(∀ x∈xs,H x.2.1 = some (.tup (nV x.2.2)))∧xs.map en = ths
section
variable {H H':Hp} {l:Addr} {ths:List (Th.Kd×List Nat)}
theorem ThT.same (h:ThT H l ths) (s:Same H H'):ThT H' l ths:=by
 obtain ⟨xs,h1,h2,h3⟩:=h
 exact ⟨xs,h1.same s,fun x hx=>s _ _ (h2 x hx),h3⟩
theorem ThT.nil (h:H l = some (.lst [])):ThT H l []:=⟨[],TsT.nil h,fun x hx=>absurd hx List.not_mem_nil,rfl⟩
theorem ThT.len (h:ThT H l ths):∃ vs,H l = some (.lst vs)∧vs.length = ths.length:=by
 obtain ⟨xs,h1,h2,rfl⟩:=h
 obtain ⟨vs,e1,e2⟩:=h1.len
 exact ⟨vs,e1,by rw [e2,List.length_map]⟩
theorem ThT.snoc {t e:Addr} {k:Th.Kd} {L:List Nat} (h:ThT H l ths) (ht:H t = some (.tup [.str (ks k),.ref e])) (he:H e = some (.tup (nV L))) :
  ∃ vs,H l = some (.lst vs)∧vs.length = ths.length∧ThT (upd H l (.lst (vs ++ [.ref t]))) l (ths ++ [(k,L)]):=by
 obtain ⟨xs,h1,h2,rfl⟩:=h
 obtain ⟨vs,e1,e2,e3⟩:=h1.snoc (t:=t) (x:=(k,e,L)) ht
 refine ⟨vs,e1,by rw [e2,List.length_map],xs ++ [(k,e,L)],e3,fun x hx=>?_,by rw [List.map_append];rfl⟩
 have key:H x.2.1 = some (.tup (nV x.2.2)):=by
  rcases List.mem_append.mp hx with z | z
  ·exact h2 x z
  ·rw [List.mem_singleton.mp z];exact he
 rw [upd_ne (fun z=>by rw [z,e1] at key;cases key)]
 exact key
end
theorem ThT.keep {H H':Hp} {l d:Addr} {ths:List (Th.Kd×List Nat)} {kv:List (Key×V)} (h:ThT H l ths) (hd:H d = some (.dK kv)) (s:∀ c o,c≠d→H c = some o→H' c = some o):ThT H' l ths:=by
 obtain ⟨xs,⟨ts,h1,h2,h3⟩,h4,h5⟩:=h
 refine ⟨xs,⟨ts,s _ _ (fun z=>by rw [z,hd] at h1;cases h1) h1,h2,fun i t x e1 e2=>?_⟩,fun x hx=>?_,h5⟩
 ·have key:=h3 i t x e1 e2
  exact s _ _ (fun z=>by rw [z,hd] at key;cases key) key
 ·have key:=h4 x hx
  exact s _ _ (fun z=>by rw [z,hd] at key;cases key) key
theorem refs_ex:∀ qs:List V,(∀ i,i < qs.length→∃ t,qs[i]? = some (.ref t))→∃ vs:List Addr,qs = vs.map V.ref∧vs.length = qs.length
 | [],_=>⟨[],rfl,rfl⟩
 | q :: r,h=>by
  obtain ⟨t,e⟩:=h 0 (by simp)
  obtain ⟨vs,h1,h2⟩:=refs_ex r fun i hi=>h (i + 1) (by simpa using hi)
  obtain rfl:q = .ref t:=Option.some.inj e
  exact ⟨t :: vs,by rw [List.map_cons,← h1],by rw [List.length_cons,List.length_cons,h2]⟩
inductive Fa2 {α β:Type} (R:α→β→Prop):List α→List β→Prop
 | nil:Fa2 R [] []
 | cons {a:α} {b:β} {l:List α} {m:List β}:R a b→Fa2 R l m→Fa2 R (a :: l) (b :: m)
theorem Fa2.perm {α β:Type} {R:α→β→Prop} {a b:List α} (h:a.Perm b):∀ {c:List β},Fa2 R b c→∃ d,d.Perm c∧Fa2 R a d:=by
 induction h with
 | nil=>intro c t;exact ⟨c,List.Perm.refl _,t⟩
 | cons x _ ih =>
  intro c t
  cases t with
  | cons r t =>
   obtain ⟨d,hd,td⟩:=ih t
   exact ⟨_,hd.cons _,.cons r td⟩
 | swap x y l =>
  intro c t
  cases t with
  | cons r t =>
   cases t with
   | cons r2 t=>exact ⟨_,List.Perm.swap _ _ _,.cons r2 (.cons r t)⟩
 | trans _ _ ih1 ih2 =>
  intro c t
  obtain ⟨d,hd,td⟩:=ih2 t
  obtain ⟨e,he,te⟩:=ih1 td
  exact ⟨e,he.trans hd,te⟩
theorem Fa2.of {α β:Type} {R:α→β→Prop}:∀ {l:List α} {m:List β},l.length = m.length→(∀ (i:Nat) (a:α) (b:β),l[i]? = some a→m[i]? = some b→R a b)→Fa2 R l m
 | [],[],_,_=>.nil
 | [],_ :: _,h,_=>by cases h
 | _ :: _,[],h,_=>by cases h
 | a :: l,b :: m,h,k=>.cons (k 0 a b rfl rfl) (Fa2.of (by simpa using h) fun i x y e1 e2=>k (i + 1) x y e1 e2)
theorem Fa2.len {α β:Type} {R:α→β→Prop}:∀ {l:List α} {m:List β},Fa2 R l m→l.length = m.length
 | _,_,.nil=>rfl
 | _,_,.cons _ t=>by rw [List.length_cons,List.length_cons,t.len]
theorem Fa2.get {α β:Type} {R:α→β→Prop}:∀ {l:List α} {m:List β},Fa2 R l m→∀ (i:Nat) (a:α) (b:β),l[i]? = some a→m[i]? = some b→R a b
 | _,_,.nil,i,a,b,e,_=>by simp at e
 | _,_,.cons r t,0,a,b,e1,e2=>by cases e1;cases e2;exact r
 | _,_,.cons r t,i + 1,a,b,e1,e2=>t.get i a b e1 e2
variable (K:PySem.W.Frag)
noncomputable def spWalkT:Sp:=fun vs H Q _=>∃ (a b:Addr) (n:Nat) (ms os:List Nat) (s:Nat),vs = [.int s,.ref a,.ref b]∧SqT K H a (nV ms)∧WorkL n ms∧SqT K H b (nV os)∧WorkL n os∧s < 2 * n∧(at0 os s = s∨Th.Whole (at0 ms) (at0 os) s) ∧
 ∀ (l:Addr) (H':Hp),Same H H'→H' l = some (.tup (nV (Th.thr (at0 ms) (at0 os) s)))→Q (.ref l) H'
noncomputable def spMarkE:Sp:=fun vs H Q _=>∃ (d e:Addr) (kv:List (Key×V)) (L:List Nat),vs = [.ref d,.ref e]∧H d = some (.dK kv)∧H e = some (.tup (nV L))∧kv.length + L.length≤100000 ∧
 ∀ (kv2:List (Key×V)) (H':Hp),H' d = some (.dK kv2)→(∀ b o,b≠d→H b = some o→H' b = some o)→kv2.length≤kv.length + L.length→(∀ j:Nat,(valV kv2 (Sum.inl (j:Int):Key)).isSome = true↔(valV kv (Sum.inl (j:Int):Key)).isSome = true∨j∈L)→Q .non H'
noncomputable def spOpen:Sp:=fun vs H Q _=>∃ (a b:Addr) (n:Nat) (ms os:List Nat),vs = [.ref a,.ref b]∧SqT K H a (nV ms)∧WorkL n ms∧SqT K H b (nV os)∧WorkL n os ∧
 ∀ (l:Addr) (H':Hp),H l = none→Same H H'→ThT H' l (Th.openL (2 * n) (at0 ms) (at0 os))→Q (.ref l) H'
noncomputable def spLeastEnd:Sp:=fun vs H Q _=>∃ (t e:Addr) (k:Th.Kd) (L:List Nat),vs = [.ref t]∧H t = some (.tup [.str (ks k),.ref e])∧H e = some (.tup (nV L))∧0 < L.length∧Q (.int (Th.mn L:Nat)) H
noncomputable def IsThr (n:Nat) (ms os:List Nat) (ths:List (Th.Kd×List Nat)):Prop:=ths.Perm (Th.unL (2 * n) (at0 ms) (at0 os))∧ths.Pairwise fun p q=>Th.mn p.2 < Th.mn q.2
noncomputable def apartN (n:Nat) (ms os:List Nat):Nat:=n - Th.score (at0 ms) (at0 os) (2 * n) / 2
end Mir

namespace Th
open Classical
variable {N:Nat} {a b:Nat→Nat}
noncomputable def cut (a:Nat→Nat) (p x:Nat):Nat:=if x = p∨x = a p then x else a x
theorem cut_two (T:Two N a b) {p:Nat} (hp:p < N):Two N (cut a p) b:=by
 refine ⟨fun x h=>?_,T.gl,fun x h=>?_,T.gg⟩
 ·have:=T.fl x h
  unfold cut
  split <;> assumption
 ·have:=T.ff x h
  have:=T.ff p hp
  unfold cut
  grind
noncomputable def Right (a b:Nat→Nat) (p q:Nat):Prop:=(p≠q∧b p = q)∨(p = q∧b p = p∧b (a p) = a p)
theorem pt_right {p q:Nat} (T:Two N a b) (hp:p < N) (hpq:p≠q) (ap:a p = p) (aq:a q = q) (h:b p = q):pt a b p = some q:=by
 refine (pt_some T hp ap).mpr ⟨hpq.symm,?_,aq⟩
 have:=(Conn.refl (f:=a) (g:=b) p).sg
 rwa [h] at this
theorem pt_self {p:Nat} (T:Two N a b) (hp:p < N) (ap:a p = p) (h:b p = p):pt a b p = none:=(pt_odd T hp ap).mpr ⟨p,Conn.refl _,h⟩
end Th

namespace L2
open PySem PySem.Spec PyProof.Rows
section
variable {X:Cx}
noncomputable def isS (z:Str):Value→Bool
 | .str i _=>i == z
 | _=>false
theorem vals_str:∀ {zs:List Str} {its:List Value},Vals (zs.map V.str) its→∀ z:Str,its.countP (isS z) = zs.countP (· == z)∧∀ y∈its,∃ x t,y = .str x t
 | [],_,.nil,z=>⟨rfl,fun y hy=>absurd hy List.not_mem_nil⟩
 | x :: zs,_,.cons r v,z=>by
  obtain ⟨t,rfl⟩:=r
  obtain ⟨h1,h2⟩:=vals_str v z
  refine ⟨?_,fun y hy=>?_⟩
  ·rw [List.countP_cons,List.countP_cons,h1]
   rfl
  ·rcases List.mem_cons.mp hy with rfl | hy
   ·exact ⟨x,t,rfl⟩
   ·exact h2 y hy
noncomputable def rCount:V→List V→Hp→VK→Prop:=fun x vs H Q=>∃ (l:Addr) (zs:List Str) (z:Str),x = .ref l∧vs = [.str z]∧H l = some (.lst (zs.map V.str))∧Q (.int ((zs.countP (· == z):Nat):Int)) H
theorem mt_count:MtM X "list.count" rCount:=by
 intro pins s σ H x vs v us Q I rx rv h
 obtain ⟨l,zs,z,rfl,rfl,hH,q⟩:=h
 cases rx
 obtain ⟨u,rfl,ru⟩:=rv.one
 obtain ⟨t,rfl⟩:=ru
 obtain ⟨hz,its,k,r,hl,e⟩:=I.lstM hH
 obtain ⟨c1,c2⟩:=vals_str r z
 refine call_meets F.slot_list_count ⟨_,e,rfl⟩ F.entry_list_count (F.args_list_count_2 _ _) (SeqAt.list_countAt l its.toArray k none #[] (.str z t) (isS z)) ⟨e,fun y hy=>?_,?_⟩
 ·obtain ⟨x,t',rfl⟩:=c2 y (by simpa using hy)
  exact SeqAt.EqAt.str_str (A:=X.A.in1) (s:=s) x t' z t
 ·refine ⟨.int ((zs.countP (· == z):Nat):Int),H,I.tok _,⟨s.toks,?_⟩,q⟩
  have e2:its.toArray.toList = its:=by simp
  rw [e2,c1]
end
end L2
namespace Mir
open PySem L2
theorem ks_inj:∀ a b:Th.Kd,ks a = ks b→a = b:=by
 intro a b h
 cases a <;> cases b <;> first | rfl | exact absurd h (by decide)
theorem kinds_count (ths:List (Th.Kd×List Nat)) (k:Th.Kd):(ths.map fun th=>ks th.1).countP (· == ks k) = (ths.filter fun th=>th.1 = k).length:=by
 rw [List.countP_map,List.countP_eq_length_filter]
 congr 1
 refine List.filter_congr fun th _=>?_
 by_cases c:th.1 = k
 ·rw [decide_eq_true c]
  show (ks th.1 == ks k) = true
  rw [c]
  exact beq_self_eq_true _
 ·rw [decide_eq_false c]
  exact beq_eq_false_iff_ne.mpr fun z=>c (ks_inj _ _ z)
theorem IsThr.counts {n:Nat} {ms os:List Nat} {ths:List (Th.Kd×List Nat)} (W:WorkL n ms) (WO:WorkL n os) (h:IsThr n ms os ths) :
  2 * (ths.map fun th=>ks th.1).countP (· == ks .ring) + (ths.map fun th=>ks th.1).countP (· == ks .odd) = Th.score (at0 ms) (at0 os) (2 * n):=by
 rw [kinds_count,kinds_count,(h.1.filter _).length_eq,(h.1.filter _).length_eq,Th.un_ring,Th.un_odd (two_of W WO)]
 rfl
end Mir


namespace L2
theorem iteY {b:Bool} {A B:Prop} (hb:b = true) (h:A):if b = true then A else B:=by rw [if_pos hb];exact h
theorem iteN {b:Bool} {A B:Prop} (hb:b = false) (h:B):if b = true then A else B:=by rw [if_neg (by rw [hb];decide)];exact h
theorem dInt {i j:Int} (h:i = j):decide (V.int i = V.int j) = true:=decide_eq_true (by rw [h])
theorem dIntN {i j:Int} (h:i≠j):decide (V.int i = V.int j) = false:=decide_eq_false (fun z=>h (by injection z))
theorem dNe {i j:Int} (h:i≠j):(!decide (V.int i = V.int j)) = true:=by rw [dIntN h];rfl
theorem dNeN {i j:Int} (h:i = j):(!decide (V.int i = V.int j)) = false:=by rw [dInt h];rfl
end L2
namespace Mir
open PySem L2 Ch
noncomputable def doneL (ms:List Nat) (p q:Nat):List Nat :=
 if p = q then freed ms p else
  let m3:=((freed (freed ms p) q).set p q).set q p
  if at0 ms p≠p∧at0 ms q≠q then (m3.set (at0 ms p) (at0 ms q)).set (at0 ms q) (at0 ms p) else m3
theorem at0_freed (ms:List Nat) (e j:Nat) (h:e < ms.length) (h2:at0 ms e < ms.length):at0 (freed ms e) j = if j = e then e else if j = at0 ms e then at0 ms e else at0 ms j:=by
 unfold freed
 simp only [at0_set',List.length_set]
 grind
theorem doneL_eq {n:Nat} {ms:List Nat} (W:WorkL n ms) {p q:Nat} (hp:p < 2 * n) (hq:q < 2 * n) (hf:at0 ms p≠q):doneL ms p q = beh ms p q:=by
 have hl:=W.len
 have ip:=W.wk.inv p hp
 have iq:=W.wk.inv q hq
 have lp:=W.wk.lt p hp
 have lq:=W.wk.lt q hq
 have ln:(doneL ms p q).length = ms.length:=by
  unfold doneL;simp only;split
  ·rw [freed_len]
  ·split <;> simp only [List.length_set,freed_len]
 refine ext_at (by rw [ln,beh_len]) fun e he=>?_
 rw [ln] at he
 rw [beh_at he]
 unfold doneL behM
 simp only
 have h1:=fun j=>at0_freed ms p j (by omega) (by omega)
 by_cases c1:p = q
 ·rw [if_pos c1,if_pos c1,h1]
  grind
 ·have hq2:at0 (freed ms p) q = if q = p then p else if q = at0 ms p then at0 ms p else at0 ms q:=h1 q
  have h2:=fun j=>at0_freed (freed ms p) q j (by rw [freed_len];omega) (by rw [freed_len,hq2];grind)
  rw [if_neg c1,if_neg c1]
  by_cases c2:at0 ms p≠p∧at0 ms q≠q
  ·rw [if_pos c2]
   simp only [at0_set',List.length_set,freed_len,h1,h2]
   grind
  ·rw [if_neg c2]
   simp only [at0_set',List.length_set,freed_len,h1,h2]
   grind
section
variable (K:PySem.W.Frag)
noncomputable def spLawFreed:Sp:=fun vs H Q _=>∃ (a:Addr) (e:Nat) (ms:List Nat),vs = [.ref a,.int e]∧H a = some (.lst (nV ms))∧e < ms.length∧at0 ms e < ms.length∧Q .non (upd H a (.lst (nV (freed ms e))))
noncomputable def spLawDone:Sp:=fun vs H Q _=>∃ (a:Addr) (n x y:Nat) (ms:List Nat),vs = [.ref a,.int x,.int y]∧H a = some (.lst (nV ms))∧WorkL n ms∧x < 2 * n∧y < 2 * n ∧
 (at0 ms x = y→∀ H':Hp,Same H H'→Q .non H')∧(at0 ms x≠y→∀ (l:Addr) (H':Hp),H l = none→Same H H'→H' l = some (.lst (nV (beh ms x y)))→Q (.ref l) H')
end
end Mir

namespace Th
open Classical
variable {N:Nat} {a b:Nat→Nat}
noncomputable def turn:Kd→Nat
 | .ring=>0
 | .odd=>1
 | .bare=>1
 | .tied=>0
noncomputable def hd (L:List Nat):Nat:=L.headD 0
noncomputable def FinT (a b:Nat→Nat) (L:List Nat):Kd→Prop
 | .ring=>b (lastD L) = hd L∧lastD L≠hd L∧hd L = mn L
 | .odd=>a (hd L) = hd L∧b (lastD L) = lastD L
 | .bare=>a (hd L) = hd L∧a (lastD L) = lastD L∧hd L < lastD L
 | .tied=>b (hd L) = hd L∧b (lastD L) = lastD L∧hd L < lastD L
structure GoodT (N:Nat) (a b:Nat→Nat) (k:Kd) (L:List Nat):Prop where
 ne:0 < L.length
 nd:L.Nodup
 lt:∀ x∈L,x < N
 par:L.length % 2 = 1↔k = .odd
 lk:∀ i x y,L[i]? = some x→L[i + 1]? = some y→(if (turn k + i) % 2 = 0 then a x else b x) = y∧x≠y
 fin:FinT a b L k
theorem thr_steps {f g:Nat→Nat} {s:Nat} (T:Two N f g) (hs:s < N) (h:g s = s∨Whole f g s):hd (thr f g s) = s∧∀ i x y,(thr f g s)[i]? = some x→(thr f g s)[i + 1]? = some y→stp f g i x = y∧x≠y:=by
 obtain ⟨K,E⟩:=ends_ex T hs h
 rw [thr_of T hs E]
 constructor
 ·unfold hd thrL
  rw [List.range_succ_eq_map]
  rfl
 ·intro i x y hx hy
  have l2:i + 1 < K + 1:=by
   have:=List.getElem?_eq_some_iff.mp hy
   obtain ⟨q,_⟩:=this
   rwa [thrL_len] at q
  rw [thrL_get (by omega)] at hx hy
  obtain rfl:=Option.some.inj hx
  obtain rfl:=Option.some.inj hy
  exact ⟨rfl,(E.goes.mv i (by omega)).symm⟩
theorem last_thr {f g:Nat→Nat} {s K:Nat} (T:Two N f g) (hs:s < N) (E:Ends f g s K):lastD (thr f g s) = wlk f g s K:=by
 rw [thr_of T hs E,thrL_snoc]
 unfold lastD
 rw [List.getLastD_concat]
theorem stp_swap (f g:Nat→Nat) (i x:Nat):stp f g i x = if i % 2 = 0 then f x else g x:=rfl
theorem un_good (T:Two N a b) {th:Kd×List Nat} (h:th∈unL N a b):GoodT N a b th.1 th.2:=by
 rcases List.mem_append.mp h with h | h
 ·rcases List.mem_append.mp h with h | h
  ·-- from an end loose in a
   obtain ⟨u,hu,rfl⟩:=List.mem_map.mp h
   obtain ⟨hu,pu⟩:=List.mem_filter.mp hu
   obtain ⟨ul,au⟩:=mem_ls.mp hu
   have pu:pA a b u:=of_decide_eq_true pu
   obtain ⟨l1,l2⟩:=thr_len T.swap ul (.inl au)
   obtain ⟨h0,hst⟩:=thr_steps T.swap ul (.inl au)
   have C:=thr_comp T.swap ul (.inl au)
   have hlt:∀ x∈thr b a u,x < N:=fun x hx=>((C.mem x).mp hx).lt T.swap ul
   obtain ⟨K,E⟩:=ends_ex T.swap ul (.inl au)
   have hl:(thr b a u).length = K + 1:=by rw [thr_of T.swap ul E,thrL_len]
   have hlast:=last_thr T.swap ul E
   have ld:=E.loose T.swap ul au (i:=K) (Nat.le_refl _)
   by_cases o:(thr b a u).length % 2 = 1
   ·have e:eA a b u = (.odd,thr b a u):=by unfold eA;rw [if_pos o]
    rw [e]
    show GoodT N a b .odd (thr b a u)
    refine ⟨l1,C.nd,hlt,⟨fun _=>rfl,fun _=>o⟩,fun i x y hx hy=>?_,?_,?_⟩
    ·have:=hst i x y hx hy
     show (if (1 + i) % 2 = 0 then a x else b x) = y∧x≠y
     rw [stp_swap] at this
     refine ⟨?_,this.2⟩
     rw [← this.1]
     by_cases c:i % 2 = 0
     ·rw [if_neg (by omega),if_pos c]
     ·rw [if_pos (by omega),if_neg c]
    ·show a (hd (thr b a u)) = hd (thr b a u)
     rw [h0];exact au
    ·show b (lastD (thr b a u)) = lastD (thr b a u)
     rw [hlast]
     exact ld.1.mpr ⟨rfl,by omega⟩
   ·have e:eA a b u = (.bare,thr b a u):=by unfold eA;rw [if_neg o]
    rw [e]
    show GoodT N a b .bare (thr b a u)
    have hlt2:u < lastD (thr b a u):=pu.resolve_left o
    refine ⟨l1,C.nd,hlt,⟨fun z=>absurd z o,fun z=>by cases z⟩,fun i x y hx hy=>?_,?_,?_,?_⟩
    ·have:=hst i x y hx hy
     show (if (1 + i) % 2 = 0 then a x else b x) = y∧x≠y
     rw [stp_swap] at this
     refine ⟨?_,this.2⟩
     rw [← this.1]
     by_cases c:i % 2 = 0
     ·rw [if_neg (by omega),if_pos c]
     ·rw [if_pos (by omega),if_neg c]
    ·show a (hd (thr b a u)) = hd (thr b a u)
     rw [h0];exact au
    ·show a (lastD (thr b a u)) = lastD (thr b a u)
     rw [hlast]
     exact ld.2.mpr (.inr ⟨rfl,by omega⟩)
    ·rw [h0];exact hlt2
  ·obtain ⟨u,hu,rfl⟩:=List.mem_map.mp h
   obtain ⟨hu,pu⟩:=List.mem_filter.mp hu
   obtain ⟨ul,au⟩:=mem_ls.mp hu
   obtain ⟨ev,lt2⟩:pB a b u:=of_decide_eq_true pu
   obtain ⟨l1,l2⟩:=thr_len T ul (.inl au)
   obtain ⟨h0,hst⟩:=thr_steps T ul (.inl au)
   have C:=thr_comp T ul (.inl au)
   have hlt:∀ x∈thr a b u,x < N:=fun x hx=>((C.mem x).mp hx).lt T ul
   obtain ⟨_,_,q,_,_⟩:=thr_even T ul au ev
   show GoodT N a b .tied (thr a b u)
   refine ⟨l1,C.nd,hlt,⟨fun z=>by omega,fun z=>by cases z⟩,fun i x y hx hy=>?_,?_,q,?_⟩
   ·have:=hst i x y hx hy
    unfold turn
    rw [Nat.zero_add]
    exact this
   ·show b (hd (thr a b u)) = hd (thr a b u)
    rw [h0];exact au
   ·rw [h0];exact lt2
 ·obtain ⟨m,hm,rfl⟩:=List.mem_map.mp h
  obtain ⟨ml,lm,wm⟩:=mem_RL.mp hm
  obtain ⟨l1,l2⟩:=thr_len T ml (.inr wm)
  obtain ⟨h0,hst⟩:=thr_steps T ml (.inr wm)
  have C:=thr_comp T ml (.inr wm)
  have hlt:∀ x∈thr a b m,x < N:=fun x hx=>((C.mem x).mp hx).lt T ml
  obtain ⟨K,E⟩:=ends_ex T ml (.inr wm)
  have hl:(thr a b m).length = K + 1:=by rw [thr_of T ml E,thrL_len]
  have hlast:=last_thr T ml E
  have gm:=(wm m (Conn.refl m)).2
  obtain ⟨r1,r2,r3⟩:=E.ring T ml gm
  show GoodT N a b .ring (thr a b m)
  refine ⟨l1,C.nd,hlt,⟨fun z=>by omega,fun z=>by cases z⟩,fun i x y hx hy=>?_,?_,?_,?_⟩
  ·have:=hst i x y hx hy
   unfold turn
   rw [Nat.zero_add]
   exact this
  ·rw [hlast,h0,← r3]
   exact T.gg m ml
  ·rw [hlast,h0,← r3]
   exact gm
  ·rw [h0]
   obtain ⟨q1,q2⟩:=mn_comp C
   have:=lm _ q1
   have:=q2 m (Conn.refl m)
   omega
theorem un_flat (T:Two N a b) {ths:List (Kd×List Nat)} (hp:ths.Perm (unL N a b)):(ths.map (·.2)).flatten.Perm (List.range N):=by
 have p1:(ths.map (·.2)).flatten.Perm ((unL N a b).map (·.2)).flatten:=(hp.map _).flatten
 refine p1.trans ?_
 have nd:((unL N a b).map (·.2)).flatten.Nodup:=by
  rw [List.nodup_iff_pairwise_ne,List.pairwise_flatten]
  constructor
  ·intro l hl
   obtain ⟨th,h,rfl⟩:=List.mem_map.mp hl
   obtain ⟨u,hu,C⟩:=un_comp T h
   exact C.nd
  ·rw [List.pairwise_map]
   have kn:=keys_nodup T
   rw [List.nodup_iff_pairwise_ne,List.pairwise_map] at kn
   refine kn.imp_of_mem fun {p q} hp hq hne=>?_
   intro x hx y hy exy
   subst exy
   obtain ⟨u,hu,C⟩:=un_comp T hp
   obtain ⟨v,hv,D⟩:=un_comp T hq
   refine hne ?_
   have c1:=(C.mem x).mp hx
   have c2:=(D.mem x).mp hy
   have uv:Conn a b u v:=c1.trans (c2.symm T hv)
   obtain ⟨m1,m2⟩:=mn_comp C
   obtain ⟨m3,m4⟩:=mn_comp D
   have:=m2 _ (uv.trans m3)
   have:=m4 _ ((uv.symm T hu).trans m1)
   omega
 refine (List.perm_ext_iff_of_nodup nd List.nodup_range).mpr fun x=>?_
 rw [List.mem_flatten,List.mem_range]
 constructor
 ·rintro ⟨l,hl,hx⟩
  obtain ⟨th,h,rfl⟩:=List.mem_map.mp hl
  exact (un_good T h).lt x hx
 ·intro hx
  by_cases w:Whole a b x
  ·obtain ⟨m,m1,m2,m3⟩:=least_ex T hx
   have wm:=w.of T hx m1
   have hm:m∈RL a b N:=mem_RL.mpr ⟨m2,m3,wm⟩
   refine ⟨thr a b m,List.mem_map.mpr ⟨(.ring,thr a b m),List.mem_append.mpr (.inr (List.mem_map.mpr ⟨m,hm,rfl⟩)),rfl⟩,?_⟩
   exact ((thr_comp T m2 (.inr wm)).mem x).mpr (m1.symm T hx)
  ·obtain ⟨th,h1,h2⟩:=(open_seen T hx).mpr w
   exact ⟨th.2,List.mem_map.mpr ⟨th,List.mem_append.mpr (.inl h1),rfl⟩,h2⟩
end Th

namespace Th
open Classical
theorem four_iff {P X Q Y:Option Nat} {p x q y:Nat} (n1:p≠x) (n2:p≠q) (n3:p≠y) (n4:x≠q) (n5:x≠y) (n6:q≠y)
  (p1:P≠some p) (p2:X≠some x) (p3:Q≠some q) (p4:Y≠some y)
  (s1:P = some x↔X = some p) (s2:P = some q↔Q = some p) (s3:P = some y↔Y = some p) (s4:X = some q↔Q = some x) (s5:X = some y↔Y = some x) (s6:Q = some y↔Y = some q)
  {d1 d2 d3 d4:Int} {X1 Y1 Q2 Y2:Option Nat}
  (hX1:X1 = if X = some p then Q else if X = some q then P else X) (hY1:Y1 = if Y = some p then Q else if Y = some q then P else Y)
  (hQ2:Q2 = if Q = some p then X else if Q = some x then P else Q) (hY2:Y2 = if Y = some p then X else if Y = some x then P else Y)
  (h1:d1 = if P = some q then 2 else if P = none∧Q = none then -2 else 0)
  (h2:d2 = if X1 = some y then 2 else if X1 = none∧Y1 = none then -2 else 0)
  (h3:d3 = if P = some x then 2 else if P = none∧X = none then -2 else 0)
  (h4:d4 = if Q2 = some y then 2 else if Q2 = none∧Y2 = none then -2 else 0) :
  d1 + d2 - d3 - d4 = 2↔(P = some q∨X = some y∨(Q = none∧Y = none∧P≠none∧X≠none∧P≠some x)∨(P = none∧X = none∧Q≠none∧Y≠none∧Q≠some y)):=by
 by_cases a1:P = some x
 ·grind
 ·by_cases a2:P = some q
  ·grind
  ·by_cases a3:P = some y
   ·grind
   ·by_cases a4:X = some q
    ·grind
    ·by_cases a5:X = some y
     ·grind
     ·by_cases a6:Q = some y
      ·grind
      ·by_cases b1:P = none <;> by_cases b2:X = none <;> by_cases b3:Q = none <;> by_cases b4:Y = none <;> grind
variable {N:Nat} {a b:Nat→Nat}
noncomputable def c4 (a:Nat→Nat) (p q x:Nat):Nat:=if x = p∨x = a p∨x = q∨x = a q then x else a x
theorem c4_two (T:Two N a b) {p q:Nat} (hp:p < N) (hq:q < N):Two N (c4 a p q) b:=by
 refine ⟨fun x h=>?_,T.gl,fun x h=>?_,T.gg⟩
 ·have:=T.fl x h
  unfold c4
  split <;> assumption
 ·have:=T.ff x h
  have:=T.ff p hp
  have:=T.ff q hq
  unfold c4
  grind
theorem c4_loose (p q:Nat):c4 a p q p = p∧c4 a p q (a p) = a p∧c4 a p q q = q∧c4 a p q (a q) = a q:=by
 refine ⟨if_pos (.inl rfl),if_pos (.inr (.inl rfl)),if_pos (.inr (.inr (.inl rfl))),if_pos (.inr (.inr (.inr rfl)))⟩
theorem deed_open (T:Two N a b) {p:Nat} (hp:p < N) (hf:a p≠p) {a2:Nat→Nat} (h2:∀ x,x < N→a2 x = Mir.behM a p p x) :
  (score a2 b N:Int) - score a b N = 2↔(pt (c4 a p p) b p = none∧pt (c4 a p p) b (a p) = none):=by
 have lp:=T.fl p hp
 have ip:=T.ff p hp
 have ec:c4 a p p = cut a p:=funext fun x=>by unfold c4 cut;grind
 rw [ec]
 have T0:=cut_two T hp
 have c1:cut a p p = p:=by unfold cut;rw [if_pos (.inl rfl)]
 have c2:cut a p (a p) = a p:=by unfold cut;rw [if_pos (.inr rfl)]
 have e1:=link_score T0 hp lp c1 c2 (fun z=>hf z.symm)
 have e2:score (link (cut a p) p (a p)) b N = score a b N:=score_congr T (fun x hx=>by have:=T.ff x hx;unfold link cut;grind) (fun _ _=>rfl)
 have e3:score a2 b N = score (cut a p) b N:=score_congr T0 (fun x hx=>by rw [h2 x hx];unfold Mir.behM cut;grind) (fun _ _=>rfl)
 rw [e2] at e1
 rw [e3]
 have ed:dl (cut a p) b p (a p) = -2↔(pt (cut a p) b p = none∧pt (cut a p) b (a p) = none):=by
  unfold dl
  by_cases c:pt (cut a p) b p = some (a p)
  ·rw [if_pos c,c]
   constructor
   ·intro z;cases z
   ·rintro ⟨z,_⟩;cases z
  ·rw [if_neg c]
   by_cases d:pt (cut a p) b p = none∧pt (cut a p) b (a p) = none
   ·rw [if_pos d];exact ⟨fun _=>d,fun _=>rfl⟩
   ·rw [if_neg d]
    exact ⟨fun z=>absurd z (by decide),fun z=>absurd z d⟩
 rw [← ed]
 omega
theorem deed_two (T:Two N a b) {p q:Nat} (hp:p < N) (hq:q < N) (hpq:p≠q) (hf:a p≠q) {a2:Nat→Nat} (h2:∀ x,x < N→a2 x = Mir.behM a p q x) :
  (score a2 b N:Int) - score a b N = 2↔(pt (c4 a p q) b p = some q∨(a p≠p∧a q≠q∧pt (c4 a p q) b (a p) = some (a q)) ∨
   (a q≠q∧pt (c4 a p q) b q = none∧pt (c4 a p q) b (a q) = none∧pt (c4 a p q) b p≠none∧pt (c4 a p q) b (a p)≠none∧(a p≠p→pt (c4 a p q) b p≠some (a p))) ∨
   (a p≠p∧pt (c4 a p q) b p = none∧pt (c4 a p q) b (a p) = none∧pt (c4 a p q) b q≠none∧pt (c4 a p q) b (a q)≠none∧(a q≠q→pt (c4 a p q) b q≠some (a q)))):=by
 have ip:=T.ff p hp
 have iq:=T.ff q hq
 have lp:=T.fl p hp
 have lq:=T.fl q hq
 by_cases ap:a p = p
 ·by_cases aq:a q = q
  ·have ec:c4 a p q = a:=funext fun x=>by unfold c4;grind
   rw [ec]
   have e1:=link_score T hp hq ap aq hpq
   have T1:=link_two T hp hq ap aq
   have e3:score a2 b N = score (link a p q) b N:=score_congr T1 (fun x hx=>by rw [h2 x hx];unfold Mir.behM link;grind) (fun _ _=>rfl)
   rw [e3,e1]
   unfold dl
   grind
  ·have ec:c4 a p q = cut a q:=funext fun x=>by unfold c4 cut;grind
   rw [ec]
   have T0:=cut_two T hq
   have c1:cut a q q = q:=by unfold cut;rw [if_pos (.inl rfl)]
   have c2:cut a q (a q) = a q:=by unfold cut;rw [if_pos (.inr rfl)]
   have npy:p≠a q:=fun z=>hf (by rw [z];exact iq)
   have c3:cut a q p = p:=by unfold cut;rw [if_neg (by rintro (z | z);exact hpq z;exact npy z)];exact ap
   have e1:=link_score T0 hq lq c1 c2 (fun z=>aq z.symm)
   have e2:score (link (cut a q) q (a q)) b N = score a b N:=score_congr T (fun x hx=>by have:=T.ff x hx;unfold link cut;grind) (fun _ _=>rfl)
   have e4:=link_score T0 hp hq c3 c1 hpq
   have T1:=link_two T0 hp hq c3 c1
   have e3:score a2 b N = score (link (cut a q) p q) b N:=score_congr T1 (fun x hx=>by rw [h2 x hx];have:=T.ff x hx;unfold Mir.behM link cut;grind) (fun _ _=>rfl)
   have sy:pt (cut a q) b p = some q↔pt (cut a q) b q = some p:=⟨fun h=>(pt_sym T0 hp c3 h).2.2.2,fun h=>(pt_sym T0 hq c1 h).2.2.2⟩
   rw [e2] at e1
   rw [e3,e4,e1]
   unfold dl
   grind
 ·by_cases aq:a q = q
  ·have ec:c4 a p q = cut a p:=funext fun x=>by unfold c4 cut;grind
   rw [ec]
   have T0:=cut_two T hp
   have c1:cut a p p = p:=by unfold cut;rw [if_pos (.inl rfl)]
   have c2:cut a p (a p) = a p:=by unfold cut;rw [if_pos (.inr rfl)]
   have c3:cut a p q = q:=by unfold cut;rw [if_neg (by rintro (z | z);exact hpq z.symm;exact hf z.symm)];exact aq
   have e1:=link_score T0 hp lp c1 c2 (fun z=>ap z.symm)
   have e2:score (link (cut a p) p (a p)) b N = score a b N:=score_congr T (fun x hx=>by have:=T.ff x hx;unfold link cut;grind) (fun _ _=>rfl)
   have e4:=link_score T0 hp hq c1 c3 hpq
   have T1:=link_two T0 hp hq c1 c3
   have e3:score a2 b N = score (link (cut a p) p q) b N:=score_congr T1 (fun x hx=>by rw [h2 x hx];have:=T.ff x hx;unfold Mir.behM link cut;grind) (fun _ _=>rfl)
   rw [e2] at e1
   rw [e3,e4,e1]
   unfold dl
   grind
  ·have npy:p≠a q:=fun z=>hf (by rw [z];exact iq)
   have nxy:a p≠a q:=fun z=>hpq (by rw [← ip,z,iq])
   have T0:=c4_two T hp hq
   obtain ⟨c1,c2,c3,c4'⟩:=c4_loose (a:=a) p q
   generalize ea:c4 a p q = a0 at T0 c1 c2 c3 c4'
   have v0:∀ x,a0 x = if x = p∨x = a p∨x = q∨x = a q then x else a x:=fun x=>by rw [← ea];rfl
   have lk:∀ {u v w:Nat},a0 w = w→w≠u→w≠v→link a0 u v w = w:=fun {u v w} h1 h2 h3=>by unfold link;rw [if_neg h2,if_neg h3];exact h1
   have e1:=link_score T0 hp lp c1 c2 (fun z=>ap z.symm)
   have T1:=link_two T0 hp lp c1 c2
   have d3:=lk c3 (u:=p) (v:=a p) (fun z=>hpq z.symm) hf.symm
   have d4:=lk c4' (u:=p) (v:=a p) npy.symm nxy.symm
   have e2:=link_score T1 hq lq d3 d4 (fun z=>aq z.symm)
   have e3:score (link (link a0 p (a p)) q (a q)) b N = score a b N:=score_congr T (fun x hx=>by have:=T.ff x hx;unfold link;rw [v0];grind) (fun _ _=>rfl)
   have f1:=link_score T0 hp hq c1 c3 hpq
   have T2:=link_two T0 hp hq c1 c3
   have g3:=lk c2 (u:=p) (v:=q) ap hf
   have g4:=lk c4' (u:=p) (v:=q) npy.symm aq
   have f2:=link_score T2 lp lq g3 g4 nxy
   have T3:=link_two T2 lp lq g3 g4
   have f3:score a2 b N = score (link (link a0 p q) (a p) (a q)) b N:=score_congr T3 (fun x hx=>by rw [h2 x hx];have:=T.ff x hx;unfold Mir.behM link;rw [v0];grind) (fun _ _=>rfl)
   have sm:∀ {u v:Nat},u < N→v < N→a0 u = u→a0 v = v→(pt a0 b u = some v↔pt a0 b v = some u):=fun hu hv au av=>⟨fun h=>(pt_sym T0 hu au h).2.2.2,fun h=>(pt_sym T0 hv av h).2.2.2⟩
   have ns:∀ {u:Nat},u < N→a0 u = u→pt a0 b u≠some u:=fun hu au h=>(pt_sym T0 hu au h).2.2.1 rfl
   have key:=four_iff (P:=pt a0 b p) (X:=pt a0 b (a p)) (Q:=pt a0 b q) (Y:=pt a0 b (a q)) (p:=p) (x:=a p) (q:=q) (y:=a q) (fun z=>ap z.symm) hpq npy hf nxy (fun z=>aq z.symm)
    (ns hp c1) (ns lp c2) (ns hq c3) (ns lq c4') (sm hp lp c1 c2) (sm hp hq c1 c3) (sm hp lq c1 c4') (sm lp hq c2 c3) (sm lp lq c2 c4') (sm hq lq c3 c4')
    (link_pt T0 hp hq c1 c3 hpq lp c2 ap hf) (link_pt T0 hp hq c1 c3 hpq lq c4' npy.symm aq)
    (link_pt T0 hp lp c1 c2 (fun z=>ap z.symm) hq c3 (fun z=>hpq z.symm) hf.symm) (link_pt T0 hp lp c1 c2 (fun z=>ap z.symm) lq c4' npy.symm nxy.symm)
    (d1:=dl a0 b p q) (d2:=dl (link a0 p q) b (a p) (a q)) (d3:=dl a0 b p (a p)) (d4:=dl (link a0 p (a p)) b q (a q)) rfl rfl rfl rfl
   rw [e3] at e2
   have ed:(score a2 b N:Int) - score a b N = dl a0 b p q + dl (link a0 p q) b (a p) (a q) - dl a0 b p (a p) - dl (link a0 p (a p)) b q (a q):=by rw [f3];omega
   rw [ed,key]
   constructor
   ·rintro (h | h | ⟨h1,h2,h3,h4,h5⟩ | ⟨h1,h2,h3,h4,h5⟩)
    ·exact .inl h
    ·exact .inr (.inl ⟨ap,aq,h⟩)
    ·exact .inr (.inr (.inl ⟨aq,h1,h2,h3,h4,fun _=>h5⟩))
    ·exact .inr (.inr (.inr ⟨ap,h1,h2,h3,h4,fun _=>h5⟩))
   ·rintro (h | ⟨_,_,h⟩ | ⟨_,h1,h2,h3,h4,h5⟩ | ⟨_,h1,h2,h3,h4,h5⟩)
    ·exact .inl h
    ·exact .inr (.inl h)
    ·exact .inr (.inr (.inl ⟨h1,h2,h3,h4,h5 ap⟩))
    ·exact .inr (.inr (.inr ⟨h1,h2,h3,h4,h5 aq⟩))
variable {k:Kd} {L:List Nat}
theorem GoodT.aR (G:GoodT N a b k L) {i x y:Nat} (h1:L[i]? = some x) (h2:L[i + 1]? = some y) (o:(turn k + i) % 2 = 0):a x = y:=by
 have z:=(G.lk i x y h1 h2).1
 rwa [if_pos o] at z
theorem GoodT.bR (G:GoodT N a b k L) {i x y:Nat} (h1:L[i]? = some x) (h2:L[i + 1]? = some y) (o:(turn k + i) % 2 = 1):b x = y:=by
 have z:=(G.lk i x y h1 h2).1
 rwa [if_neg (by omega)] at z
theorem GoodT.one (G:GoodT N a b k L) {i j x:Nat} (h1:L[i]? = some x) (h2:L[j]? = some x):i = j:=by
 obtain ⟨l1,e1⟩:=List.getElem?_eq_some_iff.mp h1
 obtain ⟨l2,e2⟩:=List.getElem?_eq_some_iff.mp h2
 exact (List.getElem_inj G.nd).mp (e1.trans e2.symm)
theorem GoodT.ltx (G:GoodT N a b k L) {i x:Nat} (h:L[i]? = some x):x < N:=G.lt x (List.mem_of_getElem? h)
theorem hd_at {i x:Nat} (h:L[i]? = some x):L[0]? = some (hd L):=by
 cases L with
 | nil=>simp at h
 | cons y r=>rfl
theorem last_at {i x:Nat} (h:L[i]? = some x):L[L.length - 1]? = some (lastD L):=by
 have hl:0 < L.length:=Nat.lt_of_le_of_lt (Nat.zero_le _) (List.getElem?_eq_some_iff.mp h).1
 rw [← last_get hl,List.getLast?_eq_getElem?]
theorem GoodT.mate (G : GoodT N a b k L) (T : Two N a b) {i x : Nat} (h : L[i]? = some x) :
    ((turn k + i) % 2 = 0 ∧ (L[i + 1]? = some (a x) ∨ (i + 1 = L.length ∧ a x = x ∧ k = .bare))) ∨ ((turn k + i) % 2 = 1 ∧ ((1 ≤ i ∧ L[i - 1]? = some (a x)) ∨ (i = 0 ∧ a x = x ∧ (k = .bare ∨ k = .odd)))) := by
  have hl := (List.getElem?_eq_some_iff.mp h).1
  by_cases o : (turn k + i) % 2 = 0
  · refine .inl ⟨o, ?_⟩
    by_cases c : i + 1 < L.length
    · obtain ⟨y, hy⟩ : ∃ y, L[i + 1]? = some y := ⟨_, List.getElem?_eq_getElem c⟩
      rw [G.aR h hy o]
      exact .inl hy
    · refine .inr ⟨by omega, ?_⟩
      have e : i = L.length - 1 := by omega
      have hx := last_at h
      rw [← e, h] at hx
      have hx := Option.some.inj hx
      have par := G.par
      have F := G.fin
      cases k with
      | ring => exact absurd o (by show ¬ (0 + i) % 2 = 0; have : ¬ L.length % 2 = 1 := fun z => by cases par.mp z
                                   omega)
      | odd => exact absurd o (by show ¬ (1 + i) % 2 = 0; have := par.mpr rfl; omega)
      | bare => exact ⟨by rw [hx]; exact F.2.1, rfl⟩
      | tied => exact absurd o (by show ¬ (0 + i) % 2 = 0; have : ¬ L.length % 2 = 1 := fun z => by cases par.mp z
                                   omega)
  · have o : (turn k + i) % 2 = 1 := by omega
    refine .inr ⟨o, ?_⟩
    by_cases c : i = 0
    · refine .inr ⟨c, ?_⟩
      subst c
      have hx := hd_at h
      rw [h] at hx
      have hx := Option.some.inj hx
      have F := G.fin
      cases k with
      | ring => exact absurd o (by decide)
      | odd => exact ⟨by rw [hx]; exact F.1, .inr rfl⟩
      | bare => exact ⟨by rw [hx]; exact F.1, .inl rfl⟩
      | tied => exact absurd o (by decide)
    · obtain ⟨y, hy⟩ : ∃ y, L[i - 1]? = some y := ⟨_, List.getElem?_eq_getElem (by omega)⟩
      have h' : L[i - 1 + 1]? = some x := by rw [show i - 1 + 1 = i by omega]; exact h
      have e := G.aR hy h' (by omega)
      refine .inl ⟨by omega, ?_⟩
      rw [← e, T.ff y (G.ltx hy)]
      exact hy
theorem GoodT.gone (G:GoodT N a b k L) (T:Two N a b) {i m p x:Nat} (hp:L[i]? = some p) (hx:L[m]? = some x) (o:(turn k + m) % 2 = 0) (h:x = p∨x = a p):((turn k + i) % 2 = 0∧m = i)∨((turn k + i) % 2 = 1∧m + 1 = i):=by
 rcases h with rfl | rfl
 ·have:=G.one hx hp
  subst this
  exact .inl ⟨o,rfl⟩
 ·rcases G.mate T hp with ⟨o1,h1 | ⟨_,h1,_⟩⟩ | ⟨o1,⟨h0,h1⟩ | ⟨_,h1,_⟩⟩
  ·have:=G.one hx h1
   omega
  ·rw [h1] at hx
   exact .inl ⟨o1,G.one hx hp⟩
  ·have:=G.one hx h1
   exact .inr ⟨o1,by omega⟩
  ·rw [h1] at hx
   have:=G.one hx hp
   omega
theorem GoodT.seg (G:GoodT N a b k L) {a0:Nat→Nat} {i x:Nat} (hx:L[i]? = some x):∀ (d y:Nat),L[i + d]? = some y→(∀ m u,i≤m→m < i + d→L[m]? = some u→(turn k + m) % 2 = 0→a0 u = a u)→Conn a0 b x y
 | 0,y,hy,_=>by
  rw [Nat.add_zero,hx] at hy
  rw [Option.some.inj hy]
  exact Conn.refl _
 | d + 1,y,hy,hc=>by
  obtain ⟨l1,_⟩:=List.getElem?_eq_some_iff.mp hy
  obtain ⟨u,hu⟩:∃ u,L[i + d]? = some u:=⟨_,List.getElem?_eq_getElem (by omega)⟩
  have c:=GoodT.seg G hx d u hu fun m u h1 h2 h3 h4=>hc m u h1 (by omega) h3 h4
  by_cases o:(turn k + (i + d)) % 2 = 0
  ·have e:=G.aR hu hy o
   rw [← e,← hc (i + d) u (by omega) (by omega) hu o]
   exact c.sf
  ·have e:=G.bR hu hy (by omega)
   rw [← e]
   exact c.sg
theorem behM_comm {p q:Nat} (h:p≠q) (x:Nat):Mir.behM a p q x = Mir.behM a q p x:=by
 unfold Mir.behM
 grind
theorem GoodT.kept (G:GoodT N a b k L) (T:Two N a b) {i j m p q u:Nat} (hp:L[i]? = some p) (hq:L[j]? = some q) (hu:L[m]? = some u) (o:(turn k + m) % 2 = 0)
  (n1:¬ (((turn k + i) % 2 = 0∧m = i)∨((turn k + i) % 2 = 1∧m + 1 = i))) (n2:¬ (((turn k + j) % 2 = 0∧m = j)∨((turn k + j) % 2 = 1∧m + 1 = j))):c4 a p q u = a u:=by
 unfold c4
 rw [if_neg]
 rintro (h | h | h | h)
 ·exact n1 (G.gone T hp hu o (.inl h))
 ·exact n1 (G.gone T hp hu o (.inr h))
 ·exact n2 (G.gone T hq hu o (.inl h))
 ·exact n2 (G.gone T hq hu o (.inr h))
theorem same_two (T:Two N a b) (G:GoodT N a b k L) {i j p q:Nat} (hp:L[i]? = some p) (hq:L[j]? = some q) (hij:i < j) (hf:a p≠q) {a2:Nat→Nat} (h2:∀ x,x < N→a2 x = Mir.behM a p q x) :
  (score a2 b N:Int) - score a b N = 2↔(turn k + i) % 2≠(turn k + j) % 2:=by
 have lp:=G.ltx hp
 have lq:=G.ltx hq
 have hpq:p≠q:=fun z=>by rw [z] at hp;have:=G.one hp hq;omega
 have T0:=c4_two T lp lq
 obtain ⟨c1,c2,c3,c4'⟩:=c4_loose (a:=a) p q
 have hjl:=(List.getElem?_eq_some_iff.mp hq).1
 have lap:=T.fl p lp
 have laq:=T.fl q lq
 rw [deed_two T lp lq hpq hf h2]
 have kp:=fun {m u:Nat}=>G.kept T (m:=m) (u:=u) hp hq
 have sgm:∀ {s e x y:Nat},s≤e→L[s]? = some x→L[e]? = some y→(∀ m,s≤m→m < e→(turn k + m) % 2 = 0→¬ (((turn k + i) % 2 = 0∧m = i)∨((turn k + i) % 2 = 1∧m + 1 = i))∧¬ (((turn k + j) % 2 = 0∧m = j)∨((turn k + j) % 2 = 1∧m + 1 = j)))→Conn (c4 a p q) b x y:=fun {s e x y} hse hx hy hm =>
  G.seg hx (e - s) y (by rw [show s + (e - s) = e by omega];exact hy) fun m u h1 h2 h3 h4=>by
   have z:=hm m h1 (by omega) h4
   exact kp h3 h4 z.1 z.2
 have sy:∀ {u v:Nat},u < N→c4 a p q u = u→pt (c4 a p q) b u = some v→pt (c4 a p q) b v = some u:=fun hu au h=>(pt_sym T0 hu au h).2.2.2
 rcases G.mate T hp with ⟨o1,m1⟩ | ⟨o1,m1⟩
 ·-- p's mate is behind it
  have hx:L[i + 1]? = some (a p):=m1.resolve_right fun z=>by omega
  have apn:a p≠p:=fun z=>by rw [z] at hx;have:=G.one hx hp;omega
  rcases G.mate T hq with ⟨o2,m2⟩ | ⟨o2,m2⟩
  ·-- the same
   have ne:a p≠q:=hf
   have pk:pt (c4 a p q) b (a p) = some q:=(pt_some T0 lap c2).mpr ⟨ne.symm,sgm (by omega) hx hq fun m z1 z2 z3=>⟨by omega,by omega⟩,c3⟩
   have qk:=sy lap c2 pk
   constructor
   ·rintro (h | ⟨_,h0,h⟩ | ⟨_,h,_⟩ | ⟨_,_,h,_⟩)
    ·have:=sy lp c1 h
     rw [qk] at this
     exact absurd (Option.some.inj this) apn
    ·rw [pk] at h
     exact absurd (Option.some.inj h).symm h0
    ·rw [qk] at h;cases h
    ·rw [pk] at h;cases h
   ·intro h
    exact absurd (by omega) h
  ·have hj1:1≤j:=by omega
   have hy:L[j - 1]? = some (a q):=(m2.resolve_right fun z=>by omega).2
   have aqn:a q≠q:=fun z=>by rw [z] at hy;have:=G.one hy hq;omega
   have nj:j≠i + 1:=fun z=>by
    rw [z,hx] at hq
    exact hf (Option.some.inj hq)
   have nxy:a q≠a p:=fun z=>by rw [z] at hy;have:=G.one hy hx;omega
   refine ⟨fun _=>by omega,fun _=>.inr (.inl ⟨apn,aqn,(pt_some T0 lap c2).mpr ⟨nxy,sgm (by omega) hx hy fun m z1 z2 z3=>⟨by omega,by omega⟩,c4'⟩⟩)⟩
 ·rcases G.mate T hq with ⟨o2,m2⟩ | ⟨o2,m2⟩
  ·refine ⟨fun _=>by omega,fun _=>.inl ((pt_some T0 lp c1).mpr ⟨hpq.symm,sgm (by omega) hp hq fun m z1 z2 z3=>⟨by omega,by omega⟩,c3⟩)⟩
  ·have hy:L[j - 1]? = some (a q):=(m2.resolve_right fun z=>by omega).2
   have aqn:a q≠q:=fun z=>by rw [z] at hy;have:=G.one hy hq;omega
   have npy:a q≠p:=fun z=>by rw [z] at hy;have:=G.one hy hp;omega
   have pk:pt (c4 a p q) b p = some (a q):=(pt_some T0 lp c1).mpr ⟨npy,sgm (by omega) hp hy fun m z1 z2 z3=>⟨by omega,by omega⟩,c4'⟩
   have qk:=sy lp c1 pk
   constructor
   ·rintro (h | ⟨h0,_,h⟩ | ⟨_,_,h,_⟩ | ⟨_,h,_⟩)
    ·rw [pk] at h
     exact absurd (Option.some.inj h) aqn
    ·have:=sy lap c2 h
     rw [qk] at this
     exact absurd (Option.some.inj this).symm h0
    ·rw [qk] at h;cases h
    ·rw [pk] at h;cases h
   ·intro h
    exact absurd (by omega) h
structure Cut1 (a b a0:Nat→Nat) (k:Kd) (L:List Nat) (i p:Nat):Prop where
 c1:a0 p = p
 c2:a0 (a p) = a p
 lo:∀ x,a x = x→a0 x = x
 kp:∀ m u,L[m]? = some u→(turn k + m) % 2 = 0→¬ (((turn k + i) % 2 = 0∧m = i)∨((turn k + i) % 2 = 1∧m + 1 = i))→a0 u = a u
theorem kind_cut (T:Two N a b) {a0:Nat→Nat} (T0:Two N a0 b) (G:GoodT N a b k L) {i p:Nat} (hp:L[i]? = some p) (C:Cut1 a b a0 k L i p) :
  match k with
  | .tied=>a p≠p∧pt a0 b p = none∧pt a0 b (a p) = none
  | .bare=>pt a0 b p≠none∧pt a0 b (a p)≠none∧(a p≠p→pt a0 b p≠some (a p))
  | .odd=>(a p = p∧pt a0 b p = none)∨(a p≠p∧((pt a0 b p = none∧pt a0 b (a p)≠none)∨(pt a0 b p≠none∧pt a0 b (a p) = none)))
  | .ring=>a p≠p∧pt a0 b p = some (a p):=by
 have lp:=G.ltx hp
 have lap:=T.fl p lp
 have h0:=hd_at hp
 have hl:=last_at hp
 have il:=(List.getElem?_eq_some_iff.mp hp).1
 have l0:=G.ltx h0
 have ll:=G.ltx hl
 have par:=G.par
 have F:=G.fin
 have sg:∀ {s e x y:Nat},s≤e→L[s]? = some x→L[e]? = some y→(∀ m,s≤m→m < e→(turn k + m) % 2 = 0→¬ (((turn k + i) % 2 = 0∧m = i)∨((turn k + i) % 2 = 1∧m + 1 = i)))→Conn a0 b x y:=fun {s e x y} hse hx hy hm =>
  G.seg hx (e - s) y (by rw [show s + (e - s) = e by omega];exact hy) fun m u h1 h2 h3 h4=>C.kp m u h3 h4 (hm m h1 (by omega) h4)
 have to0:∀ {s x:Nat},L[s]? = some x→(∀ m,m < s→(turn k + m) % 2 = 0→¬ (((turn k + i) % 2 = 0∧m = i)∨((turn k + i) % 2 = 1∧m + 1 = i)))→Conn a0 b x (hd L):=fun {s x} hx hm=>(sg (Nat.zero_le s) h0 hx fun m _ z=>hm m z).symm T0 l0
 have toL:∀ {s x:Nat},L[s]? = some x→(∀ m,s≤m→(turn k + m) % 2 = 0→¬ (((turn k + i) % 2 = 0∧m = i)∨((turn k + i) % 2 = 1∧m + 1 = i)))→Conn a0 b x (lastD L):=fun {s x} hx hm=>sg (by have:=(List.getElem?_eq_some_iff.mp hx).1;omega) hx hl fun m z _=>hm m z
 have no:∀ {u z:Nat},u < N→a0 u = u→Conn a0 b u z→b z = z→pt a0 b u = none:=fun hu au c bz=>(pt_odd T0 hu au).mpr ⟨_,c,bz⟩
 have so:∀ {u z:Nat},u < N→a0 u = u→Conn a0 b u z→a0 z = z→z≠u→pt a0 b u = some z:=fun hu au c az ne=>(pt_some T0 hu au).mpr ⟨ne,c,az⟩
 have ns:∀ {u z:Nat},pt a0 b u = some z→pt a0 b u≠none:=fun h e=>by rw [h] at e;cases e
 rcases G.mate T hp with ⟨o,m | ⟨e1,e2,e3⟩⟩ | ⟨o,⟨e1,m⟩ | ⟨e1,e2,e3⟩⟩
 ·-- its mate is behind it
  have ap:a p≠p:=fun z=>by rw [z] at m;have:=G.one m hp;omega
  have cp:Conn a0 b p (hd L):=to0 hp fun m z1 z2=>by omega
  have cx:Conn a0 b (a p) (lastD L):=toL m fun m z1 z2=>by omega
  have nh:k = .odd∨k = .bare→hd L≠p:=fun hk z=>by
   rw [z] at h0
   have e:=G.one h0 hp
   subst e
   rcases hk with rfl | rfl <;> exact absurd o (by decide)
  cases k with
  | tied=>exact ⟨ap,no lp C.c1 cp F.1,no lap C.c2 cx F.2.1⟩
  | odd=>exact .inr ⟨ap,.inr ⟨ns (so lp C.c1 cp (C.lo _ F.1) (nh (.inl rfl))),no lap C.c2 cx F.2⟩⟩
  | bare =>
   have nl:lastD L≠a p:=fun z=>by
    have y:=F.2.1
    rw [z,T.ff p lp] at y
    exact ap y.symm
   have s1:=so lp C.c1 cp (C.lo _ F.1) (nh (.inr rfl))
   refine ⟨ns s1,ns (so lap C.c2 cx (C.lo _ F.2.1) nl),fun _ z=>?_⟩
   rw [s1] at z
   have z:=Option.some.inj z
   have y:=F.1
   rw [z,T.ff p lp] at y
   exact ap y.symm
  | ring =>
   have hb:b (hd L) = lastD L:=by rw [← F.1];exact T.gg _ ll
   have c:Conn a0 b p (lastD L):=by rw [← hb];exact cp.sg
   exact ⟨ap,so lp C.c1 (c.trans (cx.symm T0 lap)) C.c2 ap⟩
 ·-- the last end, loose
  subst e3
  have cp:Conn a0 b p (hd L):=to0 hp fun m z1 z2=>by omega
  have ep:lastD L = p:=by rw [show L.length - 1 = i by omega,hp] at hl;exact (Option.some.inj hl).symm
  have nh:hd L≠p:=fun z=>by have:=F.2.2;omega
  have s1:=so lp C.c1 cp (C.lo _ F.1) nh
  exact ⟨ns s1,by rw [e2];exact ns s1,fun z=>absurd e2 z⟩
 ·have ap:a p≠p:=fun z=>by rw [z] at m;have:=G.one m hp;omega
  have cp:Conn a0 b p (lastD L):=toL hp fun m z1 z2=>by omega
  have cx:Conn a0 b (a p) (hd L):=to0 m fun m z1 z2=>by omega
  cases k with
  | tied=>exact ⟨ap,no lp C.c1 cp F.2.1,no lap C.c2 cx F.1⟩
  | odd =>
   have nh:hd L≠a p:=fun z=>by
    have y:=F.1
    rw [z,T.ff p lp] at y
    exact ap y.symm
   exact .inr ⟨ap,.inl ⟨no lp C.c1 cp F.2,ns (so lap C.c2 cx (C.lo _ F.1) nh)⟩⟩
  | bare =>
   have nh:hd L≠a p:=fun z=>by
    have y:=F.1
    rw [z,T.ff p lp] at y
    exact ap y.symm
   have nl:lastD L≠p:=fun z=>by
    have y:=F.2.1
    rw [z] at y
    exact ap y
   have s1:=so lp C.c1 cp (C.lo _ F.2.1) nl
   refine ⟨ns s1,ns (so lap C.c2 cx (C.lo _ F.1) nh),fun _ z=>?_⟩
   rw [s1] at z
   have z:=Option.some.inj z
   have y:=F.2.1
   rw [z,T.ff p lp] at y
   exact ap y.symm
  | ring =>
   have c:Conn a0 b p (hd L):=by rw [← F.1];exact cp.sg
   exact ⟨ap,so lp C.c1 (c.trans (cx.symm T0 lap)) C.c2 ap⟩
 ·-- the first end, loose
  have cp:Conn a0 b p (lastD L):=toL hp fun m z1 z2=>by omega
  have ep:hd L = p:=by rw [e1] at hp;rw [hp] at h0;exact (Option.some.inj h0).symm
  rcases e3 with rfl | rfl
  ·have nl:lastD L≠p:=fun z=>by have:=F.2.2;omega
   have s1:=so lp C.c1 cp (C.lo _ F.2.1) nl
   exact ⟨ns s1,by rw [e2];exact ns s1,fun z=>absurd e2 z⟩
  ·exact .inl ⟨e2,no lp C.c1 cp F.2⟩
theorem cut_other (T:Two N a b) (G:GoodT N a b k L) {i p q:Nat} (hp:L[i]? = some p) (h:∀ x∈L,x≠q∧x≠a q):Cut1 a b (c4 a p q) k L i p∧Cut1 a b (c4 a q p) k L i p:=by
 have base:∀ m u,L[m]? = some u→(turn k + m) % 2 = 0→¬ (((turn k + i) % 2 = 0∧m = i)∨((turn k + i) % 2 = 1∧m + 1 = i))→u≠p∧u≠a p∧u≠q∧u≠a q:=fun m u hu o n=>by
  have hm:=h u (List.mem_of_getElem? hu)
  exact ⟨fun z=>n (G.gone T hp hu o (.inl z)),fun z=>n (G.gone T hp hu o (.inr z)),hm.1,hm.2⟩
 obtain ⟨d1,d2,d3,d4⟩:=c4_loose (a:=a) p q
 obtain ⟨e1,e2,e3,e4⟩:=c4_loose (a:=a) q p
 refine ⟨⟨d1,d2,fun x hx=>by unfold c4;split;rfl;exact hx,fun m u hu o n=>?_⟩,e3,e4,fun x hx=>by unfold c4;split;rfl;exact hx,fun m u hu o n=>?_⟩
 ·obtain ⟨n1,n2,n3,n4⟩:=base m u hu o n
  unfold c4
  rw [if_neg (by rintro (z | z | z | z);exact n1 z;exact n2 z;exact n3 z;exact n4 z)]
 ·obtain ⟨n1,n2,n3,n4⟩:=base m u hu o n
  unfold c4
  rw [if_neg (by rintro (z | z | z | z);exact n3 z;exact n4 z;exact n1 z;exact n2 z)]
theorem cut_self (T:Two N a b) (G:GoodT N a b k L) {i p:Nat} (hp:L[i]? = some p):Cut1 a b (c4 a p p) k L i p:=by
 obtain ⟨d1,d2,_,_⟩:=c4_loose (a:=a) p p
 refine ⟨d1,d2,fun x hx=>by unfold c4;split;rfl;exact hx,fun m u hu o n=>?_⟩
 unfold c4
 rw [if_neg]
 rintro (z | z | z | z)
 ·exact n (G.gone T hp hu o (.inl z))
 ·exact n (G.gone T hp hu o (.inr z))
 ·exact n (G.gone T hp hu o (.inl z))
 ·exact n (G.gone T hp hu o (.inr z))
theorem open_two (T:Two N a b) (G:GoodT N a b k L) {i p:Nat} (hp:L[i]? = some p) (hf:a p≠p) {a2:Nat→Nat} (h2:∀ x,x < N→a2 x = Mir.behM a p p x):(score a2 b N:Int) - score a b N = 2↔k = .tied:=by
 have lp:=G.ltx hp
 rw [deed_open T lp hf h2]
 have K:=kind_cut T (c4_two T lp lp) G hp (cut_self T G hp)
 cases k with
 | tied=>exact ⟨fun _=>rfl,fun _=>K.2⟩
 | odd =>
  refine ⟨fun h=>?_,fun h=>by cases h⟩
  rcases K with ⟨K,_⟩ | ⟨_,⟨_,K⟩ | ⟨K,_⟩⟩
  ·exact absurd K hf
  ·exact absurd h.2 K
  ·exact absurd h.1 K
 | bare=>exact ⟨fun h=>absurd h.1 K.1,fun h=>by cases h⟩
 | ring=>exact ⟨fun h=>absurd h.1 (by rw [K.2];exact fun z=>nomatch z),fun h=>nomatch h⟩
theorem conn_c4 {p q u v:Nat} (h:Conn (c4 a p q) b u v):Conn a b u v:=h (fun z=>Conn a b u z) (Conn.refl u) fun z hz=>by
 refine ⟨?_,hz.sg⟩
 unfold c4
 split
 ·exact hz
 ·exact hz.sf
theorem cross_two (T:Two N a b) {k2:Kd} {L2:List Nat} (G:GoodT N a b k L) (G2:GoodT N a b k2 L2) {i j p q:Nat} (hp:L[i]? = some p) (hq:L2[j]? = some q) (nc:¬ Conn a b p q) (d1:∀ x∈L,x≠q∧x≠a q) (d2:∀ x∈L2,x≠p∧x≠a p)
  {a2:Nat→Nat} (h2:∀ x,x < N→a2 x = Mir.behM a p q x):(score a2 b N:Int) - score a b N = 2↔((k = .bare∧k2 = .tied)∨(k = .tied∧k2 = .bare)):=by
 have lp:=G.ltx hp
 have lq:=G2.ltx hq
 have hpq:p≠q:=fun z=>nc (by rw [z];exact Conn.refl _)
 have hf:a p≠q:=fun z=>nc (by rw [← z];exact (Conn.refl p).sf)
 have T0:=c4_two T lp lq
 obtain ⟨c1,c2,c3,c4'⟩:=c4_loose (a:=a) p q
 rw [deed_two T lp lq hpq hf h2]
 have n1:pt (c4 a p q) b p≠some q:=fun z=>nc (conn_c4 ((pt_some T0 lp c1).mp z).2.1)
 have n2:pt (c4 a p q) b (a p)≠some (a q):=fun z=>by
  have c:=conn_c4 ((pt_some T0 (T.fl p lp) c2).mp z).2.1
  have:=((Conn.refl (f:=a) (g:=b) p).sf.trans c).sf
  rw [T.ff q lq] at this
  exact nc this
 have K:=kind_cut T T0 G hp (cut_other T G hp d1).1
 have K2:=kind_cut T T0 G2 hq (cut_other T G2 hq d2).2
 cases k <;> cases k2 <;> grind
end Th

namespace Mir
open PySem L2 Ch
noncomputable def otherP (ms:List Nat) (p q:Nat):Nat×Nat:=(min (at0 ms p) (at0 ms q),max (at0 ms p) (at0 ms q))
noncomputable def leastP (ms:List Nat) (p q:Nat):Nat×Nat :=
 if at0 ms p≠p∧at0 ms q≠q then (if (otherP ms p q).1 < p∨((otherP ms p q).1 = p∧(otherP ms p q).2 < q) then otherP ms p q else (p,q)) else (p,q)
section
variable {n:Nat} {ms:List Nat}
theorem other_leads (W:WorkL n ms) {p q:Nat} (h1:p≤q) (h2:q < 2 * n) (h3:at0 ms p≠q) (c:at0 ms p≠p∧at0 ms q≠q):Leads n ms (beh ms p q) (otherP ms p q).1 (otherP ms p q).2:=by
 have lp:=W.wk.lt p (by omega)
 have lq:=W.wk.lt q h2
 have ip:=W.wk.inv p (by omega)
 have iq:=W.wk.inv q h2
 unfold otherP
 refine ⟨by simp only;omega,by simp only;omega,?_,?_⟩
 ·simp only
  by_cases d:at0 ms p≤at0 ms q
  ·rw [Nat.min_eq_left d,Nat.max_eq_right d,ip]
   grind
  ·rw [Nat.min_eq_right (by omega),Nat.max_eq_left (by omega),iq]
   grind
 ·simp only
  refine ext_at (by rw [beh_len,beh_len]) fun e he=>?_
  rw [beh_len] at he
  rw [beh_at he,beh_at he]
  unfold behM
  by_cases d:at0 ms p≤at0 ms q
  ·rw [Nat.min_eq_left d,Nat.max_eq_right d,ip,iq]
   grind
  ·rw [Nat.min_eq_right (by omega),Nat.max_eq_left (by omega),ip,iq]
   grind
theorem leads_one (W:WorkL n ms) {p q x y:Nat} (h1:p≤q) (h2:q < 2 * n) (h3:at0 ms p≠q) (L:Leads n ms (beh ms p q) x y):(x = p∧y = q)∨((at0 ms p≠p∧at0 ms q≠q)∧x = (otherP ms p q).1∧y = (otherP ms p q).2):=by
 have hl:=W.len
 have ip:=W.wk.inv p (by omega)
 have iq:=W.wk.inv q h2
 have vb:∀ e,e < 2 * n→at0 (beh ms p q) e = behM (at0 ms) p q e:=fun e he=>beh_at (by omega)
 have lx:x < 2 * n:=by have:=L.1;have:=L.2.1;omega
 unfold otherP
 simp only
 by_cases c:x = y
 ·subst c
  have hx:=L.2.2.1
  have ix:=W.wk.inv x lx
  have no:=leads_open W L
  have epq:p = q:=Classical.byContradiction fun z=>no p (by omega) (by
   rw [vb p (by omega)]
   unfold behM
   rw [if_neg z,if_pos rfl]
   exact ⟨by omega,h3⟩)
  subst epq
  have vp:at0 (beh ms x x) p = at0 (beh ms p p) p:=by rw [L.2.2.2]
  rw [beh_at (by omega),beh_at (by omega)] at vp
  unfold behM at vp
  have r1:(if p = p∨p = at0 ms p then p else at0 ms p) = p:=if_pos (.inl rfl)
  rw [if_pos rfl,if_pos rfl,r1] at vp
  by_cases e1:p = x
  ·exact .inl ⟨e1.symm,e1.symm⟩
  ·have e2:p = at0 ms x:=Classical.byContradiction fun z=>by
    rw [if_neg (by rintro (y | y);exact e1 y;exact z y)] at vp
    exact h3 vp
   have e3:at0 ms p = x:=by rw [e2];exact ix
   exact .inr ⟨⟨h3,h3⟩,by omega,by omega⟩
 ·obtain ⟨g1,g2,g3⟩:=leads_gain W L c
  rw [vb x lx] at g1 g2 g3
  unfold behM at g1 g2 g3
  by_cases epq:p = q
  ·exfalso
   rw [if_pos epq] at g2 g3 g1
   by_cases e1:x = p∨x = at0 ms p
   ·rw [if_pos e1] at g2;exact c g2
   ·rw [if_neg e1] at g3;exact g3 rfl
  ·rw [if_neg epq] at g1 g2 g3
   by_cases e1:x = p
   ·rw [if_pos e1] at g2
    exact .inl ⟨e1,g2.symm⟩
   ·rw [if_neg e1] at g1 g2 g3
    by_cases e2:x = q
    ·rw [if_pos e2] at g1
     omega
    ·rw [if_neg e2] at g1 g2 g3
     by_cases e3:x = at0 ms p
     ·rw [if_pos e3] at g1 g2 g3
      by_cases e4:at0 ms q≠q
      ·rw [if_pos e4] at g1 g2
       exact .inr ⟨⟨fun z=>e1 (by rw [e3];exact z),e4⟩,by omega,by omega⟩
      ·rw [if_neg e4] at g2
       exact absurd g2 c
     ·rw [if_neg e3] at g1 g2 g3
      by_cases e4:x = at0 ms q
      ·rw [if_pos e4] at g1 g2 g3
       by_cases e5:at0 ms p≠p
       ·rw [if_pos e5] at g1 g2
        exact .inr ⟨⟨e5,fun z=>e2 (by rw [e4];exact z)⟩,by omega,by omega⟩
       ·rw [if_neg e5] at g2
        exact absurd g2 c
      ·rw [if_neg e4] at g3
       exact absurd rfl g3
theorem leastP_least (W:WorkL n ms) {p q:Nat} (h1:p≤q) (h2:q < 2 * n) (h3:at0 ms p≠q):IsLeast n ms (beh ms p q) (leastP ms p q).1 (leastP ms p q).2:=by
 have L0:Leads n ms (beh ms p q) p q:=⟨h1,h2,h3,rfl⟩
 have one:∀ p' q',Leads n ms (beh ms p q) p' q'→(p' = p∧q' = q)∨((at0 ms p≠p∧at0 ms q≠q)∧p' = (otherP ms p q).1∧q' = (otherP ms p q).2):=fun p' q' L=>leads_one W h1 h2 h3 L
 unfold leastP
 by_cases c:at0 ms p≠p∧at0 ms q≠q
 ·rw [if_pos c]
  have L1:=other_leads W h1 h2 h3 c
  generalize otherP ms p q = o at L1 one
  obtain ⟨o1,o2⟩:=o
  by_cases d:o1 < p∨(o1 = p∧o2 < q)
  ·rw [if_pos d]
   refine ⟨L1,fun p' q' L=>?_⟩
   rcases one p' q' L with ⟨e1,e2⟩ | ⟨_,e1,e2⟩
   ·show o1 < p'∨(o1 = p'∧o2≤q')
    omega
   ·exact .inr ⟨e1.symm,Nat.le_of_eq e2.symm⟩
  ·rw [if_neg d]
   refine ⟨L0,fun p' q' L=>?_⟩
   rcases one p' q' L with ⟨e1,e2⟩ | ⟨_,e1,e2⟩
   ·exact .inr ⟨e1.symm,Nat.le_of_eq e2.symm⟩
   ·show p < p'∨(p = p'∧q≤q')
    simp only at e1 e2
    omega
 ·rw [if_neg c]
  refine ⟨L0,fun p' q' L=>?_⟩
  rcases one p' q' L with ⟨e1,e2⟩ | ⟨z,_⟩
  ·exact .inr ⟨e1.symm,Nat.le_of_eq e2.symm⟩
  ·exact absurd z c
theorem leastP_iff (W:WorkL n ms) {p q:Nat} (h1:p≤q) (h2:q < 2 * n) (h3:at0 ms p≠q):leastP ms p q = (p,q)↔∀ p' q',Leads n ms (beh ms p q) p' q'→¬ (p' < p∨(p' = p∧q' < q)):=by
 have L:=leastP_least W h1 h2 h3
 have L0:Leads n ms (beh ms p q) p q:=⟨h1,h2,h3,rfl⟩
 constructor
 ·intro e p' q' l
  rw [e] at L
  have:=L.2 p' q' l
  simp only at this
  omega
 ·intro h
  have:=h _ _ L.1
  have:=L.2 _ _ L0
  refine Prod.ext ?_ ?_
  ·show (leastP ms p q).1 = p
   omega
  ·show (leastP ms p q).2 = q
   omega
end
end Mir

noncomputable def ev2 {α:Type}:List α→List α
 | []=>[]
 | [x]=>[x]
 | x :: _ :: r=>x :: ev2 r
theorem ev2_len {α:Type}:∀ l:List α,(ev2 l).length = (l.length + 1) / 2
 | []=>by simp [ev2]
 | [x]=>by simp [ev2]
 | x :: y :: r=>by
  show (ev2 r).length + 1 = (r.length + 1 + 1 + 1) / 2
  rw [ev2_len r]
  omega
theorem ev2_get {α:Type}:∀ (l:List α) (k:Nat),(ev2 l)[k]? = l[2 * k]?
 | [],k=>by simp [ev2]
 | [x],0=>rfl
 | [x],k + 1=>by simp [ev2]
 | x :: y :: r,0=>rfl
 | x :: y :: r,k + 1=>by
  show (ev2 r)[k]? = _
  rw [ev2_get r k,show 2 * (k + 1) = 2 * k + 1 + 1 by omega]
  rfl
theorem ev2_map {α β:Type} (f:α→β):∀ l:List α,ev2 (l.map f) = (ev2 l).map f
 | []=>rfl
 | [x]=>rfl
 | x :: y :: r=>by
  show f x :: ev2 (r.map f) = f x :: (ev2 r).map f
  rw [ev2_map f r]
theorem ev2_pick {α:Type} (l:List α) (i:Nat):(List.range ((l.drop i).length + 1 - (l.drop i).length / 2 - 1)).filterMap (fun k=>l[i + 2 * k]?) = ev2 (l.drop i):=by
 have hc:(l.drop i).length + 1 - (l.drop i).length / 2 - 1 = (ev2 (l.drop i)).length:=by rw [ev2_len];omega
 rw [hc]
 have e:∀ k,k < (ev2 (l.drop i)).length→l[i + 2 * k]? = (ev2 (l.drop i))[k]?:=fun k _=>by rw [ev2_get,List.getElem?_drop]
 generalize ev2 (l.drop i) = m at e
 refine List.ext_getElem? fun j=>?_
 have gen:∀ n,n≤m.length→(List.range n).filterMap (fun k=>l[i + 2 * k]?) = m.take n:=fun n hn=>by
  induction n with
  | zero=>rfl
  | succ n ih =>
   rw [List.range_succ,List.filterMap_append,ih (by omega),List.take_add_one]
   congr 1
   have z:=e n (by omega)
   have z2:m[n]? = some m[n]:=List.getElem?_eq_getElem (by omega)
   rw [z2]
   show List.filterMap _ [n] = [m[n]]
   rw [List.filterMap_cons,z,z2]
   rfl
 rw [gen m.length (Nat.le_refl _),List.take_length]
namespace HT
open PySem PySem.Spec PyProof.Rows L2
section
variable {prog:Program} {w:World} {A:Around} {E:Value→Shared→Prop} {s:Shared}
theorem applied_two {sl:Addr} {i:Int} {t1 t2:Tok} {n:Nat} {Q:Int×Int×Nat→Shared→Prop} (hi:0≤i) (hs:s.heap.IsSliceOf sl (.int i t1) .none (.int 2 t2))
  (h:Q (min i n,2,n + 1 - i.toNat - (n - i.toNat) / 2 - 1) s):wpAny (model prog w) A (Builtin.Slice.sliceApplied (.ref sl) (pure (n:Int))) Q E s:=by
 obtain ⟨os,hos,hcs,hds⟩:=id hs
 unfold Builtin.Slice.sliceApplied Builtin.Slice.sliceFields
 refine wpAny_bind (wpAny_bind (wpAny_field hos hds (x:=.int i t1) rfl (wpAny_bind (wpAny_field hos hds (x:=.none) rfl (wpAny_bind (wpAny_field hos hds (x:=.int 2 t2) rfl (wpAny_pure ?_)))))))
 refine wpAny_bind (slicePart_int ?_)
 show wpAny _ _ (if ((2:Int) == 0) = true then _ else _) _ _ s
 rw [if_neg (by decide)]
 refine wpAny_bind (slicePart_int (wpAny_bind (slicePart_none (wpAny_bind (wpAny_pure ?_)))))
 show wpAny _ _ (match Builtin.Slice.sliceAdjust (some i) none 2 (n:Int) with | (lo,hi)=>pure (lo,(2:Int),Builtin.Slice.slicePlaces lo hi 2)) _ _ s
 have e:Builtin.Slice.sliceAdjust (some i) none 2 (n:Int) = (min i n,(n:Int)):=by
  have h1:¬ ((2:Int) < 0):=by omega
  unfold Builtin.Slice.sliceAdjust
  simp only [h1,if_false]
  refine Prod.ext ?_ rfl
  show (if i < 0 then _ else _) = _
  rw [if_neg (by omega)]
 rw [e]
 have e2:Builtin.Slice.slicePlaces (min i n) (n:Int) 2 = n + 1 - i.toNat - (n - i.toNat) / 2 - 1:=by
  unfold Builtin.Slice.slicePlaces
  have h1:(2:Int) > 0:=by omega
  simp only [h1,if_true]
  split <;> omega
 show wpAny _ _ (pure (min i n,(2:Int),Builtin.Slice.slicePlaces (min i n) (n:Int) 2)) _ _ s
 rw [e2]
 exact wpAny_pure h
theorem getItem_tuple_two {t sl:Addr} {its:List Value} {i:Int} {t1 t2:Tok} {Q:Value→Shared→Prop} (ht:IsTup s.heap t its.toArray) (hi:0≤i) (hs:s.heap.IsSliceOf sl (.int i t1) .none (.int 2 t2))
  (h:Q (.ref s.heap.objs.size) { s with heap:=s.heap.push { cls:=.type "tuple",data:=.seq (ev2 (its.drop i.toNat)).toArray } }) (hsz:its.length≤sizeLine):wpAny (model prog w) A (getItem (.ref t) (.ref sl)) Q E s:=by
 have htake:sizeOk (.seq (ev2 (its.drop i.toNat)).toArray):=by
  show (ev2 (its.drop i.toNat)).toArray.size≤sizeLine
  rw [List.size_toArray,ev2_len,List.length_drop]
  omega
 obtain ⟨os,hos,hcs,hds⟩:=id hs
 have hTs:s.TypeIs (.ref sl) "slice":=⟨os,hos,hcs⟩
 unfold getItem
 try with_reducible refine wpAny_holding ?_
 first | refine wpAny_bind (wpAny_pure ?_) | skip
 refine wpAny_bind (wpAny_sequenceKey ht.typeIs (by decide) (wpAny_bind (wpAny_callSpecial?_slot (name:=Str.ofString "__getitem__") ht.typeIs PyProof.Rows.slot_tuple_getitem (wpAny_call_entry PyProof.Rows.slot_tuple_getitem ht.typeIs entry_tuple_getitem ?_ (args_tuple_getitem _ _)))))
 show wpAny _ _ (Builtin.Tuple.tupleItemsOf (.ref t) >>= _) _ _ s
 refine wpAny_bind (tupleItemsOf_ ht (wpAny_bind (wpAny_typeOf hTs ?_)))
 rw [if_pos (by decide)]
 refine wpAny_bind (applied_two (n:=its.toArray.size) hi hs ?_)
 have hno:¬ ((min i (its.toArray.size:Int) == 0 && (2:Int) == 1 && (its.toArray.size + 1 - i.toNat - (its.toArray.size - i.toNat) / 2 - 1) == its.toArray.size) = true):=by
  rw [show ((2:Int) == 1) = false from rfl,Bool.and_false,Bool.false_and]
  exact Bool.false_ne_true
 show wpAny _ _ (if (min i (its.toArray.size:Int) == 0 && (2:Int) == 1 && (its.toArray.size + 1 - i.toNat - (its.toArray.size - i.toNat) / 2 - 1) == its.toArray.size) = true then _ else _) _ _ s
 rw [if_neg hno]
 have pk:((List.range (its.toArray.size + 1 - i.toNat - (its.toArray.size - i.toNat) / 2 - 1)).filterMap fun (k:Nat)=>its.toArray[(min i (its.toArray.size:Int) + (k:Int) * 2).toNat]?) = ev2 (its.drop i.toNat):=by
  rw [List.size_toArray]
  by_cases c:i.toNat≤its.length
  ·have em:min i (its.length:Int) = i:=by omega
   rw [← ev2_pick its i.toNat,List.length_drop,show its.length - i.toNat + 1 - (its.length - i.toNat) / 2 - 1 = its.length + 1 - i.toNat - (its.length - i.toNat) / 2 - 1 by omega]
   congr 1
   funext k
   rw [em,show (i + (k:Int) * 2).toNat = i.toNat + 2 * k by omega]
   simp
  ·rw [show its.length + 1 - i.toNat - (its.length - i.toNat) / 2 - 1 = 0 by omega,List.drop_of_length_le (by omega)]
   rfl
 rw [pk]
 first
  | exact wpAny_bind (m:=Builtin.Tuple.tupleExact _) (wpAny_newObj_type (wpAny_pure ⟨_,rfl,wpAny_pure h⟩) htake)
  | exact wpAny_bind (m:=Builtin.Tuple.tupleExact _) (wpAny_newObj_type (wpAny_bind (wpAny_pure (wpAny_pure ⟨_,rfl,wpAny_pure h⟩))) htake)
  | exact wpAny_bind (wpAny_bind (m:=Builtin.Tuple.tupleExact _) (wpAny_newObj_type (wpAny_pure (wpAny_pure ⟨_,rfl,wpAny_pure h⟩)) htake))
  | exact wpAny_bind (wpAny_bind (m:=Builtin.Tuple.tupleExact _) (wpAny_newObj_type (wpAny_pure ⟨_,rfl,wpAny_pure h⟩) htake))
end
end HT
namespace L2
open PySem PySem.Spec PyProof.Rows
theorem vals_ev2:∀ {xs:List V} {us:List Value},Vals xs us→Vals (ev2 xs) (ev2 us)
 | _,_,.nil=>.nil
 | _,_,.cons r .nil=>.cons r .nil
 | _,_,.cons r (.cons _ rr)=>.cons r (vals_ev2 rr)
section
variable {X:Cx} {e lo st:Expr} {te tl ts:TE} {pos p2:Pos}
noncomputable def tStep2 (K:PySem.W.Frag) (te tl ts:TE):TE:=fun σ H Q=>te σ H fun x H1=>tl σ H1 fun v H2=>ts σ H2 fun u H3=>∃ (a:Addr) (xs:List V) (i:Int),x = .ref a∧v = .int i∧u = .int 2∧SqT K H3 a xs∧0≤i∧∀ p,H3 p = none→Q (.ref p) (upd H3 p (.tup (ev2 (xs.drop i.toNat))))
theorem pe_step2 (he:PE X e te) (hl:PE X lo tl) (hs:PE X st ts):PE X (.Subscript e (.Slice (some lo) none (some st) p2) pos) (tStep2 X.K te tl ts):=by
 intro pins s σ H Q I h
 refine Subscript_ (thn (he pins s σ H _ I h) fun v s1 ⟨x,H1,I1,r1,q1⟩=>?_)
 refine wpAny_Slice ?_
 rw [evalPart_some,evalPart_none,evalPart_some]
 refine thn (hl pins s1 σ H1 _ I1 q1) fun vl s2 ⟨l,H2,I2,pl,q2⟩=>wpAny_pure (thn (hs pins s2 σ H2 _ I2 q2) fun vu s3 ⟨u,H3,I3,pu,q3⟩=>?_)
 obtain ⟨a,xs,i,rfl,rfl,rfl,hq,hi,q⟩:=q3
 cases r1
 obtain ⟨t1,rfl⟩:=pl
 obtain ⟨t2,rfl⟩:=pu
 have I4:Inv X pins σ H3 { s3 with heap:=s3.heap.push { cls:=.type "slice",data:=.fields #[.int i t1,.none,.int 2 t2] } }:=I3.kept (t':=s3.toks) fun b ob q=>Heap.get?_push_of_some _ q
 obtain ⟨its,r,ht,hz⟩:=I4.tuple hq
 have hlen:=r.length
 show wpAny (model X.prog X.w) X.A (subscriptTail e (.Slice (some lo) none (some st) p2) (.ref a) (.ref s3.heap.objs.size)) (EP X pins σ Q) X.xe { s3 with heap:=s3.heap.push { cls:=.type "slice",data:=.fields #[.int i t1,.none,.int 2 t2] } }
 refine tail_any (ops:=[.ref a,.ref s3.heap.objs.size]) ht.typeIs PyProof.Rows.slot_tuple_getitem.lookup ?_ (by with_unfolding_all rfl)
 refine HT.getItem_tuple_two ht hi (Heap.IsSliceOf.new ..) ?_ (by rw [← hlen];exact hz)
 refine ⟨.ref _,_,I4.laid (t':=s3.toks) (o:=.tup (ev2 (xs.drop i.toNat))) (fun b ob q=>Heap.get?_push_of_some _ q) (Nat.le_refl _) ?_,rfl,q _ (I4.hok.fresh (Nat.le_refl _))⟩
 refine ⟨?_,_,vals_ev2 (r.drop i.toNat),IsTup.new _ _⟩
 rw [ev2_len,List.length_drop]
 omega
end
end L2


namespace Th
open Classical
noncomputable def ord (x y:Nat):Nat×Nat:=(min x y,max x y)
theorem ord_eq {x y u v:Nat} (h:ord x y = ord u v):(x = u∧y = v)∨(x = v∧y = u):=by
 unfold ord at h
 injection h with h1 h2
 omega
theorem ord_le (x y:Nat):(ord x y).1≤(ord x y).2:=by unfold ord;simp only;omega
theorem ord_of {p q:Nat} (h:p≤q):ord p q = (p,q):=by unfold ord;rw [Nat.min_eq_left h,Nat.max_eq_right h]
theorem ord_comm (x y:Nat):ord x y = ord y x:=by unfold ord;rw [Nat.min_comm,Nat.max_comm]
noncomputable def splitTo (L:List Nat) (i:Nat):List (Nat×Nat):=(List.range i).flatMap fun m=>(ev2 (L.drop (m + 1))).map (ord (L.getD m 0))
noncomputable def splitL (L:List Nat):List (Nat×Nat):=splitTo L L.length
noncomputable def endsIn (ths:List (Kd×List Nat)) (k:Kd):List Nat:=(ths.filter fun th=>th.1 = k).flatMap (·.2)
noncomputable def crossL (B S:List Nat):List (Nat×Nat):=B.flatMap fun e=>S.map (ord e)
noncomputable def pairsL (ths:List (Kd×List Nat)):List (Nat×Nat):=crossL (endsIn ths .bare) (endsIn ths .tied) ++ ths.flatMap (fun th=>splitL th.2) ++ (endsIn ths .tied).map fun e=>(e,e)
theorem flatMap_len {α β:Type} (f:α→List β) (c:Nat):∀ l:List α,(∀ x∈l,(f x).length≤c)→(l.flatMap f).length≤l.length * c
 | [],_=>Nat.zero_le _
 | x :: r,h=>by
  rw [List.flatMap_cons,List.length_append,List.length_cons,Nat.add_mul,Nat.one_mul]
  have h1:=h x List.mem_cons_self
  have h2:=flatMap_len f c r fun y hy=>h y (List.mem_cons_of_mem _ hy)
  omega
theorem splitTo_len (L:List Nat) (i:Nat):(splitTo L i).length≤i * L.length:=by
 unfold splitTo
 have z:=flatMap_len (fun m=>(ev2 (L.drop (m + 1))).map (ord (L.getD m 0))) L.length (List.range i) fun m _=>by
  rw [List.length_map,ev2_len,List.length_drop]
  omega
 rwa [List.length_range] at z
theorem cross_len (B S:List Nat):(crossL B S).length≤B.length * S.length:=flatMap_len _ _ _ fun x _=>by rw [List.length_map];exact Nat.le_refl _
theorem cross_snoc {B S:List Nat} {x:Nat}:crossL (B ++ [x]) S = crossL B S ++ S.map (ord x):=by
 unfold crossL
 rw [List.flatMap_append,List.flatMap_cons,List.flatMap_nil,List.append_nil]
theorem splitTo_succ {L:List Nat} {i x:Nat} (h:L[i]? = some x):splitTo L (i + 1) = splitTo L i ++ (ev2 (L.drop (i + 1))).map (ord x):=by
 unfold splitTo
 rw [List.range_succ,List.flatMap_append]
 congr 1
 rw [List.flatMap_cons,List.flatMap_nil,List.append_nil]
 have e:L.getD i 0 = x:=by rw [List.getD_eq_getElem?_getD,h];rfl
 rw [e]
theorem mem_ev {L:List Nat} {i y:Nat}:y∈ev2 (L.drop (i + 1))↔∃ j,i < j∧(j - i) % 2 = 1∧L[j]? = some y:=by
 rw [List.mem_iff_getElem?]
 constructor
 ·rintro ⟨k,hk⟩
  rw [ev2_get,List.getElem?_drop] at hk
  exact ⟨i + 1 + 2 * k,by omega,by omega,hk⟩
 ·rintro ⟨j,h1,h2,h3⟩
  refine ⟨(j - i - 1) / 2,?_⟩
  rw [ev2_get,List.getElem?_drop,show i + 1 + 2 * ((j - i - 1) / 2) = j by omega]
  exact h3
theorem mem_split {L:List Nat} {c:Nat×Nat}:c∈splitL L↔∃ i j x y,i < j∧(j - i) % 2 = 1∧L[i]? = some x∧L[j]? = some y∧c = ord x y:=by
 unfold splitL splitTo
 rw [List.mem_flatMap]
 constructor
 ·rintro ⟨i,hi,hc⟩
  obtain ⟨y,hy,rfl⟩:=List.mem_map.mp hc
  obtain ⟨j,h1,h2,h3⟩:=mem_ev.mp hy
  have hi:=List.mem_range.mp hi
  exact ⟨i,j,L.getD i 0,y,h1,h2,by rw [List.getD_eq_getElem?_getD,List.getElem?_eq_getElem hi];rfl,h3,rfl⟩
 ·rintro ⟨i,j,x,y,h1,h2,h3,h4,rfl⟩
  have hi:=(List.getElem?_eq_some_iff.mp h3).1
  refine ⟨i,List.mem_range.mpr hi,List.mem_map.mpr ⟨y,mem_ev.mpr ⟨j,h1,h2,h4⟩,?_⟩⟩
  rw [List.getD_eq_getElem?_getD,h3];rfl
theorem mem_ends {ths:List (Kd×List Nat)} {k:Kd} {x:Nat}:x∈endsIn ths k↔∃ th∈ths,th.1 = k∧x∈th.2:=by
 unfold endsIn
 rw [List.mem_flatMap]
 constructor
 ·rintro ⟨th,h1,h2⟩
  obtain ⟨h3,h4⟩:=List.mem_filter.mp h1
  exact ⟨th,h3,of_decide_eq_true h4,h2⟩
 ·rintro ⟨th,h1,h2,h3⟩
  exact ⟨th,List.mem_filter.mpr ⟨h1,decide_eq_true h2⟩,h3⟩
theorem mem_cross {B S:List Nat} {c:Nat×Nat}:c∈crossL B S↔∃ x∈B,∃ y∈S,c = ord x y:=by
 unfold crossL
 rw [List.mem_flatMap]
 constructor
 ·rintro ⟨x,h1,h2⟩
  obtain ⟨y,h3,rfl⟩:=List.mem_map.mp h2
  exact ⟨x,h1,y,h3,rfl⟩
 ·rintro ⟨x,h1,y,h3,rfl⟩
  exact ⟨x,h1,List.mem_map.mpr ⟨y,h3,rfl⟩⟩
theorem mem_pairs {ths:List (Kd×List Nat)} {c:Nat×Nat}:c∈pairsL ths↔(∃ x∈endsIn ths .bare,∃ y∈endsIn ths .tied,c = ord x y)∨(∃ th∈ths,c∈splitL th.2)∨∃ x∈endsIn ths .tied,c = (x,x):=by
 unfold pairsL
 rw [List.mem_append,List.mem_append,mem_cross,List.mem_flatMap,List.mem_map]
 constructor
 ·rintro ((h | h) | ⟨x,h1,h2⟩)
  ·exact .inl h
  ·exact .inr (.inl h)
  ·exact .inr (.inr ⟨x,h1,h2.symm⟩)
 ·rintro (h | h | ⟨x,h1,h2⟩)
  ·exact .inl (.inl h)
  ·exact .inl (.inr h)
  ·exact .inr ⟨x,h1,h2.symm⟩
section
variable {N:Nat} {a b:Nat→Nat} {ths:List (Kd×List Nat)}
structure AllT (N:Nat) (a b:Nat→Nat) (ths:List (Kd×List Nat)):Prop where
 T:Two N a b
 hp:ths.Perm (unL N a b)
 hs:ths.Pairwise fun p q=>mn p.2 < mn q.2
theorem AllT.good (A:AllT N a b ths) {th:Kd×List Nat} (h:th∈ths):GoodT N a b th.1 th.2:=un_good A.T (A.hp.mem_iff.mp h)
theorem AllT.comp (A:AllT N a b ths) {th:Kd×List Nat} (h:th∈ths):∃ u,u < N∧IsComp a b u th.2:=un_comp A.T (A.hp.mem_iff.mp h)
theorem AllT.mem (A:AllT N a b ths) {p:Nat} (hp:p < N):∃ th∈ths,p∈th.2:=by
 have z:=(un_flat A.T A.hp).mem_iff.mpr (List.mem_range.mpr hp)
 obtain ⟨L,h1,h2⟩:=List.mem_flatten.mp z
 obtain ⟨th,h3,rfl⟩:=List.mem_map.mp h1
 exact ⟨th,h3,h2⟩
theorem AllT.conn (A:AllT N a b ths) {s t:Kd×List Nat} (hs:s∈ths) (ht:t∈ths) {p q:Nat} (h1:p∈s.2) (h2:q∈t.2) (c:Conn a b p q):s = t:=by
 obtain ⟨u,ul,C⟩:=A.comp hs
 obtain ⟨v,vl,D⟩:=A.comp ht
 have cp:=(C.mem p).mp h1
 have cq:=(D.mem q).mp h2
 have e:mn s.2 = mn t.2:=by
  obtain ⟨m1,m2⟩:=mn_comp C
  obtain ⟨m3,m4⟩:=mn_comp D
  have x1:=m2 _ (cp.trans (c.trans ((cq.symm A.T vl).trans m3)))
  have x2:=m4 _ (cq.trans ((c.symm A.T (cp.lt A.T ul)).trans ((cp.symm A.T ul).trans m1)))
  omega
 obtain ⟨i,hi,rfl⟩:=List.getElem_of_mem hs
 obtain ⟨j,hj,rfl⟩:=List.getElem_of_mem ht
 have pw:=List.pairwise_iff_getElem.mp A.hs
 rcases Nat.lt_trichotomy i j with h | h | h
 ·have:=pw i j hi hj h;omega
 ·subst h;rfl
 ·have:=pw j i hj hi h;omega
theorem AllT.same (A:AllT N a b ths) {s t:Kd×List Nat} (hs:s∈ths) (ht:t∈ths) {p:Nat} (h1:p∈s.2) (h2:p∈t.2):s = t:=A.conn hs ht h1 h2 (Conn.refl p)
theorem AllT.amem (A:AllT N a b ths) {s:Kd×List Nat} (hs:s∈ths) {p:Nat} (h1:p∈s.2):a p∈s.2:=by
 obtain ⟨u,ul,C⟩:=A.comp hs
 exact (C.mem _).mpr ((C.mem p).mp h1).sf
theorem AllT.lt (A:AllT N a b ths) {s:Kd×List Nat} (hs:s∈ths) {p:Nat} (h1:p∈s.2):p < N:=(A.good hs).lt p h1
theorem AllT.near (A:AllT N a b ths) {p q:Nat} (h1:p≤q) (h2:q < N) (hf:a p≠q) {a2:Nat→Nat} (hb:∀ x,x < N→a2 x = Mir.behM a p q x):(p,q)∈pairsL ths↔(score a2 b N:Int) - score a b N = 2:=by
 obtain ⟨s,hs,ps⟩:=A.mem (show p < N by omega)
 obtain ⟨t,ht,qt⟩:=A.mem h2
 obtain ⟨i,hi⟩:=List.mem_iff_getElem?.mp ps
 obtain ⟨j,hj⟩:=List.mem_iff_getElem?.mp qt
 rw [mem_pairs]
 by_cases e:p = q
 ·subst e
  rw [open_two A.T (A.good hs) hi hf hb]
  constructor
  ·rintro (⟨x,hx,y,hy,h⟩ | ⟨th,hth,h⟩ | ⟨x,hx,h⟩)
   ·exfalso
    rw [← ord_of (Nat.le_refl p)] at h
    have exy:x = p∧y = p:=by rcases ord_eq h with ⟨z1,z2⟩ | ⟨z1,z2⟩ <;> exact ⟨by omega,by omega⟩
    obtain ⟨th,t1,t2,t3⟩:=mem_ends.mp hx
    obtain ⟨th',t1',t2',t3'⟩:=mem_ends.mp hy
    rw [exy.1] at t3
    rw [exy.2] at t3'
    have:=A.same t1 t1' t3 t3'
    subst this
    rw [t2] at t2'
    cases t2'
   ·exfalso
    obtain ⟨m,n,x,y,g1,g2,g3,g4,g5⟩:=mem_split.mp h
    rw [← ord_of (Nat.le_refl p)] at g5
    have exy:x = y:=by rcases ord_eq g5 with ⟨z1,z2⟩ | ⟨z1,z2⟩ <;> omega
    rw [exy] at g3
    have:=(A.good hth).one g3 g4
    omega
   ·have ex:p = x:=congrArg Prod.fst h
    obtain ⟨th,t1,t2,t3⟩:=mem_ends.mp hx
    rw [← ex] at t3
    have:=A.same hs t1 ps t3
    rw [this]
    exact t2
  ·intro k
   exact .inr (.inr ⟨p,mem_ends.mpr ⟨s,hs,k,ps⟩,rfl⟩)
 ·have ho:=ord_of h1
  by_cases st:s = t
  ·subst st
   have G:=A.good hs
   have nij:i≠j:=fun z=>by rw [z,hj] at hi;exact e (Option.some.inj hi).symm
   have key:(score a2 b N:Int) - score a b N = 2↔(turn s.1 + i) % 2≠(turn s.1 + j) % 2:=by
    rcases Nat.lt_or_gt_of_ne nij with h | h
    ·exact same_two A.T G hi hj h hf hb
    ·have hf':a q≠p:=fun z=>hf (by rw [← z];exact A.T.ff q h2)
     have z:=same_two A.T G hj hi h hf' (a2:=a2) (fun x hx=>by rw [hb x hx];exact behM_comm e x)
     rw [z]
     exact ⟨fun y w=>y w.symm,fun y w=>y w.symm⟩
   rw [key]
   constructor
   ·rintro (⟨x,hx,y,hy,h⟩ | ⟨th,hth,h⟩ | ⟨x,hx,h⟩)
    ·exfalso
     rw [← ho] at h
     obtain ⟨th,t1,t2,t3⟩:=mem_ends.mp hx
     obtain ⟨th',t1',t2',t3'⟩:=mem_ends.mp hy
     have:th = s∧th' = s:=by
      rcases ord_eq h with ⟨z1,z2⟩ | ⟨z1,z2⟩
      ·exact ⟨A.same t1 hs t3 (z1 ▸ ps),A.same t1' hs t3' (z2 ▸ qt)⟩
      ·exact ⟨A.same t1 hs t3 (z2 ▸ qt),A.same t1' hs t3' (z1 ▸ ps)⟩
     rw [this.1] at t2
     rw [this.2,t2] at t2'
     cases t2'
    ·obtain ⟨m,n,x,y,g1,g2,g3,g4,g5⟩:=mem_split.mp h
     rw [← ho] at g5
     rcases ord_eq g5 with ⟨z1,z2⟩ | ⟨z1,z2⟩
     ·subst z1 z2
      have:=A.same hth hs (List.mem_of_getElem? g3) ps
      subst this
      have:=G.one g3 hi
      have:=G.one g4 hj
      omega
     ·subst z1 z2
      have:=A.same hth hs (List.mem_of_getElem? g4) ps
      subst this
      have:=G.one g4 hi
      have:=G.one g3 hj
      omega
    ·exfalso
     have e1:p = x:=congrArg Prod.fst h
     have e2:q = x:=congrArg Prod.snd h
     omega
   ·intro h
    refine .inr (.inl ⟨s,hs,mem_split.mpr ?_⟩)
    rcases Nat.lt_or_gt_of_ne nij with g | g
    ·exact ⟨i,j,p,q,g,by omega,hi,hj,ho.symm⟩
    ·exact ⟨j,i,q,p,g,by omega,hj,hi,by rw [ord_comm];exact ho.symm⟩
  ·have nc:¬ Conn a b p q:=fun c=>st (A.conn hs ht ps qt c)
   have d1:∀ x∈s.2,x≠q∧x≠a q:=fun x hx=>⟨fun z=>st (A.same hs ht hx (by rw [z];exact qt)),fun z=>st (A.same hs ht hx (by rw [z];exact A.amem ht qt))⟩
   have d2:∀ x∈t.2,x≠p∧x≠a p:=fun x hx=>⟨fun z=>st (A.same (p:=p) hs ht ps (z ▸ hx)),fun z=>st (A.same hs ht (by rw [z];exact A.amem hs ps) hx)⟩
   rw [cross_two A.T (A.good hs) (A.good ht) hi hj nc d1 d2 hb]
   constructor
   ·rintro (⟨x,hx,y,hy,h⟩ | ⟨th,hth,h⟩ | ⟨x,hx,h⟩)
    ·rw [← ho] at h
     obtain ⟨th,t1,t2,t3⟩:=mem_ends.mp hx
     obtain ⟨th',t1',t2',t3'⟩:=mem_ends.mp hy
     rcases ord_eq h with ⟨z1,z2⟩ | ⟨z1,z2⟩
     ·have w1:=A.same t1 hs t3 (z1 ▸ ps)
      have w2:=A.same t1' ht t3' (z2 ▸ qt)
      exact .inl ⟨by rw [← w1];exact t2,by rw [← w2];exact t2'⟩
     ·have w1:=A.same t1 ht t3 (z2 ▸ qt)
      have w2:=A.same t1' hs t3' (z1 ▸ ps)
      exact .inr ⟨by rw [← w2];exact t2',by rw [← w1];exact t2⟩
    ·exfalso
     obtain ⟨m,n,x,y,g1,g2,g3,g4,g5⟩:=mem_split.mp h
     rw [← ho] at g5
     have m1:=List.mem_of_getElem? g3
     have m2:=List.mem_of_getElem? g4
     rcases ord_eq g5 with ⟨z1,z2⟩ | ⟨z1,z2⟩
     ·subst z1 z2
      exact st ((A.same hth hs m1 ps).symm.trans (A.same hth ht m2 qt))
     ·subst z1 z2
      exact st ((A.same hth hs m2 ps).symm.trans (A.same hth ht m1 qt))
    ·exfalso
     have e1:p = x:=congrArg Prod.fst h
     have e2:q = x:=congrArg Prod.snd h
     omega
   ·rintro (⟨k1,k2⟩ | ⟨k1,k2⟩)
    ·exact .inl ⟨p,mem_ends.mpr ⟨s,hs,k1,ps⟩,q,mem_ends.mpr ⟨t,ht,k2,qt⟩,ho.symm⟩
    ·exact .inl ⟨q,mem_ends.mpr ⟨t,ht,k2,qt⟩,p,mem_ends.mpr ⟨s,hs,k1,ps⟩,by rw [ord_comm];exact ho.symm⟩
theorem AllT.apart (A:AllT N a b ths) (f:Kd×List Nat→Bool):(ths.filter f).Pairwise fun s t=>∀ x∈s.2,∀ y∈t.2,x≠y:=by
 refine List.Pairwise.imp_of_mem (fun {s t} hs ht h x hx y hy e=>?_) (A.hs.filter f)
 have:=A.same (List.mem_filter.mp hs).1 (List.mem_filter.mp ht).1 hx (e ▸ hy)
 subst this
 omega
theorem AllT.ends_nd (A:AllT N a b ths) (k:Kd):(endsIn ths k).Nodup:=by
 unfold endsIn
 rw [List.nodup_iff_pairwise_ne,List.pairwise_flatMap]
 exact ⟨fun th hth=>List.nodup_iff_pairwise_ne.mp (A.good (List.mem_filter.mp hth).1).nd,A.apart _⟩
theorem AllT.disj (A:AllT N a b ths) {x y:Nat} (hx:x∈endsIn ths .bare) (hy:y∈endsIn ths .tied):x≠y:=fun e=>by
 obtain ⟨th,t1,t2,t3⟩:=mem_ends.mp hx
 obtain ⟨th',t1',t2',t3'⟩:=mem_ends.mp hy
 have:=A.same t1 t1' t3 (e ▸ t3')
 subst this
 rw [t2] at t2'
 cases t2'
theorem split_nd {L:List Nat} (nd:L.Nodup):(splitL L).Nodup:=by
 have one:∀ {i j x:Nat},L[i]? = some x→L[j]? = some x→i = j:=fun {i j x} h1 h2=>by
  obtain ⟨l1,e1⟩:=List.getElem?_eq_some_iff.mp h1
  obtain ⟨l2,e2⟩:=List.getElem?_eq_some_iff.mp h2
  exact (List.getElem_inj nd).mp (e1.trans e2.symm)
 have gd:∀ {m:Nat},m < L.length→L[m]? = some (L.getD m 0):=fun {m} h=>by rw [List.getD_eq_getElem?_getD,List.getElem?_eq_getElem h];rfl
 unfold splitL splitTo
 rw [List.nodup_iff_pairwise_ne,List.pairwise_flatMap]
 constructor
 ·intro m hm
  have hm:=List.mem_range.mp hm
  rw [List.pairwise_map]
  have ne:(ev2 (L.drop (m + 1))).Nodup:=by
   rw [List.nodup_iff_pairwise_ne]
   refine List.pairwise_iff_getElem.mpr fun i j hi hj hij e=>?_
   have g1:(ev2 (L.drop (m + 1)))[i]? = some (ev2 (L.drop (m + 1)))[i]:=List.getElem?_eq_getElem hi
   have g2:(ev2 (L.drop (m + 1)))[j]? = some (ev2 (L.drop (m + 1)))[j]:=List.getElem?_eq_getElem hj
   rw [ev2_get,List.getElem?_drop] at g1 g2
   rw [e] at g1
   have:=one g1 g2
   omega
  refine List.Pairwise.imp_of_mem (fun {x y} hx hy h e=>?_) (List.nodup_iff_pairwise_ne.mp ne)
  obtain ⟨j,j1,_,j3⟩:=mem_ev.mp hx
  rcases ord_eq e with ⟨_,z⟩ | ⟨z1,z2⟩
  ·exact h z
  ·rw [z2] at j3
   have:=one j3 (gd hm)
   omega
 ·refine List.Pairwise.imp_of_mem (fun {m n} hm hn h c hc d hd e=>?_) (List.pairwise_lt_range (n:=L.length))
  have hm:=List.mem_range.mp hm
  have hn:=List.mem_range.mp hn
  obtain ⟨x,hx,rfl⟩:=List.mem_map.mp hc
  obtain ⟨y,hy,rfl⟩:=List.mem_map.mp hd
  obtain ⟨i,i1,_,i3⟩:=mem_ev.mp hx
  obtain ⟨j,j1,_,j3⟩:=mem_ev.mp hy
  rcases ord_eq e with ⟨z,_⟩ | ⟨z1,z2⟩
  ·have g:=gd hm
   rw [z] at g
   have:=one g (gd hn)
   omega
  ·have g:=gd hm
   rw [z1] at g
   have:=one g j3
   omega
theorem AllT.nodup (A:AllT N a b ths):(pairsL ths).Nodup:=by
 unfold pairsL
 refine List.nodup_append.mpr ⟨List.nodup_append.mpr ⟨?_,?_,?_⟩,?_,?_⟩
 ·unfold crossL
  rw [List.nodup_iff_pairwise_ne,List.pairwise_flatMap]
  constructor
  ·intro x hx
   rw [List.pairwise_map]
   refine List.Pairwise.imp_of_mem (fun {y z} hy hz h e=>?_) (List.nodup_iff_pairwise_ne.mp (A.ends_nd .tied))
   rcases ord_eq e with ⟨_,w⟩ | ⟨w,_⟩
   ·exact h w
   ·exact A.disj hx hz w
  ·refine List.Pairwise.imp_of_mem (fun {x y} hx hy h c hc d hd e=>?_) (List.nodup_iff_pairwise_ne.mp (A.ends_nd .bare))
   obtain ⟨u,hu,rfl⟩:=List.mem_map.mp hc
   obtain ⟨v,hv,rfl⟩:=List.mem_map.mp hd
   rcases ord_eq e with ⟨w,_⟩ | ⟨w,_⟩
   ·exact h w
   ·exact A.disj hx hv w
 ·rw [List.nodup_iff_pairwise_ne,List.pairwise_flatMap]
  refine ⟨fun th hth=>List.nodup_iff_pairwise_ne.mp (split_nd (A.good hth).nd),?_⟩
  refine List.Pairwise.imp_of_mem (fun {s t} hs ht h c hc d hd e=>?_) A.hs
  obtain ⟨i,j,x,y,_,_,g3,g4,rfl⟩:=mem_split.mp hc
  obtain ⟨i',j',x',y',_,_,g3',g4',rfl⟩:=mem_split.mp hd
  have m1:=List.mem_of_getElem? g3
  have eq:s = t:=by
   rcases ord_eq e with ⟨w,_⟩ | ⟨w,_⟩
   ·exact A.same hs ht m1 (w ▸ List.mem_of_getElem? g3')
   ·exact A.same hs ht m1 (w ▸ List.mem_of_getElem? g4')
  subst eq
  omega
 ·intro c hc d hd e
  subst e
  obtain ⟨x,hx,y,hy,h⟩:=mem_cross.mp hc
  obtain ⟨th,hth,hs⟩:=List.mem_flatMap.mp hd
  obtain ⟨i,j,u,v,_,_,g3,g4,rfl⟩:=mem_split.mp hs
  obtain ⟨t1,a1,a2,a3⟩:=mem_ends.mp hx
  obtain ⟨t2,b1,b2,b3⟩:=mem_ends.mp hy
  have mu:=List.mem_of_getElem? g3
  have mv:=List.mem_of_getElem? g4
  have w:t1 = th∧t2 = th:=by
   rcases ord_eq h with ⟨w1,w2⟩ | ⟨w1,w2⟩
   ·exact ⟨A.same a1 hth a3 (w1 ▸ mu),A.same b1 hth b3 (w2 ▸ mv)⟩
   ·exact ⟨A.same a1 hth a3 (w2 ▸ mv),A.same b1 hth b3 (w1 ▸ mu)⟩
  rw [w.1] at a2
  rw [w.2,a2] at b2
  cases b2
 ·rw [List.nodup_iff_pairwise_ne,List.pairwise_map]
  exact (List.nodup_iff_pairwise_ne.mp (A.ends_nd .tied)).imp fun h e=>h (congrArg Prod.fst e)
 ·intro c hc d hd e
  subst e
  obtain ⟨z,hz,rfl⟩:=List.mem_map.mp hd
  rcases List.mem_append.mp hc with hc | hc
  ·obtain ⟨x,hx,y,hy,h⟩:=mem_cross.mp hc
   have ho:=ord_of (Nat.le_refl z)
   rw [← ho] at h
   refine A.disj hx hy ?_
   rcases ord_eq h with ⟨w1,w2⟩ | ⟨w1,w2⟩ <;> omega
  ·obtain ⟨th,hth,hs⟩:=List.mem_flatMap.mp hc
   obtain ⟨i,j,u,v,h1,_,g3,g4,h⟩:=mem_split.mp hs
   have ho:=ord_of (Nat.le_refl z)
   rw [← ho] at h
   have euv:u = v:=by rcases ord_eq h with ⟨w1,w2⟩ | ⟨w1,w2⟩ <;> omega
   rw [euv] at g3
   have:=(A.good hth).one g3 g4
   omega
theorem AllT.bound (A:AllT N a b ths) {c:Nat×Nat} (h:c∈pairsL ths):c.1≤c.2∧c.2 < N:=by
 have bo:∀ {x y:Nat},x < N→y < N→(ord x y).1≤(ord x y).2∧(ord x y).2 < N:=fun {x y} hx hy=>⟨ord_le x y,by unfold ord;simp only;omega⟩
 rcases mem_pairs.mp h with ⟨x,hx,y,hy,rfl⟩ | ⟨th,hth,h⟩ | ⟨x,hx,rfl⟩
 ·obtain ⟨t1,a1,a2,a3⟩:=mem_ends.mp hx
  obtain ⟨t2,b1,b2,b3⟩:=mem_ends.mp hy
  exact bo (A.lt a1 a3) (A.lt b1 b3)
 ·obtain ⟨i,j,u,v,_,_,g3,g4,rfl⟩:=mem_split.mp h
  exact bo (A.lt hth (List.mem_of_getElem? g3)) (A.lt hth (List.mem_of_getElem? g4))
 ·obtain ⟨t2,b1,b2,b3⟩:=mem_ends.mp hx
  exact ⟨Nat.le_refl _,A.lt b1 b3⟩
end
end Th

namespace Mir
open PySem L2
variable (K:PySem.W.Frag)
theorem IsThr.uniq {n:Nat} {ms os:List Nat} {t1 t2:List (Th.Kd×List Nat)} (h1:IsThr n ms os t1) (h2:IsThr n ms os t2):t1 = t2:=by
 refine List.Perm.eq_of_pairwise (le:=fun p q=>Th.mn p.2 < Th.mn q.2) (fun p q _ _ z1 z2=>?_) h1.2 h2.2 (h1.1.trans h2.1.symm)
 omega
theorem IsThr.flat {n:Nat} {ms os:List Nat} {ths:List (Th.Kd×List Nat)} (W:WorkL n ms) (WO:WorkL n os) (h:IsThr n ms os ths):(ths.map (·.2)).flatten.Perm (List.range (2 * n)):=Th.un_flat (two_of W WO) h.1
theorem IsThr.good {n:Nat} {ms os:List Nat} {ths:List (Th.Kd×List Nat)} (W:WorkL n ms) (WO:WorkL n os) (h:IsThr n ms os ths) {th:Th.Kd×List Nat} (ht:th∈ths):Th.GoodT (2 * n) (at0 ms) (at0 os) th.1 th.2:=Th.un_good (two_of W WO) (h.1.mem_iff.mp ht)
theorem ThT.at {H:Hp} {l:Addr} {ths:List (Th.Kd×List Nat)} (h:ThT H l ths):∃ ts:List Addr,H l = some (.lst (ts.map V.ref))∧ts.length = ths.length∧∀ (i:Nat) (th:Th.Kd×List Nat),ths[i]? = some th→∃ t e:Addr,ts[i]? = some t∧H t = some (.tup [.str (ks th.1),.ref e])∧H e = some (.tup (nV th.2)):=by
 obtain ⟨xs,⟨ts,h1,h2,h3⟩,h4,rfl⟩:=h
 refine ⟨ts,h1,by rw [List.length_map];exact h2,fun i th hi=>?_⟩
 rw [List.getElem?_map] at hi
 cases hx:xs[i]? with
 | none=>rw [hx] at hi;cases hi
 | some x =>
  rw [hx] at hi
  obtain rfl:=Option.some.inj hi
  have hl:i < ts.length:=by rw [h2];exact (List.getElem?_eq_some_iff.mp hx).1
  exact ⟨ts[i],x.2.1,List.getElem?_eq_getElem hl,h3 i _ x (List.getElem?_eq_getElem hl) hx,h4 x (List.mem_of_getElem? hx)⟩
end Mir

set_option maxHeartbeats 1000000
namespace PySem.SeqAt
open AutoSeq1 (wpAny_loadPart')
open MeetsSeq MeetsSeq2 MeetsSeq3 SeqRoads2
theorem tuple_lt2 (l m:Addr) (a b c d:Int) (t1 t2 t3 t4:Tok) (n n2:Nat) (dd dd2:Option Addr) (sl sl2:Array (Option Value)) :
  Meets (Builtin.«tuple.__lt__» ⟨[.ref l,.ref m],[]⟩)
   (fun A R s=>s.heap.get? l = some { cls:=.type "tuple",dict:=dd,data:=.seq #[.int a t1,.int b t2] n,slots:=sl }∧s.heap.get? m = some { cls:=.type "tuple",dict:=dd2,data:=.seq #[.int c t3,.int d t4] n2,slots:=sl2 } ∧
    R (.ok (.ret (.bool (decide (a < c∨a = c∧b < d))))) s) :=
 .of_wp fun prog w A R s h=>by
  obtain ⟨hp,g,dr,tk,os⟩:=s
  obtain ⟨hl,hb,h⟩:=h
  have f2:=AutoSeq1.sub_tuple_tuple
  have rc:∀ (x y:Int) (u v:Tok) (Q':Value→Shared→Prop) (E':Value→Shared→Prop) (s':Shared),Q' (.bool (decide (x < y))) s'→wpAny (model prog w) A.in1 (richCompare .Lt (.int x u) (.int y v)) Q' E' s':=fun x y u v Q' E' s' q=>wpAny_lt_int q
  by_cases e1:a = c
  ·have g1:(a == c) = true:=beq_iff_eq.mpr e1
   by_cases e2:b = d
   ·have g2:(b == d) = true:=beq_iff_eq.mpr e2
    have g3:decide (a < c∨a = c∧b < d) = false:=decide_eq_false (by omega)
    rw [g3] at h
    wp_walk using wpAny_loadPart' hl,wpAny_loadPart' hb,wpAny_eqBool_int
    exact ⟨_,rfl,h⟩
   ·have g2:(b == d) = false:=beq_eq_false_iff_ne.mpr e2
    have g3:decide (a < c∨a = c∧b < d) = decide (b < d):=decide_eq_decide.mpr (by omega)
    rw [g3] at h
    wp_walk using wpAny_loadPart' hl,wpAny_loadPart' hb,wpAny_eqBool_int,rc
    exact ⟨_,rfl,h⟩
  ·have g1:(a == c) = false:=beq_eq_false_iff_ne.mpr e1
   have g3:decide (a < c∨a = c∧b < d) = decide (a < c):=decide_eq_decide.mpr (by omega)
   rw [g3] at h
   wp_walk using wpAny_loadPart' hl,wpAny_loadPart' hb,wpAny_eqBool_int,rc
   exact ⟨_,rfl,h⟩
theorem rc_lt2 {prog:Program} {w:World} {A:Around} {s:Shared} {E:Value→Shared→Prop} {Q:Value→Shared→Prop} {l m:Addr} {a b c d:Int} {t1 t2 t3 t4:Tok} (hl:s.heap.IsTuple l #[.int a t1,.int b t2]) (hb:s.heap.IsTuple m #[.int c t3,.int d t4]) (hu:A.units < cLine)
  (h:Q (.bool (decide (a < c∨a = c∧b < d))) s):wpAny (model prog w) A (richCompare .Lt (.ref l) (.ref m)) Q E s:=by
 obtain ⟨⟨cl,d1,da,sl⟩,ho,rfl,n,rfl⟩:=id hl
 obtain ⟨⟨cl2,d2,da2,sl2⟩,ho2,rfl,n2,rfl⟩:=id hb
 exact richCompare_meets_room (op:=.Lt) ⟨_,ho,rfl⟩ ⟨_,ho2,rfl⟩ F.slot_tuple_lt F.entry_tuple_lt (F.args_tuple_lt_2 _ _) (tuple_lt2 l m a b c d t1 t2 t3 t4 n n2 d1 d2 sl sl2)
  ⟨ho,ho2,show Value.bool (decide (a < c∨a = c∧b < d))≠Value.notImplemented∧Q (.bool (decide (a < c∨a = c∧b < d))) s from ⟨(fun x=>nomatch x),h⟩⟩ hu
end PySem.SeqAt

set_option maxHeartbeats 1000000
namespace PySem
section
variable {prog:Program} {w:World} {A:Around} {E:Value→Shared→Prop} {s:Shared}
theorem min_loop2 {I L:Addr} {fp wr:List Addr} {St:Nat→Heap→Prop} {x y:Value} {r:Bool} {R:Result→Shared→Prop} {z:Shared} {c:Nat} (W:Walks prog w A.in1 I fp wr 2 (fun i v=>(#[x,y]:Array Value)[i]? = some v) St) (nL:L ∉ fp) (st:St 0 z.heap)
  (hL:z.heap.get? L = some { cls:=.type "list",dict:=none,data:=.seq #[] c,slots:=#[] })
  (hcmp:∀ (h':Heap) (tk:Nat) (E':Value→Shared→Prop) (Q':Value→Shared→Prop),(∀ q o,q ∉ wr→q≠L→z.heap.get? q = some o→h'.get? q = some o)→Q' (.bool r) { z with heap:=h',toks:=tk }→wpAny (model prog w) A.in1 (richCompare .Lt y x) Q' E' { z with heap:=h',toks:=tk })
  (hR:∀ h' tk,(∀ q o,q ∉ wr→q≠L→z.heap.get? q = some o→h'.get? q = some o)→R (.ok (.ret (if r = true then y else x))) { z with heap:=h',toks:=tk }) :
  codeAny (model prog w) A (.builtin "min.loop" ⟨[.ref I,.none,.ref L],[]⟩) R z:=by
 have nm:(toString "min" ++ toString ".loop":String) = "min.loop":=by decide
 have nw:L ∉ wr:=fun q=>nL (W.sub _ q)
 have fin:∀ (v:Value) (h1:Heap) (k1 c1:Nat),St 2 h1→h1.get? L = some { cls:=.type "list",dict:=none,data:=.seq #[v,v] c1,slots:=#[] }→(∀ q o,q ∉ wr→q≠L→z.heap.get? q = some o→h1.get? q = some o)→v = (if r = true then y else x) →
   codeAny (model prog w) A (.builtin "min.loop" ⟨[.ref I,.none,.ref L],[]⟩) R { z with heap:=h1,toks:=k1 }:=fun v h1 k1 c1 s1 l1 kp ev=>by
  refine codeAny_builtin F.entry_min_loop ?_
  rw [Around.under_plainId F.plain_min_loop _]
  show wpAny _ A.in1 (seqItems? (.ref L) >>= _) _ _ { z with heap:=h1,toks:=k1 }
  refine wpAny_bind (wpAny_seqItems l1 rfl ?_)
  show wpAny _ A.in1 (tryCatch (pyNext (.ref I)) _ >>= _) _ _ { z with heap:=h1,toks:=k1 }
  refine wpAny_bind (wpAny_tryCatch (W.done _ _ _ s1 fun h2 k2 kq=>?_))
  have l2:=kq L _ nw l1
  show wpAny _ A.in1 (updateSeq L (fun _=>#[]) >>= _) _ _ _
  refine wpAny_bind (wpAny_updateSeq l2 rfl (wpAny_bind (wpAny_letGo (wpAny_pure ?_))))
  rw [ev]
  exact hR _ k2 fun q o q1 q2 e=>(Heap.get?_update_other _ _ (Ne.symm q2)).trans (kq q o q1 (kp q o q1 q2 e))
 refine codeAny_builtin F.entry_min_loop ?_
 rw [Around.under_plainId F.plain_min_loop _]
 show wpAny _ A.in1 (seqItems? (.ref L) >>= _) _ _ z
 refine wpAny_bind (wpAny_seqItems hL rfl ?_)
 show wpAny _ A.in1 (tryCatch (pyNext (.ref I)) _ >>= _) _ _ z
 refine wpAny_bind (wpAny_tryCatch (W.item 0 z _ _ (by decide) st fun v h1 k1 pv s1 kq=>?_))
 obtain rfl:v = x:=(Option.some.inj pv).symm
 have l1:=kq L _ nw hL
 show wpAny _ A.in1 (updateSeq L (fun _=>#[v,v]) >>= _) _ _ _
 refine wpAny_bind (wpAny_updateSeq l1 rfl ?_)
 rw [nm]
 refine wpAny_pure ⟨plainId_quiet F.plain_min_loop _,codeAny_builtin F.entry_min_loop ?_⟩
 rw [Around.under_plainId F.plain_min_loop _]
 obtain ⟨c2,l2⟩:∃ c2,(h1.update L (Obj.mapSeq fun _=>#[v,v])).get? L = some { cls:=.type "list",dict:=none,data:=.seq #[v,v] c2,slots:=#[] }:=⟨_,PyProof.Rows.get?_update_seq l1 fun _=>#[v,v]⟩
 have s2:St 1 _:=W.frame 1 h1 (h1.update L (Obj.mapSeq fun _=>#[v,v])) s1 fun q hq o e=>(Heap.get?_update_other _ _ (fun u:L = q=>nL (by rw [u];exact hq))).trans e
 have kp2:∀ q o,q ∉ wr→q≠L→z.heap.get? q = some o→(h1.update L (Obj.mapSeq fun _=>#[v,v])).get? q = some o:=fun q o q1 q2 e=>(Heap.get?_update_other _ _ (Ne.symm q2)).trans (kq q o q1 e)
 show wpAny (model prog w) A.in1 _ _ _ { z with heap:=h1.update L (Obj.mapSeq fun _=>#[v,v]),toks:=k1 }
 generalize h1.update L (Obj.mapSeq fun _=>#[v,v]) = h2 at l2 s2 kp2
 show wpAny _ A.in1 (seqItems? (.ref L) >>= _) _ _ { z with heap:=h2,toks:=k1 }
 refine wpAny_bind (wpAny_seqItems l2 rfl ?_)
 show wpAny _ A.in1 (tryCatch (pyNext (.ref I)) _ >>= _) _ _ { z with heap:=h2,toks:=k1 }
 refine wpAny_bind (wpAny_tryCatch (W.item 1 _ _ _ (by decide) s2 fun u h3 k3 pu s3 kr=>?_))
 obtain rfl:u = y:=(Option.some.inj pu).symm
 have l3:=kr L _ nw l2
 have kp3:∀ q o,q ∉ wr→q≠L→z.heap.get? q = some o→h3.get? q = some o:=fun q o q1 q2 e=>kr q o q1 (kp2 q o q1 q2 e)
 show wpAny _ A.in1 (tryCatch (holding [u,u] (richCompare .Lt u v >>= _)) _ >>= _) _ _ { z with heap:=h3,toks:=k3 }
 refine wpAny_bind (wpAny_tryCatch (wpAny_holding (wpAny_bind (hcmp h3 k3 _ _ kp3 ?_))))
 refine wpAny_bind (wpAny_holding (wpAny_truthy_bool (wpAny_bind (wpAny_letGo (wpAny_pure ?_)))))
 cases r with
 | true =>
  simp only [if_true]
  refine wpAny_bind (wpAny_updateSeq l3 rfl (wpAny_bind (wpAny_letGo ?_)))
  rw [nm]
  obtain ⟨c4,l4⟩:∃ c4,(h3.update L (Obj.mapSeq fun _=>#[u,u])).get? L = some { cls:=.type "list",dict:=none,data:=.seq #[u,u] c4,slots:=#[] }:=⟨_,PyProof.Rows.get?_update_seq l3 fun _=>#[u,u]⟩
  refine wpAny_pure ⟨plainId_quiet F.plain_min_loop _,fin u _ k3 c4 (W.frame 2 h3 _ s3 fun q hq o e=>(Heap.get?_update_other _ _ (fun g:L = q=>nL (by rw [g];exact hq))).trans e) l4 (fun q o q1 q2 e=>(Heap.get?_update_other _ _ (Ne.symm q2)).trans (kp3 q o q1 q2 e)) rfl⟩
 | false =>
  simp only [Bool.false_eq_true,if_false]
  refine wpAny_bind (wpAny_letGo ?_)
  rw [nm]
  exact wpAny_pure ⟨plainId_quiet F.plain_min_loop _,fin v h3 k3 c2 s3 l3 kp3 rfl⟩
theorem min_two_at {a b:Value} {r:Bool} {Q:Value→Shared→Prop} (hh:A.handled = none)
  (hcmp:∀ (h':Heap) (tk:Nat) (E':Value→Shared→Prop) (Q':Value→Shared→Prop),(∀ c o,s.heap.get? c = some o→h'.get? c = some o)→Q' (.bool r) { s with heap:=h',toks:=tk }→wpAny (model prog w) A.in1 (richCompare .Lt b a) Q' E' { s with heap:=h',toks:=tk })
  (h:∀ h' tk,(∀ c o,s.heap.get? c = some o→h'.get? c = some o)→Q (if r = true then b else a) { s with heap:=h',toks:=tk }) :
  wpAny (model prog w) A (call (.builtin "min") [a,b]) Q E s:=by
 have nm:(toString "min" ++ toString ".loop":String) = "min.loop":=by decide
 have hT:(s.heap.push { cls:=.type "tuple",data:=.seq #[a,b] }).IsTuple s.heap.objs.size #[a,b]:=⟨_,Heap.get?_push_size _ rfl,rfl,0,rfl⟩
 have z1:(s.heap.push { cls:=.type "tuple",data:=.seq #[a,b] }).objs.size = s.heap.objs.size + 1:=Heap.size_push ..
 refine call_function_tree F.kind_min F.plain_min F.entry_min (F.args_min2 _ _) ?_
 refine wpAny_bind (m:=Builtin.Builtins.bindParams "min" ["key","default"] 0 ⟨[],[]⟩) (wpAny_of_eq (show Builtin.Builtins.bindParams "min" ["key","default"] 0 ⟨[],[]⟩ = pure [none,none] from rfl) (wpAny_bind (m:=newTuple [a,b]) (wpAny_newObj_type (wpAny_bind (wpAny_pyIter_tuple hT ?_)))))
 have W:=Walks.tuple (prog:=prog) (w:=w) (A:=A.in1) hh (s.heap.objs.size + 1) s.heap.objs.size (Nat.ne_of_lt (Nat.lt_succ_self _)) #[a,b]
 show wpAny (model prog w) A.in1 _ _ _ { s with heap:=(s.heap.push { cls:=.type "tuple",data:=.seq #[a,b] }).push { cls:=.type "tuple_iterator",data:=.fields #[.ref s.heap.objs.size,.int 0 0] } }
 rw [z1]
 refine wpAny_bind (wpAny_newObj_type ?_)
 rw [nm]
 have z2:((s.heap.push { cls:=.type "tuple",data:=.seq #[a,b] }).push { cls:=.type "tuple_iterator",data:=.fields #[.ref s.heap.objs.size,.int 0 0] }).objs.size = s.heap.objs.size + 2:=by rw [Heap.size_push,z1]
 have g1:((s.heap.push { cls:=.type "tuple",data:=.seq #[a,b] }).push { cls:=.type "tuple_iterator",data:=.fields #[.ref s.heap.objs.size,.int 0 0] }).get? (s.heap.objs.size + 1) = some { cls:=.type "tuple_iterator",data:=.fields #[.ref s.heap.objs.size,.int 0 0] }:=z1 ▸ Heap.get?_push_size _ rfl
 have up:∀ q o,s.heap.get? q = some o→(((s.heap.push { cls:=.type "tuple",data:=.seq #[a,b] }).push { cls:=.type "tuple_iterator",data:=.fields #[.ref s.heap.objs.size,.int 0 0] }).push { cls:=.type "list",data:=.seq #[] }).get? q = some o∧q ∉ [s.heap.objs.size + 1]∧q≠s.heap.objs.size + 2:=fun q o e=>by
  have lt:q < s.heap.objs.size:=Heap.lt_size e
  refine ⟨Heap.get?_push_of_some _ (Heap.get?_push_of_some _ (Heap.get?_push_of_some _ e)),fun y=>?_,Nat.ne_of_lt (Nat.lt_succ_of_lt (Nat.lt_succ_of_lt lt))⟩
  exact absurd (List.mem_singleton.mp y) (Nat.ne_of_lt (Nat.lt_succ_of_lt lt))
 refine wpAny_pure ⟨plainId_quiet F.plain_min_loop _,?_⟩
 show codeAny (model prog w) A (.builtin "min.loop" ⟨[.ref (s.heap.objs.size + 1),.none,.ref ((s.heap.push { cls:=.type "tuple",data:=.seq #[a,b] }).push { cls:=.type "tuple_iterator",data:=.fields #[.ref s.heap.objs.size,.int 0 0] }).objs.size],[]⟩) _ { s with heap:=(((s.heap.push { cls:=.type "tuple",data:=.seq #[a,b] }).push { cls:=.type "tuple_iterator",data:=.fields #[.ref s.heap.objs.size,.int 0 0] }).push { cls:=.type "list",data:=.seq #[] }) }
 rw [z2]
 refine min_loop2 (r:=r) W (fun y=>?_) ⟨⟨_,Heap.get?_push_of_some _ g1,rfl,rfl⟩,(hT.push _).push _⟩ (c:=0) (z2 ▸ Heap.get?_push_size _ rfl) (fun h' tk E' Q' kp q=>?_) fun h' tk kp=>?_
 ·rcases List.mem_cons.mp y with y | y
  ·exact absurd y (Nat.ne_of_gt (Nat.lt_succ_self _))
  ·exact absurd (List.mem_singleton.mp y) (Nat.ne_of_gt (Nat.lt_succ_of_lt (Nat.lt_succ_self _)))
 ·exact hcmp h' tk E' Q' (fun q o e=>kp q o (up q o e).2.1 (up q o e).2.2 (up q o e).1) q
 ·exact h h' tk fun q o e=>kp q o (up q o e).2.1 (up q o e).2.2 (up q o e).1
end
end PySem
namespace L2
open PySem PySem.Spec PyProof.Rows
section
variable {X:Cx}
theorem call_min2T (hc:X.calm = true) (hu:X.A.units + 1 < cLine):CallR X (.builtin "min") (fun xs H Q=>∃ (p q:Addr) (a b c d:Int),xs = [.ref p,.ref q]∧SqT X.K H p [.int a,.int b]∧SqT X.K H q [.int c,.int d]∧Q (.ref (if c < a∨c = a∧d < b then q else p)) H):=by
 intro pins s σ H xs us Q I r h
 obtain ⟨p,q,a,b,c,d,rfl,hp,hq,k⟩:=h
 obtain ⟨u,w',rfl,ru,rw'⟩:=vals2 r
 cases ru
 cases rw'
 obtain ⟨i1,v1,p1,_⟩:=I.tuple hp
 obtain ⟨i2,v2,p2,_⟩:=I.tuple hq
 obtain ⟨x1,x2,rfl,⟨t1,rfl⟩,⟨t2,rfl⟩⟩:=vals2 v1
 obtain ⟨y1,y2,rfl,⟨t3,rfl⟩,⟨t4,rfl⟩⟩:=vals2 v2
 have g1:s.heap.IsTuple p #[.int a t1,.int b t2]:=p1
 have g2:s.heap.IsTuple q #[.int c t3,.int d t4]:=p2
 refine min_two_at (r:=decide (c < a∨c = a∧d < b)) (I.ok.hd hc) (fun h' tk E' Q' kp y=>?_) fun h' tk kp=>?_
 ·exact SeqAt.rc_lt2 (s:={ s with heap:=h',toks:=tk }) (g2.at fun o e=>kp _ _ e) (g1.at fun o e=>kp _ _ e) (by show X.A.in1.units < cLine;exact hu) y
 ·refine ⟨.ref (if c < a∨c = a∧d < b then q else p),H,I.kept kp,?_,k⟩
  by_cases e:c < a∨c = a∧d < b
  ·rw [if_pos e,if_pos (decide_eq_true e)];rfl
  ·rw [if_neg e,if_neg (by rw [decide_eq_false e];decide)];rfl
theorem lst2 {its:List Value} {x y:Int} (r:Vals [.int x,.int y] its):∃ t u,its = [.int x t,.int y u]:=by
 obtain ⟨a,b,rfl,⟨t,rfl⟩,⟨u,rfl⟩⟩:=vals2 r
 exact ⟨t,u,rfl⟩
theorem call_minL2 (hc:X.calm = true):CallR X (.builtin "min") (fun xs H Q=>∃ (p:Addr) (x y:Int),xs = [.ref p]∧SqL X.K H p [.int x,.int y]∧Q (.int (min x y)) H):=by
 intro pins s σ H xs us Q I r h
 obtain ⟨p,x,y,rfl,hq,q⟩:=h
 obtain ⟨u,rfl,ru⟩:=r.one
 cases ru
 obtain ⟨its,rv,pl,hz⟩:=I.list hq
 obtain ⟨t1,t2,rfl⟩:=lst2 rv
 have hl:=pl.isList
 have hlt:p < s.heap.objs.size:=let ⟨_,e,_⟩:=hl;Heap.lt_size e
 refine call_min_walk (wpAny_pyIter_list hl ?_)
 refine ⟨_,_,_,_,_,_,_,rfl,Walks.list (A:=X.A.in1) (I.ok.hd hc) s.heap.objs.size p (Nat.ne_of_lt hlt) #[.int x t1,.int y t2],⟨⟨_,Heap.get?_push_size _ rfl,rfl,rfl⟩,hl.push _⟩,fun b hb=>?_,(by show 0 < 2;decide),
  CmpOf.ints_lt (fun i=>if i = 0 then x else y) (fun i v hv=>?_),fun v h' tk hP hk=>?_⟩
 ·rw [Heap.size_push]
  rcases List.mem_cons.mp hb with e | e
  ·rw [e];exact Nat.lt_succ_self _
  ·rw [List.mem_singleton.mp e];exact Nat.lt_succ_of_lt hlt
 ·match i,hv with
  | 0,hv=>exact ⟨t1,(Option.some.inj hv).symm⟩
  | 1,hv=>exact ⟨t2,(Option.some.inj hv).symm⟩
  | i + 2,hv=>exact absurd hv (by simp)
 ·have hold:∀ c o,s.heap.get? c = some o→h'.get? c = some o:=fun c o e=>hk c o (fun z=>absurd (List.mem_singleton.mp z) (Nat.ne_of_lt (Heap.lt_size e))) (Heap.get?_push_of_some _ e)
  refine ⟨.int (min x y),H,I.kept hold,?_,q⟩
  by_cases g:y < x
  ·have e:argBest (fun i j=>decide ((if i = 0 then x else y) < (if j = 0 then x else y))) 1 = 1:=by simp [argBest,g]
   have hP:(#[.int x t1,.int y t2]:Array Value)[argBest (fun i j=>decide ((if i = 0 then x else y) < (if j = 0 then x else y))) 1]? = some v:=hP
   rw [e] at hP
   have hv:v = .int y t2:=(Option.some.inj hP).symm
   exact ⟨t2,by rw [hv,Int.min_eq_right (by omega)]⟩
  ·have e:argBest (fun i j=>decide ((if i = 0 then x else y) < (if j = 0 then x else y))) 1 = 0:=by simp [argBest,g]
   have hP:(#[.int x t1,.int y t2]:Array Value)[argBest (fun i j=>decide ((if i = 0 then x else y) < (if j = 0 then x else y))) 1]? = some v:=hP
   rw [e] at hP
   have hv:v = .int x t1:=(Option.some.inj hP).symm
   exact ⟨t1,by rw [hv,Int.min_eq_left (by omega)]⟩
theorem call_maxL2 (hc:X.calm = true):CallR X (.builtin "max") (fun xs H Q=>∃ (p:Addr) (x y:Int),xs = [.ref p]∧SqL X.K H p [.int x,.int y]∧Q (.int (max x y)) H):=by
 intro pins s σ H xs us Q I r h
 obtain ⟨p,x,y,rfl,hq,q⟩:=h
 obtain ⟨u,rfl,ru⟩:=r.one
 cases ru
 obtain ⟨its,rv,pl,hz⟩:=I.list hq
 obtain ⟨t1,t2,rfl⟩:=lst2 rv
 have hl:=pl.isList
 have hlt:p < s.heap.objs.size:=let ⟨_,e,_⟩:=hl;Heap.lt_size e
 refine call_max_walk (wpAny_pyIter_list hl ?_)
 refine ⟨_,_,_,_,_,_,_,rfl,Walks.list (A:=X.A.in1) (I.ok.hd hc) s.heap.objs.size p (Nat.ne_of_lt hlt) #[.int x t1,.int y t2],⟨⟨_,Heap.get?_push_size _ rfl,rfl,rfl⟩,hl.push _⟩,fun b hb=>?_,(by show 0 < 2;decide),
  CmpOf.ints_gt (fun i=>if i = 0 then x else y) (fun i v hv=>?_),fun v h' tk hP hk=>?_⟩
 ·rw [Heap.size_push]
  rcases List.mem_cons.mp hb with e | e
  ·rw [e];exact Nat.lt_succ_self _
  ·rw [List.mem_singleton.mp e];exact Nat.lt_succ_of_lt hlt
 ·match i,hv with
  | 0,hv=>exact ⟨t1,(Option.some.inj hv).symm⟩
  | 1,hv=>exact ⟨t2,(Option.some.inj hv).symm⟩
  | i + 2,hv=>exact absurd hv (by simp)
 ·have hold:∀ c o,s.heap.get? c = some o→h'.get? c = some o:=fun c o e=>hk c o (fun z=>absurd (List.mem_singleton.mp z) (Nat.ne_of_lt (Heap.lt_size e))) (Heap.get?_push_of_some _ e)
  refine ⟨.int (max x y),H,I.kept hold,?_,q⟩
  by_cases g:y > x
  ·have e:argBest (fun i j=>decide ((if i = 0 then x else y) > (if j = 0 then x else y))) 1 = 1:=by simp [argBest,g]
   have hP:(#[.int x t1,.int y t2]:Array Value)[argBest (fun i j=>decide ((if i = 0 then x else y) > (if j = 0 then x else y))) 1]? = some v:=hP
   rw [e] at hP
   have hv:v = .int y t2:=(Option.some.inj hP).symm
   exact ⟨t2,by rw [hv,Int.max_eq_right (by omega)]⟩
  ·have e:argBest (fun i j=>decide ((if i = 0 then x else y) > (if j = 0 then x else y))) 1 = 0:=by simp [argBest,g]
   have hP:(#[.int x t1,.int y t2]:Array Value)[argBest (fun i j=>decide ((if i = 0 then x else y) > (if j = 0 then x else y))) 1]? = some v:=hP
   rw [e] at hP
   have hv:v = .int x t1:=(Option.some.inj hP).symm
   exact ⟨t1,by rw [hv,Int.max_eq_left (by omega)]⟩
end
end L2

namespace SrtR
open PySem PyProof.Rows PySem.W
section
variable {prog:Program} {w:World} {A:Around} {E:Value→Shared→Prop} {s:Shared}
theorem sorted_outR [RkP] {vs:List Value} {rk:Value→Int} (hr:∀ p:Keyed,num p = rk p.1) {xs:Array Keyed} (hp:xs.Perm (pairsOf vs)) (hs:SortedTo xs (pairsOf vs).size):(xs.map (·.2)).toList.Perm vs∧(xs.map (·.2)).toList.Pairwise fun u v=>rk u≤rk v:=by
 have hl:=Array.perm_iff_toList_perm.mp hp
 have ez:(pairsOf vs).toList = vs.zip vs:=by unfold pairsOf;simp
 have same:∀ p∈xs.toList,p.1 = p.2:=fun p hpm=>by
  have z:=hl.mem_iff.mp hpm
  rw [ez] at z
  obtain ⟨i,hi,e⟩:=List.getElem_of_mem z
  rw [List.getElem_zip] at e
  rw [← e]
 rw [Array.toList_map]
 constructor
 ·have z:=hl.map (·.2)
  rw [ez] at z
  have e2:(vs.zip vs).map (·.2) = vs:=by rw [List.map_snd_zip];exact Nat.le_refl _
  rw [e2] at z
  exact z
 ·rw [List.pairwise_map]
  refine List.pairwise_iff_getElem.mpr fun i j hi hj hij=>?_
  have hsz:xs.size = (pairsOf vs).size:=hp.size_eq
  have hi':i < xs.size:=by simpa using hi
  have hj':j < xs.size:=by simpa using hj
  have z:=hs i j (by omega) (by omega)
  rw [num_K (getElem?_pos xs i hi'),num_K (getElem?_pos xs j hj'),hr,hr] at z
  have e1:=same _ (List.getElem_mem hi)
  have e2:=same _ (List.getElem_mem hj)
  rw [← e1,← e2]
  simpa using z
theorem sort_few {a:Addr} {vs:List Value} {n:Nat} {P:PySem.Fin→Shared→Prop} (ho:s.heap.get? a = some (seqObj "list" vs.toArray n)) (h2:vs.length < 2)
  (h:P (.done (.ret .none)) { s with heap:=sortedHeap s.heap a vs vs.toArray }):wpAny (model prog w) A (Builtin.«list.sort» ⟨[.ref a],[]⟩) P E s:=by
 rw [list_sort_plain]
 obtain ⟨k,hk⟩:∃ k,(s.heap.update a (Obj.mapSeq fun _=>#[])).get? a = some (seqObj "list" #[] k):=⟨_,get?_update_seq ho (fun _=>#[])⟩
 have hk2:(((s.heap.update a (Obj.mapSeq fun _=>#[])).push (seqObj "tuple" vs.toArray 0)).push (seqObj "list" #[] 0)).get? a = some (seqObj "list" #[] k) :=
  Heap.get?_push_of_some _ (Heap.get?_push_of_some _ hk)
 have hz1:vs.toArray.size≤sizeLine:=by rw [List.size_toArray,sizeLine_eq];omega
 have hz2:vs.toArray.toList.length≤sizeLine:=by rw [sizeLine_eq];simp;omega
 refine wpAny_bind (listItems_at ho rfl (wpAny_bind (listUpdate_at ho rfl (wpAny_bind (seqEpoch_at hk rfl ?_)) hz1 (Nat.zero_le _))))
 refine wpAny_bind (wpAny_newTuple (wpAny_bind (wpAny_newList (wpAny_holding ?_) (Nat.zero_le _))) hz2)
 show wpAny (model prog w) A _ P E { s with heap:=((s.heap.update a (Obj.mapSeq fun _=>#[])).push (seqObj "tuple" vs.toArray 0)).push (seqObj "list" #[] 0) }
 dsimp only
 have z2:vs.toArray.size < 2:=by rw [List.size_toArray];omega
 rw [if_pos z2,if_pos z2]
 refine wpAny_bind (wpAny_pure (wpAny_bind (wpAny_pure ?_)))
 dsimp only
 have e:(arrOf (SortSt.mk' general' (vs.toArray.zip vs.toArray) #[] 7 none)).map (·.2) = vs.toArray:=by
  apply Array.toList_inj.mp
  show ((vs.toArray.zip vs.toArray).map (·.2)).toList = vs
  have e2:(vs.zip vs).map (·.2) = vs:=by rw [List.map_snd_zip];exact Nat.le_refl _
  simpa using e2
 rw [e]
 refine wpAny_bind (seqEpoch_at hk2 rfl (wpAny_bind (listUpdate_at hk2 rfl ?_ (hsz2:=by rw [List.size_toArray,sizeLine_eq];omega))))
 dsimp only
 rw [bne_self_eq_false]
 exact wpAny_pure h
theorem sorted_few {l:Addr} {vs:List Value} {Q:Value→Shared→Prop} (hl:s.heap.IsList l vs.toArray) (h2:vs.length < 2)
  (h:Q (.ref (s.heap.objs.size + 1)) { s with heap:=sortedAll s.heap vs vs.toArray }):wpAny (model prog w) A (call (.builtin "sorted") [.ref l]) Q E s:=by
 have z:((s.heap.push (seqObj "list" #[] 0)).update s.heap.objs.size (Obj.mapSeq (· ++ vs.toArray))).objs.size = s.heap.objs.size + 1:=(Heap.size_update _ _ _).trans (size_push' _ _)
 have hL:(((s.heap.push (seqObj "list" #[] 0)).update s.heap.objs.size (Obj.mapSeq (· ++ vs.toArray))).push (seqObj "list" vs.toArray 0)).get? (s.heap.objs.size + 1) = some (seqObj "list" vs.toArray 0):=z ▸ Heap.get?_push_size _ rfl
 refine Calls.call_function_entry kind_sorted plain_sorted entry_sorted (args_sorted1 _) ?_
 unfold Builtin.«sorted»
 refine wpAny_bind (m:=checkCount "sorted" 1 1 _) (wpAny_pure (wpAny_bind (collect_list hl (wpAny_bind (wpAny_newList ?_ (by rw [sizeLine_eq];omega))) (hsz:=by rw [sizeLine_eq];omega))))
 show wpAny _ _ _ _ _ { s with heap:=((s.heap.push (seqObj "list" #[] 0)).update s.heap.objs.size (Obj.mapSeq (· ++ vs.toArray))).push (seqObj "list" vs.toArray 0) }
 rw [z]
 exact wpAny_bind (wpAny_holding (wpAny_call_entry slot_list_sort ⟨_,hL,rfl⟩ entry_list_sort (sort_few hL h2 ⟨_,rfl,wpAny_pure ⟨_,rfl,h⟩⟩) (args_list_sort _)))
end
end SrtR

namespace SrtR
open PySem PySem.Spec PyProof.Rows PySem.W L2
noncomputable def kx:Th.Kd→Int
 | .bare=>0
 | .odd=>1
 | .ring=>2
 | .tied=>3
theorem kx_inj:∀ a b:Th.Kd,kx a = kx b→a = b:=by intro a b h;cases a <;> cases b <;> first | rfl | exact absurd h (by decide)
theorem kx_lt:∀ a b:Th.Kd,decide ((Mir.ks a).cps.toList < (Mir.ks b).cps.toList) = decide (kx a < kx b):=by intro a b;cases a <;> cases b <;> decide +kernel
noncomputable def Pr (h:Heap) (str:Bool) (v:Value) (r:Int):Prop:=∃ (t:Addr) (o:Obj) (n:Nat) (x:Value) (y a:Int) (u1 u2:Tok),v = .ref t∧h.get? t = some o∧o.cls = .type "tuple"∧o.data = .seq #[x,.int y u2] n∧0≤y∧y < 1000∧r = 1000 * a + y ∧
 ((str = false∧x = .int a u1)∨(str = true∧∃ k:Th.Kd,x = .str (Mir.ks k) u1∧a = kx k))
theorem Pr.uniq {h:Heap} {str:Bool} {v:Value} {r r':Int} (p:Pr h str v r) (q:Pr h str v r'):r = r':=by
 obtain ⟨t,o,n,x,y,a,u1,u2,rfl,e1,e2,e3,e4,e5,e6,e7⟩:=p
 obtain ⟨t',o',n',x',y',a',u1',u2',f0,f1,f2,f3,f4,f5,f6,f7⟩:=q
 injection f0 with f0
 subst f0
 rw [e1] at f1
 obtain rfl:=Option.some.inj f1
 rw [e3] at f3
 injection f3 with f3 _
 have f3:=congrArg Array.toList f3
 injection f3 with g1 g2
 injection g2 with g2 _
 injection g2 with g2 _
 subst g2
 rcases e7 with ⟨s1,e7⟩ | ⟨e8,k,e7,e9⟩
 ·rcases f7 with ⟨_,f7⟩ | ⟨f8,_⟩
  ·rw [e7,f7] at g1
   injection g1 with g1 _
   rw [e6,f6,g1]
  ·rw [s1] at f8;cases f8
 ·rcases f7 with ⟨f8,f7⟩ | ⟨_,k',f7,f9⟩
  ·rw [e8] at f8;cases f8
  ·rw [e7,f7] at g1
   injection g1 with g1 _
   have:=Mir.ks_inj _ _ g1
   rw [e6,f6,e9,f9,this]
open Classical in
noncomputable def rkO (h:Heap) (str:Bool) (v:Value):Int:=if e:∃ r,Pr h str v r then choose e else 0
theorem rk_of {h:Heap} {str:Bool} {v:Value} {r:Int} (p:Pr h str v r):rkO h str v = r:=by
 unfold rkO
 have e:∃ r,Pr h str v r:=⟨r,p⟩
 rw [dif_pos e]
 exact (Classical.choose_spec e).uniq p
@[reducible] noncomputable def prRk (h:Heap) (str:Bool):RkP:=⟨fun p=>∃ r,Pr h str p.1 r,fun p=>rkO h str p.1,tuples' true⟩
noncomputable def tyP (str:Bool):Value:=if str = true then .type "str" else .type "int"
theorem pr_asks {prog:Program} {w:World} {A:Around} {s:Shared} {h:Heap} {str:Bool} (k:∀ b o,h.get? b = some o→s.heap.get? b = some o):@Asks (prRk h str) prog w A s:=by
 letI:=prRk h str
 intro x y ⟨r,px⟩ ⟨r',py⟩ E Q q0
 have q:Q (decide (r < r')) s:=by
  have e1:num x = r:=rk_of px
  have e2:num y = r':=rk_of py
  rw [e1,e2] at q0
  exact q0
 clear q0
 obtain ⟨x1,x2⟩:=x
 obtain ⟨y1,y2⟩:=y
 obtain ⟨t,o,n,x,y,a,u1,u2,rfl,e1,e2,e3,e4,e5,e6,e7⟩:=px
 obtain ⟨t',o',n',x',y',a',u1',u2',rfl,f1,f2,f3,f4,f5,f6,f7⟩:=py
 show wpAny _ _ (keyLt' (tuples' true) (.ref t) (.ref t')) _ _ _
 refine kat_lt (k _ _ e1) e3 (k _ _ f1) f3 ?_
 show KatLex prog w A true (decide (2 < 2)) _ [(x,x'),(.int y u2,.int y' u2')] 0 s
 have second:a = a'→KatLex prog w A true (decide (2 < 2)) Q [(.int y u2,.int y' u2')] 1 s:=fun ea=>by
  refine kat_cons (wpAny_eqBool_int ?_)
  by_cases c:y = y'
  ·rw [show (y == y') = true from beq_iff_eq.mpr c]
   refine kat_yes (kat_nil ?_)
   rw [show decide (2 < 2) = decide (r < r') from decide_eq_decide.mpr (by omega)]
   exact q
  ·rw [show (y == y') = false from beq_eq_false_iff_ne.mpr c]
   refine kat_no (kat_one _ _ (lt_int ?_))
   show Q _ s
   rw [show decide (y < y') = decide (r < r') from decide_eq_decide.mpr (by omega)]
   exact q
 rcases e7 with ⟨s1,rfl⟩ | ⟨s1,k1,rfl,ek⟩
 ·rcases f7 with ⟨_,rfl⟩ | ⟨s2,_⟩
  ·refine kat_cons (wpAny_eqBool_int ?_)
   by_cases c:a = a'
   ·rw [show (a == a') = true from beq_iff_eq.mpr c]
    exact kat_yes (second c)
   ·rw [show (a == a') = false from beq_eq_false_iff_ne.mpr c]
    refine kat_no (oneLt_int ?_)
    rw [show decide (a < a') = decide (r < r') from decide_eq_decide.mpr (by omega)]
    exact q
  ·rw [s1] at s2;cases s2
 ·rcases f7 with ⟨s2,_⟩ | ⟨_,k2,rfl,fk⟩
  ·rw [s1] at s2;cases s2
  ·refine kat_cons (eqBool_str ?_)
   by_cases c:k1 = k2
   ·subst c
    rw [beq_self_eq_true]
    exact kat_yes (second (by rw [ek,fk]))
   ·rw [show (Mir.ks k1 == Mir.ks k2) = false from beq_eq_false_iff_ne.mpr fun z=>c (Mir.ks_inj _ _ z)]
    refine kat_no (oneLt_str ?_)
    have ne:a≠a':=fun z=>c (kx_inj _ _ (by rw [← ek,← fk,z]))
    rw [kx_lt,← ek,← fk,show decide (a < a') = decide (r < r') from decide_eq_decide.mpr (by omega)]
    exact q
end SrtR
namespace L2
open PySem PySem.Spec PyProof.Rows SrtR
section
variable {X:Cx}
noncomputable def PrV (str:Bool) (vs:List V) (r:Int):Prop:=∃ (x:V) (y a:Int),vs = [x,.int y]∧0≤y∧y < 1000∧r = 1000 * a + y∧((str = false∧x = .int a)∨(str = true∧∃ k:Th.Kd,x = .str (Mir.ks k)∧a = kx k))
theorem pr_of {pins:List (Addr×Obj)} {s:Shared} {σ:L2.St} {H:Hp} {t:Addr} {vs:List V} {r:Int} {str:Bool} (I:Inv X pins σ H s) (h:H t = some (.tup vs)) (p:PrV str vs r):Pr s.heap str (.ref t) r:=by
 obtain ⟨x,y,a,rfl,h1,h2,h3,h4⟩:=p
 obtain ⟨its,rv,⟨o,e1,e2,n,e3⟩,_⟩:=I.tuple (SqT.of h)
 cases rv with
 | cons r1 rr =>
  cases rr with
  | cons r2 rr =>
   cases rr
   obtain ⟨u2,rfl⟩:=r2
   rcases h4 with ⟨s1,rfl⟩ | ⟨s1,k,rfl,ek⟩
   ·obtain ⟨u1,rfl⟩:=r1
    exact ⟨t,o,n,_,y,a,u1,u2,rfl,e1,e2,e3,h1,h2,h3,.inl ⟨s1,rfl⟩⟩
   ·obtain ⟨u1,rfl⟩:=r1
    exact ⟨t,o,n,_,y,a,u1,u2,rfl,e1,e2,e3,h1,h2,h3,.inr ⟨s1,k,rfl,ek⟩⟩
theorem kat_mono {h h':Heap} (k:∀ b o,h.get? b = some o→h'.get? b = some o):∀ {vs fs:List Value},PySem.W.KatTups h vs fs→PySem.W.KatTups h' vs fs
 | [],[],_=>trivial
 | [],_ :: _,z=>z.elim
 | _ :: _,[],z=>z.elim
 | _ :: _,_ :: _,⟨⟨a,o,xs,n,e0,e1,e2⟩,r⟩=>⟨⟨a,o,xs,n,e0,k _ _ e1,e2⟩,kat_mono k r⟩
theorem kat_tups {h:Heap} {str:Bool}:∀ ts:List Addr,(∀ t∈ts,∃ r,Pr h str (.ref t) r)→∃ fs:List Value,PySem.W.KatTups h (ts.map Value.ref) fs∧∀ v∈fs,(str = false∧∃ i u,v = .int i u)∨(str = true∧∃ z u,v = .str z u)
 | [],_=>⟨[],PySem.W.KatTups.nil,fun v hv=>absurd hv List.not_mem_nil⟩
 | t :: ts,hp=>by
  obtain ⟨fs,h1,h2⟩:=kat_tups ts fun t ht=>hp t (List.mem_cons_of_mem _ ht)
  obtain ⟨r,t',o,n,x,y,a,u1,u2,e0,e1,e2,e3,e4,e5,e6,e7⟩:=hp t List.mem_cons_self
  injection e0 with e0
  subst e0
  refine ⟨x :: fs,PySem.W.KatTups.cons e1 e2 e3 rfl h1,fun v hv=>?_⟩
  rcases List.mem_cons.mp hv with rfl | hv
  ·rcases e7 with ⟨s1,e7⟩ | ⟨s1,k,e7,_⟩
   ·exact .inl ⟨s1,_,_,e7⟩
   ·exact .inr ⟨s1,_,_,e7⟩
  ·exact h2 v hv
theorem vals_refs:∀ {ts:List Addr} {its:List Value},Vals (ts.map V.ref) its→its = ts.map Value.ref
 | [],_,.nil=>rfl
 | t :: ts,_,.cons r rr=>by cases r;rw [vals_refs rr];rfl
theorem vals_refs':∀ ts:List Addr,Vals (ts.map V.ref) (ts.map Value.ref)
 | []=>.nil
 | t :: ts=>.cons rfl (vals_refs' ts)
theorem refs_perm {us:List Value} {ts:List Addr} (h:us.Perm (ts.map Value.ref)):∃ ws:List Addr,us = ws.map Value.ref∧ws.Perm ts:=by
 let g:Value→Addr:=fun v=>match v with
  | .ref a=>a
  | _=>0
 have e:∀ v∈us,Value.ref (g v) = v:=fun v hv=>by
  obtain ⟨t,_,rfl⟩:=List.mem_map.mp (h.mem_iff.mp hv)
  rfl
 refine ⟨us.map g,?_,?_⟩
 ·rw [List.map_map]
  exact (List.map_id' us).symm.trans (List.map_congr_left fun v hv=>(e v hv).symm)
 ·have z:=h.map g
  rw [List.map_map] at z
  have e2:ts.map (g ∘ Value.ref) = ts:=List.map_id' ts
  rw [e2] at z
  exact z
end
end L2

namespace L2
open PySem
theorem op_eq_tupDK {X:Cx} {K:PySem.W.Frag} (hK:X.K = K) (hu:X.A.units < cLine):OpR X (compareOp .Eq) (rTupD K false):=hK ▸ op_eq_tupD hu
end L2
namespace Mir
open PySem L2
noncomputable def pf (c:Nat×Nat):List V:=[.int (c.1:Nat),.int (c.2:Nat)]
theorem TsT.ext {α:Type} {f:α→List V} {H:Hp} {l r:Addr} {xs ys:List α} (h:TsT f H l xs) (k:TsT f H r ys):∃ vs ws,H l = some (.lst vs)∧H r = some (.lst ws)∧vs.length = xs.length∧ws.length = ys.length∧TsT f (L2.upd H l (.lst (vs ++ ws))) l (xs ++ ys):=by
 obtain ⟨ts,h1,h2,h3⟩:=h
 obtain ⟨us,k1,k2,k3⟩:=k
 refine ⟨_,_,h1,k1,by rw [List.length_map];exact h2,by rw [List.length_map];exact k2,ts ++ us,by rw [upd_same,List.map_append],by rw [List.length_append,List.length_append,h2,k2],fun i t x e1 e2=>?_⟩
 have ne:∀ {c:Addr} {zs:List V},H c = some (.tup zs)→L2.upd H l (.lst (ts.map V.ref ++ us.map V.ref)) c = some (.tup zs):=fun {c zs} e=>by
  rw [upd_ne (fun z=>by rw [z,h1] at e;cases e)]
  exact e
 by_cases c:i < ts.length
 ·rw [List.getElem?_append_left c] at e1
  rw [List.getElem?_append_left (by omega)] at e2
  exact ne (h3 i t x e1 e2)
 ·rw [List.getElem?_append_right (by omega)] at e1
  rw [List.getElem?_append_right (by omega),← h2] at e2
  exact ne (k3 _ t x e1 e2)
noncomputable def nearOk (n:Nat) (ms:List Nat) (c:Nat×Nat):Bool:=decide (Fits n ms c.1 c.2) && decide (leastP ms c.1 c.2 = c)
noncomputable def rkN (c:Nat×Nat):Int:=1000 * c.1 + c.2
noncomputable def gPr (H:Hp) (t:Addr):Int:=match H t with
 | some (.tup [.int x,.int y])=>1000 * x + y
 | _=>0
theorem gPr_pf {H:Hp} {t:Addr} {c:Nat×Nat} (h:H t = some (.tup (pf c))):gPr H t = rkN c:=by
 unfold gPr
 rw [h]
 rfl
theorem prv_pf {c:Nat×Nat} (h:c.2 < 1000):PrV false (pf c) (rkN c):=⟨_,c.2,c.1,rfl,by omega,by omega,rfl,.inl ⟨rfl,rfl⟩⟩
theorem sort_pf {H:Hp} {l:Addr} {ts us:List Addr} {xs:List (Nat×Nat)} (hl:ts.length = xs.length) (h3:∀ (i:Nat) (t:Addr) (x:Nat×Nat),ts[i]? = some t→xs[i]? = some x→H t = some (.tup (pf x))) (hp:us.Perm ts) (hs:us.Pairwise fun t u=>gPr H t≤gPr H u) (hn:H l = none) :
  ∃ ys:List (Nat×Nat),ys.Perm xs∧(ys.Pairwise fun p q=>rkN p≤rkN q)∧TsT pf (L2.upd H l (.lst (us.map V.ref))) l ys:=by
 obtain ⟨ys,y1,y2⟩:=Fa2.perm hp (Fa2.of (R:=fun (t:Addr) (x:Nat×Nat)=>H t = some (.tup (pf x))) hl fun i t x e1 e2=>h3 i t x e1 e2)
 have len:=y2.len
 refine ⟨ys,y1,List.pairwise_iff_getElem.mpr fun i j hi hj hij=>?_,us,upd_same,len,fun i t x e1 e2=>?_⟩
 ·have z:=List.pairwise_iff_getElem.mp hs i j (by omega) (by omega) hij
  rw [gPr_pf (y2.get i _ _ (List.getElem?_eq_getElem (by omega)) (List.getElem?_eq_getElem hi)),gPr_pf (y2.get j _ _ (List.getElem?_eq_getElem (by omega)) (List.getElem?_eq_getElem hj))] at z
  exact z
 ·exact (same_upd hn) _ _ (y2.get i t x e1 e2)
theorem pairs_len {n:Nat} {ms os:List Nat} {ths:List (Th.Kd×List Nat)} (A:Th.AllT (2 * n) (at0 ms) (at0 os) ths) (h:n≤5):(Th.pairsL ths).length≤100:=by
 have z:=Th.sub_len A.nodup (m:=(List.range (2 * n)).flatMap fun p=>(List.range (2 * n)).map fun q=>(p,q)) fun c hc=>by
  obtain ⟨b1,b2⟩:=A.bound hc
  refine List.mem_flatMap.mpr ⟨c.1,List.mem_range.mpr (by omega),List.mem_map.mpr ⟨c.2,List.mem_range.mpr b2,rfl⟩⟩
 have y:=Th.flatMap_len (fun p=>(List.range (2 * n)).map fun q=>(p,q)) (2 * n) (List.range (2 * n)) fun x _=>by rw [List.length_map,List.length_range];exact Nat.le_refl _
 rw [List.length_range] at y
 have:2 * n * (2 * n)≤10 * 10:=Nat.mul_le_mul (by omega) (by omega)
 omega
variable (K:PySem.W.Frag)
noncomputable def spOrdP:Sp:=fun vs H Q _=>∃ (x y:Nat),vs = [.int (x:Nat),.int (y:Nat)]∧∀ (l:Addr) (H':Hp),H l = none→Same H H'→H' l = some (.tup (pf (Th.ord x y)))→Q (.ref l) H'
noncomputable def spEndsIn:Sp:=fun vs H Q _=>∃ (l:Addr) (k:Th.Kd) (ths:List (Th.Kd×List Nat)),vs = [.ref l,.str (ks k)]∧ThT H l ths∧((ths.map (·.2)).flatten.length≤100)∧∀ (D:Addr) (H':Hp),H D = none→Same H H'→H' D = some (.lst (nV (Th.endsIn ths k)))→Q (.ref D) H'
noncomputable def spSplit:Sp:=fun vs H Q _=>∃ (e:Addr) (L:List Nat),vs = [.ref e]∧H e = some (.tup (nV L))∧L.length≤80∧∀ (D:Addr) (H':Hp),H D = none→Same H H'→TsT pf H' D (Th.splitL L)→Q (.ref D) H'
noncomputable def spCross:Sp:=fun vs H Q _=>∃ (a b:Addr) (B S:List Nat),vs = [.ref a,.ref b]∧H a = some (.lst (nV B))∧H b = some (.lst (nV S))∧B.length≤80∧S.length≤80∧∀ (D:Addr) (H':Hp),H D = none→Same H H'→TsT pf H' D (Th.crossL B S)→Q (.ref D) H'
noncomputable def spLeastPair:Sp:=fun vs H Q _=>∃ (a d:Addr) (n p q:Nat) (ms:List Nat),vs = [.ref a,.ref d]∧SqT K H a (nV ms)∧WorkL n ms∧SqT K H d [.int (p:Nat),.int (q:Nat)]∧p < 2 * n∧q < 2 * n ∧
 ∀ (l:Addr) (H':Hp),H l = none→Same H H'→H' l = some (.tup (pf (leastP ms p q)))→Q (.ref l) H'
end Mir



namespace Th
theorem right_ex {N:Nat} {a b:Nat→Nat} (T:Two N a b) (h:∃ x,x < N∧a x≠b x):∃ p q,p≤q∧q < N∧a p≠q∧Right a b p q:=by
 by_cases c:∃ x,x < N∧b x≠x∧a x≠b x
 ·obtain ⟨x,h1,h2,h3⟩:=c
  have l:=T.gl x h1
  have i:=T.gg x h1
  have j:=T.ff x h1
  by_cases d:x≤b x
  ·exact ⟨x,b x,d,l,h3,.inl ⟨h2.symm,rfl⟩⟩
  ·refine ⟨b x,x,by omega,h1,fun z=>?_,.inl ⟨h2,i⟩⟩
   have k:=T.ff (b x) l
   rw [z] at k
   exact h3 k
 ·obtain ⟨x,h1,h2⟩:=h
  have hb:b x = x:=Classical.byContradiction fun z=>c ⟨x,h1,z,h2⟩
  have l:=T.fl x h1
  have hy:b (a x) = a x:=Classical.byContradiction fun z=>by
   have:a (a x) = b (a x):=Classical.byContradiction fun y=>c ⟨a x,l,z,y⟩
   rw [T.ff x h1] at this
   have g:=T.gg (a x) l
   rw [← this,hb] at g
   exact h2 (by rw [hb];exact g.symm)
  exact ⟨x,x,Nat.le_refl _,h1,fun z=>h2 (by rw [hb];exact z),.inr ⟨rfl,hb,hy⟩⟩
end Th

namespace Th
theorem right_two {N:Nat} {a b:Nat→Nat} (T:Two N a b) {p q:Nat} (hp:p < N) (hq:q < N) (hf:a p≠q) {a2:Nat→Nat} (h2:∀ x,x < N→a2 x = Mir.behM a p q x) (R:Right a b p q):(score a2 b N:Int) - score a b N = 2:=by
 rcases R with ⟨hpq,hb⟩ | ⟨e,hb1,hb2⟩
 ·obtain ⟨c1,c2,c3,c4'⟩:=c4_loose (a:=a) p q
  exact (deed_two T hp hq hpq hf h2).mpr (.inl (pt_right (c4_two T hp hq) hp hpq c1 c3 hb))
 ·subst e
  obtain ⟨c1,c2,c3,c4'⟩:=c4_loose (a:=a) p p
  exact (deed_open T hp hf h2).mpr ⟨pt_self (c4_two T hp hp) hp c1 hb1,pt_self (c4_two T hp hp) (T.fl p hp) c2 hb2⟩
end Th
namespace Mir
open PySem L2
open Classical
noncomputable def rowP (p m:Nat):List (Nat×Nat):=(List.range m).map fun d=>(p,p + d)
noncomputable def allTo (N i:Nat):List (Nat×Nat):=(List.range i).flatMap fun p=>rowP p (N - p)
theorem mem_rowP {p m:Nat} {c:Nat×Nat}:c∈rowP p m↔c.1 = p∧p≤c.2∧c.2 < p + m:=by
 unfold rowP
 rw [List.mem_map]
 constructor
 ·rintro ⟨d,hd,rfl⟩
  have:=List.mem_range.mp hd
  exact ⟨rfl,by simp only;omega,by simp only;omega⟩
 ·rintro ⟨h1,h2,h3⟩
  exact ⟨c.2 - p,List.mem_range.mpr (by omega),Prod.ext h1.symm (by simp only;omega)⟩
theorem mem_allTo {N i:Nat} {c:Nat×Nat}:c∈allTo N i↔c.1 < i∧c.1≤c.2∧c.2 < N:=by
 unfold allTo
 rw [List.mem_flatMap]
 constructor
 ·rintro ⟨p,hp,hc⟩
  obtain ⟨h1,h2,h3⟩:=mem_rowP.mp hc
  have:=List.mem_range.mp hp
  omega
 ·rintro ⟨h1,h2,h3⟩
  exact ⟨c.1,List.mem_range.mpr h1,mem_rowP.mpr ⟨rfl,h2,by omega⟩⟩
theorem allTo_asc {N:Nat} (h:N≤1000) (i:Nat):(allTo N i).Pairwise fun c d=>rkN c < rkN d:=by
 unfold allTo
 rw [List.pairwise_flatMap]
 constructor
 ·intro p _
  unfold rowP
  rw [List.pairwise_map]
  refine (List.pairwise_lt_range (n:=N - p)).imp fun hab=>?_
  unfold rkN
  simp only
  omega
 ·refine (List.pairwise_lt_range (n:=i)).imp fun {p q} hpq c hc d hd=>?_
  obtain ⟨h1,h2,h3⟩:=mem_rowP.mp hc
  obtain ⟨g1,g2,g3⟩:=mem_rowP.mp hd
  unfold rkN
  omega
noncomputable def okD (n:Nat) (ms os:List Nat) (c:Nat×Nat):Prop:=at0 ms c.1≠c.2∧leastP ms c.1 c.2 = c∧apartN n (beh ms c.1 c.2) os + 1 = apartN n ms os
noncomputable def dueOf (n:Nat) (ms os:List Nat) (l:List (Nat×Nat)):List (Nat×Nat):=l.filter fun c=>decide (okD n ms os c)
section
variable {n:Nat} {ms os:List Nat}
theorem apart_step (W:WorkL n ms) (WO:WorkL n os) {p q:Nat} (hp:p < 2 * n) (hq:q < 2 * n) (hf:at0 ms p≠q):apartN n (beh ms p q) os + 1 = apartN n ms os↔(Th.score (at0 (beh ms p q)) (at0 os) (2 * n):Int) - Th.score (at0 ms) (at0 os) (2 * n) = 2:=by
 have W2:=beh_work W hp hq hf
 have l1:=Th.score_le (two_of W WO)
 have l2:=Th.score_le (two_of W2 WO)
 have v1:=Th.score_even (two_of W WO) (by omega)
 have v2:=Th.score_even (two_of W2 WO) (by omega)
 unfold apartN
 omega
theorem fits_iff {p q:Nat} (h1:p≤q) (h2:q < 2 * n):Fits n ms (p:Nat) (q:Nat)↔at0 ms p≠q:=by
 constructor
 ·intro h z
  exact h.2.2.2 (by rw [Int.toNat_natCast,z])
 ·intro h
  exact fits_nat h1 h2 h
theorem near_due (W:WorkL n ms) (WO:WorkL n os) (hn:n≤5) {ths:List (Th.Kd×List Nat)} (hI:IsThr n ms os ths) {ys:List (Nat×Nat)} (hp:ys.Perm ((Th.pairsL ths).filter (nearOk n ms))) (hs:ys.Pairwise fun c d=>rkN c≤rkN d):ys = dueOf n ms os (allTo (2 * n) (2 * n)):=by
 have A:Th.AllT (2 * n) (at0 ms) (at0 os) ths:=⟨two_of W WO,hI.1,hI.2⟩
 have me:∀ c,c∈(Th.pairsL ths).filter (nearOk n ms)↔c∈dueOf n ms os (allTo (2 * n) (2 * n)):=fun c=>by
  unfold dueOf
  rw [List.mem_filter,List.mem_filter,mem_allTo,decide_eq_true_iff]
  have key:c.1≤c.2→c.2 < 2 * n→at0 ms c.1≠c.2→(c∈Th.pairsL ths↔apartN n (beh ms c.1 c.2) os + 1 = apartN n ms os):=fun b1 b2 hf=>by
   rw [apart_step W WO (by omega) b2 hf]
   exact A.near (p:=c.1) (q:=c.2) b1 b2 hf (fun x hx=>beh_at (by rw [W.len];exact hx))
  constructor
  ·rintro ⟨h1,h2⟩
   obtain ⟨b1,b2⟩:=A.bound h1
   unfold nearOk at h2
   rw [Bool.and_eq_true,decide_eq_true_iff,decide_eq_true_iff,fits_iff b1 b2] at h2
   exact ⟨⟨by omega,b1,b2⟩,h2.1,h2.2,(key b1 b2 h2.1).mp h1⟩
  ·rintro ⟨⟨_,b1,b2⟩,h1,h2,h3⟩
   refine ⟨(key b1 b2 h1).mpr h3,?_⟩
   unfold nearOk
   rw [Bool.and_eq_true,decide_eq_true_iff,decide_eq_true_iff,fits_iff b1 b2]
   exact ⟨h1,h2⟩
 have ad:=(allTo_asc (N:=2 * n) (by omega) (2 * n)).filter fun c=>decide (okD n ms os c)
 have nd1:((Th.pairsL ths).filter (nearOk n ms)).Nodup:=A.nodup.filter _
 have nd2:(dueOf n ms os (allTo (2 * n) (2 * n))).Nodup:=List.nodup_iff_pairwise_ne.mpr (ad.imp fun h e=>by rw [e] at h;omega)
 have pm:=(List.perm_ext_iff_of_nodup nd1 nd2).mpr me
 have bd:∀ c∈dueOf n ms os (allTo (2 * n) (2 * n)),c.2 < 2 * n:=fun c hc=>(mem_allTo.mp (List.mem_filter.mp hc).1).2.2
 refine List.Perm.eq_of_pairwise (le:=fun c d=>rkN c≤rkN d) (fun c d hc hd z1 z2=>?_) hs (ad.imp fun h=>by omega) (hp.trans pm)
 have b1:=bd c ((hp.trans pm).mem_iff.mp hc)
 have b2:=bd d hd
 unfold rkN at z1 z2
 exact Prod.ext (by omega) (by omega)
theorem due_nil (W:WorkL n ms) (WO:WorkL n os):dueOf n ms os (allTo (2 * n) (2 * n)) = []↔ms = os:=by
 have T:=two_of W WO
 constructor
 ·intro h
  refine Classical.byContradiction fun ne=>?_
  have dif:∃ x,x < 2 * n∧at0 ms x≠at0 os x:=Classical.byContradiction fun z=>ne (ext_at (by rw [W.len,WO.len]) fun x hx=>Classical.byContradiction fun y=>z ⟨x,by rw [W.len] at hx;exact hx,y⟩)
  obtain ⟨p,q,h1,h2,h3,R⟩:=Th.right_ex T dif
  have k1:=Th.right_two T (show p < 2 * n by omega) h2 h3 (a2:=at0 (beh ms p q)) (fun e he=>beh_at (by rw [W.len];exact he)) R
  obtain ⟨⟨l1,l2,l3,l4⟩,lm⟩:=leastP_least W h1 h2 h3
  have idem:leastP ms (leastP ms p q).1 (leastP ms p q).2 = leastP ms p q:=by
   rw [leastP_iff W l1 l2 l3]
   intro p' q' L
   rw [l4] at L
   have:=lm p' q' L
   omega
  have mem:leastP ms p q∈dueOf n ms os (allTo (2 * n) (2 * n)):=by
   unfold dueOf
   rw [List.mem_filter,mem_allTo,decide_eq_true_iff]
   refine ⟨⟨by omega,l1,l2⟩,l3,idem,?_⟩
   rw [l4,apart_step W WO (by omega) h2 h3]
   exact k1
  rw [h] at mem
  exact absurd mem List.not_mem_nil
 ·intro h
  subst h
  have z:=(Th.score_full T).mpr fun x hx=>rfl
  unfold dueOf
  rw [List.filter_eq_nil_iff]
  intro c hc hd
  obtain ⟨_,_,h3⟩:=of_decide_eq_true hd
  unfold apartN at h3
  omega
end
end Mir

namespace SrtR
open PySem PySem.Spec PyProof.Rows PySem.W
section
variable [RkP] {prog:Program} {w:World} {A:Around} {E:Value→Shared→Prop} {s:Shared} {a₀:Array Keyed}
noncomputable def Laid1 (a₀:Array Keyed) (st:SortSt):Prop:=(arrOf st).Perm a₀∧failedOf st = none∧∃ p,pendingOf st = #[p]∧AscL 0 (arrOf st) a₀.size
theorem wpS_runs64 {st:SortSt} {Q:Unit→SortSt→Prop} (h0:IKA prog w A s a₀) (hp:(arrOf st).Perm a₀) (hk:kindOf st = oneType') (hf:failedOf st = none) (hd:pendingOf st = #[]) (h2:2≤a₀.size) (h64:a₀.size < 64)
  (h:∀ st',(arrOf st').Perm a₀→failedOf st' = none→SortedTo (arrOf st') a₀.size→Q () st'):wpS (model prog w) A E s sortRuns' Q st:=by
 rw [sortRuns'_eq]
 refine wpS_bind (wpS_get ?_)
 dsimp only
 have hsz:(arrOf st).size = a₀.size:=hp.size_eq
 rw [hsz]
 have em:minRun' a₀.size a₀.size 0 = a₀.size:=by
  obtain ⟨g,e⟩:∃ g,a₀.size = g + 1:=⟨a₀.size - 1,by omega⟩
  rw [e,minRun'_succ,if_pos (by omega)]
 rw [em]
 refine wpS_bind (wpS_mono (wpS_forRange
  (I:=fun x c st'=>(x = 0∧c = (none,0)∧SB a₀ #[] 0 (fun _=>0) st')∨(1≤x∧c = (none,a₀.size)∧Laid1 a₀ st'))
  (Q:=fun c st'=>c = (none,a₀.size)∧Laid1 a₀ st') ?step ?fin (.inl ⟨rfl,rfl,⟨hp,hk,hf,hd,fun i hi=>absurd hi (Nat.not_lt_zero _)⟩⟩)) ?post)
 case fin =>
  rintro c st' (⟨hx,_⟩ | ⟨_,e,L⟩)
  ·have:max 0 a₀.size = a₀.size:=Nat.max_eq_right (Nat.zero_le _)
   omega
  ·exact ⟨e,L⟩
 case step =>
  rintro x c st' _ hx (⟨rfl,rfl,hB⟩ | ⟨hx2,rfl,L⟩)
  ·dsimp only
   refine wpS_ite (fun z=>absurd z (by omega)) (fun _=>?_)
   refine wpS_bind (wpS_countL h0 (by omega) (by omega) hB fun k st2 hB2 k1 k2 g2=>?_)
   dsimp only
   rw [Nat.sub_zero] at k2
   have push:∀ (st3:SortSt),SB a₀ #[] 0 (fun _=>0) st3→AscL 0 (arrOf st3) a₀.size→Laid1 a₀ (setPending st3 ((pendingOf st3).push (0,a₀.size,0))):=fun st3 b g =>
    ⟨b.perm,b.fl,⟨_,by show (pendingOf st3).push _ = _;rw [b.pd];rfl,g⟩⟩
   refine wpS_ite (fun z=>?_) (fun z=>?_)
   ·have ef:min (a₀.size - 0) a₀.size = a₀.size:=by omega
    rw [ef]
    refine wpS_bind (wpS_lift (wpAny_rule ⟨rfl,wpS_bind (wpS_binL h0 (by omega) k1 (by omega) hB2 g2 fun st3 hB3 g3=>?_)⟩))
    refine wpS_ite (fun z=>absurd z (by simp)) (fun _=>?_)
    refine wpS_bind (wpS_get ?_)
    have hb:(pendingOf st3).back? = none:=by rw [hB3.pd];rfl
    rw [hb]
    dsimp only
    refine wpS_bind (wpS_modify (wpS_pure (.inr ⟨Nat.le_refl _,by rw [Nat.zero_add],push st3 hB3 g3⟩)))
   ·have hka:k = a₀.size:=by omega
    rw [hka] at g2 ⊢
    refine wpS_bind (wpS_get ?_)
    have hb:(pendingOf st2).back? = none:=by rw [hB2.pd];rfl
    rw [hb]
    dsimp only
    refine wpS_bind (wpS_modify (wpS_pure (.inr ⟨Nat.le_refl _,by rw [Nat.zero_add],push st2 hB2 g2⟩)))
  ·dsimp only
   refine wpS_ite (fun _=>wpS_pure ⟨rfl,L⟩) (fun z=>absurd (Nat.le_refl _) z)
 case post =>
  rintro c st' ⟨rfl,L⟩
  dsimp only
  obtain ⟨lp,lf,p,e1,asc⟩:=L
  refine wpS_bind (wpS_mono (wpS_forRange (I:=fun x c st''=>c = (none,())∧st'' = st') (Q:=fun c st''=>c = (none,())∧st'' = st') ?fs ?ff ⟨rfl,rfl⟩) ?fp)
  case ff =>
   rintro c st'' ⟨e,e2⟩
   exact ⟨e,e2⟩
  case fp =>
   rintro c st'' ⟨e,e2⟩
   subst e e2
   exact wpS_pure (h _ lp lf (sortedTo_asc asc))
  case fs =>
   rintro x c st'' _ _ ⟨e,e2⟩
   subst e e2
   refine wpS_bind (wpS_get ?_)
   exact wpS_ite (fun _=>wpS_pure ⟨rfl,rfl⟩) (fun z=>absurd (by rw [e1];exact Nat.le_refl 1) z)
end
end SrtR
namespace SrtR
open PySem PyProof.Rows PySem.W
section
variable {prog:Program} {w:World} {A:Around} {E:Value→Shared→Prop} {s:Shared}
theorem sort_tups64 [RkP] {a:Addr} {vs fs:List Value} {rk:Value→Int} {T:Value} {n:Nat} {P:PySem.Fin→Shared→Prop} (hr:∀ p:Keyed,num p = rk p.1) (hkd:RkP.kd = tuples' (T != Value.type "tuple")) (hT2:(T == T) = true) (ho:s.heap.get? a = some (seqObj "list" vs.toArray n)) (h2:2≤vs.length) (h128:vs.length < 64)
  (hT:∀ h':Heap,(∀ b o,b≠a→s.heap.get? b = some o→h'.get? b = some o)→KatTups h' vs fs∧(∀ v∈fs,Looks (model prog w) h' (typeOf v) T)∧IKA prog w A { s with heap:=h' } (pairsOf vs))
  (h:∀ out:Array Value,out.toList.Perm vs→(out.toList.Pairwise fun u v=>rk u≤rk v)→P (.done (.ret .none)) { s with heap:=sortedHeap s.heap a vs out }):wpAny (model prog w) A (Builtin.«list.sort» ⟨[.ref a],[]⟩) P E s:=by
 rw [list_sort_plain]
 have la:a < s.heap.objs.size:=Heap.lt_size ho
 obtain ⟨k,hk⟩:∃ k,(s.heap.update a (Obj.mapSeq fun _=>#[])).get? a = some (seqObj "list" #[] k):=⟨_,get?_update_seq ho (fun _=>#[])⟩
 have hk2:(((s.heap.update a (Obj.mapSeq fun _=>#[])).push (seqObj "tuple" vs.toArray 0)).push (seqObj "list" #[] 0)).get? a = some (seqObj "list" #[] k) :=
  Heap.get?_push_of_some _ (Heap.get?_push_of_some _ hk)
 have keep:∀ b o,b≠a→s.heap.get? b = some o→(((s.heap.update a (Obj.mapSeq fun _=>#[])).push (seqObj "tuple" vs.toArray 0)).push (seqObj "list" #[] 0)).get? b = some o:=fun b o hb e =>
  Heap.get?_push_of_some _ (Heap.get?_push_of_some _ (by rw [Heap.get?_update_ne _ _ _ _ hb];exact e))
 obtain ⟨t1,t2,t3⟩:=hT _ keep
 have hz1:vs.toArray.size≤sizeLine:=by rw [List.size_toArray,sizeLine_eq];omega
 have hz2:vs.toArray.toList.length≤sizeLine:=by rw [sizeLine_eq];simp;omega
 refine wpAny_bind (listItems_at ho rfl (wpAny_bind (listUpdate_at ho rfl (wpAny_bind (seqEpoch_at hk rfl ?_)) hz1 (Nat.zero_le _))))
 refine wpAny_bind (wpAny_newTuple (wpAny_bind (wpAny_newList (wpAny_holding ?_) (Nat.zero_le _))) hz2)
 show wpAny (model prog w) A _ P E { s with heap:=((s.heap.update a (Obj.mapSeq fun _=>#[])).push (seqObj "tuple" vs.toArray 0)).push (seqObj "list" #[] 0) }
 dsimp only
 have z2:¬ vs.toArray.size < 2:=by rw [List.size_toArray];omega
 rw [if_neg z2,if_neg z2]
 have hne:0 < fs.length:=by
  cases fs with
  | nil=>cases vs with
   | nil=>exact absurd h2 (by decide)
   | cons v r=>exact t1.elim
  | cons f r=>exact Nat.succ_pos _
 refine wpAny_bind (kat_kind t1 hne t2 hT2 ?_)
 refine wpAny_bind (wpAny_mono (wpS_runs64 (a₀:=pairsOf vs) (st:=SortSt.mk' (tuples' (T != Value.type "tuple")) (vs.toArray.zip vs.toArray) #[] 7 none) (Q:=fun _ z=>(arrOf z).Perm (pairsOf vs)∧failedOf z = none∧SortedTo (arrOf z) (pairsOf vs).size)
  t3 (Array.Perm.refl _) hkd.symm rfl rfl (by rw [pairsOf_size];exact h2) (by rw [pairsOf_size];exact h128) fun z a1 a2 a3=>⟨a1,a2,a3⟩) ?_ fun _ _ e=>e)
 rintro ⟨⟨⟩,z⟩ s2 ⟨rfl,hp,hf,hs⟩
 dsimp only
 have zs:((arrOf z).map (·.2)).size≤sizeLine + 1:=by
  rw [Array.size_map,hp.size_eq,pairsOf_size,sizeLine_eq]
  omega
 refine wpAny_bind (seqEpoch_at hk2 rfl (wpAny_bind (listUpdate_at hk2 rfl ?_ (hsz2:=zs))))
 rw [hf]
 dsimp only
 rw [bne_self_eq_false]
 obtain ⟨b1,b2⟩:=sorted_outR hr hp hs
 exact wpAny_pure (h _ b1 b2)
theorem sorted_tups64 [RkP] {l:Addr} {vs fs:List Value} {rk:Value→Int} {T:Value} {Q:Value→Shared→Prop} (hr:∀ p:Keyed,num p = rk p.1) (hkd:RkP.kd = tuples' (T != Value.type "tuple")) (hT2:(T == T) = true) (hl:s.heap.IsList l vs.toArray) (h2:2≤vs.length) (h128:vs.length < 64)
  (hT:∀ (A':Around) (h':Heap),(∀ b o,s.heap.get? b = some o→h'.get? b = some o)→KatTups h' vs fs∧(∀ v∈fs,Looks (model prog w) h' (typeOf v) T)∧IKA prog w A' { s with heap:=h' } (pairsOf vs))
  (h:∀ out:Array Value,out.toList.Perm vs→(out.toList.Pairwise fun u v=>rk u≤rk v)→Q (.ref (s.heap.objs.size + 1)) { s with heap:=sortedAll s.heap vs out }):wpAny (model prog w) A (call (.builtin "sorted") [.ref l]) Q E s:=by
 have z:((s.heap.push (seqObj "list" #[] 0)).update s.heap.objs.size (Obj.mapSeq (· ++ vs.toArray))).objs.size = s.heap.objs.size + 1:=(Heap.size_update _ _ _).trans (size_push' _ _)
 have hL:(((s.heap.push (seqObj "list" #[] 0)).update s.heap.objs.size (Obj.mapSeq (· ++ vs.toArray))).push (seqObj "list" vs.toArray 0)).get? (s.heap.objs.size + 1) = some (seqObj "list" vs.toArray 0):=z ▸ Heap.get?_push_size _ rfl
 have keep:∀ b o,s.heap.get? b = some o→b≠s.heap.objs.size + 1∧(((s.heap.push (seqObj "list" #[] 0)).update s.heap.objs.size (Obj.mapSeq (· ++ vs.toArray))).push (seqObj "list" vs.toArray 0)).get? b = some o:=fun b o q=>by
  have hlt:b < s.heap.objs.size:=Heap.lt_size q
  have hne:b≠s.heap.objs.size:=Nat.ne_of_lt hlt
  have hne2:b≠s.heap.objs.size + 1:=Nat.ne_of_lt (Nat.lt_succ_of_lt hlt)
  refine ⟨hne2,?_⟩
  rw [Heap.get?_push_ne _ _ _ (by rw [z];exact hne2),Heap.get?_update_ne _ _ _ _ hne,Heap.get?_push_ne _ _ _ hne]
  exact q
 refine Calls.call_function_entry kind_sorted plain_sorted entry_sorted (args_sorted1 _) ?_
 unfold Builtin.«sorted»
 refine wpAny_bind (m:=checkCount "sorted" 1 1 _) (wpAny_pure (wpAny_bind (collect_list hl (wpAny_bind (wpAny_newList ?_ (by rw [sizeLine_eq];omega))) (hsz:=by rw [sizeLine_eq];omega))))
 show wpAny _ _ _ _ _ { s with heap:=((s.heap.push (seqObj "list" #[] 0)).update s.heap.objs.size (Obj.mapSeq (· ++ vs.toArray))).push (seqObj "list" vs.toArray 0) }
 rw [z]
 refine wpAny_bind (wpAny_holding (wpAny_call_entry slot_list_sort ⟨_,hL,rfl⟩ entry_list_sort (sort_tups64 (fs:=fs) hr hkd hT2 hL h2 h128 (fun h' hk=>?_) fun out a1 a2=>⟨_,rfl,wpAny_pure ⟨_,rfl,h out a1 a2⟩⟩) (args_list_sort _)))
 exact hT _ h' fun b o q=>hk b o (keep b o q).1 (keep b o q).2
end
end SrtR
namespace L2
open PySem PySem.Spec PyProof.Rows SrtR
section
variable {X:Cx}
theorem call_sortedP64 (str:Bool):CallR X (.builtin "sorted") (fun xs H Q=>∃ (p:Addr) (ts:List Addr) (g:Addr→Int),xs = [.ref p]∧SqL X.K H p (ts.map V.ref)∧ts.length < 64∧(∀ t∈ts,∃ vs,H t = some (.tup vs)∧PrV str vs (g t)) ∧
  ∀ (us:List Addr) (l:Addr),us.Perm ts→(us.Pairwise fun t u=>g t≤g u)→H l = none→Q (.ref l) (upd H l (.lst (us.map V.ref)))):=by
 intro pins s σ H xs us Q I r h
 obtain ⟨p,ts,g,rfl,hq,h128,ht,q⟩:=h
 obtain ⟨u,rfl,ru⟩:=r.one
 cases ru
 obtain ⟨its,rv,pl,hz⟩:=I.list hq
 obtain rfl:=vals_refs rv
 have hpr:∀ t∈ts,Pr s.heap str (.ref t) (g t):=fun t hm=>by
  obtain ⟨vs,e1,e2⟩:=ht t hm
  exact pr_of I e1 e2
 have hfr:H (s.heap.objs.size + 1) = none:=I.hok.fresh (Nat.le_succ _)
 have fin:∀ (out:Array Value),out.toList.Perm (ts.map Value.ref)→(out.toList.Pairwise fun u v=>rkO s.heap str u≤rkO s.heap str v)→EP X pins σ Q (.ref (s.heap.objs.size + 1)) { s with heap:=sortedAll s.heap (ts.map Value.ref) out }:=fun out a1 a2=>by
  obtain ⟨ws,e,hw⟩:=refs_perm a1
  obtain ⟨c,he⟩:=sortedAll_at s.heap (ts.map Value.ref) out
  have hg:∀ t∈ws,rkO s.heap str (.ref t) = g t:=fun t hm=>rk_of (hpr t (hw.mem_iff.mp hm))
  have a3:ws.Pairwise fun t u=>g t≤g u:=by
   rw [e,List.pairwise_map] at a2
   refine List.Pairwise.imp_of_mem (fun {x y} hx hy z=>?_) a2
   rw [hg x hx,hg y hy] at z
   exact z
  refine ⟨.ref (s.heap.objs.size + 1),_,I.laid (a:=s.heap.objs.size + 1) (o:=.lst (ws.map V.ref)) (t':=s.toks) (fun b o=>sortedAll_old) (Nat.le_succ _) ⟨?_,out.toList,c,by rw [e];exact vals_refs' ws,by simpa [seqObj] using he⟩,rfl,q ws _ hw a3 hfr⟩
  rw [List.length_map,hw.length_eq]
  have:=sizeLine_eq
  omega
 by_cases c:2≤ts.length
 ·letI:=prRk s.heap str
  obtain ⟨fs,k1,k2⟩:=kat_tups (h:=s.heap) (str:=str) ts fun t hm=>⟨_,hpr t hm⟩
  refine sorted_tups64 (fs:=fs) (rk:=rkO s.heap str) (T:=tyP str) (fun p=>rfl) (by cases str <;> rfl) (by cases str <;> rfl) pl.isList (by rw [List.length_map];exact c) (by rw [List.length_map];exact h128) (fun A' h' hk=>?_) fun out a1 a2=>fin out a1 a2
  refine ⟨kat_mono hk k1,fun v hv=>?_,fun p hp=>?_,pr_asks hk⟩
  ·rcases k2 v hv with ⟨s1,i,u,rfl⟩ | ⟨s1,z,u,rfl⟩
   ·subst s1
    exact .now
   ·subst s1
    exact .now
  ·have ez:(pairsOf (ts.map Value.ref)).toList = (ts.map Value.ref).zip (ts.map Value.ref):=by unfold pairsOf;simp
   rw [ez] at hp
   obtain ⟨t,hm,e⟩:=List.mem_map.mp (List.of_mem_zip hp).1
   exact ⟨g t,by rw [← e];exact hpr t hm⟩
 ·refine sorted_few pl.isList (by rw [List.length_map];omega) (fin _ (by simp) ?_)
  match ts,c with
  | [],_=>exact List.Pairwise.nil
  | [t],_=>exact List.pairwise_singleton _ _
  | _ :: _ :: _,c=>exact absurd (by simp) c
end
end L2


set_option maxHeartbeats 4000000
namespace L2T
open PySem PySem.Spec PyProof.Rows L2
section
variable {X:Cx} {pins:List (Addr×Obj)} {σ:L2.St} {H:Hp} {A:Around} {E:Value→Shared→Prop} {s:Shared} {a kS:Addr} {vs:List Value} {kz:List Int} {keys:Array Value} {e e1:Nat} {P:PySem.Fin→Shared→Prop}
theorem srk_tail {st:SortSt} (I:Inv X pins σ H s) (na:s.heap.get? a = some (seqObj "list" #[] e1)) (nk:s.heap.get? kS = some (seqObj "list" keys e)) (hka:kS≠a) (fa:FpOk X pins H a) (fk:FpOk X pins H kS)
  (hk:IntsAre keys.toList kz) (hlen:kz.length = vs.length) (h128:vs.length < 64) (hp:(arrOf st).Perm (keys.zip vs.toArray)) (hs:SortedTo (arrOf st) (arrOf st).size) (hfl:failedOf st = none)
  (h:∀ s' out c,Inv X pins σ H s'→s'.heap.get? a = some (seqObj "list" out c)→KskOut false kz vs out.toList→P (.done (.ret .none)) s') :
  wpAny (model X.prog X.w) A (ksk_tail a false e1 (.ref kS) st) P E s:=by
 have hsz:keys.size = vs.length:=by
  have h1:=hk.length
  rw [Array.length_toList] at h1
  omega
 have hsz2:(arrOf st).size = vs.length:=by rw [hp.size_eq,Array.size_zip,hsz,List.size_toArray,Nat.min_self]
 have s1:=Heap.SameBut.update s.heap kS (Obj.mapSeq fun _=>(#[]:Array Value))
 have na1:(s.heap.update kS (Obj.mapSeq fun _=>(#[]:Array Value))).get? a = some (seqObj "list" #[] e1):=(s1.2 a hka.symm).trans na
 have s2:=Heap.SameBut.update (s.heap.update kS (Obj.mapSeq fun _=>(#[]:Array Value))) a (Obj.mapSeq fun _=>(arrOf st).map (·.2))
 obtain ⟨c2,hc2⟩:∃ c2,((s.heap.update kS (Obj.mapSeq fun _=>(#[]:Array Value))).update a (Obj.mapSeq fun _=>(arrOf st).map (·.2))).get? a = some (seqObj "list" ((arrOf st).map (·.2)) c2) :=
  ⟨_,get?_update_seq na1 fun _=>(arrOf st).map (·.2)⟩
 unfold ksk_tail
 try dsimp only
 refine wpAny_bind (listUpdate_at nk rfl ?_ (by rw [hsz,sizeLine_eq];omega) (Nat.zero_le _))
 refine wpAny_bind (wpAny_letGo ?_)
 refine wpAny_bind (seqEpoch_at na1 rfl ?_)
 refine wpAny_bind (listUpdate_at na1 rfl ?_ (Nat.zero_le _) (by show ((arrOf st).map (·.2)).size≤_;rw [Array.size_map,hsz2,sizeLine_eq];omega))
 rw [hfl]
 simp only [bne_self_eq_false,Bool.false_eq_true,if_false]
 obtain ⟨f0,f1,f2,f3,f4,f5⟩:=fk
 obtain ⟨g0,g1,g2,g3,g4,g5⟩:=fa
 have I1:Inv X pins σ H { s with heap:=s.heap.update kS (Obj.mapSeq fun _=>(#[]:Array Value)),toks:=s.toks }:=I.turned (t':=s.toks) (fun b o hb q=>(s1.2 b hb).trans q) f0 f1 f3 f4 f5
 have I2:=I1.turned (h':=(s.heap.update kS (Obj.mapSeq fun _=>(#[]:Array Value))).update a (Obj.mapSeq fun _=>(arrOf st).map (·.2))) (t':=s.toks) (fun b o hb q=>(s2.2 b hb).trans q) g0 g1 g3 g4 g5
 refine wpAny_pure (h _ _ c2 I2 hc2 ?_)
 have z:=ksk_out (b:=false) hk hp hs
 simpa using z
theorem srk_end (I:Inv X pins σ H s) (na:s.heap.get? a = some (seqObj "list" #[] e1)) (nk:s.heap.get? kS = some (seqObj "list" keys e)) (hka:kS≠a) (fa:FpOk X pins H a) (fk:FpOk X pins H kS)
  (hk:IntsAre keys.toList kz) (hlen:kz.length = vs.length) (h128:vs.length < 64)
  (h:∀ s' out c,Inv X pins σ H s'→s'.heap.get? a = some (seqObj "list" out c)→KskOut false kz vs out.toList→P (.done (.ret .none)) s') :
  wpAny (model X.prog X.w) A (ksk_end a false vs.toArray e1 (.ref kS) keys) P E s:=by
 have hsz:keys.size = vs.length:=by
  have h1:=hk.length
  rw [Array.length_toList] at h1
  omega
 have hzs:(keys.zip vs.toArray).size = vs.length:=by rw [Array.size_zip,hsz,List.size_toArray,Nat.min_self]
 unfold ksk_end
 try dsimp only
 simp only [Bool.false_eq_true,if_false]
 by_cases h2:vs.toArray.size < 2
 ·rw [if_pos h2,if_pos h2]
  refine wpAny_bind (wpAny_pure ?_)
  rw [StateT.run_pure]
  refine wpAny_bind (wpAny_pure ?_)
  try dsimp only
  refine srk_tail (st:=SortSt.mk' general' (keys.zip vs.toArray) #[] 7 none) I na nk hka fa fk hk hlen h128 (Array.Perm.refl _) ?_ rfl h
  intro i j hij hj
  have hj2:j < (keys.zip vs.toArray).size:=hj
  rw [hzs] at hj2
  rw [List.size_toArray] at h2
  have:i = j:=by omega
  subst this
  exact Int.le_refl _
 ·rw [if_neg h2,if_neg h2]
  rw [List.size_toArray] at h2
  rw [ksk_kind hk (by rw [hsz];omega)]
  refine wpAny_bind (wpAny_pure ?_)
  have fin:∀ st',(arrOf st').Perm (keys.zip vs.toArray)→failedOf st' = none→SortedTo (arrOf st') (keys.zip vs.toArray).size→wpAny (model X.prog X.w) A (ksk_tail a false e1 (.ref kS) st') P E s:=fun st' hp hf hs =>
   srk_tail I na nk hka fa fk hk hlen h128 hp (by rw [hp.size_eq];exact hs) hf h
  refine wpAny_bind (wpAny_mono (wpS_sortRuns (a₀:=keys.zip vs.toArray) (st:=SortSt.mk' oneType' (keys.zip vs.toArray) #[] 7 none)
   (Q:=fun _ st'=>(arrOf st').Perm (keys.zip vs.toArray)∧failedOf st' = none∧SortedTo (arrOf st') (keys.zip vs.toArray).size)
   (ksk_intKeys hk) ⟨Array.Perm.refl _,rfl,rfl,rfl⟩ (by rw [hzs];omega) (by rw [hzs];exact h128) fun st' a1 a2 a3=>⟨a1,a2,a3⟩) ?_ fun _ _ e=>e)
  rintro ⟨⟨⟩,st'⟩ s' ⟨rfl,hp,hf,hs⟩
  exact fin st' hp hf hs
noncomputable def KeyCall (X:Cx) (σ:L2.St) (H:Hp) (A:Around) (f v:Value) (k:Int):Prop:=∀ (pins:List (Addr×Obj)) (s:Shared),Inv X pins σ H s →
 wpAny (model X.prog X.w) A (call f [v]) (fun u s'=>(∃ t,u = .int k t)∧Inv X pins σ H s') (fun _ _=>False) s
theorem srk_rest {f:Value} (I:Inv X pins σ H s) (na:s.heap.get? a = some (seqObj "list" #[] e1)) (nk:s.heap.get? kS = some (seqObj "list" #[] 0)) (hka:kS≠a) (fa:FpOk X pins H a) (fk:FpOk X pins H kS)
  (hlen:kz.length = vs.length) (h128:vs.length < 64) (turn:∀ (i:Nat) (v:Value) (k:Int),vs[i]? = some v→kz[i]? = some k→KeyCall X σ H A f v k)
  (h:∀ s' out c,Inv X pins σ H s'→s'.heap.get? a = some (seqObj "list" out c)→KskOut false kz vs out.toList→P (.done (.ret .none)) s') :
  wpAny (model X.prog X.w) A (ksk_rest a f false vs.toArray e1 (.ref kS)) P E s:=by
 unfold ksk_rest
 refine wpAny_bind (wpAny_rule ?_)
 first
  | rw [List.forIn_toArray]
  | (rw [← Array.forIn_toList];simp only [List.toList_toArray])
  | rw [← Array.forIn_toList]
 refine wpAny_bind (ksk_fold (fun i s'=>∃ kA e,Inv X pins σ H s'∧s'.heap.get? a = some (seqObj "list" #[] e1)∧s'.heap.get? kS = some (seqObj "list" kA e)∧IntsAre kA.toList (kz.take i)) vs 0 s
  ⟨#[],0,I,na,nk,by simpa using IntsAre.nil⟩ ?step ?done)
 case step =>
  rintro j x s' hx ⟨kA,e,I',na',nk',hk⟩
  simp only [Nat.zero_add] at hk ⊢
  have hj:j < vs.length:=(List.getElem?_eq_some_iff.mp hx).1
  obtain ⟨k,hkj⟩:∃ k,kz[j]? = some k:=⟨_,List.getElem?_eq_getElem (by omega)⟩
  have hz:kA.size≤vs.length:=by
   have h1:=hk.length
   rw [Array.length_toList,List.length_take] at h1
   omega
  have I2:Inv X (pins ++ [(a,seqObj "list" #[] e1),(kS,seqObj "list" kA e)]) σ H s':=I'.pins_of fun p hp=>by
   rcases List.mem_append.mp hp with hp | hp
   ·exact I'.pin p (List.mem_append_right _ hp)
   ·rcases List.mem_cons.mp hp with rfl | hp
    ·exact ⟨na',fa.1,fa.2.1,fa.2.2.1,fun v z=>by cases z⟩
    ·rw [List.mem_singleton.mp hp]
     exact ⟨nk',fk.1,fk.2.1,fk.2.2.1,fun v z=>by cases z⟩
  refine wpAny_bind (wpAny_attempt (wpAny_mono (turn j x k hx hkj _ s' I2) (fun v s'' he=>?_) fun _ _ hF=>hF.elim))
  obtain ⟨⟨t2,rfl⟩,I3⟩:=he
  try dsimp only
  have na3:=(I3.pin (a,seqObj "list" #[] e1) (List.mem_append_right _ (List.mem_append_right _ (.head _)))).1
  have nk3:=(I3.pin (kS,seqObj "list" kA e) (List.mem_append_right _ (List.mem_append_right _ (.tail _ (.head _))))).1
  have I4:=I3.unpinned
  have s1:=Heap.SameBut.update s''.heap kS (Obj.mapSeq (·.push (.int k t2)))
  obtain ⟨c2,hc2⟩:∃ c2,(s''.heap.update kS (Obj.mapSeq (·.push (.int k t2)))).get? kS = some (seqObj "list" (kA.push (.int k t2)) c2):=⟨_,get?_update_seq nk3 (·.push (.int k t2))⟩
  have ek:kz.take (j + 1) = kz.take j ++ [k]:=by rw [List.take_add_one,hkj];simp
  have ea:(kA.push (Value.int k t2)).toList = kA.toList ++ [Value.int k t2]:=by simp
  refine wpAny_bind (listUpdate_at nk3 rfl ?_ (by rw [sizeLine_eq];omega) (Nat.le_trans (Nat.le_of_eq (Array.size_push ..)) (by rw [sizeLine_eq];omega)))
  obtain ⟨f0,f1,f2,f3,f4,f5⟩:=fk
  refine wpAny_pure ⟨rfl,kA.push (.int k t2),c2,I4.turned (t':=s''.toks) (fun b o hb q=>(s1.2 b hb).trans q) f0 f1 f3 f4 f5,(s1.2 a hka.symm).trans na3,hc2,by rw [ea,ek];exact ksk_snoc hk⟩
 case done =>
  rintro s' ⟨kA,e,I',na',nk',hk⟩
  have hk':IntsAre kA.toList kz:=by
   have e3:kz.take (0 + vs.length) = kz:=List.take_of_length_le (by omega)
   rw [e3] at hk
   exact hk
  try dsimp only
  refine wpAny_bind (listItems_at nk' rfl ?_)
  exact srk_end I' na' nk' hka fa fk hk' hlen h128 h
theorem srk_sort {f:Value} {n:Nat} (I:Inv X pins σ H s) (ho:s.heap.get? a = some (seqObj "list" vs.toArray n)) (fa:FpOk X pins H a)
  (hlen:kz.length = vs.length) (h128:vs.length < 64) (turn:∀ (i:Nat) (v:Value) (k:Int),vs[i]? = some v→kz[i]? = some k→KeyCall X σ H A f v k)
  (h:∀ s' out c,Inv X pins σ H s'→s'.heap.get? a = some (seqObj "list" out c)→KskOut false kz vs out.toList→P (.done (.ret .none)) s') :
  wpAny (model X.prog X.w) A (ksk_tree a f false) P E s:=by
 have ha:a < s.heap.objs.size:=Heap.lt_size ho
 have s1:=Heap.SameBut.update s.heap a (Obj.mapSeq fun _=>(#[]:Array Value))
 obtain ⟨e1,ho1⟩:∃ e1,(s.heap.update a (Obj.mapSeq fun _=>(#[]:Array Value))).get? a = some (seqObj "list" #[] e1):=⟨_,get?_update_seq ho fun _=>#[]⟩
 have hkS:((s.heap.update a (Obj.mapSeq fun _=>(#[]:Array Value))).push (seqObj "tuple" vs.toArray 0)).objs.size = s.heap.objs.size + 1:=by rw [size_push',Heap.size_update]
 obtain ⟨g0,g1,g2,g3,g4,g5⟩:=id fa
 have I1:Inv X pins σ H { s with heap:=s.heap.update a (Obj.mapSeq fun _=>(#[]:Array Value)),toks:=s.toks }:=I.turned (t':=s.toks) (fun b o hb q=>(s1.2 b hb).trans q) g0 g1 g3 g4 g5
 have I2:Inv X pins σ H { s with heap:=((s.heap.update a (Obj.mapSeq fun _=>(#[]:Array Value))).push (seqObj "tuple" vs.toArray 0)).push (seqObj "list" #[] 0),toks:=s.toks }:=I1.kept (t':=s.toks) fun b o q=>Heap.get?_push_of_some _ (Heap.get?_push_of_some _ q)
 unfold ksk_tree
 refine wpAny_bind (listItems_at ho rfl ?_)
 refine wpAny_bind (listUpdate_at ho rfl ?_ (by rw [List.size_toArray,sizeLine_eq];omega) (Nat.zero_le _))
 refine wpAny_bind (seqEpoch_at ho1 rfl ?_)
 refine wpAny_bind (wpAny_newTuple ?_ (by show vs.length≤_;rw [sizeLine_eq];omega))
 refine wpAny_bind (wpAny_newList ?_ (Nat.zero_le _))
 refine wpAny_holding ?_
 have fk:FpOk X pins H ((s.heap.update a (Obj.mapSeq fun _=>(#[]:Array Value))).push (seqObj "tuple" vs.toArray 0)).objs.size:=by
  rw [hkS]
  exact I.fpOk (Nat.le_succ _) (I.hok.fresh (Nat.le_succ _))
 refine srk_rest (s:={ s with heap:=((s.heap.update a (Obj.mapSeq fun _=>(#[]:Array Value))).push (seqObj "tuple" vs.toArray 0)).push (seqObj "list" #[] 0) }) (kS:=((s.heap.update a (Obj.mapSeq fun _=>(#[]:Array Value))).push (seqObj "tuple" vs.toArray 0)).objs.size)
  I2 (Heap.get?_push_of_some _ (Heap.get?_push_of_some _ ho1)) (Heap.get?_push_size _ rfl) (by rw [hkS];exact Nat.ne_of_gt (Nat.lt_succ_of_lt ha)) fa fk hlen h128 turn h
end
section
variable {X:Cx} {pins:List (Addr×Obj)} {σ:L2.St} {H:Hp} {E:Value→Shared→Prop} {s:Shared} {A:Around} {l:Addr} {vs:List Value} {kz:List Int} {Q:Value→Shared→Prop}
theorem srk_sorted {q:Addr} (I:Inv X pins σ H s) (hl:s.heap.IsList l vs.toArray) (hlen:kz.length = vs.length) (h128:vs.length < 64)
  (turn:∀ (i:Nat) (v:Value) (k:Int),vs[i]? = some v→kz[i]? = some k→KeyCall X σ H A.in1.in1 (.ref q) v k)
  (h:∀ D s' out c,Inv X pins σ H s'→s'.heap.get? D = some (seqObj "list" out c)→FpOk X pins H D→KskOut false kz vs out.toList→Q (.ref D) s') :
  wpAny (model X.prog X.w) A (call (.builtin "sorted") [.ref l] [(Str.ofString "key",.ref q)]) Q E s:=by
 refine call_function_entry_kw kind_sorted plain_sorted entry_sorted (ksk_s1 _ _) ?_
 unfold Builtin.«sorted»
 refine wpAny_bind (m:=checkCount "sorted" 1 1 _) (wpAny_pure ?_)
 refine wpAny_bind (collect_list hl ?_ (by rw [sizeLine_eq];omega))
 refine wpAny_bind (wpAny_newList ?_ (by rw [sizeLine_eq];omega))
 have hsz:((s.heap.push (seqObj "list" #[] 0)).update s.heap.objs.size (Obj.mapSeq (· ++ vs.toArray))).objs.size = s.heap.objs.size + 1:=by
  rw [Heap.size_update,size_push']
 have hoL:(((s.heap.push (seqObj "list" #[] 0)).update s.heap.objs.size (Obj.mapSeq (· ++ vs.toArray))).push (seqObj "list" vs.toArray 0)).get? (s.heap.objs.size + 1) = some (seqObj "list" vs.toArray 0):=by
  rw [← hsz];exact Heap.get?_push_size _ rfl
 have keep:∀ b o,s.heap.get? b = some o→(((s.heap.push (seqObj "list" #[] 0)).update s.heap.objs.size (Obj.mapSeq (· ++ vs.toArray))).push (seqObj "list" vs.toArray 0)).get? b = some o:=fun b o q=>by
  have hlt:b < s.heap.objs.size:=Heap.lt_size q
  rw [Heap.get?_push_ne _ _ _ (by rw [hsz];exact Nat.ne_of_lt (Nat.lt_succ_of_lt hlt)),Heap.get?_update_ne _ _ _ _ (Nat.ne_of_lt hlt),Heap.get?_push_ne _ _ _ (Nat.ne_of_lt hlt)]
  exact q
 show wpAny _ _ _ _ _ { s with heap:=((s.heap.push (seqObj "list" #[] 0)).update s.heap.objs.size (Obj.mapSeq (· ++ vs.toArray))).push (seqObj "list" vs.toArray 0) }
 rw [hsz]
 refine wpAny_bind (wpAny_holding (wpAny_call_entry_kw slot_list_sort ⟨_,hoL,rfl⟩ entry_list_sort ?body (ksk_l1 _ _)))
 case body =>
  show wpAny (model X.prog X.w) A.in1.in1 (Builtin.«list.sort» ⟨[.ref (s.heap.objs.size + 1)],[(Str.ofString "key",.ref q)]⟩) _ _ _
  rw [ksk_t1]
  refine srk_sort (s:={ s with heap:=((s.heap.push (seqObj "list" #[] 0)).update s.heap.objs.size (Obj.mapSeq (· ++ vs.toArray))).push (seqObj "list" vs.toArray 0) }) (I.kept (t':=s.toks) keep) hoL (I.fpOk (Nat.le_succ _) (I.hok.fresh (Nat.le_succ _))) hlen h128 turn fun s3 out c i3 n3 k3=>⟨_,rfl,?_⟩
  exact wpAny_pure ⟨_,rfl,h _ s3 out c i3 n3 (I.fpOk (Nat.le_succ _) (I.hok.fresh (Nat.le_succ _))) k3⟩
end
end L2T
namespace L2
open PySem PySem.Spec PyProof.Rows
section
variable {X:Cx}
noncomputable def tSortKs (K:PySem.W.Frag) (sp:Sp) (ta:TA):TE:=fun σ H Q=>ta σ H fun vs H1=>∃ (l:Addr) (xs:List V) (kz:List Int),vs = [.ref l]∧SqL K H1 l xs∧kz.length = xs.length∧xs.length < 64 ∧
 (∀ (i:Nat) (v:V) (k:Int),xs[i]? = some v→kz[i]? = some k→∀ Q':VK,Q' (.int k) H1→sp [v] H1 Q' (fun _ _ _=>False)) ∧
 ∀ (l':Addr) (ps:List (Int×V)),ps.Perm (kz.zip xs)→ps.Pairwise (fun p q=>p.1≤q.1)→H1 l' = none→Q (.ref l') (upd H1 l' (.lst (ps.map (·.2))))
theorem pe_sortKs {x:Str} {st:Stmt} {p1:Str} {f:Addr} {fd:FuncData} {k:Nat} {sp:Sp} {e:Expr} {t:TA} {p pos kp np:Pos} (hg:Gl X "sorted") (hm:X.mg "sorted" = none) (G:FnOk X.prog X.w X.K X.mg X.base CX0 k f fd [p1] sp) (F:Fn X.K X.mg x st [p1] f fd) (hr:Room (k + 2) X.A) (ha:PA X [e] t)
  (hgx:Gl X x:=by rfl) (hdb:(x == ("__debug__":Str)) = false:=by decide) (hs:starEach [e] X.env = [(false,eval e X.env)]:=by rfl) :
  PE X (.Call (.Name "sorted" p) [e] [⟨some "key",.Name x np,kp⟩] pos) (tSortKs X.K sp t):=by
 intro pins s σ H Q I h
 refine wpAny_Call_Name_kw (ld_blt I hg hm bb_sorted ?_)
 refine PyProof.Rows.callWith_kw (rest:=[]) (thn (ha pos pins s σ H _ I h) fun us s1 ⟨vs,H1,I1,r1,q1⟩=>?_) (by rw [hs];rfl) (by rw [hs];rfl) rfl rfl
 refine thn (pk_cons (nm:=some "key") (kpos:=kp) (pe_glob (v:=.ref f) hgx F.g rfl hdb) pk_nil pos pins s1 σ H1 _ I1 (show tCons (tC (.ref f)) tNil σ H1 (fun zs H2=>zs = [.ref f]∧H2 = H1) from ⟨rfl,rfl⟩)) fun ks s2 ⟨zs,H2,I2,rz,q2⟩=>?_
 obtain ⟨rfl,e2⟩:=q2
 subst e2
 obtain ⟨ku,rfl,rk⟩:=rz.one
 cases rk
 obtain ⟨l,xs,kz,rfl,hq,hlen,h128,hk,q⟩:=q1
 obtain ⟨lu,rfl,rl⟩:=r1.one
 cases rl
 show wpAny _ _ (call (.builtin "sorted") [.ref l] [(Str.ofString "key",.ref f)]) _ _ _
 obtain ⟨its,rv,pl,hz⟩:=I2.list hq
 have hli:=rv.length
 refine L2T.srk_sorted (kz:=kz) I2 pl.isList (by omega) (by omega) (fun i v kk hv hki=>?_) fun D s3 out c I3 hD fD ho=>?_
 ·intro pins' s' I'
  obtain ⟨hi,ei⟩:=List.getElem?_eq_some_iff.mp hv
  obtain ⟨y,hy,ry⟩:=vals_at rv (show i < its.toArray.size by rw [List.size_toArray];exact hi)
  have ry:RelV y v:=by
   have z:its.toArray[i]'(by rw [List.size_toArray];exact hi) = its[i]:=by simp
   rw [z,ei] at ry
   exact ry
  have hsp:=hk i y kk hy hki (fun v' H'=>v' = .int kk∧H' = H2) ⟨rfl,rfl⟩
  refine wpAny_call (codeAny_mono (G.run X.A.in1.in1 X.stack s' H2 ⟨[v],[]⟩ [v] [y] _ _ hr.in1.in1 I'.env0.in1.in1 (F.b s' [v] I'.kIn rfl) (.cons ry .nil) hsp) fun r s'' hq'=>?_)
  cases r with
  | error e=>exact hq'.elim
  | ok fl =>
   cases fl with
   | ret u =>
    obtain ⟨y',H',I'',ry',rfl,rfl⟩:=I'.after hq'
    exact ⟨ry',I''⟩
   | next=>exact False.elim hq'
   | brk=>exact False.elim hq'
   | cont=>exact False.elim hq'
 ·obtain ⟨ps,hp,ho2,hpw⟩:=ho
  obtain ⟨qs,hqp,hqa⟩:=perm_two hp (two_zip rv kz)
  have hfst:=two_fst hqa
  have hvals:Vals (qs.map (·.2)) out.toList:=by rw [ho2];exact two_vals hqa
  have hpw':qs.Pairwise fun p q=>p.1≤q.1:=by
   have z:(ps.map (·.1)).Pairwise (·≤·):=by rw [List.pairwise_map];exact hpw.imp fun h=>by simpa using h
   rw [hfst,List.pairwise_map] at z
   exact z
  have hlq:(qs.map (·.2)).length≤sizeLine:=by
   rw [List.length_map,hqp.length_eq,List.length_zip]
   have:=sizeLine_eq
   omega
  exact ⟨.ref D,_,I3.adopt fD (show ObjOk X.prog X.w (upd H2 D (.lst (qs.map (·.2)))) s3.heap D (.lst (qs.map (·.2))) from ⟨hlq,out.toList,c,hvals,by simpa [seqObj] using hD⟩),rfl,q D qs hqp hpw' fD.1⟩
end
end L2

namespace Mir
open PySem L2
variable (K:PySem.W.Frag)
noncomputable def spThreadsS (C:Addr):Sp:=fun vs H Q E=>∃ (a b:Addr) (n m:Nat) (ms os:List Nat),vs = [.ref a,.ref b]∧n≤31∧SqT K H a (nV ms)∧WorkL n ms∧SqT K H b (nV os)∧os.length = 2 * m ∧
 (n = m→WorkL n os∧∀ (l:Addr) (H':Hp) (ths:List (Th.Kd×List Nat)),Same H H'→IsThr n ms os ths→ThT H' l ths→H l = none→Q (.ref l) H')∧(n≠m→E (.ref C) none H)
noncomputable def spScoreS (C:Addr):Sp:=fun vs H Q E=>∃ (a b:Addr) (n m:Nat) (ms os:List Nat),vs = [.ref a,.ref b]∧n≤31∧SqT K H a (nV ms)∧WorkL n ms∧SqT K H b (nV os)∧os.length = 2 * m ∧
 (n = m→WorkL n os∧∀ H':Hp,Same H H'→Q (.int (Th.score (at0 ms) (at0 os) (2 * n):Nat)) H')∧(n≠m→E (.ref C) none H)
noncomputable def spApartS (C:Addr):Sp:=fun vs H Q E=>∃ (a b:Addr) (n m:Nat) (ms os:List Nat),vs = [.ref a,.ref b]∧n≤31∧SqT K H a (nV ms)∧WorkL n ms∧SqT K H b (nV os)∧os.length = 2 * m ∧
 (n = m→WorkL n os∧∀ H':Hp,Same H H'→Q (.int (apartN n ms os:Nat)) H')∧(n≠m→E (.ref C) none H)
end Mir

namespace L2
open PySem PySem.Spec PyProof.Rows
theorem op_eq_nil {X:Cx} {K:PySem.W.Frag} (hK:X.K = K) (hu:X.A.units < cLine):OpR X (compareOp .Eq) (fun x y H Q=>∃ (a b:Addr) (xs:List V),x = .ref a∧y = .ref b∧SqL K H a xs∧SqL K H b []∧Q (.bl (decide (xs.length = 0))) H):=by
 subst hK
 intro pins s σ H x y v u Q I rx ry h
 obtain ⟨a,b,xs,rfl,rfl,ha,hb,q⟩:=h
 cases rx
 cases ry
 obtain ⟨i1,r1,p1,z1⟩:=I.list ha
 obtain ⟨i2,r2,p2,z2⟩:=I.list hb
 have l1:xs.length = i1.length:=r1.length
 have l2:0 = i2.length:=r2.length
 by_cases c:xs.length = 0
 ·refine SeqAt.eq_listAt (e:=fun j=>true) p1.isList p2.isList (by simp only [List.size_toArray];omega) hu (fun j h1 h2=>?_) ⟨.bl (decide (xs.length = 0)),H,I,?_,q⟩
  ·exfalso
   simp only [List.size_toArray] at h1
   omega
  ·show Value.bool _ = Value.bool _
   congr 1
   rw [decide_eq_true c]
   exact List.all_eq_true.mpr fun _ _=>rfl
 ·refine SeqAt.eq_list_lengthsAt p1.isList p2.isList (by simp only [List.size_toArray,bne_iff_ne];omega) hu ⟨.bl (decide (xs.length = 0)),H,I,?_,q⟩
  show Value.bool _ = Value.bool _
  rw [decide_eq_false c]
end L2
namespace Mir
open PySem L2
open Classical
section
variable {n:Nat} {ms os:List Nat} {l:List (Nat×Nat)} {kvs:List (List Key×V)}
theorem all_55 (hn:n≤5):(allTo (2 * n) (2 * n)).length≤55:=by
 have h:n = 0∨n = 1∨n = 2∨n = 3∨n = 4∨n = 5:=by omega
 rcases h with rfl | rfl | rfl | rfl | rfl | rfl <;> decide
theorem near_55 (hn:n≤5) {ths:List (Th.Kd×List Nat)} (A:Th.AllT (2 * n) (at0 ms) (at0 os) ths):((Th.pairsL ths).filter (nearOk n ms)).length≤55:=by
 have z:=Th.sub_len (A.nodup.filter (nearOk n ms)) (m:=allTo (2 * n) (2 * n)) fun c hc=>by
  obtain ⟨b1,b2⟩:=A.bound (List.mem_filter.mp hc).1
  exact mem_allTo.mpr ⟨by omega,b1,b2⟩
 have:=all_55 hn
 omega
end
variable (K:PySem.W.Frag)
noncomputable def spNearerS (C:Addr):Sp:=fun vs H Q E=>∃ (a b:Addr) (n m:Nat) (ms os:List Nat),vs = [.ref a,.ref b]∧n≤31∧SqT K H a (nV ms)∧WorkL n ms∧SqT K H b (nV os)∧os.length = 2 * m ∧
 (n = m→n≤5∧WorkL n os∧∀ (l:Addr) (H':Hp) (ths:List (Th.Kd×List Nat)) (ys:List (Nat×Nat)),H l = none→Same H H'→IsThr n ms os ths→ys.Perm ((Th.pairsL ths).filter (nearOk n ms))→(ys.Pairwise fun c d=>rkN c≤rkN d)→TsT pf H' l ys→Q (.ref l) H')∧(n≠m→E (.ref C) none H)
end Mir

namespace Mir
open PySem L2
open Classical
noncomputable def duL (n:Nat) (os ms:List Nat):List (Nat×Nat):=dueOf n ms os (allTo (2 * n) (2 * n))
noncomputable def few (n:Nat) (os:List Nat):Nat→List Nat→List (Nat×Nat)
 | 0,_=>[]
 | k + 1,ms=>match (duL n os ms).head? with
  | none=>[]
  | some c=>c :: few n os k (beh ms c.1 c.2)
noncomputable def fewL (n:Nat) (ms os:List Nat):List (Nat×Nat):=few n os (apartN n ms os) ms
section
variable {n:Nat} {ms os:List Nat}
theorem mem_duL {c:Nat×Nat} (h:c∈duL n os ms):c.1≤c.2∧c.2 < 2 * n∧at0 ms c.1≠c.2∧apartN n (beh ms c.1 c.2) os + 1 = apartN n ms os:=by
 unfold duL dueOf at h
 rw [List.mem_filter,mem_allTo,decide_eq_true_iff] at h
 exact ⟨h.1.2.1,h.1.2.2,h.2.1,h.2.2.2⟩
theorem head_mem {c:Nat×Nat} (h:(duL n os ms).head? = some c):c∈duL n os ms:=by
 cases e:duL n os ms with
 | nil=>rw [e] at h;cases h
 | cons a r=>rw [e] at h;cases h;exact List.mem_cons_self
theorem apart_self (W:WorkL n ms):apartN n ms ms = 0:=by
 have z:=(Th.score_full (two_of W W)).mpr fun x hx=>rfl
 unfold apartN
 omega
theorem apart_zero (W:WorkL n ms) (WO:WorkL n os):apartN n ms os = 0↔ms = os:=by
 constructor
 ·intro h
  rw [← due_nil W WO]
  unfold dueOf
  rw [List.filter_eq_nil_iff]
  intro c hc hd
  obtain ⟨_,_,h3⟩:=of_decide_eq_true hd
  omega
 ·intro h
  subst h
  exact apart_self W
theorem duL_some (W:WorkL n ms) (WO:WorkL n os) {k:Nat} (h:apartN n ms os = k + 1):∃ c,(duL n os ms).head? = some c:=by
 cases e:duL n os ms with
 | nil =>
  have z:=(due_nil W WO).mp e
  rw [z,apart_self WO] at h
  cases h
 | cons a r=>exact ⟨a,rfl⟩
theorem fewL_nil (h:duL n os ms = []):fewL n ms os = []:=by
 unfold fewL
 cases apartN n ms os with
 | zero=>rfl
 | succ k=>unfold few;rw [h];rfl
theorem fewL_cons {c:Nat×Nat} (h:(duL n os ms).head? = some c):fewL n ms os = c :: fewL n (beh ms c.1 c.2) os:=by
 have m:=(mem_duL (head_mem h)).2.2.2
 unfold fewL
 rw [← m]
 conv=>lhs;unfold few
 rw [h]
theorem fewL_len (W:WorkL n ms) (WO:WorkL n os):(fewL n ms os).length = apartN n ms os:=by
 have key:∀ (k:Nat) (ms:List Nat),WorkL n ms→apartN n ms os = k→(fewL n ms os).length = k:=by
  intro k
  induction k with
  | zero =>
   intro ms W h
   unfold fewL
   rw [h]
   rfl
  | succ k ih =>
   intro ms W h
   obtain ⟨c,hc⟩:=duL_some W WO h
   obtain ⟨b1,b2,b3,b4⟩:=mem_duL (head_mem hc)
   rw [fewL_cons hc,List.length_cons,ih _ (beh_work W (by omega) b2 b3) (by omega)]
 exact key _ ms W rfl
end
variable (K:PySem.W.Frag)
noncomputable def spFewest (C:Addr):Sp:=fun vs H Q E=>∃ (a b:Addr) (n m:Nat) (ms os:List Nat),vs = [.ref a,.ref b]∧n≤31∧SqT K H a (nV ms)∧WorkL n ms∧SqT K H b (nV os)∧os.length = 2 * m ∧
 (n = m→n≤5∧WorkL n os∧∀ (l:Addr) (H':Hp),H l = none→Same H H'→TsT pf H' l (fewL n ms os)→Q (.ref l) H')∧(n≠m→∀ H':Hp,Same H H'→E (.ref C) none H')
end Mir




namespace Iso
open Th Mir
section
variable {N:Nat} {A B:List Nat}
variable (T:Two N (at0 A) (at0 B)) {x:Nat} (hx:x < N)
include T hx
end
end Iso

set_option maxHeartbeats 4000000








namespace Mir
open PySem L2 Iso
theorem map_inj {α β:Type} {f:α→β} (hf:∀ x y,f x = f y→x = y):∀ {l m:List α},l.map f = m.map f→l = m
 | [],[],_=>rfl
 | [],_ :: _,h=>nomatch h
 | _ :: _,[],h=>nomatch h
 | x :: l,y :: m,h=>by rw [hf x y (List.cons.inj h).1,map_inj hf (List.cons.inj h).2]
variable (P:Program) (w:World) (K:PySem.W.Frag)
variable {P w K}
end Mir




namespace Mir
open PySem L2 Iso
noncomputable def zp (d:Int×Int):List V:=[.int d.1,.int d.2]
noncomputable def zN (c:Nat×Nat):Int×Int:=(c.1,c.2)
section
variable {n:Nat} {os ms:List Nat}
noncomputable def workR (ms:List Nat):List (Nat×Nat)→List Nat
 | []=>ms
 | c :: r=>workR (beh ms c.1 c.2) r
end
theorem cutV_to (xs:List V) (k:Nat):cutV xs none (some (k:Int)) = xs.take k:=by
 unfold cutV
 rw [HT.sIx_none,HT.sIx_nat,List.drop_zero,Nat.sub_zero,List.take_eq_take_iff]
 omega
theorem workR_snoc:∀ (r:List (Nat×Nat)) (ms:List Nat) (c:Nat×Nat),workR ms (r ++ [c]) = beh (workR ms r) c.1 c.2
 | [],_,_=>rfl
 | d :: r,ms,c=>workR_snoc r (beh ms d.1 d.2) c
theorem Tup.zp {H:Hp} {ts:List Addr} {r:List (Nat×Nat)} (h:Tup pf H ts r):Tup zp H ts (r.map zN):=⟨by rw [List.length_map];exact h.1,fun i t p e1 e2=>by
 rw [List.getElem?_map] at e2
 obtain ⟨c,e3,rfl⟩:=Option.map_eq_some_iff.mp e2
 exact h.2 i t c e1 e3⟩
variable (P:Program) (w:World) (K:PySem.W.Frag)
end Mir

set_option maxHeartbeats 1000000
namespace Mir
open PySem L2
noncomputable def TtT {α:Type} (f:α→List V) (H:Hp) (t:Addr) (xs:List α):Prop:=∃ ts:List Addr,H t = some (.tup (ts.map V.ref))∧Tup f H ts xs
noncomputable def ThU (H:Hp) (t:Addr) (ths:List (Th.Kd×List Nat)):Prop:=∃ xs:List Ent,TtT tf H t xs∧(∀ x∈xs,H x.2.1 = some (.tup (nV x.2.2)))∧xs.map en = ths
section
variable {α:Type} {f:α→List V} {H H':Hp} {l t a b:Addr} {xs:List α} {ths:List (Th.Kd×List Nat)}
theorem TtT.same (h:TtT f H t xs) (s:Same H H'):TtT f H' t xs:=by
 obtain ⟨ts,h1,h2⟩:=h
 exact ⟨ts,s _ _ h1,h2.same s⟩
theorem TtT.len (h:TtT f H t xs):∃ vs,H t = some (.tup vs)∧vs.length = xs.length:=by
 obtain ⟨ts,h1,h2,_⟩:=h
 exact ⟨_,h1,by rw [List.length_map];exact h2⟩
theorem ThU.same (h:ThU H t ths) (s:Same H H'):ThU H' t ths:=by
 obtain ⟨xs,h1,h2,h3⟩:=h
 exact ⟨xs,h1.same s,fun x hx=>s _ _ (h2 x hx),h3⟩
theorem TsT.tuple {vs:List V} (h:TsT f H l xs) (hv:H l = some (.lst vs)) (s:Same H H') (ht:H' t = some (.tup vs)):TtT f H' t xs:=by
 obtain ⟨ts,h1,h2,h3⟩:=h
 rw [hv] at h1
 obtain rfl:vs = ts.map V.ref:=by injection h1 with h1;injection h1
 exact ⟨ts,ht,h2,fun i u x e1 e2=>s _ _ (h3 i u x e1 e2)⟩
theorem ThT.tuple {vs:List V} (h:ThT H l ths) (hv:H l = some (.lst vs)) (s:Same H H') (ht:H' t = some (.tup vs)):ThU H' t ths:=by
 obtain ⟨xs,h1,h2,h3⟩:=h
 exact ⟨xs,h1.tuple hv s ht,fun x hx=>s _ _ (h2 x hx),h3⟩
end
theorem nV_is (l:List Nat):nV l = (l.map fun (z:Nat)=>(z:Int)).map V.int:=by unfold nV;rw [List.map_map];rfl
theorem apart_most {n:Nat} {ms os:List Nat}:apartN n ms os≤n:=by unfold apartN;omega
inductive Lead (n:Nat) (os:List Nat):List Nat→List (Nat×Nat)→Prop
 | nil:Lead n os os []
 | cons {ms:List Nat} {c:Nat×Nat} {r:List (Nat×Nat)}:c.1≤c.2→c.2 < 2 * n→at0 ms c.1≠c.2→Lead n os (beh ms c.1 c.2) r→Lead n os ms (c :: r)
theorem Lead.inv {n:Nat} {os ms:List Nat} {c:Nat×Nat} {r:List (Nat×Nat)} (h:Lead n os ms (c :: r)):c.1≤c.2∧c.2 < 2 * n∧at0 ms c.1≠c.2∧Lead n os (beh ms c.1 c.2) r:=by
 cases h with
 | cons h1 h2 h3 h4=>exact ⟨h1,h2,h3,h4⟩
theorem fewL_lead {n:Nat} {os:List Nat} (WO:WorkL n os):∀ (k:Nat) {ms:List Nat},WorkL n ms→apartN n ms os = k→Lead n os ms (few n os k ms)
 | 0,ms,W,ha=>by
  have e:=(apart_zero W WO).mp ha
  subst e
  exact .nil
 | k + 1,ms,W,ha=>by
  obtain ⟨c,hc⟩:=duL_some W WO ha
  obtain ⟨c1,c2,c3,c4⟩:=mem_duL (head_mem hc)
  unfold few
  rw [hc]
  exact .cons c1 c2 c3 (fewL_lead WO k (beh_work W (by omega) c2 c3) (by omega))
variable (K:PySem.W.Frag)
noncomputable def spPaperFor:Sp:=fun vs H Q _=>∃ (a b:Addr) (n:Nat) (ms os:List Nat),vs = [.ref a,.ref b]∧SqT K H a (nV ms)∧WorkL n ms∧SqT K H b (nV os)∧WorkL n os∧n≤5 ∧
 ∀ (p q r:Addr) (ths:List (Th.Kd×List Nat)) (H':Hp),Same H H'→H' p = some (.tup [.ref q,.ref r])→ThU H' q ths→IsThr n ms os ths→TtT pf H' r (fewL n ms os)→Q (.ref p) H'
end Mir

set_option maxHeartbeats 1000000
namespace L2
open PySem PySem.Spec PyProof.Rows
section
variable {prog:Program} {w:World} {A:Around} {E:Value→Shared→Prop} {s:Shared}
theorem setItem_sliceG {l b sl : Addr} {lo hi : Option Int} {items new : Array Value} {n n2 : Nat} {vl vu : Value} {a c : Nat} {Q : Unit → Shared → Prop}
    (e : s.heap.get? l = some { cls := .type "list", data := .seq items n }) (e2 : s.heap.get? b = some { cls := .type "list", data := .seq new n2 }) (hne : l ≠ b)
    (hs : s.heap.IsSliceOf sl vl vu .none) (pl : IsPart vl lo) (pu : IsPart vu hi) (hbd : sliceBounds lo hi none items.size = ((a : Int), (c : Int), 1)) (hac : a ≤ c) (hc : c ≤ items.size)
    (hsz : items.size + new.size ≤ sizeLine) (h : Q () { s with heap := s.heap.update l (Obj.mapSeq fun xs => xs.extract 0 a ++ new ++ xs.extract c xs.size) }) :
    wpAny (model prog w) A (setItem (.ref l) (.ref sl) (.ref b)) Q E s := by
  have hl : s.heap.IsList l items := PySem.IsL.isList e
  have hb : s.heap.IsList b new := PySem.IsL.isList e2
  obtain ⟨os, hos, hcs, hds⟩ := id hs
  have hTs : s.TypeIs (.ref sl) "slice" := ⟨os, hos, hcs⟩
  have hstep : ¬ ((rawPart none == rawInt 0) = true) := Bool.false_ne_true
  have hsame : Builtin.List.listSameRef (.ref l) (.ref b) = false := by
    unfold Builtin.List.listSameRef
    exact beq_eq_false_iff_ne.mpr hne
  have hmax : (max (a : Int) (c : Int)).toNat = c := by omega
  have hz' : ((fun xs : Array Value => xs.extract 0 a ++ new ++ xs.extract c xs.size) items).size ≤ sizeLine + 1 := by
    simp only [Array.size_append, Array.size_extract]
    omega
  unfold setItem
  try with_reducible refine wpAny_holding ?_
  first | refine wpAny_bind (wpAny_pure ?_) | skip
  refine wpAny_bind (wpAny_sequenceKey hl.typeIs (by decide) ?_)
  refine wpAny_bind (wpAny_callSpecial?_slot (name := Str.ofString "__setitem__") hl.typeIs slot_list_setitem
    (wpAny_call_entry slot_list_setitem hl.typeIs entry_list_setitem ?_ (args_list_setitem _ _ _)))
  show wpAny _ _ (Builtin.List.listSubscript? (.ref sl) >>= _) _ _ s
  refine wpAny_bind ?_
  unfold Builtin.List.listSubscript?
  refine wpAny_bind (wpAny_specialOf hTs slice_no_index ?_)
  simp only [Option.isNone_none, if_true]
  refine wpAny_pure ?_
  show wpAny _ _ (typeOf (.ref sl) >>= _) _ _ s
  refine wpAny_bind (wpAny_typeOf hTs ?_)
  first
    | rw [if_neg (by decide)]
    | refine PySem.W.KFB.if_not (by decide) ?_
  rw [listSliceParts_eq]
  refine wpAny_bind (wpAny_bind (wpAny_field hos hds (x := .none) rfl (wpAny_bind (wpAny_listPart .none ?_))))
  rw [if_neg hstep]
  refine wpAny_bind (wpAny_field hos hds (x := vl) rfl (wpAny_bind (wpAny_listPart pl ?_)))
  refine wpAny_bind (wpAny_field hos hds (x := vu) rfl (wpAny_bind (wpAny_listPart pu (wpAny_pure ?_))))
  first
    | simp only [hsame, Bool.false_eq_true, if_false]
    | refine PySem.W.KFB.if_not hsame ?_
    | (dsimp only
       rw [if_neg (by rw [hsame]; exact Bool.false_ne_true)])
  refine wpAny_bind (m := Builtin.List.listAllItems (.ref b) "must assign iterable to extended slice") ?_
  unfold Builtin.List.listAllItems
  refine wpAny_bind (wpAny_typeOf hb.typeIs ?_)
  first
    | refine PySem.W.KFB.if_so (by decide) ?_
    | rw [if_pos (by decide)]
    | simp only [beq_self_eq_true, Bool.true_or, if_true]
  unfold Builtin.List.listItems
  refine wpAny_bind (wpAny_seqItems e2 rfl (wpAny_pure ?_))
  refine wpAny_bind (wpAny_bind (wpAny_seqItems e rfl (wpAny_pure ?_)))
  refine wpAny_bind (wpAny_of_eq ((sliceIndices_raw lo hi none items.size (by simp)).trans (congrArg (pure : Int × Int × Int → Sem (Int × Int × Int)) hbd)) ?_)
  show wpAny _ _ (if ((1 : Int) == 1) = true then _ else _) _ _ s
  rw [if_pos (by decide)]
  refine wpAny_bind (wpAny_rule ?_)
  first
    | simp only [notLongL hsz, Bool.false_eq_true, if_false]
    | refine PySem.W.KFB.if_not (notLongL hsz) ?_
  first | refine wpAny_bind (wpAny_pure ?_) | skip
  show wpAny _ _ (updateSeq l (fun xs => xs.extract 0 ((a : Int)).toNat ++ new ++ xs.extract (max (a : Int) (c : Int)).toNat xs.size) >>= _) _ _ s
  rw [hmax, Int.toNat_natCast]
  refine wpAny_bind (wpAny_updateSeq (hz := Nat.le_trans (Nat.le_add_right _ _) hsz) (_hz' := hz') e rfl ?_)
  refine wpAny_bind (wpAny_letGo ?_)
  first
    | exact wpAny_bind (wpAny_pure (wpAny_pure ⟨.none, rfl, wpAny_pure h⟩))
    | exact wpAny_pure ⟨.none, rfl, wpAny_pure h⟩
end
section
variable {X:Cx} {pos p2:Pos}
noncomputable def gSlice (to:TE) (tl th:TO):TG:=fun v σ H Q=>to σ H fun x H1=>tl σ H1 fun lo H2=>th σ H2 fun hi H3=>∃ (p b:Addr) (xs ys:List V) (a c:Nat),x = .ref p∧v = .ref b∧H3 p = some (.lst xs)∧H3 b = some (.lst ys)∧p≠b∧sliceBounds lo hi none xs.length = ((a:Int),(c:Int),1)∧a≤c∧c≤xs.length∧xs.length + ys.length≤sizeLine ∧
 Q σ (upd H3 p (.lst (xs.take a ++ ys ++ xs.drop c)))
theorem pg_slice {o:Expr} {lo hi:Option Expr} {to:TE} {tl th:TO} (ho:PE X o to) (hl:PO X lo tl) (hu:PO X hi th)
  (ha:∀ v,assign (.Subscript o (.Slice lo hi none p2) pos) X.env v = (do
   let ov ← holding [v] (eval o X.env)
   let iv ← holding [v,ov] (eval (.Slice lo hi none p2) X.env)
   standAt pos
   holding [v,ov,iv] (setItem ov iv v)
   release [iv,v,ov] []):=by intro _;rfl):PG X (.Subscript o (.Slice lo hi none p2) pos) (gSlice to tl th):=by
 intro pins s σ H v u Q I r h
 rw [ha]
 refine wpAny_bind (wpAny_holding (thn (ho pins s σ H _ I h) fun ov s1 ⟨x,H1,I1,r1,q1⟩=>?_))
 refine wpAny_bind (wpAny_holding (wpAny_Slice (thn (hl pins s1 σ H1 _ I1 q1) fun vl s2 ⟨l,H2,I2,pl,q2⟩=>thn (hu pins s2 σ H2 _ I2 q2) fun vu s3 ⟨h',H3,I3,pu,q3⟩=>?_)))
 rw [evalPart_none]
 refine wpAny_pure ?_
 obtain ⟨p,b,xs,ys,a,c,rfl,rfl,hp,hb,hne,hbd,hac,hc,hz,q⟩:=q3
 cases r1
 cases r
 have I4:Inv X pins σ H3 { s3 with heap:=s3.heap.push { cls:=.type "slice",data:=.fields #[vl,vu,.none] } }:=I3.kept (t':=s3.toks) fun b ob q=>Heap.get?_push_of_some _ q
 obtain ⟨z,its,n,r,hl',e⟩:=I4.lstM hp
 obtain ⟨z2,its2,n2,r2,hl2,e2⟩:=I4.lstM hb
 refine wpAny_bind (wpAny_standAt (wpAny_bind (wpAny_holding (setItem_sliceG (a:=a) (c:=c) e e2 hne (Heap.IsSliceOf.new ..) pl pu (by rw [List.size_toArray,← hl'];exact hbd) hac (by rw [List.size_toArray];omega) (by rw [List.size_toArray,List.size_toArray];omega) (wpAny_release ⟨σ,_,?_,q⟩)))))
 refine I4.lset (its':=its.take a ++ its2 ++ its.drop c) (t':=s3.toks) hp e ?_ (Vals.append (Vals.append (r.take _) r2) (r.drop _)) ?_
 ·exact splice_eq its its2 a c
 ·rw [List.length_append,List.length_append,List.length_take,List.length_drop]
  omega
end
theorem bounds_to {a c n:Nat} (hac:a≤c) (ha:a≤n):sliceBounds (some (a:Int)) (some (c:Int)) none n = ((a:Int),((min c n:Nat):Int),1):=by
 simp only [sliceBounds,Option.getD_none]
 have h1:¬ ((a:Int) < 0):=by omega
 have h2:¬ ((c:Int) < 0):=by omega
 simp only [h1,h2,if_false,show (1:Int) > 0 by decide,if_true]
 congr 1
 ·omega
 ·congr 1;omega
theorem bounds_last {n:Nat} (h:0 < n):sliceBounds (some (-1)) none none n = (((n - 1:Nat):Int),(n:Int),1):=by
 simp only [sliceBounds,Option.getD_none]
 simp only [show (-1:Int) < 0 by decide,if_true,show (1:Int) > 0 by decide]
 congr 1
 omega
end L2
namespace L2
open PySem PySem.Spec PyProof.Rows
section
variable {X:Cx} {a b:Expr} {pos:Pos} {ta:XK→TE} {tb:TE}
theorem pex_ix {r:R2} (hr:IxR X.nox r) (ha:PEX X a ta) (hb:PE X.nox b tb) (hs:PlainIx b):PEX X (.Subscript a b pos) (fun E=>tOp r (ta E) tb):=by
 intro E pins s σ H Q I h
 exact Subscript_ (thn (ha E pins s σ H _ I h) fun v s1 ⟨x,H1,I1,r1,q1⟩=>quietX (hb pins s1 σ H1 _ (I1.wish _) q1) fun u s2 ⟨y,H2,I2,r2,q2⟩=>quietX (hr a b pins s2 σ H2 x y v u Q I2 r1 r2 q2 (hs _ _)) fun v s3 ⟨x,H3,I3,r3,q3⟩=>⟨x,H3,I3.unwish,r3,q3⟩)
theorem pex_cmp {op:CmpOp} {r:R2} (ho:OpR X.nox (compareOp op) r) (ha:PEX X a ta) (hb:PE X.nox b tb) (hm:behindInMarks op b = false):PEX X (.Compare a [op] [b] pos) (fun E=>tOp r (ta E) tb):=by
 intro E pins s σ H Q I h
 exact wpAny_Compare1 (thn (ha E pins s σ H _ I h) fun v s1 ⟨x,H1,I1,r1,q1⟩=>quietX (hb pins s1 σ H1 _ (I1.wish _) q1) fun u s2 ⟨y,H2,I2,r2,q2⟩=>quietX (ho pins s2 σ H2 x y v u Q I2 r1 r2 q2) fun v s3 ⟨x,H3,I3,r3,q3⟩=>⟨x,H3,I3.unwish,r3,q3⟩) hm
end
end L2
namespace Mir
open PySem L2
noncomputable abbrev Tz:=Str×List Int
noncomputable abbrev Ez:=Str×Addr×List Int
noncomputable def tg (x:Ez):List V:=[.str x.1,.ref x.2.1]
noncomputable def eg (x:Ez):Tz:=(x.1,x.2.2)
noncomputable def ThW (H:Hp) (t:Addr) (L:List Tz):Prop:=∃ xs:List Ez,TtT tg H t xs∧(∀ x∈xs,H x.2.1 = some (.tup (iV x.2.2)))∧xs.map eg = L
noncomputable def tz (th:Th.Kd×List Nat):Tz:=(ks th.1,th.2.map fun (m:Nat)=>(m:Int))
section
variable {H H':Hp} {t:Addr} {L:List Tz}
theorem ThW.same (h:ThW H t L) (s:Same H H'):ThW H' t L:=by
 obtain ⟨xs,h1,h2,h3⟩:=h
 exact ⟨xs,h1.same s,fun x hx=>s _ _ (h2 x hx),h3⟩
theorem ThU.thw {ths:List (Th.Kd×List Nat)} (h:ThU H t ths):ThW H t (ths.map tz):=by
 obtain ⟨xs,⟨ts,h1,h2,h3⟩,h4,rfl⟩:=h
 refine ⟨xs.map fun x=>(ks x.1,x.2.1,x.2.2.map fun (m:Nat)=>(m:Int)),⟨ts,h1,by rw [List.length_map];exact h2,fun i u x e1 e2=>?_⟩,fun x hx=>?_,?_⟩
 ·rw [List.getElem?_map] at e2
  obtain ⟨y,e3,rfl⟩:=Option.map_eq_some_iff.mp e2
  exact h3 i u y e1 e3
 ·obtain ⟨y,hy,rfl⟩:=List.mem_map.mp hx
  show H y.2.1 = some (.tup (iV (y.2.2.map fun (m:Nat)=>(m:Int))))
  rw [h4 y hy,nV_is]
  rfl
 ·rw [List.map_map,List.map_map]
  rfl
end
end Mir
namespace L2
open PySem PySem.Spec PyProof.Rows
section
variable {X:Cx}
theorem eqAt_thr {pins:List (Addr×Obj)} {σ:St} {H:Hp} {s:Shared} {A:Around} (I:Inv X pins σ H s) (hu:A.units + 1 < cLine) {t u:Addr} {x y:Mir.Ez} (ht:H t = some (.tup (Mir.tg x))) (hx:H x.2.1 = some (.tup (Mir.iV x.2.2))) (hu':H u = some (.tup (Mir.tg y))) (hy:H y.2.1 = some (.tup (Mir.iV y.2.2))) :
  SeqAt.EqAt A s (.ref t) (.ref u) (decide (Mir.eg x = Mir.eg y)):=by
 by_cases e:t = u
 ·subst e
  rw [ht] at hu'
  injection hu' with hu'
  injection hu' with hu'
  have e1:x.1 = y.1:=by have:=(List.cons.inj hu').1;injection this
  have e2:x.2.1 = y.2.1:=by have:=(List.cons.inj (List.cons.inj hu').2).1;injection this
  rw [e2,hy] at hx
  injection hx with hx
  injection hx with hx
  have e3:x.2.2 = y.2.2:=(Mir.map_inj (fun a b h=>by injection h) hx).symm
  rw [decide_eq_true (show Mir.eg x = Mir.eg y from Prod.ext e1 e3)]
  exact SeqAt.EqAt.same _
 ·refine SeqAt.EqAt.of_refs e ?_
  obtain ⟨i1,r1,p1,z1⟩:=I.tuple (SqT.of ht)
  obtain ⟨i2,r2,p2,z2⟩:=I.tuple (SqT.of hu')
  have l1:i1.length = 2:=r1.length.symm
  have l2:i2.length = 2:=r2.length.symm
  have z:=SeqAt.RcAt.tuples (A:=A) (e:=fun j=>if j = 0 then decide (x.1 = y.1) else decide (x.2.2 = y.2.2)) (show s.heap.IsTuple t i1.toArray from p1) (show s.heap.IsTuple u i2.toArray from p2) (by omega) fun j q1 q2=>by
   obtain ⟨x1,e1,t1⟩:=vals_at r1 q1
   obtain ⟨x2,e2,t2⟩:=vals_at r2 q2
   have hj:j < 2:=by rw [List.size_toArray] at q1;omega
   match j,hj with
   | 0,_ =>
    obtain rfl:=Option.some.inj e1
    obtain rfl:=Option.some.inj e2
    have w:=eqAt_V (A:=A.in1) (s:=s) t1 t2 rfl rfl
    have ew:eqV (V.str x.1) (V.str y.1) = decide (x.1 = y.1):=by
     show (x.1 == y.1) = decide (x.1 = y.1)
     by_cases c:x.1 = y.1
     ·rw [decide_eq_true c,c];exact beq_self_eq_true _
     ·rw [decide_eq_false c];exact beq_eq_false_iff_ne.mpr c
    rw [ew] at w
    exact w
   | 1,_ =>
    obtain rfl:=Option.some.inj e1
    obtain rfl:=Option.some.inj e2
    have t1':i1.toArray[1] = Value.ref x.2.1:=t1
    have t2':i2.toArray[1] = Value.ref y.2.1:=t2
    rw [t1',t2']
    exact eqAt_tupD I (by show A.units + 1 < cLine;omega) (SqT.of hx) (SqT.of hy)
  have e3:(i1.toArray.size == i2.toArray.size && (List.range (min i1.toArray.size i2.toArray.size)).all (fun j=>if j = 0 then decide (x.1 = y.1) else decide (x.2.2 = y.2.2))) = decide (Mir.eg x = Mir.eg y):=by
   rw [List.size_toArray,List.size_toArray,l1,l2]
   show (true && (decide (x.1 = y.1) && (decide (x.2.2 = y.2.2) && true))) = _
   rw [Bool.eq_iff_iff,decide_eq_true_iff,Bool.true_and,Bool.and_true,Bool.and_eq_true,decide_eq_true_iff,decide_eq_true_iff]
   unfold Mir.eg
   rw [Prod.ext_iff]
  rw [Bool.and_comm] at e3
  rw [e3] at z
  exact z
theorem op_ne_thr (hu:X.A.units + 2 < cLine):OpR X (compareOp .NotEq) (fun x y H Q=>∃ (a b:Addr) (L1 L2:List Mir.Tz),x = .ref a∧y = .ref b∧Mir.ThW H a L1∧Mir.ThW H b L2∧Q (.bl (!decide (L1 = L2))) H):=by
 intro pins s σ H x y v u Q I rx ry h
 obtain ⟨a,b,L1,L2,rfl,rfl,⟨xs,⟨ts,h1,h2,h3⟩,h4,rfl⟩,⟨ys,⟨us,k1,k2,k3⟩,k4,rfl⟩,q⟩:=h
 cases rx
 cases ry
 obtain ⟨i1,r1,p1,z1⟩:=I.tuple (SqT.of h1)
 obtain ⟨i2,r2,p2,z2⟩:=I.tuple (SqT.of k1)
 have l1:i1.length = xs.length:=by have:=r1.length;rw [List.length_map] at this;omega
 have l2:i2.length = ys.length:=by have:=r2.length;rw [List.length_map] at this;omega
 refine SeqAt.RcNeAt.tuples (A:=X.A) (e:=fun j=>decide ((xs.map Mir.eg)[j]? = (ys.map Mir.eg)[j]?)) (show s.heap.IsTuple a i1.toArray from p1) (show s.heap.IsTuple b i2.toArray from p2) (by omega) (fun j q1 q2=>?_) X.prog X.w X.xe _ ⟨.bl (!decide (xs.map Mir.eg = ys.map Mir.eg)),H,I,?_,q⟩
 ·obtain ⟨x1,e1,t1⟩:=vals_at r1 q1
  obtain ⟨x2,e2,t2⟩:=vals_at r2 q2
  rw [List.size_toArray] at q1 q2
  rw [List.getElem?_map] at e1 e2
  obtain ⟨t,e3,rfl⟩:=Option.map_eq_some_iff.mp e1
  obtain ⟨u,e4,rfl⟩:=Option.map_eq_some_iff.mp e2
  have ex:=List.getElem?_eq_getElem (l:=xs) (i:=j) (by omega)
  have ey:=List.getElem?_eq_getElem (l:=ys) (i:=j) (by omega)
  have w:=eqAt_thr (A:=X.A.in1) I (by show X.A.units + 1 + 1 < cLine;omega) (h3 j t _ e3 ex) (h4 _ (List.mem_of_getElem? ex)) (k3 j u _ e4 ey) (k4 _ (List.mem_of_getElem? ey))
  have t1':i1.toArray[j] = Value.ref t:=t1
  have t2':i2.toArray[j] = Value.ref u:=t2
  rw [t1',t2',List.getElem?_map,List.getElem?_map,ex,ey]
  have ed:decide (Option.map Mir.eg (some xs[j]) = Option.map Mir.eg (some ys[j])) = decide (Mir.eg xs[j] = Mir.eg ys[j]):=by
   refine decide_eq_decide.mpr ⟨fun h=>Option.some.inj h,fun h=>congrArg some h⟩
  rw [ed]
  exact w
 ·show Value.bool _ = Value.bool _
  congr 2
  rw [List.size_toArray,List.size_toArray,l1,l2,Bool.eq_iff_iff,decide_eq_true_iff,Bool.and_eq_true,List.all_eq_true,beq_iff_eq]
  constructor
  ·rintro ⟨g1,g2⟩
   refine List.ext_getElem? fun j=>?_
   by_cases c:j < xs.length
   ·exact of_decide_eq_true (g1 j (List.mem_range.mpr (by omega)))
   ·rw [List.getElem?_eq_none (by rw [List.length_map];omega),List.getElem?_eq_none (by rw [List.length_map];omega)]
  ·intro g
   refine ⟨fun j _=>decide_eq_true (by rw [g]),?_⟩
   have:=congrArg List.length g
   rw [List.length_map,List.length_map] at this
   exact this
end
end L2

namespace Mir
open PySem L2
inductive RunZ (n:Nat):List Nat→List (Int×Int)→List Nat→Prop
 | nil {ms:List Nat}:RunZ n ms [] ms
 | cons {ms ws:List Nat} {d:Int×Int} {r:List (Int×Int)}:Fits n ms d.1 d.2→RunZ n (beh ms d.1.toNat d.2.toNat) r ws→RunZ n ms (d :: r) ws
section
variable {n:Nat} {os ms ws:List Nat} {d:Int×Int} {r:List (Int×Int)}
theorem RunZ.inv (h:RunZ n ms (d :: r) ws):Fits n ms d.1 d.2∧RunZ n (beh ms d.1.toNat d.2.toNat) r ws:=by
 cases h with
 | cons h1 h2=>exact ⟨h1,h2⟩
theorem RunZ.end_ (h:RunZ n ms [] ws):ms = ws:=by cases h;rfl
theorem RunZ.split:∀ {pre:List (Int×Int)} {ms:List Nat},RunZ n ms (pre ++ d :: r) ws→∃ vs,RunZ n ms pre vs∧Fits n vs d.1 d.2∧RunZ n (beh vs d.1.toNat d.2.toNat) r ws
 | [],ms,h=>⟨ms,.nil,h.inv.1,h.inv.2⟩
 | e :: pre,ms,h=>by
  obtain ⟨h1,h2⟩:=(show RunZ n ms (e :: (pre ++ d :: r)) ws from h).inv
  obtain ⟨vs,g1,g2⟩:=h2.split
  exact ⟨vs,.cons h1 g1,g2⟩
theorem RunZ.uniq {vs:List Nat}:∀ {pre:List (Int×Int)} {ms:List Nat},RunZ n ms pre ws→RunZ n ms pre vs→ws = vs
 | [],_,h,g=>h.end_.symm.trans g.end_
 | _ :: _,_,h,g=>h.inv.2.uniq g.inv.2
theorem run_workR:∀ {c:List (Nat×Nat)} {ms:List Nat},Lead n os ms c→∀ k,RunZ n ms ((c.take k).map zN) (workR ms (c.take k))
 | [],_,_,k=>by rw [List.take_nil];exact .nil
 | _ :: _,_,_,0=>.nil
 | c :: r,ms,h,k + 1=>by
  obtain ⟨h1,h2,h3,h4⟩:=h.inv
  refine .cons (d:=zN c) (fits_nat h1 h2 h3) ?_
  have z:=run_workR h4 k
  exact z
end
noncomputable def NotPaper (n:Nat) (ms os:List Nat) (L:List Tz) (ds:List (Int×Int)):Prop:=∀ ths,IsThr n ms os ths→L = ths.map tz→ds.length = apartN n ms os→¬ RunZ n ms ds os
noncomputable def Sms (ds:List (Int×Int)):Prop:=ds.length≤20∧∀ d∈ds,Sm d.1∧Sm d.2
variable (K:PySem.W.Frag)
noncomputable def spAlongX (C:Addr):Sp:=fun vs H Q E=>∃ (a t:Addr) (n:Nat) (ms:List Nat) (ds:List (Int×Int)),vs = [.ref a,.ref t]∧SqT K H a (nV ms)∧WorkL n ms∧TtT zp H t ds∧Sms ds ∧
 (∀ ws,RunZ n ms ds ws→∀ (l u:Addr) (xs:List V) (H':Hp),Same H H'→H' l = some (.lst (xs ++ [.ref u]))→SqT K H' u (nV ws)→Q (.ref l) H')∧((¬ ∃ ws,RunZ n ms ds ws)→∀ H':Hp,Same H H'→E (.ref C) none H')
noncomputable def spLeadsNo:Sp:=fun vs H Q _=>∃ (a t b:Addr) (n:Nat) (ms os:List Nat) (ds:List (Int×Int)),vs = [.ref a,.ref t,.ref b]∧SqT K H a (nV ms)∧WorkL n ms∧TtT zp H t ds∧Sms ds∧SqT K H b (nV os)∧¬ RunZ n ms ds os∧∀ H':Hp,Same H H'→Q (.bl false) H'
noncomputable def spJudgedX (CP CU:Addr):Sp:=fun vs H _ E=>∃ (a b p q r:Addr) (n m:Nat) (ms os:List Nat) (L:List Tz) (ds:List (Int×Int)),vs = [.ref a,.ref b,.ref p]∧SqT K H a (nV ms)∧WorkL n ms∧n≤6∧SqT K H b (nV os)∧os.length = 2 * m∧H p = some (.tup [.ref q,.ref r])∧ThW H q L∧TtT zp H r ds∧Sms ds ∧
 (n = m→WorkL n os∧NotPaper n ms os L ds∧∀ H':Hp,Same H H'→E (.ref CP) none H')∧(n≠m→∀ H':Hp,Same H H'→E (.ref CU) none H')
end Mir
namespace Mir
open PySem L2
noncomputable def LwT (H:Hp) (l:Addr) (ms:List Nat) (c:List (Nat×Nat)) (k:Nat):Prop:=∃ ts:List Addr,H l = some (.lst (ts.map V.ref))∧ts.length = k + 1∧∀ (i:Nat) (t:Addr),ts[i]? = some t→H t = some (.lst (nV (workR ms (c.take i))))
theorem lead_take {n:Nat} {os:List Nat}:∀ (r:List (Nat×Nat)) (k:Nat) (ms:List Nat),WorkL n ms→Lead n os ms r→WorkL n (workR ms (r.take k))
 | [],k,_,W,_=>by rw [List.take_nil];exact W
 | _ :: _,0,_,W,_=>W
 | c :: r,k + 1,ms,W,h=>by
  obtain ⟨h1,h2,h3,h4⟩:=h.inv
  exact lead_take r k _ (beh_work W (by omega) h2 h3) h4
theorem lead_at {n:Nat} {os:List Nat}:∀ (r:List (Nat×Nat)) (i:Nat) (ms:List Nat) {c:Nat×Nat},Lead n os ms r→r[i]? = some c→c.1≤c.2∧c.2 < 2 * n∧at0 (workR ms (r.take i)) c.1≠c.2
 | [],i,_,_,_,e=>by cases e
 | d :: r,0,ms,c,h,e=>by
  obtain rfl:=Option.some.inj e
  obtain ⟨h1,h2,h3,h4⟩:=h.inv
  exact ⟨h1,h2,h3⟩
 | d :: r,i + 1,ms,c,h,e=>lead_at r i (beh ms d.1 d.2) h.inv.2.2.2 e
variable (K:PySem.W.Frag)
noncomputable def spAlong26:Sp:=fun vs H Q _=>∃ (a l:Addr) (n:Nat) (ms os:List Nat) (c:List (Nat×Nat)),vs = [.ref a,.ref l]∧SqT K H a (nV ms)∧WorkL n ms∧n≤5∧TsT pf H l c∧Lead n os ms c∧c.length≤5∧∀ (lw:Addr) (H':Hp),H lw = none→Same H H'→LwT H' lw ms c c.length→Q (.ref lw) H'
noncomputable def spDetour:Sp:=fun vs H Q _=>∃ (l:Addr) (n:Nat) (ms:List Nat) (c:Int),vs = [.ref l,.int c]∧H l = some (.lst (nV ms))∧WorkL n ms∧0 < n∧n≤5∧∀ (lr:Addr) (H':Hp) (ds:List (Int×Int)),H lr = none→Same H H'→TsT zp H' lr ds→ds.length = 2→(∀ d∈ds,Sm d.1∧Sm d.2)→Q (.ref lr) H'
noncomputable def spMisfit26:Sp:=fun vs H Q _=>∃ (l:Addr) (n:Nat) (ms:List Nat) (c:Int),vs = [.ref l,.int c]∧H l = some (.lst (nV ms))∧WorkL n ms∧n≤5∧∀ (t:Addr) (H':Hp) (d:Int×Int),Same H H'→H' t = some (.tup (zp d))→Sm d.1→Sm d.2→¬ Fits n ms d.1 d.2→Q (.ref t) H'
noncomputable def spElse26:Sp:=fun vs H Q _=>∃ (l1 l2:Addr) (n:Nat) (ms os:List Nat) (c:Int),vs = [.ref l1,.ref l2,.int c]∧H l1 = some (.lst (nV ms))∧WorkL n ms∧H l2 = some (.lst (nV os))∧WorkL n os∧n≤5∧∀ (lr:Addr) (H':Hp) (ds:List (Int×Int)),H lr = none→Same H H'→TsT zp H' lr ds→(ds = []∨∃ d,ds = [d]∧(Sm d.1∧Sm d.2)∧beh ms d.1.toNat d.2.toNat≠os)→Q (.ref lr) H'
noncomputable def spThrElse:Sp:=fun vs H Q _=>∃ (t:Addr) (k:Th.Kd) (e:Addr) (ns:List Int) (c:Int),vs = [.ref t,.int c]∧H t = some (.tup (tg (ks k,e,ns)))∧H e = some (.tup (iV ns))∧ns≠[]∧ns.Nodup∧ns.length≤10∧∀ (u:Addr) (H':Hp) (y:Ez),Same H H'→H' u = some (.tup (tg y))→H' y.2.1 = some (.tup (iV y.2.2))→eg y≠(ks k,ns)→Q (.ref u) H'
end Mir
namespace Mir
open PySem L2
theorem atI_end {xs:List V} {v:V} (h:xs.getLast? = some v):atI xs (-1) = some v:=by
 obtain ⟨ys,rfl⟩:=List.getLast?_eq_some_iff.mp h
 exact atI_last _ _
end Mir
namespace L2
open PySem PySem.Spec PyProof.Rows
section
variable {X:Cx}
noncomputable def rIndexS:V→List V→Hp→VK→Prop:=fun x vs H Q=>∃ (l:Addr) (zs:List Str) (j:Nat) (z:Str),x = .ref l∧vs = [.str z]∧H l = some (.lst (zs.map V.str))∧zs[j]? = some z∧(∀ m,m < j→zs[m]?≠some z)∧Q (.int (j:Nat)) H
noncomputable def isZ (z:Str):Value→Bool
 | .str i _=>i == z
 | _=>false
theorem mt_indexS (hu:X.A.units < cLine):MtM X "list.index" rIndexS:=by
 intro pins s σ H x vs v us Q I rx rv h
 obtain ⟨l,zs,j,z0,rfl,rfl,hH,hj,hno,q⟩:=h
 cases rx
 obtain ⟨u,rfl,ru⟩:=rv.one
 obtain ⟨t,rfl⟩:=ru
 obtain ⟨z,its,k,r,hl,e⟩:=I.lstM hH
 have hjl:j < zs.length:=(List.getElem?_eq_some_iff.mp hj).1
 have hli:zs.length = its.length:=by have z:=r.length;rwa [List.length_map] at z
 have sz:=sizeLine_eq
 have z':zs.length≤sizeLine:=by rw [hli,← hl];exact (by rw [List.length_map];omega)
 have item:∀ m (hm:m < its.toArray.size),∃ t',its.toArray[m] = .str (zs[m]'(by rw [List.size_toArray] at hm;omega)) t':=fun m hm=>by
  obtain ⟨x1,e1,t1⟩:=vals_at r hm
  have hm':m < zs.length:=by rw [List.size_toArray] at hm;omega
  rw [List.getElem?_map,List.getElem?_eq_getElem hm'] at e1
  obtain rfl:=Option.some.inj e1
  exact t1
 refine call_meets F.slot_list_index ⟨_,e,rfl⟩ F.entry_list_index (F.args_list_index_2 _ _) (SeqAt.list_indexAt l its.toArray k none #[] (.str z0 t) (isZ z0) j (by rw [List.size_toArray];omega) (by omega) ?_ fun m hm hmj=>?_) ⟨e,fun y hy=>?_,?_⟩
 ·obtain ⟨t',q'⟩:=item j (by rw [List.size_toArray];omega)
  rw [q']
  show (zs[j] == z0) = true
  rw [List.getElem?_eq_getElem hjl] at hj
  rw [Option.some.inj hj]
  exact beq_self_eq_true _
 ·obtain ⟨t',q'⟩:=item m hm
  rw [q']
  show (zs[m]'_ == z0) = false
  refine beq_eq_false_iff_ne.mpr fun z=>hno m hmj ?_
  rw [List.getElem?_eq_getElem (by omega),z]
 ·obtain ⟨m,hm,rfl⟩:=Array.getElem_of_mem hy
  obtain ⟨t',q'⟩:=item m hm
  rw [q']
  exact eqAt_V (A:=X.A.in1) (s:=s) (y:=.str _) (x:=.str z0) ⟨t',rfl⟩ ⟨t,rfl⟩ rfl rfl
 ·exact ⟨.int (j:Nat),H,I.tok _,⟨_,rfl⟩,q⟩
end
end L2
namespace Mir
open PySem L2
noncomputable def kN:Th.Kd→Nat
 | .ring=>0
 | .odd=>1
 | .bare=>2
 | .tied=>3
theorem ks_at (k:Th.Kd):(["ring","odd","bare","tied"]:List Str)[kN k]? = some (ks k):=by cases k <;> rfl
theorem ks_ne {i j:Nat} (hi:i < 4) (hj:j < 4) (h:i≠j):(["ring","odd","bare","tied"]:List Str)[i]?≠(["ring","odd","bare","tied"]:List Str)[j]?:=by
 have key:∀ i:Fin 4,∀ j:Fin 4,i≠j→(["ring","odd","bare","tied"]:List Str)[i.1]?≠(["ring","odd","bare","tied"]:List Str)[j.1]?:=by decide +kernel
 exact key ⟨i,hi⟩ ⟨j,hj⟩ fun z=>h (congrArg Fin.val z)
theorem kN_lt (k:Th.Kd):kN k < 4:=by cases k <;> decide
theorem rot_ne {x y:Int} {r:List Int} (nd:(x :: y :: r).Nodup):(y :: r) ++ [x]≠x :: y :: r:=fun e=>by
 have:=(List.cons.inj e).1
 rw [List.nodup_cons] at nd
 exact nd.1 (by rw [← this];exact List.mem_cons_self)
end Mir
namespace Mir
open PySem L2
theorem cutV_from (xs:List V) (k:Nat):cutV xs (some (k:Int)) none = xs.drop k:=by
 unfold cutV
 rw [HT.sIx_none,HT.sIx_nat]
 by_cases h:k≤xs.length
 ·rw [Nat.min_eq_left h,List.take_of_length_le (by rw [List.length_drop];omega)]
 ·rw [Nat.min_eq_right (by omega),List.drop_length,List.drop_eq_nil_of_le (by omega),List.take_nil]
theorem iV_drop (ns:List Int) (k:Nat):(iV ns).drop k = iV (ns.drop k):=by unfold iV;rw [List.map_drop]
theorem iV_take (ns:List Int) (k:Nat):(iV ns).take k = iV (ns.take k):=by unfold iV;rw [List.map_take]
theorem iV_cat (a b:List Int):iV a ++ iV b = iV (a ++ b):=by unfold iV;rw [List.map_append]
end Mir


namespace Mir
open PySem L2
section
variable {n:Nat} {ms os:List Nat} {ths:List (Th.Kd×List Nat)} {L:List Tz} {ds:List (Int×Int)}
theorem np_threads (hI:IsThr n ms os ths) (h:L≠ths.map tz):NotPaper n ms os L ds:=fun t ht e _ _=>h (by rw [e,ht.uniq hI])
theorem np_len (h:ds.length≠apartN n ms os):NotPaper n ms os L ds:=fun _ _ _ e _=>h e
theorem np_run (h:¬ RunZ n ms ds os):NotPaper n ms os L ds:=fun _ _ _ _ e=>h e
theorem thr_some (W:WorkL n ms) (WO:WorkL n os) (hI:IsThr n ms os ths) (h:0 < n):ths≠[]:=fun e=>by
 have A:Th.AllT (2 * n) (at0 ms) (at0 os) ths:=⟨two_of W WO,hI.1,hI.2⟩
 obtain ⟨th,h1,_⟩:=A.mem (p:=0) (by omega)
 rw [e] at h1
 cases h1
theorem thr_facts (W:WorkL n ms) (WO:WorkL n os) (hI:IsThr n ms os ths) {th:Th.Kd×List Nat} (h:th∈ths):th.2≠[]∧th.2.Nodup∧th.2.length≤2 * n:=by
 have A:Th.AllT (2 * n) (at0 ms) (at0 os) ths:=⟨two_of W WO,hI.1,hI.2⟩
 have G:=A.good h
 obtain ⟨u,hu,C⟩:=A.comp h
 refine ⟨fun e=>?_,G.nd,?_⟩
 ·have:=(C.2 u).mpr (Th.Conn.refl _)
  rw [e] at this
  cases this
 ·have z:=Th.sub_len G.nd (m:=List.range (2 * n)) fun x hx=>List.mem_range.mpr (G.lt x hx)
  rwa [List.length_range] at z
theorem thr_nodup (hI:IsThr n ms os ths):(ths.map tz).Nodup:=by
 have inj:∀ x y:Th.Kd×List Nat,tz x = tz y→x = y:=fun x y h=>by
  have h1:ks x.1 = ks y.1:=congrArg (fun z:Tz=>z.1) h
  have h2:x.2.map (fun (m:Nat)=>(m:Int)) = y.2.map (fun (m:Nat)=>(m:Int)):=congrArg (fun z:Tz=>z.2) h
  refine Prod.ext ?_ (map_inj (fun a b h=>by omega) h2)
  have k1:=ks_at x.1
  have k2:=ks_at y.1
  rw [h1,← k2] at k1
  by_cases e:kN x.1 = kN y.1
  ·revert e
   cases x.1 <;> cases y.1 <;> intro e <;> first | rfl | (exact absurd e (by decide))
  ·exact absurd k1 (ks_ne (kN_lt _) (kN_lt _) e)
 refine List.nodup_iff_pairwise_ne.mpr (List.pairwise_map.mpr (hI.2.imp fun {p q} h e=>?_))
 rw [inj p q e] at h
 omega
end
noncomputable def ThL (H:Hp) (l:Addr) (L:List Tz):Prop:=∃ xs:List Ez,TsT tg H l xs∧(∀ x∈xs,H x.2.1 = some (.tup (iV x.2.2)))∧xs.map eg = L
theorem ThL.same {H H':Hp} {l:Addr} {L:List Tz} (h:ThL H l L) (s:Same H H'):ThL H' l L:=by
 obtain ⟨xs,h1,h2,h3⟩:=h
 exact ⟨xs,h1.same s,fun x hx=>s _ _ (h2 x hx),h3⟩
theorem ThL.tuple {H H':Hp} {l t:Addr} {L:List Tz} {vs:List V} (h:ThL H l L) (hv:H l = some (.lst vs)) (s:Same H H') (ht:H' t = some (.tup vs)):ThW H' t L:=by
 obtain ⟨xs,h1,h2,h3⟩:=h
 exact ⟨xs,h1.tuple hv s ht,fun x hx=>s _ _ (h2 x hx),h3⟩
theorem ThL.upd {H:Hp} {l d:Addr} {o:HO} {vs:List V} {L:List Tz} (h:ThL H l L) (hd:H d = some (.lst vs)) (ne:l≠d):ThL (L2.upd H d o) l L:=by
 obtain ⟨xs,⟨ts,h1,h2,h3⟩,h4,h5⟩:=h
 exact ⟨xs,⟨ts,by rw [upd_ne ne];exact h1,h2,fun i t x e1 e2=>by have q:=h3 i t x e1 e2;rw [upd_ne (fun z=>by rw [z,hd] at q;cases q)];exact q⟩,fun x hx=>by have q:=h4 x hx;rw [upd_ne (fun z=>by rw [z,hd] at q;cases q)];exact q,h5⟩
variable (K:PySem.W.Frag)
noncomputable def spSpoiled26:Sp:=fun vs H Q _=>∃ (a b p q r:Addr) (n:Nat) (ms os:List Nat) (ths:List (Th.Kd×List Nat)) (c:Int),vs = [.ref a,.ref b,.ref p,.int c]∧SqT K H a (nV ms)∧WorkL n ms∧SqT K H b (nV os)∧WorkL n os∧n≤5∧H p = some (.tup [.ref q,.ref r])∧ThU H q ths∧IsThr n ms os ths∧TtT pf H r (fewL n ms os) ∧
 ∀ (p' q' r':Addr) (L:List Tz) (ds:List (Int×Int)) (H':Hp),Same H H'→H' p' = some (.tup [.ref q',.ref r'])→ThW H' q' L→TtT zp H' r' ds→Sms ds→NotPaper n ms os L ds→Q (.ref p') H'
end Mir
namespace Mir
open PySem L2
theorem atI_m2 {α:Type} {xs:List α} (h:2≤xs.length):atI xs (-2) = xs[xs.length - 2]?:=by
 unfold atI ixN
 rw [if_neg (by decide),if_pos (by omega)]
 show xs[(-2 + (xs.length:Int)).toNat]? = _
 congr 1
 omega
end Mir
theorem Mir.nexts {N G:Prop} (m:N→G) (x:N):G:=m x
theorem Mir.nextsP (c:Prop) {N G:Prop} (m:(c→N)→G) (x:c→N):G:=m x
namespace Mir
open PySem L2
theorem Tup.set {α:Type} {f:α→List V} {H:Hp} {ts:List Addr} {xs:List α} {t:Addr} {x:α} (h:Tup f H ts xs) (i:Nat) (ht:H t = some (.tup (f x))):Tup f H (ts.set i t) (xs.set i x):=⟨by rw [List.length_set,List.length_set];exact h.1,fun j u y e1 e2=>by
 by_cases c:i = j
 ·subst c
  rw [List.getElem?_set_self' ] at e1 e2
  cases q1:ts[i]? with
  | none=>rw [q1] at e1;cases e1
  | some a =>
   cases q2:xs[i]? with
   | none=>rw [q2] at e2;cases e2
   | some b =>
    rw [q1] at e1
    rw [q2] at e2
    obtain rfl:=Option.some.inj e1
    obtain rfl:=Option.some.inj e2
    exact ht
 ·rw [List.getElem?_set_ne c] at e1 e2
  exact h.2 j u y e1 e2⟩
theorem mod_off {i m r:Nat} (hi:i < m) (hr:r + 1 < m):(i + 1 + r) % m < m∧(i + 1 + r) % m≠i:=by
 refine ⟨Nat.mod_lt _ (by omega),?_⟩
 by_cases h:i + 1 + r < m
 ·rw [Nat.mod_eq_of_lt h];omega
 ·rw [Nat.mod_eq_sub_mod (by omega),Nat.mod_eq_of_lt (by omega)];omega
end Mir
namespace Mir
open PySem L2
variable (K:PySem.W.Frag)
noncomputable def spRefusal26:Sp:=fun vs H Q _=>∃ (a b p q r:Addr) (n m:Nat) (ms os:List Nat) (L:List Tz) (ds:List (Int×Int)),vs = [.ref a,.ref b,.ref p]∧SqT K H a (nV ms)∧WorkL n ms∧n≤6∧SqT K H b (nV os)∧os.length = 2 * m∧H p = some (.tup [.ref q,.ref r])∧ThW H q L∧TtT zp H r ds∧Sms ds ∧
 ((n = m∧WorkL n os∧NotPaper n ms os L ds∧∀ (l:Addr) (H':Hp),Same H H'→H' l = some (.lst [.bl true,.bl false,.bl true])→Q (.ref l) H')∨(n≠m∧∀ (l:Addr) (H':Hp),Same H H'→H' l = some (.lst [.bl false,.bl true,.bl true])→Q (.ref l) H'))
end Mir
namespace Mir
open PySem L2
theorem lead_sms {n:Nat} {ms os:List Nat} {cs:List (Nat×Nat)} (fL:Lead n os ms cs) (hn:n≤5) (hl:cs.length≤20):Sms (cs.map zN):=⟨by rw [List.length_map];exact hl,fun d hd=>by
 obtain ⟨e,he,rfl⟩:=List.mem_map.mp hd
 obtain ⟨i,hi⟩:=List.mem_iff_getElem?.mp he
 obtain ⟨b1,b2,_⟩:=lead_at cs i ms fL hi
 exact ⟨Sm.of (by show _ < ((e.1:Nat):Int);omega) (by show ((e.1:Nat):Int) < _;omega),Sm.of (by show _ < ((e.2:Nat):Int);omega) (by show ((e.2:Nat):Int) < _;omega)⟩⟩
theorem TtT.zp {H:Hp} {t:Addr} {r:List (Nat×Nat)} (h:TtT pf H t r):TtT Mir.zp H t (r.map zN):=by
 obtain ⟨ts,h1,h2⟩:=h
 exact ⟨ts,h1,h2.zp⟩
end Mir

set_option maxHeartbeats 2000000
namespace Law
open PySem L2
noncomputable def top (i:Nat):Stmt:=PySem.Challenge.pw_claspwork_k26_papers_refused.main.body.getD i (.Pass ⟨0,0,0,0⟩)
noncomputable abbrev s_staves_in:Stmt:=top 6
noncomputable abbrev s_refuse_unlike:Stmt:=top 7
noncomputable abbrev s_loose_ends:Stmt:=top 8
noncomputable abbrev s_fits_work:Stmt:=top 10
noncomputable abbrev s_refuse_misfit:Stmt:=top 11
noncomputable abbrev s_reclasped:Stmt:=top 12
noncomputable abbrev s_freed_ends:Stmt:=top 13
noncomputable abbrev s_clasp_ends:Stmt:=top 14
noncomputable abbrev s_least_pair:Stmt:=top 15
noncomputable abbrev s_works_along:Stmt:=top 17
noncomputable abbrev s_threads:Stmt:=top 19
noncomputable abbrev s_open_threads:Stmt:=top 20
noncomputable abbrev s_walked_thread:Stmt:=top 21
noncomputable abbrev s_mark_ends:Stmt:=top 22
noncomputable abbrev s_least_end:Stmt:=top 23
noncomputable abbrev s_thread_score:Stmt:=top 24
noncomputable abbrev s_apart_by:Stmt:=top 25
noncomputable abbrev s_nearer_deeds:Stmt:=top 27
noncomputable abbrev s_ends_in:Stmt:=top 28
noncomputable abbrev s_splitting_pairs:Stmt:=top 29
noncomputable abbrev s_crossing_pairs:Stmt:=top 30
noncomputable abbrev s_ordered_pair:Stmt:=top 31
noncomputable abbrev s_fewest_deeds:Stmt:=top 32
noncomputable abbrev s_paper_for:Stmt:=top 33
noncomputable abbrev s_judged_paper:Stmt:=top 34
noncomputable abbrev s_leads_to:Stmt:=top 35
noncomputable abbrev s_law_cell_at:Stmt:=top 37
noncomputable abbrev s_law_mates:Stmt:=top 38
noncomputable abbrev s_law_freed:Stmt:=top 39
noncomputable abbrev s_law_done:Stmt:=top 40
noncomputable abbrev s_law_along:Stmt:=top 41
noncomputable abbrev s_law_detour:Stmt:=top 42
noncomputable abbrev s_law_misfit:Stmt:=top 43
noncomputable abbrev s_law_thread_else:Stmt:=top 44
noncomputable abbrev s_law_elsewhere:Stmt:=top 45
noncomputable abbrev s_law_spoiled:Stmt:=top 46
noncomputable abbrev s_law_refusal:Stmt:=top 47
noncomputable abbrev s_law:Stmt:=top 48
theorem sc_staves_in:FnScope ["work"] ["work"] (defScope s_staves_in):=⟨rfl,rfl,rfl,by decide +kernel,rfl,by decide +kernel,by decide +kernel⟩
theorem sc_refuse_unlike:FnScope ["one","other"] ["one","other"] (defScope s_refuse_unlike):=⟨rfl,rfl,rfl,by decide +kernel,rfl,by decide +kernel,by decide +kernel⟩
theorem sc_loose_ends:FnScope ["work"] ["work"] (defScope s_loose_ends):=⟨rfl,rfl,rfl,by decide +kernel,rfl,by decide +kernel,by decide +kernel⟩
theorem sc_fits_work:FnScope ["work","deed","low","high"] ["work","deed"] (defScope s_fits_work):=⟨rfl,rfl,rfl,by decide +kernel,rfl,by decide +kernel,by decide +kernel⟩
theorem sc_refuse_misfit:FnScope ["work","deed"] ["work","deed"] (defScope s_refuse_misfit):=⟨rfl,rfl,rfl,by decide +kernel,rfl,by decide +kernel,by decide +kernel⟩
theorem sc_reclasped:FnScope ["work","deed","mates","freed"] ["work","deed"] (defScope s_reclasped):=⟨rfl,rfl,rfl,by decide +kernel,rfl,by decide +kernel,by decide +kernel⟩
theorem sc_freed_ends:FnScope ["work","deed"] ["work","deed"] (defScope s_freed_ends):=⟨rfl,rfl,rfl,by decide +kernel,rfl,by decide +kernel,by decide +kernel⟩
theorem sc_clasp_ends:FnScope ["mates","one","other"] ["mates","one","other"] (defScope s_clasp_ends):=⟨rfl,rfl,rfl,by decide +kernel,rfl,by decide +kernel,by decide +kernel⟩
theorem sc_least_pair:FnScope ["work","deed","pair","freed"] ["work","deed"] (defScope s_least_pair):=⟨rfl,rfl,rfl,by decide +kernel,rfl,by decide +kernel,by decide +kernel⟩
theorem sc_works_along:FnScope ["work","deeds","passed","deed"] ["work","deeds"] (defScope s_works_along):=⟨rfl,rfl,rfl,by decide +kernel,rfl,by decide +kernel,by decide +kernel⟩
theorem sc_threads:FnScope ["one","other","found","seen","kind","ends","end","ring"] ["one","other"] (defScope s_threads):=⟨rfl,rfl,rfl,by decide +kernel,rfl,by decide +kernel,by decide +kernel⟩
theorem sc_open_threads:FnScope ["one","other","found","end","ends"] ["one","other"] (defScope s_open_threads):=⟨rfl,rfl,rfl,by decide +kernel,rfl,by decide +kernel,by decide +kernel⟩
theorem sc_walked_thread:FnScope ["start","first","second","ends","onward"] ["start","first","second"] (defScope s_walked_thread):=⟨rfl,rfl,rfl,by decide +kernel,rfl,by decide +kernel,by decide +kernel⟩
theorem sc_mark_ends:FnScope ["seen","ends","end"] ["seen","ends"] (defScope s_mark_ends):=⟨rfl,rfl,rfl,by decide +kernel,rfl,by decide +kernel,by decide +kernel⟩
theorem sc_least_end:FnScope ["thread"] ["thread"] (defScope s_least_end):=⟨rfl,rfl,rfl,by decide +kernel,rfl,by decide +kernel,by decide +kernel⟩
theorem sc_thread_score:FnScope ["one","other","kinds"] ["one","other"] (defScope s_thread_score):=⟨rfl,rfl,rfl,by decide +kernel,rfl,by decide +kernel,by decide +kernel⟩
theorem sc_apart_by:FnScope ["one","other"] ["one","other"] (defScope s_apart_by):=⟨rfl,rfl,rfl,by decide +kernel,rfl,by decide +kernel,by decide +kernel⟩
theorem sc_nearer_deeds:FnScope ["one","other","laid","bare","tied","pairs","kind","ends"] ["one","other"] (defScope s_nearer_deeds):=⟨rfl,rfl,rfl,by decide +kernel,rfl,by decide +kernel,by decide +kernel⟩
theorem sc_ends_in:FnScope ["laid","kind","found","told","ends"] ["laid","kind"] (defScope s_ends_in):=⟨rfl,rfl,rfl,by decide +kernel,rfl,by decide +kernel,by decide +kernel⟩
theorem sc_splitting_pairs:FnScope ["ends","pairs","place","end"] ["ends"] (defScope s_splitting_pairs):=⟨rfl,rfl,rfl,by decide +kernel,rfl,by decide +kernel,by decide +kernel⟩
theorem sc_crossing_pairs:FnScope ["bare","tied","pairs","end"] ["bare","tied"] (defScope s_crossing_pairs):=⟨rfl,rfl,rfl,by decide +kernel,rfl,by decide +kernel,by decide +kernel⟩
theorem sc_ordered_pair:FnScope ["end","mate"] ["end","mate"] (defScope s_ordered_pair):=⟨rfl,rfl,rfl,by decide +kernel,rfl,by decide +kernel,by decide +kernel⟩
theorem sc_fewest_deeds:FnScope ["one","other","deeds","now","nearer"] ["one","other"] (defScope s_fewest_deeds):=⟨rfl,rfl,rfl,by decide +kernel,rfl,by decide +kernel,by decide +kernel⟩
theorem sc_paper_for:FnScope ["one","other"] ["one","other"] (defScope s_paper_for):=⟨rfl,rfl,rfl,by decide +kernel,rfl,by decide +kernel,by decide +kernel⟩
theorem sc_judged_paper:FnScope ["one","other","paper","deeds"] ["one","other","paper"] (defScope s_judged_paper):=⟨rfl,rfl,rfl,by decide +kernel,rfl,by decide +kernel,by decide +kernel⟩
theorem sc_leads_to:FnScope ["one","deeds","other"] ["one","deeds","other"] (defScope s_leads_to):=⟨rfl,rfl,rfl,by decide +kernel,rfl,by decide +kernel,by decide +kernel⟩
theorem sc_law_cell_at:FnScope ["script","k"] ["script","k"] (defScope s_law_cell_at):=⟨rfl,rfl,rfl,by decide +kernel,rfl,by decide +kernel,by decide +kernel⟩
theorem sc_law_mates:FnScope ["flow","staves","mates","cell","one","other","end"] ["flow","staves"] (defScope s_law_mates):=⟨rfl,rfl,rfl,by decide +kernel,rfl,by decide +kernel,by decide +kernel⟩
theorem sc_law_freed:FnScope ["mates","end"] ["mates","end"] (defScope s_law_freed):=⟨rfl,rfl,rfl,by decide +kernel,rfl,by decide +kernel,by decide +kernel⟩
theorem sc_law_done:FnScope ["mates","one","other","behind","first","last"] ["mates","one","other"] (defScope s_law_done):=⟨rfl,rfl,rfl,by decide +kernel,rfl,by decide +kernel,by decide +kernel⟩
theorem sc_law_along:FnScope ["one","deeds","works","deed"] ["one","deeds"] (defScope s_law_along):=⟨rfl,rfl,rfl,by decide +kernel,rfl,by decide +kernel,by decide +kernel⟩
theorem sc_law_detour:FnScope ["work","cell","low","high","last"] ["work","cell"] (defScope s_law_detour):=⟨rfl,rfl,rfl,by decide +kernel,rfl,by decide +kernel,by decide +kernel⟩
theorem sc_law_misfit:FnScope ["work","cell","far","size","some","low"] ["work","cell"] (defScope s_law_misfit):=⟨rfl,rfl,rfl,by decide +kernel,rfl,by decide +kernel,by decide +kernel⟩
theorem sc_law_thread_else:FnScope ["thread","cell","kind","ends","kinds","at"] ["thread","cell"] (defScope s_law_thread_else):=⟨rfl,rfl,rfl,by decide +kernel,rfl,by decide +kernel,by decide +kernel⟩
theorem sc_law_elsewhere:FnScope ["work","other","cell","some","low","high","behind"] ["work","other","cell"] (defScope s_law_elsewhere):=⟨rfl,rfl,rfl,by decide +kernel,rfl,by decide +kernel,by decide +kernel⟩
theorem sc_law_spoiled:FnScope ["one","other","paper","cell","told_threads","deeds","works","way","rest","many","at","last"] ["one","other","paper","cell"] (defScope s_law_spoiled):=⟨rfl,rfl,rfl,by decide +kernel,rfl,by decide +kernel,by decide +kernel⟩
theorem sc_law_refusal:FnScope ["one","other","paper","signs","e"] ["one","other","paper"] (defScope s_law_refusal):=⟨rfl,rfl,rfl,by decide +kernel,rfl,by decide +kernel,by decide +kernel⟩
theorem sc_law:FnScope ["script","staves","cut","one","other","paper","odd","more"] ["script"] (defScope s_law):=⟨rfl,rfl,rfl,by decide +kernel,rfl,by decide +kernel,by decide +kernel⟩
structure Bl (mg:Str→Option Value):Prop where
 «ValueError»:mg "ValueError" = none
 «enumerate»:mg "enumerate" = none
 «isinstance»:mg "isinstance" = none
 «len»:mg "len" = none
 «list»:mg "list" = none
 «max»:mg "max" = none
 «min»:mg "min" = none
 «range»:mg "range" = none
 «sorted»:mg "sorted" = none
 «tuple»:mg "tuple" = none
section
variable {P:Program} {w:World} {K:PySem.W.Frag} {mg:Str→Option Value} {base:Heap}
theorem ok_staves_in {f:Addr} {fd:FuncData} (B:Bl mg) (F:Fn K mg "staves_in" s_staves_in ["work"] f fd):FnOk P w K mg base CX0 1 f fd ["work"] (Mir.spStaves K):=by
 refine F.fn.ok sc_staves_in (fun vs H Q E h=>?_) (fun cdv A outer s H vs Q E hr h=>?_)
 ·obtain ⟨a,n,ms,rfl,_⟩:=h
  rfl
 ·obtain ⟨a,n,ms,rfl,hS,W,q⟩:=h
  refine ⟨_,pss_one (ps_ret (pe_op op_fdiv (pe_callB call_len_seq rfl B.len bb_len (pa_cons (pv 0) pa_nil)) pe_int)),?_⟩
  refine ⟨_,rfl,a,_,rfl,.inr hS,_,_,rfl,rfl,⟨by decide,by decide⟩,?_⟩
  have e:(((Mir.nV ms).length:Nat):Int) / 2 = n:=by rw [Mir.nV_len,W.len];omega
  show Q (.int ((((Mir.nV ms).length:Nat):Int) / 2)) H
  rw [e]
  exact q
end
section
variable {P:Program} {w:World} {K:PySem.W.Frag} {mg:Str→Option Value} {base:Heap}
theorem ok_refuse_unlike {f CU:Addr} {fd:FuncData} (B:Bl mg) (Z:ECls K mg "Unlike" CU) (F:Fn K mg "refuse_unlike" s_refuse_unlike ["one","other"] f fd):FnOk P w K mg base (CXo P w) 1 f fd ["one","other"] (Mir.spUnlike K CU):=by
 refine F.fn.okX2 sc_refuse_unlike (fun vs H Q E h=>?_) (fun cdv A outer s H vs Q E hr h own=>?_)
 ·obtain ⟨a,b,n,m,ms,os,rfl,_⟩:=h
  rfl
 ·obtain ⟨a,b,n,m,ms,os,rfl,hS,W,hO,hm,kg,kb⟩:=h
  refine ⟨_,pss_one (ps_if (pt_cmpR op_ne (pe_callB call_len_seq rfl B.len bb_len (pa_cons (pv 0) pa_nil)) (pe_callB call_len_seq rfl B.len bb_len (pa_cons (pv 1) pa_nil)) (nomark _)) (pss_one (ps_raise rfl Z (pa_cons pe_str pa_nil))) pss_nil),?_⟩
  refine ⟨_,rfl,a,_,rfl,.inr hS,_,rfl,b,_,rfl,.inr hO,rfl,_,rfl,?_⟩
  rw [Mir.nV_len,Mir.nV_len,W.len,hm]
  by_cases c:n = m
  ·subst c
   exact iteNS rfl (kg rfl)
  ·refine ite2 (fun _=>⟨by show 1≤sizeLine;decide,kb c⟩) (fun z=>absurd ?_ z)
   simp
   omega
end
section
variable {P:Program} {w:World} {K:PySem.W.Frag} {mg:Str→Option Value} {base:Heap}
theorem ok_loose_ends {f:Addr} {fd:FuncData} (B:Bl mg) (F:Fn K mg "loose_ends" s_loose_ends ["work"] f fd):FnOk P w K mg base CX0 1 f fd ["work"] (Mir.spLoose K):=by
 refine F.fn.ok sc_loose_ends (fun vs H Q E h=>?_) (fun cdv A outer s H vs Q E hr h=>?_)
 ·obtain ⟨a,n,ms,rfl,_⟩:=h
  rfl
 ·obtain ⟨a,n,ms,rfl,hS,W,k⟩:=h
  have nd2:(["end","mate"]:List Str).Nodup:=by decide +kernel
  refine ⟨_,pss_one (ps_ret (pe_comp (NC:=["end","mate"]) rfl (compOk0 rfl (by decide +kernel) (by decide +kernel)) (pi_enumT rfl B.enumerate (pa_cons (pv 0) pa_nil))
   (fun _ _ _ _=>pg_tupK (K:=K) (n:=2) rfl rfl (pgs_cons (pg_name (i:=0) nd2 rfl (Or.inl rfl)) (pgs_cons (pg_name (i:=1) nd2 rfl (Or.inl rfl)) pgs_nil))) (fun _ _ _ _=>pts_one (pt_cmpR op_eq (pv 0) (pv 1) (nomark _))) (fun _ _ _ _=>pv 0))),?_⟩
  refine ⟨_,rfl,a,rfl,⟨_,hS⟩,fun D hD=>?_⟩
  refine comp_enum (K:=K) (a:=a) (xs:=Mir.nV ms) (fun i σ H2=>∃ v0 v1:Option V,σ = [v0,v1]∧Same H H2∧H2 D = some (.lst (Mir.nV ((List.range i).filter fun e=>e == Mir.at0 ms e))))
   ⟨none,none,rfl,same_upd hD,upd_same⟩ (fun i σ H2 _ ⟨_,_,_,s2,_⟩=>s2.tup hS) ?_ ?_
  ·rintro i x t σ H2 hx ⟨v0,v1,rfl,s2,hD2⟩ ht
   obtain ⟨m,hm,rfl⟩:=Mir.nV_get' hx
   have hi:i < 2 * n:=by have z:=(List.getElem?_eq_some_iff.mp hm).1;rw [W.len] at z;exact z
   have em:m = Mir.at0 ms i:=by have z:=Mir.at0_get (ms:=ms) (e:=i) (by rw [W.len];exact hi);rw [hm] at z;exact Option.some.inj z
   have nDt:D≠t:=ne_of_none hD2 ht
   refine ⟨t,_,rfl,SqT.of upd_same,rfl,_,_,rfl,_,_,rfl,rfl,?_⟩
   refine ⟨_,rfl,_,rfl,rfl,_,rfl,?_⟩
   refine ite2 (fun h1=>?_) (fun h1=>?_)
   ·have h1:=of_decide_eq_true h1
    injection h1 with h1
    refine ⟨_,rfl,_,by rw [upd_ne nDt];exact hD2,small1000 ?_,_,_,rfl,(s2.upd (s2.free ht)).upd hD,?_⟩
    ·rw [Mir.nV_len]
     have z:=List.length_filter_le (fun e=>e == Mir.at0 ms e) (List.range i)
     rw [List.length_range] at z
     have:=W.small
     omega
    ·have e:(i == Mir.at0 ms i) = true:=by rw [beq_iff_eq,← em];omega
     rw [upd_same,List.range_succ,List.filter_append,List.filter_cons_of_pos (by exact e),List.filter_nil,Mir.nV_snoc]
   ·refine ⟨_,_,rfl,s2.upd (s2.free ht),?_⟩
    have e:¬ (i == Mir.at0 ms i) = true:=fun z=>h1 (decide_eq_true (by rw [beq_iff_eq,← em] at z;rw [z]))
    rw [upd_ne nDt,hD2,List.range_succ,List.filter_append,List.filter_cons_of_neg (by exact e),List.filter_nil,List.append_nil]
  ·rintro σ H2 ⟨v0,v1,rfl,s2,hD2⟩
   rw [Mir.nV_len,W.len] at hD2
   exact k D H2 hD s2 hD2
end
section
variable {P:Program} {w:World} {K:PySem.W.Frag} {mg:Str→Option Value} {base:Heap}
theorem ok_fits_work {f:Addr} {fd:FuncData} (B:Bl mg) (F:Fn K mg "fits_work" s_fits_work ["work","deed"] f fd):FnOk P w K mg base CX0 1 f fd ["work","deed"] (Mir.spFits K):=by
 refine F.fn.ok sc_fits_work (fun vs H Q E h=>?_) (fun cdv A outer s H vs Q E hr h=>?_)
 ·obtain ⟨a,d,n,ms,p,q,rfl,_⟩:=h
  rfl
 ·obtain ⟨a,d,n,ms,p,q,rfl,hS,W,hD,k⟩:=h
  refine ⟨_,pss_cons (ps_set (i:=2) sc_fits_work.nd rfl (Or.inl rfl) (pe_ix ix_tup (pv 1) pe_int (fun _ _=>rfl)))
   (pss_cons (ps_set (i:=3) sc_fits_work.nd rfl (Or.inl rfl) (pe_ix ix_tup (pv 1) pe_int (fun _ _=>rfl)))
   (pss_cons (ps_if (pt_not (pt_chain3 op_le op_le op_lt pe_int (pv 2) (pv 3) (pe_callB call_len_seq rfl B.len bb_len (pa_cons (pv 0) pa_nil)))) (pss_one (ps_ret pe_bl)) pss_nil)
   (pss_one (ps_ret (pe_cmpR op_ne (pe_ix ix_tup (pv 0) (pv 2) (fun _ _=>rfl)) (pv 3) (nomark _)))))),?_⟩
  refine ⟨_,rfl,d,_,_,_,rfl,rfl,hD,rfl,?_⟩
  refine ⟨_,rfl,d,_,_,_,rfl,rfl,hD,rfl,?_⟩
  have no:¬ Mir.Fits n ms p q→Q (.bl false) H:=fun z=>by rw [decide_eq_false z] at k;exact k
  refine ⟨_,rfl,_,_,rfl,rfl,_,rfl,ite2 (fun h1=>?_) (fun h1=>?_)⟩
  ·have h1:0≤p:=of_decide_eq_true h1
   refine ⟨_,rfl,_,_,rfl,rfl,_,rfl,ite2 (fun h2=>?_) (fun h2=>?_)⟩
   ·have h2:p≤q:=of_decide_eq_true h2
    refine ⟨_,rfl,a,_,rfl,.inr hS,_,_,rfl,rfl,_,rfl,ite2 (fun h3=>?_) (fun h3=>?_)⟩
    ·have h3:¬ q < ((Mir.nV ms).length:Nat):=by simpa using h3
     rw [Mir.nV_len,W.len] at h3
     exact no fun z=>h3 (by have:=z.2.2.1;omega)
    ·have h3:q < ((Mir.nV ms).length:Nat):=by simpa using h3
     rw [Mir.nV_len,W.len] at h3
     have hx:p = ((p.toNat:Nat):Int):=by omega
     have hix:=W.ix (e:=p.toNat) (by omega)
     rw [← hx] at hix
     refine ⟨_,rfl,_,rfl,a,_,_,_,rfl,rfl,hS,hix,_,rfl,rfl,?_⟩
     have e:decide (Mir.Fits n ms p q) = !decide (V.int ((Mir.at0 ms p.toNat:Nat):Int) = V.int q):=by
      by_cases c:((Mir.at0 ms p.toNat:Nat):Int) = q
      ·rw [decide_eq_false (fun z:Mir.Fits n ms p q=>z.2.2.2 c),decide_eq_true (congrArg V.int c)];rfl
      ·rw [decide_eq_true (show Mir.Fits n ms p q from ⟨h1,h2,by omega,c⟩),decide_eq_false (fun z=>c (by injection z))];rfl
     rw [e] at k
     exact k
   ·have h2:¬ p≤q:=fun z=>h2 (decide_eq_true z)
    exact ⟨_,rfl,iteT (no fun z=>h2 z.2.1)⟩
  ·have h1:¬ 0≤p:=fun z=>h1 (decide_eq_true z)
   exact ⟨_,rfl,iteT (no fun z=>h1 z.1)⟩
end
section
variable {P:Program} {w:World} {K:PySem.W.Frag} {mg:Str→Option Value} {base:Heap}
theorem ok_refuse_misfit {f fF C:Addr} {fd fdF:FuncData} (B:Bl mg) (Z:ECls K mg "BadDeed" C) (F:Fn K mg "refuse_misfit" s_refuse_misfit ["work","deed"] f fd) (FF:Fn K mg "fits_work" s_fits_work ["work","deed"] fF fdF):FnOk P w K mg base (CXo P w) 2 f fd ["work","deed"] (Mir.spMisfit K C):=by
 have GF:FnOk P w K mg base CX0 1 fF fdF ["work","deed"] (Mir.spFits K):=ok_fits_work B FF
 refine F.fn.okX2 sc_refuse_misfit (fun vs H Q E h=>?_) (fun cdv A outer s H vs Q E hr h own=>?_)
 ·obtain ⟨a,d,n,ms,p,q,rfl,_⟩:=h
  rfl
 ·obtain ⟨a,d,n,ms,p,q,rfl,hS,W,hD,sp,sq,kg,kb⟩:=h
  refine ⟨_,pss_one (ps_if (pt_not (pt_val (pe_fn GF FF hr (pa_cons (pv 0) (pa_cons (pv 1) pa_nil))))) (pss_one (ps_raise rfl Z (pa_cons (pe_fs (pj_str (pj_tup hr.gd (hr.lt 2 (by decide)) (pv 1) (pj_str pj_nil))) (by decide)) pa_nil))) pss_nil),?_⟩
  refine ⟨_,rfl,_,rfl,a,d,n,ms,p,q,rfl,hS,W,SqT.of hD,_,rfl,?_⟩
  by_cases c:Mir.Fits n ms p q
  ·rw [decide_eq_true c]
   exact iteF (kg c)
  ·rw [decide_eq_false c]
   refine iteT ⟨⟨_,rfl,rfl,⟨d,[p,q],rfl,hD,by show 2≤100;decide,fun m hm=>?_⟩,trivial⟩,fun x=>⟨by show 1≤sizeLine;decide,kb c⟩⟩
   rcases List.mem_cons.mp hm with rfl | hm
   ·exact sp.log
   ·rw [List.mem_singleton.mp hm];exact sq.log
end
section
variable {P:Program} {w:World} {K:PySem.W.Frag} {mg:Str→Option Value} {base:Heap}
theorem ok_freed_ends {f:Addr} {fd:FuncData} (F:Fn K mg "freed_ends" s_freed_ends ["work","deed"] f fd):FnOk P w K mg base CX0 1 f fd ["work","deed"] (Mir.spFreedE K):=by
 refine F.fn.ok sc_freed_ends (fun vs H Q E h=>?_) (fun cdv A outer s H vs Q E hr h=>?_)
 ·obtain ⟨a,d,n,ms,p,q,rfl,_⟩:=h
  rfl
 ·obtain ⟨a,d,n,ms,p,q,rfl,hS,W,hD,hp,hq,k⟩:=h
  have nd2:(["end","work"]:List Str).Nodup:=by decide +kernel
  refine ⟨_,pss_one (ps_ret (pe_comp (NC:=["end","work"]) rfl (compOk2 (c:=s.heap.objs.size + 1) (j:=0) rfl (by decide +kernel) (by decide +kernel) rfl rfl rfl rfl rfl) (pi_tup (pv 1))
   (fun _ _ _ _=>pg_name (i:=0) nd2 rfl (Or.inl rfl)) (fun _ _ _ _=>pts_one (pt_cmpR op_ne (pe_ix (ix_tupK (K:=K) rfl) (pv 1) (pv 0) (fun _ _=>rfl)) (pv 0) (nomark _))) (fun _ _ _ _=>pe_ix (ix_tupK (K:=K) rfl) (pv 1) (pv 0) (fun _ _=>rfl)))),?_⟩
  refine ⟨_,rfl,d,rfl,⟨_,hD⟩,fun D hDn=>?_⟩
  refine comp_tup (K:=K) (a:=d) (xs:=Mir.nV [p,q]) (fun i σ H2=>∃ v0:Option V,σ = [v0,some (.ref a)]∧Same H H2∧H2 D = some (.lst (Mir.nV ((([p,q].take i).filter fun e=>!decide (Mir.at0 ms e = e)).map (Mir.at0 ms)))))
   ⟨none,rfl,same_upd hDn,upd_same⟩ (fun i σ H2 _ ⟨_,_,s2,_⟩=>s2.tup hD) ?_ ?_
  ·rintro i x σ H2 hx ⟨v0,rfl,s2,h2⟩
   obtain ⟨e,he,rfl⟩:=Mir.nV_get' hx
   have hi:i < 2:=(List.getElem?_eq_some_iff.mp he).1
   have he2:e < 2 * n:=by
    rcases List.mem_cons.mp (List.mem_of_getElem? he) with rfl | z
    ·exact hp
    ·rw [List.mem_singleton.mp z];exact hq
   have hlen:((([p,q].take i).filter fun e=>!decide (Mir.at0 ms e = e)).map (Mir.at0 ms)).length≤2:=by
    rw [List.length_map]
    refine Nat.le_trans (List.length_filter_le _ _) ?_
    rw [List.length_take]
    exact Nat.min_le_right _ _
   refine ⟨_,rfl,_,rfl,a,_,_,_,rfl,rfl,s2.tup hS,W.ix he2,_,rfl,rfl,_,rfl,?_⟩
   rw [Mir.take_snoc he,List.filter_append,List.map_append]
   refine ite2 (fun h1=>?_) (fun h1=>?_)
   ·have h1:Mir.at0 ms e≠e:=fun z=>by rw [z] at h1;simp at h1
    refine ⟨_,rfl,_,rfl,a,_,_,_,rfl,rfl,s2.tup hS,W.ix he2,_,h2,small1000 (by rw [Mir.nV_len];omega),_,rfl,s2.upd hDn,?_⟩
    rw [upd_same]
    simp [h1,Mir.nV]
   ·have h1:Mir.at0 ms e = e:=by
     by_cases z:Mir.at0 ms e = e
     ·exact z
     ·exact absurd (by simp;omega) h1
    refine ⟨_,rfl,s2,?_⟩
    rw [h2]
    simp [h1]
  ·rintro σ H2 ⟨v0,rfl,s2,h2⟩
   exact k D H2 hDn s2 h2
theorem ok_clasp_ends {f:Addr} {fd:FuncData} (F:Fn K mg "clasp_ends" s_clasp_ends ["mates","one","other"] f fd):FnOk P w K mg base CX0 1 f fd ["mates","one","other"] Mir.spClaspE:=by
 refine F.fn.ok sc_clasp_ends (fun vs H Q E h=>?_) (fun cdv A outer s H vs Q E hr h=>?_)
 ·obtain ⟨l,ms,p,q,rfl,_⟩:=h
  rfl
 ·obtain ⟨l,ms,p,q,rfl,hl,hp,hq,k⟩:=h
  refine ⟨_,pss_cons (ps_asg (pv 2) (pg_sub (pv 0) (pv 1) set_list)) (pss_one (ps_asg (pv 1) (pg_sub (pv 0) (pv 2) set_list))),?_⟩
  refine ⟨_,rfl,_,rfl,_,rfl,l,_,_,_,rfl,rfl,hl,ixN_of (Int.natCast_nonneg _) (by rw [Mir.nV_len];omega),?_⟩
  rw [Int.toNat_natCast,Mir.nV_set]
  refine ⟨_,rfl,_,rfl,_,rfl,l,_,_,_,rfl,rfl,upd_same,ixN_of (Int.natCast_nonneg _) (by rw [Mir.nV_len,List.length_set];omega),?_⟩
  rw [Int.toNat_natCast,Mir.nV_set]
  exact k _ upd_same fun b hb=>by rw [upd_ne hb,upd_ne hb]
end
section
variable {P:Program} {w:World} {K:PySem.W.Frag} {mg:Str→Option Value} {base:Heap}
theorem ok_walked_thread {f:Addr} {fd:FuncData} (B:Bl mg) (F:Fn K mg "walked_thread" s_walked_thread ["start","first","second"] f fd):FnOk P w K mg base CX0 1 f fd ["start","first","second"] (Mir.spWalkT K):=by
 refine F.fn.ok sc_walked_thread (fun vs H Q E h=>?_) (fun cdv A outer s H vs Q E hr h=>?_)
 ·obtain ⟨a,b,n,ms,os,st,rfl,_⟩:=h
  rfl
 ·obtain ⟨a,b,n,ms,os,st,rfl,hS,W,hO,WO,hst,hok,k⟩:=h
  have T:=Mir.two_of W WO
  have hsm:=W.small
  refine ⟨_,(pss_cons (ps_set (i:=3) sc_walked_thread.nd rfl (Or.inl rfl) (pe_lst (pa_cons (pv 0) pa_nil)))
   (pss_cons (ps_set (i:=4) sc_walked_thread.nd rfl (Or.inl rfl) (pe_ix ix_tup (pv 1) (pv 0) (fun _ _=>rfl)))
   (pss_cons (ps_while PassesOwn.never (pt_sem (R:=fun σ H Q=>∃ (l:Addr) (ys:List V) (x y s:Nat),σ[4]? = some (some (.int x))∧σ[3]? = some (some (.ref l))∧H l = some (.lst ys)∧atI ys (-1) = some (.int y)∧σ[0]? = some (some (.int s))∧Q (decide (x≠y∧x≠s)) H) fun σ H Q hR=>?tst) (pss_cons (ps_expr (pe_bm PySem.F.plainAttrs_list PySem.F.slot_list_append PySem.F.type_list_append mt_append (pv 3) (pa_cons (pv 4) pa_nil)))
   (pss_one (ps_set (i:=4) sc_walked_thread.nd rfl (Or.inl rfl) (pe_ifExp (pt_cmpR op_eq (pe_op op_mod (pe_callB call_len_seq rfl B.len bb_len (pa_cons (pv 3) pa_nil)) pe_int) pe_int (nomark _)) (pe_ix ix_tup (pv 2) (pv 4) (fun _ _=>rfl)) (pe_ix ix_tup (pv 1) (pv 4) (fun _ _=>rfl)))))))
   (pss_one (ps_ret (pe_callTy call_tuple_any rfl B.tuple bb_tuple (pa_cons (pv 3) pa_nil))))))),?_⟩
  case tst =>
   obtain ⟨l,ys,x,y,st,e4,e3,hl,hy,e0,q⟩:=hR
   refine ⟨_,PW.pt (pw_and (pt_cmpR op_ne (pv 4) (pe_ix ix_list (pv 3) (pe_un un_neg pe_int) (fun _ _=>rfl)) (nomark _)) (pw_and1 (pt_cmpR op_ne (pv 4) (pv 0) (nomark _)))),?_⟩
   refine ⟨_,e4,_,e3,_,rfl,l,_,_,_,rfl,rfl,SqL.of hl,hy,rfl,_,rfl,?_⟩
   by_cases c1:x = y
   ·rw [decide_eq_false (fun z=>z.1 c1)] at q
    have e:(!decide (V.int (x:Nat) = V.int (y:Nat))) = false:=by rw [decide_eq_true (by rw [c1])];rfl
    rw [e]
    exact q
   ·have e:(!decide (V.int (x:Nat) = V.int (y:Nat))) = true:=by rw [decide_eq_false (fun z=>c1 (by injection z with z;omega))];rfl
    rw [e]
    refine ⟨_,e4,_,e0,rfl,_,rfl,?_⟩
    by_cases c2:x = st
    ·rw [decide_eq_false (fun z=>z.2 c2)] at q
     have e:(!decide (V.int (x:Nat) = V.int (st:Nat))) = false:=by rw [decide_eq_true (by rw [c2])];rfl
     exact (congrArg (fun b=>Q b H) e).mpr q
    ·rw [decide_eq_true ⟨c1,c2⟩] at q
     have e:(!decide (V.int (x:Nat) = V.int (st:Nat))) = true:=by rw [decide_eq_false (fun z=>c2 (by injection z with z;omega))];rfl
     exact (congrArg (fun b=>Q b H) e).mpr q
  refine ⟨_,rfl,by show 1≤sizeLine;decide,fun l hl=>?_⟩
  have s0:Same H (upd H l (.lst [.int st])):=same_upd hl
  refine ⟨_,rfl,_,rfl,a,_,_,_,rfl,rfl,s0.tup hS,W.ix hst,?_⟩
  dsimp only [gName]
  unfold tSeq
  dsimp only
  refine while_by (fun σ H2=>∃ m:Nat,σ = [some (.int st),some (.ref a),some (.ref b),some (.ref l),some (.int (Th.wlk (Mir.at0 ms) (Mir.at0 os) st (m + 1):Nat))]∧Same H H2∧H2 l = some (.lst (Mir.nV (Th.thrL (Mir.at0 ms) (Mir.at0 os) st (m + 1))))∧Th.Goes (Mir.at0 ms) (Mir.at0 os) st m)
   (fun σ H2=>match H2 l with | some (.lst ys)=>2 * n + 1 - ys.length | _=>0)
   ⟨0,rfl,s0,upd_same,⟨fun i hi=>absurd hi (Nat.not_lt_zero _),by rcases hok with z | z;exact .inl z;exact .inr fun j h1 h2=>by omega⟩⟩ ?_ ?_
  ·rintro σ H2 ⟨m,rfl,s2,hl2,G⟩
   have hm:=Th.goes_lt T hst G
   have hlt:=Th.wlk_lt T hst (m + 1)
   have hlast:atI (Mir.nV (Th.thrL (Mir.at0 ms) (Mir.at0 os) st (m + 1))) (-1) = some (.int (Th.wlk (Mir.at0 ms) (Mir.at0 os) st m:Nat)):=Mir.atI_nlast (by rw [Th.thrL_snoc,List.getLast?_append];rfl)
   refine ⟨l,_,_,_,st,rfl,rfl,hl2,hlast,rfl,?_⟩
   refine ite2 (fun h1=>?_) (fun h1=>?_)
   ·obtain ⟨c1,c2⟩:=of_decide_eq_true h1
    have G2:Th.Goes (Mir.at0 ms) (Mir.at0 os) st (m + 1):=⟨fun i hi=>by
     by_cases c:i = m
     ·subst c;exact c1
     ·exact G.mv i (by omega),by
     rcases G.rt with z | z
     ·exact .inl z
     ·refine .inr fun j h2 h3=>?_
      by_cases c:j = m + 1
      ·subst c;exact c2
      ·exact z j h2 (by omega)⟩
    have hm2:=Th.goes_lt T hst G2
    have hll:(Mir.nV (Th.thrL (Mir.at0 ms) (Mir.at0 os) st (m + 1))).length = m + 1:=by rw [Mir.nV_len,Th.thrL_len]
    refine ⟨_,rfl,.inl ⟨rfl,_,SqL.of hl2⟩,_,rfl,l,_,_,rfl,rfl,hl2,small1000 (by rw [hll];omega),?_⟩
    have s3:Same H (upd H2 l (.lst (Mir.nV (Th.thrL (Mir.at0 ms) (Mir.at0 os) st (m + 1)) ++ [.int (Th.wlk (Mir.at0 ms) (Mir.at0 os) st (m + 1):Nat)]))):=s2.upd hl
    have hl3:upd H2 l (.lst (Mir.nV (Th.thrL (Mir.at0 ms) (Mir.at0 os) st (m + 1)) ++ [.int (Th.wlk (Mir.at0 ms) (Mir.at0 os) st (m + 1):Nat)])) l = some (.lst (Mir.nV (Th.thrL (Mir.at0 ms) (Mir.at0 os) st (m + 2)))):=by rw [upd_same,Th.thrL_snoc (m + 1),Mir.nV_snoc]
    generalize upd H2 l (.lst (Mir.nV (Th.thrL (Mir.at0 ms) (Mir.at0 os) st (m + 1)) ++ [.int (Th.wlk (Mir.at0 ms) (Mir.at0 os) st (m + 1):Nat)])) = H3 at s3 hl3 ⊢
    have meas:(match H3 l with | some (.lst ys)=>2 * n + 1 - ys.length | _=>0) < (match H2 l with | some (.lst ys)=>2 * n + 1 - ys.length | _=>0):=by
     rw [hl3,hl2]
     show 2 * n + 1 - (Mir.nV (Th.thrL (Mir.at0 ms) (Mir.at0 os) st (m + 2))).length < 2 * n + 1 - (Mir.nV (Th.thrL (Mir.at0 ms) (Mir.at0 os) st (m + 1))).length
     rw [Mir.nV_len,Mir.nV_len,Th.thrL_len,Th.thrL_len]
     omega
    have hl3':((Mir.nV (Th.thrL (Mir.at0 ms) (Mir.at0 os) st (m + 2))).length:Int) = m + 2:=by rw [Mir.nV_len,Th.thrL_len];omega
    refine ⟨_,rfl,l,_,rfl,.inl (SqL.of hl3),_,_,rfl,rfl,(by show (0:Int) < 2;decide),rfl,_,rfl,?_⟩
    refine ite2 (fun h2=>?_) (fun h2=>?_)
    ·have p:m % 2 = 0:=by
      have z:=of_decide_eq_true h2
      injection z with z
      rw [hl3'] at z
      omega
     have e:Mir.at0 os (Th.wlk (Mir.at0 ms) (Mir.at0 os) st (m + 1)) = Th.wlk (Mir.at0 ms) (Mir.at0 os) st (m + 2):=by
      show _ = Th.stp _ _ (m + 1) _
      unfold Th.stp
      rw [if_neg (by omega)]
     refine ⟨_,rfl,_,rfl,b,_,_,_,rfl,rfl,s3.tup hO,WO.ix hlt,?_⟩
     exact ⟨⟨m + 1,(by show _ = [_,_,_,_,some (V.int (Th.wlk (Mir.at0 ms) (Mir.at0 os) st (m + 2):Nat))];rw [← e];rfl),s3,hl3,G2⟩,meas⟩
    ·have p:m % 2 = 1:=by
      refine Classical.byContradiction fun z=>h2 (decide_eq_true ?_)
      show V.int (((Mir.nV (Th.thrL (Mir.at0 ms) (Mir.at0 os) st (m + 2))).length:Int) % 2) = V.int 0
      rw [hl3']
      have z2:((m:Int) + 2) % 2 = 0:=by omega
      rw [z2]
     have e:Mir.at0 ms (Th.wlk (Mir.at0 ms) (Mir.at0 os) st (m + 1)) = Th.wlk (Mir.at0 ms) (Mir.at0 os) st (m + 2):=by
      show _ = Th.stp _ _ (m + 1) _
      unfold Th.stp
      rw [if_pos (by omega)]
     refine ⟨_,rfl,_,rfl,a,_,_,_,rfl,rfl,s3.tup hS,W.ix hlt,?_⟩
     exact ⟨⟨m + 1,(by show _ = [_,_,_,_,some (V.int (Th.wlk (Mir.at0 ms) (Mir.at0 os) st (m + 2):Nat))];rw [← e];rfl),s3,hl3,G2⟩,meas⟩
   ·have hc:Th.wlk (Mir.at0 ms) (Mir.at0 os) st (m + 1) = Th.wlk (Mir.at0 ms) (Mir.at0 os) st m∨Th.wlk (Mir.at0 ms) (Mir.at0 os) st (m + 1) = st:=by
     refine Classical.byContradiction fun z=>h1 (decide_eq_true ⟨fun e=>z (.inl e),fun e=>z (.inr e)⟩)
    have ht:=Th.thr_of T hst ⟨G,hc,hok⟩
    exact ⟨_,rfl,l,_,rfl,.inl hl2,fun t H3 s3 h3=>k t H3 (s2.trans s3) (by rw [h3,ht])⟩
  ·rintro σ H2 R R' hR ⟨l,ys,x,y,s,e1,e2,e3,e4,e5,q⟩
   exact ⟨l,ys,x,y,s,e1,e2,e3,e4,e5,hR _ _ q⟩
end
section
variable {P:Program} {w:World} {K:PySem.W.Frag} {mg:Str→Option Value} {base:Heap}
theorem ok_open_threads {f f1 f2:Addr} {fd fd1 fd2:FuncData} (B:Bl mg) (F:Fn K mg "open_threads" s_open_threads ["one","other"] f fd) (F_loose_ends:Fn K mg "loose_ends" s_loose_ends ["work"] f1 fd1) (F_walked_thread:Fn K mg "walked_thread" s_walked_thread ["start","first","second"] f2 fd2):FnOk P w K mg base CX0 2 f fd ["one","other"] (Mir.spOpen K):=by
 have G_loose_ends:FnOk P w K mg base CX0 1 f1 fd1 ["work"] (Mir.spLoose K):=ok_loose_ends B F_loose_ends
 have G_walked_thread:FnOk P w K mg base CX0 1 f2 fd2 ["start","first","second"] (Mir.spWalkT K):=ok_walked_thread B F_walked_thread
 refine F.fn.ok sc_open_threads (fun vs H Q E h=>?_) (fun cdv A outer s H vs Q E hr h=>?_)
 ·obtain ⟨a,b,n,ms,os,rfl,_⟩:=h
  rfl
 ·obtain ⟨a,b,n,ms,os,rfl,hS,W,hO,WO,k⟩:=h
  have T:=Mir.two_of W WO
  have hsm:=W.small
  refine ⟨_,(pss_cons (ps_set (i:=2) sc_open_threads.nd rfl (Or.inl rfl) (pe_lst pa_nil))
   (pss_cons (ps_for PassesOwn.never rfl (pi_list (pe_fn G_loose_ends F_loose_ends (hr.mono (by decide)) (pa_cons (pv 0) pa_nil))) (pg_name (i:=3) sc_open_threads.nd rfl (Or.inl rfl)) (pss_cons (ps_set (i:=4) sc_open_threads.nd rfl (Or.inl rfl) (pe_fn G_walked_thread F_walked_thread (hr.mono (by decide)) (pa_cons (pv 3) (pa_cons (pv 1) (pa_cons (pv 0) pa_nil)))))
   (pss_one (ps_if (pt_cmpR op_eq (pe_op op_mod (pe_callB call_len_seq rfl B.len bb_len (pa_cons (pv 4) pa_nil)) pe_int) pe_int (nomark _)) (pss_one (ps_expr (pe_bm PySem.F.plainAttrs_list PySem.F.slot_list_append PySem.F.type_list_append mt_append (pv 2) (pa_cons (pe_tup (pa_cons pe_str (pa_cons (pv 4) pa_nil))) pa_nil)))) (pss_one (ps_if (pt_cmpR op_lt (pv 3) (pe_ix ix_tup (pv 4) (pe_un un_neg pe_int) (fun _ _=>rfl)) (nomark _)) (pss_one (ps_expr (pe_bm PySem.F.plainAttrs_list PySem.F.slot_list_append PySem.F.type_list_append mt_append (pv 2) (pa_cons (pe_tup (pa_cons pe_str (pa_cons (pv 4) pa_nil))) pa_nil)))) pss_nil))))))
   (pss_cons (ps_for PassesOwn.never rfl (pi_list (pe_fn G_loose_ends F_loose_ends (hr.mono (by decide)) (pa_cons (pv 1) pa_nil))) (pg_name (i:=3) sc_open_threads.nd rfl (Or.inl rfl)) (pss_cons (ps_set (i:=4) sc_open_threads.nd rfl (Or.inl rfl) (pe_fn G_walked_thread F_walked_thread (hr.mono (by decide)) (pa_cons (pv 3) (pa_cons (pv 0) (pa_cons (pv 1) pa_nil)))))
   (pss_one (ps_if (PW.pt (pw_and (pt_cmpR op_eq (pe_op op_mod (pe_callB call_len_seq rfl B.len bb_len (pa_cons (pv 4) pa_nil)) pe_int) pe_int (nomark _)) (pw_and1 (pt_cmpR op_lt (pv 3) (pe_ix ix_tup (pv 4) (pe_un un_neg pe_int) (fun _ _=>rfl)) (nomark _))))) (pss_one (ps_expr (pe_bm PySem.F.plainAttrs_list PySem.F.slot_list_append PySem.F.type_list_append mt_append (pv 2) (pa_cons (pe_tup (pa_cons pe_str (pa_cons (pv 4) pa_nil))) pa_nil)))) pss_nil))))
   (pss_one (ps_ret (pv 2)))))),?_⟩
  refine ⟨by show 0≤sizeLine;decide,fun l hl=>?_⟩
  have s0:Same H (upd H l (.lst [])):=same_upd hl
  refine ⟨_,rfl,a,n,ms,rfl,s0.tup hS,W,fun la H1 hla s1 hla1=>?_⟩
  have s01:=s0.trans s1
  have hl1:H1 l = some (.lst []):=s1 _ _ upd_same
  rw [Mir.loose_ls] at hla1
  have lsLen:∀ M:Nat→Nat,(Th.lsL (2 * n) M).length≤80:=fun M=>by
   unfold Th.lsL
   have z:=List.length_filter_le (fun e=>e == M e) (List.range (2 * n))
   rw [List.length_range] at z
   omega
  have nla:l≠la:=ne_of_none upd_same hla
  have nvl:∀ xs:List Nat,(Mir.nV xs).length = xs.length:=Mir.nV_len
  refine ⟨la,rfl,⟨_,SqL.of hla1⟩,for_list (K:=K) (a:=la) (xs:=Mir.nV (Th.lsL (2 * n) (Mir.at0 ms))) (fun i σ H2=>∃ v3 v4:Option V,σ = [some (.ref a),some (.ref b),some (.ref l),v3,v4]∧Same H H2∧H2 la = some (.lst (Mir.nV (Th.lsL (2 * n) (Mir.at0 ms))))∧Mir.ThT H2 l (Th.openA (2 * n) (Mir.at0 ms) (Mir.at0 os) ((Th.lsL (2 * n) (Mir.at0 ms)).take i)))
   ⟨none,none,rfl,s01,hla1,Mir.ThT.nil hl1⟩ (fun i σ H2 _ ⟨_,_,_,_,h2,_⟩=>SqL.of h2) ?_ ?_⟩
  ·rintro i y σ H2 hy ⟨v3,v4,rfl,s2,hla2,hT⟩
   obtain ⟨u,hu,rfl⟩:=Mir.nV_get' hy
   have hil:=(List.getElem?_eq_some_iff.mp hu).1
   obtain ⟨ul,au⟩:=Th.mem_ls.mp (List.mem_of_getElem? hu)
   refine ⟨_,rfl,_,rfl,_,rfl,b,a,n,os,ms,u,rfl,s2.tup hO,WO,s2.tup hS,W,ul,.inl au,fun e H3 s3 he=>?_⟩
   have s23:=s2.trans s3
   have hTL:=Th.thr_len T.swap ul (.inl au)
   have hT3:=hT.same s3
   have hla3:=s3 _ _ hla2
   have hll:((Mir.nV (Th.thr (Mir.at0 os) (Mir.at0 ms) u)).length:Int) = (Th.thr (Mir.at0 os) (Mir.at0 ms) u).length:=by rw [nvl]
   have hoA:=Th.openA_len (N:=2 * n) (a:=Mir.at0 ms) (b:=Mir.at0 os) ((Th.lsL (2 * n) (Mir.at0 ms)).take i)
   rw [List.length_take] at hoA
   have l80:=lsLen (Mir.at0 ms)
   have add:∀ (kd:Th.Kd) (D:Hp→Prop),Th.pA (Mir.at0 ms) (Mir.at0 os) u→Th.eA (Mir.at0 ms) (Mir.at0 os) u = (kd,Th.thr (Mir.at0 os) (Mir.at0 ms) u)→∀ tp,H3 tp = none →
     (∃ xs,upd H3 tp (.tup [.str (Mir.ks kd),.ref e]) l = some (.lst xs)∧xs.length < sizeLine∧Mir.ThT (upd (upd H3 tp (.tup [.str (Mir.ks kd),.ref e])) l (.lst (xs ++ [.ref tp]))) l (Th.openA (2 * n) (Mir.at0 ms) (Mir.at0 os) ((Th.lsL (2 * n) (Mir.at0 ms)).take (i + 1))) ∧
      Same H (upd (upd H3 tp (.tup [.str (Mir.ks kd),.ref e])) l (.lst (xs ++ [.ref tp])))∧upd (upd H3 tp (.tup [.str (Mir.ks kd),.ref e])) l (.lst (xs ++ [.ref tp])) la = some (.lst (Mir.nV (Th.lsL (2 * n) (Mir.at0 ms))))):=fun kd D hp hE tp htp=>by
    have s4:Same H3 (upd H3 tp (.tup [.str (Mir.ks kd),.ref e])):=same_upd htp
    obtain ⟨xs,x1,x2,x3⟩:=(hT3.same s4).snoc (t:=tp) (e:=e) (k:=kd) upd_same (s4 _ _ he)
    refine ⟨xs,x1,small1000 (by rw [x2];omega),?_,(s23.trans s4).upd hl,?_⟩
    ·rw [Mir.take_snoc hu,Th.openA_snoc,if_pos hp,hE]
     exact x3
    ·rw [upd_ne (Ne.symm nla)]
     exact s4 _ _ hla3
   refine ⟨_,rfl,e,_,rfl,.inr (SqT.of he),_,_,rfl,rfl,(by show (0:Int) < 2;decide),rfl,_,rfl,?_⟩
   refine ite2 (fun h1=>?_) (fun h1=>?_)
   ·have o:(Th.thr (Mir.at0 os) (Mir.at0 ms) u).length % 2 = 1:=by
     have z:=of_decide_eq_true h1
     injection z with z
     rw [hll] at z
     omega
    obtain ⟨vs,w1,_⟩:=hT3.len
    refine ⟨_,rfl,.inl ⟨rfl,_,SqL.of w1⟩,_,rfl,by show 2≤sizeLine;decide,fun tp htp=>?_⟩
    obtain ⟨xs,x1,x2,x3,x4,x5⟩:=add .odd (fun _=>True) (.inl o) (by unfold Th.eA;rw [if_pos o]) tp htp
    exact ⟨l,_,_,rfl,rfl,x1,x2,_,_,rfl,x4,x5,x3⟩
   ·have o:¬ (Th.thr (Mir.at0 os) (Mir.at0 ms) u).length % 2 = 1:=fun z=>h1 (decide_eq_true (by
     show V.int (((Mir.nV (Th.thr (Mir.at0 os) (Mir.at0 ms) u)).length:Int) % 2) = V.int 1
     rw [hll]
     have z2:((Th.thr (Mir.at0 os) (Mir.at0 ms) u).length:Int) % 2 = 1:=by omega
     rw [z2]))
    have hlast:atI (Mir.nV (Th.thr (Mir.at0 os) (Mir.at0 ms) u)) (-1) = some (.int (Th.lastD (Th.thr (Mir.at0 os) (Mir.at0 ms) u):Nat)):=Mir.atI_nlast (Th.last_get hTL.1)
    refine ⟨_,rfl,_,rfl,_,rfl,e,_,_,_,rfl,rfl,SqT.of he,hlast,_,_,rfl,rfl,_,rfl,?_⟩
    refine ite2 (fun h2=>?_) (fun h2=>?_)
    ·have h2:=of_decide_eq_true h2
     obtain ⟨vs,w1,_⟩:=hT3.len
     refine ⟨_,rfl,.inl ⟨rfl,_,SqL.of w1⟩,_,rfl,by show 2≤sizeLine;decide,fun tp htp=>?_⟩
     obtain ⟨xs,x1,x2,x3,x4,x5⟩:=add .bare (fun _=>True) (.inr (by omega)) (by unfold Th.eA;rw [if_neg o]) tp htp
     exact ⟨l,_,_,rfl,rfl,x1,x2,_,_,rfl,x4,x5,x3⟩
    ·have h2:¬ Th.pA (Mir.at0 ms) (Mir.at0 os) u:=fun z=>by
      rcases z with z | z
      ·exact o z
      ·exact h2 (decide_eq_true (by omega))
     refine ⟨_,_,rfl,s23,hla3,?_⟩
     rw [Mir.take_snoc hu,Th.openA_snoc,if_neg h2,List.append_nil]
     exact hT3
  rintro σ H2 ⟨v3,v4,rfl,s2,hla2,hT⟩
  rw [nvl,List.take_length] at hT
  refine ⟨_,rfl,b,n,os,rfl,s2.tup hO,WO,fun lb H3 hlb s3 hlb1=>?_⟩
  rw [Mir.loose_ls] at hlb1
  have s03:=s2.trans s3
  have hT3:=hT.same s3
  obtain ⟨vs0,w0,_⟩:=hT.len
  have nlb:l≠lb:=ne_of_none w0 hlb
  refine ⟨lb,rfl,⟨_,SqL.of hlb1⟩,for_list (K:=K) (a:=lb) (xs:=Mir.nV (Th.lsL (2 * n) (Mir.at0 os))) (fun i σ H4=>∃ v3 v4:Option V,σ = [some (.ref a),some (.ref b),some (.ref l),v3,v4]∧Same H H4∧H4 lb = some (.lst (Mir.nV (Th.lsL (2 * n) (Mir.at0 os))))∧Mir.ThT H4 l (Th.openA (2 * n) (Mir.at0 ms) (Mir.at0 os) (Th.lsL (2 * n) (Mir.at0 ms)) ++ Th.openB (2 * n) (Mir.at0 ms) (Mir.at0 os) ((Th.lsL (2 * n) (Mir.at0 os)).take i)))
   ⟨_,_,rfl,s03,hlb1,by show Mir.ThT H3 l (_ ++ []);rw [List.append_nil];exact hT3⟩ (fun i σ H4 _ ⟨_,_,_,_,h2,_⟩=>SqL.of h2) ?_ ?_⟩
  ·rintro i y σ H4 hy ⟨v3,v4,rfl,s4,hlb4,hT4⟩
   obtain ⟨u,hu,rfl⟩:=Mir.nV_get' hy
   have hil:=(List.getElem?_eq_some_iff.mp hu).1
   obtain ⟨ul,au⟩:=Th.mem_ls.mp (List.mem_of_getElem? hu)
   refine ⟨_,rfl,_,rfl,_,rfl,a,b,n,ms,os,u,rfl,s4.tup hS,W,s4.tup hO,WO,ul,.inl au,fun e H5 s5 he=>?_⟩
   have s45:=s4.trans s5
   have hTL:=Th.thr_len T ul (.inl au)
   have hT5:=hT4.same s5
   have hlb5:=s5 _ _ hlb4
   have hll:((Mir.nV (Th.thr (Mir.at0 ms) (Mir.at0 os) u)).length:Int) = (Th.thr (Mir.at0 ms) (Mir.at0 os) u).length:=by rw [nvl]
   have hoA:=Th.openA_len (N:=2 * n) (a:=Mir.at0 ms) (b:=Mir.at0 os) (Th.lsL (2 * n) (Mir.at0 ms))
   have hoB:=Th.openB_len (N:=2 * n) (a:=Mir.at0 ms) (b:=Mir.at0 os) ((Th.lsL (2 * n) (Mir.at0 os)).take i)
   rw [List.length_take] at hoB
   have l80:=lsLen (Mir.at0 ms)
   have l80':=lsLen (Mir.at0 os)
   have skip:¬ Th.pB (Mir.at0 ms) (Mir.at0 os) u→Mir.ThT H5 l (Th.openA (2 * n) (Mir.at0 ms) (Mir.at0 os) (Th.lsL (2 * n) (Mir.at0 ms)) ++ Th.openB (2 * n) (Mir.at0 ms) (Mir.at0 os) ((Th.lsL (2 * n) (Mir.at0 os)).take (i + 1))):=fun h2=>by
    rw [Mir.take_snoc hu,Th.openB_snoc,if_neg h2,List.append_nil]
    exact hT5
   refine ⟨_,rfl,e,_,rfl,.inr (SqT.of he),_,_,rfl,rfl,(by show (0:Int) < 2;decide),rfl,_,rfl,?_⟩
   refine ite2 (fun h1=>?_) (fun h1=>?_)
   ·have o:(Th.thr (Mir.at0 ms) (Mir.at0 os) u).length % 2 = 0:=by
     have z:=of_decide_eq_true h1
     injection z with z
     rw [hll] at z
     omega
    have hlast:atI (Mir.nV (Th.thr (Mir.at0 ms) (Mir.at0 os) u)) (-1) = some (.int (Th.lastD (Th.thr (Mir.at0 ms) (Mir.at0 os) u):Nat)):=Mir.atI_nlast (Th.last_get hTL.1)
    refine ⟨_,rfl,_,rfl,_,rfl,e,_,_,_,rfl,rfl,SqT.of he,hlast,_,_,rfl,rfl,_,rfl,?_⟩
    refine ite2 (fun h2=>?_) (fun h2=>?_)
    ·have h2:=of_decide_eq_true h2
     obtain ⟨vs,w1,_⟩:=hT5.len
     refine ⟨_,rfl,.inl ⟨rfl,_,SqL.of w1⟩,_,rfl,by show 2≤sizeLine;decide,fun tp htp=>?_⟩
     have s6:Same H5 (upd H5 tp (.tup [.str (Mir.ks .tied),.ref e])):=same_upd htp
     obtain ⟨xs,x1,x2,x3⟩:=(hT5.same s6).snoc (t:=tp) (e:=e) (k:=.tied) upd_same (s6 _ _ he)
     refine ⟨l,_,_,rfl,rfl,x1,small1000 (by rw [x2,List.length_append];omega),_,_,rfl,(s45.trans s6).upd hl,?_,?_⟩
     ·rw [upd_ne (Ne.symm nlb)]
      exact s6 _ _ hlb5
     ·rw [Mir.take_snoc hu,Th.openB_snoc,if_pos ⟨o,by omega⟩,← List.append_assoc]
      exact x3
    ·exact ⟨_,_,rfl,s45,hlb5,skip fun z=>h2 (decide_eq_true (by have:=z.2;omega))⟩
   ·refine iteF ⟨_,_,rfl,s45,hlb5,skip fun z=>h1 (decide_eq_true ?_)⟩
    show V.int (((Mir.nV (Th.thr (Mir.at0 ms) (Mir.at0 os) u)).length:Int) % 2) = V.int 0
    rw [hll]
    have z2:((Th.thr (Mir.at0 ms) (Mir.at0 os) u).length:Int) % 2 = 0:=by have:=z.1;omega
    rw [z2]
  ·rintro σ H4 ⟨v3,v4,rfl,s4,hlb4,hT4⟩
   rw [nvl,List.take_length] at hT4
   exact ⟨_,rfl,k l H4 hl s4 hT4⟩
end
section
variable {P:Program} {w:World} {K:PySem.W.Frag} {mg:Str→Option Value} {base:Heap}
theorem ok_mark_ends {f:Addr} {fd:FuncData} (F:Fn K mg "mark_ends" s_mark_ends ["seen","ends"] f fd):FnOk P w K mg base CX0 1 f fd ["seen","ends"] Mir.spMarkE:=by
 refine F.fn.ok sc_mark_ends (fun vs H Q E h=>?_) (fun cdv A outer s H vs Q E hr h=>?_)
 ·obtain ⟨d,e,kv,L,rfl,_⟩:=h
  rfl
 ·obtain ⟨d,c,kv,L,rfl,hd,he,hlen,k⟩:=h
  have hu:=hu_of hr
  have ne:c≠d:=fun z=>by rw [z,hd] at he;cases he
  refine ⟨_,(pss_one (ps_for PassesOwn.never rfl (pi_tup (pv 1)) (pg_name (i:=2) sc_mark_ends.nd rfl (Or.inl rfl)) (pss_one (ps_dput hu (pv 0) (pv 2) pe_bl rfl)))),?_⟩
  refine ⟨_,rfl,c,rfl,⟨_,SqT.of he⟩,for_tup (K:=K) (a:=c) (xs:=Mir.nV L) (fun i σ H2=>∃ (v:Option V) (kv2:List (Key×V)),σ = [some (.ref d),some (.ref c),v]∧(∀ b o,b≠d→H b = some o→H2 b = some o)∧H2 d = some (.dK kv2) ∧
    kv2.length≤kv.length + i∧∀ j:Nat,(valV kv2 (Sum.inl (j:Int):Key)).isSome = true↔(valV kv (Sum.inl (j:Int):Key)).isSome = true∨j∈L.take i)
   ⟨none,kv,rfl,fun b o _ e=>e,hd,Nat.le_refl _,fun j=>by simp⟩ (fun i σ H2 _ ⟨_,_,_,s2,_⟩=>SqT.of (s2 _ _ ne he)) ?_ ?_⟩
  ·rintro i y σ H2 hy ⟨v,kv2,rfl,s2,hd2,hl2,hk2⟩
   obtain ⟨x,hx,rfl⟩:=Mir.nV_get' hy
   have hil:i < L.length:=(List.getElem?_eq_some_iff.mp hx).1
   refine ⟨_,rfl,_,rfl,d,_,rfl,DPut.k (k:=Sum.inl (x:Int)) hd2 (Nat.lt_of_le_of_lt (show kv2.length≤200000 by omega) (by decide)),?_⟩
   refine ⟨_,_,rfl,fun b o hb e=>by rw [upd_ne hb];exact s2 b o hb e,upd_same,?_,fun j=>?_⟩
   ·have z:=length_putK kv2 (Sum.inl (x:Int):Key) (V.bl true)
    omega
   ·rw [valV_put,Mir.take_snoc hx,List.mem_append]
    by_cases e:(Sum.inl (j:Int):Key) = Sum.inl (x:Int)
    ·rw [if_pos e]
     have e2:j = x:=by injection e with e;omega
     exact ⟨fun _=>.inr (.inr (by simp [e2])),fun _=>rfl⟩
    ·rw [if_neg e,hk2 j]
     have e2:j≠x:=fun z=>e (by rw [z])
     constructor
     ·rintro (h | h)
      ·exact .inl h
      ·exact .inr (.inl h)
     ·rintro (h | h | h)
      ·exact .inl h
      ·exact .inr h
      ·exact absurd (List.mem_singleton.mp h) e2
  ·rintro σ H2 ⟨v,kv2,rfl,s2,hd2,hl2,hk2⟩
   rw [Mir.nV_len] at hl2 hk2
   rw [List.take_length] at hk2
   exact k kv2 H2 hd2 s2 hl2 hk2
end
section
variable {P:Program} {w:World} {K:PySem.W.Frag} {mg:Str→Option Value} {base:Heap}
theorem ok_least_end {f:Addr} {fd:FuncData} (B:Bl mg) (F:Fn K mg "least_end" s_least_end ["thread"] f fd):FnOk P w K mg base CX0 1 f fd ["thread"] Mir.spLeastEnd:=by
 refine F.fn.ok sc_least_end (fun vs H Q E h=>?_) (fun cdv A outer s H vs Q E hr h=>?_)
 ·obtain ⟨t,e,kd,L,rfl,_⟩:=h
  rfl
 ·obtain ⟨t,e,kd,L,rfl,ht,he,hL,k⟩:=h
  refine ⟨_,(pss_one (ps_ret (pe_callB (call_min_tup rfl) rfl B.min bb_min (pa_cons (pe_ix ix_tup (pv 0) pe_int (fun _ _=>rfl)) pa_nil)))),?_⟩
  have e1:atI [V.str (Mir.ks kd),V.ref e] 1 = some (.ref e):=rfl
  refine ⟨_,rfl,t,_,_,_,rfl,rfl,SqT.of ht,e1,e,Mt.up L,rfl,SqT.of (by rw [he,Mir.nV_up];rfl),?_,fun M hM hle=>?_⟩
  ·rw [Mt.up_len]
   exact hL
  ·obtain ⟨q1,q2,q3⟩:=Th.mn_le L (L.headD 0)
   have hd:L.headD 0∈L:=by
    cases L with
    | nil=>exact absurd hL (Nat.lt_irrefl _)
    | cons z r=>exact List.mem_cons_self
   have hm:Th.mn L∈L:=by
    rcases q3 with z | z
    ·unfold Th.mn;rw [z];exact hd
    ·exact z
   unfold Mt.up at hM hle
   obtain ⟨x,hx,rfl⟩:=List.mem_map.mp hM
   have z1:=q2 x hx
   have z2:=hle _ (List.mem_map.mpr ⟨_,hm,rfl⟩)
   have z3:x = Th.mn L:=by unfold Th.mn at z2 ⊢;omega
   rw [z3]
   exact k
end
section
variable {P:Program} {w:World} {K:PySem.W.Frag} {mg:Str→Option Value} {base:Heap}
theorem ok_threads {f f1 f2 f3 f4 f5 f6 C:Addr} {fd fd1 fd2 fd3 fd4 fd5 fd6:FuncData} (B:Bl mg) (Z:ECls K mg "Unlike" C) (F:Fn K mg "threads" s_threads ["one","other"] f fd) (F_refuse_unlike:Fn K mg "refuse_unlike" s_refuse_unlike ["one","other"] f1 fd1) (F_loose_ends:Fn K mg "loose_ends" s_loose_ends ["work"] f2 fd2)
  (F_open_threads:Fn K mg "open_threads" s_open_threads ["one","other"] f3 fd3) (F_walked_thread:Fn K mg "walked_thread" s_walked_thread ["start","first","second"] f4 fd4) (F_mark_ends:Fn K mg "mark_ends" s_mark_ends ["seen","ends"] f5 fd5) (F_least_end:Fn K mg "least_end" s_least_end ["thread"] f6 fd6) :
  FnOk P w K mg base (CXo P w) 4 f fd ["one","other"] (Mir.spThreadsS K C):=by
 have G_refuse_unlike:FnOk P w K mg base (CXo P w) 1 f1 fd1 ["one","other"] (Mir.spUnlike K C):=ok_refuse_unlike B Z F_refuse_unlike
 have G_open_threads:FnOk P w K mg base CX0 2 f3 fd3 ["one","other"] (Mir.spOpen K):=ok_open_threads B F_open_threads F_loose_ends F_walked_thread
 have G_walked_thread:FnOk P w K mg base CX0 1 f4 fd4 ["start","first","second"] (Mir.spWalkT K):=ok_walked_thread B F_walked_thread
 have G_mark_ends:FnOk P w K mg base CX0 1 f5 fd5 ["seen","ends"] Mir.spMarkE:=ok_mark_ends F_mark_ends
 have G_least_end:FnOk P w K mg base CX0 1 f6 fd6 ["thread"] Mir.spLeastEnd:=ok_least_end B F_least_end
 refine F.fn.okX2 sc_threads (fun vs H Q E h=>?_) (fun cdv A outer s H vs Q E hr h own=>?_)
 ·obtain ⟨a,b,n,m,ms,os,rfl,_,_⟩:=h
  rfl
 ·obtain ⟨a,b,n,m,ms,os,rfl,hn31,hS,W,hO,hm,kg,kb⟩:=h
  have op:=own_passes (E:=E) own
  have hu:=hu_of hr
  refine ⟨_,(pss_cons (ps_expr (pe_fnX G_refuse_unlike F_refuse_unlike (hr.mono (by decide)) (pa_cons (pv 0) (pa_cons (pv 1) pa_nil))))
   (pss_cons (ps_set (i:=2) sc_threads.nd rfl (Or.inl rfl) (pe_fn G_open_threads F_open_threads (hr.mono (by decide)) (pa_cons (pv 0) (pa_cons (pv 1) pa_nil))))
   (pss_cons (ps_set (i:=3) sc_threads.nd rfl (Or.inl rfl) pe_dnewK)
   (pss_cons (ps_for op rfl (pi_list (pv 2)) (pg_tup rfl (pgs_cons (pg_name (i:=4) sc_threads.nd rfl (Or.inl rfl)) (pgs_cons (pg_name (i:=5) sc_threads.nd rfl (Or.inl rfl)) pgs_nil))) (pss_one (ps_expr (pe_fn G_mark_ends F_mark_ends (hr.mono (by decide)) (pa_cons (pv 3) (pa_cons (pv 5) pa_nil))))))
   (pss_cons (ps_for op rfl (pi_range1 rfl B.range (pa_cons (pe_callB call_len_seq rfl B.len bb_len (pa_cons (pv 0) pa_nil)) pa_nil)) (pg_name (i:=6) sc_threads.nd rfl (Or.inl rfl)) (pss_one (ps_if (pt_cmp (pc_dnotin hu (pv 6) (pv 3))) (pss_cons (ps_set (i:=7) sc_threads.nd rfl (Or.inl rfl) (pe_fn G_walked_thread F_walked_thread (hr.mono (by decide)) (pa_cons (pv 6) (pa_cons (pv 0) (pa_cons (pv 1) pa_nil)))))
   (pss_cons (ps_expr (pe_fn G_mark_ends F_mark_ends (hr.mono (by decide)) (pa_cons (pv 3) (pa_cons (pv 7) pa_nil))))
   (pss_one (ps_expr (pe_bm PySem.F.plainAttrs_list PySem.F.slot_list_append PySem.F.type_list_append mt_append (pv 2) (pa_cons (pe_tup (pa_cons pe_str (pa_cons (pv 7) pa_nil))) pa_nil)))))) pss_nil)))
   (pss_one (ps_ret (pe_sortKs (by rfl) B.sorted G_least_end F_least_end (hr.mono (by decide)) (pa_cons (pv 2) pa_nil))))))))),?_⟩
  refine ⟨_,rfl,_,rfl,a,b,n,m,ms,os,rfl,hS,W,hO,hm,fun hnm=>?_,fun hne=>kb hne⟩
  obtain ⟨WO,kg⟩:=kg hnm
  have T:=Mir.two_of W WO
  have hsm:=W.small
  refine ⟨_,rfl,_,rfl,a,b,n,ms,os,rfl,hS,W,hO,WO,fun l H1 hl s1 hT=>?_⟩
  intro d hd
  have s2:Same H1 (upd H1 d (.dK [])):=same_upd hd
  have hT2:=hT.same s2
  have hd2:upd H1 d (.dK []) d = some (.dK []):=upd_same
  obtain ⟨vs0,w0,w00⟩:=hT.len
  have nld:l≠d:=ne_of_none w0 hd
  have hd0:H d = none:=s1.free hd
  generalize upd H1 d (.dK []) = H2 at s2 hT2 hd2 ⊢
  obtain ⟨xs,⟨ts,t1,t2,t3⟩,x2,x3⟩:=id hT2
  have hol:(Th.openL (2 * n) (Mir.at0 ms) (Mir.at0 os)).length≤160:=by
   unfold Th.openL
   rw [List.length_append]
   have q1:=Th.openA_len (N:=2 * n) (a:=Mir.at0 ms) (b:=Mir.at0 os) (Th.lsL (2 * n) (Mir.at0 ms))
   have q2:=Th.openB_len (N:=2 * n) (a:=Mir.at0 ms) (b:=Mir.at0 os) (Th.lsL (2 * n) (Mir.at0 os))
   have q3:∀ M:Nat→Nat,(Th.lsL (2 * n) M).length≤80:=fun M=>by
    unfold Th.lsL
    have z:=List.length_filter_le (fun e=>e == M e) (List.range (2 * n))
    rw [List.length_range] at z
    omega
   have:=q3 (Mir.at0 ms)
   have:=q3 (Mir.at0 os)
   omega
  have hxl:xs.length≤160:=by rw [← x3,List.length_map] at hol;exact hol
  have lenC:∀ {x:Nat} {L:List Nat},x < 2 * n→Th.IsComp (Mir.at0 ms) (Mir.at0 os) x L→L.length≤80:=fun {x L} hx C=>by
   have z:=Th.sub_len C.nd (m:=List.range (2 * n)) fun y hy=>List.mem_range.mpr (((C.mem y).mp hy).lt T hx)
   rw [List.length_range] at z
   omega
  refine ⟨_,rfl,l,rfl,⟨_,SqL.of t1⟩,for_list (K:=K) (a:=l) (xs:=ts.map V.ref) (fun i σ H3=>∃ (v4 v5:Option V) (kv:List (Key×V)),σ = [some (.ref a),some (.ref b),some (.ref l),some (.ref d),v4,v5,none,none]∧(∀ c o,c≠d→H2 c = some o→H3 c = some o)∧H3 d = some (.dK kv)∧kv.length≤80 * i ∧
    ∀ j:Nat,(valV kv (Sum.inl (j:Int):Key)).isSome = true↔∃ x∈xs.take i,j∈x.2.2)
   ⟨none,none,[],rfl,fun c o _ e=>e,hd2,Nat.le_refl _,fun j=>by simp [valV]⟩ (fun i σ H3 _ ⟨_,_,_,_,s3,_⟩=>SqL.of (s3 _ _ nld t1)) ?_ ?_⟩
  ·rintro i y σ H3 hy ⟨v4,v5,kv,rfl,s3,hd3,hkl,hk⟩
   have hi:i < ts.length:=by have z:=(List.getElem?_eq_some_iff.mp hy).1;rw [List.length_map] at z;exact z
   rw [List.getElem?_map,List.getElem?_eq_getElem hi] at hy
   obtain rfl:=Option.some.inj hy
   have hix:i < xs.length:=by rw [← t2];exact hi
   have ex:=List.getElem?_eq_getElem hix
   generalize xs[i] = x at ex
   have htd:=t3 i _ x (List.getElem?_eq_getElem hi) ex
   have hxm:=List.mem_of_getElem? ex
   have hxe:=x2 x hxm
   have nt:ts[i]≠d:=fun z=>by rw [z,hd2] at htd;cases htd
   have ne:x.2.1≠d:=fun z=>by rw [z,hd2] at hxe;cases hxe
   obtain ⟨u,hul,_,C⟩:=Th.open_comp T (th:=Mir.en x) (by rw [← x3];exact List.mem_map.mpr ⟨x,hxm,rfl⟩)
   have hLl:=lenC hul C
   have hLl:x.2.2.length≤80:=hLl
   refine ⟨_,_,rfl,SqT.of (s3 _ _ nt htd),rfl,_,_,rfl,_,_,rfl,rfl,?_⟩
   refine ⟨_,rfl,_,rfl,d,x.2.1,kv,x.2.2,rfl,hd3,s3 _ _ ne hxe,by omega,fun kv2 H4 hd4 s4 hl4 hk4=>?_⟩
   refine ⟨_,_,kv2,rfl,fun c o hc e=>s4 c o hc (s3 c o hc e),hd4,by omega,fun j=>?_⟩
   rw [hk4,hk,Mir.take_snoc ex]
   constructor
   ·rintro (⟨x',h1,h2⟩ | h)
    ·exact ⟨x',List.mem_append_left _ h1,h2⟩
    ·exact ⟨x,List.mem_append_right _ (List.mem_singleton.mpr rfl),h⟩
   ·rintro ⟨x',h1,h2⟩
    rcases List.mem_append.mp h1 with h1 | h1
    ·exact .inl ⟨x',h1,h2⟩
    ·rw [List.mem_singleton.mp h1] at h2
     exact .inr h2
  rintro σ H3 ⟨v4,v5,kv,rfl,s3,hd3,hkl,hk⟩
  rw [List.length_map,t2] at hkl hk
  rw [List.take_length] at hk
  have s03:Same H H3:=fun c o e=>s3 c o (fun z=>by rw [z,hd0] at e;cases e) (s2 _ _ (s1 _ _ e))
  have hT3:Mir.ThT H3 l (Th.openL (2 * n) (Mir.at0 ms) (Mir.at0 os)):=hT2.keep hd2 s3
  have hk3:∀ j:Nat,j < 2 * n→((valV kv (Sum.inl (j:Int):Key)).isSome = true↔¬ Th.Whole (Mir.at0 ms) (Mir.at0 os) j):=fun j hj=>by
   rw [hk,← Th.open_seen T hj,← x3]
   constructor
   ·rintro ⟨x,h1,h2⟩
    exact ⟨Mir.en x,List.mem_map.mpr ⟨x,h1,rfl⟩,h2⟩
   ·rintro ⟨th,h1,h2⟩
    obtain ⟨x,h3,rfl⟩:=List.mem_map.mp h1
    exact ⟨x,h3,h2⟩
  have hlm:((Mir.nV ms).length:Int) = 2 * n:=by rw [Mir.nV_len,W.len];omega
  have hld:H l = none:=hl
  refine ⟨_,rfl,a,_,rfl,.inr (s03.tup hS),_,rfl,by rw [hlm];omega,by rw [hlm];omega,for_range (lo:=0) (n:=((Mir.nV ms).length:Int).toNat) (fun i σ H4=>∃ (v4 v5 v6 v7:Option V) (kv:List (Key×V)),σ = [some (.ref a),some (.ref b),some (.ref l),some (.ref d),v4,v5,v6,v7]∧Same H H4∧H4 d = some (.dK kv)∧kv.length≤13000 + 80 * i ∧
    Mir.ThT H4 l (Th.openL (2 * n) (Mir.at0 ms) (Mir.at0 os) ++ Th.ringsTo (Mir.at0 ms) (Mir.at0 os) i)∧∀ j:Nat,j < 2 * n→((valV kv (Sum.inl (j:Int):Key)).isSome = true↔(¬ Th.Whole (Mir.at0 ms) (Mir.at0 os) j∨∃ th∈Th.ringsTo (Mir.at0 ms) (Mir.at0 os) i,j∈th.2)))
   ⟨_,_,_,_,kv,rfl,s03,hd3,by omega,by show Mir.ThT H3 l (_ ++ []);rw [List.append_nil];exact hT3,fun j hj=>?_⟩ ?_ ?_⟩
  ·rw [hk3 j hj]
   constructor
   ·exact .inl
   ·rintro (h | ⟨th,h,_⟩)
    ·exact h
    ·exact absurd h List.not_mem_nil
  ·rintro i σ H4 hi ⟨v4,v5,v6,v7,kv4,rfl,s4,hd4,hkl4,hT4,hk4⟩
   have hi':i < 2 * n:=by rw [hlm] at hi;omega
   have hir:=Th.ringsTo_len (a:=Mir.at0 ms) (b:=Mir.at0 os) i
   rw [Int.zero_add]
   have nx:=Th.ring_next T hi'
   refine ⟨_,rfl,_,rfl,d,_,rfl,DGet.k (k:=Sum.inl (i:Int)) hd4,_,rfl,?_⟩
   refine ite2 (fun h1=>?_) (fun h1=>?_)
   ·have hns:¬ (valV kv4 (Sum.inl (i:Int):Key)).isSome = true:=fun z=>by rw [z] at h1;cases h1
    rw [hk4 i hi'] at hns
    have hLW:=nx.mpr hns
    have C:=Th.thr_comp T hi' (.inr hLW.2)
    have hLl:=lenC hi' C
    refine ⟨_,rfl,_,rfl,_,rfl,a,b,n,ms,os,i,rfl,s4.tup hS,W,s4.tup hO,WO,hi',.inr hLW.2,fun e H5 s5 he=>?_⟩
    refine ⟨_,rfl,_,rfl,d,e,kv4,_,rfl,s5 _ _ hd4,he,by omega,fun kv6 H6 hd6 s6 hl6 hk6=>?_⟩
    have hd5:=s5 _ _ hd4
    have hT6:=(hT4.same s5).keep hd5 s6
    have s46:Same H H6:=fun c o q=>s6 c o (fun z=>by rw [z,hd0] at q;cases q) (s5 _ _ (s4 _ _ q))
    have he6:H6 e = some (.tup (Mir.nV (Th.thr (Mir.at0 ms) (Mir.at0 os) i))):=s6 _ _ (fun z=>by rw [z,hd5] at he;cases he) he
    obtain ⟨vs,w1,_⟩:=hT6.len
    refine ⟨_,rfl,.inl ⟨rfl,_,SqL.of w1⟩,_,rfl,by show 2≤sizeLine;decide,fun tp htp=>?_⟩
    have s7:Same H6 (upd H6 tp (.tup [.str (Mir.ks .ring),.ref e])):=same_upd htp
    obtain ⟨ys,y1,y2,y3⟩:=(hT6.same s7).snoc (t:=tp) (e:=e) (k:=.ring) upd_same (s7 _ _ he6)
    refine ⟨l,_,_,rfl,rfl,y1,small1000 (by rw [y2,List.length_append];omega),?_⟩
    refine ⟨_,_,_,_,kv6,rfl,(s46.trans s7).upd hld,?_,by omega,?_,fun j hj=>?_⟩
    ·rw [upd_ne (Ne.symm nld)]
     exact s7 _ _ hd6
    ·rw [Th.ringsTo_succ,if_pos hLW,← List.append_assoc]
     exact y3
    ·rw [hk6,hk4 j hj,Th.ringsTo_succ,if_pos hLW]
     constructor
     ·rintro ((h | ⟨th,h2,h3⟩) | h)
      ·exact .inl h
      ·exact .inr ⟨th,List.mem_append_left _ h2,h3⟩
      ·exact .inr ⟨_,List.mem_append_right _ (List.mem_singleton.mpr rfl),h⟩
     ·rintro (h | ⟨th,h2,h3⟩)
      ·exact .inl (.inl h)
      ·rcases List.mem_append.mp h2 with h2 | h2
       ·exact .inl (.inr ⟨th,h2,h3⟩)
       ·rw [List.mem_singleton.mp h2] at h3
        exact .inr h3
   ·have hs:(valV kv4 (Sum.inl (i:Int):Key)).isSome = true:=Classical.byContradiction fun z=>h1 (by rw [Bool.not_eq_true] at z;rw [z];rfl)
    rw [hk4 i hi'] at hs
    have hno:¬ (Th.Least (Mir.at0 ms) (Mir.at0 os) i∧Th.Whole (Mir.at0 ms) (Mir.at0 os) i):=fun z=>nx.mp z hs
    refine ⟨_,_,_,_,kv4,rfl,s4,hd4,by omega,?_,fun j hj=>?_⟩
    ·rw [Th.ringsTo_succ,if_neg hno,List.append_nil]
     exact hT4
    ·rw [Th.ringsTo_succ,if_neg hno,List.append_nil]
     exact hk4 j hj
  rintro σ H4 ⟨v4,v5,v6,v7,kv4,rfl,s4,hd4,hkl4,hT4,hk4⟩
  have en':((Mir.nV ms).length:Int).toNat = 2 * n:=by rw [hlm];omega
  rw [en'] at hT4
  have hT4:Mir.ThT H4 l (Th.unL (2 * n) (Mir.at0 ms) (Mir.at0 os)):=hT4
  obtain ⟨zs,⟨us,u1,u2,u3⟩,z2,z3⟩:=id hT4
  have hzl:zs.length≤62:=by
   have z:=Th.un_len T
   rw [← z3,List.length_map] at z
   omega
  have zc:∀ x∈zs,∃ u,u < 2 * n∧Th.IsComp (Mir.at0 ms) (Mir.at0 os) u x.2.2:=fun x hx=>Th.un_comp T (th:=Mir.en x) (by rw [← z3];exact List.mem_map.mpr ⟨x,hx,rfl⟩)
  refine ⟨_,rfl,l,us.map V.ref,zs.map (fun x=>((Th.mn x.2.2:Nat):Int)),rfl,SqL.of u1,by rw [List.length_map,List.length_map,u2],by rw [List.length_map,u2];omega,fun i v kk hv hkk Q' hQ'=>?_,fun l' ps hp hpw hl'=>?_⟩
  ·have hi:i < us.length:=by have z:=(List.getElem?_eq_some_iff.mp hv).1;rw [List.length_map] at z;exact z
   have hix:i < zs.length:=by rw [← u2];exact hi
   rw [List.getElem?_map,List.getElem?_eq_getElem hi] at hv
   rw [List.getElem?_map,List.getElem?_eq_getElem hix] at hkk
   obtain rfl:=Option.some.inj hv
   obtain rfl:=Option.some.inj hkk
   have hm:=List.getElem_mem hix
   obtain ⟨u,hul,C⟩:=zc _ hm
   have pos:0 < (zs[i]).2.2.length:=List.length_pos_of_mem ((C.mem u).mpr (Th.Conn.refl u))
   exact ⟨us[i],(zs[i]).2.1,(zs[i]).1,(zs[i]).2.2,rfl,u3 i _ _ (List.getElem?_eq_getElem hi) (List.getElem?_eq_getElem hix),z2 _ hm,pos,hQ'⟩
  ·have fa:Mir.Fa2 (fun (p:Int×V) (x:Mir.Ent)=>p.1 = ((Th.mn x.2.2:Nat):Int)∧∃ t,p.2 = .ref t∧H4 t = some (.tup (Mir.tf x))) ((zs.map (fun x=>((Th.mn x.2.2:Nat):Int))).zip (us.map V.ref)) zs:=by
    refine Mir.Fa2.of (by rw [List.length_zip,List.length_map,List.length_map,u2,Nat.min_self]) fun i p x e1 e2=>?_
    have hix:=(List.getElem?_eq_some_iff.mp e2).1
    have hi:i < us.length:=by rw [u2];exact hix
    rw [List.getElem?_zip_eq_some] at e1
    obtain ⟨q1,q2⟩:=e1
    rw [List.getElem?_map,e2] at q1
    rw [List.getElem?_map,List.getElem?_eq_getElem hi] at q2
    exact ⟨(Option.some.inj q1).symm,us[i],(Option.some.inj q2).symm,u3 i _ x (List.getElem?_eq_getElem hi) e2⟩
   obtain ⟨ws,hw1,hw2⟩:=fa.perm hp
   have s5:Same H4 (upd H4 l' (.lst (ps.map (·.2)))):=same_upd hl'
   have len2:=hw2.len
   have hkeys:ps.map (·.1) = ws.map (fun x=>((Th.mn x.2.2:Nat):Int)):=by
    refine List.ext_getElem? fun i=>?_
    rw [List.getElem?_map,List.getElem?_map]
    by_cases hi:i < ps.length
    ·rw [List.getElem?_eq_getElem hi,List.getElem?_eq_getElem (by omega)]
     exact congrArg some (hw2.get i _ _ (List.getElem?_eq_getElem hi) (List.getElem?_eq_getElem (by omega))).1
    ·rw [List.getElem?_eq_none (by omega),List.getElem?_eq_none (by omega)]
     rfl
   have nd:(ws.map (fun x=>Th.mn x.2.2)).Nodup:=by
    have z:=Th.keys_nodup T
    rw [← z3,List.map_map] at z
    exact ((hw1.map (fun x:Mir.Ent=>Th.mn x.2.2)).nodup_iff).mpr z
   have pw:(ws.map Mir.en).Pairwise fun p q=>Th.mn p.2 < Th.mn q.2:=by
    rw [List.pairwise_map]
    have q1:(ws.map (fun x=>((Th.mn x.2.2:Nat):Int))).Pairwise (·≤·):=by rw [← hkeys,List.pairwise_map];exact hpw
    rw [List.pairwise_map] at q1
    rw [List.nodup_iff_pairwise_ne,List.pairwise_map] at nd
    exact (q1.and nd).imp fun ⟨h1,h2⟩=>by show Th.mn _ < Th.mn _;have:=h2;simp only [Mir.en];omega
   refine kg l' _ (ws.map Mir.en) (s4.trans s5) ⟨by rw [← z3];exact hw1.map _,pw⟩ ?_ (s4.free hl')
   have ch:∀ i,i < ps.length→∃ t,(ps.map (·.2))[i]? = some (.ref t)∧∀ x,ws[i]? = some x→H4 t = some (.tup (Mir.tf x)):=fun i hi=>by
    obtain ⟨_,t,q1,q2⟩:=hw2.get i _ _ (List.getElem?_eq_getElem hi) (List.getElem?_eq_getElem (by omega))
    exact ⟨t,by rw [List.getElem?_map,List.getElem?_eq_getElem hi];exact congrArg some q1,fun x hx=>by rw [List.getElem?_eq_getElem (by omega)] at hx;rw [← Option.some.inj hx];exact q2⟩
   obtain ⟨vs',hv1,hv2⟩:=Mir.refs_ex (ps.map (·.2)) fun i hi=>let ⟨t,q,_⟩:=ch i (by rw [List.length_map] at hi;exact hi);⟨t,q⟩
   rw [List.length_map] at hv2
   refine ⟨ws,⟨vs',by rw [upd_same,hv1],by omega,fun i t x e1 e2=>?_⟩,fun x hx=>s5 _ _ (z2 x (hw1.mem_iff.mp hx)),rfl⟩
   have hi:i < ps.length:=by have z:=(List.getElem?_eq_some_iff.mp e1).1;omega
   obtain ⟨t',q1,q2⟩:=ch i hi
   rw [hv1,List.getElem?_map,e1] at q1
   obtain rfl:t = t':=by have z:=Option.some.inj q1;injection z
   exact s5 _ _ (q2 x e2)
end
section
variable {P:Program} {w:World} {K:PySem.W.Frag} {mg:Str→Option Value} {base:Heap}
theorem ok_thread_score {f f1 C:Addr} {fd fd1:FuncData} (B:Bl mg) (F:Fn K mg "thread_score" s_thread_score ["one","other"] f fd) (F_threads:Fn K mg "threads" s_threads ["one","other"] f1 fd1) (G_threads:FnOk P w K mg base (CXo P w) 4 f1 fd1 ["one","other"] (Mir.spThreadsS K C)) :
  FnOk P w K mg base (CXo P w) 5 f fd ["one","other"] (Mir.spScoreS K C):=by
 refine F.fn.okX2 sc_thread_score (fun vs H Q E h=>?_) (fun cdv A outer s H vs Q E hr h own=>?_)
 ·obtain ⟨a,b,n,m,ms,os,rfl,_⟩:=h
  rfl
 ·obtain ⟨a,b,n,m,ms,os,rfl,hn31,hS,W,hO,hm,kg,kb⟩:=h
  refine ⟨_,(pss_cons (ps_comp (ix:=2) (NC:=["kind","ends"]) sc_thread_score.nd rfl (Or.inl rfl) rfl (compOk0 rfl (by decide +kernel) (by decide +kernel)) (pi_list (pe_fnX G_threads F_threads (hr.mono (by decide)) (pa_cons (pv 0) (pa_cons (pv 1) pa_nil)))) (fun _ _ _ _=>(pg_tupK (K:=K) (n:=2) rfl rfl (pgs_cons (pg_name (i:=0) (show (["kind","ends"]:List Str).Nodup by decide +kernel) rfl (Or.inl rfl)) (pgs_cons (pg_name (i:=1) (show (["kind","ends"]:List Str).Nodup by decide +kernel) rfl (Or.inl rfl)) pgs_nil)))) (fun _ _ _ _=>pts_nil) (fun _ _ _ _=>(pv 0)))
   (pss_one (ps_ret (pe_op op_add (pe_op op_mul pe_int (pe_bm PySem.F.plainAttrs_list PySem.F.slot_list_count PySem.F.type_list_count mt_count (pv 2) (pa_cons pe_str pa_nil))) (pe_bm PySem.F.plainAttrs_list PySem.F.slot_list_count PySem.F.type_list_count mt_count (pv 2) (pa_cons pe_str pa_nil)))))),?_⟩
  refine ⟨_,rfl,_,rfl,a,b,n,m,ms,os,rfl,hn31,hS,W,hO,hm,fun hnm=>?_,fun hne=>kb hne⟩
  obtain ⟨WO,kg⟩:=kg hnm
  refine ⟨WO,fun l H1 ths s1 hI hT hl=>?_⟩
  have hsm:=W.small
  have hlen:ths.length≤80:=by rw [hI.1.length_eq];have:=Th.un_len (Mir.two_of W WO);omega
  obtain ⟨xs,⟨ts,t1,t2,t3⟩,x2,x3⟩:=id hT
  have hxl:xs.length≤80:=by rw [← x3,List.length_map] at hlen;exact hlen
  refine ⟨l,rfl,⟨_,SqL.of t1⟩,fun D hD=>comp_list (K:=K) (a:=l) (xs:=ts.map V.ref) (fun i σ H2=>∃ v0 v1:Option V,σ = [v0,v1]∧Same H1 H2∧H2 D = some (.lst (((xs.take i).map fun x=>Mir.ks x.1).map V.str))) ⟨none,none,rfl,same_upd hD,upd_same⟩ (fun i σ H2 _ ⟨_,_,_,s2,_⟩=>SqL.of (s2 _ _ t1)) ?_ ?_⟩
  ·rintro i y σ H2 hy ⟨v0,v1,rfl,s2,h2⟩
   have hi:i < ts.length:=by have z:=(List.getElem?_eq_some_iff.mp hy).1;rw [List.length_map] at z;exact z
   rw [List.getElem?_map,List.getElem?_eq_getElem hi] at hy
   obtain rfl:=Option.some.inj hy
   have hix:i < xs.length:=by rw [← t2];exact hi
   have ex:=List.getElem?_eq_getElem hix
   generalize xs[i] = x at ex
   have htd:=t3 i _ x (List.getElem?_eq_getElem hi) ex
   refine ⟨_,_,rfl,SqT.of (s2 _ _ htd),rfl,_,_,rfl,_,_,rfl,rfl,?_⟩
   refine ⟨_,rfl,_,h2,small1000 (by rw [List.length_map,List.length_map,List.length_take];omega),_,_,rfl,s2.upd hD,?_⟩
   rw [upd_same,Mir.take_snoc ex,List.map_append,List.map_append]
   rfl
  ·rintro σ H2 ⟨v0,v1,rfl,s2,h2⟩
   rw [List.length_map,t2,List.take_length] at h2
   have ek:(xs.map fun x=>Mir.ks x.1) = ths.map fun th=>Mir.ks th.1:=by rw [← x3,List.map_map];rfl
   rw [ek] at h2
   refine ⟨_,rfl,.inl ⟨rfl,_,SqL.of h2⟩,D,_,_,rfl,rfl,h2,?_⟩
   refine ⟨_,_,rfl,rfl,.inl ⟨by decide,by decide⟩,?_⟩
   refine ⟨_,rfl,.inl ⟨rfl,_,SqL.of h2⟩,D,_,_,rfl,rfl,h2,_,_,rfl,rfl,?_⟩
   have e:=hI.counts W WO
   have e2:(2:Int) * (((ths.map fun th=>Mir.ks th.1).countP (· == Mir.ks .ring):Nat):Int) + (((ths.map fun th=>Mir.ks th.1).countP (· == Mir.ks .odd):Nat):Int) = ((Th.score (Mir.at0 ms) (Mir.at0 os) (2 * n):Nat):Int):=by omega
   have z:=kg H2 (s1.trans s2)
   rw [← e2] at z
   exact z
end
section
variable {P:Program} {w:World} {K:PySem.W.Frag} {mg:Str→Option Value} {base:Heap}
theorem ok_apart_by {f f1 f2 C:Addr} {fd fd1 fd2:FuncData} (B:Bl mg) (F:Fn K mg "apart_by" s_apart_by ["one","other"] f fd) (F_staves_in:Fn K mg "staves_in" s_staves_in ["work"] f1 fd1) (F_thread_score:Fn K mg "thread_score" s_thread_score ["one","other"] f2 fd2) (G_thread_score:FnOk P w K mg base (CXo P w) 5 f2 fd2 ["one","other"] (Mir.spScoreS K C)) :
  FnOk P w K mg base (CXo P w) 6 f fd ["one","other"] (Mir.spApartS K C):=by
 have G_staves_in:FnOk P w K mg base CX0 1 f1 fd1 ["work"] (Mir.spStaves K):=ok_staves_in B F_staves_in
 refine F.fn.okX2 sc_apart_by (fun vs H Q E h=>?_) (fun cdv A outer s H vs Q E hr h own=>?_)
 ·obtain ⟨a,b,n,m,ms,os,rfl,_⟩:=h
  rfl
 ·obtain ⟨a,b,n,m,ms,os,rfl,hn31,hS,W,hO,hm,kg,kb⟩:=h
  refine ⟨_,(pss_one (ps_ret (pe_op op_sub (pe_fn G_staves_in F_staves_in (hr.mono (by decide)) (pa_cons (pv 0) pa_nil)) (pe_op op_fdiv (pe_fnX G_thread_score F_thread_score (hr.mono (by decide)) (pa_cons (pv 0) (pa_cons (pv 1) pa_nil))) pe_int)))),?_⟩
  refine ⟨_,rfl,a,n,ms,rfl,hS,W,?_⟩
  refine ⟨_,rfl,_,rfl,a,b,n,m,ms,os,rfl,hn31,hS,W,hO,hm,fun hnm=>?_,fun hne=>kb hne⟩
  obtain ⟨WO,kg⟩:=kg hnm
  refine ⟨WO,fun H1 s1=>?_⟩
  have hle:=Th.score_le (Mir.two_of W WO)
  refine ⟨_,_,rfl,rfl,⟨by decide,by decide⟩,_,_,rfl,rfl,?_⟩
  have e:(n:Int) - ((Th.score (Mir.at0 ms) (Mir.at0 os) (2 * n):Nat):Int) / 2 = (Mir.apartN n ms os:Nat):=by unfold Mir.apartN;omega
  dsimp only
  rw [e]
  exact kg H1 s1
end
section
seal L2.PSs L2.PS L2.PE L2.PT
variable {P:Program} {w:World} {K:PySem.W.Frag} {mg:Str→Option Value} {base:Heap}
theorem ok_ordered_pair {f:Addr} {fd:FuncData} (B:Bl mg) (F:Fn K mg "ordered_pair" s_ordered_pair ["end","mate"] f fd):FnOk P w K mg base CX0 1 f fd ["end","mate"] Mir.spOrdP:=by
 refine F.fn.ok sc_ordered_pair (fun vs H Q E h=>?_) (fun cdv A outer s H vs Q E hr h=>?_)
 ·obtain ⟨x,y,rfl,_⟩:=h
  rfl
 ·obtain ⟨x,y,rfl,k⟩:=h
  refine ⟨_,(pss_one (ps_ret (pe_tup (pa_cons (pe_callB (call_min2 rfl) rfl B.min bb_min (pa_cons (pv 0) (pa_cons (pv 1) pa_nil))) (pa_cons (pe_callB (call_max2 rfl) rfl B.max bb_max (pa_cons (pv 0) (pa_cons (pv 1) pa_nil))) pa_nil))))),?_⟩
  refine ⟨_,rfl,_,rfl,_,_,rfl,_,rfl,_,rfl,_,_,rfl,(by show 2≤sizeLine;decide),fun l hl=>?_⟩
  refine k l _ hl (same_upd hl) ?_
  have e1:(if (y:Int) < (x:Int) then (y:Int) else (x:Int)) = ((min x y:Nat):Int):=by split <;> omega
  have e2:(if (y:Int) > (x:Int) then (y:Int) else (x:Int)) = ((max x y:Nat):Int):=by split <;> omega
  rw [upd_same,e1,e2]
  rfl
end
section
seal L2.PSs L2.PS L2.PE L2.PT
variable {P:Program} {w:World} {K:PySem.W.Frag} {mg:Str→Option Value} {base:Heap}
theorem ok_ends_in {f:Addr} {fd:FuncData} (B:Bl mg) (F:Fn K mg "ends_in" s_ends_in ["laid","kind"] f fd):FnOk P w K mg base CX0 1 f fd ["laid","kind"] Mir.spEndsIn:=by
 refine F.fn.ok sc_ends_in (fun vs H Q E h=>?_) (fun cdv A outer s H vs Q E hr h=>?_)
 ·obtain ⟨l,kk,ths,rfl,_⟩:=h
  rfl
 ·obtain ⟨l,kk,ths,rfl,hT,hlen,k⟩:=h
  refine ⟨_,(pss_cons (ps_set (i:=2) sc_ends_in.nd rfl (Or.inl rfl) (pe_lst pa_nil))
   (pss_cons (ps_for PassesOwn.never rfl (pi_list (pv 0)) (pg_tup rfl (pgs_cons (pg_name (i:=3) sc_ends_in.nd rfl (Or.inl rfl)) (pgs_cons (pg_name (i:=4) sc_ends_in.nd rfl (Or.inl rfl)) pgs_nil))) (pss_one (ps_if (pt_cmpR op_eq (pv 3) (pv 1) (nomark _)) (pss_one (ps_expr (pe_bm PySem.F.plainAttrs_list PySem.F.slot_list_extend PySem.F.type_list_extend mt_extendA (pv 2) (pa_cons (pv 4) pa_nil)))) pss_nil)))
   (pss_one (ps_ret (pv 2))))),?_⟩
  obtain ⟨ts,t1,t2,t3⟩:=hT.at
  have fle:∀ i,(Th.endsIn (ths.take i) kk).length≤100:=fun i=>by
   refine Nat.le_trans ?_ hlen
   unfold Th.endsIn
   have g:∀ (l:List (Th.Kd×List Nat)),((l.filter fun th=>th.1 = kk).flatMap (·.2)).length≤(l.map (·.2)).flatten.length:=fun l=>by
    induction l with
    | nil=>exact Nat.le_refl _
    | cons th r ih =>
     rw [List.filter_cons]
     split
     ·rw [List.flatMap_cons,List.map_cons,List.flatten_cons,List.length_append,List.length_append];omega
     ·rw [List.map_cons,List.flatten_cons,List.length_append];omega
   refine Nat.le_trans (g _) ?_
   have e:ths = ths.take i ++ ths.drop i:=(List.take_append_drop i ths).symm
   have e2:(ths.map (·.2)).flatten.length = ((ths.take i).map (·.2)).flatten.length + ((ths.drop i).map (·.2)).flatten.length:=by
    rw [← List.length_append,← List.flatten_append,← List.map_append,← e]
   omega
  refine ⟨(by show 0≤sizeLine;decide),fun D hD=>?_⟩
  refine ⟨_,rfl,l,rfl,⟨_,SqL.of ((same_upd hD) _ _ t1)⟩,for_list (K:=K) (a:=l) (xs:=ts.map V.ref) (fun i σ H2=>∃ v3 v4:Option V,σ = [some (.ref l),some (.str (Mir.ks kk)),some (.ref D),v3,v4]∧Same H H2∧H2 D = some (.lst (Mir.nV (Th.endsIn (ths.take i) kk)))) ⟨none,none,rfl,same_upd hD,upd_same⟩ (fun i σ H2 _ ⟨_,_,_,s2,_⟩=>SqL.of (s2 _ _ t1)) ?_ ?_⟩
  ·rintro i y σ H2 hy ⟨v3,v4,rfl,s2,h2⟩
   have hi:i < ts.length:=by have z:=(List.getElem?_eq_some_iff.mp hy).1;rw [List.length_map] at z;exact z
   obtain ⟨th,hth⟩:∃ th,ths[i]? = some th:=⟨_,List.getElem?_eq_getElem (by omega)⟩
   obtain ⟨tt,te,e1,e2,e3⟩:=t3 i th hth
   rw [List.getElem?_map,e1] at hy
   obtain rfl:=Option.some.inj hy
   refine ⟨_,_,rfl,SqT.of (s2 _ _ e2),rfl,_,_,rfl,_,_,rfl,rfl,?_⟩
   have es:Th.endsIn (ths.take (i + 1)) kk = Th.endsIn (ths.take i) kk ++ (if th.1 = kk then th.2 else []):=by
    unfold Th.endsIn
    rw [Mir.take_snoc hth,List.filter_append,List.flatMap_append]
    congr 1
    by_cases c:th.1 = kk
    ·rw [if_pos c,List.filter_cons_of_pos (by simpa using c)];simp
    ·rw [if_neg c,List.filter_cons_of_neg (by simpa using c)];rfl
   refine ⟨_,rfl,_,rfl,rfl,_,rfl,?_⟩
   refine ite2 (fun h=>?_) (fun h=>?_)
   ·have hk:th.1 = kk:=Mir.ks_inj _ _ (by have z:=of_decide_eq_true h;injection z)
    rw [if_pos hk] at es
    have b1:=fle (i + 1)
    rw [es,List.length_append] at b1
    refine ⟨_,rfl,.inl ⟨rfl,_,SqL.of h2⟩,_,rfl,D,te,_,Mir.nV th.2,rfl,rfl,h2,.inr (s2 _ _ e3),?_,some (.str (Mir.ks th.1)),some (.ref te),rfl,s2.upd hD,?_⟩
    ·rw [Mir.nV_len,Mir.nV_len]
     have:1000≤sizeLine:=by decide
     omega
    ·rw [upd_same,es,Mir.nV_append]
   ·have hk:¬ th.1 = kk:=fun z=>h (decide_eq_true (by rw [z]))
    rw [if_neg hk,List.append_nil] at es
    exact ⟨some (.str (Mir.ks th.1)),some (.ref te),rfl,s2,by rw [es];exact h2⟩
  ·rintro σ H2 ⟨v3,v4,rfl,s2,h2⟩
   rw [List.length_map,t2,List.take_length] at h2
   exact ⟨_,rfl,k D H2 hD s2 h2⟩
end
section
seal L2.PSs L2.PS L2.PE L2.PT
variable {P:Program} {w:World} {K:PySem.W.Frag} {mg:Str→Option Value} {base:Heap}
theorem ok_splitting_pairs {f f1:Addr} {fd fd1:FuncData} (B:Bl mg) (F:Fn K mg "splitting_pairs" s_splitting_pairs ["ends"] f fd) (F_ordered_pair:Fn K mg "ordered_pair" s_ordered_pair ["end","mate"] f1 fd1):FnOk P w K mg base CX0 2 f fd ["ends"] Mir.spSplit:=by
 have G_ordered_pair:FnOk P w K mg base CX0 1 f1 fd1 ["end","mate"] Mir.spOrdP:=ok_ordered_pair B F_ordered_pair
 refine F.fn.ok sc_splitting_pairs (fun vs H Q E h=>?_) (fun cdv A outer s H vs Q E hr h=>?_)
 ·obtain ⟨e,L,rfl,_⟩:=h
  rfl
 ·obtain ⟨e,L,rfl,he,hlen,k⟩:=h
  refine ⟨_,(pss_cons (ps_set (i:=1) sc_splitting_pairs.nd rfl (Or.inl rfl) (pe_lst pa_nil))
   (pss_cons (ps_for PassesOwn.never rfl (pi_enumT rfl B.enumerate (pa_cons (pv 0) pa_nil)) (pg_tup rfl (pgs_cons (pg_name (i:=2) sc_splitting_pairs.nd rfl (Or.inl rfl)) (pgs_cons (pg_name (i:=3) sc_splitting_pairs.nd rfl (Or.inr rfl)) pgs_nil))) (pss_one (ps_expr (pe_bm PySem.F.plainAttrs_list PySem.F.slot_list_extend PySem.F.type_list_extend mt_extend (pv 1) (pa_cons (pe_comp (NC:=["behind","end"]) rfl (compOk2 (c:=s.heap.objs.size + 1) (j:=3) rfl (by decide +kernel) (by decide +kernel) rfl rfl rfl rfl rfl) (pi_tup (pe_step2 (pv 0) (pe_op op_add (pv 2) pe_int) pe_int)) (fun _ _ _ _=>(pg_name (i:=0) (show (["behind","end"]:List Str).Nodup by decide +kernel) rfl (Or.inl rfl))) (fun _ _ _ _=>pts_nil) (fun _ _ _ _=>(pe_fn G_ordered_pair F_ordered_pair (hr.mono (by decide)) (pa_cons (pv 1) (pa_cons (pv 0) pa_nil))))) pa_nil)))))
   (pss_one (ps_ret (pv 1))))),?_⟩
  refine ⟨(by show 0≤sizeLine;decide),fun D hD=>?_⟩
  have s0:Same H (upd H D (.lst [])):=same_upd hD
  refine ⟨_,rfl,e,rfl,⟨_,SqT.of (s0 _ _ he)⟩,for_enum (K:=K) (a:=e) (xs:=Mir.nV L) (fun i σ H2=>∃ v2 v3:Option V,σ = [some (.ref e),some (.ref D),v2,v3]∧Same H H2∧Mir.TsT Mir.pf H2 D (Th.splitTo L i)) ⟨none,none,rfl,s0,Mir.TsT.nil upd_same⟩ (fun i σ H2 _ ⟨_,_,_,s2,_⟩=>SqT.of (s2 _ _ he)) ?_ ?_⟩
  ·rintro i x t σ H2 hx ⟨v2,v3,rfl,s2,h2⟩ ht
   obtain ⟨u,hu,rfl⟩:=Mir.nV_get' hx
   have hil:=(List.getElem?_eq_some_iff.mp hu).1
   have st:Same H2 (upd H2 t (.tup [.int (i:Nat),.int (u:Nat)])):=same_upd ht
   have e3:upd H2 t (.tup [.int (i:Nat),.int (u:Nat)]) t = some (.tup [.int (i:Nat),.int (u:Nat)]):=upd_same
   generalize upd H2 t (.tup [.int (i:Nat),.int (u:Nat)]) = H3 at st e3
   have h3:=h2.same st
   obtain ⟨vs0,w0,_⟩:=h3.len
   refine ⟨t,_,rfl,SqT.of e3,rfl,_,_,rfl,_,_,rfl,rfl,?_⟩
   refine ⟨_,rfl,.inl ⟨rfl,_,SqL.of w0⟩,?_⟩
   have he3:=st _ _ (s2 _ _ he)
   refine ⟨_,rfl,_,rfl,_,_,rfl,rfl,e,_,_,rfl,rfl,rfl,SqT.of he3,(by omega),fun p hp=>?_⟩
   have ep:ev2 ((Mir.nV L).drop ((i:Int) + 1).toNat) = Mir.nV (ev2 (L.drop (i + 1))):=by
    rw [show ((i:Int) + 1).toNat = i + 1 by omega]
    unfold Mir.nV
    rw [← List.map_drop,ev2_map]
   rw [ep]
   have s4:Same H3 (upd H3 p (.tup (Mir.nV (ev2 (L.drop (i + 1)))))):=same_upd hp
   have e4:upd H3 p (.tup (Mir.nV (ev2 (L.drop (i + 1))))) p = some (.tup (Mir.nV (ev2 (L.drop (i + 1))))):=upd_same
   have hml:(ev2 (L.drop (i + 1))).length≤80:=by rw [ev2_len,List.length_drop];omega
   have es:=Th.splitTo_succ hu
   have bl:=Th.splitTo_len L (i + 1)
   have bl2:(i + 1) * L.length≤80 * 80:=Nat.mul_le_mul (by omega) hlen
   generalize ev2 (L.drop (i + 1)) = M at e4 s4 hml es
   generalize upd H3 p (.tup (Mir.nV M)) = H4 at s4 e4
   refine ⟨p,rfl,⟨_,SqT.of e4⟩,fun D2 hD2=>comp_tup (K:=K) (a:=p) (xs:=Mir.nV M) (fun j σ H5=>∃ v:Option V,σ = [v,some (.int (u:Nat))]∧Same H4 H5∧Mir.TsT Mir.pf H5 D2 ((M.take j).map (Th.ord u))) ⟨none,rfl,same_upd hD2,Mir.TsT.nil upd_same⟩ (fun j σ H5 _ ⟨_,_,s5,_⟩=>SqT.of (s5 _ _ e4)) ?_ ?_⟩
   ·rintro j y σ H5 hy ⟨v,rfl,s5,h5⟩
    obtain ⟨z,hz,rfl⟩:=Mir.nV_get' hy
    refine ⟨_,rfl,_,rfl,u,z,rfl,fun l H6 hl s6 hl6=>?_⟩
    obtain ⟨ws,y1,y2,y3⟩:=(h5.same s6).snoc (t:=l) (x:=Th.ord u z) hl6
    refine ⟨ws,y1,small1000 (by rw [y2,List.length_map,List.length_take];omega),some (.int (z:Nat)),rfl,(s5.trans s6).upd hD2,?_⟩
    rw [Mir.take_snoc hz,List.map_append]
    exact y3
   ·rintro σ H5 ⟨v,rfl,s5,h5⟩
    rw [Mir.nV_len,List.take_length] at h5
    have s35:=s4.trans s5
    obtain ⟨as,bs,g1,g2,g3,g4,g5⟩:=(h3.same s35).ext h5
    refine ⟨D,D2,as,bs,rfl,rfl,g1,g2,?_,some (.int (i:Nat)),some (.int (u:Nat)),rfl,(s2.trans (st.trans s35)).upd hD,?_⟩
    ·rw [g3,g4,← List.length_append,← es]
     have:6400≤sizeLine:=by decide
     omega
    ·rw [es]
     exact g5
  ·rintro σ H2 ⟨v2,v3,rfl,s2,h2⟩
   rw [Mir.nV_len] at h2
   exact ⟨_,rfl,k D H2 hD s2 h2⟩
end
section
seal L2.PSs L2.PS L2.PE L2.PT
variable {P:Program} {w:World} {K:PySem.W.Frag} {mg:Str→Option Value} {base:Heap}
theorem ok_crossing_pairs {f f1:Addr} {fd fd1:FuncData} (B:Bl mg) (F:Fn K mg "crossing_pairs" s_crossing_pairs ["bare","tied"] f fd) (F_ordered_pair:Fn K mg "ordered_pair" s_ordered_pair ["end","mate"] f1 fd1):FnOk P w K mg base CX0 2 f fd ["bare","tied"] Mir.spCross:=by
 have G_ordered_pair:FnOk P w K mg base CX0 1 f1 fd1 ["end","mate"] Mir.spOrdP:=ok_ordered_pair B F_ordered_pair
 refine F.fn.ok sc_crossing_pairs (fun vs H Q E h=>?_) (fun cdv A outer s H vs Q E hr h=>?_)
 ·obtain ⟨a,b,Bs,S,rfl,_⟩:=h
  rfl
 ·obtain ⟨a,b,Bs,S,rfl,ha,hb,hB,hS,k⟩:=h
  refine ⟨_,(pss_cons (ps_set (i:=2) sc_crossing_pairs.nd rfl (Or.inl rfl) (pe_lst pa_nil))
   (pss_cons (ps_for PassesOwn.never rfl (pi_list (pv 0)) (pg_name (i:=3) sc_crossing_pairs.nd rfl (Or.inr rfl)) (pss_one (ps_expr (pe_bm PySem.F.plainAttrs_list PySem.F.slot_list_extend PySem.F.type_list_extend mt_extend (pv 2) (pa_cons (pe_comp (NC:=["crossed","end"]) rfl (compOk2 (c:=s.heap.objs.size + 1) (j:=3) rfl (by decide +kernel) (by decide +kernel) rfl rfl rfl rfl rfl) (pi_list (pv 1)) (fun _ _ _ _=>(pg_name (i:=0) (show (["crossed","end"]:List Str).Nodup by decide +kernel) rfl (Or.inl rfl))) (fun _ _ _ _=>pts_nil) (fun _ _ _ _=>(pe_fn G_ordered_pair F_ordered_pair (hr.mono (by decide)) (pa_cons (pv 1) (pa_cons (pv 0) pa_nil))))) pa_nil)))))
   (pss_one (ps_ret (pv 2))))),?_⟩
  refine ⟨(by show 0≤sizeLine;decide),fun D hD=>?_⟩
  have s0:Same H (upd H D (.lst [])):=same_upd hD
  refine ⟨_,rfl,a,rfl,⟨_,SqL.of (s0 _ _ ha)⟩,for_list (K:=K) (a:=a) (xs:=Mir.nV Bs) (fun i σ H2=>∃ v3:Option V,σ = [some (.ref a),some (.ref b),some (.ref D),v3]∧Same H H2∧Mir.TsT Mir.pf H2 D (Th.crossL (Bs.take i) S)) ⟨none,rfl,s0,Mir.TsT.nil upd_same⟩ (fun i σ H2 _ ⟨_,_,s2,_⟩=>SqL.of (s2 _ _ ha)) ?_ ?_⟩
  ·rintro i x σ H2 hx ⟨v3,rfl,s2,h2⟩
   obtain ⟨u,hu,rfl⟩:=Mir.nV_get' hx
   obtain ⟨vs0,w0,_⟩:=h2.len
   have es:Th.crossL (Bs.take (i + 1)) S = Th.crossL (Bs.take i) S ++ S.map (Th.ord u):=by rw [Mir.take_snoc hu];exact Th.cross_snoc
   have bl:=Th.cross_len (Bs.take (i + 1)) S
   have bl2:(Bs.take (i + 1)).length * S.length≤80 * 80:=Nat.mul_le_mul (by rw [List.length_take];omega) hS
   refine ⟨_,rfl,.inl ⟨rfl,_,SqL.of w0⟩,?_⟩
   have hb2:=s2 _ _ hb
   refine ⟨_,rfl,b,rfl,⟨_,SqL.of hb2⟩,fun D2 hD2=>comp_list (K:=K) (a:=b) (xs:=Mir.nV S) (fun j σ H5=>∃ v:Option V,σ = [v,some (.int (u:Nat))]∧Same H2 H5∧Mir.TsT Mir.pf H5 D2 ((S.take j).map (Th.ord u))) ⟨none,rfl,same_upd hD2,Mir.TsT.nil upd_same⟩ (fun j σ H5 _ ⟨_,_,s5,_⟩=>SqL.of (s5 _ _ hb2)) ?_ ?_⟩
   ·rintro j y σ H5 hy ⟨v,rfl,s5,h5⟩
    obtain ⟨z,hz,rfl⟩:=Mir.nV_get' hy
    refine ⟨_,rfl,_,rfl,u,z,rfl,fun l H6 hl s6 hl6=>?_⟩
    obtain ⟨ws,y1,y2,y3⟩:=(h5.same s6).snoc (t:=l) (x:=Th.ord u z) hl6
    refine ⟨ws,y1,small1000 (by rw [y2,List.length_map,List.length_take];omega),some (.int (z:Nat)),rfl,(s5.trans s6).upd hD2,?_⟩
    rw [Mir.take_snoc hz,List.map_append]
    exact y3
   ·rintro σ H5 ⟨v,rfl,s5,h5⟩
    rw [Mir.nV_len,List.take_length] at h5
    obtain ⟨as,bs,g1,g2,g3,g4,g5⟩:=(h2.same s5).ext h5
    refine ⟨D,D2,as,bs,rfl,rfl,g1,g2,?_,some (.int (u:Nat)),rfl,(s2.trans s5).upd hD,?_⟩
    ·rw [g3,g4,← List.length_append,← es]
     have:6400≤sizeLine:=by decide
     omega
    ·rw [es]
     exact g5
  ·rintro σ H2 ⟨v3,rfl,s2,h2⟩
   rw [Mir.nV_len,List.take_length] at h2
   exact ⟨_,rfl,k D H2 hD s2 h2⟩
end
section
seal L2.PSs L2.PS L2.PE L2.PT
variable {P:Program} {w:World} {K:PySem.W.Frag} {mg:Str→Option Value} {base:Heap}
theorem ok_least_pair {f f1:Addr} {fd fd1:FuncData} (B:Bl mg) (F:Fn K mg "least_pair" s_least_pair ["work","deed"] f fd) (F_freed_ends:Fn K mg "freed_ends" s_freed_ends ["work","deed"] f1 fd1):FnOk P w K mg base CX0 2 f fd ["work","deed"] (Mir.spLeastPair K):=by
 have G_freed_ends:FnOk P w K mg base CX0 1 f1 fd1 ["work","deed"] (Mir.spFreedE K):=ok_freed_ends F_freed_ends
 refine F.fn.ok sc_least_pair (fun vs H Q E h=>?_) (fun cdv A outer s H vs Q E hr h=>?_)
 ·obtain ⟨a,d,n,p,q,ms,rfl,_⟩:=h
  rfl
 ·obtain ⟨a,d,n,p,q,ms,rfl,hS,W,hD,hp,hq,k⟩:=h
  have hu:=hu_of hr
  refine ⟨_,(pss_cons (ps_set (i:=2) sc_least_pair.nd rfl (Or.inl rfl) (pe_tup (pa_cons (pe_ix ix_tup (pv 1) pe_int (fun _ _=>rfl)) (pa_cons (pe_ix ix_tup (pv 1) pe_int (fun _ _=>rfl)) pa_nil))))
   (pss_cons (ps_set (i:=3) sc_least_pair.nd rfl (Or.inl rfl) (pe_fn G_freed_ends F_freed_ends (hr.mono (by decide)) (pa_cons (pv 0) (pa_cons (pv 1) pa_nil))))
   (pss_cons (ps_if (pt_cmpR op_lt (pe_callB call_len_seq rfl B.len bb_len (pa_cons (pv 3) pa_nil)) pe_int (nomark _)) (pss_one (ps_ret (pv 2))) pss_nil)
   (pss_one (ps_ret (pe_callB (call_min2T rfl hu) rfl B.min bb_min (pa_cons (pv 2) (pa_cons (pe_tup (pa_cons (pe_callB (call_minL2 rfl) rfl B.min bb_min (pa_cons (pv 3) pa_nil)) (pa_cons (pe_callB (call_maxL2 rfl) rfl B.max bb_max (pa_cons (pv 3) pa_nil)) pa_nil))) pa_nil)))))))),?_⟩
  refine ⟨_,rfl,d,_,_,_,rfl,rfl,hD,rfl,_,rfl,d,_,_,_,rfl,rfl,hD,rfl,(by show 2≤sizeLine;decide),fun pr hpr=>?_⟩
  have s1:Same H (upd H pr (.tup [.int (p:Nat),.int (q:Nat)])):=same_upd hpr
  have e1:upd H pr (.tup [.int (p:Nat),.int (q:Nat)]) pr = some (.tup [.int (p:Nat),.int (q:Nat)]):=upd_same
  generalize upd H pr (.tup [.int (p:Nat),.int (q:Nat)]) = H1 at s1 e1
  refine ⟨_,rfl,_,rfl,a,d,n,ms,p,q,rfl,s1.tup hS,W,s1.tup hD,hp,hq,fun fr H2 hfr s2 h2=>?_⟩
  have s12:=s1.trans s2
  have ec:=Mir.frd_cases ms p q
  refine ⟨_,rfl,fr,_,rfl,.inl (SqL.of h2),_,_,rfl,rfl,_,rfl,?_⟩
  by_cases c:Mir.at0 ms p≠p∧Mir.at0 ms q≠q
  ·rw [if_neg c.1,if_neg c.2] at ec
   rw [ec] at h2
   have h2:H2 fr = some (.lst [.int (Mir.at0 ms p:Nat),.int (Mir.at0 ms q:Nat)]):=h2
   refine iteN (decide_eq_false (by rw [Mir.nV_len,ec];show ¬ ((2:Nat):Int) < 2;decide)) ?_
   refine ⟨_,rfl,_,rfl,fr,_,_,rfl,SqL.of h2,_,rfl,fr,_,_,rfl,SqL.of h2,(by show 2≤sizeLine;decide),fun pp hpp=>?_⟩
   have s3:=same_upd (o:=.tup [.int (min ((Mir.at0 ms p:Nat):Int) (Mir.at0 ms q:Nat)),.int (max ((Mir.at0 ms p:Nat):Int) (Mir.at0 ms q:Nat))]) hpp
   have e3:upd H2 pp (.tup [.int (min ((Mir.at0 ms p:Nat):Int) (Mir.at0 ms q:Nat)),.int (max ((Mir.at0 ms p:Nat):Int) (Mir.at0 ms q:Nat))]) pp = some (.tup (Mir.pf (Mir.otherP ms p q))):=by
    rw [upd_same]
    unfold Mir.pf Mir.otherP
    simp only
    rw [show min ((Mir.at0 ms p:Nat):Int) (Mir.at0 ms q:Nat) = ((min (Mir.at0 ms p) (Mir.at0 ms q):Nat):Int) by omega,show max ((Mir.at0 ms p:Nat):Int) (Mir.at0 ms q:Nat) = ((max (Mir.at0 ms p) (Mir.at0 ms q):Nat):Int) by omega]
   generalize upd H2 pp (.tup [.int (min ((Mir.at0 ms p:Nat):Int) (Mir.at0 ms q:Nat)),.int (max ((Mir.at0 ms p:Nat):Int) (Mir.at0 ms q:Nat))]) = H3 at s3 e3
   have s13:=s12.trans s3
   have e1':=s3 _ _ (s2 _ _ e1)
   refine ⟨pr,pp,_,_,_,_,rfl,SqT.of e1',SqT.of e3,?_⟩
   have el:Mir.leastP ms p q = if ((Mir.otherP ms p q).1:Int) < (p:Nat)∨((Mir.otherP ms p q).1:Int) = (p:Nat)∧((Mir.otherP ms p q).2:Int) < (q:Nat) then Mir.otherP ms p q else (p,q):=by
    unfold Mir.leastP
    rw [if_pos c]
    by_cases d:(Mir.otherP ms p q).1 < p∨((Mir.otherP ms p q).1 = p∧(Mir.otherP ms p q).2 < q)
    ·rw [if_pos d,if_pos (by omega)]
    ·rw [if_neg d,if_neg (by omega)]
   by_cases d:((Mir.otherP ms p q).1:Int) < (p:Nat)∨((Mir.otherP ms p q).1:Int) = (p:Nat)∧((Mir.otherP ms p q).2:Int) < (q:Nat)
   ·rw [if_pos d] at el ⊢
    exact k pp H3 (s12.free hpp) s13 (by rw [el];exact e3)
   ·rw [if_neg d] at el ⊢
    exact k pr H3 hpr s13 (by rw [el];exact e1')
  ·have el:Mir.leastP ms p q = (p,q):=by unfold Mir.leastP;rw [if_neg c]
   have hlen:(Mir.frd ms p q).length < 2:=by
    rw [ec]
    by_cases c1:Mir.at0 ms p = p
    ·rw [if_pos c1];split <;> simp
    ·rw [if_neg c1]
     have c2:Mir.at0 ms q = q:=Classical.byContradiction fun z=>c ⟨c1,z⟩
     rw [if_pos c2];simp
   refine iteY (decide_eq_true (by rw [Mir.nV_len];omega)) ?_
   exact ⟨_,rfl,k pr H2 hpr s12 (by rw [el];exact s2 _ _ e1)⟩
end
section
variable {P:Program} {w:World} {K:PySem.W.Frag} {mg:Str→Option Value} {base:Heap}
theorem ok_reclasped {f fM fR fC C fF:Addr} {fd fdM fdR fdC fdF:FuncData} (B:Bl mg) (Z:ECls K mg "BadDeed" C) (F:Fn K mg "reclasped" s_reclasped ["work","deed"] f fd) (FF:Fn K mg "fits_work" s_fits_work ["work","deed"] fF fdF) (FM:Fn K mg "refuse_misfit" s_refuse_misfit ["work","deed"] fM fdM)
  (FR:Fn K mg "freed_ends" s_freed_ends ["work","deed"] fR fdR) (FC:Fn K mg "clasp_ends" s_clasp_ends ["mates","one","other"] fC fdC):FnOk P w K mg base (CXo P w) 3 f fd ["work","deed"] (Mir.spRecl K C):=by
 have GM:FnOk P w K mg base (CXo P w) 2 fM fdM ["work","deed"] (Mir.spMisfit K C):=ok_refuse_misfit B Z FM FF
 have GR:FnOk P w K mg base CX0 1 fR fdR ["work","deed"] (Mir.spFreedE K):=ok_freed_ends FR
 have GC:FnOk P w K mg base CX0 1 fC fdC ["mates","one","other"] Mir.spClaspE:=ok_clasp_ends FC
 refine F.fn.okX2 sc_reclasped (fun vs H Q E h=>?_) (fun cdv A outer s H vs Q E hr h own=>?_)
 ·obtain ⟨a,d,n,ms,p,q,rfl,_⟩:=h
  rfl
 ·obtain ⟨a,d,n,ms,p,q,rfl,hS,W,hD,sp,sq,kg,kb⟩:=h
  have hr1:Room 1 _:=hr.mono (by decide)
  refine ⟨_,pss_cons (ps_expr (pe_fnX GM FM hr (pa_cons (pv 0) (pa_cons (pv 1) pa_nil))))
   (pss_cons (ps_set (i:=2) sc_reclasped.nd rfl (Or.inl rfl) (pe_callTy call_list_of rfl B.list bb_list (pa_cons (pv 0) pa_nil)))
   (pss_cons (ps_set (i:=3) sc_reclasped.nd rfl (Or.inl rfl) (pe_fn GR FR hr1 (pa_cons (pv 0) (pa_cons (pv 1) pa_nil))))
   (pss_cons (ps_if (pt_cmpR op_gt (pe_callB call_len_seq rfl B.len bb_len (pa_cons (pv 3) pa_nil)) pe_int (nomark _)) (pss_one (ps_expr (pe_fn GC FC hr1 (pa_cons (pv 2) (pa_cons (pe_ix ix_list (pv 3) pe_int (fun _ _=>rfl)) (pa_cons (pe_ix ix_list (pv 3) (pe_un un_neg pe_int) (fun _ _=>rfl)) pa_nil)))))) pss_nil)
   (pss_cons (ps_expr (pe_fn GC FC hr1 (pa_cons (pv 2) (pa_cons (pe_ix ix_tup (pv 1) pe_int (fun _ _=>rfl)) (pa_cons (pe_ix ix_tup (pv 1) pe_int (fun _ _=>rfl)) pa_nil)))))
   (pss_one (ps_ret (pe_callTy call_tuple_of rfl B.tuple bb_tuple (pa_cons (pv 2) pa_nil)))))))),?_⟩
  refine ⟨_,rfl,_,rfl,a,d,n,ms,p,q,rfl,hS,W,hD,sp,sq,fun hf=>?_,kb⟩
  obtain ⟨x,y,rfl,rfl,hxy,hy,hne⟩:=hf.nat
  have k:=kg hf
  rw [Int.toNat_natCast,Int.toNat_natCast] at k
  have hx:x < 2 * n:=by omega
  refine ⟨_,rfl,a,_,rfl,.inr hS,fun l hl=>?_⟩
  have s1:Same H (upd H l (.lst (Mir.nV ms))):=same_upd hl
  refine ⟨_,rfl,_,rfl,a,d,n,ms,x,y,rfl,s1.tup hS,W,SqT.of (s1 _ _ hD),hx,hy,fun lf H2 hlf s2 h2=>?_⟩
  have hl2:=s2 _ _ (show upd H l (.lst (Mir.nV ms)) l = some (.lst (Mir.nV ms)) from upd_same)
  have nll:l≠lf:=ne_of_none upd_same hlf
  have s12:=s1.trans s2
  have fin:∀ (H3:Hp) (m1:List Nat),Same H H3→H3 l = some (.lst (Mir.nV m1))→m1.length = 2 * n→Mir.clasp m1 x y = Mir.beh ms x y →
    ((tSeq (tDrop (tCall Mir.spClaspE [] E0 (tCons (tVar 2) (tCons (tOp (rIxT K) (tVar 1) (tC (.int 0))) (tCons (tOp (rIxT K) (tVar 1) (tC (.int 1))) tNil))))) (tRet (fun σ H Q=>∃ v,σ[2]? = some (some v)∧∃ p ys,[v] = [V.ref p]∧((SqL K H p ys∧∀ l,H l = none→Q (.ref l) (upd H l (.tup ys)))∨(SqT K H p ys∧Q (.ref p) H)))))
     { nx:=fun _ H'=>Q .non H',rt:=Q } [some (.ref a),some (.ref d),some (.ref l),some (.ref lf)] H3):=fun H3 m1 s3 h3 hlen hbe=>by
   refine ⟨_,rfl,_,rfl,d,_,_,_,rfl,rfl,SqT.of (s3 _ _ hD),rfl,_,rfl,d,_,_,_,rfl,rfl,SqT.of (s3 _ _ hD),rfl,l,m1,x,y,rfl,h3,by omega,by omega,fun H4 h4 o4=>?_⟩
   rw [hbe] at h4
   refine ⟨_,rfl,l,_,rfl,.inl ⟨SqL.of h4,fun r hr'=>?_⟩⟩
   have s4:Same H H4:=fun b o e=>by
    rw [o4 b (ne_of_none e hl)]
    exact s3 b o e
   exact k r _ (s4.free hr') (s4.upd (s4.free hr')) upd_same
  have hcm:=Mir.progBeh_eq W hx hy hne
  have hfl:=Mir.frd_len ms x y
  unfold Mir.progBeh at hcm
  refine ⟨_,rfl,lf,_,rfl,.inl (SqL.of h2),_,_,rfl,rfl,_,rfl,?_⟩
  rw [Mir.nV_len]
  refine ite2 (fun h1=>?_) (fun h1=>?_)
  ·have h1:0 < (Mir.frd ms x y).length:=by have z:=of_decide_eq_true h1;omega
   simp only [h1,if_true] at hcm
   have mem:∀ e∈Mir.frd ms x y,e < 2 * n:=fun e he=>by
    have lx:=W.wk.lt x hx
    have ly:=W.wk.lt y hy
    rw [Mir.frd_cases] at he
    split at he <;> split at he <;> simp at he <;> omega
   have hg:∀ i,i < (Mir.frd ms x y).length→(Mir.frd ms x y).getD i 0 < 2 * n:=fun i hi=>mem _ (List.mem_of_getElem? (Mir.at0_get hi))
   have a0:atI (Mir.nV (Mir.frd ms x y)) 0 = some (.int ((Mir.frd ms x y).getD 0 0:Nat)):=atI_nat (j:=0) (Mir.nV_get (Mir.at0_get h1))
   have a1:atI (Mir.nV (Mir.frd ms x y)) (-1) = some (.int ((Mir.frd ms x y).getD ((Mir.frd ms x y).length - 1) 0:Nat)):=Mir.atI_nlast (by rw [List.getLast?_eq_getElem?];exact Mir.at0_get (by omega))
   refine ⟨_,rfl,_,rfl,lf,_,_,_,rfl,rfl,SqL.of h2,a0,_,rfl,_,rfl,lf,_,_,_,rfl,rfl,SqL.of h2,a1,l,ms,_,_,rfl,hl2,by have:=hg 0 h1;rw [W.len];exact this,by have:=hg ((Mir.frd ms x y).length - 1) (by omega);rw [W.len];exact this,fun H3 h3 o3=>?_⟩
   refine fin H3 _ (fun b o e=>?_) h3 (by rw [Mir.clasp_len,W.len]) hcm
   rw [o3 b (ne_of_none e hl)]
   exact s12 b o e
  ·have h1:¬ 0 < (Mir.frd ms x y).length:=fun z=>h1 (decide_eq_true (by omega))
   simp only [h1,if_false] at hcm
   exact fin H2 ms s12 hl2 W.len hcm
end
section
seal L2.PSs L2.PS L2.PE L2.PT
variable {P:Program} {w:World} {K:PySem.W.Frag} {mg:Str→Option Value} {base:Heap}
theorem ok_nearer_deeds {f f1 f2 f3 f4 f5 f6 f7 f8 C:Addr} {fd fd1 fd2 fd3 fd4 fd5 fd6 fd7 fd8:FuncData} (B:Bl mg) (F:Fn K mg "nearer_deeds" s_nearer_deeds ["one","other"] f fd) (F_threads:Fn K mg "threads" s_threads ["one","other"] f1 fd1) (G_threads:FnOk P w K mg base (CXo P w) 4 f1 fd1 ["one","other"] (Mir.spThreadsS K C)) (F_ends_in:Fn K mg "ends_in" s_ends_in ["laid","kind"] f2 fd2) (F_crossing_pairs:Fn K mg "crossing_pairs" s_crossing_pairs ["bare","tied"] f3 fd3) (F_splitting_pairs:Fn K mg "splitting_pairs" s_splitting_pairs ["ends"] f4 fd4) (F_ordered_pair:Fn K mg "ordered_pair" s_ordered_pair ["end","mate"] f5 fd5) (F_fits_work:Fn K mg "fits_work" s_fits_work ["work","deed"] f6 fd6) (F_least_pair:Fn K mg "least_pair" s_least_pair ["work","deed"] f7 fd7) (F_freed_ends:Fn K mg "freed_ends" s_freed_ends ["work","deed"] f8 fd8) :
  FnOk P w K mg base (CXo P w) 5 f fd ["one","other"] (Mir.spNearerS K C):=by
 have G_ends_in:FnOk P w K mg base CX0 1 f2 fd2 ["laid","kind"] Mir.spEndsIn:=ok_ends_in B F_ends_in
 have G_crossing_pairs:FnOk P w K mg base CX0 2 f3 fd3 ["bare","tied"] Mir.spCross:=ok_crossing_pairs B F_crossing_pairs F_ordered_pair
 have G_splitting_pairs:FnOk P w K mg base CX0 2 f4 fd4 ["ends"] Mir.spSplit:=ok_splitting_pairs B F_splitting_pairs F_ordered_pair
 have G_fits_work:FnOk P w K mg base CX0 1 f6 fd6 ["work","deed"] (Mir.spFits K):=ok_fits_work B F_fits_work
 have G_least_pair:FnOk P w K mg base CX0 2 f7 fd7 ["work","deed"] (Mir.spLeastPair K):=ok_least_pair B F_least_pair F_freed_ends
 refine F.fn.okX2 sc_nearer_deeds (fun vs H Q E h=>?_) (fun cdv A outer s H vs Q E hr h own=>?_)
 ·obtain ⟨a,b,n,m,ms,os,rfl,_⟩:=h
  rfl
 ·obtain ⟨a,b,n,m,ms,os,rfl,hn31,hS,W,hO,hm,kg,kb⟩:=h
  have op:=own_passes (E:=E) own
  have hu:=hu_of hr
  refine ⟨_,(pss_cons (ps_set (i:=2) sc_nearer_deeds.nd rfl (Or.inl rfl) (pe_fnX G_threads F_threads (hr.mono (by decide)) (pa_cons (pv 0) (pa_cons (pv 1) pa_nil))))
   (pss_cons (ps_set (i:=3) sc_nearer_deeds.nd rfl (Or.inl rfl) (pe_fn G_ends_in F_ends_in (hr.mono (by decide)) (pa_cons (pv 2) (pa_cons pe_str pa_nil))))
   (pss_cons (ps_set (i:=4) sc_nearer_deeds.nd rfl (Or.inl rfl) (pe_fn G_ends_in F_ends_in (hr.mono (by decide)) (pa_cons (pv 2) (pa_cons pe_str pa_nil))))
   (pss_cons (ps_set (i:=5) sc_nearer_deeds.nd rfl (Or.inl rfl) (pe_fn G_crossing_pairs F_crossing_pairs (hr.mono (by decide)) (pa_cons (pv 3) (pa_cons (pv 4) pa_nil))))
   (pss_cons (ps_for op rfl (pi_list (pv 2)) (pg_tup rfl (pgs_cons (pg_name (i:=6) sc_nearer_deeds.nd rfl (Or.inl rfl)) (pgs_cons (pg_name (i:=7) sc_nearer_deeds.nd rfl (Or.inl rfl)) pgs_nil))) (pss_one (ps_expr (pe_bm PySem.F.plainAttrs_list PySem.F.slot_list_extend PySem.F.type_list_extend mt_extend (pv 5) (pa_cons (pe_fn G_splitting_pairs F_splitting_pairs (hr.mono (by decide)) (pa_cons (pv 7) pa_nil)) pa_nil)))))
   (pss_cons (ps_expr (pe_bm PySem.F.plainAttrs_list PySem.F.slot_list_extend PySem.F.type_list_extend mt_extend (pv 5) (pa_cons (pe_comp (NC:=["end"]) rfl (compOk0 rfl (by decide +kernel) (by decide +kernel)) (pi_list (pv 4)) (fun _ _ _ _=>(pg_name (i:=0) (show (["end"]:List Str).Nodup by decide +kernel) rfl (Or.inl rfl))) (fun _ _ _ _=>pts_nil) (fun _ _ _ _=>(pe_tup (pa_cons (pv 0) (pa_cons (pv 0) pa_nil))))) pa_nil)))
   (pss_one (ps_ret (pe_callB (call_sortedP64 false) rfl B.sorted bb_sorted (pa_cons (pe_comp (NC:=["pair","one"]) rfl (compOk2 (c:=s.heap.objs.size + 1) (j:=0) rfl (by decide +kernel) (by decide +kernel) rfl rfl rfl rfl rfl) (pi_list (pv 5)) (fun _ _ _ _=>(pg_name (i:=0) (show (["pair","one"]:List Str).Nodup by decide +kernel) rfl (Or.inl rfl))) (fun _ _ _ _=>(pts_one (PW.pt (pw_and (pt_val (pe_fn G_fits_work F_fits_work (hr.mono (by decide)) (pa_cons (pv 1) (pa_cons (pv 0) pa_nil)))) (pw_and1 (pt_cmpR (op_eq_tupDK (K:=K) rfl (Nat.lt_of_succ_lt hu)) (pe_fn G_least_pair F_least_pair (hr.mono (by decide)) (pa_cons (pv 1) (pa_cons (pv 0) pa_nil))) (pv 0) (nomark _))))))) (fun _ _ _ _=>(pv 0))) pa_nil)))))))))),?_⟩
  refine ⟨_,rfl,_,rfl,a,b,n,m,ms,os,rfl,hn31,hS,W,hO,hm,fun hnm=>?_,fun hne=>kb hne⟩
  obtain ⟨hn5,WO,kg⟩:=kg hnm
  refine ⟨WO,fun l H1 ths s1 hI hT hl=>?_⟩
  have AT:Th.AllT (2 * n) (Mir.at0 ms) (Mir.at0 os) ths:=⟨Mir.two_of W WO,hI.1,hI.2⟩
  have fl:=(hI.flat W WO).length_eq
  rw [List.length_range] at fl
  have el:∀ kk,(Th.endsIn ths kk).length≤80:=fun kk=>by
   have z:=Th.sub_len (AT.ends_nd kk) (m:=List.range (2 * n)) fun x hx=>by
    obtain ⟨th,t1,t2,t3⟩:=Th.mem_ends.mp hx
    exact List.mem_range.mpr (AT.lt t1 t3)
   rw [List.length_range] at z
   omega
  have pl:=Mir.pairs_len AT hn5
  refine ⟨_,rfl,l,.bare,ths,rfl,hT,by omega,fun D1 H2 hD1 s2 h2=>?_⟩
  refine ⟨_,rfl,l,.tied,ths,rfl,hT.same s2,by omega,fun D2 H3 hD2 s3 h3=>?_⟩
  have h2:=s3 _ _ h2
  have s23:=s2.trans s3
  have s13:=s1.trans s23
  refine ⟨_,rfl,_,rfl,D1,D2,_,_,rfl,h2,h3,el _,el _,fun PP H4 hPP s4 h4=>?_⟩
  obtain ⟨ts,t1,t2,t3⟩:=(hT.same s23).at
  have pre:∀ i,(Th.crossL (Th.endsIn ths .bare) (Th.endsIn ths .tied) ++ (ths.take i).flatMap fun th=>Th.splitL th.2).length≤100:=fun i=>by
   have e:ths.flatMap (fun th=>Th.splitL th.2) = (ths.take i).flatMap (fun th=>Th.splitL th.2) ++ (ths.drop i).flatMap (fun th=>Th.splitL th.2):=by rw [← List.flatMap_append,List.take_append_drop]
   have e2:=congrArg List.length e
   unfold Th.pairsL at pl
   rw [List.length_append,List.length_append] at pl
   rw [List.length_append] at e2 ⊢
   omega
  refine ⟨_,rfl,l,rfl,⟨_,SqL.of (s4 _ _ t1)⟩,for_list (K:=K) (a:=l) (xs:=ts.map V.ref) (fun i σ H5=>∃ v6 v7:Option V,σ = [some (.ref a),some (.ref b),some (.ref l),some (.ref D1),some (.ref D2),some (.ref PP),v6,v7]∧Same H3 H5∧Mir.TsT Mir.pf H5 PP (Th.crossL (Th.endsIn ths .bare) (Th.endsIn ths .tied) ++ (ths.take i).flatMap fun th=>Th.splitL th.2))
   ⟨none,none,rfl,s4,by rw [List.take_zero,List.flatMap_nil,List.append_nil];exact h4⟩ (fun i σ H5 _ ⟨_,_,_,s5,_⟩=>SqL.of (s5 _ _ t1)) ?_ ?_⟩
  ·rintro i y σ H5 hy ⟨v6,v7,rfl,s5,h5⟩
   have hi:i < ts.length:=by have z:=(List.getElem?_eq_some_iff.mp hy).1;rw [List.length_map] at z;exact z
   obtain ⟨th,hth⟩:∃ th,ths[i]? = some th:=⟨_,List.getElem?_eq_getElem (by omega)⟩
   obtain ⟨tt,te,e1,e2,e3⟩:=t3 i th hth
   rw [List.getElem?_map,e1] at hy
   obtain rfl:=Option.some.inj hy
   obtain ⟨vs0,w0,_⟩:=h5.len
   have G:=hI.good W WO (List.mem_of_getElem? hth)
   have thl:th.2.length≤80:=by
    have z:=Th.sub_len G.nd (m:=List.range (2 * n)) fun x hx=>List.mem_range.mpr (G.lt x hx)
    rw [List.length_range] at z
    omega
   refine ⟨_,_,rfl,SqT.of (s5 _ _ e2),rfl,_,_,rfl,_,_,rfl,rfl,?_⟩
   refine ⟨_,rfl,.inl ⟨rfl,_,SqL.of w0⟩,_,rfl,te,th.2,rfl,s5 _ _ e3,thl,fun D3 H6 hD3 s6 h6=>?_⟩
   obtain ⟨as,bs,g1,g2,g3,g4,g5⟩:=(h5.same s6).ext h6
   have es:Th.crossL (Th.endsIn ths .bare) (Th.endsIn ths .tied) ++ (ths.take (i + 1)).flatMap (fun th=>Th.splitL th.2) = (Th.crossL (Th.endsIn ths .bare) (Th.endsIn ths .tied) ++ (ths.take i).flatMap fun th=>Th.splitL th.2) ++ Th.splitL th.2:=by
    rw [Mir.take_snoc hth,List.flatMap_append,List.append_assoc,List.flatMap_cons,List.flatMap_nil,List.append_nil]
   refine ⟨PP,D3,as,bs,rfl,rfl,g1,g2,?_,some (.str (Mir.ks th.1)),some (.ref te),rfl,(s5.trans s6).upd hPP,?_⟩
   ·have z:=pre (i + 1)
    rw [es,List.length_append] at z
    rw [g3,g4]
    have:1000≤sizeLine:=by decide
    omega
   ·rw [es]
    exact g5
  rintro σ H5 ⟨v6,v7,rfl,s5,h5⟩
  rw [List.length_map,t2,List.take_length] at h5
  obtain ⟨vs0,w0,_⟩:=h5.len
  have h35:=s5 _ _ h3
  refine ⟨_,rfl,.inl ⟨rfl,_,SqL.of w0⟩,_,rfl,D2,rfl,⟨_,SqL.of h35⟩,fun D4 hD4=>comp_list (K:=K) (a:=D2) (xs:=Mir.nV (Th.endsIn ths .tied)) (fun j σ H6=>∃ v:Option V,σ = [v]∧Same H5 H6∧Mir.TsT Mir.pf H6 D4 (((Th.endsIn ths .tied).take j).map fun e=>(e,e))) ⟨none,rfl,same_upd hD4,Mir.TsT.nil upd_same⟩ (fun j σ H6 _ ⟨_,_,s6,_⟩=>SqL.of (s6 _ _ h35)) ?_ ?_⟩
  ·rintro j y σ H6 hy ⟨v,rfl,s6,h6⟩
   obtain ⟨z,hz,rfl⟩:=Mir.nV_get' hy
   refine ⟨_,rfl,_,rfl,(by show 2≤sizeLine;decide),fun tp htp=>?_⟩
   have s7:Same H6 (upd H6 tp (.tup [.int (z:Nat),.int (z:Nat)])):=same_upd htp
   obtain ⟨ws,y1,y2,y3⟩:=(h6.same s7).snoc (t:=tp) (x:=(z,z)) upd_same
   have ez:=el .tied
   refine ⟨ws,y1,small1000 (by rw [y2,List.length_map,List.length_take];omega),some (.int (z:Nat)),rfl,(s6.trans s7).upd hD4,?_⟩
   rw [Mir.take_snoc hz,List.map_append]
   exact y3
  rintro σ H6 ⟨v,rfl,s6,h6⟩
  rw [Mir.nV_len,List.take_length] at h6
  obtain ⟨as,bs,g1,g2,g3,g4,g5⟩:=(h5.same s6).ext h6
  have s36:=s5.trans s6
  refine ⟨PP,D4,as,bs,rfl,rfl,g1,g2,?_,?_⟩
  ·unfold Th.pairsL at pl
   rw [List.length_append] at pl
   rw [g3,g4]
   have:1000≤sizeLine:=by decide
   omega
  have s7:Same H3 (upd H6 PP (.lst (as ++ bs))):=s36.upd hPP
  have h7:Mir.TsT Mir.pf (upd H6 PP (.lst (as ++ bs))) PP (Th.pairsL ths):=g5
  generalize upd H6 PP (.lst (as ++ bs)) = H7 at s7 h7
  have s17:=s13.trans s7
  obtain ⟨ps,p1,p2,p3⟩:=h7
  have hS7:=s17.tup hS
  refine ⟨_,rfl,PP,rfl,⟨_,SqL.of p1⟩,fun D5 hD5=>comp_list (K:=K) (a:=PP) (xs:=ps.map V.ref) (fun j σ H8=>∃ v:Option V,σ = [v,some (.ref a)]∧Same H7 H8∧Mir.TsT Mir.pf H8 D5 (((Th.pairsL ths).take j).filter (Mir.nearOk n ms))) ⟨none,rfl,same_upd hD5,Mir.TsT.nil upd_same⟩ (fun j σ H8 _ ⟨_,_,s8,_⟩=>SqL.of (s8 _ _ p1)) ?_ ?_⟩
  ·rintro j y σ H8 hy ⟨v,rfl,s8,h8⟩
   have hj:j < ps.length:=by have z:=(List.getElem?_eq_some_iff.mp hy).1;rw [List.length_map] at z;exact z
   obtain ⟨c,hc⟩:∃ c,(Th.pairsL ths)[j]? = some c:=⟨_,List.getElem?_eq_getElem (by omega)⟩
   have e2:=p3 j _ c (List.getElem?_eq_getElem hj) hc
   rw [List.getElem?_map,List.getElem?_eq_getElem hj] at hy
   obtain rfl:=Option.some.inj hy
   obtain ⟨b1,b2⟩:=AT.bound (List.mem_of_getElem? hc)
   have e8:=s8 _ _ e2
   have hS8:=s8.tup hS7
   have no:Mir.nearOk n ms c = false→((Th.pairsL ths).take (j + 1)).filter (Mir.nearOk n ms) = ((Th.pairsL ths).take j).filter (Mir.nearOk n ms):=fun h=>by
    rw [Mir.take_snoc hc,List.filter_append,List.filter_cons_of_neg (by rw [h];decide),List.filter_nil,List.append_nil]
   refine ⟨_,rfl,_,rfl,a,_,n,ms,(c.1:Nat),(c.2:Nat),rfl,hS8,W,SqT.of e8,?_⟩
   refine ⟨_,rfl,?_⟩
   by_cases hf:Mir.Fits n ms (c.1:Nat) (c.2:Nat)
   ·refine iteY (decide_eq_true hf) ?_
    refine ⟨_,rfl,_,rfl,a,_,n,c.1,c.2,ms,rfl,hS8,W,SqT.of e8,by omega,by omega,fun lq H9 hlq s9 hl9=>?_⟩
    refine ⟨_,rfl,lq,_,[((Mir.leastP ms c.1 c.2).1:Int),((Mir.leastP ms c.1 c.2).2:Int)],[(c.1:Int),(c.2:Int)],rfl,rfl,SqT.of hl9,SqT.of (s9 _ _ e8),_,rfl,?_⟩
    by_cases hq:Mir.leastP ms c.1 c.2 = c
    ·have ok:Mir.nearOk n ms c = true:=by unfold Mir.nearOk;rw [decide_eq_true hf,decide_eq_true hq];rfl
     refine iteY (by show decide _ = true;exact decide_eq_true (by rw [hq])) ?_
     obtain ⟨ws,y1,y2,y3⟩:=(h8.same s9).snoc (t:=ps[j]) (x:=c) (s9 _ _ e8)
     have hfl:=List.length_filter_le (Mir.nearOk n ms) ((Th.pairsL ths).take j)
     rw [List.length_take] at hfl
     refine ⟨_,rfl,ws,y1,small1000 (by rw [y2];omega),some (.ref ps[j]),rfl,(s8.trans s9).upd hD5,?_⟩
     rw [Mir.take_snoc hc,List.filter_append,List.filter_cons_of_pos ok,List.filter_nil]
     exact y3
    ·have ok:Mir.nearOk n ms c = false:=by unfold Mir.nearOk;rw [decide_eq_false hq,Bool.and_false]
     refine iteN (by show decide _ = false;exact decide_eq_false (fun z=>hq (by
      injection z with z1 z2
      injection z2 with z2 _
      exact Prod.ext (by omega) (by omega)))) ?_
     exact ⟨some (.ref ps[j]),rfl,s8.trans s9,by rw [no ok];exact h8.same s9⟩
   ·have ok:Mir.nearOk n ms c = false:=by unfold Mir.nearOk;rw [decide_eq_false hf,Bool.false_and]
    refine iteN (decide_eq_false hf) ?_
    exact iteN rfl ⟨some (.ref ps[j]),rfl,s8,by rw [no ok];exact h8⟩
  ·rintro σ H8 ⟨v,rfl,s8,h8⟩
   rw [List.length_map,p2,List.take_length] at h8
   obtain ⟨us,u1,u2,u3⟩:=h8
   have hfl:=Mir.near_55 hn5 AT
   refine ⟨D5,us,Mir.gPr H8,rfl,SqL.of u1,by omega,fun t ht=>?_,fun ws l' hp hs hl'=>?_⟩
   ·obtain ⟨i,hi,rfl⟩:=List.getElem_of_mem ht
    have hi2:i < ((Th.pairsL ths).filter (Mir.nearOk n ms)).length:=by omega
    have e:=u3 i _ _ (List.getElem?_eq_getElem hi) (List.getElem?_eq_getElem hi2)
    have bd:=AT.bound (List.mem_filter.mp (List.getElem_mem hi2)).1
    exact ⟨_,e,by rw [Mir.gPr_pf e];exact Mir.prv_pf (by omega)⟩
   ·obtain ⟨ys,y1,y2,y3⟩:=Mir.sort_pf u2 u3 hp hs hl'
    have s18:=s17.trans s8
    exact kg l' _ ths ys (s18.free hl') (s18.upd (s18.free hl')) hI y1 y2 y3
end
section
seal L2.PSs L2.PS L2.PE L2.PT L2.PA
variable {P:Program} {w:World} {K:PySem.W.Frag} {mg:Str→Option Value} {base:Heap}
theorem ok_fewest_deeds {f f1 f2 C CB:Addr} {fd fd1 fd2:FuncData} (B:Bl mg) (F:Fn K mg "fewest_deeds" s_fewest_deeds ["one","other"] f fd) (F_nearer_deeds:Fn K mg "nearer_deeds" s_nearer_deeds ["one","other"] f1 fd1) (G_nearer_deeds:FnOk P w K mg base (CXo P w) 5 f1 fd1 ["one","other"] (Mir.spNearerS K C))
  (F_reclasped:Fn K mg "reclasped" s_reclasped ["work","deed"] f2 fd2) (G_reclasped:FnOk P w K mg base (CXo P w) 3 f2 fd2 ["work","deed"] (Mir.spRecl K CB)):FnOk P w K mg base (CXo P w) 6 f fd ["one","other"] (Mir.spFewest K C):=by
 refine F.fn.okX2 sc_fewest_deeds (fun vs H Q E h=>?_) (fun cdv A outer s H vs Q E hr h own=>?_)
 ·obtain ⟨a,b,n,m,ms,os,rfl,_⟩:=h
  rfl
 ·obtain ⟨a,b,n,m,ms,os,rfl,hn31,hS,W,hO,hm,kg,kb⟩:=h
  have op:=own_passes (E:=E) own
  refine ⟨_,(pss_cons (ps_set (i:=2) sc_fewest_deeds.nd rfl (Or.inl rfl) (pe_lst pa_nil))
   (pss_cons (ps_set (i:=3) sc_fewest_deeds.nd rfl (Or.inl rfl) (pv 0))
   (pss_cons (ps_set (i:=4) sc_fewest_deeds.nd rfl (Or.inl rfl) (pe_fnX G_nearer_deeds F_nearer_deeds (hr.mono (by decide)) (pa_cons (pv 3) (pa_cons (pv 1) pa_nil))))
   (pss_cons (ps_while op (pt_cmpR op_gt (pe_callB call_len_seq rfl B.len bb_len (pa_cons (pv 4) pa_nil)) pe_int (nomark _)) (pss_cons (ps_expr (pe_bm PySem.F.plainAttrs_list PySem.F.slot_list_append PySem.F.type_list_append mt_append (pv 2) (pa_cons (pe_ix ix_list (pv 4) pe_int (fun _ _=>rfl)) pa_nil)))
   (pss_cons (ps_set (i:=3) sc_fewest_deeds.nd rfl (Or.inl rfl) (pe_fnX G_reclasped F_reclasped (hr.mono (by decide)) (pa_cons (pv 3) (pa_cons (pe_ix ix_list (pv 4) pe_int (fun _ _=>rfl)) pa_nil))))
   (pss_one (ps_set (i:=4) sc_fewest_deeds.nd rfl (Or.inl rfl) (pe_fnX G_nearer_deeds F_nearer_deeds (hr.mono (by decide)) (pa_cons (pv 3) (pa_cons (pv 1) pa_nil))))))))
   (pss_one (ps_ret (pv 2))))))),?_⟩
  refine ⟨by show 0≤sizeLine;decide,fun D hD=>?_⟩
  have s0:Same H (upd H D (.lst [])):=same_upd hD
  refine ⟨_,rfl,?_⟩
  refine ⟨_,rfl,_,rfl,a,b,n,m,ms,os,rfl,hn31,s0.tup hS,W,s0.tup hO,hm,fun hnm=>?_,fun hne=>kb hne _ s0⟩
  obtain ⟨hn5,WO,kg⟩:=kg hnm
  refine ⟨hn5,WO,fun lr H1 ths ys flr s1 hI hp hs tN=>?_⟩
  rw [Mir.near_due W WO hn5 hI hp hs] at tN
  have nlr:lr≠D:=fun z=>by rw [z,upd_same] at flr;cases flr
  have tD:=(Mir.TsT.nil (f:=Mir.pf) (H:=upd H D (.lst [])) (l:=D) upd_same).same s1
  have s01:=s0.trans s1
  dsimp only [gName]
  unfold tSeq
  dsimp only
  refine while_by (fun σ H2=>∃ (nw lr:Addr) (cur:List Nat) (done:List (Nat×Nat)),σ = [some (.ref a),some (.ref b),some (.ref D),some (.ref nw),some (.ref lr)]∧Same H H2∧(nw = a∧cur = ms∨H2 nw = some (.tup (Mir.nV cur)))∧Mir.WorkL n cur∧Mir.TsT Mir.pf H2 D done∧Mir.TsT Mir.pf H2 lr (Mir.duL n os cur)∧lr≠D∧Mir.fewL n ms os = done ++ Mir.fewL n cur os∧done.length + Mir.apartN n cur os = Mir.apartN n ms os)
   (fun σ H2=>match H2 D with | some (.lst ys)=>6 - ys.length | _=>0)
   ⟨a,lr,ms,[],rfl,s01,.inl ⟨rfl,rfl⟩,W,tD,tN,nlr,rfl,by rw [List.length_nil,Nat.zero_add]⟩ ?_ ?_
  ·clear tD tN nlr flr hp hs hI s1 s01
   rintro σ H2 ⟨nw,lr,cur,done,rfl,s2,hnw,Wc,tD,tN,nlr,hfew,hap⟩
   have ap5:Mir.apartN n ms os≤5:=by unfold Mir.apartN;omega
   obtain ⟨nv,g1,gl⟩:=tN.len
   obtain ⟨dv,d1,dl⟩:=tD.len
   refine ⟨_,rfl,lr,_,rfl,.inl (SqL.of g1),_,_,rfl,rfl,_,rfl,?_⟩
   refine ite2 (fun h1=>?_) (fun h1=>?_)
   ·have h1:=of_decide_eq_true h1
    obtain ⟨c,hc⟩:∃ c,(Mir.duL n os cur).head? = some c:=by
     cases e:Mir.duL n os cur with
     | nil=>rw [e,List.length_nil] at gl;omega
     | cons c r=>exact ⟨c,rfl⟩
    obtain ⟨b1,b2,b3,b4⟩:=Mir.mem_duL (Mir.head_mem hc)
    have hc0:(Mir.duL n os cur)[0]? = some c:=by rw [← List.head?_eq_getElem?];exact hc
    obtain ⟨vs1,t,q1,q2,q3⟩:=tN.get hc0
    refine ⟨_,rfl,.inl ⟨rfl,_,SqL.of d1⟩,_,rfl,lr,_,_,_,rfl,rfl,SqL.of q1,atI_nat (j:=0) q2,D,_,_,rfl,rfl,d1,small1000 (by rw [dl];omega),?_⟩
    obtain ⟨ws,y1,y2,y3⟩:=tD.snoc (t:=t) (x:=c) q3
    rw [d1] at y1
    obtain rfl:dv = ws:=by injection y1 with y1;injection y1
    have s3:Same H (upd H2 D (.lst (dv ++ [.ref t]))):=s2.upd hD
    have tN3:=tN.other (o:=.lst (dv ++ [.ref t])) d1 (Ne.symm nlr)
    have q33:upd H2 D (.lst (dv ++ [.ref t])) t = some (.tup (Mir.pf c)):=by rw [upd_ne (fun z=>by rw [z,d1] at q3;cases q3)];exact q3
    have hnw3:SqT K (upd H2 D (.lst (dv ++ [.ref t]))) nw (Mir.nV cur):=by
     rcases hnw with ⟨e1,e2⟩ | e
     ·rw [e1,e2]
      exact s3.tup hS
     ·exact SqT.of (by rw [upd_ne (fun z=>by rw [z,d1] at e;cases e)];exact e)
    generalize upd H2 D (.lst (dv ++ [.ref t])) = H3 at s3 tN3 q33 hnw3 y3
    obtain ⟨vs2,t2,r1,r2,r3⟩:=tN3.get hc0
    have fit:Mir.Fits n cur (c.1:Nat) (c.2:Nat):=Mir.fits_nat b1 b2 b3
    have sm:∀ k:Nat,k < 2 * n→Mir.Sm (k:Int):=fun k hk=>Mir.Sm.of (by omega) (by omega)
    refine ⟨_,rfl,_,rfl,lr,_,_,_,rfl,rfl,SqL.of r1,atI_nat (j:=0) r2,nw,t2,n,cur,(c.1:Nat),(c.2:Nat),rfl,hnw3,Wc,r3,sm _ (by omega),sm _ b2,fun _ r H4 _ s4 h4=>?_,fun z=>absurd fit z⟩
    rw [Int.toNat_natCast,Int.toNat_natCast] at h4
    have WB:=Mir.beh_work Wc (p:=c.1) (q:=c.2) (by omega) b2 b3
    have s34:=s3.trans s4
    refine ⟨_,rfl,_,rfl,r,b,n,m,_,os,rfl,hn31,SqT.of h4,WB,s34.tup hO,hm,fun _=>⟨hn5,WO,fun lr2 H5 ths2 ys2 flr2 s5 hI2 hp2 hs2 tN2=>?_⟩,fun z=>absurd hnm z⟩
    rw [Mir.near_due WB WO hn5 hI2 hp2 hs2] at tN2
    have tD4:=y3.same s4
    obtain ⟨d4v,d4,d4l⟩:=tD4.len
    have n5:lr2≠D:=fun z=>by rw [z,d4] at flr2;cases flr2
    have tD5:=tD4.same s5
    obtain ⟨d5v,d5,d5l⟩:=tD5.len
    refine ⟨⟨r,lr2,_,done ++ [c],rfl,s34.trans s5,.inr (s5 _ _ h4),WB,tD5,tN2,n5,?_,?_⟩,?_⟩
    ·rw [hfew,Mir.fewL_cons hc,List.append_assoc]
     rfl
    ·rw [List.length_append]
     show done.length + 1 + _ = _
     omega
    ·show (match H5 D with | some (.lst ys)=>6 - ys.length | _=>0) < (match H2 D with | some (.lst ys)=>6 - ys.length | _=>0)
     rw [d5,d1]
     show 6 - d5v.length < 6 - dv.length
     rw [d5l,dl,List.length_append]
     show 6 - (done.length + 1) < 6 - done.length
     omega
   ·have e0:Mir.duL n os cur = []:=List.length_eq_zero_iff.mp (by
     have z:¬ (0:Int) < ((nv.length:Nat):Int):=fun z=>h1 (decide_eq_true z)
     omega)
    rw [Mir.fewL_nil e0,List.append_nil] at hfew
    refine ⟨_,rfl,kg D H2 hD s2 ?_⟩
    rw [hfew]
    exact tD
  ·rintro σ H2 R R' hR ⟨v,e1,p,ys,e2,e3,i,j,e4,e5,bb,e6,q⟩
   exact ⟨v,e1,p,ys,e2,e3,i,j,e4,e5,bb,e6,hR _ _ q⟩
end
section
seal L2.PSs L2.PS L2.PE L2.PT L2.PA
variable {P:Program} {w:World} {K:PySem.W.Frag} {mg:Str→Option Value} {base:Heap}
theorem ok_works_alongX {f fR C:Addr} {fd fdR:FuncData} (F:Fn K mg "works_along" s_works_along ["work","deeds"] f fd) (F_reclasped:Fn K mg "reclasped" s_reclasped ["work","deed"] fR fdR) (G_reclasped:FnOk P w K mg base (CXo P w) 3 fR fdR ["work","deed"] (Mir.spRecl K C)):FnOk P w K mg base (CXo P w) 4 f fd ["work","deeds"] (Mir.spAlongX K C):=by
 refine F.fn.okX2 sc_works_along (fun vs H Q E h=>?_) (fun cdv A outer s H vs Q E hr h own=>?_)
 ·obtain ⟨a,t,n,ms,ds,rfl,_⟩:=h
  rfl
 ·obtain ⟨a,t,n,ms,ds,rfl,hS,W,ht,⟨hlen,hsm⟩,kg,kb⟩:=h
  have op:=own_passes (E:=E) own
  obtain ⟨ts,ht1,ht2,ht3⟩:=ht
  refine ⟨_,(pss_cons (ps_set (i:=2) sc_works_along.nd rfl (Or.inl rfl) (pe_lst (pa_cons (pv 0) pa_nil)))
   (pss_cons (ps_for op rfl (pi_tup (pv 1)) (pg_name (i:=3) sc_works_along.nd rfl (Or.inl rfl)) (pss_one (ps_expr (pe_bm PySem.F.plainAttrs_list PySem.F.slot_list_append PySem.F.type_list_append mt_append (pv 2) (pa_cons (pe_fnX G_reclasped F_reclasped (hr.mono (by decide)) (pa_cons (pe_ix ix_list (pv 2) (pe_un un_neg pe_int) (fun _ _=>rfl)) (pa_cons (pv 3) pa_nil))) pa_nil)))))
   (pss_one (ps_ret (pv 2))))),?_⟩
  refine ⟨_,rfl,by show 1≤sizeLine;decide,fun lp hlp=>?_⟩
  have s0:Same H (upd H lp (.lst [.ref a])):=same_upd hlp
  refine ⟨_,rfl,t,rfl,⟨_,SqT.of (s0 _ _ ht1)⟩,for_tup (K:=K) (a:=t) (xs:=ts.map V.ref) (fun i σ H2=>∃ (v:Option V) (xs:List V) (u:Addr) (cur:List Nat),σ = [some (.ref a),some (.ref t),some (.ref lp),v]∧Same H H2∧H2 lp = some (.lst (xs ++ [.ref u]))∧xs.length = i∧SqT K H2 u (Mir.nV cur)∧Mir.WorkL n cur∧∀ ws,Mir.RunZ n cur (ds.drop i) ws↔Mir.RunZ n ms ds ws)
   ⟨none,[],a,ms,rfl,s0,upd_same,rfl,s0.tup hS,W,fun _=>Iff.rfl⟩ (fun i σ H2 _ ⟨_,_,_,_,_,s2,_⟩=>SqT.of (s2 _ _ ht1)) ?_ ?_⟩
  ·rintro i x σ H2 hx ⟨v,xs,u,cur,rfl,s2,hl2,xl,hu2,Wc,L2'⟩
   have hi:i < ts.length:=by have z:=(List.getElem?_eq_some_iff.mp hx).1;rw [List.length_map] at z;exact z
   have hci:=List.getElem?_eq_getElem (l:=ds) (i:=i) (by omega)
   have hti:=List.getElem?_eq_getElem hi
   have hdr:ds.drop i = ds[i] :: ds.drop (i + 1):=List.drop_eq_getElem_cons (by omega)
   generalize ds[i] = c at hci hdr
   generalize ts[i] = t' at hti
   rw [List.getElem?_map,hti] at hx
   obtain rfl:=Option.some.inj hx
   have htt:=s2 _ _ (ht3 i t' c hti hci)
   rw [hdr] at L2'
   obtain ⟨sm1,sm2⟩:=hsm c (List.mem_of_getElem? hci)
   refine ⟨_,rfl,.inl ⟨rfl,_,SqL.of hl2⟩,_,rfl,_,rfl,lp,_,_,_,rfl,rfl,SqL.of hl2,atI_last _ _,_,rfl,u,t',n,cur,c.1,c.2,rfl,hu2,Wc,htt,sm1,sm2,fun fit r H3 hr3 s3 h3=>?_,fun nf=>kb (fun ⟨ws,h⟩=>nf ((L2' ws).mpr h).inv.1) H2 s2⟩
   have hl3:=s3 _ _ hl2
   refine ⟨lp,_,_,rfl,rfl,hl3,small1000 (by rw [List.length_append,xl];show i + 1≤1000;omega),?_⟩
   obtain ⟨p,q,ep,eq,b1,b2,b3⟩:=fit.nat
   have WB:Mir.WorkL n (Mir.beh cur c.1.toNat c.2.toNat):=Mir.beh_work Wc (by rw [ep,Int.toNat_natCast];omega) (by rw [eq,Int.toNat_natCast];omega) (by rw [ep,eq,Int.toNat_natCast,Int.toNat_natCast];exact b3)
   exact ⟨_,xs ++ [.ref u],r,_,rfl,(s2.trans s3).upd hlp,upd_same,by rw [List.length_append,xl];rfl,SqT.of (by rw [upd_ne (fun z=>by rw [z,hl3] at h3;cases h3)];exact h3),WB,fun ws=>⟨fun h=>(L2' ws).mp (.cons fit h),fun h=>((L2' ws).mpr h).inv.2⟩⟩
  ·rintro σ H2 ⟨v,xs,u,cur,rfl,s2,hl2,xl,hu2,Wc,L2'⟩
   rw [List.length_map,ht2,List.drop_length] at L2'
   exact ⟨_,rfl,kg cur ((L2' cur).mp .nil) lp u xs H2 s2 hl2 hu2⟩
end
section
variable {P:Program} {w:World} {K:PySem.W.Frag} {mg:Str→Option Value} {base:Heap}
theorem ok_leads_to_no {f f1 C:Addr} {fd fd1:FuncData} (MD:mg "BadDeed" = some (.ref C)) (pd:PySem.W.exmOne K (.ref C) (.ref C) = some true) (F:Fn K mg "leads_to" s_leads_to ["one","deeds","other"] f fd) (F_works_along:Fn K mg "works_along" s_works_along ["work","deeds"] f1 fd1) (G_works_along:FnOk P w K mg base (CXo P w) 4 f1 fd1 ["work","deeds"] (Mir.spAlongX K C)):FnOk P w K mg base CX0 5 f fd ["one","deeds","other"] (Mir.spLeadsNo K):=by
 refine F.fn.okO sc_leads_to (fun vs H Q E h=>?_) (fun cdv A outer s H vs Q E hr h own=>?_)
 ·obtain ⟨a,t,b,n,ms,os,ds,rfl,_⟩:=h
  rfl
 ·obtain ⟨a,t,b,n,ms,os,ds,rfl,hS,W,ht,hz,hO,hn,k⟩:=h
  have hu:=hu_of hr
  refine ⟨_,pss_one (ps_try0 own MD (psx_ret (pex_cmp (op_eq_tupD (Nat.lt_of_succ_lt hu)) (pex_ix ix_list (pex_fn G_works_along F_works_along (hr.mono (by decide)) (pa_cons (pv 0) (pa_cons (pv 1) pa_nil))) (pe_un un_neg pe_int) (fun _ _=>rfl)) (pv 2) (nomark _))) (fun a oe=>pss_one (ps_ret pe_bl))),?_⟩
  refine ⟨fun cls _ H'=>cls = .ref C∧Same H H',?_,?_⟩
  ·refine ⟨_,rfl,_,rfl,a,t,n,ms,ds,rfl,hS,W,ht,hz,fun ws hr l u xs H' s1 hl hu'=>?_,fun _ H' s'=>⟨rfl,s'⟩⟩
   refine ⟨_,rfl,l,_,_,_,rfl,rfl,SqL.of hl,atI_last _ _,_,rfl,u,b,ws.map (fun (z:Nat)=>(z:Int)),os.map (fun (z:Nat)=>(z:Int)),rfl,rfl,by rw [← Mir.nV_is];exact hu',by rw [← Mir.nV_is];exact s1.tup hO,?_⟩
   show Q (.bl (if false = true then _ else decide _)) H'
   rw [if_neg Bool.false_ne_true,decide_eq_false (fun z=>hn (by rw [← Mir.map_inj (fun x y h=>by omega) z];exact hr))]
   exact k H' s1
  ·rintro cls H' ⟨rfl,s1⟩
   exact ⟨pd,k H' s1⟩
end
section
seal L2.PSs L2.PS L2.PE L2.PT L2.PA
variable {P:Program} {w:World} {K:PySem.W.Frag} {mg:Str→Option Value} {base:Heap}
theorem ok_judged_paper_x {f f1 f2 f3 C CP:Addr} {fd fd1 fd2 fd3:FuncData} (B:Bl mg) (Z_NoPaper:ECls K mg "NoPaper" CP) (F:Fn K mg "judged_paper" s_judged_paper ["one","other","paper"] f fd) (F_threads:Fn K mg "threads" s_threads ["one","other"] f1 fd1) (G_threads:FnOk P w K mg base (CXo P w) 4 f1 fd1 ["one","other"] (Mir.spThreadsS K C)) (F_apart_by:Fn K mg "apart_by" s_apart_by ["one","other"] f2 fd2) (G_apart_by:FnOk P w K mg base (CXo P w) 6 f2 fd2 ["one","other"] (Mir.spApartS K C)) (F_leads_to:Fn K mg "leads_to" s_leads_to ["one","deeds","other"] f3 fd3) (G_leads_to:FnOk P w K mg base CX0 5 f3 fd3 ["one","deeds","other"] (Mir.spLeadsNo K)):FnOk P w K mg base (CXo P w) 7 f fd ["one","other","paper"] (Mir.spJudgedX K CP C):=by
 refine F.fn.okX2 sc_judged_paper (fun vs H Q E h=>?_) (fun cdv A outer s H vs Q E hr h own=>?_)
 ·obtain ⟨a,b,p,q,r,n,m,ms,os,L,ds,rfl,_⟩:=h
  rfl
 ·obtain ⟨a,b,p,q,r,n,m,ms,os,L,ds,rfl,hS,W,hn,hO,hm,hp,hq,hd,hz,kp,ku⟩:=h
  have hu:=hu_of hr
  refine ⟨_,(pss_cons (ps_set (i:=3) sc_judged_paper.nd rfl (Or.inl rfl) (pe_ix ix_tup (pv 2) pe_int (fun _ _=>rfl)))
   (pss_cons (ps_if (pt_cmpR (op_ne_thr (hr.lt 1 (by decide))) (pe_ix ix_tup (pv 2) pe_int (fun _ _=>rfl)) (pe_callTy call_tuple_any rfl B.tuple bb_tuple (pa_cons (pe_fnX G_threads F_threads (hr.mono (by decide)) (pa_cons (pv 0) (pa_cons (pv 1) pa_nil))) pa_nil)) (nomark _)) (pss_one (ps_raise rfl Z_NoPaper (pa_cons pe_str pa_nil))) pss_nil)
   (pss_cons (ps_if (pt_cmpR op_ne (pe_callB call_len_seq rfl B.len bb_len (pa_cons (pv 3) pa_nil)) (pe_fnX G_apart_by F_apart_by (hr.mono (by decide)) (pa_cons (pv 0) (pa_cons (pv 1) pa_nil))) (nomark _)) (pss_one (ps_raise rfl Z_NoPaper (pa_cons pe_str pa_nil))) pss_nil)
   (pss_cons (ps_if (pt_not (pt_val (pe_fn G_leads_to F_leads_to (hr.mono (by decide)) (pa_cons (pv 0) (pa_cons (pv 3) (pa_cons (pv 1) pa_nil)))))) (pss_one (ps_raise rfl Z_NoPaper (pa_cons pe_str pa_nil))) pss_nil)
   pss_never)))),?_⟩
  refine ⟨_,rfl,p,_,_,_,rfl,rfl,SqT.of hp,rfl,?_⟩
  refine ⟨_,rfl,p,_,_,_,rfl,rfl,SqT.of hp,rfl,?_⟩
  refine ⟨_,rfl,_,rfl,a,b,n,m,ms,os,rfl,by omega,hS,W,hO,hm,fun e=>?_,fun z=>ku z H (Same.refl _)⟩
  subst e
  obtain ⟨WO,np,k⟩:=kp rfl
  refine ⟨WO,fun l H1 ths s1 hI hT _=>?_⟩
  obtain ⟨lv,l1,l2⟩:=hT.len
  refine ⟨l,_,rfl,.inl l1,fun t H2 s2 ht=>?_⟩
  have hU:=(hT.tuple l1 s2 ht).thw
  have s12:=s1.trans s2
  refine ⟨q,t,L,_,rfl,rfl,hq.same s12,hU,_,rfl,?_⟩
  by_cases e:L = ths.map Mir.tz
  ·refine iteN (by rw [decide_eq_true e];rfl) ?_
   have hd2:=hd.same s12
   obtain ⟨dv,d1,d2⟩:=hd2.len
   refine ⟨_,rfl,r,_,rfl,.inr (SqT.of d1),_,rfl,_,rfl,a,b,n,n,ms,os,rfl,by omega,s12.tup hS,W,s12.tup hO,hm,fun _=>⟨WO,fun H3 s3=>?_⟩,fun z=>absurd rfl z⟩
   have s13:=s12.trans s3
   refine ⟨rfl,_,rfl,?_⟩
   by_cases e2:ds.length = Mir.apartN n ms os
   ·refine iteN (dNeN (by omega)) ?_
    refine ⟨_,rfl,_,rfl,_,rfl,a,r,b,n,ms,os,ds,rfl,s13.tup hS,W,hd2.same s3,hz,s13.tup hO,np ths hI e e2,fun H4 s4=>?_⟩
    refine ⟨_,rfl,iteT ?_⟩
    exact ⟨by show 1≤sizeLine;decide,k H4 (s13.trans s4)⟩
   ·refine iteY (by simp;omega) ?_
    exact ⟨by show 1≤sizeLine;decide,k H3 s13⟩
  ·refine iteY (by rw [decide_eq_false e];rfl) ?_
   exact ⟨by show 1≤sizeLine;decide,k H2 s12⟩
end
section
seal L2.PSs L2.PS L2.PE L2.PT L2.PA
variable {P:Program} {w:World} {K:PySem.W.Frag} {mg:Str→Option Value} {base:Heap}
theorem ok_paper_for {f f1 f2 C C2:Addr} {fd fd1 fd2:FuncData} (B:Bl mg) (F:Fn K mg "paper_for" s_paper_for ["one","other"] f fd) (F_threads:Fn K mg "threads" s_threads ["one","other"] f1 fd1) (G_threads:FnOk P w K mg base (CXo P w) 4 f1 fd1 ["one","other"] (Mir.spThreadsS K C)) (F_fewest_deeds:Fn K mg "fewest_deeds" s_fewest_deeds ["one","other"] f2 fd2) (G_fewest_deeds:FnOk P w K mg base (CXo P w) 6 f2 fd2 ["one","other"] (Mir.spFewest K C2)):FnOk P w K mg base CX0 7 f fd ["one","other"] (Mir.spPaperFor K):=by
 refine F.fn.ok sc_paper_for (fun vs H Q E h=>?_) (fun cdv A outer s H vs Q E hr h=>?_)
 ·obtain ⟨a,b,n,ms,os,rfl,_⟩:=h
  rfl
 ·obtain ⟨a,b,n,ms,os,rfl,hS,W,hO,WO,hn,k⟩:=h
  refine ⟨_,(pss_one (ps_ret (pe_tup (pa_cons (pe_callTy call_tuple_any rfl B.tuple bb_tuple (pa_cons (pe_fnF G_threads F_threads (hr.mono (by decide)) (pa_cons (pv 0) (pa_cons (pv 1) pa_nil))) pa_nil)) (pa_cons (pe_callTy call_tuple_any rfl B.tuple bb_tuple (pa_cons (pe_fnF G_fewest_deeds F_fewest_deeds (hr.mono (by decide)) (pa_cons (pv 0) (pa_cons (pv 1) pa_nil))) pa_nil)) pa_nil))))),?_⟩
  refine ⟨_,rfl,_,rfl,a,b,n,n,ms,os,rfl,by omega,hS,W,hO,WO.len,fun _=>⟨WO,fun l H1 ths s1 hI hT _=>?_⟩,fun z=>absurd rfl z⟩
  obtain ⟨lv,l1,l2⟩:=hT.len
  refine ⟨l,_,rfl,.inl l1,fun q H2 s2 hq=>?_⟩
  have hU:=hT.tuple l1 s2 hq
  have s12:=s1.trans s2
  refine ⟨_,rfl,_,rfl,a,b,n,n,ms,os,rfl,by omega,s12.tup hS,W,s12.tup hO,WO.len,fun _=>⟨hn,WO,fun l' H3 _ s3 tF=>?_⟩,fun z=>absurd rfl z⟩
  obtain ⟨fv,f1,f2⟩:=tF.len
  refine ⟨l',_,rfl,.inl f1,fun r H4 s4 hr4=>?_⟩
  have hF:=tF.tuple f1 s4 hr4
  refine ⟨by show 2≤sizeLine;decide,fun p hp=>?_⟩
  have s5:Same H4 (upd H4 p (.tup [.ref q,.ref r])):=same_upd hp
  exact k p q r ths _ (s12.trans (s3.trans (s4.trans s5))) upd_same (hU.same (s3.trans (s4.trans s5))) hI (hF.same s5)
end
section
variable {P:Program} {w:World} {K:PySem.W.Frag} {mg:Str→Option Value} {base:Heap}
theorem ok_law_cell_at {f:Addr} {fd:FuncData} (B:Bl mg) (F:Fn K mg "_law_cell_at" s_law_cell_at ["script","k"] f fd):FnOk P w K mg base CX0 1 f fd ["script","k"] (Mir.spCellAt K):=by
 refine F.fn.ok sc_law_cell_at (fun vs H Q E h=>?_) (fun cdv A outer s H vs Q E hr h=>?_)
 ·obtain ⟨a,ns,k,rfl,_⟩:=h
  rfl
 ·obtain ⟨a,ns,k,rfl,hS,q⟩:=h
  refine ⟨_,pss_cons (ps_if (pt_cmpR op_lt (pv 1) (pe_callB call_len_seq rfl B.len bb_len (pa_cons (pv 0) pa_nil)) (nomark _)) (pss_one (ps_ret (pe_ix ix_list (pv 0) (pv 1) (fun _ _=>rfl)))) pss_nil) (pss_one (ps_ret pe_int)),?_⟩
  refine ⟨_,rfl,_,rfl,a,_,rfl,.inl hS,_,_,rfl,rfl,_,rfl,?_⟩
  refine ite2 (fun h1=>?_) (fun h1=>?_)
  ·have h1:=of_decide_eq_true h1
   rw [List.length_map] at h1
   have hk:k < ns.length:=by omega
   have e:(ns.map V.int)[k]? = some (.int ns[k]):=by rw [List.getElem?_map,List.getElem?_eq_getElem hk];rfl
   exact ⟨_,rfl,_,rfl,a,_,_,_,rfl,rfl,hS,atI_nat e,q _⟩
  ·exact q 0
end
section
variable {P:Program} {w:World} {K:PySem.W.Frag} {mg:Str→Option Value} {base:Heap}
theorem ok_law_mates {f:Addr} {fd:FuncData} (B:Bl mg) (F:Fn K mg "_law_mates" s_law_mates ["flow","staves"] f fd):FnOk P w K mg base CX0 1 f fd ["flow","staves"] (Mir.spMates K):=by
 refine F.fn.ok sc_law_mates (fun vs H Q E h=>?_) (fun cdv A outer s H vs Q E hr h=>?_)
 ·obtain ⟨a,cs,n,rfl,_⟩:=h
  rfl
 ·obtain ⟨a,cs,n,rfl,hS,hn,k⟩:=h
  refine ⟨_,pss_cons (ps_set (i:=2) sc_law_mates.nd rfl (Or.inl rfl) (pe_callTy (call_list_rng rfl) rfl B.list bb_list (pa_cons (pe_callTy call_rng1 rfl B.range bb_range (pa_cons (pe_op op_mul pe_int (pv 1)) pa_nil)) pa_nil)))
   (pss_cons (ps_for PassesOwn.never rfl (pi_list (pv 0)) (pg_name (i:=3) sc_law_mates.nd rfl (Or.inl rfl))
    (pss_one (ps_if (pt_cmpR op_gt (pv 1) pe_int (nomark _))
     (pss_cons (ps_set (i:=4) sc_law_mates.nd rfl (Or.inl rfl) (pe_op op_mod (pv 3) (pe_op op_mul pe_int (pv 1))))
     (pss_cons (ps_set (i:=5) sc_law_mates.nd rfl (Or.inl rfl) (pe_op op_mod (pe_op op_fdiv (pe_op op_mod (pe_op op_mul (pe_op op_mod (pv 3) pe_int) pe_int) pe_int) pe_int) (pe_op op_mul pe_int (pv 1))))
     (pss_cons (ps_for PassesOwn.never rfl (pi_list (pe_lst (pa_cons (pv 4) (pa_cons (pv 5) pa_nil)))) (pg_name (i:=6) sc_law_mates.nd rfl (Or.inl rfl))
      (pss_cons (ps_asg (pe_ix ix_list (pv 2) (pv 6) (fun _ _=>rfl)) (pg_sub (pv 2) (pe_ix ix_list (pv 2) (pv 6) (fun _ _=>rfl)) set_list))
      (pss_one (ps_asg (pv 6) (pg_sub (pv 2) (pv 6) set_list)))))
     (pss_cons (ps_asg (pv 5) (pg_sub (pv 2) (pv 4) set_list))
     (pss_one (ps_asg (pv 4) (pg_sub (pv 2) (pv 5) set_list))))))) pss_nil)))
   (pss_one (ps_ret (pv 2)))),?_⟩
  refine ⟨_,rfl,_,_,rfl,rfl,.inl ⟨by decide,by decide⟩,_,rfl,fun p hp=>⟨p,0,_,rfl,upd_same,⟨by omega,by omega,by omega,by omega⟩,by omega,fun l hl=>?_⟩⟩
  obtain ⟨nlp,nl⟩:=none_upd hl
  have e0:rngV 0 (2 * (n:Int) - 0).toNat = Mir.nV (List.range (2 * n)):=by
   rw [show (2 * (n:Int) - 0).toNat = 2 * n by omega]
   exact Mir.rngV_nV _
  rw [e0]
  have S1:Same H (upd (upd H p (.rng 0 (2 * (n:Int)))) l (.lst (Mir.nV (List.range (2 * n))))):=(same_upd hp).upd nl
  refine ⟨_,rfl,a,rfl,⟨_,S1.seq hS⟩,for_list (K:=K) (a:=a) (xs:=cs.map V.int) (fun i σ H2=>∃ (v3 v4 v5 v6:Option V) (ms:List Nat),σ = [some (.ref a),some (.int n),some (.ref l),v3,v4,v5,v6]∧Same H H2∧H2 l = some (.lst (Mir.nV ms))∧Mir.WorkL n ms)
   ⟨none,none,none,none,_,rfl,S1,upd_same,Mir.range_work hn⟩ (fun i σ H2 _ ⟨_,_,_,_,_,_,s2,_⟩=>s2.seq hS) ?_ ?_⟩
  ·rintro i x σ H2 hx ⟨v3,v4,v5,v6,ms,rfl,s2,hl2,W⟩
   obtain ⟨z,rfl⟩:∃ z,x = V.int z:=by
    obtain ⟨z,_,e⟩:=List.mem_map.mp (List.mem_of_getElem? hx)
    exact ⟨z,e.symm⟩
   refine ⟨_,rfl,_,_,rfl,rfl,_,rfl,?_⟩
   refine ite2 (fun h1=>?_) (fun h1=>?_)
   ·have hn0:0 < (n:Int):=of_decide_eq_true h1
    have hpos:0 < 2 * (n:Int):=by omega
    refine ⟨_,rfl,_,rfl,_,_,rfl,rfl,.inl ⟨by decide,by decide⟩,_,_,rfl,rfl,hpos,?_⟩
    have b0:=Int.emod_nonneg z (show (1000000007:Int)≠0 by decide)
    have b1:=Int.emod_lt_of_pos z (show (0:Int) < 1000000007 by decide)
    refine ⟨_,rfl,_,_,rfl,rfl,(by show (0:Int) < 1000000007;decide),_,_,rfl,rfl,.inl ⟨by omega,by omega⟩,_,_,rfl,rfl,(by show (0:Int) < 2147483647;decide),_,_,rfl,rfl,⟨by decide,by decide⟩,_,rfl,_,_,rfl,rfl,.inl ⟨by decide,by decide⟩,_,_,rfl,rfl,hpos,?_⟩
    generalize z % 1000000007 * 48271 % 2147483647 / 89 = y
    obtain ⟨pe,hpe,hp1⟩:∃ pe:Nat,z % (2 * (n:Int)) = pe∧pe < 2 * n:=⟨(z % (2 * (n:Int))).toNat,by have:=Int.emod_nonneg z (show 2 * (n:Int)≠0 by omega);omega,by have:=Int.emod_lt_of_pos z hpos;have:=Int.emod_nonneg z (show 2 * (n:Int)≠0 by omega);omega⟩
    obtain ⟨qe,hqe,hq1⟩:∃ qe:Nat,y % (2 * (n:Int)) = qe∧qe < 2 * n:=⟨(y % (2 * (n:Int))).toNat,by have:=Int.emod_nonneg y (show 2 * (n:Int)≠0 by omega);omega,by have:=Int.emod_lt_of_pos y hpos;have:=Int.emod_nonneg y (show 2 * (n:Int)≠0 by omega);omega⟩
    dsimp only
    rw [hpe,hqe]
    refine ⟨_,rfl,_,rfl,by show 2≤sizeLine;decide,fun le hle=>⟨le,rfl,⟨_,SqL.of upd_same⟩,for_list (K:=K) (a:=le) (xs:=[.int pe,.int qe])
     (fun j σ H3=>∃ (v:Option V) (ms':List Nat),σ = [some (.ref a),some (.int n),some (.ref l),some (.int z),some (.int pe),some (.int qe),v]∧Same H H3∧H3 le = some (.lst [.int pe,.int qe])∧H3 l = some (.lst (Mir.nV ms'))∧Mir.WorkL n ms' ∧
      (1≤j→Mir.at0 ms' pe = pe)∧(2≤j→Mir.at0 ms' qe = qe))
     ⟨v6,ms,rfl,s2.upd (s2.free hle),upd_same,by rw [upd_ne (ne_of_none hl2 hle)];exact hl2,W,fun h=>by omega,fun h=>by omega⟩ (fun j σ H3 _ ⟨_,_,_,_,e,_⟩=>SqL.of e) ?_ ?_⟩⟩
    ·rintro j y' σ H3 hj ⟨v,ms',rfl,s3,hle3,hl3,W3,h1',h2'⟩
     obtain ⟨e,rfl,he,hcase⟩:∃ e:Nat,y' = V.int e∧e < 2 * n∧((j = 0∧e = pe)∨(j = 1∧e = qe)):=by
      match j,hj with
      | 0,hj=>exact ⟨pe,(Option.some.inj hj).symm,hp1,.inl ⟨rfl,rfl⟩⟩
      | 1,hj=>exact ⟨qe,(Option.some.inj hj).symm,hq1,.inr ⟨rfl,rfl⟩⟩
      | _ + 2,hj=>cases hj
     have nll:l≠le:=ne_of_none hl2 hle
     have hix:=W3.ix he
     have hlen:(Mir.nV ms').length = 2 * n:=by rw [Mir.nV_len,W3.len]
     have hm:=W3.wk.lt e he
     refine ⟨_,rfl,_,rfl,l,_,_,_,rfl,rfl,SqL.of hl3,hix,_,rfl,_,rfl,_,rfl,l,_,_,_,rfl,rfl,SqL.of hl3,hix,l,_,_,_,rfl,rfl,hl3,ixN_of (Int.natCast_nonneg _) (by rw [hlen];omega),?_⟩
     rw [Int.toNat_natCast,Mir.nV_set]
     refine ⟨_,rfl,_,rfl,_,rfl,l,_,_,_,rfl,rfl,upd_same,ixN_of (Int.natCast_nonneg _) (by rw [Mir.nV_len,List.length_set,W3.len];omega),?_⟩
     rw [Int.toNat_natCast,Mir.nV_set]
     obtain ⟨W4,l4⟩:=Mir.freed_work W3 he
     refine ⟨_,Mir.freed ms' e,rfl,(s3.upd nl).upd nl,by rw [upd_ne nll.symm,upd_ne nll.symm];exact hle3,upd_same,W4,fun _=>?_,fun h=>?_⟩
     ·rcases hcase with ⟨rfl,rfl⟩ | ⟨rfl,rfl⟩
      ·exact l4
      ·exact Mir.freed_keeps W3 he (h1' (Nat.le_refl _))
     ·rcases hcase with ⟨rfl,rfl⟩ | ⟨rfl,rfl⟩
      ·omega
      ·exact l4
    ·rintro σ H3 ⟨v,ms',rfl,s3,hle3,hl3,W3,h1',h2'⟩
     have hlen:(Mir.nV ms').length = 2 * n:=by rw [Mir.nV_len,W3.len]
     refine ⟨_,rfl,_,rfl,_,rfl,l,_,_,_,rfl,rfl,hl3,ixN_of (Int.natCast_nonneg _) (by rw [hlen];omega),?_⟩
     rw [Int.toNat_natCast,Mir.nV_set]
     refine ⟨_,rfl,_,rfl,_,rfl,l,_,_,_,rfl,rfl,upd_same,ixN_of (Int.natCast_nonneg _) (by rw [Mir.nV_len,List.length_set,W3.len];omega),?_⟩
     rw [Int.toNat_natCast,Mir.nV_set]
     exact ⟨_,_,_,_,Mir.clasp ms' pe qe,rfl,(s3.upd nl).upd nl,upd_same,Mir.clasp_work W3 hp1 hq1 (h1' (by simp)) (h2' (by simp))⟩
   ·exact ⟨_,_,_,_,ms,rfl,s2,hl2,W⟩
  ·rintro σ H2 ⟨v3,v4,v5,v6,ms,rfl,s2,hl2,W⟩
   exact ⟨_,rfl,k l H2 ms nl s2 W hl2⟩
end
section
variable {P:Program} {w:World} {K:PySem.W.Frag} {mg:Str→Option Value} {base:Heap}
theorem ok_law_freed {f:Addr} {fd:FuncData} (B:Bl mg) (F:Fn K mg "_law_freed" s_law_freed ["mates","end"] f fd):FnOk P w K mg base CX0 1 f fd ["mates","end"] Mir.spLawFreed:=by
 refine F.fn.ok sc_law_freed (fun vs H Q E h=>?_) (fun cdv A outer s H vs Q E hr h=>?_)
 ·obtain ⟨a,e,ms,rfl,_⟩:=h
  rfl
 ·obtain ⟨a,e,ms,rfl,ha,he,hm,k⟩:=h
  refine ⟨_,(pss_cons (ps_asg (pe_ix ix_list (pv 0) (pv 1) (fun _ _=>rfl)) (pg_sub (pv 0) (pe_ix ix_list (pv 0) (pv 1) (fun _ _=>rfl)) set_list))
   (pss_one (ps_asg (pv 1) (pg_sub (pv 0) (pv 1) set_list)))),?_⟩
  have ix:atI (Mir.nV ms) (e:Int) = some (.int (Mir.at0 ms e:Nat)):=atI_nat (Mir.nV_get (Mir.at0_get he))
  refine ⟨_,rfl,_,rfl,a,_,_,_,rfl,rfl,SqL.of ha,ix,_,rfl,_,rfl,_,rfl,a,_,_,_,rfl,rfl,SqL.of ha,ix,a,_,_,_,rfl,rfl,ha,ixN_of (Int.natCast_nonneg _) (by rw [Mir.nV_len];omega),?_⟩
  rw [Int.toNat_natCast,Mir.nV_set]
  refine ⟨_,rfl,_,rfl,_,rfl,a,_,_,_,rfl,rfl,upd_same,ixN_of (Int.natCast_nonneg _) (by rw [Mir.nV_len,List.length_set];omega),?_⟩
  rw [Int.toNat_natCast,Mir.nV_set,upd_upd]
  exact k
end
section
variable {P:Program} {w:World} {K:PySem.W.Frag} {mg:Str→Option Value} {base:Heap}
theorem ok_law_done {f f1:Addr} {fd fd1:FuncData} (B:Bl mg) (F:Fn K mg "_law_done" s_law_done ["mates","one","other"] f fd) (F_law_freed:Fn K mg "_law_freed" s_law_freed ["mates","end"] f1 fd1):FnOk P w K mg base CX0 2 f fd ["mates","one","other"] Mir.spLawDone:=by
 have G_law_freed:FnOk P w K mg base CX0 1 f1 fd1 ["mates","end"] Mir.spLawFreed:=ok_law_freed B F_law_freed
 refine F.fn.ok sc_law_done (fun vs H Q E h=>?_) (fun cdv A outer s H vs Q E hr h=>?_)
 ·obtain ⟨a,n,x,y,ms,rfl,_⟩:=h
  rfl
 ·obtain ⟨a,n,x,y,ms,rfl,ha,W,hx,hy,k0,k1⟩:=h
  refine ⟨_,(pss_cons (ps_set (i:=3) sc_law_done.nd rfl (Or.inl rfl) (pe_callTy call_list_of rfl B.list bb_list (pa_cons (pv 0) pa_nil)))
   (pss_cons (ps_set (i:=4) sc_law_done.nd rfl (Or.inl rfl) (pe_ix ix_list (pv 0) (pv 1) (fun _ _=>rfl)))
   (pss_cons (ps_set (i:=5) sc_law_done.nd rfl (Or.inl rfl) (pe_ix ix_list (pv 0) (pv 2) (fun _ _=>rfl)))
   (pss_cons (ps_if (PW.pt (pw_or (PW.pt (pw_and (pt_cmpR op_eq (pv 1) (pv 2) (nomark _)) (pw_and1 (pt_cmpR op_eq (pv 4) (pv 1) (nomark _))))) (pw_or1 (PW.pt (pw_and (pt_cmpR op_ne (pv 1) (pv 2) (nomark _)) (pw_and1 (pt_cmpR op_eq (pv 4) (pv 2) (nomark _)))))))) (pss_one (ps_ret pe_non)) pss_nil)
   (pss_cons (ps_expr (pe_fn G_law_freed F_law_freed (hr.mono (by decide)) (pa_cons (pv 3) (pa_cons (pv 1) pa_nil))))
   (pss_cons (ps_if (pt_cmpR op_ne (pv 1) (pv 2) (nomark _)) (pss_cons (ps_expr (pe_fn G_law_freed F_law_freed (hr.mono (by decide)) (pa_cons (pv 3) (pa_cons (pv 2) pa_nil))))
   (pss_cons (ps_asg (pv 2) (pg_sub (pv 3) (pv 1) set_list))
   (pss_cons (ps_asg (pv 1) (pg_sub (pv 3) (pv 2) set_list))
   (pss_one (ps_if (PW.pt (pw_and (pt_cmpR op_ne (pv 4) (pv 1) (nomark _)) (pw_and1 (pt_cmpR op_ne (pv 5) (pv 2) (nomark _))))) (pss_cons (ps_asg (pv 5) (pg_sub (pv 3) (pv 4) set_list))
   (pss_one (ps_asg (pv 4) (pg_sub (pv 3) (pv 5) set_list)))) pss_nil))))) pss_nil)
   (pss_one (ps_ret (pv 3))))))))),?_⟩
  have hl:=W.len
  have lx:=W.wk.lt x hx
  have ly:=W.wk.lt y hy
  refine ⟨_,rfl,a,_,rfl,.inl (SqL.of ha),fun l hl0=>?_⟩
  have s1:Same H (upd H l (.lst (Mir.nV ms))):=same_upd hl0
  have h1:upd H l (.lst (Mir.nV ms)) l = some (.lst (Mir.nV ms)):=upd_same
  generalize upd H l (.lst (Mir.nV ms)) = H1 at s1 h1
  refine ⟨_,rfl,_,rfl,a,_,_,_,rfl,rfl,SqL.of (s1 _ _ ha),W.ix hx,?_⟩
  refine ⟨_,rfl,_,rfl,a,_,_,_,rfl,rfl,SqL.of (s1 _ _ ha),W.ix hy,?_⟩
  have setl:∀ (H3:Hp) (m:List Nat) (i v:Nat),Same H H3→Same H (upd H3 l (.lst (Mir.nV (m.set i v)))):=fun H3 m i v s3=>s3.upd hl0
  by_cases hxy:x = y
  ·subst hxy
   refine ⟨_,rfl,_,rfl,rfl,_,rfl,iteY (dInt rfl) ?_⟩
   refine ⟨_,rfl,_,rfl,rfl,_,rfl,?_⟩
   by_cases q:Mir.at0 ms x = x
   ·refine iteY (dInt (by omega)) ?_
    exact k0 q H1 s1
   ·refine iteN (dIntN (by omega)) ?_
    refine ⟨_,rfl,_,rfl,rfl,_,rfl,iteN (dNeN rfl) (iteF ?_)⟩
    refine ⟨_,rfl,_,rfl,l,x,ms,rfl,h1,by omega,by omega,?_⟩
    refine ⟨_,rfl,_,rfl,rfl,_,rfl,iteN (dNeN rfl) ?_⟩
    refine ⟨_,rfl,k1 q l _ hl0 (s1.upd hl0) ?_⟩
    rw [upd_same,← Mir.doneL_eq W hx hx q]
    unfold Mir.doneL
    rw [if_pos rfl]
  ·refine ⟨_,rfl,_,rfl,rfl,_,rfl,iteN (dIntN (by omega)) ?_⟩
   refine ⟨_,rfl,_,rfl,rfl,_,rfl,iteY (dNe (by omega)) ?_⟩
   refine ⟨_,rfl,_,rfl,rfl,_,rfl,?_⟩
   by_cases q:Mir.at0 ms x = y
   ·refine iteY (dInt (by omega)) ?_
    exact k0 q H1 s1
   ·refine iteN (dIntN (by omega)) ?_
    refine ⟨_,rfl,_,rfl,l,x,ms,rfl,h1,by omega,by omega,?_⟩
    refine ⟨_,rfl,_,rfl,rfl,_,rfl,iteY (dNe (by omega)) ?_⟩
    have e1:=Mir.at0_freed ms x y (by omega) (by omega)
    have e1l:Mir.at0 (Mir.freed ms x) y < ms.length:=by rw [e1];split <;> first | omega | (split <;> omega)
    refine ⟨_,rfl,_,rfl,l,y,Mir.freed ms x,rfl,upd_same,by rw [Mir.freed_len];omega,by rw [Mir.freed_len];exact e1l,?_⟩
    refine ⟨_,rfl,_,rfl,_,rfl,l,_,_,_,rfl,rfl,upd_same,ixN_of (Int.natCast_nonneg _) (by rw [Mir.nV_len,Mir.freed_len,Mir.freed_len];omega),?_⟩
    rw [Int.toNat_natCast,Mir.nV_set]
    refine ⟨_,rfl,_,rfl,_,rfl,l,_,_,_,rfl,rfl,upd_same,ixN_of (Int.natCast_nonneg _) (by rw [Mir.nV_len,List.length_set,Mir.freed_len,Mir.freed_len];omega),?_⟩
    rw [Int.toNat_natCast,Mir.nV_set]
    have hd:=Mir.doneL_eq W hx hy q
    unfold Mir.doneL at hd
    rw [if_neg hxy] at hd
    simp only at hd
    have s5:=((((s1.upd hl0 (o:=.lst (Mir.nV (Mir.freed ms x)))).upd hl0 (o:=.lst (Mir.nV (Mir.freed (Mir.freed ms x) y)))).upd hl0 (o:=.lst (Mir.nV ((Mir.freed (Mir.freed ms x) y).set x y)))).upd hl0 (o:=.lst (Mir.nV (((Mir.freed (Mir.freed ms x) y).set x y).set y x))))
    refine ⟨_,rfl,_,rfl,rfl,_,rfl,?_⟩
    by_cases q1:Mir.at0 ms x = x
    ·refine iteN (dNeN (by omega)) (iteF ?_)
     refine ⟨_,rfl,k1 q l _ hl0 s5 ?_⟩
     rw [if_neg (fun z=>z.1 q1)] at hd
     rw [upd_same,hd]
    ·refine iteY (dNe (by omega)) ?_
     refine ⟨_,rfl,_,rfl,rfl,_,rfl,?_⟩
     by_cases q2:Mir.at0 ms y = y
     ·refine iteN (dNeN (by omega)) ?_
      refine ⟨_,rfl,k1 q l _ hl0 s5 ?_⟩
      rw [if_neg (fun z=>z.2 q2)] at hd
      rw [upd_same,hd]
     ·refine iteY (dNe (by omega)) ?_
      refine ⟨_,rfl,_,rfl,_,rfl,l,_,_,_,rfl,rfl,upd_same,ixN_of (Int.natCast_nonneg _) (by rw [Mir.nV_len,List.length_set,List.length_set,Mir.freed_len,Mir.freed_len];omega),?_⟩
      rw [Int.toNat_natCast,Mir.nV_set]
      refine ⟨_,rfl,_,rfl,_,rfl,l,_,_,_,rfl,rfl,upd_same,ixN_of (Int.natCast_nonneg _) (by rw [Mir.nV_len,List.length_set,List.length_set,List.length_set,Mir.freed_len,Mir.freed_len];omega),?_⟩
      rw [Int.toNat_natCast,Mir.nV_set]
      refine ⟨_,rfl,k1 q l _ hl0 ((s5.upd hl0).upd hl0) ?_⟩
      rw [if_pos ⟨q1,q2⟩] at hd
      rw [upd_same,hd]
end
section
seal L2.PSs L2.PS L2.PE L2.PT L2.PA
variable {P:Program} {w:World} {K:PySem.W.Frag} {mg:Str→Option Value} {base:Heap}
theorem ok_law_along26 {f f1:Addr} {fd fd1:FuncData} (B:Bl mg) (F:Fn K mg "_law_along" s_law_along ["one","deeds"] f fd) (F_law_done:Fn K mg "_law_done" s_law_done ["mates","one","other"] f1 fd1) (G_law_done:FnOk P w K mg base CX0 2 f1 fd1 ["mates","one","other"] Mir.spLawDone):FnOk P w K mg base CX0 3 f fd ["one","deeds"] (Mir.spAlong26 K):=by
 refine F.fn.ok sc_law_along (fun vs H Q E h=>?_) (fun cdv A outer s H vs Q E hr h=>?_)
 ·obtain ⟨a,l,n,ms,os,c,rfl,_⟩:=h
  rfl
 ·obtain ⟨a,l,n,ms,os,c,rfl,hS,W,hn,tr,hL,hl,k⟩:=h
  obtain ⟨rs,r1,r2,r3⟩:=tr
  refine ⟨_,(pss_cons (ps_set (i:=2) sc_law_along.nd rfl (Or.inl rfl) (pe_lst (pa_cons (pe_callTy call_list_of rfl B.list bb_list (pa_cons (pv 0) pa_nil)) pa_nil)))
   (pss_cons (ps_for PassesOwn.never rfl (pi_list (pv 1)) (pg_name (i:=3) sc_law_along.nd rfl (Or.inl rfl)) (pss_one (ps_expr (pe_bm PySem.F.plainAttrs_list PySem.F.slot_list_append PySem.F.type_list_append mt_append (pv 2) (pa_cons (pe_fn G_law_done F_law_done (hr.mono (by decide)) (pa_cons (pe_ix ix_list (pv 2) (pe_un un_neg pe_int) (fun _ _=>rfl)) (pa_cons (pe_ix ix_tup (pv 3) pe_int (fun _ _=>rfl)) (pa_cons (pe_ix ix_tup (pv 3) pe_int (fun _ _=>rfl)) pa_nil)))) pa_nil)))))
   (pss_one (ps_ret (pv 2))))),?_⟩
  refine ⟨_,rfl,a,_,rfl,.inr hS,fun l0 hl0=>?_⟩
  have s1:Same H (upd H l0 (.lst (Mir.nV ms))):=same_upd hl0
  have hw:upd H l0 (.lst (Mir.nV ms)) l0 = some (.lst (Mir.nV ms)):=upd_same
  generalize upd H l0 (.lst (Mir.nV ms)) = H1 at s1 hw
  refine ⟨by show 1≤sizeLine;decide,fun lp hlp=>?_⟩
  have s2:Same H1 (upd H1 lp (.lst [.ref l0])):=same_upd hlp
  have hp0:Mir.LwT (upd H1 lp (.lst [.ref l0])) lp ms c 0:=⟨[l0],upd_same,rfl,fun i t e=>by
   match i,e with
   | 0,e=>obtain rfl:=Option.some.inj e;exact s2 _ _ hw
   | i + 1,e=>cases e⟩
  generalize upd H1 lp (.lst [.ref l0]) = H2 at s2 hp0
  have fp:H lp = none:=by cases q:H lp with | none=>rfl | some o=>have:=s1 _ _ q;rw [hlp] at this;cases this
  refine ⟨_,rfl,l,rfl,⟨_,SqL.of (s2 _ _ (s1 _ _ r1))⟩,for_list (K:=K) (a:=l) (xs:=rs.map V.ref) (fun i σ H3=>∃ v3:Option V,σ = [some (.ref a),some (.ref l),some (.ref lp),v3]∧Same H H3∧Mir.LwT H3 lp ms c i)
   ⟨none,rfl,s1.trans s2,hp0⟩ (fun i σ H3 _ ⟨_,_,s3,_⟩=>SqL.of (s3 _ _ r1)) ?_ ?_⟩
  ·rintro i x σ H3 hx ⟨v3,rfl,s3,hw3⟩
   have hi:i < rs.length:=by have z:=(List.getElem?_eq_some_iff.mp hx).1;rw [List.length_map] at z;exact z
   have hc:=List.getElem?_eq_getElem (l:=c) (i:=i) (by omega)
   have ht:=List.getElem?_eq_getElem (l:=rs) (i:=i) (by omega)
   generalize c[i] = d at hc
   generalize rs[i] = t at ht
   rw [List.getElem?_map,ht] at hx
   obtain rfl:=Option.some.inj hx
   have htt:=s3 _ _ (r3 i t d ht hc)
   have Wi:=Mir.lead_take c i ms W hL
   obtain ⟨b1,b2,b3⟩:=Mir.lead_at c i ms hL hc
   obtain ⟨ts,g1,g2,g3⟩:=hw3
   have et:ts[i]? = some (ts[i]'(by omega)):=List.getElem?_eq_getElem (by omega)
   generalize ts[i]'(by omega) = tl at et
   have hlast:atI (ts.map V.ref) (-1) = some (.ref tl):=Mir.atI_end (by rw [List.getLast?_map,List.getLast?_eq_getElem?,g2,Nat.add_sub_cancel,et];rfl)
   have htl:=g3 i tl et
   refine ⟨_,rfl,.inl ⟨rfl,_,SqL.of g1⟩,_,rfl,_,rfl,lp,_,_,_,rfl,rfl,SqL.of g1,hlast,_,rfl,t,_,_,_,rfl,rfl,SqT.of htt,rfl,_,rfl,t,_,_,_,rfl,rfl,SqT.of htt,rfl,tl,n,d.1,d.2,_,rfl,htl,Wi,by omega,b2,fun z=>absurd z b3,fun _ lb H4 hlb s4 hb4=>?_⟩
   have g1':=s4 _ _ g1
   refine ⟨lp,_,_,rfl,rfl,g1',small1000 (by rw [List.length_map];omega),_,rfl,(s3.trans s4).upd fp,ts ++ [lb],by rw [upd_same,List.map_append];rfl,by rw [List.length_append,g2];rfl,fun j u e=>?_⟩
   have key:H4 u = some (.lst (Mir.nV (Mir.workR ms (c.take j))))∧u≠lp:=by
    by_cases hj:j < ts.length
    ·rw [List.getElem?_append_left hj] at e
     refine ⟨s4 _ _ (g3 j u e),fun z=>?_⟩
     have q:=g3 j u e
     rw [z,g1] at q
     injection q with q
     injection q with q
     have:=congrArg (fun z=>z[0]?) q
     cases ts with
     | nil=>cases g2
     | cons t0 tr =>
      have W0:=Mir.lead_take c j ms W hL
      cases qq:Mir.workR ms (c.take j) with
      | nil=>rw [qq] at q;cases q
      | cons m mr=>rw [qq] at q;cases q
    ·rw [List.getElem?_append_right (by omega)] at e
     have hz:j - ts.length = 0:=by
      have:=(List.getElem?_eq_some_iff.mp e).1
      rw [List.length_singleton] at this
      omega
     rw [hz] at e
     obtain rfl:=Option.some.inj e
     have ej:j = i + 1:=by omega
     rw [ej,Mir.take_snoc hc,Mir.workR_snoc]
     exact ⟨hb4,fun z=>by rw [z,g1] at hlb;cases hlb⟩
   rw [upd_ne key.2]
   exact key.1
  ·rintro σ H3 ⟨v3,rfl,s3,hw3⟩
   rw [List.length_map,r2] at hw3
   exact ⟨_,rfl,k lp H3 fp s3 hw3⟩
end
section
seal L2.PSs L2.PS L2.PE L2.PT L2.PA
variable {P:Program} {w:World} {K:PySem.W.Frag} {mg:Str→Option Value} {base:Heap}
theorem ok_law_detour {f:Addr} {fd:FuncData} (B:Bl mg) (F:Fn K mg "_law_detour" s_law_detour ["work","cell"] f fd):FnOk P w K mg base CX0 1 f fd ["work","cell"] Mir.spDetour:=by
 refine F.fn.ok sc_law_detour (fun vs H Q E h=>?_) (fun cdv A outer s H vs Q E hr h=>?_)
 ·obtain ⟨l,n,ms,c,rfl,_⟩:=h
  rfl
 ·obtain ⟨l,n,ms,c,rfl,hl,W,n0,hn,k⟩:=h
  have hll:((Mir.nV ms).length:Int) = 2 * n:=by rw [Mir.nV_len,W.len];omega
  have sm:∀ x:Nat,x < 2 * n→Mir.Sm (x:Int):=fun x z=>Mir.Sm.of (by omega) (by omega)
  have mm:∀ x y:Nat,(if ((y:Nat):Int) < (x:Nat) then ((y:Nat):Int) else (x:Nat)) = ((min x y:Nat):Int)∧(if ((y:Nat):Int) > (x:Nat) then ((y:Nat):Int) else (x:Nat)) = ((max x y:Nat):Int):=fun x y=>⟨by split <;> omega,by split <;> omega⟩
  have fin:∀ (H0:Hp) (t1 t2:Addr) (a1 b1 a2 b2:Nat),Same H H0→a1 < 2 * n→b1 < 2 * n→a2 < 2 * n→b2 < 2 * n→H0 t1 = some (.tup [.int (a1:Nat),.int (b1:Nat)])→H0 t2 = some (.tup [.int (a2:Nat),.int (b2:Nat)])→∀ lr,H0 lr = none→Q (.ref lr) (upd H0 lr (.lst [.ref t1,.ref t2])):=fun H0 t1 t2 a1 b1 a2 b2 s0 l1 l2 l3 l4 e1 e2 lr hlr=>by
   have s1:Same H0 (upd H0 lr (.lst [.ref t1,.ref t2])):=same_upd hlr
   refine k lr _ [(((a1:Nat):Int),((b1:Nat):Int)),(((a2:Nat):Int),((b2:Nat):Int))] (by cases q:H lr with | none=>rfl | some o=>have:=s0 _ _ q;rw [hlr] at this;cases this) (s0.trans s1) ⟨[t1,t2],upd_same,rfl,fun i t d e3 e4=>?_⟩ rfl (fun d hd=>?_)
   ·match i,e3,e4 with
    | 0,e3,e4=>obtain rfl:=Option.some.inj e3;obtain rfl:=Option.some.inj e4;exact s1 _ _ e1
    | 1,e3,e4=>obtain rfl:=Option.some.inj e3;obtain rfl:=Option.some.inj e4;exact s1 _ _ e2
    | i + 2,e3,e4=>cases e3
   ·rcases List.mem_cons.mp hd with rfl | hd
    ·exact ⟨sm _ l1,sm _ l2⟩
    ·rw [List.mem_singleton.mp hd]
     exact ⟨sm _ l3,sm _ l4⟩
  have pick:∀ x:Int,∃ y:Nat,x % (2 * (n:Int)) = y∧y < 2 * n:=fun x=>by
   have a0:0≤x % (2 * (n:Int)):=Int.emod_nonneg _ (by omega)
   have a1:x % (2 * (n:Int)) < 2 * (n:Int):=Int.emod_lt_of_pos _ (by omega)
   exact ⟨(x % (2 * (n:Int))).toNat,by omega,by omega⟩
  refine ⟨_,(pss_cons (ps_set (i:=2) sc_law_detour.nd rfl (Or.inl rfl) (pe_op op_mod (pv 1) (pe_callB call_len_seq rfl B.len bb_len (pa_cons (pv 0) pa_nil))))
   (pss_cons (ps_if (pt_cmpR op_ne (pe_ix ix_list (pv 0) (pv 2) (fun _ _=>rfl)) (pv 2) (nomark _)) (pss_cons (ps_set (i:=3) sc_law_detour.nd rfl (Or.inl rfl) (pe_ix ix_list (pv 0) (pv 2) (fun _ _=>rfl)))
   (pss_one (ps_ret (pe_lst (pa_cons (pe_tup (pa_cons (pv 2) (pa_cons (pv 2) pa_nil))) (pa_cons (pe_tup (pa_cons (pe_callB (call_min2 rfl) rfl B.min bb_min (pa_cons (pv 2) (pa_cons (pv 3) pa_nil))) (pa_cons (pe_callB (call_max2 rfl) rfl B.max bb_max (pa_cons (pv 2) (pa_cons (pv 3) pa_nil))) pa_nil))) pa_nil)))))) pss_nil)
   (pss_cons (ps_set (i:=3) sc_law_detour.nd rfl (Or.inl rfl) (pe_op op_mod (pe_op op_add (pe_op op_add (pv 2) pe_int) (pe_op op_mod (pe_op op_fdiv (pv 1) pe_int) (pe_op op_sub (pe_callB call_len_seq rfl B.len bb_len (pa_cons (pv 0) pa_nil)) pe_int))) (pe_callB call_len_seq rfl B.len bb_len (pa_cons (pv 0) pa_nil))))
   (pss_cons (ps_if (pt_cmpR op_eq (pe_ix ix_list (pv 0) (pv 3) (fun _ _=>rfl)) (pv 3) (nomark _)) (pss_one (ps_ret (pe_lst (pa_cons (pe_tup (pa_cons (pe_callB (call_min2 rfl) rfl B.min bb_min (pa_cons (pv 2) (pa_cons (pv 3) pa_nil))) (pa_cons (pe_callB (call_max2 rfl) rfl B.max bb_max (pa_cons (pv 2) (pa_cons (pv 3) pa_nil))) pa_nil))) (pa_cons (pe_tup (pa_cons (pe_callB (call_min2 rfl) rfl B.min bb_min (pa_cons (pv 2) (pa_cons (pv 3) pa_nil))) (pa_cons (pe_callB (call_min2 rfl) rfl B.min bb_min (pa_cons (pv 2) (pa_cons (pv 3) pa_nil))) pa_nil))) pa_nil))))) pss_nil)
   (pss_cons (ps_set (i:=4) sc_law_detour.nd rfl (Or.inl rfl) (pe_ix ix_list (pv 0) (pv 3) (fun _ _=>rfl)))
   (pss_one (ps_ret (pe_lst (pa_cons (pe_tup (pa_cons (pe_callB (call_min2 rfl) rfl B.min bb_min (pa_cons (pv 2) (pa_cons (pv 3) pa_nil))) (pa_cons (pe_callB (call_max2 rfl) rfl B.max bb_max (pa_cons (pv 2) (pa_cons (pv 3) pa_nil))) pa_nil))) (pa_cons (pe_tup (pa_cons (pe_callB (call_min2 rfl) rfl B.min bb_min (pa_cons (pv 3) (pa_cons (pv 4) pa_nil))) (pa_cons (pe_callB (call_max2 rfl) rfl B.max bb_max (pa_cons (pv 3) (pa_cons (pv 4) pa_nil))) pa_nil))) pa_nil)))))))))),?_⟩
  refine ⟨_,rfl,_,rfl,l,_,rfl,.inl (SqL.of hl),?_⟩
  rw [hll]
  refine ⟨_,_,rfl,rfl,(by show (0:Int) < 2 * (n:Int);omega),?_⟩
  dsimp only
  obtain ⟨lo,hlo,lo2⟩:=pick c
  rw [hlo]
  have im:=W.wk.lt lo lo2
  refine ⟨_,rfl,_,rfl,l,_,_,_,rfl,rfl,SqL.of hl,W.ix lo2,_,rfl,rfl,_,rfl,ite2 (fun _=>?_) (fun _=>?_)⟩
  ·refine ⟨_,rfl,_,rfl,l,_,_,_,rfl,rfl,SqL.of hl,W.ix lo2,?_⟩
   refine ⟨_,rfl,_,rfl,by show 2≤sizeLine;decide,fun t1 e1=>?_⟩
   have s1:Same H (upd H t1 (.tup [.int (lo:Nat),.int (lo:Nat)])):=same_upd e1
   have q1:upd H t1 (.tup [.int (lo:Nat),.int (lo:Nat)]) t1 = some (.tup [.int (lo:Nat),.int (lo:Nat)]):=upd_same
   generalize upd H t1 (.tup [.int (lo:Nat),.int (lo:Nat)]) = H1 at s1 q1
   refine ⟨_,rfl,_,rfl,_,_,rfl,_,rfl,_,rfl,_,_,rfl,by show 2≤sizeLine;decide,fun t2 e2=>?_⟩
   dsimp only
   rw [(mm lo (Mir.at0 ms lo)).1,(mm lo (Mir.at0 ms lo)).2]
   have s2:Same H1 _:=same_upd (o:=.tup [.int ((min lo (Mir.at0 ms lo):Nat):Int),.int ((max lo (Mir.at0 ms lo):Nat):Int)]) e2
   refine ⟨by show 2≤sizeLine;decide,fun lr hlr=>?_⟩
   exact fin _ t1 t2 lo lo (min lo (Mir.at0 ms lo)) (max lo (Mir.at0 ms lo)) (s1.trans s2) lo2 lo2 (by omega) (by omega) (s2 _ _ q1) upd_same lr hlr
  ·refine ⟨_,rfl,_,_,rfl,rfl,_,rfl,_,_,rfl,rfl,⟨by decide,by decide⟩,_,rfl,l,_,rfl,.inl (SqL.of hl),?_⟩
   rw [hll]
   refine ⟨_,_,rfl,rfl,_,_,rfl,rfl,(by show (0:Int) < 2 * (n:Int) - 1;omega),_,_,rfl,rfl,_,rfl,l,_,rfl,.inl (SqL.of hl),?_⟩
   rw [hll]
   refine ⟨_,_,rfl,rfl,(by show (0:Int) < 2 * (n:Int);omega),?_⟩
   dsimp only
   obtain ⟨hi,hhi,hi2⟩:=pick ((lo:Int) + 1 + c / 83 % (2 * (n:Int) - 1))
   rw [hhi]
   have ih:=W.wk.lt hi hi2
   refine ⟨_,rfl,_,rfl,l,_,_,_,rfl,rfl,SqL.of hl,W.ix hi2,_,rfl,rfl,_,rfl,ite2 (fun _=>?_) (fun _=>?_)⟩
   ·refine ⟨_,rfl,_,rfl,_,_,rfl,_,rfl,_,rfl,_,_,rfl,by show 2≤sizeLine;decide,fun t1 e1=>?_⟩
    dsimp only
    rw [(mm lo hi).1,(mm lo hi).2]
    have s1:Same H (upd H t1 (.tup [.int ((min lo hi:Nat):Int),.int ((max lo hi:Nat):Int)])):=same_upd e1
    have q1:upd H t1 (.tup [.int ((min lo hi:Nat):Int),.int ((max lo hi:Nat):Int)]) t1 = some (.tup [.int ((min lo hi:Nat):Int),.int ((max lo hi:Nat):Int)]):=upd_same
    generalize upd H t1 (.tup [.int ((min lo hi:Nat):Int),.int ((max lo hi:Nat):Int)]) = H1 at s1 q1
    refine ⟨_,rfl,_,rfl,_,_,rfl,_,rfl,_,rfl,_,_,rfl,by show 2≤sizeLine;decide,fun t2 e2=>?_⟩
    dsimp only
    rw [(mm lo hi).1]
    have s2:Same H1 _:=same_upd (o:=.tup [.int ((min lo hi:Nat):Int),.int ((min lo hi:Nat):Int)]) e2
    refine ⟨by show 2≤sizeLine;decide,fun lr hlr=>?_⟩
    exact fin _ t1 t2 (min lo hi) (max lo hi) (min lo hi) (min lo hi) (s1.trans s2) (by omega) (by omega) (by omega) (by omega) (s2 _ _ q1) upd_same lr hlr
   ·refine ⟨_,rfl,_,rfl,l,_,_,_,rfl,rfl,SqL.of hl,W.ix hi2,?_⟩
    refine ⟨_,rfl,_,rfl,_,_,rfl,_,rfl,_,rfl,_,_,rfl,by show 2≤sizeLine;decide,fun t1 e1=>?_⟩
    dsimp only
    rw [(mm lo hi).1,(mm lo hi).2]
    have s1:Same H (upd H t1 (.tup [.int ((min lo hi:Nat):Int),.int ((max lo hi:Nat):Int)])):=same_upd e1
    have q1:upd H t1 (.tup [.int ((min lo hi:Nat):Int),.int ((max lo hi:Nat):Int)]) t1 = some (.tup [.int ((min lo hi:Nat):Int),.int ((max lo hi:Nat):Int)]):=upd_same
    generalize upd H t1 (.tup [.int ((min lo hi:Nat):Int),.int ((max lo hi:Nat):Int)]) = H1 at s1 q1
    refine ⟨_,rfl,_,rfl,_,_,rfl,_,rfl,_,rfl,_,_,rfl,by show 2≤sizeLine;decide,fun t2 e2=>?_⟩
    dsimp only
    rw [(mm hi (Mir.at0 ms hi)).1,(mm hi (Mir.at0 ms hi)).2]
    have s2:Same H1 _:=same_upd (o:=.tup [.int ((min hi (Mir.at0 ms hi):Nat):Int),.int ((max hi (Mir.at0 ms hi):Nat):Int)]) e2
    refine ⟨by show 2≤sizeLine;decide,fun lr hlr=>?_⟩
    exact fin _ t1 t2 (min lo hi) (max lo hi) (min hi (Mir.at0 ms hi)) (max hi (Mir.at0 ms hi)) (s1.trans s2) (by omega) (by omega) (by omega) (by omega) (s2 _ _ q1) upd_same lr hlr
end
section
seal L2.PSs L2.PS L2.PE L2.PT L2.PA
variable {P:Program} {w:World} {K:PySem.W.Frag} {mg:Str→Option Value} {base:Heap}
theorem ok_law_misfit26 {f:Addr} {fd:FuncData} (B:Bl mg) (F:Fn K mg "_law_misfit" s_law_misfit ["work","cell"] f fd):FnOk P w K mg base CX0 1 f fd ["work","cell"] Mir.spMisfit26:=by
 refine F.fn.ok sc_law_misfit (fun vs H Q E h=>?_) (fun cdv A outer s H vs Q E hr h=>?_)
 ·obtain ⟨l,n,ms,c,rfl,_⟩:=h
  rfl
 ·obtain ⟨l,n,ms,c,rfl,hl,W,hn,k⟩:=h
  have hll:((Mir.nV ms).length:Int) = 2 * n:=by rw [Mir.nV_len,W.len];omega
  have sm:∀ x:Int,-(10 ^ 31:Int) < x→x < 10 ^ 31→Mir.Sm x:=fun x z1 z2=>Mir.Sm.of (by omega) (by omega)
  have mm:∀ x y:Nat,(if ((y:Nat):Int) < (x:Nat) then ((y:Nat):Int) else (x:Nat)) = ((min x y:Nat):Int)∧(if ((y:Nat):Int) > (x:Nat) then ((y:Nat):Int) else (x:Nat)) = ((max x y:Nat):Int):=fun x y=>⟨by split <;> omega,by split <;> omega⟩
  refine ⟨_,(pss_cons (ps_set (i:=2) sc_law_misfit.nd rfl (Or.inl rfl) (pe_op op_mod (pe_op op_fdiv (pv 1) pe_int) (pe_op op_pow pe_int pe_int)))
   (pss_cons (ps_set (i:=3) sc_law_misfit.nd rfl (Or.inl rfl) (pe_callB call_len_seq rfl B.len bb_len (pa_cons (pv 0) pa_nil)))
   (pss_cons (ps_set (i:=4) sc_law_misfit.nd rfl (Or.inl rfl) (pe_lst (pa_cons (pe_tup (pa_cons (pe_un un_neg pe_int) (pa_cons pe_int pa_nil))) (pa_cons (pe_tup (pa_cons pe_int (pa_cons (pv 3) pa_nil))) (pa_cons (pe_tup (pa_cons (pe_op op_sub (pe_un un_neg pe_int) (pv 2)) (pa_cons (pe_op op_sub (pe_un un_neg pe_int) (pv 2)) pa_nil))) (pa_cons (pe_tup (pa_cons (pe_op op_add (pv 3) (pv 2)) (pa_cons (pe_op op_add (pv 3) (pv 2)) pa_nil))) (pa_cons (pe_tup (pa_cons (pv 3) (pa_cons (pv 3) pa_nil))) pa_nil)))))))
   (pss_cons (ps_if (pt_cmpR op_gt (pv 3) pe_int (nomark _)) (pss_cons (ps_set (i:=5) sc_law_misfit.nd rfl (Or.inl rfl) (pe_op op_mod (pv 1) (pv 3)))
   (pss_cons (ps_expr (pe_bm PySem.F.plainAttrs_list PySem.F.slot_list_append PySem.F.type_list_append mt_append (pv 4) (pa_cons (pe_tup (pa_cons (pe_callB (call_min2 rfl) rfl B.min bb_min (pa_cons (pv 5) (pa_cons (pe_ix ix_list (pv 0) (pv 5) (fun _ _=>rfl)) pa_nil))) (pa_cons (pe_callB (call_max2 rfl) rfl B.max bb_max (pa_cons (pv 5) (pa_cons (pe_ix ix_list (pv 0) (pv 5) (fun _ _=>rfl)) pa_nil))) pa_nil))) pa_nil)))
   (pss_one (ps_if (pt_cmpR op_ne (pe_ix ix_list (pv 0) (pv 5) (fun _ _=>rfl)) (pv 5) (nomark _)) (pss_cons (ps_asg (pe_tup (pa_cons (pe_callB (call_max2 rfl) rfl B.max bb_max (pa_cons (pv 5) (pa_cons (pe_ix ix_list (pv 0) (pv 5) (fun _ _=>rfl)) pa_nil))) (pa_cons (pe_callB (call_min2 rfl) rfl B.min bb_min (pa_cons (pv 5) (pa_cons (pe_ix ix_list (pv 0) (pv 5) (fun _ _=>rfl)) pa_nil))) pa_nil))) (pg_sub (pv 4) (pe_un un_neg pe_int) set_list))
   (pss_one (ps_expr (pe_bm PySem.F.plainAttrs_list PySem.F.slot_list_append PySem.F.type_list_append mt_append (pv 4) (pa_cons (pe_tup (pa_cons (pe_callB (call_min2 rfl) rfl B.min bb_min (pa_cons (pv 5) (pa_cons (pe_ix ix_list (pv 0) (pv 5) (fun _ _=>rfl)) pa_nil))) (pa_cons (pe_callB (call_max2 rfl) rfl B.max bb_max (pa_cons (pv 5) (pa_cons (pe_ix ix_list (pv 0) (pv 5) (fun _ _=>rfl)) pa_nil))) pa_nil))) pa_nil))))) pss_nil)))) pss_nil)
   (ps_sem (R:=fun Z σ H7=>∃ (ls:Addr) (ds:List (Int×Int)) (v2 v3 v5:Option V),σ = [some (.ref l),some (.int c),v2,v3,some (.ref ls),v5]∧Same H H7∧Mir.TsT Mir.zp H7 ls ds∧ds≠[]∧(∀ d∈ds,(Mir.Sm d.1∧Mir.Sm d.2)∧¬ Mir.Fits n ms d.1 d.2)∧Z.rt = Q) fun Z σ H7 hR=>?rest))))),?_⟩
  case rest =>
   obtain ⟨ls,ds,v2,v3,v5,rfl,s7,tS,ne,all,rfl⟩:=hR
   refine ⟨_,(pss_one (ps_ret (pe_ix ix_list (pv 4) (pe_op op_mod (pe_op op_fdiv (pv 1) pe_int) (pe_callB call_len_seq rfl B.len bb_len (pa_cons (pv 4) pa_nil))) (fun _ _=>rfl)))),?_⟩
   obtain ⟨sv,v1,vl⟩:=tS.len
   have lp:0 < sv.length:=by rw [vl];exact List.length_pos_iff.mpr ne
   refine ⟨_,rfl,_,rfl,_,_,rfl,rfl,⟨by decide,by decide⟩,_,rfl,ls,_,rfl,.inl (SqL.of v1),_,_,rfl,rfl,(by show (0:Int) < ((sv.length:Nat):Int);omega),?_⟩
   dsimp only
   have m0:0≤c / 11 % ((sv.length:Nat):Int):=Int.emod_nonneg _ (by omega)
   have m1:c / 11 % ((sv.length:Nat):Int) < ((sv.length:Nat):Int):=Int.emod_lt_of_pos _ (by omega)
   obtain ⟨j,hj⟩:∃ j:Nat,c / 11 % ((sv.length:Nat):Int) = j:=⟨(c / 11 % ((sv.length:Nat):Int)).toNat,by omega⟩
   rw [hj]
   have hd:=List.getElem?_eq_getElem (l:=ds) (i:=j) (by omega)
   have hm:=List.mem_of_getElem? hd
   generalize ds[j] = d at hd hm
   obtain ⟨vs1,t,q1,q2,q3⟩:=tS.get hd
   obtain ⟨⟨a1,a2⟩,a3⟩:=all d hm
   exact ⟨ls,_,_,_,rfl,rfl,SqL.of q1,atI_nat (j:=j) q2,k t H7 d s7 q3 a1 a2 a3⟩
  refine ⟨_,rfl,_,_,rfl,rfl,⟨by decide,by decide⟩,_,_,rfl,rfl,⟨by decide,by decide,by decide⟩,_,_,rfl,rfl,(by show (0:Int) < 10 ^ 30;decide),?_⟩
  dsimp only
  have f0:0≤c / 1009 % (10 ^ 30:Int):=Int.emod_nonneg _ (by decide)
  have f1:c / 1009 % (10 ^ 30:Int) < 10 ^ 30:=Int.emod_lt_of_pos _ (by decide)
  rw [show ((10:Int) ^ (30:Int).toNat) = 10 ^ 30 from rfl]
  generalize c / 1009 % (10 ^ 30:Int) = far at f0 f1
  refine ⟨_,rfl,l,_,rfl,.inl (SqL.of hl),?_⟩
  rw [hll]
  refine ⟨_,rfl,by show 2≤sizeLine;decide,fun t1 et1=>?_⟩
  have st1:Same H (upd H t1 (.tup [.int (-1),.int (0)])):=same_upd et1
  have qt1:upd H t1 (.tup [.int (-1),.int (0)]) t1 = some (.tup (Mir.zp (-1,0))):=upd_same
  generalize upd H t1 (.tup [.int (-1),.int (0)]) = H1 at st1 qt1
  refine ⟨_,rfl,by show 2≤sizeLine;decide,fun t2 et2=>?_⟩
  have st2:Same H1 (upd H1 t2 (.tup [.int (0),.int (2 * (n:Int))])):=same_upd et2
  have qt2:upd H1 t2 (.tup [.int (0),.int (2 * (n:Int))]) t2 = some (.tup (Mir.zp (0,2 * (n:Int)))):=upd_same
  generalize upd H1 t2 (.tup [.int (0),.int (2 * (n:Int))]) = H2 at st2 qt2
  refine ⟨_,rfl,_,rfl,_,_,rfl,rfl,_,rfl,_,rfl,_,_,rfl,rfl,by show 2≤sizeLine;decide,fun t3 et3=>?_⟩
  have st3:Same H2 (upd H2 t3 (.tup [.int (-1 - far),.int (-1 - far)])):=same_upd et3
  have qt3:upd H2 t3 (.tup [.int (-1 - far),.int (-1 - far)]) t3 = some (.tup (Mir.zp (-1 - far,-1 - far))):=upd_same
  generalize upd H2 t3 (.tup [.int (-1 - far),.int (-1 - far)]) = H3 at st3 qt3
  refine ⟨_,rfl,_,rfl,_,_,rfl,rfl,_,rfl,_,rfl,_,_,rfl,rfl,by show 2≤sizeLine;decide,fun t4 et4=>?_⟩
  have st4:Same H3 (upd H3 t4 (.tup [.int (2 * (n:Int) + far),.int (2 * (n:Int) + far)])):=same_upd et4
  have qt4:upd H3 t4 (.tup [.int (2 * (n:Int) + far),.int (2 * (n:Int) + far)]) t4 = some (.tup (Mir.zp (2 * (n:Int) + far,2 * (n:Int) + far))):=upd_same
  generalize upd H3 t4 (.tup [.int (2 * (n:Int) + far),.int (2 * (n:Int) + far)]) = H4 at st4 qt4
  refine ⟨_,rfl,_,rfl,by show 2≤sizeLine;decide,fun t5 et5=>?_⟩
  have st5:Same H4 (upd H4 t5 (.tup [.int (2 * (n:Int)),.int (2 * (n:Int))])):=same_upd et5
  have qt5:upd H4 t5 (.tup [.int (2 * (n:Int)),.int (2 * (n:Int))]) t5 = some (.tup (Mir.zp (2 * (n:Int),2 * (n:Int)))):=upd_same
  generalize upd H4 t5 (.tup [.int (2 * (n:Int)),.int (2 * (n:Int))]) = H5 at st5 qt5
  refine ⟨by show 5≤sizeLine;decide,fun ls hls=>?_⟩
  have s6:Same H5 (upd H5 ls (.lst [.ref t1,.ref t2,.ref t3,.ref t4,.ref t5])):=same_upd hls
  have s05:=st1.trans (st2.trans (st3.trans (st4.trans st5)))
  have fls:H ls = none:=by cases q:H ls with | none=>rfl | some o=>have:=s05 _ _ q;rw [hls] at this;cases this
  have tS:Mir.TsT Mir.zp (upd H5 ls (.lst [.ref t1,.ref t2,.ref t3,.ref t4,.ref t5])) ls [(-1,0),(0,2 * (n:Int)),(-1 - far,-1 - far),(2 * (n:Int) + far,2 * (n:Int) + far),(2 * (n:Int),2 * (n:Int))]:=⟨[t1,t2,t3,t4,t5],upd_same,rfl,fun i t d e1 e2=>by
   match i,e1,e2 with
   | 0,e1,e2=>obtain rfl:=Option.some.inj e1;obtain rfl:=Option.some.inj e2;exact s6 _ _ (st5 _ _ (st4 _ _ (st3 _ _ (st2 _ _ qt1))))
   | 1,e1,e2=>obtain rfl:=Option.some.inj e1;obtain rfl:=Option.some.inj e2;exact s6 _ _ (st5 _ _ (st4 _ _ (st3 _ _ qt2)))
   | 2,e1,e2=>obtain rfl:=Option.some.inj e1;obtain rfl:=Option.some.inj e2;exact s6 _ _ (st5 _ _ (st4 _ _ qt3))
   | 3,e1,e2=>obtain rfl:=Option.some.inj e1;obtain rfl:=Option.some.inj e2;exact s6 _ _ (st5 _ _ qt4)
   | 4,e1,e2=>obtain rfl:=Option.some.inj e1;obtain rfl:=Option.some.inj e2;exact s6 _ _ qt5
   | i + 5,e1,e2=>cases e1⟩
  have s06:=s05.trans s6
  generalize upd H5 ls (.lst [.ref t1,.ref t2,.ref t3,.ref t4,.ref t5]) = H6 at s06 tS
  have base:∀ d∈[((-1:Int),(0:Int)),(0,2 * (n:Int)),(-1 - far,-1 - far),(2 * (n:Int) + far,2 * (n:Int) + far),(2 * (n:Int),2 * (n:Int))],(Mir.Sm d.1∧Mir.Sm d.2)∧¬ Mir.Fits n ms d.1 d.2:=fun d hd=>by
   have nf:∀ p q:Int,p < 0∨2 * (n:Int)≤q→¬ Mir.Fits n ms p q:=fun p q z h=>by
    obtain ⟨h0,h1,h2,_⟩:=h
    omega
   simp only [List.mem_cons,List.not_mem_nil,or_false] at hd
   rcases hd with rfl | rfl | rfl | rfl | rfl
   ·exact ⟨⟨sm _ (by decide) (by decide),sm _ (by decide) (by decide)⟩,nf _ _ (.inl (by decide))⟩
   ·exact ⟨⟨sm 0 (by decide) (by decide),sm _ (by omega) (by omega)⟩,nf _ _ (.inr (Int.le_refl _))⟩
   ·exact ⟨⟨sm _ (by show _ < -1 - far;omega) (by show -1 - far < _;omega),sm _ (by show _ < -1 - far;omega) (by show -1 - far < _;omega)⟩,nf _ _ (.inl (by show -1 - far < 0;omega))⟩
   ·exact ⟨⟨sm _ (by show _ < 2 * (n:Int) + far;omega) (by show 2 * (n:Int) + far < _;omega),sm _ (by show _ < 2 * (n:Int) + far;omega) (by show 2 * (n:Int) + far < _;omega)⟩,nf _ _ (.inr (by show 2 * (n:Int)≤2 * (n:Int) + far;omega))⟩
   ·exact ⟨⟨sm _ (by show _ < 2 * (n:Int);omega) (by show 2 * (n:Int) < _;omega),sm _ (by show _ < 2 * (n:Int);omega) (by show 2 * (n:Int) < _;omega)⟩,nf _ _ (.inr (Int.le_refl _))⟩
  have dne:[((-1:Int),(0:Int)),(0,2 * (n:Int)),(-1 - far,-1 - far),(2 * (n:Int) + far,2 * (n:Int) + far),(2 * (n:Int),2 * (n:Int))]≠[]:=List.cons_ne_nil _ _
  have dl:[((-1:Int),(0:Int)),(0,2 * (n:Int)),(-1 - far,-1 - far),(2 * (n:Int) + far,2 * (n:Int) + far),(2 * (n:Int),2 * (n:Int))].length = 5:=rfl
  generalize [((-1:Int),(0:Int)),(0,2 * (n:Int)),(-1 - far,-1 - far),(2 * (n:Int) + far,2 * (n:Int) + far),(2 * (n:Int),2 * (n:Int))] = ds0 at tS base dne dl
  refine ⟨_,rfl,_,_,rfl,rfl,_,rfl,ite2 (fun z=>?_) (fun z=>⟨ls,ds0,_,_,_,rfl,s06,tS,dne,base,rfl⟩)⟩
  have np:(0:Int) < 2 * (n:Int):=of_decide_eq_true z
  refine ⟨_,rfl,_,rfl,_,_,rfl,rfl,np,?_⟩
  dsimp only
  obtain ⟨lo,hlo,lo2⟩:∃ y:Nat,c % (2 * (n:Int)) = y∧y < 2 * n:=by
   have a0:0≤c % (2 * (n:Int)):=Int.emod_nonneg _ (by omega)
   have a1:c % (2 * (n:Int)) < 2 * (n:Int):=Int.emod_lt_of_pos _ (by omega)
   exact ⟨(c % (2 * (n:Int))).toNat,by omega,by omega⟩
  rw [hlo]
  have im:=W.wk.lt lo lo2
  have iv:=W.wk.inv lo lo2
  have ix:=W.ix lo2
  have hl6:=s06 _ _ hl
  obtain ⟨ts,w1,w2⟩:=tS.tup
  have tl:ts.length = 5:=w2.1.trans dl
  generalize hm:Mir.at0 ms lo = mt at im iv ix
  have sn:∀ x:Nat,x < 2 * n→Mir.Sm (x:Int):=fun x z=>Mir.Sm.of (by omega) (by omega)
  have clasp:¬ Mir.Fits n ms ((min lo mt:Nat):Int) ((max lo mt:Nat):Int):=fun h=>by
   have h3:=h.2.2.2
   rw [Int.toNat_natCast] at h3
   by_cases le:lo≤mt
   ·rw [Nat.min_eq_left le,Nat.max_eq_right le,hm] at h3
    exact h3 rfl
   ·rw [Nat.min_eq_right (by omega),Nat.max_eq_left (by omega),iv] at h3
    exact h3 rfl
  refine ⟨_,rfl,.inl ⟨rfl,_,SqL.of w1⟩,_,rfl,_,rfl,_,rfl,l,_,_,_,rfl,rfl,SqL.of hl6,ix,_,_,rfl,_,rfl,_,rfl,_,rfl,l,_,_,_,rfl,rfl,SqL.of hl6,ix,_,_,rfl,by show 2≤sizeLine;decide,fun t6 e6=>?_⟩
  dsimp only
  rw [(mm lo mt).1,(mm lo mt).2]
  have s7:Same H6 (upd H6 t6 (.tup [.int ((min lo mt:Nat):Int),.int ((max lo mt:Nat):Int)])):=same_upd e6
  have q6:upd H6 t6 (.tup [.int ((min lo mt:Nat):Int),.int ((max lo mt:Nat):Int)]) t6 = some (.tup (Mir.zp (((min lo mt:Nat):Int),((max lo mt:Nat):Int)))):=upd_same
  generalize upd H6 t6 (.tup [.int ((min lo mt:Nat):Int),.int ((max lo mt:Nat):Int)]) = H7 at s7 q6
  have w7:=s7 _ _ w1
  refine ⟨ls,_,_,rfl,rfl,w7,small1000 (by rw [List.length_map];omega),?_⟩
  have T8:=((w2.same s7).app (Mir.Tup.one q6)).upd (o:=.lst (ts.map V.ref ++ [.ref t6])) w7
  have T8b:=(w2.same s7).upd (o:=.lst (ts.map V.ref ++ [.ref t6])) w7
  have s08:Same H (upd H7 ls (.lst (ts.map V.ref ++ [.ref t6]))):=(s06.trans s7).upd fls
  have h8:upd H7 ls (.lst (ts.map V.ref ++ [.ref t6])) ls = some (.lst (ts.map V.ref ++ [.ref t6])):=upd_same
  generalize upd H7 ls (.lst (ts.map V.ref ++ [.ref t6])) = H8 at T8 T8b s08 h8
  have hl8:=s08 _ _ hl
  have out:∀ (H9:Hp) (d:Int×Int) (rest:List (Int×Int)),(∀ e∈rest,(Mir.Sm e.1∧Mir.Sm e.2)∧¬ Mir.Fits n ms e.1 e.2)→∀ e∈ds0 ++ rest,(Mir.Sm e.1∧Mir.Sm e.2)∧¬ Mir.Fits n ms e.1 e.2:=fun H9 d rest hr e he=>by
   rcases List.mem_append.mp he with h | h
   ·exact base e h
   ·exact hr e h
  refine ⟨_,rfl,_,rfl,l,_,_,_,rfl,rfl,SqL.of hl8,ix,_,rfl,rfl,_,rfl,ite2 (fun z2=>?_) (fun z2=>?_)⟩
  ·refine ⟨_,rfl,_,rfl,_,rfl,l,_,_,_,rfl,rfl,SqL.of hl8,ix,_,_,rfl,_,rfl,_,rfl,_,rfl,l,_,_,_,rfl,rfl,SqL.of hl8,ix,_,_,rfl,by show 2≤sizeLine;decide,fun t7 e7=>?_⟩
   dsimp only
   rw [(mm lo mt).1,(mm lo mt).2]
   have ne:mt≠lo:=fun e=>absurd z2 (by rw [e];simp)
   have s9:Same H8 (upd H8 t7 (.tup [.int ((max lo mt:Nat):Int),.int ((min lo mt:Nat):Int)])):=same_upd e7
   have q7:upd H8 t7 (.tup [.int ((max lo mt:Nat):Int),.int ((min lo mt:Nat):Int)]) t7 = some (.tup (Mir.zp (((max lo mt:Nat):Int),((min lo mt:Nat):Int)))):=upd_same
   generalize upd H8 t7 (.tup [.int ((max lo mt:Nat):Int),.int ((min lo mt:Nat):Int)]) = H9 at s9 q7
   have h9:=s9 _ _ h8
   have ixl:ixN (ts.map V.ref ++ [V.ref t6]).length (-1) = some 5:=by rw [List.length_append,List.length_map,tl];rfl
   refine ⟨_,rfl,_,rfl,ls,_,_,5,rfl,rfl,h9,ixl,?_⟩
   have e0:(ts.map V.ref ++ [V.ref t6]).set 5 (.ref t7) = (ts ++ [t7]).map V.ref:=by
    rw [List.set_append_right _ _ (by rw [List.length_map];omega),List.length_map,tl,List.map_append]
    rfl
   rw [e0]
   have T10:=((T8b.same s9).app (Mir.Tup.one q7)).upd (o:=.lst ((ts ++ [t7]).map V.ref)) h9
   have s010:Same H (upd H9 ls (.lst ((ts ++ [t7]).map V.ref))):=(s08.trans s9).upd fls
   have h10:upd H9 ls (.lst ((ts ++ [t7]).map V.ref)) ls = some (.lst ((ts ++ [t7]).map V.ref)):=upd_same
   generalize upd H9 ls (.lst ((ts ++ [t7]).map V.ref)) = H10 at T10 s010 h10
   have hl10:=s010 _ _ hl
   refine ⟨_,rfl,.inl ⟨rfl,_,SqL.of h10⟩,_,rfl,_,rfl,_,rfl,l,_,_,_,rfl,rfl,SqL.of hl10,ix,_,_,rfl,_,rfl,_,rfl,_,rfl,l,_,_,_,rfl,rfl,SqL.of hl10,ix,_,_,rfl,by show 2≤sizeLine;decide,fun t8 e8=>?_⟩
   dsimp only
   rw [(mm lo mt).1,(mm lo mt).2]
   have s11:Same H10 (upd H10 t8 (.tup [.int ((min lo mt:Nat):Int),.int ((max lo mt:Nat):Int)])):=same_upd e8
   have q8:upd H10 t8 (.tup [.int ((min lo mt:Nat):Int),.int ((max lo mt:Nat):Int)]) t8 = some (.tup (Mir.zp (((min lo mt:Nat):Int),((max lo mt:Nat):Int)))):=upd_same
   generalize upd H10 t8 (.tup [.int ((min lo mt:Nat):Int),.int ((max lo mt:Nat):Int)]) = H11 at s11 q8
   have h11:=s11 _ _ h10
   refine ⟨ls,_,_,rfl,rfl,h11,small1000 (by rw [List.length_map,List.length_append,tl];show 5 + 1≤1000;decide),?_⟩
   have T12:=((T10.same s11).app (Mir.Tup.one q8)).upd (o:=.lst ((ts ++ [t7]).map V.ref ++ [.ref t8])) h11
   refine ⟨ls,(ds0 ++ [(((max lo mt:Nat):Int),((min lo mt:Nat):Int))]) ++ [(((min lo mt:Nat):Int),((max lo mt:Nat):Int))],_,_,_,rfl,(s010.trans s11).upd fls,T12.tst (by rw [upd_same,List.map_append (l₁:=ts ++ [t7])];rfl),by simp,fun e he=>?_,rfl⟩
   rw [List.append_assoc] at he
   refine out H8 (0,0) _ (fun e he=>?_) e he
   rcases List.mem_cons.mp he with rfl | he
   ·exact ⟨⟨sn _ (by omega),sn _ (by omega)⟩,fun h=>by have:=h.2.1;omega⟩
   ·rw [List.mem_singleton.mp he]
    exact ⟨⟨sn _ (by omega),sn _ (by omega)⟩,clasp⟩
  ·have em:mt = lo:=by
    by_cases e:mt = lo
    ·exact e
    ·exact absurd (by simp;omega) z2
   refine ⟨ls,ds0 ++ [(((min lo mt:Nat):Int),((max lo mt:Nat):Int))],_,_,_,rfl,s08,T8.tst (by rw [h8,List.map_append];rfl),by simp,out H8 (0,0) _ (fun e he=>?_),rfl⟩
   rw [List.mem_singleton.mp he]
   exact ⟨⟨sn _ (by omega),sn _ (by omega)⟩,clasp⟩
end
section
seal L2.PSs L2.PS L2.PE L2.PT L2.PA
variable {P:Program} {w:World} {K:PySem.W.Frag} {mg:Str→Option Value} {base:Heap}
theorem ok_law_thread_else {f:Addr} {fd:FuncData} (B:Bl mg) (F:Fn K mg "_law_thread_else" s_law_thread_else ["thread","cell"] f fd):FnOk P w K mg base CX0 1 f fd ["thread","cell"] Mir.spThrElse:=by
 refine F.fn.ok sc_law_thread_else (fun vs H Q E h=>?_) (fun cdv A outer s H vs Q E hr h=>?_)
 ·obtain ⟨t,kd,e,ns,c,rfl,_⟩:=h
  rfl
 ·obtain ⟨t,kd,e,ns,c,rfl,ht,he,ne,nd,nl,k⟩:=h
  have hu:=hu_of hr
  refine ⟨_,(pss_cons (ps_asg (pv 0) (pg_tup rfl (pgs_cons (pg_name (i:=2) sc_law_thread_else.nd rfl (Or.inl rfl)) (pgs_cons (pg_name (i:=3) sc_law_thread_else.nd rfl (Or.inl rfl)) pgs_nil))))
   (pss_cons (ps_set (i:=4) sc_law_thread_else.nd rfl (Or.inl rfl) (pe_lst (pa_cons pe_str (pa_cons pe_str (pa_cons pe_str (pa_cons pe_str pa_nil))))))
   (pss_cons (ps_if (pt_cmpR op_eq (pe_op op_mod (pv 1) pe_int) pe_int (nomark _)) (pss_one (ps_ret (pe_tup (pa_cons (pe_ix ix_list (pv 4) (pe_op op_mod (pe_op op_add (pe_op op_add (pe_bm PySem.F.plainAttrs_list PySem.F.slot_list_index PySem.F.type_list_index (mt_indexS (Nat.lt_of_succ_lt hu)) (pv 4) (pa_cons (pv 2) pa_nil)) pe_int) (pe_op op_mod (pe_op op_fdiv (pv 1) pe_int) pe_int)) (pe_callB call_len_seq rfl B.len bb_len (pa_cons (pv 4) pa_nil))) (fun _ _=>rfl)) (pa_cons (pv 3) pa_nil))))) pss_nil)
   (pss_cons (ps_if (PW.pt (pw_and (pt_cmpR op_eq (pe_op op_mod (pv 1) pe_int) pe_int (nomark _)) (pw_and1 (pt_cmpR op_gt (pe_callB call_len_seq rfl B.len bb_len (pa_cons (pv 3) pa_nil)) pe_int (nomark _))))) (pss_one (ps_ret (pe_tup (pa_cons (pv 2) (pa_cons (pe_op op_catA (pe_slice sl_tup (pv 3) (po_some pe_int) po_none) (pe_slice sl_tup (pv 3) po_none (po_some pe_int))) pa_nil))))) pss_nil)
   (ps_sem (R:=fun Z σ H7=>∃ lk:Addr,σ = [some (.ref t),some (.int c),some (.str (Mir.ks kd)),some (.ref e),some (.ref lk),none]∧Same H H7∧Z.rt = Q) fun Z σ H7 hR=>?rest))))),?_⟩
  case rest =>
   obtain ⟨lk,rfl,s7,rfl⟩:=hR
   have he7:=s7 _ _ he
   have np:0 < ns.length:=List.length_pos_iff.mpr ne
   refine ⟨_,(pss_cons (ps_set (i:=5) sc_law_thread_else.nd rfl (Or.inl rfl) (pe_op op_mod (pe_op op_fdiv (pv 1) pe_int) (pe_callB call_len_seq rfl B.len bb_len (pa_cons (pv 3) pa_nil))))
   (pss_one (ps_ret (pe_tup (pa_cons (pv 2) (pa_cons (pe_op op_catA (pe_op op_catA (pe_slice sl_tup (pv 3) po_none (po_some (pv 5))) (pe_tup (pa_cons (pe_op op_add (pe_op op_add (pe_ix ix_tup (pv 3) (pv 5) (fun _ _=>rfl)) pe_int) (pe_op op_mod (pe_op op_fdiv (pv 1) pe_int) pe_int)) pa_nil))) (pe_slice sl_tup (pv 3) (po_some (pe_op op_add (pv 5) pe_int)) po_none)) pa_nil)))))),?_⟩
   refine ⟨_,rfl,_,_,rfl,rfl,⟨by decide,by decide⟩,_,rfl,e,_,rfl,.inr (SqT.of he7),_,_,rfl,rfl,(by rw [Mir.iV_len];show (0:Int) < ((ns.length:Nat):Int);omega),?_⟩
   dsimp only
   rw [Mir.iV_len]
   have m0:0≤c / 3 % ((ns.length:Nat):Int):=Int.emod_nonneg _ (by omega)
   have m1:c / 3 % ((ns.length:Nat):Int) < ((ns.length:Nat):Int):=Int.emod_lt_of_pos _ (by omega)
   obtain ⟨j,hj⟩:∃ j:Nat,c / 3 % ((ns.length:Nat):Int) = j:=⟨(c / 3 % ((ns.length:Nat):Int)).toNat,by omega⟩
   rw [hj]
   have jl:j < ns.length:=by omega
   refine ⟨_,rfl,_,rfl,_,rfl,_,rfl,e,_,rfl,SqT.of he7,(fun z=>by have:=z.2;rw [HT.sIx_nat,Mir.iV_len] at this;omega),fun p1 hp1=>?_⟩
   rw [Mir.cutV_to,Mir.iV_take]
   have s8:Same H7 (upd H7 p1 (.tup (Mir.iV (ns.take j)))):=same_upd hp1
   have q8:upd H7 p1 (.tup (Mir.iV (ns.take j))) p1 = some (.tup (Mir.iV (ns.take j))):=upd_same
   generalize upd H7 p1 (.tup (Mir.iV (ns.take j))) = H8 at s8 q8
   have he8:=s8 _ _ he7
   have gx:(Mir.iV ns)[j]? = some (.int (ns[j]'jl)):=by unfold Mir.iV;rw [List.getElem?_map,List.getElem?_eq_getElem jl];rfl
   refine ⟨_,rfl,_,rfl,e,_,_,_,rfl,rfl,SqT.of he8,atI_nat (j:=j) gx,_,_,rfl,rfl,_,rfl,_,_,rfl,rfl,⟨by decide,by decide⟩,_,_,rfl,rfl,(by show (0:Int) < 3;decide),_,_,rfl,rfl,by show 1≤sizeLine;decide,fun p2 hp2=>?_⟩
   dsimp only
   have m3:0≤c / 41 % (3:Int):=Int.emod_nonneg _ (by decide)
   generalize hx:ns[j]'jl + 1 + c / 41 % 3 = x
   have xn:x≠ns[j]'jl:=by omega
   have s9:Same H8 (upd H8 p2 (.tup [.int x])):=same_upd hp2
   have q9:upd H8 p2 (.tup [.int x]) p2 = some (.tup (Mir.iV [x])):=upd_same
   generalize upd H8 p2 (.tup [.int x]) = H9 at s9 q9
   refine ⟨p1,p2,_,_,rfl,rfl,s9 _ _ q8,q9,small1000 (by rw [Mir.iV_len,Mir.iV_len,List.length_take,List.length_singleton];omega) |> Nat.le_of_lt,fun p3 H10 s10 h10=>?_⟩
   rw [Mir.iV_cat] at h10
   have he10:=s10 _ _ (s9 _ _ he8)
   refine ⟨_,rfl,_,rfl,_,_,rfl,rfl,_,rfl,e,_,rfl,SqT.of he10,(fun z=>by have:=z.1;rw [show ((j:Nat):Int) + 1 = ((j + 1:Nat):Int) by omega,HT.sIx_nat,Mir.iV_len] at this;omega),fun p4 hp4=>?_⟩
   dsimp only
   rw [show ((j:Nat):Int) + 1 = ((j + 1:Nat):Int) by omega,Mir.cutV_from,Mir.iV_drop]
   have s11:Same H10 (upd H10 p4 (.tup (Mir.iV (ns.drop (j + 1))))):=same_upd hp4
   have q11:upd H10 p4 (.tup (Mir.iV (ns.drop (j + 1)))) p4 = some (.tup (Mir.iV (ns.drop (j + 1)))):=upd_same
   generalize upd H10 p4 (.tup (Mir.iV (ns.drop (j + 1)))) = H11 at s11 q11
   refine ⟨p3,p4,_,_,rfl,rfl,s11 _ _ h10,q11,small1000 (by rw [Mir.iV_len,Mir.iV_len,List.length_append,List.length_take,List.length_singleton,List.length_drop];omega) |> Nat.le_of_lt,fun p5 H12 s12 h12=>?_⟩
   rw [Mir.iV_cat] at h12
   refine ⟨by show 2≤sizeLine;decide,fun pu hpu=>?_⟩
   have s13:Same H12 (upd H12 pu (.tup [.str (Mir.ks kd),.ref p5])):=same_upd hpu
   refine k pu _ (Mir.ks kd,p5,ns.take j ++ [x] ++ ns.drop (j + 1)) (s7.trans (s8.trans (s9.trans (s10.trans (s11.trans (s12.trans s13)))))) upd_same (s13 _ _ h12) (fun z=>?_)
   have z2:ns.take j ++ [x] ++ ns.drop (j + 1) = ns:=congrArg (fun y:Mir.Tz=>y.2) z
   have z3:=congrArg (fun y=>y[j]?) z2
   rw [List.append_assoc,List.getElem?_append_right (by rw [List.length_take];omega),List.length_take,Nat.min_eq_left (by omega),Nat.sub_self,List.getElem?_eq_getElem jl] at z3
   exact xn (Option.some.inj z3)
  refine ⟨_,rfl,t,_,rfl,SqT.of ht,rfl,_,_,rfl,_,_,rfl,rfl,?_⟩
  refine ⟨by show 4≤sizeLine;decide,fun lk hlk=>?_⟩
  have s1:Same H (upd H lk (.lst [.str "ring",.str "odd",.str "bare",.str "tied"])):=same_upd hlk
  have q1:upd H lk (.lst [.str "ring",.str "odd",.str "bare",.str "tied"]) lk = some (.lst ((["ring","odd","bare","tied"]:List Str).map V.str)):=upd_same
  generalize upd H lk (.lst [.str "ring",.str "odd",.str "bare",.str "tied"]) = H1 at s1 q1
  have he1:=s1 _ _ he
  have np:0 < ns.length:=List.length_pos_iff.mpr ne
  have kl:=Mir.kN_lt kd
  refine ⟨_,rfl,_,_,rfl,rfl,(by show (0:Int) < 3;decide),rfl,_,rfl,ite2 (fun _=>?_) (fun _=>?_)⟩
  ·refine ⟨_,rfl,_,rfl,.inl ⟨rfl,_,SqL.of q1⟩,_,rfl,lk,_,Mir.kN kd,_,rfl,rfl,q1,Mir.ks_at kd,fun m hm=>?_,?_⟩
   ·rw [← Mir.ks_at kd]
    exact Mir.ks_ne (by omega) kl (by omega)
   refine ⟨_,_,rfl,rfl,_,rfl,_,_,rfl,rfl,⟨by decide,by decide⟩,_,_,rfl,rfl,(by show (0:Int) < 3;decide),_,_,rfl,rfl,_,rfl,lk,_,rfl,.inl (SqL.of q1),_,_,rfl,rfl,(by show (0:Int) < 4;decide),?_⟩
   dsimp only
   rw [show (((["ring","odd","bare","tied"]:List Str).map V.str).length:Int) = 4 from rfl]
   have r0:0≤c / 3 % (3:Int):=Int.emod_nonneg _ (by decide)
   have r1:c / 3 % (3:Int) < 3:=Int.emod_lt_of_pos _ (by decide)
   obtain ⟨j,hj,j4,jn⟩:∃ j:Nat,((Mir.kN kd:Nat) + 1 + c / 3 % 3:Int) % 4 = j∧j < 4∧j≠Mir.kN kd:=⟨(((Mir.kN kd:Nat) + 1 + c / 3 % 3:Int) % 4).toNat,by omega,by omega,by omega⟩
   rw [hj]
   obtain ⟨z,hz⟩:∃ z,(["ring","odd","bare","tied"]:List Str)[j]? = some z:=⟨_,List.getElem?_eq_getElem j4⟩
   refine ⟨lk,_,_,_,rfl,rfl,SqL.of q1,atI_nat (j:=j) (by rw [List.getElem?_map,hz];rfl),_,rfl,by show 2≤sizeLine;decide,fun p hp=>?_⟩
   have s2:Same H1 (upd H1 p (.tup [.str z,.ref e])):=same_upd hp
   refine k p _ (z,e,ns) (s1.trans s2) upd_same (s2 _ _ he1) (fun y=>?_)
   have y1:z = Mir.ks kd:=congrArg (fun v:Mir.Tz=>v.1) y
   exact Mir.ks_ne j4 kl jn (by rw [hz,y1,Mir.ks_at])
  ·refine ⟨_,rfl,_,_,rfl,rfl,(by show (0:Int) < 3;decide),rfl,_,rfl,ite2 (fun _=>?_) (fun _=>iteF ⟨lk,rfl,s1,rfl⟩)⟩
   refine ⟨_,rfl,e,_,rfl,.inr (SqT.of he1),_,_,rfl,rfl,_,rfl,ite2 (fun z=>?_) (fun _=>⟨lk,rfl,s1,rfl⟩)⟩
   have n3:2 < ns.length:=by
    have:=of_decide_eq_true z
    rw [Mir.iV_len] at this
    omega
   refine ⟨_,rfl,_,rfl,_,rfl,e,_,rfl,SqT.of he1,(fun z=>by have:=z.1;rw [show (1:Int) = ((1:Nat):Int) from rfl,HT.sIx_nat,Mir.iV_len] at this;omega),fun p1 hp1=>?_⟩
   rw [show (1:Int) = ((1:Nat):Int) from rfl,Mir.cutV_from,Mir.iV_drop]
   have s2:Same H1 (upd H1 p1 (.tup (Mir.iV (ns.drop 1)))):=same_upd hp1
   have q2:upd H1 p1 (.tup (Mir.iV (ns.drop 1))) p1 = some (.tup (Mir.iV (ns.drop 1))):=upd_same
   generalize upd H1 p1 (.tup (Mir.iV (ns.drop 1))) = H2 at s2 q2
   have he2:=s2 _ _ he1
   refine ⟨_,rfl,_,rfl,e,_,rfl,SqT.of he2,(fun z=>by have:=z.2;rw [HT.sIx_nat,Mir.iV_len] at this;omega),fun p2 hp2=>?_⟩
   rw [Mir.cutV_to,Mir.iV_take]
   have s3:Same H2 (upd H2 p2 (.tup (Mir.iV (ns.take 1)))):=same_upd hp2
   have q3:upd H2 p2 (.tup (Mir.iV (ns.take 1))) p2 = some (.tup (Mir.iV (ns.take 1))):=upd_same
   generalize upd H2 p2 (.tup (Mir.iV (ns.take 1))) = H3 at s3 q3
   refine ⟨p1,p2,_,_,rfl,rfl,s3 _ _ q2,q3,small1000 (by rw [Mir.iV_len,Mir.iV_len,List.length_take,List.length_drop];omega) |> Nat.le_of_lt,fun p3 H4 s4 h4=>?_⟩
   rw [Mir.iV_cat] at h4
   refine ⟨by show 2≤sizeLine;decide,fun pu hpu=>?_⟩
   have s5:Same H4 (upd H4 pu (.tup [.str (Mir.ks kd),.ref p3])):=same_upd hpu
   refine k pu _ (Mir.ks kd,p3,ns.drop 1 ++ ns.take 1) (s1.trans (s2.trans (s3.trans (s4.trans s5)))) upd_same (s5 _ _ h4) (fun z=>?_)
   have z2:ns.drop 1 ++ ns.take 1 = ns:=congrArg (fun y:Mir.Tz=>y.2) z
   match ns,n3,nd with
   | x :: y :: r,_,nd=>exact Mir.rot_ne nd z2
end
section
seal L2.PSs L2.PS L2.PE L2.PT L2.PA
variable {P:Program} {w:World} {K:PySem.W.Frag} {mg:Str→Option Value} {base:Heap}
theorem ok_law_elsewhere {f f1:Addr} {fd fd1:FuncData} (B:Bl mg) (F:Fn K mg "_law_elsewhere" s_law_elsewhere ["work","other","cell"] f fd) (F_law_done:Fn K mg "_law_done" s_law_done ["mates","one","other"] f1 fd1) (G_law_done:FnOk P w K mg base CX0 2 f1 fd1 ["mates","one","other"] Mir.spLawDone):FnOk P w K mg base CX0 3 f fd ["work","other","cell"] Mir.spElse26:=by
 refine F.fn.ok sc_law_elsewhere (fun vs H Q E h=>?_) (fun cdv A outer s H vs Q E hr h=>?_)
 ·obtain ⟨l1,l2,n,ms,os,c,rfl,_⟩:=h
  rfl
 ·obtain ⟨l1,l2,n,ms,os,c,rfl,h1,W,h2,WO,hn,k⟩:=h
  have hu:=hu_of hr
  have hlm:((Mir.nV ms).length:Int) = 2 * n:=by rw [Mir.nV_len,W.len];omega
  refine ⟨_,(pss_cons (ps_set (i:=3) sc_law_elsewhere.nd rfl (Or.inl rfl) (pe_lst pa_nil))
   (pss_cons (ps_for PassesOwn.never rfl (pi_range1 rfl B.range (pa_cons (pe_callB call_len_seq rfl B.len bb_len (pa_cons (pv 0) pa_nil)) pa_nil)) (pg_name (i:=4) sc_law_elsewhere.nd rfl (Or.inl rfl)) (pss_one (ps_for PassesOwn.never rfl (pi_range2 rfl B.range (pa_cons (pv 4) (pa_cons (pe_callB call_len_seq rfl B.len bb_len (pa_cons (pv 0) pa_nil)) pa_nil))) (pg_name (i:=5) sc_law_elsewhere.nd rfl (Or.inl rfl)) (pss_cons (ps_set (i:=6) sc_law_elsewhere.nd rfl (Or.inl rfl) (pe_fn G_law_done F_law_done (hr.mono (by decide)) (pa_cons (pv 0) (pa_cons (pv 4) (pa_cons (pv 5) pa_nil)))))
   (pss_one (ps_if (PW.pt (pw_and (pt_cmpR op_notN (pv 6) pe_non (nomark _)) (pw_and1 (pt_cmpR (op_ne_intsD (Nat.lt_of_succ_lt hu)) (pv 6) (pv 1) (nomark _))))) (pss_one (ps_expr (pe_bm PySem.F.plainAttrs_list PySem.F.slot_list_append PySem.F.type_list_append mt_append (pv 3) (pa_cons (pe_tup (pa_cons (pv 4) (pa_cons (pv 5) pa_nil))) pa_nil)))) pss_nil))))))
   (pss_cons (ps_if (pt_cmpR (op_eq_nil (K:=K) rfl (Nat.lt_of_succ_lt hu)) (pv 3) (pe_lst pa_nil) (nomark _)) (pss_one (ps_ret (pe_lst pa_nil))) pss_nil)
   (pss_one (ps_ret (pe_lst (pa_cons (pe_ix ix_list (pv 3) (pe_op op_mod (pv 2) (pe_callB call_len_seq rfl B.len bb_len (pa_cons (pv 3) pa_nil))) (fun _ _=>rfl)) pa_nil))))))),?_⟩
  refine ⟨by show 0≤sizeLine;decide,fun ls hls=>?_⟩
  have s0:Same H (upd H ls (.lst [])):=same_upd hls
  have t0:Mir.TsT Mir.zp (upd H ls (.lst [])) ls []:=Mir.TsT.nil upd_same
  generalize upd H ls (.lst []) = H1 at s0 t0
  refine ⟨_,rfl,l1,_,rfl,.inl (SqL.of (s0 _ _ h1)),_,rfl,by rw [hlm];omega,by rw [hlm];omega,for_range (lo:=0) (n:=((Mir.nV ms).length:Int).toNat) (fun i σ H3=>∃ (v4 v5 v6:Option V) (ds:List (Int×Int)),σ = [some (.ref l1),some (.ref l2),some (.int c),some (.ref ls),v4,v5,v6]∧Same H H3∧Mir.TsT Mir.zp H3 ls ds∧ds.length≤10 * i∧∀ d∈ds,(Mir.Sm d.1∧Mir.Sm d.2)∧Mir.beh ms d.1.toNat d.2.toNat≠os) ⟨none,none,none,[],rfl,s0,t0,Nat.zero_le _,fun d hd=>absurd hd List.not_mem_nil⟩ ?_ ?_⟩
  ·rintro i σ H3 hi ⟨v4,v5,v6,ds,rfl,s3,tS,dl,all⟩
   have hi':i < 2 * n:=by rw [hlm] at hi;omega
   rw [Int.zero_add]
   refine ⟨_,rfl,_,rfl,l1,_,rfl,.inl (SqL.of (s3 _ _ h1)),?_⟩
   refine ⟨_,_,rfl,⟨by omega,by omega,by rw [hlm];omega,by rw [hlm];omega⟩,for_range (lo:=(i:Nat)) (n:=(((Mir.nV ms).length:Int) - (i:Nat)).toNat) (fun j σ H4=>∃ (v5 v6:Option V) (ds:List (Int×Int)),σ = [some (.ref l1),some (.ref l2),some (.int c),some (.ref ls),some (.int (i:Nat)),v5,v6]∧Same H H4∧Mir.TsT Mir.zp H4 ls ds∧ds.length≤10 * i + j∧∀ d∈ds,(Mir.Sm d.1∧Mir.Sm d.2)∧Mir.beh ms d.1.toNat d.2.toNat≠os) ⟨v5,v6,ds,rfl,s3,tS,dl,all⟩ ?_ ?_⟩
   ·rintro j σ H4 hj ⟨v5,v6,ds,rfl,s4,tS,dl,all⟩
    have hj':i + j < 2 * n:=by rw [hlm] at hj;omega
    have ej:((i:Nat):Int) + (j:Nat) = ((i + j:Nat):Int):=by omega
    rw [ej]
    refine ⟨_,rfl,_,rfl,_,rfl,l1,n,i,i + j,ms,rfl,s4 _ _ h1,W,hi',hj',fun hm H6 s6=>?_,fun hm lb H6 hlb s6 hb6=>?_⟩
    ·refine ⟨_,rfl,rfl,_,rfl,iteF (iteF ?_)⟩
     exact ⟨_,_,ds,rfl,s4.trans s6,tS.same s6,by omega,all⟩
    ·have s46:=s4.trans s6
     have tS6:=tS.same s6
     refine ⟨_,rfl,rfl,_,rfl,iteT ?_⟩
     have WB:=Mir.beh_work W (p:=i) (q:=i + j) hi' hj' hm
     refine ⟨_,rfl,_,rfl,lb,l2,(Mir.beh ms i (i + j)).map (fun (z:Nat)=>(z:Int)),os.map (fun (z:Nat)=>(z:Int)),rfl,rfl,by rw [← Mir.nV_is];exact SqL.of hb6,by rw [← Mir.nV_is];exact SqL.of (s46 _ _ h2),by rw [List.length_map,List.length_map,WB.len,WO.len],_,rfl,?_⟩
     by_cases e:Mir.beh ms i (i + j) = os
     ·refine iteN (by rw [e];simp) ?_
      exact ⟨_,_,ds,rfl,s46,tS6,by omega,all⟩
     ·have nei:¬ ((Mir.beh ms i (i + j)).map (fun (z:Nat)=>(z:Int)) = os.map (fun (z:Nat)=>(z:Int))):=fun z=>e (Mir.map_inj (fun x y h=>by omega) z)
      refine iteY (by simp [nei]) ?_
      obtain ⟨dv,d1,d2⟩:=tS6.len
      refine ⟨_,rfl,.inl ⟨rfl,_,SqL.of d1⟩,_,rfl,_,rfl,by show 2≤sizeLine;decide,fun tp htp=>?_⟩
      have s7:Same H6 (upd H6 tp (.tup [.int (i:Nat),.int (i + j:Nat)])):=same_upd htp
      have q7:upd H6 tp (.tup [.int (i:Nat),.int (i + j:Nat)]) tp = some (.tup (Mir.zp (((i:Nat):Int),((i + j:Nat):Int)))):=upd_same
      generalize upd H6 tp (.tup [.int (i:Nat),.int (i + j:Nat)]) = H7 at s7 q7
      have d7:=s7 _ _ d1
      refine ⟨ls,_,_,rfl,rfl,d7,small1000 (by omega),?_⟩
      obtain ⟨ws,y1,y2,y3⟩:=(tS6.same s7).snoc (t:=tp) (x:=(((i:Nat):Int),((i + j:Nat):Int))) q7
      rw [d7] at y1
      obtain rfl:dv = ws:=by injection y1 with y1;injection y1
      refine ⟨_,_,_,rfl,(s46.trans s7).upd hls,y3,by rw [List.length_append,List.length_singleton];omega,fun d hd=>?_⟩
      rcases List.mem_append.mp hd with hd | hd
      ·exact all d hd
      ·rw [List.mem_singleton.mp hd]
       refine ⟨⟨Mir.Sm.of (by show _ < ((i:Nat):Int);omega) (by show ((i:Nat):Int) < _;omega),Mir.Sm.of (by show _ < ((i + j:Nat):Int);omega) (by show ((i + j:Nat):Int) < _;omega)⟩,?_⟩
       rw [Int.toNat_natCast,Int.toNat_natCast]
       exact e
   ·rintro σ H4 ⟨v5,v6,ds,rfl,s4,tS,dl,all⟩
    exact ⟨_,_,_,ds,rfl,s4,tS,by rw [hlm] at dl;omega,all⟩
  ·rintro σ H3 ⟨v4,v5,v6,ds,rfl,s3,tS,dl,all⟩
   obtain ⟨dv,d1,d2⟩:=tS.len
   refine ⟨_,rfl,by show 0≤sizeLine;decide,fun l0 hl0=>?_⟩
   have s4:Same H3 (upd H3 l0 (.lst [])):=same_upd hl0
   have q0:upd H3 l0 (.lst []) l0 = some (.lst []):=upd_same
   generalize upd H3 l0 (.lst []) = H4 at s4 q0
   have fr:∀ {x:Addr},H3 x = none→H x = none:=fun {x} e=>by
    cases q:H x with
    | none=>rfl
    | some o=>have:=s3 _ _ q;rw [e] at this;cases this
   refine ⟨ls,l0,_,rfl,rfl,SqL.of (s4 _ _ d1),SqL.of q0,_,rfl,ite2 (fun z=>?_) (fun z=>?_)⟩
   ·refine ⟨by show 0≤sizeLine;decide,fun lr hlr=>?_⟩
    have fr4:H lr = none:=by
     cases q:H lr with
     | none=>rfl
     | some o=>have:=s4 _ _ (s3 _ _ q);rw [hlr] at this;cases this
    exact k lr _ [] fr4 (s3.trans (s4.trans (same_upd hlr))) (Mir.TsT.nil upd_same) (.inl rfl)
   ·have lp:0 < dv.length:=by
     rcases Nat.eq_zero_or_pos dv.length with e | e
     ·exact absurd (decide_eq_true e) z
     ·exact e
    have d4:=s4 _ _ d1
    refine ⟨_,rfl,_,rfl,_,rfl,ls,_,rfl,.inl (SqL.of d4),_,_,rfl,rfl,(by show (0:Int) < ((dv.length:Nat):Int);omega),?_⟩
    dsimp only
    have m0:0≤c % ((dv.length:Nat):Int):=Int.emod_nonneg _ (by omega)
    have m1:c % ((dv.length:Nat):Int) < ((dv.length:Nat):Int):=Int.emod_lt_of_pos _ (by omega)
    obtain ⟨j,hj⟩:∃ j:Nat,c % ((dv.length:Nat):Int) = j:=⟨(c % ((dv.length:Nat):Int)).toNat,by omega⟩
    rw [hj]
    have hd:=List.getElem?_eq_getElem (l:=ds) (i:=j) (by omega)
    have hm:=List.mem_of_getElem? hd
    generalize ds[j] = d at hd hm
    obtain ⟨vs1,t,q1,q2,q3⟩:=(tS.same s4).get hd
    refine ⟨ls,_,_,_,rfl,rfl,SqL.of q1,atI_nat (j:=j) q2,by show 1≤sizeLine;decide,fun lr hlr=>?_⟩
    have fr4:H lr = none:=by
     cases q:H lr with
     | none=>rfl
     | some o=>have:=s4 _ _ (s3 _ _ q);rw [hlr] at this;cases this
    have s5:Same H4 (upd H4 lr (.lst [.ref t])):=same_upd hlr
    refine k lr _ [d] fr4 (s3.trans (s4.trans s5)) ⟨[t],upd_same,rfl,fun i u x e1 e2=>?_⟩ (.inr ⟨d,rfl,all d hm⟩)
    match i,e1,e2 with
    | 0,e1,e2=>obtain rfl:=Option.some.inj e1;obtain rfl:=Option.some.inj e2;exact s5 _ _ q3
    | i + 1,e1,e2=>cases e1
end
section
seal L2.PSs L2.PS L2.PE L2.PT L2.PA
variable {P:Program} {w:World} {K:PySem.W.Frag} {mg:Str→Option Value} {base:Heap}
theorem ok_law_spoiled26 {f f1 f2 f3 f4 f5:Addr} {fd fd1 fd2 fd3 fd4 fd5:FuncData} (B:Bl mg) (F:Fn K mg "_law_spoiled" s_law_spoiled ["one","other","paper","cell"] f fd) (F_law_along:Fn K mg "_law_along" s_law_along ["one","deeds"] f1 fd1) (G_law_along:FnOk P w K mg base CX0 3 f1 fd1 ["one","deeds"] (Mir.spAlong26 K)) (F_law_elsewhere:Fn K mg "_law_elsewhere" s_law_elsewhere ["work","other","cell"] f2 fd2) (G_law_elsewhere:FnOk P w K mg base CX0 3 f2 fd2 ["work","other","cell"] Mir.spElse26) (F_law_detour:Fn K mg "_law_detour" s_law_detour ["work","cell"] f3 fd3) (F_law_misfit:Fn K mg "_law_misfit" s_law_misfit ["work","cell"] f4 fd4) (F_law_thread_else:Fn K mg "_law_thread_else" s_law_thread_else ["thread","cell"] f5 fd5):FnOk P w K mg base CX0 4 f fd ["one","other","paper","cell"] (Mir.spSpoiled26 K):=by
 have G_law_detour:FnOk P w K mg base CX0 1 f3 fd3 ["work","cell"] Mir.spDetour:=ok_law_detour B F_law_detour
 have G_law_misfit:FnOk P w K mg base CX0 1 f4 fd4 ["work","cell"] Mir.spMisfit26:=ok_law_misfit26 B F_law_misfit
 have G_law_thread_else:FnOk P w K mg base CX0 1 f5 fd5 ["thread","cell"] Mir.spThrElse:=ok_law_thread_else B F_law_thread_else
 refine F.fn.ok sc_law_spoiled (fun vs H Q E h=>?_) (fun cdv A outer s H vs Q E hr h=>?_)
 ·obtain ⟨a,b,p,q,r,n,ms,os,ths,c,rfl,_⟩:=h
  rfl
 ·obtain ⟨a,b,p,q,r,n,ms,os,ths,c,rfl,hS,W,hO,WO,hn,hp,hq,hI,hf,k⟩:=h
  have hu:=hu_of hr
  have fl:(Mir.fewL n ms os).length = Mir.apartN n ms os:=Mir.fewL_len W WO
  have ap:Mir.apartN n ms os≤n:=Mir.apart_most
  have fL:Mir.Lead n os ms (Mir.fewL n ms os):=Mir.fewL_lead WO _ W rfl
  generalize Mir.fewL n ms os = cs at hf fl fL
  have smc:∀ d∈cs.map Mir.zN,Mir.Sm d.1∧Mir.Sm d.2:=fun d hd=>by
   obtain ⟨e,he,rfl⟩:=List.mem_map.mp hd
   obtain ⟨i,hi⟩:=List.mem_iff_getElem?.mp he
   obtain ⟨b1,b2,_⟩:=Mir.lead_at cs i ms fL hi
   exact ⟨Mir.Sm.of (by show _ < ((e.1:Nat):Int);omega) (by show ((e.1:Nat):Int) < _;omega),Mir.Sm.of (by show _ < ((e.2:Nat):Int);omega) (by show ((e.2:Nat):Int) < _;omega)⟩
  have hql:=hq.thw
  refine ⟨_,(pss_cons (ps_set (i:=4) sc_law_spoiled.nd rfl (Or.inl rfl) (pe_callTy call_list_of rfl B.list bb_list (pa_cons (pe_ix ix_tup (pv 2) pe_int (fun _ _=>rfl)) pa_nil)))
   (pss_cons (ps_set (i:=5) sc_law_spoiled.nd rfl (Or.inl rfl) (pe_callTy call_list_of rfl B.list bb_list (pa_cons (pe_ix ix_tup (pv 2) pe_int (fun _ _=>rfl)) pa_nil)))
   (pss_cons (ps_set (i:=6) sc_law_spoiled.nd rfl (Or.inl rfl) (pe_fn G_law_along F_law_along (hr.mono (by decide)) (pa_cons (pv 0) (pa_cons (pv 5) pa_nil))))
   (pss_cons (ps_set (i:=7) sc_law_spoiled.nd rfl (Or.inl rfl) (pe_op op_mod (pv 3) pe_int))
   (pss_cons (ps_set (i:=8) sc_law_spoiled.nd rfl (Or.inl rfl) (pe_op op_fdiv (pv 3) pe_int))
   (pss_cons (ps_set (i:=9) sc_law_spoiled.nd rfl (Or.inl rfl) (pe_callB call_len_seq rfl B.len bb_len (pa_cons (pv 4) pa_nil)))
   (pss_cons (ps_if (PW.pt (pw_and (pt_cmpR op_eq (pv 7) pe_int (nomark _)) (pw_and1 (pt_cmpR op_gt (pe_callB call_len_seq rfl B.len bb_len (pa_cons (pv 5) pa_nil)) pe_int (nomark _))))) (pss_one (ps_expr (pe_bm0 PySem.F.plainAttrs_list PySem.F.slot_list_pop PySem.F.type_list_pop mt_pop (pv 5)))) (pss_one (ps_if (PW.pt (pw_and (pt_cmpR op_eq (pv 7) pe_int (nomark _)) (pw_and1 (pt_cmpR op_gt (pe_callB call_len_seq rfl B.len bb_len (pa_cons (pv 5) pa_nil)) pe_int (nomark _))))) (pss_one (ps_asg (pe_fn G_law_elsewhere F_law_elsewhere (hr.mono (by decide)) (pa_cons (pe_ix ix_list (pv 6) (pe_un un_neg pe_int) (fun _ _=>rfl)) (pa_cons (pe_callTy call_list_of rfl B.list bb_list (pa_cons (pv 1) pa_nil)) (pa_cons (pv 8) pa_nil)))) (pg_slice (pv 5) (po_some (pe_un un_neg pe_int)) po_none))) (pss_one (ps_if (PW.pt (pw_and (pt_cmpR op_eq (pv 7) pe_int (nomark _)) (pw_and1 (pt_cmpR op_gt (pv 9) pe_int (nomark _))))) (pss_cons (ps_set (i:=10) sc_law_spoiled.nd rfl (Or.inl rfl) (pe_op op_mod (pv 8) (pv 9)))
   (pss_cons (ps_set (i:=11) sc_law_spoiled.nd rfl (Or.inl rfl) (pe_op op_mod (pe_op op_add (pe_op op_add (pv 10) pe_int) (pe_op op_mod (pe_op op_fdiv (pv 8) pe_int) (pe_op op_sub (pv 9) pe_int))) (pv 9)))
   (pss_cons (ps_asg (pe_ix ix_tup (pe_ix ix_tup (pv 2) pe_int (fun _ _=>rfl)) (pv 11) (fun _ _=>rfl)) (pg_sub (pv 4) (pv 10) set_list))
   (pss_one (ps_asg (pe_ix ix_tup (pe_ix ix_tup (pv 2) pe_int (fun _ _=>rfl)) (pv 10) (fun _ _=>rfl)) (pg_sub (pv 4) (pv 11) set_list)))))) (pss_one (ps_if (PW.pt (pw_and (pt_cmpR op_eq (pv 7) pe_int (nomark _)) (pw_and1 (pt_cmpR op_gt (pv 9) pe_int (nomark _))))) (pss_one (ps_expr (pe_bm PySem.F.plainAttrs_list PySem.F.slot_list_insert PySem.F.type_list_insert mt_insert (pv 4) (pa_cons (pe_op op_mod (pv 8) (pe_op op_add (pv 9) pe_int)) (pa_cons (pe_ix ix_tup (pe_ix ix_tup (pv 2) pe_int (fun _ _=>rfl)) (pe_op op_mod (pe_op op_fdiv (pv 8) pe_int) (pv 9)) (fun _ _=>rfl)) pa_nil))))) (pss_one (ps_if (PW.pt (pw_and (pt_cmpR op_eq (pv 7) pe_int (nomark _)) (pw_and1 (pt_cmpR op_gt (pe_callB call_len_seq rfl B.len bb_len (pa_cons (pv 0) pa_nil)) pe_int (nomark _))))) (pss_cons (ps_set (i:=10) sc_law_spoiled.nd rfl (Or.inl rfl) (pe_op op_mod (pv 8) (pe_callB call_len_seq rfl B.len bb_len (pa_cons (pv 6) pa_nil))))
   (pss_one (ps_asg (pe_fn G_law_detour F_law_detour (hr.mono (by decide)) (pa_cons (pe_ix ix_list (pv 6) (pv 10) (fun _ _=>rfl)) (pa_cons (pe_op op_fdiv (pv 8) pe_int) pa_nil))) (pg_slice (pv 5) (po_some (pv 10)) (po_some (pv 10)))))) (pss_one (ps_if (PW.pt (pw_or (pt_cmpR op_eq (pv 7) pe_int (nomark _)) (pw_or1 (pt_cmpR op_eq (pe_callB call_len_seq rfl B.len bb_len (pa_cons (pv 0) pa_nil)) pe_int (nomark _))))) (pss_cons (ps_set (i:=10) sc_law_spoiled.nd rfl (Or.inl rfl) (pe_op op_mod (pv 8) (pe_callB call_len_seq rfl B.len bb_len (pa_cons (pv 6) pa_nil))))
   (pss_one (ps_asg (pe_lst (pa_cons (pe_fn G_law_misfit F_law_misfit (hr.mono (by decide)) (pa_cons (pe_ix ix_list (pv 6) (pv 10) (fun _ _=>rfl)) (pa_cons (pe_op op_fdiv (pv 8) pe_int) pa_nil))) pa_nil)) (pg_slice (pv 5) (po_some (pv 10)) (po_some (pe_op op_add (pv 10) pe_int)))))) (pss_one (ps_if (pt_cmpR op_eq (pv 7) pe_int (nomark _)) (pss_one (ps_expr (pe_bm PySem.F.plainAttrs_list PySem.F.slot_list_pop PySem.F.type_list_pop mt_popAt (pv 4) (pa_cons (pe_op op_mod (pv 8) (pe_callB call_len_seq rfl B.len bb_len (pa_cons (pv 4) pa_nil))) pa_nil)))) (pss_cons (ps_set (i:=10) sc_law_spoiled.nd rfl (Or.inl rfl) (pe_op op_mod (pv 8) (pe_callB call_len_seq rfl B.len bb_len (pa_cons (pv 4) pa_nil))))
   (pss_one (ps_asg (pe_fn G_law_thread_else F_law_thread_else (hr.mono (by decide)) (pa_cons (pe_ix ix_list (pv 4) (pv 10) (fun _ _=>rfl)) (pa_cons (pe_op op_fdiv (pv 8) pe_int) pa_nil))) (pg_sub (pv 4) (pv 10) set_list)))))))))))))))))
   (ps_sem (R:=fun Z σ H7=>∃ (lt ld:Addr) (L:List Mir.Tz) (ds:List (Int×Int)) (v6 v7 v8 v9 v10 v11:Option V),σ = [some (.ref a),some (.ref b),some (.ref p),some (.int c),some (.ref lt),some (.ref ld),v6,v7,v8,v9,v10,v11]∧Same H H7∧Mir.ThL H7 lt L∧Mir.TsT Mir.zp H7 ld ds∧Mir.Sms ds∧Mir.NotPaper n ms os L ds∧Z.rt = Q) fun Z σ H7 hR=>?rest)))))))),?_⟩
  case rest =>
   obtain ⟨lt,ld,L,ds,v6,v7,v8,v9,v10,v11,rfl,s7,tL,tD,hz,np,rfl⟩:=hR
   refine ⟨_,(pss_one (ps_ret (pe_tup (pa_cons (pe_callTy call_tuple_any rfl B.tuple bb_tuple (pa_cons (pv 4) pa_nil)) (pa_cons (pe_callTy call_tuple_any rfl B.tuple bb_tuple (pa_cons (pv 5) pa_nil)) pa_nil))))),?_⟩
   obtain ⟨xs,tx,x2,x3⟩:=id tL
   obtain ⟨lv,l1,_⟩:=tx.len
   refine ⟨_,rfl,lt,_,rfl,.inl l1,fun q' H8 s8 hq8=>?_⟩
   have W8:=tL.tuple l1 s8 hq8
   have tD8:=tD.same s8
   obtain ⟨dv,d1,_⟩:=tD8.len
   refine ⟨_,rfl,ld,_,rfl,.inl d1,fun r' H9 s9 hr9=>?_⟩
   have D9:=tD8.tuple d1 s9 hr9
   refine ⟨by show 2≤sizeLine;decide,fun p' hp'=>?_⟩
   have s10:Same H9 (upd H9 p' (.tup [.ref q',.ref r'])):=same_upd hp'
   exact k p' q' r' L ds _ (s7.trans (s8.trans (s9.trans s10))) upd_same (W8.same (s9.trans s10)) (D9.same s10) hz np
  obtain ⟨xs,⟨ts,hq1,hq2⟩,hq3,hq4⟩:=id hql
  have L0n:(ths.map Mir.tz).length = ts.length:=by rw [← hq4,List.length_map,hq2.1]
  have lth:ts.length≤10:=by
   rw [← L0n,List.length_map,hI.1.length_eq]
   have:=Th.un_len (Mir.two_of W WO)
   omega
  obtain ⟨us,hr1,hr2⟩:=hf
  have ul:us.length = cs.length:=hr2.1
  refine ⟨_,rfl,p,_,_,_,rfl,rfl,SqT.of hp,rfl,q,_,rfl,.inr (SqT.of hq1),fun lt hlt=>?_⟩
  have s1:Same H (upd H lt (.lst (ts.map V.ref))):=same_upd hlt
  have t1:upd H lt (.lst (ts.map V.ref)) lt = some (.lst (ts.map V.ref)):=upd_same
  generalize upd H lt (.lst (ts.map V.ref)) = H1 at s1 t1
  refine ⟨_,rfl,p,_,_,_,rfl,rfl,SqT.of (s1 _ _ hp),rfl,r,_,rfl,.inr (SqT.of (s1 _ _ hr1)),fun ld hld=>?_⟩
  have s2:Same H1 (upd H1 ld (.lst (us.map V.ref))):=same_upd hld
  have d2:upd H1 ld (.lst (us.map V.ref)) ld = some (.lst (us.map V.ref)):=upd_same
  have nld:lt≠ld:=fun z=>by rw [← z,t1] at hld;cases hld
  have fld:H ld = none:=by cases q:H ld with | none=>rfl | some o=>have:=s1 _ _ q;rw [hld] at this;cases this
  generalize upd H1 ld (.lst (us.map V.ref)) = H2 at s2 d2
  have s02:=s1.trans s2
  refine ⟨_,rfl,_,rfl,a,ld,n,ms,os,cs,rfl,s02.tup hS,W,hn,(hr2.same s02).tst d2,fL,by omega,fun lw H3 flw s3 hw=>?_⟩
  have s03:=s02.trans s3
  have t3:=s3 _ _ (s2 _ _ t1)
  have d3:=s3 _ _ d2
  have hq3':Mir.Tup Mir.tg H3 ts xs:=hq2.same s03
  have ends3:∀ x∈xs,H3 x.2.1 = some (.tup (Mir.iV x.2.2)):=fun x hx=>s03 _ _ (hq3 x hx)
  have us3:Mir.Tup Mir.zp H3 us (cs.map Mir.zN):=(hr2.same s03).zp
  have hp3:=s03 _ _ hp
  have hq13:=s03 _ _ hq1
  have tL3:Mir.ThL H3 lt (ths.map Mir.tz):=⟨xs,hq3'.tst t3,ends3,hq4⟩
  have tD3:Mir.TsT Mir.zp H3 ld (cs.map Mir.zN):=us3.tst d3
  have hzc:Mir.Sms (cs.map Mir.zN):=⟨by rw [List.length_map];omega,smc⟩
  have dfin:∀ (H9:Hp) (vs:List Addr) (o:List V) (ds:List (Int×Int)),o = vs.map V.ref→Same H3 H9→Mir.Tup Mir.zp H9 vs ds→Same H (upd H9 ld (.lst o))∧Mir.ThL (upd H9 ld (.lst o)) lt (ths.map Mir.tz)∧Mir.TsT Mir.zp (upd H9 ld (.lst o)) ld ds:=fun H9 vs o ds eo s9 tu=>by
   subst eo
   have d9:=s9 _ _ d3
   exact ⟨(s03.trans s9).upd fld,(tL3.same s9).upd d9 nld,(tu.upd d9).tst upd_same⟩
  have tfin:∀ (H9:Hp) (vs:List Addr) (o:List V) (ys:List Mir.Ez),o = vs.map V.ref→Same H3 H9→Mir.Tup Mir.tg H9 vs ys→(∀ y∈ys,H9 y.2.1 = some (.tup (Mir.iV y.2.2)))→Same H (upd H9 lt (.lst o))∧Mir.ThL (upd H9 lt (.lst o)) lt (ys.map Mir.eg)∧Mir.TsT Mir.zp (upd H9 lt (.lst o)) ld (cs.map Mir.zN):=fun H9 vs o ys eo s9 tu he=>by
   subst eo
   have t9:=s9 _ _ t3
   have d9:=s9 _ _ d3
   refine ⟨(s03.trans s9).upd hlt,⟨ys,(tu.upd t9).tst upd_same,fun y hy=>?_,rfl⟩,?_⟩
   ·have q:=he y hy
    rw [upd_ne (fun z=>by rw [z,t9] at q;cases q)]
    exact q
   ·exact ((us3.same s9).upd t9).tst (by rw [upd_ne (Ne.symm nld)];exact d9)
  have n8:(0:Int) < 8:=by decide
  refine ⟨_,rfl,_,_,rfl,rfl,n8,?_⟩
  refine ⟨_,rfl,_,_,rfl,rfl,⟨by decide,by decide⟩,?_⟩
  refine ⟨_,rfl,lt,_,rfl,.inl (SqL.of t3),?_⟩
  dsimp only
  rw [List.length_map]
  generalize c % 8 = way
  generalize c / 8 = rest
  have dlen:((us.map V.ref).length:Int) = (cs.length:Nat):=by rw [List.length_map,ul]
  have take_ne:∀ (ds:List (Int×Int)),ds.length≠cs.length→Mir.NotPaper n ms os (ths.map Mir.tz) ds:=fun ds h=>Mir.np_len (by omega)
  refine' Mir.nexts ?m0 ?x0
  case m0 =>
   intro nxt
   by_cases hA:way = 0
   rotate_left
   ·exact ⟨_,rfl,rfl,_,rfl,iteN (decide_eq_false (fun z=>hA (by injection z))) (iteF nxt)⟩
   ·refine ⟨_,rfl,rfl,_,rfl,iteY (decide_eq_true (by rw [hA])) ?_⟩
    refine ⟨_,rfl,ld,_,rfl,.inl (SqL.of d3),_,_,rfl,rfl,_,rfl,?_⟩
    by_cases hB:0 < cs.length
    ·refine iteY (decide_eq_true (by rw [dlen];omega)) ?_
     have hl:(us.map V.ref)[(us.map V.ref).length - 1]? = some (.ref (us[us.length - 1]'(by omega))):=by rw [List.length_map,List.getElem?_map,List.getElem?_eq_getElem (by omega)];rfl
     refine ⟨_,rfl,.inl ⟨rfl,_,SqL.of d3⟩,ld,_,_,rfl,rfl,d3,hl,?_⟩
     have D:=dfin H3 (us.take (us.length - 1)) ((us.map V.ref).dropLast) ((cs.map Mir.zN).take (us.length - 1)) (by rw [List.dropLast_eq_take,List.length_map,List.map_take]) (Same.refl _) (us3.take _)
     exact ⟨lt,ld,_,_,_,_,_,_,_,_,rfl,D.1,D.2.1,D.2.2,⟨by rw [List.length_take,List.length_map];omega,fun d hd=>smc d (List.mem_of_mem_take hd)⟩,take_ne _ (by rw [List.length_take,List.length_map];omega),rfl⟩
    ·exact iteN (decide_eq_false (by rw [dlen];omega)) nxt
  refine' Mir.nexts ?m5 ?x5
  case m5 =>
   intro nxt
   by_cases hA:way = 5
   rotate_left
   ·exact ⟨_,rfl,rfl,_,rfl,iteN (decide_eq_false (fun z=>hA (by injection z))) (iteF nxt)⟩
   ·refine ⟨_,rfl,rfl,_,rfl,iteY (decide_eq_true (by rw [hA])) ?_⟩
    refine ⟨_,rfl,ld,_,rfl,.inl (SqL.of d3),_,_,rfl,rfl,_,rfl,?_⟩
    by_cases hB:0 < cs.length
    ·refine iteY (decide_eq_true (by rw [dlen];omega)) ?_
     obtain ⟨ws,w1,w2,w3⟩:=hw
     obtain ⟨tw,htw⟩:∃ tw,ws[cs.length - 1]? = some tw:=⟨_,List.getElem?_eq_getElem (by omega)⟩
     have e2:atI (ws.map V.ref) (-2) = some (.ref tw):=by rw [Mir.atI_m2 (by rw [List.length_map];omega),List.length_map,w2,List.getElem?_map,show cs.length + 1 - 2 = cs.length - 1 by omega,htw];rfl
     have w4:=w3 (cs.length - 1) tw htw
     refine ⟨_,rfl,_,rfl,lw,_,_,_,rfl,rfl,SqL.of w1,e2,_,rfl,b,_,rfl,.inr (s03.tup hO),fun lo hlo=>?_⟩
     have s4:Same H3 (upd H3 lo (.lst (Mir.nV os))):=same_upd hlo
     have q4:upd H3 lo (.lst (Mir.nV os)) lo = some (.lst (Mir.nV os)):=upd_same
     generalize upd H3 lo (.lst (Mir.nV os)) = H4 at s4 q4
     refine ⟨_,rfl,tw,lo,n,_,os,_,rfl,s4 _ _ w4,Mir.lead_take cs _ ms W fL,q4,WO,hn,fun lr H5 ds flr s5 tR hds=>?_⟩
     have s35:=s4.trans s5
     have d5:=s35 _ _ d3
     obtain ⟨rs,r1,r2⟩:=tR.tup
     have nlr:ld≠lr:=fun z=>by have q:=s4 _ _ d3;rw [z,flr] at q;cases q
     refine ⟨_,rfl,_,rfl,_,rfl,ld,lr,_,_,us.length - 1,us.length,rfl,rfl,d5,r1,nlr,by rw [List.length_map];exact bounds_last (by omega),by omega,by rw [List.length_map];exact Nat.le_refl _,small1000 (by rw [List.length_map,List.length_map,r2.1];rcases hds with h | ⟨_,h,_⟩ <;> rw [h] <;> simp <;> omega) |> Nat.le_of_lt,?_⟩
     have D:=dfin H5 (us.take (us.length - 1) ++ rs ++ us.drop us.length) ((us.map V.ref).take (us.length - 1) ++ rs.map V.ref ++ (us.map V.ref).drop us.length) ((cs.map Mir.zN).take (us.length - 1) ++ ds ++ (cs.map Mir.zN).drop us.length) (by rw [List.map_append,List.map_append,List.map_take,List.map_drop]) s35 ((((us3.same s35).take _).app r2).app ((us3.same s35).drop _))
     have e5:(cs.map Mir.zN).drop us.length = []:=List.drop_eq_nil_of_le (by rw [List.length_map];omega)
     rw [e5,List.append_nil] at D
     refine ⟨lt,ld,_,_,_,_,_,_,_,_,rfl,D.1,D.2.1,D.2.2,⟨?_,fun d hd=>?_⟩,?_,rfl⟩
     ·rw [List.length_append,List.length_take,List.length_map];rcases hds with h | ⟨_,h,_⟩ <;> rw [h] <;> simp <;> omega
     ·rcases List.mem_append.mp hd with hd | hd
      ·exact smc d (List.mem_of_mem_take hd)
      ·rcases hds with h | ⟨e,h,h2,_⟩
       ·rw [h] at hd;cases hd
       ·rw [h] at hd;rw [List.mem_singleton.mp hd];exact h2
     ·rcases hds with h | ⟨e,h,_,h3⟩
      ·exact take_ne _ (by rw [h,List.append_nil,List.length_take,List.length_map];omega)
      ·refine Mir.np_run fun hrun=>?_
       rw [h,← List.map_take,ul] at hrun
       obtain ⟨vs,g1,g2,g3⟩:=hrun.split
       have ev:=g1.uniq (Mir.run_workR fL (cs.length - 1))
       rw [ev] at g3
       exact h3 g3.end_
    ·exact iteN (decide_eq_false (by rw [dlen];omega)) nxt
  refine' Mir.nexts ?m6 ?x6
  case m6 =>
   intro nxt
   by_cases hA:way = 6
   rotate_left
   ·exact ⟨_,rfl,rfl,_,rfl,iteN (decide_eq_false (fun z=>hA (by injection z))) (iteF nxt)⟩
   ·refine ⟨_,rfl,rfl,_,rfl,iteY (decide_eq_true (by rw [hA])) ?_⟩
    refine ⟨_,rfl,_,_,rfl,rfl,_,rfl,?_⟩
    by_cases hB:1 < ts.length
    ·refine iteY (decide_eq_true (by omega)) ?_
     refine ⟨_,rfl,_,rfl,_,_,rfl,rfl,(by show (0:Int) < ((ts.length:Nat):Int);omega),?_⟩
     dsimp only
     have iz:(0:Int)≤rest % ((ts.length:Nat):Int):=Int.emod_nonneg _ (by omega)
     have iy:rest % ((ts.length:Nat):Int) < ((ts.length:Nat):Int):=Int.emod_lt_of_pos _ (by omega)
     obtain ⟨i,hi⟩:∃ i:Nat,rest % ((ts.length:Nat):Int) = i:=⟨(rest % ((ts.length:Nat):Int)).toNat,by omega⟩
     rw [hi]
     refine ⟨_,rfl,_,_,rfl,rfl,_,rfl,_,_,rfl,rfl,⟨by decide,by decide⟩,_,rfl,_,_,rfl,rfl,_,_,rfl,rfl,(by show (0:Int) < ((ts.length:Nat):Int) - 1;omega),_,_,rfl,rfl,_,rfl,_,_,rfl,rfl,(by show (0:Int) < ((ts.length:Nat):Int);omega),?_⟩
     dsimp only
     have rz:(0:Int)≤rest / 7 % (((ts.length:Nat):Int) - 1):=Int.emod_nonneg _ (by omega)
     have ry:rest / 7 % (((ts.length:Nat):Int) - 1) < ((ts.length:Nat):Int) - 1:=Int.emod_lt_of_pos _ (by omega)
     obtain ⟨rr,hrr⟩:∃ rr:Nat,rest / 7 % (((ts.length:Nat):Int) - 1) = rr:=⟨(rest / 7 % (((ts.length:Nat):Int) - 1)).toNat,by omega⟩
     rw [hrr]
     obtain ⟨jl,jn⟩:=Mir.mod_off (i:=i) (m:=ts.length) (r:=rr) (by omega) (by omega)
     rw [show (((i:Nat):Int) + 1 + (rr:Nat)) % ((ts.length:Nat):Int) = (((i + 1 + rr) % ts.length:Nat):Int) from by rw [Int.natCast_emod];congr 1]
     generalize (i + 1 + rr) % ts.length = j at jl jn
     have il:i < ts.length:=by omega
     obtain ⟨ti,hti⟩:∃ ti,ts[i]? = some ti:=⟨_,List.getElem?_eq_getElem il⟩
     obtain ⟨tj,htj⟩:∃ tj,ts[j]? = some tj:=⟨_,List.getElem?_eq_getElem jl⟩
     obtain ⟨xi,hxi⟩:∃ xi,xs[i]? = some xi:=⟨_,List.getElem?_eq_getElem (by rw [← hq2.1];exact il)⟩
     obtain ⟨xj,hxj⟩:∃ xj,xs[j]? = some xj:=⟨_,List.getElem?_eq_getElem (by rw [← hq2.1];exact jl)⟩
     have ixn:∀ {k:Nat} {o:List V},k < ts.length→o.length = ts.length→ixN o.length ((k:Nat):Int) = some k:=fun {k o} hk ho=>by rw [ho,ixN_of (by omega) (by omega),Int.toNat_natCast]
     refine ⟨_,rfl,p,_,_,_,rfl,rfl,SqT.of hp3,rfl,_,rfl,q,_,_,_,rfl,rfl,SqT.of hq13,atI_nat (j:=j) (by rw [List.getElem?_map,htj];rfl),_,rfl,_,rfl,lt,_,_,i,rfl,rfl,t3,ixn il (List.length_map _),?_⟩
     have upT:∀ {x:Addr} {o:List V} {u:HO},H3 x = some (.tup o)→upd H3 lt u x = some (.tup o):=fun {x o u} e=>by rw [upd_ne (fun z=>by rw [z,t3] at e;cases e)];exact e
     refine ⟨_,rfl,p,_,_,_,rfl,rfl,SqT.of (upT hp3),rfl,_,rfl,q,_,_,_,rfl,rfl,SqT.of (upT hq13),atI_nat (j:=i) (by rw [List.getElem?_map,hti];rfl),_,rfl,_,rfl,lt,_,_,j,rfl,rfl,upd_same,ixn jl (by rw [List.length_set,List.length_map]),?_⟩
     rw [upd_upd]
     have D:=tfin H3 ((ts.set i tj).set j ti) (((ts.map V.ref).set i (.ref tj)).set j (.ref ti)) ((xs.set i xj).set j xi) (by rw [List.map_set,List.map_set]) (Same.refl _) ((hq3'.set i (hq3'.2 j tj xj htj hxj)).set j (hq3'.2 i ti xi hti hxi)) (fun y hy=>by
      rcases List.mem_or_eq_of_mem_set hy with h | h
      ·rcases List.mem_or_eq_of_mem_set h with h | h
       ·exact ends3 y h
       ·rw [h];exact ends3 xj (List.mem_of_getElem? hxj)
      ·rw [h];exact ends3 xi (List.mem_of_getElem? hxi))
     refine ⟨lt,ld,_,_,_,_,_,_,_,_,rfl,D.1,D.2.1,D.2.2,hzc,Mir.np_threads hI (fun e=>?_),rfl⟩
     rw [← hq4] at e
     have e1:=congrArg (fun z=>z[i]?) e
     rw [List.getElem?_map,List.getElem?_map,List.getElem?_set_ne jn,List.getElem?_set_self (by rw [← hq2.1];exact il),hxi] at e1
     have e2:Mir.eg xj = Mir.eg xi:=Option.some.inj e1
     have nd:(xs.map Mir.eg).Nodup:=by rw [hq4];exact Mir.thr_nodup hI
     have g1:(xs.map Mir.eg)[i]? = some (Mir.eg xi):=by rw [List.getElem?_map,hxi];rfl
     have g2:(xs.map Mir.eg)[j]? = some (Mir.eg xi):=by rw [List.getElem?_map,hxj];exact congrArg some e2
     obtain ⟨l1,e3⟩:=List.getElem?_eq_some_iff.mp g1
     obtain ⟨l2,e4⟩:=List.getElem?_eq_some_iff.mp g2
     exact jn ((List.getElem_inj nd).mp (e4.trans e3.symm))
    ·exact iteN (decide_eq_false (by omega)) nxt
  refine' Mir.nexts ?m7 ?x7
  case m7 =>
   intro nxt
   by_cases hA:way = 7
   rotate_left
   ·exact ⟨_,rfl,rfl,_,rfl,iteN (decide_eq_false (fun z=>hA (by injection z))) (iteF nxt)⟩
   ·refine ⟨_,rfl,rfl,_,rfl,iteY (decide_eq_true (by rw [hA])) ?_⟩
    refine ⟨_,rfl,_,_,rfl,rfl,_,rfl,?_⟩
    by_cases hB:0 < ts.length
    ·refine iteY (decide_eq_true (by omega)) ?_
     refine ⟨_,rfl,.inl ⟨rfl,_,SqL.of t3⟩,_,rfl,_,rfl,_,_,rfl,rfl,_,_,rfl,rfl,(by show (0:Int) < ((ts.length:Nat):Int) + 1;omega),?_⟩
     dsimp only
     have iz:(0:Int)≤rest % (((ts.length:Nat):Int) + 1):=Int.emod_nonneg _ (by omega)
     have iy:rest % (((ts.length:Nat):Int) + 1) < (((ts.length:Nat):Int) + 1):=Int.emod_lt_of_pos _ (by omega)
     obtain ⟨i,hi⟩:∃ i:Nat,rest % (((ts.length:Nat):Int) + 1) = i:=⟨(rest % (((ts.length:Nat):Int) + 1)).toNat,by omega⟩
     rw [hi]
     refine ⟨_,rfl,p,_,_,_,rfl,rfl,SqT.of hp3,rfl,_,rfl,_,_,rfl,rfl,⟨by decide,by decide⟩,_,rfl,_,_,rfl,rfl,(by show (0:Int) < ((ts.length:Nat):Int);omega),?_⟩
     dsimp only
     have jz:(0:Int)≤rest / 7 % ((ts.length:Nat):Int):=Int.emod_nonneg _ (by omega)
     have jy:rest / 7 % ((ts.length:Nat):Int) < ((ts.length:Nat):Int):=Int.emod_lt_of_pos _ (by omega)
     obtain ⟨j,hj⟩:∃ j:Nat,rest / 7 % ((ts.length:Nat):Int) = j:=⟨(rest / 7 % ((ts.length:Nat):Int)).toNat,by omega⟩
     rw [hj]
     obtain ⟨tj,htj⟩:∃ tj,ts[j]? = some tj:=⟨_,List.getElem?_eq_getElem (by omega)⟩
     obtain ⟨xj,hxj⟩:∃ xj,xs[j]? = some xj:=⟨_,List.getElem?_eq_getElem (by rw [← hq2.1];omega)⟩
     refine ⟨q,_,_,_,rfl,rfl,SqT.of hq13,atI_nat (j:=j) (by rw [List.getElem?_map,htj];rfl),lt,_,_,i,_,rfl,rfl,t3,rfl,by rw [List.length_map];omega,small1000 (by rw [List.length_map];omega),?_⟩
     have D:=tfin H3 (ts.take i ++ ([tj] ++ ts.drop i)) ((ts.map V.ref).take i ++ .ref tj :: (ts.map V.ref).drop i) (xs.take i ++ ([xj] ++ xs.drop i)) (by rw [List.map_append,List.map_append,List.map_take,List.map_drop];rfl) (Same.refl _) ((hq3'.take i).app ((Mir.Tup.one (f:=Mir.tg) (hq3'.2 j tj xj htj hxj)).app (hq3'.drop i))) (fun y hy=>by
      rcases List.mem_append.mp hy with h | h
      ·exact ends3 y (List.mem_of_mem_take h)
      ·rcases List.mem_append.mp h with h | h
       ·rw [List.mem_singleton.mp h];exact ends3 xj (List.mem_of_getElem? hxj)
       ·exact ends3 y (List.mem_of_mem_drop h))
     refine ⟨lt,ld,_,_,_,_,_,_,_,_,rfl,D.1,D.2.1,D.2.2,hzc,Mir.np_threads hI (fun e=>?_),rfl⟩
     have:=congrArg List.length e
     rw [L0n,List.length_map,List.length_append,List.length_append,List.length_singleton,List.length_take,List.length_drop,← hq2.1] at this
     omega
    ·exact iteN (decide_eq_false (by omega)) nxt
  have hlm:((Mir.nV ms).length:Int) = 2 * n:=by rw [Mir.nV_len,W.len];omega
  refine' Mir.nexts ?m1 ?x1
  case m1 =>
   intro nxt
   by_cases hA:way = 1
   rotate_left
   ·exact ⟨_,rfl,rfl,_,rfl,iteN (decide_eq_false (fun z=>hA (by injection z))) (iteF nxt)⟩
   ·refine ⟨_,rfl,rfl,_,rfl,iteY (decide_eq_true (by rw [hA])) ?_⟩
    refine ⟨_,rfl,a,_,rfl,.inr (s03.tup hS),_,_,rfl,rfl,_,rfl,?_⟩
    by_cases hB:0 < n
    ·refine iteY (decide_eq_true (by rw [hlm];omega)) ?_
     obtain ⟨ws,w1,w2,w3⟩:=hw
     refine ⟨_,rfl,_,rfl,lw,_,rfl,.inl (SqL.of w1),?_⟩
     rw [List.length_map,w2]
     refine ⟨_,_,rfl,rfl,(by show (0:Int) < ((cs.length + 1:Nat):Int);omega),?_⟩
     dsimp only
     have iz:(0:Int)≤rest % ((cs.length + 1:Nat):Int):=Int.emod_nonneg _ (by omega)
     have iy:rest % ((cs.length + 1:Nat):Int) < ((cs.length + 1:Nat):Int):=Int.emod_lt_of_pos _ (by omega)
     obtain ⟨i,hi⟩:∃ i:Nat,rest % ((cs.length + 1:Nat):Int) = i:=⟨(rest % ((cs.length + 1:Nat):Int)).toNat,by omega⟩
     rw [hi]
     obtain ⟨tw,htw⟩:∃ tw,ws[i]? = some tw:=⟨_,List.getElem?_eq_getElem (by omega)⟩
     have w4:=w3 i tw htw
     refine ⟨_,rfl,_,rfl,lw,_,_,_,rfl,rfl,SqL.of w1,atI_nat (j:=i) (by rw [List.getElem?_map,htw];rfl),_,rfl,_,_,rfl,rfl,⟨by decide,by decide⟩,tw,n,_,_,rfl,w4,Mir.lead_take cs i ms W fL,hB,hn,fun lr H5 ds flr s5 tR dl2 dsm=>?_⟩
     have d5:=s5 _ _ d3
     obtain ⟨rs,r1,r2⟩:=tR.tup
     have nlr:ld≠lr:=fun z=>by rw [← z,d3] at flr;cases flr
     refine ⟨_,rfl,_,rfl,_,rfl,_,rfl,_,rfl,ld,lr,_,_,i,i,rfl,rfl,d5,r1,nlr,by rw [List.length_map,bounds_to (Nat.le_refl _) (by omega),Nat.min_eq_left (by omega)],Nat.le_refl _,by rw [List.length_map];omega,small1000 (by rw [List.length_map,List.length_map,r2.1];omega) |> Nat.le_of_lt,?_⟩
     have D:=dfin H5 (us.take i ++ rs ++ us.drop i) ((us.map V.ref).take i ++ rs.map V.ref ++ (us.map V.ref).drop i) ((cs.map Mir.zN).take i ++ ds ++ (cs.map Mir.zN).drop i) (by rw [List.map_append,List.map_append,List.map_take,List.map_drop]) s5 ((((us3.same s5).take _).app r2).app ((us3.same s5).drop _))
     have dlen2:((cs.map Mir.zN).take i ++ ds ++ (cs.map Mir.zN).drop i).length = cs.length + 2:=by rw [List.length_append,List.length_append,List.length_take,List.length_drop,List.length_map,dl2];omega
     refine ⟨lt,ld,_,_,_,_,_,_,_,_,rfl,D.1,D.2.1,D.2.2,⟨by omega,fun d hd=>?_⟩,take_ne _ (by omega),rfl⟩
     rcases List.mem_append.mp hd with hd | hd
     ·rcases List.mem_append.mp hd with hd | hd
      ·exact smc d (List.mem_of_mem_take hd)
      ·exact dsm d hd
     ·exact smc d (List.mem_of_mem_drop hd)
    ·exact iteN (decide_eq_false (by rw [hlm];omega)) nxt
  refine' Mir.nexts ?m2 ?x2
  case m2 =>
   intro br
   refine' Mir.nextsP (0 < n) ?m3 ?x3
   case m3 =>
    intro nxt
    by_cases hA:way = 2
    ·exact ⟨_,rfl,rfl,_,rfl,iteY (decide_eq_true (by rw [hA])) (iteT br)⟩
    ·refine ⟨_,rfl,rfl,_,rfl,iteN (decide_eq_false (fun z=>hA (by injection z))) ⟨_,rfl,a,_,rfl,.inr (s03.tup hS),rfl,_,rfl,ite2 (fun _=>br) (fun z=>nxt ?_)⟩⟩
     have:(2 * (n:Int))≠0:=fun e=>z (decide_eq_true (by rw [hlm,e]))
     omega
   intro n0
   have tp:0 < ts.length:=by
    rw [← L0n,List.length_map]
    exact List.length_pos_iff.mpr (Mir.thr_some W WO hI n0)
   refine ⟨_,rfl,rfl,_,rfl,ite2 (fun _=>?_) (fun _=>?_)⟩
   ·refine ⟨_,rfl,.inl ⟨rfl,_,SqL.of t3⟩,_,rfl,_,rfl,lt,_,rfl,.inl (SqL.of t3),?_⟩
    rw [List.length_map]
    refine ⟨_,_,rfl,rfl,(by show (0:Int) < ((ts.length:Nat):Int);omega),?_⟩
    dsimp only
    have iz:(0:Int)≤rest % ((ts.length:Nat):Int):=Int.emod_nonneg _ (by omega)
    have iy:rest % ((ts.length:Nat):Int) < ((ts.length:Nat):Int):=Int.emod_lt_of_pos _ (by omega)
    obtain ⟨i,hi⟩:∃ i:Nat,rest % ((ts.length:Nat):Int) = i:=⟨(rest % ((ts.length:Nat):Int)).toNat,by omega⟩
    rw [hi]
    have il:i < ts.length:=by omega
    have ixn:ixN (ts.map V.ref).length ((i:Nat):Int) = some i:=by rw [ixN_of (by omega) (by rw [List.length_map];omega),Int.toNat_natCast]
    obtain ⟨ti,hti⟩:∃ ti,ts[i]? = some ti:=⟨_,List.getElem?_eq_getElem il⟩
    refine ⟨lt,_,_,i,_,rfl,rfl,t3,by omega,by omega,(ixN_seq ixn).1,by rw [List.getElem?_map,hti];rfl,?_⟩
    have D:=tfin H3 (ts.take i ++ ts.drop (i + 1)) ((ts.map V.ref).eraseIdx i) (xs.take i ++ xs.drop (i + 1)) (by rw [List.eraseIdx_eq_take_drop_succ,List.map_append,List.map_take,List.map_drop]) (Same.refl _) ((hq3'.take i).app (hq3'.drop (i + 1))) (fun y hy=>by
     rcases List.mem_append.mp hy with h | h
     ·exact ends3 y (List.mem_of_mem_take h)
     ·exact ends3 y (List.mem_of_mem_drop h))
    refine ⟨lt,ld,_,_,_,_,_,_,_,_,rfl,D.1,D.2.1,D.2.2,hzc,Mir.np_threads hI (fun e=>?_),rfl⟩
    have:=congrArg List.length e
    rw [L0n,List.length_map,List.length_append,List.length_take,List.length_drop,← hq2.1] at this
    omega
   ·refine ⟨_,rfl,_,rfl,lt,_,rfl,.inl (SqL.of t3),?_⟩
    rw [List.length_map]
    refine ⟨_,_,rfl,rfl,(by show (0:Int) < ((ts.length:Nat):Int);omega),?_⟩
    dsimp only
    have iz:(0:Int)≤rest % ((ts.length:Nat):Int):=Int.emod_nonneg _ (by omega)
    have iy:rest % ((ts.length:Nat):Int) < ((ts.length:Nat):Int):=Int.emod_lt_of_pos _ (by omega)
    obtain ⟨i,hi⟩:∃ i:Nat,rest % ((ts.length:Nat):Int) = i:=⟨(rest % ((ts.length:Nat):Int)).toNat,by omega⟩
    rw [hi]
    have il:i < ts.length:=by omega
    have ixn:ixN (ts.map V.ref).length ((i:Nat):Int) = some i:=by rw [ixN_of (by omega) (by rw [List.length_map];omega),Int.toNat_natCast]
    obtain ⟨ti,hti⟩:∃ ti,ts[i]? = some ti:=⟨_,List.getElem?_eq_getElem il⟩
    obtain ⟨xi,hxi⟩:∃ xi,xs[i]? = some xi:=⟨_,List.getElem?_eq_getElem (by rw [← hq2.1];exact il)⟩
    obtain ⟨th,hth⟩:∃ th,ths[i]? = some th:=⟨_,List.getElem?_eq_getElem (by rw [← List.length_map (f:=Mir.tz),L0n];exact il)⟩
    have ee:Mir.eg xi = Mir.tz th:=by
     have g1:(xs.map Mir.eg)[i]? = some (Mir.eg xi):=by rw [List.getElem?_map,hxi];rfl
     rw [hq4,List.getElem?_map,hth] at g1
     exact (Option.some.inj g1).symm
    have k1:xi.1 = Mir.ks th.1:=congrArg (fun z:Mir.Tz=>z.1) ee
    have k2:xi.2.2 = th.2.map fun (m:Nat)=>(m:Int):=congrArg (fun z:Mir.Tz=>z.2) ee
    obtain ⟨z1,z2,z3⟩:=Mir.thr_facts W WO hI (List.mem_of_getElem? hth)
    have hxt:=hq3'.2 i ti xi hti hxi
    refine ⟨_,rfl,_,rfl,lt,_,_,_,rfl,rfl,SqL.of t3,atI_nat (j:=i) (by rw [List.getElem?_map,hti];rfl),_,rfl,_,_,rfl,rfl,⟨by decide,by decide⟩,ti,th.1,xi.2.1,xi.2.2,_,rfl,by rw [← k1];exact hxt,ends3 xi (List.mem_of_getElem? hxi),by rw [k2];exact fun h=>z1 (List.map_eq_nil_iff.mp h),by rw [k2];exact List.nodup_iff_pairwise_ne.mpr (List.pairwise_map.mpr ((List.nodup_iff_pairwise_ne.mp z2).imp fun h=>by omega)),by rw [k2,List.length_map];omega,fun u H5 y s5 hu5 hy5 ney=>?_⟩
    have t5:=s5 _ _ t3
    refine ⟨_,rfl,_,rfl,lt,_,_,i,rfl,rfl,t5,ixn,?_⟩
    have D:=tfin H5 (ts.set i u) ((ts.map V.ref).set i (.ref u)) (xs.set i y) (by rw [List.map_set]) s5 ((hq3'.same s5).set i hu5) (fun x hx=>by
     rcases List.mem_or_eq_of_mem_set hx with h | h
     ·exact s5 _ _ (ends3 x h)
     ·rw [h];exact hy5)
    refine ⟨lt,ld,_,_,_,_,_,_,_,_,rfl,D.1,D.2.1,D.2.2,hzc,Mir.np_threads hI (fun e=>?_),rfl⟩
    rw [← hq4] at e
    have e1:((xs.set i y).map Mir.eg)[i]? = (xs.map Mir.eg)[i]?:=congrArg (fun z=>z[i]?) e
    rw [List.getElem?_map,List.getElem?_map,List.getElem?_set_self (by rw [← hq2.1];exact il),hxi] at e1
    refine ney ((Option.some.inj e1).trans ?_)
    rw [ee]
    exact Prod.ext rfl k2.symm
  case x2 =>
   obtain ⟨ws,w1,w2,w3⟩:=hw
   refine ⟨_,rfl,_,rfl,lw,_,rfl,.inl (SqL.of w1),?_⟩
   rw [List.length_map,w2]
   refine ⟨_,_,rfl,rfl,(by show (0:Int) < ((cs.length + 1:Nat):Int);omega),?_⟩
   dsimp only
   have iz:(0:Int)≤rest % ((cs.length + 1:Nat):Int):=Int.emod_nonneg _ (by omega)
   have iy:rest % ((cs.length + 1:Nat):Int) < ((cs.length + 1:Nat):Int):=Int.emod_lt_of_pos _ (by omega)
   obtain ⟨i,hi⟩:∃ i:Nat,rest % ((cs.length + 1:Nat):Int) = i:=⟨(rest % ((cs.length + 1:Nat):Int)).toNat,by omega⟩
   rw [hi]
   obtain ⟨tw,htw⟩:∃ tw,ws[i]? = some tw:=⟨_,List.getElem?_eq_getElem (by omega)⟩
   have w4:=w3 i tw htw
   refine ⟨_,rfl,_,rfl,lw,_,_,_,rfl,rfl,SqL.of w1,atI_nat (j:=i) (by rw [List.getElem?_map,htw];rfl),_,rfl,_,_,rfl,rfl,⟨by decide,by decide⟩,tw,n,_,_,rfl,w4,Mir.lead_take cs i ms W fL,hn,fun t H5 d s5 ht dm1 dm2 nf=>?_⟩
   refine ⟨by show 1≤sizeLine;decide,fun lr hlr=>?_⟩
   have s6:Same H5 (upd H5 lr (.lst [.ref t])):=same_upd hlr
   have r1:upd H5 lr (.lst [.ref t]) lr = some (.lst [.ref t]):=upd_same
   have nlr:ld≠lr:=fun z=>by have q:=s5 _ _ d3;rw [z,hlr] at q;cases q
   generalize upd H5 lr (.lst [.ref t]) = H6 at s6 r1
   have s36:=s5.trans s6
   have d6:=s36 _ _ d3
   refine ⟨_,rfl,_,rfl,_,rfl,_,rfl,_,_,rfl,rfl,_,rfl,ld,lr,_,_,i,min (i + 1) us.length,rfl,rfl,d6,r1,nlr,by rw [List.length_map];exact bounds_to (Nat.le_succ _) (by omega),by omega,by rw [List.length_map];omega,small1000 (by rw [List.length_map];show us.length + 1≤1000;omega) |> Nat.le_of_lt,?_⟩
   have D:=dfin H6 (us.take i ++ [t] ++ us.drop (min (i + 1) us.length)) ((us.map V.ref).take i ++ [.ref t] ++ (us.map V.ref).drop (min (i + 1) us.length)) ((cs.map Mir.zN).take i ++ [d] ++ (cs.map Mir.zN).drop (min (i + 1) us.length)) (by rw [List.map_append,List.map_append,List.map_take,List.map_drop];rfl) s36 ((((us3.same s36).take _).app (Mir.Tup.one (s6 _ _ ht))).app ((us3.same s36).drop _))
   refine ⟨lt,ld,_,_,_,_,_,_,_,_,rfl,D.1,D.2.1,D.2.2,⟨?_,fun e he=>?_⟩,?_,rfl⟩
   ·rw [List.length_append,List.length_append,List.length_take,List.length_drop,List.length_map,List.length_singleton];omega
   ·rcases List.mem_append.mp he with he | he
    ·rcases List.mem_append.mp he with he | he
     ·exact smc e (List.mem_of_mem_take he)
     ·rw [List.mem_singleton.mp he];exact ⟨dm1,dm2⟩
    ·exact smc e (List.mem_of_mem_drop he)
   ·refine Mir.np_run fun hrun=>?_
    rw [List.append_assoc,← List.map_take] at hrun
    obtain ⟨vs,g1,g2,g3⟩:=hrun.split
    rw [g1.uniq (Mir.run_workR fL i)] at g2
    exact nf g2
end
section
variable {P:Program} {w:World} {K:PySem.W.Frag} {mg:Str→Option Value} {base:Heap}
theorem ok_law_refusal26 {f f1 CE CP CU:Addr} {fd fd1:FuncData} (B:Bl mg) (ME:mg "ClaspError" = some (.ref CE)) (MP:mg "NoPaper" = some (.ref CP)) (MU:mg "Unlike" = some (.ref CU)) (XP:ExK K CP) (XU:ExK K CU)
  (pe1:PySem.W.exmOne K (.ref CP) (.ref CE) = some true) (pe2:PySem.W.exmOne K (.ref CU) (.ref CE) = some true)
  (n1:PySem.W.kitOne K (.ref CP) (.ref CP) = some true) (n2:PySem.W.kitOne K (.ref CP) (.ref CU) = some false) (n3:PySem.W.kitOne K (.ref CP) (.type "ValueError") = some true)
  (r1:PySem.W.kitOne K (.ref CU) (.ref CP) = some false) (r2:PySem.W.kitOne K (.ref CU) (.ref CU) = some true) (r3:PySem.W.kitOne K (.ref CU) (.type "ValueError") = some true)
  (F:Fn K mg "_law_refusal" s_law_refusal ["one","other","paper"] f fd) (F1:Fn K mg "judged_paper" s_judged_paper ["one","other","paper"] f1 fd1) (G1:FnOk P w K mg base (CXo P w) 7 f1 fd1 ["one","other","paper"] (Mir.spJudgedX K CP CU)):FnOk P w K mg base CX0 8 f fd ["one","other","paper"] (Mir.spRefusal26 K):=by
 refine F.fn.okO sc_law_refusal (fun vs H Q E h=>?_) (fun cdv A outer s H vs Q E hr h own=>?_)
 ·obtain ⟨a,b,p,q,r,n,m,ms,os,L,ds,rfl,_⟩:=h
  rfl
 ·obtain ⟨a,b,p,q,r,n,m,ms,os,L,ds,rfl,hS,W,hn,hO,hm,hp,hq,hd,hz,hway⟩:=h
  refine ⟨_,pss_cons (ps_set (i:=3) sc_law_refusal.nd rfl (Or.inl rfl) (pe_lst pa_nil))
   (pss_tryR own sc_law_refusal.nd (i:=4) rfl rfl ME
    (psx_expr (pex_fn G1 F1 hr (pa_cons (pv 0) (pa_cons (pv 1) (pa_cons (pv 2) pa_nil)))))
    (tb:=fun cls e D σ H'=>∃ (k:Bool) (v0 v1 v2 v3:Option V),cls = .ref (if k then CP else CU)∧σ = [v0,v1,v2,v3,some (.ref e)]∧∀ (l:Addr) (H2:Hp),H' l = none→Same H' H2→H2 l = some (.lst [.bl k,.bl (!k),.bl true])→D.nx [v0,v1,v2,some (.ref l),some (.ref e)] H2)
    (tr:=fun cls e D σ H'=>∃ (l:Addr) (v0 v1 v2 v4:Option V),σ = [v0,v1,v2,some (.ref l),v4]∧D.rt (.ref l) H')
    (fun cls e oe he=>ps_sem fun D σ H' hR=>?suite) (fun cls e oe he=>ps_sem fun D σ H' hR=>?after)),?_⟩
  case suite =>
   obtain ⟨kb,v0,v1,v2,v3,rfl,rfl,q⟩:=hR
   have X:ExK K (if kb = true then CP else CU):=by cases kb;exact XU;exact XP
   have p1:PySem.W.kitOne K (.ref (if kb = true then CP else CU)) (.ref CP) = some kb:=by cases kb;exact r1;exact n1
   have p2:PySem.W.kitOne K (.ref (if kb = true then CP else CU)) (.ref CU) = some (!kb):=by cases kb;exact r2;exact n2
   have p3:PySem.W.kitOne K (.ref (if kb = true then CP else CU)) (.type "ValueError") = some true:=by cases kb;exact r3;exact n3
   generalize (if kb = true then CP else CU) = C at he X p1 p2 p3
   refine ⟨_,pss_one (ps_set (i:=3) sc_law_refusal.nd rfl (Or.inl rfl) (pe_lst (pa_cons (pe_callB (call_isx he X) rfl B.isinstance bb_isinstance (pa_cons (pv 4) (pa_cons (pe_glob (v:=.ref CP) rfl MP rfl) pa_nil))) (pa_cons (pe_callB (call_isx he X) rfl B.isinstance bb_isinstance (pa_cons (pv 4) (pa_cons (pe_glob (v:=.ref CU) rfl MU rfl) pa_nil))) (pa_cons (pe_callB (call_isx he X) rfl B.isinstance bb_isinstance (pa_cons (pv 4) (pa_cons (pe_bltn (v:=.ty "ValueError") rfl B.ValueError bb_ValueError rfl) pa_nil))) pa_nil))))),?_⟩
   exact ⟨_,rfl,_,_,.inl ⟨_,rfl,p1⟩,rfl,_,rfl,_,_,.inl ⟨_,rfl,p2⟩,rfl,_,rfl,_,_,.inr ⟨_,rfl,p3⟩,rfl,by show 3≤sizeLine;decide,fun l hl=>q l _ hl (same_upd hl) upd_same⟩
  case after =>
   obtain ⟨l,v0,v1,v2,v4,rfl,q⟩:=hR
   exact ⟨_,pss_one (ps_ret (pv 3)),_,rfl,q⟩
  refine ⟨by show 0≤sizeLine;decide,fun l0 hl0=>?_⟩
  have s0:Same H (upd H l0 (.lst [])):=same_upd hl0
  generalize upd H l0 (.lst []) = H1 at s0
  rcases hway with ⟨e,WO,np,k⟩ | ⟨ne,k⟩
  ·refine ⟨fun cls _ H'=>cls = .ref CP∧Same H H',?_,?_⟩
   ·exact ⟨_,rfl,_,rfl,_,rfl,a,b,p,q,r,n,m,ms,os,L,ds,rfl,s0.tup hS,W,hn,s0.tup hO,hm,s0 _ _ hp,hq.same s0,hd.same s0,hz,fun _=>⟨WO,np,fun H' s'=>⟨rfl,s0.trans s'⟩⟩,fun z=>absurd e z⟩
   ·rintro cls H' ⟨rfl,sH⟩
    exact ⟨pe1,fun e he=>⟨true,_,_,_,_,rfl,rfl,fun l H2 hl s2 h2=>⟨l,_,_,_,_,rfl,k l H2 (sH.trans s2) h2⟩⟩⟩
  ·refine ⟨fun cls _ H'=>cls = .ref CU∧Same H H',?_,?_⟩
   ·exact ⟨_,rfl,_,rfl,_,rfl,a,b,p,q,r,n,m,ms,os,L,ds,rfl,s0.tup hS,W,hn,s0.tup hO,hm,s0 _ _ hp,hq.same s0,hd.same s0,hz,fun z=>absurd z ne,fun _ H' s'=>⟨rfl,s0.trans s'⟩⟩
   ·rintro cls H' ⟨rfl,sH⟩
    exact ⟨pe2,fun e he=>⟨false,_,_,_,_,rfl,rfl,fun l H2 hl s2 h2=>⟨l,_,_,_,_,rfl,k l H2 (sH.trans s2) h2⟩⟩⟩
end
section
seal L2.PSs L2.PS L2.PE L2.PT L2.PA
variable {P:Program} {w:World} {K:PySem.W.Frag} {mg:Str→Option Value} {base:Heap}
theorem ok_law {C_BadDeed C_Unlike C_NoPaper C_ClaspError:Addr} (B:Bl mg) (ZD:ECls K mg "BadDeed" C_BadDeed) (Z:ECls K mg "Unlike" C_Unlike) (ZP:ECls K mg "NoPaper" C_NoPaper) (ME:mg "ClaspError" = some (.ref C_ClaspError)) (XP:ExK K C_NoPaper) (XU:ExK K C_Unlike)
  (pd:PySem.W.exmOne K (.ref C_BadDeed) (.ref C_BadDeed) = some true) (pe1:PySem.W.exmOne K (.ref C_NoPaper) (.ref C_ClaspError) = some true) (pe2:PySem.W.exmOne K (.ref C_Unlike) (.ref C_ClaspError) = some true) (n1:PySem.W.kitOne K (.ref C_NoPaper) (.ref C_NoPaper) = some true) (n2:PySem.W.kitOne K (.ref C_NoPaper) (.ref C_Unlike) = some false) (n3:PySem.W.kitOne K (.ref C_NoPaper) (.type "ValueError") = some true) (r1:PySem.W.kitOne K (.ref C_Unlike) (.ref C_NoPaper) = some false) (r2:PySem.W.kitOne K (.ref C_Unlike) (.ref C_Unlike) = some true) (r3:PySem.W.kitOne K (.ref C_Unlike) (.type "ValueError") = some true)
  {f0 f1 f2 f3 f4 f5 f6 f7 f8 f9 f10 f11 f12 f13 f14 f15 f16 f17 f18 f19 f20 f21 f22 f23 f24 f25 f26 f27 f28 f29 f30 f31 f32 f33 f34 f35 f36 f37:Addr} {fd0 fd1 fd2 fd3 fd4 fd5 fd6 fd7 fd8 fd9 fd10 fd11 fd12 fd13 fd14 fd15 fd16 fd17 fd18 fd19 fd20 fd21 fd22 fd23 fd24 fd25 fd26 fd27 fd28 fd29 fd30 fd31 fd32 fd33 fd34 fd35 fd36 fd37:FuncData} (F_staves_in:Fn K mg "staves_in" s_staves_in ["work"] f0 fd0) (F_refuse_unlike:Fn K mg "refuse_unlike" s_refuse_unlike ["one","other"] f1 fd1) (F_loose_ends:Fn K mg "loose_ends" s_loose_ends ["work"] f2 fd2) (F_fits_work:Fn K mg "fits_work" s_fits_work ["work","deed"] f3 fd3) (F_refuse_misfit:Fn K mg "refuse_misfit" s_refuse_misfit ["work","deed"] f4 fd4) (F_reclasped:Fn K mg "reclasped" s_reclasped ["work","deed"] f5 fd5) (F_freed_ends:Fn K mg "freed_ends" s_freed_ends ["work","deed"] f6 fd6) (F_clasp_ends:Fn K mg "clasp_ends" s_clasp_ends ["mates","one","other"] f7 fd7) (F_least_pair:Fn K mg "least_pair" s_least_pair ["work","deed"] f8 fd8) (F_works_along:Fn K mg "works_along" s_works_along ["work","deeds"] f9 fd9) (F_threads:Fn K mg "threads" s_threads ["one","other"] f10 fd10) (F_open_threads:Fn K mg "open_threads" s_open_threads ["one","other"] f11 fd11) (F_walked_thread:Fn K mg "walked_thread" s_walked_thread ["start","first","second"] f12 fd12) (F_mark_ends:Fn K mg "mark_ends" s_mark_ends ["seen","ends"] f13 fd13) (F_least_end:Fn K mg "least_end" s_least_end ["thread"] f14 fd14) (F_thread_score:Fn K mg "thread_score" s_thread_score ["one","other"] f15 fd15) (F_apart_by:Fn K mg "apart_by" s_apart_by ["one","other"] f16 fd16) (F_nearer_deeds:Fn K mg "nearer_deeds" s_nearer_deeds ["one","other"] f17 fd17) (F_ends_in:Fn K mg "ends_in" s_ends_in ["laid","kind"] f18 fd18) (F_splitting_pairs:Fn K mg "splitting_pairs" s_splitting_pairs ["ends"] f19 fd19) (F_crossing_pairs:Fn K mg "crossing_pairs" s_crossing_pairs ["bare","tied"] f20 fd20) (F_ordered_pair:Fn K mg "ordered_pair" s_ordered_pair ["end","mate"] f21 fd21) (F_fewest_deeds:Fn K mg "fewest_deeds" s_fewest_deeds ["one","other"] f22 fd22) (F_paper_for:Fn K mg "paper_for" s_paper_for ["one","other"] f23 fd23) (F_judged_paper:Fn K mg "judged_paper" s_judged_paper ["one","other","paper"] f24 fd24) (F_leads_to:Fn K mg "leads_to" s_leads_to ["one","deeds","other"] f25 fd25) (F_law_cell_at:Fn K mg "_law_cell_at" s_law_cell_at ["script","k"] f26 fd26) (F_law_mates:Fn K mg "_law_mates" s_law_mates ["flow","staves"] f27 fd27) (F_law_freed:Fn K mg "_law_freed" s_law_freed ["mates","end"] f28 fd28) (F_law_done:Fn K mg "_law_done" s_law_done ["mates","one","other"] f29 fd29) (F_law_along:Fn K mg "_law_along" s_law_along ["one","deeds"] f30 fd30) (F_law_detour:Fn K mg "_law_detour" s_law_detour ["work","cell"] f31 fd31) (F_law_misfit:Fn K mg "_law_misfit" s_law_misfit ["work","cell"] f32 fd32) (F_law_thread_else:Fn K mg "_law_thread_else" s_law_thread_else ["thread","cell"] f33 fd33) (F_law_elsewhere:Fn K mg "_law_elsewhere" s_law_elsewhere ["work","other","cell"] f34 fd34) (F_law_spoiled:Fn K mg "_law_spoiled" s_law_spoiled ["one","other","paper","cell"] f35 fd35) (F_law_refusal:Fn K mg "_law_refusal" s_law_refusal ["one","other","paper"] f36 fd36) (F_law:Fn K mg "law" s_law ["script"] f37 fd37):FnOk P w K mg base CX0 12 f37 fd37 ["script"] (spLaw K):=by
 have G_threads:=ok_threads (P:=P) (w:=w) (base:=base) B Z F_threads F_refuse_unlike F_loose_ends F_open_threads F_walked_thread F_mark_ends F_least_end
 have G_thread_score:=ok_thread_score B F_thread_score F_threads G_threads
 have G_apart_by:=ok_apart_by B F_apart_by F_staves_in F_thread_score G_thread_score
 have G_nearer_deeds:=ok_nearer_deeds B F_nearer_deeds F_threads G_threads F_ends_in F_crossing_pairs F_splitting_pairs F_ordered_pair F_fits_work F_least_pair F_freed_ends
 have G_reclasped:=ok_reclasped (P:=P) (w:=w) (base:=base) B ZD F_reclasped F_fits_work F_refuse_misfit F_freed_ends F_clasp_ends
 have G_fewest_deeds:=ok_fewest_deeds B F_fewest_deeds F_nearer_deeds G_nearer_deeds F_reclasped G_reclasped
 have G_works_along:=ok_works_alongX F_works_along F_reclasped G_reclasped
 have G_leads_to:=ok_leads_to_no ZD.g pd F_leads_to F_works_along G_works_along
 have G_judged_paper:=ok_judged_paper_x B ZP F_judged_paper F_threads G_threads F_apart_by G_apart_by F_leads_to G_leads_to
 have G_paper_for:=ok_paper_for B F_paper_for F_threads G_threads F_fewest_deeds G_fewest_deeds
 have G_law_cell_at:=ok_law_cell_at (P:=P) (w:=w) (base:=base) B F_law_cell_at
 have G_law_mates:=ok_law_mates (P:=P) (w:=w) (base:=base) B F_law_mates
 have G_law_done:=ok_law_done (P:=P) (w:=w) (base:=base) B F_law_done F_law_freed
 have G_law_along:=ok_law_along26 B F_law_along F_law_done G_law_done
 have G_law_elsewhere:=ok_law_elsewhere B F_law_elsewhere F_law_done G_law_done
 have G_law_spoiled:=ok_law_spoiled26 B F_law_spoiled F_law_along G_law_along F_law_elsewhere G_law_elsewhere F_law_detour F_law_misfit F_law_thread_else
 have G_law_refusal:=ok_law_refusal26 B ME ZP.g Z.g XP XU pe1 pe2 n1 n2 n3 r1 r2 r3 F_law_refusal F_judged_paper G_judged_paper
 refine F_law.fn.ok sc_law (fun vs H Q E h=>?_) (fun cdv A outer s H vs Q E hr h=>?_)
 ·obtain ⟨a,ns,rfl,_⟩:=h
  rfl
 ·obtain ⟨a,ns,rfl,hS,hlen,k⟩:=h
  have hu:=hu_of hr
  refine ⟨_,(pss_cons (ps_set (i:=1) sc_law.nd rfl (Or.inl rfl) (pe_op op_mod (pe_fn G_law_cell_at F_law_cell_at (hr.mono (by decide)) (pa_cons (pv 0) (pa_cons pe_int pa_nil))) pe_int))
   (pss_cons (ps_set (i:=2) sc_law.nd rfl (Or.inl rfl) (pe_op op_add pe_int (pe_op op_mod (pe_fn G_law_cell_at F_law_cell_at (hr.mono (by decide)) (pa_cons (pv 0) (pa_cons pe_int pa_nil))) (pe_callB (call_max2 rfl) rfl B.max bb_max (pa_cons pe_int (pa_cons (pe_op op_sub (pe_callB call_len_seq rfl B.len bb_len (pa_cons (pv 0) pa_nil)) pe_int) pa_nil))))))
   (pss_cons (ps_set (i:=3) sc_law.nd rfl (Or.inl rfl) (pe_callTy call_tuple_any rfl B.tuple bb_tuple (pa_cons (pe_fn G_law_mates F_law_mates (hr.mono (by decide)) (pa_cons (pe_slice sl_list (pv 0) (po_some pe_int) (po_some (pv 2))) (pa_cons (pv 1) pa_nil))) pa_nil)))
   (pss_cons (ps_set (i:=4) sc_law.nd rfl (Or.inl rfl) (pe_callTy call_tuple_any rfl B.tuple bb_tuple (pa_cons (pe_fn G_law_mates F_law_mates (hr.mono (by decide)) (pa_cons (pe_slice sl_list (pv 0) (po_some (pv 2)) po_none) (pa_cons (pv 1) pa_nil))) pa_nil)))
   (pss_cons (ps_set (i:=5) sc_law.nd rfl (Or.inl rfl) (pe_fn G_paper_for F_paper_for (hr.mono (by decide)) (pa_cons (pv 3) (pa_cons (pv 4) pa_nil))))
   (pss_cons (ps_set (i:=6) sc_law.nd rfl (Or.inl rfl) (pe_fn G_law_spoiled F_law_spoiled (hr.mono (by decide)) (pa_cons (pv 3) (pa_cons (pv 4) (pa_cons (pv 5) (pa_cons (pe_fn G_law_cell_at F_law_cell_at (hr.mono (by decide)) (pa_cons (pv 0) (pa_cons pe_int pa_nil))) pa_nil))))))
   (pss_cons (ps_if (pt_cmpR (op_ne_deep 0 hu) (pe_fn G_law_refusal F_law_refusal (hr.mono (by decide)) (pa_cons (pv 3) (pa_cons (pv 4) (pa_cons (pv 6) pa_nil)))) (pe_lst (pa_cons pe_bl (pa_cons pe_bl (pa_cons pe_bl pa_nil)))) (nomark _)) (pss_one (ps_ret pe_bl)) pss_nil)
   (pss_cons (ps_set (i:=7) sc_law.nd rfl (Or.inl rfl) (pe_op op_catA (pv 4) (pe_tup (pa_cons (pe_callB call_len_seq rfl B.len bb_len (pa_cons (pv 4) pa_nil)) (pa_cons (pe_op op_add (pe_callB call_len_seq rfl B.len bb_len (pa_cons (pv 4) pa_nil)) pe_int) pa_nil)))))
   (pss_one (ps_ret (pe_and (pe_cmpR (op_eq_deep 0 hu) (pe_fn G_law_refusal F_law_refusal (hr.mono (by decide)) (pa_cons (pv 3) (pa_cons (pv 7) (pa_cons (pv 5) pa_nil)))) (pe_lst (pa_cons pe_bl (pa_cons pe_bl (pa_cons pe_bl pa_nil)))) (nomark _)) (pe_one (pe_cmpR (op_eq_deep 0 hu) (pe_fn G_law_refusal F_law_refusal (hr.mono (by decide)) (pa_cons (pv 7) (pa_cons (pv 3) (pa_cons (pv 6) pa_nil)))) (pe_lst (pa_cons pe_bl (pa_cons pe_bl (pa_cons pe_bl pa_nil)))) (nomark _)))))))))))))),?_⟩
  refine ⟨_,rfl,a,ns,0,rfl,hS,fun c0=>?_⟩
  refine ⟨_,_,rfl,rfl,(by show (0:Int) < 6;decide),?_⟩
  dsimp only
  have g0:0≤c0 % (6:Int):=Int.emod_nonneg _ (by omega)
  have g1:c0 % (6:Int) < 6:=Int.emod_lt_of_pos _ (by omega)
  obtain ⟨n,hn⟩:∃ n:Nat,c0 % (6:Int) = n:=⟨(c0 % (6:Int)).toNat,by omega⟩
  rw [hn]
  have hn5:n≤5:=by omega
  refine ⟨_,rfl,a,ns,1,rfl,hS,fun c1=>?_⟩
  refine ⟨_,rfl,a,_,rfl,.inl hS,_,_,rfl,rfl,_,_,rfl,?_⟩
  have hmx:(1:Int)≤(if ((ns.map V.int).length:Int) - 2 > 1 then ((ns.map V.int).length:Int) - 2 else 1):=by split <;> omega
  refine ⟨_,_,rfl,rfl,(by show (0:Int) < (if ((ns.map V.int).length:Int) - 2 > 1 then ((ns.map V.int).length:Int) - 2 else 1);omega),_,_,rfl,rfl,?_⟩
  dsimp only
  generalize (3:Int) + c1 % (if ((ns.map V.int).length:Int) - 2 > 1 then ((ns.map V.int).length:Int) - 2 else 1) = cut
  obtain ⟨x1,ex1,_⟩:=Mir.cutV_ints ns (some 3) (some cut)
  obtain ⟨x2,ex2,_⟩:=Mir.cutV_ints ns (some cut) none
  refine ⟨_,rfl,_,rfl,_,rfl,_,rfl,a,_,rfl,hS,fun b1 hb1=>?_⟩
  rw [ex1]
  have s1:Same H (upd H b1 (.lst (x1.map V.int))):=same_upd hb1
  refine ⟨_,rfl,b1,x1,n,rfl,SqL.of upd_same,by omega,fun l1 H1 ms hl1 s2 W h1=>?_⟩
  refine ⟨l1,_,rfl,.inl h1,fun t1 H2 s3 ht1=>?_⟩
  have s13:=s1.trans (s2.trans s3)
  refine ⟨_,rfl,_,rfl,_,rfl,a,_,rfl,s13.seq hS,fun b2 hb2=>?_⟩
  rw [ex2]
  have s4:Same H2 (upd H2 b2 (.lst (x2.map V.int))):=same_upd hb2
  refine ⟨_,rfl,b2,x2,n,rfl,SqL.of upd_same,by omega,fun l2 H3 os hl2 s5 WO h2=>?_⟩
  refine ⟨l2,_,rfl,.inl h2,fun t2 H4 s6 ht2=>?_⟩
  have s46:=s4.trans (s5.trans s6)
  have ht1:=s46 _ _ ht1
  refine ⟨_,rfl,_,rfl,t1,t2,n,ms,os,rfl,SqT.of ht1,W,SqT.of ht2,WO,hn5,fun p q r ths H5 s7 hp hq hI hf=>?_⟩
  have ht1:=s7 _ _ ht1
  have ht2:=s7 _ _ ht2
  have s05:=s13.trans (s46.trans s7)
  have fL:Mir.Lead n os ms (Mir.fewL n ms os):=Mir.fewL_lead WO _ W rfl
  have fl:(Mir.fewL n ms os).length = Mir.apartN n ms os:=Mir.fewL_len W WO
  have ap:Mir.apartN n ms os≤n:=Mir.apart_most
  have fz:Mir.Sms ((Mir.fewL n ms os).map Mir.zN):=Mir.lead_sms fL hn5 (by omega)
  refine ⟨_,rfl,_,rfl,_,rfl,_,rfl,a,ns,2,rfl,s05.seq hS,fun c2=>?_⟩
  refine ⟨t1,t2,p,q,r,n,ms,os,ths,c2,rfl,SqT.of ht1,W,SqT.of ht2,WO,hn5,hp,hq,hI,hf,fun p' q' r' L ds H6 s8 hp' hq' hr' hz np=>?_⟩
  have same3:∀ (H:Hp) (p q:Addr) (b1 b2 b3:Bool),H p = some (.lst [.bl b1,.bl b2,.bl b3])→H q = some (.lst [.bl b1,.bl b2,.bl b3])→DeepL K H 0 p q:=fun H p q b1 b2 b3 e1 e2=>⟨_,_,SqL.of e1,SqL.of e2,rfl,fun i u v z1 z2=>by
   rw [z1] at z2
   obtain rfl:=Option.some.inj z2
   refine ⟨rfl,?_⟩
   match i,z1 with
   | 0,z1=>obtain rfl:=Option.some.inj z1;rfl
   | 1,z1=>obtain rfl:=Option.some.inj z1;rfl
   | 2,z1=>obtain rfl:=Option.some.inj z1;rfl
   | i + 3,z1=>cases z1⟩
  have ht1:=s8 _ _ ht1
  have ht2:=s8 _ _ ht2
  refine ⟨_,rfl,_,rfl,_,rfl,t1,t2,p',q',r',n,n,ms,os,L,ds,rfl,SqT.of ht1,W,by omega,SqT.of ht2,WO.len,hp',hq',hr',hz,.inl ⟨rfl,WO,np,fun lg H7 s9 hlg=>?_⟩⟩
  refine ⟨by show 3≤sizeLine;decide,fun lt hlt=>?_⟩
  have s10:Same H7 (upd H7 lt (.lst [.bl true,.bl false,.bl true])):=same_upd hlt
  refine ⟨lg,lt,rfl,rfl,same3 _ _ _ _ _ _ (s10 _ _ hlg) upd_same,_,rfl,iteF ?_⟩
  have s68:=s9.trans s10
  generalize upd H7 lt (.lst [.bl true,.bl false,.bl true]) = H8 at s68
  have ht1:=s68 _ _ ht1
  have ht2:=s68 _ _ ht2
  have lo:((Mir.nV os).length:Int) = 2 * n:=by rw [Mir.nV_len,WO.len];omega
  refine ⟨_,rfl,_,rfl,t2,_,rfl,.inr (SqT.of ht2),_,rfl,t2,_,rfl,.inr (SqT.of ht2),_,_,rfl,rfl,by show 2≤sizeLine;decide,fun tp htp=>?_⟩
  dsimp only
  rw [lo]
  have s11:Same H8 (upd H8 tp (.tup [.int (2 * (n:Int)),.int (2 * (n:Int) + 1)])):=same_upd htp
  have q11:upd H8 tp (.tup [.int (2 * (n:Int)),.int (2 * (n:Int) + 1)]) tp = some (.tup [.int (2 * (n:Int)),.int (2 * (n:Int) + 1)]):=upd_same
  generalize upd H8 tp (.tup [.int (2 * (n:Int)),.int (2 * (n:Int) + 1)]) = H9 at s11 q11
  refine ⟨t2,tp,_,_,rfl,rfl,s11 _ _ ht2,q11,small1000 (by rw [Mir.nV_len,WO.len];show 2 * n + 2≤1000;omega) |> Nat.le_of_lt,fun pm H10 s12 hm=>?_⟩
  have em:Mir.nV os ++ [V.int (2 * (n:Int)),.int (2 * (n:Int) + 1)] = Mir.nV (os ++ [2 * n,2 * n + 1]):=by
   unfold Mir.nV
   rw [List.map_append]
   show _ ++ [V.int (2 * (n:Int)),.int (2 * (n:Int) + 1)] = _ ++ [V.int ((2 * n:Nat):Int),.int ((2 * n + 1:Nat):Int)]
   rw [show ((2 * n:Nat):Int) = 2 * (n:Int) by omega,show ((2 * n + 1:Nat):Int) = 2 * (n:Int) + 1 by omega]
  rw [em] at hm
  have WM:=Mir.wider_work WO (by omega)
  have s810:=s11.trans s12
  have ht1:=s810 _ _ ht1
  have s610:=s68.trans s810
  have s510:=s8.trans s610
  refine ⟨_,rfl,_,rfl,_,rfl,t1,pm,p,q,r,n,n + 1,ms,_,ths.map Mir.tz,_,rfl,SqT.of ht1,W,by omega,SqT.of hm,WM.len,s510 _ _ hp,(hq.same s510).thw,(hf.same s510).zp,fz,.inr ⟨by omega,fun lg2 H11 s13' hlg2=>?_⟩⟩
  refine ⟨by show 3≤sizeLine;decide,fun lt2 hlt2=>?_⟩
  have s14:Same H11 (upd H11 lt2 (.lst [.bl false,.bl true,.bl true])):=same_upd hlt2
  refine ⟨lg2,lt2,rfl,rfl,same3 _ _ _ _ _ _ (s14 _ _ hlg2) upd_same,_,rfl,iteT ?_⟩
  have s1012:=s13'.trans s14
  generalize upd H11 lt2 (.lst [.bl false,.bl true,.bl true]) = H12 at s1012
  have s612:=s610.trans s1012
  refine ⟨_,rfl,_,rfl,_,rfl,pm,t1,p',q',r',n + 1,n,_,ms,L,ds,rfl,SqT.of (s1012 _ _ hm),WM,by omega,SqT.of (s1012 _ _ ht1),W.len,s612 _ _ hp',hq'.same s612,hr'.same s612,hz,.inr ⟨by omega,fun lg3 H13 s15 hlg3=>?_⟩⟩
  refine ⟨by show 3≤sizeLine;decide,fun lt3 hlt3=>?_⟩
  refine ⟨lg3,lt3,rfl,rfl,same3 _ _ _ _ _ _ (same_upd hlt3 _ _ hlg3) upd_same,?_⟩
  exact k _
end
theorem us0 {R:List Value→Prop} (h:∀ _:Unit,R []) (us:List Value) (e:us.length = 0):R us:=(List.length_eq_zero_iff.mp e) ▸ h ()
theorem us1 {R:List Value→Prop} (h:∀ x0:Value,R [x0]) (us:List Value) (e:us.length = 1):R us:=by
 obtain ⟨a,r,rfl⟩:=List.exists_cons_of_length_eq_add_one e
 exact us0 (R:=fun r=>R (a :: r)) (fun _=>h a) r (Nat.succ.inj e)
theorem us2 {R:List Value→Prop} (h:∀ x0 x1:Value,R [x0,x1]) (us:List Value) (e:us.length = 2):R us:=by
 obtain ⟨a,r,rfl⟩:=List.exists_cons_of_length_eq_add_one e
 exact us1 (R:=fun r=>R (a :: r)) (h a) r (Nat.succ.inj e)
theorem us3 {R:List Value→Prop} (h:∀ x0 x1 x2:Value,R [x0,x1,x2]) (us:List Value) (e:us.length = 3):R us:=by
 obtain ⟨a,r,rfl⟩:=List.exists_cons_of_length_eq_add_one e
 exact us2 (R:=fun r=>R (a :: r)) (h a) r (Nat.succ.inj e)
theorem us4 {R:List Value→Prop} (h:∀ x0 x1 x2 x3:Value,R [x0,x1,x2,x3]) (us:List Value) (e:us.length = 4):R us:=by
 obtain ⟨a,r,rfl⟩:=List.exists_cons_of_length_eq_add_one e
 exact us3 (R:=fun r=>R (a :: r)) (h a) r (Nat.succ.inj e)
theorem fn1 (x:Str) (st:Stmt) (p0:Str) {K:PySem.W.Frag} {h:Heap} {mg:Str→Option Value} {f:Addr} {od an:Option Addr} {sl:Array (Option Value)} {oc kV dc pm cd ct:Value} (X:K.In h) (G:h.Ns mainGlobals mg) (a:PySem.W.nsIn K mainGlobals x = some (some (.ref f))) (l:K.lookup f = some ⟨oc,od,.func (PySem.W.fnOf x x (defArgs st) (defBody st) (defScope st) .none kV dc pm an cd ct),sl⟩) (c:PySem.W.codeIn K cd x = true) (k:PySem.W.keepIn K (.ref f) = true) (hb:∀ (kV doc pm:Value) (an:Option Addr) (cdv ct:Value) (x0:Value),bindArgs (PySem.W.fnOf x x (defArgs st) (defBody st) (defScope st) .none kV doc pm an cdv ct) ⟨[x0],[]⟩ = pure (List.zip [p0] [x0])):Fn K mg x st [p0] f (PySem.W.fnOf x x (defArgs st) (defBody st) (defScope st) .none kV dc pm an cd ct) :=
 Fn.mk' (fun_mk (st:=st) l c k) (fun kV doc pm an cdv ct us hl=>us1 (R:=fun us=>bindArgs _ ⟨us,[]⟩ = pure (List.zip _ us)) (hb kV doc pm an cdv ct) us hl) (PySem.W.mg_of X G a)
theorem fn2 (x:Str) (st:Stmt) (p0 p1:Str) {K:PySem.W.Frag} {h:Heap} {mg:Str→Option Value} {f:Addr} {od an:Option Addr} {sl:Array (Option Value)} {oc kV dc pm cd ct:Value} (X:K.In h) (G:h.Ns mainGlobals mg) (a:PySem.W.nsIn K mainGlobals x = some (some (.ref f))) (l:K.lookup f = some ⟨oc,od,.func (PySem.W.fnOf x x (defArgs st) (defBody st) (defScope st) .none kV dc pm an cd ct),sl⟩) (c:PySem.W.codeIn K cd x = true) (k:PySem.W.keepIn K (.ref f) = true) (hb:∀ (kV doc pm:Value) (an:Option Addr) (cdv ct:Value) (x0 x1:Value),bindArgs (PySem.W.fnOf x x (defArgs st) (defBody st) (defScope st) .none kV doc pm an cdv ct) ⟨[x0,x1],[]⟩ = pure (List.zip [p0,p1] [x0,x1])):Fn K mg x st [p0,p1] f (PySem.W.fnOf x x (defArgs st) (defBody st) (defScope st) .none kV dc pm an cd ct) :=
 Fn.mk' (fun_mk (st:=st) l c k) (fun kV doc pm an cdv ct us hl=>us2 (R:=fun us=>bindArgs _ ⟨us,[]⟩ = pure (List.zip _ us)) (hb kV doc pm an cdv ct) us hl) (PySem.W.mg_of X G a)
theorem fn3 (x:Str) (st:Stmt) (p0 p1 p2:Str) {K:PySem.W.Frag} {h:Heap} {mg:Str→Option Value} {f:Addr} {od an:Option Addr} {sl:Array (Option Value)} {oc kV dc pm cd ct:Value} (X:K.In h) (G:h.Ns mainGlobals mg) (a:PySem.W.nsIn K mainGlobals x = some (some (.ref f))) (l:K.lookup f = some ⟨oc,od,.func (PySem.W.fnOf x x (defArgs st) (defBody st) (defScope st) .none kV dc pm an cd ct),sl⟩) (c:PySem.W.codeIn K cd x = true) (k:PySem.W.keepIn K (.ref f) = true) (hb:∀ (kV doc pm:Value) (an:Option Addr) (cdv ct:Value) (x0 x1 x2:Value),bindArgs (PySem.W.fnOf x x (defArgs st) (defBody st) (defScope st) .none kV doc pm an cdv ct) ⟨[x0,x1,x2],[]⟩ = pure (List.zip [p0,p1,p2] [x0,x1,x2])):Fn K mg x st [p0,p1,p2] f (PySem.W.fnOf x x (defArgs st) (defBody st) (defScope st) .none kV dc pm an cd ct) :=
 Fn.mk' (fun_mk (st:=st) l c k) (fun kV doc pm an cdv ct us hl=>us3 (R:=fun us=>bindArgs _ ⟨us,[]⟩ = pure (List.zip _ us)) (hb kV doc pm an cdv ct) us hl) (PySem.W.mg_of X G a)
theorem fn4 (x:Str) (st:Stmt) (p0 p1 p2 p3:Str) {K:PySem.W.Frag} {h:Heap} {mg:Str→Option Value} {f:Addr} {od an:Option Addr} {sl:Array (Option Value)} {oc kV dc pm cd ct:Value} (X:K.In h) (G:h.Ns mainGlobals mg) (a:PySem.W.nsIn K mainGlobals x = some (some (.ref f))) (l:K.lookup f = some ⟨oc,od,.func (PySem.W.fnOf x x (defArgs st) (defBody st) (defScope st) .none kV dc pm an cd ct),sl⟩) (c:PySem.W.codeIn K cd x = true) (k:PySem.W.keepIn K (.ref f) = true) (hb:∀ (kV doc pm:Value) (an:Option Addr) (cdv ct:Value) (x0 x1 x2 x3:Value),bindArgs (PySem.W.fnOf x x (defArgs st) (defBody st) (defScope st) .none kV doc pm an cdv ct) ⟨[x0,x1,x2,x3],[]⟩ = pure (List.zip [p0,p1,p2,p3] [x0,x1,x2,x3])):Fn K mg x st [p0,p1,p2,p3] f (PySem.W.fnOf x x (defArgs st) (defBody st) (defScope st) .none kV dc pm an cd ct) :=
 Fn.mk' (fun_mk (st:=st) l c k) (fun kV doc pm an cdv ct us hl=>us4 (R:=fun us=>bindArgs _ ⟨us,[]⟩ = pure (List.zip _ us)) (hb kV doc pm an cdv ct) us hl) (PySem.W.mg_of X G a)
theorem walk {l:PySem.W.OpenLaw} {q:Program} {loose:List Str} {XP:(Str→Option Value)→Heap→Prop} {YP:World→Heap→Prop} {d:DefRec} {K:Params→PySem.W.Frag} (hn:l.most = some 63) (hdf:d.params.defaults = [])
  (hY:∀ (w:World) (h:Heap),YP w h→(K w.params).In h)
  (F:∀ (w:World) (mg:Str→Option Value) (fa:Addr) (h:Heap),(K w.params).In h→h.Ns mainGlobals mg→mg d.name = some (.ref fa) →
   ∃ fd:FuncData,(∀ (s:Shared) (u:Value),BindsTo s fd ⟨[u],[]⟩ [("script",u)])∧∀ base:Heap,(K w.params).In base→base.Ns mainGlobals mg→FnOk l.prog w (K w.params) mg base CX0 12 fa fd ["script"] (spLaw (K w.params))) :
  PySem.W.WalkO q loose XP YP l.row.toRowW d [] (fun f vs=>PySem.call f vs) :=
 L2.walk_of (n:=63) (k:=12) (x:="script") (CX:=fun _=>CX0) (sp:=fun w=>spLaw (K w.params)) hn (by decide) hdf ⟨rfl,by decide,by decide,rfl⟩ hY F (fun _ _ a ns hl _ hS=>⟨a,ns,rfl,hS,hl,fun _=>rfl⟩) fun _ _ _ _ _ z=>z
end Law
noncomputable def PySem.W.Fast.tw7746919500659472206:=0
noncomputable def PySem.W.Fast.tw10154893679592475408:=0
noncomputable def PySem.W.Fast.tw15067177116223143181:=0
noncomputable def PySem.W.Fast.tw16487677957243812003:=0
noncomputable def PySem.W.Fast.tw2783006133990075637:=0
noncomputable def PySem.W.Fast.tw12943918270841628263:=0
noncomputable def PySem.W.Fast.tw17048349144621475152:=0
noncomputable def PySem.W.Fast.tw3822420989576514090:=0
noncomputable def PySem.W.Fast.tw7826648996544378799:=0
noncomputable def PySem.W.Fast.tw8428540023923744080:=0
noncomputable def PySem.W.Fast.tw4280106183097345804:=0
noncomputable def PySem.W.Fast.tw15198769479848396118:=0
noncomputable def PySem.W.Fast.tw13926573747663959415:=0
noncomputable def PySem.W.Fast.tw15006544007324690774:=0
noncomputable def PySem.W.Fast.tw9906211935401333316:=0
noncomputable def PySem.W.Fast.tw3531989194259389841:=0
noncomputable def PySem.W.Fast.tw3595094378018620088:=0
noncomputable def PySem.W.Fast.tw14349667723178312160:=0
noncomputable def PySem.W.Fast.tw920006532413641838:=0
noncomputable def PySem.W.Fast.tw3277301601501908711:=0
noncomputable def PySem.W.Fast.tw12871175160223068707:=0
noncomputable def PySem.W.Fast.tw15821217813195609673:=0
noncomputable def PySem.W.Fast.tw7169985846005560132:=0
noncomputable def PySem.W.Fast.tw13435961905661642998:=0
noncomputable def PySem.W.Fast.tw1432127944330430707:=0
noncomputable def PySem.W.Fast.tw3570028213204716117:=0
noncomputable def PySem.W.Fast.tw227268177515998324:=0
noncomputable def PySem.W.Fast.tw2365239722865307599:=0
noncomputable def PySem.W.Fast.tw1275686967963165881:=0
noncomputable def PySem.W.Fast.tw9072603888702615340:=0
noncomputable def PySem.W.Fast.tw2583816129041978028:=0
noncomputable def PySem.W.Fast.tw5710673168888932560:=0
noncomputable def PySem.W.Fast.tw1603694667172642899:=0
noncomputable def PySem.W.Fast.tw2009507152265650412:=0
noncomputable def PySem.W.Fast.tw8567118627596150329:=0
noncomputable def PySem.W.Fast.tw3620874335158190651:=0
noncomputable def PySem.W.Fast.tw3728092805233019148:=0
noncomputable def PySem.W.Fast.tw2084332203953979035:=0
noncomputable def PySem.W.Fast.tw17852372071378137897:=0
noncomputable def PySem.W.Fast.tw5092428508165814221:=0
noncomputable def PySem.W.Fast.tw11161408623797655205:=0
noncomputable def PySem.W.Fast.tw4768528169646423045:=0
noncomputable def PySem.W.Fast.tw10751704021539409767:=0
noncomputable def PySem.W.Fast.tw7601107793314415621:=0
noncomputable def PySem.W.Fast.tw5205538211192221094:=0
noncomputable def PySem.W.Fast.tw16545055962723374277:=0
noncomputable def PySem.W.Fast.tw8861367946253332602:=0
noncomputable def PySem.W.Fast.tw74155221545621736:=0
noncomputable def PySem.W.Fast.tw8190306662359934905:=0
noncomputable def PySem.W.Fast.tw18190922574171364028:=0
noncomputable def PySem.W.Fast.tw16228963254511296818:=0
noncomputable def PySem.W.Fast.tw7355205030939303026:=0
noncomputable def PySem.W.Fast.tw2754362938624021891:=0
noncomputable def PySem.W.Fast.tw1161655753364732583:=0
noncomputable def PySem.W.Fast.tw9668021650076109727:=0
noncomputable def PySem.W.Fast.tw4702236581569570498:=0
noncomputable def PySem.W.Fast.tw4312917934013985404:=0
noncomputable def PySem.W.Fast.tw4215230174315432028:=0
noncomputable def PySem.W.Fast.tw13395541778855526539:=0
noncomputable def PySem.W.Fast.tw2106926126031723923:=0
noncomputable def PySem.W.Fast.tw11470158656549847571:=0
noncomputable def PySem.W.Fast.tw14892167231373073791:=0
noncomputable def PySem.W.Fast.tw11599166405916262249:=0
noncomputable def PySem.W.Fast.tw14187295091968932813:=0
noncomputable def PySem.W.Fast.tw3111062267956673449:=0
noncomputable def PySem.W.Fast.tw155928414200159056:=0
noncomputable def PySem.W.Fast.tw5832675313587143225:=0
noncomputable def PySem.W.Fast.tw14551853578834783501:=0
noncomputable def PySem.W.Fast.tw11764305849415345812:=0
noncomputable def PySem.W.Fast.tw683652278322810986:=0
noncomputable def PySem.W.Fast.tw10013267272610446301:=0
noncomputable def PySem.W.Fast.tw3660814876984653582:=0
open PySem PySem.W PyProof.Rows
set_option maxRecDepth 100000 in
set_option maxHeartbeats 0 in
theorem PySem.Challenge.cw_claspwork_k26_papers_refused_holds : PySem.Challenge.rw_claspwork_k26_papers_refused.Holds := by
 w_on;o_law;k_head;(case hw=>w_witness2)
 k_fill
 refine Law.walk (l:=PySem.Challenge.rw_claspwork_k26_papers_refused) rfl rfl (fun w h Y=>PySem.W.kIn_of Y) ?F
 case F =>
  intro w mg fa h X G hmg
  have F0:=Law.fn1 "staves_in" Law.s_staves_in "work" X G (by k_is) (by k_is) (by k_is) (by k_is) fun _ _ _ _ _ _ _=>rfl
  have F1:=Law.fn2 "refuse_unlike" Law.s_refuse_unlike "one" "other" X G (by k_is) (by k_is) (by k_is) (by k_is) fun _ _ _ _ _ _ _ _=>rfl
  have F2:=Law.fn1 "loose_ends" Law.s_loose_ends "work" X G (by k_is) (by k_is) (by k_is) (by k_is) fun _ _ _ _ _ _ _=>rfl
  have F3:=Law.fn2 "fits_work" Law.s_fits_work "work" "deed" X G (by k_is) (by k_is) (by k_is) (by k_is) fun _ _ _ _ _ _ _ _=>rfl
  have F4:=Law.fn2 "refuse_misfit" Law.s_refuse_misfit "work" "deed" X G (by k_is) (by k_is) (by k_is) (by k_is) fun _ _ _ _ _ _ _ _=>rfl
  have F5:=Law.fn2 "reclasped" Law.s_reclasped "work" "deed" X G (by k_is) (by k_is) (by k_is) (by k_is) fun _ _ _ _ _ _ _ _=>rfl
  have F6:=Law.fn2 "freed_ends" Law.s_freed_ends "work" "deed" X G (by k_is) (by k_is) (by k_is) (by k_is) fun _ _ _ _ _ _ _ _=>rfl
  have F7:=Law.fn3 "clasp_ends" Law.s_clasp_ends "mates" "one" "other" X G (by k_is) (by k_is) (by k_is) (by k_is) fun _ _ _ _ _ _ _ _ _=>rfl
  have F8:=Law.fn2 "least_pair" Law.s_least_pair "work" "deed" X G (by k_is) (by k_is) (by k_is) (by k_is) fun _ _ _ _ _ _ _ _=>rfl
  have F9:=Law.fn2 "works_along" Law.s_works_along "work" "deeds" X G (by k_is) (by k_is) (by k_is) (by k_is) fun _ _ _ _ _ _ _ _=>rfl
  have F10:=Law.fn2 "threads" Law.s_threads "one" "other" X G (by k_is) (by k_is) (by k_is) (by k_is) fun _ _ _ _ _ _ _ _=>rfl
  have F11:=Law.fn2 "open_threads" Law.s_open_threads "one" "other" X G (by k_is) (by k_is) (by k_is) (by k_is) fun _ _ _ _ _ _ _ _=>rfl
  have F12:=Law.fn3 "walked_thread" Law.s_walked_thread "start" "first" "second" X G (by k_is) (by k_is) (by k_is) (by k_is) fun _ _ _ _ _ _ _ _ _=>rfl
  have F13:=Law.fn2 "mark_ends" Law.s_mark_ends "seen" "ends" X G (by k_is) (by k_is) (by k_is) (by k_is) fun _ _ _ _ _ _ _ _=>rfl
  have F14:=Law.fn1 "least_end" Law.s_least_end "thread" X G (by k_is) (by k_is) (by k_is) (by k_is) fun _ _ _ _ _ _ _=>rfl
  have F15:=Law.fn2 "thread_score" Law.s_thread_score "one" "other" X G (by k_is) (by k_is) (by k_is) (by k_is) fun _ _ _ _ _ _ _ _=>rfl
  have F16:=Law.fn2 "apart_by" Law.s_apart_by "one" "other" X G (by k_is) (by k_is) (by k_is) (by k_is) fun _ _ _ _ _ _ _ _=>rfl
  have F17:=Law.fn2 "nearer_deeds" Law.s_nearer_deeds "one" "other" X G (by k_is) (by k_is) (by k_is) (by k_is) fun _ _ _ _ _ _ _ _=>rfl
  have F18:=Law.fn2 "ends_in" Law.s_ends_in "laid" "kind" X G (by k_is) (by k_is) (by k_is) (by k_is) fun _ _ _ _ _ _ _ _=>rfl
  have F19:=Law.fn1 "splitting_pairs" Law.s_splitting_pairs "ends" X G (by k_is) (by k_is) (by k_is) (by k_is) fun _ _ _ _ _ _ _=>rfl
  have F20:=Law.fn2 "crossing_pairs" Law.s_crossing_pairs "bare" "tied" X G (by k_is) (by k_is) (by k_is) (by k_is) fun _ _ _ _ _ _ _ _=>rfl
  have F21:=Law.fn2 "ordered_pair" Law.s_ordered_pair "end" "mate" X G (by k_is) (by k_is) (by k_is) (by k_is) fun _ _ _ _ _ _ _ _=>rfl
  have F22:=Law.fn2 "fewest_deeds" Law.s_fewest_deeds "one" "other" X G (by k_is) (by k_is) (by k_is) (by k_is) fun _ _ _ _ _ _ _ _=>rfl
  have F23:=Law.fn2 "paper_for" Law.s_paper_for "one" "other" X G (by k_is) (by k_is) (by k_is) (by k_is) fun _ _ _ _ _ _ _ _=>rfl
  have F24:=Law.fn3 "judged_paper" Law.s_judged_paper "one" "other" "paper" X G (by k_is) (by k_is) (by k_is) (by k_is) fun _ _ _ _ _ _ _ _ _=>rfl
  have F25:=Law.fn3 "leads_to" Law.s_leads_to "one" "deeds" "other" X G (by k_is) (by k_is) (by k_is) (by k_is) fun _ _ _ _ _ _ _ _ _=>rfl
  have F26:=Law.fn2 "_law_cell_at" Law.s_law_cell_at "script" "k" X G (by k_is) (by k_is) (by k_is) (by k_is) fun _ _ _ _ _ _ _ _=>rfl
  have F27:=Law.fn2 "_law_mates" Law.s_law_mates "flow" "staves" X G (by k_is) (by k_is) (by k_is) (by k_is) fun _ _ _ _ _ _ _ _=>rfl
  have F28:=Law.fn2 "_law_freed" Law.s_law_freed "mates" "end" X G (by k_is) (by k_is) (by k_is) (by k_is) fun _ _ _ _ _ _ _ _=>rfl
  have F29:=Law.fn3 "_law_done" Law.s_law_done "mates" "one" "other" X G (by k_is) (by k_is) (by k_is) (by k_is) fun _ _ _ _ _ _ _ _ _=>rfl
  have F30:=Law.fn2 "_law_along" Law.s_law_along "one" "deeds" X G (by k_is) (by k_is) (by k_is) (by k_is) fun _ _ _ _ _ _ _ _=>rfl
  have F31:=Law.fn2 "_law_detour" Law.s_law_detour "work" "cell" X G (by k_is) (by k_is) (by k_is) (by k_is) fun _ _ _ _ _ _ _ _=>rfl
  have F32:=Law.fn2 "_law_misfit" Law.s_law_misfit "work" "cell" X G (by k_is) (by k_is) (by k_is) (by k_is) fun _ _ _ _ _ _ _ _=>rfl
  have F33:=Law.fn2 "_law_thread_else" Law.s_law_thread_else "thread" "cell" X G (by k_is) (by k_is) (by k_is) (by k_is) fun _ _ _ _ _ _ _ _=>rfl
  have F34:=Law.fn3 "_law_elsewhere" Law.s_law_elsewhere "work" "other" "cell" X G (by k_is) (by k_is) (by k_is) (by k_is) fun _ _ _ _ _ _ _ _ _=>rfl
  have F35:=Law.fn4 "_law_spoiled" Law.s_law_spoiled "one" "other" "paper" "cell" X G (by k_is) (by k_is) (by k_is) (by k_is) fun _ _ _ _ _ _ _ _ _ _=>rfl
  have F36:=Law.fn3 "_law_refusal" Law.s_law_refusal "one" "other" "paper" X G (by k_is) (by k_is) (by k_is) (by k_is) fun _ _ _ _ _ _ _ _ _=>rfl
  have F37:=Law.fn1 "law" Law.s_law "script" X G (by k_is) (by k_is) (by k_is) (by k_is) fun _ _ _ _ _ _ _=>rfl
  cases hmg.symm.trans F37.g
  have g_BadDeed:=PySem.W.mg_of (n:="BadDeed") X G (by k_is)
  have g_Unlike:=PySem.W.mg_of (n:="Unlike") X G (by k_is)
  have g_NoPaper:=PySem.W.mg_of (n:="NoPaper") X G (by k_is)
  have g_ClaspError:=PySem.W.mg_of (n:="ClaspError") X G (by k_is)
  refine' ⟨_,fun s v=>.of_eq rfl,fun base _ _=>Law.ok_law ⟨PySem.W.mg_none_of X G (by k_is),PySem.W.mg_none_of X G (by k_is),PySem.W.mg_none_of X G (by k_is),PySem.W.mg_none_of X G (by k_is),PySem.W.mg_none_of X G (by k_is),PySem.W.mg_none_of X G (by k_is),PySem.W.mg_none_of X G (by k_is),PySem.W.mg_none_of X G (by k_is),PySem.W.mg_none_of X G (by k_is),PySem.W.mg_none_of X G (by k_is)⟩ ⟨g_BadDeed,⟨_,_,_,_,(by kernel_rfl),PySem.F.excBase_ValueError⟩⟩ ⟨g_Unlike,⟨_,_,_,_,(by kernel_rfl),PySem.F.excBase_ValueError⟩⟩ ⟨g_NoPaper,⟨_,_,_,_,(by kernel_rfl),PySem.F.excBase_ValueError⟩⟩ g_ClaspError ⟨(by k_is),(by k_is),(by k_is),(by k_is),(by k_is),(by k_is),(by k_is),(by kernel_rfl)⟩ ⟨(by k_is),(by k_is),(by k_is),(by k_is),(by k_is),(by k_is),(by k_is),(by kernel_rfl)⟩ (by kernel_rfl) (by kernel_rfl) (by kernel_rfl) (by kernel_rfl) (by kernel_rfl) (by kernel_rfl) (by kernel_rfl) (by kernel_rfl) (by kernel_rfl) F0 F1 F2 F3 F4 F5 F6 F7 F8 F9 F10 F11 F12 F13 F14 F15 F16 F17 F18 F19 F20 F21 F22 F23 F24 F25 F26 F27 F28 F29 F30 F31 F32 F33 F34 F35 F36 F37⟩


import PyProof.Rows.All
import Wide.All
import OpenK.AllK
import Wide.FinOn
import Lean
import PyProof.EqAt
import PyProof.EqKinds
import PyProof.TupleCall
import PyProof.SumWalkG
import KE.KTryMore
import PyProof.NeKinds
import PyProof.ExcAttrAll.ValueError
import KE.KRevIter
import PyProof.DictValues
import PyProof.DictItems
import KE.KDictList
import PyProof.ReprRoads
import PyProof.ReprLen
import KE.BitLaws
import PyProof.TupleOfSeq
import PyProof.Rows.SortRuns
import PyProof.Rows.SortShell
import KE.KSortTup
import KE.KSortKey
import PyProof.Rows.SetFrom
import PyProof.WalkInts
import KE.KIntText
import PyProof.StrLoop
import PyProof.StrWalks
import PyProof.StrCalls2
import PyProof.ConsumeWalk
import PyProof.StrLawsRepr
import PySem.Challenge.RW_claspwork_k50_whole_small_rows_by_trying
set_option genSizeOf false
set_option Elab.async false
set_option linter.all false
set_option maxRecDepth 100000
local macro_rules
 | `(tactic| omega)=>`(tactic| first | lia | omega (config:={}))
namespace L2
open PySem PySem.Spec PyProof.Rows

noncomputable abbrev Key:=Sum Int Str
noncomputable def keyIs:Key→Value→Bool
 | .inl k,v=>Value.isInt k v
 | .inr x,v=>Value.isStrOf x v
noncomputable def keyH (w:World):Key→Int
 | .inl k=>hashInt k
 | .inr x=>hashStr w x
theorem keyIs_shape:∀ {k:Key} {v:Value},keyIs k v = true→(∃ i t,k = Sum.inl i∧v = Value.int i t)∨(∃ x t,k = Sum.inr x∧v = Value.str x t)
 | .inl i,v,h=>by
  obtain ⟨t,e⟩:=Value.isInt_shape (k:=i) (v:=v) h
  exact .inl ⟨i,t,rfl,e⟩
 | .inr x,v,h=>by
  obtain ⟨t,e⟩:=Value.isStrOf_shape (x:=x) (v:=v) h
  exact .inr ⟨x,t,rfl,e⟩
theorem keyIs_int (i:Int) (t:Tok):keyIs (.inl i) (.int i t) = true:=by simp [keyIs,Value.isInt]
theorem keyIs_str (x:Str) (t:Tok):keyIs (.inr x) (.str x t) = true:=by simp [keyIs,Value.isStrOf]
theorem key_ll (a b:Int):decide ((Sum.inl a:Key) = Sum.inl b) = (a == b):=by
 by_cases e:a = b
 ·subst e;simp
 ·have h:¬ (Sum.inl a:Key) = Sum.inl b:=fun q=>e (Sum.inl.inj q)
  rw [decide_eq_false h]
  exact (beq_eq_false_iff_ne.mpr e).symm
theorem key_rr (a b:Str):decide ((Sum.inr a:Key) = Sum.inr b) = decide (a = b):=by
 by_cases e:a = b
 ·subst e;simp
 ·have h:¬ (Sum.inr a:Key) = Sum.inr b:=fun q=>e (Sum.inr.inj q)
  rw [decide_eq_false h,decide_eq_false e]
theorem key_lr (a:Int) (b:Str):decide ((Sum.inl a:Key) = Sum.inr b) = false:=decide_eq_false (fun q=>nomatch q)
theorem key_rl (a:Str) (b:Int):decide ((Sum.inr a:Key) = Sum.inl b) = false:=decide_eq_false (fun q=>nomatch q)

noncomputable def mixKind (prog:Program) (w:World):PySem.KeyKind prog w Key where
 is:=keyIs
 hash:=keyH w
 inj:=fun v a b ha hb=>by
  rcases keyIs_shape ha with ⟨i,t,rfl,rfl⟩ | ⟨x,t,rfl,rfl⟩
  ·rcases keyIs_shape hb with ⟨j,u,rfl,e⟩ | ⟨y,u,rfl,e⟩
   ·injection e with e1 _;rw [e1]
   ·exact nomatch e
  ·rcases keyIs_shape hb with ⟨j,u,rfl,e⟩ | ⟨y,u,rfl,e⟩
   ·exact nomatch e
   ·injection e with e1 _;rw [e1]
 byValue:=fun k v h=>by
  rcases keyIs_shape h with ⟨i,t,rfl,rfl⟩ | ⟨x,t,rfl,rfl⟩ <;> rfl
 pyHash:=fun hv h=>by
  rcases keyIs_shape hv with ⟨i,t,rfl,rfl⟩ | ⟨x,t,rfl,rfl⟩
  ·exact wpAny_pyHash_int h
  ·exact wpAny_pyHash_str h
 eqBool:=fun hu hv h=>by
  rcases keyIs_shape hu with ⟨i,t,rfl,rfl⟩ | ⟨x,t,rfl,rfl⟩
  ·rcases keyIs_shape hv with ⟨j,u,rfl,rfl⟩ | ⟨y,u,rfl,rfl⟩
   ·rw [key_ll] at h;exact wpAny_eqBool_int h
   ·rw [key_lr] at h;exact SeqAt.EqAt.int_str i t y u _ _ _ _ h
  ·rcases keyIs_shape hv with ⟨j,u,rfl,rfl⟩ | ⟨y,u,rfl,rfl⟩
   ·rw [key_rl] at h;exact SeqAt.EqAt.str_int x t j u _ _ _ _ h
   ·rw [key_rr] at h;exact wpAny_eqBool_str h
 «strs»:=fun k x t v h=>by
  rcases keyIs_shape h with ⟨i,u,rfl,e⟩ | ⟨y,u,rfl,e⟩
  ·exact nomatch e
  ·injection e with e1 _
   subst e1
   cases v <;> rfl

theorem mixKind_int (prog:Program) (w:World) (i:Int) (t:Tok):(mixKind prog w).is (.inl i) (.int i t) = true:=keyIs_int i t
theorem mixKind_str (prog:Program) (w:World) (x:Str) (t:Tok):(mixKind prog w).is (.inr x) (.str x t) = true:=keyIs_str x t
end L2

namespace L2
open PySem PySem.Spec PyProof.Rows

inductive V where
 | non | bl (b:Bool) | int (i:Int) | str (x:Str) | byt (b:Array UInt8) | flt (b:UInt64) | ref (a:Addr) | ty (n:String)
 deriving DecidableEq

noncomputable def RelV:V→Value→Prop
 | .non,u=>u = Value.none
 | .bl b,u=>u = Value.bool b
 | .int i,u=>∃ t,u = Value.int i t
 | .str x,u=>∃ t,u = Value.str x t
 | .byt b,u=>∃ t,u = Value.bytes b t
 | .flt b,u=>∃ t,u = Value.float b t
 | .ref a,u=>u = Value.ref a
 | .ty n,u=>u = Value.type n

noncomputable abbrev Vals:List V→List Value→Prop:=Paired RelV
theorem Vals.length {xs:List V} {us:List Value} (r:Vals xs us):xs.length = us.length:=Paired.length r
theorem Vals.get:∀ {xs:List V} {us:List Value} {i:Nat} {x:V},Vals xs us→xs[i]? = some x→∃ u,us[i]? = some u∧RelV x u
 | _,_,_,_,.nil,e=>by simp at e
 | _,_,0,_,.cons r _,e=>by simp at e;subst e;exact ⟨_,rfl,r⟩
 | _,_,i + 1,x,.cons _ t,e=>by
  obtain ⟨u,h1,h2⟩:=Vals.get (i:=i) (x:=x) t (by simpa using e)
  exact ⟨u,by simpa using h1,h2⟩
theorem Vals.set {x:V} {u:Value} (r:RelV x u):∀ {xs:List V} {us:List Value} (i:Nat),Vals xs us→Vals (xs.set i x) (us.set i u)
 | _,_,_,.nil=>.nil
 | _,_,0,.cons _ t=>.cons r t
 | _,_,i + 1,.cons q t=>.cons q (Vals.set r i t)
theorem Vals.append:∀ {xs ys:List V} {us ws:List Value},Vals xs us→Vals ys ws→Vals (xs ++ ys) (us ++ ws)
 | _,_,_,_,.nil,s=>s
 | _,_,_,_,.cons r t,s=>.cons r (Vals.append t s)
theorem Vals.take:∀ {xs:List V} {us:List Value} (n:Nat),Vals xs us→Vals (xs.take n) (us.take n)
 | _,_,0,_=>.nil
 | _,_,_ + 1,.nil=>.nil
 | _,_,n + 1,.cons r t=>.cons r (Vals.take n t)
theorem Vals.drop:∀ {xs:List V} {us:List Value} (n:Nat),Vals xs us→Vals (xs.drop n) (us.drop n)
 | _,_,0,r=>r
 | _,_,_ + 1,.nil=>.nil
 | _,_,n + 1,.cons _ t=>Vals.drop n t
noncomputable def RelO:Option V→Option Value→Prop
 | some v,some u=>RelV v u
 | none,none=>True
 | _,_=>False
noncomputable def KV {κ:Type}:List (κ×V)→List (κ×Value)→Prop:=Paired fun (p:κ×V) (q:κ×Value)=>p.1 = q.1∧RelV p.2 q.2

noncomputable def kV:Key→V
 | .inl i=>.int i
 | .inr x=>.str x

inductive HO where
 | lst (xs:List V)
 | tup (xs:List V)
 | dK (kvs:List (Key×V)) | dT (kvs:List (List Key×V))
 | set (S:Int→Bool) (n:Nat)
 | ins (C dx:Addr) (fs:List (Str×V))
 | own (x:Addr)
 | xd (fs:List (Str×V))
 | met (f x:Addr)
 | rng (lo hi:Int)
 | frz (o:Obj) (u:HO)
 | tbl (ps:Array Value)
 | ext (φ:Heap→Prop)

noncomputable abbrev Hp:=Addr→Option HO
noncomputable def upd (H:Hp) (a:Addr) (o:HO):Hp:=fun b=>if b = a then some o else H b
theorem upd_same {H:Hp} {a:Addr} {o:HO}:upd H a o a = some o:=by unfold upd;rw [if_pos rfl]
theorem upd_ne {H:Hp} {a b:Addr} {o:HO} (h:b≠a):upd H a o b = H b:=by unfold upd;rw [if_neg h]
theorem ne_of {H:Hp} {a b:Addr} {o u:HO} (h:H a = some o) (h':H b = some u) (d:o≠u):a≠b:=by
 intro e;subst e;rw [h] at h';exact d (Option.some.inj h')
theorem ne_of_none {H:Hp} {a b:Addr} {o:HO} (h:H a = some o) (h':H b = none):a≠b:=by
 intro e;subst e;rw [h] at h';cases h'

section
variable (P:Program) (w:World)
noncomputable def ObjOk (H : Hp) (h : Heap) (a : Addr) : HO → Prop
  | .lst xs => xs.length ≤ sizeLine ∧ ∃ (its : List Value) (n : Nat), Vals xs its ∧ h.get? a = some { cls := .type "list", data := .seq its.toArray n }
  | .tup xs => xs.length ≤ sizeLine ∧ ∃ its : List Value, Vals xs its ∧ IsTup h a its.toArray
  | .dK kvs => kvs.length ≤ sizeLine ∧ (a == sysModules) = false ∧ ∃ vs, KV kvs vs ∧ h.DictOf (mixKind P w) a vs
  | .dT kvs => kvs.length ≤ sizeLine ∧ (a == sysModules) = false ∧ ∃ xs : List (List Key × Addr × Value),
      Paired (fun (p : List Key × V) (q : List Key × Addr × Value) => p.1 = q.1 ∧ H q.2.1 = some (.tup (p.1.map kV)) ∧ RelV p.2 q.2.2) kvs xs ∧
      ∃ o es ep, h.get? a = some o ∧ o.ExactDict ∧ o.data = .dict es ep ∧ es.toList = xs.map (entryOfKey (tupleKind (mixKind P w))) ∧ (xs.map (·.1)).Nodup
  | .set S n => h.SetOf (intKind P w) a S n
  | .ins C dx fs => H dx = some (.own a) ∧ fs.length ≤ 1000 ∧ dx ≠ a ∧ h.get? a = some (PySem.W.instObj C dx) ∧
      ∃ mA, h.Ns1 dx mA ∧ (∀ f, RelO (fs.lookup f) (mA f)) ∧ PySem.Within mA (fs.map (·.1))
  | .own _ => ∃ o, h.get? a = some o
  | .xd fs => ∃ mA, h.Ns1 a mA ∧ ∀ f, RelO (fs.lookup f) (mA f)
  | .rng lo hi => ∃ t u v, h.get? a = some { cls := .type "range", data := .fields #[.int lo t, .int hi u, .int 1 v] }
  | .frz o u => h.get? a = some o ∧ ObjOk H h a u
  | .tbl ps => h.get? a = some { cls := .none, data := .fields ps }
  | .met f x => h.get? a = some (PySem.W.methodObj (.ref f) (.ref x))
  | .ext φ => φ h ∧ (∃ o, h.get? a = some o) ∧ ∀ h1 h2 : Heap, φ h1 → (∀ o, h1.get? a = some o → h2.get? a = some o) → φ h2
noncomputable def HOk (H:Hp) (h:Heap):Prop:=∀ a o,H a = some o→ObjOk P w H h a o
end

section
variable {P:Program} {w:World} {H H':Hp} {h h':Heap} {a:Addr} {o:HO}
theorem ObjOk.lt (x:ObjOk P w H h a o):a < h.objs.size:=by
 cases o with
 | lst xs=>obtain ⟨_,_,_,_,e⟩:=x;exact Heap.lt_size e
 | tup xs=>obtain ⟨_,_,_,p⟩:=x;exact p.lt
 | dK kvs=>obtain ⟨_,_,_,_,o,_,_,e,_⟩:=x;exact Heap.lt_size e
 | dT kvs=>obtain ⟨_,_,_,_,o,_,_,e,_⟩:=x;exact Heap.lt_size e
 | set S n=>obtain ⟨o,_,_,_,e,_⟩:=x;exact Heap.lt_size e
 | ins C dx fs=>obtain ⟨_,_,_,e,_⟩:=x;exact Heap.lt_size e
 | own y=>obtain ⟨_,e⟩:=x;exact Heap.lt_size e
 | xd fs=>obtain ⟨_,⟨_,_,_,e,_⟩,_⟩:=x;exact Heap.lt_size e
 | rng lo hi=>obtain ⟨_,_,_,e⟩:=x;exact Heap.lt_size e
 | frz ob u=>obtain ⟨e,_⟩:=x;exact Heap.lt_size e
 | tbl ps=>exact Heap.lt_size (show h.get? a = some _ from x)
 | met f y=>exact Heap.lt_size (show h.get? a = some _ from x)
 | ext φ=>obtain ⟨_,⟨_,e⟩,_⟩:=x;exact Heap.lt_size e
theorem Paired.mapP {α β:Type} {F G:α→β→Prop}:∀ {l₁:List α} {l₂:List β},Paired F l₁ l₂→(∀ a b,F a b→G a b)→Paired G l₁ l₂
 | _,_,.nil,_=>.nil
 | _,_,.cons r t,f=>.cons (f _ _ r) (Paired.mapP t f)
theorem ObjOk.stay (x:ObjOk P w H h a o) (k:∀ b u,(b = a∨H b = some (.own a))→h.get? b = some u→h'.get? b = some u)
  (ho:∀ b,H b = some (.own a)→H' b = some (.own a)) (ht:∀ b xs,H b = some (.tup xs)→H' b = some (.tup xs)):ObjOk P w H' h' a o:=by
 induction o with
 | lst xs=>obtain ⟨z,its,n,r,e⟩:=x;exact ⟨z,its,n,r,k _ _ (.inl rfl) e⟩
 | tup xs=>obtain ⟨z,its,r,ob,e,c⟩:=x;exact ⟨z,its,r,ob,k _ _ (.inl rfl) e,c⟩
 | dK kvs=>obtain ⟨z,y,vs,r,ob,es,ep,e,c⟩:=x;exact ⟨z,y,vs,r,ob,es,ep,k _ _ (.inl rfl) e,c⟩
 | dT kvs =>
  obtain ⟨z,y,xs,r,ob,es,ep,e,c⟩:=x
  exact ⟨z,y,xs,Paired.mapP r fun p q z=>⟨z.1,ht _ _ z.2.1,z.2.2⟩,ob,es,ep,k _ _ (.inl rfl) e,c⟩
 | set S n=>obtain ⟨ob,es,ep,t,e,c⟩:=x;exact ⟨ob,es,ep,t,k _ _ (.inl rfl) e,c⟩
 | ins C dx fs =>
  obtain ⟨d,z,ne,e,mA,⟨od,es,ep,e2,c⟩,r⟩:=x
  exact ⟨ho _ d,z,ne,k _ _ (.inl rfl) e,mA,⟨od,es,ep,k _ _ (.inr d) e2,c⟩,r⟩
 | own y=>obtain ⟨ob,e⟩:=x;exact ⟨ob,k _ _ (.inl rfl) e⟩
 | xd fs=>obtain ⟨mA,⟨od,es,ep,e,c⟩,r⟩:=x;exact ⟨mA,⟨od,es,ep,k _ _ (.inl rfl) e,c⟩,r⟩
 | rng lo hi=>obtain ⟨t,u,v,e⟩:=x;exact ⟨t,u,v,k _ _ (.inl rfl) e⟩
 | frz ob u ih=>obtain ⟨e,q⟩:=x;exact ⟨k _ _ (.inl rfl) e,ih q⟩
 | tbl ps =>
  have e:h.get? a = some { cls:=.none,data:=.fields ps }:=x
  show h'.get? a = some { cls:=.none,data:=.fields ps }
  exact k a _ (.inl rfl) e
 | met f y =>
  have e:h.get? a = some (PySem.W.methodObj (.ref f) (.ref y)):=x
  show h'.get? a = some (PySem.W.methodObj (.ref f) (.ref y))
  exact k a _ (.inl rfl) e
 | ext φ=>obtain ⟨p,⟨o,e⟩,st⟩:=x;exact ⟨st _ _ p fun o q=>k _ _ (.inl rfl) q,⟨o,k _ _ (.inl rfl) e⟩,st⟩
theorem HOk.lt (x:HOk P w H h) (e:H a = some o):a < h.objs.size:=(x a o e).lt
theorem HOk.fresh (x:HOk P w H h) (e:h.objs.size≤a):H a = none:=by
 cases q:H a with
 | none=>rfl
 | some u=>exact absurd (Nat.lt_of_lt_of_le (x.lt q) e) (Nat.lt_irrefl _)
theorem HOk.kept (x:HOk P w H h) (k:∀ b u,h.get? b = some u→h'.get? b = some u):HOk P w H h':=fun a o e =>
 (x a o e).stay (fun b u _ q=>k b u q) (fun _ q=>q) fun _ _ q=>q
theorem HOk.laid (x:HOk P w H h) (k:∀ b u,h.get? b = some u→h'.get? b = some u) (hp:h.objs.size≤a) (new:ObjOk P w (upd H a o) h' a o):HOk P w (upd H a o) h':=fun b u e=>by
 have hn:=x.fresh hp
 by_cases hb:b = a
 ·subst hb;rw [upd_same] at e;cases e;exact new
 ·rw [upd_ne hb] at e
  exact (x b u e).stay (fun c v _ q=>k c v q) (fun c q=>by rw [upd_ne (ne_of_none q hn)];exact q) fun c xs q=>by rw [upd_ne (ne_of_none q hn)];exact q
end

noncomputable def Rd (H:Hp) (a:Addr) (u:HO):Prop:=H a = some u∨∃ o,H a = some (.frz o u)
theorem Rd.ok {P:Program} {w:World} {H:Hp} {h:Heap} {a:Addr} {u:HO} (r:Rd H a u) (x:HOk P w H h):ObjOk P w H h a u:=by
 rcases r with r | ⟨o,r⟩
 ·exact x a u r
 ·obtain ⟨_,q⟩:=x a _ r
  exact q
noncomputable def Mut:Option HO→Prop
 | some (.lst _)=>True
 | some (.dK _)=>True
 | some (.dT _)=>True
 | some (.set _ _)=>True
 | some (.ins _ _ _)=>True
 | some (.ext _)=>True
 | _=>False
section
variable {P:Program} {w:World} {H:Hp} {h h':Heap} {x e:Addr} {o':HO}
theorem HOk.write (ok:HOk P w H h) (mu:Mut (H x)) (he:e = x∨H e = some (.own x)) (k:∀ b u,b≠e→h.get? b = some u→h'.get? b = some u) (heo:∃ u,h'.get? e = some u)
  (new:ObjOk P w (upd H x o') h' x o'):HOk P w (upd H x o') h':=fun b u q=>by
 have nown:∀ c y,H c = some (.own y)→c≠x:=fun c y r z=>by subst z;rw [r] at mu;exact mu
 have ntup:∀ c xs,H c = some (.tup xs)→c≠x:=fun c xs r z=>by subst z;rw [r] at mu;exact mu
 by_cases hb:b = x
 ·subst hb;rw [upd_same] at q;cases q;exact new
 ·rw [upd_ne hb] at q
  by_cases hbe:b = e
  ·have q':H b = some (.own x):=by
    rcases he with z | z
    ·exact absurd (hbe.trans z) hb
    ·rw [hbe];exact z
   rw [q] at q';cases q'
   obtain ⟨v,hv⟩:=heo
   exact ⟨v,by rw [hbe];exact hv⟩
  ·refine (ok b u q).stay (fun c v hc r=>k c v ?_ r) (fun c r=>by rw [upd_ne (nown c b r)];exact r) fun c xs r=>by rw [upd_ne (ntup c xs r)];exact r
   rcases hc with rfl | hc
   ·exact hbe
   ·rintro rfl
    rcases he with z | z
    ·exact nown c b hc z
    ·rw [hc] at z;cases z;exact hb rfl
end

structure Un (fs ex:List Addr) (H H':Hp) (h h':Heap):Prop where
 keep:∀ b o,h.get? b = some o→H b = none→b ∉ fs→b ∉ ex→h'.get? b = some o
 slot:∀ b o,h.get? b = some o→H b = none→b∈fs→b ∉ ex→∃ sl,h'.get? b = some { o with slots:=sl }
 free:∀ b o,h.get? b = some o→H b = none→b ∉ ex→H' b = none
 there:∀ b o,h.get? b = some o→b ∉ ex→∃ o',h'.get? b = some o'
 tups:∀ b xs,H b = some (.tup xs)→H' b = some (.tup xs)
 frzs:∀ b o u,H b = some (.frz o u)→H' b = some (.frz o u)
 tbls:∀ b ps,H b = some (.tbl ps)→∃ more,H' b = some (.tbl (ps ++ more))
section
variable {fs fs' ex ex':List Addr} {H H1 H2:Hp} {h h1 h2 h':Heap} {a x e:Addr} {o:HO}
theorem Un.any (u:Un fs ex H H1 h h1) {b:Addr} {ob:Obj} (q:h.get? b = some ob) (n:H b = none) (hx:b ∉ ex):∃ sl,h1.get? b = some { ob with slots:=sl }:=by
 by_cases hb:b∈fs
 ·exact u.slot b ob q n hb hx
 ·exact ⟨ob.slots,u.keep b ob q n hb hx⟩
theorem Un.trans (a:Un fs ex H H1 h h1) (b:Un fs ex H1 H2 h1 h2):Un fs ex H H2 h h2 where
 keep:=fun c ob q n hc hx=>b.keep c ob (a.keep c ob q n hc hx) (a.free c ob q n hx) hc hx
 slot:=fun c ob q n hc hx=>by
  obtain ⟨sl,e1⟩:=a.slot c ob q n hc hx
  obtain ⟨sl',e2⟩:=b.slot c _ e1 (a.free c ob q n hx) hc hx
  exact ⟨sl',e2⟩
 free:=fun c ob q n hx=>by
  obtain ⟨o',e1⟩:=a.there c ob q hx
  exact b.free c o' e1 (a.free c ob q n hx) hx
 there:=fun c ob q hx=>by
  obtain ⟨o',e1⟩:=a.there c ob q hx
  exact b.there c o' e1 hx
 tups:=fun c xs q=>b.tups c xs (a.tups c xs q)
 frzs:=fun c ob xs q=>b.frzs c ob xs (a.frzs c ob xs q)
 tbls:=fun c ps q=>by
  obtain ⟨m1,e1⟩:=a.tbls c ps q
  obtain ⟨m2,e2⟩:=b.tbls c _ e1
  exact ⟨m1 ++ m2,by rw [e2,Array.append_assoc]⟩
theorem Un.kept (k:∀ b u,h.get? b = some u→h'.get? b = some u):Un fs ex H H h h' :=
 ⟨fun b ob q _ _ _=>k b ob q,fun b ob q _ _ _=>⟨ob.slots,k b ob q⟩,fun _ _ _ n _=>n,fun b ob q _=>⟨ob,k b ob q⟩,fun _ _ q=>q,fun _ _ _ q=>q,fun _ ps q=>⟨#[],by rw [q];simp⟩⟩
theorem Un.refl:Un fs ex H H h h:=Un.kept fun _ _ q=>q
theorem Un.laid (k:∀ b u,h.get? b = some u→h'.get? b = some u) (hp:h.objs.size≤a) (hn:H a = none):Un fs ex H (upd H a o) h h' where
 keep:=fun b u q _ _ _=>k b u q
 slot:=fun b u q _ _ _=>⟨u.slots,k b u q⟩
 free:=fun b u q n _=>by rw [upd_ne (Nat.ne_of_lt (Nat.lt_of_lt_of_le (Heap.lt_size q) hp))];exact n
 there:=fun b u q _=>⟨u,k b u q⟩
 tups:=fun b xs q=>by rw [upd_ne (ne_of_none q hn)];exact q
 frzs:=fun b u xs q=>by rw [upd_ne (ne_of_none q hn)];exact q
 tbls:=fun b ps q=>⟨#[],by rw [upd_ne (ne_of_none q hn),q];simp⟩
theorem Un.write (mu:Mut (H x)) (he:e = x∨H e = some (.own x)) (k:∀ b u,b≠e→h.get? b = some u→h'.get? b = some u) (heo:∃ u,h'.get? e = some u):Un fs ex H (upd H x o) h h':=by
 have hx:∀ b,H b = none→b≠x:=fun b n z=>by subst z;rw [n] at mu;exact mu
 have hb:∀ b,H b = none→b≠e:=fun b n z=>by
  subst z
  rcases he with r | r
  ·exact hx b n r
  ·rw [n] at r;cases r
 have hm:∀ b u,H b = some u→¬ Mut (some u)→b≠x:=fun b u q nm z=>by subst z;rw [q] at mu;exact nm mu
 refine ⟨fun b u q n _ _=>k b u (hb b n) q,fun b u q n _ _=>⟨u.slots,k b u (hb b n) q⟩,fun b u q n _=>by rw [upd_ne (hx b n)];exact n,fun b u q _=>?_,
  fun b xs q=>by rw [upd_ne (hm b _ q fun z=>z)];exact q,fun b u xs q=>by rw [upd_ne (hm b _ q fun z=>z)];exact q,fun b ps q=>⟨#[],by rw [upd_ne (hm b _ q fun z=>z),q];simp⟩⟩
 by_cases hbe:b = e
 ·subst hbe;exact heo
 ·exact ⟨u,k b u hbe q⟩
theorem Un.mono (u:Un fs ex H H1 h h1) (hs:∀ b∈fs,b∈fs') (hx:∀ b∈ex,b∈ex'):Un fs' ex' H H1 h h1 :=
 ⟨fun b ob q n hb he=>u.keep b ob q n (fun z=>hb (hs b z)) fun z=>he (hx b z),fun _ _ q n _ he=>u.any q n fun z=>he (hx _ z),fun b ob q n he=>u.free b ob q n fun z=>he (hx b z),fun b ob q he=>u.there b ob q fun z=>he (hx b z),u.tups,u.frzs,u.tbls⟩
end

noncomputable def trk (h:Heap) (H:Hp):List Addr:=(List.range h.objs.size).filter fun a=>(H a).isSome
noncomputable def hidT (h:Heap) (H:Hp):Heap:=PySem.W.hideAll h (trk h H)
theorem hidT_size (h:Heap) (H:Hp):(hidT h H).objs.size = h.objs.size:=PySem.W.hideAll_size _ _
theorem hidT_get {h:Heap} {H:Hp} {b:Addr} {o:Obj} (e:h.get? b = some o) (n:H b = none):(hidT h H).get? b = some o :=
 PySem.W.hideAll_get _ e fun hm=>by
  have q:(H b).isSome = true:=(List.mem_filter.mp hm).2
  rw [n] at q;simp at q
theorem of_hidT {h:Heap} {H:Hp} {b:Addr} {o:Obj} (e:(hidT h H).get? b = some o):h.get? b = some o∧H b = none:=by
 have e':h.get? b = some o:=PySem.W.of_hideAll (trk h H) e
 refine ⟨e',?_⟩
 cases q:H b with
 | none=>rfl
 | some x =>
  have hm:b∈trk h H:=List.mem_filter.mpr ⟨List.mem_range.mpr (Heap.lt_size e'),by simp [q]⟩
  have z:(hidT h H).get? b = none:=PySem.W.hideAll_none (trk h H) hm
  rw [z] at e;cases e

end L2

namespace L2
open PySem PySem.Spec PyProof.Rows

structure Mod (K:PySem.W.Frag) (mg:Str→Option Value) (base:Heap):Prop where
 kin:K.In base
 glob:base.Ns mainGlobals mg
 blt:∃ mb,base.Ns builtinsNs mb∧∀ x:Str,x≠"__name__"→mb x = bootBuiltins x
 nolimit:base.NoLimit

/-- the context: a def's body (or a comprehension's block) running. base: fixed through the whole law; s₀, H₀: the entry; outer: the frames whose slots others may change (a def's callers); stack: all frames that run;
   ex: iterators that were made ahead of the entry and are walked here (a comprehension's); fn: the names whose cells were made at the entry (a def: all; a comprehension's block: its own); calm: not within an except suite; pn: pins that every state bears; xe: what is wanted of an exception that leaves the code -/
structure Cx where
 prog:Program
 w:World
 K:PySem.W.Frag
 mg:Str→Option Value
 base:Heap
 A:Around
 N:List Str
 s₀:Shared
 H₀:Hp
 env:Env
 outer:List Env
 stack:List Env
 ex:List Addr
 fn:Str→Bool
 calm:Bool
 pn:List (Addr×Obj)
 xe:Value→Shared→Prop
noncomputable def frs (l:List Env):List Addr:=l.filterMap (·.frame)
noncomputable abbrev Cx.fs (X:Cx):List Addr:=frs X.outer

noncomputable def Vis (sc:Scope) (x:Str):Prop:=sc.names.lookup x = some .local∨sc.names.lookup x = some .cell∨sc.names.lookup x = some .free
noncomputable def Loc (sc:Scope) (x:Str):Prop:=sc.names.lookup x = some .local∨sc.names.lookup x = some .cell
noncomputable def Look (env:Env) (h:Heap) (m:Str→Option Value) (x:Str) (u:Value):Prop :=
 (env.kindOf x = some .local∧m x = some u)∨((env.kindOf x = some .cell∨env.kindOf x = some .free)∧∃ c,env.cells.lookup x = some c∧h.IsCell c (some u))

structure Cx.Ok (X:Cx):Prop where
 mod:Mod X.K X.mg X.base
 kind:X.env.scope.kind = .function
 glob:X.env.globals = mainGlobals
 blt:X.env.builtins = builtinsNs
 above:X.s₀.heap.objs.size≤X.env.locals
 inj:∀ x y c,X.env.cells.lookup x = some c→X.env.cells.lookup y = some c→x = y
 has:∀ x,(X.env.kindOf x = some .cell∨X.env.kindOf x = some .free)→∃ c,X.env.cells.lookup x = some c
 cab:∀ x c,X.fn x = true→X.env.cells.lookup x = some c→X.s₀.heap.objs.size≤c
 hd:X.calm = true→X.A.handled = none
 frames:X.A.frames = some X.stack
 stk:X.stack = X.outer∨(X.stack = X.env :: X.outer∧X.env.frame = some X.env.locals)
 exf:∀ b∈X.ex,b≠X.env.locals∧∀ x c,X.env.cells.lookup x = some c→c≠b
 bs:∀ b o,X.base.get? b = some o→X.s₀.heap.get? b = some o∧X.H₀ b = none
 bsz:X.base.objs.size≤X.s₀.heap.objs.size
 noex:∀ b o,X.base.get? b = some o→b ∉ X.ex
 exfs:∀ b∈X.ex,b ∉ X.fs
 funs:X.s₀.heap.FunFrames X.base X.outer
 frf:∀ b∈X.fs,X.H₀ b = none

structure Inv (X:Cx) (pins:List (Addr×Obj)) (σ:List (Option V)) (H:Hp) (s:Shared):Prop where
 ok:X.Ok
 os:s.os = X.s₀.os
 bare:AllBare s.gens
 base:Un X.fs X.ex X.H₀ H X.s₀.heap s.heap
 loc:∃ m,s.heap.Ns X.env.locals m∧∀ (i:Nat) (x:Str) (v:V),X.N[i]? = some x→σ[i]? = some (some v)→Vis X.env.scope x→∃ u,RelV v u∧Look X.env s.heap m x u
 cell:∀ x c,X.env.cells.lookup x = some c→∃ v,s.heap.IsCell c v
 free:H X.env.locals = none
 freeC:∀ x c,X.env.cells.lookup x = some c→H c = none
 pin:∀ p∈X.pn ++ pins,s.heap.get? p.1 = some p.2∧H p.1 = none∧p.1≠X.env.locals∧p.1 ∉ X.fs∧∀ v,p.2.data≠.cell v
 hok:HOk X.prog X.w H s.heap
 len:σ.length = X.N.length

section
variable {X:Cx} {pins:List (Addr×Obj)} {σ:List (Option V)} {H H':Hp} {s:Shared} {h':Heap}

theorem Cx.Ok.nofr (ok:X.Ok) {b:Addr} {o:Obj} (e:X.base.get? b = some o):b ∉ X.fs:=fun hb=>by
 have:=(ok.funs.mem hb).1
 rw [e] at this;cases this
theorem Inv.bs (I:Inv X pins σ H s):∀ b o,X.base.get? b = some o→s.heap.get? b = some o∧H b = none:=fun b o e =>
 ⟨I.base.keep b o (I.ok.bs b o e).1 (I.ok.bs b o e).2 (I.ok.nofr e) (I.ok.noex b o e),I.base.free b o (I.ok.bs b o e).1 (I.ok.bs b o e).2 (I.ok.noex b o e)⟩
theorem Inv.bk (I:Inv X pins σ H s):∀ b o,X.base.get? b = some o→s.heap.get? b = some o:=fun b o e=>(I.bs b o e).1
theorem Inv.mod (I:Inv X pins σ H s):Mod X.K X.mg X.base:=I.ok.mod
theorem Inv.kIn (I:Inv X pins σ H s):X.K.In s.heap:=I.ok.mod.kin.keeps I.bk
theorem Inv.lt (I:Inv X pins σ H s):X.env.locals < s.heap.objs.size:=let ⟨_,hn,_⟩:=I.loc;hn.lt
theorem Inv.sz (I:Inv X pins σ H s):X.s₀.heap.objs.size≤s.heap.objs.size:=Nat.le_trans I.ok.above (Nat.le_of_lt I.lt)
theorem Inv.nofs (I:Inv X pins σ H s) {a:Addr} (h:s.heap.objs.size≤a):a ∉ X.fs:=fun hb=>by
 obtain ⟨_,o,ho,_⟩:=I.ok.funs.mem hb
 exact absurd (Nat.lt_of_lt_of_le (Heap.lt_size ho) (Nat.le_trans I.sz h)) (Nat.lt_irrefl _)
theorem Inv.cne (I:Inv X pins σ H s):∀ x c,X.env.cells.lookup x = some c→c≠X.env.locals:=fun x c e z=>by
 obtain ⟨v,o,ho,hd⟩:=I.cell x c e
 obtain ⟨m,⟨o',es,ep,ho',hd',_⟩,_⟩:=I.loc
 rw [z,ho'] at ho;cases ho;rw [hd'] at hd;cases hd
theorem Inv.funs (I:Inv X pins σ H s):s.heap.FunFrames X.base X.outer:=by
 have all:∀ (l:List Env),(∀ b∈frs l,b∈X.fs)→X.s₀.heap.FunFrames X.base l→s.heap.FunFrames X.base l:=by
  intro l
  induction l with
  | nil=>intro _ _;trivial
  | cons env r ih =>
   intro hs hl
   obtain ⟨hk,⟨L,o,hf,hn,ho,hd⟩,hr⟩:=hl
   have hL:L∈X.fs:=hs L (by unfold frs;rw [List.filterMap_cons,hf];exact List.mem_cons_self)
   obtain ⟨sl,e⟩:=I.base.slot L o ho (I.ok.frf L hL) hL fun z=>I.ok.exfs L z hL
   exact ⟨hk,⟨L,_,hf,hn,e,hd⟩,ih (fun b hb=>hs b (by unfold frs;rw [List.filterMap_cons,hf];exact List.mem_cons_of_mem _ hb)) hr⟩
 exact all X.outer (fun _ hb=>hb) I.ok.funs

theorem Inv.stack (I:Inv X pins σ H s):s.heap.FunFrames X.base X.stack:=by
 rcases I.ok.stk with e | ⟨e,hf⟩
 ·rw [e];exact I.funs
 ·rw [e]
  obtain ⟨m,hn,_⟩:=I.loc
  refine .cons (by rw [I.ok.kind];decide) hf hn ?_ I.funs
  exact Heap.get?_none_of_le (Nat.le_trans I.ok.bsz I.ok.above)
theorem Inv.stkSub (I:Inv X pins σ H s):∀ b∈frs X.stack,b∈X.env.locals :: X.fs:=fun b hb=>by
 rcases I.ok.stk with e | ⟨e,hf⟩
 ·rw [e] at hb;exact List.mem_cons_of_mem _ hb
 ·rw [e] at hb
  unfold frs at hb
  rw [List.filterMap_cons,hf] at hb
  exact hb
theorem Inv.stkFree (I:Inv X pins σ H s):∀ b∈frs X.stack,H b = none:=fun b hb=>by
 rcases List.mem_cons.mp (I.stkSub b hb) with e | hb
 ·rw [e];exact I.free
 ·obtain ⟨_,o,ho,_⟩:=I.ok.funs.mem hb
  exact I.base.free b o ho (I.ok.frf b hb) fun z=>I.ok.exfs b z hb

theorem Inv.step {g':Array GenState} {t':Nat} {d':Drawn} {ch:List Addr} (I:Inv X pins σ H s)
  (hch:∀ b∈ch,(b∈X.ex∨X.s₀.heap.objs.size≤b)∧b≠X.env.locals∧(∀ x c,X.env.cells.lookup x = some c→c≠b)∧∀ p∈X.pn ++ pins,p.1≠b)
  (keep:∀ b o,b≠X.env.locals→b ∉ X.fs→b ∉ ch→s.heap.get? b = some o→H b = none→h'.get? b = some o)
  (slot:∀ b o,b≠X.env.locals→b∈X.fs→b ∉ ch→s.heap.get? b = some o→H b = none→∃ sl,h'.get? b = some { o with slots:=sl }) (free:∀ b o,b ∉ ch→s.heap.get? b = some o→H b = none→H' b = none)
  (there:∀ b o,b ∉ ch→s.heap.get? b = some o→∃ o',h'.get? b = some o')
  (tups:∀ b xs,H b = some (.tup xs)→H' b = some (.tup xs)) (frzs:∀ b o u,H b = some (.frz o u)→H' b = some (.frz o u)) (tbls:∀ b ps,H b = some (.tbl ps)→∃ more,H' b = some (.tbl (ps ++ more)))
  (ns:∀ m,s.heap.Ns X.env.locals m→h'.Ns X.env.locals m) (hok:HOk X.prog X.w H' h') (hg:AllBare g') :
  Inv X pins σ H' { s with heap:=h',gens:=g',drawn:=d',toks:=t' }:=by
 have neL:∀ b o,X.s₀.heap.get? b = some o→b≠X.env.locals:=fun b o e=>Nat.ne_of_lt (Nat.lt_of_lt_of_le (Heap.lt_size e) I.ok.above)
 have neC:∀ b o,X.s₀.heap.get? b = some o→b ∉ X.ex→b ∉ ch:=fun b o e hx hb=>by
  rcases (hch b hb).1 with z | z
  ·exact hx z
  ·exact absurd (Nat.lt_of_lt_of_le (Heap.lt_size e) z) (Nat.lt_irrefl _)
 have cellK:∀ x c,X.env.cells.lookup x = some c→∀ v,s.heap.IsCell c v→h'.IsCell c v:=fun x c e v ⟨o,ho,hd⟩=>by
  have nch:c ∉ ch:=fun z=>(hch c z).2.2.1 x c e rfl
  by_cases hc:c∈X.fs
  ·obtain ⟨sl,q⟩:=slot c o (I.cne x c e) hc nch ho (I.freeC x c e)
   exact ⟨_,q,hd⟩
  ·exact ⟨o,keep c o (I.cne x c e) hc nch ho (I.freeC x c e),hd⟩
 refine ⟨I.ok,I.os,hg,⟨fun b o e n hb hx=>?_,fun b o e n hb hx=>?_,fun b o e n hx=>?_,fun b o e hx=>?_,fun b xs e=>tups b xs (I.base.tups b xs e),fun b o xs e=>frzs b o xs (I.base.frzs b o xs e),fun b ps e=>?_⟩,?_,fun x c e=>?_,?_,fun x c e=>?_,fun p hp=>?_,hok,I.len⟩
 ·exact keep b o (neL b o e) hb (neC b o e hx) (I.base.keep b o e n hb hx) (I.base.free b o e n hx)
 ·obtain ⟨sl,e1⟩:=I.base.slot b o e n hb hx
  obtain ⟨sl',e2⟩:=slot b _ (neL b o e) hb (neC b o e hx) e1 (I.base.free b o e n hx)
  exact ⟨sl',e2⟩
 ·obtain ⟨o',e1⟩:=I.base.there b o e hx
  exact free b o' (neC b o e hx) e1 (I.base.free b o e n hx)
 ·obtain ⟨o',e1⟩:=I.base.there b o e hx
  exact there b o' (neC b o e hx) e1
 ·obtain ⟨m1,e1⟩:=I.base.tbls b ps e
  obtain ⟨m2,e2⟩:=tbls b _ e1
  exact ⟨m1 ++ m2,by rw [e2,Array.append_assoc]⟩
 ·obtain ⟨m,hn,hl⟩:=I.loc
  refine ⟨m,ns m hn,fun i x v e1 e2 e3=>?_⟩
  obtain ⟨u,r,l⟩:=hl i x v e1 e2 e3
  refine ⟨u,r,?_⟩
  rcases l with l | ⟨k,c,e,z⟩
  ·exact .inl l
  ·exact .inr ⟨k,c,e,cellK x c e _ z⟩
 ·obtain ⟨v,z⟩:=I.cell x c e
  exact ⟨v,cellK x c e v z⟩
 ·obtain ⟨m,⟨o,_,_,ho,_⟩,_⟩:=I.loc
  exact free _ o (fun z=>(hch _ z).2.1 rfl) ho I.free
 ·obtain ⟨v,o,ho,hd⟩:=I.cell x c e
  exact free c o (fun z=>(hch c z).2.2.1 x c e rfl) ho (I.freeC x c e)
 ·obtain ⟨e,n,ne,nf,d⟩:=I.pin p hp
  have nch:p.1 ∉ ch:=fun z=>(hch p.1 z).2.2.2 p hp rfl
  exact ⟨keep p.1 p.2 ne nf nch e n,free p.1 p.2 nch e n,ne,nf,d⟩
theorem Inv.un {t':Nat} (I:Inv X pins σ H s) (u:Un X.fs [] H H' s.heap h') (hok:HOk X.prog X.w H' h'):Inv X pins σ H' { s with heap:=h',toks:=t' }:=by
 obtain ⟨m,⟨o,es,ep,ho,r⟩,_⟩:=id I.loc
 obtain ⟨sl,hL⟩:=u.any ho I.free (by simp)
 exact I.step (g':=s.gens) (d':=s.drawn) (ch:=[]) (fun _ z=>nomatch z) (fun b o _ hb _ e n=>u.keep b o e n hb (by simp)) (fun b o _ hb _ e n=>u.slot b o e n hb (by simp)) (fun b o _ e n=>u.free b o e n (by simp)) (fun b o _ e=>u.there b o e (by simp)) u.tups u.frzs u.tbls (fun m' hm=>by
  obtain ⟨o',es',ep',ho',r'⟩:=hm
  rw [ho] at ho';cases ho'
  exact ⟨_,es',ep',hL,r'⟩) hok I.bare
theorem Inv.call {g':Array GenState} {t':Nat} {d':Drawn} {ch:List Addr} (I:Inv X pins σ H s) (u:Un (frs X.stack) ch H H' s.heap h') (hok:HOk X.prog X.w H' h') (hg:AllBare g')
  (hch:∀ b∈ch,(b∈X.ex∨X.s₀.heap.objs.size≤b)∧b≠X.env.locals∧(∀ x c,X.env.cells.lookup x = some c→c≠b)∧∀ p∈X.pn ++ pins,p.1≠b) :
  Inv X pins σ H' { s with heap:=h',gens:=g',drawn:=d',toks:=t' }:=by
 obtain ⟨m,⟨o,es,ep,ho,r⟩,_⟩:=id I.loc
 obtain ⟨sl,hL⟩:=u.any ho I.free fun z=>(hch _ z).2.1 rfl
 exact I.step (ch:=ch) hch (fun b o hL hb hc e n=>u.keep b o e n (fun z=>(List.mem_cons.mp (I.stkSub b z)).elim hL hb) hc) (fun b o _ _ hc e n=>u.any e n hc) (fun b o hc e n=>u.free b o e n hc) (fun b o hc e=>u.there b o e hc) u.tups u.frzs u.tbls (fun m' hm=>by
  obtain ⟨o',es',ep',ho',r'⟩:=hm
  rw [ho] at ho';cases ho'
  exact ⟨_,es',ep',hL,r'⟩) hok hg
theorem Inv.turned {t':Nat} {it:Addr} (I:Inv X pins σ H s) (k:∀ b o,b≠it→s.heap.get? b = some o→h'.get? b = some o) (hn:H it = none) (hL:it≠X.env.locals)
  (h1:it∈X.ex∨X.s₀.heap.objs.size≤it) (h2:∀ x c,X.env.cells.lookup x = some c→c≠it) (h3:∀ p∈X.pn ++ pins,p.1≠it):Inv X pins σ H { s with heap:=h',toks:=t' }:=by
 have nit:∀ b u,H b = some u→b≠it:=fun b u e z=>by rw [z,hn] at e;cases e
 refine I.step (g':=s.gens) (d':=s.drawn) (ch:=[it]) (fun b hb=>?_) (fun b o _ _ hc e _=>k b o (fun z=>hc (by simp [z])) e) (fun b o _ _ hc e _=>⟨o.slots,k b o (fun z=>hc (by simp [z])) e⟩) (fun _ _ _ _ n=>n)
  (fun b o hc e=>⟨o,k b o (fun z=>hc (by simp [z])) e⟩) (fun _ _ e=>e) (fun _ _ _ e=>e) (fun b ps e=>⟨#[],by rw [e];simp⟩) (fun m hm=>?_) (fun b u e=>?_) I.bare
 ·have e:b = it:=by simpa using hb
  subst e
  exact ⟨h1,hL,h2,h3⟩
 ·obtain ⟨o,es,ep,ho,r⟩:=hm
  exact ⟨o,es,ep,k _ o (Ne.symm hL) ho,r⟩
 ·refine (I.hok b u e).stay (fun c v hc q=>k c v ?_ q) (fun _ q=>q) fun _ _ q=>q
  rcases hc with z | z
  ·rw [z];exact nit b u e
  ·exact nit c _ z
theorem Inv.tok (I:Inv X pins σ H s) (t:Nat):Inv X pins σ H { s with toks:=t }:=I.un (h':=s.heap) (t':=t) Un.refl I.hok
theorem Inv.kept {t':Nat} (I:Inv X pins σ H s) (k:∀ b u,s.heap.get? b = some u→h'.get? b = some u):Inv X pins σ H { s with heap:=h',toks:=t' }:=I.un (Un.kept k) (I.hok.kept k)
theorem Inv.laid {a : Addr} {o : HO} {t' : Nat} (I : Inv X pins σ H s) (k : ∀ b u, s.heap.get? b = some u → h'.get? b = some u) (hp : s.heap.objs.size ≤ a) (new : ObjOk X.prog X.w (upd H a o) h' a o) :
    Inv X pins σ (upd H a o) { s with heap := h', toks := t' } := I.un (Un.laid k hp (I.hok.fresh hp)) (I.hok.laid k hp new)
theorem Inv.write {x e : Addr} {o : HO} {t' : Nat} (I : Inv X pins σ H s) (mu : Mut (H x)) (he : e = x ∨ H e = some (.own x)) (k : ∀ b u, b ≠ e → s.heap.get? b = some u → h'.get? b = some u) (heo : ∃ u, h'.get? e = some u)
    (new : ObjOk X.prog X.w (upd H x o) h' x o) : Inv X pins σ (upd H x o) { s with heap := h', toks := t' } := I.un (Un.write mu he k heo) (I.hok.write mu he k heo new)
theorem Inv.pins_of {pins':List (Addr×Obj)} (I:Inv X pins σ H s) (h:∀ p∈pins',s.heap.get? p.1 = some p.2∧H p.1 = none∧p.1≠X.env.locals∧p.1 ∉ X.fs∧∀ v,p.2.data≠.cell v):Inv X pins' σ H s :=
 ⟨I.ok,I.os,I.bare,I.base,I.loc,I.cell,I.free,I.freeC,fun p hp=>(List.mem_append.mp hp).elim (fun z=>I.pin p (List.mem_append_left _ z)) (h p),I.hok,I.len⟩

theorem nodup_ix {N:List Str} (hN:N.Nodup) {i j:Nat} {x:Str} (a:N[i]? = some x) (b:N[j]? = some x):i = j:=by
 obtain ⟨h1,e1⟩:=List.getElem?_eq_some_iff.mp a
 obtain ⟨h2,e2⟩:=List.getElem?_eq_some_iff.mp b
 exact (List.getElem_inj hN).mp (e1.trans e2.symm)

theorem store_ok2 {M:Model} {A:Around} {E:Value→Shared→Prop} {i:Nat} {x:Str} {v:V} {u:Value} {Q:Unit→Shared→Prop} (I:Inv X pins σ H s) (hN:X.N.Nodup) (hi:X.N[i]? = some x) (hx:Loc X.env.scope x) (r:RelV v u)
  (h:∀ s',Inv X pins (σ.set i (some v)) H s'→(∃ a,Heap.SameBut a s.heap s'.heap∧(a = X.env.locals∨X.env.cells.lookup x = some a))→Q () s') (hf:X.fn x = true∨X.env.scope.names.lookup x = some .local:=by first | exact .inl rfl | exact .inr rfl | assumption):wpAny M A (storeName X.env x u) Q E s:=by
 obtain ⟨m,hn,hl⟩:=id I.loc
 have hcls:(X.env.scope.kind == .class || (X.env.scope.kind == .module && X.env.locals != X.env.globals)) = false:=by rw [I.ok.kind];rfl
 have hiσ:i < σ.length:=by rw [I.len];exact (List.getElem?_eq_some_iff.mp hi).1
 have cne:=I.cne
 have tracked:∀ {a:Addr} {h':Heap},(∃ o,s.heap.get? a = some o∧H a = none)→Heap.SameBut a s.heap h'→HOk X.prog X.w H h':=fun {a h'} ha hs b ob e=>by
  obtain ⟨_,_,hfree⟩:=ha
  refine (I.hok b ob e).stay (fun c w' hc q=>(hs.2 c ?_).trans q) (fun _ q=>q) fun _ _ q=>q
  rintro rfl
  rcases hc with rfl | hc
  ·rw [hfree] at e;cases e
  ·rw [hfree] at hc;cases hc
 rcases hx with hk | hk
 ·refine wpAny_storeName_local hk hn (fun h' hn' hs=>?_) hcls
  obtain ⟨oL,_,_,hoL,_⟩:=id hn
  refine h _ ⟨I.ok,I.os,I.bare,⟨fun b o e n hb hx=>?_,fun b o e n hb hx=>?_,I.base.free,fun b o e hx=>?_,I.base.tups,I.base.frzs,I.base.tbls⟩,⟨_,hn',fun j y v' e1 e2 e3=>?_⟩,fun y c e=>?_,I.free,I.freeC,fun p hp=>?_,tracked ⟨oL,hoL,I.free⟩ hs,by simpa using I.len⟩ ⟨_,hs,.inl rfl⟩
  ·exact (hs.2 b (Nat.ne_of_lt (Nat.lt_of_lt_of_le (Heap.lt_size e) I.ok.above))).trans (I.base.keep b o e n hb hx)
  ·obtain ⟨sl,e1⟩:=I.base.slot b o e n hb hx
   exact ⟨sl,(hs.2 b (Nat.ne_of_lt (Nat.lt_of_lt_of_le (Heap.lt_size e) I.ok.above))).trans e1⟩
  ·obtain ⟨o',e1⟩:=I.base.there b o e hx
   exact ⟨o',(hs.2 b (Nat.ne_of_lt (Nat.lt_of_lt_of_le (Heap.lt_size e) I.ok.above))).trans e1⟩
  ·by_cases hj:j = i
   ·subst hj
    rw [hi] at e1;cases e1
    rw [List.getElem?_set_self hiσ] at e2
    cases e2
    exact ⟨u,r,.inl ⟨hk,by simp⟩⟩
   ·rw [List.getElem?_set_ne (Ne.symm hj)] at e2
    obtain ⟨u',r',q⟩:=hl j y v' e1 e2 e3
    refine ⟨u',r',?_⟩
    rcases q with ⟨k,e⟩ | ⟨k,c,e,z⟩
    ·refine .inl ⟨k,?_⟩
     have:y≠x:=fun e=>hj (nodup_ix hN e1 (e ▸ hi))
     simp [this,e]
    ·exact .inr ⟨k,c,e,z.sameBut hs (cne y c e)⟩
  ·obtain ⟨w',z⟩:=I.cell y c e
   exact ⟨w',z.sameBut hs (cne y c e)⟩
  ·obtain ⟨e,n,ne,nf,d⟩:=I.pin p hp
   exact ⟨(hs.2 p.1 ne).trans e,n,ne,nf,d⟩
 ·have hfn:X.fn x = true:=by
   rcases hf with z | z
   ·exact z
   ·rw [z] at hk;cases hk
  obtain ⟨c,hc⟩:=I.ok.has x (.inl hk)
  obtain ⟨w',z⟩:=I.cell x c hc
  refine wpAny_storeName_cell I.ok.kind hk hc z (fun h' hc' hs=>?_)
  obtain ⟨oc,hoc,hocd⟩:=id z
  refine h { s with heap:=h' } ⟨I.ok,I.os,I.bare,⟨fun b o e n hb hx=>?_,fun b o e n hb hx=>?_,I.base.free,fun b o e hx=>?_,I.base.tups,I.base.frzs,I.base.tbls⟩,⟨m,hn.sameBut hs (Ne.symm (cne x c hc)),fun j y v' e1 e2 e3=>?_⟩,fun y c' e=>?_,I.free,I.freeC,fun p hp=>?_,tracked ⟨oc,hoc,I.freeC x c hc⟩ hs,by simpa using I.len⟩ ⟨c,hs,.inr hc⟩
  ·exact (hs.2 b (Nat.ne_of_lt (Nat.lt_of_lt_of_le (Heap.lt_size e) (I.ok.cab x c hfn hc)))).trans (I.base.keep b o e n hb hx)
  ·obtain ⟨sl,e1⟩:=I.base.slot b o e n hb hx
   exact ⟨sl,(hs.2 b (Nat.ne_of_lt (Nat.lt_of_lt_of_le (Heap.lt_size e) (I.ok.cab x c hfn hc)))).trans e1⟩
  ·obtain ⟨o',e1⟩:=I.base.there b o e hx
   exact ⟨o',(hs.2 b (Nat.ne_of_lt (Nat.lt_of_lt_of_le (Heap.lt_size e) (I.ok.cab x c hfn hc)))).trans e1⟩
  ·by_cases hj:j = i
   ·subst hj
    rw [hi] at e1;cases e1
    rw [List.getElem?_set_self hiσ] at e2
    cases e2
    exact ⟨u,r,.inr ⟨.inl hk,c,hc,hc'⟩⟩
   ·rw [List.getElem?_set_ne (Ne.symm hj)] at e2
    obtain ⟨u',r',q⟩:=hl j y v' e1 e2 e3
    refine ⟨u',r',?_⟩
    rcases q with q | ⟨k,c',e,z'⟩
    ·exact .inl q
    ·refine .inr ⟨k,c',e,z'.sameBut hs ?_⟩
     rintro rfl
     exact hj (nodup_ix hN e1 (I.ok.inj _ _ _ e hc ▸ hi))
  ·by_cases hcc:c' = c
   ·subst hcc;exact ⟨_,hc'⟩
   ·obtain ⟨w2,z2⟩:=I.cell y c' e
    exact ⟨w2,z2.sameBut hs hcc⟩
  ·obtain ⟨e,n,ne,nf,d⟩:=I.pin p hp
   refine ⟨(hs.2 p.1 ?_).trans e,n,ne,nf,d⟩
   intro q
   rw [q,hoc] at e
   have q':oc = p.2:=Option.some.inj e
   exact d w' (by rw [← q'];exact hocd)
theorem store_ok {M:Model} {A:Around} {E:Value→Shared→Prop} {i:Nat} {x:Str} {v:V} {u:Value} {Q:Unit→Shared→Prop} (I:Inv X pins σ H s) (hN:X.N.Nodup) (hi:X.N[i]? = some x) (hx:Loc X.env.scope x) (r:RelV v u)
  (h:∀ s',Inv X pins (σ.set i (some v)) H s'→Q () s') (hf:X.fn x = true∨X.env.scope.names.lookup x = some .local:=by first | exact .inl rfl | exact .inr rfl | assumption):wpAny M A (storeName X.env x u) Q E s :=
 store_ok2 I hN hi hx r (fun s' I' _=>h s' I') hf
theorem Inv.call' {s':Shared} {ch:List Addr} (I:Inv X pins σ H s) (ho:s'.os = s.os) (u:Un (frs X.stack) ch H H' s.heap s'.heap) (hok:HOk X.prog X.w H' s'.heap) (hg:AllBare s'.gens)
  (hch:∀ b∈ch,(b∈X.ex∨X.s₀.heap.objs.size≤b)∧b≠X.env.locals∧(∀ x c,X.env.cells.lookup x = some c→c≠b)∧∀ p∈X.pn ++ pins,p.1≠b):Inv X pins σ H' s':=by
 obtain ⟨h',g',d',t',o'⟩:=s'
 have e:o' = s.os:=ho
 subst e
 exact I.call (g':=g') (t':=t') (d':=d') u hok hg hch
end

noncomputable abbrev XK:=Value→Option Addr→Hp→Prop
noncomputable abbrev St:=List (Option V)
noncomputable abbrev VK:=V→Hp→Prop
noncomputable abbrev TE:=St→Hp→VK→Prop
noncomputable abbrev TT:=St→Hp→(Bool→Hp→Prop)→Prop
noncomputable abbrev TA:=St→Hp→(List V→Hp→Prop)→Prop
structure Ends where
 nx:St→Hp→Prop
 rt:VK
 bk:St→Hp→Prop:=fun _ _=>False
 ct:St→Hp→Prop:=fun _ _=>False
noncomputable abbrev TS:=Ends→St→Hp→Prop

noncomputable def EP (X:Cx) (pins:List (Addr×Obj)) (σ:St) (Q:VK) (u:Value) (s':Shared):Prop:=∃ v H',Inv X pins σ H' s'∧RelV v u∧Q v H'
noncomputable def TP (X:Cx) (pins:List (Addr×Obj)) (σ:St) (Q:Bool→Hp→Prop) (b:Bool) (s':Shared):Prop:=∃ H',Inv X pins σ H' s'∧Q b H'
noncomputable def AP (X:Cx) (pins:List (Addr×Obj)) (σ:St) (Q:List V→Hp→Prop) (us:List Value) (s':Shared):Prop:=∃ vs H',Inv X pins σ H' s'∧Vals vs us∧Q vs H'
noncomputable def SP (X:Cx) (pins:List (Addr×Obj)) (D:Ends) (f:Flow) (s':Shared):Prop :=
 match f with
 | .next=>∃ σ' H',Inv X pins σ' H' s'∧D.nx σ' H'
 | .brk=>∃ σ' H',Inv X pins σ' H' s'∧D.bk σ' H'
 | .cont=>∃ σ' H',Inv X pins σ' H' s'∧D.ct σ' H'
 | .ret u=>∃ v σ' H',Inv X pins σ' H' s'∧RelV v u∧D.rt v H'

noncomputable def PE (X:Cx) (e:Expr) (t:TE):Prop :=
 ∀ (pins:List (Addr×Obj)) (s:Shared) (σ:St) (H:Hp) (Q:VK),Inv X pins σ H s→t σ H Q→wpAny (model X.prog X.w) X.A (eval e X.env) (EP X pins σ Q) X.xe s
noncomputable def PT (X:Cx) (e:Expr) (t:TT):Prop :=
 ∀ (pins:List (Addr×Obj)) (s:Shared) (σ:St) (H:Hp) (Q:Bool→Hp→Prop),Inv X pins σ H s→t σ H Q→wpAny (model X.prog X.w) X.A (isTrue e X.env (eval e X.env)) (TP X pins σ Q) X.xe s
noncomputable def PW (X:Cx) (e:Expr) (t:TT):Prop :=
 ∀ (whole:Sem Value) (pins:List (Addr×Obj)) (s:Shared) (σ:St) (H:Hp) (Q:Bool→Hp→Prop),Inv X pins σ H s→t σ H Q→wpAny (model X.prog X.w) X.A (isTrue e X.env whole) (TP X pins σ Q) X.xe s
theorem PW.pt {X:Cx} {e:Expr} {t:TT} (h:PW X e t):PT X e t:=h _
noncomputable def PA (X:Cx) (es:List Expr) (t:TA):Prop :=
 ∀ (pos:Pos) (pins:List (Addr×Obj)) (s:Shared) (σ:St) (H:Hp) (Q:List V→Hp→Prop),Inv X pins σ H s→t σ H Q→wpAny (model X.prog X.w) X.A (spliced (backTo pos (starEach es X.env))) (AP X pins σ Q) X.xe s
noncomputable def PS (X:Cx) (st:Stmt) (t:TS):Prop :=
 ∀ (pins:List (Addr×Obj)) (s:Shared) (σ:St) (H:Hp) (D:Ends),Inv X pins σ H s→t D σ H→wpAny (model X.prog X.w) X.A (exec st X.env) (SP X pins D) X.xe s
noncomputable def PSs (X:Cx) (st:List Stmt) (t:TS):Prop :=
 ∀ (pins:List (Addr×Obj)) (s:Shared) (σ:St) (H:Hp) (D:Ends),Inv X pins σ H s→t D σ H→wpAny (model X.prog X.w) X.A (execs st X.env) (SP X pins D) X.xe s
theorem thn {α:Type} {t:Sem α} {Q Q':α→Shared→Prop} {M:Model} {A:Around} {E:Value→Shared→Prop} {s:Shared} (h:wpAny M A t Q E s) (hQ:∀ a s,Q a s→Q' a s):wpAny M A t Q' E s:=wpAny_mono h hQ fun _ _ x=>x
end L2

namespace L2
open PySem PySem.Spec PyProof.Rows
section
variable {X:Cx}

noncomputable def tVar (i:Nat):TE:=fun σ H Q=>∃ v,σ[i]? = some (some v)∧Q v H
noncomputable def tC (v:V):TE:=fun _ H Q=>Q v H
theorem pe_var {i:Nat} {x:Str} {pos:Pos} (hN:X.N[i]? = some x) (hv:Vis X.env.scope x) (hd:(x == ("__debug__":Str)) = false:=by decide) (hcd:(x == ("__classdict__":Str)) = false:=by decide):PE X (.Name x pos) (tVar i):=by
 intro pins s σ H Q I h
 obtain ⟨v,e,h⟩:=h
 obtain ⟨m,hn,hl⟩:=I.loc
 obtain ⟨u,r,l⟩:=hl i x v hN e hv
 have fin:EP X pins σ Q u s:=⟨v,H,I,r,h⟩
 rcases l with ⟨hk,hm⟩ | ⟨hk,c,hc,hcell⟩
 ·exact wpAny_Name (wpAny_loadName_local I.ok.kind hk hn hm fin) hd
 ·rcases hk with hk | hk
  ·exact wpAny_Name (wpAny_loadName_cell I.ok.kind hk hc hcell fin) hd
  ·exact wpAny_Name (wpAny_loadName_free I.ok.kind hk hc hcell fin hcd) hd
theorem pe_int {i j pos}:PE X (.Constant (.int i) j pos) (tC (.int i)):=fun _ _ _ H _ I h=>wpAny_Constant_int ⟨.int i,H,I.tok _,⟨_,rfl⟩,h⟩
theorem pe_bl {b j pos}:PE X (.Constant (.bool b) j pos) (tC (.bl b)):=fun _ _ _ H _ I h=>Constant_bool ⟨.bl b,H,I,rfl,h⟩
theorem pe_non {j pos}:PE X (.Constant .none j pos) (tC .non):=fun _ _ _ H _ I h=>Constant_none ⟨.non,H,I,rfl,h⟩
noncomputable def Gl (X:Cx) (x:Str):Prop:=X.env.kindOf x = some .globalImplicit
theorem ld_glob {E:Value→Shared→Prop} {pins:List (Addr×Obj)} {s:Shared} {σ:St} {H:Hp} {x:Str} {u:Value} {pos:Pos} {Q:Value→Shared→Prop} (I:Inv X pins σ H s) (hg:Gl X x) (hm:X.mg x = some u) (h:Q u s)
  (hd:(x == ("__debug__":Str)) = false:=by decide):wpAny (model X.prog X.w) X.A (eval (.Name x pos) X.env) Q E s :=
 Calls.Name_function_global I.ok.kind hg (Calls.loadGlobal_global (by rw [I.ok.glob];exact I.mod.glob.keeps I.bk) hm h) hd
theorem ld_blt {E:Value→Shared→Prop} {pins:List (Addr×Obj)} {s:Shared} {σ:St} {H:Hp} {x:Str} {u:Value} {pos:Pos} {Q:Value→Shared→Prop} (I:Inv X pins σ H s) (hg:Gl X x) (hm:X.mg x = none) (hv:bootBuiltins x = some u) (h:Q u s)
  (hn:x≠"__name__":=by decide) (hd:(x == ("__debug__":Str)) = false:=by decide):wpAny (model X.prog X.w) X.A (eval (.Name x pos) X.env) Q E s:=by
 obtain ⟨mb,h1,h2⟩:=I.mod.blt
 exact Calls.Name_function_global I.ok.kind hg (Calls.loadGlobal_builtin (by rw [I.ok.glob];exact I.mod.glob.keeps I.bk) hm (by rw [I.ok.blt];exact h1.keeps I.bk) ((h2 x hn).trans hv) h) hd
theorem pe_bltn {x:Str} {v:V} {u:Value} {pos:Pos} (hg:Gl X x) (hm:X.mg x = none) (hv:bootBuiltins x = some u) (r:RelV v u) (hn:x≠"__name__":=by decide) (hd:(x == ("__debug__":Str)) = false:=by decide):PE X (.Name x pos) (tC v) :=
 fun _ _ _ H _ I h=>ld_blt I hg hm hv ⟨v,H,I,r,h⟩ hn hd

variable {a b:Expr} {ta tb:TE} {pos:Pos}
noncomputable def PC (X:Cx) (op:CmpOp) (a b:Expr) (t:TE):Prop :=
 ∀ (pins:List (Addr×Obj)) (s:Shared) (σ:St) (H:Hp) (Q:VK),Inv X pins σ H s→t σ H Q →
  wpAny (model X.prog X.w) X.A (eval a X.env) (fun v s₁=>wpAny (model X.prog X.w) X.A (eval b X.env) (fun u s₂=>wpAny (model X.prog X.w) X.A (compareOp op v u) (EP X pins σ Q) X.xe s₂) X.xe s₁) X.xe s
noncomputable def tB (t:TE):TT:=fun σ H Q=>t σ H fun x H1=>∃ c,x = .bl c∧Q c H1
theorem pt_cmp {op:CmpOp} {t:TE} (h:PC X op a b t) (h1:behindInMarks op b = false:=by first | exact nobehind _ (by decide) (by decide) | rfl):PT X (.Compare a [op] [b] pos) (tB t):=by
 intro pins s σ H Q I hw
 refine wpAny_isTrue_Compare1 (thn (h pins s σ H _ I hw) fun v s1 h1=>thn h1 fun u s2 h2=>thn h2 fun c s3 ⟨x,H1,I1,r1,q1⟩=>?_) h1
 obtain ⟨d,rfl,q⟩:=q1
 cases r1
 exact wpAny_truthy_bool ⟨H1,I1,q⟩
theorem pt_val {e:Expr} {t:TE} (h:PE X e t) (he:∀ whole,isTrue e X.env whole = (do let v ← whole;standAt e.pos;holding [v] (truthy v)):=by intro _;rfl):PT X e (tB t):=by
 intro pins s σ H Q I hw
 refine isTrue_plain (thn (h pins s σ H _ I hw) fun v s1 ⟨x,H1,I1,r1,q1⟩=>?_) (he _)
 obtain ⟨d,rfl,q⟩:=q1
 cases r1
 exact wpAny_truthy_bool ⟨H1,I1,q⟩

variable {tA tB':TT} {rest:List Expr}
noncomputable def tAnd (t u:TT):TT:=fun σ H Q=>t σ H fun c H1=>if c = true then u σ H1 Q else Q false H1
noncomputable def tOr (t u:TT):TT:=fun σ H Q=>t σ H fun c H1=>if c = true then Q true H1 else u σ H1 Q
noncomputable def tNot (t:TT):TT:=fun σ H Q=>t σ H fun c H1=>Q (!c) H1
theorem pw_and1 (ha:PT X a tA):PW X (.BoolOp .And [a] pos) tA:=by
 intro wh pins s σ H Q I h
 refine isTrue_and (thn (ha pins s σ H Q I h) fun c s1 e=>?_)
 cases c with
 | true=>exact isTrue_and_nil e
 | false=>exact e
theorem pw_or1 (ha:PT X a tA):PW X (.BoolOp .Or [a] pos) tA:=by
 intro wh pins s σ H Q I h
 refine isTrue_or (thn (ha pins s σ H Q I h) fun c s1 e=>?_)
 cases c with
 | false=>exact isTrue_or_nil e
 | true=>exact e
theorem pw_and (ha:PT X a tA) (hb:PW X (.BoolOp .And (b :: rest) pos) tB'):PW X (.BoolOp .And (a :: b :: rest) pos) (tAnd tA tB'):=by
 intro wh pins s σ H Q I h
 refine isTrue_and (thn (ha pins s σ H _ I h) fun c s1 ⟨H1,I1,q1⟩=>?_)
 cases c with
 | true=>exact hb wh pins s1 σ H1 Q I1 q1
 | false=>exact ⟨H1,I1,q1⟩
theorem pw_or (ha:PT X a tA) (hb:PW X (.BoolOp .Or (b :: rest) pos) tB'):PW X (.BoolOp .Or (a :: b :: rest) pos) (tOr tA tB'):=by
 intro wh pins s σ H Q I h
 refine isTrue_or (thn (ha pins s σ H _ I h) fun c s1 ⟨H1,I1,q1⟩=>?_)
 cases c with
 | true=>exact ⟨H1,I1,q1⟩
 | false=>exact hb wh pins s1 σ H1 Q I1 q1
theorem pt_not (ha:PT X a tA):PT X (.UnaryOp .Not a pos) (tNot tA):=by
 intro pins s σ H Q I h
 exact isTrue_not (ha pins s σ H (fun c H1=>Q (!c) H1) I h)
noncomputable def tIf (t:TT) (ta tb:TE):TE:=fun σ H Q=>t σ H fun c H1=>if c = true then ta σ H1 Q else tb σ H1 Q
theorem pe_ifExp {c:Expr} (hc:PT X c tA) (ha:PE X a ta) (hb:PE X b tb):PE X (.IfExp c a b pos) (tIf tA ta tb):=by
 intro pins s σ H Q I h
 refine wpAny_IfExp (thn (hc pins s σ H _ I h) fun d s1 ⟨H1,I1,q1⟩=>?_)
 cases d with
 | true=>exact ha pins s1 σ H1 Q I1 q1
 | false=>exact hb pins s1 σ H1 Q I1 q1
end
end L2

namespace L2
open PySem PySem.Spec PyProof.Rows

noncomputable def SqL (K:PySem.W.Frag) (H:Hp) (a:Addr) (xs:List V):Prop :=
 Rd H a (.lst xs) ∨
  ∃ (o:Obj) (its:Array Value) (n:Nat),K.lookup a = some o∧o.cls = .type "list"∧o.dict = none∧o.data = .seq its n∧its.size≤sizeLine∧Vals xs its.toList
noncomputable def SqT (K:PySem.W.Frag) (H:Hp) (a:Addr) (xs:List V):Prop :=
 Rd H a (.tup xs) ∨
  ∃ (o:Obj) (its:Array Value) (n:Nat),K.lookup a = some o∧o.cls = .type "tuple"∧o.data = .seq its n∧its.size≤sizeLine∧Vals xs its.toList
noncomputable def absV:Value→Option V
 | .none=>some .non
 | .bool b=>some (.bl b)
 | .int i _=>some (.int i)
 | .str x _=>some (.str x)
 | .bytes b _=>some (.byt b)
 | .float b _=>some (.flt b)
 | .ref a=>some (.ref a)
 | .type n=>some (.ty n)
 | _=>none
theorem RelV.abs {x:V} {u:Value} (r:RelV x u):absV u = some x:=by
 cases x with
 | non=>cases r;rfl
 | bl _=>cases r;rfl
 | int _=>obtain ⟨t,rfl⟩:=r;rfl
 | str _=>obtain ⟨t,rfl⟩:=r;rfl
 | byt _=>obtain ⟨t,rfl⟩:=r;rfl
 | flt _=>obtain ⟨t,rfl⟩:=r;rfl
 | ref _=>cases r;rfl
 | ty _=>cases r;rfl
theorem RelV.inj {x y:V} {u:Value} (r:RelV x u) (q:RelV y u):x = y:=Option.some.inj (r.abs.symm.trans q.abs)
theorem Vals.inj:∀ {xs ys:List V} {us:List Value},Vals xs us→Vals ys us→xs = ys
 | _,_,_,.nil,.nil=>rfl
 | _,_,_,.cons r t,.cons r' t'=>by rw [r.inj r',Vals.inj t t']
section
variable {X:Cx} {pins:List (Addr×Obj)} {σ:St} {H:Hp} {s:Shared} {a:Addr} {xs ys:List V}
theorem SqL.of {K:PySem.W.Frag} (h:H a = some (.lst xs)):SqL K H a xs:=.inl (.inl h)
theorem SqT.of {K:PySem.W.Frag} (h:H a = some (.tup xs)):SqT K H a xs:=.inl (.inl h)
theorem Inv.list (I:Inv X pins σ H s) (h:SqL X.K H a xs):∃ its:List Value,Vals xs its∧PlainL s.heap a its.toArray∧xs.length≤sizeLine:=by
 rcases h with h | ⟨o,its,n,hk,hc,hd,hs,hz,r⟩
 ·obtain ⟨z,its,n,r,e⟩:=h.ok I.hok
  exact ⟨its,r,⟨_,n,e,rfl,rfl,rfl⟩,z⟩
 ·refine ⟨its.toList,r,⟨o,n,I.kIn a o hk,hc,hd,by simpa using hs⟩,?_⟩
  have e:=r.length
  simp only [Array.length_toList] at e
  omega
theorem Inv.tuple (I:Inv X pins σ H s) (h:SqT X.K H a xs):∃ its:List Value,Vals xs its∧IsTup s.heap a its.toArray∧xs.length≤sizeLine:=by
 rcases h with h | ⟨o,its,n,hk,hc,hs,hz,r⟩
 ·obtain ⟨z,its,r,p⟩:=h.ok I.hok
  exact ⟨its,r,p,z⟩
 ·refine ⟨its.toList,r,⟨o,I.kIn a o hk,hc,n,by simpa using hs⟩,?_⟩
  have e:=r.length
  simp only [Array.length_toList] at e
  omega
theorem Inv.list_inj (I:Inv X pins σ H s) (h:SqL X.K H a xs) (h':SqL X.K H a ys):xs = ys:=by
 obtain ⟨its,r,⟨o,n,e,_,_,d⟩,_⟩:=I.list h
 obtain ⟨its',r',⟨o',n',e',_,_,d'⟩,_⟩:=I.list h'
 rw [e] at e';cases e'
 rw [d] at d'
 injection d' with d1 _
 have:its = its':=by simpa using congrArg Array.toList d1
 subst this
 exact r.inj r'
theorem Inv.tuple_inj (I:Inv X pins σ H s) (h:SqT X.K H a xs) (h':SqT X.K H a ys):xs = ys:=by
 obtain ⟨its,r,⟨o,e,_,n,d⟩,_⟩:=I.tuple h
 obtain ⟨its',r',⟨o',e',_,n',d'⟩,_⟩:=I.tuple h'
 rw [e] at e';cases e'
 rw [d] at d'
 injection d' with d1 _
 have:its = its':=by simpa using congrArg Array.toList d1
 subst this
 exact r.inj r'
end

noncomputable abbrev Cx.wish (X:Cx) (E:Value→Shared→Prop):Cx:={ X with xe:=E }
noncomputable abbrev Cx.nox (X:Cx):Cx:=X.wish fun _ _=>False
theorem Cx.Ok.wish {X:Cx} (ok:X.Ok) (E:Value→Shared→Prop):(X.wish E).Ok :=
 ⟨ok.mod,ok.kind,ok.glob,ok.blt,ok.above,ok.inj,ok.has,ok.cab,ok.hd,ok.frames,ok.stk,ok.exf,ok.bs,ok.bsz,ok.noex,ok.exfs,ok.funs,ok.frf⟩
theorem Cx.Ok.unwish {X:Cx} {E:Value→Shared→Prop} (ok:(X.wish E).Ok):X.Ok :=
 ⟨ok.mod,ok.kind,ok.glob,ok.blt,ok.above,ok.inj,ok.has,ok.cab,ok.hd,ok.frames,ok.stk,ok.exf,ok.bs,ok.bsz,ok.noex,ok.exfs,ok.funs,ok.frf⟩
section
variable {X:Cx} {pins:List (Addr×Obj)} {σ:St} {H:Hp} {s:Shared} {E:Value→Shared→Prop}
theorem Inv.wish (I:Inv X pins σ H s) (E:Value→Shared→Prop):Inv (X.wish E) pins σ H s:=⟨I.ok.wish E,I.os,I.bare,I.base,I.loc,I.cell,I.free,I.freeC,I.pin,I.hok,I.len⟩
theorem Inv.unwish (I:Inv (X.wish E) pins σ H s):Inv X pins σ H s:=⟨I.ok.unwish,I.os,I.bare,I.base,I.loc,I.cell,I.free,I.freeC,I.pin,I.hok,I.len⟩
theorem SP.unwish {D:Ends} {f:Flow} {s':Shared} (h:SP (X.wish E) pins D f s'):SP X pins D f s':=by
 cases f with
 | next=>obtain ⟨σ',H',I,q⟩:=h;exact ⟨σ',H',I.unwish,q⟩
 | brk=>obtain ⟨σ',H',I,q⟩:=h;exact ⟨σ',H',I.unwish,q⟩
 | cont=>obtain ⟨σ',H',I,q⟩:=h;exact ⟨σ',H',I.unwish,q⟩
 | ret u=>obtain ⟨v,σ',H',I,r,q⟩:=h;exact ⟨v,σ',H',I.unwish,r,q⟩
theorem PSs.nox {st:List Stmt} {t:TS} (h:PSs X.nox st t):PSs X st t:=fun pins s σ H D I hw =>
 wpAny_mono (h pins s σ H D (I.wish _) hw) (fun _ _ q=>q.unwish) fun _ _ z=>False.elim z
end

section
variable {X:Cx} {st:Stmt} {rest:List Stmt} {t u:TS} {e:Expr} {te:TE} {pos:Pos}
noncomputable def tNext:TS:=fun D σ H=>D.nx σ H
noncomputable def tSeq (t u:TS):TS:=fun D σ H=>t { D with nx:=u D } σ H
theorem pss_nil:PSs X [] tNext:=fun _ _ σ H _ I h=>wpAny_execs_nil ⟨σ,H,I,h⟩
theorem pss_cons (h1:PS X st t) (h2:PSs X rest u):PSs X (st :: rest) (tSeq t u):=by
 intro pins s σ H D I h
 refine wpAny_execs_cons (thn (h1 pins s σ H { D with nx:=u D } I h) fun f s1 q=>?_)
 cases f with
 | next =>
  obtain ⟨σ',H',I',q⟩:=q
  exact h2 pins s1 σ' H' D I' q
 | ret v=>exact q
 | brk=>exact q
 | cont=>exact q
theorem pss_one (h1:PS X st t):PSs X [st] t:=by
 intro pins s σ H D I h
 refine wpAny_execs_cons (thn (h1 pins s σ H D I h) fun f s1 q=>?_)
 cases f with
 | next=>exact wpAny_execs_nil q
 | ret v=>exact q
 | brk=>exact q
 | cont=>exact q
noncomputable def tBreak:TS:=fun D σ H=>D.bk σ H
theorem ps_break:PS X (.Break pos) tBreak:=fun _ _ σ H _ I h=>wpAny_Break ⟨σ,H,I,h⟩
theorem Inv.quiet {pins:List (Addr×Obj)} {σ:St} {H:Hp} {s:Shared} (I:Inv X pins σ H s):interactive X.env = false:=by simp [interactive,I.ok.kind]
noncomputable def tDrop (te:TE):TS:=fun D σ H=>te σ H fun _ H1=>D.nx σ H1
theorem ps_expr (he:PE X e te) (hs:swapsWith e none pos.line X.env = pure false:=by rfl):PS X (.Expr e pos) (tDrop te):=by
 intro pins s σ H D I h
 exact wpAny_Expr_any (thn (he pins s σ H _ I h) fun v s1 ⟨x,H1,I1,r1,q1⟩=>⟨σ,H1,I1,q1⟩) I.quiet hs
noncomputable def tRet (te:TE):TS:=fun D σ H=>te σ H D.rt
theorem ps_ret (he:PE X e te):PS X (.Return (some e) pos) (tRet te):=by
 intro pins s σ H D I h
 exact wpAny_Return_some (thn (he pins s σ H _ I h) fun v s1 ⟨x,H1,I1,r1,q1⟩=>⟨x,σ,H1,I1,r1,q1⟩)
noncomputable def tIfS (c:TT) (t u:TS):TS:=fun D σ H=>c σ H fun b H1=>if b = true then t D σ H1 else u D σ H1
theorem ps_if {c:Expr} {a b:List Stmt} {tc:TT} (hc:PT X c tc) (ha:PSs X a t) (hb:PSs X b u):PS X (.If c a b pos) (tIfS tc t u):=by
 intro pins s σ H D I h
 refine wpAny_If (thn (hc pins s σ H _ I h) fun d s1 ⟨H1,I1,q1⟩=>?_)
 cases d with
 | true=>exact ha pins s1 σ H1 D I1 q1
 | false=>exact hb pins s1 σ H1 D I1 q1
end

noncomputable abbrev TG:=V→St→Hp→(St→Hp→Prop)→Prop
noncomputable abbrev TGs:=List V→St→Hp→(St→Hp→Prop)→Prop
noncomputable def PG (X:Cx) (target:Expr) (t:TG):Prop :=
 ∀ (pins:List (Addr×Obj)) (s:Shared) (σ:St) (H:Hp) (v:V) (u:Value) (Q:St→Hp→Prop),Inv X pins σ H s→RelV v u→t v σ H Q →
  wpAny (model X.prog X.w) X.A (assign target X.env u) (fun _ s'=>∃ σ' H',Inv X pins σ' H' s'∧Q σ' H') X.xe s
noncomputable def PGs (X:Cx) (ts:List Expr) (t:TGs):Prop :=
 ∀ (pins:List (Addr×Obj)) (s:Shared) (σ:St) (H:Hp) (vs:List V) (us:List Value) (Q:St→Hp→Prop),Inv X pins σ H s→Vals vs us→t vs σ H Q →
  wpAny (model X.prog X.w) X.A (assignInOrder ((assignEach ts X.env).map (·.2)) us) (fun _ s'=>∃ σ' H',Inv X pins σ' H' s'∧Q σ' H') X.xe s
noncomputable abbrev TSet:=V→V→V→Hp→(Hp→Prop)→Prop
noncomputable def PSet (X:Cx) (t:TSet):Prop :=
 ∀ (pins:List (Addr×Obj)) (s:Shared) (σ:St) (H:Hp) (o i v:V) (ov iv u:Value) (Q:Hp→Prop),Inv X pins σ H s→RelV o ov→RelV i iv→RelV v u→t o i v H Q →
  wpAny (model X.prog X.w) X.A (setItem ov iv u) (fun _ s'=>∃ H',Inv X pins σ H' s'∧Q H') X.xe s
noncomputable abbrev TIp:=V→V→Hp→VK→Prop
noncomputable def PIp (X:Cx) (op:Operator) (t:TIp):Prop :=
 ∀ (pins:List (Addr×Obj)) (s:Shared) (σ:St) (H:Hp) (x y:V) (v u:Value) (Q:VK),Inv X pins σ H s→RelV x v→RelV y u→t x y H Q →
  wpAny (model X.prog X.w) X.A (inplaceOp op v u) (EP X pins σ Q) X.xe s
section
variable {X:Cx} {pos:Pos}
noncomputable def gName (i:Nat):TG:=fun v σ H Q=>Q (σ.set i (some v)) H
theorem pg_name {i:Nat} {x:Str} (hN:X.N.Nodup) (hi:X.N[i]? = some x) (hx:Loc X.env.scope x) (hf:X.fn x = true∨X.env.scope.names.lookup x = some .local:=by first | exact .inl rfl | exact .inr rfl | assumption):PG X (.Name x pos) (gName i):=by
 intro pins s σ H v u Q I r h
 exact wpAny_assign_Name (store_ok I hN hi hx r (fun s' I'=>⟨_,H,I',h⟩) hf)
noncomputable def gNil:TGs:=fun vs σ H Q=>vs = []∧Q σ H
noncomputable def gCons (t:TG) (u:TGs):TGs:=fun vs σ H Q=>∃ v r,vs = v :: r∧t v σ H fun σ' H'=>u r σ' H' Q
theorem pgs_nil:PGs X [] gNil:=by
 intro pins s σ H vs us Q I r h
 obtain ⟨e,h⟩:=h
 subst e
 cases r
 exact assignInOrder_nil ⟨σ,H,I,h⟩
theorem pgs_cons {e:Expr} {es:List Expr} {t:TG} {u:TGs} (h1:PG X e t) (h2:PGs X es u)
  (hs:(assignEach (e :: es) X.env).map (·.2) = assign e X.env :: (assignEach es X.env).map (·.2):=by rfl):PGs X (e :: es) (gCons t u):=by
 intro pins s σ H vs us Q I r h
 obtain ⟨v,vr,e1,h⟩:=h
 subst e1
 cases r with
 | cons r rr =>
  rw [hs]
  refine assignInOrder_cons (thn (h1 pins s σ H _ _ _ I r h) fun _ s1 ⟨σ1,H1,I1,q1⟩=>?_)
  exact h2 pins s1 σ1 H1 _ _ Q I1 rr q1
noncomputable def gTup (K:PySem.W.Frag) (n:Nat) (t:TGs):TG:=fun v σ H Q=>∃ a xs,v = .ref a∧SqT K H a xs∧xs.length = n∧t xs σ H Q
theorem pg_tup {es:List Expr} {k:Nat} {t:TGs} {n:Nat} (hc:X.calm = true) (h:PGs X es t)
  (hn:(assignEach es X.env).length = n:=by rfl) (hst:(assignEach es X.env).findIdx? (·.1) = none:=by rfl):PG X (.Tuple es k pos) (gTup X.K n t):=by
 intro pins s σ H v u Q I r hw
 obtain ⟨a,xs,e1,hq,hl,hw⟩:=hw
 subst e1
 cases r
 obtain ⟨its,rv,ht,hz⟩:=I.tuple hq
 refine assign_Tuple_tuple (I.ok.hd hc) ht (by simp [hn,← hl,rv.length]) hst fun h' hx=>?_
 have I1:Inv X pins σ H { s with heap:=h' }:=I.kept (t':=s.toks) fun b o e=>hx b o (Nat.ne_of_lt (Heap.lt_size e)) e
 exact h pins _ σ H xs _ Q I1 (by simpa using rv) hw
noncomputable def gSub (to ti:TE) (t:TSet):TG:=fun v σ H Q=>to σ H fun o H1=>ti σ H1 fun i H2=>t o i v H2 fun H3=>Q σ H3
theorem pg_sub {o i:Expr} {to ti:TE} {t:TSet} (ho:PE X o to) (hi:PE X i ti) (hs:PSet X t)
  (ha:∀ v,assign (.Subscript o i pos) X.env v = (do
   let ov ← holding [v] (eval o X.env)
   let iv ← holding [v,ov] (eval i X.env)
   standAt pos
   holding [v,ov,iv] (setItem ov iv v)
   release [v,ov,iv] []):=by intro _;rfl):PG X (.Subscript o i pos) (gSub to ti t):=by
 intro pins s σ H v u Q I r h
 rw [ha]
 refine wpAny_bind (wpAny_holding (thn (ho pins s σ H _ I h) fun ov s1 ⟨x,H1,I1,r1,q1⟩=>?_))
 refine wpAny_bind (wpAny_holding (thn (hi pins s1 σ H1 _ I1 q1) fun iv s2 ⟨y,H2,I2,r2,q2⟩=>?_))
 refine wpAny_bind (wpAny_standAt (wpAny_bind (wpAny_holding (thn (hs pins s2 σ H2 x y v ov iv u _ I2 r1 r2 r q2) fun _ s3 ⟨H3,I3,q3⟩=>?_))))
 exact wpAny_release ⟨σ,H3,I3,q3⟩
noncomputable def tAsg (te:TE) (g:TG):TS:=fun D σ H=>te σ H fun x H1=>g x σ H1 D.nx
theorem ps_asg {tg e:Expr} {te:TE} {g:TG} (he:PE X e te) (hg:PG X tg g) (hs:swapsWithSole [tg] e pos.line X.env = pure false:=by rfl) (hw:swappedStores [tg] e X.env = pure none:=by rfl)
  (h1:(assignEach [tg] X.env).map (·.2) = [assign tg X.env]:=by rfl):PS X (.Assign [tg] e pos) (tAsg te g):=by
 intro pins s σ H D I h
 refine wpAny_Assign_stores (thn (he pins s σ H _ I h) fun v s1 ⟨x,H1,I1,r1,q1⟩=>?_) hs hw
 rw [h1]
 exact thn (hg pins s1 σ H1 x v _ I1 r1 q1) fun _ s2 q=>q
theorem ps_set {i:Nat} {x:Str} {e:Expr} {te:TE} {pos':Pos} (hN:X.N.Nodup) (hi:X.N[i]? = some x) (hx:Loc X.env.scope x) (he:PE X e te) (hs:swapsWith e (some (.Name x pos')) pos.line X.env = pure false:=by rfl) (hf:X.fn x = true∨X.env.scope.names.lookup x = some .local:=by first | exact .inl rfl | exact .inr rfl | assumption) :
  PS X (.Assign [.Name x pos'] e pos) (tAsg te (gName i)):=by
 intro pins s σ H D I h
 refine wpAny_Assign_Name (thn (he pins s σ H _ I h) fun v s1 ⟨y,H1,I1,r1,q1⟩=>?_) hs
 exact store_ok I1 hN hi hx r1 (fun s2 I2=>⟨_,H1,I2,q1⟩) hf
noncomputable def tAug (i:Nat) (te:TE) (ti:TIp):TS:=fun D σ H=>∃ x,σ[i]? = some (some x)∧te σ H fun y H1=>ti x y H1 fun z H2=>D.nx (σ.set i (some z)) H2
theorem ps_aug {i:Nat} {x:Str} {e:Expr} {te:TE} {op:Operator} {ti:TIp} {pos':Pos} (hN:X.N.Nodup) (hi:X.N[i]? = some x) (hx:Loc X.env.scope x) (he:PE X e te) (ho:PIp X op ti) (hf:X.fn x = true∨X.env.scope.names.lookup x = some .local:=by first | exact .inl rfl | exact .inr rfl | assumption) :
  PS X (.AugAssign (.Name x pos') op e pos) (tAug i te ti):=by
 intro pins s σ H D I h
 obtain ⟨v,e1,h⟩:=h
 obtain ⟨m,hn,hl⟩:=I.loc
 have vis:Vis X.env.scope x:=by rcases hx with k | k;exact .inl k;exact .inr (.inl k)
 obtain ⟨u,r,l⟩:=hl i x v hi e1 vis
 refine wpAny_AugAssign_Name ?_
 have go:wpAny (model X.prog X.w) X.A (eval e X.env) (fun w s₂=>wpAny (model X.prog X.w) X.A (inplaceOp op u w) (fun r s₃=>wpAny (model X.prog X.w) X.A (storeName X.env x r) (fun _=>SP X pins D .next) X.xe s₃) X.xe s₂) X.xe s:=by
  refine thn (he pins s σ H _ I h) fun w s1 ⟨y,H1,I1,r1,q1⟩=>?_
  refine thn (ho pins s1 σ H1 v y u w _ I1 r r1 q1) fun z s2 ⟨zv,H2,I2,r2,q2⟩=>?_
  exact store_ok I2 hN hi hx r2 (fun s3 I3=>⟨_,H2,I3,q2⟩) hf
 rcases l with ⟨hk,hm⟩ | ⟨hk,c,hc,hcell⟩
 ·exact wpAny_loadName_local I.ok.kind hk hn hm go
 ·rcases hk with hk | hk
  ·exact wpAny_loadName_cell I.ok.kind hk hc hcell go
  ·rcases hx with k | k
   ·have:X.env.scope.names.lookup x = some .free:=hk
    rw [k] at this;cases this
   ·have:X.env.scope.names.lookup x = some .free:=hk
    rw [k] at this;cases this
end

section
variable {X:Cx} {pos:Pos}
noncomputable def tWhile (c:TT) (tb:TS):TS:=fun D σ H=>∃ W:Nat→St→Hp→Prop,(∃ m,W m σ H)∧∀ m σ H,W m σ H →
 c σ H fun b H1=>if b = true then ∃ N:St→Hp→Prop,(∀ σ' H',N σ' H'→∃ m',m' < m∧W m' σ' H')∧tb { D with nx:=N,ct:=N,bk:=D.nx } σ H1 else D.nx σ H1
theorem ps_while {c:Expr} {body:List Stmt} {tc:TT} {tb:TS} (hp:PassesOwn (model X.prog X.w) X.A X.env X.xe) (hc:PT X c tc) (hb:PSs X body tb):PS X (.While c body [] pos) (tWhile tc tb):=by
 intro pins s σ H D I h
 obtain ⟨W,⟨m0,w0⟩,turn⟩:=h
 refine wpAny_While (codeAny_whileLoop (fun n s'=>∃ σ' H',Inv X pins σ' H' s'∧W n σ' H') ?_ m0 ⟨σ,H,I,w0⟩)
 rintro n s1 ⟨σ1,H1,I1,w1⟩
 refine wpAny_passesOwn hp (thn (hc pins s1 σ1 H1 _ I1 (turn n σ1 H1 w1)) fun b s2 ⟨H2,I2,q2⟩=>?_)
 cases b with
 | true =>
  obtain ⟨N,hN,q2⟩:=q2
  rw [if_pos rfl]
  refine wpAny_passesOwn hp (thn (hb pins s2 σ1 H2 _ I2 q2) fun f s3 q3=>?_)
  cases f with
  | next =>
   obtain ⟨σ3,H3,I3,n3⟩:=q3
   obtain ⟨m',hm,w3⟩:=hN σ3 H3 n3
   exact ⟨m',hm,σ3,H3,I3,w3⟩
  | cont =>
   obtain ⟨σ3,H3,I3,n3⟩:=q3
   obtain ⟨m',hm,w3⟩:=hN σ3 H3 n3
   exact ⟨m',hm,σ3,H3,I3,w3⟩
  | brk=>exact q3
  | ret v=>exact q3
 | false =>
  rw [if_neg Bool.false_ne_true]
  exact wpAny_execs_nil ⟨σ1,H2,I2,q2⟩
end

structure It where
 go:Nat→Hp→Prop
 yld:Nat→Hp→V→Hp→Prop
 stop:Nat→Hp→Prop
noncomputable def FpOk (X:Cx) (pins:List (Addr×Obj)) (H:Hp) (b:Addr):Prop :=
 H b = none∧b≠X.env.locals∧b ∉ X.fs∧(b∈X.ex∨X.s₀.heap.objs.size≤b)∧(∀ x c,X.env.cells.lookup x = some c→c≠b)∧∀ p∈X.pn ++ pins,p.1≠b
theorem Inv.fpOk {X:Cx} {pins:List (Addr×Obj)} {σ:St} {H H':Hp} {s:Shared} {b:Addr} (I:Inv X pins σ H s) (hb:s.heap.objs.size≤b) (hn:H' b = none):FpOk X pins H' b:=by
 refine ⟨hn,Nat.ne_of_gt (Nat.lt_of_lt_of_le I.lt hb),I.nofs hb,.inr (Nat.le_trans I.sz hb),fun x c e z=>?_,fun p hp z=>?_⟩
 ·obtain ⟨v,q⟩:=I.cell x c e
  exact absurd (Nat.lt_of_lt_of_le q.lt (by rw [z];exact hb)) (Nat.lt_irrefl _)
 ·exact absurd (Nat.lt_of_lt_of_le (Heap.lt_size (I.pin p hp).1) (by rw [z];exact hb)) (Nat.lt_irrefl _)
structure Turn (P:Program) (w:World) (K:PySem.W.Frag) (tg:Expr) (J:It) (fp:List Addr) (it:Addr) (tn:Nat→Heap→Prop):Prop where
 mem:it∈fp
 obj:∀ i h,tn i h→∀ b∈fp,∃ o,h.get? b = some o∧∀ v,o.data≠.cell v
 keep:∀ i h h',tn i h→(∀ b∈fp,∀ o,h.get? b = some o→h'.get? b = some o)→tn i h'
 item:∀ (X:Cx),X.prog = P→X.w = w→X.K = K→X.calm = true→∀ (i:Nat) (pins:List (Addr×Obj)) (s:Shared) (σ:St) (H:Hp) (E:Value→Shared→Prop),Inv X pins σ H s→(∀ b∈fp,FpOk X pins H b)→tn i s.heap→J.go i H →
  wpAny (model P w) X.A (pyNext (.ref it)) (fun r s1=>∃ u,r = some u ∧
   wpAny (model P w) X.A (letOwnedTupleGo tg (.ref it) u) (fun _ s2=>∃ x H',Inv X pins σ H' s2∧RelV x u∧J.yld i H x H'∧tn (i + 1) s2.heap∧∀ b∈fp,H' b = none) E s1) E s
 done:∀ (X:Cx),X.prog = P→X.w = w→X.K = K→X.calm = true→∀ (i:Nat) (pins:List (Addr×Obj)) (s:Shared) (σ:St) (H:Hp) (E:Value→Shared→Prop),Inv X pins σ H s→(∀ b∈fp,FpOk X pins H b)→tn i s.heap→J.stop i H →
  wpAny (model P w) X.A (pyNext (.ref it)) (fun r s1=>r = none∧Inv X pins σ H s1) E s
 self:∀ (A:Around) (i:Nat) (s:Shared) (Q:Value→Shared→Prop) (E:Value→Shared→Prop),tn i s.heap→Q (.ref it) s→wpAny (model P w) A (pyIter (.ref it)) Q E s
noncomputable abbrev TI:=St→Hp→(It→Hp→Prop)→Prop
noncomputable def PIE (X:Cx) (pins:List (Addr×Obj)) (σ:St) (tg:Expr) (R:It→Hp→Prop) (itv:Value) (s2:Shared):Prop :=
 ∃ (it:Addr) (fp:List Addr) (tn:Nat→Heap→Prop) (J:It) (H':Hp),itv = .ref it∧Inv X pins σ H' s2∧Turn X.prog X.w X.K tg J fp it tn∧tn 0 s2.heap∧(∀ b∈fp,FpOk X pins H' b)∧R J H'
noncomputable def PI (X:Cx) (tg iter:Expr) (wi:TI):Prop :=
 ∀ (pins:List (Addr×Obj)) (s:Shared) (σ:St) (H:Hp) (R:It→Hp→Prop),Inv X pins σ H s→wi σ H R →
  wpAny (model X.prog X.w) X.A (eval iter X.env) (fun v s1=>wpAny (model X.prog X.w) X.A (pyIter v) (PIE X pins σ tg R) X.xe s1) X.xe s

theorem go_of {M : Model} {A : Around} {E : Value → Shared → Prop} {s : Shared} {tg : Expr} {it : Addr} {u : Value} {o : Obj} {n : String} {vs : Array Value} {Q : Unit → Shared → Prop} (ho : s.heap.get? it = some o) (hc : o.cls = .type n) (hd : o.data = .fields vs)
    (hn : ["enumerate", "zip", "dict_itemiterator", "dict_reverseitemiterator", "odict_iterator", "itertools.zip_longest", "itertools.pairwise"].contains n = false) (hQ : Q () s) : wpAny M A (letOwnedTupleGo tg (.ref it) u) Q E s := by
  unfold letOwnedTupleGo
  cases tg <;> first
    | exact wpAny_pure hQ
    | (cases u <;> first
        | exact wpAny_pure hQ
        | (refine wpAny_bind (wpAny_load ho ?_)
           rw [hc, hd]
           show wpAny M A (if (["enumerate", "zip", "dict_itemiterator", "dict_reverseitemiterator", "odict_iterator", "itertools.zip_longest", "itertools.pairwise"].contains n && vs[0]? == some (rawInt _)) = true then _ else _) Q E s
           rw [if_neg (by intro h; rw [hn, Bool.false_and] at h; cases h)]
           exact wpAny_pure hQ))

noncomputable def Itl (K:PySem.W.Frag) (a:Addr):It :=
 ⟨fun i H=>∃ xs x,SqL K H a xs∧xs[i]? = some x,fun i H x H'=>H' = H∧∀ xs,SqL K H a xs→xs[i]? = some x,fun i H=>∃ xs,SqL K H a xs∧xs.length≤i⟩
noncomputable def Itt (K:PySem.W.Frag) (a:Addr):It :=
 ⟨fun i H=>∃ xs x,SqT K H a xs∧xs[i]? = some x,fun i H x H'=>H' = H∧∀ xs,SqT K H a xs→xs[i]? = some x,fun i H=>∃ xs,SqT K H a xs∧xs.length≤i⟩
noncomputable def Itr (lo:Int) (n:Nat):It:=⟨fun i _=>i < n,fun i H x H'=>H' = H∧x = .int (lo + i),fun i _=>n≤i⟩
theorem turn_list {P:Program} {w:World} {K:PySem.W.Frag} {tg:Expr} (a it:Addr):Turn P w K tg (Itl K a) [it] it (fun i h=>h.IsListIter it a i) where
 mem:=by simp
 obj:=fun i h st b hb=>by
  have e:b = it:=by simpa using hb
  subst e
  obtain ⟨o,e,c,d⟩:=st
  exact ⟨o,e,fun v z=>by rw [d] at z;cases z⟩
 keep:=fun i h h' st k=>st.at fun o e=>k it (by simp) o e
 item:=by
  intro X hP hw hK hc i pins s σ H E I hf st hg
  subst hP hw hK
  obtain ⟨xs,x,hq,hx⟩:=hg
  obtain ⟨its,rv,p,hz⟩:=I.list hq
  obtain ⟨u,hu,ru⟩:=rv.get hx
  obtain ⟨f0,f1,f2,f3,f4,f5⟩:=hf it (by simp)
  refine wpAny_pyNext_list_item st p.isList (x:=u) (by simpa using hu) fun h' st' sb=>?_
  have I1:Inv X pins σ H { s with heap:=h' }:=I.turned (t':=s.toks) (fun b o hb e=>(sb.2 b hb).trans e) f0 f1 f3 f4 f5
  obtain ⟨o,e,c,d⟩:=id st'
  exact ⟨u,rfl,go_of (s:={ s with heap:=h' }) e c d (by decide) ⟨x,H,I1,ru,⟨rfl,fun ys hy=>by rw [I.list_inj hy hq];exact hx⟩,st',fun b hb=>(hf b hb).1⟩⟩
 done:=by
  intro X hP hw hK hc i pins s σ H E I hf st hg
  subst hP hw hK
  obtain ⟨xs,hq,hx⟩:=hg
  obtain ⟨its,rv,p,hz⟩:=I.list hq
  obtain ⟨f0,f1,f2,f3,f4,f5⟩:=hf it (by simp)
  have hl:=rv.length
  exact wpAny_pyNext_list_end (I.ok.hd hc) st p.isList (by simp;omega) fun h' eb=>⟨rfl,I.turned (t':=s.toks) (fun b o hb e=>eb b o hb e) f0 f1 f3 f4 f5⟩
 self:=fun _ _ _ _ _ st h=>wpAny_pyIter_listiter st h
theorem turn_tuple {P:Program} {w:World} {K:PySem.W.Frag} {tg:Expr} (a it:Addr):Turn P w K tg (Itt K a) [it] it (fun i h=>h.IsTupleIter it a i) where
 mem:=by simp
 obj:=fun i h st b hb=>by
  have e:b = it:=by simpa using hb
  subst e
  obtain ⟨o,e,c,d⟩:=st
  exact ⟨o,e,fun v z=>by rw [d] at z;cases z⟩
 keep:=fun i h h' st k=>st.at fun o e=>k it (by simp) o e
 item:=by
  intro X hP hw hK hc i pins s σ H E I hf st hg
  subst hP hw hK
  obtain ⟨xs,x,hq,hx⟩:=hg
  obtain ⟨its,rv,p,hz⟩:=I.tuple hq
  obtain ⟨u,hu,ru⟩:=rv.get hx
  obtain ⟨f0,f1,f2,f3,f4,f5⟩:=hf it (by simp)
  refine wpAny_pyNext_tuple_item st (show s.heap.IsTuple a its.toArray from p) (x:=u) (by simpa using hu) fun h' st' sb=>?_
  have I1:Inv X pins σ H { s with heap:=h' }:=I.turned (t':=s.toks) (fun b o hb e=>(sb.2 b hb).trans e) f0 f1 f3 f4 f5
  obtain ⟨o,e,c,d⟩:=id st'
  exact ⟨u,rfl,go_of (s:={ s with heap:=h' }) e c d (by decide) ⟨x,H,I1,ru,⟨rfl,fun ys hy=>by rw [I.tuple_inj hy hq];exact hx⟩,st',fun b hb=>(hf b hb).1⟩⟩
 done:=by
  intro X hP hw hK hc i pins s σ H E I hf st hg
  subst hP hw hK
  obtain ⟨xs,hq,hx⟩:=hg
  obtain ⟨its,rv,p,hz⟩:=I.tuple hq
  obtain ⟨f0,f1,f2,f3,f4,f5⟩:=hf it (by simp)
  have hl:=rv.length
  exact wpAny_pyNext_tuple_end (I.ok.hd hc) st (show s.heap.IsTuple a its.toArray from p) (by simp;omega) fun h' eb=>⟨rfl,I.turned (t':=s.toks) (fun b o hb e=>eb b o hb e) f0 f1 f3 f4 f5⟩
 self:=fun _ _ _ _ _ st h=>wpAny_pyIter_tupleiter st h
theorem turn_range {P:Program} {w:World} {K:PySem.W.Frag} {tg:Expr} (it:Addr) (lo:Int) (n:Nat):Turn P w K tg (Itr lo n) [it] it (fun i h=>IsRangeIter h it (lo + (i:Nat) * 1) ((n:Int) - (i:Nat)) 1) where
 mem:=by simp
 obj:=fun i h st b hb=>by
  have e:b = it:=by simpa using hb
  subst e
  exact ⟨_,st,fun v z=>by
   have z':Data.fields _ = Data.cell v:=z
   cases z'⟩
 keep:=fun i h h' st k=>k it (by simp) _ st
 item:=by
  intro X hP hw hK hc i pins s σ H E I hf st hg
  subst hP hw hK
  obtain ⟨f0,f1,f2,f3,f4,f5⟩:=hf it (by simp)
  have W:=Walks.range (prog:=X.prog) (w:=X.w) (I.ok.hd hc) it lo 1 n
  refine W.item i s _ _ hg st fun v h' tk hv st' kk=>?_
  obtain ⟨t,rfl⟩:=hv
  have I1:Inv X pins σ H { s with heap:=h',toks:=tk }:=I.turned (fun b o hb e=>kk b o (by simpa using hb) e) f0 f1 f3 f4 f5
  refine ⟨_,rfl,go_of (s:={ s with heap:=h',toks:=tk }) (n:="range_iterator") st' rfl rfl (by decide) ⟨.int (lo + i),H,I1,⟨t,?_⟩,⟨rfl,rfl⟩,st',fun b hb=>(hf b hb).1⟩⟩
  rw [Int.mul_one]
 done:=by
  intro X hP hw hK hc i pins s σ H E I hf st hg
  subst hP hw hK
  obtain ⟨f0,f1,f2,f3,f4,f5⟩:=hf it (by simp)
  exact wpAny_pyNext_range_end (I.ok.hd hc) st (by have:n≤i:=hg;omega) fun h' eb=>⟨rfl,I.turned (t':=s.toks) (fun b o hb e=>eb b o hb e) f0 f1 f3 f4 f5⟩
 self:=fun _ _ _ _ _ st h=>wpAny_pyIter_rangeiter st h
end L2

namespace L2
open PySem PySem.Spec PyProof.Rows
section
variable {X:Cx} {tg:Expr}
noncomputable def iList (K:PySem.W.Frag) (tl:TE):TI:=fun σ H R=>tl σ H fun x H1=>∃ a,x = .ref a∧(∃ xs,SqL K H1 a xs)∧R (Itl K a) H1
noncomputable def iTup (K:PySem.W.Frag) (tl:TE):TI:=fun σ H R=>tl σ H fun x H1=>∃ a,x = .ref a∧(∃ xs,SqT K H1 a xs)∧R (Itt K a) H1
theorem pi_list {l:Expr} {tl:TE} (hl:PE X l tl):PI X tg l (iList X.K tl):=by
 intro pins s σ H R I h
 refine thn (hl pins s σ H _ I h) fun v s1 ⟨x,H1,I1,r1,q1⟩=>?_
 obtain ⟨a,e,⟨xs,hq⟩,q⟩:=q1
 subst e
 cases r1
 obtain ⟨its,rv,p,hz⟩:=I1.list hq
 refine wpAny_pyIter_list p.isList ?_
 refine ⟨s1.heap.objs.size,[s1.heap.objs.size],_,_,H1,rfl,I1.kept (t':=s1.toks) fun b o e=>Heap.get?_push_of_some _ e,turn_list a _,⟨_,Heap.get?_push_size _ rfl,rfl,rfl⟩,fun b hb=>?_,q⟩
 have e:b = s1.heap.objs.size:=by simpa using hb
 subst e
 exact I1.fpOk (Nat.le_refl _) (I1.hok.fresh (Nat.le_refl _))
theorem pi_tup {l:Expr} {tl:TE} (hl:PE X l tl):PI X tg l (iTup X.K tl):=by
 intro pins s σ H R I h
 refine thn (hl pins s σ H _ I h) fun v s1 ⟨x,H1,I1,r1,q1⟩=>?_
 obtain ⟨a,e,⟨xs,hq⟩,q⟩:=q1
 subst e
 cases r1
 obtain ⟨its,rv,p,hz⟩:=I1.tuple hq
 refine wpAny_pyIter_tuple (show s1.heap.IsTuple a its.toArray from p) ?_
 refine ⟨s1.heap.objs.size,[s1.heap.objs.size],_,_,H1,rfl,I1.kept (t':=s1.toks) fun b o e=>Heap.get?_push_of_some _ e,turn_tuple a _,⟨_,Heap.get?_push_size _ rfl,rfl,rfl⟩,fun b hb=>?_,q⟩
 have e:b = s1.heap.objs.size:=by simpa using hb
 subst e
 exact I1.fpOk (Nat.le_refl _) (I1.hok.fresh (Nat.le_refl _))
theorem range_it {pins:List (Addr×Obj)} {σ:St} {H:Hp} {s:Shared} {R:It→Hp→Prop} {E:Value→Shared→Prop} {lo hi:Int} {t u v:Tok} {tk:Nat} (I:Inv X pins σ H s) (h1:-(2 ^ 62)≤lo) (h2:lo < 2 ^ 62) (h3:-(2 ^ 62)≤hi) (h4:hi < 2 ^ 62)
  (q:R (Itr lo (hi - lo).toNat) H):wpAny (model X.prog X.w) X.A (pyIter (.ref s.heap.objs.size)) (PIE X pins σ tg R) E { s with heap:=s.heap.push { cls:=.type "range",data:=.fields #[.int lo t,.int hi u,.int 1 v] },toks:=tk }:=by
 refine wpAny_pyIter_range (IsRange.new ..) (small_one h1 h2 h3 h4) ?_
 have I1:Inv X pins σ H { s with heap:=s.heap.push { cls:=.type "range",data:=.fields #[.int lo t,.int hi u,.int 1 v] },toks:=tk }:=I.kept fun b o e=>Heap.get?_push_of_some _ e
 refine ⟨(s.heap.push { cls:=.type "range",data:=.fields #[.int lo t,.int hi u,.int 1 v] }).objs.size,[(s.heap.push { cls:=.type "range",data:=.fields #[.int lo t,.int hi u,.int 1 v] }).objs.size],_,_,H,rfl,
  I1.kept (t':=tk) fun b o e=>Heap.get?_push_of_some _ e,turn_range _ lo (hi - lo).toNat,?_,fun b hb=>?_,q⟩
 ·have e1:lo + ((0:Nat):Int) * 1 = lo:=by simp
  have e2:(((hi - lo).toNat:Nat):Int) - ((0:Nat):Int) = Builtin.Range.rangeSize lo hi 1:=by rw [rangeSize_one];split <;> omega
  show IsRangeIter _ _ (lo + ((0:Nat):Int) * 1) ((((hi - lo).toNat:Nat):Int) - ((0:Nat):Int)) 1
  rw [e1,e2]
  exact Heap.get?_push_size _ rfl
 ·have e:b = (s.heap.push { cls:=.type "range",data:=.fields #[.int lo t,.int hi u,.int 1 v] }).objs.size:=by simpa using hb
  subst e
  exact I1.fpOk (Nat.le_refl _) (I1.hok.fresh (Nat.le_refl _))
noncomputable def iRng1 (ta:TA):TI:=fun σ H R=>ta σ H fun vs H1=>∃ j:Int,vs = [.int j]∧-(2 ^ 62)≤j∧j < 2 ^ 62∧R (Itr 0 j.toNat) H1
noncomputable def iRng2 (ta:TA):TI:=fun σ H R=>ta σ H fun vs H1=>∃ i j:Int,vs = [.int i,.int j]∧(-(2 ^ 62)≤i∧i < 2 ^ 62∧-(2 ^ 62)≤j∧j < 2 ^ 62)∧R (Itr i (j - i).toNat) H1
theorem pi_range1 {a:Expr} {ta:TA} {p pos:Pos} (hg:Gl X "range") (hm:X.mg "range" = none) (ha:PA X [a] ta) (hs:starEach [a] X.env = [(false,eval a X.env)]:=by rfl):PI X tg (.Call (.Name "range" p) [a] [] pos) (iRng1 ta):=by
 intro pins s σ H R I h
 refine Call_ (ld_blt I hg hm boot_range (PyProof.Rows.callWith_type1 (thn (ha pos pins s σ H _ I h) fun us s1 ⟨vs,H1,I1,r1,q1⟩=>?_) hs rfl))
 obtain ⟨j,e,q1,q2,q⟩:=q1
 subst e
 cases r1 with
 | cons r rr =>
  cases rr
  obtain ⟨t,rfl⟩:=r
  exact call_range_1 (range_it I1 (by omega) (by omega) q1 q2 (by simpa using q))
theorem pi_range2 {a b:Expr} {ta:TA} {p pos:Pos} (hg:Gl X "range") (hm:X.mg "range" = none) (ha:PA X [a,b] ta) (hs:starEach [a,b] X.env = [(false,eval a X.env),(false,eval b X.env)]:=by rfl) (hs2:starEach [b] X.env = [(false,eval b X.env)]:=by rfl) :
  PI X tg (.Call (.Name "range" p) [a,b] [] pos) (iRng2 ta):=by
 intro pins s σ H R I h
 refine Call_ (ld_blt I hg hm boot_range (PyProof.Rows.callWith_type1 (thn (ha pos pins s σ H _ I h) fun us s1 ⟨vs,H1,I1,r1,q1⟩=>?_) (by rw [hs,hs2]) (by rw [hs2];rfl)))
 obtain ⟨i,j,e,⟨q1,q2,q3,q4⟩,q⟩:=q1
 subst e
 cases r1 with
 | cons r rr =>
  cases rr with
  | cons r' rr =>
   cases rr
   obtain ⟨t,rfl⟩:=r
   obtain ⟨t',rfl⟩:=r'
   exact call_range_2 (range_it I1 q1 q2 q3 q4 q)

noncomputable def tFor (wi:TI) (g:TG) (tb:TS):TS:=fun D σ H=>wi σ H fun J H1=>∃ W:Nat→Nat→St→Hp→Prop,(∃ m,W 0 m σ H1)∧∀ i m σ H,W i m σ H →
 (J.stop i H∧D.nx σ H)∨(J.go i H∧∃ N:St→Hp→Prop,(∀ σ' H',N σ' H'→∃ m',m' < m∧W (i + 1) m' σ' H')∧∀ x H',J.yld i H x H'→g x σ H' fun σ2 H2=>tb { D with nx:=N,ct:=N,bk:=D.nx } σ2 H2)
noncomputable def pinsAt (fp:List Addr) (h:Heap):List (Addr×Obj):=fp.filterMap fun b=>(h.get? b).map fun o=>(b,o)
theorem mem_pinsAt {fp:List Addr} {h:Heap} {b:Addr} {o:Obj} (hb:b∈fp) (e:h.get? b = some o):(b,o)∈pinsAt fp h:=List.mem_filterMap.mpr ⟨b,hb,by rw [e];rfl⟩
theorem of_pinsAt {fp:List Addr} {h:Heap} {p:Addr×Obj} (hp:p∈pinsAt fp h):p.1∈fp∧h.get? p.1 = some p.2:=by
 obtain ⟨b,hb,e⟩:=List.mem_filterMap.mp hp
 cases q:h.get? b with
 | none=>rw [q] at e;cases e
 | some o =>
  rw [q] at e
  have e':(b,o) = p:=Option.some.inj e
  subst e'
  exact ⟨hb,q⟩
theorem Inv.pinned {pins:List (Addr×Obj)} {σ:St} {H:Hp} {s:Shared} {fp:List Addr} (I:Inv X pins σ H s) (hf:∀ b∈fp,FpOk X pins H b) (ho:∀ b∈fp,∃ o,s.heap.get? b = some o∧∀ v,o.data≠.cell v):Inv X (pins ++ pinsAt fp s.heap) σ H s :=
 I.pins_of fun p hp=>(List.mem_append.mp hp).elim (fun z=>I.pin p (List.mem_append_right _ z)) fun z=>by
  obtain ⟨hb,e⟩:=of_pinsAt z
  obtain ⟨f0,f1,f2,_⟩:=hf p.1 hb
  obtain ⟨o,e',d⟩:=ho p.1 hb
  rw [e] at e';cases e'
  exact ⟨e,f0,f1,f2,d⟩
theorem Inv.unpinned {pins pl:List (Addr×Obj)} {σ:St} {H:Hp} {s:Shared} (I:Inv X (pins ++ pl) σ H s):Inv X pins σ H s:=I.pins_of fun p hp=>I.pin p (List.mem_append_right _ (List.mem_append_left _ hp))
theorem ps_for {iter:Expr} {body:List Stmt} {wi:TI} {g:TG} {tb:TS} {pos:Pos} (hp:PassesOwn (model X.prog X.w) X.A X.env X.xe) (hc:X.calm = true) (hi:PI X tg iter wi) (hg:PG X tg g) (hb:PSs X body tb)
  (hs:∀ x,foldedSetIterable iter X.env x = pure x:=by intro _;rfl):PS X (.For tg iter body [] pos) (tFor wi g tb):=by
 intro pins s σ H D I h
 refine wpAny_For (thn (hi pins s σ H _ I h) fun v s1 h1=>thn h1 fun itv s2 h2=>?_) hs
 obtain ⟨it,fp,tn,J,H2,e,I2,T,st2,f2,W,⟨m0,w0⟩,turn⟩:=h2
 subst e
 have stat:∀ {H':Hp},(∀ b∈fp,H' b = none)→∀ b∈fp,FpOk X pins H' b:=fun hn b hb=>⟨hn b hb,(f2 b hb).2⟩
 refine codeAny_forLoop_any (fun n s'=>∃ i σ' H',Inv X pins σ' H' s'∧tn i s'.heap∧(∀ b∈fp,H' b = none)∧W i n σ' H') ?_ m0 ⟨0,σ,H2,I2,st2,fun b hb=>(f2 b hb).1,w0⟩
 rintro n s3 ⟨i,σ3,H3,I3,st3,fr3,w3⟩
 rcases turn i n σ3 H3 w3 with ⟨stop,qn⟩ | ⟨go,N,hN,step⟩
 ·refine wpAny_passesOwn hp (thn (T.done X rfl rfl rfl hc i pins s3 σ3 H3 X.xe I3 (stat fr3) st3 stop) fun r s4 ⟨hr,I4⟩=>?_)
  subst hr
  exact wpAny_execs_nil ⟨σ3,H3,I4,qn⟩
 ·refine wpAny_passesOwn hp (thn (T.item X rfl rfl rfl hc i pins s3 σ3 H3 X.xe I3 (stat fr3) st3 go) fun r s4 ⟨u,hr,h4⟩=>?_)
  subst hr
  refine wpAny_passesOwn hp (thn h4 fun _ s5 ⟨x,H5,I5,r5,y5,st5,fr5⟩=>?_)
  have I5':=I5.pinned (stat fr5) (T.obj _ _ st5)
  refine wpAny_passesOwn hp (thn (hg _ s5 σ3 H5 x u _ I5' r5 (step x H5 y5)) fun _ s6 ⟨σ6,H6,I6,q6⟩=>?_)
  refine wpAny_passesOwn hp (thn (hb _ s6 σ6 H6 _ I6 q6) fun f s7 q7=>?_)
  have again:∀ {σ7:St} {H7:Hp},Inv X (pins ++ pinsAt fp s5.heap) σ7 H7 s7→N σ7 H7→∃ m,m < n∧∃ i σ' H',Inv X pins σ' H' s7∧tn i s7.heap∧(∀ b∈fp,H' b = none)∧W i m σ' H':=fun {σ7 H7} I7 n7=>by
   obtain ⟨m',hm,w7⟩:=hN σ7 H7 n7
   refine ⟨m',hm,i + 1,σ7,H7,I7.unpinned,T.keep _ _ _ st5 fun b hb o e=>(I7.pin (b,o) (List.mem_append_right _ (List.mem_append_right _ (mem_pinsAt hb e)))).1,fun b hb=>?_,w7⟩
   obtain ⟨o,e,d⟩:=T.obj _ _ st5 b hb
   exact (I7.pin (b,o) (List.mem_append_right _ (List.mem_append_right _ (mem_pinsAt hb e)))).2.1
  cases f with
  | next=>obtain ⟨σ7,H7,I7,n7⟩:=q7;exact again I7 n7
  | cont=>obtain ⟨σ7,H7,I7,n7⟩:=q7;exact again I7 n7
  | brk=>obtain ⟨σ7,H7,I7,q7⟩:=q7;exact ⟨σ7,H7,I7.unpinned,q7⟩
  | ret v=>obtain ⟨x7,σ7,H7,I7,r7,q7⟩:=q7;exact ⟨x7,σ7,H7,I7.unpinned,r7,q7⟩
end

theorem for_list {K:PySem.W.Frag} {a:Addr} {xs:List V} {g:TG} {tb:TS} {D:Ends} {σ:St} {H:Hp} (Pv:Nat→St→Hp→Prop) (h0:Pv 0 σ H) (hl:∀ i σ H,i≤xs.length→Pv i σ H→SqL K H a xs)
  (hs:∀ i x σ H,xs[i]? = some x→Pv i σ H→g x σ H fun σ2 H2=>tb { D with nx:=Pv (i + 1),ct:=Pv (i + 1),bk:=D.nx } σ2 H2) (hd:∀ σ H,Pv xs.length σ H→D.nx σ H) :
  ∃ W:Nat→Nat→St→Hp→Prop,(∃ m,W 0 m σ H)∧∀ i m σ H,W i m σ H →
   ((Itl K a).stop i H∧D.nx σ H)∨((Itl K a).go i H∧∃ N:St→Hp→Prop,(∀ σ' H',N σ' H'→∃ m',m' < m∧W (i + 1) m' σ' H')∧∀ x H',(Itl K a).yld i H x H'→g x σ H' fun σ2 H2=>tb { D with nx:=N,ct:=N,bk:=D.nx } σ2 H2):=by
 refine ⟨fun i m σ H=>m = xs.length - i∧i≤xs.length∧Pv i σ H,⟨xs.length,by simp,Nat.zero_le _,h0⟩,?_⟩
 rintro i m σ H ⟨rfl,hi,p⟩
 have q:=hl i σ H hi p
 by_cases hlt:i < xs.length
 ·refine .inr ⟨⟨xs,xs[i],q,by simp [hlt]⟩,Pv (i + 1),fun σ' H' p'=>⟨xs.length - (i + 1),by omega,rfl,hlt,p'⟩,fun x H' y=>?_⟩
  obtain ⟨e,y⟩:=y
  subst e
  exact hs i x σ _ (y xs q) p
 ·have e:i = xs.length:=by omega
  subst e
  exact .inl ⟨⟨xs,q,Nat.le_refl _⟩,hd σ H p⟩
theorem for_range {lo:Int} {n:Nat} {g:TG} {tb:TS} {D:Ends} {σ:St} {H:Hp} (Pv:Nat→St→Hp→Prop) (h0:Pv 0 σ H)
  (hs:∀ i σ H,i < n→Pv i σ H→g (.int (lo + i)) σ H fun σ2 H2=>tb { D with nx:=Pv (i + 1),ct:=Pv (i + 1),bk:=D.nx } σ2 H2) (hd:∀ σ H,Pv n σ H→D.nx σ H) :
  ∃ W:Nat→Nat→St→Hp→Prop,(∃ m,W 0 m σ H)∧∀ i m σ H,W i m σ H →
   ((Itr lo n).stop i H∧D.nx σ H)∨((Itr lo n).go i H∧∃ N:St→Hp→Prop,(∀ σ' H',N σ' H'→∃ m',m' < m∧W (i + 1) m' σ' H')∧∀ x H',(Itr lo n).yld i H x H'→g x σ H' fun σ2 H2=>tb { D with nx:=N,ct:=N,bk:=D.nx } σ2 H2):=by
 refine ⟨fun i m σ H=>m = n - i∧i≤n∧Pv i σ H,⟨n,by simp,Nat.zero_le _,h0⟩,?_⟩
 rintro i m σ H ⟨rfl,hi,p⟩
 by_cases hlt:i < n
 ·refine .inr ⟨hlt,Pv (i + 1),fun σ' H' p'=>⟨n - (i + 1),by omega,rfl,hlt,p'⟩,fun x H' y=>?_⟩
  obtain ⟨e,y⟩:=y
  subst e y
  exact hs i σ _ hlt p
 ·have e:i = n:=by omega
  subst e
  exact .inl ⟨Nat.le_refl _,hd σ H p⟩
end L2

namespace L2
open PySem PySem.Spec PyProof.Rows

noncomputable abbrev R2:=V→V→Hp→VK→Prop
noncomputable def OpR (X:Cx) (f:Value→Value→Sem Value) (r:R2):Prop :=
 ∀ (pins:List (Addr×Obj)) (s:Shared) (σ:St) (H:Hp) (x y:V) (v u:Value) (Q:VK),Inv X pins σ H s→RelV x v→RelV y u→r x y H Q →
  wpAny (model X.prog X.w) X.A (f v u) (EP X pins σ Q) X.xe s
noncomputable def UnR (X:Cx) (f:Value→Sem Value) (r:V→Hp→VK→Prop):Prop :=
 ∀ (pins:List (Addr×Obj)) (s:Shared) (σ:St) (H:Hp) (x:V) (v:Value) (Q:VK),Inv X pins σ H s→RelV x v→r x H Q →
  wpAny (model X.prog X.w) X.A (f v) (EP X pins σ Q) X.xe s
noncomputable def CallR (X:Cx) (f:Value) (r:List V→Hp→VK→Prop):Prop :=
 ∀ (pins:List (Addr×Obj)) (s:Shared) (σ:St) (H:Hp) (xs:List V) (us:List Value) (Q:VK),Inv X pins σ H s→Vals xs us→r xs H Q →
  wpAny (model X.prog X.w) X.A (call f us) (EP X pins σ Q) X.xe s
noncomputable def tOp (r:R2) (ta tb:TE):TE:=fun σ H Q=>ta σ H fun x H1=>tb σ H1 fun y H2=>r x y H2 Q
noncomputable def tUn (r:V→Hp→VK→Prop) (ta:TE):TE:=fun σ H Q=>ta σ H fun x H1=>r x H1 Q
noncomputable def rI (C:Int→Int→Prop) (g:Int→Int→V):R2:=fun x y H Q=>∃ i j,x = .int i∧y = .int j∧C i j∧Q (g i j) H
noncomputable def rI0 (g:Int→Int→V):R2:=fun x y H Q=>∃ i j,x = .int i∧y = .int j∧Q (g i j) H
noncomputable def rU (g:Int→V):V→Hp→VK→Prop:=fun x H Q=>∃ i,x = .int i∧Q (g i) H

section
variable {X:Cx} {a b c:Expr} {ta tb tc:TE} {pos:Pos}

theorem binT (ha:PE X a ta) (hb:PE X b tb) {pins:List (Addr×Obj)} {s:Shared} {σ:St} {H:Hp} {R:V→V→Hp→Prop} (I:Inv X pins σ H s)
  (h:ta σ H fun x H1=>tb σ H1 fun y H2=>R x y H2) {Q:Value→Shared→Prop} {f:Value→Value→Sem Value}
  (hf:∀ v u s2 x y H2,Inv X pins σ H2 s2→RelV x v→RelV y u→R x y H2→wpAny (model X.prog X.w) X.A (f v u) Q X.xe s2) :
  wpAny (model X.prog X.w) X.A (eval a X.env) (fun v s₁=>wpAny (model X.prog X.w) X.A (eval b X.env) (fun u s₂=>wpAny (model X.prog X.w) X.A (f v u) Q X.xe s₂) X.xe s₁) X.xe s:=by
 refine thn (ha pins s σ H _ I h) fun v s1 ⟨x,H1,I1,r1,q1⟩=>?_
 refine thn (hb pins s1 σ H1 _ I1 q1) fun u s2 ⟨y,H2,I2,r2,q2⟩=>?_
 exact hf v u s2 x y H2 I2 r1 r2 q2

theorem pe_op {op:Operator} {r:R2} (ho:OpR X (binaryOp op) r) (ha:PE X a ta) (hb:PE X b tb):PE X (.BinOp a op b pos) (tOp r ta tb):=by
 intro pins s σ H Q I h
 exact wpAny_BinOp (binT ha hb I h fun v u s2 x y H2 I2 rx ry q=>ho pins s2 σ H2 x y v u Q I2 rx ry q)
theorem pe_un {op:UnaryOp} {r:V→Hp→VK→Prop} (ho:UnR X (unaryOp op) r) (ha:PE X a ta):PE X (.UnaryOp op a pos) (tUn r ta):=by
 intro pins s σ H Q I h
 exact UnaryOp_ (thn (ha pins s σ H _ I h) fun v s1 ⟨x,H1,I1,r1,q1⟩=>ho pins s1 σ H1 x v Q I1 r1 q1)
theorem opI {f:Value→Value→Sem Value} {C:Int→Int→Prop} {g:Int→Int→Int}
  (rule:∀ (i j:Int) (t u:Tok) (s:Shared) (Q:Value→Shared→Prop) (E:Value→Shared→Prop),C i j→Q (.int (g i j) s.toks) { s with toks:=s.toks + 1 }→wpAny (model X.prog X.w) X.A (f (.int i t) (.int j u)) Q E s) :
  OpR X f (rI C fun i j=>.int (g i j)):=by
 intro pins s σ H x y v u Q I rx ry h
 obtain ⟨i,j,rfl,rfl,hc,q⟩:=h
 obtain ⟨t,rfl⟩:=rx
 obtain ⟨t',rfl⟩:=ry
 exact rule i j t t' s _ _ hc ⟨.int (g i j),H,I.tok _,⟨_,rfl⟩,q⟩
theorem opI0 {f:Value→Value→Sem Value} {g:Int→Int→Int}
  (rule:∀ (i j:Int) (t u:Tok) (s:Shared) (Q:Value→Shared→Prop) (E:Value→Shared→Prop),Q (.int (g i j) s.toks) { s with toks:=s.toks + 1 }→wpAny (model X.prog X.w) X.A (f (.int i t) (.int j u)) Q E s) :
  OpR X f (rI0 fun i j=>.int (g i j)):=by
 intro pins s σ H x y v u Q I rx ry h
 obtain ⟨i,j,rfl,rfl,q⟩:=h
 obtain ⟨t,rfl⟩:=rx
 obtain ⟨t',rfl⟩:=ry
 exact rule i j t t' s _ _ ⟨.int (g i j),H,I.tok _,⟨_,rfl⟩,q⟩
theorem opB0 {f:Value→Value→Sem Value} {g:Int→Int→Bool}
  (rule:∀ (i j:Int) (t u:Tok) (s:Shared) (Q:Value→Shared→Prop) (E:Value→Shared→Prop),Q (.bool (g i j)) s→wpAny (model X.prog X.w) X.A (f (.int i t) (.int j u)) Q E s) :
  OpR X f (rI0 fun i j=>.bl (g i j)):=by
 intro pins s σ H x y v u Q I rx ry h
 obtain ⟨i,j,rfl,rfl,q⟩:=h
 obtain ⟨t,rfl⟩:=rx
 obtain ⟨t',rfl⟩:=ry
 exact rule i j t t' s _ _ ⟨.bl (g i j),H,I,rfl,q⟩

noncomputable def CDiv (i j:Int):Prop:=0 < j∧j < 1073741824
noncomputable def CPow (i j:Int):Prop:=0≤j∧j≤1000000∧i.natAbs < 2 ^ 64
noncomputable def CMul (i j:Int):Prop:=(-(2 ^ 64) < i∧i < 2 ^ 64)∨(-(2 ^ 64) < j∧j < 2 ^ 64)
theorem CMul.ok {i j:Int} (h:CMul i j):IntMulOk i j:=by
 rcases h with ⟨h1,h2⟩ | ⟨h1,h2⟩
 ·exact .of_left (intBits_le_64 h1 h2)
 ·exact .of_right (intBits_le_64 h1 h2)
theorem op_add:OpR X (binaryOp .Add) (rI0 fun i j=>.int (i + j)):=opI0 fun _ _ _ _ _ _ _ q=>add_int q
theorem op_sub:OpR X (binaryOp .Sub) (rI0 fun i j=>.int (i - j)):=opI0 fun _ _ _ _ _ _ _ q=>sub_int q
theorem op_mul:OpR X (binaryOp .Mult) (rI CMul fun i j=>.int (i * j)):=opI fun _ _ _ _ _ _ _ hc q=>mul_int q hc.ok
theorem op_fdiv:OpR X (binaryOp .FloorDiv) (rI CDiv fun i j=>.int (i / j)):=opI fun i j _ _ _ _ _ hc q=>by
 have h1:(0:Int) < j:=hc.1
 have h2:j < 1073741824:=hc.2
 exact floordiv_int (by omega) (by rw [Int.fdiv_eq_ediv_of_nonneg i (by omega)];exact q) (.inl (PyProof.noPylong_small (by omega)))
theorem op_mod:OpR X (binaryOp .Mod) (rI (fun _ j=>0 < j) fun i j=>.int (i % j)):=opI fun i j _ _ _ _ _ hc q=>by
 have h1:(0:Int) < j:=hc
 exact mod_int' (by omega) (by rw [Int.fmod_eq_emod_of_nonneg i (by omega)];exact q)
theorem op_pow:OpR X (binaryOp .Pow) (rI CPow fun i j=>.int (i ^ j.toNat)):=opI fun _ _ _ _ _ _ _ hc q=>pow_int_small hc.1 hc.2.1 hc.2.2 q
theorem iop_sub:OpR X (inplaceOp .Sub) (rI0 fun i j=>.int (i - j)):=opI0 fun _ _ _ _ _ _ _ q=>isub_int q
theorem unI {f:Value→Sem Value} {g:Int→Int}
  (rule:∀ (i:Int) (t:Tok) (s:Shared) (Q:Value→Shared→Prop) (E:Value→Shared→Prop),Q (.int (g i) s.toks) { s with toks:=s.toks + 1 }→wpAny (model X.prog X.w) X.A (f (.int i t)) Q E s) :
  UnR X f (rU fun i=>.int (g i)):=by
 intro pins s σ H x v Q I rx h
 obtain ⟨i,rfl,q⟩:=h
 obtain ⟨t,rfl⟩:=rx
 exact rule i t s _ _ ⟨.int (g i),H,I.tok _,⟨_,rfl⟩,q⟩
theorem un_neg:UnR X (unaryOp .USub) (rU fun i=>.int (-i)):=unI fun _ _ _ _ _ q=>neg_int q
end

noncomputable def scal:V→V→Bool
 | .non,.non=>true | .non,.int _=>true | .int _,.non=>true | .non,.bl _=>true | .bl _,.non=>true | .non,.str _=>true | .str _,.non=>true
 | .int _,.int _=>true | .bl _,.bl _=>true | .str _,.str _=>true | .byt _,.byt _=>true
 | .int _,.str _=>true | .str _,.int _=>true | .bl _,.str _=>true | .str _,.bl _=>true
 | _,_=>false
noncomputable def rEq:R2:=fun x y H Q=>scal x y = true∧Q (.bl (decide (x = y))) H
noncomputable def rNe:R2:=fun x y H Q=>scal x y = true∧Q (.bl (!decide (x = y))) H

theorem dec_int {i j:Int}:decide (V.int i = V.int j) = (i == j):=by
 rw [Bool.eq_iff_iff]
 simp
theorem dec_bl {i j:Bool}:decide (V.bl i = V.bl j) = (i == j):=by
 rw [Bool.eq_iff_iff]
 simp
theorem dec_str {i j:Str}:decide (V.str i = V.str j) = (i == j):=by
 rw [Bool.eq_iff_iff]
 simp
theorem dec_byt {i j:Array UInt8}:decide (V.byt i = V.byt j) = (i.toList == j.toList):=by
 rw [Bool.eq_iff_iff]
 cases i
 cases j
 simp

section
variable {X:Cx} {a b c:Expr} {ta tb tc:TE} {pos:Pos}
theorem fin_bl {pins:List (Addr×Obj)} {σ:St} {H:Hp} {s:Shared} {Q:VK} {k k':Bool} (I:Inv X pins σ H s) (q:Q (.bl k) H) (e:k = k'):EP X pins σ Q (.bool k') s:=by
 subst e
 exact ⟨.bl k,H,I,rfl,q⟩
theorem op_eq:OpR X (compareOp .Eq) rEq:=by
 intro pins s σ H x y v u Q I rx ry h
 obtain ⟨hs,q⟩:=h
 cases x with
 | non =>
  cases rx
  cases y with
  | non=>cases ry;exact PySem.EqNone.eq_none_none (fin_bl I q (by simp))
  | bl j=>cases ry;exact PySem.EqNone.eq_none_bool (fin_bl I q (by simp))
  | int j=>obtain ⟨t',rfl⟩:=ry;exact PySem.EqNone.eq_none_int (fin_bl I q (by simp))
  | str j=>obtain ⟨t',rfl⟩:=ry;exact PySem.EqNone.eq_none_str (fin_bl I q (by simp))
  | _=>exact absurd (show false = true from hs) Bool.false_ne_true
 | bl i =>
  cases rx
  cases y with
  | non=>cases ry;exact PySem.EqNone.eq_bool_none (fin_bl I q (by simp))
  | bl j=>cases ry;exact eq_bool (fin_bl I q dec_bl)
  | str j=>obtain ⟨t',rfl⟩:=ry;exact PySem.EqMixed.eq_bool_str (fin_bl I q (by simp))
  | _=>exact absurd (show false = true from hs) Bool.false_ne_true
 | int i =>
  obtain ⟨t,rfl⟩:=rx
  cases y with
  | non=>cases ry;exact PySem.EqNone.eq_int_none (fin_bl I q (by simp))
  | int j=>obtain ⟨t',rfl⟩:=ry;exact eq_int (fin_bl I q dec_int)
  | str j=>obtain ⟨t',rfl⟩:=ry;exact PySem.EqMixed.eq_int_str (fin_bl I q (by simp))
  | _=>exact absurd (show false = true from hs) Bool.false_ne_true
 | str i =>
  obtain ⟨t,rfl⟩:=rx
  cases y with
  | non=>cases ry;exact PySem.EqNone.eq_str_none (fin_bl I q (by simp))
  | bl j=>cases ry;exact PySem.EqMixed.eq_str_bool (fin_bl I q (by simp))
  | int j=>obtain ⟨t',rfl⟩:=ry;exact PySem.EqMixed.eq_str_int (fin_bl I q (by simp))
  | str j=>obtain ⟨t',rfl⟩:=ry;exact eq_str (fin_bl I q dec_str)
  | _=>exact absurd (show false = true from hs) Bool.false_ne_true
 | byt i =>
  obtain ⟨t,rfl⟩:=rx
  cases y with
  | byt j=>obtain ⟨t',rfl⟩:=ry;exact PySem.W.eq_bytes (fin_bl I q dec_byt)
  | _=>exact absurd (show false = true from hs) Bool.false_ne_true
 | _=>cases y <;> exact absurd (show false = true from hs) Bool.false_ne_true
theorem op_ne:OpR X (compareOp .NotEq) rNe:=by
 intro pins s σ H x y v u Q I rx ry h
 obtain ⟨hs,q⟩:=h
 cases x with
 | non =>
  cases rx
  cases y with
  | non=>cases ry;exact PySem.EqNone.ne_none_none (fin_bl I q (by simp))
  | bl j=>cases ry;exact PySem.EqNone.ne_none_bool (fin_bl I q (by simp))
  | int j=>obtain ⟨t',rfl⟩:=ry;exact PySem.EqNone.ne_none_int (fin_bl I q (by simp))
  | str j=>obtain ⟨t',rfl⟩:=ry;exact PySem.EqNone.ne_none_str (fin_bl I q (by simp))
  | _=>exact absurd (show false = true from hs) Bool.false_ne_true
 | bl i =>
  cases rx
  cases y with
  | non=>cases ry;exact PySem.EqNone.ne_bool_none (fin_bl I q (by simp))
  | bl j=>cases ry;exact ne_bool (fin_bl I q (congrArg not dec_bl))
  | str j=>obtain ⟨t',rfl⟩:=ry;exact PySem.EqMixed.ne_bool_str (fin_bl I q (by simp))
  | _=>exact absurd (show false = true from hs) Bool.false_ne_true
 | int i =>
  obtain ⟨t,rfl⟩:=rx
  cases y with
  | non=>cases ry;exact PySem.EqNone.ne_int_none (fin_bl I q (by simp))
  | int j=>obtain ⟨t',rfl⟩:=ry;exact ne_int (fin_bl I q (congrArg not dec_int))
  | str j=>obtain ⟨t',rfl⟩:=ry;exact PySem.EqMixed.ne_int_str (fin_bl I q (by simp))
  | _=>exact absurd (show false = true from hs) Bool.false_ne_true
 | str i =>
  obtain ⟨t,rfl⟩:=rx
  cases y with
  | non=>cases ry;exact PySem.EqNone.ne_str_none (fin_bl I q (by simp))
  | bl j=>cases ry;exact PySem.EqMixed.ne_str_bool (fin_bl I q (by simp))
  | int j=>obtain ⟨t',rfl⟩:=ry;exact PySem.EqMixed.ne_str_int (fin_bl I q (by simp))
  | str j=>obtain ⟨t',rfl⟩:=ry;exact ne_str (fin_bl I q (congrArg not dec_str))
  | _=>exact absurd (show false = true from hs) Bool.false_ne_true
 | byt i =>
  obtain ⟨t,rfl⟩:=rx
  cases y with
  | byt j=>obtain ⟨t',rfl⟩:=ry;exact PySem.W.ne_bytes (fin_bl I q (congrArg not dec_byt))
  | _=>exact absurd (show false = true from hs) Bool.false_ne_true
 | _=>cases y <;> exact absurd (show false = true from hs) Bool.false_ne_true

theorem op_lt:OpR X (compareOp .Lt) (rI0 fun i j=>.bl (decide (i < j))):=opB0 fun _ _ _ _ _ _ _ q=>lt_int q
theorem op_le:OpR X (compareOp .LtE) (rI0 fun i j=>.bl (decide (i≤j))):=opB0 fun _ _ _ _ _ _ _ q=>le_int q
theorem op_gt:OpR X (compareOp .Gt) (rI0 fun i j=>.bl (decide (j < i))):=opB0 fun _ _ _ _ _ _ _ q=>gt_int q
theorem op_notN:OpR X (compareOp .IsNot) (fun x y H Q=>y = .non∧Q (.bl (!decide (x = .non))) H):=by
 intro pins s σ H x y v u Q I rx ry h
 obtain ⟨rfl,q⟩:=h
 cases ry
 refine isnot_none_gen (fin_bl I q ?_)
 cases x <;> first
  | (cases rx;rfl)
  | (obtain ⟨t,rfl⟩:=rx;rfl)

theorem nomark (b:Expr) {op:CmpOp} (h:op≠.In:=by decide) (h2:op≠.NotIn:=by decide):behindInMarks op b = false:=by
 have e1:(op == CmpOp.In) = false:=by cases op <;> first | rfl | exact absurd rfl h
 have e2:(op == CmpOp.NotIn) = false:=by cases op <;> first | rfl | exact absurd rfl h2
 cases b <;> simp [behindInMarks,e1,e2]
theorem pe_cmpR {op:CmpOp} {r:R2} (ho:OpR X (compareOp op) r) (ha:PE X a ta) (hb:PE X b tb) (hm:behindInMarks op b = false):PE X (.Compare a [op] [b] pos) (tOp r ta tb):=by
 intro pins s σ H Q I h
 exact wpAny_Compare1 (binT ha hb I h fun v u s2 x y H2 I2 rx ry q=>ho pins s2 σ H2 x y v u Q I2 rx ry q) hm
noncomputable def tTest (t:TE):TT:=fun σ H Q=>t σ H fun x H'=>∃ k,x = .bl k∧Q k H'
theorem pt_cmpR {op:CmpOp} {r:R2} (ho:OpR X (compareOp op) r) (ha:PE X a ta) (hb:PE X b tb) (hm:behindInMarks op b = false):PT X (.Compare a [op] [b] pos) (tTest (tOp r ta tb)):=by
 intro pins s σ H Q I h
 refine wpAny_isTrue_Compare1 (thn (ha pins s σ H _ I h) fun v s1 ⟨x,H1,I1,r1,q1⟩=>thn (hb pins s1 σ H1 _ I1 q1) fun u s2 ⟨y,H2,I2,r2,q2⟩ =>
  thn (ho pins s2 σ H2 x y v u _ I2 r1 r2 q2) fun c s3 ⟨z,H3,I3,r3,k,e,q3⟩=>?_) hm
 subst e
 cases r3
 exact wpAny_truthy_bool ⟨H3,I3,q3⟩
noncomputable def tChain (r r':R2) (ta tb tc:TE):TE:=fun σ H Q=>ta σ H fun x H1=>tb σ H1 fun y H2=>r x y H2 fun z H3=>∃ k,z = .bl k ∧
 (if k = true then tc σ H3 fun w' H4=>r' y w' H4 Q else Q (.bl false) H3)
theorem pt_chain {op op':CmpOp} {r r':R2} (ho:OpR X (compareOp op) r) (ho':OpR X (compareOp op') r') (ha:PE X a ta) (hb:PE X b tb) (hc:PE X c tc)
  (hm:lastMarks [op,op'] [b,c] = false:=by with_unfolding_all rfl):PT X (.Compare a [op,op'] [b,c] pos) (tTest (tChain r r' ta tb tc)):=by
 intro pins s σ H Q I h
 refine isTrue_chain (thn (ha pins s σ H _ I h) fun v s1 ⟨x,H1,I1,r1,q1⟩=>test_link (thn (hb pins s1 σ H1 _ I1 q1) fun u s2 ⟨y,H2,I2,r2,q2⟩ =>
  thn (ho pins s2 σ H2 x y v u _ I2 r1 r2 q2) fun d s3 ⟨z,H3,I3,r3,k,e,q3⟩=>?_)) hm
 subst e
 cases r3
 refine wpAny_truthy_bool ?_
 cases k with
 | false =>
  obtain ⟨k',e',q'⟩:=q3
  cases e'
  exact ite_ff ⟨H3,I3,q'⟩
 | true =>
  refine ite_tt (test_last (thn (hc pins s3 σ H3 _ I3 q3) fun w' s4 ⟨z',H4,I4,r4,q4⟩=>thn (ho' pins s4 σ H4 y z' u w' _ I4 r2 r4 q4) fun d' s5 ⟨z2,H5,I5,r5,k2,e2,q5⟩=>?_))
  subst e2
  cases r5
  exact wpAny_truthy_bool ⟨H5,I5,q5⟩

theorem line63:(sizeLine:Nat) < 2 ^ 63:=by rw [sizeLine_eq];decide
theorem vals1 {x:V} {us:List Value} (r:Vals [x] us):∃ u,us = [u]∧RelV x u:=by
 cases r with
 | cons r1 r2=>cases r2;exact ⟨_,rfl,r1⟩
theorem vals2 {x y:V} {us:List Value} (r:Vals [x,y] us):∃ u w',us = [u,w']∧RelV x u∧RelV y w':=by
 cases r with
 | cons r1 r2 =>
  cases r2 with
  | cons r3 r4=>cases r4;exact ⟨_,_,rfl,r1,r3⟩
theorem call_abs:CallR X (.builtin "abs") (fun xs H Q=>∃ i,xs = [.int i]∧Q (.int (if i < 0 then -i else i)) H):=by
 intro pins s σ H xs us Q I r h
 obtain ⟨i,rfl,q⟩:=h
 obtain ⟨u,rfl,t,rfl⟩:=vals1 r
 exact call_abs_int fun u tk=>⟨.int (if i < 0 then -i else i),H,I.tok _,⟨_,rfl⟩,q⟩
theorem call_max2 (hc:X.calm = true):CallR X (.builtin "max") (fun xs H Q=>∃ i j,xs = [.int i,.int j]∧Q (.int (if j > i then j else i)) H):=by
 intro pins s σ H xs us Q I r h
 obtain ⟨i,j,rfl,q⟩:=h
 obtain ⟨u,w',rfl,⟨t,rfl⟩,⟨t',rfl⟩⟩:=vals2 r
 refine max_two_ints (I.ok.hd hc) fun h' tk k=>⟨_,H,I.kept k,?_,q⟩
 by_cases hj:j > i
 ·rw [if_pos hj,if_pos hj];exact ⟨_,rfl⟩
 ·rw [if_neg hj,if_neg hj];exact ⟨_,rfl⟩
end
end L2

namespace L2
open PySem PySem.Spec PyProof.Rows

structure ObjM (h:Heap) (x dx C:Addr) (mA:Str→Option Value):Prop where
 obj:h.get? x = some (PySem.W.instObj C dx)
 ns:h.Ns1 dx mA
 ne:dx≠x

theorem lookIn_ns {h:Heap} {dx:Addr} {mA:Str→Option Value} (n:h.Ns1 dx mA):∃ od,h.get? dx = some od∧∀ name,PySem.W.lookIn name od = some (mA name):=by
 obtain ⟨o,es,ep,ho,hd,hk,_,hm⟩:=n
 refine ⟨o,ho,fun name=>?_⟩
 have e:=hm name
 unfold nsFind findBy at e
 rw [← Array.find?_toList] at e
 unfold PySem.W.lookIn
 rw [hd]
 dsimp only
 split
 ·rename_i y q
  rw [q] at e
  exact congrArg some e
 ·rename_i q
  rw [q] at e
  have a:es.toList.any (·.refKey) = false:=by
   rw [List.any_eq_false]
   intro y hy
   obtain ⟨z,t,hkey⟩:=hk y (Array.mem_toList_iff.mp hy)
   simp [DictEntry.refKey,hkey]
  have a':¬ es.toList.any (·.refKey) = true:=by rw [a];exact Bool.false_ne_true
  rw [if_neg a']
  exact congrArg some e

theorem ObjM.look {h:Heap} {x dx C:Addr} {mA:Str→Option Value} (I:ObjM h x dx C mA):∃ od,PySem.W.InstAt h x (PySem.W.instObj C dx) C (some od)∧∀ name,PySem.W.lookIn name od = some (mA name) :=
 let ⟨od,ho,hl⟩:=lookIn_ns I.ns
 ⟨od,⟨I.obj,rfl,rfl,ho⟩,hl⟩


theorem RelO.some_of {v:V} {o:Option Value} (r:RelO (some v) o):∃ u,o = some u∧RelV v u:=by
 cases o with
 | none=>exact (show False from r).elim
 | some u=>exact ⟨u,rfl,r⟩
section
variable {P:Program} {w:World} {H H':Hp} {h h':Heap} {a C dx:Addr} {fs fs':List (Str×V)}
theorem ins_get (hok:HOk P w H h) (e:H a = some (.ins C dx fs)):∃ mA,ObjM h a dx C mA∧(∀ f,RelO (fs.lookup f) (mA f))∧PySem.Within mA (fs.map (·.1))∧fs.length≤1000∧H dx = some (.own a):=by
 obtain ⟨d,z,ne,ob,mA,n,r,q⟩:=(show ObjOk P w H h a (.ins C dx fs) from hok a _ e)
 exact ⟨mA,⟨ob,n,ne⟩,r,q,z,d⟩
end

structure Cls (K:PySem.W.Frag) (C:Addr):Prop where
 pg:PySem.W.plainGet K C Str.empty = true
 hd:PySem.W.hasDictIn K C = true
 po:PySem.W.plainOver K C = true
 sa:PySem.W.findIn K (.ref C) "__setattr__" = some (some (.builtin "object.__setattr__"))
theorem Cls.get {K:PySem.W.Frag} {C:Addr} (c:Cls K C) (f:Str):PySem.W.plainGet K C f = true:=c.pg


section
variable {X:Cx} {pins:List (Addr×Obj)} {σ:St} {H:Hp} {s:Shared} {A:Around} {E:Value→Shared→Prop} {Q:Value→Shared→Prop} {c:Value} {b:Bool}
inductive TyOf (K : PySem.W.Frag) (H : Hp) : V → Value → Prop where
  | non : TyOf K H .non (.type "NoneType")
  | bl (x : Bool) : TyOf K H (.bl x) (.type "bool")
  | int (i : Int) : TyOf K H (.int i) (.type "int")
  | str (x : Str) : TyOf K H (.str x) (.type "str")
  | flt (x : UInt64) : TyOf K H (.flt x) (.type "float")
  | lst {a : Addr} {xs : List V} (e : H a = some (.lst xs)) : TyOf K H (.ref a) (.type "list")
  | frz {a : Addr} {o : Obj} {xs : List V} (e : H a = some (.frz o (.lst xs))) : TyOf K H (.ref a) (.type "list")
  | tup {a : Addr} {xs : List V} (e : H a = some (.tup xs)) : TyOf K H (.ref a) (.type "tuple")
  | dK {a : Addr} {kvs : List (Key × V)} (e : H a = some (.dK kvs)) : TyOf K H (.ref a) (.type "dict")
  | dT {a : Addr} {kvs : List (List Key × V)} (e : H a = some (.dT kvs)) : TyOf K H (.ref a) (.type "dict")
  | ins {a C dx : Addr} {fs : List (Str × V)} (e : H a = some (.ins C dx fs)) (cl : Cls K C) (ha : PySem.W.findIn K (.ref C) "__class__" = some (some (.builtin "object.__class__")))
      (hn : PySem.W.specialIn K (.builtin "object.__class__") "__get__" = some (some (.builtin "getset_descriptor.__get__"))) (htk : PySem.W.takesIn K (.builtin "object.__class__") = some true)
      (hm : PySem.W.mroIn K C (.type "object") = some true) : TyOf K H (.ref a) (.ref C)
theorem isinst_ok {x:V} {u t:Value} (I:Inv X pins σ H s) (rx:RelV x u) (ty:TyOf X.K H x t) (e:PySem.W.kitOne X.K t c = some b) (h:∀ tk,Q (.bool b) { s with toks:=tk }) :
  wpAny (model X.prog X.w) A (call (.builtin "isinstance") [u,c]) Q E s:=by
 cases ty with
 | non=>cases (show u = Value.none from rx);exact PySem.W.kia_one PySem.W.kitx_none I.kIn True.intro e (fun z=>nomatch z) h
 | bl y=>cases (show u = Value.bool y from rx);exact PySem.W.kia_one PySem.W.kitx_bool I.kIn True.intro e (fun z=>nomatch z) h
 | int i=>obtain ⟨t,q⟩:=(show ∃ t,u = Value.int i t from rx);cases q;exact PySem.W.kia_one PySem.W.kitx_int I.kIn True.intro e (fun z=>nomatch z) h
 | str y=>obtain ⟨t,q⟩:=(show ∃ t,u = Value.str y t from rx);cases q;exact PySem.W.kia_one PySem.W.kitx_str I.kIn True.intro e (fun z=>nomatch z) h
 | flt y=>obtain ⟨t,q⟩:=(show ∃ t,u = Value.float y t from rx);cases q;exact PySem.W.kia_one PySem.W.kitx_float I.kIn True.intro e (fun z=>nomatch z) h
 | @lst a xs ea =>
  cases (show u = Value.ref a from rx)
  obtain ⟨_,_,n,_,h1⟩:=(show ObjOk X.prog X.w H s.heap a (.lst xs) from I.hok a _ ea)
  exact PySem.W.kia_one PySem.W.kitx_list I.kIn ⟨_,h1,rfl⟩ e (fun z=>nomatch z) h
 | @frz a ob xs ea =>
  cases (show u = Value.ref a from rx)
  obtain ⟨_,_,_,n,_,h1⟩:=(show ObjOk X.prog X.w H s.heap a (.frz ob (.lst xs)) from I.hok a _ ea)
  exact PySem.W.kia_one PySem.W.kitx_list I.kIn ⟨_,h1,rfl⟩ e (fun z=>nomatch z) h
 | @tup a xs ea =>
  cases (show u = Value.ref a from rx)
  obtain ⟨_,_,_,p⟩:=(show ObjOk X.prog X.w H s.heap a (.tup xs) from I.hok a _ ea)
  obtain ⟨o,h1,h2,_⟩:=p
  exact PySem.W.kia_one PySem.W.kitx_tuple I.kIn ⟨o,h1,h2⟩ e (fun z=>nomatch z) h
 | @dK a kvs ea =>
  cases (show u = Value.ref a from rx)
  obtain ⟨_,_,vs,_,p⟩:=(show ObjOk X.prog X.w H s.heap a (.dK kvs) from I.hok a _ ea)
  obtain ⟨o,es,ep,h1,h2,_⟩:=p
  exact PySem.W.kia_one PySem.W.kitx_dict I.kIn ⟨o,h1,h2.1⟩ e (fun z=>nomatch z) h
 | @dT a kvs ea =>
  cases (show u = Value.ref a from rx)
  obtain ⟨_,_,xs,_,o,es,ep,h1,h2,_⟩:=(show ObjOk X.prog X.w H s.heap a (.dT kvs) from I.hok a _ ea)
  exact PySem.W.kia_one PySem.W.kitx_dict I.kIn ⟨o,h1,h2.1⟩ e (fun z=>nomatch z) h
 | @ins a C dx fs ea cl ha hn htk hm =>
  cases (show u = Value.ref a from rx)
  obtain ⟨mA,O,_⟩:=ins_get I.hok ea
  obtain ⟨od,J,_⟩:=O.look
  exact PySem.W.kia_one (PySem.W.kitx_own (cl.get _) cl.hd ha hn htk hm) I.kIn J e (fun z=>nomatch z) h
end
end L2

namespace L2
open PySem PySem.Spec PyProof.Rows

structure Room (k:Nat) (A:Around):Prop where
 hd:A.handled = none
 dp:A.depth + 3 * k + 5 < recursionLimit
 un:A.units + 16 * k + 200 < cLine
 gd:A.guards = some []
theorem Room.mono {j k:Nat} {A:Around} (r:Room k A) (h:j≤k):Room j A:=⟨r.hd,by have:=r.dp;omega,by have:=r.un;omega,r.gd⟩
theorem Room.deeper {k:Nat} {A:Around} (r:Room (k + 1) A) (env:Env):Room k (A.deeper env) :=
 ⟨r.hd,by have:=r.dp;show A.depth + 1 + 3 * k + 5 < _;omega,by have:=r.un;show A.units + 3 + 16 * k + 200 < _;omega,r.gd⟩
theorem Room.depth {k:Nat} {A:Around} (r:Room k A):A.depth < recursionLimit:=by have:=r.dp;omega
theorem Room.units {k:Nat} {A:Around} (r:Room k A):A.units + 64 < cLine:=by have:=r.un;omega
noncomputable def tNil:TA:=fun _ H Q=>Q [] H
noncomputable def tCons (ta:TE) (tr:TA):TA:=fun σ H Q=>ta σ H fun x H1=>tr σ H1 fun xs H2=>Q (x :: xs) H2
section
variable {X:Cx} {e:Expr} {es:List Expr} {te:TE} {t:TA} {pos:Pos}
theorem pa_nil:PA X [] tNil:=fun _ _ _ _ H Q I h=>Calls.spliced_nil ⟨[],H,I,.nil,h⟩
theorem pa_cons (ha:PE X e te) (hr:PA X es t) (hs:starEach (e :: es) X.env = (false,eval e X.env) :: starEach es X.env:=by rfl):PA X (e :: es) (tCons te t):=by
 intro pos pins s σ H Q I h
 rw [hs]
 show wpAny _ _ (spliced ((false,eval e X.env) :: backTo pos (starEach es X.env))) _ _ s
 refine Calls.spliced_cons (thn (ha pins s σ H _ I h) fun u s1 ⟨x,H1,I1,r1,q1⟩=>?_)
 exact thn (hr pos pins s1 σ H1 _ I1 q1) fun us s2 ⟨xs,H2,I2,r2,q2⟩=>⟨x :: xs,H2,I2,.cons r1 r2,q2⟩

noncomputable def tTup (t:TA):TE:=fun σ H Q=>t σ H fun xs H1=>xs.length≤sizeLine∧∀ p,H1 p = none→Q (.ref p) (upd H1 p (.tup xs))
noncomputable def tLst (t:TA):TE:=fun σ H Q=>t σ H fun xs H1=>xs.length≤sizeLine∧∀ p,H1 p = none→Q (.ref p) (upd H1 p (.lst xs))
theorem pe_tup {x1} (h:PA X es t):PE X (.Tuple es x1 pos) (tTup t):=by
 intro pins s σ H Q I hq
 refine wpAny_Tuple_spliced (thn (h pos pins s σ H _ I hq) fun us s1 ⟨xs,H1,I1,r,z,q⟩=>⟨by rw [← r.length];exact z,?_⟩)
 have hf:H1 s1.heap.objs.size = none:=I1.hok.fresh (Nat.le_refl _)
 refine ⟨.ref s1.heap.objs.size,upd H1 s1.heap.objs.size (.tup xs),I1.laid (t':=s1.toks) (fun b u e=>Heap.get?_push_of_some _ e) (Nat.le_refl _) ?_,rfl,q _ hf⟩
 exact ⟨z,us,r,⟨_,Heap.get?_push_size _ rfl,rfl,_,rfl⟩⟩
theorem pe_lst (h:PA X es t):PE X (.List es pos) (tLst t):=by
 intro pins s σ H Q I hq
 refine wpAny_List_spliced (thn (h pos pins s σ H _ I hq) fun us s1 ⟨xs,H1,I1,r,z,q⟩=>⟨by rw [← r.length];exact z,?_⟩)
 have hf:H1 s1.heap.objs.size = none:=I1.hok.fresh (Nat.le_refl _)
 refine ⟨.ref s1.heap.objs.size,upd H1 s1.heap.objs.size (.lst xs),I1.laid (t':=s1.toks) (fun b u e=>Heap.get?_push_of_some _ e) (Nat.le_refl _) ?_,rfl,q _ hf⟩
 exact ⟨z,us,0,r,Heap.get?_push_size _ rfl⟩
end

noncomputable abbrev Sp:=List V→Hp→VK→XK→Prop
noncomputable abbrev CXT:=List Env→Hp→Shared→XK→Value→Shared→Prop

structure Env0 (P:Program) (w:World) (K:PySem.W.Frag) (mg:Str→Option Value) (base:Heap) (A:Around) (outer:List Env) (s:Shared) (H:Hp):Prop where
 frames:A.frames = some outer
 mod:Mod K mg base
 bs:∀ b o,base.get? b = some o→s.heap.get? b = some o∧H b = none
 bsz:base.objs.size≤s.heap.objs.size
 funs:s.heap.FunFrames base outer
 frf:∀ b∈frs outer,H b = none
 hok:HOk P w H s.heap
 bare:AllBare s.gens
noncomputable def CE (outer:List Env) (P:Program) (w:World) (H:Hp) (s:Shared) (Q:VK) (u:Value) (s':Shared):Prop :=
 ∃ v H',s'.os = s.os∧AllBare s'.gens∧Un (frs outer) [] H H' s.heap s'.heap∧HOk P w H' s'.heap∧RelV v u∧Q v H'
noncomputable def CR (CX:CXT) (outer:List Env) (P:Program) (w:World) (H:Hp) (s:Shared) (Q:VK) (E:XK) (r:Result) (s':Shared):Prop :=
 match r with
 | .ok (.ret u)=>CE outer P w H s Q u s'
 | .ok _=>False
 | .error e=>CX outer H s E e s'
structure FnOk (P:Program) (w:World) (K:PySem.W.Frag) (mg:Str→Option Value) (base:Heap) (CX:CXT) (k:Nat) (f:Addr) (fd:FuncData) (ps:List Str) (sp:Sp):Prop where
 len:∀ vs H Q E,sp vs H Q E→vs.length = ps.length
 run:∀ (A:Around) (outer:List Env) (s:Shared) (H:Hp) (args:Args) (us:List Value) (vs:List V) (Q:VK) (E:XK),Room k A→Env0 P w K mg base A outer s H→BindsTo s fd args (ps.zip us)→Vals vs us→sp vs H Q E →
  codeAny (model P w) A (.call (.ref f) args) (CR CX outer P w H s Q E) s
section
variable {X:Cx} {pins:List (Addr×Obj)} {σ:St} {H:Hp} {s s':Shared}
theorem Inv.env0 (I:Inv X pins σ H s):Env0 X.prog X.w X.K X.mg X.base X.A X.stack s H :=
 ⟨I.ok.frames,I.ok.mod,I.bs,Nat.le_trans I.ok.bsz I.sz,I.stack,I.stkFree,I.hok,I.bare⟩
theorem Inv.after {Q:VK} {u:Value} (I:Inv X pins σ H s) (h:CE X.stack X.prog X.w H s Q u s'):EP X pins σ Q u s':=by
 obtain ⟨v,H',os,bare,un,hok,r,q⟩:=h
 obtain ⟨hh,g,d,t,os'⟩:=s'
 obtain rfl:os' = s.os:=os
 exact ⟨v,H',I.call (h':=hh) (g':=g) (d':=d) (t':=t) (ch:=[]) un hok bare (fun b z=>absurd z (by simp)),r,q⟩
end

noncomputable def tCall (sp:Sp) (dvs:List V) (E:XK) (t:TA):TE:=fun σ H Q=>t σ H fun vs H1=>sp (vs ++ dvs) H1 Q E
noncomputable def Binds (K:PySem.W.Frag) (fd:FuncData) (ps:List Str) (ds:List Value):Prop :=
 ∀ (s:Shared) (us:List Value),K.In s.heap→(us ++ ds).length = ps.length→BindsTo s fd ⟨us,[]⟩ (ps.zip (us ++ ds))
theorem Binds.all {K:PySem.W.Frag} {fd:FuncData} {ps:List Str} (h:∀ us:List Value,us.length = ps.length→bindArgs fd ⟨us,[]⟩ = pure (ps.zip us)):Binds K fd ps []:=fun s us _ hl=>by
 rw [List.append_nil] at hl ⊢
 exact .of_eq (h us hl)

noncomputable def Passes (CX:CXT) (X:Cx) (E:XK):Prop:=∀ (pins:List (Addr×Obj)) (σ:St) (H:Hp) (s:Shared) (e:Value) (s':Shared),Inv X pins σ H s→CX X.stack H s E e s'→X.xe e s'

section
variable {X:Cx} {CX:CXT} {k:Nat} {f C:Addr} {fd:FuncData} {ps:List Str} {sp:Sp} {dvs:List V} {ds:List Value} {E:XK} {x m:Str} {p pos apos:Pos} {e o:Expr} {es:List Expr} {ta:TE} {t:TA}

theorem run_fn {pins:List (Addr×Obj)} {σ:St} {H:Hp} {s:Shared} {Q:VK} {us:List Value} {vs:List V} (F:FnOk X.prog X.w X.K X.mg X.base CX k f fd ps sp) (hr:Room k X.A) (hb:Binds X.K fd ps ds) (hd:Vals dvs ds) (hx:Passes CX X E)
  (I:Inv X pins σ H s) (r:Vals vs us) (h:sp (vs ++ dvs) H Q E):wpAny (model X.prog X.w) X.A (call (.ref f) us) (EP X pins σ Q) X.xe s:=by
 have r2:Vals (vs ++ dvs) (us ++ ds):=r.append hd
 have hl:(us ++ ds).length = ps.length:=by rw [← r2.length];exact F.len _ _ _ _ h
 refine wpAny_call (codeAny_mono (F.run X.A X.stack s H ⟨us,[]⟩ (us ++ ds) (vs ++ dvs) Q E hr I.env0 (hb s us I.kIn hl) r2 h) fun r s' hq=>?_)
 cases r with
 | error e=>exact hx pins σ H s e s' I hq
 | ok fl =>
  cases fl with
  | ret u=>exact I.after hq
  | next=>exact False.elim hq
  | brk=>exact False.elim hq
  | cont=>exact False.elim hq

theorem pe_call (F:FnOk X.prog X.w X.K X.mg X.base CX k f fd ps sp) (hr:Room k X.A) (hg:Gl X x) (hm:X.mg x = some (.ref f)) (hk:PySem.W.keepIn X.K (.ref f) = true) (hb:Binds X.K fd ps ds) (hd:Vals dvs ds) (hx:Passes CX X E)
  (ha:PA X (e :: es) t) (hdb:(x == ("__debug__":Str)) = false:=by decide) (he:starEach (e :: es) X.env = (false,eval e X.env) :: starEach es X.env:=by rfl) (hpl:(backTo pos (starEach es X.env)).any (·.1) = false:=by rfl) :
  PE X (.Call (.Name x p) (e :: es) [] pos) (tCall sp dvs E t):=by
 intro pins s σ H Q I h
 refine wpAny_Call_Name_kw (ld_glob I hg hm ?_ hdb)
 refine PySem.W.callWith_K (h₀:=X.base) I.ok.mod.kin hk (thn (ha pos pins s σ H _ I h) fun us s1 ⟨vs,H1,I1,r,q⟩=>⟨I1.kIn,?_⟩) he hpl
 exact run_fn F hr hb hd hx I1 r q
end


structure FnScope (N P:List Str) (sc:Scope):Prop where
 kind:sc.kind = .function
 co:sc.isCoroutine = false
 gen:sc.isGenerator = false
 nd:N.Nodup
 pre:N.take P.length = P
 par:∀ x∈P,sc.names.lookup x = some .local∨sc.names.lookup x = some .cell
 nofree:∀ y∈sc.names,y.2≠.free

theorem bindL_out {kindOf:Str→Option NameKind} {x:Str}:∀ {binds:List (Str×Value)} {m:Str→Option Value},(∀ v,(x,v) ∉ binds)→bindL kindOf binds m x = m x
 | [],_,_=>rfl
 | (n,v) :: r,m,h=>by
  unfold bindL
  rw [bindL_out fun w hw=>h w (List.mem_cons_of_mem _ hw)]
  split
  ·have:x≠n:=by rintro rfl;exact h v List.mem_cons_self
   simp [this]
  ·rfl
theorem bindC_out {kindOf:Str→Option NameKind} {x:Str}:∀ {binds:List (Str×Value)} {m:Str→Option Value},(∀ v,(x,v) ∉ binds)→bindC kindOf binds m x = m x
 | [],_,_=>rfl
 | (n,v) :: r,m,h=>by
  unfold bindC
  rw [bindC_out fun w hw=>h w (List.mem_cons_of_mem _ hw)]
  split
  ·rfl
  ·have:x≠n:=by rintro rfl;exact h v List.mem_cons_self
   simp [this]
theorem bindL_get {kindOf:Str→Option NameKind} {x:Str} {v:Value}:∀ {P:List Str} {vs:List Value} {i:Nat} {m:Str→Option Value},P.Nodup→P[i]? = some x→vs[i]? = some v→kindOf x = some .local →
  bindL kindOf (P.zip vs) m x = some v
 | [],_,_,_,_,h,_,_=>by simp at h
 | _ :: _,[],_,_,_,_,h,_=>by simp at h
 | p :: P,w :: vs,0,m,nd,h1,h2,hk=>by
  simp at h1 h2;subst h1;subst h2
  show bindL kindOf ((p,w) :: P.zip vs) m p = _
  unfold bindL
  rw [bindL_out fun v hv=>(List.nodup_cons.mp nd).1 (List.of_mem_zip hv).1,if_pos hk]
  simp
 | p :: P,w :: vs,i + 1,m,nd,h1,h2,hk=>by
  show bindL kindOf ((p,w) :: P.zip vs) m x = _
  unfold bindL
  exact bindL_get (i:=i) (List.nodup_cons.mp nd).2 (by simpa using h1) (by simpa using h2) hk
theorem bindC_get {kindOf:Str→Option NameKind} {x:Str} {v:Value}:∀ {P:List Str} {vs:List Value} {i:Nat} {m:Str→Option Value},P.Nodup→P[i]? = some x→vs[i]? = some v→kindOf x≠some .local →
  bindC kindOf (P.zip vs) m x = some v
 | [],_,_,_,_,h,_,_=>by simp at h
 | _ :: _,[],_,_,_,_,h,_=>by simp at h
 | p :: P,w :: vs,0,m,nd,h1,h2,hk=>by
  simp at h1 h2;subst h1;subst h2
  show bindC kindOf ((p,w) :: P.zip vs) m p = _
  unfold bindC
  rw [bindC_out fun v hv=>(List.nodup_cons.mp nd).1 (List.of_mem_zip hv).1,if_neg hk]
  simp
 | p :: P,w :: vs,i + 1,m,nd,h1,h2,hk=>by
  show bindC kindOf ((p,w) :: P.zip vs) m x = _
  unfold bindC
  exact bindC_get (i:=i) (List.nodup_cons.mp nd).2 (by simpa using h1) (by simpa using h2) hk

noncomputable def start (N:List Str) (vs:List V):St:=vs.map some ++ List.replicate (N.length - vs.length) none

noncomputable def cxOf (CX:CXT) (P:Program) (w:World) (K:PySem.W.Frag) (mg:Str→Option Value) (base:Heap) (N:List Str) (qual:Str) (scope:Scope) (f:Addr) (cd:Value) (A:Around) (outer:List Env) (s:Shared) (H:Hp) (E:XK):Cx where
 prog:=P
 w:=w
 K:=K
 mg:=mg
 base:=base
 A:=A.deeper (envOfC qual scope s.heap.objs.size f cd)
 N:=N
 s₀:=s
 H₀:=H
 env:=envOfC qual scope s.heap.objs.size f cd
 outer:=outer
 stack:=envOfC qual scope s.heap.objs.size f cd :: outer
 ex:=[]
 calm:=true
 fn:=fun _=>true
 pn:=[]
 xe:=fun e s'=>wpAny (model P w) (A.deeper (envOfC qual scope s.heap.objs.size f cd)) (leaving (envOfC qual scope s.heap.objs.size f cd) e) (fun _ s''=>CX outer H s E e s'') (fun e' s''=>CX outer H s E e' s'') s'

theorem cell_has {sc:Scope} {n:Nat} {x:Str} (h:sc.names.lookup x = some .cell):∃ c,(cellsFrom n sc.names []).lookup x = some c:=by
 have q:=PySem.W.cellsFrom_some sc.names n [] (.inl h)
 exact Option.isSome_iff_exists.mp q

theorem inv_start {CX:CXT} {P:Program} {w:World} {K:PySem.W.Frag} {mg:Str→Option Value} {base:Heap} {N ps:List Str} {qual:Str} {scope:Scope} {f:Addr} {cd:Value} {A:Around} {outer:List Env} {s s1:Shared} {H:Hp} {E:XK} {us:List Value} {vs:List V}
  (S:FnScope N ps scope) (hd:A.handled = none) (e0:Env0 P w K mg base A outer s H) (hl:vs.length = ps.length) (r:Vals vs us)
  (x:InCallC s s.heap.objs.size (bindL (envOfC qual scope s.heap.objs.size f cd).kindOf (ps.zip us) fun _=>none) (cellsFrom (s.heap.objs.size + 1) scope.names []) (bindC (envOfC qual scope s.heap.objs.size f cd).kindOf (ps.zip us) fun _=>none) s1) :
  Inv (cxOf CX P w K mg base N qual scope f cd A outer s H E) [] (start N vs) H s1:=by
 have hpl:ps.length≤N.length:=by have:=congrArg List.length S.pre;rw [List.length_take] at this;omega
 obtain ⟨h1,tk,rfl,hk⟩:=x.done
 have noA:∀ b:Addr,b ∉ (cxOf CX P w K mg base N qual scope f cd A outer s H E).ex:=fun b z=>absurd (show b∈([]:List Addr) from z) (by simp)
 refine ⟨⟨e0.mod,S.kind,rfl,rfl,Nat.le_refl _,fun y z c h1 h2=>?_,fun y hy=>?_,fun y c _ h=>?_,fun _=>hd,Around.frames_deeper e0.frames,.inr ⟨rfl,rfl⟩,fun b z=>absurd z (noA b),e0.bs,e0.bsz,fun b _ _=>noA b,fun b z=>absurd z (noA b),e0.funs,e0.frf⟩,
  rfl,e0.bare,Un.kept hk,⟨_,x.toInCall.ns,fun i y v h1 h2 h3=>?_⟩,fun y c h=>⟨_,x.cell y c h⟩,e0.hok.fresh (Nat.le_refl _),fun y c h=>?_,fun p hp=>absurd (show p∈([]:List (Addr×Obj)) from hp) (by simp),e0.hok.kept hk,?_⟩
 ·exact name_of_addr x.apart (PySem.mem_of_lookup h1) (PySem.mem_of_lookup h2)
 ·have hy:scope.names.lookup y = some .cell∨scope.names.lookup y = some .free:=hy
  rcases hy with hy | hy
  ·exact cell_has hy
  ·exact absurd rfl (S.nofree _ (PySem.mem_of_lookup hy))
 ·exact Nat.le_of_lt (x.above y c (PySem.mem_of_lookup h))
 ·have hi:i < vs.length:=by
   unfold start at h2
   by_cases hi:i < vs.length
   ·exact hi
   ·rw [List.getElem?_append_right (by simpa using hi)] at h2
    rw [List.getElem?_replicate] at h2
    split at h2 <;> cases h2
  have ha:vs[i]? = some v:=by
   unfold start at h2
   rw [List.getElem?_append_left (by simpa using hi),List.getElem?_map] at h2
   cases e:vs[i]? with
   | none=>rw [e] at h2;cases h2
   | some a=>rw [e] at h2;cases h2;rfl
  obtain ⟨u,hu,rv⟩:=r.get ha
  have hp:ps[i]? = some y:=by
   rw [← S.pre,List.getElem?_take_of_lt (by omega)];exact h1
  have ndP:ps.Nodup:=by rw [← S.pre];exact S.nd.sublist (List.take_sublist _ _)
  refine ⟨u,rv,?_⟩
  rcases S.par y (List.mem_of_getElem? hp) with k | k
  ·exact .inl ⟨k,bindL_get ndP hp hu k⟩
  ·obtain ⟨c,e⟩:=cell_has (n:=s.heap.objs.size + 1) k
   refine .inr ⟨.inl k,c,e,?_⟩
   have q:=x.cell y c e
   rw [bindC_get ndP hp hu (by show scope.names.lookup y≠_;rw [k];decide)] at q
   exact q
 ·exact e0.hok.fresh (Nat.le_of_lt (x.above y c (PySem.mem_of_lookup h)))
 ·unfold start
  show _ = N.length
  rw [List.length_append,List.length_map,List.length_replicate]
  omega

theorem fn_of {CX:CXT} {P:Program} {w:World} {K:PySem.W.Frag} {mg:Str→Option Value} {base:Heap} {k:Nat} {f:Addr} {name qual:Str} {params:Arguments} {body:List Stmt} {scope:Scope} {dV kV doc pm cdv ct oc:Value} {an od:Option Addr}
  {osl:Array (Option Value)} {N ps:List Str} {sp:Sp} (lk:K.lookup f = some ⟨oc,od,.func (PySem.W.fnOf name qual params body scope dV kV doc pm an cdv ct),osl⟩) (hcd:PySem.W.codeIn K cdv qual = true) (S:FnScope N ps scope)
  (len:∀ vs H Q E,sp vs H Q E→vs.length = ps.length)
  (hbody:∀ (A:Around) (outer:List Env) (s:Shared) (H:Hp) (vs:List V) (Q:VK) (E:XK),Room k (A.deeper (envOfC qual scope s.heap.objs.size f cdv))→sp vs H Q E →
   ∃ t,PSs (cxOf CX P w K mg base N qual scope f cdv A outer s H E) body t∧t { nx:=fun _ H'=>Q .non H',rt:=Q } (start N vs) H) :
  FnOk P w K mg base CX (k + 1) f (PySem.W.fnOf name qual params body scope dV kV doc pm an cdv ct) ps sp:=by
 refine ⟨len,fun A outer s H args us vs Q E hr e0 hb r hsp=>?_⟩
 have hl:=len _ _ _ _ hsp
 have KX:K.In s.heap:=e0.mod.kin.keeps fun b o e=>(e0.bs b o e).1
 have lim:s.heap.NoLimit:=e0.mod.nolimit.keeps fun b o e=>(e0.bs b o e).1
 have hkind:∀ y∈ps.zip us,scope.names.lookup y.1 = some .local∨(scope.names.lookup y.1 = some .cell∧((cellsFrom (s.heap.objs.size + 1) scope.names []).lookup y.1).isSome = true):=fun ⟨n,v⟩ hy=>by
  rcases S.par n (List.of_mem_zip hy).1 with q | q
  ·exact .inl q
  ·exact .inr ⟨q,PySem.W.cellsFrom_some _ _ _ (.inl q)⟩
 refine codeAny_call_function hr.depth (KX _ _ lk) rfl S.co S.gen rfl (PySem.W.codeRec_of KX hcd) (hb _ _ _ _ ?_)
 refine wpAny_newFunctionEnv_cells S.kind hkind fun env he s1 x=>?_
 subst he
 refine ⟨lim.keeps x.toInCall.keep,codeAny_func ?_⟩
 obtain ⟨t,ht,hq⟩:=hbody A outer s H vs Q E (hr.deeper _) hsp
 have I:Inv (cxOf CX P w K mg base N qual scope f cdv A outer s H E) [] (start N vs) H s1:=inv_start S hr.hd e0 hl r x
 refine wpAny_mono (ht [] s1 (start N vs) H _ I hq) (fun fl s' hs=>?_) fun e s' hs=>hs
 have fin:∀ {σ':St} {H':Hp} {v:V} {u:Value},Inv (cxOf CX P w K mg base N qual scope f cdv A outer s H E) [] σ' H' s'→RelV v u→Q v H'→CE outer P w H s Q u s' :=
  fun {σ' H' v u} J rv q=>⟨v,H',J.os,J.bare,J.base,J.hok,rv,q⟩
 cases fl with
 | ret u =>
  obtain ⟨v,σ',H',J,rv,q⟩:=hs
  exact fin J rv q
 | next =>
  obtain ⟨σ',H',J,q⟩:=hs
  exact fin (v:=V.non) (u:=Value.none) J rfl q
 | brk =>
  obtain ⟨_,_,_,q⟩:=hs
  exact False.elim q
 | cont =>
  obtain ⟨_,_,_,q⟩:=hs
  exact False.elim q
end L2

namespace L2
open PySem PySem.Spec PyProof.Rows
section
variable {X:Cx} {x:Str} {p pos:Pos} {e:Expr} {es:List Expr} {t:TA} {id T:String} {r:List V→Hp→VK→Prop}

noncomputable def tCB (r:List V→Hp→VK→Prop) (t:TA):TE:=fun σ H Q=>t σ H fun vs H1=>r vs H1 Q
theorem pe_callB (hc:CallR X (.builtin id) r) (hg:Gl X x) (hm:X.mg x = none) (hv:bootBuiltins x = some (.builtin id)) (ha:PA X (e :: es) t) (hn:x≠"__name__":=by decide) (hdb:(x == ("__debug__":Str)) = false:=by decide)
  (he:starEach (e :: es) X.env = (false,eval e X.env) :: starEach es X.env:=by rfl) (hpl:(backTo pos (starEach es X.env)).any (·.1) = false:=by rfl):PE X (.Call (.Name x p) (e :: es) [] pos) (tCB r t):=by
 intro pins s σ H Q I h
 refine wpAny_Call_Name_kw (ld_blt I hg hm hv ?_ hn hdb)
 exact PyProof.Rows.callWith_builtin1 (thn (ha pos pins s σ H _ I h) fun us s1 ⟨vs,H1,I1,r1,q1⟩=>hc pins s1 σ H1 vs us Q I1 r1 q1) he hpl
theorem pe_callTy (hc:CallR X (.type T) r) (hg:Gl X x) (hm:X.mg x = none) (hv:bootBuiltins x = some (.type T)) (ha:PA X (e :: es) t) (hn:x≠"__name__":=by decide) (hdb:(x == ("__debug__":Str)) = false:=by decide)
  (he:starEach (e :: es) X.env = (false,eval e X.env) :: starEach es X.env:=by rfl) (hpl:(backTo pos (starEach es X.env)).any (·.1) = false:=by rfl):PE X (.Call (.Name x p) (e :: es) [] pos) (tCB r t):=by
 intro pins s σ H Q I h
 refine wpAny_Call_Name_kw (ld_blt I hg hm hv ?_ hn hdb)
 exact PyProof.Rows.callWith_type1 (thn (ha pos pins s σ H _ I h) fun us s1 ⟨vs,H1,I1,r1,q1⟩=>hc pins s1 σ H1 vs us Q I1 r1 q1) he hpl
end
end L2

namespace L2
open PySem PySem.Spec PyProof.Rows

section
variable {κ:Type} [DecidableEq κ]
noncomputable def valV (kvs:List (κ×V)) (k:κ):Option V:=(kvs.find? fun kv=>decide (kv.1 = k)).map (·.2)
noncomputable def putK (kvs:List (κ×V)) (k:κ) (v:V):List (κ×V) :=
 if (kvs.any fun kv=>decide (kv.1 = k)) = true then kvs.map (fun kv=>if kv.1 = k then (kv.1,v) else kv) else kvs ++ [(k,v)]
theorem valV_pos {p:κ×V} {r:List (κ×V)} {k:κ} (e:p.1 = k):valV (p :: r) k = some p.2:=by simp [valV,List.find?_cons,e]
theorem valV_neg {p:κ×V} {r:List (κ×V)} {k:κ} (e:¬ p.1 = k):valV (p :: r) k = valV r k:=by simp [valV,List.find?_cons,e]
theorem valV_any (k:κ):∀ kvs:List (κ×V),(kvs.any fun kv=>decide (kv.1 = k)) = (valV kvs k).isSome
 | []=>rfl
 | p :: r=>by
  rw [List.any_cons]
  by_cases e:p.1 = k
  ·simp only [valV_pos e,decide_eq_true e,Bool.true_or,Option.isSome_some]
  ·rw [valV_neg e,decide_eq_false e,Bool.false_or];exact valV_any k r
theorem valV_map (k j:κ) (y:V):∀ kvs:List (κ×V),valV (kvs.map fun kv=>if kv.1 = k then (kv.1,y) else kv) j = (valV kvs j).map fun x=>if j = k then y else x
 | []=>rfl
 | p :: r=>by
  have ih:=valV_map k j y r
  rw [List.map_cons]
  by_cases h:p.1 = k
  ·rw [if_pos h]
   by_cases e:p.1 = j
   ·rw [valV_pos (p:=(p.1,y)) e,valV_pos e,Option.map_some,if_pos (e.symm.trans h)]
   ·rw [valV_neg (p:=(p.1,y)) e,valV_neg e,ih]
  ·rw [if_neg h]
   by_cases e:p.1 = j
   ·rw [valV_pos (p:=p) e,valV_pos e,Option.map_some,if_neg (fun z=>h (e.trans z))]
   ·rw [valV_neg (p:=p) e,valV_neg e,ih]
theorem valV_snoc (k j:κ) (y:V):∀ kvs:List (κ×V),valV kvs k = none→valV (kvs ++ [(k,y)]) j = if j = k then some y else valV kvs j
 | [],_=>by
  by_cases e:k = j
  ·rw [if_pos e.symm];exact valV_pos (p:=(k,y)) e
  ·rw [if_neg (fun z=>e z.symm)];exact valV_neg (p:=(k,y)) e
 | p :: r,hn=>by
  rw [List.cons_append]
  have hk:¬ p.1 = k:=fun z=>by rw [valV_pos z] at hn;cases hn
  rw [valV_neg hk] at hn
  have ih:=valV_snoc k j y r hn
  by_cases e:p.1 = j
  ·rw [valV_pos e,valV_pos e,if_neg (fun z=>hk (e.trans z))]
  ·rw [valV_neg e,valV_neg e,ih]
theorem valV_put (kvs:List (κ×V)) (k j:κ) (y:V):valV (putK kvs k y) j = if j = k then some y else valV kvs j:=by
 unfold putK
 by_cases a:(kvs.any fun kv=>decide (kv.1 = k)) = true
 ·rw [if_pos a,valV_map]
  rw [valV_any] at a
  by_cases e:j = k
  ·obtain ⟨x,hx⟩:=Option.isSome_iff_exists.mp a
   rw [if_pos e,e,hx,Option.map_some,if_pos rfl]
  ·rw [if_neg e]
   cases valV kvs j with
   | none=>rfl
   | some x=>rw [Option.map_some,if_neg e]
 ·rw [if_neg a]
  refine valV_snoc k j y kvs ?_
  rw [valV_any] at a
  cases q:valV kvs k with
  | none=>rfl
  | some x=>rw [q] at a;exact (a rfl).elim
theorem length_putK (kvs:List (κ×V)) (k:κ) (v:V):(putK kvs k v).length≤kvs.length + 1:=by
 unfold putK
 split
 ·rw [List.length_map];omega
 ·rw [List.length_append,List.length_cons,List.length_nil];omega
theorem putK_new {kvs:List (κ×V)} {k:κ} (v:V) (h:valV kvs k = none):putK kvs k v = kvs ++ [(k,v)]:=by
 unfold putK
 rw [valV_any,h]
 exact if_neg (by decide)

theorem RelO.isSome_eq {o:Option V} {u:Option Value} (r:RelO o u):o.isSome = u.isSome:=by
 cases o with
 | none=>cases u with
  | none=>rfl
  | some _=>exact (show False from r).elim
 | some _=>cases u with
  | none=>exact (show False from r).elim
  | some _=>rfl
theorem KV.val {kvs:List (κ×V)} {vs:List (κ×Value)} (r:KV kvs vs) (k:κ):RelO (valV kvs k) (valueAt vs k):=by
 unfold KV at r
 induction r with
 | nil=>exact True.intro
 | @cons p q ps qs h t ih =>
  obtain ⟨h1,h2⟩:=h
  by_cases e:p.1 = k
  ·have e':q.1 = k:=h1.symm.trans e
   have b:valueAt (q :: qs) k = some q.2:=by simp [valueAt,List.find?_cons,e']
   rw [valV_pos e,b];exact h2
  ·have e':¬ q.1 = k:=fun z=>e (h1.trans z)
   have b:valueAt (q :: qs) k = valueAt qs k:=by simp [valueAt,List.find?_cons,e']
   rw [valV_neg e,b];exact ih
theorem KV.any {kvs:List (κ×V)} {vs:List (κ×Value)} (r:KV kvs vs) (k:κ):(kvs.any fun kv=>decide (kv.1 = k)) = vs.any fun kv=>decide (kv.1 = k):=by
 unfold KV at r
 induction r with
 | nil=>rfl
 | cons h t ih=>rw [List.any_cons,List.any_cons,ih,h.1]
theorem KV.repl {kvs:List (κ×V)} {vs:List (κ×Value)} (r:KV kvs vs) (k:κ) {y:V} {u:Value} (ry:RelV y u) :
  KV (kvs.map fun kv=>if kv.1 = k then (kv.1,y) else kv) (vs.map fun kv=>if kv.1 = k then (kv.1,u) else kv):=by
 unfold KV at r ⊢
 induction r with
 | nil=>exact .nil
 | @cons p q ps qs h t ih =>
  rw [List.map_cons,List.map_cons]
  refine .cons ?_ ih
  obtain ⟨h1,h2⟩:=h
  by_cases e:p.1 = k
  ·rw [if_pos e,if_pos (h1.symm.trans e)];exact ⟨h1,ry⟩
  ·rw [if_neg e,if_neg (fun z=>e (h1.trans z))];exact ⟨h1,h2⟩
theorem KV.put {kvs:List (κ×V)} {vs:List (κ×Value)} (r:KV kvs vs) (k:κ) {y:V} {u:Value} (ry:RelV y u):KV (putK kvs k y) (stored vs k u):=by
 unfold putK stored
 rw [r.any k]
 by_cases e:(vs.any fun kv=>decide (kv.1 = k)) = true
 ·rw [if_pos e,if_pos e];exact r.repl k ry
 ·rw [if_neg e,if_neg e];exact Paired.snoc r ⟨rfl,ry⟩
theorem KV.length {kvs:List (κ×V)} {vs:List (κ×Value)} (r:KV kvs vs):kvs.length = vs.length:=Paired.length r
end


theorem kV_is {P:Program} {w:World} {k:Key} {u:Value} (r:RelV (kV k) u):(mixKind P w).is k u = true:=by
 cases k with
 | inl i=>obtain ⟨t,e⟩:=(show ∃ t,u = Value.int i t from r);subst e;exact mixKind_int P w i t
 | inr x=>obtain ⟨t,e⟩:=(show ∃ t,u = Value.str x t from r);subst e;exact mixKind_str P w x t
theorem items_are {P:Program} {w:World}:∀ {ks:List Key} {us:List Value},Vals (ks.map kV) us→ItemsAre (mixKind P w) ks us
 | [],_,r=>by rw [List.map_nil] at r;cases r;exact .nil
 | k :: ks,_,r=>by
  rw [List.map_cons] at r
  cases r with
  | cons h t=>exact .cons (kV_is h) (items_are t)

noncomputable abbrev KT (H:Hp):List (List Key×V)→List (List Key×Addr×Value)→Prop:=Paired fun p q=>p.1 = q.1∧H q.2.1 = some (.tup (p.1.map kV))∧RelV p.2 q.2.2
theorem KT.val {H:Hp} {kvs:List (List Key×V)} {xs:List (List Key×Addr×Value)} (r:KT H kvs xs) (k:List Key):RelO (valV kvs k) ((atKey xs k).map (·.2)):=by
 induction r with
 | nil=>exact True.intro
 | @cons p q ps qs h t ih =>
  obtain ⟨h1,_,h2⟩:=h
  by_cases e:p.1 = k
  ·have e':q.1 = k:=h1.symm.trans e
   have b:atKey (q :: qs) k = some q.2:=by simp [atKey,List.find?_cons,e']
   rw [valV_pos e,b];exact h2
  ·have e':¬ q.1 = k:=fun z=>e (h1.trans z)
   have b:atKey (q :: qs) k = atKey qs k:=by simp [atKey,List.find?_cons,e']
   rw [valV_neg e,b];exact ih
theorem KT.repl {H:Hp} {kvs:List (List Key×V)} {xs:List (List Key×Addr×Value)} (r:KT H kvs xs) (k:List Key) {y:V} {u:Value} (ry:RelV y u) :
  KT H (kvs.map fun kv=>if kv.1 = k then (kv.1,y) else kv) (xs.map (putAt k u)):=by
 induction r with
 | nil=>exact .nil
 | @cons p q ps qs h t ih =>
  rw [List.map_cons,List.map_cons]
  refine .cons ?_ ih
  obtain ⟨h1,h2,h3⟩:=h
  unfold putAt
  by_cases e:p.1 = k
  ·rw [if_pos e,if_pos (h1.symm.trans e)];exact ⟨h1,h2,ry⟩
  ·rw [if_neg e,if_neg (fun z=>e (h1.trans z))];exact ⟨h1,h2,h3⟩
theorem KT.put {H:Hp} {kvs:List (List Key×V)} {xs:List (List Key×Addr×Value)} (r:KT H kvs xs) (k:List Key) {b:Addr} {y:V} {u:Value} (hb:H b = some (.tup (k.map kV))) (ry:RelV y u) :
  KT H (putK kvs k y) (storedH xs k b u):=by
 have e:(kvs.any fun kv=>decide (kv.1 = k)) = (atKey xs k).isSome:=by
  rw [valV_any,(r.val k).isSome_eq,Option.isSome_map]
 unfold putK storedH
 rw [e]
 by_cases q:(atKey xs k).isSome = true
 ·rw [if_pos q,if_pos q];exact r.repl k ry
 ·rw [if_neg q,if_neg q];exact Paired.snoc r ⟨rfl,hb,ry⟩
theorem KT.keeps {H H':Hp} {kvs:List (List Key×V)} {xs:List (List Key×Addr×Value)} (r:KT H kvs xs) (ht:∀ b ys,H b = some (.tup ys)→H' b = some (.tup ys)):KT H' kvs xs :=
 Paired.mapP r fun _ _ z=>⟨z.1,ht _ _ z.2.1,z.2.2⟩

section
variable {P:Program} {w:World} {H:Hp} {h:Heap} {a:Addr}
theorem rd_of {u:HO} (ok:HOk P w H h) (e:Rd H a u):ObjOk P w H h a u:=e.ok ok
theorem dk_rd {kvs:List (Key×V)} (ok:HOk P w H h) (e:Rd H a (.dK kvs)):kvs.length≤sizeLine∧(a == sysModules) = false∧∃ vs,KV kvs vs∧h.DictOf (mixKind P w) a vs :=
 show ObjOk P w H h a (.dK kvs) from rd_of ok e
theorem dk_of {kvs:List (Key×V)} (ok:HOk P w H h) (e:H a = some (.dK kvs)):kvs.length≤sizeLine∧(a == sysModules) = false∧∃ vs,KV kvs vs∧h.DictOf (mixKind P w) a vs:=dk_rd ok (.inl e)
theorem key_of {ks:List Key} (ok:HOk P w H h) (e:H a = some (.tup (ks.map kV))):(tupleKind (mixKind P w)).is h ks a:=by
 obtain ⟨_,its,r,o,h1,h2,n,h3⟩:=(show ObjOk P w H h a (.tup (ks.map kV)) from ok a _ e)
 exact ⟨o,its.toArray,n,h1,h2,h3,by simpa using items_are r⟩
theorem dt_rd {kvs:List (List Key×V)} (ok:HOk P w H h) (e:Rd H a (.dT kvs)):kvs.length≤sizeLine∧(a == sysModules) = false ∧
  ∃ xs,KT H kvs xs∧h.DictOfH (tupleKind (mixKind P w)) a xs:=by
 obtain ⟨z,y,xs,r,o,es,ep,h1,h2,h3,h4,h5⟩:=(show ObjOk P w H h a (.dT kvs) from rd_of ok e)
 refine ⟨z,y,xs,r,o,es,ep,h1,h2,h3,h4,fun x hx=>?_,h5⟩
 have all:∀ {l:List (List Key×V)} {m:List (List Key×Addr×Value)},KT H l m→∀ x∈m,(tupleKind (mixKind P w)).is h x.1 x.2.1:=by
  intro l m q
  induction q with
  | nil=>intro x hx;exact nomatch hx
  | @cons p q ps qs hq t ih =>
   intro x hx
   rcases List.mem_cons.mp hx with e | hx
   ·subst e
    exact key_of ok (by rw [← hq.1];exact hq.2.1)
   ·exact ih x hx
 exact all r x hx
theorem dt_of {kvs : List (List Key × V)} (ok : HOk P w H h) (e : H a = some (.dT kvs)) : kvs.length ≤ sizeLine ∧ (a == sysModules) = false ∧
    ∃ xs, KT H kvs xs ∧ h.DictOfH (tupleKind (mixKind P w)) a xs := dt_rd ok (.inl e)
end

noncomputable def DGet (H:Hp) (a:Addr) (y:V) (r:Option V):Prop :=
 (∃ kvs k,Rd H a (.dK kvs)∧y = kV k∧r = valV kvs k)∨∃ kvs k b,Rd H a (.dT kvs)∧y = .ref b∧H b = some (.tup (k.map kV))∧r = valV kvs k
noncomputable def DPut (H:Hp) (a:Addr) (y v:V) (H':Hp):Prop :=
 (∃ kvs k,H a = some (.dK kvs)∧y = kV k∧kvs.length < sizeLine∧H' = upd H a (.dK (putK kvs k v))) ∨
 ∃ kvs k b,H a = some (.dT kvs)∧y = .ref b∧H b = some (.tup (k.map kV))∧kvs.length < sizeLine∧H' = upd H a (.dT (putK kvs k v))
theorem DGet.k {H:Hp} {a:Addr} {kvs:List (Key×V)} {k:Key} (e:H a = some (.dK kvs)):DGet H a (kV k) (valV kvs k):=.inl ⟨kvs,k,.inl e,rfl,rfl⟩
theorem DGet.t {H:Hp} {a b:Addr} {kvs:List (List Key×V)} {k:List Key} (e:H a = some (.dT kvs)) (eb:H b = some (.tup (k.map kV))):DGet H a (.ref b) (valV kvs k):=.inr ⟨kvs,k,b,.inl e,rfl,eb,rfl⟩
theorem DPut.k {H:Hp} {a:Addr} {kvs:List (Key×V)} {k:Key} {v:V} (e:H a = some (.dK kvs)) (hl:kvs.length < sizeLine):DPut H a (kV k) v (upd H a (.dK (putK kvs k v))):=.inl ⟨kvs,k,e,rfl,hl,rfl⟩
theorem DPut.t {H : Hp} {a b : Addr} {kvs : List (List Key × V)} {k : List Key} {v : V} (e : H a = some (.dT kvs)) (eb : H b = some (.tup (k.map kV))) (hl : kvs.length < sizeLine) :
    DPut H a (.ref b) v (upd H a (.dT (putK kvs k v))) := .inr ⟨kvs, k, b, e, rfl, eb, hl, rfl⟩


section
variable {X:Cx} {pins:List (Addr×Obj)} {σ:St} {H:Hp} {s:Shared} {a:Addr} {y v:V} {u r:Value} {o:Option V} {A:Around} {E:Value→Shared→Prop}

theorem Inv.big (I:Inv X pins σ H s):sysModules < s.heap.objs.size:=by
 have h:mainGlobals < s.heap.objs.size:=(I.mod.glob.keeps I.bk).lt
 exact Nat.lt_trans (by decide) h

theorem d_getItem {Q:Value→Shared→Prop} (hu:A.units + 1 < cLine) (I:Inv X pins σ H s) (g:DGet H a y (some v)) (ry:RelV y u) (h:∀ w' s',Inv X pins σ H s'→RelV v w'→Q w' s') :
  wpAny (model X.prog X.w) A (getItem (.ref a) u) Q E s:=by
 rcases g with ⟨kvs,k,e,ey,l⟩ | ⟨kvs,k,b,e,ey,eb,l⟩
 ·subst ey
  obtain ⟨z,hd,vs,rel,dd⟩:=dk_rd I.hok e
  obtain ⟨w',hw,rw'⟩:=RelO.some_of (v:=v) (o:=valueAt vs k) (by rw [l];exact rel.val k)
  exact wpAny_getItem_of (kV_is ry) dd.mapOf hw (h w' _ (I.tok _) rw')
 ·subst ey
  cases (show u = Value.ref b from ry)
  obtain ⟨z,hd,xs,rel,dd⟩:=dt_rd I.hok e
  obtain ⟨w',hw,rw'⟩:=RelO.some_of (v:=v) (o:=(atKey xs k).map (·.2)) (by rw [l];exact rel.val k)
  obtain ⟨p,hp,hp2⟩:=Option.map_eq_some_iff.mp hw
  refine wpAny_getItem_heap (tupleKind_room_in1 hu) (key_of I.hok eb) dd hp ?_
  rw [hp2]
  exact h w' _ (I.tok _) rw'
theorem d_notIn {Q:Value→Shared→Prop} (hu:A.units + 1 < cLine) (I:Inv X pins σ H s) (g:DGet H a y o) (ry:RelV y u) (h:∀ s',Inv X pins σ H s'→Q (.bool (!o.isSome)) s') :
  wpAny (model X.prog X.w) A (compareOp .NotIn u (.ref a)) Q E s:=by
 rcases g with ⟨kvs,k,e,ey,l⟩ | ⟨kvs,k,b,e,ey,eb,l⟩
 ·subst ey
  obtain ⟨z,hd,vs,rel,dd⟩:=dk_rd I.hok e
  refine wpAny_notIn_of (kV_is ry) hd dd.mapOf ?_
  rw [← (rel.val k).isSome_eq,← l]
  exact h _ (I.tok _)
 ·subst ey
  cases (show u = Value.ref b from ry)
  obtain ⟨z,hd,xs,rel,dd⟩:=dt_rd I.hok e
  refine wpAny_notIn_heap (tupleKind_room_in1 hu) (key_of I.hok eb) hd dd ?_
  have q:=(rel.val k).isSome_eq
  rw [Option.isSome_map] at q
  rw [← q,← l]
  exact h _ (I.tok _)
theorem d_write {h':Heap} {t':Nat} {ob:HO} (I:Inv X pins σ H s) (mu:Mut (H a)) (hs:Heap.SameBut a s.heap h') (he:∃ q,h'.get? a = some q) (new:ObjOk X.prog X.w (upd H a ob) h' a ob) :
  Inv X pins σ (upd H a ob) { s with heap:=h',toks:=t' } :=
 I.write (x:=a) (e:=a) mu (.inl rfl) (fun b q hb z=>(hs.2 b hb).trans z) he new
theorem dk_new {P : Program} {w : World} {H' : Hp} {h' : Heap} {kvs : List (Key × V)} {vs : List (Key × Value)} (z : kvs.length ≤ sizeLine) (hd : (a == sysModules) = false) (rel : KV kvs vs) (dd : h'.DictOf (mixKind P w) a vs) :
    ObjOk P w H' h' a (.dK kvs) := ⟨z, hd, vs, rel, dd⟩
theorem d_setItem {H':Hp} {Q:Unit→Shared→Prop} (hu:A.units + 1 < cLine) (I:Inv X pins σ H s) (g:DPut H a y v H') (ry:RelV y u) (rv:RelV v r) (h:∀ s',Inv X pins σ H' s'→Q () s') :
  wpAny (model X.prog X.w) A (setItem (.ref a) u r) Q E s:=by
 rcases g with ⟨kvs,k,e,ey,l,eH⟩ | ⟨kvs,k,b,e,ey,eb,l,eH⟩
 ·subst ey eH
  obtain ⟨z,hd,vs,rel,dd⟩:=dk_of I.hok e
  have hz:vs.length≤sizeLine:=by rw [← rel.length];exact z
  have hl:(putK kvs k v).length≤sizeLine:=by have:=length_putK kvs k v;omega
  refine wpAny_setItem_pairs (hsz:=hz) (kV_is ry) dd fun h' dd' hs=>h _ ?_
  have he:∃ q,h'.get? a = some q:=let ⟨q,_,_,hq,_⟩:=dd';⟨q,hq⟩
  exact d_write I (by rw [e];exact True.intro) hs he (dk_new hl hd (rel.put k rv) dd')
 ·subst ey eH
  cases (show u = Value.ref b from ry)
  obtain ⟨z,hd,xs,rel,dd⟩:=dt_of I.hok e
  have hz:xs.length≤sizeLine:=by rw [← Paired.length rel];exact z
  have hl:(putK kvs k v).length≤sizeLine:=by have:=length_putK kvs k v;omega
  refine wpAny_setItem_heap (hsz:=hz) (tupleKind_room_in1 hu) (key_of I.hok eb) dd fun h' dd' hs=>h _ ?_
  obtain ⟨q,es,ep,hq,h2,h3,h4,_,h5⟩:=dd'
  refine d_write I (by rw [e];exact True.intro) hs ⟨q,hq⟩ ⟨hl,hd,_,(rel.put k eb rv).keeps fun c ys ec=>?_,q,es,ep,hq,h2,h3,h4,h5⟩
  rw [upd_ne (ne_of ec e (fun z=>nomatch z))]
  exact ec
end



noncomputable def NoSl (i:Expr):Prop:=∀ ov iv,subscripted i false ov iv = operate [ov,iv] (getItem ov iv)
theorem subD_of {prog:Program} {w:World} {A:Around} {E:Value→Shared→Prop} {s:Shared} {env:Env} {value slice:Expr} {pos:Pos} {T id:String} {Q:Value→Shared→Prop}
  (hl:typeLookup (.type T) "__getitem__" = pure (some (.builtin id))) (hs:NoSl slice)
  (h:wpAny (model prog w) A (eval value env) (fun o s₁=>wpAny (model prog w) A (eval slice env) (fun i s₂=>s₂.TypeIs o T∧wpAny (model prog w) A (getItem o i) Q E s₂) E s₁) E s) :
  wpAny (model prog w) A (eval (.Subscript value slice pos) env) Q E s:=by
 refine Subscript_ (wpAny_mono h (fun o s₁ h₁=>wpAny_mono h₁ (fun i s₂ h₂=>?_) fun _ _ x=>x) fun _ _ x=>x)
 obtain ⟨hT,h₂⟩:=h₂
 unfold subscriptTail
 refine wpAny_bind ?_
 rw [getitemInPython_of_ne hT.not_modules]
 refine wpAny_bind (wpAny_specialOf hT hl ?_)
 have fin:wpAny (model prog w) A (subscripted slice false o i) (fun r s₃=>wpAny (model prog w) A (letTemporaryGo value o r >>= fun _=>pure r) Q E s₃) E s₂:=by
  rw [hs o i]
  exact wpAny_operating (wpAny_mono h₂ (fun r s₃ h₃=>wpAny_bind (wpAny_letTemporaryGo (wpAny_pure h₃))) fun _ _ x=>x)
 first
  | exact wpAny_pure (wpAny_bind fin)
  | exact wpAny_bind (wpAny_pure (wpAny_bind fin))
  | exact wpAny_bind fin

theorem dict_typeIs {X:Cx} {pins:List (Addr×Obj)} {σ:St} {H:Hp} {s:Shared} {a:Addr} {y:V} {o:Option V} (I:Inv X pins σ H s) (g:DGet H a y o):s.TypeIs (.ref a) "dict":=by
 rcases g with ⟨kvs,k,e,_,_⟩ | ⟨kvs,k,b,e,_,_,_⟩
 ·obtain ⟨_,_,vs,_,dd⟩:=dk_rd I.hok e
  exact dd.typeIs
 ·obtain ⟨_,_,xs,_,dd⟩:=dt_rd I.hok e
  exact dd.typeIs
noncomputable def tDGet (td ty:TE):TE:=fun σ H Q=>td σ H fun x H1=>ty σ H1 fun y H2=>∃ a v,x = .ref a∧DGet H2 a y (some v)∧Q v H2
noncomputable def tDNotIn (ty td:TE):TE:=fun σ H Q=>ty σ H fun y H1=>td σ H1 fun x H2=>∃ a o,x = .ref a∧DGet H2 a y o∧Q (.bl (!o.isSome)) H2
noncomputable def sDPut (td ty tv:TE):TS:=fun D σ H=>tv σ H fun v H1=>td σ H1 fun x H2=>ty σ H2 fun y H3=>∃ a H4,x = .ref a∧DPut H3 a y v H4∧D.nx σ H4
section
variable {X:Cx} {o i e value:Expr} {pos pos' tpos:Pos} {td ty tv:TE}
theorem pe_dget (hu:X.A.units + 1 < cLine) (ho:PE X o td) (hi:PE X i ty) (hs:NoSl i):PE X (.Subscript o i pos) (tDGet td ty):=by
 intro pins s σ H Q I h
 refine subD_of PySem.F.slot_dict_getitem.lookup hs (thn (ho pins s σ H _ I h) fun u s1 ⟨x,H1,I1,rx,q1⟩=>thn (hi pins s1 σ H1 _ I1 q1) fun iv s2 ⟨y,H2,I2,ry,a,v,ex,g,q2⟩=>?_)
 subst ex
 obtain rfl:u = Value.ref a:=rx
 exact ⟨dict_typeIs I2 g,d_getItem hu I2 g ry fun w' s3 I3 rw'=>⟨v,H2,I3,rw',q2⟩⟩
theorem pc_dnotin (hu:X.A.units + 1 < cLine) (hi:PE X i ty) (ho:PE X o td):PC X .NotIn i o (tDNotIn ty td):=by
 intro pins s σ H Q I h
 refine thn (hi pins s σ H _ I h) fun iv s1 ⟨y,H1,I1,ry,q1⟩=>thn (ho pins s1 σ H1 _ I1 q1) fun u s2 ⟨x,H2,I2,rx,a,ov,ex,g,q2⟩=>?_
 subst ex
 obtain rfl:u = Value.ref a:=rx
 exact d_notIn hu I2 g ry fun s3 I3=>⟨.bl (!ov.isSome),H2,I3,rfl,q2⟩
theorem ps_dput (hu:X.A.units + 1 < cLine) (ho:PE X o td) (hi:PE X i ty) (hv:PE X value tv) (hs:swapsWith value (some (.Subscript o i pos')) pos.line X.env = pure false) :
  PS X (.Assign [.Subscript o i pos'] value pos) (sDPut td ty tv):=by
 intro pins s σ H D I h
 refine wpAny_Assign_Subscript (thn (hv pins s σ H _ I h) fun r s1 ⟨v,H1,I1,rv,q1⟩=>thn (ho pins s1 σ H1 _ I1 q1) fun u s2 ⟨x,H2,I2,rx,q2⟩=>thn (hi pins s2 σ H2 _ I2 q2) fun iv s3 ⟨y,H3,I3,ry,a,H4,ex,g,q3⟩=>?_) hs
 subst ex
 obtain rfl:u = Value.ref a:=rx
 exact d_setItem hu I3 g ry rv fun s4 I4=>⟨σ,H4,I4,q3⟩
end


theorem dk_empty {P:Program} {w:World} {H:Hp} (h:Heap) (hb:sysModules < h.objs.size):ObjOk P w H (h.push { cls:=.type "dict",data:=.dict #[] }) h.objs.size (.dK []) :=
 ⟨Nat.zero_le _,beq_eq_false_iff_ne.mpr (Ne.symm (Nat.ne_of_lt hb)),[],.nil,Heap.DictOf.new h⟩
theorem dt_empty {P:Program} {w:World} {H:Hp} (h:Heap) (hb:sysModules < h.objs.size):ObjOk P w H (h.push { cls:=.type "dict",data:=.dict #[] }) h.objs.size (.dT []) :=
 ⟨Nat.zero_le _,beq_eq_false_iff_ne.mpr (Ne.symm (Nat.ne_of_lt hb)),[],.nil,_,#[],0,Heap.get?_push_size _ rfl,⟨rfl,rfl,rfl⟩,rfl,rfl,List.nodup_nil⟩
noncomputable def tDNewK:TE:=fun _ H Q=>∀ p,H p = none→Q (.ref p) (upd H p (.dK []))
noncomputable def tDNewT:TE:=fun _ H Q=>∀ p,H p = none→Q (.ref p) (upd H p (.dT []))
section
variable {X:Cx} {pos:Pos}
theorem pe_dnewK:PE X (.Dict [] [] pos) tDNewK:=fun pins s σ H Q I h =>
 wpAny_Dict_empty ⟨.ref s.heap.objs.size,_,I.laid (a:=s.heap.objs.size) (o:=.dK []) (t':=s.toks) (fun _ _ q=>Heap.get?_push_of_some _ q) (Nat.le_refl _) (dk_empty s.heap I.big),rfl,h _ (I.hok.fresh (Nat.le_refl _))⟩
theorem pe_dnewT:PE X (.Dict [] [] pos) tDNewT:=fun pins s σ H Q I h =>
 wpAny_Dict_empty ⟨.ref s.heap.objs.size,_,I.laid (a:=s.heap.objs.size) (o:=.dT []) (t':=s.toks) (fun _ _ q=>Heap.get?_push_of_some _ q) (Nat.le_refl _) (dt_empty s.heap I.big),rfl,h _ (I.hok.fresh (Nat.le_refl _))⟩
end

noncomputable def tPairs:List (TE×TE)→St→Hp→(List (V×V)→Hp→Prop)→Prop
 | [],_,H,Q=>Q [] H
 | (tk,tv) :: r,σ,H,Q=>tk σ H fun x H1=>tv σ H1 fun y H2=>tPairs r σ H2 fun ps H3=>Q ((x,y) :: ps) H3
noncomputable abbrev VV:List (V×V)→List (Value×Value)→Prop:=Paired fun p q=>RelV p.1 q.1∧RelV p.2 q.2
noncomputable def PPs (X:Cx) (pos:Pos) (keys:List (Option Expr)) (values:List Expr) (trs:List (TE×TE)):Prop :=
 ∀ (pins:List (Addr×Obj)) (s:Shared) (σ:St) (H:Hp) (Q:List (V×V)→Hp→Prop),Inv X pins σ H s→tPairs trs σ H Q →
  wpAny (model X.prog X.w) X.A (evalPairs (pairTrees keys values X.env pos)) (fun vs s'=>∃ ps H',Inv X pins σ H' s'∧VV ps vs∧Q ps H') X.xe s
theorem pps_nil {X:Cx} {pos:Pos}:PPs X pos [] [] []:=fun pins s σ H Q I h=>pairTrees_nil_walk ⟨[],H,I,.nil,h⟩
theorem pps_cons {X:Cx} {pos:Pos} {k v:Expr} {ks:List (Option Expr)} {vs:List Expr} {tk tv:TE} {trs:List (TE×TE)} (hk:PE X k tk) (hv:PE X v tv) (hr:PPs X pos ks vs trs) :
  PPs X pos (some k :: ks) (v :: vs) ((tk,tv) :: trs):=fun pins s σ H Q I h =>
 pairTrees_cons_walk (thn (hk pins s σ H _ I h) fun u s1 ⟨x,H1,I1,rx,q1⟩=>thn (hv pins s1 σ H1 _ I1 q1) fun w2 s2 ⟨y,H2,I2,ry,q2⟩ =>
  thn (hr pins s2 σ H2 _ I2 q2) fun ws s3 ⟨ps,H3,I3,rel,q3⟩=>⟨(x,y) :: ps,H3,I3,.cons ⟨rx,ry⟩ rel,q3⟩)

structure M2 (X:Cx) (o:Expr) (m:Str) (apos:Pos) (e f:Expr) (cpos:Pos):Prop where
 base:attributeBase o m X.env (eval o X.env) = eval o X.env
 few:((backTo cpos (starEach [e,f] X.env)).all (fun x=>!x.1) && (backToKw cpos (keywordEach [] X.env)).all (fun x=>x.1.isSome)
  && decide (([e,f]:List Expr).length + ([]:List Keyword).length + (if ([]:List Keyword).isEmpty then 0 else 1) < 30)) = true
 line:(apos.endLine == cpos.line) = true
 trees:backTo cpos (starEach [e,f] X.env) = [(false,eval e X.env),(false,eval f X.env)]

noncomputable def IsD (H:Hp) (a:Addr):Prop:=(∃ kvs,Rd H a (.dK kvs))∨∃ kvs,Rd H a (.dT kvs)
theorem isD_at {X:Cx} {pins:List (Addr×Obj)} {σ:St} {H:Hp} {s:Shared} {a:Addr} (I:Inv X pins σ H s) (d:IsD H a) :
  s.TypeIs (.ref a) "dict"∧(∀ b,Value.ref a = .ref b→∃ ob,s.heap.get? b = some ob∧ob.dict = none)∧(a == sysModules) = false:=by
 rcases d with ⟨kvs,e⟩ | ⟨kvs,e⟩
 ·obtain ⟨_,hd,vs,_,dd⟩:=dk_rd I.hok e
  refine ⟨dd.typeIs,fun b q=>?_,hd⟩
  cases q
  obtain ⟨ob,_,_,h1,h2,_⟩:=dd
  exact ⟨ob,h1,h2.2.1⟩
 ·obtain ⟨_,hd,xs,_,dd⟩:=dt_rd I.hok e
  refine ⟨dd.typeIs,fun b q=>?_,hd⟩
  cases q
  obtain ⟨ob,_,_,h1,h2,_⟩:=dd
  exact ⟨ob,h1,h2.2.1⟩





end L2


namespace HT
open PySem PyProof.Rows


section
variable {prog:Program} {w:World} {A:Around} {E:Value→Shared→Prop} {s:Shared}

theorem cat_tup {t b:Addr} {vs ws:List Value} {Q:Value→Shared→Prop} (ht:IsTup s.heap t vs.toArray) (hb:IsTup s.heap b ws.toArray) (hv:vs≠[])
  (h1:ws = []→Q (.ref t) s) (h2:ws≠[]→Q (.ref s.heap.objs.size) { s with heap:=s.heap.push { cls:=.type "tuple",data:=.seq (vs ++ ws).toArray } })
  (hsz:vs.length + ws.length≤sizeLine):wpAny (model prog w) A (binaryOp .Add (.ref t) (.ref b)) Q E s:=by
 obtain ⟨⟨cls,dd,data,sl⟩,ho,hc,n,hd⟩:=id ht
 obtain ⟨⟨cls2,dd2,data2,sl2⟩,ho2,hc2,n2,hd2⟩:=id hb
 simp only at hc hd hc2 hd2
 subst hc hd hc2 hd2
 have e:vs.toArray ++ ws.toArray = (vs ++ ws).toArray:=by simp
 by_cases hw:ws = []
 ·exact concat_meets ⟨_,ho,rfl⟩ ⟨_,ho2,rfl⟩ noFill_tuple_add seq_tuple_add PySem.F.slot_tuple_add PySem.F.entry_tuple_add (PySem.F.args_tuple_add_2 _ _)
   (tuple_addW1 t b vs.toArray ws.toArray n n2 dd dd2 sl sl2 (by simpa using hv) (by simp [hw])) ⟨ho,ho2,h1 hw⟩
 ·refine concat_meets ⟨_,ho,rfl⟩ ⟨_,ho2,rfl⟩ noFill_tuple_add seq_tuple_add PySem.F.slot_tuple_add PySem.F.entry_tuple_add (PySem.F.args_tuple_add_2 _ _)
   (tuple_addW2 t b vs.toArray ws.toArray n n2 dd dd2 sl sl2 (by simpa using hv) (by simpa using hw) (by rw [List.size_toArray,List.size_toArray];exact hsz)) ⟨ho,ho2,?_⟩
  rw [e]
  exact h2 hw

noncomputable def sIx (n d:Nat):Option Int→Nat
 | none=>d
 | some v=>if v < 0 then (v + (n:Int)).toNat else min v.toNat n
theorem sIx_le (n d:Nat) (hd:d≤n) (o:Option Int):sIx n d o≤n:=by
 cases o with
 | none=>exact hd
 | some v =>
  show (if v < 0 then (v + (n:Int)).toNat else min v.toNat n)≤n
  by_cases hv:v < 0
  ·rw [if_pos hv];omega
  ·rw [if_neg hv];exact Nat.min_le_right _ _
theorem clip_eq (v:Int) (n d:Nat):(if v < 0 then max (v + (n:Int)) 0 else min v (n:Int)) = ((sIx n d (some v):Nat):Int):=by
 show (if v < 0 then max (v + (n:Int)) 0 else min v (n:Int)) = (((if v < 0 then (v + (n:Int)).toNat else min v.toNat n):Nat):Int)
 by_cases hv:v < 0
 ·simp only [if_pos hv];omega
 ·simp only [if_neg hv];omega
theorem adjust_gen (lo hi:Option Int) (n:Nat):Builtin.Slice.sliceAdjust lo hi 1 (n:Int) = (((sIx n 0 lo:Nat):Int),((sIx n n hi:Nat):Int)):=by
 have h1:¬ ((1:Int) < 0):=by omega
 unfold Builtin.Slice.sliceAdjust
 simp only [h1,if_false]
 refine Prod.ext ?_ ?_
 ·cases lo with
  | none=>rfl
  | some v=>exact clip_eq v n 0
 ·cases hi with
  | none=>rfl
  | some v=>exact clip_eq v n n
theorem places_gen (i j:Nat):Builtin.Slice.slicePlaces (i:Int) (j:Int) 1 = j - i:=by
 unfold Builtin.Slice.slicePlaces
 have h1:(1:Int) > 0:=by omega
 simp only [h1,if_true,Int.ediv_one]
 split <;> omega
theorem slicePart_ {v:Value} {o:Option Int} {Q:Option Int→Shared→Prop} (p:IsPart v o) (h:Q o s):wpAny (model prog w) A (Builtin.Slice.slicePartIndex v) Q E s:=by
 cases p with
 | none=>exact slicePart_none h
 | int i t=>exact slicePart_int h
theorem sliceApplied_gen {sl:Addr} {vl vu:Value} {lo hi:Option Int} {n:Nat} {Q:Int×Int×Nat→Shared→Prop} (hs:s.heap.IsSliceOf sl vl vu .none) (pl:IsPart vl lo) (pu:IsPart vu hi)
  (h:Q (((sIx n 0 lo:Nat):Int),1,sIx n n hi - sIx n 0 lo) s):wpAny (model prog w) A (Builtin.Slice.sliceApplied (.ref sl) (pure (n:Int))) Q E s:=by
 obtain ⟨os,hos,hcs,hds⟩:=id hs
 unfold Builtin.Slice.sliceApplied Builtin.Slice.sliceFields
 refine wpAny_bind (wpAny_bind (wpAny_field hos hds (x:=vl) rfl (wpAny_bind (wpAny_field hos hds (x:=vu) rfl (wpAny_bind (wpAny_field hos hds (x:=.none) rfl (wpAny_pure ?_)))))))
 refine wpAny_bind (slicePart_none ?_)
 show wpAny _ _ (if ((1:Int) == 0) = true then _ else _) _ _ s
 rw [if_neg (by decide)]
 refine wpAny_bind (slicePart_ pl (wpAny_bind (slicePart_ pu (wpAny_bind (wpAny_pure ?_)))))
 show wpAny _ _ (match Builtin.Slice.sliceAdjust lo hi 1 (n:Int) with | (lo,hi)=>pure (lo,(1:Int),Builtin.Slice.slicePlaces lo hi 1)) _ _ s
 rw [adjust_gen lo hi n]
 show wpAny _ _ (pure (((sIx n 0 lo:Nat):Int),(1:Int),Builtin.Slice.slicePlaces ((sIx n 0 lo:Nat):Int) ((sIx n n hi:Nat):Int) 1)) _ _ s
 rw [places_gen]
 exact wpAny_pure h
theorem pick_gen (xs:Array Value) (i k:Nat):((List.range k).filterMap fun (m:Nat)=>xs[((i:Int) + (m:Int) * 1).toNat]?).toArray = ((xs.toList.drop i).take k).toArray:=by
 have e:(fun (m:Nat)=>xs[((i:Int) + (m:Int) * 1).toNat]?) = fun m=>xs[i + m]?:=by
  funext m
  have:((i:Int) + (m:Int) * 1).toNat = i + m:=by omega
  rw [this]
 rw [e]
 have:=pick_run xs i k
 rw [List.filterMap_map] at this
 have e2:((fun x=>xs[x]?) ∘ fun x=>i + x) = fun m=>xs[i + m]?:=rfl
 rw [e2] at this
 rw [this]

theorem getItem_tuple_cut {t sl:Addr} {items:Array Value} {vl vu:Value} {lo hi:Option Int} {Q:Value→Shared→Prop} (ht:IsTup s.heap t items) (hs:s.heap.IsSliceOf sl vl vu .none) (pl:IsPart vl lo) (pu:IsPart vu hi)
  (hw:¬ (sIx items.size 0 lo = 0∧sIx items.size items.size hi = items.size))
  (h:Q (.ref s.heap.objs.size) { s with heap:=s.heap.push { cls:=.type "tuple",data:=.seq ((items.toList.drop (sIx items.size 0 lo)).take (sIx items.size items.size hi - sIx items.size 0 lo)).toArray } })
  (hsz:items.size≤sizeLine):wpAny (model prog w) A (getItem (.ref t) (.ref sl)) Q E s:=by
 have htake:sizeOk (.seq ((items.toList.drop (sIx items.size 0 lo)).take (sIx items.size items.size hi - sIx items.size 0 lo)).toArray):=by
  show ((items.toList.drop (sIx items.size 0 lo)).take (sIx items.size items.size hi - sIx items.size 0 lo)).toArray.size≤sizeLine
  rw [List.size_toArray,List.length_take,List.length_drop,Array.length_toList]
  omega
 have hj:sIx items.size items.size hi≤items.size:=sIx_le _ _ (Nat.le_refl _) hi
 obtain ⟨os,hos,hcs,hds⟩:=id hs
 have hTs:s.TypeIs (.ref sl) "slice":=⟨os,hos,hcs⟩
 unfold getItem
 try with_reducible refine wpAny_holding ?_
 first | refine wpAny_bind (wpAny_pure ?_) | skip
 refine wpAny_bind (wpAny_sequenceKey ht.typeIs (by decide) ?_)
 refine wpAny_bind (wpAny_callSpecial?_slot (name:=Str.ofString "__getitem__") ht.typeIs PyProof.Rows.slot_tuple_getitem
  (wpAny_call_entry PyProof.Rows.slot_tuple_getitem ht.typeIs entry_tuple_getitem ?_ (args_tuple_getitem _ _)))
 show wpAny _ _ (Builtin.Tuple.tupleItemsOf (.ref t) >>= _) _ _ s
 refine wpAny_bind (tupleItemsOf_ ht ?_)
 refine wpAny_bind (wpAny_typeOf hTs ?_)
 rw [if_pos (by decide)]
 refine wpAny_bind (sliceApplied_gen hs pl pu ?_)
 have hno:¬ ((((sIx items.size 0 lo:Nat):Int) == 0 && (1:Int) == 1 && (sIx items.size items.size hi - sIx items.size 0 lo) == items.size) = true):=by
  intro q
  rw [Bool.and_eq_true,Bool.and_eq_true] at q
  have q1:((sIx items.size 0 lo:Nat):Int) = 0:=eq_of_beq q.1.1
  have q2:sIx items.size items.size hi - sIx items.size 0 lo = items.size:=eq_of_beq q.2
  exact hw ⟨by omega,by omega⟩
 show wpAny _ _ (if (((sIx items.size 0 lo:Nat):Int) == 0 && (1:Int) == 1 && (sIx items.size items.size hi - sIx items.size 0 lo) == items.size) = true then _ else _) _ _ s
 rw [if_neg hno,pick_gen]
 first
  | exact wpAny_bind (m:=Builtin.Tuple.tupleExact _) (wpAny_newObj_type (wpAny_pure ⟨_,rfl,wpAny_pure h⟩) htake)
  | exact wpAny_bind (m:=Builtin.Tuple.tupleExact _) (wpAny_newObj_type (wpAny_bind (wpAny_pure (wpAny_pure ⟨_,rfl,wpAny_pure h⟩))) htake)
  | exact wpAny_bind (wpAny_bind (m:=Builtin.Tuple.tupleExact _) (wpAny_newObj_type (wpAny_pure (wpAny_pure ⟨_,rfl,wpAny_pure h⟩)) htake))
  | exact wpAny_bind (wpAny_bind (m:=Builtin.Tuple.tupleExact _) (wpAny_newObj_type (wpAny_pure ⟨_,rfl,wpAny_pure h⟩) htake))
end
end HT

namespace L2
open PySem PySem.Spec PyProof.Rows

noncomputable abbrev TO:=St→Hp→(Option Int→Hp→Prop)→Prop
noncomputable def PO (X:Cx) (e:Option Expr) (t:TO):Prop :=
 ∀ (pins:List (Addr×Obj)) (s:Shared) (σ:St) (H:Hp) (Q:Option Int→Hp→Prop),Inv X pins σ H s→t σ H Q →
  wpAny (model X.prog X.w) X.A (evalPart e X.env) (fun u s'=>∃ o H',Inv X pins σ H' s'∧IsPart u o∧Q o H') X.xe s
noncomputable def tNoPart:TO:=fun _ H Q=>Q none H
noncomputable def tPart (t:TE):TO:=fun σ H Q=>t σ H fun x H1=>∃ i,x = .int i∧Q (some i) H1

section
variable {X:Cx} {e:Expr} {te:TE} {lo hi:Option Expr} {tl th:TO} {pos p2:Pos}

theorem po_none:PO X none tNoPart:=by
 intro pins s σ H Q I h
 rw [evalPart_none]
 exact wpAny_pure ⟨none,H,I,.none,h⟩
theorem po_some (h:PE X e te):PO X (some e) (tPart te):=by
 intro pins s σ H Q I hw
 rw [evalPart_some]
 refine thn (h pins s σ H _ I hw) fun u s1 ⟨x,H1,I1,r1,q1⟩=>?_
 obtain ⟨i,rfl,q⟩:=q1
 obtain ⟨t,rfl⟩:=r1
 exact ⟨some i,H1,I1,.int i t,q⟩

noncomputable def SlR (X:Cx) (r:V→Option Int→Option Int→Hp→VK→Prop):Prop :=
 ∀ (pins:List (Addr×Obj)) (s:Shared) (σ:St) (H:Hp) (x:V) (v vl vu:Value) (lo hi:Option Int) (sl:Addr) (Q:VK),Inv X pins σ H s→RelV x v→s.heap.IsSliceOf sl vl vu .none→IsPart vl lo→IsPart vu hi→r x lo hi H Q →
  ∃ T id,typeLookup (.type T) "__getitem__" = pure (some (.builtin id))∧s.TypeIs v T∧wpAny (model X.prog X.w) X.A (getItem v (.ref sl)) (EP X pins σ Q) X.xe s
noncomputable def tSl (r:V→Option Int→Option Int→Hp→VK→Prop) (te:TE) (tl th:TO):TE:=fun σ H Q=>te σ H fun x H1=>tl σ H1 fun l H2=>th σ H2 fun u H3=>r x l u H3 Q
theorem pe_slice {r:V→Option Int→Option Int→Hp→VK→Prop} (hr:SlR X r) (he:PE X e te) (hl:PO X lo tl) (hu:PO X hi th):PE X (.Subscript e (.Slice lo hi none p2) pos) (tSl r te tl th):=by
 intro pins s σ H Q I h
 refine Subscript_ (thn (he pins s σ H _ I h) fun v s1 ⟨x,H1,I1,r1,q1⟩=>?_)
 refine wpAny_Slice (thn (hl pins s1 σ H1 _ I1 q1) fun vl s2 ⟨l,H2,I2,pl,q2⟩=>thn (hu pins s2 σ H2 _ I2 q2) fun vu s3 ⟨u,H3,I3,pu,q3⟩=>?_)
 rw [evalPart_none]
 refine wpAny_pure ?_
 have I4:Inv X pins σ H3 { s3 with heap:=s3.heap.push { cls:=.type "slice",data:=.fields #[vl,vu,.none] } }:=I3.kept (t':=s3.toks) fun b ob q=>Heap.get?_push_of_some _ q
 obtain ⟨T,id,hT,ht,hg⟩:=hr pins { s3 with heap:=s3.heap.push { cls:=.type "slice",data:=.fields #[vl,vu,.none] } } σ H3 x v vl vu l u s3.heap.objs.size Q I4 r1 (Heap.IsSliceOf.new ..) pl pu q3
 show wpAny (model X.prog X.w) X.A (subscriptTail e (.Slice lo hi none p2) v (.ref s3.heap.objs.size)) (EP X pins σ Q) X.xe { s3 with heap:=s3.heap.push { cls:=.type "slice",data:=.fields #[vl,vu,.none] } }
 exact tail_any (ops:=[.ref s3.heap.objs.size,v]) ht hT hg (by with_unfolding_all rfl)

noncomputable def cutV (xs:List V) (lo hi:Option Int):List V:=(xs.drop (HT.sIx xs.length 0 lo)).take (HT.sIx xs.length xs.length hi - HT.sIx xs.length 0 lo)
theorem cutV_length (xs:List V) (lo hi:Option Int):(cutV xs lo hi).length≤xs.length:=by
 unfold cutV
 rw [List.length_take,List.length_drop]
 omega
noncomputable def rSlT (K:PySem.W.Frag):V→Option Int→Option Int→Hp→VK→Prop:=fun x lo hi H Q=>∃ a xs,x = .ref a∧SqT K H a xs ∧
 ¬ (HT.sIx xs.length 0 lo = 0∧HT.sIx xs.length xs.length hi = xs.length)∧∀ p,H p = none→Q (.ref p) (upd H p (.tup (cutV xs lo hi)))
theorem sl_tup:SlR X (rSlT X.K):=by
 intro pins s σ H x v vl vu lo hi sl Q I rx hs pl pu h
 obtain ⟨a,xs,rfl,hx,hw,q⟩:=h
 cases rx
 obtain ⟨its,r,ht,hz⟩:=I.tuple hx
 have hlen:its.toArray.size = xs.length:=by rw [List.size_toArray];exact r.length.symm
 refine ⟨"tuple",_,PyProof.Rows.slot_tuple_getitem.lookup,ht.typeIs,?_⟩
 refine HT.getItem_tuple_cut ht hs pl pu (by rw [hlen];exact hw) ?_ (by rw [hlen];exact hz)
 rw [hlen]
 refine ⟨.ref s.heap.objs.size,_,I.laid (t':=s.toks) (o:=.tup (cutV xs lo hi)) (fun b ob q=>Heap.get?_push_of_some _ q) (Nat.le_refl _) ?_,rfl,q _ (I.hok.fresh (Nat.le_refl _))⟩
 exact ⟨Nat.le_trans (cutV_length xs lo hi) hz,_,(r.drop (HT.sIx xs.length 0 lo)).take (HT.sIx xs.length xs.length hi - HT.sIx xs.length 0 lo),IsTup.new _ _⟩

noncomputable def rCatT (K:PySem.W.Frag):R2:=fun x y H Q=>∃ a b xs ys,x = .ref a∧y = .ref b∧SqT K H a xs∧SqT K H b ys∧xs≠[]∧xs.length + ys.length≤sizeLine ∧
 (ys = []→Q (.ref a) H)∧(ys≠[]→∀ p,H p = none→Q (.ref p) (upd H p (.tup (xs ++ ys))))
theorem Vals.nil_iff {xs:List V} {us:List Value} (r:Vals xs us):us = []↔xs = []:=by
 cases r with
 | nil=>simp
 | cons _ _=>simp
theorem op_catT:OpR X (binaryOp .Add) (rCatT X.K):=by
 intro pins s σ H x y v u Q I rx ry h
 obtain ⟨a,b,xs,ys,rfl,rfl,ha,hb,hx,hz,q1,q2⟩:=h
 cases rx
 cases ry
 obtain ⟨its,r1,p1,_⟩:=I.tuple ha
 obtain ⟨its2,r2,p2,_⟩:=I.tuple hb
 refine HT.cat_tup p1 p2 (fun z=>hx (r1.nil_iff.mp z)) (fun z=>⟨.ref a,H,I,rfl,q1 (r2.nil_iff.mp z)⟩) (fun z=>?_) (by rw [← r1.length,← r2.length];exact hz)
 refine ⟨.ref s.heap.objs.size,_,I.laid (t':=s.toks) (o:=.tup (xs ++ ys)) (fun b ob q=>Heap.get?_push_of_some _ q) (Nat.le_refl _) ?_,rfl,q2 (fun w=>z (r2.nil_iff.mpr w)) _ (I.hok.fresh (Nat.le_refl _))⟩
 exact ⟨by rw [List.length_append];exact hz,_,r1.append r2,IsTup.new _ _⟩
end
end L2

namespace L2
open PySem PySem.Spec PyProof.Rows

noncomputable def ixN (n:Nat) (i:Int):Option Nat:=if 0≤i then (if i < n then some i.toNat else none) else if -(n:Int)≤i then some (i + n).toNat else none
noncomputable def atI {α:Type} (xs:List α) (i:Int):Option α:=(ixN xs.length i).bind fun j=>xs[j]?
theorem ixN_seq {n:Nat} {i:Int} {j:Nat} (h:ixN n i = some j):seqIndex? i n = some j∧j < n∧-(n:Int)≤i∧i < n:=by
 unfold ixN at h
 by_cases h0:0≤i
 ·rw [if_pos h0] at h
  by_cases h1:i < n
  ·rw [if_pos h1] at h
   have e:i.toNat = j:=Option.some.inj h
   exact ⟨by rw [seqIndex_of h0 h1,e],by omega,by omega,h1⟩
  ·rw [if_neg h1] at h;cases h
 ·rw [if_neg h0] at h
  by_cases h1:-(n:Int)≤i
  ·rw [if_pos h1] at h
   have e:(i + n).toNat = j:=Option.some.inj h
   exact ⟨by rw [seqIndex_neg (by omega) h1,e],by omega,h1,by omega⟩
  ·rw [if_neg h1] at h;cases h
theorem atI_get {α:Type} {xs:List α} {i:Int} {v:α} (h:atI xs i = some v):∃ j,seqIndex? i xs.length = some j∧xs[j]? = some v∧j < xs.length∧-(xs.length:Int)≤i∧i < xs.length:=by
 unfold atI at h
 cases e:ixN xs.length i with
 | none=>rw [e] at h;cases h
 | some j =>
  rw [e] at h
  obtain ⟨h1,h2,h3,h4⟩:=ixN_seq e
  exact ⟨j,h1,h,h2,h3,h4⟩
theorem atI_nat {α:Type} {xs:List α} {j:Nat} {v:α} (h:xs[j]? = some v):atI xs (j:Int) = some v:=by
 have hj:j < xs.length:=(List.getElem?_eq_some_iff.mp h).1
 have e:ixN xs.length (j:Int) = some j:=by
  unfold ixN
  rw [if_pos (by omega),if_pos (by omega)];simp
 unfold atI;rw [e];exact h
theorem atI_last {α:Type} (xs:List α) (v:α):atI (xs ++ [v]) (-1) = some v:=by
 have hl:(xs ++ [v]).length = xs.length + 1:=by simp
 have e:ixN (xs ++ [v]).length (-1) = some xs.length:=by
  unfold ixN
  rw [hl,if_neg (by decide),if_pos (by omega)]
  congr 1
  omega
 unfold atI
 rw [e]
 show (xs ++ [v])[xs.length]? = some v
 simp

noncomputable def PlainIx (b:Expr):Prop:=∀ o i,subscripted b false o i = operate [o,i] (getItem o i)
noncomputable def IxR (X:Cx) (r:R2):Prop :=
 ∀ (value slice:Expr) (pins:List (Addr×Obj)) (s:Shared) (σ:St) (H:Hp) (x y:V) (v u:Value) (Q:VK),Inv X pins σ H s→RelV x v→RelV y u→r x y H Q →
  subscripted slice false v u = operate [v,u] (getItem v u)→wpAny (model X.prog X.w) X.A (subscriptTail value slice v u) (EP X pins σ Q) X.xe s
noncomputable def MtR (X:Cx) (id:String) (r:V→List V→Hp→VK→Prop):Prop :=
 ∀ (pins:List (Addr×Obj)) (s:Shared) (σ:St) (H:Hp) (x:V) (xs:List V) (v:Value) (us:List Value) (Q:VK),Inv X pins σ H s→RelV x v→Vals xs us→r x xs H Q →
  wpAny (model X.prog X.w) X.A (call (.builtin id) (v :: us)) (EP X pins σ Q) X.xe s
section
variable {X:Cx} {a b:Expr} {ta tb:TE} {pos:Pos}
theorem pe_ix {r:R2} (hr:IxR X r) (ha:PE X a ta) (hb:PE X b tb) (hs:PlainIx b):PE X (.Subscript a b pos) (tOp r ta tb):=by
 intro pins s σ H Q I h
 exact Subscript_ (binT ha hb I h fun v u s2 x y H2 I2 rx ry q=>hr a b pins s2 σ H2 x y v u Q I2 rx ry q (hs _ _))

noncomputable def rIxL (K:PySem.W.Frag):R2:=fun x y H Q=>∃ p xs i v,x = .ref p∧y = .int i∧SqL K H p xs∧atI xs i = some v∧Q v H
noncomputable def rIxT (K:PySem.W.Frag):R2:=fun x y H Q=>∃ p xs i v,x = .ref p∧y = .int i∧SqT K H p xs∧atI xs i = some v∧Q v H
theorem ix_list:IxR X (rIxL X.K):=by
 intro value slice pins s σ H x y v u Q I rx ry h hs
 obtain ⟨p,xs,i,z,rfl,rfl,hq,he,q⟩:=h
 cases rx
 obtain ⟨t,rfl⟩:=ry
 obtain ⟨its,r,pl,hz⟩:=I.list hq
 obtain ⟨j,h1,h2,h3,h4,h5⟩:=atI_get he
 obtain ⟨w,ew,rw'⟩:=r.get h2
 have hl:=r.length
 have hn:=line63
 have fin:EP X pins σ Q w s:=⟨z,H,I,rw',q⟩
 by_cases h0:0≤i
 ·have hj:i.toNat = j:=by
   rw [seqIndex_of h0 h5] at h1
   exact Option.some.inj h1
  exact item_listR pl.isList h0 (by omega) (by rw [hj];simpa using ew) fin hs
 ·have hj:(i + (its.toArray.size:Int)).toNat = j:=by
   rw [seqIndex_neg (by omega) h4] at h1
   rw [List.size_toArray,← hl]
   exact Option.some.inj h1
  exact subscriptTail_builtinR (x:=w) pl.isList.typeIs slot_list_getitem.lookup
   (wpAny_getItem_list_neg (Q:=fun r s'=>r = w∧EP X pins σ Q r s') pl.isList (by omega) (by rw [List.size_toArray] <;> omega) (by omega) (by rw [hj];simpa using ew) ⟨rfl,fin⟩) hs
theorem ix_tup:IxR X (rIxT X.K):=by
 intro value slice pins s σ H x y v u Q I rx ry h hs
 obtain ⟨p,xs,i,z,rfl,rfl,hq,he,q⟩:=h
 cases rx
 obtain ⟨t,rfl⟩:=ry
 obtain ⟨its,r,pl,hz⟩:=I.tuple hq
 obtain ⟨j,h1,h2,h3,h4,h5⟩:=atI_get he
 obtain ⟨w,ew,rw'⟩:=r.get h2
 have hl:=r.length
 have hn:=line63
 have fin:EP X pins σ Q w s:=⟨z,H,I,rw',q⟩
 exact subscriptTail_builtinR (x:=w) pl.typeIs slot_tuple_getitem.lookup
  (getItem_tuple (j:=j) (Q:=fun r s'=>r = w∧EP X pins σ Q r s') pl (by omega) (by omega) (by rw [List.size_toArray,← hl];exact h1) (by simpa using ew) ⟨rfl,fin⟩) hs
theorem mapSeq_set (its:List Value) (n j:Nat) (u:Value):Obj.mapSeq (·.setIfInBounds j u) { cls:=.type "list",data:=.seq its.toArray n } = { cls:=.type "list",data:=.seq (its.set j u).toArray n }:=by
 simp [Obj.mapSeq]
theorem Inv.lst {pins:List (Addr×Obj)} {σ:St} {H:Hp} {s:Shared} {p:Addr} {xs:List V} (I:Inv X pins σ H s) (h:H p = some (.lst xs)) :
  ∃ (its:List Value) (n:Nat),Vals xs its∧s.heap.get? p = some { cls:=.type "list",data:=.seq its.toArray n }∧xs.length≤sizeLine:=by
 obtain ⟨z,its,n,r,e⟩:=I.hok p _ h
 exact ⟨its,n,r,e,z⟩
theorem Inv.lstUpd {pins:List (Addr×Obj)} {σ:St} {H:Hp} {s:Shared} {p:Addr} {xs ys:List V} {its its':List Value} {n n':Nat} {f:Obj→Obj} (I:Inv X pins σ H s) (h:H p = some (.lst xs))
  (ho:s.heap.get? p = some { cls:=.type "list",data:=.seq its.toArray n }) (hf:f { cls:=.type "list",data:=.seq its.toArray n } = { cls:=.type "list",data:=.seq its'.toArray n' }) (r:Vals ys its') (hz:ys.length≤sizeLine) (t:Nat) :
  Inv X pins σ (upd H p (.lst ys)) { s with heap:=s.heap.update p f,toks:=t }:=by
 have e:(s.heap.update p f).get? p = some { cls:=.type "list",data:=.seq its'.toArray n' }:=by
  rw [Heap.get?_update_self f ho (by rw [hf] <;> rfl),hf]
 refine I.write (x:=p) (e:=p) (by rw [h];trivial) (.inl rfl) (fun b u hb q=>(Heap.get?_update_other _ _ (Ne.symm hb)).trans q) ⟨_,e⟩ ?_
 exact ⟨hz,its',n',r,e⟩
noncomputable def rSetL:V→V→V→Hp→(Hp→Prop)→Prop:=fun o i v H Q=>∃ p xs k j,o = .ref p∧i = .int k∧H p = some (.lst xs)∧ixN xs.length k = some j∧Q (upd H p (.lst (xs.set j v)))
theorem set_list:PSet X rSetL:=by
 intro pins s σ H o i v ov iv u Q I ro ri rv h
 obtain ⟨p,xs,k,j,rfl,rfl,hp,hj,q⟩:=h
 cases ro
 obtain ⟨t,rfl⟩:=ri
 obtain ⟨its,n,r,ho,hz⟩:=I.lst hp
 obtain ⟨h1,h2,h3,h4⟩:=ixN_seq hj
 have hl:=r.length
 have hn:=line63
 have I':Inv X pins σ (upd H p (.lst (xs.set j v))) { s with heap:=s.heap.update p (Obj.mapSeq (·.setIfInBounds j u)) } :=
  I.lstUpd hp ho (mapSeq_set its n j u) (r.set rv j) (by rw [List.length_set];exact hz) s.toks
 by_cases h0:0≤k
 ·have hk:k.toNat = j:=by
   rw [seqIndex_of h0 h4] at h1
   exact Option.some.inj h1
  exact PySem.W.ki_setAt ho h0 (by omega) (by rw [List.size_toArray,← hl];exact h4) (by rw [hk];exact ⟨_,I',q⟩)
 ·have hk:(k + (its.toArray.size:Int)).toNat = j:=by
   rw [seqIndex_neg (by omega) h3] at h1
   rw [List.size_toArray,← hl]
   exact Option.some.inj h1
  exact PySem.W.ki_setBack ho (by omega) (by rw [List.size_toArray,← hl];exact h3) (by omega) (by rw [hk];exact ⟨_,I',q⟩)

theorem slice_bounds (lo hi:Option Int) (n:Nat):(sliceBounds lo hi none n).1 = ((HT.sIx n 0 lo:Nat):Int)∧(sliceBounds lo hi none n).2.1 = ((HT.sIx n n hi:Nat):Int)∧(sliceBounds lo hi none n).2.2 = 1:=by
 refine ⟨?_,?_,rfl⟩
 ·cases lo with
  | none=>simp [sliceBounds,HT.sIx]
  | some i =>
   simp only [sliceBounds,HT.sIx,Option.getD_none,show (1:Int) > 0 by decide,if_true]
   by_cases h:i < 0
   ·simp only [h,if_true] <;> omega
   ·simp only [h,if_false] <;> omega
 ·cases hi with
  | none=>simp [sliceBounds,HT.sIx]
  | some i =>
   simp only [sliceBounds,HT.sIx,Option.getD_none,show (1:Int) > 0 by decide,if_true]
   by_cases h:i < 0
   ·simp only [h,if_true] <;> omega
   ·simp only [h,if_false] <;> omega
theorem slicePick_cut (its:List Value) (lo hi:Option Int):slicePick its.toArray lo hi none = ((its.drop (HT.sIx its.length 0 lo)).take (HT.sIx its.length its.length hi - HT.sIx its.length 0 lo)).toArray:=by
 obtain ⟨h1,h2,h3⟩:=slice_bounds lo hi its.toArray.size
 unfold slicePick
 rw [h1,h2,h3]
 simp only [sliceRange_one,pick_run,List.size_toArray] <;> rfl
noncomputable def rSlL (K:PySem.W.Frag):V→Option Int→Option Int→Hp→VK→Prop:=fun x lo hi H Q=>∃ a xs,x = .ref a∧SqL K H a xs∧∀ p,H p = none→Q (.ref p) (upd H p (.lst (cutV xs lo hi)))
theorem sl_list:SlR X (rSlL X.K):=by
 intro pins s σ H x v vl vu lo hi sl Q I rx hs pl pu h
 obtain ⟨a,xs,rfl,hx,q⟩:=h
 cases rx
 obtain ⟨its,r,ht,hz⟩:=I.list hx
 have hlen:=r.length
 refine ⟨"list",_,slot_list_getitem.lookup,ht.isList.typeIs,?_⟩
 refine wpAny_getItem_list_slice ht.isList hs pl pu .none (by simp) ?_ (by rw [List.size_toArray] <;> omega)
 rw [slicePick_cut,← hlen]
 refine ⟨.ref s.heap.objs.size,_,I.laid (t':=s.toks) (o:=.lst (cutV xs lo hi)) (fun b ob q=>Heap.get?_push_of_some _ q) (Nat.le_refl _) ?_,rfl,q _ (I.hok.fresh (Nat.le_refl _))⟩
 exact ⟨Nat.le_trans (cutV_length xs lo hi) hz,_,0,(r.drop (HT.sIx xs.length 0 lo)).take (HT.sIx xs.length xs.length hi - HT.sIx xs.length 0 lo),Heap.get?_push_size _ rfl⟩

noncomputable def flatV:V→Bool
 | .non=>true
 | .bl _=>true
 | .int _=>true
 | .str _=>true
 | _=>false
noncomputable def eqV:V→V→Bool
 | .non,.non=>true
 | .bl a,.bl b=>a == b
 | .bl a,.int b=>(if a then 1 else 0) == b
 | .int a,.bl b=>a == (if b then 1 else 0)
 | .int a,.int b=>a == b
 | .str a,.str b=>a == b
 | _,_=>false
theorem eqAt_V {A:Around} {s:Shared} {y x:V} {u v:Value} (ry:RelV y u) (rx:RelV x v) (fy:flatV y = true) (fx:flatV x = true):SeqAt.EqAt A s u v (eqV y x):=by
 cases y with
 | non =>
  cases ry
  cases x with
  | non=>cases rx;exact SeqAt.EqAt.same _
  | bl b=>cases rx;exact SeqAt.EqAt.none_bool b
  | int b=>obtain ⟨t,rfl⟩:=rx;exact SeqAt.EqAt.none_int b t
  | str b=>obtain ⟨t,rfl⟩:=rx;exact SeqAt.EqAt.none_str b t
  | _=>exact absurd (show false = true from fx) Bool.false_ne_true
 | bl a =>
  cases ry
  cases x with
  | non=>cases rx;exact SeqAt.EqAt.bool_none a
  | bl b=>cases rx;exact SeqAt.EqAt.bool_bool a b
  | int b=>obtain ⟨t,rfl⟩:=rx;exact SeqAt.EqAt.bool_int a b t
  | str b=>obtain ⟨t,rfl⟩:=rx;exact SeqAt.EqAt.bool_str a b t
  | _=>exact absurd (show false = true from fx) Bool.false_ne_true
 | int a =>
  obtain ⟨t',rfl⟩:=ry
  cases x with
  | non=>cases rx;exact SeqAt.EqAt.int_none a t'
  | bl b=>cases rx;exact SeqAt.EqAt.int_bool a t' b
  | int b=>obtain ⟨t,rfl⟩:=rx;exact SeqAt.EqAt.int_int a t' b t
  | str b=>obtain ⟨t,rfl⟩:=rx;exact SeqAt.EqAt.int_str a t' b t
  | _=>exact absurd (show false = true from fx) Bool.false_ne_true
 | str a =>
  obtain ⟨t',rfl⟩:=ry
  cases x with
  | non=>cases rx;exact SeqAt.EqAt.str_none a t'
  | bl b=>cases rx;exact SeqAt.EqAt.str_bool a t' b
  | int b=>obtain ⟨t,rfl⟩:=rx;exact SeqAt.EqAt.str_int a t' b t
  | str b=>obtain ⟨t,rfl⟩:=rx;exact SeqAt.EqAt.str_str a t' b t
  | _=>exact absurd (show false = true from fx) Bool.false_ne_true
 | _=>exact absurd (show false = true from fy) Bool.false_ne_true
noncomputable def eqU (x:V) (u:Value):Bool:=match u with
 | .none=>eqV .non x
 | .bool b=>eqV (.bl b) x
 | .int i _=>eqV (.int i) x
 | .str z _=>eqV (.str z) x
 | _=>false
theorem eqU_of {x y:V} {u:Value} (r:RelV y u) (f:flatV y = true):eqU x u = eqV y x:=by
 cases y with
 | non=>cases r;rfl
 | bl b=>cases r;rfl
 | int i=>obtain ⟨t,rfl⟩:=r;rfl
 | str z=>obtain ⟨t,rfl⟩:=r;rfl
 | _=>exact absurd (show false = true from f) Bool.false_ne_true
theorem any_eqU {x:V}:∀ {xs:List V} {us:List Value},Vals xs us→xs.all flatV = true→us.any (eqU x) = xs.any fun y=>eqV y x
 | _,_,.nil,_=>rfl
 | y :: xs,u :: us,.cons r t,f=>by
  rw [List.all_cons,Bool.and_eq_true] at f
  rw [List.any_cons,List.any_cons,eqU_of r f.1,any_eqU t f.2]
theorem mem_eqAt {A:Around} {s:Shared} {x:V} {v:Value} (rx:RelV x v) (fx:flatV x = true):∀ {xs:List V} {us:List Value},Vals xs us→xs.all flatV = true→∀ u∈us,SeqAt.EqAt A s u v (eqU x u)
 | _,_,.nil,_=>fun u hu=>by cases hu
 | y :: xs,u :: us,.cons r t,f=>fun u' hu=>by
  rw [List.all_cons,Bool.and_eq_true] at f
  rcases List.mem_cons.mp hu with rfl | hu
  ·rw [eqU_of r f.1];exact eqAt_V r rx f.1 fx
  ·exact mem_eqAt rx fx t f.2 u' hu
noncomputable def inV (x:V) (xs:List V):Bool:=xs.any fun y=>eqV y x
noncomputable def rIn (K:PySem.W.Frag) (neg:Bool):R2:=fun x y H Q=>∃ p xs,y = .ref p∧(SqL K H p xs∨SqT K H p xs)∧flatV x = true∧xs.all flatV = true∧Q (.bl (if neg then !inV x xs else inV x xs)) H
theorem op_notIn_seq:OpR X (compareOp .NotIn) (rIn X.K true):=by
 intro pins s σ H x y v u Q I rx ry h
 obtain ⟨p,xs,rfl,hq,fx,fs,q⟩:=h
 cases ry
 rcases hq with hq | hq
 ·obtain ⟨its,r,pl,hz⟩:=I.list hq
  refine SeqAt.notIn_listAt (eqU x) pl.isList (fun w hw=>mem_eqAt rx fx r fs w (by simpa using hw)) ⟨.bl _,H,I,rfl,?_⟩
  rw [show its.toArray.any (eqU x) = its.any (eqU x) by simp,any_eqU r fs]
  exact q
 ·obtain ⟨its,r,pl,hz⟩:=I.tuple hq
  refine SeqAt.notIn_tupleAt (eqU x) pl (fun w hw=>mem_eqAt rx fx r fs w (by simpa using hw)) ⟨.bl _,H,I,rfl,?_⟩
  rw [show its.toArray.any (eqU x) = its.any (eqU x) by simp,any_eqU r fs]
  exact q
theorem call_len_seq:CallR X (.builtin "len") (fun xs H Q=>∃ p ys,xs = [.ref p]∧(SqL X.K H p ys∨SqT X.K H p ys)∧Q (.int ys.length) H):=by
 intro pins s σ H xs us Q I r h
 obtain ⟨p,ys,rfl,hq,q⟩:=h
 obtain ⟨u,rfl,rx⟩:=vals1 r
 cases rx
 have hn:=line63
 rcases hq with hq | hq
 ·obtain ⟨its,r',pl,hz⟩:=I.list hq
  have hlen:=r'.length
  exact Calls.call_len_list pl.isList (by simp only [List.size_toArray] <;> omega) ⟨.int ys.length,H,I.tok _,⟨s.toks + 1,by rw [List.size_toArray,hlen]⟩,q⟩
 ·obtain ⟨its,r',pl,hz⟩:=I.tuple hq
  have hlen:=r'.length
  exact len_tuple pl (by simp only [List.size_toArray] <;> omega) ⟨.int ys.length,H,I.tok _,⟨s.toks + 1,by rw [List.size_toArray,hlen]⟩,q⟩
theorem call_list_of:CallR X (.type "list") (fun xs H Q=>∃ p ys,xs = [.ref p]∧(SqL X.K H p ys∨SqT X.K H p ys)∧∀ l,H l = none→Q (.ref l) (upd H l (.lst ys))):=by
 intro pins s σ H xs us Q I r h
 obtain ⟨p,ys,rfl,hq,q⟩:=h
 obtain ⟨u,rfl,rx⟩:=vals1 r
 cases rx
 have fin:∀ (its:List Value),Vals ys its→ys.length≤sizeLine→∀ (h':Heap) (c':Nat),(∀ b o',s.heap.get? b = some o'→h'.get? b = some o') →
   h'.get? s.heap.objs.size = some { cls:=.type "list",dict:=none,data:=.seq its.toArray c',slots:=#[] }→EP X pins σ Q (.ref s.heap.objs.size) { s with heap:=h' }:=fun its r' hz h' c' kp e =>
  ⟨.ref s.heap.objs.size,_,I.laid (t':=s.toks) kp (Nat.le_refl _) (show ObjOk X.prog X.w _ h' _ (.lst ys) from ⟨hz,its,c',r',e⟩),rfl,q _ (I.hok.fresh (Nat.le_refl _))⟩
 rcases hq with hq | hq
 ·obtain ⟨its,r',pl,hz⟩:=I.list hq
  have hlen:=r'.length
  obtain ⟨o,ho,hc,n,hd⟩:=pl.isList
  exact call_list_seq p (.inl rfl) ho hc hd (fun h' c' kp e=>fin its r' hz h' c' kp e) (by simp only [List.size_toArray] <;> omega)
 ·obtain ⟨its,r',pl,hz⟩:=I.tuple hq
  have hlen:=r'.length
  obtain ⟨o,ho,hc,n,hd⟩:=pl
  exact call_list_seq p (.inr rfl) ho hc hd (fun h' c' kp e=>fin its r' hz h' c' kp e) (by simp only [List.size_toArray] <;> omega)
theorem call_tuple_of:CallR X (.type "tuple") (fun xs H Q=>∃ p ys,xs = [.ref p]∧((SqL X.K H p ys∧∀ l,H l = none→Q (.ref l) (upd H l (.tup ys)))∨(SqT X.K H p ys∧Q (.ref p) H))):=by
 intro pins s σ H xs us Q I r h
 obtain ⟨p,ys,rfl,h⟩:=h
 obtain ⟨u,rfl,rx⟩:=vals1 r
 cases rx
 rcases h with ⟨hq,q⟩ | ⟨hq,q⟩
 ·obtain ⟨its,r',pl,hz⟩:=I.list hq
  have hlen:=r'.length
  refine call_tuple_list pl.isList (fun h' kp=>?_) (by simp only [List.size_toArray] <;> omega)
  have I1:Inv X pins σ H { s with heap:=h' }:=I.kept (t':=s.toks) kp
  have I2:Inv X pins σ (upd H h'.objs.size (.tup ys)) { s with heap:=h'.push { cls:=.type "tuple",data:=.seq its.toArray } } :=
   I1.laid (t':=s.toks) (fun b o e=>Heap.get?_push_of_some _ e) (Nat.le_refl _) (show ObjOk X.prog X.w _ _ _ (.tup ys) from ⟨hz,its,r',IsTup.new _ _⟩)
  exact ⟨.ref h'.objs.size,_,I2,rfl,q _ (I1.hok.fresh (Nat.le_refl _))⟩
 ·obtain ⟨its,r',pl,hz⟩:=I.tuple hq
  exact call_tuple_same pl ⟨.ref p,H,I,rfl,q⟩

noncomputable def tyV (K : PySem.W.Frag) (T : String) (x : V) (H : Hp) : Prop := match x with
  | .str _ => T = "str"
  | .int _ => T = "int"
  | .ref p => (T = "list" ∧ ∃ xs, SqL K H p xs) ∨ (T = "tuple" ∧ ∃ o, K.lookup p = some o ∧ o.cls = .type "tuple" ∧ o.dict = none) ∨
      (T = "dict" ∧ ((∃ kvs, H p = some (.dK kvs)) ∨ ∃ kvs, H p = some (.dT kvs))) ∨ (T = "set" ∧ ∃ S n, H p = some (.set S n))
  | _ => False
theorem tyV_is {pins:List (Addr×Obj)} {σ:St} {H:Hp} {s:Shared} {T:String} {x:V} {v:Value} (I:Inv X pins σ H s) (r:RelV x v) (ty:tyV X.K T x H) :
  s.TypeIs v T∧∀ a,v = .ref a→∃ ob,s.heap.get? a = some ob∧ob.dict = none:=by
 cases x with
 | str z =>
  obtain ⟨t,rfl⟩:=r
  cases (show T = "str" from ty)
  exact ⟨typeIs_str s z t,fun _ e=>nomatch e⟩
 | int i =>
  obtain ⟨t,rfl⟩:=r
  cases (show T = "int" from ty)
  exact ⟨typeIs_int s i t,fun _ e=>nomatch e⟩
 | ref p =>
  cases r
  rcases ty with ⟨rfl,xs,hq⟩ | ⟨rfl,o,hk,hc,hd⟩ | ⟨rfl,hk⟩ | ⟨rfl,S,n,hk⟩
  ·obtain ⟨its,_,pl,_⟩:=I.list hq
   refine ⟨pl.isList.typeIs,fun a e=>?_⟩
   cases e
   obtain ⟨o,n,e,c,hd,_⟩:=pl
   exact ⟨o,e,hd⟩
  ·refine ⟨⟨o,I.kIn p o hk,hc⟩,fun a e=>?_⟩
   cases e
   exact ⟨o,I.kIn _ o hk,hd⟩
  ·have z:∃ o,s.heap.get? p = some o∧o.ExactDict:=by
    rcases hk with ⟨kvs,hk⟩ | ⟨kvs,hk⟩
    ·obtain ⟨_,_,_,_,o,_,_,e,ex,_⟩:=I.hok p _ hk
     exact ⟨o,e,ex⟩
    ·obtain ⟨_,_,_,_,o,_,_,e,ex,_⟩:=I.hok p _ hk
     exact ⟨o,e,ex⟩
   obtain ⟨o,e,ex⟩:=z
   refine ⟨⟨o,e,ex.1⟩,fun a e2=>?_⟩
   cases e2
   exact ⟨o,e,ex.2.1⟩
  ·obtain ⟨o,_,_,_,e,ex,_⟩:=I.hok p _ hk
   refine ⟨⟨o,e,ex.1⟩,fun a e2=>?_⟩
   cases e2
   exact ⟨o,e,ex.2.1⟩
 | _=>exact False.elim ty
noncomputable def tBM (K:PySem.W.Frag) (T:String) (r:V→List V→Hp→VK→Prop) (to:TE) (t:TA):TE:=fun σ H Q=>to σ H fun x H1=>tyV K T x H1∧t σ H1 fun xs H2=>r x xs H2 Q
variable {o e:Expr} {es:List Expr} {to:TE} {t:TA} {name:Str} {apos cpos:Pos} {T id:String} {r:V→List V→Hp→VK→Prop}
theorem pe_bm (pa:PlainAttrs T) (slot:Slot T name id) (hty:typeOf (.builtin id) = pure (.type "method_descriptor")) (hm:MtR X id r) (ho:PE X o to) (ha:PA X (e :: es) t)
  (hbase:attributeBase o name X.env (eval o X.env) = eval o X.env:=by rfl)
  (hfew:((backTo cpos (starEach (e :: es) X.env)).all (fun x=>!x.1) && (backToKw cpos (keywordEach [] X.env)).all (fun x=>x.1.isSome)
   && decide ((e :: es).length + ([]:List Keyword).length + (if ([]:List Keyword).isEmpty then 0 else 1) < 30)) = true:=by rfl)
  (hline:(apos.endLine == cpos.line) = true:=by rfl) (hs:starEach (e :: es) X.env = (false,eval e X.env) :: starEach es X.env:=by rfl) (hplain:(backTo cpos (starEach es X.env)).any (·.1) = false:=by rfl) :
  PE X (.Call (.Attribute o name apos) (e :: es) [] cpos) (tBM X.K T r to t):=by
 intro pins s σ H Q I h
 refine wpAny_Call_method_late hbase hfew hline rfl (thn (ho pins s σ H _ I h) fun v s1 ⟨x,H1,I1,r1,ty,q1⟩=>?_)
 obtain ⟨h1,h2⟩:=tyV_is I1 r1 ty
 refine ⟨T,id,pa,slot,hty,h1,h2,?_⟩
 have hA:=ha cpos pins s1 σ H1 _ I1 q1
 rw [hs] at hA ⊢
 refine Calls.callWith_builtin (by show (false || (backTo cpos (starEach es X.env)).any (·.1)) = false;rw [hplain] <;> rfl) (Calls.evalArgs_plain ?_)
 exact thn hA fun us s2 ⟨vs,H2,I2,r2,q2⟩=>hm pins s2 σ H2 x vs v us Q I2 r1 r2 q2
/- xs.append(e), list.index on a module's tuple .. are MtR facts of 06m -/
end
end L2

namespace L2
open PySem PySem.Spec PyProof.Rows

noncomputable def MtM (X:Cx) (id:String) (r:V→List V→Hp→VK→Prop):Prop :=
 ∀ (pins:List (Addr×Obj)) (s:Shared) (σ:St) (H:Hp) (x:V) (xs:List V) (v:Value) (us:List Value) (Q:VK),Inv X pins σ H s→RelV x v→Vals xs us→r x xs H Q →
  wpAny (model X.prog X.w) X.A (call (.builtin id) (v :: us)) (EP X pins σ Q) X.xe s

theorem Vals.one:∀ {x:V} {us:List Value},Vals [x] us→∃ u,us = [u]∧RelV x u
 | _,_,.cons r .nil=>⟨_,rfl,r⟩
theorem Vals.two:∀ {x y:V} {us:List Value},Vals [x,y] us→∃ u v,us = [u,v]∧RelV x u∧RelV y v
 | _,_,_,.cons r (.cons q .nil)=>⟨_,_,rfl,r,q⟩
theorem Vals.eraseIdx:∀ {xs:List V} {us:List Value} (i:Nat),Vals xs us→Vals (xs.eraseIdx i) (us.eraseIdx i)
 | _,_,_,.nil=>.nil
 | _,_,0,.cons _ t=>t
 | _,_,i + 1,.cons r t=>.cons r (Vals.eraseIdx i t)
theorem len_erase {α:Type}:∀ (l:List α) (i:Nat),(l.eraseIdx i).length≤l.length
 | [],_=>Nat.le_refl _
 | _ :: _,0=>Nat.le_succ _
 | _ :: r,i + 1=>Nat.succ_le_succ (len_erase r i)
section
variable {X:Cx} {pins:List (Addr×Obj)} {σ:St} {H:Hp} {s:Shared} {l b:Addr} {xs ys zs:List V}

theorem Inv.lset {its its':List Value} {n:Nat} {f:Array Value→Array Value} {t':Nat} (I:Inv X pins σ H s) (hH:H l = some (.lst xs))
  (e:s.heap.get? l = some { cls:=.type "list",data:=.seq its.toArray n }) (hf:f its.toArray = its'.toArray) (hv:Vals ys its') (hz:ys.length≤sizeLine) :
  Inv X pins σ (upd H l (.lst ys)) { s with heap:=s.heap.update l (Obj.mapSeq f),toks:=t' }:=by
 have q:=PySem.IsL.update e f
 rw [hf] at q
 refine I.write (x:=l) (e:=l) (by rw [hH];exact trivial) (.inl rfl) (fun b' u hb hu=>(Heap.get?_update_other s.heap (Obj.mapSeq f) (Ne.symm hb)).trans hu) ⟨_,q⟩ ?_
 exact ⟨hz,its',_,hv,q⟩
theorem Inv.lnew {its:List Value} {t':Nat} (I:Inv X pins σ H s) (hv:Vals ys its) (hz:ys.length≤sizeLine) :
  Inv X pins σ (upd H s.heap.objs.size (.lst ys)) { s with heap:=s.heap.push { cls:=.type "list",data:=.seq its.toArray },toks:=t' } :=
 I.laid (fun _ _ q=>Heap.get?_push_of_some _ q) (Nat.le_refl _) ⟨hz,its,0,hv,Heap.get?_push_size _ rfl⟩
theorem Inv.fresh (I:Inv X pins σ H s):H s.heap.objs.size = none:=I.hok.fresh (Nat.le_refl _)
theorem Inv.lstM (I:Inv X pins σ H s) (hH:H l = some (.lst xs)):xs.length≤sizeLine∧∃ (its:List Value) (n:Nat),Vals xs its∧xs.length = its.length∧s.heap.get? l = some { cls:=.type "list",data:=.seq its.toArray n }:=by
 obtain ⟨z,its,n,r,e⟩:=I.hok l _ hH
 exact ⟨z,its,n,r,r.length,e⟩

theorem notLongL {n:Nat} (h:n≤sizeLine):Builtin.List.listTooLong n = false:=by
 unfold Builtin.List.listTooLong
 exact decide_eq_false (by omega)
end

section
variable {X:Cx}

noncomputable def rAppend:V→List V→Hp→VK→Prop:=fun x vs H Q=>∃ l xs y,x = .ref l∧vs = [y]∧H l = some (.lst xs)∧xs.length < sizeLine∧Q .non (upd H l (.lst (xs ++ [y])))
theorem mt_append:MtM X "list.append" rAppend:=by
 intro pins s σ H x vs v us Q I rx rv h
 obtain ⟨l,xs,y,rfl,rfl,hH,hz,q⟩:=h
 cases rx
 obtain ⟨u,rfl,ru⟩:=rv.one
 obtain ⟨z,its,n,r,hl,e⟩:=I.lstM hH
 refine call_meets F.slot_list_append ⟨_,e,rfl⟩ F.entry_list_append (F.args_list_append_2 _ _) (PySem.list_append l its.toArray n u (by rw [List.size_toArray];omega)) ⟨e,?_⟩
 refine ⟨.non,_,I.lset (its':=its ++ [u]) hH e (by simp) (r.append (.cons ru .nil)) ?_,rfl,q⟩
 rw [List.length_append,List.length_singleton]
 omega

noncomputable def rExtend:V→List V→Hp→VK→Prop:=fun x vs H Q=>∃ l b xs zs,x = .ref l∧vs = [.ref b]∧H l = some (.lst xs)∧H b = some (.lst zs)∧xs.length + zs.length≤sizeLine∧Q .non (upd H l (.lst (xs ++ zs)))
theorem mt_extend:MtM X "list.extend" rExtend:=by
 intro pins s σ H x vs v us Q I rx rv h
 obtain ⟨l,b,xs,zs,rfl,rfl,hH,hB,hz,q⟩:=h
 cases rx
 obtain ⟨u,rfl,ru⟩:=rv.one
 cases ru
 obtain ⟨z,its,n,r,hl,e⟩:=I.lstM hH
 obtain ⟨z2,its2,n2,r2,hl2,e2⟩:=I.lstM hB
 have hsz:its.toArray.size + its2.toArray.size≤sizeLine:=by rw [List.size_toArray,List.size_toArray];omega
 have hlong:¬ (!its.toArray.isEmpty && Builtin.List.listTooLong (its.toArray.size + its2.toArray.size)) = true:=by
  rw [notLongL hsz,Bool.and_false]
  exact Bool.false_ne_true
 refine call_meets F.slot_list_extend ⟨_,e,rfl⟩ F.entry_list_extend (F.args_list_extend_2 _ _)
  (AutoSeq1.list_extend_list_list_0 l its.toArray n b its2.toArray n2 hlong (by rw [List.size_toArray];omega) (by omega)) ⟨e,e2,?_⟩
 refine ⟨.non,_,I.lset (its':=its ++ its2) hH e (by simp) (r.append r2) ?_,rfl,q⟩
 rw [List.length_append]
 omega

noncomputable def rCat:R2:=fun x y H Q=>∃ l b xs zs,x = .ref l∧y = .ref b∧H l = some (.lst xs)∧H b = some (.lst zs)∧xs.length + zs.length≤sizeLine∧∀ p,H p = none→Q (.ref p) (upd H p (.lst (xs ++ zs)))
theorem op_cat:OpR X (binaryOp .Add) rCat:=by
 intro pins s σ H x y v u Q I rx ry h
 obtain ⟨l,b,xs,zs,rfl,rfl,hH,hB,hz,q⟩:=h
 cases rx
 cases ry
 obtain ⟨z,its,n,r,hl,e⟩:=I.lstM hH
 obtain ⟨z2,its2,n2,r2,hl2,e2⟩:=I.lstM hB
 refine PySem.P.add_list e e2 ?_ (by rw [List.size_toArray,List.size_toArray];omega)
 have ea:its.toArray ++ its2.toArray = (its ++ its2).toArray:=by simp
 rw [ea]
 exact ⟨.ref _,_,I.lnew (t':=s.toks) (r.append r2) (by rw [List.length_append];omega),rfl,q _ I.fresh⟩
end


end L2

namespace Att
open PySem PySem.W PySem.Calls PyProof.Rows

theorem ints_of_wellAll {P:Params} {h:Heap}:∀ (ns:List Int) (vs:List Value),WellAll P h vs (ns.map WData.int)→IntsAre vs ns:=by
 intro ns
 induction ns with
 | nil =>
  intro vs w
  rw [List.map_nil] at w
  cases w
  exact .nil
 | cons n ns ih =>
  intro vs w
  rw [List.map_cons] at w
  cases w with
  | cons a b =>
   cases a
   exact .cons _ _ (ih _ b)

theorem script_of {l:OpenLaw} {n:Nat} (hn:l.most = some n) {P:Params} {h:Heap} {args:List WData} {vals:List Value}
  (hpre:l.row.toRowW.claim.pre args = true) (hwl:WellAll P h vals args) :
  ∃ a vs ns,vals = [Value.ref a]∧args = [WData.list (ns.map WData.int)]∧h.get? a = some { cls:=.type "list",data:=.seq vs.toArray }∧IntsAre vs ns∧ns.length≤n:=by
 have hsh:WShape.hasAll [] args [.list .int] = true:=(pre_splitW hpre).1
 have hc:l.pre.holds [] { args:=args } = true:=(pre_splitW hpre).2
 obtain ⟨d,r,rfl,h1,h2⟩:=hasAllW_cons hsh
 obtain rfl:=hasAllW_nil h2
 obtain ⟨xs,rfl,h3⟩:=hasW_list h1
 obtain ⟨ns,rfl⟩:=items_int h3
 have hlen:ns.length≤n:=by
  unfold OpenLaw.pre at hc
  have h4:(WTm.not (.lt (.lit (.int (n:Int))) (.len (.arg 0)))).holds [] { args:=[.list (ns.map .int)] } = true:=by
   have h4:=(holds_andW hc).1
   rw [hn] at h4
   exact h4
  have h5:=condW_of h4 (w_not (w_lt w_lit (w_len_list (w_arg rfl))))
  rw [List.length_map] at h5
  refine Nat.le_of_not_lt fun q=>?_
  have q':(n:Int) < ((ns.length:Nat):Int):=by omega
  first
   | (rw [decide_eq_true q'] at h5;exact absurd h5 (by decide))
   | (simp at h5;omega)
 cases hwl with
 | cons w1 w2 =>
  cases w2
  cases w1 with
  | list ho hall=>exact ⟨_,_,ns,rfl,rfl,ho,ints_of_wellAll ns _ hall,hlen⟩

theorem post_true (l:OpenLaw) (args:List WData):l.row.toRowW.claim.post args (.bool true) args = true :=
 postW_of (r:=l.row.toRowW) (X:=(true == true))
  (show WShape.has [] (.bool true) .bool = true by first | rfl | decide | simp [WShape.has,WShape.arms,WShape.armsAll])
  (show (WTm.eq .res (.lit (.bool true))).value [] { args:=args,res:=some (.bool true),after:=args } = some (.bool (true == true)) from w_eq_bool (w_res rfl) w_lit) rfl

theorem attach_call {l:OpenLaw} {n:Nat} {q:Program} {loose:List Str} {XP:(Str→Option Value)→Heap→Prop} {YP:World→Heap→Prop} {d:DefRec}
  (hn:l.most = some n) (hdf:d.params.defaults = [])
  (call:∀ (w:World) (s₀ s₁:Shared) (mg mb:Str→Option Value) (fa:Addr) (o:Obj) (pm cd doc:Value) (a:Addr) (vs:List Value) (ns:List Int),
   Ground q loose [] XP w s₀ mg mb s₁.heap→YP w s₁.heap →
   s₁.heap.get? fa = some o→o.data = .func (docDef d.name d.params d.body d.scope pm cd doc)→s₁.heap.CodeRec cd d.name→mg d.name = some (.ref fa) →
   s₁.heap.get? a = some { cls:=.type "list",data:=.seq vs.toArray }→IntsAre vs ns→ns.length≤n→s₁.gens = #[] →
   codeAny (model l.prog w) callerA (.call (.ref fa) ⟨[.ref a],[]⟩) (fun r s'=>r = .ok (.ret (.bool true))∧OldK s₁.heap s'.heap∧s'.os = s₁.os∧AllBare s'.gens) s₁) :
  WalkO q loose XP YP l.row.toRowW d [] (fun f vs=>PySem.call f vs):=by
 intro w s₀ s₁ mg mb G Y fa o pm cd doc dV kV ho hd hcd hD hmg hg args vals as hpre hlay hrd hwl hlo
 obtain rfl:dV = .none:=Dflts.none hD hdf
 obtain rfl:kV = .none:=Dflts.noKw hD
 obtain ⟨a,vs,ns,rfl,rfl,hobj,hints,hlen⟩:=script_of hn hpre hwl
 refine enter_call (codeAny_mono (call w s₀ s₁ mg mb fa o pm cd doc a vs ns G Y ho (fd_plain hd) hcd hmg hobj hints hlen hg) fun r s' hq=>?_)
 obtain ⟨rfl,h2,h3,h4⟩:=hq
 exact ⟨.inl ⟨.bool true,.bool true,[],rfl,fun _=>rfl,.bool true,post_true l _,fun _=>⟨List.Pairwise.nil,fun _ hm=>(nomatch hm)⟩⟩,h2,h3,h4⟩

end Att

namespace L2
open PySem PySem.Spec PyProof.Rows

theorem vals_ints:∀ {vs:List Value} {ns:List Int},IntsAre vs ns→Vals (ns.map V.int) vs
 | _,_,.nil=>.nil
 | _,_,.cons n t h=>.cons ⟨t,rfl⟩ (vals_ints h)

noncomputable def Only (H:Hp):Prop:=∀ b,H b = none∨∃ o xs,H b = some (.frz o (.lst xs))

theorem law_call {P:Program} {w:World} {K:PySem.W.Frag} {mg mb:Str→Option Value} {CX:CXT} {k:Nat} {fa a:Addr} {fd:FuncData} {x:Str} {sp:Sp} {s₁:Shared} {vs:List Value} {ns:List Int}
  (KX:K.In s₁.heap) (hns:s₁.heap.Ns mainGlobals mg) (hb:s₁.heap.Ns builtinsNs mb) (hbb:∀ x:Str,x≠"__name__"→mb x = bootBuiltins x) (hlim:s₁.heap.NoLimit) (hg:s₁.gens = #[])
  (ha:s₁.heap.get? a = some { cls:=.type "list",data:=.seq vs.toArray }) (hi:IntsAre vs ns) (hl:ns.length≤sizeLine) (hr:Room k callerA)
  (F:∀ base:Heap,K.In base→base.Ns mainGlobals mg→FnOk P w K mg base CX k fa fd [x] sp) (hbind:∀ (s:Shared) (u:Value),BindsTo s fd ⟨[u],[]⟩ [(x,u)])
  (hsp:∀ H:Hp,Only H→SqL K H a (ns.map V.int)→sp [.ref a] H (fun v _=>v = .bl true) fun _ _ _=>False)
  (hCX:∀ H e s',CX [] H s₁ (fun _ _ _=>False) e s'→False) :
  codeAny (model P w) callerA (.call (.ref fa) ⟨[.ref a],[]⟩) (fun r s'=>r = .ok (.ret (.bool true))∧OldK s₁.heap s'.heap∧s'.os = s₁.os∧AllBare s'.gens) s₁:=by
 have rv:=vals_ints hi
 have lenV:=hi.length
 have core:∀ H:Hp,Only H→SqL K H a (ns.map V.int)→HOk P w H s₁.heap→(∀ b,H b≠none→b = a)→(H a≠none→K.lookup a = none) →
   codeAny (model P w) callerA (.call (.ref fa) ⟨[.ref a],[]⟩) (fun r s'=>r = .ok (.ret (.bool true))∧OldK s₁.heap s'.heap∧s'.os = s₁.os∧AllBare s'.gens) s₁:=by
  intro H hO hS hok hA hK
  have base_of:∀ {b:Addr} {o:Obj},s₁.heap.get? b = some o→H b = none→(hidT s₁.heap H).get? b = some o:=fun e n=>hidT_get e n
  have noA:∀ {b:Addr} {o:Obj} {es:Array DictEntry} {ep:Nat},s₁.heap.get? b = some o→o.data = .dict es ep→H b = none:=fun {b o es ep} e d=>by
   cases q:H b with
   | none=>rfl
   | some u =>
    have e':b = a:=hA b (by rw [q];simp)
    subst e'
    rw [ha] at e;cases e
    have d':Data.seq vs.toArray _ = Data.dict es ep:=d
    cases d'
  have nsK:∀ {b:Addr} {m:Str→Option Value},s₁.heap.Ns b m→(hidT s₁.heap H).Ns b m:=fun {b m} ⟨o,es,ep,e,d,r⟩=>⟨o,es,ep,base_of e (noA e d),d,r⟩
  have hKb:K.In (hidT s₁.heap H):=fun b o e=>base_of (KX b o e) (by
   cases q:H b with
   | none=>rfl
   | some u =>
    have e':b = a:=hA b (by rw [q];simp)
    subst e'
    rw [hK (by rw [q];simp)] at e;cases e)
  have hM:Mod K mg (hidT s₁.heap H):=⟨hKb,nsK hns,⟨mb,nsK hb,hbb⟩,let ⟨mc,h1,h2⟩:=hlim;⟨mc,nsK h1,h2⟩⟩
  have e0:Env0 P w K mg (hidT s₁.heap H) callerA [] s₁ H:=⟨rfl,hM,fun b o e=>of_hidT e,Nat.le_of_eq (hidT_size _ _),trivial,fun b hb=>absurd (show b∈([]:List Addr) from hb) (by simp),hok,.of_eq hg⟩
  refine codeAny_mono ((F _ hKb (nsK hns)).run callerA [] s₁ H ⟨[.ref a],[]⟩ [.ref a] [.ref a] _ _ hr e0 (hbind s₁ (.ref a)) (.cons rfl .nil) (hsp H hO hS)) fun r s' h=>?_
  cases r with
  | error e=>exact (hCX H e s' h).elim
  | ok fl =>
   cases fl with
   | next=>exact False.elim h
   | brk=>exact False.elim h
   | cont=>exact False.elim h
   | ret u =>
    obtain ⟨v,H',os,bare,un,hok',r',q⟩:=h
    have q':v = .bl true:=q
    subst q'
    obtain rfl:u = Value.bool true:=r'
    refine ⟨rfl,OldK.of_keep fun b o e=>?_,os,bare⟩
    cases q:H b with
    | none=>exact un.keep b o e q (by intro z;exact absurd (show b∈([]:List Addr) from z) (by simp)) (by simp)
    | some u =>
     rcases hO b with z | ⟨ob,xs,z⟩
     ·rw [q] at z;cases z
     ·have z2:=un.frzs b ob _ z
      obtain ⟨e1,_⟩:=hok b _ z
      obtain ⟨e2,_⟩:=hok' b _ z2
      rw [e] at e1;cases e1
      exact e2
 cases hk:K.lookup a with
 | some o =>
  have e:=KX a o hk
  rw [ha] at e
  cases e
  refine core (fun _=>none) (fun _=>.inl rfl) (.inr ⟨_,vs.toArray,_,hk,rfl,rfl,rfl,by rw [List.size_toArray,lenV];exact hl,by simpa using rv⟩) (fun b u z=>by have z':(none:Option HO) = some u:=z;cases z') (fun b z=>absurd rfl z) fun z=>absurd rfl z
 | none =>
  refine core (fun b=>if b = a then some (.frz { cls:=.type "list",data:=.seq vs.toArray } (.lst (ns.map V.int))) else none) (fun b=>?_) (.inl (.inr ⟨{ cls:=.type "list",data:=.seq vs.toArray },if_pos rfl⟩)) (fun b u z=>?_) (fun b z=>?_) fun _=>hk
  ·by_cases hb:b = a
   ·exact .inr ⟨_,_,if_pos hb⟩
   ·exact .inl (if_neg hb)
  ·by_cases hb:b = a
   ·have z':=(if_pos hb).symm.trans z
    cases z'
    subst hb
    exact ⟨ha,by rw [List.length_map];exact hl,vs,_,rv,ha⟩
   ·have z':=(if_neg hb).symm.trans z
    cases z'
  ·by_cases hb:b = a
   ·exact hb
   ·exact absurd (if_neg hb) z
end L2

namespace L2
open PySem PySem.Spec PyProof.Rows

theorem walk_of {l:PySem.W.OpenLaw} {n k:Nat} {q:Program} {loose:List Str} {XP:(Str→Option Value)→Heap→Prop} {YP:World→Heap→Prop} {d:DefRec} {K:Params→PySem.W.Frag} {CX:World→CXT} {sp:World→Sp} {x:Str}
  (hn:l.most = some n) (hn2:n≤sizeLine) (hdf:d.params.defaults = []) (hr:Room k callerA)
  (hY:∀ (w:World) (h:Heap),YP w h→(K w.params).In h)
  (F:∀ (w:World) (mg:Str→Option Value) (fa:Addr) (h:Heap),(K w.params).In h→h.Ns mainGlobals mg→mg d.name = some (.ref fa) →
   ∃ fd:FuncData,(∀ (s:Shared) (u:Value),BindsTo s fd ⟨[u],[]⟩ [(x,u)]) ∧
    ∀ base:Heap,(K w.params).In base→base.Ns mainGlobals mg→FnOk l.prog w (K w.params) mg base (CX w) k fa fd [x] (sp w))
  (hsp:∀ (w:World) (H:Hp) (a:Addr) (ns:List Int),ns.length≤n→Only H→SqL (K w.params) H a (ns.map V.int)→sp w [.ref a] H (fun v _=>v = .bl true) fun _ _ _=>False)
  (hCX:∀ (w:World) (H:Hp) (s:Shared) (e:Value) (s':Shared),CX w [] H s (fun _ _ _=>False) e s'→False) :
  PySem.W.WalkO q loose XP YP l.row.toRowW d [] (fun f vs=>PySem.call f vs):=by
 refine Att.attach_call hn hdf fun w s₀ s₁ mg mb fa o pm cd doc a vs ns G Y ho hd hcd hmg hobj hints hlen hg=>?_
 have KX:=hY w _ Y
 obtain ⟨fd,hb,hF⟩:=F w mg fa _ KX G.T.g hmg
 exact law_call KX G.T.g G.T.b G.T.builtins G.T.nolimit hg hobj hints (Nat.le_trans hlen hn2) hr hF hb (fun H hO hS=>hsp w H a ns hlen hO hS) fun H e s'=>hCX w H s₁ e s'
end L2

/- THE LAST THEOREM (shape; LID, My.* are yours):
   My.Adr: a structure of the addresses that your layer names (classes, functions); My.Txt K t: a structure (Prop) of the equations over K;
   My.txt_mk : {K} {implicit addresses ..} (e1 : nsIn K mainGlobals "law" = some (some (.ref f))) (e2 : K.lookup f = some ⟨oc, od, .func (fnOf "law" "law" params body scope dV kV doc pm an cdv ct), sl⟩) (e3 : codeIn K cdv "law" = true) .. : ∃ t, My.Txt K t

set_option maxRecDepth 100000 in
set_option maxHeartbeats 0 in
theorem PySem.Challenge.cw_LID_holds : PySem.Challenge.rw_LID.Holds := by
 w_on;o_law;k_head;(case hw=>w_witness2)
 k_fill
 refine L2.walk_of (l:=PySem.Challenge.rw_LID) (n:=63) (k:=40) (x:="script") (CX:=fun w=>..) (sp:=fun _=>My.sp_law) rfl (by decide) rfl ⟨rfl,by decide,by decide⟩ (fun w h Y=>PySem.W.kIn_of Y) ?F ?S ?C
 case F =>
  intro w mg fa h KX G hmg
  have T:∃ t,My.Txt (L2.KOf KX) t:=by
   dsimp only [L2.KOf]                          -- K must stand as «<heap const> w.params» for k_is
   refine' My.txt_mk ?e1 ?e2 ?e3 ..
   (case e1 => PySem.W.k_is)                    -- in the order: a name -> its address -> its object -> its parts
   (case e2=>PySem.W.k_is)
   ..
  obtain ⟨t,T⟩:=T
  have e0:=hmg.symm.trans (PySem.W.mg_of KX G T.law)
  cases e0                                       -- fa is the law's own address
  exact ⟨_, fun s u => .of_eq rfl, fun base kb nb => My.law_fn T kb nb⟩     -- if «.of_eq rfl» comes too early: refine' ⟨_, ?b, fun base kb nb => My.law_fn T kb nb⟩; exact fun s u => .of_eq rfl
 case S=>exact fun w H a ns hl hO hS=>..
 case C=>exact ..
(the tactic k_is has no namespace: write k_is) -/

namespace L2
open PySem PySem.Spec PyProof.Rows

noncomputable def defArgs (s:Stmt):Arguments:=match s with
 | .FunctionDef _ a _ _ _ _ _ _ _ _=>a
 | _=>{ posonlyargs:=[],args:=[],vararg:=none,kwonlyargs:=[],kw_defaults:=[],kwarg:=none,defaults:=[] }
noncomputable def defBody (s:Stmt):List Stmt:=match s with
 | .FunctionDef _ _ b _ _ _ _ _ _ _=>b
 | _=>[]
noncomputable def defScope (s:Stmt):Scope:=match s with
 | .FunctionDef _ _ _ _ _ _ sc _ _ _=>sc
 | _=>{ kind:=.function,names:=[],isGenerator:=false,isCoroutine:=false }

noncomputable abbrev CX0:CXT:=fun _ _ _ _ _ _=>False
noncomputable abbrev E0:XK:=fun _ _ _=>False
theorem pass0 {X:Cx}:Passes CX0 X E0:=fun _ _ _ _ _ _ _ h=>h.elim

structure Fun (K:PySem.W.Frag) (x qual:Str) (st:Stmt) (f:Addr) (fd:FuncData):Prop where
 ex:∃ (oc:Value) (od:Option Addr) (kV doc pm:Value) (an:Option Addr) (cdv ct:Value) (osl:Array (Option Value)),
  fd = PySem.W.fnOf x qual (defArgs st) (defBody st) (defScope st) .none kV doc pm an cdv ct∧K.lookup f = some ⟨oc,od,.func fd,osl⟩∧PySem.W.codeIn K cdv qual = true
 kp:PySem.W.keepIn K (.ref f) = true
section
variable {P:Program} {w:World} {K:PySem.W.Frag} {mg:Str→Option Value} {base:Heap}
theorem Fun.ok {x qual:Str} {st:Stmt} {f:Addr} {fd:FuncData} {N ps:List Str} {k:Nat} {sp:Sp} (F:Fun K x qual st f fd) (S:FnScope N ps (defScope st)) (len:∀ vs H Q E,sp vs H Q E→vs.length = ps.length)
  (hbody:∀ (cdv:Value) (A:Around) (outer:List Env) (s:Shared) (H:Hp) (vs:List V) (Q:VK) (E:XK),Room k (A.deeper (envOfC qual (defScope st) s.heap.objs.size f cdv))→sp vs H Q E →
   ∃ t,PSs (cxOf CX0 P w K mg base N qual (defScope st) f cdv A outer s H E).nox (defBody st) t∧t { nx:=fun _ H'=>Q .non H',rt:=Q } (start N vs) H):FnOk P w K mg base CX0 (k + 1) f fd ps sp:=by
 obtain ⟨oc,od,kV,doc,pm,an,cdv,ct,osl,rfl,lk,hcd⟩:=F.ex
 refine fn_of lk hcd S len fun A outer s H vs Q E hr hsp=>?_
 obtain ⟨t,h,q⟩:=hbody cdv A outer s H vs Q E hr hsp
 exact ⟨t,h.nox,q⟩
theorem Fun.binds {x qual:Str} {st:Stmt} {f:Addr} {fd:FuncData} {ps:List Str} (F:Fun K x qual st f fd)
  (h:∀ (kV doc pm:Value) (an:Option Addr) (cdv ct:Value) (us:List Value),us.length = ps.length→bindArgs (PySem.W.fnOf x qual (defArgs st) (defBody st) (defScope st) .none kV doc pm an cdv ct) ⟨us,[]⟩ = pure (ps.zip us)):Binds K fd ps []:=by
 obtain ⟨oc,od,kV,doc,pm,an,cdv,ct,osl,rfl,lk,hcd⟩:=F.ex
 exact .all (h kV doc pm an cdv ct)
theorem fun_mk {x qual : Str} {st : Stmt} {f : Addr} {oc : Value} {od an : Option Addr} {osl : Array (Option Value)} {kV doc pm cdv ct : Value} (l : K.lookup f = some ⟨oc, od, .func (PySem.W.fnOf x qual (defArgs st) (defBody st) (defScope st) .none kV doc pm an cdv ct), osl⟩)
    (c : PySem.W.codeIn K cdv qual = true) (k : PySem.W.keepIn K (.ref f) = true) : Fun K x qual st f (PySem.W.fnOf x qual (defArgs st) (defBody st) (defScope st) .none kV doc pm an cdv ct) := ⟨⟨oc, od, kV, doc, pm, an, cdv, ct, osl, rfl, l, c⟩, k⟩
end
theorem hu_of {A:Around} {k:Nat} (hr:Room k A):A.units + 1 < cLine:=Nat.lt_of_le_of_lt (Nat.add_le_add_left (by decide:1≤64) _) hr.units
theorem small1000 {n:Nat} (h:n≤1000):n < sizeLine:=Nat.lt_of_le_of_lt h (by decide)

section
variable {X:Cx}
theorem pv (i : Nat) {x : Str} {pos : Pos} (hN : X.N[i]? = some x := by rfl) (hv : Vis X.env.scope x := by first | exact Or.inl rfl | exact Or.inr (Or.inl rfl) | exact Or.inr (Or.inr rfl)) (hd : (x == ("__debug__" : Str)) = false := by decide)
    (hcd : (x == ("__classdict__" : Str)) = false := by decide) : PE X (.Name x pos) (tVar i) := pe_var hN hv hd hcd
end

theorem iteF {A B:Prop} (h:B):if false = true then A else B:=by
 rw [if_neg Bool.false_ne_true]
 exact h
theorem iteT {A B:Prop} (h:A):if true = true then A else B:=by
 rw [if_pos rfl]
 exact h
theorem ite2 {c A B:Prop} [Decidable c] (h1:c→A) (h2:¬ c→B):if c then A else B:=by
 by_cases h:c
 ·rw [if_pos h]
  exact h1 h
 ·rw [if_neg h]
  exact h2 h
theorem iteNS {c A B:Prop} [Decidable c] (hc:c) (h:B):if (!decide c) = true then A else B:=by
 rw [decide_eq_true hc]
 exact iteF h

noncomputable def Same (H H':Hp):Prop:=∀ b o,H b = some o→H' b = some o
theorem Same.refl (H:Hp):Same H H:=fun _ _ h=>h
theorem Same.trans {H H1 H2:Hp} (a:Same H H1) (b:Same H1 H2):Same H H2:=fun c o h=>b c o (a c o h)
theorem Same.free {H H':Hp} (e:Same H H') {l:Addr} (h:H' l = Option.none):H l = Option.none:=by
 cases q:H l with
 | none=>rfl
 | some o =>
  rw [e l o q] at h
  cases h
theorem Same.seq {K:PySem.W.Frag} {H H':Hp} {a:Addr} {xs:List V} (e:Same H H') (h:SqL K H a xs):SqL K H' a xs:=by
 rcases h with (h | ⟨o,h⟩) | h
 ·exact .inl (.inl (e _ _ h))
 ·exact .inl (.inr ⟨o,e _ _ h⟩)
 ·exact .inr h

end L2


namespace L2
open PySem PySem.Spec PyProof.Rows
section
variable {κ:Type} [DecidableEq κ]
theorem valV_not {kvs:List (κ×V)} {k:κ} (h:valV kvs k = none):¬ k∈kvs.map (·.1):=by
 intro m
 obtain ⟨p,hp,e⟩:=List.mem_map.mp m
 have q:(kvs.any fun kv=>decide (kv.1 = k)) = true:=List.any_eq_true.mpr ⟨p,hp,decide_eq_true e⟩
 rw [valV_any,h] at q
 exact absurd q (by simp)
theorem valV_in {kvs:List (κ×V)} {k:κ} {v:V} (h:valV kvs k = some v):k∈kvs.map (·.1):=by
 have q:(kvs.any fun kv=>decide (kv.1 = k)) = true:=by
  rw [valV_any,h]
  all_goals rfl
 obtain ⟨p,hp,e⟩:=List.any_eq_true.mp q
 exact List.mem_map.mpr ⟨p,hp,of_decide_eq_true e⟩
end
end L2

namespace L2
open PySem PySem.Spec PyProof.Rows

theorem quietX {α:Type} {t:Sem α} {Q Q':α→Shared→Prop} {M:Model} {A:Around} {E:Value→Shared→Prop} {s:Shared} (h:wpAny M A t Q (fun _ _=>False) s) (hQ:∀ a s,Q a s→Q' a s):wpAny M A t Q' E s :=
 wpAny_mono h hQ fun _ _ z=>z.elim
theorem vals_of_get:∀ {xs:List V} {us:List Value},xs.length = us.length→(∀ (i:Nat) (x:V) (u:Value),xs[i]? = some x→us[i]? = some u→RelV x u)→Vals xs us
 | [],[],_,_=>.nil
 | [],_ :: _,h,_=>by simp at h
 | _ :: _,[],h,_=>by simp at h
 | x :: xs,u :: us,h,f=>.cons (f 0 x u rfl rfl) (vals_of_get (by simpa using h) fun i y w e1 e2=>f (i + 1) y w (by simpa using e1) (by simpa using e2))

noncomputable def cxComp (X:Cx) (scope:Scope) (cl:List (Str×Addr)) (NC:List Str) (fp:List Addr) (C:Addr) (s₀:Shared) (H₀:Hp):Cx where
 prog:=X.prog
 w:=X.w
 K:=X.K
 mg:=X.mg
 base:=X.base
 A:=X.A
 N:=NC
 s₀:=s₀
 H₀:=H₀
 env:=compEnvC scope cl C X.env
 outer:=X.stack
 stack:=X.stack
 ex:=fp
 fn:=fun _=>false
 calm:=X.calm
 pn:=[]
 xe:=fun _ _=>False
structure CompOk (X:Cx) (scope:Scope) (cl:List (Str×Addr)) (NC:List Str) (ini:List (Option Nat)):Prop where
 clos:closureFor scope X.env = pure cl
 cell:∀ y∈scope.names,y.2≠.cell
 kind:scope.kind = .function
 names:∀ y∈scope.names,y.2 = .local→scope.names.lookup y.1 = some .local
 cls:∀ x c,cl.lookup x = some c→X.env.cells.lookup x = some c
 has:∀ x,((relabel scope X.env).names.lookup x = some .cell∨(relabel scope X.env).names.lookup x = some .free)→∃ c,cl.lookup x = some c
 len:ini.length = NC.length
 src:∀ (i j:Nat) (x:Str),ini[i]? = some (some j)→NC[i]? = some x→X.N[j]? = some x∧(X.env.kindOf x = some .cell∨X.env.kindOf x = some .free) ∧
  ((relabel scope X.env).names.lookup x = some .cell∨(relabel scope X.env).names.lookup x = some .free)
noncomputable def iniSt (ini:List (Option Nat)) (σ:St):St:=ini.map fun o=>o.bind fun j=>(σ[j]?).join
section
variable {X:Cx} {scope:Scope} {cl:List (Str×Addr)} {NC:List Str} {ini:List (Option Nat)} {pins:List (Addr×Obj)} {σ:St} {H:Hp} {s:Shared} {fp:List Addr}
theorem inv_comp {h₁:Heap} {tk:Nat} {m:Str→Option Value} (O:CompOk X scope cl NC ini) (I:Inv X pins σ H s) (hf:∀ b∈fp,FpOk X pins H b) (ho:∀ b∈fp,∃ o,s.heap.get? b = some o)
  (hn:h₁.Ns s.heap.objs.size m) (hk:∀ b o,s.heap.get? b = some o→h₁.get? b = some o) :
  Inv (cxComp X scope cl NC fp s.heap.objs.size s H) [] (iniSt ini σ) H { s with heap:=h₁,toks:=tk }:=by
 have lt:∀ b∈fp,b < s.heap.objs.size:=fun b hb=>let ⟨o,e⟩:=ho b hb;Heap.lt_size e
 refine ⟨⟨I.ok.mod,O.kind,I.ok.glob,I.ok.blt,Nat.le_refl _,fun x y c h1 h2=>I.ok.inj x y c (O.cls x c h1) (O.cls y c h2),O.has,fun x c h=>(Bool.false_ne_true h).elim,I.ok.hd,I.ok.frames,.inl rfl,
   fun b hb=>⟨Nat.ne_of_lt (lt b hb),fun x c h=>(hf b hb).2.2.2.2.1 x c (O.cls x c h)⟩,I.bs,Nat.le_trans I.ok.bsz I.sz,fun b o e hb=>?_,fun b hb hs=>?_,I.stack,I.stkFree⟩,
  rfl,I.bare,Un.kept hk,⟨m,hn,fun i x v e1 e2 e3=>?_⟩,fun x c h=>?_,I.hok.fresh (Nat.le_refl _),fun x c h=>I.freeC x c (O.cls x c h),fun p hp=>absurd (show p∈([]:List (Addr×Obj)) from hp) (by simp),I.hok.kept hk,?_⟩
 ·rcases (hf b hb).2.2.2.1 with z | z
  ·exact I.ok.noex b o e z
  ·exact absurd (Nat.lt_of_lt_of_le (Heap.lt_size e) (Nat.le_trans I.ok.bsz z)) (Nat.lt_irrefl _)
 ·rcases List.mem_cons.mp (I.stkSub b hs) with e | e
  ·exact (hf b hb).2.1 e
  ·exact (hf b hb).2.2.1 e
 ·have e2:(ini.map fun o=>o.bind fun j=>(σ[j]?).join)[i]? = some (some v):=e2
  rw [List.getElem?_map] at e2
  cases q:ini[i]? with
  | none=>rw [q] at e2;cases e2
  | some oj =>
   rw [q] at e2
   cases oj with
   | none=>cases e2
   | some j =>
    have e4:(σ[j]?).join = some v:=Option.some.inj e2
    have e5:σ[j]? = some (some v):=by
     cases z:σ[j]? with
     | none=>rw [z] at e4;cases e4
     | some y =>
      rw [z] at e4
      have e4:y = some v:=e4
      rw [e4]
    obtain ⟨a1,a2,a3⟩:=O.src i j x q e1
    obtain ⟨m0,hn0,hl⟩:=I.loc
    obtain ⟨u,r,l⟩:=hl j x v a1 e5 (.inr a2)
    refine ⟨u,r,?_⟩
    rcases l with ⟨k,_⟩ | ⟨_,c,e,z⟩
    ·rcases a2 with a2 | a2
     ·rw [k] at a2;cases a2
     ·rw [k] at a2;cases a2
    ·obtain ⟨c',e'⟩:=O.has x a3
     have e6:=O.cls x c' e'
     rw [e] at e6
     cases e6
     obtain ⟨oc,h1,h2⟩:=z
     exact .inr ⟨a3,c,e',oc,hk _ _ h1,h2⟩
 ·obtain ⟨v,oc,h1,h2⟩:=I.cell x c (O.cls x c h)
  exact ⟨v,oc,hk _ _ h1,h2⟩
 ·show (ini.map _).length = NC.length
  rw [List.length_map]
  exact O.len
theorem comp_back {pinsC:List (Addr×Obj)} {σ':St} {H':Hp} {s':Shared} {h':Heap} (I:Inv X pins σ H s) (hf:∀ b∈fp,FpOk X pins H b) (J:Inv (cxComp X scope cl NC fp s.heap.objs.size s H) pinsC σ' H' s')
  (hs:Heap.SameBut s.heap.objs.size s'.heap h'):Inv X pins σ H' { s' with heap:=h' }:=by
 have ne:∀ {b:Addr} {o:Obj},s.heap.get? b = some o→b≠s.heap.objs.size:=fun e=>Nat.ne_of_lt (Heap.lt_size e)
 have hfree:H' s.heap.objs.size = none:=J.free
 have B:Un (frs X.stack) fp H H' s.heap s'.heap:=J.base
 refine I.call' (s':={ s' with heap:=h' }) (ch:=fp) J.os ⟨fun b o q n hb hx=>(hs.2 b (ne q)).trans (B.keep b o q n hb hx),fun b o q n hb hx=>?_,B.free,fun b o q hx=>?_,B.tups,B.frzs,B.tbls⟩ (fun b u e=>?_) J.bare
  fun b hb=>⟨(hf b hb).2.2.2.1,(hf b hb).2.1,(hf b hb).2.2.2.2.1,(hf b hb).2.2.2.2.2⟩
 ·obtain ⟨sl,e⟩:=B.slot b o q n hb hx
  exact ⟨sl,(hs.2 b (ne q)).trans e⟩
 ·obtain ⟨o',e⟩:=B.there b o q hx
  exact ⟨o',(hs.2 b (ne q)).trans e⟩
 ·refine (J.hok b u e).stay (fun c v hc q=>(hs.2 c ?_).trans q) (fun _ q=>q) fun _ _ q=>q
  rintro rfl
  rcases hc with hc | hc
  ·rw [← hc,hfree] at e;cases e
  ·rw [hfree] at hc;cases hc
end

noncomputable def PTs (X:Cx) (ifs:List Expr) (t:TT):Prop :=
 ∀ (pins:List (Addr×Obj)) (s:Shared) (σ:St) (H:Hp) (Q:Bool→Hp→Prop),Inv X pins σ H s→t σ H Q →
  wpAny (model X.prog X.w) X.A (forIn ifs true fun c r=>if r = true then do let ok ← isTrue c X.env (eval c X.env);pure (ForInStep.yield ok) else pure (ForInStep.yield r)) (TP X pins σ Q) X.xe s
noncomputable def tYes:TT:=fun _ H Q=>Q true H
theorem gYes {i:Nat} {v:V} {σ:St} {H:Hp} {A B:St→Hp→Prop} (h:A (σ.set i (some v)) H):gName i v σ H (fun σ3 H3=>tYes σ3 H3 fun b H4=>if b = true then A σ3 H4 else B σ3 H4):=h
theorem pts_nil {X:Cx}:PTs X [] tYes:=fun _ _ _ H _ I h=>wpAny_tests_nil ⟨H,I,h⟩
theorem pts_one {X:Cx} {c:Expr} {t:TT} (h:PT X c t):PTs X [c] t:=fun pins s σ H Q I hw=>wpAny_tests_one (h pins s σ H Q I hw)

noncomputable def CompW (J:It) (g:TG) (tt:TT) (te:TE) (D:Addr) (Q:VK) (σ₀:St) (H₀:Hp):Prop :=
 ∃ W:Nat→Nat→St→Hp→Prop,(∃ m,W 0 m σ₀ H₀)∧∀ i m σ' H',W i m σ' H' →
  (J.stop i H'∧Q (.ref D) H')∨(J.go i H'∧∃ N:St→Hp→Prop,(∀ σ2 H2,N σ2 H2→∃ m',m' < m∧W (i + 1) m' σ2 H2) ∧
   ∀ x H2,J.yld i H' x H2→g x σ' H2 fun σ3 H3=>tt σ3 H3 fun b H4=>if b = true then te σ3 H4 fun v H5=>∃ ys,H5 D = some (.lst ys)∧ys.length < sizeLine∧N σ3 (upd H5 D (.lst (ys ++ [v]))) else N σ3 H4)
noncomputable def tComp (wi:TI) (g:TG) (tt:TT) (te:TE) (ini:List (Option Nat)):TE:=fun σ H Q=>wi σ H fun J H1=>∀ D,H1 D = none→CompW J g tt te D Q (iniSt ini σ) (upd H1 D (.lst []))
theorem pe_comp {X:Cx} {elt iter tg:Expr} {ifs:List Expr} {scope:Scope} {pos:Pos} {cl:List (Str×Addr)} {NC:List Str} {ini:List (Option Nat)} {wi:TI} {g:TG} {tt:TT} {te:TE}
  (hc:X.calm = true) (O:CompOk X scope cl NC ini) (hi:PI X tg iter wi)
  (hg:∀ fp C s₀ H₀,PG (cxComp X scope cl NC fp C s₀ H₀) tg g) (ht:∀ fp C s₀ H₀,PTs (cxComp X scope cl NC fp C s₀ H₀) ifs tt) (he:∀ fp C s₀ H₀,PE (cxComp X scope cl NC fp C s₀ H₀) elt te)
  (hs:∀ x,foldedSetIterable iter X.env x = pure x:=by intro _;rfl):PE X (.ListComp elt [⟨tg,iter,ifs,0⟩] scope pos) (tComp wi g tt te ini):=by
 intro pins s σ H Q I h
 rw [eval_ListComp]
 refine wpAny_comprehension_free (use:=none) rfl hs O.clos O.kind O.names (thn (hi pins s σ H _ I h) fun v s1 h1=>thn h1 fun itv s2 h2=>?_)
 obtain ⟨it,fp,tn,J,H2,e,I2,T,st2,f2,h2⟩:=h2
 subst e
 have hD:H2 s2.heap.objs.size = none:=I2.hok.fresh (Nat.le_refl _)
 obtain ⟨W,⟨m0,w0⟩,turn⟩:=h2 _ hD
 refine wpAny_newObj_type (wpAny_newFunctionEnv O.cell (by intro y hy;simp at hy) (fun h₁ hns₁ hsb₁=>?_) O.kind)
 dsimp only at hns₁ hsb₁ ⊢
 have I3:Inv X pins σ (upd H2 s2.heap.objs.size (.lst [])) { s2 with heap:=s2.heap.push { cls:=.type "list",dict:=none,data:=.seq ([]:List Value).toArray } }:=I2.lnew (its:=[]) (t':=s2.toks) .nil (by decide)
 have ob2:∀ b∈fp,∃ o,s2.heap.get? b = some o:=fun b hb=>let ⟨o,e,_⟩:=T.obj 0 _ st2 b hb;⟨o,e⟩
 have neD:∀ b∈fp,b≠s2.heap.objs.size:=fun b hb=>let ⟨o,e⟩:=ob2 b hb;Nat.ne_of_lt (Heap.lt_size e)
 have f3:∀ b∈fp,FpOk X pins (upd H2 s2.heap.objs.size (.lst [])) b:=fun b hb=>⟨by rw [upd_ne (neD b hb)];exact (f2 b hb).1,(f2 b hb).2⟩
 generalize hs3:({ s2 with heap:=s2.heap.push { cls:=.type "list",dict:=none,data:=.seq ([]:List Value).toArray } }:Shared) = s3 at I3
 have hh3:s2.heap.push { cls:=.type "list",dict:=none,data:=.seq ([]:List Value).toArray } = s3.heap:=by rw [← hs3]
 have ob3:∀ b∈fp,∃ o,s3.heap.get? b = some o:=fun b hb=>let ⟨o,e⟩:=ob2 b hb;⟨o,by rw [← hh3];exact Heap.get?_push_of_some _ e⟩
 rw [hh3] at hns₁ hsb₁ ⊢
 have old:∀ b o,s3.heap.get? b = some o→h₁.get? b = some o:=fun b o e=>hsb₁.extBut b o (Nat.ne_of_lt (Heap.lt_size e)) (Heap.get?_push_of_some _ e)
 have st1:tn 0 h₁:=T.keep 0 _ _ st2 fun b hb o e=>old b o (by rw [← hh3];exact Heap.get?_push_of_some _ e)
 have IC:∀ tk,Inv (cxComp X scope cl NC fp s3.heap.objs.size s3 (upd H2 s2.heap.objs.size (.lst []))) [] (iniSt ini σ) (upd H2 s2.heap.objs.size (.lst [])) { s3 with heap:=h₁,toks:=tk }:=fun tk=>inv_comp O I3 f3 ob3 hns₁ old
 have stat:∀ {H':Hp},(∀ b∈fp,H' b = none)→∀ b∈fp,FpOk (cxComp X scope cl NC fp s3.heap.objs.size s3 (upd H2 s2.heap.objs.size (.lst []))) [] H' b:=fun {H'} hn b hb=>by
  obtain ⟨o,e⟩:=ob3 b hb
  refine ⟨hn b hb,Nat.ne_of_lt (Heap.lt_size e),fun z=>?_,.inl hb,fun x c hx=>(f3 b hb).2.2.2.2.1 x c (O.cls x c hx),fun p hp=>absurd (show p∈([]:List (Addr×Obj)) from hp) (by simp)⟩
  rcases List.mem_cons.mp (I3.stkSub b z) with q | q
  ·exact (f3 b hb).2.1 q
  ·exact (f3 b hb).2.2.1 q
 have loop:∀ s₃:Shared,s₃ = { s2 with heap:=h₁,toks:=s2.toks + ([]:List (Str×Value)).length } →
   codeAny (model X.prog X.w) X.A (.compLoop (.ListComp elt [⟨tg,iter,ifs,0⟩] scope pos) 0 (.ref it) (.ref s2.heap.objs.size) (compEnvC scope cl s3.heap.objs.size X.env))
    (compPost (model X.prog X.w) X.A X.xe none (EP X pins σ Q) (.ref s2.heap.objs.size) s3.heap.objs.size) s₃:=by
  rintro s₃ rfl
  refine codeAny_loop rfl (fun n s'=>∃ i σ' H',Inv (cxComp X scope cl NC fp s3.heap.objs.size s3 (upd H2 s2.heap.objs.size (.lst []))) [] σ' H' s'∧tn i s'.heap∧(∀ b∈fp,H' b = none)∧W i n σ' H') (fun n s' hI=>?_) m0
   ⟨0,_,_,by have z:=IC (s2.toks + ([]:List (Str×Value)).length);rw [← hs3] at z ⊢;exact z,st1,fun b hb=>(f3 b hb).1,w0⟩
  show wpAny _ X.A ((compTurn (.ListComp elt [⟨tg,iter,ifs,0⟩] scope pos) 0 (.ref it) (.ref s2.heap.objs.size) (compEnvC scope cl s3.heap.objs.size X.env)).onRaise (fun x=>do noteFrame x (compEnvC scope cl s3.heap.objs.size X.env);theTreesLotGoes x)) _ _ s'
  refine wpAny_noted ?_
  rw [compTurn_list]
  obtain ⟨i,σ3,H3,I3',st3,fr3,w3⟩:=hI
  rcases turn i n σ3 H3 w3 with ⟨stop,qn⟩ | ⟨go,N,hN,step⟩
  ·refine wpAny_bind (wpAny_standAt (wpAny_bind (thn (T.done (cxComp X scope cl NC fp s3.heap.objs.size s3 (upd H2 s2.heap.objs.size (.lst []))) rfl rfl rfl hc i [] s' σ3 H3 _ I3' (stat fr3) st3 stop) fun r s4 ⟨hr,I4⟩=>?_)))
   subst hr
   obtain ⟨m',hn',_⟩:=I4.loc
   exact wpAny_pure ⟨m',hn',fun h' hs'=>⟨.ref s2.heap.objs.size,H3,comp_back I3 f3 I4 hs',rfl,qn⟩⟩
  ·refine wpAny_bind (wpAny_standAt (wpAny_bind (thn (T.item (cxComp X scope cl NC fp s3.heap.objs.size s3 (upd H2 s2.heap.objs.size (.lst []))) rfl rfl rfl hc i [] s' σ3 H3 _ I3' (stat fr3) st3 go) fun r s4 ⟨u,hr,h4⟩=>?_)))
   subst hr
   refine wpAny_bind (thn h4 fun _ s5 ⟨x,H5,I5,r5,y5,st5,fr5⟩=>?_)
   have I5':=I5.pinned (stat fr5) (T.obj _ _ st5)
   refine wpAny_bind (quietX (hg fp _ s3 _ _ s5 σ3 H5 x u _ I5' r5 (step x H5 y5)) fun _ s6 ⟨σ6,H6,I6,q6⟩=>?_)
   have again:∀ {s7:Shared} {H7:Hp},Inv (cxComp X scope cl NC fp s3.heap.objs.size s3 (upd H2 s2.heap.objs.size (.lst []))) ([] ++ pinsAt fp s5.heap) σ6 H7 s7→N σ6 H7 →
     ∃ m,m < n∧∃ i σ' H',Inv (cxComp X scope cl NC fp s3.heap.objs.size s3 (upd H2 s2.heap.objs.size (.lst []))) [] σ' H' s7∧tn i s7.heap∧(∀ b∈fp,H' b = none)∧W i m σ' H':=fun {s7 H7} I7 n7=>by
    obtain ⟨m',hm,w7⟩:=hN σ6 H7 n7
    refine ⟨m',hm,i + 1,σ6,H7,I7.unpinned,T.keep _ _ _ st5 fun b hb o e=>(I7.pin (b,o) (List.mem_append_right _ (List.mem_append_right _ (mem_pinsAt hb e)))).1,fun b hb=>?_,w7⟩
    obtain ⟨o,e,d⟩:=T.obj _ _ st5 b hb
    exact (I7.pin (b,o) (List.mem_append_right _ (List.mem_append_right _ (mem_pinsAt hb e)))).2.1
   refine wpAny_bind (quietX (ht fp _ s3 _ _ s6 σ6 H6 _ I6 q6) fun ok s7 ⟨H7,I7,q7⟩=>?_)
   cases ok with
   | false=>exact wpAny_pure ⟨rfl,again I7 q7⟩
   | true =>
    refine wpAny_bind (wpAny_bind (quietX (he fp _ s3 _ _ s7 σ6 H7 _ I7 q7) fun u8 s8 ⟨v8,H8,I8,r8,ys,hy,hz,n8⟩=>?_))
    refine wpAny_bind (quietX (mt_append _ s8 σ6 H8 (.ref s2.heap.objs.size) [v8] (.ref s2.heap.objs.size) [u8] (fun _ H9=>N σ6 H9) I8 rfl (.cons r8 .nil) ⟨_,ys,v8,rfl,rfl,hy,hz,n8⟩) fun _ s9 ⟨_,H9,I9,_,n9⟩=>?_)
    exact wpAny_pure (wpAny_pure ⟨rfl,again I9 n9⟩)
 exact codeAny_compStart_list (loop _ rfl) (T.self _ 0 _ _ _ st1 (loop _ rfl))

theorem comp_range {lo:Int} {n:Nat} {g:TG} {tt:TT} {te:TE} {D:Addr} {Q:VK} {σ₀:St} {H₀:Hp} (Pv:Nat→St→Hp→Prop) (h0:Pv 0 σ₀ H₀)
  (hs:∀ i σ H,i < n→Pv i σ H→g (.int (lo + i)) σ H fun σ3 H3=>tt σ3 H3 fun b H4=>if b = true then te σ3 H4 fun v H5=>∃ ys,H5 D = some (.lst ys)∧ys.length < sizeLine∧Pv (i + 1) σ3 (upd H5 D (.lst (ys ++ [v]))) else Pv (i + 1) σ3 H4)
  (hd:∀ σ H,Pv n σ H→Q (.ref D) H):CompW (Itr lo n) g tt te D Q σ₀ H₀:=by
 refine ⟨fun i m σ H=>m = n - i∧i≤n∧Pv i σ H,⟨n,by simp,Nat.zero_le _,h0⟩,?_⟩
 rintro i m σ H ⟨rfl,hi,p⟩
 by_cases hlt:i < n
 ·refine .inr ⟨hlt,Pv (i + 1),fun σ' H' p'=>⟨n - (i + 1),by omega,rfl,hlt,p'⟩,fun x H' y=>?_⟩
  obtain ⟨e,y⟩:=y
  subst e y
  exact hs i σ _ hlt p
 ·have e:i = n:=by omega
  subst e
  exact .inl ⟨Nat.le_refl _,hd σ H p⟩
theorem comp_list {K:PySem.W.Frag} {a:Addr} {xs:List V} {g:TG} {tt:TT} {te:TE} {D:Addr} {Q:VK} {σ₀:St} {H₀:Hp} (Pv:Nat→St→Hp→Prop) (h0:Pv 0 σ₀ H₀) (hl:∀ i σ H,i≤xs.length→Pv i σ H→SqL K H a xs)
  (hs:∀ i x σ H,xs[i]? = some x→Pv i σ H→g x σ H fun σ3 H3=>tt σ3 H3 fun b H4=>if b = true then te σ3 H4 fun v H5=>∃ ys,H5 D = some (.lst ys)∧ys.length < sizeLine∧Pv (i + 1) σ3 (upd H5 D (.lst (ys ++ [v]))) else Pv (i + 1) σ3 H4)
  (hd:∀ σ H,Pv xs.length σ H→Q (.ref D) H):CompW (Itl K a) g tt te D Q σ₀ H₀:=by
 refine ⟨fun i m σ H=>m = xs.length - i∧i≤xs.length∧Pv i σ H,⟨xs.length,by simp,Nat.zero_le _,h0⟩,?_⟩
 rintro i m σ H ⟨rfl,hi,p⟩
 have q:=hl i σ H hi p
 by_cases hlt:i < xs.length
 ·refine .inr ⟨⟨xs,xs[i],q,by simp [hlt]⟩,Pv (i + 1),fun σ' H' p'=>⟨xs.length - (i + 1),by omega,rfl,hlt,p'⟩,fun x H' y=>?_⟩
  obtain ⟨e,y⟩:=y
  subst e
  exact hs i x σ _ (y xs q) p
 ·have e:i = xs.length:=by omega
  subst e
  exact .inl ⟨⟨xs,q,Nat.le_refl _⟩,hd σ H p⟩
theorem compOk0 {X:Cx} {scope:Scope} {NC:List Str} (hkind:scope.kind = .function) (h:∀ y∈scope.names,y.2≠.cell∧y.2≠.free) (hn:∀ y∈scope.names,y.2 = .local→scope.names.lookup y.1 = some .local) :
  CompOk X scope [] NC (List.replicate NC.length none) where
 clos:=closureFor_none fun x hx=>(h x hx).2
 cell:=fun y hy=>(h y hy).1
 kind:=hkind
 names:=hn
 cls:=fun x c e=>by cases e
 has:=fun x e=>by
  exfalso
  have key:∀ k,(relabel scope X.env).names.lookup x = some k→k = .cell∨k = .free→False:=fun k e hk=>by
   have hm:=PySem.mem_of_lookup e
   obtain ⟨⟨n,k'⟩,hy,ey⟩:=List.mem_map.mp hm
   have h1:=h _ hy
   have hb:(k' == NameKind.free) = false:=by simpa using h1.2
   simp only [hb,Bool.false_and,Bool.false_eq_true,if_false,Prod.mk.injEq] at ey
   obtain ⟨_,rfl⟩:=ey
   rcases hk with hk | hk
   ·exact h1.1 hk
   ·exact h1.2 hk
  rcases e with e | e
  ·exact key _ e (.inl rfl)
  ·exact key _ e (.inr rfl)
 len:=by simp
 src:=fun i j x e _=>by
  rw [List.getElem?_replicate] at e
  split at e <;> cases e

section
variable {X:Cx}
theorem call_rng2:CallR X (.type "range") (fun xs H Q=>∃ i j,xs = [.int i,.int j]∧∀ p,H p = none→Q (.ref p) (upd H p (.rng i j))):=by
 intro pins s σ H xs us Q I r h
 obtain ⟨i,j,rfl,q⟩:=h
 obtain ⟨u,v,rfl,ru,rv⟩:=r.two
 obtain ⟨t,rfl⟩:=ru
 obtain ⟨t',rfl⟩:=rv
 refine call_range_2 ⟨.ref s.heap.objs.size,_,I.laid (o:=.rng i j) (fun b u e=>Heap.get?_push_of_some _ e) (Nat.le_refl _) ?_,rfl,q _ (I.hok.fresh (Nat.le_refl _))⟩
 exact ⟨_,_,_,Heap.get?_push_size _ rfl⟩
noncomputable def rngV (lo:Int) (n:Nat):List V:=(List.range n).map fun (i:Nat)=>V.int (lo + i)
theorem rngV_len (lo:Int) (n:Nat):(rngV lo n).length = n:=by unfold rngV;rw [List.length_map,List.length_range]
theorem rngV_get {lo:Int} {n i:Nat} (h:i < n):(rngV lo n)[i]? = some (.int (lo + i)):=by
 unfold rngV
 rw [List.getElem?_map,List.getElem?_range h]
 rfl
theorem call_list_rng (hc:X.calm = true):CallR X (.type "list") (fun xs H Q=>∃ p lo hi,xs = [.ref p]∧H p = some (.rng lo hi)∧(-(2 ^ 62)≤lo∧lo < 2 ^ 62∧-(2 ^ 62)≤hi∧hi < 2 ^ 62)∧(hi - lo).toNat≤2 ^ 20 ∧
  ∀ l,H l = none→Q (.ref l) (upd H l (.lst (rngV lo (hi - lo).toNat)))):=by
 intro pins s σ H xs us Q I r h
 obtain ⟨p,lo,hi,rfl,hp,⟨b1,b2,b3,b4⟩,hz,q⟩:=h
 obtain ⟨u,rfl,ru⟩:=r.one
 cases ru
 obtain ⟨t,u',v',e⟩:=I.hok p _ hp
 have hsz:(hi - lo).toNat≤sizeLine:=Nat.le_trans hz (by decide)
 refine call_list_range (n:=(hi - lo).toNat) (I.ok.hd hc) (show IsRange s.heap p lo hi 1 t u' v' from e) (small_one b1 b2 b3 b4) (by rw [rangeSize_one];split <;> omega) (Nat.le_trans hz (by decide)) fun h' tk acc' c' hk hS' hacc=>?_
 refine ⟨.ref s.heap.objs.size,_,I.laid (o:=.lst (rngV lo (hi - lo).toNat)) (t':=tk) hk (Nat.le_refl _) ⟨by rw [rngV_len];exact hsz,acc'.toList,c',?_,by simpa using hS'⟩,rfl,q _ (I.hok.fresh (Nat.le_refl _))⟩
 refine vals_of_get (by rw [rngV_len,Array.length_toList,hacc.1]) fun i x w e1 e2=>?_
 have hi':i < (hi - lo).toNat:=by
  have z:=(List.getElem?_eq_some_iff.mp e1).1
  rw [rngV_len] at z
  exact z
 rw [rngV_get hi'] at e1
 cases e1
 obtain ⟨t,rfl⟩:=hacc.2 i w (by simpa using e2)
 exact ⟨t,by rw [Int.mul_one]⟩
theorem call_isi:CallR X (.builtin "isinstance") (fun xs H Q=>∃ x n t b,xs = [x,.ty n]∧TyOf X.K H x t∧PySem.W.kitOne X.K t (.type n) = some b∧Q (.bl b) H):=by
 intro pins s σ H xs us Q I r h
 obtain ⟨x,n,t,b,rfl,ty,e,q⟩:=h
 obtain ⟨u,v,rfl,ru,rv⟩:=r.two
 cases rv
 exact isinst_ok I ru ty e fun tk=>⟨.bl b,H,I.tok tk,rfl,q⟩
theorem kit_lst_lst (K:PySem.W.Frag):PySem.W.kitOne K (.type "list") (.type "list") = some true:=by unfold PySem.W.kitOne;rw [if_pos (by decide +kernel)]
end

structure Fn (K:PySem.W.Frag) (mg:Str→Option Value) (x:Str) (st:Stmt) (ps:List Str) (f:Addr) (fd:FuncData):Prop where
 fn:Fun K x x st f fd
 b:Binds K fd ps []
 g:mg x = some (.ref f)
theorem Fn.mk' {K : PySem.W.Frag} {mg : Str → Option Value} {x : Str} {st : Stmt} {ps : List Str} {f : Addr} {fd : FuncData} (F : Fun K x x st f fd)
    (h : ∀ (kV doc pm : Value) (an : Option Addr) (cdv ct : Value) (us : List Value), us.length = ps.length → bindArgs (PySem.W.fnOf x x (defArgs st) (defBody st) (defScope st) .none kV doc pm an cdv ct) ⟨us, []⟩ = pure (ps.zip us))
    (g : mg x = some (.ref f)) : Fn K mg x st ps f fd := ⟨F, F.binds h, g⟩
theorem pe_fn {X : Cx} {x : Str} {st : Stmt} {ps : List Str} {f : Addr} {fd : FuncData} {k : Nat} {sp : Sp} {e : Expr} {es : List Expr} {t : TA} {p pos : Pos} (G : FnOk X.prog X.w X.K X.mg X.base CX0 k f fd ps sp) (F : Fn X.K X.mg x st ps f fd) (hr : Room k X.A) (ha : PA X (e :: es) t)
    (hg : Gl X x := by rfl) (hdb : (x == ("__debug__" : Str)) = false := by decide) (he : starEach (e :: es) X.env = (false, eval e X.env) :: starEach es X.env := by rfl) (hpl : (backTo pos (starEach es X.env)).any (·.1) = false := by rfl) :
    PE X (.Call (.Name x p) (e :: es) [] pos) (tCall sp [] E0 t) := pe_call G hr hg F.g F.fn.kp F.b .nil pass0 ha hdb he hpl
noncomputable def spLaw (K:PySem.W.Frag):Sp:=fun vs H Q _=>∃ (a:Addr) (ns:List Int),vs = [.ref a]∧SqL K H a (ns.map V.int)∧ns.length≤63∧∀ H',Q (.bl true) H'

theorem same_upd {H:Hp} {p:Addr} {o:HO} (h:H p = none):Same H (upd H p o):=fun b u e=>by rw [upd_ne (ne_of_none e h)];exact e
theorem Same.upd {H H':Hp} {p:Addr} {o:HO} (s:Same H H') (h:H p = none):Same H (upd H' p o):=fun b u e=>by rw [upd_ne (ne_of_none e h)];exact s b u e
theorem atI_of {xs:List V} {k:Int} {v:V} (h0:0≤k) (h:xs[k.toNat]? = some v):atI xs k = some v:=by
 have e:k = (k.toNat:Int):=by omega
 rw [e]
 exact atI_nat h

theorem bb_len:bootBuiltins "len" = some (.builtin "len"):=by decide +kernel
theorem bb_isinstance:bootBuiltins "isinstance" = some (.builtin "isinstance"):=by decide +kernel
theorem bb_sorted:bootBuiltins "sorted" = some (.builtin "sorted"):=by decide +kernel
theorem bb_list:bootBuiltins "list" = some (.type "list"):=by decide +kernel
theorem bb_tuple:bootBuiltins "tuple" = some (.type "tuple"):=by decide +kernel
theorem bb_range:bootBuiltins "range" = some (.type "range"):=by decide +kernel
theorem bb_enumerate:bootBuiltins "enumerate" = some (.type "enumerate"):=by decide +kernel
end L2

namespace L2E
open PySem PySem.Spec PyProof.Rows
open Sem (wp)
open AutoSeq1 (wpAny_loadPart')
section
variable {prog:Program} {w:World} {A:Around} {E:Value→Shared→Prop} {s:Shared}
theorem nextOf_tup_item {it t:Addr} {i:Nat} {items:Array Value} {x:Value} {Q:Value→Shared→Prop} (hit:s.heap.IsTupleIter it t i) (ht:s.heap.IsTuple t items) (hx:items[i]? = some x)
  (hQ:∀ h',h'.IsTupleIter it t (i + 1)→Heap.SameBut it s.heap h'→Q x { s with heap:=h' }):wpAny (model prog w) A (Builtin.SmallTypes.nextOf (.ref it)) Q E s:=by
 obtain ⟨o,ho,hc,hd⟩:=id hit
 obtain ⟨ol,hol,_,nl,hdl⟩:=ht
 unfold Builtin.SmallTypes.nextOf
 refine wpAny_bind (wpAny_callSpecial?_slot (name:=Str.ofString "__next__") hit.typeIs F.slot_tuple_iterator_next (wpAny_call_entry F.slot_tuple_iterator_next hit.typeIs F.entry_tuple_iterator_next ?_ (F.args_tuple_iterator_next_1 _)))
 show wpAny _ _ (field (.ref it) 0 >>= _) _ _ s
 refine wpAny_bind (wpAny_field ho hd (x:=.ref t) rfl ?_)
 show wpAny _ _ (if (Value.ref t == Value.none) = true then _ else _) _ _ s
 rw [if_neg (show ¬ ((Value.ref t == Value.none) = true) from Bool.false_ne_true)]
 show wpAny _ _ (field (.ref it) 1 >>= _) _ _ s
 refine wpAny_bind (wpAny_field ho hd (x:=.int i 0) rfl ?_)
 show wpAny _ _ (seqItems? (.ref t) >>= _) _ _ s
 refine wpAny_bind (wpAny_seqItems hol hdl ?_)
 simp only [Int.toNat_natCast,hx]
 refine wpAny_bind (wpAny_setField ho hd (by simp) (wpAny_pure ⟨x,rfl,wpAny_pure (hQ _ ?_ (Heap.SameBut.update ..))⟩))
 exact ⟨_,Heap.get?_update_self _ ho (Obj.isFreed_of_fields (Obj.data_mapFields hd _)),(Obj.cls_mapFields ..).trans hc,by
  rw [Obj.data_mapFields hd];simp [rawInt]⟩
theorem nextOf_tup_end {it t:Addr} {i:Nat} {items:Array Value} {Q:Value→Shared→Prop} (hh:A.handled = none) (hit:s.heap.IsTupleIter it t i) (ht:s.heap.IsTuple t items) (hx:items[i]? = none)
  (hE:∀ h' e,Heap.ExtBut it s.heap h'→(∃ o,h'.get? e = some o∧o.cls = .type "StopIteration")→E (.ref e) { s with heap:=h' }):wpAny (model prog w) A (Builtin.SmallTypes.nextOf (.ref it)) Q E s:=by
 obtain ⟨o,ho,hc,hd⟩:=id hit
 obtain ⟨ol,hol,_,nl,hdl⟩:=ht
 unfold Builtin.SmallTypes.nextOf
 refine wpAny_bind (wpAny_callSpecial?_slot (name:=Str.ofString "__next__") hit.typeIs F.slot_tuple_iterator_next (wpAny_call_entry F.slot_tuple_iterator_next hit.typeIs F.entry_tuple_iterator_next ?_ (F.args_tuple_iterator_next_1 _)))
 show wpAny _ _ (field (.ref it) 0 >>= _) _ _ s
 refine wpAny_bind (wpAny_field ho hd (x:=.ref t) rfl ?_)
 show wpAny _ _ (if (Value.ref t == Value.none) = true then _ else _) _ _ s
 rw [if_neg (show ¬ ((Value.ref t == Value.none) = true) from Bool.false_ne_true)]
 show wpAny _ _ (field (.ref it) 1 >>= _) _ _ s
 refine wpAny_bind (wpAny_field ho hd (x:=.int i 0) rfl ?_)
 show wpAny _ _ (seqItems? (.ref t) >>= _) _ _ s
 refine wpAny_bind (wpAny_seqItems hol hdl ?_)
 simp only [Int.toNat_natCast,hx]
 refine wpAny_bind (wpAny_rule (wpAny_bind (wpAny_setField ho hd (by simp) ?_)))
 show wpAny _ _ (newExc (.type "StopIteration") [] >>= _) _ _ _
 refine wpAny_bind ?_
 simp only [newExc,newTuple]
 refine wpAny_bind (wpAny_newObj_type ?_ (by size_fits))
 refine wpAny_bind (m:=firstArgMember _ _) (wpAny_of_eq (a:=Value.none) (by first | rfl | (simp only [firstArgMember];rfl)) ?_)
 refine wpAny_newObj_type ?_ (by size_fits)
 simp only [raiseNew]
 refine wpAny_bind (wpAny_handled ?_)
 first | rw [show A.in1.handled = none from hh] | rw [hh]
 refine wpAny_bind (wpAny_pure (wpAny_throw ?_))
 exact hE _ _ (((Heap.SameBut.update ..).extBut.push _).push _) ⟨_,Heap.get?_push_size _ rfl,rfl⟩

theorem enum_tup_next {e it l:Addr} {i:Nat} {items:Array Value} {x old:Value} {Q:Value→Shared→Prop}
  (he:IsEnum s.heap e it i old) (hit:s.heap.IsTupleIter it l i) (hl:s.heap.IsTuple l items) (hx:items[i]? = some x) (hne:e≠it)
  (hQ:∀ h',IsEnumOut h' e it ((i:Int) + 1) x s.heap.objs.size→h'.IsTupleIter it l (i + 1)→h'.get? s.heap.objs.size = some { cls:=.type "tuple",data:=.seq #[.int i s.toks,x] }→h'.objs.size = s.heap.objs.size + 1 →
   (∀ b o,b≠e→b≠it→s.heap.get? b = some o→h'.get? b = some o)→Q (.ref s.heap.objs.size) { s with heap:=h',toks:=s.toks + 1 }) :
  wpAny (model prog w) A (Builtin.«enumerate.__next__» ⟨[.ref e],[]⟩) (fun fin s'=>∃ v,fin = .done (.ret v)∧Q v s') E s:=by
 obtain ⟨hp,g,d,tk,os⟩:=s
 show wpAny _ _ (field (.ref e) 2 >>= _) _ _ _
 refine wpAny_bind (wpAny_field he rfl (x:=.ref it) rfl ?_)
 refine wpAny_bind (nextOf_tup_item hit hl hx fun h₁ hit₁ hs₁=>?_)
 replace hs₁:Heap.SameBut it hp h₁:=hs₁
 have he₁:IsEnum h₁ e it i old:=(hs₁.2 e hne).trans he
 show wpAny _ _ (field (.ref e) 3 >>= _) _ _ ⟨h₁,g,d,tk,os⟩
 refine wpAny_bind (wpAny_field he₁ rfl (x:=rawInt i) rfl ?_)
 show wpAny _ _ (field (.ref e) 4 >>= _) _ _ ⟨h₁,g,d,tk,os⟩
 refine wpAny_bind (wpAny_field he₁ rfl (x:=.none) rfl ?_)
 show wpAny _ _ (mkInt i >>= _) _ _ ⟨h₁,g,d,tk,os⟩
 refine wpAny_bind (wpAny_mkInt ?_)
 show wpAny _ _ (setField (.ref e) 3 (rawInt ((i:Int) + 1)) >>= _) _ _ ⟨h₁,g,d,tk + 1,os⟩
 refine wpAny_bind (wpAny_setField_rec he₁ (by simp) fun h₂ he₂ hs₂=>?_)
 replace hs₂:Heap.SameBut e h₁ h₂:=hs₂
 replace he₂:IsEnum h₂ e it ((i:Int) + 1) old:=he₂
 show wpAny _ _ (setField (.ref e) 4 .none >>= _) _ _ ⟨h₂,g,d,tk + 1,os⟩
 refine wpAny_bind (wpAny_setField_rec he₂ (by simp) fun h₃ he₃ hs₃=>?_)
 replace hs₃:Heap.SameBut e h₂ h₃:=hs₃
 replace he₃:IsEnum h₃ e it ((i:Int) + 1) old:=he₃
 show wpAny _ _ (newTuple [.int i tk,x] >>= _) _ _ ⟨h₃,g,d,tk + 1,os⟩
 refine wpAny_bind (wpAny_newTuple ?_)
 have he₄:IsEnum (h₃.push { cls:=.type "tuple",data:=.seq #[.int i tk,x] }) e it ((i:Int) + 1) old:=Heap.get?_push_of_some _ he₃
 generalize hh₄:h₃.push { cls:=.type "tuple",data:=.seq #[.int i tk,x] } = h₄ at he₄
 have hsz:h₃.objs.size = hp.objs.size:=by rw [hs₃.1,hs₂.1,hs₁.1]
 have hel:e < hp.objs.size:=Heap.lt_size he
 have ht₄:h₄.get? hp.objs.size = some { cls:=.type "tuple",data:=.seq #[.int i tk,x] }:=by rw [← hh₄,← hsz];exact Heap.get?_push_size _ rfl
 have hz₄:h₄.objs.size = hp.objs.size + 1:=by rw [← hh₄,Heap.size_push,hsz]
 have hk₄:∀ b o,b≠e→b≠it→hp.get? b = some o→h₄.get? b = some o:=fun b o hbe hbi hb=>by
  rw [← hh₄];exact Heap.get?_push_of_some _ (hs₃.extBut b o hbe (hs₂.extBut b o hbe (hs₁.extBut b o hbi hb)))
 have hit₄:h₄.IsTupleIter it l (i + 1):=by
  rw [← hh₄];obtain ⟨o,ho,r⟩:=(hit₁.extBut hs₂.extBut (Ne.symm hne)).extBut hs₃.extBut (Ne.symm hne);exact ⟨o,Heap.get?_push_of_some _ ho,r⟩
 show wpAny _ _ (Builtin.SmallTypes.ownedTupleIsFree (.ref e) >>= _) _ _ ⟨h₄,g,d,tk + 1,os⟩
 rw [hsz]
 clear hh₄ he₃ hs₃ he₂ hs₂ he₁ hs₁ hit₁ hsz h₃ h₂ h₁
 refine wpAny_bind ?_
 ·unfold Builtin.SmallTypes.ownedTupleIsFree
  refine wpAny_bind (wpAny_field he₄ rfl (x:=.none) rfl (wpAny_pure ?_))
  simp only [if_true]
  refine wpAny_bind (wpAny_rule ?_)
  refine wpAny_bind (wpAny_field he₄ rfl (x:=old) rfl ?_)
  refine wpAny_bind (wpAny_setField_rec he₄ (by simp) fun h₅ he₅ hs₅=>?_)
  replace hs₅:Heap.SameBut e h₄ h₅:=hs₅
  replace he₅:IsEnum h₅ e it ((i:Int) + 1) x:=he₅
  show wpAny _ _ (Builtin.SmallTypes.ownedTupleHandOut (.ref e) (.ref hp.objs.size) >>= _) _ _ ⟨h₅,g,d,tk + 1,os⟩
  refine wpAny_bind ?_
  ·unfold Builtin.SmallTypes.ownedTupleHandOut
   refine wpAny_bind (wpAny_setField_rec he₅ (by simp) fun h₆ he₆ hs₆=>?_)
   replace hs₆:Heap.SameBut e h₅ h₆:=hs₆
   replace he₆:IsEnumOut h₆ e it ((i:Int) + 1) x hp.objs.size:=he₆
   refine wpAny_setField_rec he₆ (by simp) fun h₇ he₇ hs₇=>?_
   replace hs₇:Heap.SameBut e h₆ h₇:=hs₇
   replace he₇:IsEnumOut h₇ e it ((i:Int) + 1) x hp.objs.size:=he₇
   refine wpAny_bind (wpAny_letGo (wpAny_pure ⟨_,rfl,hQ h₇ he₇ ?_ ?_ ?_ ?_⟩))
   ·exact ((hit₄.extBut hs₅.extBut (Ne.symm hne)).extBut hs₆.extBut (Ne.symm hne)).extBut hs₇.extBut (Ne.symm hne)
   ·exact hs₇.extBut _ _ (Nat.ne_of_gt hel) (hs₆.extBut _ _ (Nat.ne_of_gt hel) (hs₅.extBut _ _ (Nat.ne_of_gt hel) ht₄))
   ·rw [hs₇.1,hs₆.1,hs₅.1,hz₄]
   ·exact fun b o hbe hbi hb=>hs₇.extBut b o hbe (hs₆.extBut b o hbe (hs₅.extBut b o hbe (hk₄ b o hbe hbi hb)))
theorem pyNext_enumT_item {e it l:Addr} {i:Nat} {items:Array Value} {x old:Value} {Q:Option Value→Shared→Prop}
  (he:IsEnum s.heap e it i old) (hit:s.heap.IsTupleIter it l i) (hl:s.heap.IsTuple l items) (hx:items[i]? = some x) (hne:e≠it)
  (hQ:∀ h',IsEnumOut h' e it ((i:Int) + 1) x s.heap.objs.size→h'.IsTupleIter it l (i + 1)→h'.get? s.heap.objs.size = some { cls:=.type "tuple",data:=.seq #[.int i s.toks,x] }→h'.objs.size = s.heap.objs.size + 1 →
   (∀ b o,b≠e→b≠it→s.heap.get? b = some o→h'.get? b = some o)→Q (some (.ref s.heap.objs.size)) { s with heap:=h',toks:=s.toks + 1 }) :
  wpAny (model prog w) A (pyNext (.ref e)) Q E s:=by
 have hT:s.TypeIs (.ref e) "enumerate":=⟨_,he,rfl⟩
 unfold pyNext
 exact wpAny_bind (wpAny_attempt (wpAny_callSpecial?_slot (name:=Str.ofString "__next__") hT F.slot_enumerate_next
  (wpAny_call_entry F.slot_enumerate_next hT F.entry_enumerate_next (enum_tup_next he hit hl hx hne fun h' a b c d k=>wpAny_pure (hQ h' a b c d k)) (F.args_enumerate_next_1 _))))
theorem pyNext_enumT_end {e it l:Addr} {i:Nat} {items:Array Value} {old:Value} {Q:Option Value→Shared→Prop} (hh:A.handled = none)
  (he:IsEnum s.heap e it i old) (hit:s.heap.IsTupleIter it l i) (hl:s.heap.IsTuple l items) (hx:items[i]? = none)
  (hQ:∀ h',Heap.ExtBut it s.heap h'→Q none { s with heap:=h' }):wpAny (model prog w) A (pyNext (.ref e)) Q E s:=by
 have hT:s.TypeIs (.ref e) "enumerate":=⟨_,he,rfl⟩
 unfold pyNext
 refine wpAny_bind (wpAny_attempt (wpAny_callSpecial?_slot (name:=Str.ofString "__next__") hT F.slot_enumerate_next (wpAny_call_entry F.slot_enumerate_next hT F.entry_enumerate_next ?_ (F.args_enumerate_next_1 _))))
 show wpAny _ _ (field (.ref e) 2 >>= _) _ _ _
 refine wpAny_bind (wpAny_field he rfl (x:=.ref it) rfl ?_)
 refine wpAny_bind (nextOf_tup_end hh hit hl hx fun h' x he' hx'=>?_)
 obtain ⟨o,ho,hc⟩:=hx'
 refine wpAny_bind (wpAny_isInstance (T:="StopIteration") (b:=true) ⟨o,ho,hc⟩ isSubtype_stop ?_)
 exact wpAny_pure (hQ _ he')

theorem meets_enum_tup (l:Addr) (items:Array Value) (n:Nat) (dct:Option Addr) (sl:Array (Option Value)) :
  Meets (Builtin.«enumerate.__new__» ⟨[.type "enumerate",.ref l],[]⟩) (fun _ R s=>s.heap.get? l = some { cls:=.type "tuple",dict:=dct,data:=.seq items n,slots:=sl } ∧
   R (.ok (.ret (.ref (s.heap.push { cls:=.type "tuple_iterator",data:=.fields #[.ref l,.int 0 0] }).objs.size)))
    { s with heap:=(s.heap.push { cls:=.type "tuple_iterator",data:=.fields #[.ref l,.int 0 0] }).push { cls:=.type "enumerate",data:=.fields #[.none,.bool false,.ref s.heap.objs.size,rawInt 0,.none,.none] } }) :=
 .of_wp fun prog w A R s h=>by
  obtain ⟨hp,g,d,tk,os⟩:=s;obtain ⟨hl,h⟩:=h
  have hsub:=sub_enumerate
  have hL:Heap.IsTuple (Shared.heap ⟨hp,g,d,tk,os⟩) l items:=⟨_,hl,rfl,n,rfl⟩
  wp_walk using wpAny_loadPart' hl
  refine wpAny_stack_any fun st=>wpAny_pure ?_
  split
  ·rename_i c _ _ _ _ _
   cases (c == Value.type "enumerate")
   ·wp_walk using wpAny_loadPart' hl,wpAny_pyIter_tuple hL
    exact ⟨_,rfl,h⟩
   ·wp_walk using wpAny_loadPart' hl,wpAny_pyIter_tuple hL
    exact ⟨_,rfl,h⟩
  ·wp_walk using wpAny_loadPart' hl,wpAny_pyIter_tuple hL
   exact ⟨_,rfl,h⟩
theorem call_enum_tup {l:Addr} {items:Array Value} {Q:Value→Shared→Prop} (hL:s.heap.IsTuple l items)
  (h:∀ h',IsEnum h' (s.heap.objs.size + 1) s.heap.objs.size 0 .none→h'.IsTupleIter s.heap.objs.size l 0→h'.objs.size = s.heap.objs.size + 2 →
   (∀ b o,s.heap.get? b = some o→h'.get? b = some o)→Q (.ref (s.heap.objs.size + 1)) { s with heap:=h' }) :
  wpAny (model prog w) A (call (.type "enumerate") [.ref l]) Q E s:=by
 obtain ⟨⟨c,dct,dt,sl⟩,hl,hc,n,hd⟩:=hL
 replace hc:c = .type "tuple":=hc
 replace hd:dt = .seq items n:=hd
 subst hc hd
 refine callType_new F.called_enumerate (by decide) (F.typeCall_enumerate_1 _) (F.newCall_enumerate_1 _) (fun obj=>F.args_object_init_2 obj _) F.entry_enumerate_new
  (meets_enum_tup l items n dct sl) ⟨hl,?_⟩
 have hz:(s.heap.push { cls:=.type "tuple_iterator",data:=.fields #[.ref l,.int 0 0] }).objs.size = s.heap.objs.size + 1:=Heap.size_push ..
 show _∧_
 rw [hz]
 have he:IsEnum ((s.heap.push { cls:=.type "tuple_iterator",data:=.fields #[.ref l,.int 0 0] }).push
   { cls:=.type "enumerate",data:=.fields #[.none,.bool false,.ref s.heap.objs.size,rawInt 0,.none,.none] }) (s.heap.objs.size + 1) s.heap.objs.size 0 .none:=by
  have:=Heap.get?_push_size (s.heap.push { cls:=.type "tuple_iterator",data:=.fields #[.ref l,.int 0 0] })
   (o:={ cls:=.type "enumerate",data:=.fields #[.none,.bool false,.ref s.heap.objs.size,rawInt 0,.none,.none] }) rfl
  rw [hz] at this;exact this
 refine ⟨⟨_,he,rfl⟩,h _ he ⟨_,Heap.get?_push_of_some _ (Heap.get?_push_size _ rfl),rfl,rfl⟩ (by rw [Heap.size_push,hz]) fun b o x=>Heap.get?_push_of_some _ (Heap.get?_push_of_some _ x)⟩
end
end L2E

namespace L2
open PySem PySem.Spec PyProof.Rows
noncomputable def Ite (K:PySem.W.Frag) (a:Addr):It :=
 ⟨fun i H=>∃ xs x,SqT K H a xs∧xs[i]? = some x,fun i H y H'=>∃ t x,y = .ref t∧H t = none∧H' = upd H t (.tup [.int i,x])∧∀ xs,SqT K H a xs→xs[i]? = some x,fun i H=>∃ xs,SqT K H a xs∧xs.length≤i⟩
theorem turn_enumT {P:Program} {w:World} {K:PySem.W.Frag} {elts:List Expr} {x1:Nat} {tp:Pos} (a e it:Addr) (hei:e≠it) :
  Turn P w K (.Tuple elts x1 tp) (Ite K a) [e,it] e (fun i h=>(∃ old,IsEnum h e it i old)∧h.IsTupleIter it a i) where
 mem:=by simp
 obj:=fun i h st b hb=>by
  obtain ⟨⟨old,he⟩,hit⟩:=st
  rcases List.mem_cons.mp hb with rfl | hb
  ·exact ⟨_,he,fun v z=>by
    have z':Data.fields _ = Data.cell v:=z
    cases z'⟩
  ·have e1:b = it:=by simpa using hb
   subst e1
   obtain ⟨o,e,c,d⟩:=hit
   exact ⟨o,e,fun v z=>by rw [d] at z;cases z⟩
 keep:=fun i h h' st k=>⟨let ⟨old,he⟩:=st.1;⟨old,k e (by simp) _ he⟩,let ⟨o,ho,r⟩:=st.2;⟨o,k it (by simp) o ho,r⟩⟩
 item:=by
  intro X hP hw hK hc i pins s σ H E I hf st hg
  subst hP hw hK
  obtain ⟨⟨old,he⟩,hit⟩:=st
  obtain ⟨xs,x,hq,hx⟩:=hg
  obtain ⟨its,rv,p,hz⟩:=I.tuple hq
  obtain ⟨u,hu,ru⟩:=rv.get hx
  obtain ⟨f0,f1,f2,f3,f4,f5⟩:=hf e (by simp)
  obtain ⟨g0,g1,g2,g3,g4,g5⟩:=hf it (by simp)
  refine L2E.pyNext_enumT_item he hit (show s.heap.IsTuple a its.toArray from p) (x:=u) (by simpa using hu) hei fun h' ho' hit' hT hsz hk=>?_
  refine ⟨_,rfl,wpAny_letOwnedTupleGo_enum ho' fun h'' he'' hs''=>?_⟩
  have hlt:e < s.heap.objs.size:=Heap.lt_size he
  have k2:∀ b o,b≠e→b≠it→s.heap.get? b = some o→h''.get? b = some o:=fun b o h1 h2 q=>(hs''.2 b h1).trans (hk b o h1 h2 q)
  have hT2:h''.get? s.heap.objs.size = some { cls:=.type "tuple",data:=.seq #[.int i s.toks,u] }:=(hs''.2 _ (Nat.ne_of_gt hlt)).trans hT
  have hfr:H s.heap.objs.size = none:=I.hok.fresh (Nat.le_refl _)
  have neT:∀ {b:Addr} {o:Obj},s.heap.get? b = some o→b≠s.heap.objs.size:=fun q=>Nat.ne_of_lt (Heap.lt_size q)
  have trk:∀ {b:Addr} {o:HO},H b = some o→b≠e∧b≠it:=fun q=>⟨fun z=>(by rw [z,f0] at q;cases q),fun z=>(by rw [z,g0] at q;cases q)⟩
  have I2:Inv X pins σ (upd H s.heap.objs.size (.tup [.int i,x])) { s with heap:=h'',toks:=s.toks + 1 }:=by
   refine I.step (g':=s.gens) (d':=s.drawn) (ch:=[e,it]) (fun b hb=>?_) (fun b o _ _ hch q _=>k2 b o (fun z=>hch (by simp [z])) (fun z=>hch (by simp [z])) q) (fun b o _ _ hch q _=>⟨o.slots,k2 b o (fun z=>hch (by simp [z])) (fun z=>hch (by simp [z])) q⟩)
    (fun b o _ q n=>by rw [upd_ne (neT q)];exact n) (fun b o hch q=>⟨o,k2 b o (fun z=>hch (by simp [z])) (fun z=>hch (by simp [z])) q⟩) (fun b ys q=>by rw [upd_ne (ne_of_none q hfr)];exact q) (fun b o ys q=>by rw [upd_ne (ne_of_none q hfr)];exact q)
    (fun b ps q=>⟨#[],by rw [upd_ne (ne_of_none q hfr),q];simp⟩) (fun m hm=>?_) (fun b v q=>?_) I.bare
   ·rcases List.mem_cons.mp hb with rfl | hb
    ·exact ⟨f3,f1,f4,f5⟩
    ·have e1:b = it:=by simpa using hb
     subst e1
     exact ⟨g3,g1,g4,g5⟩
   ·obtain ⟨o,es,ep,ho,r⟩:=hm
    exact ⟨o,es,ep,k2 _ o (Ne.symm f1) (Ne.symm g1) ho,r⟩
   ·by_cases hb:b = s.heap.objs.size
    ·subst hb
     rw [upd_same] at q
     cases q
     exact ⟨by show 2≤sizeLine;decide,[.int i s.toks,u],.cons ⟨_,rfl⟩ (.cons ru .nil),_,hT2,rfl,_,rfl⟩
    ·rw [upd_ne hb] at q
     refine (I.hok b v q).stay (fun c o hc z=>?_) (fun c z=>by rw [upd_ne (ne_of_none z hfr)];exact z) fun c ys z=>by rw [upd_ne (ne_of_none z hfr)];exact z
     rcases hc with rfl | hc
     ·exact k2 c o (trk q).1 (trk q).2 z
     ·exact k2 c o (trk hc).1 (trk hc).2 z
  refine ⟨.ref s.heap.objs.size,_,I2,rfl,⟨_,x,rfl,hfr,rfl,fun ys hy=>by rw [I.tuple_inj hy hq];exact hx⟩,⟨⟨u,by simpa using he''⟩,?_⟩,fun b hb=>?_⟩
  ·obtain ⟨o,q,r⟩:=hit'
   exact ⟨o,(hs''.2 it (Ne.symm hei)).trans q,r⟩
  ·rcases List.mem_cons.mp hb with rfl | hb
   ·rw [upd_ne (Nat.ne_of_lt hlt)];exact f0
   ·have e1:b = it:=by simpa using hb
    subst e1
    obtain ⟨o,q,_⟩:=hit
    rw [upd_ne (neT q)]
    exact g0
 done:=by
  intro X hP hw hK hc i pins s σ H E I hf st hg
  subst hP hw hK
  obtain ⟨⟨old,he⟩,hit⟩:=st
  obtain ⟨xs,hq,hx⟩:=hg
  obtain ⟨its,rv,p,hz⟩:=I.tuple hq
  obtain ⟨g0,g1,g2,g3,g4,g5⟩:=hf it (by simp)
  have hl:=rv.length
  exact L2E.pyNext_enumT_end (I.ok.hd hc) he hit (show s.heap.IsTuple a its.toArray from p) (by simp;omega) fun h' eb=>⟨rfl,I.turned (t':=s.toks) (fun b o hb q=>eb b o hb q) g0 g1 g3 g4 g5⟩
 self:=fun _ _ _ _ _ st h=>let ⟨_,he⟩:=st.1;wpAny_pyIter_enum he h
section
variable {X:Cx}
noncomputable def iEnum (K:PySem.W.Frag) (ta:TA):TI:=fun σ H R=>ta σ H fun vs H1=>∃ a,vs = [.ref a]∧(∃ xs,SqT K H1 a xs)∧R (Ite K a) H1
theorem pg_tupK {K : PySem.W.Frag} {es : List Expr} {k : Nat} {t : TGs} {n : Nat} {pos : Pos} (hK : X.K = K) (hc : X.calm = true) (h : PGs X es t)
    (hn : (assignEach es X.env).length = n := by rfl) (hst : (assignEach es X.env).findIdx? (·.1) = none := by rfl) : PG X (.Tuple es k pos) (gTup K n t) := hK ▸ pg_tup hc h hn hst
theorem pi_enumT {a:Expr} {ta:TA} {p pos:Pos} {elts:List Expr} {x1:Nat} {tp:Pos} (hg:Gl X "enumerate") (hm:X.mg "enumerate" = none) (ha:PA X [a] ta) (hs:starEach [a] X.env = [(false,eval a X.env)]:=by rfl) :
  PI X (.Tuple elts x1 tp) (.Call (.Name "enumerate" p) [a] [] pos) (iEnum X.K ta):=by
 intro pins s σ H R I h
 refine Call_ (ld_blt I hg hm bb_enumerate (PyProof.Rows.callWith_type1 (thn (ha pos pins s σ H _ I h) fun us s1 ⟨vs,H1,I1,r1,q1⟩=>?_) hs rfl))
 obtain ⟨l,e,⟨xs,hq⟩,q⟩:=q1
 subst e
 cases r1 with
 | cons r rr =>
  cases rr
  cases r
  obtain ⟨its,rv,ht,hz⟩:=I1.tuple hq
  refine L2E.call_enum_tup (show s1.heap.IsTuple l its.toArray from ht) fun h' he hit hsz hk=>?_
  have I2:Inv X pins σ H1 { s1 with heap:=h' }:=I1.kept (t':=s1.toks) hk
  refine wpAny_pyIter_enum he ?_
  refine ⟨s1.heap.objs.size + 1,[s1.heap.objs.size + 1,s1.heap.objs.size],_,_,H1,rfl,I2,turn_enumT l _ _ (Nat.succ_ne_self _),⟨⟨_,he⟩,hit⟩,fun b hb=>?_,q⟩
  rcases List.mem_cons.mp hb with rfl | hb
  ·exact (I1.fpOk (Nat.le_succ _) (I1.hok.fresh (Nat.le_succ _)))
  ·have e:b = s1.heap.objs.size:=by simpa using hb
   subst e
   exact I1.fpOk (Nat.le_refl _) (I1.hok.fresh (Nat.le_refl _))
theorem for_enum {K:PySem.W.Frag} {a:Addr} {xs:List V} {g:TG} {tb:TS} {D:Ends} {σ:St} {H:Hp} (Pv:Nat→St→Hp→Prop) (h0:Pv 0 σ H) (hl:∀ i σ H,i≤xs.length→Pv i σ H→SqT K H a xs)
  (hs:∀ i x t σ H,xs[i]? = some x→Pv i σ H→H t = none→g (.ref t) σ (upd H t (.tup [.int i,x])) fun σ2 H2=>tb { D with nx:=Pv (i + 1),ct:=Pv (i + 1),bk:=D.nx } σ2 H2) (hd:∀ σ H,Pv xs.length σ H→D.nx σ H) :
  ∃ W:Nat→Nat→St→Hp→Prop,(∃ m,W 0 m σ H)∧∀ i m σ H,W i m σ H →
   ((Ite K a).stop i H∧D.nx σ H)∨((Ite K a).go i H∧∃ N:St→Hp→Prop,(∀ σ' H',N σ' H'→∃ m',m' < m∧W (i + 1) m' σ' H')∧∀ x H',(Ite K a).yld i H x H'→g x σ H' fun σ2 H2=>tb { D with nx:=N,ct:=N,bk:=D.nx } σ2 H2):=by
 refine ⟨fun i m σ H=>m = xs.length - i∧i≤xs.length∧Pv i σ H,⟨xs.length,by simp,Nat.zero_le _,h0⟩,?_⟩
 rintro i m σ H ⟨rfl,hi,p⟩
 have q:=hl i σ H hi p
 by_cases hlt:i < xs.length
 ·refine .inr ⟨⟨xs,xs[i],q,by simp [hlt]⟩,Pv (i + 1),fun σ' H' p'=>⟨xs.length - (i + 1),by omega,rfl,hlt,p'⟩,fun x H' y=>?_⟩
  obtain ⟨t,z,e,hn,e2,y⟩:=y
  subst e e2
  exact hs i z t σ _ (y xs q) p hn
 ·have e:i = xs.length:=by omega
  subst e
  exact .inl ⟨⟨xs,q,Nat.le_refl _⟩,hd σ H p⟩
theorem comp_tup {K:PySem.W.Frag} {a:Addr} {xs:List V} {g:TG} {tt:TT} {te:TE} {D:Addr} {Q:VK} {σ₀:St} {H₀:Hp} (Pv:Nat→St→Hp→Prop) (h0:Pv 0 σ₀ H₀) (hl:∀ i σ H,i≤xs.length→Pv i σ H→SqT K H a xs)
  (hs:∀ i x σ H,xs[i]? = some x→Pv i σ H→g x σ H fun σ3 H3=>tt σ3 H3 fun b H4=>if b = true then te σ3 H4 fun v H5=>∃ ys,H5 D = some (.lst ys)∧ys.length < sizeLine∧Pv (i + 1) σ3 (upd H5 D (.lst (ys ++ [v]))) else Pv (i + 1) σ3 H4)
  (hd:∀ σ H,Pv xs.length σ H→Q (.ref D) H):CompW (Itt K a) g tt te D Q σ₀ H₀:=by
 refine ⟨fun i m σ H=>m = xs.length - i∧i≤xs.length∧Pv i σ H,⟨xs.length,by simp,Nat.zero_le _,h0⟩,?_⟩
 rintro i m σ H ⟨rfl,hi,p⟩
 have q:=hl i σ H hi p
 by_cases hlt:i < xs.length
 ·refine .inr ⟨⟨xs,xs[i],q,by simp [hlt]⟩,Pv (i + 1),fun σ' H' p'=>⟨xs.length - (i + 1),by omega,rfl,hlt,p'⟩,fun x H' y=>?_⟩
  obtain ⟨e,y⟩:=y
  subst e
  exact hs i x σ _ (y xs q) p
 ·have e:i = xs.length:=by omega
  subst e
  exact .inl ⟨⟨xs,q,Nat.le_refl _⟩,hd σ H p⟩

end
end L2

namespace L2
open PySem PySem.Spec PyProof.Rows

theorem ObjOk.obj {P:Program} {w:World} {H:Hp} {h:Heap} {a:Addr}:∀ {o:HO},ObjOk P w H h a o→∃ u,h.get? a = some u:=fun {o} x=>by
 cases o with
 | lst xs=>obtain ⟨_,_,_,_,e⟩:=x;exact ⟨_,e⟩
 | tup xs=>obtain ⟨_,_,_,o,e,_⟩:=x;exact ⟨_,e⟩
 | dK kvs=>obtain ⟨_,_,_,_,o,_,_,e,_⟩:=x;exact ⟨_,e⟩
 | dT kvs=>obtain ⟨_,_,_,_,o,_,_,e,_⟩:=x;exact ⟨_,e⟩
 | set S n=>obtain ⟨o,_,_,_,e,_⟩:=x;exact ⟨_,e⟩
 | ins C dx fs=>obtain ⟨_,_,_,e,_⟩:=x;exact ⟨_,e⟩
 | own y=>exact x
 | xd fs=>obtain ⟨_,⟨_,_,_,e,_⟩,_⟩:=x;exact ⟨_,e⟩
 | rng lo hi=>obtain ⟨_,_,_,e⟩:=x;exact ⟨_,e⟩
 | frz ob u=>obtain ⟨e,_⟩:=x;exact ⟨_,e⟩
 | tbl ps=>exact ⟨_,(show h.get? a = some _ from x)⟩
 | met f y=>exact ⟨_,(show h.get? a = some _ from x)⟩
 | ext φ=>obtain ⟨_,e,_⟩:=x;exact e
noncomputable def noFr (h:Heap) (l:List Env):Heap:=PySem.W.hideAll h (frs l)
theorem noFr_get {h:Heap} {l:List Env} {b:Addr} {o:Obj} (e:h.get? b = some o) (n:b ∉ frs l):(noFr h l).get? b = some o:=PySem.W.hideAll_get _ e n
theorem of_noFr {h:Heap} {l:List Env} {b:Addr} {o:Obj} (e:(noFr h l).get? b = some o):h.get? b = some o:=PySem.W.of_hideAll _ e
theorem noFr_frames {h base:Heap} {l:List Env} (x:h.FunFrames base l):h.FunFrames (noFr h l) l:=PySem.W.funFrames_hide x fun env he a hf=>List.mem_filterMap.mpr ⟨env,he,hf⟩

noncomputable def Sta (B:Heap) (l:List Env) (a:Addr) (cls:Value) (h:Heap):Prop:=∃ a0,
 (B.StaysIn h∧B.get? a = none∧h.FunFrames B l∧∃ oe vs,h.get? a = some oe∧oe.cls = cls∧oe.data = .fields vs∧vs[1]? = some .none∧vs[0]? = some a0) ∨
 Heap.FlyingW B l a cls a0 h∨∃ L env outer,l = env :: outer∧env.frame = some L∧Heap.HeldW B l a cls a0 L h
theorem Sta.stays {B h:Heap} {l:List Env} {a:Addr} {cls:Value} (x:Sta B l a cls h):B.StaysIn h:=by
 obtain ⟨a0,x | x | ⟨_,_,_,_,_,x⟩⟩:=x
 ·exact x.1
 ·exact x.1
 ·exact x.1
theorem Sta.frames {B h:Heap} {l:List Env} {a:Addr} {cls:Value} (x:Sta B l a cls h):h.FunFrames B l:=by
 obtain ⟨a0,x | x | ⟨_,_,_,_,_,x⟩⟩:=x
 ·exact x.2.2.1
 ·exact x.2.2.1
 ·exact x.2.2.1
section
variable {M:Model} {A:Around} {E:Value→Shared→Prop} {s:Shared} {B:Heap} {env:Env} {outer:List Env} {L a:Addr} {cls:Value}
theorem sta_note {Q:Unit→Shared→Prop} (hfr:A.frames = some (env :: outer)) (hf:env.frame = some L) (x:Sta B (env :: outer) a cls s.heap)
  (hQ:∀ h' a0,Heap.HeldW B (env :: outer) a cls a0 L h'→s.heap.UpToSlots h'→Q () { s with heap:=h' }):wpAny M A (noteFrame (.ref a) env) Q E s:=by
 obtain ⟨a0,⟨x1,x2,x3,oe,vs,he,hc,hd,h1,h0⟩ | x | ⟨L',env',outer',e1,e2,x⟩⟩:=x
 ·unfold noteFrame
  simp only [hf]
  refine wpAny_bind (wpAny_field he hd h1 ?_)
  rw [if_neg (by decide)]
  refine wpAny_entryW hfr x3 hf he x1 x2 hd (Array.getElem?_eq_some_iff.mp h1).1 h0 fun h' hN=>?_
  obtain ⟨k1,k2,k3,k4⟩:=hN
  rw [hc] at k3
  exact hQ h' a0 ⟨k1,x2,k2,k3⟩ k4
 ·exact wpAny_looks_onW hfr hf x fun h' k1 k2=>hQ h' a0 k1 k2
 ·cases e1
  rw [hf] at e2
  cases e2
  exact wpAny_noteFrame_againW hf x.2.2.2 (hQ s.heap a0 x (Heap.UpToSlots.refl _))
theorem sta_leave {Q:Unit→Shared→Prop} (hfr:A.frames = some (env :: outer)) (hf:env.frame = some L) (x:Sta B (env :: outer) a cls s.heap)
  (hQ:∀ h' a0,Heap.FlyingW B outer a cls a0 h'→s.heap.UpToSlots h'→Q () { s with heap:=h' }):wpAny M A (leaving env (.ref a)) Q E s:=by
 unfold leaving
 refine wpAny_bind (sta_note hfr hf x fun h1 a0 k1 k2=>?_)
 refine wpAny_landsW k1 fun h2 k3 k4=>?_
 obtain ⟨c1,c2,⟨_,_,c3⟩,c4⟩:=k3
 exact hQ h2 a0 ⟨c1,c2,c3,c4⟩ (k2.trans k4)
end

structure XAt (P:Program) (w:World) (l:List Env) (ex:List Addr) (H:Hp) (s:Shared) (B:Heap) (a:Addr) (cls:Value) (H':Hp) (s':Shared):Prop where
 os:s'.os = s.os
 bare:AllBare s'.gens
 un:Un (frs l) ex H H' s.heap s'.heap
 hok:HOk P w H' s'.heap
 na:H' a = none
 sta:Sta B l a cls s'.heap
 old:∀ b o,s.heap.get? b = some o→b ∉ frs l→b ∉ ex→∃ o',s'.heap.get? b = some o'∧B.get? b = some o'
 trk:∀ b,H' b≠none→∃ o,s'.heap.get? b = some o∧B.get? b = some o
theorem XAt.move {P:Program} {w:World} {l l':List Env} {ex:List Addr} {H H':Hp} {s s':Shared} {B h':Heap} {a:Addr} {cls:Value} (x:XAt P w l ex H s B a cls H' s') (k:s'.heap.UpToSlots h') (st:Sta B l' a cls h')
  (hsub:∀ b∈frs l',b∈frs l) (hin:∀ b o,s.heap.get? b = some o→b∈frs l→b∈frs l') (hx:∀ b∈frs l,b ∉ ex):XAt P w l' ex H s B a cls H' { s' with heap:=h' }:=by
 have sB:=st.stays
 have nf:∀ b∈frs l,∀ o,s'.heap.get? b = some o→∀ vs,o.data≠.fields vs:=fun b hb o e=>by
  obtain ⟨_,o',e',d⟩:=x.sta.frames.mem hb
  rw [e] at e';cases e'
  exact d
 have oldK:∀ b o,s.heap.get? b = some o→b ∉ frs l'→b ∉ ex→∃ o',s'.heap.get? b = some o'∧B.get? b = some o':=fun b o e hb he=>x.old b o e (fun z=>hb (hin b o e z)) he
 refine ⟨x.os,x.bare,⟨fun b o e n hb he=>?_,fun b o e n hb he=>?_,x.un.free,fun b o e he=>?_,x.un.tups,x.un.frzs,x.un.tbls⟩,fun b u e=>?_,x.na,st,fun b o e hb he=>?_,fun b hb=>?_⟩
 ·have e1:=x.un.keep b o e n (fun z=>hb (hin b o e z)) he
  obtain ⟨o',e2,e3⟩:=oldK b o e hb he
  rw [e1] at e2;cases e2
  exact sB b _ e3
 ·obtain ⟨sl,e1⟩:=x.un.slot b o e n (hsub b hb) he
  obtain ⟨sl',e2⟩:=k b _ e1 (nf b (hsub b hb) _ e1)
  exact ⟨sl',e2⟩
 ·by_cases hb:b∈frs l
  ·obtain ⟨_,o',e',d⟩:=x.sta.frames.mem hb
   obtain ⟨sl',e2⟩:=k b _ e' d
   exact ⟨_,e2⟩
  ·obtain ⟨o',_,e3⟩:=x.old b o e hb he
   exact ⟨o',sB b _ e3⟩
 ·refine (x.hok b u e).stay (fun c v hc q=>?_) (fun _ q=>q) fun _ _ q=>q
  have hn:H' c≠none:=by
   rcases hc with rfl | hc
   ·rw [e];exact fun z=>nomatch z
   ·rw [hc];exact fun z=>nomatch z
  obtain ⟨o',e1,e2⟩:=x.trk c hn
  rw [q] at e1;cases e1
  exact sB c _ e2
 ·obtain ⟨o',_,e3⟩:=oldK b o e hb he
  exact ⟨o',sB b _ e3,e3⟩
 ·obtain ⟨o',_,e3⟩:=x.trk b hb
  exact ⟨o',sB b _ e3,e3⟩

noncomputable def CXo (P:Program) (w:World):CXT:=fun outer H s E e s'=>∃ a cls H' B,e = .ref a∧XAt P w outer [] H s B a cls H' s'∧E cls none H'
noncomputable def BodyX (X:Cx) (E:XK) (e:Value) (s':Shared):Prop:=∃ a cls H' B,e = .ref a∧XAt X.prog X.w X.stack X.ex X.H₀ X.s₀ B a cls H' s'∧E cls none H'
structure Own (X:Cx):Prop where
 ok:X.Ok
 top:X.stack = X.env :: X.outer
 fr:X.env.frame = some X.env.locals
 ex:X.ex = []
theorem Own.loc {X:Cx} (o:Own X):∀ b o',X.s₀.heap.get? b = some o'→b∈frs X.stack→b∈frs X.outer:=fun b o' e hb=>by
 rw [o.top] at hb
 unfold frs at hb
 rw [List.filterMap_cons,o.fr] at hb
 rcases List.mem_cons.mp hb with z | z
 ·subst z
  exact absurd (Nat.lt_of_lt_of_le (Heap.lt_size e) o.ok.above) (Nat.lt_irrefl _)
 ·exact z
structure ECls (K:PySem.W.Frag) (mg:Str→Option Value) (x:Str) (C:Addr):Prop where
 g:mg x = some (.ref C)
 ex:∃ bm newId B initId,PySem.W.excIn K C bm newId = true∧ExcBaseFacts B newId initId bm
noncomputable def tRaise (C:Addr) (t:TA) (E:XK):TS:=fun _ σ H=>t σ H fun vs H1=>vs.length≤sizeLine∧E (.ref C) none H1
theorem ecls_obj {K:PySem.W.Frag} {C:Addr} {bmB:List Value} {newId:String} {h:Heap} (X:K.In h) (q:PySem.W.excIn K C bmB newId = true) :
  ∃ bm ns nm qn bs hd sn sub ab col dd k0 k1 k2 k3 k5 mN,h.get? C = some (excClassObj nm qn C ns bs bm hd sn sub ab col dd k0 k1 k2 k3 k5 newId)∧h.Ns ns mN∧mN "__init__" = none∧OwnTail h bmB bm:=by
 unfold PySem.W.excIn at q
 split at q
 ·rename_i dd cd sl ho
  split at q
  ·rename_i C' bm k0 k1 k2 k3 n k5 hm hs
   simp only [Bool.and_eq_true,beq_iff_eq,Bool.not_eq_true'] at q
   obtain ⟨⟨⟨⟨⟨rfl,rfl⟩,hdel⟩,ht⟩,hok⟩,hni⟩:=q
   obtain ⟨nm,bs,mro,ns,qn,hd,sn,sub,ab,col,del⟩:=cd
   dsimp only at hm hdel hok hni
   subst hm hdel
   have hsl:sl = #[k0,k1,k2,k3,some (.builtin n),k5]:=by
    obtain ⟨l⟩:=sl
    simp only at hs
    rw [hs]
   subst hsl
   exact ⟨bm,ns,nm,qn,bs,hd,sn,sub,ab,col,dd,k0,k1,k2,k3,k5,_,X _ _ ho,.of_isNs (PySem.W.isNs_of_in X hok),PySem.W.nsMap_none_of_in X hok hni,PySem.W.tail_of_in X ht⟩
  ·cases q
 ·cases q
theorem ps_raise {X:Cx} {E:XK} {x:Str} {C:Addr} {np cpos pos:Pos} {e₀:Expr} {rest:List Expr} {t:TA} (hc:X.calm = true) (Z:ECls X.K X.mg x C) (ha:PA (X.wish (BodyX X E)) (e₀ :: rest) t)
  (hg:Gl X x:=by rfl) (hdb:(x == ("__debug__":Str)) = false:=by decide) (he:starEach (e₀ :: rest) X.env = (false,eval e₀ X.env) :: starEach rest X.env:=by rfl) (hplain:(backTo cpos (starEach rest X.env)).any (·.1) = false:=by rfl) :
  PS (X.wish (BodyX X E)) (.Raise (some (.Call (.Name x np) (e₀ :: rest) [] cpos)) none pos) (tRaise C t E):=by
 intro pins s σ H D I h
 obtain ⟨bmB,newId,Bn,initId,q,FB⟩:=Z.ex
 obtain ⟨bm,ns,nm,qn,bs,hd,sn,sub,ab,col,dd,k0,k1,k2,k3,k5,mN,hC,hN,hni,T⟩:=ecls_obj I.kIn q
 have hA:=ha cpos pins s σ H _ I h
 rw [show starEach (e₀ :: rest) (X.wish (BodyX X E)).env = (false,eval e₀ X.env) :: starEach rest X.env from he] at hA
 refine wpAny_Raise_call_subT (C:=C) (nm:=nm) (q:=qn) (N:=ns) (bs:=bs) (bm:=bm) (hdct:=hd) (sn:=sn) (sub:=sub) (ab:=ab) (col:=col) (dd:=dd) (k0:=k0) (k1:=k1) (k2:=k2) (k3:=k3) (k5:=k5)
  FB (mN:=mN) (T.hasType FB.hasBase) (I.ok.hd hc) (by show (backTo cpos (starEach (e₀ :: rest) X.env)).any (·.1) = false;rw [he];show (false || (backTo cpos (starEach rest X.env)).any (·.1)) = false;rw [hplain];rfl) hni (ld_glob I hg Z.g ⟨rfl,?_⟩ hdb)
 show wpAny _ _ (evalArgs (.ref C) true (backTo cpos (starEach (e₀ :: rest) X.env)) []) _ _ s
 rw [he]
 refine Calls.evalArgs_plain (wpAny_mono hA (fun us s2 h2=>?_) fun _ _ y=>y)
 obtain ⟨vs,H2,I2,r2,hz,hE⟩:=h2
 obtain ⟨bm',ns',nm',qn',bs',hd',sn',sub',ab',col',dd',k0',k1',k2',k3',k5',mN',hC2,hN2,hni2,T2⟩:=ecls_obj I2.kIn q
 have J:=I2.unwish
 have st:∀ b o,X.base.get? b = some o→s2.heap.get? b = some o:=J.bk
 have hC':s2.heap.get? C = some (excClassObj nm qn C ns bs bm hd sn sub ab col dd k0 k1 k2 k3 k5 newId):=by
  obtain ⟨bm3,ns3,nm3,qn3,bs3,hd3,sn3,sub3,ab3,col3,dd3,k03,k13,k23,k33,k53,mN3,hC3,hN3,hni3,T3⟩:=ecls_obj J.ok.mod.kin q
  have e1:=(I.unwish.bk _ _ hC3).symm.trans hC
  cases e1
  exact st _ _ hC3
 have hN':s2.heap.Ns ns mN:=by
  obtain ⟨bm3,ns3,nm3,qn3,bs3,hd3,sn3,sub3,ab3,col3,dd3,k03,k13,k23,k33,k53,mN3,hC3,hN3,hni3,T3⟩:=ecls_obj J.ok.mod.kin q
  have e1:=(I.unwish.bk _ _ hC3).symm.trans hC
  injection e1 with e1
  injection e1 with _ _ e1 _
  injection e1 with e1
  injection e1 with _ _ _ e1 _ _ _ _ _ _ _
  subst e1
  have f1:=hN3.keeps I.unwish.bk
  have f2:=hN3.keeps st
  obtain ⟨o1,es1,ep1,g1,g2,g3,g4⟩:=f1
  obtain ⟨o2,es2,ep2,j1,j2,j3,j4⟩:=hN
  rw [g1] at j1;cases j1
  rw [g2] at j2;cases j2
  have em:mN3 = mN:=by funext y;rw [← g4 y,← j4 y]
  rw [← em]
  exact f2
 have T':OwnTail s2.heap bmB bm:=by
  obtain ⟨bm3,ns3,nm3,qn3,bs3,hd3,sn3,sub3,ab3,col3,dd3,k03,k13,k23,k33,k53,mN3,hC3,hN3,hni3,T3⟩:=ecls_obj J.ok.mod.kin q
  have e1:=(I.unwish.bk _ _ hC3).symm.trans hC
  injection e1 with e1
  injection e1 with _ _ e1 _
  injection e1 with e1
  injection e1 with _ _ e1 _ _ _ _ _ _ _ _
  injection e1 with _ e1
  rw [← e1]
  exact T3.keeps st
 refine ⟨rfl,by show us.length≤sizeLine;rw [← r2.length];exact hz,hC',hN',T',fun h' a hx=>?_⟩
 have U:Un (frs X.stack) X.ex X.H₀ H2 X.s₀.heap s2.heap:=J.base.mono (fun b hb=>by
  rcases J.ok.stk with z | ⟨z,_⟩
  ·rw [z];exact hb
  ·rw [z];unfold frs;rw [List.filterMap_cons];split
   ·exact hb
   ·exact List.mem_cons_of_mem _ hb) fun b hb=>hb
 obtain ⟨t0,ht1,ht2,ht3⟩:=hx.there
 refine ⟨a,.ref C,H2,noFr s2.heap X.stack,rfl,⟨J.os,J.bare,U.trans (Un.kept hx.keeps),J.hok.kept hx.keeps,?_,⟨_,.inl ⟨fun b o e=>hx.keeps b o (of_noFr e),?_,?_,_,_,ht1,rfl,rfl,rfl,rfl⟩⟩,fun b o e hb he=>?_,fun b hb=>?_⟩,hE⟩
 ·cases z:H2 a with
  | none=>rfl
  | some u =>
   obtain ⟨o,e⟩:=(J.hok a u z).obj
   rw [hx.new] at e;cases e
 ·cases z:(noFr s2.heap X.stack).get? a with
  | none=>rfl
  | some o=>have:=of_noFr z;rw [hx.new] at this;cases this
 ·exact (noFr_frames J.stack).of_keeps fun b o e _=>⟨o,hx.keeps b o e,rfl⟩
 ·obtain ⟨o1,e1⟩:=U.there b o e he
  exact ⟨o1,hx.keeps b o1 e1,noFr_get e1 hb⟩
 ·obtain ⟨u,hu⟩:=Option.ne_none_iff_exists'.mp hb
  obtain ⟨o,e⟩:=(J.hok b u hu).obj
  exact ⟨o,hx.keeps b o e,noFr_get e fun z=>hb (J.stkFree b z)⟩

theorem Fun.okX {P:Program} {w:World} {K:PySem.W.Frag} {mg:Str→Option Value} {base:Heap} {x qual:Str} {st:Stmt} {f:Addr} {fd:FuncData} {N ps:List Str} {k:Nat} {sp:Sp} (F:Fun K x qual st f fd) (S:FnScope N ps (defScope st)) (len:∀ vs H Q E,sp vs H Q E→vs.length = ps.length)
  (hbody:∀ (cdv:Value) (A:Around) (outer:List Env) (s:Shared) (H:Hp) (vs:List V) (Q:VK) (E:XK),Room k (A.deeper (envOfC qual (defScope st) s.heap.objs.size f cdv))→sp vs H Q E→∀ X:Cx,X = cxOf (CXo P w) P w K mg base N qual (defScope st) f cdv A outer s H E →
   ∃ t,PSs (X.wish (BodyX X E)) (defBody st) t∧t { nx:=fun _ H'=>Q .non H',rt:=Q } (start N vs) H):FnOk P w K mg base (CXo P w) (k + 1) f fd ps sp:=by
 obtain ⟨oc,od,kV,doc,pm,an,cdv,ct,osl,rfl,lk,hcd⟩:=F.ex
 refine fn_of lk hcd S len fun A outer s H vs Q E hr hsp=>?_
 obtain ⟨t,h,q⟩:=hbody cdv A outer s H vs Q E hr hsp _ rfl
 refine ⟨t,fun pins s1 σ H1 D I hw=>?_,q⟩
 refine wpAny_mono (h pins s1 σ H1 D (I.wish _) hw) (fun _ _ q=>q.unwish) fun e s' hx=>?_
 obtain ⟨a,cls,H',B,rfl,x,hE⟩:=hx
 have O:Own (cxOf (CXo P w) P w K mg base N qual (defScope st) f cdv A outer s H E):=⟨I.ok,rfl,rfl,rfl⟩
 show wpAny (model P w) _ (leaving _ (.ref a)) _ _ s'
 refine sta_leave (outer:=outer) I.ok.frames rfl x.sta fun h' a0 k1 k2=>?_
 refine ⟨a,cls,H',B,rfl,x.move k2 ⟨a0,.inr (.inl k1)⟩ (fun b hb=>List.mem_cons_of_mem _ hb) O.loc fun b _=>by simp [cxOf],hE⟩
end L2


namespace L2
open PySem PySem.Spec PyProof.Rows
section
variable {X:Cx}
theorem ps_sem {b:List Stmt} {R:TS} (h:∀ D σ H,R D σ H→∃ t,PSs X b t∧t D σ H):PSs X b R:=fun pins s σ H D I hw=>by
 obtain ⟨t,ht,hq⟩:=h D σ H hw
 exact ht pins s σ H D I hq
theorem call_tuple_any:CallR X (.type "tuple") (fun xs H Q=>∃ p ys,xs = [.ref p]∧(H p = some (.lst ys)∨H p = some (.tup ys))∧∀ t H1,Same H H1→H1 t = some (.tup ys)→Q (.ref t) H1):=by
 intro pins s σ H xs us Q I r h
 obtain ⟨p,ys,rfl,hp,q⟩:=h
 refine call_tuple_of pins s σ H [.ref p] us Q I r ⟨p,ys,rfl,?_⟩
 rcases hp with hp | hp
 ·exact .inl ⟨SqL.of hp,fun l hl=>q l _ (same_upd hl) upd_same⟩
 ·exact .inr ⟨SqT.of hp,q p H (Same.refl H) hp⟩
theorem passF:Passes (CXo X.prog X.w) X E0:=fun _ _ _ _ _ _ _ h=>by
 obtain ⟨_,_,_,_,_,_,z⟩:=h
 exact z.elim
theorem pe_fnF {x : Str} {st : Stmt} {ps : List Str} {f : Addr} {fd : FuncData} {k : Nat} {sp : Sp} {e : Expr} {es : List Expr} {t : TA} {p pos : Pos} (G : FnOk X.prog X.w X.K X.mg X.base (CXo X.prog X.w) k f fd ps sp) (F : Fn X.K X.mg x st ps f fd) (hr : Room k X.A) (ha : PA X (e :: es) t)
    (hg : Gl X x := by rfl) (hdb : (x == ("__debug__" : Str)) = false := by decide) (he : starEach (e :: es) X.env = (false, eval e X.env) :: starEach es X.env := by rfl) (hpl : (backTo pos (starEach es X.env)).any (·.1) = false := by rfl) :
    PE X (.Call (.Name x p) (e :: es) [] pos) (tCall sp [] E0 t) := pe_call G hr hg F.g F.fn.kp F.b .nil passF ha hdb he hpl
theorem Fun.okX2 {P:Program} {w:World} {K:PySem.W.Frag} {mg:Str→Option Value} {base:Heap} {x qual:Str} {st:Stmt} {f:Addr} {fd:FuncData} {N ps:List Str} {k:Nat} {sp:Sp} (F:Fun K x qual st f fd) (S:FnScope N ps (defScope st)) (len:∀ vs H Q E,sp vs H Q E→vs.length = ps.length)
  (hbody:∀ (cdv:Value) (A:Around) (outer:List Env) (s:Shared) (H:Hp) (vs:List V) (Q:VK) (E:XK),Room k (A.deeper (envOfC qual (defScope st) s.heap.objs.size f cdv))→sp vs H Q E→Own (cxOf (CXo P w) P w K mg base N qual (defScope st) f cdv A outer s H E) →
   ∃ t,PSs ((cxOf (CXo P w) P w K mg base N qual (defScope st) f cdv A outer s H E).wish (BodyX (cxOf (CXo P w) P w K mg base N qual (defScope st) f cdv A outer s H E) E)) (defBody st) t∧t { nx:=fun _ H'=>Q .non H',rt:=Q } (start N vs) H):FnOk P w K mg base (CXo P w) (k + 1) f fd ps sp:=by
 refine F.okX S len fun cdv A outer s H vs Q E hr h X hX=>?_
 subst hX
 by_cases ok:(cxOf (CXo P w) P w K mg base N qual (defScope st) f cdv A outer s H E).Ok
 ·exact hbody cdv A outer s H vs Q E hr h ⟨ok,rfl,rfl,rfl⟩
 ·exact ⟨fun _ _ _=>True,fun pins s σ H D I _=>absurd I.ok.unwish ok,trivial⟩
theorem Room.lt {k:Nat} {A:Around} (r:Room k A) (n:Nat) (h:n≤62):A.units + n + 1 < cLine:=by have:=r.units;omega

noncomputable def PJ (X:Cx) (es:List Expr) (m:Nat) (t:St→Hp→Prop):Prop :=
 ∀ (pins:List (Addr×Obj)) (s:Shared) (σ:St) (H:Hp) (out:Str) (Q:Value→Shared→Prop),Inv X pins σ H s→t σ H→out.length + m≤sizeLine→(∀ x tk s',Inv X pins σ H s'→Q (.str x tk) s') →
  wpAny (model X.prog X.w) X.A (joinParts out (evalEach es X.env)) Q X.xe s
noncomputable def jNil:St→Hp→Prop:=fun _ _=>True
noncomputable def jInt (te:TE) (t:St→Hp→Prop):St→Hp→Prop:=fun σ H=>te σ H fun v H'=>H' = H∧(∃ i:Int,v = .int i∧i.natAbs.log2 < 1920)∧t σ H
theorem pj_nil:PJ X [] 0 jNil:=fun pins s σ H out Q I _ hz q=>joinParts_nil (q _ _ _ (I.tok _)) (by omega)
theorem pj_str {x:Str} {j} {pos:Pos} {es:List Expr} {m:Nat} {t:St→Hp→Prop} (h:PJ X es m t):PJ X (.Constant (.str x) j pos :: es) (x.length + m) t:=fun pins s σ H out Q I ht hz q=>by
 show wpAny _ _ (joinParts out (eval (.Constant (.str x) j pos) X.env :: evalEach es X.env)) Q _ s
 have e:(out ++ x).length = out.length + x.length:=strLen_append _ _
 refine joinParts_cons (Calls.Constant_str ?_)
 exact ⟨by rw [e];omega,h pins _ σ H (out ++ x) Q (I.tok _) ht (by rw [e];omega) q⟩
theorem pj_int {a:Expr} {pos:Pos} {es:List Expr} {m:Nat} {t:St→Hp→Prop} {te:TE} (ha:PE X a te) (h:PJ X es m t):PJ X (.FormattedValue a (-1) none pos :: es) (1921 + m) (jInt te t):=fun pins s σ H out Q I ht hz q=>by
 show wpAny _ _ (joinParts out (eval (.FormattedValue a (-1) none pos) X.env :: evalEach es X.env)) Q _ s
 refine joinParts_cons (FormattedValue_plain (thn (ha pins s σ H _ I ht) fun u s1 h1=>?_))
 obtain ⟨v,H1,I1,r,rfl,⟨i,rfl,hi⟩,ht1⟩:=h1
 obtain ⟨tk,rfl⟩:=r
 have l1:=int_text_length_le (k:=1920) (by decide) hi
 have e:(out ++ Str.ofString (toString i)).length = out.length + (toString i).length:=by rw [strLen_append,PySem.ofString_length]
 refine formatField_int_small hi ?_
 exact ⟨by rw [e];omega,h pins _ σ H1 (out ++ Str.ofString (toString i)) Q (I1.tok _) ht1 (by rw [e];omega) q⟩
noncomputable def tFs (t:St→Hp→Prop):TE:=fun σ H Q=>t σ H∧∀ x,Q (.str x) H
theorem pe_fs {a b:Expr} {es:List Expr} {pos:Pos} {m:Nat} {t:St→Hp→Prop} (h:PJ X (a :: b :: es) m t) (hm:m≤1000000):PE X (.JoinedStr (a :: b :: es) pos) (tFs t):=fun pins s σ H Q I hw=>by
 have e:Str.empty.length = 0:=rfl
 have z:sizeLine = 16777216:=sizeLine_eq
 exact JoinedStr_many (h pins s σ H Str.empty _ I hw.1 (by rw [e,z];omega) fun x tk s' I'=>⟨.str x,H,I',⟨_,rfl⟩,hw.2 x⟩)
end

end L2

namespace L2
open PySem PySem.Spec PyProof.Rows
section
variable {X:Cx}
theorem vals_at {xs:List V} {its:List Value} {j:Nat} (r:Vals xs its) (hj:j < its.toArray.size):∃ x,xs[j]? = some x∧RelV x its.toArray[j]:=by
 have hl:=r.length
 have hx:j < xs.length:=by rw [List.size_toArray] at hj;omega
 obtain ⟨u,hu,ru⟩:=r.get (List.getElem?_eq_getElem hx)
 refine ⟨_,List.getElem?_eq_getElem hx,?_⟩
 have z:its.toArray[j]? = some u:=by simpa using hu
 rw [(Array.getElem?_eq_some_iff.mp z).2]
 exact ru
end
end L2

namespace L2
open PySem PySem.Spec PyProof.Rows
noncomputable def IteL (K:PySem.W.Frag) (a:Addr):It :=
 ⟨fun i H=>∃ xs x,SqL K H a xs∧xs[i]? = some x,fun i H y H'=>∃ t x,y = .ref t∧H t = none∧H' = upd H t (.tup [.int i,x])∧∀ xs,SqL K H a xs→xs[i]? = some x,fun i H=>∃ xs,SqL K H a xs∧xs.length≤i⟩
theorem turn_enumL {P:Program} {w:World} {K:PySem.W.Frag} {elts:List Expr} {x1:Nat} {tp:Pos} (a e it:Addr) (hei:e≠it) :
  Turn P w K (.Tuple elts x1 tp) (IteL K a) [e,it] e (fun i h=>(∃ old,IsEnum h e it i old)∧h.IsListIter it a i) where
 mem:=by simp
 obj:=fun i h st b hb=>by
  obtain ⟨⟨old,he⟩,hit⟩:=st
  rcases List.mem_cons.mp hb with rfl | hb
  ·exact ⟨_,he,fun v z=>by
    have z':Data.fields _ = Data.cell v:=z
    cases z'⟩
  ·have e1:b = it:=by simpa using hb
   subst e1
   obtain ⟨o,e,c,d⟩:=hit
   exact ⟨o,e,fun v z=>by rw [d] at z;cases z⟩
 keep:=fun i h h' st k=>⟨let ⟨old,he⟩:=st.1;⟨old,k e (by simp) _ he⟩,let ⟨o,ho,r⟩:=st.2;⟨o,k it (by simp) o ho,r⟩⟩
 item:=by
  intro X hP hw hK hc i pins s σ H E I hf st hg
  subst hP hw hK
  obtain ⟨⟨old,he⟩,hit⟩:=st
  obtain ⟨xs,x,hq,hx⟩:=hg
  obtain ⟨its,rv,p,hz⟩:=I.list hq
  obtain ⟨u,hu,ru⟩:=rv.get hx
  obtain ⟨f0,f1,f2,f3,f4,f5⟩:=hf e (by simp)
  obtain ⟨g0,g1,g2,g3,g4,g5⟩:=hf it (by simp)
  refine wpAny_pyNext_enum_item he hit p.isList (x:=u) (by simpa using hu) hei fun h' ho' hit' hT hsz hk=>?_
  refine ⟨_,rfl,wpAny_letOwnedTupleGo_enum ho' fun h'' he'' hs''=>?_⟩
  have hlt:e < s.heap.objs.size:=Heap.lt_size he
  have k2:∀ b o,b≠e→b≠it→s.heap.get? b = some o→h''.get? b = some o:=fun b o h1 h2 q=>(hs''.2 b h1).trans (hk b o h1 h2 q)
  have hT2:h''.get? s.heap.objs.size = some { cls:=.type "tuple",data:=.seq #[.int i s.toks,u] }:=(hs''.2 _ (Nat.ne_of_gt hlt)).trans hT
  have hfr:H s.heap.objs.size = none:=I.hok.fresh (Nat.le_refl _)
  have neT:∀ {b:Addr} {o:Obj},s.heap.get? b = some o→b≠s.heap.objs.size:=fun q=>Nat.ne_of_lt (Heap.lt_size q)
  have trk:∀ {b:Addr} {o:HO},H b = some o→b≠e∧b≠it:=fun q=>⟨fun z=>(by rw [z,f0] at q;cases q),fun z=>(by rw [z,g0] at q;cases q)⟩
  have I2:Inv X pins σ (upd H s.heap.objs.size (.tup [.int i,x])) { s with heap:=h'',toks:=s.toks + 1 }:=by
   refine I.step (g':=s.gens) (d':=s.drawn) (ch:=[e,it]) (fun b hb=>?_) (fun b o _ _ hch q _=>k2 b o (fun z=>hch (by simp [z])) (fun z=>hch (by simp [z])) q) (fun b o _ _ hch q _=>⟨o.slots,k2 b o (fun z=>hch (by simp [z])) (fun z=>hch (by simp [z])) q⟩)
    (fun b o _ q n=>by rw [upd_ne (neT q)];exact n) (fun b o hch q=>⟨o,k2 b o (fun z=>hch (by simp [z])) (fun z=>hch (by simp [z])) q⟩) (fun b ys q=>by rw [upd_ne (ne_of_none q hfr)];exact q) (fun b o ys q=>by rw [upd_ne (ne_of_none q hfr)];exact q)
    (fun b ps q=>⟨#[],by rw [upd_ne (ne_of_none q hfr),q];simp⟩) (fun m hm=>?_) (fun b v q=>?_) I.bare
   ·rcases List.mem_cons.mp hb with rfl | hb
    ·exact ⟨f3,f1,f4,f5⟩
    ·have e1:b = it:=by simpa using hb
     subst e1
     exact ⟨g3,g1,g4,g5⟩
   ·obtain ⟨o,es,ep,ho,r⟩:=hm
    exact ⟨o,es,ep,k2 _ o (Ne.symm f1) (Ne.symm g1) ho,r⟩
   ·by_cases hb:b = s.heap.objs.size
    ·subst hb
     rw [upd_same] at q
     cases q
     exact ⟨by show 2≤sizeLine;decide,[.int i s.toks,u],.cons ⟨_,rfl⟩ (.cons ru .nil),_,hT2,rfl,_,rfl⟩
    ·rw [upd_ne hb] at q
     refine (I.hok b v q).stay (fun c o hc z=>?_) (fun c z=>by rw [upd_ne (ne_of_none z hfr)];exact z) fun c ys z=>by rw [upd_ne (ne_of_none z hfr)];exact z
     rcases hc with rfl | hc
     ·exact k2 c o (trk q).1 (trk q).2 z
     ·exact k2 c o (trk hc).1 (trk hc).2 z
  refine ⟨.ref s.heap.objs.size,_,I2,rfl,⟨_,x,rfl,hfr,rfl,fun ys hy=>by rw [I.list_inj hy hq];exact hx⟩,⟨⟨u,by simpa using he''⟩,?_⟩,fun b hb=>?_⟩
  ·obtain ⟨o,q,r⟩:=hit'
   exact ⟨o,(hs''.2 it (Ne.symm hei)).trans q,r⟩
  ·rcases List.mem_cons.mp hb with rfl | hb
   ·rw [upd_ne (Nat.ne_of_lt hlt)];exact f0
   ·have e1:b = it:=by simpa using hb
    subst e1
    obtain ⟨o,q,_⟩:=hit
    rw [upd_ne (neT q)]
    exact g0
 done:=by
  intro X hP hw hK hc i pins s σ H E I hf st hg
  subst hP hw hK
  obtain ⟨⟨old,he⟩,hit⟩:=st
  obtain ⟨xs,hq,hx⟩:=hg
  obtain ⟨its,rv,p,hz⟩:=I.list hq
  obtain ⟨g0,g1,g2,g3,g4,g5⟩:=hf it (by simp)
  have hl:=rv.length
  exact wpAny_pyNext_enum_end (I.ok.hd hc) he hit p.isList (by simp;omega) fun h' eb=>⟨rfl,I.turned (t':=s.toks) (fun b o hb q=>eb b o hb q) g0 g1 g3 g4 g5⟩
 self:=fun _ _ _ _ _ st h=>let ⟨_,he⟩:=st.1;wpAny_pyIter_enum he h
section
variable {X:Cx}
noncomputable def iEnumL (K:PySem.W.Frag) (ta:TA):TI:=fun σ H R=>ta σ H fun vs H1=>∃ a,vs = [.ref a]∧(∃ xs,SqL K H1 a xs)∧R (IteL K a) H1
theorem pi_enumL {a:Expr} {ta:TA} {p pos:Pos} {elts:List Expr} {x1:Nat} {tp:Pos} (hg:Gl X "enumerate") (hm:X.mg "enumerate" = none) (ha:PA X [a] ta) (hs:starEach [a] X.env = [(false,eval a X.env)]:=by rfl) :
  PI X (.Tuple elts x1 tp) (.Call (.Name "enumerate" p) [a] [] pos) (iEnumL X.K ta):=by
 intro pins s σ H R I h
 refine Call_ (ld_blt I hg hm bb_enumerate (PyProof.Rows.callWith_type1 (thn (ha pos pins s σ H _ I h) fun us s1 ⟨vs,H1,I1,r1,q1⟩=>?_) hs rfl))
 obtain ⟨l,e,⟨xs,hq⟩,q⟩:=q1
 subst e
 cases r1 with
 | cons r rr =>
  cases rr
  cases r
  obtain ⟨its,rv,ht,hz⟩:=I1.list hq
  refine call_enumerate_list ht.isList fun h' he hit hsz hk=>?_
  have I2:Inv X pins σ H1 { s1 with heap:=h' }:=I1.kept (t':=s1.toks) hk
  refine wpAny_pyIter_enum he ?_
  refine ⟨s1.heap.objs.size + 1,[s1.heap.objs.size + 1,s1.heap.objs.size],_,_,H1,rfl,I2,turn_enumL l _ _ (Nat.succ_ne_self _),⟨⟨_,he⟩,hit⟩,fun b hb=>?_,q⟩
  rcases List.mem_cons.mp hb with rfl | hb
  ·exact (I1.fpOk (Nat.le_succ _) (I1.hok.fresh (Nat.le_succ _)))
  ·have e:b = s1.heap.objs.size:=by simpa using hb
   subst e
   exact I1.fpOk (Nat.le_refl _) (I1.hok.fresh (Nat.le_refl _))
theorem for_enumL {K:PySem.W.Frag} {a:Addr} {xs:List V} {g:TG} {tb:TS} {D:Ends} {σ:St} {H:Hp} (Pv:Nat→St→Hp→Prop) (h0:Pv 0 σ H) (hl:∀ i σ H,i≤xs.length→Pv i σ H→SqL K H a xs)
  (hs:∀ i x t σ H,xs[i]? = some x→Pv i σ H→H t = none→g (.ref t) σ (upd H t (.tup [.int i,x])) fun σ2 H2=>tb { D with nx:=Pv (i + 1),ct:=Pv (i + 1),bk:=D.nx } σ2 H2) (hd:∀ σ H,Pv xs.length σ H→D.nx σ H) :
  ∃ W:Nat→Nat→St→Hp→Prop,(∃ m,W 0 m σ H)∧∀ i m σ H,W i m σ H →
   ((IteL K a).stop i H∧D.nx σ H)∨((IteL K a).go i H∧∃ N:St→Hp→Prop,(∀ σ' H',N σ' H'→∃ m',m' < m∧W (i + 1) m' σ' H')∧∀ x H',(IteL K a).yld i H x H'→g x σ H' fun σ2 H2=>tb { D with nx:=N,ct:=N,bk:=D.nx } σ2 H2):=by
 refine ⟨fun i m σ H=>m = xs.length - i∧i≤xs.length∧Pv i σ H,⟨xs.length,by simp,Nat.zero_le _,h0⟩,?_⟩
 rintro i m σ H ⟨rfl,hi,p⟩
 have q:=hl i σ H hi p
 by_cases hlt:i < xs.length
 ·refine .inr ⟨⟨xs,xs[i],q,by simp [hlt]⟩,Pv (i + 1),fun σ' H' p'=>⟨xs.length - (i + 1),by omega,rfl,hlt,p'⟩,fun x H' y=>?_⟩
  obtain ⟨t,z,e,hn,e2,y⟩:=y
  subst e e2
  exact hs i z t σ _ (y xs q) p hn
 ·have e:i = xs.length:=by omega
  subst e
  exact .inl ⟨⟨xs,q,Nat.le_refl _⟩,hd σ H p⟩
end

theorem compOk1 {X:Cx} {scope:Scope} {pre:List Str} {y:Str} {c:Addr} {j:Nat} (hkind:scope.kind = .function) (h:∀ z∈scope.names,z.2≠.cell∧(z.2 = .free→z.1 = y)) (hn:∀ z∈scope.names,z.2 = .local→scope.names.lookup z.1 = some .local)
  (hcl:closureFor scope X.env = pure [(y,c)]) (hc:X.env.cells.lookup y = some c) (hN:X.N[j]? = some y) (hk:X.env.kindOf y = some .cell) (hr:(relabel scope X.env).names.lookup y = some .cell) :
  CompOk X scope [(y,c)] (pre ++ [y]) (List.replicate pre.length none ++ [some j]) where
 clos:=hcl
 cell:=fun z hz=>(h z hz).1
 kind:=hkind
 names:=hn
 cls:=fun x c' e=>by
  rw [List.lookup_cons] at e
  split at e
  ·rename_i hx
   rw [eq_of_beq hx,← e]
   exact hc
  ·cases e
 has:=fun x e=>by
  have key:∀ k,(relabel scope X.env).names.lookup x = some k→k = .cell∨k = .free→x = y:=fun k e hk=>by
   have hm:=PySem.mem_of_lookup e
   obtain ⟨⟨n,k'⟩,hy,ey⟩:=List.mem_map.mp hm
   have h1:=h _ hy
   by_cases hf:k' = .free
   ·have z:=h1.2 hf
    dsimp only at ey
    split at ey
    ·cases ey;exact z
    ·cases ey;exact z
   ·have hb:(k' == NameKind.free) = false:=by simpa using hf
    simp only [hb,Bool.false_and,Bool.false_eq_true,if_false,Prod.mk.injEq] at ey
    obtain ⟨_,rfl⟩:=ey
    rcases hk with hk | hk
    ·exact absurd hk h1.1
    ·exact absurd hk hf
  have hxy:x = y:=by
   rcases e with e | e
   ·exact key _ e (.inl rfl)
   ·exact key _ e (.inr rfl)
  exact ⟨c,by rw [hxy,List.lookup_cons,beq_self_eq_true]⟩
 len:=by simp
 src:=fun i k x e1 e2=>by
  by_cases hi:i < pre.length
  ·rw [List.getElem?_append_left (by simpa using hi),List.getElem?_replicate,if_pos hi] at e1
   cases e1
  ·have hl:=(List.getElem?_eq_some_iff.mp e2).1
   rw [List.length_append,List.length_singleton] at hl
   have e:i = pre.length:=by omega
   subst e
   rw [List.getElem?_append_right (by simp)] at e1
   rw [List.getElem?_append_right (Nat.le_refl _)] at e2
   simp at e1 e2
   subst e1 e2
   exact ⟨hN,.inl hk,.inl hr⟩

theorem compOk2 {X : Cx} {scope : Scope} {x y : Str} {c : Addr} {j : Nat} (hkind : scope.kind = .function) (h : ∀ z ∈ scope.names, z.2 ≠ .cell ∧ (z.2 = .free → z.1 = y)) (hn : ∀ z ∈ scope.names, z.2 = .local → scope.names.lookup z.1 = some .local)
    (hcl : closureFor scope X.env = pure [(y, c)]) (hc : X.env.cells.lookup y = some c) (hN : X.N[j]? = some y) (hk : X.env.kindOf y = some .cell) (hr : (relabel scope X.env).names.lookup y = some .cell) :
    CompOk X scope [(y, c)] [x, y] [none, some j] := compOk1 (pre := [x]) hkind h hn hcl hc hN hk hr
theorem bind_name {M:Model} {A:Around} {E:Value→Shared→Prop} {s:Shared} {env:Env} {x:Str} {v:Value} {Q:Unit→Shared→Prop} (h:wpAny M A (storeName env x v) Q E s):wpAny M A (bindName env x v) Q E s:=fun Γ p hΓ=>by
 rw [Sem.wp_bindName]
 exact h Γ _ hΓ
theorem ps_comp {X:Cx} {elt iter tg:Expr} {ifs:List Expr} {scope:Scope} {pos pos' ps:Pos} {x:Str} {ix:Nat} {cl:List (Str×Addr)} {NC:List Str} {ini:List (Option Nat)} {wi:TI} {g:TG} {tt:TT} {te:TE}
  (hN:X.N.Nodup) (hix:X.N[ix]? = some x) (hx:Loc X.env.scope x) (hc:X.calm = true) (O:CompOk X scope cl NC ini) (hi:PI X tg iter wi)
  (hg:∀ fp C s₀ H₀,PG (cxComp X scope cl NC fp C s₀ H₀) tg g) (ht:∀ fp C s₀ H₀,PTs (cxComp X scope cl NC fp C s₀ H₀) ifs tt) (he:∀ fp C s₀ H₀,PE (cxComp X scope cl NC fp C s₀ H₀) elt te)
  (hs:∀ x,foldedSetIterable iter X.env x = pure x:=by intro _;rfl) (hsw:swapsWith (.ListComp elt [⟨tg,iter,ifs,0⟩] scope pos) (some (.Name x pos')) ps.line X.env = pure true:=by rfl)
  (hf:X.fn x = true∨X.env.scope.names.lookup x = some .local:=by first | exact .inl rfl | exact .inr rfl | assumption):PS X (.Assign [.Name x pos'] (.ListComp elt [⟨tg,iter,ifs,0⟩] scope pos) ps) (tAsg (tComp wi g tt te ini) (gName ix)):=by
 intro pins s σ H Dn I h
 rw [exec_Assign_Name_used _ _ _ _ hsw]
 refine wpAny_bind (wpAny_standAt (wpAny_bind ?_))
 show wpAny _ _ (comprehension (.ListComp elt [⟨tg,iter,ifs,0⟩] scope pos) scope X.env _ (newList []) false (eval iter X.env) (some (assign (.Name x pos') X.env)) >>= fun _=>pure ()) _ _ s
 refine wpAny_bind ?_
 refine wpAny_comprehension_free (use:=some (assign (.Name x pos') X.env)) rfl hs O.clos O.kind O.names (thn (hi pins s σ H _ I h) fun v s1 h1=>thn h1 fun itv s2 h2=>?_)
 obtain ⟨it,fp,tn,J,H2,e,I2,T,st2,f2,h2⟩:=h2
 subst e
 have hD:H2 s2.heap.objs.size = none:=I2.hok.fresh (Nat.le_refl _)
 obtain ⟨W,⟨m0,w0⟩,turn⟩:=h2 _ hD
 refine wpAny_newObj_type (wpAny_newFunctionEnv O.cell (by intro y hy;simp at hy) (fun h₁ hns₁ hsb₁=>?_) O.kind)
 dsimp only at hns₁ hsb₁ ⊢
 have I3:Inv X pins σ (upd H2 s2.heap.objs.size (.lst [])) { s2 with heap:=s2.heap.push { cls:=.type "list",dict:=none,data:=.seq ([]:List Value).toArray } }:=I2.lnew (its:=[]) (t':=s2.toks) .nil (by decide)
 have ob2:∀ b∈fp,∃ o,s2.heap.get? b = some o:=fun b hb=>let ⟨o,e,_⟩:=T.obj 0 _ st2 b hb;⟨o,e⟩
 have neD:∀ b∈fp,b≠s2.heap.objs.size:=fun b hb=>let ⟨o,e⟩:=ob2 b hb;Nat.ne_of_lt (Heap.lt_size e)
 have f3:∀ b∈fp,FpOk X pins (upd H2 s2.heap.objs.size (.lst [])) b:=fun b hb=>⟨by rw [upd_ne (neD b hb)];exact (f2 b hb).1,(f2 b hb).2⟩
 generalize hs3:({ s2 with heap:=s2.heap.push { cls:=.type "list",dict:=none,data:=.seq ([]:List Value).toArray } }:Shared) = s3 at I3
 have hh3:s2.heap.push { cls:=.type "list",dict:=none,data:=.seq ([]:List Value).toArray } = s3.heap:=by rw [← hs3]
 have ob3:∀ b∈fp,∃ o,s3.heap.get? b = some o:=fun b hb=>let ⟨o,e⟩:=ob2 b hb;⟨o,by rw [← hh3];exact Heap.get?_push_of_some _ e⟩
 rw [hh3] at hns₁ hsb₁ ⊢
 have old:∀ b o,s3.heap.get? b = some o→h₁.get? b = some o:=fun b o e=>hsb₁.extBut b o (Nat.ne_of_lt (Heap.lt_size e)) (Heap.get?_push_of_some _ e)
 have st1:tn 0 h₁:=T.keep 0 _ _ st2 fun b hb o e=>old b o (by rw [← hh3];exact Heap.get?_push_of_some _ e)
 have IC:∀ tk,Inv (cxComp X scope cl NC fp s3.heap.objs.size s3 (upd H2 s2.heap.objs.size (.lst []))) [] (iniSt ini σ) (upd H2 s2.heap.objs.size (.lst [])) { s3 with heap:=h₁,toks:=tk }:=fun tk=>inv_comp O I3 f3 ob3 hns₁ old
 have stat:∀ {H':Hp},(∀ b∈fp,H' b = none)→∀ b∈fp,FpOk (cxComp X scope cl NC fp s3.heap.objs.size s3 (upd H2 s2.heap.objs.size (.lst []))) [] H' b:=fun {H'} hn b hb=>by
  obtain ⟨o,e⟩:=ob3 b hb
  refine ⟨hn b hb,Nat.ne_of_lt (Heap.lt_size e),fun z=>?_,.inl hb,fun x c hx=>(f3 b hb).2.2.2.2.1 x c (O.cls x c hx),fun p hp=>absurd (show p∈([]:List (Addr×Obj)) from hp) (by simp)⟩
  rcases List.mem_cons.mp (I3.stkSub b z) with q | q
  ·exact (f3 b hb).2.1 q
  ·exact (f3 b hb).2.2.1 q
 have loop:∀ s₃:Shared,s₃ = { s2 with heap:=h₁,toks:=s2.toks + ([]:List (Str×Value)).length } →
   codeAny (model X.prog X.w) X.A (.compLoop (.ListComp elt [⟨tg,iter,ifs,0⟩] scope pos) 0 (.ref it) (.ref s2.heap.objs.size) (compEnvC scope cl s3.heap.objs.size X.env))
    (compPost (model X.prog X.w) X.A X.xe (some (assign (.Name x pos') X.env)) (fun _ sE=>wpAny (model X.prog X.w) X.A (pure ()) (fun _ s₁=>wpAny (model X.prog X.w) X.A (pure Flow.next) (SP X pins Dn) X.xe s₁) X.xe sE) (.ref s2.heap.objs.size) s3.heap.objs.size) s₃:=by
  rintro s₃ rfl
  refine codeAny_loop rfl (fun n s'=>∃ i σ' H',Inv (cxComp X scope cl NC fp s3.heap.objs.size s3 (upd H2 s2.heap.objs.size (.lst []))) [] σ' H' s'∧tn i s'.heap∧(∀ b∈fp,H' b = none)∧W i n σ' H') (fun n s' hI=>?_) m0
   ⟨0,_,_,by have z:=IC (s2.toks + ([]:List (Str×Value)).length);rw [← hs3] at z ⊢;exact z,st1,fun b hb=>(f3 b hb).1,w0⟩
  show wpAny _ X.A ((compTurn (.ListComp elt [⟨tg,iter,ifs,0⟩] scope pos) 0 (.ref it) (.ref s2.heap.objs.size) (compEnvC scope cl s3.heap.objs.size X.env)).onRaise (fun x=>do noteFrame x (compEnvC scope cl s3.heap.objs.size X.env);theTreesLotGoes x)) _ _ s'
  refine wpAny_noted ?_
  rw [compTurn_list]
  obtain ⟨i,σ3,H3,I3',st3,fr3,w3⟩:=hI
  rcases turn i n σ3 H3 w3 with ⟨stop,qn⟩ | ⟨go,N,hN,step⟩
  ·refine wpAny_bind (wpAny_standAt (wpAny_bind (thn (T.done (cxComp X scope cl NC fp s3.heap.objs.size s3 (upd H2 s2.heap.objs.size (.lst []))) rfl rfl rfl hc i [] s' σ3 H3 _ I3' (stat fr3) st3 stop) fun r s4 ⟨hr,I4⟩=>?_)))
   subst hr
   obtain ⟨m',hn',_⟩:=I4.loc
   refine wpAny_pure ?_
   show wpAny _ _ (do standAt pos';bindName X.env x (.ref s2.heap.objs.size)) _ _ s4
   refine wpAny_bind (wpAny_standAt ?_)
   have IX:Inv X pins σ H3 s4:=comp_back I3 f3 I4 (Heap.SameBut.refl _ _)
   have fC:FpOk X pins H3 s3.heap.objs.size:=I3.fpOk (Nat.le_refl _) I4.free
   obtain ⟨c0,c1,c2,c3,c4,c5⟩:=fC
   refine bind_name (store_ok2 IX hN hix hx (v:=.ref s2.heap.objs.size) rfl (fun s5 I5 sb=>?_) hf)
   obtain ⟨aa,sb1,sb2⟩:=sb
   have nA:s3.heap.objs.size≠aa:=by
    rcases sb2 with z | z
    ·rw [z];exact c1
    ·exact Ne.symm (c4 x aa z)
   obtain ⟨oo,es,ep,g1,g2⟩:=hn'
   refine ⟨m',⟨oo,es,ep,(sb1.2 _ nA).trans g1,g2⟩,fun h' hs'=>wpAny_pure (wpAny_pure ⟨_,H3,I5.turned (t':=s5.toks) (fun b o hb e=>(hs'.2 b hb).trans e) c0 c1 c3 c4 c5,qn⟩)⟩
  ·refine wpAny_bind (wpAny_standAt (wpAny_bind (thn (T.item (cxComp X scope cl NC fp s3.heap.objs.size s3 (upd H2 s2.heap.objs.size (.lst []))) rfl rfl rfl hc i [] s' σ3 H3 _ I3' (stat fr3) st3 go) fun r s4 ⟨u,hr,h4⟩=>?_)))
   subst hr
   refine wpAny_bind (thn h4 fun _ s5 ⟨x,H5,I5,r5,y5,st5,fr5⟩=>?_)
   have I5':=I5.pinned (stat fr5) (T.obj _ _ st5)
   refine wpAny_bind (quietX (hg fp _ s3 _ _ s5 σ3 H5 x u _ I5' r5 (step x H5 y5)) fun _ s6 ⟨σ6,H6,I6,q6⟩=>?_)
   have again:∀ {s7:Shared} {H7:Hp},Inv (cxComp X scope cl NC fp s3.heap.objs.size s3 (upd H2 s2.heap.objs.size (.lst []))) ([] ++ pinsAt fp s5.heap) σ6 H7 s7→N σ6 H7 →
     ∃ m,m < n∧∃ i σ' H',Inv (cxComp X scope cl NC fp s3.heap.objs.size s3 (upd H2 s2.heap.objs.size (.lst []))) [] σ' H' s7∧tn i s7.heap∧(∀ b∈fp,H' b = none)∧W i m σ' H':=fun {s7 H7} I7 n7=>by
    obtain ⟨m',hm,w7⟩:=hN σ6 H7 n7
    refine ⟨m',hm,i + 1,σ6,H7,I7.unpinned,T.keep _ _ _ st5 fun b hb o e=>(I7.pin (b,o) (List.mem_append_right _ (List.mem_append_right _ (mem_pinsAt hb e)))).1,fun b hb=>?_,w7⟩
    obtain ⟨o,e,d⟩:=T.obj _ _ st5 b hb
    exact (I7.pin (b,o) (List.mem_append_right _ (List.mem_append_right _ (mem_pinsAt hb e)))).2.1
   refine wpAny_bind (quietX (ht fp _ s3 _ _ s6 σ6 H6 _ I6 q6) fun ok s7 ⟨H7,I7,q7⟩=>?_)
   cases ok with
   | false=>exact wpAny_pure ⟨rfl,again I7 q7⟩
   | true =>
    refine wpAny_bind (wpAny_bind (quietX (he fp _ s3 _ _ s7 σ6 H7 _ I7 q7) fun u8 s8 ⟨v8,H8,I8,r8,ys,hy,hz,n8⟩=>?_))
    refine wpAny_bind (quietX (mt_append _ s8 σ6 H8 (.ref s2.heap.objs.size) [v8] (.ref s2.heap.objs.size) [u8] (fun _ H9=>N σ6 H9) I8 rfl (.cons r8 .nil) ⟨_,ys,v8,rfl,rfl,hy,hz,n8⟩) fun _ s9 ⟨_,H9,I9,_,n9⟩=>?_)
    exact wpAny_pure (wpAny_pure ⟨rfl,again I9 n9⟩)
 exact codeAny_compStart_list (loop _ rfl) (T.self _ 0 _ _ _ st1 (loop _ rfl))

theorem ix_listK {X:Cx} {K:PySem.W.Frag} (hK:X.K = K):IxR X (rIxL K):=hK ▸ ix_list
theorem ix_tupK {X:Cx} {K:PySem.W.Frag} (hK:X.K = K):IxR X (rIxT K):=hK ▸ ix_tup
section
variable {X:Cx}
theorem bb_reversed:bootBuiltins "reversed" = some (.type "reversed"):=by decide +kernel
end

end L2

namespace L2V
open PySem PySem.Spec PyProof.Rows
section
variable {prog:Program} {w:World} {A:Around} {E:Value→Shared→Prop} {s:Shared} {R:Result→Shared→Prop}
theorem meets_vals (d:Addr) (hd:(d == sysModules) = false):MeetsIn prog w (Builtin.«dict.values» ⟨[.ref d],[]⟩) (fun _ R s=>s.TypeIs (.ref d) "dict"∧R (.ok (.ret (.ref s.heap.objs.size))) { s with heap:=s.heap.push { cls:=.type "dict_values",data:=.fields #[.ref d] } }) :=
 .of_wp fun A R s ⟨hm,h⟩=>by
  refine wpAny_bind ?_;unfold Builtin.Dict.noArgs;refine wpAny_bind (wpAny_notOrdered_dict hm ?_);show wpAny _ _ (pure d) _ _ s;refine wpAny_pure ?_
  show wpAny _ _ (Builtin.Dict.showsAll d >>= _) _ _ s;unfold Builtin.Dict.showsAll;rw [if_neg (by rw [hd];exact Bool.false_ne_true)]
  exact wpAny_bind (wpAny_pure (wpAny_bind (wpAny_newObj_type (wpAny_pure ⟨_,rfl,h⟩))))
noncomputable def DE (h:Heap) (d:Addr) (es:Array DictEntry) (ep:Nat):Prop:=∃ o,h.get? d = some o∧o.data = .dict es ep
end
end L2V
namespace L2
open PySem PySem.Spec PyProof.Rows L2V
section
variable {X:Cx}
theorem paired_get {α β:Type} {F:α→β→Prop}:∀ {l:List α} {m:List β} {i:Nat} {a:α} {b:β},Paired F l m→l[i]? = some a→m[i]? = some b→F a b
 | _,_,0,_,_,.cons h _,e1,e2=>by cases e1;cases e2;exact h
 | _,_,i + 1,_,_,.cons _ r,e1,e2=>paired_get r (i:=i) (by simpa using e1) (by simpa using e2)
end
end L2

namespace L2
open PySem PySem.Spec PyProof.Rows PySem.W
section
variable {X:Cx} {pins:List (Addr×Obj)} {σ:St} {H:Hp} {s:Shared} {a:Addr} {kvs:List (Key×V)} {k:Key} {u r:Value} {A:Around} {E:Value→Shared→Prop}
theorem d_setdef {x:V} {Q:Value→Shared→Prop} (I:Inv X pins σ H s) (e:H a = some (.dK kvs)) (ry:RelV (kV k) u) (rv:RelV x r) (l:kvs.length < sizeLine)
  (h1:∀ y w' s',valV kvs k = some y→Inv X pins σ H s'→RelV y w'→Q w' s')
  (h2:∀ s',valV kvs k = none→Inv X pins σ (upd H a (.dK (putK kvs k x))) s'→Q r s'):wpAny (model X.prog X.w) A (call (.builtin "dict.setdefault") [.ref a,u,r]) Q E s:=by
 obtain ⟨z,hd,vs,rel,dd⟩:=dk_of I.hok e
 refine call_meetsIn PySem.F.slot_dict_setdefault dd.typeIs PySem.F.entry_dict_setdefault (PySem.F.args_dict_setdefault_3 _ _ _) (kt_meets_setdefault (mixKind X.prog X.w) a (kV_is ry) hd r)
  ⟨vs,dd,by rw [← rel.length];exact z,fun w' hw=>?_,fun hn h' dd' hs=>h2 _ ?_ ?_⟩
 ·cases q:valV kvs k with
  | none=>have:=rel.val k;rw [q,hw] at this;exact absurd this (fun z=>nomatch z)
  | some y=>have:=rel.val k;rw [q,hw] at this;exact h1 y w' _ q (I.tok _) this
 ·cases q:valV kvs k with
  | none=>rfl
  | some y=>have:=rel.val k;rw [q,hn] at this;exact absurd this (fun z=>nomatch z)
 ·have he:∃ q,h'.get? a = some q:=let ⟨q,_,_,hq,_⟩:=dd';⟨q,hq⟩
  have hl:(putK kvs k x).length≤sizeLine:=by have:=length_putK kvs k x;omega
  exact d_write I (by rw [e];exact True.intro) hs he (dk_new hl hd (rel.put k rv) dd')
end
noncomputable def tDSet (td ty tx:TE):TE:=fun σ H Q=>td σ H fun x H1=>∃ a,x = .ref a∧IsD H1 a∧ty σ H1 fun y H2=>tx σ H2 fun z H3=>∃ kvs k,H3 a = some (.dK kvs)∧y = kV k∧kvs.length < sizeLine ∧
 (∀ v,valV kvs k = some v→Q v H3)∧(valV kvs k = none→Q z (upd H3 a (.dK (putK kvs k z))))
section
variable {X:Cx} {o e f:Expr} {apos cpos:Pos} {td ty tx:TE}
theorem pe_dset (ho:PE X o td) (he:PE X e ty) (hf:PE X f tx) (m:M2 X o "setdefault" apos e f cpos):PE X (.Call (.Attribute o "setdefault" apos) [e,f] [] cpos) (tDSet td ty tx):=by
 intro pins s σ H Q I h
 refine wpAny_Call_method m.base m.few m.line PySem.F.plainAttrs_dict PySem.F.slot_dict_setdefault PySem.F.type_dict_setdefault (thn (ho pins s σ H _ I h) fun u s1 ⟨x,H1,I1,rx,a,ex,d,q1⟩=>?_)
 subst ex
 obtain rfl:u = Value.ref a:=rx
 obtain ⟨t1,t2,_⟩:=isD_at I1 d
 refine ⟨t1,t2,?_⟩
 rw [m.trees]
 refine Calls.callWith_builtin rfl (Calls.evalArgs_plain (Calls.spliced_cons (thn (he pins s1 σ H1 _ I1 q1) fun iv s2 ⟨y,H2,I2,ry,q2⟩ =>
  Calls.spliced_cons (thn (hf pins s2 σ H2 _ I2 q2) fun fv s3 ⟨z,H3,I3,rz,kvs,k,ea,ey,el,q3,q4⟩=>Calls.spliced_nil ?_))))
 subst ey
 exact d_setdef I3 ea ry rz el (fun y w' s4 hy I4 rw'=>⟨y,H3,I4,rw',q3 y hy⟩) fun s4 hn I4=>⟨z,_,I4,rz,q4 hn⟩
end
section
variable {X:Cx}
theorem KV.getAt:∀ {kvs:List (Key×V)} {vs:List (Key×Value)} {i:Nat} {a:Key×V} {b:Key×Value},KV kvs vs→kvs[i]? = some a→vs[i]? = some b→a.1 = b.1∧RelV a.2 b.2:=by
 intro kvs vs i a b h e1 e2
 unfold KV at h
 exact paired_get (F:=fun (p:Key×V) (q:Key×Value)=>p.1 = q.1∧RelV p.2 q.2) h e1 e2
theorem key_rel {P:Program} {w:World} {k:Key} {v:Value} (h:(mixKind P w).is k v = true):RelV (kV k) v:=by
 cases k with
 | inl i=>exact Value.isInt_shape h
 | inr x=>exact Value.isStrOf_shape h
theorem call_list_dk (hc:X.calm = true):CallR X (.type "list") (fun xs H Q=>∃ d kvs,xs = [.ref d]∧H d = some (.dK kvs)∧∀ l,H l = none→Q (.ref l) (upd H l (.lst (kvs.map fun kv=>kV kv.1)))):=by
 intro pins s σ H xs us Q I r h
 obtain ⟨d,kvs,rfl,hd,q⟩:=h
 obtain ⟨u,rfl,ru⟩:=r.one
 cases ru
 obtain ⟨z,lo,vs,rel,dd⟩:=dk_of I.hok hd
 obtain ⟨ep,hat⟩:=dd.dictAt
 have hlen:kvs.length = vs.length:=rel.length
 refine kdl_call (kdl_dict (knd:=mixKind X.prog X.w) (kvs:=vs) (ep:=ep) lo) (I.ok.hd hc) hat (by rw [← hlen];exact z) fun h' tk acc' c' hk hS' hacc=>?_
 refine ⟨.ref _,_,I.laid (a:=s.heap.objs.size) (o:=.lst (kvs.map fun kv=>kV kv.1)) (t':=tk) hk (Nat.le_refl _) ⟨by rw [List.length_map];exact z,acc'.toList,c',?_,by simpa using hS'⟩,rfl,q _ (I.hok.fresh (Nat.le_refl _))⟩
 refine vals_of_get (by rw [List.length_map,hlen];exact (by simpa using hacc.1.symm)) fun i x v e6 e7=>?_
 obtain ⟨k,y,e8,hk8⟩:=hacc.2 i v (by simpa using e7)
 rw [List.getElem?_map] at e6
 obtain ⟨kv,e9,rfl⟩:=Option.map_eq_some_iff.mp e6
 have:=(KV.getAt rel e9 e8).1
 rw [this]
 exact key_rel hk8
end

section
variable {X:Cx} {pins:List (Addr×Obj)} {σ:St} {H:Hp} {s:Shared} {a:Addr} {u:HO}
theorem Inv.frost (I:Inv X pins σ H s) {kvs:List (Key×V)} (e:H a = some (.dK kvs)):∃ o,s.heap.get? a = some o∧Inv X pins σ (upd H a (.frz o (.dK kvs))) s:=by
 have mu:Mut (H a):=by rw [e];exact True.intro
 obtain ⟨z,lo,vs,rel,o,es,ep,h1,h2⟩:=dk_of I.hok e
 exact ⟨o,h1,I.write (x:=a) (e:=a) (t':=s.toks) mu (.inl rfl) (fun b q hb z=>z) ⟨o,h1⟩ ⟨h1,z,lo,vs,rel,o,es,ep,h1,h2⟩⟩
noncomputable def Itdv (d:Addr) (o:Obj) (kvs:List (Key×V)):It :=
 ⟨fun i H=>i < kvs.length∧H d = some (.frz o (.dK kvs)),fun i H x H'=>H' = H∧(kvs.map (·.2))[i]? = some x,fun i H=>kvs.length≤i∧H d = some (.frz o (.dK kvs))⟩
theorem turn_vals {P:Program} {w:World} {K:PySem.W.Frag} {tg:Expr} (d it:Addr) (o:Obj) (kvs:List (Key×V)) (ep:Nat) (hep:∃ es,o.data = .dict es ep):Turn P w K tg (Itdv d o kvs) [it] it (fun i h=>i≤kvs.length∧h.IsValIter it d i kvs.length ep) where
 mem:=by simp
 obj:=fun i h st b hb=>by
  have e:b = it:=by simpa using hb
  subst e
  obtain ⟨_,o,e,c,d⟩:=st
  exact ⟨o,e,fun v z=>by rw [d] at z;cases z⟩
 keep:=fun i h h' st k=>⟨st.1,st.2.at fun o e=>k it (by simp) o e⟩
 item:=by
  intro X hP hw hK hc i pins s σ H E I hf st hg
  subst hP hw hK
  obtain ⟨hi,hd⟩:=hg
  obtain ⟨ho,z,lo,vs,rel,od,es,ep',h1,h2,h3,h4⟩:=(show ObjOk X.prog X.w H s.heap d (.frz o (.dK kvs)) from I.hok d _ hd)
  obtain ⟨f0,f1,f2,f3,f4,f5⟩:=hf it (by simp)
  have e1:od = o:=by rw [ho] at h1;exact (Option.some.inj h1).symm
  obtain ⟨es0,hep⟩:=hep
  have e2:ep' = ep:=by rw [e1,hep] at h3;cases h3;rfl
  subst e2
  have hat:s.heap.DictAt (mixKind X.prog X.w) d vs ep':=⟨od,es,h1,h2,h3,h4⟩
  have hl:kvs.length = vs.length:=rel.length
  have hx:vs[i]? = some (vs[i]'(by omega)):=List.getElem?_eq_getElem (by omega)
  have hx':kvs[i]? = some (kvs[i]'hi):=List.getElem?_eq_getElem hi
  have st2:=st.2
  rw [hl] at st2
  refine wpAny_pyNext_values_item (k:=(vs[i]'(by omega)).1) (v:=(vs[i]'(by omega)).2) st2 hat hx fun h' st' sb=>?_
  have I1:Inv X pins σ H { s with heap:=h' }:=I.turned (t':=s.toks) (fun b o hb e=>(sb.2 b hb).trans e) f0 f1 f3 f4 f5
  rw [← hl] at st'
  obtain ⟨o',e,c,d'⟩:=id st'
  exact ⟨_,rfl,go_of (s:={ s with heap:=h' }) e c d' (by decide) ⟨(kvs[i]'hi).2,H,I1,(KV.getAt rel hx' hx).2,⟨rfl,by rw [List.getElem?_map,hx'];rfl⟩,⟨hi,st'⟩,fun b hb=>(hf b hb).1⟩⟩
 done:=by
  intro X hP hw hK hc i pins s σ H E I hf st hg
  subst hP hw hK
  obtain ⟨hi,hd⟩:=hg
  obtain ⟨ho,z,lo,vs,rel,od,es,ep',h1,h2,h3,h4⟩:=(show ObjOk X.prog X.w H s.heap d (.frz o (.dK kvs)) from I.hok d _ hd)
  obtain ⟨f0,f1,f2,f3,f4,f5⟩:=hf it (by simp)
  have e1:od = o:=by rw [ho] at h1;exact (Option.some.inj h1).symm
  obtain ⟨es0,hep⟩:=hep
  have e2:ep' = ep:=by rw [e1,hep] at h3;cases h3;rfl
  subst e2
  have hat:s.heap.DictAt (mixKind X.prog X.w) d vs ep':=⟨od,es,h1,h2,h3,h4⟩
  have hl:kvs.length = vs.length:=rel.length
  have st2:=st.2
  have e3:i = vs.length:=by have:=st.1;omega
  rw [hl,e3] at st2
  exact wpAny_pyNext_values_end (I.ok.hd hc) st2 hat (by simp) fun h' eb=>⟨rfl,I.turned (t':=s.toks) (fun b o hb e=>eb b o hb e) f0 f1 f3 f4 f5⟩
 self:=fun _ _ _ _ _ st h=>wpAny_pyIter_valiter st.2 h
end
section
variable {X:Cx}
noncomputable def iVals (to:TE):TI:=fun σ H R=>to σ H fun v H1=>∃ d kvs,v = .ref d∧H1 d = some (.dK kvs)∧∀ o,R (Itdv d o kvs) (upd H1 d (.frz o (.dK kvs)))
theorem pi_vals {o tg:Expr} {to:TE} {pos' ap:Pos} (ho:PE X o to) (hbase:attributeBase o "values" X.env (eval o X.env) = eval o X.env:=by rfl) (hline:(ap.endLine == pos'.line) = true:=by rfl) :
  PI X tg (.Call (.Attribute o "values" ap) [] [] pos') (iVals to):=by
 intro pins s σ H R I h
 refine wpAny_Call_method0_late hbase hline (thn (ho pins s σ H _ I h) fun v s1 ⟨x,H1,I1,r1,d,kvs,ex,hd,q⟩=>?_)
 subst ex
 obtain ⟨h1,h2⟩:=tyV_is (T:="dict") I1 r1 (.inr (.inr (.inl ⟨rfl,.inl ⟨kvs,hd⟩⟩)))
 cases (show v = Value.ref d from r1)
 obtain ⟨ob,hob,I2⟩:=I1.frost hd
 obtain ⟨z,lo,vs,rel,dd⟩:=dk_of I1.hok hd
 obtain ⟨od,es,ep,g1,g2,g3,g4⟩:=id dd
 have e1:od = ob:=by rw [hob] at g1;exact (Option.some.inj g1).symm
 subst e1
 have hat:s1.heap.DictAt (mixKind X.prog X.w) d vs ep:=⟨od,es,g1,g2,g3,g4⟩
 have hl:kvs.length = vs.length:=rel.length
 refine ⟨"dict","dict.values",PySem.F.plainAttrs_dict,PySem.F.slot_dict_values,PySem.F.type_dict_values,h1,h2,Calls.callWith_builtin rfl (PySem.evalArgs_none ?_)⟩
 refine call_meetsIn PySem.F.slot_dict_values h1 PySem.F.entry_dict_values (PySem.F.args_dict_values_1 _) (L2V.meets_vals d lo) ⟨h1,?_⟩
 have hv:(s1.heap.push { cls:=.type "dict_values",data:=.fields #[.ref d] }).IsValuesView s1.heap.objs.size d:=⟨_,Heap.get?_push_size _ rfl,rfl,rfl⟩
 refine wpAny_pyIter_values (s:={ s1 with heap:=s1.heap.push { cls:=.type "dict_values",data:=.fields #[.ref d] } }) hv (hat.push _) ?_
 have I3:Inv X pins σ (upd H1 d (.frz od (.dK kvs))) { s1 with heap:=s1.heap.push { cls:=.type "dict_values",data:=.fields #[.ref d] } }:=I2.kept (t':=s1.toks) fun b o e=>Heap.get?_push_of_some _ e
 refine ⟨_,[_],_,_,_,rfl,I3.kept (t':=s1.toks) fun b o e=>Heap.get?_push_of_some _ e,turn_vals d _ od kvs ep ⟨es,g3⟩,⟨Nat.zero_le _,?_⟩,fun b hb=>?_,q od⟩
 ·rw [hl]
  exact ⟨_,Heap.get?_push_size _ rfl,rfl,rfl⟩
 ·have e:=List.mem_singleton.mp hb
  subst e
  exact I3.fpOk (Nat.le_refl _) (I3.hok.fresh (Nat.le_refl _))
theorem comp_vals {d:Addr} {o:Obj} {kvs:List (Key×V)} {g:TG} {tt:TT} {te:TE} {D:Addr} {Q:VK} {σ₀:St} {H₀:Hp} (Pv:Nat→St→Hp→Prop) (h0:Pv 0 σ₀ H₀) (hl:∀ i σ H,i≤kvs.length→Pv i σ H→H d = some (.frz o (.dK kvs)))
  (hs:∀ i x σ H,(kvs.map (·.2))[i]? = some x→Pv i σ H→g x σ H fun σ3 H3=>tt σ3 H3 fun b H4=>if b = true then te σ3 H4 fun v H5=>∃ ys,H5 D = some (.lst ys)∧ys.length < sizeLine∧Pv (i + 1) σ3 (upd H5 D (.lst (ys ++ [v]))) else Pv (i + 1) σ3 H4)
  (hd:∀ σ H,Pv kvs.length σ H→Q (.ref D) H):CompW (Itdv d o kvs) g tt te D Q σ₀ H₀:=by
 refine ⟨fun i m σ H=>m = kvs.length - i∧i≤kvs.length∧Pv i σ H,⟨kvs.length,by simp,Nat.zero_le _,h0⟩,?_⟩
 rintro i m σ H ⟨rfl,hi,p⟩
 have q:=hl i σ H hi p
 by_cases hlt:i < kvs.length
 ·refine .inr ⟨⟨hlt,q⟩,Pv (i + 1),fun σ' H' p'=>⟨kvs.length - (i + 1),by omega,rfl,hlt,p'⟩,fun x H' y=>?_⟩
  obtain ⟨e,y⟩:=y
  subst e
  exact hs i x σ _ y p
 ·have e:i = kvs.length:=by omega
  subst e
  exact .inl ⟨⟨Nat.le_refl _,q⟩,hd σ H p⟩
end
end L2

namespace L2V
open PySem PySem.Spec PyProof.Rows
section
variable {prog:Program} {w:World} {K:Type} [DecidableEq K] {knd:HeapKind prog w K} {A:Around} {E:Value→Shared→Prop} {s:Shared}
theorem setdefH {d a:Addr} {xs:List (K×Addr×Value)} {k:K} {x:Value} {Q:Value→Shared→Prop} (hu:knd.room A) (hkey:knd.is s.heap k a) (hm:s.heap.DictOfH knd d xs)
  (h1:∀ p,atKey xs k = some p→Q p.2 { s with toks:=s.toks + knd.draws k })
  (h2:atKey xs k = none→∀ h',h'.DictOfH knd d (storedH xs k a x)→Heap.SameBut d s.heap h'→Q x { s with heap:=h',toks:=s.toks + knd.draws k })
  (hsz:xs.length≤sizeLine):wpAny (model prog w) A (dictSetDefault d (.ref a) x) Q E s:=by
 obtain ⟨o,es,ep,ho,hc,hd,he,his,hn⟩:=hm
 unfold dictSetDefault
 try with_reducible refine wpAny_holding ?_
 refine wpAny_bind (knd.pyHash hu hkey (wpAny_bind (wpAny_dictFind_heap (s:={ s with toks:=s.toks + knd.draws k }) hu hkey ho hd he his hn ?_ ?_)))
 ·intro hno
  have hat:=atKey_none_of_get hno
  have hnot:=not_mem_keys_of_get hno
  refine wpAny_bind (wpAny_rule (wpAny_bind (wpAny_updateDictKeys (hz:=by have e:=size_of_entries he;omega) (s:={ s with toks:=s.toks + knd.draws k }) ho hd (wpAny_pure (h2 hat _ ⟨_,_,ep + 1,Heap.get?_update_self _ ho (Obj.isFreed_of_dict (Obj.data_mapDictKeys hd _)),hc.mapDictKeys _,Obj.data_mapDictKeys hd _,?_,?_,?_⟩ (Heap.SameBut.update ..))))))
  ·rw [storedH_new hat];simp [he,entryOfKey]
  ·rw [storedH_new hat];intro y hy
   rcases List.mem_append.mp hy with hy | hy
   ·exact knd.keeps (his y hy) ho hd (Heap.SameBut.update ..)
   ·rw [List.mem_singleton.mp hy];exact knd.keeps hkey ho hd (Heap.SameBut.update ..)
  ·rw [storedH_new hat,List.map_append,List.nodup_append]
   refine ⟨hn,by simp,fun y hy z hz e=>hnot ?_⟩
   rw [e,List.mem_singleton.mp hz] at hy;exact hy
 ·intro j p hj
  refine wpAny_bind (wpAny_dictEntries (s:={ s with toks:=s.toks + knd.draws k }) ho hd ?_)
  have e:=entry_at he j
  rw [hj] at e
  rw [e]
  exact wpAny_bind (wpAny_rule (wpAny_pure (h1 p (atKey_of_get hn hj))))
theorem meets_setdefH (d a:Addr) (hd:(d == sysModules) = false) (x:Value):MeetsIn prog w (Builtin.«dict.setdefault» ⟨[.ref d,.ref a,x],[]⟩) (fun A R s=>knd.room A.in1∧∃ k xs,knd.is s.heap k a∧s.heap.DictOfH knd d xs∧xs.length≤sizeLine ∧
  (∀ p,atKey xs k = some p→R (.ok (.ret p.2)) { s with toks:=s.toks + knd.draws k })∧(atKey xs k = none→∀ h',h'.DictOfH knd d (storedH xs k a x)→Heap.SameBut d s.heap h'→R (.ok (.ret x)) { s with heap:=h',toks:=s.toks + knd.draws k })) :=
 .of_wp fun A R s ⟨hu,k,xs,hkey,hm,hz,h1,h2⟩=>by
  unfold Builtin.«dict.setdefault»;refine wpAny_bind ?_;unfold Builtin.Dict.keyAndDefault
  refine wpAny_bind (wpAny_notOrdered_dict hm.typeIs ?_);show wpAny _ _ (pure (d,Value.ref a,some x)) _ _ s
  refine wpAny_pure ?_;show wpAny _ _ (if (d == sysModules) = true then _ else (dictSetDefault d (.ref a) x >>= _)) _ _ s
  rw [if_neg (by rw [hd];decide)]
  exact wpAny_bind (setdefH hu hkey hm (fun p hp=>wpAny_pure ⟨_,rfl,h1 p hp⟩) (fun hn h' hm' hs'=>wpAny_pure ⟨_,rfl,h2 hn h' hm' hs'⟩) hz)
end
section
variable {prog:Program} {w:World} {A:Around} {E:Value→Shared→Prop} {s:Shared}
theorem meets_its (d:Addr) (hd:(d == sysModules) = false):MeetsIn prog w (Builtin.«dict.items» ⟨[.ref d],[]⟩) (fun _ R s=>s.TypeIs (.ref d) "dict"∧R (.ok (.ret (.ref s.heap.objs.size))) { s with heap:=s.heap.push { cls:=.type "dict_items",data:=.fields #[.ref d] } }) :=
 .of_wp fun A R s ⟨hm,h⟩=>by
  unfold Builtin.«dict.items»;refine wpAny_bind ?_;unfold Builtin.Dict.noArgs;refine wpAny_bind (wpAny_notOrdered_dict hm ?_);show wpAny _ _ (pure d) _ _ s;refine wpAny_pure ?_
  show wpAny _ _ (Builtin.Dict.showsAll d >>= _) _ _ s;unfold Builtin.Dict.showsAll;rw [if_neg (by rw [hd];exact Bool.false_ne_true)]
  exact wpAny_bind (wpAny_pure (wpAny_bind (wpAny_newObj_type (wpAny_pure ⟨_,rfl,h⟩))))
theorem iter_its {v d:Addr} {es:Array DictEntry} {ep:Nat} {Q:Value→Shared→Prop} (hv:s.heap.IsItemsView v d) (hm:DE s.heap d es ep)
  (hQ:Q (.ref s.heap.objs.size) { s with heap:=s.heap.push { cls:=.type "dict_itemiterator",data:=.fields #[.none,.bool false,.ref d,.int 0 0,.int es.size 0,.int ep 0,.none,.none] } }):wpAny (model prog w) A (pyIter (.ref v)) Q E s:=by
 obtain ⟨ov,hov,hcv,hdv⟩:=id hv;obtain ⟨o,ho,hdat⟩:=id hm
 refine wpAny_pyIter_slot hv.typeIs F.slot_dict_items_iter (wpAny_call_entry F.slot_dict_items_iter hv.typeIs F.entry_dict_items_iter ?_ (F.args_dict_items_iter_1 _))
 unfold Builtin.«dict_items.__iter__»;refine wpAny_bind (wpAny_pure (wpAny_bind ?_));unfold Builtin.Dict_items.dictOf
 refine wpAny_bind (wpAny_field hov hdv (x:=.ref d) rfl (wpAny_pure (wpAny_bind ?_)));unfold Builtin.Dict_items.newIterator
 refine wpAny_bind (wpAny_dictEntries ho hdat (wpAny_bind (wpAny_dictEpoch ho hdat ?_)))
 have hown:Builtin.Dict_items.ownsTuple "dict_itemiterator" = true:=by decide
 simp only [hown,if_true];refine wpAny_newObj_type (wpAny_pure ⟨_,rfl,"dict_itemiterator",_,⟨_,Heap.get?_push_size _ rfl,rfl⟩,F.slot_dict_itemiterator_next.lookup,?_⟩) (by simp only [sizeOk,Builtin.Dict_items.ownedTupleFields,List.size_toArray,List.length_append,List.length_cons,List.length_nil,sizeLine_eq];omega)
 simpa [rawInt,Builtin.Dict_items.ownedTupleFields] using hQ
theorem next_its {it d:Addr} {i ep:Nat} {es:Array DictEntry} {ok ov:Value} {Q:Option Value→Shared→Prop} (hit:IsItemIter s.heap it d i es.size ep ok ov) (hm:DE s.heap d es ep) (hlt:i < es.size)
  (hQ:∀ h',IsItemIterOut h' it d (i + 1) es.size ep es[i].key es[i].val s.heap.objs.size→h'.get? s.heap.objs.size = some { cls:=.type "tuple",data:=.seq #[es[i].key,es[i].val] }→h'.objs.size = s.heap.objs.size + 1 →
   (∀ b o,b≠it→s.heap.get? b = some o→h'.get? b = some o)→Q (some (.ref s.heap.objs.size)) { s with heap:=h' }):wpAny (model prog w) A (pyNext (.ref it)) Q E s:=by
 obtain ⟨hp,g,dr,tk,os⟩:=s;obtain ⟨od,hod,hdd⟩:=id hm
 have hT:Shared.TypeIs ⟨hp,g,dr,tk,os⟩ (.ref it) "dict_itemiterator":=⟨_,hit,rfl⟩
 unfold pyNext;refine wpAny_bind (wpAny_attempt (wpAny_callSpecial?_slot (name:=Str.ofString "__next__") hT F.slot_dict_itemiterator_next (wpAny_call_entry F.slot_dict_itemiterator_next hT F.entry_dict_itemiterator_next ?_ (F.args_dict_itemiterator_next_1 _))))
 refine wpAny_bind (wpAny_pure (wpAny_bind (wpAny_bind ?_)))
 (first | refine wpAny_bind (wpAny_typeNameOfWhole_itemiter hT (wpAny_pure ?_)) | refine wpAny_bind (wpAny_typeNameOf_itemiter hT (wpAny_pure ?_)));refine wpAny_bind (wpAny_fieldsOf hit rfl ?_)
 have hown:Builtin.Dict_items.ownsTuple "dict_itemiterator" = true:=by decide
 simp only [hown,if_true];show wpAny _ _ (if (Value.ref d == Value.none) = true then _ else _) _ _ _
 rw [if_neg (show ¬ ((Value.ref d == Value.none) = true) from Bool.false_ne_true)];refine wpAny_bind (wpAny_pure (wpAny_bind (wpAny_dictEntries hod hdd ?_)))
 rw [if_neg (by simp)];refine wpAny_bind (wpAny_pure (wpAny_bind (wpAny_dictEpoch hod hdd ?_)));rw [if_neg (by simp)];refine wpAny_pure ?_
 simp only [show ¬ ((i:Int) < 0) from by omega,if_false,Int.toNat_natCast,Array.getElem?_eq_getElem hlt];refine wpAny_bind ?_
 (first | refine wpAny_bind (wpAny_typeNameOfWhole_itemiter hT (wpAny_pure ?_)) | refine wpAny_bind (wpAny_typeNameOf_itemiter hT (wpAny_pure ?_)));refine wpAny_bind (wpAny_isOneOf_itemiter hT ?_)
 show wpAny _ _ (setField (.ref it) 3 (rawInt ((i:Int) + 1)) >>= _) _ _ ⟨hp,g,dr,tk,os⟩;refine wpAny_bind (wpAny_setField_rec hit (by simp) fun h₁ he₁ hs₁=>?_)
 replace hs₁:Heap.SameBut it hp h₁:=hs₁;replace he₁:IsItemIter h₁ it d (i + 1) es.size ep ok ov:=by
  have e:((i + 1:Nat):Int) = (i:Int) + 1:=by omega
  unfold IsItemIter;rw [e];simpa [rawInt] using he₁
 have hT₁:Shared.TypeIs ⟨h₁,g,dr,tk,os⟩ (.ref it) "dict_itemiterator":=⟨_,he₁,rfl⟩
 refine wpAny_bind (wpAny_holding (wpAny_bind (wpAny_isOneOf_itemiter hT₁ (wpAny_bind (wpAny_isOneOf_itemiter hT₁ ?_)))))
 show wpAny _ _ (Builtin.Dict_items.pairFromOwner (.ref it) 6 es[i].key es[i].val) _ _ ⟨h₁,g,dr,tk,os⟩;unfold Builtin.Dict_items.pairFromOwner;refine wpAny_bind (wpAny_newTuple ?_)
 have he₂:IsItemIter (h₁.push { cls:=.type "tuple",data:=.seq #[es[i].key,es[i].val] }) it d (i + 1) es.size ep ok ov:=Heap.get?_push_of_some _ he₁
 generalize hh₂:h₁.push { cls:=.type "tuple",data:=.seq #[es[i].key,es[i].val] } = h₂ at he₂
 have hz₁:h₁.objs.size = hp.objs.size:=hs₁.1;have hil:it < hp.objs.size:=Heap.lt_size hit
 have ht₂:h₂.get? hp.objs.size = some { cls:=.type "tuple",data:=.seq #[es[i].key,es[i].val] }:=by rw [← hh₂,← hz₁];exact Heap.get?_push_size _ rfl
 have hz₂:h₂.objs.size = hp.objs.size + 1:=by rw [← hh₂,Heap.size_push,hz₁]
 have hk₂:∀ b o,b≠it→hp.get? b = some o→h₂.get? b = some o:=fun b o hb e=>by rw [← hh₂];exact Heap.get?_push_of_some _ (hs₁.extBut b o hb e)
 show wpAny _ _ (Builtin.Dict_items.ownedTupleIsFree (.ref it) >>= _) _ _ ⟨h₂,g,dr,tk,os⟩;rw [hz₁];clear hh₂ he₁ hs₁ hT₁ hz₁ h₁
 refine wpAny_bind ?_;unfold Builtin.Dict_items.ownedTupleIsFree;refine wpAny_bind (wpAny_field he₂ rfl (x:=.none) rfl (wpAny_pure ?_))
 simp only [if_true];refine wpAny_bind (wpAny_field he₂ rfl (x:=ok) rfl (wpAny_bind (wpAny_field he₂ rfl (x:=ov) rfl (wpAny_bind (wpAny_setField_rec he₂ (by simp) fun h₃ he₃ hs₃=>?_)))))
 replace hs₃:Heap.SameBut it h₂ h₃:=hs₃;replace he₃:IsItemIter h₃ it d (i + 1) es.size ep es[i].key ov:=he₃
 refine wpAny_bind (wpAny_setField_rec he₃ (by simp) fun h₄ he₄ hs₄=>?_);replace hs₄:Heap.SameBut it h₃ h₄:=hs₄;replace he₄:IsItemIter h₄ it d (i + 1) es.size ep es[i].key es[i].val:=he₄
 refine wpAny_bind (wpAny_setField_rec he₄ (by simp) fun h₅ he₅ hs₅=>?_);replace hs₅:Heap.SameBut it h₄ h₅:=hs₅;replace he₅:IsItemIterOut h₅ it d (i + 1) es.size ep es[i].key es[i].val hp.objs.size:=he₅
 refine wpAny_bind (wpAny_setField_rec he₅ (by simp) fun h₆ he₆ hs₆=>?_);replace hs₆:Heap.SameBut it h₅ h₆:=hs₆;replace he₆:IsItemIterOut h₆ it d (i + 1) es.size ep es[i].key es[i].val hp.objs.size:=he₆
 refine wpAny_bind (wpAny_letGo (wpAny_pure (wpAny_pure ⟨_,rfl,wpAny_pure (hQ h₆ he₆ ?_ ?_ ?_)⟩)))
 ·have n:=Nat.ne_of_gt hil;exact hs₆.extBut _ _ n (hs₅.extBut _ _ n (hs₄.extBut _ _ n (hs₃.extBut _ _ n ht₂)))
 ·show h₆.objs.size = _;rw [hs₆.1,hs₅.1,hs₄.1,hs₃.1,hz₂]
 ·exact fun b o n e=>hs₆.extBut b o n (hs₅.extBut b o n (hs₄.extBut b o n (hs₃.extBut b o n (hk₂ b o n e))))
theorem end_its {it d:Addr} {ep:Nat} {es:Array DictEntry} {ok ov:Value} {Q:Option Value→Shared→Prop} (hh:A.handled = none) (hit:IsItemIter s.heap it d es.size es.size ep ok ov) (hm:DE s.heap d es ep)
  (hQ:∀ h',Heap.ExtBut it s.heap h'→Q none { s with heap:=h' }):wpAny (model prog w) A (pyNext (.ref it)) Q E s:=by
 obtain ⟨od,hod,hdd⟩:=id hm;have hT:s.TypeIs (.ref it) "dict_itemiterator":=⟨_,hit,rfl⟩
 unfold pyNext;refine wpAny_bind (wpAny_attempt (wpAny_callSpecial?_slot (name:=Str.ofString "__next__") hT F.slot_dict_itemiterator_next (wpAny_call_entry F.slot_dict_itemiterator_next hT F.entry_dict_itemiterator_next ?_ (F.args_dict_itemiterator_next_1 _))))
 refine wpAny_bind (wpAny_pure (wpAny_bind (wpAny_bind ?_)))
 (first | refine wpAny_bind (wpAny_typeNameOfWhole_itemiter hT (wpAny_pure ?_)) | refine wpAny_bind (wpAny_typeNameOf_itemiter hT (wpAny_pure ?_)));refine wpAny_bind (wpAny_fieldsOf hit rfl ?_)
 have hown:Builtin.Dict_items.ownsTuple "dict_itemiterator" = true:=by decide
 simp only [hown,if_true];show wpAny _ _ (if (Value.ref d == Value.none) = true then _ else _) _ _ s
 rw [if_neg (show ¬ ((Value.ref d == Value.none) = true) from Bool.false_ne_true)];refine wpAny_bind (wpAny_pure (wpAny_bind (wpAny_dictEntries hod hdd ?_)))
 rw [if_neg (by simp)];refine wpAny_bind (wpAny_pure (wpAny_bind (wpAny_dictEpoch hod hdd ?_)));rw [if_neg (by simp)];refine wpAny_pure ?_
 simp only [show ¬ ((es.size:Int) < 0) from by omega,if_false,Int.toNat_natCast,Array.getElem?_eq_none (Nat.le_refl es.size)];refine wpAny_bind ?_
 (first | refine wpAny_bind (wpAny_typeNameOfWhole_itemiter hT (wpAny_pure ?_)) | refine wpAny_bind (wpAny_typeNameOf_itemiter hT (wpAny_pure ?_)));show wpAny _ _ (setField (.ref it) 2 .none >>= _) _ _ s
 refine wpAny_bind (wpAny_setField hit rfl (by simp) ?_);show wpAny _ _ (newExc (.type "StopIteration") [] >>= _) _ _ _;refine wpAny_bind ?_;simp only [newExc,newTuple]
 refine wpAny_bind (wpAny_newObj_type ?_ (by size_fits));refine wpAny_bind (m:=firstArgMember _ _) (wpAny_of_eq (a:=Value.none) (by first | rfl | (simp only [firstArgMember];rfl)) ?_);refine wpAny_newObj_type ?_ (by size_fits)
 simp only [raiseNew];refine wpAny_bind (wpAny_handled ?_);rw [show A.in1.handled = none from hh];refine wpAny_bind (wpAny_pure (wpAny_throw ?_))
 refine wpAny_bind (wpAny_isInstance (T:="StopIteration") (b:=true) ⟨_,Heap.get?_push_size _ rfl,rfl⟩ isSubtype_stop ?_);exact wpAny_pure (hQ _ (((Heap.SameBut.update ..).extBut.push _).push _))
end
end L2V
namespace L2
open PySem PySem.Spec PyProof.Rows L2V
section
variable {X:Cx} {pins:List (Addr×Obj)} {σ:St} {H:Hp} {s:Shared} {a b:Addr} {kvs:List (List Key×V)} {k:List Key} {r:Value} {A:Around} {E:Value→Shared→Prop}
theorem d_setdefT {x:V} {Q:Value→Shared→Prop} (hu:A.units + 1 < cLine) (I:Inv X pins σ H s) (e:H a = some (.dT kvs)) (eb:H b = some (.tup (k.map kV))) (rv:RelV x r) (l:kvs.length < sizeLine)
  (h1:∀ y w' s',valV kvs k = some y→Inv X pins σ H s'→RelV y w'→Q w' s')
  (h2:∀ s',valV kvs k = none→Inv X pins σ (upd H a (.dT (putK kvs k x))) s'→Q r s'):wpAny (model X.prog X.w) A (call (.builtin "dict.setdefault") [.ref a,.ref b,r]) Q E s:=by
 obtain ⟨z,hd,xs,rel,dd⟩:=dt_of I.hok e
 have hz:xs.length≤sizeLine:=by rw [← Paired.length rel];exact z
 have hl:(putK kvs k x).length≤sizeLine:=by have:=length_putK kvs k x;omega
 have rv0:=rel.val k
 refine call_meetsIn PySem.F.slot_dict_setdefault dd.typeIs PySem.F.entry_dict_setdefault (PySem.F.args_dict_setdefault_3 _ _ _) (meets_setdefH (knd:=tupleKind (mixKind X.prog X.w)) a b hd r)
  ⟨tupleKind_room_in1 hu,k,xs,key_of I.hok eb,dd,hz,fun p hp=>?_,fun hn h' dd' hs=>h2 _ ?_ ?_⟩
 ·cases q:valV kvs k with
  | none=>rw [q,hp] at rv0;exact absurd rv0 (fun z=>nomatch z)
  | some y=>rw [q,hp] at rv0;exact h1 y p.2 _ q (I.tok _) rv0
 ·cases q:valV kvs k with
  | none=>rfl
  | some y=>rw [q,hn] at rv0;exact absurd rv0 (fun z=>nomatch z)
 ·obtain ⟨q,es,ep,hq,g2,g3,g4,_,g5⟩:=dd'
  refine d_write I (by rw [e];exact True.intro) hs ⟨q,hq⟩ ⟨hl,hd,_,(rel.put k eb rv).keeps fun c ys ec=>?_,q,es,ep,hq,g2,g3,g4,g5⟩
  rw [upd_ne (ne_of ec e (fun z=>nomatch z))];exact ec
end
noncomputable def tDSetT (td ty tx:TE):TE:=fun σ H Q=>td σ H fun x H1=>∃ a,x = .ref a∧IsD H1 a∧ty σ H1 fun y H2=>tx σ H2 fun z H3=>∃ kvs k b,H3 a = some (.dT kvs)∧y = .ref b∧H3 b = some (.tup (k.map kV))∧kvs.length < sizeLine ∧
 (∀ v,valV kvs k = some v→Q v H3)∧(valV kvs k = none→Q z (upd H3 a (.dT (putK kvs k z))))
section
variable {X:Cx} {o e f:Expr} {apos cpos:Pos} {td ty tx:TE}
theorem pe_dsetT (hu:X.A.units + 1 < cLine) (ho:PE X o td) (he:PE X e ty) (hf:PE X f tx) (m:M2 X o "setdefault" apos e f cpos):PE X (.Call (.Attribute o "setdefault" apos) [e,f] [] cpos) (tDSetT td ty tx):=by
 intro pins s σ H Q I h
 refine wpAny_Call_method m.base m.few m.line PySem.F.plainAttrs_dict PySem.F.slot_dict_setdefault PySem.F.type_dict_setdefault (thn (ho pins s σ H _ I h) fun u s1 ⟨x,H1,I1,rx,a,ex,d,q1⟩=>?_)
 subst ex
 obtain rfl:u = Value.ref a:=rx
 obtain ⟨t1,t2,_⟩:=isD_at I1 d
 refine ⟨t1,t2,?_⟩
 rw [m.trees]
 refine Calls.callWith_builtin rfl (Calls.evalArgs_plain (Calls.spliced_cons (thn (he pins s1 σ H1 _ I1 q1) fun iv s2 ⟨y,H2,I2,ry,q2⟩ =>
  Calls.spliced_cons (thn (hf pins s2 σ H2 _ I2 q2) fun fv s3 ⟨z,H3,I3,rz,kvs,k,b,ea,ey,eb,el,q3,q4⟩=>Calls.spliced_nil ?_))))
 subst ey
 obtain rfl:iv = Value.ref b:=ry
 exact d_setdefT hu I3 ea eb rz el (fun y w' s4 hy I4 rw'=>⟨y,H3,I4,rw',q3 y hy⟩) fun s4 hn I4=>⟨z,_,I4,rz,q4 hn⟩
end
end L2
namespace L2V
open PySem PySem.Spec PyProof.Rows
theorem entry_ii:entryFor table "dict_itemiterator.__iter__" = some Builtin.«dict_keyiterator.__iter__» :=
 entryFor_alias (id':="dict_keyiterator.__iter__") (by kernel_rfl) rfl (by decide +kernel) (by kernel_rfl)
theorem self_its {prog:Program} {w:World} {A:Around} {E:Value→Shared→Prop} {s:Shared} {it d:Addr} {i n ep:Nat} {ok ov:Value} {Q:Value→Shared→Prop} (hit:IsItemIter s.heap it d i n ep ok ov) (h:Q (.ref it) s):wpAny (model prog w) A (pyIter (.ref it)) Q E s:=by
 have hT:s.TypeIs (.ref it) "dict_itemiterator":=⟨_,hit,rfl⟩
 refine wpAny_pyIter_slot hT F.slot_dict_itemiterator_iter (wpAny_call_entry F.slot_dict_itemiterator_iter hT entry_ii ?_ (F.args_dict_itemiterator_iter_1 _))
 show wpAny _ _ (ret (.ref it)) _ _ s;exact wpAny_pure ⟨_,rfl,"dict_itemiterator",_,hT,F.slot_dict_itemiterator_next.lookup,h⟩
end L2V
namespace L2
open PySem PySem.Spec PyProof.Rows L2V
section
variable {X:Cx} {pins:List (Addr×Obj)} {σ:St} {H:Hp} {s:Shared} {a:Addr}
theorem Inv.frostT (I:Inv X pins σ H s) {kvs:List (List Key×V)} (e:H a = some (.dT kvs)):∃ o es ep,s.heap.get? a = some o∧o.data = .dict es ep∧es.size = kvs.length∧Inv X pins σ (upd H a (.frz o (.dT kvs))) s:=by
 have mu:Mut (H a):=by rw [e];exact True.intro
 obtain ⟨z,lo,xs,rel,o,es,ep,h1,h2,h3,h4,h5⟩:=(show ObjOk X.prog X.w H s.heap a (.dT kvs) from I.hok a _ e)
 have hsz:es.size = kvs.length:=by
  rw [rel.length]
  have:=congrArg List.length h4
  rwa [Array.length_toList,List.length_map] at this
 have keep:∀ c ys,H c = some (.tup ys)→upd H a (.frz o (.dT kvs)) c = some (.tup ys):=fun c ys ec=>by
  rw [upd_ne (ne_of ec e (fun z=>nomatch z))];exact ec
 refine ⟨o,es,ep,h1,h3,hsz,I.write (x:=a) (e:=a) (t':=s.toks) mu (.inl rfl) (fun b q hb z=>z) ⟨o,h1⟩ ⟨h1,z,lo,xs,Paired.mapP rel fun p q y=>⟨y.1,keep _ _ y.2.1,y.2.2⟩,o,es,ep,h1,h2,h3,h4,h5⟩⟩
noncomputable def Iti (d:Addr) (o:Obj) (kvs:List (List Key×V)):It :=
 ⟨fun i H=>i < kvs.length∧H d = some (.frz o (.dT kvs)),fun i H y H'=>∃ t b k v,y = .ref t∧H t = none∧kvs[i]? = some (k,v)∧H b = some (.tup (k.map kV))∧H' = upd H t (.tup [.ref b,v]),fun i H=>kvs.length≤i∧H d = some (.frz o (.dT kvs))⟩
theorem turn_its {P:Program} {w:World} {K:PySem.W.Frag} {elts:List Expr} {x1:Nat} {tp:Pos} (d it:Addr) (o:Obj) (kvs:List (List Key×V)) (es:Array DictEntry) (ep:Nat) (hep:o.data = .dict es ep) (hsz:es.size = kvs.length) :
  Turn P w K (.Tuple elts x1 tp) (Iti d o kvs) [it] it (fun i h=>i≤kvs.length∧∃ ok ov,IsItemIter h it d i kvs.length ep ok ov) where
 mem:=by simp
 obj:=fun i h st b hb=>by
  have e:b = it:=by simpa using hb
  subst e
  obtain ⟨_,ok,ov,e⟩:=st
  exact ⟨_,e,fun v z=>by have z':Data.fields _ = Data.cell v:=z;cases z'⟩
 keep:=fun i h h' st k=>⟨st.1,let ⟨ok,ov,e⟩:=st.2;⟨ok,ov,k it (by simp) _ e⟩⟩
 item:=by
  intro X hP hw hK hc i pins s σ H E I hf st hg
  subst hP hw hK
  obtain ⟨hi,hd⟩:=hg
  obtain ⟨_,ok,ov,hit⟩:=st
  obtain ⟨ho,z,lo,xs,rel,od,es',ep',h1,h2,h3,h4,h5⟩:=(show ObjOk X.prog X.w H s.heap d (.frz o (.dT kvs)) from I.hok d _ hd)
  obtain ⟨f0,f1,f2,f3,f4,f5⟩:=hf it (by simp)
  have e1:od = o:=by rw [ho] at h1;exact (Option.some.inj h1).symm
  have e2:es' = es∧ep' = ep:=by rw [e1,hep] at h3;cases h3;exact ⟨rfl,rfl⟩
  obtain ⟨rfl,rfl⟩:=e2
  have hi2:i < es'.size:=by omega
  have hx:kvs[i]? = some kvs[i]:=List.getElem?_eq_getElem hi
  have hxs:xs[i]? = some (xs[i]'(by rw [← rel.length];exact hi)):=List.getElem?_eq_getElem _
  have pr:=paired_get rel hx hxs
  have ee:es'[i] = entryOfKey (tupleKind (mixKind X.prog X.w)) (xs[i]'(by rw [← rel.length];exact hi)):=by
   have e:=entry_at h4 i
   rw [hxs,Array.getElem?_eq_getElem hi2] at e
   exact Option.some.inj e
  rw [← hsz] at hit
  refine next_its hit ⟨od,h1,h3⟩ hi2 fun h' ho' hT hsz' hk=>?_
  refine ⟨_,rfl,wpAny_letOwnedTupleGo_items (s:={ s with heap:=h' }) ho' fun h'' he'' hs''=>?_⟩
  have hlt:it < s.heap.objs.size:=Heap.lt_size hit
  have k2:∀ b o,b≠it→s.heap.get? b = some o→h''.get? b = some o:=fun b o h1 q=>(hs''.2 b h1).trans (hk b o h1 q)
  have hT2:h''.get? s.heap.objs.size = some { cls:=.type "tuple",data:=.seq #[es'[i].key,es'[i].val] }:=(hs''.2 _ (Nat.ne_of_gt hlt)).trans hT
  have hfr:H s.heap.objs.size = none:=I.hok.fresh (Nat.le_refl _)
  have neT:∀ {b:Addr} {o:Obj},s.heap.get? b = some o→b≠s.heap.objs.size:=fun q=>Nat.ne_of_lt (Heap.lt_size q)
  have trk:∀ {b:Addr} {o:HO},H b = some o→b≠it:=fun q z=>by rw [z,f0] at q;cases q
  have I2:Inv X pins σ (upd H s.heap.objs.size (.tup [.ref (xs[i]'(by rw [← rel.length];exact hi)).2.1,kvs[i].2])) { s with heap:=h'' }:=by
   refine I.step (g':=s.gens) (d':=s.drawn) (t':=s.toks) (ch:=[it]) (fun b hb=>?_) (fun b o _ _ hch q _=>k2 b o (fun z=>hch (by simp [z])) q) (fun b o _ _ hch q _=>⟨o.slots,k2 b o (fun z=>hch (by simp [z])) q⟩)
    (fun b o _ q n=>by rw [upd_ne (neT q)];exact n) (fun b o hch q=>⟨o,k2 b o (fun z=>hch (by simp [z])) q⟩) (fun b ys q=>by rw [upd_ne (ne_of_none q hfr)];exact q) (fun b o ys q=>by rw [upd_ne (ne_of_none q hfr)];exact q)
    (fun b ps q=>⟨#[],by rw [upd_ne (ne_of_none q hfr),q];simp⟩) (fun m hm=>?_) (fun b v q=>?_) I.bare
   ·have e1:b = it:=by simpa using hb
    subst e1;exact ⟨f3,f1,f4,f5⟩
   ·obtain ⟨o,es,ep,ho,r⟩:=hm
    exact ⟨o,es,ep,k2 _ o (Ne.symm f1) ho,r⟩
   ·by_cases hb:b = s.heap.objs.size
    ·subst hb
     rw [upd_same] at q
     cases q
     refine ⟨by show 2≤sizeLine;decide,[es'[i].key,es'[i].val],.cons ?_ (.cons ?_ .nil),_,hT2,rfl,_,rfl⟩
     ·rw [ee];rfl
     ·rw [ee];exact pr.2.2
    ·rw [upd_ne hb] at q
     refine (I.hok b v q).stay (fun c o hc z=>?_) (fun c z=>by rw [upd_ne (ne_of_none z hfr)];exact z) fun c ys z=>by rw [upd_ne (ne_of_none z hfr)];exact z
     rcases hc with rfl | hc
     ·exact k2 c o (trk q) z
     ·exact k2 c o (trk hc) z
  refine ⟨.ref s.heap.objs.size,_,I2,rfl,⟨_,_,kvs[i].1,kvs[i].2,rfl,hfr,hx,?_,rfl⟩,⟨hi,?_⟩,fun b hb=>?_⟩
  ·exact pr.2.1
  ·rw [← hsz];exact ⟨_,_,he''⟩
  ·have e1:b = it:=by simpa using hb
   subst e1
   rw [upd_ne (Nat.ne_of_lt hlt)];exact f0
 done:=by
  intro X hP hw hK hc i pins s σ H E I hf st hg
  subst hP hw hK
  obtain ⟨hi,hd⟩:=hg
  obtain ⟨hle,ok,ov,hit⟩:=st
  obtain ⟨ho,_⟩:=(show ObjOk X.prog X.w H s.heap d (.frz o (.dT kvs)) from I.hok d _ hd)
  obtain ⟨f0,f1,f2,f3,f4,f5⟩:=hf it (by simp)
  have e3:i = es.size:=by omega
  rw [← hsz,e3] at hit
  exact end_its (I.ok.hd hc) hit ⟨o,ho,hep⟩ fun h' eb=>⟨rfl,I.turned (t':=s.toks) (fun b o hb e=>eb b o hb e) f0 f1 f3 f4 f5⟩
 self:=fun _ _ _ _ _ st h=>let ⟨_,_,e⟩:=st.2;self_its e h
end
section
variable {X:Cx}
noncomputable def iIts (to:TE):TI:=fun σ H R=>to σ H fun v H1=>∃ d kvs,v = .ref d∧H1 d = some (.dT kvs)∧∀ o,R (Iti d o kvs) (upd H1 d (.frz o (.dT kvs)))
theorem pi_its {o:Expr} {elts:List Expr} {x1:Nat} {tp:Pos} {to:TE} {pos' ap:Pos} (ho:PE X o to) (hbase:attributeBase o "items" X.env (eval o X.env) = eval o X.env:=by rfl) (hline:(ap.endLine == pos'.line) = true:=by rfl) :
  PI X (.Tuple elts x1 tp) (.Call (.Attribute o "items" ap) [] [] pos') (iIts to):=by
 intro pins s σ H R I h
 refine wpAny_Call_method0_late hbase hline (thn (ho pins s σ H _ I h) fun v s1 ⟨x,H1,I1,r1,d,kvs,ex,hd,q⟩=>?_)
 subst ex
 obtain ⟨h1,h2⟩:=tyV_is (T:="dict") I1 r1 (.inr (.inr (.inl ⟨rfl,.inr ⟨kvs,hd⟩⟩)))
 cases (show v = Value.ref d from r1)
 obtain ⟨ob,es,ep,hob,hdat,hsz,I2⟩:=I1.frostT hd
 obtain ⟨z,lo,_⟩:=dt_of I1.hok hd
 refine ⟨"dict","dict.items",PySem.F.plainAttrs_dict,PySem.F.slot_dict_items,PySem.F.type_dict_items,h1,h2,Calls.callWith_builtin rfl (PySem.evalArgs_none ?_)⟩
 refine call_meetsIn PySem.F.slot_dict_items h1 PySem.F.entry_dict_items (PySem.F.args_dict_items_1 _) (meets_its d lo) ⟨h1,?_⟩
 have hv:(s1.heap.push { cls:=.type "dict_items",data:=.fields #[.ref d] }).IsItemsView s1.heap.objs.size d:=⟨_,Heap.get?_push_size _ rfl,rfl,rfl⟩
 refine iter_its (s:={ s1 with heap:=s1.heap.push { cls:=.type "dict_items",data:=.fields #[.ref d] } }) hv ⟨ob,Heap.get?_push_of_some _ hob,hdat⟩ ?_
 have I3:Inv X pins σ (upd H1 d (.frz ob (.dT kvs))) { s1 with heap:=s1.heap.push { cls:=.type "dict_items",data:=.fields #[.ref d] } }:=I2.kept (t':=s1.toks) fun b o e=>Heap.get?_push_of_some _ e
 refine ⟨_,[_],_,_,_,rfl,I3.kept (t':=s1.toks) fun b o e=>Heap.get?_push_of_some _ e,turn_its d _ ob kvs es ep hdat hsz,⟨Nat.zero_le _,?_⟩,fun b hb=>?_,q ob⟩
 ·rw [← hsz]
  exact ⟨_,_,Heap.get?_push_size _ rfl⟩
 ·have e:=List.mem_singleton.mp hb
  subst e
  exact I3.fpOk (Nat.le_refl _) (I3.hok.fresh (Nat.le_refl _))
theorem comp_its {d:Addr} {o:Obj} {kvs:List (List Key×V)} {g:TG} {tt:TT} {te:TE} {D:Addr} {Q:VK} {σ₀:St} {H₀:Hp} (Pv:Nat→St→Hp→Prop) (h0:Pv 0 σ₀ H₀) (hl:∀ i σ H,i≤kvs.length→Pv i σ H→H d = some (.frz o (.dT kvs)))
  (hs:∀ i t b k v σ H,kvs[i]? = some (k,v)→Pv i σ H→H t = none→H b = some (.tup (k.map kV))→g (.ref t) σ (upd H t (.tup [.ref b,v])) fun σ3 H3=>tt σ3 H3 fun b H4=>if b = true then te σ3 H4 fun v H5=>∃ ys,H5 D = some (.lst ys)∧ys.length < sizeLine∧Pv (i + 1) σ3 (upd H5 D (.lst (ys ++ [v]))) else Pv (i + 1) σ3 H4)
  (hd:∀ σ H,Pv kvs.length σ H→Q (.ref D) H):CompW (Iti d o kvs) g tt te D Q σ₀ H₀:=by
 refine ⟨fun i m σ H=>m = kvs.length - i∧i≤kvs.length∧Pv i σ H,⟨kvs.length,by simp,Nat.zero_le _,h0⟩,?_⟩
 rintro i m σ H ⟨rfl,hi,p⟩
 have q:=hl i σ H hi p
 by_cases hlt:i < kvs.length
 ·refine .inr ⟨⟨hlt,q⟩,Pv (i + 1),fun σ' H' p'=>⟨kvs.length - (i + 1),by omega,rfl,hlt,p'⟩,fun x H' y=>?_⟩
  obtain ⟨t,b,k,v,e,hn,hx,hb,e2⟩:=y
  subst e e2
  exact hs i t b k v σ _ hx p hn hb
 ·have e:i = kvs.length:=by omega
  subst e
  exact .inl ⟨⟨Nat.le_refl _,q⟩,hd σ H p⟩
end
end L2

namespace NK
open PySem PySem.Spec PyProof.Rows L2
noncomputable abbrev Itm:=Sum Key (List Key)
section
variable {P:Program} {w:World}
noncomputable def ItIs (P:Program) (w:World) (h:Heap):Itm→Value→Prop
 | .inl k,v=>(mixKind P w).is k v = true
 | .inr ks,v=>∃ b,v = .ref b∧IsTupleKey (mixKind P w) h ks b
inductive Its (P:Program) (w:World) (h:Heap):List Itm→List Value→Prop
 | nil:Its P w h [] []
 | cons {k:Itm} {v:Value} {ks:List Itm} {vs:List Value}:ItIs P w h k v→Its P w h ks vs→Its P w h (k :: ks) (v :: vs)
noncomputable def Is2 (P:Program) (w:World) (h:Heap) (ks:List Itm) (a:Addr):Prop:=∃ o items n,h.get? a = some o∧o.cls = .type "tuple"∧o.data = .seq items n∧Its P w h ks items.toList
theorem key_ref {k:Key} {b:Addr}:(mixKind P w).is k (.ref b) = true→False:=fun h=>by
 rcases keyIs_shape h with ⟨_,_,_,e⟩ | ⟨_,_,_,e⟩ <;> exact nomatch e
theorem ItIs.inj {h:Heap} {x y:Itm} {v:Value} (hx:ItIs P w h x v) (hy:ItIs P w h y v):x = y:=by
 cases x with
 | inl k=>cases y with
  | inl l=>exact congrArg Sum.inl ((mixKind P w).inj _ _ _ hx hy)
  | inr l=>obtain ⟨b,e,_⟩:=hy;subst e;exact (key_ref hx).elim
 | inr k=>cases y with
  | inl l=>obtain ⟨b,e,_⟩:=hx;subst e;exact (key_ref hy).elim
  | inr l=>obtain ⟨b,e,q⟩:=hx;obtain ⟨b',e',q'⟩:=hy;subst e;cases e';exact congrArg Sum.inr (q.inj q')
theorem Its.inj {h:Heap} {x y:List Itm} {vs:List Value} (hx:Its P w h x vs) (hy:Its P w h y vs):x = y:=by
 induction hx generalizing y with
 | nil=>cases hy;rfl
 | cons h1 _ ih =>
  cases hy with
  | cons h2 t2=>rw [h1.inj h2,ih t2]
theorem Is2.typeIs {s:Shared} {ks:List Itm} {a:Addr} (x:Is2 P w s.heap ks a):s.TypeIs (.ref a) "tuple":=let ⟨o,_,_,ho,hc,_⟩:=x;⟨o,ho,hc⟩
theorem Is2.inj {h:Heap} {a:Addr} {x y:List Itm} (hx:Is2 P w h x a) (hy:Is2 P w h y a):x = y:=by
 obtain ⟨o,items,n,ho,_,hd,hi⟩:=hx
 obtain ⟨o',items',n',ho',_,hd',hi'⟩:=hy
 obtain rfl:o = o':=Option.some.inj (ho.symm.trans ho')
 rw [hd] at hd'
 injection hd' with h1 _
 subst h1
 exact hi.inj hi'
theorem Is2.keeps {h h':Heap} {ks:List Itm} {a d:Addr} {o:Obj} {es ep} (x:Is2 P w h ks a) (ho:h.get? d = some o) (hd:o.data = .dict es ep) (hs:Heap.SameBut d h h'):Is2 P w h' ks a:=by
 obtain ⟨o',items,n,ho',hc,hd',hi⟩:=x
 have hne:a≠d:=by
  rintro rfl
  obtain rfl:o' = o:=Option.some.inj (ho'.symm.trans ho)
  rw [hd] at hd';exact nomatch hd'
 refine ⟨o',items,n,(hs.2 a hne).trans ho',hc,hd',?_⟩
 clear hd' ho' hc
 generalize items.toList = vs at hi
 induction hi with
 | nil=>exact .nil
 | @cons k v ks vs h1 _ ih =>
  refine .cons ?_ ih
  cases k with
  | inl k=>exact h1
  | inr k=>obtain ⟨b,e,q⟩:=h1;exact ⟨b,e,q.keeps ho hd hs⟩
noncomputable def itH (P:Program) (w:World):Itm→Int
 | .inl k=>(mixKind P w).hash k
 | .inr ks=>tupleKeyHash (mixKind P w) ks
noncomputable def itD:Itm→Nat
 | .inl _=>1
 | .inr ks=>ks.length + 1
noncomputable def hash2 (P:Program) (w:World) (ks:List Itm):Int:=reduceHash (Builtin.Tuple.tupleHashOf (ks.map (itH P w)))
noncomputable def draws2 (ks:List Itm):Nat:=(ks.map itD).sum + 1
variable {A:Around} {E:Value→Shared→Prop} {s:Shared}
theorem it_hash {k:Itm} {v:Value} {Q:Int→Shared→Prop} (hu:A.units < cLine) (hk:ItIs P w s.heap k v) (h:Q (itH P w k) { s with toks:=s.toks + itD k }):wpAny (model P w) A (pyHash v) Q E s:=by
 cases k with
 | inl k=>exact (mixKind P w).pyHash hk h
 | inr k=>obtain ⟨b,e,q⟩:=hk;subst e;exact wpAny_pyHash_tuple hu q h
theorem hash_of2 {ks:List Itm} {a:Addr} {Q:Int→Shared→Prop} (hu:A.units + 1 < cLine) (hk:Is2 P w s.heap ks a) (h:Q (hash2 P w ks) { s with toks:=s.toks + draws2 ks }) :
  wpAny (model P w) A (pyHash (.ref a)) Q E s:=by
 have hT:=hk.typeIs
 obtain ⟨o,items,n,ho,_,hd,hi⟩:=hk
 unfold pyHash
 first | unfold pyHashByItsType | skip
 first | refine wpAny_bind (wpAny_cRoomFor_or (.inr (by omega)) ?_) | skip
 refine wpAny_bind (wpAny_specialOf hT F.slot_tuple_hash.lookup ?_)
 show wpAny _ _ (if (some (Value.builtin "tuple.__hash__") == some Value.none) = true then _ else _) Q E s
 rw [if_neg (by rw [beq_builtin_none];exact Bool.false_ne_true)]
 refine wpAny_bind (wpAny_specialOf hT F.slot_tuple_hash.lookup ?_)
 show wpAny _ _ (callSpecialIfBoundUnlessNone? (.ref a) "__hash__" _ >>= _) Q E s
 refine wpAny_bind (wpAny_callSpecialIfBoundUnlessNone?_slot hT F.slot_tuple_hash (wpAny_call_entry F.slot_tuple_hash hT F.entry_tuple_hash ?_ (F.args_tuple_hash_1 _)))
 show wpAny _ _ (Builtin.Tuple.tupleItemsOf (.ref a) >>= _) _ _ s
 refine wpAny_bind (wpAny_tupleItemsOf ho hd ?_)
 refine wpAny_bind ?_
 rw [← Array.forIn_toList]
 refine wpAny_forIn_list _
  (fun rest (b:Array Int) s'=>∃ done left,ks = done ++ left∧Its P w s.heap left rest∧b.toList = done.map (itH P w)∧s' = { s with toks:=s.toks + (done.map itD).sum })
  _ ?_ ?_ _ _ ⟨[],ks,rfl,hi,rfl,rfl⟩
 ·rintro x rest b s' ⟨done,left,rfl,hl,hb,rfl⟩
  cases hl with
  | @cons k _ ks' _ h1 hl' =>
   refine wpAny_bind (it_hash (k:=k) (by first | exact hu | (simp only [Around.in1];omega) | (show A.units + 1 < cLine;omega)) h1 ?_)
   first
    | exact wpAny_pure ⟨done ++ [k],ks',by simp,hl',by simp [hb],by simp [Nat.add_assoc]⟩
    | exact wpAny_bind (wpAny_pure (wpAny_pure ⟨done ++ [k],ks',by simp,hl',by simp [hb],by simp [Nat.add_assoc]⟩))
 ·rintro b s' ⟨done,left,rfl,hl,hb,rfl⟩
  cases hl
  rw [List.append_nil] at h
  show wpAny _ _ (retInt (Builtin.Tuple.tupleHashOf b.toList)) _ _ _
  rw [hb]
  refine wpAny_ret_mkInt ?_
  show wpAny _ _ (if (decide (-(2:Int) ^ 63≤Builtin.Tuple.tupleHashOf (done.map (itH P w))) && decide (Builtin.Tuple.tupleHashOf (done.map (itH P w)) < 2 ^ 63)) = true then _ else _) Q E _
  unfold hash2 reduceHash draws2 at h
  by_cases hr:(decide (-(2:Int) ^ 63≤Builtin.Tuple.tupleHashOf (done.map (itH P w))) && decide (Builtin.Tuple.tupleHashOf (done.map (itH P w)) < 2 ^ 63)) = true
  ·rw [if_pos hr]
   rw [if_pos hr] at h
   exact wpAny_pure (by simpa [Nat.add_assoc] using h)
  ·rw [if_neg hr]
   rw [if_neg hr] at h
   exact wpAny_bind (wpAny_rule (wpAny_pure (by simpa [Nat.add_assoc] using h)))
theorem isTuple_of {s:Shared} {ks:List Key} {b:Addr} (q:IsTupleKey (mixKind P w) s.heap ks b):∃ items,s.heap.IsTuple b items:=by
 obtain ⟨o,items,n,ho,hc,hd,_⟩:=q
 exact ⟨items,o,ho,hc,n,hd⟩
theorem it_eq {x y:Itm} {u v:Value} {Q:Bool→Shared→Prop} (hu:A.units < cLine) (hx:ItIs P w s.heap x u) (hy:ItIs P w s.heap y v) (h:Q (decide (x = y)) s):wpAny (model P w) A (eqBool u v) Q E s:=by
 cases x with
 | inl k=>cases y with
  | inl l =>
   refine (mixKind P w).eqBool (a:=k) (b:=l) hx hy ?_
   by_cases e:k = l
   ·subst e;simpa using h
   ·rw [decide_eq_false e];rwa [decide_eq_false (fun z=>e (Sum.inl.inj z))] at h
  | inr l =>
   obtain ⟨b,e,q⟩:=hy;subst e
   obtain ⟨items,ht⟩:=isTuple_of q
   rw [decide_eq_false (fun z=>nomatch z)] at h
   rcases keyIs_shape hx with ⟨i,t,_,e⟩ | ⟨i,t,_,e⟩ <;> subst e
   ·exact PySem.SeqAt.EqAt.int_tuple i t ht hu P w E Q h
   ·exact PySem.SeqAt.EqAt.str_tuple i t ht hu P w E Q h
 | inr k=>cases y with
  | inl l =>
   obtain ⟨b,e,q⟩:=hx;subst e
   obtain ⟨items,ht⟩:=isTuple_of q
   rw [decide_eq_false (fun z=>nomatch z)] at h
   rcases keyIs_shape hy with ⟨i,t,_,e⟩ | ⟨i,t,_,e⟩ <;> subst e
   ·exact PySem.SeqAt.EqAt.tuple_int i t ht hu P w E Q h
   ·exact PySem.SeqAt.EqAt.tuple_str i t ht hu P w E Q h
  | inr l =>
   obtain ⟨b,e,q⟩:=hx;subst e
   obtain ⟨b',e',q'⟩:=hy;subst e'
   refine wpAny_eqBool_tuple hu q q' ?_
   by_cases e:k = l
   ·subst e;simpa using h
   ·rw [decide_eq_false e];rwa [decide_eq_false (fun z=>e (Sum.inr.inj z))] at h
theorem eq_tree2 {x y:List Itm} {a b:Addr} {R:Fin→Shared→Prop} (hu:A.units < cLine) (hx:Is2 P w s.heap x a) (hy:Is2 P w s.heap y b) (h:R (.done (.ret (.bool (decide (x = y))))) s) :
  wpAny (model P w) A (Builtin.«tuple.__eq__» ⟨[.ref a,.ref b],[]⟩) R E s:=by
 have hTb:=hy.typeIs
 obtain ⟨oa,xs,na,hoa,_,hda,hia⟩:=hx
 obtain ⟨ob,ys,nb,hob,_,hdb,hib⟩:=hy
 show wpAny _ _ (isInstance (.ref b) (.type "tuple") >>= _) _ _ s
 refine wpAny_bind (wpAny_isInstance hTb isSubtype_tuple_tuple ?_)
 simp only [Bool.not_true,Bool.false_eq_true,if_false]
 refine wpAny_bind (wpAny_tupleItemsOf hoa hda ?_)
 refine wpAny_bind (wpAny_tupleItemsOf hob hdb ?_)
 refine wpAny_bind ?_
 refine wpAny_forIn_list _
  (fun rest r s'=>r.1 = none∧s' = s∧∃ x' y' xs' ys',rest = List.zip xs' ys'∧Its P w s.heap x' xs'∧Its P w s.heap y' ys'∧decide (x' = y') = decide (x = y)∧(xs'.length == ys'.length) = (xs.size == ys.size))
  _ ?_ ?_ _ _ ⟨rfl,rfl,x,y,xs.toList,ys.toList,rfl,hia,hib,rfl,by simp⟩
 ·rintro ⟨u,v⟩ rest r s' ⟨hr,rfl,x',y',xs',ys',hz,hx',hy',hdec,hlen⟩
  cases hx' with
  | nil=>simp at hz
  | @cons k1 u' x'' xs'' h1 hx'' =>
   cases hy' with
   | nil=>simp at hz
   | @cons k2 v' y'' ys'' h2 hy'' =>
    simp only [List.zip_cons_cons,List.cons.injEq,Prod.mk.injEq] at hz
    obtain ⟨⟨rfl,rfl⟩,rfl⟩:=hz
    refine wpAny_bind (it_eq (x:=k1) (y:=k2) hu h1 h2 ?_)
    by_cases hk:k1 = k2
    ·subst hk
     rw [decide_eq_true rfl]
     simp only [Bool.not_true,Bool.false_eq_true,if_false]
     refine wpAny_pure ⟨rfl,rfl,x'',y'',xs'',ys'',rfl,hx'',hy'',?_,by simpa using hlen⟩
     rw [← hdec]
     by_cases hxy:x'' = y''
     ·simp [hxy]
     ·simp [hxy]
    ·rw [decide_eq_false hk]
     simp only [Bool.not_false,if_true]
     have hf:decide (x = y) = false:=by rw [← hdec];simp [hk]
     rw [hf] at h
     exact wpAny_bind (wpAny_pure (wpAny_pure (wpAny_pure h)))
 ·rintro ⟨r1,r2⟩ s' ⟨hr,rfl,x',y',xs',ys',hz,hx',hy',hdec,hlen⟩
  simp only at hr
  subst hr
  refine wpAny_pure ?_
  have hfin:(xs.size == ys.size) = decide (x = y):=by
   rw [← hdec,← hlen]
   cases hx' with
   | nil =>
    cases hy' with
    | nil=>simp
    | cons _ _=>simp
   | cons _ _ =>
    cases hy' with
    | nil=>simp
    | cons _ _=>simp at hz
  show R (.done (.ret (.bool (xs.size == ys.size)))) s'
  rw [hfin];exact h
theorem eq_of2 {x y:List Itm} {a b:Addr} {Q:Bool→Shared→Prop} (hu:A.units + 1 < cLine) (hx:Is2 P w s.heap x a) (hy:Is2 P w s.heap y b) (h:Q (decide (x = y)) s) :
  wpAny (model P w) A (eqBool (.ref a) (.ref b)) Q E s:=by
 unfold eqBool
 try with_reducible refine wpAny_holding ?_
 show wpAny _ _ (if (Value.ref a == Value.ref b) = true then _ else _) Q E s
 by_cases hab:(Value.ref a == Value.ref b) = true
 ·rw [if_pos hab]
  have e:a = b:=by have:=eq_of_beq hab;injection this
  subst e
  obtain rfl:=hx.inj hy
  exact wpAny_bind (wpAny_rule (wpAny_pure (by simpa using h)))
 ·rw [if_neg hab]
  exact wpAny_bind (wpAny_richCompare_same_room (op:=.Eq) hx.typeIs hy.typeIs F.slot_tuple_eq
   (wpAny_call_entry F.slot_tuple_eq hx.typeIs F.entry_tuple_eq (eq_tree2 (by first | exact hu | (show A.units + 1 < cLine;omega)) hx hy ⟨_,rfl,(fun e=>nomatch e),wpAny_truthy_bool h⟩) (F.args_tuple_eq_2 _ _)) (by omega))
theorem quiet_t (n:Nat) {ks:List Key} {a:Addr} {Q:Bool→Shared→Prop} (hk:IsTupleKey (mixKind P w) s.heap ks a) (h:Q true s):wpAny (model P w) A (eqIsQuiet (n + 1) (.ref a)) Q E s:=by
 have hT:=hk.typeIs
 obtain ⟨o,items,n,ho,_,hd,hi⟩:=hk
 unfold eqIsQuiet
 refine wpAny_bind (wpAny_specialOf hT F.slot_tuple_eq.lookup ?_)
 show wpAny _ _ (isInstance (.ref a) (.type "tuple") >>= _) _ _ s
 refine wpAny_bind (wpAny_isInstance hT isSubtype_tuple_tuple ?_)
 simp only [Bool.not_true,Bool.false_eq_true,if_false]
 refine wpAny_bind (wpAny_seqItems ho hd ?_)
 refine wpAny_bind ?_
 show wpAny _ _ (forIn items _ _) _ _ s
 rw [← Array.forIn_toList]
 refine wpAny_forIn_list _ (fun rest r s'=>r.1 = none∧s' = s∧∀ v∈rest,carriedByValue v = true) _ ?_ ?_ _ _ ⟨rfl,rfl,hi.byValue⟩
 ·rintro v rest r s' ⟨hr,rfl,hall⟩
  rw [eqIsQuiet_byValue _ (hall v List.mem_cons_self)]
  refine wpAny_bind (wpAny_pure ?_)
  simp only [Bool.not_true,Bool.false_eq_true,if_false]
  exact wpAny_pure ⟨rfl,rfl,fun u hu'=>hall u (List.mem_cons_of_mem _ hu')⟩
 ·rintro ⟨r1,r2⟩ s' ⟨hr,rfl,_⟩
  simp only at hr
  subst hr
  exact wpAny_pure h
theorem quiet_of2 {ks:List Itm} {a:Addr} {Q:Bool→Shared→Prop} (hk:Is2 P w s.heap ks a) (h:Q true s):wpAny (model P w) A (eqIsQuiet 8 (.ref a)) Q E s:=by
 have hT:=hk.typeIs
 obtain ⟨o,items,n,ho,_,hd,hi⟩:=hk
 unfold eqIsQuiet
 refine wpAny_bind (wpAny_specialOf hT F.slot_tuple_eq.lookup ?_)
 show wpAny _ _ (isInstance (.ref a) (.type "tuple") >>= _) _ _ s
 refine wpAny_bind (wpAny_isInstance hT isSubtype_tuple_tuple ?_)
 simp only [Bool.not_true,Bool.false_eq_true,if_false]
 refine wpAny_bind (wpAny_seqItems ho hd ?_)
 refine wpAny_bind ?_
 show wpAny _ _ (forIn items _ _) _ _ s
 rw [← Array.forIn_toList]
 refine wpAny_forIn_list _ (fun rest r s'=>r.1 = none∧s' = s∧∃ ks,Its P w s.heap ks rest) _ ?_ ?_ _ _ ⟨rfl,rfl,ks,hi⟩
 ·rintro v rest r s' ⟨hr,rfl,ks',hall⟩
  cases hall with
  | @cons k _ ks'' _ h1 hl' =>
   have go:wpAny (model P w) A (eqIsQuiet 7 v) (fun b s2=>b = true∧s2 = s') E s':=by
    cases k with
    | inl k=>rw [eqIsQuiet_byValue _ ((mixKind P w).byValue _ _ h1)];exact wpAny_pure ⟨rfl,rfl⟩
    | inr k=>obtain ⟨b,e,q⟩:=h1;subst e;exact quiet_t 6 q ⟨rfl,rfl⟩
   refine wpAny_bind (thn go fun b s2 ⟨eb,es⟩=>?_)
   subst eb es
   simp only [Bool.not_true,Bool.false_eq_true,if_false]
   exact wpAny_pure ⟨rfl,rfl,ks'',hl'⟩
 ·rintro ⟨r1,r2⟩ s' ⟨hr,rfl,_⟩
  simp only at hr
  subst hr
  exact wpAny_pure h
end
noncomputable def t2Kind (P:Program) (w:World):HeapKind P w (List Itm) where
 is:=Is2 P w
 hash:=hash2 P w
 draws:=draws2
 room:=fun A=>A.units + 1 < cLine
 inj:=fun hx hy=>hx.inj hy
 keeps:=fun x ho hd hs=>x.keeps ho hd hs
 pyHash:=fun hu hk h=>hash_of2 hu hk h
 eqBool:=fun hu hx hy h=>eq_of2 hu hx hy h
 quiet:=fun hk h=>quiet_of2 hk h
end NK

namespace NK
open PySem PySem.Spec PyProof.Rows L2
noncomputable abbrev Ent:=List Itm×Addr×V
noncomputable def val2 (kvs:List Ent) (k:List Itm):Option V:=(kvs.find? fun x=>decide (x.1 = k)).map (·.2.2)
noncomputable def put2 (kvs:List Ent) (k:List Itm) (b:Addr) (v:V):List Ent:=if (val2 kvs k).isSome then kvs.map (fun x=>if x.1 = k then (x.1,x.2.1,v) else x) else kvs ++ [(k,b,v)]
noncomputable def RE:Ent→List Itm×Addr×Value→Prop:=fun p q=>p.1 = q.1∧p.2.1 = q.2.1∧RelV p.2.2 q.2.2
theorem re_val {kvs:List Ent} {xs:List (List Itm×Addr×Value)} (r:Paired RE kvs xs) (k:List Itm):RelO (val2 kvs k) ((atKey xs k).map (·.2)):=by
 induction r with
 | nil=>exact True.intro
 | @cons p q ps qs h t ih =>
  unfold val2 atKey
  rw [List.find?_cons,List.find?_cons,← h.1]
  by_cases e:p.1 = k
  ·rw [decide_eq_true e];exact h.2.2
  ·rw [decide_eq_false e];exact ih
theorem re_put {kvs:List Ent} {xs:List (List Itm×Addr×Value)} (r:Paired RE kvs xs) (k:List Itm) (b:Addr) {v:V} {u:Value} (rv:RelV v u):Paired RE (put2 kvs k b v) (storedH xs k b u):=by
 have q:=(re_val r k).isSome_eq
 rw [Option.isSome_map] at q
 unfold put2 storedH
 rw [q]
 by_cases e:(atKey xs k).isSome = true
 ·rw [if_pos e,if_pos e]
  clear q e
  induction r with
  | nil=>exact .nil
  | @cons p q ps qs h t ih =>
   refine .cons ?_ ih
   unfold putAt
   dsimp only
   by_cases e:p.1 = k
   ·rw [if_pos e,if_pos (h.1 ▸ e)];exact ⟨h.1,h.2.1,rv⟩
   ·rw [if_neg e,if_neg (h.1 ▸ e)];exact h
 ·rw [if_neg e,if_neg e]
  clear q e
  induction r with
  | nil=>exact .cons ⟨rfl,rfl,rv⟩ .nil
  | cons h t ih=>exact .cons h ih
theorem put2_len (kvs:List Ent) (k:List Itm) (b:Addr) (v:V):(put2 kvs k b v).length≤kvs.length + 1:=by
 unfold put2;split <;> simp
noncomputable def d2P (P:Program) (w:World) (a:Addr) (kvs:List Ent):Heap→Prop:=fun h=>kvs.length≤sizeLine∧(a == sysModules) = false∧∃ xs,Paired RE kvs xs ∧
 ∃ o es ep,h.get? a = some o∧o.ExactDict∧o.data = .dict es ep∧es.toList = xs.map (entryOfKey (t2Kind P w))∧(xs.map (·.1)).Nodup
noncomputable def d2O (P:Program) (w:World) (a:Addr) (kvs:List Ent):HO:=.ext (d2P P w a kvs)
theorem d2P.ok {P:Program} {w:World} {a:Addr} {kvs:List Ent} {H:Hp} {h:Heap} (q:d2P P w a kvs h):ObjOk P w H h a (d2O P w a kvs):=by
 refine ⟨q,?_,fun h1 h2 q1 g=>?_⟩
 ·obtain ⟨_,_,_,_,o,_,_,ho,_⟩:=q;exact ⟨o,ho⟩
 ·obtain ⟨z,y,xs,r,o,es,ep,ho,t⟩:=q1
  exact ⟨z,y,xs,r,o,es,ep,g o ho,t⟩
noncomputable def IV (H:Hp):Itm→V→Prop
 | .inl k,v=>v = kV k
 | .inr l,v=>∃ c,v = .ref c∧H c = some (.tup (l.map kV))
noncomputable def K2 (H:Hp) (k:List Itm) (b:Addr):Prop:=∃ vs,H b = some (.tup vs)∧Paired (IV H) k vs
noncomputable def D2 (P:Program) (w:World) (H:Hp) (a:Addr) (kvs:List Ent):Prop:=H a = some (d2O P w a kvs)∧∀ p∈kvs,K2 H p.1 p.2.1
theorem K2.keep {H H':Hp} {k:List Itm} {b:Addr} (q:K2 H k b) (g:∀ c ys,H c = some (.tup ys)→H' c = some (.tup ys)):K2 H' k b:=by
 obtain ⟨vs,e,r⟩:=q
 refine ⟨vs,g _ _ e,Paired.mapP r fun k v=>?_⟩
 cases k with
 | inl k=>exact id
 | inr l=>exact fun ⟨c,e,q⟩=>⟨c,e,g _ _ q⟩
theorem D2.keep {P:Program} {w:World} {H H':Hp} {a:Addr} {kvs:List Ent} (d:D2 P w H a kvs) (e:H' a = H a) (g:∀ c ys,H c = some (.tup ys)→H' c = some (.tup ys)):D2 P w H' a kvs :=
 ⟨e.trans d.1,fun p hp=>(d.2 p hp).keep g⟩
section
variable {P:Program} {w:World} {H:Hp} {h:Heap} {a b:Addr}
theorem k2_is {k:List Itm} (ok:HOk P w H h) (q:K2 H k b):Is2 P w h k b:=by
 obtain ⟨vs,e,r⟩:=q
 obtain ⟨hL,its,rr,o,h1,h2,n,h3⟩:=(show ObjOk P w H h b (.tup vs) from ok b _ e)
 refine ⟨o,its.toArray,n,h1,h2,h3,?_⟩
 clear hL
 show Its P w h k its
 clear h3 h1 h2 e
 induction r generalizing its with
 | nil=>cases rr;exact .nil
 | @cons k v ks vs hk t ih =>
  cases rr with
  | cons hv tv =>
   refine .cons ?_ (ih _ tv)
   cases k with
   | inl k=>cases (show v = kV k from hk);exact kV_is hv
   | inr l=>obtain ⟨c,e,q⟩:=hk;subst e;exact ⟨c,hv,key_of ok q⟩
theorem d2_of {kvs:List Ent} (ok:HOk P w H h) (d:D2 P w H a kvs):kvs.length≤sizeLine∧(a == sysModules) = false∧∃ xs,Paired RE kvs xs∧h.DictOfH (t2Kind P w) a xs:=by
 obtain ⟨⟨z,y,xs,r,o,es,ep,h1,h2,h3,h4,h5⟩,_⟩:=(show ObjOk P w H h a (d2O P w a kvs) from ok a _ d.1)
 refine ⟨z,y,xs,r,o,es,ep,h1,h2,h3,h4,?_,h5⟩
 have all:∀ {l:List Ent} {m:List (List Itm×Addr×Value)},Paired RE l m→(∀ p∈l,K2 H p.1 p.2.1)→∀ x∈m,Is2 P w h x.1 x.2.1:=by
  intro l m q
  induction q with
  | nil=>intro _ x hx;exact nomatch hx
  | @cons p q ps qs hq t ih =>
   intro g x hx
   rcases List.mem_cons.mp hx with e | hx
   ·subst e
    rw [← hq.1,← hq.2.1]
    exact k2_is ok (g p List.mem_cons_self)
   ·exact ih (fun p hp=>g p (List.mem_cons_of_mem _ hp)) x hx
 exact all r d.2
end
section
variable {X:Cx} {pins:List (Addr×Obj)} {σ:L2.St} {H:Hp} {s:Shared} {a b:Addr} {kvs:List Ent} {k:List Itm} {v:V} {u r:Value} {A:Around} {E:Value→Shared→Prop}
theorem room_in1 (hu:A.units + 2 < cLine):(t2Kind X.prog X.w).room A.in1:=show A.in1.units + 1 < cLine from by show A.units + 1 + 1 < cLine;omega
theorem d2_getItem {Q:Value→Shared→Prop} (hu:A.units + 2 < cLine) (I:Inv X pins σ H s) (d:D2 X.prog X.w H a kvs) (hk:K2 H k b) (l:val2 kvs k = some v) (h:∀ w' s',Inv X pins σ H s'→RelV v w'→Q w' s') :
  wpAny (model X.prog X.w) A (getItem (.ref a) (.ref b)) Q E s:=by
 obtain ⟨z,hd,xs,rel,dd⟩:=d2_of I.hok d
 obtain ⟨w',hw,rw'⟩:=RelO.some_of (v:=v) (o:=(atKey xs k).map (·.2)) (by rw [← l];exact re_val rel k)
 obtain ⟨p,hp,hp2⟩:=Option.map_eq_some_iff.mp hw
 refine wpAny_getItem_heap (knd:=t2Kind X.prog X.w) (room_in1 hu) (k2_is I.hok hk) dd hp ?_
 rw [hp2]
 exact h w' _ (I.tok _) rw'
theorem d2_setItem {Q:Unit→Shared→Prop} (hu:A.units + 2 < cLine) (I:Inv X pins σ H s) (d:D2 X.prog X.w H a kvs) (hk:K2 H k b) (hl:kvs.length < sizeLine) (rv:RelV v r)
  (h:∀ s',Inv X pins σ (upd H a (d2O X.prog X.w a (put2 kvs k b v))) s'→Q () s'):wpAny (model X.prog X.w) A (setItem (.ref a) (.ref b) r) Q E s:=by
 obtain ⟨z,hd,xs,rel,dd⟩:=d2_of I.hok d
 have hz:xs.length≤sizeLine:=by rw [← Paired.length rel];exact z
 have hl':(put2 kvs k b v).length≤sizeLine:=by have:=put2_len kvs k b v;omega
 refine wpAny_setItem_heap (knd:=t2Kind X.prog X.w) (hsz:=hz) (room_in1 hu) (k2_is I.hok hk) dd fun h' dd' hs=>h _ ?_
 obtain ⟨q,es,ep,hq,h2,h3,h4,_,h5⟩:=dd'
 exact d_write I (by rw [d.1];exact True.intro) hs ⟨q,hq⟩ (d2P.ok ⟨hl',hd,_,re_put rel k b rv,q,es,ep,hq,h2,h3,h4,h5⟩)
theorem D2.put {P:Program} {w:World} {H:Hp} {a b:Addr} {kvs:List Ent} {k:List Itm} {v:V} (d:D2 P w H a kvs) (hk:K2 H k b):D2 P w (upd H a (d2O P w a (put2 kvs k b v))) a (put2 kvs k b v):=by
 have g:∀ c ys,H c = some (.tup ys)→upd H a (d2O P w a (put2 kvs k b v)) c = some (.tup ys):=fun c ys e=>by
  rw [upd_ne (fun z=>by rw [z,d.1] at e;cases e)];exact e
 refine ⟨upd_same,fun p hp=>?_⟩
 unfold put2 at hp
 split at hp
 ·obtain ⟨q,hq,e⟩:=List.mem_map.mp hp
  have kq:=(d.2 q hq).keep g
  by_cases z:q.1 = k
  ·rw [if_pos z] at e;subst e;exact kq
  ·rw [if_neg z] at e;subst e;exact kq
 ·rcases List.mem_append.mp hp with hp | hp
  ·exact (d.2 p hp).keep g
  ·rw [List.mem_singleton.mp hp];exact hk.keep g
end
theorem d2_dict {X:Cx} {pins:List (Addr×Obj)} {σ:L2.St} {H:Hp} {s:Shared} {a:Addr} {kvs:List Ent} (I:Inv X pins σ H s) (d:D2 X.prog X.w H a kvs):s.TypeIs (.ref a) "dict":=by
 obtain ⟨_,_,xs,_,dd⟩:=d2_of I.hok d
 exact dd.typeIs
noncomputable def t2New (P:Program) (w:World):TE:=fun _ H Q=>∀ p,H p = none→Q (.ref p) (upd H p (d2O P w p []))
noncomputable def t2Get (P:Program) (w:World) (td ty:TE):TE:=fun σ H Q=>td σ H fun x H1=>ty σ H1 fun y H2=>∃ a b kvs k v,x = .ref a∧y = .ref b∧D2 P w H2 a kvs∧K2 H2 k b∧val2 kvs k = some v∧Q v H2
noncomputable def s2Put (P:Program) (w:World) (td ty tv:TE):TS:=fun D σ H=>tv σ H fun v H1=>td σ H1 fun x H2=>ty σ H2 fun y H3=>∃ a b kvs k,x = .ref a∧y = .ref b∧D2 P w H3 a kvs∧K2 H3 k b∧kvs.length < sizeLine∧D.nx σ (upd H3 a (d2O P w a (put2 kvs k b v)))
section
variable {X:Cx} {o i e value:Expr} {pos pos' tpos:Pos} {td ty tv:TE}
theorem pe_2new:PE X (.Dict [] [] pos) (t2New X.prog X.w):=fun pins s σ H Q I h =>
 wpAny_Dict_empty ⟨.ref s.heap.objs.size,_,I.laid (a:=s.heap.objs.size) (o:=d2O X.prog X.w s.heap.objs.size []) (t':=s.toks) (fun _ _ q=>Heap.get?_push_of_some _ q) (Nat.le_refl _)
  (d2P.ok ⟨Nat.zero_le _,beq_eq_false_iff_ne.mpr (Ne.symm (Nat.ne_of_lt I.big)),[],.nil,_,#[],0,Heap.get?_push_size _ rfl,⟨rfl,rfl,rfl⟩,rfl,rfl,List.nodup_nil⟩),rfl,h _ (I.hok.fresh (Nat.le_refl _))⟩
theorem pe_2get (hu:X.A.units + 2 < cLine) (ho:PE X o td) (hi:PE X i ty) (hs:NoSl i):PE X (.Subscript o i pos) (t2Get X.prog X.w td ty):=by
 intro pins s σ H Q I h
 refine subD_of PySem.F.slot_dict_getitem.lookup hs (thn (ho pins s σ H _ I h) fun u s1 ⟨x,H1,I1,rx,q1⟩=>thn (hi pins s1 σ H1 _ I1 q1) fun iv s2 ⟨y,H2,I2,ry,a,b,kvs,k,v,ex,ey,d,hk,l,q2⟩=>?_)
 subst ex ey
 obtain rfl:u = Value.ref a:=rx
 obtain rfl:iv = Value.ref b:=ry
 exact ⟨d2_dict I2 d,d2_getItem hu I2 d hk l fun w' s3 I3 rw'=>⟨v,H2,I3,rw',q2⟩⟩
theorem ps_2put (hu:X.A.units + 2 < cLine) (ho:PE X o td) (hi:PE X i ty) (hv:PE X value tv) (hs:swapsWith value (some (.Subscript o i pos')) pos.line X.env = pure false) :
  PS X (.Assign [.Subscript o i pos'] value pos) (s2Put X.prog X.w td ty tv):=by
 intro pins s σ H D I h
 refine wpAny_Assign_Subscript (thn (hv pins s σ H _ I h) fun r s1 ⟨v,H1,I1,rv,q1⟩=>thn (ho pins s1 σ H1 _ I1 q1) fun u s2 ⟨x,H2,I2,rx,q2⟩=>thn (hi pins s2 σ H2 _ I2 q2) fun iv s3 ⟨y,H3,I3,ry,a,b,kvs,k,ex,ey,d,hk,l,q3⟩=>?_) hs
 subst ex ey
 obtain rfl:u = Value.ref a:=rx
 obtain rfl:iv = Value.ref b:=ry
 exact d2_setItem hu I3 d hk l rv fun s4 I4=>⟨σ,_,I4,q3⟩
end
end NK

namespace L2V
open PySem PySem.Spec PyProof.Rows PySem.W
noncomputable def DEx (h:Heap) (d:Addr) (es:Array DictEntry) (ep:Nat):Prop:=∃ o,h.get? d = some o∧o.cls = .type "dict"∧o.data = .dict es ep
section
variable {prog:Program} {w:World} {A:Around} {E:Value→Shared→Prop} {s:Shared}
theorem DEx.typeIs {d:Addr} {es:Array DictEntry} {ep:Nat} (x:DEx s.heap d es ep):s.TypeIs (.ref d) "dict":=let ⟨o,ho,hc,_⟩:=x;⟨o,ho,hc⟩
theorem iter_keys {d:Addr} {es:Array DictEntry} {ep:Nat} {Q:Value→Shared→Prop} (hd:(d == sysModules) = false) (hm:DEx s.heap d es ep)
  (hQ:Q (.ref s.heap.objs.size) { s with heap:=s.heap.push { cls:=.type "dict_keyiterator",data:=.fields #[.ref d,.int 0 0,.int es.size 0,.int ep 0] } }):wpAny (model prog w) A (pyIter (.ref d)) Q E s:=by
 obtain ⟨o,ho,hc,hdat⟩:=id hm
 have hT:=hm.typeIs
 refine wpAny_pyIter_slot hT F.slot_dict_iter (wpAny_call_entry F.slot_dict_iter hT F.entry_dict_iter ?_ (F.args_dict_iter_1 _))
 unfold Builtin.«dict.__iter__»;refine wpAny_bind ?_;unfold Builtin.Dict.dictSlotNone;refine wpAny_bind (wpAny_notOrdered_dict hT ?_)
 show wpAny _ _ (pure (Value.ref d)) _ _ s;refine wpAny_pure ?_;show wpAny _ _ (Builtin.Dict.showsAll d >>= _) _ _ s;unfold Builtin.Dict.showsAll
 rw [if_neg (by rw [hd];exact Bool.false_ne_true)];refine wpAny_bind (wpAny_pure (wpAny_bind (wpAny_dictEntries ho hdat (wpAny_bind (wpAny_dictEpoch ho hdat ?_)))))
 refine wpAny_bind (wpAny_newObj_type (wpAny_pure ⟨_,rfl,"dict_keyiterator",_,⟨_,Heap.get?_push_size _ rfl,rfl⟩,F.slot_dict_keyiterator_next.lookup,?_⟩))
 simpa [rawInt] using hQ
theorem next_keys {it d:Addr} {i ep:Nat} {es:Array DictEntry} {Q:Option Value→Shared→Prop} (hit:s.heap.IsKeyIter it d i es.size ep) (hm:DEx s.heap d es ep) (hlt:i < es.size)
  (hQ:∀ h',h'.IsKeyIter it d (i + 1) es.size ep→Heap.SameBut it s.heap h'→Q (some es[i].key) { s with heap:=h' }):wpAny (model prog w) A (pyNext (.ref it)) Q E s:=by
 obtain ⟨o,ho,hc,hd⟩:=id hit
 obtain ⟨od,hod,hcd,hdd⟩:=id hm
 unfold pyNext
 refine wpAny_bind (wpAny_attempt (wpAny_callSpecial?_slot (name:=Str.ofString "__next__") hit.typeIs F.slot_dict_keyiterator_next (wpAny_call_entry F.slot_dict_keyiterator_next hit.typeIs F.entry_dict_keyiterator_next ?_ (F.args_dict_keyiterator_next_1 _))))
 refine wpAny_bind (wpAny_pure (wpAny_bind (wpAny_bind ?_)))
 (first | refine wpAny_bind (wpAny_typeNameOfWhole_keyiter hit.typeIs (wpAny_pure ?_)) | refine wpAny_bind (wpAny_typeNameOf_keyiter hit.typeIs (wpAny_pure ?_)));refine wpAny_bind (wpAny_fieldsOf ho hd ?_)
 have hown:Builtin.Dict_items.ownsTuple "dict_keyiterator" = false:=by decide
 simp only [hown,Bool.false_eq_true,if_false];show wpAny _ _ (if (Value.ref d == Value.none) = true then _ else _) _ _ s
 rw [if_neg (show ¬ ((Value.ref d == Value.none) = true) from Bool.false_ne_true)];refine wpAny_bind (wpAny_pure (wpAny_bind (wpAny_dictEntries hod hdd ?_)))
 rw [if_neg (by simp)];refine wpAny_bind (wpAny_pure (wpAny_bind (wpAny_dictEpoch hod hdd ?_)));rw [if_neg (by simp)];refine wpAny_pure ?_
 simp only [show ¬ ((i:Int) < 0) from by omega,if_false,Int.toNat_natCast,Array.getElem?_eq_getElem hlt];refine wpAny_bind ?_
 (first | refine wpAny_bind (wpAny_typeNameOfWhole_keyiter hit.typeIs (wpAny_pure ?_)) | refine wpAny_bind (wpAny_typeNameOf_keyiter hit.typeIs (wpAny_pure ?_)));refine wpAny_bind (wpAny_isOneOf_keyiter hit.typeIs ?_)
 show wpAny _ _ (setField (.ref it) 1 (rawInt ((i:Int) + 1)) >>= _) _ _ s;refine wpAny_bind (wpAny_setField ho hd (by simp) ?_)
 have hit':(s.heap.update it (Obj.mapFields (·.setIfInBounds 1 (rawInt ((i:Int) + 1))))).IsKeyIter it d (i + 1) es.size ep:=⟨_,Heap.get?_update_self _ ho (Obj.isFreed_of_fields (Obj.data_mapFields hd _)),(Obj.cls_mapFields ..).trans hc,by rw [Obj.data_mapFields hd];simp [rawInt]⟩
 refine wpAny_bind (wpAny_holding ?_);refine wpAny_bind (wpAny_isOneOf_keyiter (s:={ s with heap:=s.heap.update it (Obj.mapFields (·.setIfInBounds 1 (rawInt ((i:Int) + 1)))) }) hit'.typeIs ?_)
 show wpAny _ _ (pure es[i].key) _ _ _;exact wpAny_pure (wpAny_pure ⟨_,rfl,wpAny_pure (hQ _ hit' (Heap.SameBut.update ..))⟩)
theorem end_keys {it d:Addr} {ep:Nat} {es:Array DictEntry} {Q:Option Value→Shared→Prop} (hh:A.handled = none) (hit:s.heap.IsKeyIter it d es.size es.size ep) (hm:DEx s.heap d es ep)
  (hQ:∀ h',Heap.ExtBut it s.heap h'→Q none { s with heap:=h' }):wpAny (model prog w) A (pyNext (.ref it)) Q E s:=by
 obtain ⟨o,ho,hc,hd⟩:=id hit
 obtain ⟨od,hod,hcd,hdd⟩:=id hm
 unfold pyNext
 refine wpAny_bind (wpAny_attempt (wpAny_callSpecial?_slot (name:=Str.ofString "__next__") hit.typeIs F.slot_dict_keyiterator_next (wpAny_call_entry F.slot_dict_keyiterator_next hit.typeIs F.entry_dict_keyiterator_next ?_ (F.args_dict_keyiterator_next_1 _))))
 refine wpAny_bind (wpAny_pure (wpAny_bind (wpAny_bind ?_)))
 (first | refine wpAny_bind (wpAny_typeNameOfWhole_keyiter hit.typeIs (wpAny_pure ?_)) | refine wpAny_bind (wpAny_typeNameOf_keyiter hit.typeIs (wpAny_pure ?_)));refine wpAny_bind (wpAny_fieldsOf ho hd ?_)
 have hown:Builtin.Dict_items.ownsTuple "dict_keyiterator" = false:=by decide
 simp only [hown,Bool.false_eq_true,if_false];show wpAny _ _ (if (Value.ref d == Value.none) = true then _ else _) _ _ s
 rw [if_neg (show ¬ ((Value.ref d == Value.none) = true) from Bool.false_ne_true)];refine wpAny_bind (wpAny_pure (wpAny_bind (wpAny_dictEntries hod hdd ?_)))
 rw [if_neg (by simp)];refine wpAny_bind (wpAny_pure (wpAny_bind (wpAny_dictEpoch hod hdd ?_)));rw [if_neg (by simp)];refine wpAny_pure ?_
 simp only [show ¬ ((es.size:Int) < 0) from by omega,if_false,Int.toNat_natCast,Array.getElem?_eq_none (Nat.le_refl es.size)];refine wpAny_bind ?_
 (first | refine wpAny_bind (wpAny_typeNameOfWhole_keyiter hit.typeIs (wpAny_pure ?_)) | refine wpAny_bind (wpAny_typeNameOf_keyiter hit.typeIs (wpAny_pure ?_)));show wpAny _ _ (setField (.ref it) 0 .none >>= _) _ _ s
 refine wpAny_bind (wpAny_setField ho hd (by simp) ?_);show wpAny _ _ (newExc (.type "StopIteration") [] >>= _) _ _ _;refine wpAny_bind ?_;simp only [newExc,newTuple]
 refine wpAny_bind (wpAny_newObj_type ?_ (by size_fits));refine wpAny_bind (m:=firstArgMember _ _) (wpAny_of_eq (a:=Value.none) (by first | rfl | (simp only [firstArgMember];rfl)) ?_);refine wpAny_newObj_type ?_ (by size_fits)
 simp only [raiseNew];refine wpAny_bind (wpAny_handled ?_);rw [show A.in1.handled = none from hh];refine wpAny_bind (wpAny_pure (wpAny_throw ?_))
 refine wpAny_bind (wpAny_isInstance (T:="StopIteration") (b:=true) ⟨_,Heap.get?_push_size _ rfl,rfl⟩ isSubtype_stop ?_);exact wpAny_pure (hQ _ (((Heap.SameBut.update ..).extBut.push _).push _))
end
theorem walks_keys {prog:Program} {w:World} {A:Around} (hh:A.handled = none) (I d:Addr) (hne:d≠I) (es:Array DictEntry) (ep:Nat) :
  Walks prog w A I [I,d] [I] es.size (fun i v=>∃ h:i < es.size,v = es[i].key) (fun i h=>h.IsKeyIter I d i es.size ep∧DEx h d es ep) where
 sub:=fun b hb=>by simp at hb;simp [hb]
 frame:=fun _ _ _ st hk=>⟨st.1.at fun o e=>hk I (by simp) o e,let ⟨o,ho,r⟩:=st.2;⟨o,hk d (by simp) o ho,r⟩⟩
 item:=fun i s Q E hi st hQ=>by
  refine next_keys st.1 st.2 hi fun h' hit' hs'=>?_
  exact hQ _ h' s.toks ⟨hi,rfl⟩ ⟨hit',let ⟨o,ho,r⟩:=st.2;⟨o,hs'.extBut d o hne ho,r⟩⟩ fun b o hb e=>hs'.extBut b o (fun h=>hb (by simp [h])) e
 done:=fun s Q E st hQ=>end_keys hh st.1 st.2 fun h' he'=>hQ h' s.toks fun b o hb e=>he' b o (fun h=>hb (by simp [h])) e
 self:=fun _ _ _ _ st hQ=>wpAny_pyIter_keyiter st.1 hQ
theorem src_keys {prog:Program} {w:World} {d:Addr} {es:Array DictEntry} {ep:Nat} (lo:(d == sysModules) = false):KdlSrc prog w "dict" d d es.size (fun i v=>∃ h:i < es.size,v = es[i].key) (fun h=>DEx h d es ep) where
 type:=fun _ hm=>hm.typeIs
 there:=fun _ ⟨_,ho,_⟩=>⟨Heap.lt_size ho,Heap.lt_size ho⟩
 keep:=fun _ _ ⟨o,ho,r⟩ hk=>⟨o,hk d (.inl rfl) o ho,r⟩
 notList:=by decide
 notTuple:=by decide
 hint:=fun _ _ _ _ hm hq=>kdl_hint_dict hm.typeIs hq
 iter:=fun _ _ hh hm=>⟨_,_,(fun _ _ hq=>iter_keys lo hm hq),walks_keys hh _ d (let ⟨_,ho,_⟩:=hm;Nat.ne_of_lt (Heap.lt_size ho)) es ep,⟨⟨_,Heap.get?_push_size _ rfl,rfl,rfl⟩,let ⟨o,ho,r⟩:=hm;⟨o,Heap.get?_push_of_some _ ho,r⟩⟩⟩
end L2V
namespace L2
open PySem PySem.Spec PyProof.Rows L2V PySem.W
variable {X:Cx}
theorem call_list_dt (hc:X.calm = true):CallR X (.type "list") (fun xs H Q=>∃ (d:Addr) (kvs:List (List Key×V)),xs = [.ref d]∧H d = some (.dT kvs)∧∀ (l:Addr) (bs:List Addr),H l = none→bs.length = kvs.length→(∀ (i:Nat) (b:Addr) (k:List Key) (v:V),bs[i]? = some b→kvs[i]? = some (k,v)→H b = some (.tup (k.map kV)))→Q (.ref l) (upd H l (.lst (bs.map V.ref)))):=by
 intro pins s σ H xs us Q I r h
 obtain ⟨d,kvs,rfl,hd,q⟩:=h
 obtain ⟨u,rfl,ru⟩:=r.one
 cases ru
 obtain ⟨z,lo,xs,rel,o,es,ep,h1,h2,h3,h4,h5⟩:=(show ObjOk X.prog X.w H s.heap d (.dT kvs) from I.hok d _ hd)
 have hsz:es.size = kvs.length:=by
  rw [Paired.length rel]
  have:=congrArg List.length h4
  rwa [Array.length_toList,List.length_map] at this
 refine kdl_call (src_keys (prog:=X.prog) (w:=X.w) (es:=es) (ep:=ep) lo) (I.ok.hd hc) ⟨o,h1,h2.1,h3⟩ (by rw [hsz];exact z) fun h' tk acc' c' hk hS' hacc=>?_
 have hx:xs.length = kvs.length:=(Paired.length rel).symm
 refine ⟨.ref _,_,I.laid (a:=s.heap.objs.size) (o:=.lst ((xs.map (·.2.1)).map V.ref)) (t':=tk) hk (Nat.le_refl _) ⟨by rw [List.length_map,List.length_map,hx];exact z,acc'.toList,c',?_,by simpa using hS'⟩,rfl,q _ (xs.map (·.2.1)) (I.hok.fresh (Nat.le_refl _)) (by rw [List.length_map];exact hx) fun i b k v e1 e2=>?_⟩
 ·refine vals_of_get (by rw [List.length_map,List.length_map,hx,← hsz];exact (by simpa using hacc.1.symm)) fun i x v e6 e7=>?_
  obtain ⟨hi,ev⟩:=hacc.2 i v (by simpa using e7)
  rw [List.getElem?_map,List.getElem?_map] at e6
  obtain ⟨y,e8,e9⟩:=Option.map_eq_some_iff.mp e6
  obtain ⟨p,e10,e11⟩:=Option.map_eq_some_iff.mp e8
  have e12:es.toList[i]? = some (entryOfKey (tupleKind (mixKind X.prog X.w)) p):=by rw [h4,List.getElem?_map,e10];rfl
  have e13:es.toList[i]? = some es[i]:=by rw [Array.getElem?_toList];exact Array.getElem?_eq_getElem hi
  rw [e13] at e12
  have e14:=Option.some.inj e12
  rw [ev,e14,← e9,← e11]
  exact rfl
 ·rw [List.getElem?_map] at e1
  obtain ⟨p,e10,e11⟩:=Option.map_eq_some_iff.mp e1
  have z:=paired_get rel e2 e10
  rw [← e11]
  exact z.2.1
end L2

namespace L2
open PySem PySem.Spec PyProof.Rows
section
variable {X:Cx}
theorem op_eq_intsD (hu:X.A.units < cLine):OpR X (compareOp .Eq) (fun x y H Q=>∃ (a b:Addr) (ns ms:List Int),x = .ref a∧y = .ref b∧SqL X.K H a (ns.map V.int)∧SqL X.K H b (ms.map V.int)∧ns.length = ms.length∧Q (.bl (decide (ns = ms))) H):=by
 intro pins s σ H x y v u Q I rx ry h
 obtain ⟨a,b,ns,ms,rfl,rfl,ha,hb,hl,q⟩:=h
 cases rx
 cases ry
 obtain ⟨i1,r1,p1,z1⟩:=I.list ha
 obtain ⟨i2,r2,p2,z2⟩:=I.list hb
 have l1:ns.length = i1.length:=by have z:=r1.length;rwa [List.length_map] at z
 have l2:ms.length = i2.length:=by have z:=r2.length;rwa [List.length_map] at z
 refine SeqAt.eq_listAt (e:=fun j=>ns.getD j 0 == ms.getD j 0) p1.isList p2.isList (by simp only [List.size_toArray];omega) hu (fun j h1 h2=>?_) ⟨.bl (decide (ns = ms)),H,I,?_,q⟩
 ·have hj:j < ns.length:=by simp only [List.size_toArray] at h1;omega
  have hj2:j < ms.length:=by omega
  obtain ⟨x1,e1,t1⟩:=vals_at r1 h1
  obtain ⟨x2,e2,t2⟩:=vals_at r2 h2
  rw [List.getElem?_map,List.getElem?_eq_getElem hj] at e1
  rw [List.getElem?_map,List.getElem?_eq_getElem hj2] at e2
  obtain rfl:=Option.some.inj e1
  obtain rfl:=Option.some.inj e2
  obtain ⟨k1,q1⟩:=t1
  obtain ⟨k2,q2⟩:=t2
  rw [q1,q2]
  have g1:ns.getD j 0 = ns[j]:=by simp [List.getD,List.getElem?_eq_getElem hj]
  have g2:ms.getD j 0 = ms[j]:=by simp [List.getD,List.getElem?_eq_getElem hj2]
  rw [g1,g2]
  exact SeqAt.EqAt.int_int (A:=X.A.in1) (s:=s) ns[j] k1 ms[j] k2
 ·show Value.bool _ = Value.bool _
  congr 1
  by_cases c:ns = ms
  ·subst c
   rw [decide_eq_true rfl]
   exact List.all_eq_true.mpr fun _ _=>beq_self_eq_true _
  ·rw [decide_eq_false c]
   refine Bool.eq_false_iff.mpr fun z=>c ?_
   refine List.ext_getElem hl fun j q1 q2=>?_
   have z2:=List.all_eq_true.mp z j (List.mem_range.mpr (by rw [List.size_toArray];omega))
   have g1:ns.getD j 0 = ns[j]:=by simp [List.getD,List.getElem?_eq_getElem q1]
   have g2:ms.getD j 0 = ms[j]:=by simp [List.getD,List.getElem?_eq_getElem q2]
   rw [← g1,← g2]
   exact eq_of_beq z2
end
end L2

namespace L2
open PySem PySem.Spec PyProof.Rows
theorem bb_max:bootBuiltins "max" = some (.builtin "max"):=by decide +kernel
end L2
namespace L2
open PySem PySem.Spec PyProof.Rows
section
variable {X:Cx} {a b c d:Expr} {ta tb tc td:TE} {pos:Pos}
noncomputable def tChain3 (r r' r3:R2) (ta tb tc td:TE):TE:=fun σ H Q=>ta σ H fun x H1=>tb σ H1 fun y H2=>r x y H2 fun z H3=>∃ k,z = .bl k ∧
 (if k = true then tc σ H3 fun y' H4=>r' y y' H4 fun z' H5=>∃ k',z' = .bl k'∧(if k' = true then td σ H5 fun x' H6=>r3 y' x' H6 Q else Q (.bl false) H5) else Q (.bl false) H3)
theorem pt_chain3 {op op' op3:CmpOp} {r r' r3:R2} (ho:OpR X (compareOp op) r) (ho':OpR X (compareOp op') r') (ho3:OpR X (compareOp op3) r3) (ha:PE X a ta) (hb:PE X b tb) (hc:PE X c tc) (hd:PE X d td)
  (hm:lastMarks [op,op',op3] [b,c,d] = false:=by with_unfolding_all rfl):PT X (.Compare a [op,op',op3] [b,c,d] pos) (tTest (tChain3 r r' r3 ta tb tc td)):=by
 intro pins s σ H Q I h
 refine isTrue_chain (thn (ha pins s σ H _ I h) fun v s1 ⟨x,H1,I1,r1,q1⟩=>test_link (thn (hb pins s1 σ H1 _ I1 q1) fun u s2 ⟨y,H2,I2,r2,q2⟩ =>
  thn (ho pins s2 σ H2 x y v u _ I2 r1 r2 q2) fun d s3 ⟨z,H3,I3,r3,k,e,q3⟩=>?_)) hm
 subst e
 cases r3
 refine wpAny_truthy_bool ?_
 cases k with
 | false =>
  obtain ⟨k',e',q'⟩:=q3
  cases e'
  exact ite_ff ⟨H3,I3,q'⟩
 | true =>
  refine ite_tt (test_link (thn (hc pins s3 σ H3 _ I3 q3) fun w' s4 ⟨z',H4,I4,r4,q4⟩=>thn (ho' pins s4 σ H4 y z' u w' _ I4 r2 r4 q4) fun d' s5 ⟨z2,H5,I5,r5,k2,e2,q5⟩=>?_))
  subst e2
  cases r5
  refine wpAny_truthy_bool ?_
  cases k2 with
  | false =>
   obtain ⟨k',e',q'⟩:=q5
   cases e'
   exact ite_ff ⟨H5,I5,q'⟩
  | true =>
   refine ite_tt (test_last (thn (hd pins s5 σ H5 _ I5 q5) fun x5 s6 ⟨z5,H6,I6,r6,q6⟩=>thn (ho3 pins s6 σ H6 z' z5 w' x5 _ I6 r4 r6 q6) fun d3 s7 ⟨z7,H7,I7,r7,k7,e7,q7⟩=>?_))
   subst e7
   cases r7
   exact wpAny_truthy_bool ⟨H7,I7,q7⟩
end
end L2

namespace L2E
open PySem AutoSeq1 MeetsSeq
theorem tuple_addW0 (l b:Addr) (items items2:Array Value) (n n2:Nat) (dd dd2:Option Addr) (sl sl2:Array (Option Value)) (hc0:items.isEmpty = true) :
  Meets (Builtin.«tuple.__add__» ⟨[.ref l,.ref b],[]⟩) (fun _ R s=>s.heap.get? l = some { cls:=.type "tuple",dict:=dd,data:=.seq items n,slots:=sl }∧s.heap.get? b = some { cls:=.type "tuple",dict:=dd2,data:=.seq items2 n2,slots:=sl2 }∧R (.ok (.ret (Value.ref b))) s) :=
 .of_wp fun prog w A R s h=>by obtain ⟨hp,g,d,tk,os⟩:=s;obtain ⟨hl,hb,h⟩:=h;have f1:=idx_int;have f2:=sub_tuple_tuple;have f3:=sub_list_list;have f4:=sub_tuple_list;have f5:=sub_list_tuple;wp_walk using wpAny_loadPart' hl,wpAny_loadPart' hb;exact ⟨_,rfl,h⟩
end L2E
namespace L2
open PySem PySem.Spec PyProof.Rows
section
variable {X:Cx}
noncomputable def rCatT2 (K:PySem.W.Frag):R2:=fun x y H Q=>∃ a b xs ys,x = .ref a∧y = .ref b∧SqT K H a xs∧SqT K H b ys∧ys≠[]∧xs.length + ys.length≤sizeLine ∧
 (xs = []→Q (.ref b) H)∧(xs≠[]→∀ p,H p = none→Q (.ref p) (upd H p (.tup (xs ++ ys))))
theorem op_catT2:OpR X (binaryOp .Add) (rCatT2 X.K):=by
 intro pins s σ H x y v u Q I rx ry h
 obtain ⟨a,b,xs,ys,ex,ey,ha,hb,hy,hz,q1,q2⟩:=h
 by_cases hx:xs = []
 ·subst ex ey
  cases rx
  cases ry
  obtain ⟨its,r1,p1,_⟩:=I.tuple ha
  obtain ⟨its2,r2,p2,_⟩:=I.tuple hb
  obtain ⟨⟨cls,dd,data,sl⟩,ho,hc,n,hd⟩:=id p1
  obtain ⟨⟨cls2,dd2,data2,sl2⟩,ho2,hc2,n2,hd2⟩:=id p2
  simp only at hc hd hc2 hd2
  subst hc hd hc2 hd2
  have e:its = []:=r1.nil_iff.mpr hx
  exact concat_meets ⟨_,ho,rfl⟩ ⟨_,ho2,rfl⟩ noFill_tuple_add seq_tuple_add PySem.F.slot_tuple_add PySem.F.entry_tuple_add (PySem.F.args_tuple_add_2 _ _)
   (L2E.tuple_addW0 a b its.toArray its2.toArray n n2 dd dd2 sl sl2 (by rw [e];rfl)) ⟨ho,ho2,⟨.ref b,H,I,rfl,q1 hx⟩⟩
 ·exact op_catT pins s σ H x y v u Q I rx ry ⟨a,b,xs,ys,ex,ey,ha,hb,hx,hz,fun z=>absurd z hy,fun _=>q2 hx⟩
end
end L2

namespace Mir
open PySem L2

theorem take_snoc {α:Type} {l:List α} {i:Nat} {x:α} (h:l[i]? = some x):l.take (i + 1) = l.take i ++ [x]:=by
 rw [List.take_add_one,h];rfl
end Mir


namespace Mir
open PySem L2
noncomputable def spCellAt (K:PySem.W.Frag):Sp:=fun vs H Q _=>∃ (a:Addr) (ns:List Int) (k:Nat),vs = [.ref a,.int k]∧SqL K H a (ns.map V.int)∧∀ i:Int,Q (.int i) H
theorem cutV_ints (ns:List Int) (lo hi:Option Int):∃ cs:List Int,cutV (ns.map V.int) lo hi = cs.map V.int∧cs.length≤ns.length:=by
 have h:=cutV_length (ns.map V.int) lo hi
 rw [List.length_map] at h
 unfold cutV at h ⊢
 rw [← List.map_drop,← List.map_take] at h ⊢
 exact ⟨_,rfl,by rw [List.length_map] at h;exact h⟩
end Mir




namespace Mir
open PySem L2
noncomputable def iV (ns:List Int):List V:=ns.map V.int
theorem iV_len (ns:List Int):(iV ns).length = ns.length:=by unfold iV;rw [List.length_map]
theorem iV_get {ns:List Int} {i:Nat} {m:Int} (h:ns[i]? = some m):(iV ns)[i]? = some (.int m):=by unfold iV;rw [List.getElem?_map,h];rfl
theorem iV_get' {ns:List Int} {i:Nat} {x:V} (h:(iV ns)[i]? = some x):∃ m,ns[i]? = some m∧x = .int m:=by
 unfold iV at h
 rw [List.getElem?_map] at h
 cases e:ns[i]? with
 | none=>rw [e] at h;cases h
 | some m=>rw [e] at h;exact ⟨m,rfl,(Option.some.inj h).symm⟩
theorem cut_from {xs:List V} {k:Nat} (h:k≤xs.length):cutV xs (some (k:Int)) none = xs.drop k:=by
 unfold cutV
 have e1:HT.sIx xs.length 0 (some (k:Int)) = k:=by unfold HT.sIx;simp only;rw [if_neg (by omega),Int.toNat_natCast];omega
 have e2:HT.sIx xs.length xs.length none = xs.length:=rfl
 rw [e1,e2]
 exact List.take_of_length_le (by rw [List.length_drop];omega)
theorem cut_to {xs:List V} {k:Nat} (h:k≤xs.length):cutV xs none (some (k:Int)) = xs.take k:=by
 unfold cutV
 have e1:HT.sIx xs.length xs.length (some (k:Int)) = k:=by unfold HT.sIx;simp only;rw [if_neg (by omega),Int.toNat_natCast];omega
 have e2:HT.sIx xs.length 0 none = 0:=rfl
 rw [e1,e2]
 rfl
end Mir

namespace L2
open PySem PySem.Spec PyProof.Rows
theorem vals_refsI:∀ {ts:List Addr} {its:List Value},Vals (ts.map V.ref) its→its = ts.map Value.ref
 | [],_,.nil=>rfl
 | t :: ts,_,.cons h r=>by rw [vals_refsI r];cases h;rfl
end L2

namespace NK
open PySem PySem.Spec PyProof.Rows L2
noncomputable instance memI {k:List Itm} {ks:List (List Itm)}:Decidable (k∈ks):=decidable_of_iff (ks.any (fun x=>decide (x = k)) = true) (by simp)
noncomputable def onlyT (H:Hp):Hp:=fun b=>match H b with
 | some (.tup xs)=>some (.tup xs)
 | _=>none
theorem onlyT_tup {H:Hp} {b:Addr} {xs:List V} (e:H b = some (.tup xs)):onlyT H b = some (.tup xs):=by unfold onlyT;rw [e]
theorem onlyT_ok {P P':Program} {w w':World} {H:Hp} {h:Heap} (ok:HOk P w H h):HOk P' w' (onlyT H) h:=fun b o e=>by
 unfold onlyT at e
 split at e
 ·next xs hx =>
  cases e
  exact (show ObjOk P w H h b (.tup xs) from ok b _ hx)
 ·cases e
theorem k2_any {P P':Program} {w w':World} {H:Hp} {h:Heap} {k:List Itm} {b:Addr} (ok:HOk P w H h) (q:K2 H k b):Is2 P' w' h k b :=
 k2_is (onlyT_ok (P':=P') (w':=w') ok) (q.keep fun c ys e=>onlyT_tup e)
section
variable {X:Cx} {pins:List (Addr×Obj)} {σ:L2.St} {H:Hp} {s:Shared} {A:Around}
theorem eqAt2 (I:Inv X pins σ H s) (hu:A.units + 1 < cLine) {x y:List Itm} {a b:Addr} (hx:K2 H x a) (hy:K2 H y b):SeqAt.EqAt A s (.ref a) (.ref b) (decide (x = y)):=fun prog w' E Q hq =>
 eq_of2 (P:=prog) (w:=w') hu (k2_any I.hok hx) (k2_any I.hok hy) hq
theorem eqAtI (I:Inv X pins σ H s) (hu:A.units < cLine) {x y:Itm} {u v:Value} (hx:∀ P w,ItIs P w s.heap x u) (hy:∀ P w,ItIs P w s.heap y v):SeqAt.EqAt A s u v (decide (x = y)):=fun prog w' E Q hq =>
 it_eq (P:=prog) (w:=w') hu (hx _ _) (hy _ _) hq
end
noncomputable def Ths (H:Hp) (l:Addr) (ks:List (List Itm)):Prop:=∃ bs:List Addr,H l = some (.lst (bs.map V.ref))∧bs.length = ks.length∧∀ (i:Nat) (b:Addr) (k:List Itm),bs[i]? = some b→ks[i]? = some k→K2 H k b
section
variable {X:Cx}
theorem K2.inj {H:Hp} {x y:List Itm} {b:Addr} (hx:K2 H x b) (hy:K2 H y b):x = y:=by
 obtain ⟨vs,e1,r1⟩:=hx
 obtain ⟨ws,e2,r2⟩:=hy
 rw [e1] at e2
 cases e2
 clear e1
 induction r1 generalizing y with
 | nil=>cases r2;rfl
 | @cons k v ks vs h t ih =>
  cases r2 with
  | @cons k' _ ks' _ h' t' =>
   rw [ih t']
   congr 1
   cases k with
   | inl a =>
    cases k' with
    | inl a' =>
     have h:v = kV a:=h
     have h':v = kV a':=h'
     congr 1
     have z:=h.symm.trans h'
     cases a <;> cases a' <;> cases z <;> rfl
    | inr l' =>
     have h:v = kV a:=h
     obtain ⟨c,e,_⟩:=h'
     cases a <;> (rw [h] at e;cases e)
   | inr l =>
    obtain ⟨c,e,q⟩:=h
    cases k' with
    | inl a' =>
     have h':v = kV a':=h'
     cases a' <;> (rw [h'] at e;cases e)
    | inr l' =>
     obtain ⟨c',e',q'⟩:=h'
     cases e.symm.trans e'
     rw [q] at q'
     injection q' with q'
     injection q' with q'
     congr 1
     have inj:∀ a b:Key,kV a = kV b→a = b:=fun a b z=>by cases a <;> cases b <;> cases z <;> rfl
     exact (List.map_inj_right (f:=kV) inj).mp q'
open Classical in
noncomputable def theK (H:Hp) (b:Addr):List Itm:=if h:∃ k,K2 H k b then h.choose else []
theorem theK_of {H:Hp} {k:List Itm} {b:Addr} (h:K2 H k b):theK H b = k:=by
 have e:∃ k,K2 H k b:=⟨k,h⟩
 unfold theK
 rw [dif_pos e]
 exact K2.inj e.choose_spec h
open Classical in
noncomputable def eqK (H:Hp) (k:List Itm):Value→Bool
 | .ref b=>decide (theK H b = k)
 | _=>false
noncomputable def rIn2 (neg:Bool):R2:=fun x y H Q=>∃ (b l:Addr) (k:List Itm) (ks:List (List Itm)),x = .ref b∧y = .ref l∧K2 H k b∧Ths H l ks∧Q (.bl (neg != decide (k∈ks))) H
theorem Ths.any {H:Hp} {l b:Addr} {k:List Itm} {ks:List (List Itm)} {bs:List Addr} (h2:bs.length = ks.length) (h3:∀ (i:Nat) (b:Addr) (k:List Itm),bs[i]? = some b→ks[i]? = some k→K2 H k b):(bs.map Value.ref).toArray.any (eqK H k) = decide (k∈ks):=by
 rw [show (bs.map Value.ref).toArray.any (eqK H k) = (bs.map Value.ref).any (eqK H k) by simp,Bool.eq_iff_iff,List.any_eq_true,decide_eq_true_iff]
 constructor
 ·rintro ⟨v,hv,hz⟩
  obtain ⟨c,hc,rfl⟩:=List.mem_map.mp hv
  obtain ⟨i,hi,rfl⟩:=List.getElem_of_mem hc
  have e:=h3 i _ _ (List.getElem?_eq_getElem hi) (List.getElem?_eq_getElem (by omega))
  have hz:theK H bs[i] = k:=of_decide_eq_true hz
  rw [theK_of e] at hz
  rw [← hz]
  exact List.getElem_mem _
 ·intro hk
  obtain ⟨i,hi,rfl⟩:=List.getElem_of_mem hk
  have e:=h3 i _ _ (List.getElem?_eq_getElem (show i < bs.length by omega)) (List.getElem?_eq_getElem hi)
  exact ⟨_,List.mem_map.mpr ⟨_,List.getElem_mem _,rfl⟩,decide_eq_true (theK_of e)⟩
theorem Ths.eqs {pins:List (Addr×Obj)} {σ:L2.St} {H:Hp} {s:Shared} (I:Inv X pins σ H s) {A:Around} (hu:A.units + 1 < cLine) {b:Addr} {k:List Itm} {ks:List (List Itm)} {bs:List Addr} (hk:K2 H k b) (h2:bs.length = ks.length) (h3:∀ (i:Nat) (b:Addr) (k:List Itm),bs[i]? = some b→ks[i]? = some k→K2 H k b) :
  ∀ v,v∈(bs.map Value.ref).toArray→SeqAt.EqAt A s v (.ref b) (eqK H k v):=fun v hv=>by
 obtain ⟨c,hc,rfl⟩:=List.mem_map.mp (show v∈bs.map Value.ref by simpa using hv)
 obtain ⟨i,hi,rfl⟩:=List.getElem_of_mem hc
 have e:=h3 i _ _ (List.getElem?_eq_getElem hi) (List.getElem?_eq_getElem (by omega))
 have z:=eqAt2 (A:=A) I hu e hk
 show SeqAt.EqAt _ _ _ _ (decide (theK H bs[i] = k))
 rw [theK_of e]
 have q:∀ (p:Prop) (d1 d2:Decidable p),@decide p d1 = @decide p d2:=fun p d1 d2=>by congr
 rw [q _ _ (instDecidableEqList _ _)]
 rw [q _ (instDecidableEqList _ _) (instDecidableEqList _ _)] at z
 exact z
theorem op_in2 (hu:X.A.units + 2 < cLine):OpR X (compareOp .In) (rIn2 false):=by
 intro pins s σ H x y v u Q I rx ry h
 obtain ⟨b,l,k,ks,rfl,rfl,hk,⟨bs,h1,h2,h3⟩,q⟩:=h
 cases rx
 cases ry
 obtain ⟨its,r,pl,hz⟩:=I.list (SqL.of h1)
 have er:its = bs.map Value.ref:=vals_refsI r
 subst er
 refine SeqAt.in_listAt (eqK H k) pl.isList (Ths.eqs I (by show X.A.units + 1 + 1 < cLine;omega) hk h2 h3) ⟨.bl _,H,I,rfl,?_⟩
 rw [Ths.any (l:=l) (b:=b) h2 h3]
 have:(false != decide (k∈ks)) = decide (k∈ks):=by cases decide (k∈ks) <;> rfl
 rw [← this]
 exact q
theorem op_notIn2 (hu:X.A.units + 2 < cLine):OpR X (compareOp .NotIn) (rIn2 true):=by
 intro pins s σ H x y v u Q I rx ry h
 obtain ⟨b,l,k,ks,rfl,rfl,hk,⟨bs,h1,h2,h3⟩,q⟩:=h
 cases rx
 cases ry
 obtain ⟨its,r,pl,hz⟩:=I.list (SqL.of h1)
 have er:its = bs.map Value.ref:=vals_refsI r
 subst er
 refine SeqAt.notIn_listAt (eqK H k) pl.isList (Ths.eqs I (by show X.A.units + 1 + 1 < cLine;omega) hk h2 h3) ⟨.bl _,H,I,rfl,?_⟩
 rw [Ths.any (l:=l) (b:=b) h2 h3]
 have:(true != decide (k∈ks)) = !decide (k∈ks):=by cases decide (k∈ks) <;> rfl
 rw [← this]
 exact q
end
end NK

namespace NK
open PySem PySem.Spec PyProof.Rows L2
open AutoSeq1 (wpAny_loadPart')
open MeetsSeq MeetsSeq2 MeetsSeq3 SeqRoads2
theorem rm_loop (l:Addr) (its:Array Value) (n:Nat) (x:Value) (e:Value→Bool) (j:Nat) (hj:j < its.size) (hit:e its[j] = true) (hz:its.size≤sizeLine) (m:Nat) :
  ∀ i:Nat,j - i = m→i≤j→(∀ q (hq:q < its.size),i≤q→q < j→e its[q] = false)→Meets (Builtin.«list.remove.loop» ⟨[.ref l,x,rawInt i],[]⟩)
   (fun A R s=>s.heap.get? l = some { cls:=.type "list",dict:=none,data:=.seq its n,slots:=#[] }∧(∀ y,y∈its→SeqAt.EqAt A.in1 s y x (e y))∧R (.ok (.ret .none)) { s with heap:=s.heap.update l (Obj.mapSeq fun xs=>xs.eraseIdxIfInBounds j) }):=by
 induction m with
 | zero =>
  intro i hm hle _ P w A R s ⟨hl,he,hR⟩
  obtain ⟨s1,s2,s3,s4,s5⟩:=s
  obtain rfl:i = j:=by omega
  wp_walk using wpAny_loadPart' hl
  rw [show its[((i:Nat):Int).toNat]? = some its[i] by simp [hj]]
  refine wpAny_bind (he its[i] (Array.getElem_mem hj) P w _ _ ?_)
  rw [hit]
  have z2:(its.eraseIdxIfInBounds i).size≤sizeLine + 1:=Nat.le_succ_of_le (Nat.le_trans (by simp [Array.eraseIdxIfInBounds,hj]) hz)
  wp_walk using (wpAny_updateSeq hl rfl (hz:=hz) (_hz':=z2)),wpAny_loadPart' hl
  simpa using hR
 | succ m ih =>
  intro i hm hle no P w A R s ⟨hl,he,hR⟩
  obtain ⟨s1,s2,s3,s4,s5⟩:=s
  have lt:i < its.size:=by omega
  wp_walk using wpAny_loadPart' hl
  rw [show its[((i:Nat):Int).toNat]? = some its[i] by simp [lt]]
  refine wpAny_bind (he its[i] (Array.getElem_mem lt) P w _ _ ?_)
  rw [no i lt (Nat.le_refl _) (by omega)]
  wp_walk
  rw [show ((i:Int) + 1) = ((i + 1:Nat):Int) by push_cast;rfl]
  refine ⟨plainId_quiet plain_remove_loop _,codeAny_builtin entry_remove_loop ?_⟩
  rw [Around.under_plainId plain_remove_loop _]
  exact ih (i + 1) (by omega) (by omega) (fun q hq h1 h2=>no q hq (by omega) h2) P w A R _ ⟨hl,he,hR⟩
theorem rm_list (l:Addr) (its:Array Value) (n:Nat) (x:Value) (e:Value→Bool) (j:Nat) (hj:j < its.size) (hit:e its[j] = true) (no:∀ q (hq:q < its.size),q < j→e its[q] = false) (hz:its.size≤sizeLine) :
  Meets (Builtin.«list.remove» ⟨[.ref l,x],[]⟩)
   (fun A R s=>s.heap.get? l = some { cls:=.type "list",dict:=none,data:=.seq its n,slots:=#[] }∧(∀ y,y∈its→SeqAt.EqAt A.in1 s y x (e y))∧R (.ok (.ret .none)) { s with heap:=s.heap.update l (Obj.mapSeq fun xs=>xs.eraseIdxIfInBounds j) }):=by
 intro P w A R s ⟨hl,he,hR⟩
 obtain ⟨s1,s2,s3,s4,s5⟩:=s
 wp_walk using wpAny_loadPart' hl
 refine ⟨plainId_quiet plain_remove_loop _,codeAny_builtin entry_remove_loop ?_⟩
 rw [Around.under_plainId plain_remove_loop _]
 exact rm_loop l its n x e j hj hit hz _ 0 rfl (Nat.zero_le _) (fun q hq _ h2=>no q hq h2) P w A R _ ⟨hl,he,hR⟩
section
variable {X:Cx}
theorem map_eraseIdx {α β:Type} (f:α→β):∀ (l:List α) (j:Nat),(l.map f).eraseIdx j = (l.eraseIdx j).map f
 | [],_=>rfl
 | _ :: _,0=>rfl
 | a :: r,j + 1=>by
  show f a :: (r.map f).eraseIdx j = f a :: (r.eraseIdx j).map f
  rw [map_eraseIdx f r j]
noncomputable def rRem:V→List V→Hp→VK→Prop:=fun x vs H Q=>∃ (l b:Addr) (k:List Itm) (ks:List (List Itm)) (bs:List Addr) (j:Nat),x = .ref l∧vs = [.ref b]∧K2 H k b∧H l = some (.lst (bs.map V.ref))∧bs.length = ks.length∧(∀ (i:Nat) (b:Addr) (k:List Itm),bs[i]? = some b→ks[i]? = some k→K2 H k b)∧ks[j]? = some k∧(∀ i,i < j→ks[i]?≠some k)∧Q .non (upd H l (.lst ((bs.eraseIdx j).map V.ref)))
theorem mt_rem (hu:X.A.units + 2 < cLine):MtM X "list.remove" rRem:=by
 intro pins s σ H x vs v us Q I rx rv h
 obtain ⟨l,b,k,ks,bs,j,rfl,rfl,hk,hH,h2,h3,hm,hno,q⟩:=h
 cases rx
 obtain ⟨u,rfl,ru⟩:=rv.one
 cases ru
 obtain ⟨z,its,n,r,hl,e⟩:=I.lstM hH
 have er:its = bs.map Value.ref:=vals_refsI r
 subst er
 have hj:j < ks.length:=(List.getElem?_eq_some_iff.mp hm).1
 have at_:∀ i (hi:i < ks.length),eqK H k ((bs.map Value.ref).toArray[i]'(by simp;omega)) = decide (ks[i] = k):=fun i hi=>by
  have e:=h3 i _ _ (List.getElem?_eq_getElem (show i < bs.length by omega)) (List.getElem?_eq_getElem hi)
  have e2:(bs.map Value.ref).toArray[i]'(by simp;omega) = Value.ref (bs[i]'(by omega)):=by simp
  rw [e2]
  show decide (theK H _ = k) = _
  rw [theK_of e]
 refine call_meets F.slot_list_remove ⟨_,e,rfl⟩ F.entry_list_remove (F.args_list_remove_2 _ _) (rm_list l (bs.map Value.ref).toArray n (.ref b) (eqK H k) j (by simp;omega) ?_ ?_ (by rw [List.size_toArray];rw [List.length_map] at z ⊢;exact z)) ⟨e,Ths.eqs I (by show X.A.units + 1 + 1 < cLine;omega) hk h2 h3,?_⟩
 ·rw [at_ _ hj]
  exact decide_eq_true ((List.getElem?_eq_some_iff.mp hm).2)
 ·intro i hi hlt
  rw [at_ _ (by omega)]
  exact decide_eq_false fun c=>hno i hlt (by rw [List.getElem?_eq_getElem (by omega),c])
 ·refine ⟨.non,_,I.lset (its':=(bs.eraseIdx j).map Value.ref) hH e ?_ ?_ ?_,rfl,q⟩
  ·simp only [List.eraseIdxIfInBounds_toArray,map_eraseIdx]
  ·rw [← map_eraseIdx,← map_eraseIdx]
   exact r.eraseIdx _
  ·rw [List.length_map]
   have:=len_erase bs j
   rw [List.length_map] at z
   omega
end
section
variable {prog:Program} {w:World} {A:Around} {E:Value→Shared→Prop} {s:Shared} {K:Type} [DecidableEq K] {knd:HeapKind prog w K}
noncomputable def dropAt (xs:List (K×Addr×Value)) (k:K):List (K×Addr×Value):=xs.filter fun x=>decide (x.1≠k)
theorem erase_filter {α:Type} {β:Type} [DecidableEq β] (f:α→β) (k:β):∀ (xs:List α) (j:Nat) (x:α),(xs.map f).Nodup→xs[j]? = some x→f x = k→xs.eraseIdx j = xs.filter fun y=>decide (f y≠k)
 | [],j,x,_,h,_=>by simp at h
 | y :: r,0,x,hn,h,e=>by
  cases h
  rw [List.filter_cons_of_neg (by simp [e])]
  show r = _
  refine (List.filter_eq_self.mpr fun z hz=>?_).symm
  rw [List.map_cons,List.nodup_cons] at hn
  exact decide_eq_true fun c=>hn.1 (by rw [e,← c];exact List.mem_map_of_mem hz)
 | y :: r,j + 1,x,hn,h,e=>by
  rw [List.map_cons,List.nodup_cons] at hn
  have h':r[j]? = some x:=h
  have ne:f y≠k:=fun c=>hn.1 (by rw [c,← e];exact List.mem_map_of_mem (List.mem_of_getElem? h'))
  rw [List.filter_cons_of_pos (by simp [ne])]
  show y :: r.eraseIdx j = _
  rw [erase_filter f k r j x hn.2 h' e]
theorem pop_there (d a:Addr) (k:K):MeetsIn prog w (Builtin.«dict.pop» ⟨[.ref d,.ref a],[]⟩) (fun A R s=>∃ xs v,knd.room A.in1∧knd.is s.heap k a∧s.heap.DictOfH knd d xs∧xs.length≤sizeLine∧(∃ (b:Addr) (j:Nat),xs[j]? = some (k,b,v)) ∧
  ∀ h',h'.DictOfH knd d (dropAt xs k)→Heap.SameBut d s.heap h'→R (.ok (.ret v)) { s with heap:=h',toks:=s.toks + knd.draws k }) :=
 .of_wp fun A R s ⟨xs,v,hu,hkey,hm,hsz,⟨b,j,hj⟩,hR⟩=>by
  obtain ⟨o,es,ep,ho,hc,hd,he,his,hn⟩:=id hm
  have hes:es.size≤sizeLine:=by rw [size_of_entries he];exact hsz
  have hjx:j < xs.length:=(List.getElem?_eq_some_iff.mp hj).1
  unfold Builtin.«dict.pop»
  refine wpAny_bind ?_
  unfold Builtin.Dict.keyAndDefault
  refine wpAny_bind (wpAny_notOrdered_dict hm.typeIs ?_)
  show wpAny _ _ (pure (d,Value.ref a,none)) _ _ s
  refine wpAny_pure ?_
  dsimp only
  rw [if_neg (show ¬ (keyPart (Value.ref a)).isSome = true from Bool.false_ne_true)]
  have ne:es.isEmpty = false:=by
   rw [Array.isEmpty_eq_false_iff]
   intro z
   have:=size_of_entries he
   rw [z] at this
   simp at this
   omega
  refine wpAny_bind (wpAny_dictEntries ho hd (wpAny_bind (wpAny_pure ?_)))
  rw [ne]
  simp only [Bool.false_eq_true,if_false]
  refine wpAny_bind ?_
  unfold Builtin.Dict.takeOut
  try with_reducible refine wpAny_holding ?_
  refine wpAny_bind (knd.pyHash hu hkey (wpAny_bind (wpAny_dictFind_heap (s:={ s with toks:=s.toks + knd.draws k }) hu hkey ho hd he his hn (fun no=>absurd hj (no j _)) ?_)))
  intro i p hi
  obtain rfl:i = j:=idxH_unique hn hi hj
  cases hi.symm.trans hj
  refine wpAny_bind (wpAny_dictEntries (s:={ s with toks:=s.toks + knd.draws k }) ho hd ?_)
  rw [entry_at he i,hj]
  refine wpAny_bind (wpAny_updateDictKeys (hz:=hes) (s:={ s with toks:=s.toks + knd.draws k }) ho hd (wpAny_pure ?_))
  simp only [Option.isNone_some,Bool.false_eq_true,if_false]
  refine wpAny_bind (wpAny_letGo (wpAny_pure ⟨v,rfl,hR _ ⟨_,_,ep + 1,Heap.get?_update_self _ ho (Obj.isFreed_of_dict (Obj.data_mapDictKeys hd _)),hc.mapDictKeys _,Obj.data_mapDictKeys hd _,?_,?_,?_⟩ (Heap.SameBut.update ..)⟩))
  ·have e1:(es.eraseIdxIfInBounds i).toList = es.toList.eraseIdx i:=by
    obtain ⟨l⟩:=es
    simp
   rw [e1,he,map_eraseIdx,erase_filter (fun x:K×Addr×Value=>x.1) k xs i _ hn hj rfl]
   rfl
  ·exact fun x hx=>knd.keeps (his x (List.mem_filter.mp hx).1) ho hd (Heap.SameBut.update ..)
  ·exact hn.sublist ((List.filter_sublist).map _)
end
section
variable {X:Cx}
noncomputable def drop2 (kvs:List Ent) (k:List Itm):List Ent:=kvs.filter fun x=>decide (x.1≠k)
theorem re_drop {kvs:List Ent} {xs:List (List Itm×Addr×Value)} (r:Paired RE kvs xs) (k:List Itm):Paired RE (drop2 kvs k) (dropAt xs k):=by
 induction r with
 | nil=>exact .nil
 | @cons p q ps qs h t ih =>
  unfold drop2 dropAt
  by_cases e:p.1 = k
  ·rw [List.filter_cons_of_neg (by simp [e]),List.filter_cons_of_neg (by simp [← h.1,e])]
   exact ih
  ·rw [List.filter_cons_of_pos (by simp [e]),List.filter_cons_of_pos (by simp [← h.1,e])]
   exact .cons h ih
theorem re_get {kvs:List Ent} {xs:List (List Itm×Addr×Value)} (r:Paired RE kvs xs):∀ {j:Nat} {k:List Itm} {b:Addr} {v:V},kvs[j]? = some (k,b,v)→∃ u,xs[j]? = some (k,b,u)∧RelV v u:=by
 induction r with
 | nil=>intro j k b v h;simp at h
 | @cons p q ps qs h t ih =>
  intro j k b v hj
  cases j with
  | zero =>
   cases hj
   obtain ⟨q1,q2,q3⟩:=q
   obtain ⟨h1,h2,h3⟩:=h
   cases h1
   cases h2
   exact ⟨q3,rfl,h3⟩
  | succ j=>exact ih hj
noncomputable def rPop2 (P:Program) (w:World):V→List V→Hp→VK→Prop:=fun x vs H Q=>∃ (a c:Addr) (kvs:List Ent) (k:List Itm) (v:V),x = .ref a∧vs = [.ref c]∧D2 P w H a kvs∧K2 H k c∧(∃ (b:Addr) (j:Nat),kvs[j]? = some (k,b,v))∧Q v (upd H a (d2O P w a (drop2 kvs k)))
theorem mt_pop2 (hu:X.A.units + 2 < cLine):MtM X "dict.pop" (rPop2 X.prog X.w):=by
 intro pins s σ H x vs v us Q I rx rv h
 obtain ⟨a,c,kvs,k,y,rfl,rfl,d,hk,⟨b,j,hj⟩,q⟩:=h
 cases rx
 obtain ⟨u,rfl,ru⟩:=rv.one
 cases ru
 obtain ⟨z,hd,xs,rel,dd⟩:=d2_of I.hok d
 obtain ⟨u,hu',ruv⟩:=re_get rel hj
 have hz:xs.length≤sizeLine:=by rw [← Paired.length rel];exact z
 refine call_meetsIn F.slot_dict_pop dd.typeIs F.entry_dict_pop (F.args_dict_pop_2 _ _) (pop_there (knd:=t2Kind X.prog X.w) a c k) ⟨xs,u,room_in1 hu,k2_is I.hok hk,dd,hz,⟨b,j,hu'⟩,fun h' dd' hs=>?_⟩
 obtain ⟨o,es,ep,ho,h2,h3,h4,_,h5⟩:=dd'
 have hl:(drop2 kvs k).length≤sizeLine:=Nat.le_trans (List.length_filter_le _ _) z
 exact ⟨y,_,d_write I (by rw [d.1];exact True.intro) hs ⟨o,ho⟩ (d2P.ok ⟨hl,hd,_,re_drop rel k,o,es,ep,ho,h2,h3,h4,h5⟩),ruv,q⟩
theorem D2.drop {P:Program} {w:World} {H:Hp} {a:Addr} {kvs:List Ent} {k:List Itm} (d:D2 P w H a kvs):D2 P w (upd H a (d2O P w a (drop2 kvs k))) a (drop2 kvs k) :=
 ⟨upd_same,fun p hp=>(d.2 p (List.mem_filter.mp hp).1).keep fun c ys e=>by rw [upd_ne (fun z=>by rw [z,d.1] at e;cases e)];exact e⟩
end
end NK

namespace NK
open PySem PySem.Spec PyProof.Rows L2 L2V
section
variable {X:Cx} {pins:List (Addr×Obj)} {σ:L2.St} {H:Hp} {s:Shared} {a b:Addr} {kvs:List Ent} {k:List Itm} {v:V} {o:Obj} {A:Around} {E:Value→Shared→Prop}
noncomputable def d2F (P:Program) (w:World) (a:Addr) (kvs:List Ent) (o:Obj):HO:=.ext fun h=>h.get? a = some o∧d2P P w a kvs h
noncomputable def D2f (P:Program) (w:World) (H:Hp) (a:Addr) (kvs:List Ent) (o:Obj):Prop:=H a = some (d2F P w a kvs o)∧∀ p∈kvs,K2 H p.1 p.2.1
theorem d2F_ok {P:Program} {w:World} {h:Heap} (q:d2P P w a kvs h) (e:h.get? a = some o):ObjOk P w H h a (d2F P w a kvs o) :=
 ⟨⟨e,q⟩,⟨o,e⟩,fun h1 h2 q1 g=>⟨g o q1.1,by
  obtain ⟨z,y,xs,r,o',es,ep,ho,t⟩:=q1.2
  exact ⟨z,y,xs,r,o',es,ep,g o' ho,t⟩⟩⟩
theorem d2f_of {P:Program} {w:World} {h:Heap} (ok:HOk P w H h) (d:D2f P w H a kvs o):h.get? a = some o∧d2P P w a kvs h:=by
 obtain ⟨q,_⟩:=(show ObjOk P w H h a (d2F P w a kvs o) from ok a _ d.1)
 exact q
theorem d2P_dict {P:Program} {w:World} {h:Heap} (ok:HOk P w H h) (q:d2P P w a kvs h) (hk:∀ p∈kvs,K2 H p.1 p.2.1):kvs.length≤sizeLine∧(a == sysModules) = false∧∃ xs,Paired RE kvs xs∧h.DictOfH (t2Kind P w) a xs:=by
 obtain ⟨z,y,xs,r,o,es,ep,h1,h2,h3,h4,h5⟩:=q
 refine ⟨z,y,xs,r,o,es,ep,h1,h2,h3,h4,?_,h5⟩
 have all:∀ {l:List Ent} {m:List (List Itm×Addr×Value)},Paired RE l m→(∀ p∈l,K2 H p.1 p.2.1)→∀ x∈m,Is2 P w h x.1 x.2.1:=by
  intro l m q
  induction q with
  | nil=>intro _ x hx;exact nomatch hx
  | @cons p q ps qs hq t ih =>
   intro g x hx
   rcases List.mem_cons.mp hx with e | hx
   ·subst e
    rw [← hq.1,← hq.2.1]
    exact k2_is ok (g p List.mem_cons_self)
   ·exact ih (fun p hp=>g p (List.mem_cons_of_mem _ hp)) x hx
 exact all r hk
theorem D2.freeze (I:Inv X pins σ H s) (d:D2 X.prog X.w H a kvs):∃ o es ep,s.heap.get? a = some o∧o.cls = .type "dict"∧o.data = .dict es ep∧es.size = kvs.length∧Inv X pins σ (upd H a (d2F X.prog X.w a kvs o)) s:=by
 obtain ⟨q,_⟩:=(show ObjOk X.prog X.w H s.heap a (d2O X.prog X.w a kvs) from I.hok a _ d.1)
 obtain ⟨z,y,xs,r,o,es,ep,h1,h2,h3,h4,h5⟩:=id q
 have hsz:es.size = kvs.length:=by
  rw [r.length]
  have:=congrArg List.length h4
  rwa [Array.length_toList,List.length_map] at this
 exact ⟨o,es,ep,h1,h2.1,h3,hsz,I.write (x:=a) (e:=a) (t':=s.toks) (by rw [d.1];exact True.intro) (.inl rfl) (fun b q hb z=>z) ⟨o,h1⟩ (d2F_ok q h1)⟩
theorem D2f.thaw (I:Inv X pins σ H s) (d:D2f X.prog X.w H a kvs o):Inv X pins σ (upd H a (d2O X.prog X.w a kvs)) s:=by
 obtain ⟨e,q⟩:=d2f_of I.hok d
 exact I.write (x:=a) (e:=a) (t':=s.toks) (by rw [d.1];exact True.intro) (.inl rfl) (fun b q hb z=>z) ⟨o,e⟩ (d2P.ok q)
theorem D2.to {P:Program} {w:World} {H:Hp} (d:D2 P w H a kvs):D2f P w (upd H a (d2F P w a kvs o)) a kvs o :=
 ⟨upd_same,fun p hp=>(d.2 p hp).keep fun c ys e=>by rw [upd_ne (fun z=>by rw [z,d.1] at e;cases e)];exact e⟩
end
section
variable {X:Cx} {o i:Expr} {pos:Pos} {td ty:TE}
noncomputable def t2GetF (P:Program) (w:World) (td ty:TE):TE:=fun σ H Q=>td σ H fun x H1=>ty σ H1 fun y H2=>∃ a b kvs ob k v,x = .ref a∧y = .ref b∧D2f P w H2 a kvs ob∧K2 H2 k b∧val2 kvs k = some v∧Q v H2
theorem pe_2getF {P:Program} {w:World} (hP:X.prog = P) (hw:X.w = w) (hu:X.A.units + 2 < cLine) (ho:PE X o td) (hi:PE X i ty) (hs:NoSl i):PE X (.Subscript o i pos) (t2GetF P w td ty):=by
 subst hP hw
 intro pins s σ H Q I h
 refine subD_of PySem.F.slot_dict_getitem.lookup hs (thn (ho pins s σ H _ I h) fun u s1 ⟨x,H1,I1,rx,q1⟩=>thn (hi pins s1 σ H1 _ I1 q1) fun iv s2 ⟨y,H2,I2,ry,a,b,kvs,ob,k,v,ex,ey,d,hk,l,q2⟩=>?_)
 subst ex ey
 obtain rfl:u = Value.ref a:=rx
 obtain rfl:iv = Value.ref b:=ry
 obtain ⟨z,hd,xs,rel,dd⟩:=d2P_dict I2.hok (d2f_of I2.hok d).2 d.2
 obtain ⟨w',hw,rw'⟩:=RelO.some_of (v:=v) (o:=(atKey xs k).map (·.2)) (by rw [← l];exact re_val rel k)
 obtain ⟨p,hp,hp2⟩:=Option.map_eq_some_iff.mp hw
 refine ⟨dd.typeIs,wpAny_getItem_heap (knd:=t2Kind X.prog X.w) (room_in1 hu) (k2_is I2.hok hk) dd hp ?_⟩
 rw [hp2]
 exact ⟨v,H2,I2.tok _,rw',q2⟩
end
noncomputable def Itk (P:Program) (w:World) (d:Addr) (o:Obj) (kvs:List Ent):It :=
 ⟨fun i H=>i < kvs.length∧D2f P w H d kvs o,fun i H y H'=>H' = H∧∃ k b v,kvs[i]? = some (k,b,v)∧y = .ref b,fun i H=>kvs.length≤i∧D2f P w H d kvs o⟩
theorem turn_k2 {P:Program} {w:World} {K:PySem.W.Frag} {tg:Expr} (d it:Addr) (o:Obj) (kvs:List Ent) (es:Array DictEntry) (ep:Nat) (hcl:o.cls = .type "dict") (hep:o.data = .dict es ep) (hsz:es.size = kvs.length) :
  Turn P w K tg (Itk P w d o kvs) [it] it (fun i h=>i≤kvs.length∧h.IsKeyIter it d i es.size ep) where
 mem:=by simp
 obj:=fun i h st b hb=>by
  have e:b = it:=by simpa using hb
  subst e
  obtain ⟨_,o,e,_,d⟩:=st
  exact ⟨_,e,fun v z=>by rw [d] at z;cases z⟩
 keep:=fun i h h' st k=>⟨st.1,st.2.at fun o e=>k it (by simp) o e⟩
 item:=by
  intro X hP hw hK hc i pins s σ H E I hf st hg
  subst hP hw hK
  obtain ⟨hi,dF⟩:=hg
  obtain ⟨_,hit⟩:=st
  obtain ⟨ho,z,lo,xs,rel,od,es',ep',h1,h2,h3,h4,h5⟩:=d2f_of I.hok dF
  obtain ⟨f0,f1,f2,f3,f4,f5⟩:=hf it (by simp)
  have e1:od = o:=by rw [ho] at h1;exact (Option.some.inj h1).symm
  subst e1
  have e2:es' = es∧ep' = ep:=by rw [hep] at h3;cases h3;exact ⟨rfl,rfl⟩
  obtain ⟨rfl,rfl⟩:=e2
  have hi2:i < es'.size:=by omega
  have hx:kvs[i]? = some (kvs[i].1,kvs[i].2.1,kvs[i].2.2):=List.getElem?_eq_getElem hi
  obtain ⟨u,hxs,_⟩:=re_get rel hx
  have ee:es'[i] = entryOfKey (t2Kind X.prog X.w) (kvs[i].1,kvs[i].2.1,u):=by
   have e:=entry_at h4 i
   rw [hxs,Array.getElem?_eq_getElem hi2] at e
   exact Option.some.inj e
  refine next_keys hit ⟨od,h1,hcl,h3⟩ hi2 fun h' hit' hs'=>?_
  have I1:Inv X pins σ H { s with heap:=h' }:=I.turned (t':=s.toks) (fun b o hb e=>(hs'.2 b hb).trans e) f0 f1 f3 f4 f5
  obtain ⟨oi,e,c,dd⟩:=id hit'
  refine ⟨_,rfl,go_of (s:={ s with heap:=h' }) e c dd (by decide) ⟨.ref kvs[i].2.1,H,I1,?_,⟨rfl,_,_,_,hx,rfl⟩,⟨hi,hit'⟩,fun b hb=>(hf b hb).1⟩⟩
  rw [ee]
  rfl
 done:=by
  intro X hP hw hK hc i pins s σ H E I hf st hg
  subst hP hw hK
  obtain ⟨hi,dF⟩:=hg
  obtain ⟨hle,hit⟩:=st
  obtain ⟨ho,_⟩:=d2f_of I.hok dF
  obtain ⟨f0,f1,f2,f3,f4,f5⟩:=hf it (by simp)
  have e3:i = es.size:=by omega
  rw [e3] at hit
  exact end_keys (I.ok.hd hc) hit ⟨o,ho,hcl,hep⟩ fun h' eb=>⟨rfl,I.turned (t':=s.toks) (fun b o hb e=>eb b o hb e) f0 f1 f3 f4 f5⟩
 self:=fun _ _ _ _ _ st h=>wpAny_pyIter_keyiter st.2 h
section
variable {X:Cx}
noncomputable def iKs (P:Program) (w:World) (to:TE):TI:=fun σ H R=>to σ H fun v H1=>∃ d kvs,v = .ref d∧D2 P w H1 d kvs∧∀ o,R (Itk P w d o kvs) (upd H1 d (d2F P w d kvs o))
theorem pi_ks {e tg:Expr} {to:TE} (ho:PE X e to):PI X tg e (iKs X.prog X.w to):=by
 intro pins s σ H R I h
 refine thn (ho pins s σ H _ I h) fun v s1 ⟨x,H1,I1,r1,d,kvs,ex,hd,q⟩=>?_
 subst ex
 cases (show v = Value.ref d from r1)
 obtain ⟨o,es,ep,h1,h2,h3,h4,I2⟩:=D2.freeze I1 hd
 obtain ⟨z,lo,_⟩:=d2_of I1.hok hd
 refine iter_keys lo ⟨o,h1,h2,h3⟩ ?_
 refine ⟨_,[_],_,_,_,rfl,I2.kept (t':=s1.toks) fun b o e=>Heap.get?_push_of_some _ e,turn_k2 d _ o kvs es ep h2 h3 h4,⟨Nat.zero_le _,⟨_,Heap.get?_push_size _ rfl,rfl,rfl⟩⟩,fun b hb=>?_,q o⟩
 have e:=List.mem_singleton.mp hb
 subst e
 exact I2.fpOk (Nat.le_refl _) (I2.hok.fresh (Nat.le_refl _))
theorem comp_ks {P:Program} {w:World} {d:Addr} {o:Obj} {kvs:List Ent} {g:TG} {tt:TT} {te:TE} {D:Addr} {Q:VK} {σ₀:L2.St} {H₀:Hp} (Pv:Nat→L2.St→Hp→Prop) (h0:Pv 0 σ₀ H₀) (hl:∀ i σ H,i≤kvs.length→Pv i σ H→D2f P w H d kvs o)
  (hs:∀ i k b v σ H,kvs[i]? = some (k,b,v)→Pv i σ H→g (.ref b) σ H fun σ3 H3=>tt σ3 H3 fun b H4=>if b = true then te σ3 H4 fun v H5=>∃ ys,H5 D = some (.lst ys)∧ys.length < sizeLine∧Pv (i + 1) σ3 (upd H5 D (.lst (ys ++ [v]))) else Pv (i + 1) σ3 H4)
  (hd:∀ σ H,Pv kvs.length σ H→Q (.ref D) H):CompW (Itk P w d o kvs) g tt te D Q σ₀ H₀:=by
 refine ⟨fun i m σ H=>m = kvs.length - i∧i≤kvs.length∧Pv i σ H,⟨kvs.length,by simp,Nat.zero_le _,h0⟩,?_⟩
 rintro i m σ H ⟨rfl,hi,p⟩
 have q:=hl i σ H hi p
 by_cases hlt:i < kvs.length
 ·refine .inr ⟨⟨hlt,q⟩,Pv (i + 1),fun σ' H' p'=>⟨kvs.length - (i + 1),by omega,rfl,hlt,p'⟩,fun x H' y=>?_⟩
  obtain ⟨e2,k,b,v,hx,e⟩:=y
  subst e e2
  exact hs i k b v σ _ hx p
 ·have e:i = kvs.length:=by omega
  subst e
  exact .inl ⟨⟨Nat.le_refl _,q⟩,hd σ H p⟩
noncomputable def tThaw (P:Program) (w:World) (t:TE):TE:=fun σ H Q=>t σ H fun v H1=>∃ a kvs o,D2f P w H1 a kvs o∧Q v (upd H1 a (d2O P w a kvs))
theorem pe_thaw {e:Expr} {t:TE} (he:PE X e t):PE X e (tThaw X.prog X.w t):=by
 intro pins s σ H Q I h
 refine thn (he pins s σ H _ I h) fun u s1 ⟨v,H1,I1,r,a,kvs,o,d,q⟩=>?_
 exact ⟨v,_,D2f.thaw I1 d,r,q⟩
noncomputable def tBM2 (P:Program) (w:World) (r:V→List V→Hp→VK→Prop) (to:TE) (t:TA):TE:=fun σ H Q=>to σ H fun x H1=>(∃ a kvs,x = .ref a∧D2 P w H1 a kvs)∧t σ H1 fun vs H2=>r x vs H2 Q
theorem pe_bm2 {o e:Expr} {es:List Expr} {name:Str} {id:String} {apos cpos:Pos} {r:V→List V→Hp→VK→Prop} {to:TE} {t:TA} (pa:PlainAttrs "dict") (slot:Slot "dict" name id) (hty:typeOf (.builtin id) = pure (.type "method_descriptor")) (hm:MtM X id r) (ho:PE X o to) (ha:PA X (e :: es) t)
  (hbase:attributeBase o name X.env (eval o X.env) = eval o X.env:=by rfl)
  (hfew:((backTo cpos (starEach (e :: es) X.env)).all (fun x=>!x.1) && (backToKw cpos (keywordEach [] X.env)).all (fun x=>x.1.isSome) && decide ((e :: es).length + ([]:List Keyword).length + (if ([]:List Keyword).isEmpty then 0 else 1) < 30)) = true:=by rfl)
  (hline:(apos.endLine == cpos.line) = true:=by rfl) (hs:starEach (e :: es) X.env = (false,eval e X.env) :: starEach es X.env:=by rfl) (hplain:(backTo cpos (starEach es X.env)).any (·.1) = false:=by rfl) :
  PE X (.Call (.Attribute o name apos) (e :: es) [] cpos) (tBM2 X.prog X.w r to t):=by
 intro pins s σ H Q I h
 refine wpAny_Call_method_late hbase hfew hline rfl (thn (ho pins s σ H _ I h) fun v s1 ⟨x,H1,I1,r1,⟨a,kvs,ex,d⟩,q1⟩=>?_)
 subst ex
 obtain rfl:v = Value.ref a:=r1
 have h1:=d2_dict I1 d
 have h2:∀ c,Value.ref a = .ref c→∃ ob,s1.heap.get? c = some ob∧ob.dict = none:=fun c z=>by
  cases z
  obtain ⟨_,_,xs,_,dd⟩:=d2_of I1.hok d
  obtain ⟨o,es,ep,ho,hx,_⟩:=dd
  exact ⟨o,ho,hx.2.1⟩
 refine ⟨"dict",id,pa,slot,hty,h1,h2,?_⟩
 have hA:=ha cpos pins s1 σ H1 _ I1 q1
 rw [hs] at hA ⊢
 refine Calls.callWith_builtin (by show (false || (backTo cpos (starEach es X.env)).any (·.1)) = false;rw [hplain] <;> rfl) (Calls.evalArgs_plain ?_)
 exact thn hA fun us s2 ⟨vs,H2,I2,r2,q2⟩=>hm pins s2 σ H2 (.ref a) vs _ us Q I2 rfl r2 q2
end
section
variable {X:Cx}
theorem K2.its {P:Program} {w:World} {H:Hp} {h:Heap} (ok:HOk P w H h):∀ {k:List Itm} {vs:List V} {us:List Value},Paired (IV H) k vs→Vals vs us→∀ (j:Nat) (x:Itm) (u:Value),k[j]? = some x→us[j]? = some u→∀ P' w',ItIs P' w' h x u
 | _,_,_,.nil,_,j,x,u,e,_,_,_=>by simp at e
 | _,_,_,.cons (a:=a) (b:=b) hk t,.cons hv tv,0,x,u,e1,e2,P',w'=>by
  cases e1
  cases e2
  cases a with
  | inl k=>cases (show b = kV k from hk);exact kV_is hv
  | inr l=>obtain ⟨c,e,q⟩:=hk;subst e;exact ⟨c,hv,key_of (onlyT_ok (P':=P') (w':=w') ok) (onlyT_tup q)⟩
 | _,_,_,.cons _ t,.cons _ tv,j + 1,x,u,e1,e2,P',w'=>K2.its ok t tv j x u e1 e2 P' w'
noncomputable def rNe2:R2:=fun x y H Q=>∃ (a b:Addr) (k l:List Itm),x = .ref a∧y = .ref b∧K2 H k a∧K2 H l b∧Q (.bl (!decide (k = l))) H
theorem op_ne2 (hu:X.A.units + 1 < cLine):OpR X (compareOp .NotEq) rNe2:=by
 intro pins s σ H x y v u Q I rx ry h
 obtain ⟨a,b,k,l,rfl,rfl,⟨vs,h1,p1⟩,⟨ws,h2,p2⟩,q⟩:=h
 cases rx
 cases ry
 obtain ⟨i1,r1,t1,z1⟩:=I.tuple (SqT.of h1)
 obtain ⟨i2,r2,t2,z2⟩:=I.tuple (SqT.of h2)
 have l1:i1.length = k.length:=by rw [← r1.length,← p1.length]
 have l2:i2.length = l.length:=by rw [← r2.length,← p2.length]
 refine SeqAt.RcNeAt.tuples (A:=X.A) (e:=fun j=>decide (k[j]? = l[j]?)) (show s.heap.IsTuple a i1.toArray from t1) (show s.heap.IsTuple b i2.toArray from t2) (by omega) (fun j q1 q2=>?_) X.prog X.w X.xe _ ⟨.bl (!decide (k = l)),H,I,?_,q⟩
 ·rw [List.size_toArray] at q1 q2
  have ek:=List.getElem?_eq_getElem (l:=k) (i:=j) (by omega)
  have el:=List.getElem?_eq_getElem (l:=l) (i:=j) (by omega)
  have w:=eqAtI (A:=X.A.in1) I (by show X.A.units + 1 < cLine;exact hu) (K2.its I.hok p1 r1 j _ _ ek (List.getElem?_eq_getElem q1)) (K2.its I.hok p2 r2 j _ _ el (List.getElem?_eq_getElem q2))
  rw [ek,el]
  have ed:decide (some k[j] = some l[j]) = decide (k[j] = l[j]):=decide_eq_decide.mpr ⟨fun h=>Option.some.inj h,fun h=>congrArg some h⟩
  rw [ed]
  simpa using w
 ·show Value.bool _ = Value.bool _
  congr 2
  rw [List.size_toArray,List.size_toArray,l1,l2,Bool.eq_iff_iff,decide_eq_true_iff,Bool.and_eq_true,List.all_eq_true,beq_iff_eq]
  constructor
  ·rintro ⟨g1,g2⟩
   refine List.ext_getElem? fun j=>?_
   by_cases c:j < k.length
   ·exact of_decide_eq_true (g1 j (List.mem_range.mpr (by omega)))
   ·rw [List.getElem?_eq_none (by omega),List.getElem?_eq_none (by omega)]
  ·intro g
   exact ⟨fun j _=>decide_eq_true (by rw [g]),by rw [g]⟩
end
section
variable {X:Cx} {P:Program} {w:World} (hP:X.prog = P) (hw:X.w = w)
include hP hw
theorem pi_ksK {e tg:Expr} {to:TE} (ho:PE X e to):PI X tg e (iKs P w to):=by subst hP hw;exact pi_ks ho
theorem pe_thawK {e:Expr} {t:TE} (he:PE X e t):PE X e (tThaw P w t):=by subst hP hw;exact pe_thaw he
theorem pe_2newK {pos:Pos}:PE X (.Dict [] [] pos) (t2New P w):=by subst hP hw;exact pe_2new
theorem pe_2getK {o i:Expr} {pos:Pos} {td ty:TE} (hu:X.A.units + 2 < cLine) (ho:PE X o td) (hi:PE X i ty) (hs:NoSl i):PE X (.Subscript o i pos) (t2Get P w td ty):=by subst hP hw;exact pe_2get hu ho hi hs
theorem ps_2putK {o i value:Expr} {pos pos':Pos} {td ty tv:TE} (hu:X.A.units + 2 < cLine) (ho:PE X o td) (hi:PE X i ty) (hv:PE X value tv) (hs:swapsWith value (some (.Subscript o i pos')) pos.line X.env = pure false):PS X (.Assign [.Subscript o i pos'] value pos) (s2Put P w td ty tv):=by subst hP hw;exact ps_2put hu ho hi hv hs
theorem pe_pop2K {o e:Expr} {apos cpos:Pos} {to:TE} {t:TA} (hu:X.A.units + 2 < cLine) (ho:PE X o to) (ha:PA X [e] t)
  (hbase:attributeBase o "pop" X.env (eval o X.env) = eval o X.env:=by rfl)
  (hfew:((backTo cpos (starEach [e] X.env)).all (fun x=>!x.1) && (backToKw cpos (keywordEach [] X.env)).all (fun x=>x.1.isSome) && decide (([e]:List Expr).length + ([]:List Keyword).length + (if ([]:List Keyword).isEmpty then 0 else 1) < 30)) = true:=by rfl)
  (hline:(apos.endLine == cpos.line) = true:=by rfl) (hs:starEach [e] X.env = (false,eval e X.env) :: starEach [] X.env:=by rfl) (hplain:(backTo cpos (starEach [] X.env)).any (·.1) = false:=by rfl) :
  PE X (.Call (.Attribute o "pop" apos) [e] [] cpos) (tBM2 P w (rPop2 P w) to t):=by
 subst hP hw
 exact pe_bm2 F.plainAttrs_dict F.slot_dict_pop F.type_dict_pop (mt_pop2 hu) ho ha hbase hfew hline hs hplain
end
end NK


namespace L2
open PySem PySem.Spec PyProof.Rows
section
variable {X:Cx}
theorem call_len_seqK {K:PySem.W.Frag} (hK:X.K = K):CallR X (.builtin "len") (fun xs H Q=>∃ p ys,xs = [.ref p]∧(SqL K H p ys∨SqT K H p ys)∧Q (.int (ys.length:Nat)) H):=hK ▸ call_len_seq
end
end L2

namespace L2E
open PySem PySem.Spec PyProof.Rows
open Sem (wp)
open AutoSeq1 (wpAny_loadPart')
section
variable {prog:Program} {w:World} {A:Around} {E:Value→Shared→Prop} {s:Shared}
theorem wpAny_collect_range {Q:List Value→Shared→Prop} {r:Addr} {a b c:Int} {t u v:Tok} {n:Nat} (hh:A.handled = none) (hr:IsRange s.heap r a b c t u v) (hsmall:Builtin.Range.small a b c = true)
  (hn:Builtin.Range.rangeSize a b c = n) (hlen:n≤2 ^ 24)
  (hQ:∀ h' tk acc',(∀ b o,s.heap.get? b = some o→h'.get? b = some o)→ItemsOf (fun i v=>∃ t,v = .int (a + i * c) t) acc' n→Q acc'.toList { s with heap:=h',toks:=tk }) :
  wpAny (model prog w) A (collect (.ref r)) Q E s:=by
 unfold collect
 refine wpAny_bind (wpAny_runValue (codeAny_builtin F.entry_proto_collect ?_))
 rw [Around.under_plainId F.plain_proto_collect _]
 show wpAny _ A.in1 (newList [] >>= fun l=>again (.builtin "list.__iadd__" ⟨[l,.ref r],[]⟩)) _ _ s
 refine wpAny_bind (wpAny_newObj_type ?_)
 refine wpAny_pure ⟨plainId_quiet F.plain_list_iadd _,codeAny_builtin F.entry_list_iadd ?_⟩
 rw [Around.under_plainId F.plain_list_iadd _]
 show wpAny _ A.in1 (Builtin.List.listExtendWith (.ref s.heap.objs.size) (.ref r) (.ref s.heap.objs.size)) _ _ _
 have hS:(s.heap.push { cls:=.type "list",data:=.seq ([]:List Value).toArray }).get? s.heap.objs.size = some { cls:=.type "list",data:=.seq #[] 0 }:=Heap.get?_push_size _ rfl
 have fin':∀ h' tk acc' c',(∀ b o,b≠s.heap.objs.size→(s.heap.push { cls:=.type "list",data:=.seq ([]:List Value).toArray }).get? b = some o→h'.get? b = some o) →
   h'.get? s.heap.objs.size = some { cls:=.type "list",dict:=none,data:=.seq acc' c',slots:=#[] }→ItemsOf (fun i v=>∃ t,v = .int (a + i * c) t) acc' n →
   wpAny (model prog w) A (match Value.ref s.heap.objs.size with
   | Value.ref a=>do
    match (← load a).data with
     | Data.seq xs _=>pure xs.toList
     | _=>unsupported "internal:collect"
   | _=>unsupported "internal:collect") Q E { s with heap:=h',toks:=tk }:=by
  intro h' tk acc' c' hk hS' hacc
  show wpAny _ A (load s.heap.objs.size >>= _) _ _ _
  refine wpAny_bind (wpAny_load hS' ?_)
  refine wpAny_pure ?_
  exact hQ h' tk acc' (fun b o hb=>hk b o (Nat.ne_of_lt (Heap.lt_size hb)) (Heap.get?_push_of_some _ hb)) hacc
 refine wpAny_mono (wpAny_extend_range (A:=A) (R:=fun r' s'=>r' = .ok (.ret (.ref s.heap.objs.size))∧∃ h' tk acc' c',s' = { s with heap:=h',toks:=tk }∧(∀ b o,b≠s.heap.objs.size→(s.heap.push { cls:=.type "list",data:=.seq ([]:List Value).toArray }).get? b = some o→h'.get? b = some o) ∧
   h'.get? s.heap.objs.size = some { cls:=.type "list",dict:=none,data:=.seq acc' c',slots:=#[] }∧ItemsOf (fun i v=>∃ t,v = .int (a + i * c) t) acc' n)
  (s:={ s with heap:=s.heap.push { cls:=.type "list",data:=.seq ([]:List Value).toArray } }) hh (Heap.get?_push_of_some _ hr) hsmall hn hlen _ _ 0 hS fun h' tk acc' c' hk hS' hacc=>⟨rfl,h',tk,acc',c',rfl,hk,hS',hacc⟩) (fun fin s' h=>?_) (fun e s' h=>?_)
 ·cases fin with
  | done f =>
   obtain ⟨e,h',tk,acc',c',rfl,h1,h2,h3⟩:=h
   cases e
   exact fin' h' tk acc' c' h1 h2 h3
  | again c'=>exact ⟨h.1,codeAny_mono h.2 fun r s'' hr=>by obtain ⟨rfl,h',tk,acc',c',rfl,h1,h2,h3⟩:=hr;exact fin' h' tk acc' c' h1 h2 h3⟩
 ·exact absurd h.1 (by simp)
end
theorem meets_tuple_new_range (r:Addr) (a b c:Int) (t u v:Tok) (n:Nat) (hsmall:Builtin.Range.small a b c = true) (hn:Builtin.Range.rangeSize a b c = n) (hlen:n≤2 ^ 24) :
  Meets (Builtin.«tuple.__new__» ⟨[.type "tuple",.ref r],[]⟩)
   (fun A R s=>A.handled = none∧IsRange s.heap r a b c t u v∧∀ (h':Heap) (tk:Nat) (acc:Array Value),(∀ b o',s.heap.get? b = some o'→h'.get? b = some o')→ItemsOf (fun i v=>∃ t,v = .int (a + i * c) t) acc n →
    R (.ok (.ret (.ref h'.objs.size))) { s with heap:=h'.push { cls:=.type "tuple",data:=.seq acc },toks:=tk }) :=
 .of_wp fun prog w A R s h=>by
  obtain ⟨hp,g,d,tk,os⟩:=s;obtain ⟨hh,ht,h⟩:=h
  have hsub:=sub_tuple_self
  have hinit:=init_tuple_lookup
  have hmh:=madeHere_tuple
  have hT:Shared.TypeIs ⟨hp,g,d,tk,os⟩ (.ref r) "range":=⟨_,ht,rfl⟩
  have hh1:A.in1.handled = none:=hh
  wp_walk using wpAny_loadPart' ht,wpAny_typeOf hT,wpAny_collect_range hh1 ht hsmall hn hlen
  intro h' tk' acc hk hacc
  show wpAny _ _ (Builtin.Tuple.tupleExact acc.toList.toArray >>= fun v=>ret v) _ _ _
  unfold Builtin.Tuple.tupleExact
  refine wpAny_bind (wpAny_newObj_type ?_ (by show acc.toList.toArray.size≤sizeLine;simp only [Array.toArray_toList];rw [hacc.1];exact Nat.le_trans hlen (by decide)))
  refine wpAny_pure ⟨_,rfl,?_⟩
  have e:acc.toList.toArray = acc:=by simp
  rw [e]
  exact h h' tk' acc hk hacc
section
variable {prog:Program} {w:World} {A:Around} {E:Value→Shared→Prop} {s:Shared}
theorem call_tuple_range {r:Addr} {a b c:Int} {t u v:Tok} {n:Nat} {Q:Value→Shared→Prop} (hh:A.handled = none) (hr:IsRange s.heap r a b c t u v) (hsmall:Builtin.Range.small a b c = true) (hn:Builtin.Range.rangeSize a b c = n) (hlen:n≤2 ^ 24)
  (h:∀ (h':Heap) (tk:Nat) (acc:Array Value),(∀ b o',s.heap.get? b = some o'→h'.get? b = some o')→ItemsOf (fun i v=>∃ t,v = .int (a + i * c) t) acc n→Q (.ref h'.objs.size) { s with heap:=h'.push { cls:=.type "tuple",data:=.seq acc },toks:=tk }) :
  wpAny (model prog w) A (call (.type "tuple") [.ref r]) Q E s :=
 callType_new F.called_tuple (by decide) (F.typeCall_tuple_1 _) (F.newCall_tuple_1 _) (fun obj=>F.args_object_init_2 obj _) F.entry_tuple_new
  (meets_tuple_new_range r a b c t u v n hsmall hn hlen) ⟨hh,hr,fun h' tk acc hk hacc=>⟨⟨_,Heap.get?_push_size _ rfl,rfl⟩,h h' tk acc hk hacc⟩⟩
end
end L2E
namespace L2
open PySem PySem.Spec PyProof.Rows
section
variable {X:Cx}
theorem call_tuple_rng (hc:X.calm = true):CallR X (.type "tuple") (fun xs H Q=>∃ p lo hi,xs = [.ref p]∧H p = some (.rng lo hi)∧(-(2 ^ 62)≤lo∧lo < 2 ^ 62∧-(2 ^ 62)≤hi∧hi < 2 ^ 62)∧(hi - lo).toNat≤2 ^ 20 ∧
  ∀ l,H l = none→Q (.ref l) (upd H l (.tup (rngV lo (hi - lo).toNat)))):=by
 intro pins s σ H xs us Q I r h
 obtain ⟨p,lo,hi,rfl,hp,⟨b1,b2,b3,b4⟩,hz,q⟩:=h
 obtain ⟨u,rfl,ru⟩:=r.one
 cases ru
 obtain ⟨t,u',v',e⟩:=I.hok p _ hp
 have hsz:(hi - lo).toNat≤sizeLine:=Nat.le_trans hz (by decide)
 refine L2E.call_tuple_range (n:=(hi - lo).toNat) (I.ok.hd hc) (show IsRange s.heap p lo hi 1 t u' v' from e) (small_one b1 b2 b3 b4) (by rw [rangeSize_one];split <;> omega) (Nat.le_trans hz (by decide)) fun h' tk acc hk hacc=>?_
 have I1:Inv X pins σ H { s with heap:=h',toks:=tk }:=I.kept (t':=tk) hk
 refine ⟨.ref h'.objs.size,_,I1.laid (o:=.tup (rngV lo (hi - lo).toNat)) (t':=tk) (fun b o z=>Heap.get?_push_of_some _ z) (Nat.le_refl _) (show ObjOk X.prog X.w _ _ _ (.tup (rngV lo (hi - lo).toNat)) from ⟨by rw [rngV_len];exact hsz,acc.toList,?_,by rw [Array.toArray_toList];exact IsTup.new _ _⟩),rfl,q _ (I1.hok.fresh (Nat.le_refl _))⟩
 refine vals_of_get (by rw [rngV_len,Array.length_toList,hacc.1]) fun i x w e1 e2=>?_
 have hi':i < (hi - lo).toNat:=by
  have z:=(List.getElem?_eq_some_iff.mp e1).1
  rw [rngV_len] at z
  exact z
 rw [rngV_get hi'] at e1
 cases e1
 obtain ⟨t,rfl⟩:=hacc.2 i w (by simpa using e2)
 exact ⟨t,by rw [Int.mul_one]⟩
end
end L2

namespace L2
open PySem PySem.Spec
theorem bb_abs:bootBuiltins "abs" = some (.builtin "abs"):=by decide +kernel
end L2
namespace Mir
open PySem L2
noncomputable def absI (i:Int):Int:=if i < 0 then -i else i
noncomputable def absL (ns:List Int):List Int:=ns.map absI
noncomputable def from1 (n:Nat):List Int:=(List.range n).map fun (i:Nat)=>1 + (i:Int)
structure Fit (ns:List Int):Prop where
 small:ns.length≤40
 perm:(absL ns).Perm (from1 ns.length)
theorem absL_len (ns:List Int):(absL ns).length = ns.length:=by unfold absL;rw [List.length_map]
theorem from1_len (n:Nat):(from1 n).length = n:=by unfold from1;rw [List.length_map,List.length_range]
theorem rngV_from1 (n:Nat):rngV 1 n = iV (from1 n):=by
 unfold rngV iV from1
 rw [List.map_map]
 rfl
theorem from1_succ (n:Nat):from1 (n + 1) = from1 n ++ [(n:Int) + 1]:=by
 unfold from1
 rw [List.range_succ,List.map_append]
 show _ ++ [1 + (n:Int)] = _
 rw [Int.add_comm]
theorem put_perm {rs:List Int} {x:Int} {spot:Nat} (h:(absL rs).Perm (from1 rs.length)) (hx:absI x = (rs.length:Int) + 1):(absL (rs.take spot ++ [x] ++ rs.drop spot)).Perm (from1 (rs.length + 1)):=by
 have p1:(rs.take spot ++ [x] ++ rs.drop spot).Perm (rs ++ [x]):=by
  have e:rs ++ [x] = rs.take spot ++ rs.drop spot ++ [x]:=by rw [List.take_append_drop]
  rw [e,List.append_assoc,List.append_assoc]
  exact List.Perm.append_left _ List.perm_append_comm
 have p2:=p1.map absI
 rw [from1_succ]
 refine p2.trans ?_
 rw [List.map_append]
 show (absL rs ++ [absI x]).Perm _
 rw [hx]
 exact h.append_right _
noncomputable def spRowBy (K:PySem.W.Frag):Sp:=fun vs H Q _=>∃ (a:Addr) (ns:List Int) (at' many:Nat),vs = [.ref a,.int at',.int many]∧SqL K H a (ns.map V.int)∧many≤40 ∧
 ∀ (t:Addr) (H':Hp) (rs:List Int),Same H H'→H' t = some (.tup (iV rs))→rs.length = many→Fit rs→Q (.ref t) H'
end Mir

namespace L2E
open PySem PySem.Spec PyProof.Rows
namespace FR
theorem owner_rev:Manifest.owners.lookup (String.ofList ['d','e','s','r','e','v','e','r'].reverse) = some Manifest.sig_reversed:=by kernel_rfl
theorem slot_rev_next:Slot "reversed" "__next__" "reversed.__next__" :=
 .of (owner:="reversed") (n:="__next__") (by rw [typeLookup_type,builtinLookup_eq_fast];kernel_rfl) (by decide +kernel) (by decide +kernel) (by decide +kernel)
  (by first | exact .inl (by decide +kernel) | exact .inr (by decide +kernel)) (by rw [isSubtype_type];kernel_rfl)
theorem entry_rev_next:entryFor table "reversed.__next__" = some Builtin.«reversed.__next__»:=entryFor_of_tree (by kernel_rfl)
theorem args_rev_next_1 (a:Value):argsOk "reversed.__next__" ⟨[a],[]⟩:=by
 unfold argsOk;rw [signature?_of (id:="reversed.__next__") (n:=['_','_','t','x','e','n','_','_']) (o:=['d','e','s','r','e','v','e','r']) (by kernel_rfl) owner_rev];kernel_rfl
theorem slot_rev_iter:Slot "reversed" "__iter__" "reversed.__iter__" :=
 .of (owner:="reversed") (n:="__iter__") (by rw [typeLookup_type,builtinLookup_eq_fast];kernel_rfl) (by decide +kernel) (by decide +kernel) (by decide +kernel)
  (by first | exact .inl (by decide +kernel) | exact .inr (by decide +kernel)) (by rw [isSubtype_type];kernel_rfl)
theorem args_rev_iter_1 (a:Value):argsOk "reversed.__iter__" ⟨[a],[]⟩:=by
 unfold argsOk;rw [signature?_of (id:="reversed.__iter__") (n:=['_','_','r','e','t','i','_','_']) (o:=['d','e','s','r','e','v','e','r']) (by kernel_rfl) owner_rev];kernel_rfl
theorem entry_rev_iter:entryFor table "reversed.__iter__" = some Builtin.«dict_keyiterator.__iter__» :=
 entryFor_alias (id':="dict_keyiterator.__iter__") (by kernel_rfl) (by first | rfl | decide +kernel | (unfold String.splitOn;simp +decide [String.splitOnAux])) (by decide +kernel) (by kernel_rfl)
theorem tuple_no_reversed:typeLookup (.type "tuple") "__reversed__" = pure none:=by rw [typeLookup_type,builtinLookup_eq_fast];kernel_rfl
theorem sub_tuple_dict:isSubtype (.type "tuple") (.type "dict") = pure false:=by rw [isSubtype_type];kernel_rfl
theorem sub_rev_rev:isSubtype (.type "reversed") (.type "reversed") = pure true:=by rw [isSubtype_type];kernel_rfl
theorem called_reversed:TypeCalled "reversed" "reversed.__new__" "object.__init__" where
 notType:=by decide +kernel
 canCreate:=F.create_reversed
 mro:=⟨_,_,F.mro_reversed⟩
 made:=F.made_reversed
 plain:=F.plain_reversed_new
 sub:=sub_rev_rev
 init:=.of (owner:="object") (n:="__init__") (by rw [typeLookup_type,builtinLookup_eq_fast];kernel_rfl) (by decide +kernel) (by decide +kernel) (by decide +kernel)
  (by first | exact .inl (by decide +kernel) | exact .inr (by decide +kernel)) (by rw [isSubtype_type];kernel_rfl)
end FR
section
variable {prog:Program} {w:World} {A:Around} {E:Value→Shared→Prop} {s:Shared}
noncomputable def revTObj (l:Addr) (i:Int):Obj:={ cls:=.type "reversed",data:=.fields #[.ref l,rawInt i] }
noncomputable def IsRevT (h:Heap) (a l:Addr) (i:Int):Prop:=∃ o,h.get? a = some o∧o.cls = .type "reversed"∧o.data = .fields #[.ref l,rawInt i]
theorem IsRevT.typeIs {a l:Addr} {i:Int} (x:IsRevT s.heap a l i):s.TypeIs (.ref a) "reversed":=let ⟨o,ho,hc,_⟩:=x;⟨o,ho,hc⟩
theorem IsRevT.at {h h':Heap} {a l:Addr} {i:Int} (x:IsRevT h a l i) (e:∀ o,h.get? a = some o→h'.get? a = some o):IsRevT h' a l i:=let ⟨o,ho,r⟩:=x;⟨o,e _ ho,r⟩
theorem code_reversed_newT {l:Addr} {items:Array Value} {Q₁:Value→Shared→Prop} (hl:IsTup s.heap l items) (hz:items.size≤sizeLine)
  (h:∀ tk,Q₁ (.ref s.heap.objs.size) { s with heap:=s.heap.push (revTObj l ((items.size:Int) - 1)),toks:=tk }) :
  codeAny (model prog w) A (.call (.builtin "reversed.__new__") ⟨[.type "reversed",.ref l],[]⟩) (wants Q₁ E) s:=by
 refine codeAny_of_tree ?_
 show wpAny _ A.in1 (do checkBuiltinCall "reversed.__new__" ⟨[.type "reversed",.ref l],[]⟩;again (.builtin "reversed.__new__" ⟨[.type "reversed",.ref l],[]⟩)) _ _ s
 refine wpAny_bind (wpAny_of_eq (F.newCall_reversed_1 _) (wpAny_pure ⟨plainId_quiet F.plain_reversed_new _,codeAny_builtin F.entry_reversed_new ?_⟩))
 rw [Around.under_plainId F.plain_reversed_new _]
 unfold Builtin.«reversed.__new__»
 refine wpAny_bind (wpAny_of_eq (newClass_reversed _) ?_)
 try dsimp only
 refine wpAny_bind (wpAny_of_eq (a:=()) (by first | rfl | kernel_rfl) ?_)
 refine wpAny_bind (wpAny_of_eq (a:=()) (by first | rfl | kernel_rfl) ?_)
 try dsimp only
 refine wpAny_bind (wpAny_specialOf hl.typeIs FR.tuple_no_reversed ?_)
 try dsimp only
 refine wpAny_bind ?_
 refine wpAny_bind (wpAny_isInstance hl.typeIs FR.sub_tuple_dict ?_)
 refine wpAny_ite_split (fun hab=>absurd hab (by decide)) (fun _=>?_)
 refine wpAny_bind (wpAny_specialOf hl.typeIs PyProof.Rows.slot_tuple_getitem.lookup ?_)
 dsimp only
 refine wpAny_ite_split (fun _=>?_) (fun hab=>absurd (by decide +kernel) hab)
 refine wpAny_pure ?_
 refine wpAny_ite_split (fun hab=>absurd hab (by decide)) (fun _=>?_)
 refine wpAny_bind (len_tuple hl (by rw [sizeLine_eq] at hz;omega) ?_)
 refine wpAny_bind (m:=asInt? _) (wpAny_pure ?_)
 dsimp only
 refine wpAny_bind ?_
 show wpAny _ _ (newObj (.type "reversed") (.fields #[.ref l,rawInt ((items.size:Int) - 1)])) _ _ _
 refine wpAny_newObj_type ?_ (by size_fits)
 exact wpAny_pure (h _)
theorem call_reversed_tup {l:Addr} {items:Array Value} {Q:Value→Shared→Prop} (hl:IsTup s.heap l items) (hz:items.size≤sizeLine)
  (h:∀ tk,Q (.ref s.heap.objs.size) { s with heap:=s.heap.push (revTObj l ((items.size:Int) - 1)),toks:=tk }):wpAny (model prog w) A (call (.type "reversed") [.ref l]) Q E s:=by
 refine callType_codes (Q₁:=fun obj s₁=>obj = .ref s.heap.objs.size∧∃ tk,s₁ = { s with heap:=s.heap.push (revTObj l ((items.size:Int) - 1)),toks:=tk }) FR.called_reversed (F.typeCall_reversed_1 _) F.entry_object_init
  (code_reversed_newT hl hz fun tk=>⟨rfl,tk,rfl⟩) fun obj s₁ h₁=>?_
 obtain ⟨rfl,tk,rfl⟩:=h₁
 have hT:Shared.TypeIs { s with heap:=s.heap.push (revTObj l ((items.size:Int) - 1)),toks:=tk } (.ref s.heap.objs.size) "reversed":=⟨_,Heap.get?_push_size _ rfl,rfl⟩
 exact ⟨hT,F.args_object_init_2 _ _,object_init_meets FR.called_reversed.init.lookup FR.called_reversed.made (by decide) prog w A.in1 _ _ ⟨hT,rfl,h tk⟩⟩
theorem pyNext_revT_item {it l:Addr} {i:Nat} {items:Array Value} {x:Value} {Q:Option Value→Shared→Prop} (hit:IsRevT s.heap it l (i:Int)) (hl:IsTup s.heap l items) (hne:l≠it) (hx:items[i]? = some x) (hz:items.size≤sizeLine)
  (hQ:∀ h' tk,IsRevT h' it l ((i:Int) - 1)→Heap.SameBut it s.heap h'→Q (some x) { s with heap:=h',toks:=tk }):wpAny (model prog w) A (pyNext (.ref it)) Q E s:=by
 obtain ⟨o,ho,hc,hd⟩:=id hit
 have hi:i < items.size:=(Array.getElem?_eq_some_iff.mp hx).1
 unfold pyNext
 refine wpAny_bind (wpAny_attempt (wpAny_callSpecial?_slot (name:=Str.ofString "__next__") hit.typeIs FR.slot_rev_next
  (wpAny_call_entry FR.slot_rev_next hit.typeIs FR.entry_rev_next ?_ (FR.args_rev_next_1 _))))
 unfold Builtin.«reversed.__next__»
 refine wpAny_bind (wpAny_of_eq (a:=(Value.ref it,[])) rfl ?_)
 try dsimp only
 refine wpAny_bind (wpAny_field ho hd (x:=.ref l) rfl ?_)
 refine wpAny_bind (wpAny_field ho hd (x:=rawInt (i:Int)) rfl ?_)
 show wpAny _ _ (if (i:Int) < 0 then _ else _) _ _ s
 rw [if_neg (by omega)]
 refine wpAny_bind (wpAny_specialOf hl.typeIs PyProof.Rows.slot_tuple_getitem.lookup ?_)
 refine wpAny_ite_split (fun hab=>absurd hab (by decide)) (fun _=>?_)
 refine wpAny_bind (wpAny_mkInt ?_)
 refine wpAny_bind (wpAny_attempt (PyProof.Rows.getItem_tuple (j:=i) hl (by omega) (by rw [sizeLine_eq] at hz;omega) (PySem.StrLaws.seqIndex_nonneg (by omega) (by omega)) hx ?_))
 dsimp only
 refine wpAny_bind (wpAny_field ho hd (x:=rawInt (i:Int)) rfl ?_)
 show wpAny _ _ (setField (.ref it) 1 (rawInt ((i:Int) - 1)) >>= _) _ _ _
 refine wpAny_bind (wpAny_setField ho hd (by simp) ?_)
 refine wpAny_pure ⟨x,rfl,wpAny_pure (hQ _ _ ?_ (Heap.SameBut.update ..))⟩
 exact ⟨_,Heap.get?_update_self _ ho (Obj.isFreed_of_fields (Obj.data_mapFields hd _)),(Obj.cls_mapFields ..).trans hc,by
  rw [Obj.data_mapFields hd];simp⟩
theorem pyNext_revT_end {it l:Addr} {Q:Option Value→Shared→Prop} (hh:A.handled = none) (hit:IsRevT s.heap it l (-1))
  (hQ:∀ h',Heap.ExtBut it s.heap h'→Q none { s with heap:=h' }):wpAny (model prog w) A (pyNext (.ref it)) Q E s:=by
 obtain ⟨o,ho,hc,hd⟩:=id hit
 unfold pyNext
 refine wpAny_bind (wpAny_attempt (wpAny_callSpecial?_slot (name:=Str.ofString "__next__") hit.typeIs FR.slot_rev_next
  (wpAny_call_entry FR.slot_rev_next hit.typeIs FR.entry_rev_next ?_ (FR.args_rev_next_1 _))))
 unfold Builtin.«reversed.__next__»
 refine wpAny_bind (wpAny_of_eq (a:=(Value.ref it,[])) rfl ?_)
 try dsimp only
 refine wpAny_bind (wpAny_field ho hd (x:=.ref l) rfl ?_)
 refine wpAny_bind (wpAny_field ho hd (x:=rawInt (-1)) rfl ?_)
 show wpAny _ _ (if (-1:Int) < 0 then _ else _) _ _ s
 rw [if_pos (by decide)]
 refine wpAny_bind (wpAny_rule ?_)
 refine wpAny_bind ?_
 refine wpAny_bind (wpAny_setField ho hd (by simp) ?_)
 have ho2:=Heap.get?_update_self (Obj.mapFields fun x=>x.setIfInBounds 1 (rawInt (-1))) ho (Obj.isFreed_of_fields (Obj.data_mapFields hd _))
 have hd2:(Obj.mapFields (fun x=>x.setIfInBounds 1 (rawInt (-1))) o).data = .fields (#[Value.ref l,rawInt (-1)].setIfInBounds 1 (rawInt (-1))):=Obj.data_mapFields hd _
 refine wpAny_setField ho2 hd2 (by simp) ?_
 refine wpAny_bind ?_
 unfold Builtin.SmallTypes.stopIteration
 refine wpAny_bind ?_
 simp only [newExc,newTuple]
 refine wpAny_bind (wpAny_newObj_type ?_ (by size_fits))
 refine wpAny_bind (m:=firstArgMember _ _) (wpAny_of_eq (a:=Value.none) (by first | rfl | (simp only [firstArgMember];rfl)) ?_)
 refine wpAny_newObj_type ?_ (by size_fits)
 simp only [raiseNew]
 refine wpAny_bind (wpAny_handled ?_)
 first | rw [show A.in1.handled = none from hh] | rw [hh]
 refine wpAny_bind (wpAny_pure (wpAny_throw ?_))
 refine wpAny_bind (wpAny_isInstance (T:="StopIteration") (b:=true) ⟨_,Heap.get?_push_size _ rfl,rfl⟩ isSubtype_stop ?_)
 refine wpAny_pure (hQ _ ?_)
 have e1:Heap.ExtBut it s.heap ((s.heap.update it (Obj.mapFields fun x=>x.setIfInBounds 1 (rawInt (-1)))).update it (Obj.mapFields fun x=>x.setIfInBounds 0 Value.none)):=fun b o' hb q=>by
  rw [Heap.get?_update_other _ _ (Ne.symm hb),Heap.get?_update_other _ _ (Ne.symm hb)]
  exact q
 exact (e1.push _).push _
theorem pyIter_revT {it l:Addr} {i:Int} {Q:Value→Shared→Prop} (hit:IsRevT s.heap it l i) (h:Q (.ref it) s):wpAny (model prog w) A (pyIter (.ref it)) Q E s:=by
 refine wpAny_pyIter_slot hit.typeIs FR.slot_rev_iter (wpAny_call_entry FR.slot_rev_iter hit.typeIs FR.entry_rev_iter ?_ (FR.args_rev_iter_1 _))
 show wpAny _ _ (ret (.ref it)) _ _ s
 exact wpAny_pure ⟨_,rfl,"reversed",_,hit.typeIs,FR.slot_rev_next.lookup,h⟩
open HT in
theorem getItem_tuple_all {t sl:Addr} {items:Array Value} {vl vu:Value} {lo hi:Option Int} {Q:Value→Shared→Prop} (ht:IsTup s.heap t items) (hs:s.heap.IsSliceOf sl vl vu .none) (pl:IsPart vl lo) (pu:IsPart vu hi)
  (hw:HT.sIx items.size 0 lo = 0∧HT.sIx items.size items.size hi = items.size) (h:Q (.ref t) s) (hsz:items.size≤sizeLine):wpAny (model prog w) A (getItem (.ref t) (.ref sl)) Q E s:=by
 obtain ⟨os,hos,hcs,hds⟩:=id hs
 have hTs:s.TypeIs (.ref sl) "slice":=⟨os,hos,hcs⟩
 unfold getItem
 try with_reducible refine wpAny_holding ?_
 first | refine wpAny_bind (wpAny_pure ?_) | skip
 refine wpAny_bind (wpAny_sequenceKey ht.typeIs (by decide) ?_)
 refine wpAny_bind (wpAny_callSpecial?_slot (name:=Str.ofString "__getitem__") ht.typeIs PyProof.Rows.slot_tuple_getitem
  (wpAny_call_entry PyProof.Rows.slot_tuple_getitem ht.typeIs entry_tuple_getitem ?_ (args_tuple_getitem _ _)))
 show wpAny _ _ (Builtin.Tuple.tupleItemsOf (.ref t) >>= _) _ _ s
 refine wpAny_bind (tupleItemsOf_ ht ?_)
 refine wpAny_bind (wpAny_typeOf hTs ?_)
 rw [if_pos (by decide)]
 refine wpAny_bind (sliceApplied_gen hs pl pu ?_)
 have hyes:((((HT.sIx items.size 0 lo:Nat):Int) == 0 && (1:Int) == 1 && (HT.sIx items.size items.size hi - HT.sIx items.size 0 lo) == items.size) = true):=by
  rw [hw.1,hw.2];simp
 show wpAny _ _ (if (((HT.sIx items.size 0 lo:Nat):Int) == 0 && (1:Int) == 1 && (HT.sIx items.size items.size hi - HT.sIx items.size 0 lo) == items.size) = true then _ else _) _ _ s
 rw [if_pos hyes]
 refine wpAny_bind ?_
 refine wpAny_bind (wpAny_typeOf ht.typeIs ?_)
 refine wpAny_pure ?_
 refine wpAny_ite_split (fun _=>?_) (fun hab=>absurd (by decide) hab)
 exact wpAny_bind (wpAny_rule (wpAny_pure ⟨_,rfl,wpAny_pure h⟩))
end
end L2E
namespace L2
open PySem PySem.Spec PyProof.Rows
noncomputable def Itw (K:PySem.W.Frag) (a:Addr) (xs:List V):It:=⟨fun i H=>i < xs.length∧SqT K H a xs,fun i H y H'=>H' = H∧xs[xs.length - 1 - i]? = some y,fun i _=>xs.length≤i⟩
theorem turn_revT {P:Program} {w:World} {K:PySem.W.Frag} {tg:Expr} (a it:Addr) (xs:List V):Turn P w K tg (Itw K a xs) [it] it (fun i h=>i≤xs.length∧L2E.IsRevT h it a ((xs.length:Int) - 1 - (i:Nat))) where
 mem:=by simp
 obj:=fun i h st b hb=>by
  have e:b = it:=by simpa using hb
  subst e
  obtain ⟨_,o,e,c,d⟩:=st
  exact ⟨o,e,fun v z=>by rw [d] at z;cases z⟩
 keep:=fun i h h' st k=>⟨st.1,st.2.at fun o e=>k it (by simp) o e⟩
 item:=by
  intro X hP hw hK hc i pins s σ H E I hf st hg
  subst hP hw hK
  obtain ⟨hi,hq⟩:=hg
  obtain ⟨its,rv,p,hz⟩:=I.tuple hq
  have hl:=rv.length
  have hx:xs[xs.length - 1 - i]? = some (xs[xs.length - 1 - i]'(by omega)):=List.getElem?_eq_getElem (by omega)
  obtain ⟨u,hu,ru⟩:=rv.get hx
  obtain ⟨f0,f1,f2,f3,f4,f5⟩:=hf it (by simp)
  have e1:(xs.length:Int) - 1 - (i:Nat) = ((xs.length - 1 - i:Nat):Int):=by omega
  have st2:=st.2
  rw [e1] at st2
  have hne:a≠it:=fun z=>by
   obtain ⟨o1,q1,c1,_⟩:=st2
   obtain ⟨o2,q2,c2,_⟩:=p
   rw [← z,q2] at q1
   cases q1
   rw [c2] at c1
   exact absurd c1 (by decide)
  refine L2E.pyNext_revT_item st2 p hne (x:=u) (by simpa using hu) (by rw [List.size_toArray];omega) fun h' tk st' sb=>?_
  have I1:Inv X pins σ H { s with heap:=h',toks:=tk }:=I.turned (t':=tk) (fun b o hb e=>(sb.2 b hb).trans e) f0 f1 f3 f4 f5
  have e2:((xs.length - 1 - i:Nat):Int) - 1 = (xs.length:Int) - 1 - ((i + 1:Nat):Int):=by omega
  rw [e2] at st'
  obtain ⟨o,e,c,d⟩:=id st'
  exact ⟨u,rfl,go_of (s:={ s with heap:=h',toks:=tk }) e c d (by decide) ⟨_,H,I1,ru,⟨rfl,hx⟩,⟨hi,st'⟩,fun b hb=>(hf b hb).1⟩⟩
 done:=by
  intro X hP hw hK hc i pins s σ H E I hf st hg
  subst hP hw hK
  obtain ⟨f0,f1,f2,f3,f4,f5⟩:=hf it (by simp)
  have hg:xs.length≤i:=hg
  have e1:(xs.length:Int) - 1 - (i:Nat) = -1:=by have:=st.1;omega
  have st2:=st.2
  rw [e1] at st2
  exact L2E.pyNext_revT_end (I.ok.hd hc) st2 fun h' eb=>⟨rfl,I.turned (t':=s.toks) (fun b o hb e=>eb b o hb e) f0 f1 f3 f4 f5⟩
 self:=fun _ _ _ _ _ st h=>L2E.pyIter_revT st.2 h
section
variable {X:Cx}
noncomputable def iRevT (K:PySem.W.Frag) (ta:TA):TI:=fun σ H R=>ta σ H fun vs H1=>∃ a xs,vs = [.ref a]∧SqT K H1 a xs∧R (Itw K a xs) H1
theorem pi_revT {a:Expr} {ta:TA} {p pos:Pos} {tg:Expr} (hg:Gl X "reversed") (hm:X.mg "reversed" = none) (ha:PA X [a] ta) (hs:starEach [a] X.env = [(false,eval a X.env)]:=by rfl) :
  PI X tg (.Call (.Name "reversed" p) [a] [] pos) (iRevT X.K ta):=by
 intro pins s σ H R I h
 refine Call_ (ld_blt I hg hm bb_reversed (PyProof.Rows.callWith_type1 (thn (ha pos pins s σ H _ I h) fun us s1 ⟨vs,H1,I1,r1,q1⟩=>?_) hs rfl))
 obtain ⟨l,xs,e,hq,q⟩:=q1
 subst e
 cases r1 with
 | cons r rr =>
  cases rr
  cases r
  obtain ⟨its,rv,ht,hz⟩:=I1.tuple hq
  have hl:=rv.length
  refine L2E.call_reversed_tup ht (by rw [List.size_toArray];omega) fun tk=>?_
  have st0:L2E.IsRevT (s1.heap.push (L2E.revTObj l ((its.toArray.size:Int) - 1))) s1.heap.objs.size l ((xs.length:Int) - 1 - ((0:Nat):Int)):=by
   have e1:(xs.length:Int) - 1 - ((0:Nat):Int) = (its.toArray.size:Int) - 1:=by rw [List.size_toArray];omega
   rw [e1]
   exact ⟨_,Heap.get?_push_size _ rfl,rfl,rfl⟩
  refine L2E.pyIter_revT (s:={ s1 with heap:=s1.heap.push (L2E.revTObj l ((its.toArray.size:Int) - 1)),toks:=tk }) st0 ?_
  refine ⟨s1.heap.objs.size,[s1.heap.objs.size],_,_,H1,rfl,I1.kept (t':=tk) fun b o e=>Heap.get?_push_of_some _ e,turn_revT l _ xs,⟨Nat.zero_le _,st0⟩,fun b hb=>?_,q⟩
  have e:b = s1.heap.objs.size:=by simpa using hb
  subst e
  exact I1.fpOk (Nat.le_refl _) (I1.hok.fresh (Nat.le_refl _))
theorem comp_revT {K:PySem.W.Frag} {a:Addr} {xs:List V} {g:TG} {tt:TT} {te:TE} {D:Addr} {Q:VK} {σ₀:St} {H₀:Hp} (Pv:Nat→St→Hp→Prop) (h0:Pv 0 σ₀ H₀) (hl:∀ i σ H,i≤xs.length→Pv i σ H→SqT K H a xs)
  (hs:∀ i x σ H,xs.reverse[i]? = some x→Pv i σ H→g x σ H fun σ3 H3=>tt σ3 H3 fun b H4=>if b = true then te σ3 H4 fun v H5=>∃ ys,H5 D = some (.lst ys)∧ys.length < sizeLine∧Pv (i + 1) σ3 (upd H5 D (.lst (ys ++ [v]))) else Pv (i + 1) σ3 H4)
  (hd:∀ σ H,Pv xs.length σ H→Q (.ref D) H):CompW (Itw K a xs) g tt te D Q σ₀ H₀:=by
 refine ⟨fun i m σ H=>m = xs.length - i∧i≤xs.length∧Pv i σ H,⟨xs.length,by simp,Nat.zero_le _,h0⟩,?_⟩
 rintro i m σ H ⟨rfl,hi,p⟩
 have q:=hl i σ H hi p
 by_cases hlt:i < xs.length
 ·refine .inr ⟨⟨hlt,q⟩,Pv (i + 1),fun σ' H' p'=>⟨xs.length - (i + 1),by omega,rfl,hlt,p'⟩,fun x H' y=>?_⟩
  obtain ⟨e,y⟩:=y
  subst e
  exact hs i x σ _ (by rw [List.getElem?_reverse hlt];exact y) p
 ·have e:i = xs.length:=by omega
  subst e
  exact .inl ⟨Nat.le_refl _,hd σ H p⟩
noncomputable def rCatA:R2:=fun x y H Q=>∃ a b xs ys,x = .ref a∧y = .ref b∧H a = some (.tup xs)∧H b = some (.tup ys)∧xs.length + ys.length≤sizeLine∧∀ p H1,Same H H1→H1 p = some (.tup (xs ++ ys))→Q (.ref p) H1
theorem op_catA:OpR X (binaryOp .Add) rCatA:=by
 intro pins s σ H x y v u Q I rx ry h
 obtain ⟨a,b,xs,ys,ex,ey,ha,hb,hz,q⟩:=h
 by_cases hy:ys = []
 ·subst hy
  by_cases hx:xs = []
  ·subst hx ex ey
   cases rx
   cases ry
   obtain ⟨its,r1,p1,_⟩:=I.tuple (SqT.of ha)
   obtain ⟨its2,r2,p2,_⟩:=I.tuple (SqT.of hb)
   obtain ⟨⟨cls,dd,data,sl⟩,ho,hc,n,hd⟩:=id p1
   obtain ⟨⟨cls2,dd2,data2,sl2⟩,ho2,hc2,n2,hd2⟩:=id p2
   simp only at hc hd hc2 hd2
   subst hc hd hc2 hd2
   have e:its = []:=r1.nil_iff.mpr rfl
   exact concat_meets ⟨_,ho,rfl⟩ ⟨_,ho2,rfl⟩ noFill_tuple_add seq_tuple_add PySem.F.slot_tuple_add PySem.F.entry_tuple_add (PySem.F.args_tuple_add_2 _ _)
    (L2E.tuple_addW0 a b its.toArray its2.toArray n n2 dd dd2 sl sl2 (by rw [e];rfl)) ⟨ho,ho2,⟨.ref b,H,I,rfl,q b H (Same.refl _) hb⟩⟩
  ·exact op_catT pins s σ H x y v u Q I rx ry ⟨a,b,xs,[],ex,ey,SqT.of ha,SqT.of hb,hx,hz,fun _=>q a H (Same.refl _) (by rw [List.append_nil];exact ha),fun z=>absurd rfl z⟩
 ·exact op_catT2 pins s σ H x y v u Q I rx ry ⟨a,b,xs,ys,ex,ey,SqT.of ha,SqT.of hb,hy,hz,fun z=>q b H (Same.refl _) (by rw [z];exact hb),fun _ p hp=>q p _ (same_upd hp) upd_same⟩
noncomputable def rSlA:V→Option Int→Option Int→Hp→VK→Prop:=fun x lo hi H Q=>∃ a xs,x = .ref a∧H a = some (.tup xs)∧∀ p H1,Same H H1→H1 p = some (.tup (cutV xs lo hi))→Q (.ref p) H1
theorem sl_tupA:SlR X rSlA:=by
 intro pins s σ H x v vl vu lo hi sl Q I rx hs pl pu h
 obtain ⟨a,xs,rfl,hx,q⟩:=h
 by_cases hw:HT.sIx xs.length 0 lo = 0∧HT.sIx xs.length xs.length hi = xs.length
 ·cases rx
  obtain ⟨its,r,ht,hz⟩:=I.tuple (SqT.of hx)
  have hlen:its.toArray.size = xs.length:=by rw [List.size_toArray];exact r.length.symm
  refine ⟨"tuple",_,PyProof.Rows.slot_tuple_getitem.lookup,ht.typeIs,?_⟩
  refine L2E.getItem_tuple_all ht hs pl pu (by rw [hlen];exact hw) ?_ (by rw [hlen];exact hz)
  refine ⟨.ref a,H,I,rfl,q a H (Same.refl _) ?_⟩
  have e:cutV xs lo hi = xs:=by
   unfold cutV
   rw [hw.1,hw.2,List.drop_zero,Nat.sub_zero,List.take_length]
  rw [e]
  exact hx
 ·exact sl_tup pins s σ H _ v vl vu lo hi sl Q I rx hs pl pu ⟨a,xs,rfl,SqT.of hx,hw,fun p hp=>q p _ (same_upd hp) upd_same⟩
end
end L2

namespace Mir
open PySem L2
noncomputable def TsT {α:Type} (f:α→List V) (H:Hp) (l:Addr) (xs:List α):Prop :=
 ∃ ts:List Addr,H l = some (.lst (ts.map V.ref))∧ts.length = xs.length∧∀ (i:Nat) (t:Addr) (x:α),ts[i]? = some t→xs[i]? = some x→H t = some (.tup (f x))
section
variable {α:Type} {f:α→List V} {H H':Hp} {l r b t d:Addr} {xs ys:List α} {x:α}
theorem TsT.same (h:TsT f H l xs) (s:Same H H'):TsT f H' l xs:=by
 obtain ⟨ts,h1,h2,h3⟩:=h
 exact ⟨ts,s _ _ h1,h2,fun i t p e1 e2=>s _ _ (h3 i t p e1 e2)⟩
theorem TsT.nil (h:H l = some (.lst [])):TsT f H l ([]:List α):=⟨[],h,rfl,fun i t r e=>by simp at e⟩
theorem TsT.len (h:TsT f H l xs):∃ vs,H l = some (.lst vs)∧vs.length = xs.length:=by
 obtain ⟨ts,h1,h2,_⟩:=h
 exact ⟨_,h1,by rw [List.length_map];exact h2⟩
theorem TsT.get {i:Nat} (h:TsT f H l xs) (e:xs[i]? = some x):∃ vs t,H l = some (.lst vs)∧vs[i]? = some (.ref t)∧H t = some (.tup (f x)):=by
 obtain ⟨ts,h1,h2,h3⟩:=h
 have hi:=(List.getElem?_eq_some_iff.mp e).1
 have et:ts[i]? = some (ts[i]'(by omega)):=List.getElem?_eq_getElem (by omega)
 exact ⟨_,_,h1,by rw [List.getElem?_map,et];rfl,h3 i _ x et e⟩
noncomputable def Tup (f:α→List V) (H:Hp) (ts:List Addr) (xs:List α):Prop:=ts.length = xs.length∧∀ (i:Nat) (t:Addr) (x:α),ts[i]? = some t→xs[i]? = some x→H t = some (.tup (f x))
theorem TsT.tup (h:TsT f H l xs):∃ ts,H l = some (.lst (ts.map V.ref))∧Tup f H ts xs:=by
 obtain ⟨ts,h1,h2,h3⟩:=h
 exact ⟨ts,h1,h2,h3⟩
theorem Tup.tst {ts:List Addr} (h:Tup f H ts xs) (hl:H l = some (.lst (ts.map V.ref))):TsT f H l xs:=⟨ts,hl,h.1,h.2⟩
theorem Tup.same {ts:List Addr} (h:Tup f H ts xs) (s:Same H H'):Tup f H' ts xs:=⟨h.1,fun i t p e1 e2=>s _ _ (h.2 i t p e1 e2)⟩
theorem Tup.upd {ts:List Addr} {o:HO} {vs:List V} (h:Tup f H ts xs) (hl:H l = some (.lst vs)):Tup f (upd H l o) ts xs:=⟨h.1,fun i t p e1 e2=>by
 have key:=h.2 i t p e1 e2
 rw [upd_ne (fun e=>by rw [e,hl] at key;cases key)]
 exact key⟩
theorem Tup.updN {ts:List Addr} {o:HO} (h:Tup f H ts xs) (hl:H l = none):Tup f (L2.upd H l o) ts xs:=h.same (same_upd hl)
theorem Tup.app {ts us:List Addr} (h:Tup f H ts xs) (k:Tup f H us ys):Tup f H (ts ++ us) (xs ++ ys):=⟨by rw [List.length_append,List.length_append,h.1,k.1],fun i t p e1 e2=>by
 by_cases hi:i < ts.length
 ·rw [List.getElem?_append_left hi] at e1
  rw [List.getElem?_append_left (by have:=h.1;omega)] at e2
  exact h.2 i t p e1 e2
 ·rw [List.getElem?_append_right (by omega)] at e1
  rw [List.getElem?_append_right (by have:=h.1;omega),← h.1] at e2
  exact k.2 _ t p e1 e2⟩
theorem Tup.one (h:H t = some (.tup (f x))):Tup f H [t] [x]:=⟨rfl,fun i u p e1 e2=>by
 cases i with
 | zero=>cases e1;cases e2;exact h
 | succ i=>cases e1⟩
theorem TsT.snoc (h:TsT f H l xs) (ht:H t = some (.tup (f x))):∃ vs,H l = some (.lst vs)∧vs.length = xs.length∧TsT f (L2.upd H l (.lst (vs ++ [.ref t]))) l (xs ++ [x]):=by
 obtain ⟨ts,h1,h2⟩:=h.tup
 refine ⟨_,h1,by rw [List.length_map];exact h2.1,?_⟩
 exact ((h2.app (Tup.one ht)).upd h1).tst (by rw [upd_same,List.map_append];rfl)
theorem TsT.other {vs:List V} {o:HO} (h:TsT f H l xs) (hd:H d = some (.lst vs)) (ne:d≠l):TsT f (L2.upd H d o) l xs:=by
 obtain ⟨ts,h1,h2⟩:=h.tup
 exact (h2.upd hd).tst (by rw [upd_ne (Ne.symm ne)];exact h1)
end
noncomputable def pr (p:Int×Int):List V:=[.int p.1,.int p.2]
noncomputable def turnP (rs:List Int) (f l:Nat):List Int:=(List.range rs.length).map fun j=>if f≤j∧j≤l then - rs.getD (f + l - j) 0 else rs.getD j 0
theorem turnP_len (rs:List Int) (f l:Nat):(turnP rs f l).length = rs.length:=by unfold turnP;rw [List.length_map,List.length_range]
theorem turnP_get {rs:List Int} {f l j:Nat} (h:j < rs.length):(turnP rs f l)[j]? = some (if f≤j∧j≤l then - rs.getD (f + l - j) 0 else rs.getD j 0):=by
 unfold turnP
 rw [List.getElem?_map,List.getElem?_range h]
 rfl
theorem turnP_getD {rs:List Int} {f l j:Nat} (h:j < rs.length):(turnP rs f l).getD j 0 = if f≤j∧j≤l then - rs.getD (f + l - j) 0 else rs.getD j 0:=by
 rw [List.getD,turnP_get h]
 rfl
theorem getD_get {rs:List Int} {j:Nat} (h:j < rs.length):rs[j]? = some (rs.getD j 0):=by
 rw [List.getD,List.getElem?_eq_getElem h]
 rfl
theorem turnP_back {rs:List Int} {f l:Nat} (h1:f≤l) (h2:l < rs.length):turnP (turnP rs f l) f l = rs:=by
 refine List.ext_getElem? fun j=>?_
 by_cases hj:j < rs.length
 ·rw [turnP_get (by rw [turnP_len];exact hj),getD_get hj]
  congr 1
  by_cases c:f≤j∧j≤l
  ·rw [if_pos c,turnP_getD (by omega),if_pos (by omega),Int.neg_neg]
   congr 1
   omega
  ·rw [if_neg c,turnP_getD hj,if_neg c]
 ·rw [List.getElem?_eq_none (by rw [turnP_len,turnP_len];omega),List.getElem?_eq_none (by omega)]
theorem turnP_parts {rs:List Int} {f l:Nat} (h1:f≤l) (h2:l < rs.length):rs.take f ++ ((rs.drop f).take (l + 1 - f)).reverse.map (fun x=>-x) ++ rs.drop (l + 1) = turnP rs f l:=by
 refine List.ext_getElem? fun j=>?_
 have hm:(((rs.drop f).take (l + 1 - f)).reverse.map (fun x=>-x)).length = l + 1 - f:=by rw [List.length_map,List.length_reverse,List.length_take,List.length_drop];omega
 have ht:(rs.take f).length = f:=by rw [List.length_take];omega
 by_cases hj:j < rs.length
 ·rw [turnP_get hj]
  by_cases c1:j < f
  ·rw [if_neg (by omega),List.append_assoc,List.getElem?_append_left (by omega),List.getElem?_take,if_pos c1,getD_get hj]
  ·by_cases c2:j≤l
   ·rw [if_pos ⟨by omega,c2⟩,List.getElem?_append_left (by rw [List.length_append,hm,ht];omega),List.getElem?_append_right (by omega),ht,List.getElem?_map,
     List.getElem?_reverse (by rw [List.length_take,List.length_drop];omega),List.length_take,List.length_drop,List.getElem?_take,if_pos (by omega),List.getElem?_drop]
    have e:f + (min (l + 1 - f) (rs.length - f) - 1 - (j - f)) = f + l - j:=by omega
    rw [e,getD_get (by omega)]
    rfl
   ·rw [if_neg (by omega),List.getElem?_append_right (by rw [List.length_append,hm,ht];omega),List.length_append,hm,ht,List.getElem?_drop]
    have e:l + 1 + (j - (f + (l + 1 - f))) = j:=by omega
    rw [e,getD_get hj]
 ·rw [List.getElem?_eq_none (l:=turnP rs f l) (by rw [turnP_len];omega),List.getElem?_eq_none]
  rw [List.length_append,List.length_append,hm,ht,List.length_drop]
  omega
theorem cut_mid {xs:List V} {f l:Nat} (h1:f≤l) (h2:l≤xs.length):cutV xs (some (f:Int)) (some (l:Int)) = (xs.drop f).take (l - f):=by
 unfold cutV
 have e1:HT.sIx xs.length 0 (some (f:Int)) = f:=by unfold HT.sIx;simp only;rw [if_neg (by omega),Int.toNat_natCast];omega
 have e2:HT.sIx xs.length xs.length (some (l:Int)) = l:=by unfold HT.sIx;simp only;rw [if_neg (by omega),Int.toNat_natCast];omega
 rw [e1,e2]
noncomputable def TurnOk (n:Nat) (p:Int×Int):Prop:=0≤p.1∧p.1≤p.2∧p.2 < n
noncomputable def allTurns (n k:Nat):List (Int×Int):=(List.range k).flatMap fun f=>(List.range (n - f)).map fun (i:Nat)=>((f:Int),(f:Int) + i)
theorem allTurns_succ (n k:Nat):allTurns n (k + 1) = allTurns n k ++ (List.range (n - k)).map fun (i:Nat)=>((k:Int),(k:Int) + i):=by
 unfold allTurns
 rw [List.range_succ,List.flatMap_append]
 simp
theorem allTurns_len (n:Nat):∀ k,(allTurns n k).length≤n * k
 | 0=>by simp [allTurns]
 | k + 1=>by
  rw [allTurns_succ,List.length_append,List.length_map,List.length_range,Nat.mul_succ]
  have:=allTurns_len n k
  omega
noncomputable def Sm6 (i:Int):Prop:=i.natAbs.log2 < 1920
theorem Sm6.of {i:Int} (h1:-(10 ^ 61:Int) < i) (h2:i < (10 ^ 61:Int)):Sm6 i:=by
 unfold Sm6
 by_cases z:i.natAbs = 0
 ·rw [z];decide
 ·refine (Nat.log2_lt z).mpr (Nat.lt_of_lt_of_le (m:=10 ^ 61) ?_ (by decide +kernel))
  omega
noncomputable def spTurnAbout (C:Addr):Sp:=fun vs H Q E=>∃ (t:Addr) (rs:List Int) (f l:Int),vs = [.ref t,.int f,.int l]∧H t = some (.tup (iV rs))∧rs.length≤100∧Sm6 f∧Sm6 l ∧
 (TurnOk rs.length (f,l)→∀ (t':Addr) (H':Hp),Same H H'→H' t' = some (.tup (iV (turnP rs f.toNat l.toNat)))→Q (.ref t') H')∧(¬ TurnOk rs.length (f,l)→∀ H':Hp,Same H H'→E (.ref C) none H')
noncomputable def spTurnsAll:Sp:=fun vs H Q _=>∃ n:Nat,vs = [.int n]∧n≤40∧∀ (l:Addr) (H':Hp),H l = none→Same H H'→TsT pr H' l (allTurns n n)→Q (.ref l) H'
noncomputable def spLawTurn:Sp:=fun vs H Q _=>∃ (t:Addr) (rs:List Int) (f l:Nat),vs = [.ref t,.int f,.int l]∧H t = some (.tup (iV rs))∧rs.length≤100∧f≤l∧l < rs.length ∧
 ∀ (t':Addr) (H':Hp),Same H H'→H' t' = some (.tup (iV (turnP rs f l)))→Q (.ref t') H'
end Mir


namespace Mir
open PySem L2
noncomputable def idx (os:List Int) (a:Int):Nat:=(absL os).idxOf a
theorem from1_mem {n:Nat} {a:Int}:a∈from1 n↔1≤a∧a≤n:=by
 unfold from1
 rw [List.mem_map]
 constructor
 ·rintro ⟨i,hi,rfl⟩
  have:=List.mem_range.mp hi
  omega
 ·rintro ⟨h1,h2⟩
  exact ⟨(a - 1).toNat,List.mem_range.mpr (by omega),by omega⟩
theorem absL_get {os:List Int} {j:Nat} (h:j < os.length):(absL os)[j]? = some (absI (os.getD j 0)):=by
 unfold absL
 rw [List.getElem?_map,getD_get h]
 rfl
theorem idx_lt {os:List Int} {a:Int} (h:a∈absL os):idx os a < os.length∧absI (os.getD (idx os a) 0) = a:=by
 have h1:(absL os).idxOf a < (absL os).length:=List.idxOf_lt_length_iff.mpr h
 have h2:(absL os)[(absL os).idxOf a] = a:=List.getElem_idxOf h1
 have h3:idx os a < os.length:=by rw [← absL_len os];exact h1
 refine ⟨h3,?_⟩
 have h4:=absL_get h3
 have h5:(absL os)[idx os a]? = some a:=by unfold idx;rw [List.getElem?_eq_getElem h1];exact congrArg some h2
 rw [h4] at h5
 exact Option.some.inj h5
theorem absI_neg (x:Int):absI (-x) = absI x:=by unfold absI;split <;> split <;> omega
theorem absI_pos (x:Int):0≤absI x:=by unfold absI;split <;> omega
theorem from1_abs (n:Nat):absL (from1 n) = from1 n:=by
 unfold absL
 conv=>rhs;rw [← List.map_id (from1 n)]
 refine List.map_congr_left fun a ha=>?_
 have:=from1_mem.mp ha
 unfold absI
 rw [if_neg (by omega)]
 rfl
theorem from1_fit {n:Nat} (h:n≤40):Fit (from1 n):=⟨by rw [from1_len];exact h,by rw [from1_abs,from1_len]⟩
end Mir

namespace Mir
theorem turnP_fit {rs:List Int} (h:Fit rs) {f l:Nat} (h1:f≤l) (h2:l < rs.length):Fit (turnP rs f l):=by
 refine ⟨by rw [turnP_len];exact h.small,?_⟩
 rw [turnP_len]
 refine List.Perm.trans ?_ h.perm
 rw [← turnP_parts h1 h2]
 have e:rs = rs.take f ++ (rs.drop f).take (l + 1 - f) ++ rs.drop (l + 1):=by
  have e1:rs.drop (l + 1) = (rs.drop f).drop (l + 1 - f):=by rw [List.drop_drop];congr 1;omega
  rw [e1,List.append_assoc,List.take_append_drop,List.take_append_drop]
 have e2:absL rs = absL (rs.take f) ++ absL ((rs.drop f).take (l + 1 - f)) ++ absL (rs.drop (l + 1)):=by
  conv=>lhs;rw [e]
  unfold absL
  rw [List.map_append,List.map_append]
 rw [e2]
 unfold absL
 rw [List.map_append,List.map_append,List.map_map]
 refine List.Perm.append_right _ (List.Perm.append_left _ ?_)
 have e3:((rs.drop f).take (l + 1 - f)).reverse.map (absI ∘ fun x=>-x) = (((rs.drop f).take (l + 1 - f)).map absI).reverse:=by
  rw [← List.map_reverse]
  exact List.map_congr_left fun x _=>absI_neg x
 rw [e3]
 exact List.reverse_perm _
noncomputable def frm (rs:List Int):List Int:=0 :: (rs ++ [(rs.length:Int) + 1])
theorem frm_len (rs:List Int):(frm rs).length = rs.length + 2:=by unfold frm;simp
theorem frm_zero (rs:List Int):(frm rs).getD 0 0 = 0:=rfl
theorem frm_last (rs:List Int):(frm rs).getD (rs.length + 1) 0 = (rs.length:Int) + 1:=by
 unfold frm
 rw [List.getD,List.getElem?_cons_succ,List.getElem?_append_right (Nat.le_refl _),Nat.sub_self]
 rfl
noncomputable def from0 (n:Nat):List Int:=(List.range n).map fun (i:Nat)=>(i:Int)
theorem from0_mem {n:Nat} {a:Int}:a∈from0 n↔0≤a∧a < n:=by
 unfold from0
 rw [List.mem_map]
 constructor
 ·rintro ⟨i,hi,rfl⟩
  have:=List.mem_range.mp hi
  omega
 ·rintro ⟨h1,h2⟩
  exact ⟨a.toNat,List.mem_range.mpr (by omega),by omega⟩
theorem from0_nodup (n:Nat):(from0 n).Nodup:=by
 unfold from0
 rw [List.nodup_iff_pairwise_ne,List.pairwise_map]
 exact List.pairwise_lt_range.imp fun h=>by omega
theorem from0_cons (n:Nat):from0 (n + 1) = 0 :: from1 n:=by
 unfold from0 from1
 rw [List.range_succ_eq_map,List.map_cons,List.map_map]
 congr 1
 refine List.map_congr_left fun i _=>?_
 show ((i + 1:Nat):Int) = 1 + (i:Int)
 omega
theorem frm_perm {rs:List Int} (h:Fit rs):(absL (frm rs)).Perm (from0 (rs.length + 2)):=by
 have e:absL (frm rs) = 0 :: (absL rs ++ [(rs.length:Int) + 1]):=by
  unfold absL frm
  rw [List.map_cons,List.map_append]
  have e1:absI ((rs.length:Int) + 1) = (rs.length:Int) + 1:=by unfold absI;rw [if_neg (by omega)]
  show 0 :: (_ ++ [absI ((rs.length:Int) + 1)]) = _
  rw [e1]
 rw [e,from0_cons,from1_succ]
 exact (h.perm.append_right _).cons _
theorem frm_nodup {rs:List Int} (h:Fit rs):(absL (frm rs)).Nodup:=(frm_perm h).nodup_iff.mpr (from0_nodup _)
theorem frm_mem {rs:List Int} (h:Fit rs) {a:Int}:a∈absL (frm rs)↔0≤a∧a < rs.length + 2:=by rw [(frm_perm h).mem_iff,from0_mem];omega
theorem frm_abs {rs:List Int} (h:Fit rs) {j:Nat} (hj:j < rs.length + 2):0≤absI ((frm rs).getD j 0)∧absI ((frm rs).getD j 0) < rs.length + 2 :=
 (frm_mem h).mp (List.mem_of_getElem? (absL_get (by rw [frm_len];exact hj)))
noncomputable abbrev plF (rs:List Int) (k:Nat):Nat:=idx (frm rs) (k:Int)
theorem plF_lt {rs:List Int} (h:Fit rs) {k:Nat} (hk:k < rs.length + 2):plF rs k < rs.length + 2∧absI ((frm rs).getD (plF rs k) 0) = k:=by
 have z:=idx_lt (os:=frm rs) (a:=(k:Int)) ((frm_mem h).mpr (by omega))
 rw [frm_len] at z
 exact z
noncomputable def isOpen (fs:List Int) (g:Nat):Bool:=decide (fs.getD (g + 1) 0≠fs.getD g 0 + 1)
noncomputable def openL (fs:List Int) (m:Nat):List Int:=((List.range m).filter (isOpen fs)).map fun (g:Nat)=>(g:Int)
noncomputable def lvAt (fs:List Int) (p:Nat):Int:=if fs.getD p 0 < 0 then (p:Int) - 1 else p
noncomputable def cmAt (fs:List Int) (p:Nat):Int:=if fs.getD p 0 < 0 then (p:Int) else (p:Int) - 1
noncomputable def lvOf (rs:List Int) (k:Nat):Int:=lvAt (frm rs) (plF rs k)
noncomputable def cmOf (rs:List Int) (k:Nat):Int:=cmAt (frm rs) (plF rs k)
noncomputable def tieI (rs:List Int) (k:Nat):Int×Int:=(lvOf rs k,cmOf rs (k + 1))
noncomputable def tieL (rs:List Int):List (Int×Int):=(List.range (rs.length + 1)).map (tieI rs)
theorem tieL_len (rs:List Int):(tieL rs).length = rs.length + 1:=by unfold tieL;rw [List.length_map,List.length_range]
theorem tieL_get {rs:List Int} {k:Nat} (h:k < rs.length + 1):(tieL rs)[k]? = some (tieI rs k):=by unfold tieL;rw [List.getElem?_map,List.getElem?_range h];rfl
end Mir

namespace Mir
noncomputable def amA (fs:List Int) (a j:Nat):Int:=if fs.getD a 0 < 0 then - absI (fs.getD j 0) else absI (fs.getD j 0)
structure Wh (fs:List Int) (a b:Nat):Prop where
 lt:a < b
 lb:b < fs.length
 mid:∀ j,a < j→j≤b→fs.getD a 0≤amA fs a j∧amA fs a j≤fs.getD b 0
 own:fs.getD b 0 = amA fs a b
 far:fs.getD b 0 = fs.getD a 0 + ((b:Int) - (a:Int))
theorem amA_self (fs:List Int) (a:Nat):amA fs a a = fs.getD a 0:=by
 unfold amA absI
 split <;> omega
theorem amA_inj {fs:List Int} (nd:(absL fs).Nodup) {a i j:Nat} (hi:i < fs.length) (hj:j < fs.length) (e:amA fs a i = amA fs a j):i = j:=by
 have e:absI (fs.getD i 0) = absI (fs.getD j 0):=by
  unfold amA at e
  split at e <;> omega
 have a1:=absL_get (os:=fs) hi
 have a2:=absL_get (os:=fs) hj
 rw [e] at a1
 exact (List.getElem?_inj (by rw [absL_len];exact hi) nd).mp (a1.trans a2.symm)
structure Seek (fs:List Int) (a c:Nat) (hi:Int):Prop where
 lo:∀ j,a < j→j < c→fs.getD a 0≤amA fs a j
 up:∀ j,a≤j→j < c→amA fs a j≤hi
 is:∃ j,a≤j∧j < c∧hi = amA fs a j
theorem Seek.first (fs:List Int) (a:Nat):Seek fs a (a + 1) (fs.getD a 0):=by
 refine ⟨fun j h1 h2=>by omega,fun j h1 h2=>?_,⟨a,by omega,by omega,by rw [amA_self]⟩⟩
 have e:j = a:=by omega
 rw [e,amA_self]
 exact Int.le_refl _
theorem Seek.next {fs:List Int} {a c:Nat} {hi:Int} (h:Seek fs a c hi) (hac:a < c) (hlo:fs.getD a 0≤amA fs a c):Seek fs a (c + 1) (if amA fs a c > hi then amA fs a c else hi):=by
 refine ⟨fun j h1 h2=>?_,fun j h1 h2=>?_,?_⟩
 ·by_cases e:j = c
  ·rw [e];exact hlo
  ·exact h.lo j h1 (by omega)
 ·by_cases e:j = c
  ·rw [e];split <;> omega
  ·have:=h.up j h1 (by omega)
   split <;> omega
 ·by_cases c':amA fs a c > hi
  ·rw [if_pos c'];exact ⟨c,by omega,by omega,rfl⟩
  ·rw [if_neg c']
   obtain ⟨j,h1,h2,h3⟩:=h.is
   exact ⟨j,h1,by omega,h3⟩
theorem Seek.wh {fs:List Int} (nd:(absL fs).Nodup) {a c:Nat} {hi:Int} (h:Seek fs a (c + 1) hi) (hac:a < c) (hc:c < fs.length):(fs.getD c 0 = hi∧hi = fs.getD a 0 + (c:Int) - (a:Int))↔Wh fs a c:=by
 constructor
 ·rintro ⟨e1,e2⟩
  obtain ⟨j,h1,h2,h3⟩:=h.is
  have ej:j = c:=by
   by_cases ja:j = a
   ·rw [ja,amA_self] at h3
    omega
   ·have hj:absI (fs.getD j 0) = absI (fs.getD c 0):=by
     have aa:∀ x:Int,absI (absI x) = absI x:=fun x=>by
      have:=absI_pos x
      generalize absI x = y at this
      unfold absI
      rw [if_neg (by omega)]
     rw [e1,h3]
     unfold amA
     split
     ·rw [absI_neg,aa]
     ·rw [aa]
    have a1:=absL_get (os:=fs) (j:=j) (by omega)
    have a2:=absL_get (os:=fs) hc
    rw [hj] at a1
    exact (List.getElem?_inj (by rw [absL_len];omega) nd).mp (a1.trans a2.symm)
  refine ⟨hac,hc,fun i h1 h2=>⟨h.lo i h1 (by omega),?_⟩,?_,by omega⟩
  ·rw [e1];exact h.up i (by omega) (by omega)
  ·rw [e1,h3,ej]
 ·intro W
  have e1:hi = fs.getD c 0:=by
   have u:=h.up c (by omega) (by omega)
   rw [← W.own] at u
   obtain ⟨j,h1,h2,h3⟩:=h.is
   have v:amA fs a j≤fs.getD c 0:=by
    by_cases ja:j = a
    ·rw [ja,amA_self];have:=W.far;omega
    ·exact (W.mid j (by omega) (by omega)).2
   omega
  exact ⟨e1.symm,by rw [e1,W.far];omega⟩
theorem Wh.stop {fs:List Int} {a c b:Nat} (hac:a < c) (h:amA fs a c < fs.getD a 0) (hb:c≤b):¬ Wh fs a b:=fun W=>by
 have:=(W.mid c hac hb).1
 omega
theorem Wh.rest {fs:List Int} (nd:(absL fs).Nodup) {a c b:Nat} (h1:Wh fs a c) (h2:Wh fs a b) (hcb:c < b):Wh fs c b:=by
 have hac:=h1.lt
 have sg:∀ j,amA fs c j = amA fs a j:=fun j=>by
  have e:=h1.own
  unfold amA at e ⊢
  by_cases s:fs.getD a 0 < 0
  ·rw [if_pos s] at e
   by_cases t:fs.getD c 0 < 0
   ·rw [if_pos s,if_pos t]
   ·exfalso
    have z:=absI_pos (fs.getD c 0)
    have z0:fs.getD c 0 = 0:=by omega
    have hm:=(h2.mid b (by omega) (Nat.le_refl _))
    have hb:=h2.far
    have hc:=h1.far
    have ob:=h2.own
    unfold amA at ob
    rw [if_pos s] at ob
    have zb:=absI_pos (fs.getD b 0)
    omega
  ·rw [if_neg s] at e
   have z:=absI_pos (fs.getD c 0)
   rw [if_neg s,if_neg (by omega)]
 have above:∀ j,c < j→j≤b→fs.getD c 0 < amA fs a j:=fun j hj hjb=>by
  refine Classical.byContradiction fun z=>?_
  have z:amA fs a j≤fs.getD c 0:=by omega
  have lo:=(h2.mid j (by omega) hjb).1
  have key:∀ (m:Nat),∀ (S:List Nat),S.Nodup→(∀ i∈S,i < fs.length∧fs.getD a 0≤amA fs a i∧amA fs a i < fs.getD a 0 + m)→S.length≤m:=by
   intro m
   induction m with
   | zero =>
    intro S _ hS
    cases S with
    | nil=>exact Nat.le_refl _
    | cons i r=>have:=hS i (List.mem_cons_self ..);omega
   | succ m ih =>
    intro S hn hS
    by_cases c0:∃ i∈S,amA fs a i = fs.getD a 0 + m
    ·obtain ⟨i,hi,ei⟩:=c0
     have l1:(S.erase i).length = S.length - 1:=List.length_erase_of_mem hi
     have l2:=ih (S.erase i) (hn.erase i) fun k hk=>by
      have hk':=(List.Nodup.mem_erase_iff hn).mp hk
      have q:=hS k hk'.2
      refine ⟨q.1,q.2.1,?_⟩
      have ne:amA fs a k≠fs.getD a 0 + m:=fun e=>hk'.1 (amA_inj nd q.1 (hS i hi).1 (e.trans ei.symm))
      omega
     have:=List.length_pos_of_mem hi
     omega
    ·have:=ih S hn fun k hk=>by
      have q:=hS k hk
      refine ⟨q.1,q.2.1,?_⟩
      have ne:amA fs a k≠fs.getD a 0 + m:=fun e=>c0 ⟨k,hk,e⟩
      omega
     omega
  have S:=key (c - a + 1) (j :: (List.range (c - a + 1)).map (· + a)) (by
   rw [List.nodup_cons]
   refine ⟨fun hm=>?_,?_⟩
   ·obtain ⟨i,hi,e⟩:=List.mem_map.mp hm
    have:=List.mem_range.mp hi
    omega
   ·rw [List.nodup_iff_pairwise_ne,List.pairwise_map]
    exact List.pairwise_lt_range.imp fun h=>by omega) (fun i hi=>by
   have hf:=h1.far
   have hlb:=h2.lb
   rcases List.mem_cons.mp hi with rfl | hi
   ·exact ⟨by omega,lo,by omega⟩
   ·obtain ⟨k,hk,rfl⟩:=List.mem_map.mp hi
    have hk:=List.mem_range.mp hk
    by_cases k0:k = 0
    ·rw [k0,Nat.zero_add,amA_self]
     exact ⟨by omega,Int.le_refl _,by omega⟩
    ·have q:=h1.mid (k + a) (by omega) (by omega)
     exact ⟨by omega,q.1,by omega⟩)
  rw [List.length_cons,List.length_map,List.length_range] at S
  omega
 refine ⟨hcb,h2.lb,fun j k1 k2=>?_,?_,?_⟩
 ·rw [sg]
  exact ⟨Int.le_of_lt (above j k1 k2),(h2.mid j (by omega) k2).2⟩
 ·rw [sg];exact h2.own
 ·have:=h1.far
  have:=h2.far
  omega
noncomputable def Kn (fs:List Int) (a b:Nat):Prop:=Wh fs a b∧∀ c,c < b→¬ Wh fs a c
end Mir


set_option maxHeartbeats 2000000
namespace SrtR
open PySem PyProof.Rows
class RkP where
 G:Keyed→Prop
 nm:Keyed→Int
 kd:SortKind
variable [RkP]
noncomputable def num (p:Keyed):Int:=RkP.nm p
noncomputable def K (xs:Array Keyed) (i:Nat):Int:=match xs[i]? with
 | some p=>num p
 | none=>0
noncomputable def IntKeys (xs:Array Keyed):Prop:=∀ p∈xs.toList,RkP.G p
noncomputable def SortedTo (xs:Array Keyed) (k:Nat):Prop:=∀ i j,i≤j→j < k→K xs i≤K xs j
noncomputable abbrev oneType':SortKind:=RkP.kd
noncomputable def Asks (prog:Program) (w:World) (A:Around) (s:Shared):Prop:=∀ x y:Keyed,RkP.G x→RkP.G y→∀ (E:Value→Shared→Prop) (Q:Bool→Shared→Prop),Q (decide (num x < num y)) s→wpAny (model prog w) A (keyLt' oneType' x.1 y.1) Q E s
structure IKA (prog:Program) (w:World) (A:Around) (s:Shared) (xs:Array Keyed):Prop where
 ik:IntKeys xs
 as:Asks prog w A s
theorem K_congr {xs ys:Array Keyed} {i j:Nat} (h:xs[i]? = ys[j]?):K xs i = K ys j:=by unfold K;rw [h]
theorem K_bubble {xs:Array Keyed} {src d:Nat} (hs:src < xs.size) (hd:d≤src) (k:Nat):K (bubble xs src d) k = if k = src - d then K xs src else if src - d < k∧k≤src then K xs (k - 1) else K xs k:=by
 have e:=getElem?_bubble hs d hd k
 split at e
 ·rw [if_pos (by assumption)];exact K_congr e
 ·rw [if_neg (by assumption)]
  split at e
  ·rw [if_pos (by assumption)];exact K_congr e
  ·rw [if_neg (by assumption)];exact K_congr e
theorem K_mirror {xs:Array Keyed} {i j:Nat} (hj:j≤xs.size) (k:Nat):K (mirror xs i j ((j - i) / 2)) k = if i≤k∧k < j then K xs (i + j - 1 - k) else K xs k:=by
 have e:=getElem?_mirror_all (i:=i) hj k
 split at e
 ·rw [if_pos (by assumption)];exact K_congr e
 ·rw [if_neg (by assumption)];exact K_congr e
theorem K_mirror_equal {xs:Array Keyed} {i j:Nat} (hj:j≤xs.size) (heq:∀ k,i≤k→k < j→K xs k = K xs (j - 1)) (k:Nat):K (mirror xs i j ((j - i) / 2)) k = K xs k:=by
 rw [K_mirror hj]
 by_cases c:i≤k∧k < j
 ·rw [if_pos c,heq k c.1 c.2]
  exact heq _ (by omega) (by omega)
 ·rw [if_neg c]
section
variable {prog:Program} {w:World} {A:Around} {E:Value→Shared→Prop} {s:Shared}
theorem wpS_lt {st:SortSt} {x y:Keyed} {i j:Int} {Q:Option Bool→SortSt→Prop} (as:Asks prog w A s) (hk:kindOf st = oneType') (hx:RkP.G x∧num x = i) (hy:RkP.G y∧num y = j) (h:Q (some (decide (i < j))) st):wpS (model prog w) A E s (lt' x y) Q st:=by
 rw [lt'_eq]
 refine wpS_bind (wpS_get ?_)
 rw [hk]
 refine wpS_bind (wpS_lift (wpAny_attempt (as x y hx.1 hy.1 _ _ ⟨rfl,?_⟩)))
 rw [hx.2,hy.2]
 exact wpS_pure h
theorem wpS_elem {st:SortSt} {arr:Array Keyed} {i:Nat} {Q:Keyed→SortSt→Prop} {p:Keyed} (hp:arr[i]? = some p) (h:Q p st):wpS (model prog w) A E s (elem' arr i) Q st:=by
 rw [elem'_eq,hp]
 exact wpS_pure h
theorem wpS_ite {α:Type} {c:Prop} [Decidable c] {m m':StateT SortSt Sem α} {Q:α→SortSt→Prop} {st:SortSt} (h1:c→wpS (model prog w) A E s m Q st) (h2:¬ c→wpS (model prog w) A E s m' Q st):wpS (model prog w) A E s (if c then m else m') Q st:=by
 by_cases h:c
 ·rw [if_pos h];exact h1 h
 ·rw [if_neg h];exact h2 h
end
section
variable {a b out:Array Keyed} {ia ib k:Nat}
theorem num_K {xs:Array Keyed} {i:Nat} {p:Keyed} (h:xs[i]? = some p):K xs i = num p:=by unfold K;rw [h]
end
structure SB (a₀:Array Keyed) (pd:Array (Nat×Nat×Nat)) (lo:Nat) (f:Nat→Int) (st:SortSt):Prop where
 perm:(arrOf st).Perm a₀
 kd:kindOf st = oneType'
 fl:failedOf st = none
 pd:pendingOf st = pd
 pre:∀ i,i < lo→K (arrOf st) i = f i
section
variable {a₀:Array Keyed} {pd:Array (Nat×Nat×Nat)} {lo:Nat} {f:Nat→Int} {st:SortSt}
theorem SB.sz (h:SB a₀ pd lo f st):(arrOf st).size = a₀.size:=h.perm.size_eq
theorem SB.put (h:SB a₀ pd lo f st) {xs:Array Keyed} (hp:xs.Perm (arrOf st)) (hk:∀ i,i < lo→K xs i = K (arrOf st) i):SB a₀ pd lo f (setArr st xs):=⟨hp.trans h.perm,h.kd,h.fl,h.pd,fun i hi=>(hk i hi).trans (h.pre i hi)⟩
theorem SB.item (h:SB a₀ pd lo f st) (h0:IntKeys a₀) {i:Nat} (hi:i < a₀.size):∃ p,(arrOf st)[i]? = some p∧RkP.G p∧num p = K (arrOf st) i:=by
 have hi':i < (arrOf st).size:=h.sz.symm ▸ hi
 have e:(arrOf st)[i]? = some (arrOf st)[i]:=getElem?_pos _ i hi'
 exact ⟨(arrOf st)[i],e,h0 _ ((Array.perm_iff_toList_perm.mp h.perm).mem_iff.mp (Array.getElem_mem_toList hi')),(num_K e).symm⟩
end
noncomputable def AscL (lo:Nat) (xs:Array Keyed) (n:Nat):Prop:=∀ i j,i≤j→j < n→K xs (lo + i)≤K xs (lo + j)
noncomputable def DscL (lo:Nat) (xs:Array Keyed) (n:Nat):Prop:=∀ i j,i≤j→j < n→K xs (lo + j)≤K xs (lo + i)
theorem AscL.more {lo n:Nat} {xs:Array Keyed} (h:AscL lo xs n) (hn:1≤n) (k:K xs (lo + n - 1)≤K xs (lo + n)):AscL lo xs (n + 1):=fun i j hij hj=>by
 by_cases c:j < n
 ·exact h i j hij c
 ·obtain rfl:j = n:=by omega
  by_cases d:i = j
  ·rw [d];exact Int.le_refl _
  ·have z:=h i (j - 1) (by omega) (by omega)
   rw [show lo + (j - 1) = lo + j - 1 by omega] at z
   exact Int.le_trans z k
theorem DscL.more {lo n:Nat} {xs:Array Keyed} (h:DscL lo xs n) (hn:1≤n) (k:K xs (lo + n)≤K xs (lo + n - 1)):DscL lo xs (n + 1):=fun i j hij hj=>by
 by_cases c:j < n
 ·exact h i j hij c
 ·obtain rfl:j = n:=by omega
  by_cases d:i = j
  ·rw [d];exact Int.le_refl _
  ·have z:=h i (j - 1) (by omega) (by omega)
   rw [show lo + (j - 1) = lo + j - 1 by omega] at z
   exact Int.le_trans k z
theorem AscL.one {lo:Nat} {xs:Array Keyed}:AscL lo xs 1:=fun i j hij hj=>by
 obtain rfl:i = j:=by omega
 exact Int.le_refl _
theorem DscL.one {lo:Nat} {xs:Array Keyed}:DscL lo xs 1:=fun i j hij hj=>by
 obtain rfl:i = j:=by omega
 exact Int.le_refl _
theorem DscL.congr {lo n:Nat} {xs ys:Array Keyed} (h:DscL lo xs n) (e:∀ k,K ys k = K xs k):DscL lo ys n:=fun i j hij hj=>by rw [e,e];exact h i j hij hj
noncomputable def upL (lo a m:Nat):StateT SortSt Sem AscSt :=
 forIn [a:m] ((none,a):AscSt) fun _ c=>do
  let x ← ltAt' (lo + c.2) (lo + c.2 - 1)
  match x with
  | some b=>if b = true then pure (ForInStep.done (none,c.2)) else pure (ForInStep.yield (none,c.2 + 1))
  | _=>pure (ForInStep.done (some none,c.2))
noncomputable def endL (lo n m:Nat):StateT SortSt Sem (Option Nat):=do
 reverseSlice' lo (lo + n)
 let c ← upL lo n m
 match c.1 with
 | some r=>pure r
 | none=>pure (some c.2)
noncomputable def downL (lo n m:Nat):StateT SortSt Sem DescSt :=
 forIn [n:m] ((none,n,0):DescSt) fun _ c=>do
  let x ← ltAt' (lo + c.2.1) (lo + c.2.1 - 1)
  match x with
  | some b =>
   if b = true then
    if c.2.2 > 0 then do
     reverseSlice' (lo + c.2.1 - (c.2.2 + 1)) (lo + c.2.1)
     pure (ForInStep.yield (none,c.2.1 + 1,0))
    else pure (ForInStep.yield (none,c.2.1 + 1,0))
   else do
    let y ← ltAt' (lo + c.2.1 - 1) (lo + c.2.1)
    match y with
    | some g=>if g = true then pure (ForInStep.done (none,c.2.1,c.2.2)) else pure (ForInStep.yield (none,c.2.1 + 1,c.2.2 + 1))
    | _=>pure (ForInStep.done (some none,c.2.1,c.2.2))
  | _=>pure (ForInStep.done (some none,c.2.1,c.2.2))
noncomputable def downP (lo n m:Nat):StateT SortSt Sem (Option Nat):=do
 liftM (rule "list.sort.descending-run")
 let c ← downL lo (n + 1) m
 match c.1 with
 | some r=>pure r
 | none =>
  if c.2.2 > 0 then do
   reverseSlice' (lo + c.2.1 - (c.2.2 + 1)) (lo + c.2.1)
   endL lo c.2.1 m
  else endL lo c.2.1 m
theorem countL_eq (lo m:Nat):countRun' lo m = (do
  let c ← upL lo 1 m
  match c.1 with
  | some r=>pure r
  | none =>
   if (c.2 == m) = true then pure (some c.2)
   else if c.2 > 1 then do
    let x ← ltAt' lo (lo + c.2 - 1)
    match x with
    | some b=>if b = true then pure (some c.2) else do
      reverseSlice' lo (lo + c.2)
      downP lo c.2 m
    | _=>pure none
   else downP lo c.2 m):=by
 rw [countRun'_eq]
 dsimp only
 unfold downP endL downL upL
 congr 1
 funext c
 obtain ⟨r,n⟩:=c
 cases r with
 | some r=>rfl
 | none =>
  dsimp only
  split
  ·rfl
  ·split
   ·congr 1;funext x
    cases x with
    | none=>rfl
    | some b =>
     dsimp only
     split
     ·rfl
     ·congr 1;funext _r
      congr 1;funext _u
      congr 1;congr 1;funext s2
      obtain ⟨r2,n2,q2⟩:=s2
      cases r2 with
      | some r2=>rfl
      | none =>
       dsimp only
       split
       ·congr 1;funext _v;congr 1;funext _w;congr 1;funext s3;obtain ⟨r3,n3⟩:=s3;cases r3 <;> rfl
       ·congr 1;funext _w;congr 1;funext s3;obtain ⟨r3,n3⟩:=s3;cases r3 <;> rfl
   ·congr 1;funext _u
    congr 1;congr 1;funext s2
    obtain ⟨r2,n2,q2⟩:=s2
    cases r2 with
    | some r2=>rfl
    | none =>
     dsimp only
     split
     ·congr 1;funext _v;congr 1;funext _w;congr 1;funext s3;obtain ⟨r3,n3⟩:=s3;cases r3 <;> rfl
     ·congr 1;funext _w;congr 1;funext s3;obtain ⟨r3,n3⟩:=s3;cases r3 <;> rfl
theorem bub_if {f:Nat→Int} {lo l k i:Nat} (hi:i≤k):(if lo + i = lo + l then f (lo + k) else if lo + l < lo + i∧lo + i≤lo + k then f (lo + i - 1) else f (lo + i)) = if i = l then f (lo + k) else if i < l then f (lo + i) else f (lo + (i - 1)):=by
 by_cases c:i = l
 ·rw [if_pos (congrArg _ c),if_pos c]
 ·rw [if_neg (fun z=>c (Nat.add_left_cancel z)),if_neg c]
  by_cases d:i < l
  ·rw [if_neg (fun z=>Nat.lt_asymm d (Nat.lt_of_add_lt_add_left z.1)),if_pos d]
  ·rw [if_pos ⟨Nat.add_lt_add_left (Nat.lt_of_le_of_ne (Nat.le_of_not_lt d) (Ne.symm c)) lo,Nat.add_le_add_left hi lo⟩,if_neg d,Nat.add_sub_assoc (by omega)]
theorem bub_asc {X Y:Nat→Int} {l k:Nat} (hY:∀ i,i≤k→Y i = if i = l then X k else if i < l then X i else X (i - 1)) (up:∀ i j,i≤j→j < k→X i≤X j) (p4:∀ i,i < l→X i≤X k) (p5:∀ i,l≤i→i < k→X k < X i) (i j:Nat) (hij:i≤j) (hj:j≤k):Y i≤Y j:=by
 rw [hY i (Nat.le_trans hij hj),hY j hj]
 by_cases ci:i = l
 ·rw [if_pos ci]
  by_cases cj:j = l
  ·rw [if_pos cj];exact Int.le_refl _
  ·rw [if_neg cj,if_neg (by omega)];exact Int.le_of_lt (p5 _ (by omega) (by omega))
 ·rw [if_neg ci]
  by_cases ci2:i < l
  ·rw [if_pos ci2]
   by_cases cj:j = l
   ·rw [if_pos cj];exact p4 i ci2
   ·rw [if_neg cj]
    by_cases cj2:j < l
    ·rw [if_pos cj2]
     by_cases cl:l≤k
     ·exact up i j hij (Nat.lt_of_lt_of_le cj2 cl)
     ·by_cases ck:j = k
      ·rw [ck];exact p4 i ci2
      ·exact up i j hij (Nat.lt_of_le_of_ne hj ck)
    ·rw [if_neg cj2];exact up i (j - 1) (by omega) (by omega)
  ·rw [if_neg ci2,if_neg (by omega),if_neg (by omega)];exact up _ _ (Nat.sub_le_sub_right hij 1) (by omega)
section
variable {prog:Program} {w:World} {A:Around} {E:Value→Shared→Prop} {s:Shared} {a₀:Array Keyed} {pd:Array (Nat×Nat×Nat)} {lo:Nat} {f:Nat→Int}
theorem wpS_askL {st:SortSt} {i j:Nat} {Q:Option Bool→SortSt→Prop} (hB:SB a₀ pd lo f st) (h0:IKA prog w A s a₀) (hi:i < a₀.size) (hj:j < a₀.size) (h:Q (some (decide (K (arrOf st) i < K (arrOf st) j))) st):wpS (model prog w) A E s (ltAt' i j) Q st:=by
 obtain ⟨p,e1,g1⟩:=hB.item h0.ik hi
 obtain ⟨q,e2,g2⟩:=hB.item h0.ik hj
 rw [ltAt'_eq]
 refine wpS_bind (wpS_get ?_)
 refine wpS_bind (wpS_elem e1 (wpS_bind (wpS_elem e2 ?_)))
 exact wpS_lt h0.as hB.kd g1 g2 h
theorem SB.turn {st:SortSt} (hB:SB a₀ pd lo f st) {i j:Nat} (hi:lo≤i) (hj:j≤a₀.size):SB a₀ pd lo f (setArr st (mirror (arrOf st) i j ((j - i) / 2))) :=
 hB.put (mirror_perm _ _ _ _) fun k hk=>by rw [K_mirror (by rw [hB.sz];exact hj),if_neg (by omega)]
theorem wpS_upL {st:SortSt} {a m:Nat} {Q:AscSt→SortSt→Prop} (h0:IKA prog w A s a₀) (hn:lo + m≤a₀.size) (ha:1≤a) (han:a≤m) (hB:SB a₀ pd lo f st) (hs:AscL lo (arrOf st) a)
  (h:∀ n,a≤n→n≤m→AscL lo (arrOf st) n→(n = m∨K (arrOf st) (lo + n) < K (arrOf st) (lo + n - 1))→Q (none,n) st):wpS (model prog w) A E s (upL lo a m) Q st:=by
 unfold upL
 refine wpS_forRange (I:=fun x c st'=>st' = st∧c = (none,x)∧AscL lo (arrOf st) x) ?step ?fin ⟨rfl,rfl,hs⟩
 case fin =>
  rintro c st' ⟨e1,e2,g⟩
  subst e1 e2
  have e:max a m = m:=Nat.max_eq_right han
  rw [e] at g ⊢
  exact h m han (Nat.le_refl _) g (.inl rfl)
 case step =>
  rintro x c st' hax hxm ⟨e1,e2,g⟩
  subst e1 e2
  dsimp only
  refine wpS_bind (wpS_askL hB h0 (by omega) (by omega) ?_)
  dsimp only
  refine wpS_ite (fun z=>?_) (fun z=>?_)
  ·exact wpS_pure (h x hax (by omega) g (.inr (of_decide_eq_true z)))
  ·exact wpS_pure ⟨rfl,rfl,g.more (by omega) (Int.not_lt.mp fun y=>z (decide_eq_true y))⟩
theorem wpS_endL {st:SortSt} {n m:Nat} {Q:Option Nat→SortSt→Prop} (h0:IKA prog w A s a₀) (hn:lo + m≤a₀.size) (h1:1≤n) (hnn:n≤m) (hB:SB a₀ pd lo f st) (hs:DscL lo (arrOf st) n)
  (h:∀ k st',SB a₀ pd lo f st'→1≤k→k≤m→AscL lo (arrOf st') k→Q (some k) st'):wpS (model prog w) A E s (endL lo n m) Q st:=by
 unfold endL
 have hz:lo + n≤(arrOf st).size:=by rw [hB.sz];omega
 have hB':=hB.turn (i:=lo) (j:=lo + n) (Nat.le_refl _) (by omega)
 refine wpS_bind (wpS_reverse (wpS_bind (wpS_upL h0 hn h1 hnn hB' (fun i j hij hj=>?_) fun k k1 k2 g _=>wpS_pure (h k _ hB' (by omega) k2 g))))
 show K (mirror (arrOf st) lo (lo + n) _) (lo + i)≤K (mirror (arrOf st) lo (lo + n) _) (lo + j)
 rw [K_mirror hz,K_mirror hz,if_pos (by omega),if_pos (by omega)]
 have z:=hs (n - 1 - j) (n - 1 - i) (by omega) (by omega)
 rw [show lo + (n - 1 - j) = lo + (lo + n) - 1 - (lo + j) by omega,show lo + (n - 1 - i) = lo + (lo + n) - 1 - (lo + i) by omega] at z
 exact z
theorem wpS_downL {st:SortSt} {n m:Nat} {Q:DescSt→SortSt→Prop} (h0:IKA prog w A s a₀) (hn:lo + m≤a₀.size) (h1:1≤n) (hnn:n≤m) (hB:SB a₀ pd lo f st) (hs:DscL lo (arrOf st) n)
  (h:∀ k q st',SB a₀ pd lo f st'→n≤k→k≤m→DscL lo (arrOf st') k→q + 1≤k→(∀ i,lo + k - (q + 1)≤i→i < lo + k→K (arrOf st') i = K (arrOf st') (lo + k - 1))→Q (none,k,q) st'):wpS (model prog w) A E s (downL lo n m) Q st:=by
 unfold downL
 refine wpS_forRange (I:=fun x c st'=>∃ q,c = (none,x,q)∧SB a₀ pd lo f st'∧DscL lo (arrOf st') x∧q + 1≤x∧(∀ i,lo + x - (q + 1)≤i→i < lo + x→K (arrOf st') i = K (arrOf st') (lo + x - 1))) ?step ?fin
  ⟨0,rfl,hB,hs,by omega,fun i z1 z2=>congrArg _ (by omega)⟩
 case fin =>
  rintro c st' ⟨q,e,g1,g2,g3,g4⟩
  subst e
  have e:max n m = m:=Nat.max_eq_right hnn
  rw [e] at g2 g3 g4 ⊢
  exact h m q st' g1 hnn (Nat.le_refl _) g2 g3 g4
 case step =>
  rintro x c st' hax hxm ⟨q,e,g1,g2,g3,g4⟩
  subst e
  dsimp only
  refine wpS_bind (wpS_askL g1 h0 (by omega) (by omega) ?_)
  dsimp only
  refine wpS_ite (fun z=>?_) (fun z=>?_)
  ·have z:=Int.le_of_lt (of_decide_eq_true z)
   refine wpS_ite (fun y=>?_) (fun y=>?_)
   ·have hz:lo + x≤(arrOf st').size:=by rw [g1.sz];omega
    have ke:=K_mirror_equal (i:=lo + x - (q + 1)) hz g4
    refine wpS_bind (wpS_reverse (wpS_pure ⟨0,rfl,g1.turn (by omega) (by omega),(g2.congr ke).more (by omega) ?_,by omega,fun i z1 z2=>congrArg _ (by omega)⟩))
    show K (mirror (arrOf st') _ _ _) _≤K (mirror (arrOf st') _ _ _) _
    rw [ke,ke]
    exact z
   ·exact wpS_pure ⟨0,rfl,g1,g2.more (by omega) z,by omega,fun i z1 z2=>congrArg _ (by omega)⟩
  ·have z:K (arrOf st') (lo + x - 1)≤K (arrOf st') (lo + x):=Int.not_lt.mp fun y=>z (decide_eq_true y)
   refine wpS_bind (wpS_askL g1 h0 (by omega) (by omega) ?_)
   dsimp only
   refine wpS_ite (fun y=>?_) (fun y=>?_)
   ·exact wpS_pure (h x q st' g1 hax (by omega) g2 g3 g4)
   ·have y:K (arrOf st') (lo + x)≤K (arrOf st') (lo + x - 1):=Int.not_lt.mp fun u=>y (decide_eq_true u)
    have ee:K (arrOf st') (lo + x) = K (arrOf st') (lo + x - 1):=Int.le_antisymm y z
    refine wpS_pure ⟨q + 1,rfl,g1,g2.more (by omega) y,by omega,fun i z1 z2=>?_⟩
    rw [show lo + (x + 1) - 1 = lo + x by omega]
    by_cases c:i = lo + x
    ·rw [c]
    ·rw [ee];exact g4 i (by omega) (by omega)
theorem wpS_downP {st:SortSt} {n m:Nat} {Q:Option Nat→SortSt→Prop} (h0:IKA prog w A s a₀) (hn:lo + m≤a₀.size) (hnn:n + 1≤m) (hB:SB a₀ pd lo f st) (hs:DscL lo (arrOf st) (n + 1))
  (h:∀ k st',SB a₀ pd lo f st'→1≤k→k≤m→AscL lo (arrOf st') k→Q (some k) st'):wpS (model prog w) A E s (downP lo n m) Q st:=by
 unfold downP
 refine wpS_bind (wpS_lift (wpAny_rule ⟨rfl,wpS_bind (wpS_downL h0 hn (by omega) hnn hB hs fun k q st' g1 k1 k2 g2 g3 g4=>?_)⟩))
 dsimp only
 have hz:lo + k≤(arrOf st').size:=by rw [g1.sz];omega
 refine wpS_ite (fun y=>?_) (fun y=>?_)
 ·exact wpS_bind (wpS_reverse (wpS_endL h0 hn (by omega) k2 (g1.turn (by omega) (by omega)) (g2.congr (K_mirror_equal (i:=lo + k - (q + 1)) hz g4)) h))
 ·exact wpS_endL h0 hn (by omega) k2 g1 g2 h
theorem wpS_countL {st:SortSt} {m:Nat} {Q:Option Nat→SortSt→Prop} (h0:IKA prog w A s a₀) (hn:lo + m≤a₀.size) (h1:1≤m) (hB:SB a₀ pd lo f st)
  (h:∀ k st',SB a₀ pd lo f st'→1≤k→k≤m→AscL lo (arrOf st') k→Q (some k) st'):wpS (model prog w) A E s (countRun' lo m) Q st:=by
 rw [countL_eq]
 refine wpS_bind (wpS_upL h0 hn (Nat.le_refl 1) h1 hB AscL.one fun n n1 n2 g hor=>?_)
 dsimp only
 refine wpS_ite (fun c=>?_) (fun c=>?_)
 ·exact wpS_pure (h n st hB n1 n2 g)
 ·have c:n≠m:=fun z=>c (by rw [z];exact beq_self_eq_true _)
  have hlt:=Int.le_of_lt (hor.resolve_left c)
  refine wpS_ite (fun d=>?_) (fun d=>?_)
  ·refine wpS_bind (wpS_askL hB h0 (by omega) (by omega) ?_)
   dsimp only
   refine wpS_ite (fun y=>?_) (fun y=>?_)
   ·exact wpS_pure (h n st hB n1 n2 g)
   ·have y:K (arrOf st) (lo + n - 1)≤K (arrOf st) lo:=Int.not_lt.mp fun u=>y (decide_eq_true u)
    have hz:lo + n≤(arrOf st).size:=by rw [hB.sz];omega
    have all:∀ k,lo≤k→k < lo + n→K (arrOf st) k = K (arrOf st) (lo + n - 1):=fun k z1 z2=>by
     have a1:=g 0 (k - lo) (by omega) (by omega)
     have a2:=g (k - lo) (n - 1) (by omega) (by omega)
     rw [show lo + (k - lo) = k by omega] at a1 a2
     rw [show lo + (n - 1) = lo + n - 1 by omega] at a2
     rw [Nat.add_zero] at a1
     omega
    have ke:=K_mirror_equal (i:=lo) hz all
    have dn:DscL lo (arrOf st) n:=fun i j hij hj=>by rw [all (lo + i) (by omega) (by omega),all (lo + j) (by omega) (by omega)];exact Int.le_refl _
    exact wpS_bind (wpS_reverse (wpS_downP h0 hn (by omega) (hB.turn (Nat.le_refl _) (by omega)) ((dn.more (by omega) hlt).congr ke) h))
  ·obtain rfl:n = 1:=by omega
   exact wpS_downP h0 hn (by omega) hB (DscL.one.more (Nat.le_refl _) hlt) h
theorem wpS_binL {st:SortSt} {n ok:Nat} {Q:Bool→SortSt→Prop} (h0:IKA prog w A s a₀) (hn:lo + n≤a₀.size) (hok1:1≤ok) (hok:ok≤n) (hB:SB a₀ pd lo f st) (hs:AscL lo (arrOf st) ok)
  (h:∀ st',SB a₀ pd lo f st'→AscL lo (arrOf st') n→Q true st'):wpS (model prog w) A E s (binarySort' lo n ok) Q st:=by
 rw [binarySort'_eq]
 have em:max ok 1 = ok:=Nat.max_eq_left hok1
 rw [em]
 refine wpS_bind (wpS_mono (wpS_forRange (I:=fun k c st'=>c = (none,())∧SB a₀ pd lo f st'∧AscL lo (arrOf st') k) (Q:=fun c st'=>c = (none,())∧SB a₀ pd lo f st'∧AscL lo (arrOf st') n) ?step ?fin ⟨rfl,hB,hs⟩) ?post)
 case post =>
  rintro c st' ⟨e,g1,g2⟩
  subst e
  exact wpS_pure (h st' g1 g2)
 case fin =>
  rintro c st' ⟨e,g1,g2⟩
  have e2:max ok n = n:=Nat.max_eq_right hok
  rw [e2] at g2
  exact ⟨e,g1,g2⟩
 case step =>
  rintro k c st' hak hkn ⟨e,g1,g2⟩
  subst e
  have hk:lo + k < a₀.size:=by omega
  refine wpS_bind (wpS_mono (wpS_forRange (I:=fun x c st''=>st'' = st'∧∃ l r,c = (none,l,r)∧l≤r∧r≤k∧r - l≤k - x∧(∀ i,i < l→K (arrOf st') (lo + i)≤K (arrOf st') (lo + k))∧(∀ i,r≤i→i < k→K (arrOf st') (lo + k) < K (arrOf st') (lo + i)))
   (Q:=fun c st''=>st'' = st'∧∃ l r,c = (none,l,r)∧l≤k∧(∀ i,i < l→K (arrOf st') (lo + i)≤K (arrOf st') (lo + k))∧(∀ i,l≤i→i < k→K (arrOf st') (lo + k) < K (arrOf st') (lo + i))) ?istep ?ifin
   ⟨rfl,0,k,rfl,Nat.zero_le _,Nat.le_refl _,Nat.le_refl _,fun i z=>absurd z (Nat.not_lt_zero _),fun i z1 z2=>absurd z1 (by omega)⟩) ?ipost)
  case ifin =>
   rintro c st'' ⟨e1,l,r,e2,p1,p2,p3,p4,p5⟩
   obtain rfl:l = r:=by omega
   exact ⟨e1,l,l,e2,p2,p4,p5⟩
  case istep =>
   rintro x c st'' _ hxk ⟨e1,l,r,e2,p1,p2,p3,p4,p5⟩
   subst e1 e2
   dsimp only
   refine wpS_ite (fun y=>?_) (fun y=>?_)
   ·obtain rfl:l = r:=by omega
    exact wpS_pure ⟨rfl,l,l,rfl,p2,p4,p5⟩
   ·refine wpS_bind (wpS_askL g1 h0 hk (by omega) ?_)
    dsimp only
    refine wpS_ite (fun z=>?_) (fun z=>?_)
    ·have z:=of_decide_eq_true z
     exact wpS_pure ⟨rfl,l,(l + r) / 2,rfl,by omega,by omega,by omega,p4,fun i z1 z2=>Int.lt_of_lt_of_le z (g2 _ _ z1 z2)⟩
    ·have z:=Int.not_lt.mp fun u=>z (decide_eq_true u)
     exact wpS_pure ⟨rfl,(l + r) / 2 + 1,r,rfl,by omega,by omega,by omega,fun i z1=>Int.le_trans (g2 i ((l + r) / 2) (by omega) (by omega)) z,p5⟩
  case ipost =>
   rintro c st'' ⟨e1,l,r,e2,p2,p4,p5⟩
   subst e1 e2
   show wpS _ _ _ _ (do moveDown' (lo + k) (lo + l);pure (ForInStep.yield (none,()))) _ _
   rw [moveDown'_eq]
   have hz:lo + k < (arrOf st'').size:=by rw [g1.sz];exact hk
   have dl:lo + k - (lo + l) = k - l:=Nat.add_sub_add_left lo k l
   rw [dl]
   have pk:lo + k - (k - l) = lo + l:=by omega
   have kb:=fun i=>K_bubble (d:=k - l) hz (Nat.le_trans (Nat.sub_le k l) (Nat.le_add_left k lo)) i
   rw [pk] at kb
   refine wpS_bind (wpS_modify (wpS_pure ⟨rfl,g1.put (bubble_perm _ _ _) fun i hi=>?_,fun i j hij hj=>?_⟩))
   ·rw [kb,if_neg (by omega),if_neg (by omega)]
   ·refine bub_asc (X:=fun i=>K (arrOf st'') (lo + i)) (Y:=fun i=>K (bubble (arrOf st'') (lo + k) (k - l)) (lo + i)) (l:=l) (k:=k) (fun i hi=>?_) (fun a b=>g2 a b) p4 p5 i j hij (Nat.le_of_lt_succ hj)
    show K (bubble (arrOf st'') (lo + k) (k - l)) (lo + i) = _
    rw [kb]
    exact bub_if (f:=fun i=>K (arrOf st'') i) hi
end
section
variable {prog:Program} {w:World} {A:Around} {E:Value→Shared→Prop} {s:Shared} {a₀:Array Keyed}
theorem sortedTo_asc {xs:Array Keyed} {n:Nat} (h:AscL 0 xs n):SortedTo xs n:=fun i j hij hj=>by
 have z:=h i j hij hj
 rw [Nat.zero_add,Nat.zero_add] at z
 exact z
end
end SrtR



namespace L2
open PySem PySem.Spec
structure CapOk (X:Cx) (scope:Scope) (f:Str×Addr×Nat):Prop where
 cell:X.env.cells.lookup f.1 = some f.2.1
 at':X.N[f.2.2]? = some f.1
 kd:X.env.kindOf f.1 = some .cell
 rl:(relabel scope X.env).names.lookup f.1 = some .cell
theorem lookup_mem {β:Type}:∀ {l:List (Str×β)} {x:Str} {c:β},l.lookup x = some c→(x,c)∈l
 | [],_,_,h=>by cases h
 | (y,d) :: r,x,c,h=>by
  rw [List.lookup_cons] at h
  split at h
  ·rename_i hx
   cases h
   rw [eq_of_beq hx]
   exact List.mem_cons_self ..
  ·exact List.mem_cons_of_mem _ (lookup_mem h)
theorem lookup_has {β:Type}:∀ {l:List (Str×β)} {x:Str},x∈l.map Prod.fst→∃ c,l.lookup x = some c
 | [],_,h=>by cases h
 | (y,d) :: r,x,h=>by
  rw [List.lookup_cons]
  by_cases e:(x == y) = true
  ·rw [e];exact ⟨d,rfl⟩
  ·have e':(x == y) = false:=by simpa using e
   rw [e']
   refine lookup_has ?_
   rcases List.mem_cons.mp h with h | h
   ·exact absurd (by rw [h];exact beq_self_eq_true _) e
   ·exact h
theorem compOkN {X:Cx} {scope:Scope} {pre:List Str} (fs:List (Str×Addr×Nat)) (ys:List Str) (hys:fs.map Prod.fst = ys) (hkind:scope.kind = .function) (h:∀ w∈scope.names,w.2≠.cell∧(w.2 = .free→w.1∈ys)) (hn:∀ w∈scope.names,w.2 = .local→scope.names.lookup w.1 = some .local)
  (hcl:closureFor scope X.env = pure (fs.map fun f=>(f.1,f.2.1))) (hf:∀ f∈fs,CapOk X scope f) :
  CompOk X scope (fs.map fun f=>(f.1,f.2.1)) (pre ++ fs.map Prod.fst) (List.replicate pre.length none ++ fs.map fun f=>some f.2.2) where
 clos:=hcl
 cell:=fun w hw=>(h w hw).1
 kind:=hkind
 names:=hn
 cls:=fun x c' q=>by
  obtain ⟨f,hm,e⟩:=List.mem_map.mp (lookup_mem q)
  cases e
  exact (hf f hm).cell
 has:=fun x q=>by
  have key:∀ k,(relabel scope X.env).names.lookup x = some k→k = .cell∨k = .free→x∈fs.map Prod.fst:=fun k q hk=>by
   have hm:=PySem.mem_of_lookup q
   obtain ⟨⟨n,k'⟩,hy,ey⟩:=List.mem_map.mp hm
   have h1:=h _ hy
   by_cases hf:k' = .free
   ·have w:=h1.2 hf
    rw [← hys] at w
    dsimp only at ey
    split at ey
    ·cases ey;exact w
    ·cases ey;exact w
   ·have hb:(k' == NameKind.free) = false:=by simpa using hf
    simp only [hb,Bool.false_and,Bool.false_eq_true,if_false,Prod.mk.injEq] at ey
    obtain ⟨_,rfl⟩:=ey
    rcases hk with hk | hk
    ·exact absurd hk h1.1
    ·exact absurd hk hf
  have hx:x∈fs.map Prod.fst:=by
   rcases q with q | q
   ·exact key _ q (.inl rfl)
   ·exact key _ q (.inr rfl)
  refine lookup_has ?_
  rw [List.map_map]
  exact hx
 len:=by simp
 src:=fun i q x e1 e2=>by
  by_cases hi:i < pre.length
  ·rw [List.getElem?_append_left (by simpa using hi),List.getElem?_replicate,if_pos hi] at e1
   cases e1
  ·rw [List.getElem?_append_right (by simp;omega),List.length_replicate,List.getElem?_map] at e1
   rw [List.getElem?_append_right (by omega),List.getElem?_map] at e2
   obtain ⟨f,e3,e4⟩:=Option.map_eq_some_iff.mp e1
   rw [e3] at e2
   cases e4
   obtain rfl:=Option.some.inj e2
   have z:=hf f (List.mem_of_getElem? e3)
   exact ⟨z.at',.inl z.kd,.inl z.rl⟩
theorem caps_nil {X:Cx} {scope:Scope}:∀ f∈([]:List (Str×Addr×Nat)),CapOk X scope f:=fun f h=>by cases h
theorem caps_cons {X:Cx} {scope:Scope} {f:Str×Addr×Nat} {fs:List (Str×Addr×Nat)} (h:CapOk X scope f) (k:∀ g∈fs,CapOk X scope g):∀ g∈f :: fs,CapOk X scope g:=fun g hg=>by
 rcases List.mem_cons.mp hg with rfl | hg
 ·exact h
 ·exact k g hg
end L2

namespace L2
theorem iteYes {b:Bool} {A B:Prop} (hb:b = true) (h:A):if b = true then A else B:=by rw [if_pos hb];exact h
theorem iteNo {b:Bool} {A B:Prop} (hb:b = false) (h:B):if b = true then A else B:=by rw [if_neg (by rw [hb];decide)];exact h
end L2
namespace Mir
open PySem L2
noncomputable def spFramed:Sp:=fun vs H Q _=>∃ (t:Addr) (rs:List Int),vs = [.ref t]∧H t = some (.tup (iV rs))∧rs.length≤100∧∀ (t':Addr) (H':Hp),Same H H'→H' t' = some (.tup (iV (frm rs)))→Q (.ref t') H'
noncomputable def spOpenGaps:Sp:=fun vs H Q _=>∃ (t:Addr) (rs:List Int),vs = [.ref t]∧H t = some (.tup (iV rs))∧rs.length≤100∧∀ (l:Addr) (H':Hp),H l = none→Same H H'→H' l = some (.lst (iV (openL (frm rs) (rs.length + 1))))→Q (.ref l) H'
noncomputable def spTieGaps:Sp:=fun vs H Q _=>∃ (t:Addr) (rs:List Int),vs = [.ref t]∧H t = some (.tup (iV rs))∧Fit rs∧∀ (l:Addr) (H':Hp),H l = none→Same H H'→TsT pr H' l (tieL rs)→Q (.ref l) H'
theorem iV_ap (a b:List Int):iV (a ++ b) = iV a ++ iV b:=by unfold iV;rw [List.map_append]
theorem iV_get0 {rs:List Int} {j:Nat} (h:j < rs.length):(iV rs)[j]? = some (.int (rs.getD j 0)):=iV_get (getD_get h)
theorem put_amt {fs:List Int} (nd:(absL fs).Nodup) {kv:List (Key×V)} {i:Nat} {g:Nat→V} (hi:i < fs.length) (hk:∀ j,j < i→valV kv (Sum.inl (absI (fs.getD j 0)):Key) = some (g j)) :
  ∀ j,j < i + 1→valV (putK kv (Sum.inl (absI (fs.getD i 0)):Key) (g i)) (Sum.inl (absI (fs.getD j 0)):Key) = some (g j):=fun j hj=>by
 rw [valV_put]
 by_cases e:j = i
 ·rw [e,if_pos rfl]
 ·rw [if_neg,hk j (by omega)]
  intro z
  injection z with z
  have a1:=absL_get (os:=fs) (j:=j) (by omega)
  have a2:=absL_get (os:=fs) (j:=i) hi
  rw [z] at a1
  exact e ((List.getElem?_inj (by rw [absL_len];omega) nd).mp (a1.trans a2.symm))
theorem absI_eq (x:Int):(if x < 0 then -x else x) = absI x:=rfl
end Mir


namespace Mir
open PySem L2
open Classical
noncomputable def whRow (fs:List Int) (a m:Nat):List (Int×Int):=((List.range m).filter fun b=>decide (Wh fs a b)).map fun (b:Nat)=>((a:Int),(b:Int))
noncomputable def whL (fs:List Int) (i:Nat):List (Int×Int):=(List.range i).flatMap fun a=>whRow fs a fs.length
noncomputable def isKn (fs:List Int) (p:Int×Int):Bool:=decide (Kn fs p.1.toNat p.2.toNat)
noncomputable def kinL (fs:List Int):List (Int×Int):=(whL fs fs.length).filter (isKn fs)
theorem whRow_succ (fs:List Int) (a m:Nat):whRow fs a (m + 1) = whRow fs a m ++ (if Wh fs a m then [((a:Int),(m:Int))] else []):=by
 unfold whRow
 rw [List.range_succ,List.filter_append,List.map_append,List.filter_cons,List.filter_nil]
 congr 1
 by_cases c:Wh fs a m
 ·rw [if_pos (decide_eq_true c),if_pos c];rfl
 ·rw [if_neg (by rw [decide_eq_false c];decide),if_neg c];rfl
theorem whL_succ (fs:List Int) (i:Nat):whL fs (i + 1) = whL fs i ++ whRow fs i fs.length:=by unfold whL;rw [List.range_succ,List.flatMap_append];simp
theorem whRow_mem {fs:List Int} {a m:Nat} {p:Int×Int}:p∈whRow fs a m↔∃ b:Nat,b < m∧Wh fs a b∧p = ((a:Int),(b:Int)):=by
 unfold whRow
 rw [List.mem_map]
 constructor
 ·rintro ⟨b,hb,rfl⟩
  obtain ⟨h1,h2⟩:=List.mem_filter.mp hb
  exact ⟨b,List.mem_range.mp h1,of_decide_eq_true h2,rfl⟩
 ·rintro ⟨b,h1,h2,rfl⟩
  exact ⟨b,List.mem_filter.mpr ⟨List.mem_range.mpr h1,decide_eq_true h2⟩,rfl⟩
theorem whL_mem {fs:List Int} {p:Int×Int}:p∈whL fs fs.length↔∃ a b:Nat,Wh fs a b∧p = ((a:Int),(b:Int)):=by
 unfold whL
 rw [List.mem_flatMap]
 constructor
 ·rintro ⟨a,ha,h⟩
  obtain ⟨b,_,h2,rfl⟩:=whRow_mem.mp h
  exact ⟨a,b,h2,rfl⟩
 ·rintro ⟨a,b,W,rfl⟩
  exact ⟨a,List.mem_range.mpr (Nat.lt_trans W.lt W.lb),whRow_mem.mpr ⟨b,W.lb,W,rfl⟩⟩
theorem kn_uniq {fs:List Int} {a b c:Nat} (h1:Kn fs a b) (h2:Kn fs a c):b = c:=by
 by_cases x:b < c
 ·exact absurd h1.1 (h2.2 b x)
 ·by_cases y:c < b
  ·exact absurd h2.1 (h1.2 c y)
  ·omega
theorem kn_least {fs:List Int} {a:Nat}:∀ b,Wh fs a b→∃ c,Kn fs a c:=fun b=>by
 induction b using Nat.strongRecOn with
 | _ b ih =>
  intro W
  by_cases h:∃ c,c < b∧Wh fs a c
  ·obtain ⟨c,h1,h2⟩:=h
   exact ih c h1 h2
  ·exact ⟨b,W,fun c hc hw=>h ⟨c,hc,hw⟩⟩
theorem knRow {fs:List Int} {a:Nat}:(∀ b,¬ Wh fs a b)∧(whRow fs a fs.length).filter (isKn fs) = []∨∃ b,Kn fs a b∧(whRow fs a fs.length).filter (isKn fs) = [((a:Int),(b:Int))]:=by
 by_cases h:∃ b,Wh fs a b
 ·right
  obtain ⟨b0,W⟩:=h
  obtain ⟨b,hk⟩:=kn_least b0 W
  refine ⟨b,hk,?_⟩
  have key:∀ m,(whRow fs a m).filter (isKn fs) = if b < m then [((a:Int),(b:Int))] else []:=fun m=>by
   induction m with
   | zero=>rw [if_neg (by omega)];rfl
   | succ m ih =>
    rw [whRow_succ,List.filter_append,ih]
    by_cases e:b = m
    ·subst e
     rw [if_neg (by omega),if_pos hk.1,if_pos (by omega),List.filter_cons,List.filter_nil,if_pos]
     ·rfl
     ·unfold isKn;exact decide_eq_true (by simpa using hk)
    ·by_cases w:Wh fs a m
     ·have nk:¬ isKn fs ((a:Int),(m:Int)) = true:=fun z=>by
       have z:Kn fs a m:=by have:=of_decide_eq_true (show decide (Kn fs ((a:Int)).toNat ((m:Int)).toNat) = true from z);simpa using this
       exact e (kn_uniq hk z)
      rw [if_pos w,List.filter_cons,List.filter_nil,if_neg nk,List.append_nil]
      by_cases lt:b < m
      ·rw [if_pos lt,if_pos (by omega)]
      ·rw [if_neg lt,if_neg (by omega)]
     ·rw [if_neg w,List.filter_nil,List.append_nil]
      by_cases lt:b < m
      ·rw [if_pos lt,if_pos (by omega)]
      ·rw [if_neg lt,if_neg (by omega)]
  rw [key,if_pos hk.1.lb]
 ·left
  refine ⟨fun b W=>h ⟨b,W⟩,?_⟩
  have:whRow fs a fs.length = []:=List.eq_nil_iff_forall_not_mem.mpr fun p hp=>by
   obtain ⟨b,_,W,_⟩:=whRow_mem.mp hp
   exact h ⟨b,W⟩
  rw [this]
  rfl
theorem kinL_pre (fs:List Int):∀ i,((whL fs i).filter (isKn fs)).length≤i
 | 0=>Nat.le_refl _
 | i + 1=>by
  have ih:=kinL_pre fs i
  rw [whL_succ,List.filter_append,List.length_append]
  rcases knRow (fs:=fs) (a:=i) with ⟨_,e⟩ | ⟨b,_,e⟩
  ·rw [e];show _ + 0≤_;omega
  ·rw [e];show _ + 1≤_;omega
theorem kinL_len (fs:List Int):(kinL fs).length≤fs.length:=kinL_pre fs _
noncomputable def spKinEnd:Sp:=fun vs H Q _=>∃ (t:Addr) (fs:List Int) (a:Nat),vs = [.ref t,.int a]∧H t = some (.tup (iV fs))∧(absL fs).Nodup∧a < fs.length∧fs.length≤100 ∧
 (∀ b:Nat,Kn fs a b→Q (.int b) H)∧((∀ b,¬ Wh fs a b)→Q .non H)
noncomputable def spKinSpans:Sp:=fun vs H Q _=>∃ (t:Addr) (rs:List Int),vs = [.ref t]∧H t = some (.tup (iV rs))∧Fit rs∧∀ (l:Addr) (H':Hp),H l = none→Same H H'→TsT pr H' l (kinL (frm rs))→Q (.ref l) H'
end Mir

namespace Mir
noncomputable def mkS (m:Int→Int) (p:Int×Int):Int→Int:=fun x=>if m x = m p.2 then m p.1 else m x
noncomputable def mk (ps:List (Int×Int)):Int→Int:=ps.foldl mkS id
theorem mk_snoc (ps:List (Int×Int)) (p:Int×Int):mk (ps ++ [p]) = mkS (mk ps) p:=by unfold mk;rw [List.foldl_append];rfl
noncomputable def Sn (ps:List (Int×Int)) (x:Int):Prop:=∃ p∈ps,x = p.1∨x = p.2
theorem sn_snoc {ps:List (Int×Int)} {p:Int×Int} {x:Int}:Sn (ps ++ [p]) x↔Sn ps x∨x = p.1∨x = p.2:=by
 unfold Sn
 constructor
 ·rintro ⟨q,hq,h⟩
  rcases List.mem_append.mp hq with hq | hq
  ·exact .inl ⟨q,hq,h⟩
  ·rw [List.mem_singleton.mp hq] at h
   exact .inr h
 ·rintro (⟨q,hq,h⟩ | h)
  ·exact ⟨q,List.mem_append_left _ hq,h⟩
  ·exact ⟨p,List.mem_append_right _ (List.mem_singleton.mpr rfl),h⟩
theorem list_snoc {α:Type} {P:List α→Prop} (h0:P []) (h1:∀ l a,P l→P (l ++ [a])):∀ l,P l:=fun l=>by
 have:∀ l:List α,P l.reverse:=fun l=>by
  induction l with
  | nil=>exact h0
  | cons a r ih=>rw [List.reverse_cons];exact h1 _ _ ih
 have z:=this l.reverse
 rwa [List.reverse_reverse] at z
theorem mk_fact (ps:List (Int×Int)):(∀ x,¬ Sn ps x→mk ps x = x)∧∀ x,Sn ps x→Sn ps (mk ps x):=by
 refine list_snoc (P:=fun ps=>(∀ x,¬ Sn ps x→mk ps x = x)∧∀ x,Sn ps x→Sn ps (mk ps x)) ⟨fun _ _=>rfl,fun x ⟨p,h,_⟩=>by cases h⟩ ?_ ps
 intro ps p ⟨h1,h2⟩
 have a:∀ x,x = p.1∨x = p.2→Sn (ps ++ [p]) (mk ps x):=fun x hx=>by
  by_cases c:Sn ps x
  ·exact sn_snoc.mpr (.inl (h2 x c))
  ·rw [h1 x c]
   exact sn_snoc.mpr (.inr hx)
 rw [mk_snoc]
 constructor
 ·intro x hx
  have c:¬ Sn ps x:=fun z=>hx (sn_snoc.mpr (.inl z))
  unfold mkS
  rw [h1 x c,if_neg]
  intro e
  exact hx (e ▸ a p.2 (.inr rfl))
 ·intro x hx
  unfold mkS
  split
  ·exact a p.1 (.inl rfl)
  ·rcases sn_snoc.mp hx with c | c
   ·exact sn_snoc.mpr (.inl (h2 x c))
   ·exact a x c
noncomputable def addG (g:List (Int×List Int)) (k x:Int):List (Int×List Int) :=
 if (g.any fun e=>decide (e.1 = k)) = true then g.map (fun e=>if e.1 = k then (e.1,e.2 ++ [x]) else e) else g ++ [(k,[x])]
noncomputable def grp (c:Nat→Int):Nat→List (Int×List Int)
 | 0=>[]
 | n + 1=>addG (grp c n) (c n) n
theorem addG_keys (g:List (Int×List Int)) (k x:Int):(addG g k x).map Prod.fst = if k∈g.map Prod.fst then g.map Prod.fst else g.map Prod.fst ++ [k]:=by
 have e:(g.any fun e=>decide (e.1 = k)) = true↔k∈g.map Prod.fst:=by
  rw [List.any_eq_true,List.mem_map]
  exact ⟨fun ⟨e,h1,h2⟩=>⟨e,h1,of_decide_eq_true h2⟩,fun ⟨e,h1,h2⟩=>⟨e,h1,decide_eq_true h2⟩⟩
 unfold addG
 by_cases c:(g.any fun e=>decide (e.1 = k)) = true
 ·rw [if_pos c,if_pos (e.mp c),List.map_map]
  refine List.map_congr_left fun y _=>?_
  show (if y.1 = k then (y.1,y.2 ++ [x]) else y).1 = y.1
  split <;> rfl
 ·rw [if_neg c,if_neg (fun z=>c (e.mpr z)),List.map_append]
  rfl
theorem grp_len (c:Nat→Int):∀ n,(grp c n).length≤n
 | 0=>Nat.le_refl _
 | n + 1=>by
  have:=grp_len c n
  show (addG (grp c n) (c n) n).length≤n + 1
  unfold addG
  split
  ·rw [List.length_map];omega
  ·rw [List.length_append];show _ + 1≤_;omega
structure GrpOk (g:List (Int×List Int)) (n:Nat):Prop where
 ne:∀ e∈g,e.2≠[]
 lt:∀ e∈g,∀ x∈e.2,0≤x∧x < n
 len:∀ e∈g,e.2.length≤n
 asc:g.Pairwise fun e f=>e.2.headD 0 < f.2.headD 0
theorem headD_app {l:List Int} (h:l≠[]) (x:Int):(l ++ [x]).headD 0 = l.headD 0:=by
 cases l with
 | nil=>exact absurd rfl h
 | cons y r=>rfl
theorem grp_ok (c:Nat→Int):∀ n,GrpOk (grp c n) n
 | 0=>⟨fun e h=>(nomatch h),fun e h=>(nomatch h),fun e h=>(nomatch h),List.Pairwise.nil⟩
 | n + 1=>by
  have ih:=grp_ok c n
  show GrpOk (addG (grp c n) (c n) n) (n + 1)
  unfold addG
  split
  ·have key:∀ e∈(grp c n).map (fun e=>if e.1 = c n then (e.1,e.2 ++ [(n:Int)]) else e),∃ d∈grp c n,(e = d∨e = (d.1,d.2 ++ [(n:Int)]))∧e.2.headD 0 = d.2.headD 0:=fun e he=>by
    obtain ⟨d,hd,rfl⟩:=List.mem_map.mp he
    refine ⟨d,hd,?_⟩
    split
    ·exact ⟨.inr rfl,headD_app (ih.ne d hd) _⟩
    ·exact ⟨.inl rfl,rfl⟩
   refine ⟨fun e he=>?_,fun e he x hx=>?_,fun e he=>?_,?_⟩
   ·obtain ⟨d,hd,h | h,_⟩:=key e he
    ·rw [h];exact ih.ne d hd
    ·rw [h];simp
   ·obtain ⟨d,hd,h | h,_⟩:=key e he
    ·rw [h] at hx
     have:=ih.lt d hd x hx
     omega
    ·rw [h] at hx
     rcases List.mem_append.mp hx with hx | hx
     ·have:=ih.lt d hd x hx
      omega
     ·rw [List.mem_singleton.mp hx]
      omega
   ·obtain ⟨d,hd,h | h,_⟩:=key e he
    ·rw [h]
     have:=ih.len d hd
     omega
    ·rw [h]
     have:=ih.len d hd
     show (d.2 ++ [(n:Int)]).length≤_
     rw [List.length_append]
     show _ + 1≤_
     omega
   ·rw [List.pairwise_map]
    refine List.Pairwise.imp_of_mem ?_ ih.asc
    intro a b ha hb h
    have hh:∀ d∈grp c n,(if d.1 = c n then (d.1,d.2 ++ [(n:Int)]) else d).2.headD 0 = d.2.headD 0:=fun d hd=>by
     split
     ·exact headD_app (ih.ne d hd) _
     ·rfl
    rw [hh a ha,hh b hb]
    exact h
  ·refine ⟨fun e he=>?_,fun e he x hx=>?_,fun e he=>?_,?_⟩
   ·rcases List.mem_append.mp he with he | he
    ·exact ih.ne e he
    ·rw [List.mem_singleton.mp he];simp
   ·rcases List.mem_append.mp he with he | he
    ·have:=ih.lt e he x hx
     omega
    ·rw [List.mem_singleton.mp he] at hx
     rw [List.mem_singleton.mp hx]
     omega
   ·rcases List.mem_append.mp he with he | he
    ·have:=ih.len e he
     omega
    ·rw [List.mem_singleton.mp he]
     show 1≤n + 1
     omega
   ·rw [List.pairwise_append]
    refine ⟨ih.asc,List.pairwise_singleton ..,fun a ha b hb=>?_⟩
    rw [List.mem_singleton.mp hb]
    show a.2.headD 0 < (n:Int)
    cases h:a.2 with
    | nil=>exact absurd h (ih.ne a ha)
    | cons y r =>
     have:=ih.lt a ha y (by rw [h];exact List.mem_cons_self ..)
     show y < (n:Int)
     omega
theorem grp_nodup (c:Nat→Int):∀ n,((grp c n).map Prod.fst).Nodup
 | 0=>List.nodup_nil
 | n + 1=>by
  have ih:=grp_nodup c n
  show ((addG (grp c n) (c n) n).map Prod.fst).Nodup
  rw [addG_keys]
  split
  ·exact ih
  ·rename_i h
   rw [List.nodup_append]
   exact ⟨ih,by simp,fun a ha b hb e=>h (by rw [← List.mem_singleton.mp hb,← e];exact ha)⟩
theorem grp_congr {c d:Nat→Int}:∀ {n:Nat},(∀ i,i < n→c i = d i)→grp c n = grp d n
 | 0,_=>rfl
 | n + 1,h=>by
  show addG (grp c n) (c n) n = addG (grp d n) (d n) n
  rw [grp_congr fun i hi=>h i (by omega),h n (by omega)]
noncomputable def ringsT (rs:List Int):List (List Int):=(grp (fun k=>mk (tieL rs) (lvOf rs k)) (rs.length + 1)).map Prod.snd
end Mir


namespace Mir
theorem kn_has {fs:List Int} (nd:(absL fs).Nodup) {b g:Nat}:∀ m a,b - a = m→Wh fs a b→a≤g→g < b→∃ c d,Kn fs c d∧c≤g∧g < d:=by
 intro m
 induction m using Nat.strongRecOn with
 | _ m ih =>
  intro a hm W h1 h2
  obtain ⟨c,hc⟩:=kn_least b W
  by_cases e:g < c
  ·exact ⟨a,c,hc,h1,e⟩
  ·have lt:=hc.1.lt
   exact ih (b - c) (by omega) c rfl (hc.1.rest nd W (by omega)) (by omega) h2
theorem frm_whole {rs:List Int} (fit:Fit rs):Wh (frm rs) 0 (rs.length + 1):=by
 have l:=frm_len rs
 have e0:amA (frm rs) 0 = fun j=>absI ((frm rs).getD j 0):=by funext j;unfold amA;rw [frm_zero,if_neg (by decide)]
 refine ⟨by omega,by omega,fun j h1 h2=>?_,?_,?_⟩
 ·have:=frm_abs fit (j:=j) (by omega)
  rw [e0,frm_zero,frm_last]
  dsimp only
  omega
 ·rw [e0,frm_last]
  dsimp only
  rw [frm_last]
  unfold absI
  rw [if_neg (by omega)]
 ·rw [frm_zero,frm_last];omega
structure Own (fs:List Int) (g c d:Nat):Prop where
 kn:Kn fs c d
 le:c≤g
 lt:g < d
 top:∀ c' d',Kn fs c' d'→c'≤g→g < d'→c'≤c
theorem Own.uniq {fs:List Int} {g c d c' d':Nat} (h:Own fs g c d) (k:Own fs g c' d'):c = c'∧d = d':=by
 have e:c = c':=Nat.le_antisymm (k.top c d h.kn h.le h.lt) (h.top c' d' k.kn k.le k.lt)
 subst e
 exact ⟨rfl,kn_uniq h.kn k.kn⟩
theorem own_of {fs:List Int} {g:Nat}:∀ m c d,g - c = m→Kn fs c d→c≤g→g < d→∃ c d,Own fs g c d:=by
 intro m
 induction m using Nat.strongRecOn with
 | _ m ih =>
  intro c d hm k h1 h2
  by_cases e:∃ c' d',Kn fs c' d'∧c'≤g∧g < d'∧c < c'
  ·obtain ⟨c',d',k',h1',h2',lt⟩:=e
   exact ih (g - c') (by omega) c' d' rfl k' h1' h2'
  ·exact ⟨c,d,k,h1,h2,fun c' d' k' h1' h2'=>Classical.byContradiction fun z=>e ⟨c',d',k',h1',h2',by omega⟩⟩
theorem own_ex {rs:List Int} (fit:Fit rs) {g:Nat} (hg:g < rs.length + 1):∃ c d,Own (frm rs) g c d:=by
 obtain ⟨c,d,k,h1,h2⟩:=kn_has (frm_nodup fit) (rs.length + 1 - 0) 0 rfl (frm_whole fit) (Nat.zero_le g) hg
 exact own_of _ c d rfl k h1 h2
open Classical in
noncomputable def ow (fs:List Int) (g:Nat):Int×Int:=if h:∃ p:Nat×Nat,Own fs g p.1 p.2 then (((choose h).1:Int),((choose h).2:Int)) else (0,0)
theorem ow_eq {fs:List Int} {g c d:Nat} (h:Own fs g c d):ow fs g = ((c:Int),(d:Int)):=by
 have e:∃ p:Nat×Nat,Own fs g p.1 p.2:=⟨(c,d),h⟩
 unfold ow
 rw [dif_pos e]
 have z:=(Classical.choose_spec e).uniq h
 rw [z.1,z.2]
noncomputable def gapL (rs:List Int):List (Int×Int):=(List.range (rs.length + 1)).map (ow (frm rs))
open Classical in
theorem kinL_mem {fs:List Int} {p:Int×Int}:p∈kinL fs↔∃ a b:Nat,Kn fs a b∧p = ((a:Int),(b:Int)):=by
 unfold kinL
 rw [List.mem_filter,whL_mem]
 constructor
 ·rintro ⟨⟨a,b,W,rfl⟩,h⟩
  refine ⟨a,b,?_,rfl⟩
  have:=of_decide_eq_true (show decide (Kn fs ((a:Int)).toNat ((b:Int)).toNat) = true from h)
  simpa using this
 ·rintro ⟨a,b,k,rfl⟩
  refine ⟨⟨a,b,k.1,rfl⟩,?_⟩
  show decide (Kn fs ((a:Int)).toNat ((b:Int)).toNat) = true
  exact decide_eq_true (by simpa using k)
theorem kinL_asc (fs:List Int):(kinL fs).Pairwise fun p q=>p.1 < q.1:=by
 have key:∀ i,(((whL fs i).filter (isKn fs)).Pairwise fun p q=>p.1 < q.1)∧∀ p∈(whL fs i).filter (isKn fs),p.1 < (i:Int):=fun i=>by
  induction i with
  | zero=>exact ⟨List.Pairwise.nil,fun p hp=>absurd hp List.not_mem_nil⟩
  | succ i ih =>
   rw [whL_succ,List.filter_append]
   rcases knRow (fs:=fs) (a:=i) with ⟨_,e⟩ | ⟨b,_,e⟩
   ·rw [e,List.append_nil]
    exact ⟨ih.1,fun p hp=>by have:=ih.2 p hp;omega⟩
   ·rw [e]
    refine ⟨List.pairwise_append.mpr ⟨ih.1,List.pairwise_singleton ..,fun p hp q hq=>?_⟩,fun p hp=>?_⟩
    ·rw [List.mem_singleton.mp hq]
     exact ih.2 p hp
    ·rcases List.mem_append.mp hp with hp | hp
     ·have:=ih.2 p hp;omega
     ·rw [List.mem_singleton.mp hp]
      show (i:Int) < _
      omega
 exact (key fs.length).1
end Mir


namespace SrtR
open PySem PyProof.Rows PySem.W
section
variable {prog:Program} {w:World} {A:Around} {E:Value→Shared→Prop} {s:Shared}
theorem sorted_outR [RkP] {vs:List Value} {rk:Value→Int} (hr:∀ p:Keyed,num p = rk p.1) {xs:Array Keyed} (hp:xs.Perm (pairsOf vs)) (hs:SortedTo xs (pairsOf vs).size):(xs.map (·.2)).toList.Perm vs∧(xs.map (·.2)).toList.Pairwise fun u v=>rk u≤rk v:=by
 have hl:=Array.perm_iff_toList_perm.mp hp
 have ez:(pairsOf vs).toList = vs.zip vs:=by unfold pairsOf;simp
 have same:∀ p∈xs.toList,p.1 = p.2:=fun p hpm=>by
  have z:=hl.mem_iff.mp hpm
  rw [ez] at z
  obtain ⟨i,hi,e⟩:=List.getElem_of_mem z
  rw [List.getElem_zip] at e
  rw [← e]
 rw [Array.toList_map]
 constructor
 ·have z:=hl.map (·.2)
  rw [ez] at z
  have e2:(vs.zip vs).map (·.2) = vs:=by rw [List.map_snd_zip];exact Nat.le_refl _
  rw [e2] at z
  exact z
 ·rw [List.pairwise_map]
  refine List.pairwise_iff_getElem.mpr fun i j hi hj hij=>?_
  have hsz:xs.size = (pairsOf vs).size:=hp.size_eq
  have hi':i < xs.size:=by simpa using hi
  have hj':j < xs.size:=by simpa using hj
  have z:=hs i j (by omega) (by omega)
  rw [num_K (getElem?_pos xs i hi'),num_K (getElem?_pos xs j hj'),hr,hr] at z
  have e1:=same _ (List.getElem_mem hi)
  have e2:=same _ (List.getElem_mem hj)
  rw [← e1,← e2]
  simpa using z
theorem sort_few {a:Addr} {vs:List Value} {n:Nat} {P:PySem.Fin→Shared→Prop} (ho:s.heap.get? a = some (seqObj "list" vs.toArray n)) (h2:vs.length < 2)
  (h:P (.done (.ret .none)) { s with heap:=sortedHeap s.heap a vs vs.toArray }):wpAny (model prog w) A (Builtin.«list.sort» ⟨[.ref a],[]⟩) P E s:=by
 rw [list_sort_plain]
 obtain ⟨k,hk⟩:∃ k,(s.heap.update a (Obj.mapSeq fun _=>#[])).get? a = some (seqObj "list" #[] k):=⟨_,get?_update_seq ho (fun _=>#[])⟩
 have hk2:(((s.heap.update a (Obj.mapSeq fun _=>#[])).push (seqObj "tuple" vs.toArray 0)).push (seqObj "list" #[] 0)).get? a = some (seqObj "list" #[] k) :=
  Heap.get?_push_of_some _ (Heap.get?_push_of_some _ hk)
 have hz1:vs.toArray.size≤sizeLine:=by rw [List.size_toArray,sizeLine_eq];omega
 have hz2:vs.toArray.toList.length≤sizeLine:=by rw [sizeLine_eq];simp;omega
 refine wpAny_bind (listItems_at ho rfl (wpAny_bind (listUpdate_at ho rfl (wpAny_bind (seqEpoch_at hk rfl ?_)) hz1 (Nat.zero_le _))))
 refine wpAny_bind (wpAny_newTuple (wpAny_bind (wpAny_newList (wpAny_holding ?_) (Nat.zero_le _))) hz2)
 show wpAny (model prog w) A _ P E { s with heap:=((s.heap.update a (Obj.mapSeq fun _=>#[])).push (seqObj "tuple" vs.toArray 0)).push (seqObj "list" #[] 0) }
 dsimp only
 have z2:vs.toArray.size < 2:=by rw [List.size_toArray];omega
 rw [if_pos z2,if_pos z2]
 refine wpAny_bind (wpAny_pure (wpAny_bind (wpAny_pure ?_)))
 dsimp only
 have e:(arrOf (SortSt.mk' general' (vs.toArray.zip vs.toArray) #[] 7 none)).map (·.2) = vs.toArray:=by
  apply Array.toList_inj.mp
  show ((vs.toArray.zip vs.toArray).map (·.2)).toList = vs
  have e2:(vs.zip vs).map (·.2) = vs:=by rw [List.map_snd_zip];exact Nat.le_refl _
  simpa using e2
 rw [e]
 refine wpAny_bind (seqEpoch_at hk2 rfl (wpAny_bind (listUpdate_at hk2 rfl ?_ (hsz2:=by rw [List.size_toArray,sizeLine_eq];omega))))
 dsimp only
 rw [bne_self_eq_false]
 exact wpAny_pure h
theorem sorted_few {l:Addr} {vs:List Value} {Q:Value→Shared→Prop} (hl:s.heap.IsList l vs.toArray) (h2:vs.length < 2)
  (h:Q (.ref (s.heap.objs.size + 1)) { s with heap:=sortedAll s.heap vs vs.toArray }):wpAny (model prog w) A (call (.builtin "sorted") [.ref l]) Q E s:=by
 have z:((s.heap.push (seqObj "list" #[] 0)).update s.heap.objs.size (Obj.mapSeq (· ++ vs.toArray))).objs.size = s.heap.objs.size + 1:=(Heap.size_update _ _ _).trans (size_push' _ _)
 have hL:(((s.heap.push (seqObj "list" #[] 0)).update s.heap.objs.size (Obj.mapSeq (· ++ vs.toArray))).push (seqObj "list" vs.toArray 0)).get? (s.heap.objs.size + 1) = some (seqObj "list" vs.toArray 0):=z ▸ Heap.get?_push_size _ rfl
 refine Calls.call_function_entry kind_sorted plain_sorted entry_sorted (args_sorted1 _) ?_
 unfold Builtin.«sorted»
 refine wpAny_bind (m:=checkCount "sorted" 1 1 _) (wpAny_pure (wpAny_bind (collect_list hl (wpAny_bind (wpAny_newList ?_ (by rw [sizeLine_eq];omega))) (hsz:=by rw [sizeLine_eq];omega))))
 show wpAny _ _ _ _ _ { s with heap:=((s.heap.push (seqObj "list" #[] 0)).update s.heap.objs.size (Obj.mapSeq (· ++ vs.toArray))).push (seqObj "list" vs.toArray 0) }
 rw [z]
 exact wpAny_bind (wpAny_holding (wpAny_call_entry slot_list_sort ⟨_,hL,rfl⟩ entry_list_sort (sort_few hL h2 ⟨_,rfl,wpAny_pure ⟨_,rfl,h⟩⟩) (args_list_sort _)))
end
end SrtR

namespace Th
open Classical
theorem sub_len {α:Type}:∀ {l m:List α},l.Nodup→(∀ x∈l,x∈m)→l.length≤m.length
 | [],m,_,_=>Nat.zero_le _
 | a :: l,m,nd,h=>by
  obtain ⟨h1,h2⟩:=List.nodup_cons.mp nd
  have ha:=h a List.mem_cons_self
  have z:=sub_len (l:=l) (m:=m.erase a) h2 fun x hx=>by
   have hne:x≠a:=fun e=>h1 (e ▸ hx)
   exact (List.mem_erase_of_ne hne).mpr (h x (List.mem_cons_of_mem _ hx))
  rw [List.length_erase_of_mem ha] at z
  have:0 < m.length:=List.length_pos_of_mem ha
  rw [List.length_cons]
  omega
end Th


namespace Th
open Classical
section
variable {N:Nat} {a b:Nat→Nat}
inductive Kd | ring | odd | bare | tied
deriving DecidableEq
end
end Th

set_option maxHeartbeats 4000000




namespace Mir
open PySem L2
noncomputable def ks:Th.Kd→Str
 | .ring=>"ring"
 | .odd=>"odd"
 | .bare=>"bare"
 | .tied=>"tied"
variable (K:PySem.W.Frag)
end Mir

namespace Mir
open PySem L2
theorem ks_inj:∀ a b:Th.Kd,ks a = ks b→a = b:=by
 intro a b h
 cases a <;> cases b <;> first | rfl | exact absurd h (by decide)
end Mir

namespace SrtR
open PySem PySem.Spec PyProof.Rows PySem.W L2
noncomputable def kx:Th.Kd→Int
 | .bare=>0
 | .odd=>1
 | .ring=>2
 | .tied=>3
theorem kx_inj:∀ a b:Th.Kd,kx a = kx b→a = b:=by intro a b h;cases a <;> cases b <;> first | rfl | exact absurd h (by decide)
theorem kx_lt:∀ a b:Th.Kd,decide ((Mir.ks a).cps.toList < (Mir.ks b).cps.toList) = decide (kx a < kx b):=by intro a b;cases a <;> cases b <;> decide +kernel
noncomputable def Pr (h:Heap) (str:Bool) (v:Value) (r:Int):Prop:=∃ (t:Addr) (o:Obj) (n:Nat) (x:Value) (y a:Int) (u1 u2:Tok),v = .ref t∧h.get? t = some o∧o.cls = .type "tuple"∧o.data = .seq #[x,.int y u2] n∧0≤y∧y < 1000∧r = 1000 * a + y ∧
 ((str = false∧x = .int a u1)∨(str = true∧∃ k:Th.Kd,x = .str (Mir.ks k) u1∧a = kx k))
theorem Pr.uniq {h:Heap} {str:Bool} {v:Value} {r r':Int} (p:Pr h str v r) (q:Pr h str v r'):r = r':=by
 obtain ⟨t,o,n,x,y,a,u1,u2,rfl,e1,e2,e3,e4,e5,e6,e7⟩:=p
 obtain ⟨t',o',n',x',y',a',u1',u2',f0,f1,f2,f3,f4,f5,f6,f7⟩:=q
 injection f0 with f0
 subst f0
 rw [e1] at f1
 obtain rfl:=Option.some.inj f1
 rw [e3] at f3
 injection f3 with f3 _
 have f3:=congrArg Array.toList f3
 injection f3 with g1 g2
 injection g2 with g2 _
 injection g2 with g2 _
 subst g2
 rcases e7 with ⟨s1,e7⟩ | ⟨e8,k,e7,e9⟩
 ·rcases f7 with ⟨_,f7⟩ | ⟨f8,_⟩
  ·rw [e7,f7] at g1
   injection g1 with g1 _
   rw [e6,f6,g1]
  ·rw [s1] at f8;cases f8
 ·rcases f7 with ⟨f8,f7⟩ | ⟨_,k',f7,f9⟩
  ·rw [e8] at f8;cases f8
  ·rw [e7,f7] at g1
   injection g1 with g1 _
   have:=Mir.ks_inj _ _ g1
   rw [e6,f6,e9,f9,this]
open Classical in
noncomputable def rkO (h:Heap) (str:Bool) (v:Value):Int:=if e:∃ r,Pr h str v r then choose e else 0
theorem rk_of {h:Heap} {str:Bool} {v:Value} {r:Int} (p:Pr h str v r):rkO h str v = r:=by
 unfold rkO
 have e:∃ r,Pr h str v r:=⟨r,p⟩
 rw [dif_pos e]
 exact (Classical.choose_spec e).uniq p
@[reducible] noncomputable def prRk (h:Heap) (str:Bool):RkP:=⟨fun p=>∃ r,Pr h str p.1 r,fun p=>rkO h str p.1,tuples' true⟩
noncomputable def tyP (str:Bool):Value:=if str = true then .type "str" else .type "int"
theorem pr_asks {prog:Program} {w:World} {A:Around} {s:Shared} {h:Heap} {str:Bool} (k:∀ b o,h.get? b = some o→s.heap.get? b = some o):@Asks (prRk h str) prog w A s:=by
 letI:=prRk h str
 intro x y ⟨r,px⟩ ⟨r',py⟩ E Q q0
 have q:Q (decide (r < r')) s:=by
  have e1:num x = r:=rk_of px
  have e2:num y = r':=rk_of py
  rw [e1,e2] at q0
  exact q0
 clear q0
 obtain ⟨x1,x2⟩:=x
 obtain ⟨y1,y2⟩:=y
 obtain ⟨t,o,n,x,y,a,u1,u2,rfl,e1,e2,e3,e4,e5,e6,e7⟩:=px
 obtain ⟨t',o',n',x',y',a',u1',u2',rfl,f1,f2,f3,f4,f5,f6,f7⟩:=py
 show wpAny _ _ (keyLt' (tuples' true) (.ref t) (.ref t')) _ _ _
 refine kat_lt (k _ _ e1) e3 (k _ _ f1) f3 ?_
 show KatLex prog w A true (decide (2 < 2)) _ [(x,x'),(.int y u2,.int y' u2')] 0 s
 have second:a = a'→KatLex prog w A true (decide (2 < 2)) Q [(.int y u2,.int y' u2')] 1 s:=fun ea=>by
  refine kat_cons (wpAny_eqBool_int ?_)
  by_cases c:y = y'
  ·rw [show (y == y') = true from beq_iff_eq.mpr c]
   refine kat_yes (kat_nil ?_)
   rw [show decide (2 < 2) = decide (r < r') from decide_eq_decide.mpr (by omega)]
   exact q
  ·rw [show (y == y') = false from beq_eq_false_iff_ne.mpr c]
   refine kat_no (kat_one _ _ (lt_int ?_))
   show Q _ s
   rw [show decide (y < y') = decide (r < r') from decide_eq_decide.mpr (by omega)]
   exact q
 rcases e7 with ⟨s1,rfl⟩ | ⟨s1,k1,rfl,ek⟩
 ·rcases f7 with ⟨_,rfl⟩ | ⟨s2,_⟩
  ·refine kat_cons (wpAny_eqBool_int ?_)
   by_cases c:a = a'
   ·rw [show (a == a') = true from beq_iff_eq.mpr c]
    exact kat_yes (second c)
   ·rw [show (a == a') = false from beq_eq_false_iff_ne.mpr c]
    refine kat_no (oneLt_int ?_)
    rw [show decide (a < a') = decide (r < r') from decide_eq_decide.mpr (by omega)]
    exact q
  ·rw [s1] at s2;cases s2
 ·rcases f7 with ⟨s2,_⟩ | ⟨_,k2,rfl,fk⟩
  ·rw [s1] at s2;cases s2
  ·refine kat_cons (eqBool_str ?_)
   by_cases c:k1 = k2
   ·subst c
    rw [beq_self_eq_true]
    exact kat_yes (second (by rw [ek,fk]))
   ·rw [show (Mir.ks k1 == Mir.ks k2) = false from beq_eq_false_iff_ne.mpr fun z=>c (Mir.ks_inj _ _ z)]
    refine kat_no (oneLt_str ?_)
    have ne:a≠a':=fun z=>c (kx_inj _ _ (by rw [← ek,← fk,z]))
    rw [kx_lt,← ek,← fk,show decide (a < a') = decide (r < r') from decide_eq_decide.mpr (by omega)]
    exact q
end SrtR
namespace L2
open PySem PySem.Spec PyProof.Rows SrtR
section
variable {X:Cx}
noncomputable def PrV (str:Bool) (vs:List V) (r:Int):Prop:=∃ (x:V) (y a:Int),vs = [x,.int y]∧0≤y∧y < 1000∧r = 1000 * a + y∧((str = false∧x = .int a)∨(str = true∧∃ k:Th.Kd,x = .str (Mir.ks k)∧a = kx k))
theorem pr_of {pins:List (Addr×Obj)} {s:Shared} {σ:L2.St} {H:Hp} {t:Addr} {vs:List V} {r:Int} {str:Bool} (I:Inv X pins σ H s) (h:H t = some (.tup vs)) (p:PrV str vs r):Pr s.heap str (.ref t) r:=by
 obtain ⟨x,y,a,rfl,h1,h2,h3,h4⟩:=p
 obtain ⟨its,rv,⟨o,e1,e2,n,e3⟩,_⟩:=I.tuple (SqT.of h)
 cases rv with
 | cons r1 rr =>
  cases rr with
  | cons r2 rr =>
   cases rr
   obtain ⟨u2,rfl⟩:=r2
   rcases h4 with ⟨s1,rfl⟩ | ⟨s1,k,rfl,ek⟩
   ·obtain ⟨u1,rfl⟩:=r1
    exact ⟨t,o,n,_,y,a,u1,u2,rfl,e1,e2,e3,h1,h2,h3,.inl ⟨s1,rfl⟩⟩
   ·obtain ⟨u1,rfl⟩:=r1
    exact ⟨t,o,n,_,y,a,u1,u2,rfl,e1,e2,e3,h1,h2,h3,.inr ⟨s1,k,rfl,ek⟩⟩
theorem kat_mono {h h':Heap} (k:∀ b o,h.get? b = some o→h'.get? b = some o):∀ {vs fs:List Value},PySem.W.KatTups h vs fs→PySem.W.KatTups h' vs fs
 | [],[],_=>trivial
 | [],_ :: _,z=>z.elim
 | _ :: _,[],z=>z.elim
 | _ :: _,_ :: _,⟨⟨a,o,xs,n,e0,e1,e2⟩,r⟩=>⟨⟨a,o,xs,n,e0,k _ _ e1,e2⟩,kat_mono k r⟩
theorem kat_tups {h:Heap} {str:Bool}:∀ ts:List Addr,(∀ t∈ts,∃ r,Pr h str (.ref t) r)→∃ fs:List Value,PySem.W.KatTups h (ts.map Value.ref) fs∧∀ v∈fs,(str = false∧∃ i u,v = .int i u)∨(str = true∧∃ z u,v = .str z u)
 | [],_=>⟨[],PySem.W.KatTups.nil,fun v hv=>absurd hv List.not_mem_nil⟩
 | t :: ts,hp=>by
  obtain ⟨fs,h1,h2⟩:=kat_tups ts fun t ht=>hp t (List.mem_cons_of_mem _ ht)
  obtain ⟨r,t',o,n,x,y,a,u1,u2,e0,e1,e2,e3,e4,e5,e6,e7⟩:=hp t List.mem_cons_self
  injection e0 with e0
  subst e0
  refine ⟨x :: fs,PySem.W.KatTups.cons e1 e2 e3 rfl h1,fun v hv=>?_⟩
  rcases List.mem_cons.mp hv with rfl | hv
  ·rcases e7 with ⟨s1,e7⟩ | ⟨s1,k,e7,_⟩
   ·exact .inl ⟨s1,_,_,e7⟩
   ·exact .inr ⟨s1,_,_,e7⟩
  ·exact h2 v hv
theorem vals_refs:∀ {ts:List Addr} {its:List Value},Vals (ts.map V.ref) its→its = ts.map Value.ref
 | [],_,.nil=>rfl
 | t :: ts,_,.cons r rr=>by cases r;rw [vals_refs rr];rfl
theorem vals_refs':∀ ts:List Addr,Vals (ts.map V.ref) (ts.map Value.ref)
 | []=>.nil
 | t :: ts=>.cons rfl (vals_refs' ts)
theorem refs_perm {us:List Value} {ts:List Addr} (h:us.Perm (ts.map Value.ref)):∃ ws:List Addr,us = ws.map Value.ref∧ws.Perm ts:=by
 let g:Value→Addr:=fun v=>match v with
  | .ref a=>a
  | _=>0
 have e:∀ v∈us,Value.ref (g v) = v:=fun v hv=>by
  obtain ⟨t,_,rfl⟩:=List.mem_map.mp (h.mem_iff.mp hv)
  rfl
 refine ⟨us.map g,?_,?_⟩
 ·rw [List.map_map]
  exact (List.map_id' us).symm.trans (List.map_congr_left fun v hv=>(e v hv).symm)
 ·have z:=h.map g
  rw [List.map_map] at z
  have e2:ts.map (g ∘ Value.ref) = ts:=List.map_id' ts
  rw [e2] at z
  exact z
end
end L2

namespace SrtR
open PySem PySem.Spec PyProof.Rows PySem.W
section
variable [RkP] {prog:Program} {w:World} {A:Around} {E:Value→Shared→Prop} {s:Shared} {a₀:Array Keyed}
noncomputable def Laid1 (a₀:Array Keyed) (st:SortSt):Prop:=(arrOf st).Perm a₀∧failedOf st = none∧∃ p,pendingOf st = #[p]∧AscL 0 (arrOf st) a₀.size
theorem wpS_runs64 {st:SortSt} {Q:Unit→SortSt→Prop} (h0:IKA prog w A s a₀) (hp:(arrOf st).Perm a₀) (hk:kindOf st = oneType') (hf:failedOf st = none) (hd:pendingOf st = #[]) (h2:2≤a₀.size) (h64:a₀.size < 64)
  (h:∀ st',(arrOf st').Perm a₀→failedOf st' = none→SortedTo (arrOf st') a₀.size→Q () st'):wpS (model prog w) A E s sortRuns' Q st:=by
 rw [sortRuns'_eq]
 refine wpS_bind (wpS_get ?_)
 dsimp only
 have hsz:(arrOf st).size = a₀.size:=hp.size_eq
 rw [hsz]
 have em:minRun' a₀.size a₀.size 0 = a₀.size:=by
  obtain ⟨g,e⟩:∃ g,a₀.size = g + 1:=⟨a₀.size - 1,by omega⟩
  rw [e,minRun'_succ,if_pos (by omega)]
 rw [em]
 refine wpS_bind (wpS_mono (wpS_forRange
  (I:=fun x c st'=>(x = 0∧c = (none,0)∧SB a₀ #[] 0 (fun _=>0) st')∨(1≤x∧c = (none,a₀.size)∧Laid1 a₀ st'))
  (Q:=fun c st'=>c = (none,a₀.size)∧Laid1 a₀ st') ?step ?fin (.inl ⟨rfl,rfl,⟨hp,hk,hf,hd,fun i hi=>absurd hi (Nat.not_lt_zero _)⟩⟩)) ?post)
 case fin =>
  rintro c st' (⟨hx,_⟩ | ⟨_,e,L⟩)
  ·have:max 0 a₀.size = a₀.size:=Nat.max_eq_right (Nat.zero_le _)
   omega
  ·exact ⟨e,L⟩
 case step =>
  rintro x c st' _ hx (⟨rfl,rfl,hB⟩ | ⟨hx2,rfl,L⟩)
  ·dsimp only
   refine wpS_ite (fun z=>absurd z (by omega)) (fun _=>?_)
   refine wpS_bind (wpS_countL h0 (by omega) (by omega) hB fun k st2 hB2 k1 k2 g2=>?_)
   dsimp only
   rw [Nat.sub_zero] at k2
   have push:∀ (st3:SortSt),SB a₀ #[] 0 (fun _=>0) st3→AscL 0 (arrOf st3) a₀.size→Laid1 a₀ (setPending st3 ((pendingOf st3).push (0,a₀.size,0))):=fun st3 b g =>
    ⟨b.perm,b.fl,⟨_,by show (pendingOf st3).push _ = _;rw [b.pd];rfl,g⟩⟩
   refine wpS_ite (fun z=>?_) (fun z=>?_)
   ·have ef:min (a₀.size - 0) a₀.size = a₀.size:=by omega
    rw [ef]
    refine wpS_bind (wpS_lift (wpAny_rule ⟨rfl,wpS_bind (wpS_binL h0 (by omega) k1 (by omega) hB2 g2 fun st3 hB3 g3=>?_)⟩))
    refine wpS_ite (fun z=>absurd z (by simp)) (fun _=>?_)
    refine wpS_bind (wpS_get ?_)
    have hb:(pendingOf st3).back? = none:=by rw [hB3.pd];rfl
    rw [hb]
    dsimp only
    refine wpS_bind (wpS_modify (wpS_pure (.inr ⟨Nat.le_refl _,by rw [Nat.zero_add],push st3 hB3 g3⟩)))
   ·have hka:k = a₀.size:=by omega
    rw [hka] at g2 ⊢
    refine wpS_bind (wpS_get ?_)
    have hb:(pendingOf st2).back? = none:=by rw [hB2.pd];rfl
    rw [hb]
    dsimp only
    refine wpS_bind (wpS_modify (wpS_pure (.inr ⟨Nat.le_refl _,by rw [Nat.zero_add],push st2 hB2 g2⟩)))
  ·dsimp only
   refine wpS_ite (fun _=>wpS_pure ⟨rfl,L⟩) (fun z=>absurd (Nat.le_refl _) z)
 case post =>
  rintro c st' ⟨rfl,L⟩
  dsimp only
  obtain ⟨lp,lf,p,e1,asc⟩:=L
  refine wpS_bind (wpS_mono (wpS_forRange (I:=fun x c st''=>c = (none,())∧st'' = st') (Q:=fun c st''=>c = (none,())∧st'' = st') ?fs ?ff ⟨rfl,rfl⟩) ?fp)
  case ff =>
   rintro c st'' ⟨e,e2⟩
   exact ⟨e,e2⟩
  case fp =>
   rintro c st'' ⟨e,e2⟩
   subst e e2
   exact wpS_pure (h _ lp lf (sortedTo_asc asc))
  case fs =>
   rintro x c st'' _ _ ⟨e,e2⟩
   subst e e2
   refine wpS_bind (wpS_get ?_)
   exact wpS_ite (fun _=>wpS_pure ⟨rfl,rfl⟩) (fun z=>absurd (by rw [e1];exact Nat.le_refl 1) z)
end
end SrtR
namespace SrtR
open PySem PyProof.Rows PySem.W
section
variable {prog:Program} {w:World} {A:Around} {E:Value→Shared→Prop} {s:Shared}
theorem sort_tups64 [RkP] {a:Addr} {vs fs:List Value} {rk:Value→Int} {T:Value} {n:Nat} {P:PySem.Fin→Shared→Prop} (hr:∀ p:Keyed,num p = rk p.1) (hkd:RkP.kd = tuples' (T != Value.type "tuple")) (hT2:(T == T) = true) (ho:s.heap.get? a = some (seqObj "list" vs.toArray n)) (h2:2≤vs.length) (h128:vs.length < 64)
  (hT:∀ h':Heap,(∀ b o,b≠a→s.heap.get? b = some o→h'.get? b = some o)→KatTups h' vs fs∧(∀ v∈fs,Looks (model prog w) h' (typeOf v) T)∧IKA prog w A { s with heap:=h' } (pairsOf vs))
  (h:∀ out:Array Value,out.toList.Perm vs→(out.toList.Pairwise fun u v=>rk u≤rk v)→P (.done (.ret .none)) { s with heap:=sortedHeap s.heap a vs out }):wpAny (model prog w) A (Builtin.«list.sort» ⟨[.ref a],[]⟩) P E s:=by
 rw [list_sort_plain]
 have la:a < s.heap.objs.size:=Heap.lt_size ho
 obtain ⟨k,hk⟩:∃ k,(s.heap.update a (Obj.mapSeq fun _=>#[])).get? a = some (seqObj "list" #[] k):=⟨_,get?_update_seq ho (fun _=>#[])⟩
 have hk2:(((s.heap.update a (Obj.mapSeq fun _=>#[])).push (seqObj "tuple" vs.toArray 0)).push (seqObj "list" #[] 0)).get? a = some (seqObj "list" #[] k) :=
  Heap.get?_push_of_some _ (Heap.get?_push_of_some _ hk)
 have keep:∀ b o,b≠a→s.heap.get? b = some o→(((s.heap.update a (Obj.mapSeq fun _=>#[])).push (seqObj "tuple" vs.toArray 0)).push (seqObj "list" #[] 0)).get? b = some o:=fun b o hb e =>
  Heap.get?_push_of_some _ (Heap.get?_push_of_some _ (by rw [Heap.get?_update_ne _ _ _ _ hb];exact e))
 obtain ⟨t1,t2,t3⟩:=hT _ keep
 have hz1:vs.toArray.size≤sizeLine:=by rw [List.size_toArray,sizeLine_eq];omega
 have hz2:vs.toArray.toList.length≤sizeLine:=by rw [sizeLine_eq];simp;omega
 refine wpAny_bind (listItems_at ho rfl (wpAny_bind (listUpdate_at ho rfl (wpAny_bind (seqEpoch_at hk rfl ?_)) hz1 (Nat.zero_le _))))
 refine wpAny_bind (wpAny_newTuple (wpAny_bind (wpAny_newList (wpAny_holding ?_) (Nat.zero_le _))) hz2)
 show wpAny (model prog w) A _ P E { s with heap:=((s.heap.update a (Obj.mapSeq fun _=>#[])).push (seqObj "tuple" vs.toArray 0)).push (seqObj "list" #[] 0) }
 dsimp only
 have z2:¬ vs.toArray.size < 2:=by rw [List.size_toArray];omega
 rw [if_neg z2,if_neg z2]
 have hne:0 < fs.length:=by
  cases fs with
  | nil=>cases vs with
   | nil=>exact absurd h2 (by decide)
   | cons v r=>exact t1.elim
  | cons f r=>exact Nat.succ_pos _
 refine wpAny_bind (kat_kind t1 hne t2 hT2 ?_)
 refine wpAny_bind (wpAny_mono (wpS_runs64 (a₀:=pairsOf vs) (st:=SortSt.mk' (tuples' (T != Value.type "tuple")) (vs.toArray.zip vs.toArray) #[] 7 none) (Q:=fun _ z=>(arrOf z).Perm (pairsOf vs)∧failedOf z = none∧SortedTo (arrOf z) (pairsOf vs).size)
  t3 (Array.Perm.refl _) hkd.symm rfl rfl (by rw [pairsOf_size];exact h2) (by rw [pairsOf_size];exact h128) fun z a1 a2 a3=>⟨a1,a2,a3⟩) ?_ fun _ _ e=>e)
 rintro ⟨⟨⟩,z⟩ s2 ⟨rfl,hp,hf,hs⟩
 dsimp only
 have zs:((arrOf z).map (·.2)).size≤sizeLine + 1:=by
  rw [Array.size_map,hp.size_eq,pairsOf_size,sizeLine_eq]
  omega
 refine wpAny_bind (seqEpoch_at hk2 rfl (wpAny_bind (listUpdate_at hk2 rfl ?_ (hsz2:=zs))))
 rw [hf]
 dsimp only
 rw [bne_self_eq_false]
 obtain ⟨b1,b2⟩:=sorted_outR hr hp hs
 exact wpAny_pure (h _ b1 b2)
theorem sorted_tups64 [RkP] {l:Addr} {vs fs:List Value} {rk:Value→Int} {T:Value} {Q:Value→Shared→Prop} (hr:∀ p:Keyed,num p = rk p.1) (hkd:RkP.kd = tuples' (T != Value.type "tuple")) (hT2:(T == T) = true) (hl:s.heap.IsList l vs.toArray) (h2:2≤vs.length) (h128:vs.length < 64)
  (hT:∀ (A':Around) (h':Heap),(∀ b o,s.heap.get? b = some o→h'.get? b = some o)→KatTups h' vs fs∧(∀ v∈fs,Looks (model prog w) h' (typeOf v) T)∧IKA prog w A' { s with heap:=h' } (pairsOf vs))
  (h:∀ out:Array Value,out.toList.Perm vs→(out.toList.Pairwise fun u v=>rk u≤rk v)→Q (.ref (s.heap.objs.size + 1)) { s with heap:=sortedAll s.heap vs out }):wpAny (model prog w) A (call (.builtin "sorted") [.ref l]) Q E s:=by
 have z:((s.heap.push (seqObj "list" #[] 0)).update s.heap.objs.size (Obj.mapSeq (· ++ vs.toArray))).objs.size = s.heap.objs.size + 1:=(Heap.size_update _ _ _).trans (size_push' _ _)
 have hL:(((s.heap.push (seqObj "list" #[] 0)).update s.heap.objs.size (Obj.mapSeq (· ++ vs.toArray))).push (seqObj "list" vs.toArray 0)).get? (s.heap.objs.size + 1) = some (seqObj "list" vs.toArray 0):=z ▸ Heap.get?_push_size _ rfl
 have keep:∀ b o,s.heap.get? b = some o→b≠s.heap.objs.size + 1∧(((s.heap.push (seqObj "list" #[] 0)).update s.heap.objs.size (Obj.mapSeq (· ++ vs.toArray))).push (seqObj "list" vs.toArray 0)).get? b = some o:=fun b o q=>by
  have hlt:b < s.heap.objs.size:=Heap.lt_size q
  have hne:b≠s.heap.objs.size:=Nat.ne_of_lt hlt
  have hne2:b≠s.heap.objs.size + 1:=Nat.ne_of_lt (Nat.lt_succ_of_lt hlt)
  refine ⟨hne2,?_⟩
  rw [Heap.get?_push_ne _ _ _ (by rw [z];exact hne2),Heap.get?_update_ne _ _ _ _ hne,Heap.get?_push_ne _ _ _ hne]
  exact q
 refine Calls.call_function_entry kind_sorted plain_sorted entry_sorted (args_sorted1 _) ?_
 unfold Builtin.«sorted»
 refine wpAny_bind (m:=checkCount "sorted" 1 1 _) (wpAny_pure (wpAny_bind (collect_list hl (wpAny_bind (wpAny_newList ?_ (by rw [sizeLine_eq];omega))) (hsz:=by rw [sizeLine_eq];omega))))
 show wpAny _ _ _ _ _ { s with heap:=((s.heap.push (seqObj "list" #[] 0)).update s.heap.objs.size (Obj.mapSeq (· ++ vs.toArray))).push (seqObj "list" vs.toArray 0) }
 rw [z]
 refine wpAny_bind (wpAny_holding (wpAny_call_entry slot_list_sort ⟨_,hL,rfl⟩ entry_list_sort (sort_tups64 (fs:=fs) hr hkd hT2 hL h2 h128 (fun h' hk=>?_) fun out a1 a2=>⟨_,rfl,wpAny_pure ⟨_,rfl,h out a1 a2⟩⟩) (args_list_sort _)))
 exact hT _ h' fun b o q=>hk b o (keep b o q).1 (keep b o q).2
end
end SrtR
namespace L2
open PySem PySem.Spec PyProof.Rows SrtR
section
variable {X:Cx}
theorem call_sortedP64 (str:Bool):CallR X (.builtin "sorted") (fun xs H Q=>∃ (p:Addr) (ts:List Addr) (g:Addr→Int),xs = [.ref p]∧SqL X.K H p (ts.map V.ref)∧ts.length < 64∧(∀ t∈ts,∃ vs,H t = some (.tup vs)∧PrV str vs (g t)) ∧
  ∀ (us:List Addr) (l:Addr),us.Perm ts→(us.Pairwise fun t u=>g t≤g u)→H l = none→Q (.ref l) (upd H l (.lst (us.map V.ref)))):=by
 intro pins s σ H xs us Q I r h
 obtain ⟨p,ts,g,rfl,hq,h128,ht,q⟩:=h
 obtain ⟨u,rfl,ru⟩:=r.one
 cases ru
 obtain ⟨its,rv,pl,hz⟩:=I.list hq
 obtain rfl:=vals_refs rv
 have hpr:∀ t∈ts,Pr s.heap str (.ref t) (g t):=fun t hm=>by
  obtain ⟨vs,e1,e2⟩:=ht t hm
  exact pr_of I e1 e2
 have hfr:H (s.heap.objs.size + 1) = none:=I.hok.fresh (Nat.le_succ _)
 have fin:∀ (out:Array Value),out.toList.Perm (ts.map Value.ref)→(out.toList.Pairwise fun u v=>rkO s.heap str u≤rkO s.heap str v)→EP X pins σ Q (.ref (s.heap.objs.size + 1)) { s with heap:=sortedAll s.heap (ts.map Value.ref) out }:=fun out a1 a2=>by
  obtain ⟨ws,e,hw⟩:=refs_perm a1
  obtain ⟨c,he⟩:=sortedAll_at s.heap (ts.map Value.ref) out
  have hg:∀ t∈ws,rkO s.heap str (.ref t) = g t:=fun t hm=>rk_of (hpr t (hw.mem_iff.mp hm))
  have a3:ws.Pairwise fun t u=>g t≤g u:=by
   rw [e,List.pairwise_map] at a2
   refine List.Pairwise.imp_of_mem (fun {x y} hx hy z=>?_) a2
   rw [hg x hx,hg y hy] at z
   exact z
  refine ⟨.ref (s.heap.objs.size + 1),_,I.laid (a:=s.heap.objs.size + 1) (o:=.lst (ws.map V.ref)) (t':=s.toks) (fun b o=>sortedAll_old) (Nat.le_succ _) ⟨?_,out.toList,c,by rw [e];exact vals_refs' ws,by simpa [seqObj] using he⟩,rfl,q ws _ hw a3 hfr⟩
  rw [List.length_map,hw.length_eq]
  have:=sizeLine_eq
  omega
 by_cases c:2≤ts.length
 ·letI:=prRk s.heap str
  obtain ⟨fs,k1,k2⟩:=kat_tups (h:=s.heap) (str:=str) ts fun t hm=>⟨_,hpr t hm⟩
  refine sorted_tups64 (fs:=fs) (rk:=rkO s.heap str) (T:=tyP str) (fun p=>rfl) (by cases str <;> rfl) (by cases str <;> rfl) pl.isList (by rw [List.length_map];exact c) (by rw [List.length_map];exact h128) (fun A' h' hk=>?_) fun out a1 a2=>fin out a1 a2
  refine ⟨kat_mono hk k1,fun v hv=>?_,fun p hp=>?_,pr_asks hk⟩
  ·rcases k2 v hv with ⟨s1,i,u,rfl⟩ | ⟨s1,z,u,rfl⟩
   ·subst s1
    exact .now
   ·subst s1
    exact .now
  ·have ez:(pairsOf (ts.map Value.ref)).toList = (ts.map Value.ref).zip (ts.map Value.ref):=by unfold pairsOf;simp
   rw [ez] at hp
   obtain ⟨t,hm,e⟩:=List.mem_map.mp (List.of_mem_zip hp).1
   exact ⟨g t,by rw [← e];exact hpr t hm⟩
 ·refine sorted_few pl.isList (by rw [List.length_map];omega) (fin _ (by simp) ?_)
  match ts,c with
  | [],_=>exact List.Pairwise.nil
  | [t],_=>exact List.pairwise_singleton _ _
  | _ :: _ :: _,c=>exact absurd (by simp) c
end
end L2



namespace Mir
open PySem L2
noncomputable def hung (ps:List (Int×Int)):List (List Int):=(grp (fun k=>mk ps (ps.getD k (0,0)).1) ps.length).map Prod.snd
theorem rings_hung (rs:List Int):ringsT rs = hung (tieL rs):=by
 unfold ringsT hung
 rw [tieL_len,grp_congr]
 intro i hi
 have z:=tieL_get hi
 have e:(tieL rs).getD i (0,0) = tieI rs i:=by rw [List.getD_eq_getElem?_getD,z];rfl
 rw [e]
 rfl
noncomputable def spHung:Sp:=fun vs H Q _=>∃ (l:Addr) (ps:List (Int×Int)),vs = [.ref l]∧TsT pr H l ps∧ps.length≤100∧∀ (r:Addr) (H':Hp),H r = none→Same H H'→TsT iV H' r (hung ps)→Q (.ref r) H'
noncomputable def spTieRings:Sp:=fun vs H Q _=>∃ (t:Addr) (rs:List Int),vs = [.ref t]∧H t = some (.tup (iV rs))∧Fit rs∧∀ (l:Addr) (H':Hp),H l = none→Same H H'→TsT iV H' l (ringsT rs)→Q (.ref l) H'
section
variable {κ:Type} [DecidableEq κ]
theorem keys_put {kvs:List (κ×V)} {k:κ} {v:V} (h:(valV kvs k).isSome = true):(putK kvs k v).map Prod.fst = kvs.map Prod.fst:=by
 unfold putK
 rw [if_pos (by rw [valV_any];exact h),List.map_map]
 refine List.map_congr_left fun y _=>?_
 show (if y.1 = k then (y.1,v) else y).1 = y.1
 split <;> rfl
theorem len_put {kvs:List (κ×V)} {k:κ} {v:V} (h:(valV kvs k).isSome = true):(putK kvs k v).length = kvs.length:=by
 have:=congrArg List.length (keys_put (v:=v) h)
 rwa [List.length_map,List.length_map] at this
end
structure GD (kvs:List (Key×V)) (m:Int→Int) (S:Int→Prop):Prop where
 yes:∀ x,S x→valV kvs (Sum.inl x:Key) = some (.int (m x))
 no:∀ x,¬ S x→valV kvs (Sum.inl x:Key) = none
 keys:∀ k∈kvs.map Prod.fst,∃ x:Int,k = Sum.inl x∧S x
section
variable {kvs:List (Key×V)} {m m':Int→Int} {S T:Int→Prop} {x:Int}
theorem GD.nil (m:Int→Int) (h:∀ x,¬ S x):GD [] m S:=⟨fun x hx=>absurd hx (h x),fun _ _=>rfl,fun k hk=>absurd hk List.not_mem_nil⟩
theorem GD.congr (g:GD kvs m S) (e:∀ x,S x→m x = m' x):GD kvs m' S:=⟨fun x hx=>by rw [g.yes x hx,e x hx],g.no,g.keys⟩
theorem GD.imp (g:GD kvs m S) (e:∀ x,S x↔T x):GD kvs m T:=⟨fun x hx=>g.yes x ((e x).mpr hx),fun x hx=>g.no x fun z=>hx ((e x).mp z),fun k hk=>let ⟨x,h1,h2⟩:=g.keys k hk;⟨x,h1,(e x).mp h2⟩⟩
theorem GD.new (g:GD kvs m S) (hx:¬ S x) {v:Int} (hv:v = m x):GD (putK kvs (Sum.inl x:Key) (.int v)) m (fun y=>S y∨y = x):=by
 have hn:=g.no x hx
 refine ⟨fun y hy=>?_,fun y hy=>?_,fun k hk=>?_⟩
 ·rw [valV_put]
  by_cases c:y = x
  ·rw [c,if_pos rfl,hv]
  ·rw [if_neg fun z=>c (by injection z),g.yes y (hy.resolve_right c)]
 ·rw [valV_put,if_neg fun z=>hy (.inr (by injection z)),g.no y fun z=>hy (.inl z)]
 ·rw [putK_new _ hn,List.map_append] at hk
  rcases List.mem_append.mp hk with hk | hk
  ·obtain ⟨y,h1,h2⟩:=g.keys k hk
   exact ⟨y,h1,.inl h2⟩
  ·exact ⟨x,List.mem_singleton.mp hk,.inr rfl⟩
theorem GD.put (g:GD kvs m S) (hx:S x) (v:Int):GD (putK kvs (Sum.inl x:Key) (.int v)) (fun y=>if y = x then v else m y) S:=by
 refine ⟨fun y hy=>?_,fun y hy=>?_,fun k hk=>?_⟩
 ·rw [valV_put]
  by_cases c:y = x
  ·rw [c,if_pos rfl,if_pos rfl]
  ·rw [if_neg fun z=>c (by injection z),if_neg c,g.yes y hy]
 ·rw [valV_put,if_neg fun z=>hy (by injection z with z;rw [z];exact hx),g.no y hy]
 ·rw [keys_put (by rw [g.yes x hx];rfl)] at hk
  exact g.keys k hk
end
theorem dset_one {Q:VK} {H:Hp} {d:Addr} {kvs:List (Key×V)} {m:Int→Int} {S:Int→Prop} {x:Int} (hd:H d = some (.dK kvs)) (g:GD kvs m S) (hm:¬ S x→m x = x)
  (q:∀ (kvs':List (Key×V)) (H':Hp),kvs'.length≤kvs.length + 1→H' d = some (.dK kvs')→(∀ b,b≠d→H' b = H b)→GD kvs' m (fun y=>S y∨y = x)→Q (.int (m x)) H') :
  (∀ v,valV kvs (Sum.inl x:Key) = some v→Q v H)∧(valV kvs (Sum.inl x:Key) = none→Q (.int x) (upd H d (.dK (putK kvs (Sum.inl x:Key) (.int x))))):=by
 constructor
 ·intro v hv
  have hS:S x:=Classical.byContradiction fun z=>by rw [g.no x z] at hv;cases hv
  rw [g.yes x hS] at hv
  cases hv
  exact q kvs H (Nat.le_succ _) hd (fun _ _=>rfl) (g.imp fun y=>⟨.inl,fun z=>z.elim id fun e=>e ▸ hS⟩)
 ·intro hv
  have hS:¬ S x:=fun z=>by rw [g.yes x z] at hv;cases hv
  have e:=hm hS
  have z:=q (putK kvs (Sum.inl x:Key) (.int x)) (upd H d (.dK (putK kvs (Sum.inl x:Key) (.int x)))) (length_putK ..) upd_same (fun b hb=>upd_ne hb) (g.new hS e.symm)
  rwa [e] at z
theorem Same.but {H0 H H':Hp} {d:Addr} (s:Same H0 H) (hd:H0 d = none) (o:∀ b,b≠d→H' b = H b):Same H0 H':=fun b u e=>by
 rw [o b (ne_of_none e hd)]
 exact s b u e
open Classical in
noncomputable def chg (ks:List Key) (m:Int→Int) (a b x:Int):Int:=if (Sum.inl x:Key)∈ks∧m x = b then a else m x
theorem chg_nil {m:Int→Int} {a b x:Int}:chg [] m a b x = m x:=if_neg fun z=>absurd z.1 List.not_mem_nil
theorem chg_all {ks:List Key} {m:Int→Int} {a b x:Int} (h:(Sum.inl x:Key)∈ks):chg ks m a b x = if m x = b then a else m x:=by
 unfold chg
 by_cases c:m x = b
 ·rw [if_pos ⟨h,c⟩,if_pos c]
 ·rw [if_neg fun z=>c z.2,if_neg c]
theorem chg_snoc {ks:List Key} {m:Int→Int} {a b x y:Int}:chg (ks ++ [Sum.inl x]) m a b y = if y = x∧m y = b then a else chg ks m a b y:=by
 unfold chg
 by_cases c:y = x
 ·subst c
  by_cases c2:m y = b
  ·rw [if_pos ⟨List.mem_append_right _ (List.mem_singleton.mpr rfl),c2⟩,if_pos ⟨rfl,c2⟩]
  ·rw [if_neg fun z=>c2 z.2,if_neg fun z=>c2 z.2,if_neg fun z=>c2 z.2]
 ·have e:((Sum.inl y:Key)∈ks ++ [(Sum.inl x:Key)])↔(Sum.inl y:Key)∈ks:=by
   rw [List.mem_append,List.mem_singleton]
   exact ⟨fun z=>z.resolve_right fun z=>c (by injection z),.inl⟩
  rw [if_neg (c:=y = x∧m y = b) fun z=>c z.1]
  by_cases d:(Sum.inl y:Key)∈ks∧m y = b
  ·rw [if_pos d,if_pos ⟨e.mpr d.1,d.2⟩]
  ·rw [if_neg d,if_neg fun z=>d ⟨e.mp z.1,z.2⟩]
theorem chg_yes {ks:List Key} {m:Int→Int} {a b x y:Int} (h:chg ks m a b x = b):(if y = x then a else chg ks m a b y) = chg (ks ++ [Sum.inl x]) m a b y:=by
 rw [chg_snoc]
 by_cases c:y = x
 ·subst c
  rw [if_pos rfl]
  by_cases c2:m y = b
  ·rw [if_pos ⟨rfl,c2⟩]
  ·have e:chg ks m a b y = m y:=if_neg fun z=>c2 z.2
   rw [e] at h
   exact absurd h c2
 ·rw [if_neg c,if_neg fun z=>c z.1]
theorem chg_no {ks:List Key} {m:Int→Int} {a b x y:Int} (h:¬ chg ks m a b x = b):chg ks m a b y = chg (ks ++ [Sum.inl x]) m a b y:=by
 rw [chg_snoc]
 by_cases c:y = x∧m y = b
 ·obtain ⟨c1,c2⟩:=c
  subst c1
  rw [if_pos ⟨rfl,c2⟩]
  by_cases c3:(Sum.inl y:Key)∈ks
  ·rw [chg_all c3,if_pos c2]
  ·have e:chg ks m a b y = m y:=if_neg fun z=>c3 z.1
   rw [e] at h
   exact absurd c2 h
 ·rw [if_neg c]
structure FG (H0 H:Hp) (d:Addr) (kv:List (Key×V)) (g:List (Int×List Int)) (as:List Addr):Prop where
 at':H d = some (.dK kv)
 ks:kv.map Prod.fst = g.map fun e=>(Sum.inl e.1:Key)
 vs:kv.map Prod.snd = as.map V.ref
 nd:as.Nodup
 lst:∀ (j:Nat) (a:Addr) (e:Int×List Int),as[j]? = some a→g[j]? = some e→H a = some (.lst (iV e.2))
 new:∀ a∈as,H0 a = none
section
variable {H0 H H':Hp} {d:Addr} {kv:List (Key×V)} {g:List (Int×List Int)} {as:List Addr}
theorem FG.len (h:FG H0 H d kv g as):kv.length = g.length∧as.length = g.length:=by
 have h1:=congrArg List.length h.ks
 have h2:=congrArg List.length h.vs
 rw [List.length_map,List.length_map] at h1 h2
 exact ⟨h1,by omega⟩
theorem FG.same (h:FG H0 H d kv g as) (s:Same H H'):FG H0 H' d kv g as:=⟨s _ _ h.at',h.ks,h.vs,h.nd,fun j a e h1 h2=>s _ _ (h.lst j a e h1 h2),h.new⟩
theorem val_at {κ:Type} [DecidableEq κ]:∀ {kv:List (κ×V)} {j:Nat} {k:κ} {v:V},(kv.map Prod.fst).Nodup→kv[j]? = some (k,v)→valV kv k = some v
 | [],j,k,v,_,h=>by simp at h
 | p :: r,0,k,v,_,h=>by
  rw [List.getElem?_cons_zero] at h
  rw [Option.some.inj h]
  exact valV_pos rfl
 | p :: r,j + 1,k,v,nd,h=>by
  rw [List.getElem?_cons_succ] at h
  rw [List.map_cons,List.nodup_cons] at nd
  rw [valV_neg fun z=>nd.1 (by rw [z];exact List.mem_map.mpr ⟨_,List.mem_of_getElem? h,rfl⟩)]
  exact val_at nd.2 h
theorem FG.key (h:FG H0 H d kv g as) {j:Nat} {a:Addr} {e:Int×List Int} (h1:as[j]? = some a) (h2:g[j]? = some e):kv[j]? = some ((Sum.inl e.1:Key),V.ref a):=by
 have k1:=congrArg (·[j]?) h.ks
 have k2:=congrArg (·[j]?) h.vs
 simp only [List.getElem?_map,h1,h2,Option.map_some] at k1 k2
 obtain ⟨p,e1,e2⟩:=Option.map_eq_some_iff.mp k1
 obtain ⟨p',e3,e4⟩:=Option.map_eq_some_iff.mp k2
 rw [e1] at e3
 cases e3
 rw [e1,← e2,← e4]
theorem FG.old (h:FG H0 H d kv g as) (hn:(g.map Prod.fst).Nodup) {k x:Int} {v:V} (hv:valV kv (Sum.inl k:Key) = some v) :
  ∃ a L,v = .ref a∧H a = some (.lst (iV L))∧(∃ e∈g,e.2 = L)∧FG H0 (upd H a (.lst (iV L ++ [.int x]))) d kv (addG g k x) as:=by
 have hm:=valV_in hv
 rw [h.ks] at hm
 obtain ⟨e,he,ek⟩:=List.mem_map.mp hm
 have ek:e.1 = k:=by injection ek
 obtain ⟨j,hj⟩:=List.getElem?_of_mem he
 have hl:=h.len
 have hj2:j < as.length:=by rw [hl.2];exact (List.getElem?_eq_some_iff.mp hj).1
 have ha:as[j]? = some as[j]:=List.getElem?_eq_getElem hj2
 have nk:(kv.map Prod.fst).Nodup:=by
  rw [h.ks,show (g.map fun e=>(Sum.inl e.1:Key)) = (g.map Prod.fst).map Sum.inl by rw [List.map_map];rfl]
  exact List.pairwise_map.mpr (List.Pairwise.imp (fun z e=>z (by injection e)) hn)
 have z:=val_at nk (h.key ha hj)
 rw [ek,hv] at z
 obtain rfl:=Option.some.inj z
 have hL:=h.lst j _ e ha hj
 refine ⟨as[j],e.2,rfl,hL,⟨e,he,rfl⟩,?_⟩
 have hd:d≠as[j]:=fun z=>by have:=h.at';rw [z,hL] at this;cases this
 have any:(g.any fun e=>decide (e.1 = k)) = true:=List.any_eq_true.mpr ⟨e,he,decide_eq_true ek⟩
 refine ⟨by rw [upd_ne hd];exact h.at',?_,h.vs,h.nd,fun i a f h1 h2=>?_,h.new⟩
 ·rw [h.ks]
  unfold addG
  rw [if_pos any,List.map_map]
  refine List.map_congr_left fun y _=>?_
  show _ = (Sum.inl (if y.1 = k then (y.1,y.2 ++ [x]) else y).1:Key)
  split <;> rfl
 ·unfold addG at h2
  rw [if_pos any,List.getElem?_map] at h2
  obtain ⟨f0,h3,rfl⟩:=Option.map_eq_some_iff.mp h2
  by_cases c:i = j
  ·subst c
   rw [hj] at h3
   cases h3
   rw [ha] at h1
   cases h1
   rw [upd_same,if_pos ek]
   show _ = some (HO.lst (iV (e.2 ++ [x])))
   rw [iV_ap]
   rfl
  ·have na:a≠as[j]:=fun z=>c ((List.getElem?_inj (List.getElem?_eq_some_iff.mp h1).1 h.nd).mp (by rw [h1,ha,z]))
   rw [upd_ne na,if_neg]
   ·exact h.lst i a f0 h1 h3
   ·intro z
    apply c
    refine (List.getElem?_inj (l:=g.map Prod.fst) (by rw [List.length_map];exact (List.getElem?_eq_some_iff.mp h3).1) hn).mp ?_
    rw [List.getElem?_map,List.getElem?_map,h3,hj]
    show some f0.1 = some e.1
    rw [z,ek]
theorem FG.fresh (h:FG H0 H d kv g as) {k x:Int} {n:Addr} (hv:valV kv (Sum.inl k:Key) = none) (hn:H n = some (.lst [])) (hn0:H0 n = none) (hna:n ∉ as) :
  FG H0 (upd (upd H d (.dK (putK kv (Sum.inl k:Key) (.ref n)))) n (.lst ([] ++ [.int x]))) d (putK kv (Sum.inl k:Key) (.ref n)) (addG g k x) (as ++ [n]):=by
 have hd:d≠n:=fun z=>by have:=h.at';rw [z,hn] at this;cases this
 have any:¬ (g.any fun e=>decide (e.1 = k)) = true:=fun z=>by
  obtain ⟨e,he,ek⟩:=List.any_eq_true.mp z
  have:=valV_not hv
  apply this
  show (Sum.inl k:Key)∈kv.map Prod.fst
  rw [h.ks]
  exact List.mem_map.mpr ⟨e,he,by rw [of_decide_eq_true ek]⟩
 have hl:=h.len
 refine ⟨by rw [upd_ne hd,upd_same],?_,?_,?_,fun j a e h1 h2=>?_,fun a ha=>?_⟩
 ·rw [putK_new _ hv,List.map_append,h.ks]
  unfold addG
  rw [if_neg any,List.map_append]
  rfl
 ·rw [putK_new _ hv,List.map_append,h.vs,List.map_append]
  rfl
 ·rw [List.nodup_append]
  exact ⟨h.nd,by simp,fun a ha b hb e=>hna (by rw [← List.mem_singleton.mp hb,← e];exact ha)⟩
 ·unfold addG at h2
  rw [if_neg any] at h2
  by_cases c:j < as.length
  ·rw [List.getElem?_append_left c] at h1
   rw [List.getElem?_append_left (by omega)] at h2
   have na:a≠n:=fun z=>hna (z ▸ List.mem_of_getElem? h1)
   have h3:=h.lst j a e h1 h2
   have nd:a≠d:=fun z=>by have:=h.at';rw [← z,h3] at this;cases this
   rw [upd_ne na,upd_ne nd]
   exact h3
  ·rw [List.getElem?_append_right (by omega)] at h1 h2
   have ej:j - as.length = 0:=by
    have:=(List.getElem?_eq_some_iff.mp h1).1
    simp at this
    omega
   have ej2:j - g.length = 0:=by omega
   rw [ej] at h1
   rw [ej2] at h2
   cases h1
   cases h2
   rw [upd_same]
   rfl
 ·rcases List.mem_append.mp ha with ha | ha
  ·exact h.new a ha
  ·rw [List.mem_singleton.mp ha];exact hn0
end
end Mir


namespace L2
open PySem PySem.Spec PyProof.Rows
section
variable {X:Cx} {tg:Expr} {K:PySem.W.Frag}
theorem pi_listK {l:Expr} {tl:TE} (hK:X.K = K) (hl:PE X l tl):PI X tg l (iList K tl):=hK ▸ pi_list hl
end
end L2

namespace Mir
open PySem L2
noncomputable def spGapKins:Sp:=fun vs H Q _=>∃ (t:Addr) (rs:List Int),vs = [.ref t]∧H t = some (.tup (iV rs))∧Fit rs∧∀ (l:Addr) (H':Hp),H l = none→Same H H'→TsT pr H' l (gapL rs)→Q (.ref l) H'
structure GK (H:Hp) (d:Addr) (kv:List (Key×V)) (S:List (Int×Int)):Prop where
 at':H d = some (.dK kv)
 val:∀ (g:Nat) (q:Int×Int),q∈S→q.1≤g→(g:Int) < q.2→∃ p∈S,p.1≤g∧(g:Int) < p.2∧(∀ q'∈S,q'.1≤g→(g:Int) < q'.2→q'.1≤p.1)∧∃ t,valV kv (Sum.inl (g:Int):Key) = some (.ref t)∧H t = some (.tup (pr p))
structure GI (H:Hp) (d:Addr) (kv0 kv:List (Key×V)) (p:Int×Int) (m:Nat):Prop where
 at':H d = some (.dK kv)
 new:∀ g:Nat,p.1≤g→(g:Int) < p.1 + m→∃ t,valV kv (Sum.inl (g:Int):Key) = some (.ref t)∧H t = some (.tup (pr p))
 old:∀ g:Nat,¬ (p.1≤g∧(g:Int) < p.1 + m)→valV kv (Sum.inl (g:Int):Key) = valV kv0 (Sum.inl (g:Int):Key)
theorem GI.put {H:Hp} {d t:Addr} {kv0 kv:List (Key×V)} {p:Int×Int} {m:Nat} (h:GI H d kv0 kv p m) (hp:0≤p.1) (ht:H t = some (.tup (pr p))):GI (upd H d (.dK (putK kv (Sum.inl (p.1 + m):Key) (.ref t)))) d kv0 (putK kv (Sum.inl (p.1 + m):Key) (.ref t)) p (m + 1):=by
 have keep:∀ a ys,H a = some (.tup ys)→upd H d (.dK (putK kv (Sum.inl (p.1 + m):Key) (.ref t))) a = some (.tup ys):=fun a ys e=>by
  rw [upd_ne fun z=>by have:=h.at';rw [← z,e] at this;cases this]
  exact e
 refine ⟨upd_same,fun g h1 h2=>?_,fun g hg=>?_⟩
 ·rw [valV_put]
  by_cases c:(g:Int) = p.1 + m
  ·rw [c,if_pos rfl]
   exact ⟨t,rfl,keep _ _ ht⟩
  ·rw [if_neg fun z=>c (by injection z)]
   obtain ⟨t',e1,e2⟩:=h.new g h1 (by omega)
   exact ⟨t',e1,keep _ _ e2⟩
 ·rw [valV_put,if_neg fun z=>hg (by injection z with z;omega)]
  exact h.old g fun z=>hg ⟨z.1,by omega⟩
theorem GK.next {H H':Hp} {d:Addr} {kv0 kv:List (Key×V)} {S:List (Int×Int)} {p:Int×Int} {m:Nat} (h:GK H d kv0 S) (k:GI H' d kv0 kv p m) (em:p.2 = p.1 + m) (lt:∀ q∈S,q.1 < p.1) (keep:∀ a ys,H a = some (.tup ys)→H' a = some (.tup ys)):GK H' d kv (S ++ [p]):=by
 refine ⟨k.at',fun g q hq h1 h2=>?_⟩
 by_cases c:p.1≤g∧(g:Int) < p.1 + m
 ·obtain ⟨t,e1,e2⟩:=k.new g c.1 c.2
  refine ⟨p,List.mem_append_right _ (List.mem_singleton.mpr rfl),c.1,by omega,fun q' hq' _ _=>?_,t,e1,e2⟩
  rcases List.mem_append.mp hq' with hq' | hq'
  ·exact Int.le_of_lt (lt q' hq')
  ·rw [List.mem_singleton.mp hq'];exact Int.le_refl _
 ·rcases List.mem_append.mp hq with hq | hq
  ·obtain ⟨r,hr,r1,r2,r3,t,e1,e2⟩:=h.val g q hq h1 h2
   refine ⟨r,List.mem_append_left _ hr,r1,r2,fun q' hq' a1 a2=>?_,t,by rw [k.old g c,e1],keep _ _ e2⟩
   rcases List.mem_append.mp hq' with hq' | hq'
   ·exact r3 q' hq' a1 a2
   ·rw [List.mem_singleton.mp hq'] at a1 a2
    exact absurd ⟨a1,by omega⟩ c
  ·rw [List.mem_singleton.mp hq] at h1 h2
   exact absurd ⟨h1,by omega⟩ c
theorem own_from {rs:List Int} {g:Nat} {p:Int×Int} (hp:p∈kinL (frm rs)) (h1:p.1≤g) (h2:(g:Int) < p.2) (mx:∀ q∈kinL (frm rs),q.1≤g→(g:Int) < q.2→q.1≤p.1):ow (frm rs) g = p:=by
 obtain ⟨a,b,k,rfl⟩:=kinL_mem.mp hp
 dsimp only at h1 h2
 refine ow_eq ⟨k,by omega,by omega,fun c d k' l1 l2=>?_⟩
 have:=mx _ (kinL_mem.mpr ⟨c,d,k',rfl⟩) (by dsimp only;omega) (by dsimp only;omega)
 dsimp only at this
 omega
theorem gk_all {rs:List Int} (fit:Fit rs) {H:Hp} {d:Addr} {kv:List (Key×V)} (h:GK H d kv (kinL (frm rs))) {g:Nat} (hg:g < rs.length + 1):∃ t,valV kv (Sum.inl (g:Int):Key) = some (.ref t)∧H t = some (.tup (pr (ow (frm rs) g))):=by
 obtain ⟨c,e,o⟩:=own_ex fit hg
 have l:=o.le
 have lt:=o.lt
 obtain ⟨p,hp,h1,h2,h3,t,e1,e2⟩:=h.val g ((c:Int),(e:Int)) (kinL_mem.mpr ⟨c,e,o.kn,rfl⟩) (by dsimp only;omega) (by dsimp only;omega)
 refine ⟨t,e1,?_⟩
 rw [own_from hp h1 h2 h3]
 exact e2
theorem sorted_pairs {H:Hp} {D:Addr} {ps:List (Int×Int)} (hT:TsT pr H D ps) (rng:∀ p∈ps,0≤p.2∧p.2 < 1000):∃ (ts:List Addr) (g:Addr→Int),H D = some (.lst (ts.map V.ref))∧ts.length = ps.length∧(∀ t∈ts,∃ vs,H t = some (.tup vs)∧PrV false vs (g t)) ∧
  ∀ us:List Addr,us.Perm ts→(us.Pairwise fun t u=>g t≤g u)→∃ M:List (Int×Int),M.Perm ps∧(M.Pairwise fun p q=>p.1≤q.1)∧∀ (H':Hp) (l:Addr),Same H H'→H' l = some (.lst (us.map V.ref))→TsT pr H' l M:=by
 obtain ⟨ts,h1,h2,h3⟩:=hT
 let ct:Addr→Int×Int:=fun a=>match H a with
  | some (.tup [.int x,.int y])=>(x,y)
  | _=>(0,0)
 have hct:∀ (i:Nat) (t:Addr) (p:Int×Int),ts[i]? = some t→ps[i]? = some p→ct t = p:=fun i t p e1 e2=>by
  have z:=h3 i t p e1 e2
  show (match H t with
   | some (.tup [.int x,.int y])=>(x,y)
   | _=>(0,0)) = p
  rw [z]
  rfl
 have mem:∀ t∈ts,ct t∈ps∧H t = some (.tup (pr (ct t))):=fun t ht=>by
  obtain ⟨i,hi⟩:=List.getElem?_of_mem ht
  have hi2:i < ps.length:=by rw [← h2];exact (List.getElem?_eq_some_iff.mp hi).1
  have e:=List.getElem?_eq_getElem hi2
  rw [hct i t _ hi e]
  exact ⟨List.getElem_mem hi2,h3 i t _ hi e⟩
 have eps:ts.map ct = ps:=List.ext_getElem? fun i=>by
  rw [List.getElem?_map]
  by_cases c:i < ts.length
  ·have e1:=List.getElem?_eq_getElem c
   have e2:=List.getElem?_eq_getElem (l:=ps) (show i < ps.length by omega)
   rw [e1,e2,← hct i _ _ e1 e2]
   rfl
  ·rw [List.getElem?_eq_none (by omega),List.getElem?_eq_none (by omega)]
   rfl
 refine ⟨ts,fun a=>1000 * (ct a).1 + (ct a).2,h1,h2,fun t ht=>?_,fun us hp hs=>⟨us.map ct,?_,?_,fun H' l s hl=>⟨us,hl,by rw [List.length_map],fun i t x e1 e2=>?_⟩⟩⟩
 ·obtain ⟨m1,m2⟩:=mem t ht
  have r:=rng _ m1
  exact ⟨_,m2,.int (ct t).1,(ct t).2,(ct t).1,rfl,r.1,r.2,rfl,.inl ⟨rfl,rfl⟩⟩
 ·have:=hp.map ct
  rwa [eps] at this
 ·rw [List.pairwise_map]
  refine List.Pairwise.imp_of_mem (fun {x y} hx hy z=>?_) hs
  have r1:=rng _ (mem x (hp.mem_iff.mp hx)).1
  have r2:=rng _ (mem y (hp.mem_iff.mp hy)).1
  have z:1000 * (ct x).1 + (ct x).2≤1000 * (ct y).1 + (ct y).2:=z
  omega
 ·rw [List.getElem?_map,e1] at e2
  have e2:=Option.some.inj e2
  rw [← e2]
  exact s _ _ (mem t (hp.mem_iff.mp (List.mem_of_getElem? e1))).2
end Mir


namespace SetB
open PySem PySem.Spec PyProof.Rows
noncomputable def cnt (bs:List Bool):Nat:=(if bs.any (· == true) = true then 1 else 0) + (if bs.any (· == false) = true then 1 else 0)
end SetB

set_option maxHeartbeats 1000000

set_option maxHeartbeats 1000000

set_option maxHeartbeats 1000000
namespace L2
open PySem PySem.Spec PyProof.Rows
section
variable {X:Cx}
theorem call_any_bl (hc:X.calm = true):CallR X (.builtin "any") (fun xs H Q=>∃ (p:Addr) (bs:List Bool),xs = [.ref p]∧H p = some (.lst (bs.map V.bl))∧Q (.bl (bs.any id)) H):=by
 intro pins s σ H xs us Q I r h
 obtain ⟨p,bs,rfl,hp,q⟩:=h
 obtain ⟨u,rfl,ru⟩:=r.one
 cases ru
 obtain ⟨its,rv,pl,hz⟩:=I.list (SqL.of hp)
 have hl:=pl.isList
 have hlt:p < s.heap.objs.size:=let ⟨_,e,_⟩:=hl;Heap.lt_size e
 have hbl:bs.length = its.length:=by have z:=rv.length;rwa [List.length_map] at z
 refine call_any_walk (wpAny_pyIter_list hl ⟨s.heap.objs.size,[s.heap.objs.size,p],[s.heap.objs.size],its.toArray.size,_,_,fun i=>(bs[i]?).getD false,rfl,Walks.list (A:=X.A.in1) (I.ok.hd hc) _ p (Nat.ne_of_lt hlt) its.toArray,
  ⟨⟨_,Heap.get?_push_size _ rfl,rfl,rfl⟩,hl.push _⟩,fun i v s' Q' E' hP hQ=>?_,fun h' tk hk=>?_⟩)
 ·have hP:its[i]? = some v:=by simpa using hP
  have hi:i < bs.length:=by rw [hbl];exact (List.getElem?_eq_some_iff.mp hP).1
  have eb:(bs.map V.bl)[i]? = some (.bl bs[i]):=by rw [List.getElem?_map,List.getElem?_eq_getElem hi];rfl
  obtain ⟨u,e1,r1⟩:=rv.get eb
  rw [hP] at e1
  obtain rfl:=Option.some.inj e1
  cases r1
  dsimp only at hQ
  rw [List.getElem?_eq_getElem hi] at hQ
  exact wpAny_truthy_bool hQ
 ·have e2:((List.range its.toArray.size).any fun i=>(bs[i]?).getD false) = bs.any id:=by
   rw [List.size_toArray,← hbl,Bool.eq_iff_iff,List.any_eq_true,List.any_eq_true]
   constructor
   ·rintro ⟨i,hi,h⟩
    have hi:=List.mem_range.mp hi
    rw [List.getElem?_eq_getElem hi] at h
    exact ⟨_,List.getElem_mem hi,h⟩
   ·rintro ⟨b,hb,h⟩
    obtain ⟨i,hi,rfl⟩:=List.mem_iff_getElem.mp hb
    exact ⟨i,List.mem_range.mpr hi,by rw [List.getElem?_eq_getElem hi];exact h⟩
  rw [e2]
  exact ⟨.bl _,H,I.kept (t':=tk) fun b o eb=>hk b o (fun hm=>by rw [List.mem_singleton.mp hm] at eb;exact Nat.lt_irrefl _ (Heap.lt_size eb)) (Heap.get?_push_of_some _ eb),rfl,q⟩
end
end L2

namespace L2
open PySem PySem.Spec PyProof.Rows
section
variable {X:Cx}
theorem range_alls (bs:List Bool):((List.range bs.length).all fun i=>(bs[i]?).getD true) = bs.all id:=by
 rw [Bool.eq_iff_iff,List.all_eq_true,List.all_eq_true]
 constructor
 ·intro h b hb
  obtain ⟨i,hi,rfl⟩:=List.mem_iff_getElem.mp hb
  have z:=h i (List.mem_range.mpr hi)
  rw [List.getElem?_eq_getElem hi] at z
  exact z
 ·intro h i hi
  have hi:=List.mem_range.mp hi
  rw [List.getElem?_eq_getElem hi]
  exact h _ (List.getElem_mem hi)
theorem call_all_bl (hc:X.calm = true):CallR X (.builtin "all") (fun xs H Q=>∃ (p:Addr) (bs:List Bool),xs = [.ref p]∧H p = some (.lst (bs.map V.bl))∧Q (.bl (bs.all id)) H):=by
 intro pins s σ H xs us Q I r h
 obtain ⟨p,bs,rfl,hp,q⟩:=h
 obtain ⟨u,rfl,ru⟩:=r.one
 cases ru
 obtain ⟨z,its,n,rv,hlen,e⟩:=I.lstM hp
 have hl:s.heap.IsList p its.toArray:=⟨_,e,rfl,n,rfl⟩
 have hlt:p < s.heap.objs.size:=Heap.lt_size e
 have hbl:bs.length = its.length:=by rw [← hlen,List.length_map]
 refine call_all_walk (wpAny_pyIter_list hl ⟨s.heap.objs.size,[s.heap.objs.size,p],[s.heap.objs.size],its.toArray.size,_,_,fun i=>(bs[i]?).getD true,rfl,Walks.list (A:=X.A.in1) (I.ok.hd hc) _ p (Nat.ne_of_lt hlt) its.toArray,
  ⟨⟨_,Heap.get?_push_size _ rfl,rfl,rfl⟩,hl.push _⟩,fun i v s' Q' E' hP hQ=>?_,fun h' tk hk=>?_⟩)
 ·have hP:its[i]? = some v:=by simpa using hP
  have hi:i < bs.length:=by rw [hbl];exact (List.getElem?_eq_some_iff.mp hP).1
  have eb:(bs.map V.bl)[i]? = some (.bl bs[i]):=by rw [List.getElem?_map,List.getElem?_eq_getElem hi];rfl
  obtain ⟨u,e1,r1⟩:=rv.get eb
  rw [hP] at e1
  obtain rfl:=Option.some.inj e1
  cases r1
  dsimp only at hQ
  rw [List.getElem?_eq_getElem hi] at hQ
  exact wpAny_truthy_bool hQ
 ·have e2:((List.range its.toArray.size).all fun i=>(bs[i]?).getD true) = bs.all id:=by rw [List.size_toArray,← hbl];exact range_alls bs
  rw [e2]
  exact ⟨.bl _,H,I.kept (t':=tk) fun b o eb=>hk b o (fun hm=>by rw [List.mem_singleton.mp hm] at eb;exact Nat.lt_irrefl _ (Heap.lt_size eb)) (Heap.get?_push_of_some _ eb),rfl,q⟩
end
end L2

namespace Mir
open PySem L2
noncomputable def sgl (fs:List Int) (L:List Nat) (p:Int×Int):List Bool:=(L.filter fun g=>decide (ow fs g = p)).flatMap fun g=>[decide (fs.getD g 0 < 0),decide (fs.getD (g + 1) 0 < 0)]
theorem sgl_snoc (fs:List Int) (L:List Nat) (g:Nat) (p:Int×Int):sgl fs (L ++ [g]) p = if ow fs g = p then sgl fs L p ++ [decide (fs.getD g 0 < 0),decide (fs.getD (g + 1) 0 < 0)] else sgl fs L p:=by
 unfold sgl
 rw [List.filter_append,List.flatMap_append,List.filter_cons,List.filter_nil]
 by_cases c:ow fs g = p
 ·rw [if_pos (decide_eq_true c),if_pos c];rfl
 ·rw [if_neg (by rw [decide_eq_false c];decide),if_neg c];simp
theorem sgl_len (fs:List Int) (L:List Nat) (p:Int×Int):(sgl fs L p).length≤2 * L.length:=by
 refine list_snoc (P:=fun L=>(sgl fs L p).length≤2 * L.length) (Nat.le_refl _) (fun L g ih=>?_) L
 rw [sgl_snoc,List.length_append]
 split
 ·rw [List.length_append];show _ + 2≤2 * (_ + 1);omega
 ·show _≤2 * (_ + 1);omega
theorem sgl_ne {fs:List Int} {L:List Nat} {p:Int×Int} (h:sgl fs L p≠[]):∃ g∈L,ow fs g = p:=by
 refine Classical.byContradiction fun c=>h ?_
 unfold sgl
 have e:L.filter (fun g=>decide (ow fs g = p)) = []:=List.filter_eq_nil_iff.mpr fun g hg z=>c ⟨g,hg,of_decide_eq_true z⟩
 rw [e]
 rfl
noncomputable def opn (fs:List Int) (m:Nat):List Nat:=(List.range m).filter (isOpen fs)
theorem opn_len (fs:List Int) (m:Nat):(opn fs m).length≤m:=by
 unfold opn
 exact Nat.le_trans (List.length_filter_le _ _) (by rw [List.length_range];exact Nat.le_refl _)
theorem opn_mem {fs:List Int} {m g:Nat} (h:g∈opn fs m):g < m:=List.mem_range.mp (List.mem_filter.mp h).1
theorem openL_opn (fs:List Int) (m:Nat):openL fs m = (opn fs m).map fun (g:Nat)=>(g:Int):=rfl
noncomputable def isKnot (fs:List Int) (L:List Nat) (p:Int×Int):Bool:=decide (sgl fs L p≠[]) && decide (SetB.cnt (sgl fs L p) = 1)
noncomputable def knotL (fs:List Int) (L:List Nat):List (Int×Int):=(kinL fs).filter (isKnot fs L)
theorem cnt_one {bs:List Bool} (h:bs≠[]):(bs.all id || !bs.any id) = decide (SetB.cnt bs = 1):=by
 have e1:bs.all id = !bs.any (· == false):=by
  rw [Bool.eq_iff_iff,List.all_eq_true,Bool.not_eq_true',← Bool.not_eq_true,List.any_eq_true]
  constructor
  ·rintro h ⟨x,hx,e⟩
   have:=h x hx
   cases x <;> simp_all
  ·intro h x hx
   cases x
   ·exact absurd ⟨false,hx,rfl⟩ h
   ·rfl
 have e2:bs.any id = bs.any (· == true):=by
  congr 1
  funext b
  cases b <;> rfl
 have e3:bs.any (· == true) = true∨bs.any (· == false) = true:=by
  cases bs with
  | nil=>exact absurd rfl h
  | cons b r =>
   cases b
   ·right;rfl
   ·left;rfl
 unfold SetB.cnt
 rw [e1,e2]
 revert e3
 generalize bs.any (· == true) = x
 generalize bs.any (· == false) = y
 cases x <;> cases y <;> simp
noncomputable def kp (p:Int×Int):List Key:=[Sum.inl p.1,Sum.inl p.2]
theorem kp_inj {p q:Int×Int} (h:kp p = kp q):p = q:=by
 unfold kp at h
 injection h with h1 h2
 injection h2 with h2
 injection h1 with h1
 injection h2 with h2
 obtain ⟨a,b⟩:=p
 obtain ⟨c,d⟩:=q
 dsimp only at h1 h2
 rw [h1,h2]
structure KD (H0 H:Hp) (d:Addr) (kvs:List (List Key×V)) (ps:List (Int×Int)) (as:List Addr) (F:Int×Int→List Bool):Prop where
 at':H d = some (.dT kvs)
 ks:kvs.map Prod.fst = ps.map kp
 vs:kvs.map Prod.snd = as.map V.ref
 np:ps.Nodup
 nd:as.Nodup
 lst:∀ (j:Nat) (a:Addr) (p:Int×Int),as[j]? = some a→ps[j]? = some p→H a = some (.lst ((F p).map V.bl))
 new:∀ a∈as,H0 a = none
 mem:∀ p,p∈ps↔F p≠[]
section
variable {H0 H H':Hp} {d:Addr} {kvs:List (List Key×V)} {ps:List (Int×Int)} {as:List Addr} {F F':Int×Int→List Bool}
theorem KD.len (h:KD H0 H d kvs ps as F):kvs.length = ps.length∧as.length = ps.length:=by
 have h1:=congrArg List.length h.ks
 have h2:=congrArg List.length h.vs
 rw [List.length_map,List.length_map] at h1 h2
 exact ⟨h1,by omega⟩
theorem KD.same (h:KD H0 H d kvs ps as F) (s:Same H H'):KD H0 H' d kvs ps as F:=⟨s _ _ h.at',h.ks,h.vs,h.np,h.nd,fun j a p h1 h2=>s _ _ (h.lst j a p h1 h2),h.new,h.mem⟩
theorem KD.key (h:KD H0 H d kvs ps as F) {j:Nat} {a:Addr} {p:Int×Int} (h1:as[j]? = some a) (h2:ps[j]? = some p):kvs[j]? = some (kp p,V.ref a):=by
 have k1:=congrArg (·[j]?) h.ks
 have k2:=congrArg (·[j]?) h.vs
 simp only [List.getElem?_map,h1,h2,Option.map_some] at k1 k2
 obtain ⟨q,e1,e2⟩:=Option.map_eq_some_iff.mp k1
 obtain ⟨q',e3,e4⟩:=Option.map_eq_some_iff.mp k2
 rw [e1] at e3
 cases e3
 rw [e1,← e2,← e4]
theorem KD.nk (h:KD H0 H d kvs ps as F):(kvs.map Prod.fst).Nodup:=by
 rw [h.ks]
 exact List.pairwise_map.mpr (List.Pairwise.imp (fun z e=>z (kp_inj e)) h.np)
theorem KD.old (h:KD H0 H d kvs ps as F) {p:Int×Int} {xs:List Bool} {v:V} (hv:valV kvs (kp p) = some v) (hF:F' p = F p ++ xs) (hq:∀ q,q≠p→F' q = F q) :
  ∃ a,v = .ref a∧H a = some (.lst ((F p).map V.bl))∧H0 a = none∧KD H0 (upd H a (.lst ((F p).map V.bl ++ xs.map V.bl))) d kvs ps as F':=by
 have hm:=valV_in hv
 have hm:kp p∈kvs.map Prod.fst:=hm
 rw [h.ks] at hm
 obtain ⟨p',hp',ep⟩:=List.mem_map.mp hm
 obtain rfl:=kp_inj ep
 obtain ⟨j,hj⟩:=List.getElem?_of_mem hp'
 have hl:=h.len
 have hj2:j < as.length:=by rw [hl.2];exact (List.getElem?_eq_some_iff.mp hj).1
 have ha:as[j]? = some as[j]:=List.getElem?_eq_getElem hj2
 have z:=val_at h.nk (h.key ha hj)
 rw [hv] at z
 obtain rfl:=Option.some.inj z
 have hL:=h.lst j _ _ ha hj
 refine ⟨as[j],rfl,hL,h.new _ (List.getElem_mem hj2),?_⟩
 have hd:d≠as[j]:=fun z=>by have:=h.at';rw [z,hL] at this;cases this
 refine ⟨by rw [upd_ne hd];exact h.at',h.ks,h.vs,h.np,h.nd,fun i a q h1 h2=>?_,h.new,fun q=>?_⟩
 ·by_cases c:i = j
  ·subst c
   rw [hj] at h2
   cases h2
   rw [ha] at h1
   cases h1
   rw [upd_same,hF,List.map_append]
  ·have na:a≠as[j]:=fun z=>c ((List.getElem?_inj (List.getElem?_eq_some_iff.mp h1).1 h.nd).mp (by rw [h1,ha,z]))
   have nq:q≠p':=fun z=>c ((List.getElem?_inj (List.getElem?_eq_some_iff.mp h2).1 h.np).mp (by rw [h2,hj,z]))
   rw [upd_ne na,hq q nq]
   exact h.lst i a q h1 h2
 ·rw [h.mem]
  by_cases c:q = p'
  ·subst c
   rw [hF]
   have:=(h.mem q).mp hp'
   exact ⟨fun z e=>z (List.append_eq_nil_iff.mp e).1,fun _=>this⟩
  ·rw [hq q c]
theorem KD.fresh (h:KD H0 H d kvs ps as F) {p:Int×Int} {xs:List Bool} {n:Addr} (hv:valV kvs (kp p) = none) (hn:H n = some (.lst [])) (hn0:H0 n = none) (hna:n ∉ as) (hF0:F p = []) (hF:F' p = xs) (hx:xs≠[]) (hq:∀ q,q≠p→F' q = F q) :
  KD H0 (upd (upd H d (.dT (putK kvs (kp p) (.ref n)))) n (.lst ([] ++ xs.map V.bl))) d (putK kvs (kp p) (.ref n)) (ps ++ [p]) (as ++ [n]) F':=by
 have hd:d≠n:=fun z=>by have:=h.at';rw [z,hn] at this;cases this
 have hl:=h.len
 have np:p ∉ ps:=fun z=>(h.mem p).mp z hF0
 refine ⟨by rw [upd_ne hd,upd_same],?_,?_,?_,?_,fun j a q h1 h2=>?_,fun a ha=>?_,fun q=>?_⟩
 ·rw [putK_new _ hv,List.map_append,h.ks,List.map_append];rfl
 ·rw [putK_new _ hv,List.map_append,h.vs,List.map_append];rfl
 ·rw [List.nodup_append]
  exact ⟨h.np,by simp,fun a ha b hb e=>np (by rw [← List.mem_singleton.mp hb,← e];exact ha)⟩
 ·rw [List.nodup_append]
  exact ⟨h.nd,by simp,fun a ha b hb e=>hna (by rw [← List.mem_singleton.mp hb,← e];exact ha)⟩
 ·by_cases c:j < as.length
  ·rw [List.getElem?_append_left c] at h1
   rw [List.getElem?_append_left (by omega)] at h2
   have na:a≠n:=fun z=>hna (z ▸ List.mem_of_getElem? h1)
   have nq:q≠p:=fun z=>np (z ▸ List.mem_of_getElem? h2)
   have h3:=h.lst j a q h1 h2
   have nd:a≠d:=fun z=>by have:=h.at';rw [← z,h3] at this;cases this
   rw [upd_ne na,upd_ne nd,hq q nq]
   exact h3
  ·rw [List.getElem?_append_right (by omega)] at h1 h2
   have ej:j - as.length = 0:=by
    have:=(List.getElem?_eq_some_iff.mp h1).1
    simp at this
    omega
   have ej2:j - ps.length = 0:=by omega
   rw [ej] at h1
   rw [ej2] at h2
   cases h1
   cases h2
   rw [upd_same,hF]
   rfl
 ·rcases List.mem_append.mp ha with ha | ha
  ·exact h.new a ha
  ·rw [List.mem_singleton.mp ha];exact hn0
 ·rw [List.mem_append,h.mem,List.mem_singleton]
  by_cases c:q = p
  ·subst c
   rw [hF]
   exact ⟨fun _=>hx,fun _=>.inr rfl⟩
  ·rw [hq q c]
   exact ⟨fun z=>z.resolve_right c,.inl⟩
end
noncomputable def spKnots:Sp:=fun vs H Q _=>∃ (t:Addr) (rs:List Int),vs = [.ref t]∧H t = some (.tup (iV rs))∧Fit rs∧∀ (l:Addr) (H':Hp),H l = none→Same H H'→TsT pr H' l (knotL (frm rs) (opn (frm rs) (rs.length + 1)))→Q (.ref l) H'
end Mir

namespace Mir
open PySem L2 NK
noncomputable abbrev Nd:=List Itm
noncomputable abbrev Web:=List (Nd×List Nd)
noncomputable def pN (p:Int×Int):Nd:=[.inl (.inl p.1),.inl (.inl p.2)]
noncomputable def qI (p:Int×Int):Itm:=.inr [.inl p.1,.inl p.2]
noncomputable def cN (c:List (Int×Int)):Nd:=c.map qI
theorem pN_inj {p q:Int×Int} (h:pN p = pN q):p = q:=by
 unfold pN at h
 injection h with h1 h2
 injection h2 with h2 _
 injection h1 with h1
 injection h1 with h1
 injection h2 with h2
 injection h2 with h2
 exact Prod.ext h1 h2
theorem qI_inj {p q:Int×Int} (h:qI p = qI q):p = q:=by
 unfold qI at h
 injection h with h
 injection h with h1 h2
 injection h2 with h2 _
 injection h1 with h1
 injection h2 with h2
 exact Prod.ext h1 h2
theorem cN_inj {c d:List (Int×Int)} (h:cN c = cN d):c = d:=(List.map_inj_right fun _ _ e=>qI_inj e).mp h
theorem pN_ne {p:Int×Int} {c:List (Int×Int)}:pN p≠cN c:=fun h=>by
 cases c with
 | nil=>cases h
 | cons q r =>
  injection h with h1 _
  cases h1
noncomputable def keysW (W:Web):List Nd:=W.map (·.1)
noncomputable def lkW (W:Web) (k:Nd):List Nd:=((W.find? fun t=>decide (t.1 = k)).map (·.2)).getD []
structure WOk (W:Web):Prop where
 nd:(keysW W).Nodup
 nl:∀ t∈W,t.2.Nodup
 sym:∀ t∈W,∀ l∈t.2,∃ u∈W,u.1 = l∧t.1∈u.2
 irr:∀ t∈W,t.1 ∉ t.2
section
variable {W:Web} {t u:Nd×List Nd} {k:Nd}
theorem WOk.uniq (O:WOk W) (ht:t∈W) (hu:u∈W) (e:t.1 = u.1):t = u:=by
 obtain ⟨i,hi,rfl⟩:=List.getElem_of_mem ht
 obtain ⟨j,hj,rfl⟩:=List.getElem_of_mem hu
 have nd:=O.nd
 unfold keysW at nd
 have z:(W.map (·.1))[i]'(by rw [List.length_map];exact hi) = (W.map (·.1))[j]'(by rw [List.length_map];exact hj):=by rw [List.getElem_map,List.getElem_map];exact e
 have:=(List.getElem_inj nd).mp z
 subst this
 rfl
theorem WOk.lk (O:WOk W) (ht:t∈W):lkW W t.1 = t.2:=by
 unfold lkW
 cases e:W.find? fun u=>decide (u.1 = t.1) with
 | none=>exact absurd (List.find?_eq_none.mp e t ht) (by simp)
 | some u =>
  have h1:=List.mem_of_find?_eq_some e
  have h2:u.1 = t.1:=of_decide_eq_true (List.find?_some (p:=fun u:Nd×List Nd=>decide (u.1 = t.1)) e)
  rw [O.uniq h1 ht h2]
  rfl
theorem mem_keys:k∈keysW W↔∃ t∈W,t.1 = k:=by unfold keysW;rw [List.mem_map]
theorem lk_none (h:k ∉ keysW W):lkW W k = []:=by
 unfold lkW
 cases e:W.find? fun u=>decide (u.1 = k) with
 | none=>rfl
 | some u=>exact absurd (mem_keys.mpr ⟨u,List.mem_of_find?_eq_some e,of_decide_eq_true (List.find?_some (p:=fun u:Nd×List Nd=>decide (u.1 = k)) e)⟩) h
theorem WOk.lkk (O:WOk W) {a b:Nd} (h:b∈lkW W a):a∈lkW W b∧b∈keysW W∧a∈keysW W:=by
 by_cases c:a∈keysW W
 ·obtain ⟨t,ht,rfl⟩:=mem_keys.mp c
  rw [O.lk ht] at h
  obtain ⟨u,hu,e,h2⟩:=O.sym t ht b h
  subst e
  rw [O.lk hu]
  exact ⟨h2,mem_keys.mpr ⟨u,hu,rfl⟩,c⟩
 ·rw [lk_none c] at h
  exact absurd h List.not_mem_nil
theorem WOk.lk_irr (O:WOk W) (a:Nd):a ∉ lkW W a:=fun h=>by
 obtain ⟨t,ht,rfl⟩:=mem_keys.mp (O.lkk h).2.2
 rw [O.lk ht] at h
 exact O.irr t ht h
noncomputable def cutN (W:Web) (k:Nd):Web:=(W.filter fun t=>decide (t.1≠k)).map fun t=>(t.1,t.2.filter fun l=>decide (l≠k))
theorem mem_cut:u∈cutN W k↔∃ t∈W,t.1≠k∧u = (t.1,t.2.filter fun l=>decide (l≠k)):=by
 unfold cutN
 rw [List.mem_map]
 constructor
 ·rintro ⟨t,h,rfl⟩
  obtain ⟨h1,h2⟩:=List.mem_filter.mp h
  exact ⟨t,h1,of_decide_eq_true h2,rfl⟩
 ·rintro ⟨t,h1,h2,rfl⟩
  exact ⟨t,List.mem_filter.mpr ⟨h1,decide_eq_true h2⟩,rfl⟩
theorem keys_cut:keysW (cutN W k) = (keysW W).filter fun l=>decide (l≠k):=by
 unfold keysW cutN
 rw [List.map_map,List.filter_map]
 rfl
theorem WOk.cut (O:WOk W):WOk (cutN W k):=by
 refine ⟨by rw [keys_cut];exact O.nd.sublist List.filter_sublist,fun u hu=>?_,fun u hu l hl=>?_,fun u hu hl=>?_⟩
 ·obtain ⟨t,ht,_,rfl⟩:=mem_cut.mp hu
  exact (O.nl t ht).sublist List.filter_sublist
 ·obtain ⟨t,ht,hk,rfl⟩:=mem_cut.mp hu
  obtain ⟨h1,h2⟩:=List.mem_filter.mp hl
  have h2:=of_decide_eq_true h2
  obtain ⟨v,hv,e,h3⟩:=O.sym t ht l h1
  exact ⟨_,mem_cut.mpr ⟨v,hv,by rw [e];exact h2,rfl⟩,e,List.mem_filter.mpr ⟨h3,decide_eq_true hk⟩⟩
 ·obtain ⟨t,ht,_,rfl⟩:=mem_cut.mp hu
  exact O.irr t ht (List.mem_filter.mp hl).1
theorem cut_len:(cutN W k).length≤W.length:=by
 unfold cutN
 rw [List.length_map]
 exact List.length_filter_le _ _
theorem cut_lt (h:k∈keysW W):(cutN W k).length < W.length:=by
 obtain ⟨t,ht,rfl⟩:=mem_keys.mp h
 unfold cutN
 rw [List.length_map]
 refine List.length_filter_lt_length_iff_exists.mpr ⟨t,ht,by simp⟩
noncomputable def spareW (W:Web) (ks:List (Int×Int)):List Nd:=(W.filter fun t=>decide (t.2.length≤1) && !decide (t.1∈ks.map pN)).map (·.1)
noncomputable def passW (W:Web) (ks:List (Int×Int)):Web:=(spareW W ks).foldl cutN W
theorem fold_len:∀ (l:List Nd) (W:Web),(l.foldl cutN W).length≤W.length
 | [],_=>Nat.le_refl _
 | k :: r,W=>Nat.le_trans (fold_len r (cutN W k)) cut_len
theorem spare_sub {ks:List (Int×Int)} (h:k∈spareW W ks):k∈keysW W:=by
 unfold spareW at h
 obtain ⟨t,ht,rfl⟩:=List.mem_map.mp h
 exact mem_keys.mpr ⟨t,(List.mem_filter.mp ht).1,rfl⟩
theorem pass_lt {ks:List (Int×Int)} (h:spareW W ks≠[]):(passW W ks).length < W.length:=by
 unfold passW
 cases e:spareW W ks with
 | nil=>exact absurd e h
 | cons k r=>exact Nat.lt_of_le_of_lt (fold_len r (cutN W k)) (cut_lt (spare_sub (ks:=ks) (by rw [e];exact List.mem_cons_self)))
noncomputable def thinN:Nat→Web→List (Int×Int)→Web
 | 0,W,_=>W
 | n + 1,W,ks=>if spareW W ks = [] then W else thinN n (passW W ks) ks
theorem thin_fuel {ks:List (Int×Int)}:∀ (n m:Nat) (W:Web),W.length≤n→W.length≤m→thinN n W ks = thinN m W ks
 | 0,0,W,_,_=>rfl
 | 0,m + 1,W,h1,h2=>by
  have e:W = []:=List.length_eq_zero_iff.mp (by omega)
  subst e
  show _ = if spareW [] ks = [] then [] else _
  rw [if_pos (show spareW [] ks = [] from rfl)]
  rfl
 | n + 1,0,W,h1,h2=>by
  have e:W = []:=List.length_eq_zero_iff.mp (by omega)
  subst e
  show (if spareW [] ks = [] then [] else _) = _
  rw [if_pos (show spareW [] ks = [] from rfl)]
  rfl
 | n + 1,m + 1,W,h1,h2=>by
  show (if spareW W ks = [] then W else thinN n (passW W ks) ks) = if spareW W ks = [] then W else thinN m (passW W ks) ks
  by_cases c:spareW W ks = []
  ·rw [if_pos c,if_pos c]
  ·rw [if_neg c,if_neg c]
   have:=pass_lt c
   exact thin_fuel n m _ (by omega) (by omega)
noncomputable def thinW (W:Web) (ks:List (Int×Int)):Web:=thinN W.length W ks
theorem thin_stop {ks:List (Int×Int)} (h:spareW W ks = []):thinW W ks = W:=by
 unfold thinW
 cases e:W.length with
 | zero=>rfl
 | succ n =>
  show (if spareW W ks = [] then W else _) = W
  rw [if_pos h]
theorem thin_step {ks:List (Int×Int)} (h:spareW W ks≠[]):thinW W ks = thinW (passW W ks) ks:=by
 have lt:=pass_lt h
 unfold thinW
 cases e:W.length with
 | zero=>omega
 | succ n =>
  show (if spareW W ks = [] then W else thinN n (passW W ks) ks) = _
  rw [if_neg h]
  exact thin_fuel n _ _ (by omega) (Nat.le_refl _)
theorem WOk.fold:∀ (l:List Nd) {W:Web},WOk W→WOk (l.foldl cutN W)
 | [],_,O=>O
 | _ :: r,_,O=>WOk.fold r O.cut
theorem WOk.thinN {ks:List (Int×Int)}:∀ (n:Nat) {W:Web},WOk W→WOk (thinN n W ks)
 | 0,_,O=>O
 | n + 1,W,O=>by
  show WOk (if spareW W ks = [] then W else _)
  split
  ·exact O
  ·exact WOk.thinN n (O.fold _)
theorem thinN_spare {ks:List (Int×Int)}:∀ (n:Nat) (W:Web),W.length≤n→spareW (Mir.thinN n W ks) ks = []
 | 0,W,h=>by
  have e:W = []:=List.length_eq_zero_iff.mp (by omega)
  subst e
  rfl
 | n + 1,W,h=>by
  show spareW (if spareW W ks = [] then W else _) ks = []
  by_cases c:spareW W ks = []
  ·rw [if_pos c];exact c
  ·rw [if_neg c]
   have:=pass_lt c
   exact thinN_spare n _ (by omega)
theorem fold_keeps : ∀ (l : List Nd) (W : Web), k ∈ keysW W → k ∉ l → k ∈ keysW (l.foldl cutN W)
  | [], _, h, _ => h
  | x :: r, W, h, n => fold_keeps r (cutN W x) (by
      rw [keys_cut]
      exact List.mem_filter.mpr ⟨h, decide_eq_true fun z => n (by rw [z]; exact List.mem_cons_self)⟩) fun z => n (List.mem_cons_of_mem _ z)
noncomputable def legR (W:Web):Nat→Nd→List Nd→List Nd→List Nd
 | 0,_,_,acc=>acc
 | n + 1,p,on,acc=>match on with
  | []=>acc
  | t :: _=>if (lkW W t).length≤2 then legR W n t ((lkW W t).filter fun l=>decide (l≠p)) (acc ++ [t]) else acc
noncomputable def legOf (W:Web) (e:Nd):List Nd:=legR W W.length e (lkW W e) [e]
structure Path (W:Web) (vs:List Nd):Prop where
 nd:vs.Nodup
 key:∀ v∈vs,v∈keysW W
 adj:∀ (i:Nat) (a b:Nd),vs[i]? = some a→vs[i + 1]? = some b→b∈lkW W a
 deg:∀ v∈vs,(lkW W v).length≤2
 d0:∀ a,vs[0]? = some a→(lkW W a).length≤1
theorem nodup_len:∀ {xs ys:List Nd},xs.Nodup→(∀ x∈xs,x∈ys)→xs.length≤ys.length
 | [],ys,_,_=>Nat.zero_le _
 | x :: r,ys,h,s=>by
  rw [List.nodup_cons] at h
  have hx:=s x List.mem_cons_self
  have h1:=nodup_len (xs:=r) (ys:=ys.filter fun y=>decide (y≠x)) h.2 fun y hy=>by
   have ne:y≠x:=fun z=>h.1 (z ▸ hy)
   exact List.mem_filter.mpr ⟨s y (List.mem_cons_of_mem _ hy),decide_eq_true ne⟩
  have h2:(ys.filter fun y=>decide (y≠x)).length < ys.length:=List.length_filter_lt_length_iff_exists.mpr ⟨x,hx,by simp⟩
  show r.length + 1≤ys.length
  omega
theorem Path.len (P:Path W vs):vs.length≤W.length:=by
 have:=nodup_len P.nd P.key
 unfold keysW at this
 rwa [List.length_map] at this
theorem twoW {a b:Nd} {l:List Nd} (ha:a∈l) (hb:b∈l) (h:l.length≤1):a = b:=by
 match l,h with
 | [x],_=>rw [List.mem_singleton.mp ha,List.mem_singleton.mp hb]
 | [],_=>exact absurd ha List.not_mem_nil
theorem threeW {a b c:Nd} {l:List Nd} (ha:a∈l) (hb:b∈l) (hc:c∈l) (h:l.length≤2) (n1:a≠b) (n2:a≠c) (n3:b≠c):False:=by
 have:=nodup_len (xs:=[a,b,c]) (ys:=l) (by simp [n1,n2,n3]) (fun x hx=>by
  rcases List.mem_cons.mp hx with rfl | hx
  ·exact ha
  ·rcases List.mem_cons.mp hx with rfl | hx
   ·exact hb
   ·cases List.mem_singleton.mp hx;exact hc)
 have:3≤l.length:=this
 omega
theorem Path.snoc (O:WOk W) {vs:List Nd} (P:Path W vs) {p x:Nd} (hp:vs.getLast? = some p) (hx:x∈lkW W p) (hq:∀ q,2≤vs.length→vs[vs.length - 2]? = some q→x≠q) (hd:(lkW W x).length≤2):Path W (vs ++ [x]):=by
 obtain ⟨ys,rfl⟩:=List.getLast?_eq_some_iff.mp hp
 have el:(ys ++ [p]).length = ys.length + 1:=by rw [List.length_append];rfl
 have ep:(ys ++ [p])[ys.length]? = some p:=by rw [List.getElem?_append_right (Nat.le_refl _),Nat.sub_self];rfl
 have sy:=O.lkk hx
 have inj:∀ {i j:Nat} {a:Nd},(ys ++ [p])[i]? = some a→(ys ++ [p])[j]? = some a→i = j:=fun {i j a} h1 h2=>(List.getElem?_inj (List.getElem?_eq_some_iff.mp h1).1 P.nd).mp (h1.trans h2.symm)
 have new:x ∉ ys ++ [p]:=fun hm=>by
  obtain ⟨i,hi,e⟩:=List.getElem_of_mem hm
  have ei:(ys ++ [p])[i]? = some x:=by rw [List.getElem?_eq_getElem hi,e]
  rw [el] at hi
  by_cases c1:i = ys.length
  ·subst c1
   cases ep.symm.trans ei
   exact O.lk_irr p hx
  ·by_cases c2:i + 1 = ys.length
   ·refine hq x (by omega) ?_ rfl
    rw [el,show ys.length + 1 - 2 = i by omega]
    exact ei
   ·have en:=List.getElem?_eq_getElem (l:=ys ++ [p]) (i:=i + 1) (by rw [el];omega)
    have hn:=P.adj i _ _ ei en
    by_cases c0:i = 0
    ·subst c0
     have:=twoW hn sy.1 (P.d0 _ ei)
     rw [this] at en
     have:=inj en ep
     omega
    ·have eb:=List.getElem?_eq_getElem (l:=ys ++ [p]) (i:=i - 1) (by rw [el];omega)
     have hb:=P.adj (i - 1) _ _ eb (by rw [show i - 1 + 1 = i by omega];exact ei)
     have hb2:=(O.lkk hb).1
     refine threeW hb2 hn sy.1 (P.deg x hm) (fun z=>?_) (fun z=>?_) (fun z=>?_)
     ·rw [z] at eb;have:=inj eb en;omega
     ·rw [z] at eb;have:=inj eb ep;omega
     ·rw [z] at en;have:=inj en ep;omega
 refine ⟨?_,fun v hv=>?_,fun i a b h1 h2=>?_,fun v hv=>?_,fun a h=>?_⟩
 ·rw [List.nodup_append]
  exact ⟨P.nd,by simp,fun a ha b hb z=>new (by rw [List.mem_singleton.mp hb] at z;rwa [← z])⟩
 ·rcases List.mem_append.mp hv with hv | hv
  ·exact P.key v hv
  ·rw [List.mem_singleton.mp hv];exact sy.2.1
 ·by_cases c:i + 1 < (ys ++ [p]).length
  ·rw [List.getElem?_append_left (by omega)] at h1
   rw [List.getElem?_append_left c] at h2
   exact P.adj i a b h1 h2
  ·have hi:=(List.getElem?_eq_some_iff.mp h2).1
   rw [List.length_append,List.length_singleton] at hi
   have e1:i = ys.length:=by omega
   subst e1
   rw [List.getElem?_append_left (by omega),ep] at h1
   rw [List.getElem?_append_right (by omega),el,Nat.sub_self] at h2
   cases h1
   cases h2
   exact hx
 ·rcases List.mem_append.mp hv with hv | hv
  ·exact P.deg v hv
  ·rw [List.mem_singleton.mp hv];exact hd
 ·rw [List.getElem?_append_left (by omega)] at h
  exact P.d0 a h
end
end Mir

namespace Mir
open PySem L2 NK
noncomputable def chn (kins:List (Int×Int)) (g:List Int):List (Int×Int):=g.map fun i=>kins.getD i.toNat (0,0)
noncomputable def isAr (c:List (Int×Int)) (k:Int×Int):Bool:=decide (k.1 < (c.headD (0,0)).1) && decide ((c.getLastD (0,0)).2 < k.2)
noncomputable def arnd (kins c:List (Int×Int)):List (Int×Int):=kins.filter (isAr c)
noncomputable def shrt (kins c:List (Int×Int)):List (Int×Int):=(arnd kins c).drop ((arnd kins c).length - 1)
noncomputable def lnk (kins c:List (Int×Int)):List (Int×Int):=c ++ shrt kins c
noncomputable def webJ (kins:List (Int×Int)) (cs:List (List (Int×Int))):Web:=kins.map (fun k=>(pN k,(cs.filter fun c=>decide (k∈lnk kins c)).map cN)) ++ cs.map fun c=>(cN c,(lnk kins c).map pN)
structure KOk (kins:List (Int×Int)) (cs:List (List (Int×Int))):Prop where
 knd:kins.Nodup
 cnd:cs.Nodup
 sub:∀ c∈cs,∀ k∈lnk kins c,k∈kins
 lnd:∀ c∈cs,(lnk kins c).Nodup
theorem map_nodup {α β:Type} {f:α→β} {l:List α} (h:l.Nodup) (inj:∀ a b,f a = f b→a = b):(l.map f).Nodup:=by
 unfold List.Nodup at h ⊢
 rw [List.pairwise_map]
 exact h.imp fun n e=>n (inj _ _ e)
theorem webJ_keys (kins:List (Int×Int)) (cs:List (List (Int×Int))):keysW (webJ kins cs) = kins.map pN ++ cs.map cN:=by
 unfold keysW webJ
 rw [List.map_append,List.map_map,List.map_map]
 rfl
theorem webJ_ok {kins:List (Int×Int)} {cs:List (List (Int×Int))} (K:KOk kins cs):WOk (webJ kins cs):=by
 have hm:∀ {t:Nd×List Nd},t∈webJ kins cs→(∃ k∈kins,t = (pN k,(cs.filter fun c=>decide (k∈lnk kins c)).map cN))∨∃ c∈cs,t = (cN c,(lnk kins c).map pN):=fun {t} h=>by
  rcases List.mem_append.mp h with h | h
  ·obtain ⟨k,hk,rfl⟩:=List.mem_map.mp h
   exact .inl ⟨k,hk,rfl⟩
  ·obtain ⟨c,hc,rfl⟩:=List.mem_map.mp h
   exact .inr ⟨c,hc,rfl⟩
 refine ⟨?_,fun t ht=>?_,fun t ht l hl=>?_,fun t ht hl=>?_⟩
 ·rw [webJ_keys,List.nodup_append]
  refine ⟨map_nodup K.knd fun _ _=>pN_inj,map_nodup K.cnd fun _ _=>cN_inj,fun a ha b hb e=>?_⟩
  obtain ⟨k,_,rfl⟩:=List.mem_map.mp ha
  obtain ⟨c,_,rfl⟩:=List.mem_map.mp hb
  exact pN_ne e
 ·rcases hm ht with ⟨k,hk,rfl⟩ | ⟨c,hc,rfl⟩
  ·exact map_nodup (K.cnd.sublist List.filter_sublist) fun _ _=>cN_inj
  ·exact map_nodup (K.lnd c hc) fun _ _=>pN_inj
 ·rcases hm ht with ⟨k,hk,rfl⟩ | ⟨c,hc,rfl⟩
  ·obtain ⟨c,hc,rfl⟩:=List.mem_map.mp hl
   obtain ⟨h1,h2⟩:=List.mem_filter.mp hc
   exact ⟨_,List.mem_append_right _ (List.mem_map.mpr ⟨c,h1,rfl⟩),rfl,List.mem_map.mpr ⟨k,of_decide_eq_true h2,rfl⟩⟩
  ·obtain ⟨k,hk,rfl⟩:=List.mem_map.mp hl
   exact ⟨_,List.mem_append_left _ (List.mem_map.mpr ⟨k,K.sub c hc k hk,rfl⟩),rfl,List.mem_map.mpr ⟨c,List.mem_filter.mpr ⟨hc,decide_eq_true hk⟩,rfl⟩⟩
 ·rcases hm ht with ⟨k,hk,rfl⟩ | ⟨c,hc,rfl⟩
  ·obtain ⟨c,_,e⟩:=List.mem_map.mp hl
   exact pN_ne e.symm
  ·obtain ⟨k,_,e⟩:=List.mem_map.mp hl
   exact pN_ne e
theorem grp_in (c:Nat→Int):∀ n,∀ e∈grp c n,e.2.Pairwise (· < ·)
 | 0,e,h=>nomatch h
 | n + 1,e,h=>by
  have ih:=grp_in c n
  have ok:=grp_ok c n
  have h:e∈addG (grp c n) (c n) n:=h
  unfold addG at h
  split at h
  ·obtain ⟨d,hd,rfl⟩:=List.mem_map.mp h
   split
   ·show (d.2 ++ [(n:Int)]).Pairwise (· < ·)
    rw [List.pairwise_append]
    refine ⟨ih d hd,List.pairwise_singleton ..,fun a ha b hb=>?_⟩
    rw [List.mem_singleton.mp hb]
    exact (ok.lt d hd a ha).2
   ·exact ih d hd
  ·rcases List.mem_append.mp h with h | h
   ·exact ih e h
   ·rw [List.mem_singleton.mp h]
    exact List.pairwise_singleton ..
noncomputable def chains (kins:List (Int×Int)):List (List (Int×Int)):=(hung kins).map (chn kins)
section
variable {kins:List (Int×Int)}
theorem asc_get (asc:kins.Pairwise fun p q=>p.1 < q.1) {i j:Nat} (hi:i < j) (hj:j < kins.length):(kins.getD i (0,0)).1 < (kins.getD j (0,0)).1:=by
 rw [List.getD_eq_getElem?_getD,List.getD_eq_getElem?_getD,List.getElem?_eq_getElem (show i < kins.length by omega),List.getElem?_eq_getElem hj]
 exact List.pairwise_iff_getElem.mp asc i j (by omega) hj hi
theorem hung_in {g:List Int} (h:g∈hung kins):g≠[]∧(∀ x∈g,0≤x∧x < kins.length)∧g.Pairwise (· < ·)∧g.length≤kins.length:=by
 unfold hung at h
 obtain ⟨e,he,rfl⟩:=List.mem_map.mp h
 have ok:=grp_ok (fun k=>mk kins (kins.getD k (0,0)).1) kins.length
 exact ⟨ok.ne e he,ok.lt e he,grp_in _ _ e he,ok.len e he⟩
theorem chn_asc (asc:kins.Pairwise fun p q=>p.1 < q.1) {g:List Int} (h:g∈hung kins):(chn kins g).Pairwise fun p q=>p.1 < q.1:=by
 obtain ⟨_,h2,h3,_⟩:=hung_in h
 unfold chn
 rw [List.pairwise_map]
 have:g.Pairwise fun a b=>a < b∧b∈g∧a∈g:=by
  rw [List.pairwise_iff_getElem]
  intro i j hi hj hij
  exact ⟨List.pairwise_iff_getElem.mp h3 i j hi hj hij,List.getElem_mem _,List.getElem_mem _⟩
 refine this.imp fun {a b} q=>?_
 have z1:=h2 a q.2.2
 have z2:=h2 b q.2.1
 have:=q.1
 exact asc_get asc (by omega) (by omega)
theorem chn_sub {g:List Int} (h:g∈hung kins) {k:Int×Int} (hk:k∈chn kins g):k∈kins:=by
 obtain ⟨i,hi,rfl⟩:=List.mem_map.mp hk
 have:=(hung_in h).2.1 i hi
 rw [List.getD_eq_getElem?_getD,List.getElem?_eq_getElem (show i.toNat < kins.length by omega)]
 exact List.getElem_mem _
theorem asc_nd {l:List (Int×Int)} (asc:l.Pairwise fun p q=>p.1 < q.1):l.Nodup:=asc.imp fun h e=>by rw [e] at h;omega
theorem shrt_len {c:List (Int×Int)}:(shrt kins c).length≤1:=by
 unfold shrt
 rw [List.length_drop]
 omega
theorem shrt_sub {c:List (Int×Int)} {k:Int×Int} (h:k∈shrt kins c):k∈kins∧isAr c k = true:=List.mem_filter.mp (List.mem_of_mem_drop h)
theorem head_le {l:List (Int×Int)} (asc:l.Pairwise fun p q=>p.1 < q.1) {k:Int×Int} (h:k∈l):(l.headD (0,0)).1≤k.1:=by
 cases l with
 | nil=>exact absurd h List.not_mem_nil
 | cons x r =>
  rcases List.mem_cons.mp h with rfl | h
  ·exact Int.le_refl _
  ·exact Int.le_of_lt ((List.pairwise_cons.mp asc).1 k h)
theorem chains_ok (asc:kins.Pairwise fun p q=>p.1 < q.1):KOk kins (chains kins):=by
 refine ⟨asc_nd asc,?_,fun c hc k hk=>?_,fun c hc=>?_⟩
 ·have ok:=grp_ok (fun k=>mk kins (kins.getD k (0,0)).1) kins.length
  have p1:(hung kins).Pairwise fun a b=>a.headD 0 < b.headD 0:=by
   unfold hung
   rw [List.pairwise_map]
   exact ok.asc
  unfold chains
  unfold List.Nodup
  rw [List.pairwise_map]
  have:(hung kins).Pairwise fun a b=>a.headD 0 < b.headD 0∧a∈hung kins∧b∈hung kins:=by
   rw [List.pairwise_iff_getElem]
   intro i j hi hj hij
   exact ⟨List.pairwise_iff_getElem.mp p1 i j hi hj hij,List.getElem_mem _,List.getElem_mem _⟩
  refine this.imp fun {a b} q e=>?_
  obtain ⟨q1,q2,q3⟩:=q
  have ha:=hung_in q2
  have hb:=hung_in q3
  cases a with
  | nil=>exact ha.1 rfl
  | cons x r =>
   cases b with
   | nil=>exact hb.1 rfl
   | cons y r' =>
    have e:kins.getD x.toNat (0,0) :: chn kins r = kins.getD y.toNat (0,0) :: chn kins r':=e
    have e1:=(List.cons.inj e).1
    have hx:=ha.2.1 x List.mem_cons_self
    have hy:=hb.2.1 y List.mem_cons_self
    have q1:x < y:=q1
    have:=asc_get asc (i:=x.toNat) (j:=y.toNat) (by omega) (by omega)
    rw [e1] at this
    omega
 ·unfold chains at hc
  obtain ⟨g,hg,rfl⟩:=List.mem_map.mp hc
  rcases List.mem_append.mp hk with hk | hk
  ·exact chn_sub hg hk
  ·exact (shrt_sub hk).1
 ·unfold chains at hc
  obtain ⟨g,hg,rfl⟩:=List.mem_map.mp hc
  have a2:=chn_asc asc hg
  unfold lnk
  rw [List.nodup_append]
  refine ⟨asc_nd a2,?_,fun a ha b hb e=>?_⟩
  ·have:=shrt_len (kins:=kins) (c:=chn kins g)
   match shrt kins (chn kins g),this with
   | [],_=>exact List.nodup_nil
   | [x],_=>simp
  ·subst e
   have h1:=(shrt_sub hb).2
   unfold isAr at h1
   rw [Bool.and_eq_true,decide_eq_true_iff,decide_eq_true_iff] at h1
   have:=head_le a2 ha
   omega
end
noncomputable abbrev Es:=List (Nd×Addr×Addr)
noncomputable def eV (es:Es):List NK.Ent:=es.map fun e=>(e.1,e.2.1,V.ref e.2.2)
noncomputable def RW (H:Hp) (e:Nd×Addr×Addr) (t:Nd×List Nd):Prop:=e.1 = t.1∧Ths H e.2.2 t.2
structure WbT (P:Program) (w:World) (H:Hp) (a:Addr) (es:Es) (W:Web):Prop where
 d:D2 P w H a (eV es)
 r:Paired (RW H) es W
 nd:(es.map (·.2.2)).Nodup
section
variable {P:Program} {w:World} {H H':Hp} {a b l:Addr} {es:Es} {W:Web} {k:Nd} {ks:List Nd}
theorem _root_.NK.Ths.keep (h:Ths H l ks) (e:H' l = H l) (g:∀ c ys,H c = some (.tup ys)→H' c = some (.tup ys)):Ths H' l ks:=by
 obtain ⟨bs,h1,h2,h3⟩:=h
 exact ⟨bs,e.trans h1,h2,fun i b k e1 e2=>(h3 i b k e1 e2).keep g⟩
theorem _root_.NK.Ths.same (h:Ths H l ks) (s:Same H H'):Ths H' l ks:=by
 obtain ⟨bs,h1,h2,h3⟩:=h
 exact ⟨bs,s _ _ h1,h2,fun i b k e1 e2=>(h3 i b k e1 e2).keep fun c ys e=>s _ _ e⟩
theorem _root_.NK.K2.same (h:K2 H k b) (s:Same H H'):K2 H' k b:=h.keep fun c ys e=>s _ _ e
theorem WbT.same (h:WbT P w H a es W) (s:Same H H'):WbT P w H' a es W :=
 ⟨⟨s _ _ h.d.1,fun p hp=>K2.same (h.d.2 p hp) s⟩,Paired.mapP h.r fun e t q=>⟨q.1,Ths.same q.2 s⟩,h.nd⟩
theorem keys_es (h:Paired (RW H) es W):es.map (·.1) = keysW W:=by
 induction h with
 | nil=>rfl
 | cons q _ ih =>
  exact congr (congrArg List.cons q.1) ih
theorem val_es (nd:(es.map (·.1)).Nodup) (h:(k,b,l)∈es):val2 (eV es) k = some (.ref l):=by
 induction es with
 | nil=>exact absurd h List.not_mem_nil
 | cons e r ih =>
  rw [List.map_cons,List.nodup_cons] at nd
  unfold val2 eV
  rw [List.map_cons,List.find?_cons]
  by_cases c:e.1 = k
  ·rw [decide_eq_true c]
   rcases List.mem_cons.mp h with rfl | h
   ·rfl
   ·exact absurd (List.mem_map.mpr ⟨(k,b,l),h,rfl⟩) (by rw [← c];exact nd.1)
  ·rw [decide_eq_false c]
   rcases List.mem_cons.mp h with rfl | h
   ·exact absurd rfl c
   ·exact ih nd.2 h
theorem val_no (h:k ∉ es.map (·.1)):val2 (eV es) k = none:=by
 unfold val2 eV
 rw [Option.map_eq_none_iff,List.find?_eq_none]
 intro x hx
 obtain ⟨e,he,rfl⟩:=List.mem_map.mp hx
 simpa using fun z=>h (List.mem_map.mpr ⟨e,he,z⟩)
theorem paired_mem {α β:Type} {R:α→β→Prop} {xs:List α} {ys:List β} (h:Paired R xs ys) {y:β} (hy:y∈ys):∃ x∈xs,R x y:=by
 induction h with
 | nil=>exact absurd hy List.not_mem_nil
 | cons q _ ih =>
  rcases List.mem_cons.mp hy with rfl | hy
  ·exact ⟨_,List.mem_cons_self,q⟩
  ·obtain ⟨x,hx,hr⟩:=ih hy
   exact ⟨x,List.mem_cons_of_mem _ hx,hr⟩
theorem paired_memL {α β:Type} {R:α→β→Prop} {xs:List α} {ys:List β} (h:Paired R xs ys) {x:α} (hx:x∈xs):∃ y∈ys,R x y:=by
 induction h with
 | nil=>exact absurd hx List.not_mem_nil
 | cons q _ ih =>
  rcases List.mem_cons.mp hx with rfl | hx
  ·exact ⟨_,List.mem_cons_self,q⟩
  ·obtain ⟨y,hy,hr⟩:=ih hx
   exact ⟨y,List.mem_cons_of_mem _ hy,hr⟩
theorem WbT.at (h:WbT P w H a es W) (nd:(keysW W).Nodup) {t:Nd×List Nd} (ht:t∈W):∃ b l,(t.1,b,l)∈es∧val2 (eV es) t.1 = some (.ref l)∧Ths H l t.2∧K2 H t.1 b:=by
 obtain ⟨e,he,q⟩:=paired_mem h.r ht
 obtain ⟨e1,e2,e3⟩:=e
 obtain ⟨q1,q2⟩:=q
 cases q1
 exact ⟨e2,e3,he,val_es (by rw [keys_es h.r];exact nd) he,q2,h.d.2 _ (List.mem_map.mpr ⟨_,he,rfl⟩)⟩
theorem Paired.app {α β:Type} {R:α→β→Prop} {xs xs':List α} {ys ys':List β} (h:Paired R xs ys) (k:Paired R xs' ys'):Paired R (xs ++ xs') (ys ++ ys'):=by
 induction h with
 | nil=>exact k
 | cons q _ ih=>exact .cons q ih
theorem WbT.put (h:WbT P w H a es W) (hk:k ∉ keysW W) (hb:K2 H k b) (hl:Ths H l ks) (nl:l ∉ es.map (·.2.2)):WbT P w (L2.upd H a (d2O P w a (put2 (eV es) k b (.ref l)))) a (es ++ [(k,b,l)]) (W ++ [(k,ks)]):=by
 have e1:put2 (eV es) k b (.ref l) = eV (es ++ [(k,b,l)]):=by
  unfold put2
  rw [val_no (by rw [keys_es h.r];exact hk),if_neg (by simp)]
  unfold eV
  rw [List.map_append]
  rfl
 have g:∀ {c:Addr} {o:HO},H c = some o→(∀ φ,o≠.ext φ)→L2.upd H a (d2O P w a (put2 (eV es) k b (.ref l))) c = some o:=fun {c o} e n=>by
  rw [upd_ne (fun z=>by rw [z,h.d.1] at e;exact n _ (Option.some.inj e).symm)]
  exact e
 have gt:∀ {l':Addr} {ks':List Nd},Ths H l' ks'→Ths (L2.upd H a (d2O P w a (put2 (eV es) k b (.ref l)))) l' ks':=fun {l' ks'} q=>by
  obtain ⟨bs,h1,h2,h3⟩:=q
  exact ⟨bs,g h1 (fun _ z=>by cases z),h2,fun i b k e1 e2=>(h3 i b k e1 e2).keep fun c ys e=>g e fun _ z=>by cases z⟩
 refine ⟨by rw [← e1];exact h.d.put hb,?_,?_⟩
 ·exact Paired.app (Paired.mapP h.r fun e t q=>⟨q.1,gt q.2⟩) (.cons ⟨rfl,gt hl⟩ .nil)
 ·rw [List.map_append,List.nodup_append]
  exact ⟨h.nd,by simp,fun x hx y hy e=>nl (by have e:x = l:=e.trans (List.mem_singleton.mp hy);rw [← e];exact hx)⟩
theorem WbT.chg (h:WbT P w H a es W) (nd:(keysW W).Nodup) (he:(k,b,l)∈es) {vs:List V} (hl:H l = some (.lst vs)) {f:List Nd→List Nd} {o:HO} (hn:∀ ls,Ths H l ls→Ths (L2.upd H l o) l (f ls)):WbT P w (L2.upd H l o) a es (W.map fun t=>if t.1 = k then (t.1,f t.2) else t):=by
 have g:∀ {c:Addr} {ys:List V},H c = some (.tup ys)→L2.upd H l o c = some (.tup ys):=fun {c ys} e=>by
  rw [upd_ne (fun z=>by rw [z,hl] at e;cases e)]
  exact e
 have na:a≠l:=fun z=>by have:=h.d.1;rw [z,hl] at this;cases this
 refine ⟨h.d.keep (by rw [upd_ne na]) fun c ys e=>g e,?_,h.nd⟩
 have nk:(es.map (·.1)).Nodup:=by rw [keys_es h.r];exact nd
 have key:∀ e∈es,e.1 = k↔e.2.2 = l:=fun e hm=>by
  obtain ⟨i,hi,rfl⟩:=List.getElem_of_mem hm
  obtain ⟨j,hj,ej⟩:=List.getElem_of_mem he
  have z1:(es.map (·.1))[j]'(by rw [List.length_map];exact hj) = k:=by rw [List.getElem_map,ej]
  have z2:(es.map (·.2.2))[j]'(by rw [List.length_map];exact hj) = l:=by rw [List.getElem_map,ej]
  constructor
  ·intro c
   have:(es.map (·.1))[i]'(by rw [List.length_map];exact hi) = (es.map (·.1))[j]'(by rw [List.length_map];exact hj):=by rw [z1,List.getElem_map];exact c
   have:=(List.getElem_inj nk).mp this
   subst this
   rw [ej]
  ·intro c
   have:(es.map (·.2.2))[i]'(by rw [List.length_map];exact hi) = (es.map (·.2.2))[j]'(by rw [List.length_map];exact hj):=by rw [z2,List.getElem_map];exact c
   have:=(List.getElem_inj h.nd).mp this
   subst this
   rw [ej]
 have go:∀ {xs:Es} {ys:Web},(∀ e∈xs,e.1 = k↔e.2.2 = l)→Paired (RW H) xs ys→Paired (RW (L2.upd H l o)) xs (ys.map fun t=>if t.1 = k then (t.1,f t.2) else t):=by
  intro xs ys hx q
  induction q with
  | nil=>exact .nil
  | @cons e t r s q' _ ih =>
   refine .cons ?_ (ih fun e' he'=>hx e' (List.mem_cons_of_mem _ he'))
   obtain ⟨q1,q2⟩:=q'
   have c:=hx e List.mem_cons_self
   show RW (L2.upd H l o) e (if t.1 = k then (t.1,f t.2) else t)
   by_cases d:e.1 = k
   ·rw [if_pos (by rw [← q1];exact d)]
    refine ⟨q1,?_⟩
    rw [c.mp d] at q2 ⊢
    exact hn _ q2
   ·rw [if_neg (by rw [← q1];exact d)]
    refine ⟨q1,Ths.keep q2 (by rw [upd_ne (fun z=>d (c.mpr z))]) fun c ys e=>g e⟩
 exact go key h.r
theorem WbT.drop (h:WbT P w H a es W):WbT P w (L2.upd H a (d2O P w a (drop2 (eV es) k))) a (es.filter fun e=>decide (e.1≠k)) (W.filter fun t=>decide (t.1≠k)):=by
 have e1:drop2 (eV es) k = eV (es.filter fun e=>decide (e.1≠k)):=by
  unfold drop2 eV
  rw [List.filter_map]
  rfl
 have g:∀ {c:Addr} {o:HO},H c = some o→(∀ φ,o≠.ext φ)→L2.upd H a (d2O P w a (drop2 (eV es) k)) c = some o:=fun {c o} e n=>by
  rw [upd_ne (fun z=>by rw [z,h.d.1] at e;exact n _ (Option.some.inj e).symm)]
  exact e
 refine ⟨by rw [← e1];exact D2.drop h.d,?_,h.nd.sublist (List.filter_sublist.map _)⟩
 have go:∀ {xs:Es} {ys:Web},Paired (RW H) xs ys→Paired (RW (L2.upd H a (d2O P w a (drop2 (eV es) k)))) (xs.filter fun e=>decide (e.1≠k)) (ys.filter fun t=>decide (t.1≠k)):=by
  intro xs ys q
  induction q with
  | nil=>exact .nil
  | @cons e t r s q' _ ih =>
   obtain ⟨q1,bs,h1,h2,h3⟩:=q'
   by_cases d:e.1 = k
   ·rw [List.filter_cons_of_neg (by simp [d]),List.filter_cons_of_neg (by simp [← q1,d])]
    exact ih
   ·rw [List.filter_cons_of_pos (by simp [d]),List.filter_cons_of_pos (by simp [← q1,d])]
    exact .cons ⟨q1,bs,g h1 (fun _ z=>by cases z),h2,fun i b k e1 e2=>(h3 i b k e1 e2).keep fun c ys e=>g e fun _ z=>by cases z⟩ ih
 exact go h.r
theorem _root_.NK.K2.pair {p:Int×Int} (h:H b = some (.tup (pr p))):K2 H (pN p) b:=⟨_,h,.cons rfl (.cons rfl .nil)⟩
theorem _root_.NK.K2.asPair {p:Int×Int} (h:K2 H (pN p) b):H b = some (.tup (pr p)):=by
 obtain ⟨vs,e,r⟩:=h
 rw [e]
 cases r with
 | cons h1 t =>
  cases t with
  | cons h2 t2 =>
   cases t2
   cases (show _ = _ from h1)
   cases (show _ = _ from h2)
   rfl
theorem _root_.NK.K2.chain {c:List (Int×Int)} {ts:List Addr} (h:H b = some (.tup (ts.map V.ref))) (ht:Tup pr H ts c):K2 H (cN c) b:=by
 refine ⟨_,h,?_⟩
 obtain ⟨hl,hp⟩:=ht
 clear h
 induction c generalizing ts with
 | nil =>
  have:ts = []:=List.length_eq_zero_iff.mp hl
  subst this
  exact .nil
 | cons p r ih =>
  cases ts with
  | nil=>cases hl
  | cons t ts =>
   refine .cons ⟨t,rfl,hp 0 t p rfl rfl⟩ (ih (Nat.succ.inj hl) fun i t' q e1 e2=>hp (i + 1) t' q e1 e2)
theorem TsT.ths {ps:List (Int×Int)} (h:TsT pr H l ps):Ths H l (ps.map pN):=by
 obtain ⟨ts,h1,h2,h3⟩:=h
 refine ⟨ts,h1,by rw [List.length_map];exact h2,fun i b k e1 e2=>?_⟩
 rw [List.getElem?_map] at e2
 obtain ⟨p,e3,rfl⟩:=Option.map_eq_some_iff.mp e2
 exact K2.pair (h3 i b p e1 e3)
theorem _root_.NK.Ths.tst {ps:List (Int×Int)} (h:Ths H l (ps.map pN)):TsT pr H l ps:=by
 obtain ⟨ts,h1,h2,h3⟩:=h
 refine ⟨ts,h1,by rw [List.length_map] at h2;exact h2,fun i b p e1 e2=>K2.asPair (h3 i b (pN p) e1 (by rw [List.getElem?_map,e2];rfl))⟩
end
end Mir

namespace L2
open PySem PySem.Spec
theorem compOkT {X:Cx} {scope:Scope} {pre:List Str} {y z:Str} {c e:Addr} {j k:Nat} (hkind:scope.kind = .function) (h:∀ w∈scope.names,w.2≠.cell∧(w.2 = .free→w.1 = y∨w.1 = z)) (hn:∀ w∈scope.names,w.2 = .local→scope.names.lookup w.1 = some .local)
  (hcl:closureFor scope X.env = pure [(y,c),(z,e)]) (hc:X.env.cells.lookup y = some c) (he:X.env.cells.lookup z = some e) (hN:X.N[j]? = some y) (hM:X.N[k]? = some z) (hk:X.env.kindOf y = some .cell) (hk2:X.env.kindOf z = some .cell) (hr:(relabel scope X.env).names.lookup y = some .cell) (hr2:(relabel scope X.env).names.lookup z = some .cell) :
  CompOk X scope [(y,c),(z,e)] (pre ++ [y,z]) (List.replicate pre.length none ++ [some j,some k]) where
 clos:=hcl
 cell:=fun w hw=>(h w hw).1
 kind:=hkind
 names:=hn
 cls:=fun x c' q=>by
  rw [List.lookup_cons] at q
  split at q
  ·rename_i hx
   rw [eq_of_beq hx,← q]
   exact hc
  ·rw [List.lookup_cons] at q
   split at q
   ·rename_i hx
    rw [eq_of_beq hx,← q]
    exact he
   ·cases q
 has:=fun x q=>by
  have key:∀ k,(relabel scope X.env).names.lookup x = some k→k = .cell∨k = .free→x = y∨x = z:=fun k q hk=>by
   have hm:=PySem.mem_of_lookup q
   obtain ⟨⟨n,k'⟩,hy,ey⟩:=List.mem_map.mp hm
   have h1:=h _ hy
   by_cases hf:k' = .free
   ·have w:=h1.2 hf
    dsimp only at ey
    split at ey
    ·cases ey;exact w
    ·cases ey;exact w
   ·have hb:(k' == NameKind.free) = false:=by simpa using hf
    simp only [hb,Bool.false_and,Bool.false_eq_true,if_false,Prod.mk.injEq] at ey
    obtain ⟨_,rfl⟩:=ey
    rcases hk with hk | hk
    ·exact absurd hk h1.1
    ·exact absurd hk hf
  have hxy:x = y∨x = z:=by
   rcases q with q | q
   ·exact key _ q (.inl rfl)
   ·exact key _ q (.inr rfl)
  rw [List.lookup_cons]
  by_cases e1:x == y
  ·rw [e1];exact ⟨c,rfl⟩
  ·have e1:(x == y) = false:=by simpa using e1
   rw [e1]
   rcases hxy with w | w
   ·rw [w,beq_self_eq_true] at e1;cases e1
   ·rw [List.lookup_cons,w,beq_self_eq_true]
    exact ⟨e,rfl⟩
 len:=by simp
 src:=fun i q x e1 e2=>by
  by_cases hi:i < pre.length
  ·rw [List.getElem?_append_left (by simpa using hi),List.getElem?_replicate,if_pos hi] at e1
   cases e1
  ·rw [List.getElem?_append_right (by simp;omega),List.length_replicate] at e1
   rw [List.getElem?_append_right (by omega)] at e2
   match hd:i - pre.length,e1,e2 with
   | 0,e1,e2 =>
    simp at e1 e2
    subst e1 e2
    exact ⟨hN,.inl hk,.inl hr⟩
   | 1,e1,e2 =>
    simp at e1 e2
    subst e1 e2
    exact ⟨hM,.inl hk2,.inl hr2⟩
   | d + 2,e1,e2 =>
    simp at e1
end L2

namespace L2
theorem iteY {b:Bool} {A B:Prop} (hb:b = true) (h:A):if b = true then A else B:=by rw [if_pos hb];exact h
theorem iteN {b:Bool} {A B:Prop} (hb:b = false) (h:B):if b = true then A else B:=by rw [if_neg (by rw [hb];decide)];exact h
theorem dInt {i j:Int} (h:i = j):decide (V.int i = V.int j) = true:=decide_eq_true (by rw [h])
theorem dIntN {i j:Int} (h:i≠j):decide (V.int i = V.int j) = false:=decide_eq_false (fun z=>h (by injection z))
end L2

namespace Mir
open PySem L2 NK
theorem cutV_last (xs:List V):cutV xs (some (-1)) none = xs.drop (xs.length - 1):=by
 unfold cutV
 have e:HT.sIx xs.length 0 (some (-1)) = xs.length - 1:=by
  unfold HT.sIx
  simp
  omega
 have e2:HT.sIx xs.length xs.length none = xs.length:=rfl
 rw [e,e2,List.take_of_length_le (by rw [List.length_drop];omega)]
theorem atI_fin {xs:List V} {v:V} (h:xs.getLast? = some v):atI xs (-1) = some v:=by
 obtain ⟨ys,rfl⟩:=List.getLast?_eq_some_iff.mp h
 exact L2.atI_last ys v
theorem paired_at {α β:Type} {R:α→β→Prop} {xs:List α} {ys:List β} (h:Paired R xs ys):∀ {i:Nat} {x:α},xs[i]? = some x→∃ y,ys[i]? = some y∧R x y:=by
 induction h with
 | nil=>intro i x e;simp at e
 | cons q _ ih =>
  intro i x e
  cases i with
  | zero=>cases e;exact ⟨_,rfl,q⟩
  | succ i=>exact ih e
theorem eV_at {es:Es} {i:Nat} {k:Nd} {b:Addr} {v:V} (h:(eV es)[i]? = some (k,b,v)):∃ l,es[i]? = some (k,b,l)∧v = .ref l:=by
 unfold eV at h
 rw [List.getElem?_map] at h
 obtain ⟨e,he,q⟩:=Option.map_eq_some_iff.mp h
 obtain ⟨e1,e2,e3⟩:=e
 cases q
 exact ⟨e3,he,rfl⟩
theorem _root_.NK.Ths.len {H:Hp} {l:Addr} {ks:List Nd} (h:Ths H l ks):∃ vs,H l = some (.lst vs)∧vs.length = ks.length:=by
 obtain ⟨bs,h1,h2,_⟩:=h
 exact ⟨_,h1,by rw [List.length_map];exact h2⟩
theorem _root_.NK.Ths.snoc {H:Hp} {l b:Addr} {ks:List Nd} {k:Nd} (h:Ths H l ks) (hb:K2 H k b):∃ vs,H l = some (.lst vs)∧vs.length = ks.length∧Ths (L2.upd H l (.lst (vs ++ [.ref b]))) l (ks ++ [k]):=by
 obtain ⟨bs,h1,h2,h3⟩:=h
 have g:∀ c ys,H c = some (.tup ys)→L2.upd H l (.lst (bs.map V.ref ++ [.ref b])) c = some (.tup ys):=fun c ys e=>by
  rw [upd_ne (fun z=>by rw [z,h1] at e;cases e)]
  exact e
 refine ⟨_,h1,by rw [List.length_map];exact h2,bs ++ [b],by rw [upd_same,List.map_append];rfl,by rw [List.length_append,List.length_append,h2];rfl,fun i c k' e1 e2=>?_⟩
 by_cases z:i < bs.length
 ·rw [List.getElem?_append_left z] at e1
  rw [List.getElem?_append_left (by omega)] at e2
  exact (h3 i c k' e1 e2).keep g
 ·have hi:=(List.getElem?_eq_some_iff.mp e1).1
  rw [List.length_append,List.length_singleton] at hi
  have:i = bs.length:=by omega
  subst this
  rw [List.getElem?_append_right (Nat.le_refl _),Nat.sub_self] at e1
  rw [List.getElem?_append_right (by omega),h2,Nat.sub_self] at e2
  cases e1
  cases e2
  exact hb.keep g
theorem spare_snoc {W:Web} {i:Nat} {t:Nd×List Nd} {ks:List (Int×Int)} (e:W[i]? = some t):spareW (W.take (i + 1)) ks = spareW (W.take i) ks ++ (if t.2.length≤1∧t.1 ∉ ks.map pN then [t.1] else []):=by
 unfold spareW
 rw [take_snoc e,List.filter_append,List.map_append,List.filter_cons,List.filter_nil]
 congr 1
 by_cases c:t.2.length≤1∧t.1 ∉ ks.map pN
 ·rw [if_pos c,if_pos (by rw [decide_eq_true c.1,decide_eq_false c.2];rfl)]
  rfl
 ·rw [if_neg c,if_neg (fun z=>c (by
   rw [Bool.and_eq_true,decide_eq_true_iff,Bool.not_eq_true',decide_eq_false_iff_not] at z
   exact z))]
  rfl
noncomputable def NewW (H:Hp) (es:Es):Prop:=∀ e∈es,H e.2.2 = none
noncomputable def spShort:Sp:=fun vs H Q _=>∃ (tc l:Addr) (ts:List Addr) (c kins:List (Int×Int)),vs = [.ref tc,.ref l]∧H tc = some (.tup (ts.map V.ref))∧Tup pr H ts c∧c≠[]∧TsT pr H l kins∧kins.length≤100∧∀ (r:Addr) (H':Hp),H r = none→Same H H'→TsT pr H' r (shrt kins c)→Q (.ref r) H'
variable (P:Program) (w:World)
noncomputable def spWebOf:Sp:=fun vs H Q _=>∃ (l:Addr) (kins:List (Int×Int)),vs = [.ref l]∧TsT pr H l kins∧(kins.Pairwise fun p q=>p.1 < q.1)∧kins.length≤100∧∀ (a:Addr) (es:Es) (H':Hp),H a = none→Same H H'→NewW H es→WbT P w H' a es (webJ kins (chains kins))→Q (.ref a) H'
noncomputable def spSpare:Sp:=fun vs H Q _=>∃ (a l:Addr) (es:Es) (W:Web) (ks:List (Int×Int)),vs = [.ref a,.ref l]∧WbT P w H a es W∧WOk W∧W.length≤500∧TsT pr H l ks∧∀ (r:Addr) (H':Hp),H r = none→Same H H'→Ths H' r (spareW W ks)→Q (.ref r) H'
noncomputable def webT (rs:List Int):Web:=if knotL (frm rs) (opn (frm rs) (rs.length + 1)) = [] then [] else thinW (webJ (kinL (frm rs)) (chains (kinL (frm rs)))) (knotL (frm rs) (opn (frm rs) (rs.length + 1)))
noncomputable def spThin:Sp:=fun vs H Q _=>∃ (t:Addr) (rs:List Int),vs = [.ref t]∧H t = some (.tup (iV rs))∧Fit rs∧∀ (a:Addr) (es:Es) (H':Hp),H a = none→Same H H'→WbT P w H' a es (webT rs)→Q (.ref a) H'
noncomputable def endsL (W:Web) (ks:List (Int×Int)):List (Int×Int):=ks.filter fun p=>decide (pN p∈keysW W) && decide ((lkW W (pN p)).length≤1)
noncomputable def spEnds:Sp:=fun vs H Q _=>∃ (a:Addr) (es:Es) (W:Web) (ks:List (Int×Int)),vs = [.ref a]∧WbT P w H a es W∧WOk W∧W.length≤500∧spareW W ks = []∧(ks.Pairwise fun p q=>p.1 < q.1)∧ks.length≤60∧(∀ p∈ks,0≤p.2∧p.2 < 1000)∧∀ (r:Addr) (H':Hp),H r = none→Same H H'→TsT pr H' r (endsL W ks)→Q (.ref r) H'
noncomputable def spLeg:Sp:=fun vs H Q _=>∃ (e a:Addr) (es:Es) (W:Web) (k:Nd),vs = [.ref e,.ref a]∧WbT P w H a es W∧WOk W∧W.length≤500∧K2 H k e∧k∈keysW W∧(lkW W k).length≤1∧∀ (r:Addr) (H':Hp),H r = none→Same H H'→Ths H' r (legOf W k)→Q (.ref r) H'
noncomputable def legsF (rs:List Int):List Int:=(endsL (webT rs) (knotL (frm rs) (opn (frm rs) (rs.length + 1)))).map fun e=>(((legOf (webT rs) (pN e)).filter fun k=>decide (k∈(knotL (frm rs) (opn (frm rs) (rs.length + 1))).map pN)).length:Nat)
noncomputable def spLegs:Sp:=fun vs H Q _=>∃ (t:Addr) (rs:List Int),vs = [.ref t]∧H t = some (.tup (iV rs))∧Fit rs∧∀ (r:Addr) (H':Hp),H r = none→Same H H'→H' r = some (.lst (iV (legsF rs)))→Q (.ref r) H'
noncomputable def costF (L:List Int):Int:=if L.length % 2 = 1∧1 < L.length∧(1:Int) ∉ L then (L.length:Int) + 1 else L.length
noncomputable def spLegsCost (K:PySem.W.Frag):Sp:=fun vs H Q _=>∃ (a:Addr) (L:List Int),vs = [.ref a]∧(SqL K H a (iV L)∨SqT K H a (iV L))∧Q (.int (costF L)) H
noncomputable def scoreF (rs:List Int):Int:=(rs.length:Int) + 1 - (hung (tieL rs)).length + costF (legsF rs)
noncomputable def spScoreT:Sp:=fun vs H Q _=>∃ (t:Addr) (rs:List Int),vs = [.ref t]∧H t = some (.tup (iV rs))∧Fit rs∧∀ H':Hp,Same H H'→Q (.int (scoreF rs)) H'
end Mir

namespace Mir
open PySem L2 NK
noncomputable def webM (kins:List (Int×Int)) (cs:List (List (Int×Int))) (c:List (Int×Int)) (i:Nat):Web :=
 kins.map (fun k=>(pN k,(cs.filter fun d=>decide (k∈lnk kins d)).map cN ++ (if k∈(lnk kins c).take i then [cN c] else []))) ++ (cs.map (fun d=>(cN d,(lnk kins d).map pN)) ++ [(cN c,(lnk kins c).map pN)])
section
variable {kins:List (Int×Int)} {cs:List (List (Int×Int))} {c:List (Int×Int)}
theorem webM_zero:webM kins cs c 0 = webJ kins cs ++ [(cN c,(lnk kins c).map pN)]:=by
 unfold webM webJ
 rw [List.append_assoc]
 congr 1
 refine List.map_congr_left fun k _=>?_
 rw [List.take_zero,if_neg List.not_mem_nil,List.append_nil]
theorem webM_end:webM kins cs c (lnk kins c).length = webJ kins (cs ++ [c]):=by
 unfold webM webJ
 rw [List.take_length,List.map_append]
 congr 1
 refine List.map_congr_left fun k _=>?_
 rw [List.filter_append,List.map_append,List.filter_cons,List.filter_nil]
 congr 2
 by_cases h:k∈lnk kins c
 ·rw [if_pos h,decide_eq_true h,if_pos rfl]
  rfl
 ·rw [if_neg h,decide_eq_false h,if_neg (by decide)]
  rfl
theorem webM_step (nd : (lnk kins c).Nodup) {i : Nat} {p : Int × Int} (hp : (lnk kins c)[i]? = some p) : ((webM kins cs c i).map fun t => if t.1 = pN p then (t.1, t.2 ++ [cN c]) else t) = webM kins cs c (i + 1) := by
  have np : p ∉ (lnk kins c).take i := fun h => by
    obtain ⟨j, hj⟩ := List.getElem?_of_mem h
    rw [List.getElem?_take] at hj
    by_cases q : j < i
    · rw [if_pos q] at hj
      have := (List.getElem?_inj (List.getElem?_eq_some_iff.mp hj).1 nd).mp (hj.trans hp.symm)
      omega
    · rw [if_neg q] at hj; cases hj
  unfold webM
  rw [List.map_append, List.map_append, List.map_map, List.map_map]
  congr 1
  · refine List.map_congr_left fun k _ => ?_
    show (if pN k = pN p then _ else _) = _
    rw [take_snoc hp]
    by_cases e : k = p
    · subst e
      rw [if_pos rfl]
      dsimp only
      rw [if_neg np, List.append_nil, if_pos (List.mem_append_right _ (List.mem_singleton.mpr rfl))]
    · rw [if_neg (fun z => e (pN_inj z))]
      congr 2
      by_cases h : k ∈ (lnk kins c).take i
      · rw [if_pos h, if_pos (List.mem_append_left _ h)]
      · rw [if_neg h, if_neg (fun z => by
          rcases List.mem_append.mp z with z | z
          · exact h z
          · exact e (List.mem_singleton.mp z))]
  · congr 1
    · refine List.map_congr_left fun d _ => ?_
      show (if cN d = pN p then _ else _) = _
      rw [if_neg (fun z => pN_ne z.symm)]
    · show [if cN c = pN p then _ else _] = _
      rw [if_neg (fun z => pN_ne z.symm)]
theorem webM_keys (i:Nat):keysW (webM kins cs c i) = kins.map pN ++ (cs.map cN ++ [cN c]):=by
 unfold keysW webM
 rw [List.map_append,List.map_append,List.map_map,List.map_map]
 rfl
end
theorem TsT.keepE {α:Type} {f:α→List V} {H:Hp} {l d:Addr} {xs:List α} {φ:Heap→Prop} {o:HO} (h:TsT f H l xs) (hd:H d = some (.ext φ)):TsT f (L2.upd H d o) l xs:=by
 obtain ⟨ts,h1,h2,h3⟩:=h
 exact ⟨ts,by rw [upd_ne (fun z=>by rw [z,hd] at h1;cases h1)];exact h1,h2,fun i t x e1 e2=>by
  have q:=h3 i t x e1 e2
  rw [upd_ne (fun z=>by rw [z,hd] at q;cases q)]
  exact q⟩
theorem webM_at {kins:List (Int×Int)} {cs:List (List (Int×Int))} {c:List (Int×Int)} {i:Nat} {p:Int×Int} (hp:p∈kins):∃ t∈webM kins cs c i,t.1 = pN p∧t.2.length≤cs.length + 1:=by
 refine ⟨_,List.mem_append_left _ (List.mem_map.mpr ⟨p,hp,rfl⟩),rfl,?_⟩
 show (_ ++ _:List Nd).length≤_
 rw [List.length_append,List.length_map]
 have:=List.length_filter_le (fun d=>decide (p∈lnk kins d)) cs
 split
 ·show _ + 1≤_;omega
 ·show _ + 0≤_;omega
theorem chains_len (kins:List (Int×Int)):(chains kins).length≤kins.length:=by
 unfold chains hung
 rw [List.length_map,List.length_map]
 exact grp_len _ _
theorem chn_take (kins:List (Int×Int)) {g:List Int} {i:Nat} {x:Int} (h:g[i]? = some x):chn kins (g.take (i + 1)) = chn kins (g.take i) ++ [kins.getD x.toNat (0,0)]:=by
 unfold chn
 rw [take_snoc h,List.map_append]
 rfl
theorem catT {α:Type} {f:α→List V} {H:Hp} {xs ys:List α} {ts us:List Addr} {l:Addr} (h1:Tup f H ts xs) (h2:Tup f H us ys) (hl:H l = none):TsT f (L2.upd H l (.lst (ts.map V.ref ++ us.map V.ref))) l (xs ++ ys):=((h1.app h2).updN hl).tst (by rw [upd_same,List.map_append])
end Mir

namespace L2
open PySem
theorem bb_all:PySem.bootBuiltins "all" = some (.builtin "all"):=by decide +kernel
theorem bb_any:PySem.bootBuiltins "any" = some (.builtin "any"):=by decide +kernel
end L2
namespace Mir
open PySem L2
noncomputable def wo (H:Hp) (d:Addr):Hp:=fun b=>if b = d then none else H b
theorem wo_ne {H:Hp} {d b:Addr} (h:b≠d):wo H d b = H b:=if_neg h
theorem wo_at {H:Hp} {d:Addr}:wo H d d = none:=if_pos rfl
theorem wo_same {H:Hp} {d:Addr}:Same (wo H d) H:=fun b o e=>by
 by_cases c:b = d
 ·rw [c,wo_at] at e;cases e
 ·rw [wo_ne c] at e;exact e
theorem same_wo {H H':Hp} {d:Addr} (s:Same H H') (h:H d = none):Same H (wo H' d):=fun b o e=>by
 rw [wo_ne fun z=>by rw [z,h] at e;cases e]
 exact s b o e
theorem upd_swap {H:Hp} {a b:Addr} {o u:HO} (h:a≠b):upd (upd H a o) b u = upd (upd H b u) a o:=by
 funext c
 by_cases h1:c = a
 ·subst h1
  rw [upd_ne h,upd_same,upd_same]
 ·by_cases h2:c = b
  ·subst h2
   rw [upd_same,upd_ne h1,upd_same]
  ·rw [upd_ne h2,upd_ne h1,upd_ne h1,upd_ne h2]
theorem prs_srt {fs:List Int} {f:Int×Int→Bool} {M:List (Int×Int)} (nd:M.Nodup) (hm:∀ p,p∈M↔p∈(kinL fs).filter f) (hs:M.Pairwise fun p q=>p.1≤q.1):M = (kinL fs).filter f:=by
 have aT:((kinL fs).filter f).Pairwise fun p q=>p.1 < q.1:=List.Pairwise.filter _ (kinL_asc fs)
 have nT:((kinL fs).filter f).Nodup:=List.Pairwise.imp (fun z e=>by rw [e] at z;omega) aT
 have fst:∀ p∈M,∀ q∈M,p.1 = q.1→p = q:=fun p h1 q h2 e=>by
  obtain ⟨a,b,k,rfl⟩:=kinL_mem.mp (List.mem_filter.mp ((hm p).mp h1)).1
  obtain ⟨a',b',k',rfl⟩:=kinL_mem.mp (List.mem_filter.mp ((hm q).mp h2)).1
  have ea:a = a':=by dsimp only at e;omega
  subst ea
  rw [kn_uniq k k']
 have hs2:M.Pairwise fun p q=>p.1 < q.1:=by
  refine List.Pairwise.imp_of_mem (R:=fun p q=>p.1≤q.1∧p≠q) (fun {p q} h1 h2 z=>?_) (List.Pairwise.and hs nd)
  have:=fst p h1 q h2
  exact Int.lt_iff_le_and_ne.mpr ⟨z.1,fun e=>z.2 (this e)⟩
 exact List.Perm.eq_of_pairwise (le:=fun a b=>a.1 < b.1) (fun a b _ _ h1 h2=>by omega) hs2 aT ((List.perm_ext_iff_of_nodup nd nT).mpr hm)
theorem ow_kin {rs:List Int} (fit:Fit rs) {g:Nat} (hg:g < rs.length + 1):ow (frm rs) g∈kinL (frm rs):=by
 obtain ⟨c,d,o⟩:=own_ex fit hg
 rw [ow_eq o]
 exact kinL_mem.mpr ⟨c,d,o.kn,rfl⟩
theorem sgl_kin {rs:List Int} (fit:Fit rs) {L:List Nat} (hL:∀ g∈L,g < rs.length + 1) {p:Int×Int} (h:sgl (frm rs) L p≠[]):p∈kinL (frm rs):=by
 obtain ⟨g,hg,rfl⟩:=sgl_ne h
 exact ow_kin fit (hL g hg)
noncomputable def bySigns (fs:List Int) (L:List Nat) (p:Int×Int):Bool:=(sgl fs L p).all id || !(sgl fs L p).any id
theorem knot_srt {rs:List Int} (fit:Fit rs) {L:List Nat} (hL:∀ g∈L,g < rs.length + 1) {ps M:List (Int×Int)} (np:ps.Nodup) (mem:∀ p,p∈ps↔sgl (frm rs) L p≠[]) (hp:M.Perm (ps.filter (bySigns (frm rs) L))) (hs:M.Pairwise fun p q=>p.1≤q.1):M = knotL (frm rs) L:=by
 refine prs_srt (hp.nodup_iff.mpr (np.filter _)) (fun p=>?_) hs
 rw [hp.mem_iff,List.mem_filter,List.mem_filter,mem]
 constructor
 ·rintro ⟨h1,h2⟩
  refine ⟨sgl_kin fit hL h1,?_⟩
  unfold isKnot
  rw [decide_eq_true h1,Bool.true_and,← cnt_one h1]
  exact h2
 ·rintro ⟨_,h2⟩
  unfold isKnot at h2
  rw [Bool.and_eq_true] at h2
  have h1:=of_decide_eq_true h2.1
  refine ⟨h1,?_⟩
  unfold bySigns
  rw [cnt_one h1]
  exact h2.2
theorem kin_rng {rs:List Int} (fit:Fit rs) {p:Int×Int} (hp:p∈kinL (frm rs)):0≤p.2∧p.2 < 1000:=by
 obtain ⟨a,b,k,rfl⟩:=kinL_mem.mp hp
 have h1:=k.1.lb
 rw [frm_len] at h1
 have:=fit.small
 exact ⟨by dsimp only;omega,by dsimp only;omega⟩
end Mir

namespace Mir
open PySem L2 NK
noncomputable def remW (W:Web) (k:Nd) (L:List Nd):Web:=W.map fun t=>if t.1∈L then (t.1,t.2.filter fun l=>decide (l≠k)) else t
section
variable {W:Web} {k:Nd} {L:List Nd} {t:Nd×List Nd}
theorem rem_nil:remW W k [] = W:=by
 unfold remW
 conv=>rhs;rw [← List.map_id W]
 exact List.map_congr_left fun t _=>by rw [if_neg List.not_mem_nil];rfl
theorem rem_keys:keysW (remW W k L) = keysW W:=by
 unfold keysW remW
 rw [List.map_map]
 refine List.map_congr_left fun t _=>?_
 show (if _ then _ else _:Nd×List Nd).1 = _
 split <;> rfl
theorem rem_step {y:Nd} (hy:y ∉ L):((remW W k L).map fun t=>if t.1 = y then (t.1,t.2.filter fun l=>decide (l≠k)) else t) = remW W k (L ++ [y]):=by
 unfold remW
 rw [List.map_map]
 refine List.map_congr_left fun t _=>?_
 show (if (if t.1∈L then (t.1,t.2.filter fun l=>decide (l≠k)) else t).1 = y then _ else _) = _
 by_cases c:t.1∈L
 ·rw [if_pos c,if_neg (show ¬ t.1 = y from fun z=>hy (z ▸ c)),if_pos (List.mem_append_left _ c)]
 ·rw [if_neg c]
  by_cases e:t.1 = y
  ·rw [if_pos e,if_pos (List.mem_append_right _ (List.mem_singleton.mpr e))]
   dsimp only
   rw [if_neg c]
  ·rw [if_neg e,if_neg (fun z=>by
    rcases List.mem_append.mp z with z | z
    ·exact c z
    ·exact e (List.mem_singleton.mp z))]
theorem rem_mem {y:Nd} (hy:y ∉ L) {ls:List Nd} (h:(y,ls)∈W):(y,ls)∈remW W k L:=List.mem_map.mpr ⟨(y,ls),h,by rw [if_neg hy]⟩
theorem rem_cut (O:WOk W) (ht:t∈W):((remW W t.1 t.2).filter fun u=>decide (u.1≠t.1)) = cutN W t.1:=by
 unfold remW cutN
 rw [List.filter_map]
 have e1:(W.filter ((fun u:Nd×List Nd=>decide (u.1≠t.1)) ∘ fun u:Nd×List Nd=>if u.1∈t.2 then (u.1,u.2.filter fun l=>decide (l≠t.1)) else u)) = W.filter fun u=>decide (u.1≠t.1):=by
  refine List.filter_congr fun u _=>?_
  show decide ((if u.1∈t.2 then (u.1,u.2.filter fun l=>decide (l≠t.1)) else u).1≠t.1) = _
  split <;> rfl
 rw [e1]
 refine List.map_congr_left fun u hu=>?_
 by_cases c:u.1∈t.2
 ·rw [if_pos c]
 ·rw [if_neg c]
  have hu:=(List.mem_filter.mp hu).1
  refine Prod.ext rfl (List.filter_eq_self.mpr fun l hl=>?_).symm
  refine decide_eq_true ?_
  intro z
  subst z
  obtain ⟨v,hv,e,h2⟩:=O.sym u hu t.1 hl
  rw [O.uniq hv ht e] at h2
  exact c h2
theorem spare_nd (O:WOk W) (ks:List (Int×Int)):(spareW W ks).Nodup:=O.nd.sublist ((List.filter_sublist).map _)
theorem fold_snoc {l:List Nd} {i:Nat} {x:Nd} (h:l[i]? = some x):(l.take (i + 1)).foldl cutN W = cutN ((l.take i).foldl cutN W) x:=by
 rw [take_snoc h,List.foldl_append]
 rfl
end
theorem _root_.NK.Ths.inj {H:Hp} {l:Addr} {ks ks':List Nd} (h:Ths H l ks) (h':Ths H l ks'):ks = ks':=by
 obtain ⟨bs,h1,h2,h3⟩:=h
 obtain ⟨cs,k1,k2,k3⟩:=h'
 rw [h1] at k1
 have:bs = cs:=(List.map_inj_right (f:=V.ref) fun a b h=>by injection h).mp (by injection k1 with k1;injection k1)
 subst this
 refine List.ext_getElem? fun i=>?_
 by_cases c:i < bs.length
 ·have e1:=List.getElem?_eq_getElem (l:=ks) (i:=i) (by omega)
  have e2:=List.getElem?_eq_getElem (l:=ks') (i:=i) (by omega)
  have eb:=List.getElem?_eq_getElem c
  rw [e1,e2,(h3 i _ _ eb e1).inj (k3 i _ _ eb e2)]
 ·rw [List.getElem?_eq_none (by omega),List.getElem?_eq_none (by omega)]
theorem _root_.NK.Ths.erase {H:Hp} {l:Addr} {ks:List Nd} {bs:List Addr} {j:Nat} (h1:H l = some (.lst (bs.map V.ref))) (h2:bs.length = ks.length) (h3:∀ (i:Nat) (b:Addr) (k:List Itm),bs[i]? = some b→ks[i]? = some k→K2 H k b):Ths (L2.upd H l (.lst ((bs.eraseIdx j).map V.ref))) l (ks.eraseIdx j):=by
 refine ⟨bs.eraseIdx j,upd_same,by rw [List.length_eraseIdx,List.length_eraseIdx,h2],fun i b k e1 e2=>?_⟩
 have g:∀ c ys,H c = some (.tup ys)→L2.upd H l (.lst ((bs.eraseIdx j).map V.ref)) c = some (.tup ys):=fun c ys e=>by
  rw [upd_ne (fun z=>by rw [z,h1] at e;cases e)]
  exact e
 rw [List.getElem?_eraseIdx] at e1 e2
 by_cases c:i < j
 ·rw [if_pos c] at e1 e2
  exact (h3 i b k e1 e2).keep g
 ·rw [if_neg c] at e1 e2
  exact (h3 _ b k e1 e2).keep g
theorem erase_self {ks:List Nd} (nd:ks.Nodup) {j:Nat} {k:Nd} (h:ks[j]? = some k):ks.eraseIdx j = ks.filter fun l=>decide (l≠k):=erase_filter (fun x:Nd=>x) k ks j k (by rw [List.map_id'];exact nd) h rfl
theorem first_at {ks:List Nd} (nd:ks.Nodup) {j:Nat} {k:Nd} (h:ks[j]? = some k):∀ i,i < j→ks[i]?≠some k:=fun i hi e=>by
 have:=(List.getElem?_inj (List.getElem?_eq_some_iff.mp e).1 nd).mp (e.trans h.symm)
 omega
end Mir
namespace Mir
open PySem L2 NK
noncomputable def lowW (W:Web):List Nd:=(W.filter fun t=>decide (t.2.length≤1)).map (·.1)
theorem low_snoc {W:Web} {i:Nat} {t:Nd×List Nd} (ht:W[i]? = some t):lowW (W.take (i + 1)) = lowW (W.take i) ++ (if t.2.length≤1 then [t.1] else []):=by
 unfold lowW
 rw [take_snoc ht,List.filter_append,List.map_append,List.filter_cons,List.filter_nil]
 by_cases c:t.2.length≤1
 ·rw [if_pos (decide_eq_true c),if_pos c];rfl
 ·rw [if_neg (by rw [decide_eq_false c];decide),if_neg c];rfl
theorem low_len (W:Web) (i:Nat):(lowW (W.take i)).length≤i:=by
 unfold lowW
 rw [List.length_map]
 exact Nat.le_trans (List.length_filter_le _ _) (by rw [List.length_take];omega)
theorem mem_low {W:Web} (O:WOk W) {k:Nd}:k∈lowW W↔k∈keysW W∧(lkW W k).length≤1:=by
 unfold lowW
 rw [List.mem_map]
 constructor
 ·rintro ⟨t,h,rfl⟩
  obtain ⟨h1,h2⟩:=List.mem_filter.mp h
  exact ⟨mem_keys.mpr ⟨t,h1,rfl⟩,by rw [O.lk h1];exact of_decide_eq_true h2⟩
 ·rintro ⟨h1,h2⟩
  obtain ⟨t,ht,rfl⟩:=mem_keys.mp h1
  rw [O.lk ht] at h2
  exact ⟨t,List.mem_filter.mpr ⟨ht,decide_eq_true h2⟩,rfl⟩
theorem pN_back:∀ {l:List Nd} {ks:List (Int×Int)},(∀ k∈l,k∈ks.map pN)→∃ ps:List (Int×Int),l = ps.map pN∧∀ p∈ps,p∈ks
 | [],ks,_=>⟨[],rfl,fun p h=>absurd h List.not_mem_nil⟩
 | k :: r,ks,h=>by
  obtain ⟨p,hp,rfl⟩:=List.mem_map.mp (h k List.mem_cons_self)
  obtain ⟨ps,e,hs⟩:=pN_back (l:=r) (ks:=ks) fun x hx=>h x (List.mem_cons_of_mem _ hx)
  exact ⟨p :: ps,by rw [e];rfl,fun q hq=>by
   rcases List.mem_cons.mp hq with rfl | hq
   ·exact hp
   ·exact hs q hq⟩
theorem low_ends {W:Web} (O:WOk W) {ks:List (Int×Int)} (hs:spareW W ks = []) (asc:ks.Pairwise fun p q=>p.1 < q.1):∃ ps:List (Int×Int),lowW W = ps.map pN∧ps.Perm (endsL W ks)∧∀ p∈ps,p∈ks:=by
 have sub:∀ k∈lowW W,k∈ks.map pN:=fun k hk=>Classical.byContradiction fun c=>by
  unfold lowW at hk
  obtain ⟨t,ht,rfl⟩:=List.mem_map.mp hk
  obtain ⟨h1,h2⟩:=List.mem_filter.mp ht
  have:t.1∈spareW W ks:=List.mem_map.mpr ⟨t,List.mem_filter.mpr ⟨h1,by rw [h2,decide_eq_false c];rfl⟩,rfl⟩
  rw [hs] at this
  exact absurd this List.not_mem_nil
 obtain ⟨ps,e,hp⟩:=pN_back sub
 refine ⟨ps,e,?_,hp⟩
 have nd1:(lowW W).Nodup:=O.nd.sublist ((List.filter_sublist).map _)
 have nd2:ps.Nodup:=by
  rw [e] at nd1
  unfold List.Nodup at nd1
  rw [List.pairwise_map] at nd1
  exact nd1.imp fun n z=>n (by rw [z])
 have nd3:(endsL W ks).Nodup:=(asc_nd asc).sublist List.filter_sublist
 refine (List.perm_ext_iff_of_nodup nd2 nd3).mpr fun p=>?_
 have m1:p∈ps↔pN p∈lowW W:=by
  rw [e]
  exact ⟨fun h=>List.mem_map.mpr ⟨p,h,rfl⟩,fun h=>by obtain ⟨q,hq,z⟩:=List.mem_map.mp h;rw [← pN_inj z];exact hq⟩
 unfold endsL
 rw [List.mem_filter,Bool.and_eq_true,decide_eq_true_iff,decide_eq_true_iff,← mem_low O]
 exact ⟨fun h=>⟨hp p h,m1.mp h⟩,fun h=>m1.mpr h.2⟩
theorem ends_srt {W:Web} {ks M ps:List (Int×Int)} (asc:ks.Pairwise fun p q=>p.1 < q.1) (h1:M.Perm ps) (h2:ps.Perm (endsL W ks)) (hs:M.Pairwise fun p q=>p.1≤q.1):M = endsL W ks:=by
 have a2:(endsL W ks).Pairwise fun p q=>p.1 < q.1:=asc.sublist List.filter_sublist
 have hp:=h1.trans h2
 refine List.Perm.eq_of_pairwise (le:=fun p q:Int×Int=>p.1≤q.1) (fun a b ha hb h1 h2=>?_) hs (a2.imp fun h=>Int.le_of_lt h) hp
 have hb:b∈endsL W ks:=hb
 have ha:a∈endsL W ks:=hp.mem_iff.mp ha
 obtain ⟨i,hi,rfl⟩:=List.getElem_of_mem ha
 obtain ⟨j,hj,rfl⟩:=List.getElem_of_mem hb
 rcases Nat.lt_trichotomy i j with c | c | c
 ·have:=List.pairwise_iff_getElem.mp a2 i j hi hj c;omega
 ·subst c;rfl
 ·have:=List.pairwise_iff_getElem.mp a2 j i hj hi c;omega
end Mir
namespace Mir
open PySem L2 NK
theorem thin_len {ks:List (Int×Int)}:∀ (n:Nat) (W:Web),(thinN n W ks).length≤W.length
 | 0,W=>Nat.le_refl _
 | n + 1,W=>by
  show (if spareW W ks = [] then W else _).length≤_
  split
  ·exact Nat.le_refl _
  ·exact Nat.le_trans (thin_len n _) (fold_len _ _)
theorem WOk.nil:WOk []:=⟨List.nodup_nil,fun t h=>absurd h List.not_mem_nil,fun t h=>absurd h List.not_mem_nil,fun t h=>absurd h List.not_mem_nil⟩
theorem webT_ok {rs:List Int} (fit:Fit rs):WOk (webT rs)∧(webT rs).length≤500∧spareW (webT rs) (knotL (frm rs) (opn (frm rs) (rs.length + 1))) = []:=by
 have fl:=frm_len rs
 have kl:=kinL_len (frm rs)
 have small:=fit.small
 have cl:=chains_len (kinL (frm rs))
 have asc:=kinL_asc (frm rs)
 have O:=webJ_ok (chains_ok asc)
 have Wl:(webJ (kinL (frm rs)) (chains (kinL (frm rs)))).length≤500:=by
  unfold webJ
  rw [List.length_append,List.length_map,List.length_map]
  omega
 unfold webT
 by_cases c:knotL (frm rs) (opn (frm rs) (rs.length + 1)) = []
 ·rw [if_pos c]
  exact ⟨WOk.nil,Nat.zero_le _,rfl⟩
 ·rw [if_neg c]
  exact ⟨WOk.thinN _ O,Nat.le_trans (thin_len _ _) Wl,thinN_spare _ _ (Nat.le_refl _)⟩
theorem knot_facts {rs:List Int} (fit:Fit rs):((knotL (frm rs) (opn (frm rs) (rs.length + 1))).Pairwise fun p q=>p.1 < q.1)∧(knotL (frm rs) (opn (frm rs) (rs.length + 1))).length≤60∧∀ p∈knotL (frm rs) (opn (frm rs) (rs.length + 1)),0≤p.2∧p.2 < 1000:=by
 have fl:=frm_len rs
 have kl:=kinL_len (frm rs)
 have small:=fit.small
 unfold knotL
 exact ⟨(kinL_asc _).sublist List.filter_sublist,Nat.le_trans (List.length_filter_le _ _) (by omega),fun p hp=>kin_rng fit (List.mem_filter.mp hp).1⟩
end Mir
namespace Mir
open PySem L2 NK
theorem legR_len (W:Web):∀ (n:Nat) (p:Nd) (on acc:List Nd),(legR W n p on acc).length≤acc.length + n
 | 0,_,_,acc=>Nat.le_refl _
 | n + 1,p,[],acc=>by show acc.length≤_;omega
 | n + 1,p,t :: r,acc=>by
  show (if (lkW W t).length≤2 then legR W n t ((lkW W t).filter fun l=>decide (l≠p)) (acc ++ [t]) else acc).length≤_
  split
  ·have:=legR_len W n t ((lkW W t).filter fun l=>decide (l≠p)) (acc ++ [t])
   rw [List.length_append,List.length_singleton] at this
   omega
  ·omega
theorem legOf_len (W:Web) (k:Nd):(legOf W k).length≤W.length + 1:=by
 have:=legR_len W W.length k (lkW W k) [k]
 unfold legOf
 rw [List.length_singleton] at this
 omega
end Mir

namespace Mir
open PySem L2 NK
theorem iV_in (x:Int):∀ l:List Int,inV (.int x) (iV l) = decide (x∈l)
 | []=>rfl
 | y :: r=>by
  have ih:=iV_in x r
  unfold inV at ih ⊢
  show ((decide (y = x)) || (iV r).any _) = _
  rw [ih]
  by_cases c:x = y
  ·subst c
   rw [decide_eq_true (rfl:x = x),Bool.true_or,decide_eq_true List.mem_cons_self]
  ·rw [decide_eq_false (fun z=>c z.symm),Bool.false_or]
   exact decide_eq_decide.mpr ⟨fun z=>List.mem_cons_of_mem _ z,fun z=>(List.mem_cons.mp z).resolve_left c⟩
theorem flat_iV (l:List Int):(iV l).all flatV = true:=List.all_eq_true.mpr fun v hv=>by
 obtain ⟨x,_,rfl⟩:=List.mem_map.mp hv
 rfl
noncomputable def spCost:Sp:=fun vs H Q _=>∃ (t:Addr) (rs:List Int),vs = [.ref t]∧H t = some (.tup (iV rs))∧Fit rs∧∀ H':Hp,Same H H'→Q (.int (costF (legsF rs))) H'
theorem allTurns_mem {n:Nat} {p:Int×Int} (h:p∈allTurns n n):∃ f l:Nat,p = ((f:Int),(l:Int))∧f≤l∧l < n:=by
 unfold allTurns at h
 obtain ⟨f,hf,h⟩:=List.mem_flatMap.mp h
 obtain ⟨i,hi,rfl⟩:=List.mem_map.mp h
 have h1:=List.mem_range.mp hf
 have h2:=List.mem_range.mp hi
 exact ⟨f,f + i,by rw [Int.natCast_add],by omega,by omega⟩
end Mir

namespace Mir
open PySem L2 NK
noncomputable def whB (fs:List Int) (a b:Nat):Bool:=decide (a < b) && (decide (b < fs.length) && ((decide (fs.getD b 0 = amA fs a b) && decide (fs.getD b 0 = fs.getD a 0 + ((b:Int) - (a:Int)))) && (List.range (b + 1)).all fun j=>!decide (a < j) || (decide (fs.getD a 0≤amA fs a j) && decide (amA fs a j≤fs.getD b 0))))
theorem whB_iff {fs:List Int} {a b:Nat}:whB fs a b = true↔Wh fs a b:=by
 unfold whB
 rw [Bool.and_eq_true,Bool.and_eq_true,Bool.and_eq_true,Bool.and_eq_true,decide_eq_true_iff,decide_eq_true_iff,decide_eq_true_iff,decide_eq_true_iff,List.all_eq_true]
 constructor
 ·rintro ⟨h1,h2,⟨h3,h4⟩,h5⟩
  refine ⟨h1,h2,fun j a1 a2=>?_,h3,h4⟩
  have:=h5 j (List.mem_range.mpr (by omega))
  rw [decide_eq_true a1,Bool.not_true,Bool.false_or,Bool.and_eq_true,decide_eq_true_iff,decide_eq_true_iff] at this
  exact this
 ·rintro ⟨h1,h2,h3,h4,h5⟩
  refine ⟨h1,h2,⟨h4,h5⟩,fun j hj=>?_⟩
  have hj:=List.mem_range.mp hj
  by_cases c:a < j
  ·have:=h3 j c (by omega)
   rw [decide_eq_true this.1,decide_eq_true this.2,Bool.and_true,Bool.or_true]
  ·rw [decide_eq_false c]
   rfl
noncomputable def knB (fs:List Int) (a b:Nat):Bool:=whB fs a b && (List.range b).all fun c=>!whB fs a c
theorem knB_iff {fs:List Int} {a b:Nat}:knB fs a b = true↔Kn fs a b:=by
 unfold knB Kn
 rw [Bool.and_eq_true,whB_iff,List.all_eq_true]
 refine ⟨fun ⟨h1,h2⟩=>⟨h1,fun c hc z=>?_⟩,fun ⟨h1,h2⟩=>⟨h1,fun c hc=>?_⟩⟩
 ·have:=h2 c (List.mem_range.mpr hc)
  rw [whB_iff.mpr z] at this
  exact absurd this (by decide)
 ·have:=h2 c (List.mem_range.mp hc)
  cases e:whB fs a c with
  | false=>rfl
  | true=>exact absurd (whB_iff.mp e) this
noncomputable def kinC (fs:List Int):List (Int×Int):=((List.range fs.length).flatMap fun a=>((List.range fs.length).filter fun b=>whB fs a b).map fun (b:Nat)=>((a:Int),(b:Int))).filter fun p=>knB fs p.1.toNat p.2.toNat
theorem kinC_eq (fs:List Int):kinL fs = kinC fs:=by
 unfold kinL whL whRow isKn kinC
 have e1:(fun p:Int×Int=>knB fs p.1.toNat p.2.toNat) = fun p=>@decide (Kn fs p.1.toNat p.2.toNat) (Classical.propDecidable _):=by
  funext p
  rw [Bool.eq_iff_iff,knB_iff]
  exact (@decide_eq_true_iff _ (Classical.propDecidable _)).symm
 have e2:∀ a,(fun b=>whB fs a b) = fun b=>@decide (Wh fs a b) (Classical.propDecidable _):=fun a=>by
  funext b
  rw [Bool.eq_iff_iff,whB_iff]
  exact (@decide_eq_true_iff _ (Classical.propDecidable _)).symm
 rw [e1]
 simp only [e2]
noncomputable def owC (fs:List Int) (g:Nat):Int×Int:=((kinC fs).filter fun p=>decide (p.1≤(g:Int)) && decide ((g:Int) < p.2)).getLastD (0,0)
theorem asc_last {l:List (Int×Int)} (h:l.Pairwise fun p q=>p.1 < q.1) {p:Int×Int} (hp:p∈l) (top:∀ q∈l,q.1≤p.1) (d:Int×Int):l.getLastD d = p:=by
 rcases List.eq_nil_or_concat l with e | ⟨r,x,e⟩
 ·rw [e] at hp;cases hp
 ·rw [List.concat_eq_append] at e
  subst e
  rw [List.getLastD_eq_getLast?,List.getLast?_append]
  show x = p
  rcases List.mem_append.mp hp with q | q
  ·have a1:=(List.pairwise_append.mp h).2.2 p q x List.mem_cons_self
   have a2:=top x (List.mem_append_right _ List.mem_cons_self)
   omega
  ·exact (List.mem_singleton.mp q).symm
theorem owC_eq {rs:List Int} (fit:Fit rs) {g:Nat} (hg:g < rs.length + 1):ow (frm rs) g = owC (frm rs) g:=by
 obtain ⟨c,d,h⟩:=own_ex fit hg
 rw [ow_eq h]
 unfold owC
 rw [← kinC_eq]
 refine (asc_last (List.Pairwise.filter _ (kinL_asc _)) ?_ ?_ _).symm
 ·refine List.mem_filter.mpr ⟨kinL_mem.mpr ⟨c,d,h.kn,rfl⟩,?_⟩
  have h1:=h.le
  have h2:=h.lt
  rw [decide_eq_true (show ((c:Nat):Int)≤g by omega),decide_eq_true (show (g:Int) < (d:Nat) by omega)]
  rfl
 ·intro q hq
  obtain ⟨q1,q2⟩:=List.mem_filter.mp hq
  obtain ⟨a,b,kn,rfl⟩:=kinL_mem.mp q1
  rw [Bool.and_eq_true,decide_eq_true_iff,decide_eq_true_iff] at q2
  have:=h.top a b kn (by have:=q2.1;dsimp only at this;omega) (by have:=q2.2;dsimp only at this;omega)
  show ((a:Nat):Int)≤((c:Nat):Int)
  omega
noncomputable def sgC (fs:List Int) (L:List (Nat×Int×Int)) (p:Int×Int):List Bool:=(L.filter fun t=>decide (t.2 = p)).flatMap fun t=>[decide (fs.getD t.1 0 < 0),decide (fs.getD (t.1 + 1) 0 < 0)]
theorem sgC_eq {rs:List Int} (fit:Fit rs) (p:Int×Int):sgl (frm rs) (opn (frm rs) (rs.length + 1)) p = sgC (frm rs) ((opn (frm rs) (rs.length + 1)).map fun g=>(g,owC (frm rs) g)) p:=by
 unfold sgl sgC
 rw [List.filter_map,List.flatMap_map]
 congr 1
 refine List.filter_congr fun g hg=>?_
 rw [owC_eq fit (opn_mem hg)]
 rfl
noncomputable def knotC (fs:List Int) (L:List (Nat×Int×Int)):List (Int×Int):=(kinC fs).filter fun p=>decide (sgC fs L p≠[]) && decide (SetB.cnt (sgC fs L p) = 1)
noncomputable def opC (rs:List Int):List (Nat×Int×Int):=(opn (frm rs) (rs.length + 1)).map fun g=>(g,owC (frm rs) g)
theorem knotC_eq {rs:List Int} (fit:Fit rs):knotL (frm rs) (opn (frm rs) (rs.length + 1)) = knotC (frm rs) (opC rs):=by
 unfold knotL knotC opC
 rw [← kinC_eq]
 refine List.filter_congr fun p _=>?_
 unfold isKnot
 rw [sgC_eq fit]
noncomputable def chC (kins:List (Int×Int)):List (List (Int×Int)):=(hung kins).map (chn kins)
noncomputable def webC (kins ks:List (Int×Int)):Web:=if ks = [] then [] else thinW (webJ kins (chC kins)) ks
noncomputable def legsC (W:Web) (ks:List (Int×Int)):List Int:=(endsL W ks).map fun e=>(((legOf W (pN e)).filter fun k=>decide (k∈ks.map pN)).length:Nat)
noncomputable def scoreC (rs:List Int):Int :=
 let fs:=frm rs
 let ks:=knotC fs (opC rs)
 (rs.length:Int) + 1 - (hung (tieL rs)).length + costF (legsC (webC (kinC fs) ks) ks)
theorem scoreC_eq {rs:List Int} (fit:Fit rs):scoreF rs = scoreC rs:=by
 unfold scoreF scoreC legsF webT
 rw [knotC_eq fit,kinC_eq]
 rfl
end Mir

namespace Mir
open PySem L2 NK
noncomputable def insS (x:Int):List Int→List (List Int)
 | []=>[[x]]
 | y :: r=>(x :: y :: r) :: (insS x r).map (y :: ·)
noncomputable def rowsC:Nat→List (List Int)
 | 0=>[[]]
 | n + 1=>(rowsC n).flatMap fun r=>insS ((n:Int) + 1) r ++ insS (-((n:Int) + 1)) r
theorem insS_mem (x:Int):∀ u v:List Int,u ++ x :: v∈insS x (u ++ v)
 | [],[]=>List.mem_cons_self
 | [],y :: v=>List.mem_cons_self
 | y :: u,v=>List.mem_cons_of_mem _ (List.mem_map.mpr ⟨_,insS_mem x u v,rfl⟩)
theorem rows_all:∀ {n:Nat} {r:List Int},(absL r).Perm (from1 n)→r∈rowsC n
 | 0,r,h=>by
  have h1:=h.length_eq
  rw [absL_len,from1_len] at h1
  rw [List.length_eq_zero_iff.mp h1]
  exact List.mem_cons_self
 | n + 1,r,h=>by
  have e:from1 (n + 1) = from1 n ++ [(n:Int) + 1]:=by
   unfold from1
   rw [List.range_succ,List.map_append]
   congr 1
   show [1 + (n:Int)] = _
   rw [Int.add_comm]
  rw [e] at h
  have hm:(n:Int) + 1∈absL r:=h.mem_iff.mpr (List.mem_append_right _ List.mem_cons_self)
  obtain ⟨x,hx,ex⟩:=List.mem_map.mp hm
  obtain ⟨u,v,rfl⟩:=List.append_of_mem hx
  have e2:absL (u ++ x :: v) = absL u ++ (((n:Int) + 1) :: absL v):=by
   unfold absL
   rw [List.map_append,List.map_cons,ex]
  have e3:absL (u ++ v) = absL u ++ absL v:=by
   unfold absL
   rw [List.map_append]
  rw [e2] at h
  have p1:(absL u ++ absL v).Perm (from1 n):=by
   have a:=(List.perm_middle (a:=(n:Int) + 1) (l₁:=absL u) (l₂:=absL v)).symm.trans h
   have b:(from1 n ++ [(n:Int) + 1]).Perm (((n:Int) + 1) :: from1 n):=List.perm_append_comm
   exact (List.perm_cons _).mp (a.trans b)
  rw [← e3] at p1
  have ih:=rows_all p1
  refine List.mem_flatMap.mpr ⟨_,ih,List.mem_append.mpr ?_⟩
  unfold absI at ex
  split at ex
  ·have:x = -((n:Int) + 1):=by omega
   subst this
   exact .inr (insS_mem _ u v)
  ·have:x = (n:Int) + 1:=by omega
   subst this
   exact .inl (insS_mem _ u v)
noncomputable def cdR (r:List Int):Nat:=r.foldl (fun c x=>c * 9 + (x + 4).toNat) 0
noncomputable def tbN:Nat→Nat
 | 0=>0
 | 1=>512
 | 2=>580672138534003293387159390283650117640657487045591040
 | 3=>65794034744391653616774265510473378661210786968798141877403898875000877765604897779469565100927114905192994340514150892978362438566326407749789131254178420512696076902626883249520413949355139992642993489288523069123802064502159577298355349952377442149906997487370342044136584980436596241223409899744246652813278288176216516385755867246578845220932191905745464966207927066350277415283675574988296290342795784961699214653985973685497471797446518570120857370589174910837265130594506005551181968352048173982402705037243315870503251090143577576372387929956850981079613440
 | _=>7236041443118342699122291901862616757852502048109378671481270784666412467248132963331210443664230484361852563226042617396524354432136182379711833390320014671071081659973499597209135130285289171818568330543109497069671637145166376650906962111968761373102670284847050572703828199300427589958064003466964362986194280947561854872043199836342953305309026886725956220386660861554424930223315371669410369816728058635017386935704297100180459800082148620768719860955229220456194938815625738802107214670090244754385965143718690047269939234402937161036033878939599919287423341119318213999668395218805550816403777470795151674256023105751700074354743452412310261747375492144207419731021510717906479453467166568531440509974134501451078142215644767101599608973325614668289185982650093733761611240155938546440143515670459352178692529917591193829178518731380859537770165508610953848870426292351226633853851520415055346395350851297222579574959365047613931652410893626091488699467405387420012357499624296279375437450147610208956662416467991597405071988887957694003335377442295424968964225836012095774200195110329717812898263637782901182671710949421274930168009058096382638708081658446480211245581838185010057530829961845205499495156642606201773161487939069086095308650318967173735377101316812187458002263558403384614430244276419432087566485112582440615528895235915808985309205078578411615568234026947243564355453887729822978842579179752018852260801022646895036025285383010558835927744160242004621642252828388928089968547084715897351272770606797455261355383703283256963022874840938410163581686927692584794667044294251463172636341732357017694751593982041592605267372101146422022120538154679333099272812311793436626172244044940410979481338361827492257116583029757034690703325530836358794884508139252597836242173465644937434108494682356310934575841349515732552644774153271996992711340820472049752849573556047385609166889837901368427466036269785994344574698106434987037049430085082760865317983541703635048954875432521325360584439635832205022040747994246979159199955804913235453046234804290947931112588383781842304147364762163084464486544899328214840307462214767661621352726444552070349265748095480790255072873592033344677738122373648109447826806598996019660132103854006943885517216527745256599243427001680479821336841855311080667615558354406895128451115072768503564899939434562112790793605676707414140726465536251804036128616528804277849939774776740245074337483120294033691786994091726659122436534180190334510558029566518166677052664112350259645890208663213751877491174031285359556515932889529279976855191144132225114127132610155440508741681143717586078879860771954117954892271261258780194981971434334676424102808718544672398349330781609917300537893602425719519325172961241479720926707949660177787775670385769769134933447847697632742210321477882453819061760472598387675098816055924983293304938583403543893188090233924288852278586228685775488872063943387758127287416330663606318651527542921851274643982302888808911189293525577378875858773412948033910291579543985064594951614333528166856944915393354761382405469993488173584635449911991673926982447103112313396268121035661480635722371483515505816814106959477234071269577691135688922332165611147015254073606872326182962918460625474975007670383455179553325281573996820833684634468887696554526318266513883483332899360083975790629729207995155932049448834765184911940177147025524176822998627441028003133358131525581988329301605686185883170101210799017235391745645411557762705801456195757160759078517965838214064543121779572992818339510831297973523080992248414541201289950830536880104321275039709378107958146886767584408847232291049102553641895496082514440514776417915143722878615202302658847557080731552873133007003242467484445702276153519928228587805287867874007232785602850429449619291939813512992736082272538900509205973911724215639949745058466515278090541260574350465788304702990165517347320938978905617865618564317176434912642390699589294720099100204767267292125181295347156596074532515657960440317716834996405904740266826688081816619691591700726871051118969819797681534819657569688518134354135487279660020762936728419287774143014333710022189791894826502742535781118740487283821819607410773195379581898826611542894374651040035676613728139534942890682108288251004974415511370652361927413104787580266575867954609318829658488115640224497230650483750361589205338008086687554249088663713363548938573759578298347573727395975524168863078457411174341475314506041495757688740567080679849968906418988785443342667266793370101788242889746415700037844262738407017485158145360544410386997960531983136535180668784111437500536884996520491489930033903802493535377421324405012856891244691113221073553942087989725988967897419877034091683259383197477529767713548254383333200848403283206268065910740502561339124749514728877488033288718971537119861422474162180800119364501915344658206573054382627286400022105135790730059377483369282785114055622771846776605130953197930469167463239075209482293114593057270118398263672265207616273391608327769726810466060539273445020706136951946123640335502194289089931656084005083221592952148085988910112554004939296062799620876631728791399701162105644312090016507021589757145687479246353030461398675657398356038862916306186457007736778109536645004731288164687351962660752577860149449357672123651484090333650836295360715653480645566823026782635440468974866942353808359635477635052419591552847078077889772631186597281337391673402167511906627713163888360142700101706267012506478095704943202664513394882024977793358204046781918451710907562757984078075389182185822636031708071169719333654993665827225272121581360949161830722563994966571057130073380788756484770388767623313690848597572366054640895157529688053864812227682663044385244933431903023454299060783019572338099982117582335544858008922947160375296
noncomputable def tb (r:List Int):Nat:=tbN r.length / 8 ^ cdR r % 8
theorem tb_all:((List.range 5).all fun n=>(rowsC n).all fun r=>decide (scoreC r = (tb r:Int))) = true:=by decide +kernel
theorem tb_up:((List.range 5).all fun n=>(rowsC n).all fun r=>(allTurns n n).all fun p=>decide (tb (turnP r p.1.toNat p.2.toNat)≤tb r + 1)) = true:=by decide +kernel
theorem tb_dn:((List.range 5).all fun n=>(rowsC n).all fun r=>(decide (tb r = 0) && decide (r = from1 n)) || (decide (0 < tb r) && (allTurns n n).any fun p=>decide (tb (turnP r p.1.toNat p.2.toNat) + 1 = tb r))) = true:=by decide +kernel
theorem tb_pl:((List.range 5).all fun n=>decide (tb (from1 n) = 0)) = true:=by decide +kernel
theorem rows_len:((List.range 5).all fun n=>decide ((rowsC n).length≤384)) = true:=by decide +kernel
section
variable {r:List Int} (fit:Fit r) (h:r.length≤4)
include fit h
theorem sc_tb:scoreF r = (tb r:Int):=by
 rw [scoreC_eq fit]
 have:=List.all_eq_true.mp tb_all r.length (List.mem_range.mpr (by omega))
 exact of_decide_eq_true (List.all_eq_true.mp this r (rows_all fit.perm))
theorem turn_up {f l:Nat} (h1:f≤l) (h2:l < r.length):tb (turnP r f l)≤tb r + 1:=by
 have a:=List.all_eq_true.mp tb_up r.length (List.mem_range.mpr (by omega))
 have b:=List.all_eq_true.mp (List.all_eq_true.mp a r (rows_all fit.perm)) ((f:Int),(l:Int)) (by
  unfold allTurns
  refine List.mem_flatMap.mpr ⟨f,List.mem_range.mpr (by omega),List.mem_map.mpr ⟨l - f,List.mem_range.mpr (by omega),?_⟩⟩
  rw [show ((f:Int) + ((l - f:Nat):Int)) = l by omega])
 exact of_decide_eq_true b
theorem turn_dn:(tb r = 0∧r = from1 r.length)∨(0 < tb r∧∃ f l:Nat,f≤l∧l < r.length∧tb (turnP r f l) + 1 = tb r):=by
 have a:=List.all_eq_true.mp tb_dn r.length (List.mem_range.mpr (by omega))
 have b:=List.all_eq_true.mp a r (rows_all fit.perm)
 rw [Bool.or_eq_true,Bool.and_eq_true,Bool.and_eq_true,decide_eq_true_iff,decide_eq_true_iff,decide_eq_true_iff,List.any_eq_true] at b
 rcases b with b | ⟨b,p,hp,hd⟩
 ·exact .inl b
 ·obtain ⟨f,l,rfl,h1,h2⟩:=allTurns_mem hp
  exact .inr ⟨b,f,l,h1,h2,of_decide_eq_true hd⟩
end
theorem tb_plain {n:Nat} (h:n≤4):tb (from1 n) = 0:=of_decide_eq_true (List.all_eq_true.mp tb_pl n (List.mem_range.mpr (by omega)))
end Mir

namespace Mir
open PySem L2 NK
theorem asc_at {L:List (List Int)} (h:L.Pairwise fun r q=>tb r≤tb q) {i j:Nat} {r q:List Int} (hij:i≤j) (hi:L[i]? = some r) (hj:L[j]? = some q):tb r≤tb q:=by
 obtain ⟨a1,rfl⟩:=List.getElem?_eq_some_iff.mp hi
 obtain ⟨a2,rfl⟩:=List.getElem?_eq_some_iff.mp hj
 rcases Nat.lt_or_eq_of_le hij with c | c
 ·exact List.pairwise_iff_getElem.mp h i j a1 a2 c
 ·subst c;exact Nat.le_refl _
structure Bf (n:Nat) (L:List (List Int)) (at':Nat):Prop where
 nd:L.Nodup
 fit:∀ r∈L,Fit r∧r.length = n
 plain:from1 n∈L
 asc:L.Pairwise fun r q=>tb r≤tb q
 top:∀ r,L[at']? = some r→∀ q∈L,tb q≤tb r + 1
 don:∀ i r,i < at'→L[i]? = some r→∀ f l:Nat,f≤l→l < n→turnP r f l∈L
theorem Bf.start {n:Nat} (h:n≤4):Bf n [from1 n] 0:=by
 refine ⟨by simp,fun r hr=>?_,List.mem_cons_self,by simp,fun r hr q hq=>?_,fun i r hi=>absurd hi (Nat.not_lt_zero _)⟩
 ·rw [List.mem_singleton.mp hr]
  exact ⟨from1_fit (by omega),from1_len n⟩
 ·rw [List.mem_singleton.mp hq,tb_plain h]
  omega
theorem Bf.has {n:Nat} {L:List (List Int)} {at':Nat} (h4:n≤4) (B:Bf n L at') {r:List Int} (hr:L[at']? = some r):∀ (m:Nat) (q:List Int),tb q = m→Fit q→q.length = n→tb q≤tb r→q∈L
 | 0,q,e,fit,hl,_=>by
  rcases turn_dn fit (by omega) with ⟨_,h⟩ | ⟨h,_⟩
  ·rw [h,hl];exact B.plain
  ·omega
 | m + 1,q,e,fit,hl,hle=>by
  rcases turn_dn fit (by omega) with ⟨h,_⟩ | ⟨_,f,l,h1,h2,h3⟩
  ·omega
  ·have fq:=turnP_fit fit h1 h2
   have lq:=turnP_len q f l
   have hm:=Bf.has h4 B hr m (turnP q f l) (by omega) fq (by omega) (by omega)
   obtain ⟨i,hi⟩:=List.mem_iff_getElem?.mp hm
   have ia:i < at':=by
    refine Nat.lt_of_not_le fun c=>?_
    have:=asc_at B.asc c hr hi
    omega
   have:=B.don i _ ia hi f l h1 (by omega)
   rw [turnP_back h1 h2] at this
   exact this
theorem Bf.add {n:Nat} {L:List (List Int)} {at' f l:Nat} (h4:n≤4) (B:Bf n L at') {r:List Int} (hr:L[at']? = some r) (h1:f≤l) (h2:l < n) (hn:turnP r f l ∉ L):Bf n (L ++ [turnP r f l]) at'∧tb (turnP r f l) = tb r + 1:=by
 obtain ⟨fr,lr⟩:=B.fit r (List.mem_of_getElem? hr)
 have fq:=turnP_fit fr h1 (by omega)
 have lq:=turnP_len r f l
 have up:=turn_up fr (by omega) h1 (by omega)
 have lo:¬ tb (turnP r f l)≤tb r:=fun c=>hn (B.has h4 hr _ _ rfl fq (by omega) c)
 have e:tb (turnP r f l) = tb r + 1:=by omega
 have hat:=(List.getElem?_eq_some_iff.mp hr).1
 refine ⟨⟨?_,fun q hq=>?_,List.mem_append_left _ B.plain,?_,fun r' hr' q hq=>?_,fun i r' hi hr' f' l' a1 a2=>?_⟩,e⟩
 ·rw [List.nodup_append]
  refine ⟨B.nd,by simp,fun a ha b hb=>?_⟩
  rw [List.mem_singleton.mp hb]
  exact fun z=>hn (z ▸ ha)
 ·rcases List.mem_append.mp hq with c | c
  ·exact B.fit q c
  ·rw [List.mem_singleton.mp c]
   exact ⟨fq,by omega⟩
 ·rw [List.pairwise_append]
  refine ⟨B.asc,by simp,fun a ha b hb=>?_⟩
  rw [List.mem_singleton.mp hb,e]
  exact B.top r hr a ha
 ·rw [List.getElem?_append_left hat,hr] at hr'
  obtain rfl:=Option.some.inj hr'
  rcases List.mem_append.mp hq with c | c
  ·exact B.top r hr q c
  ·rw [List.mem_singleton.mp c]
   omega
 ·rw [List.getElem?_append_left (by omega)] at hr'
  exact List.mem_append_left _ (B.don i r' hi hr' f' l' a1 a2)
theorem Bf.next {n:Nat} {L:List (List Int)} {at':Nat} (B:Bf n L at') {r:List Int} (hr:L[at']? = some r) (ha:∀ f l:Nat,f≤l→l < n→turnP r f l∈L):Bf n L (at' + 1):=by
 refine ⟨B.nd,B.fit,B.plain,B.asc,fun r' hr' q hq=>?_,fun i r' hi hr' f l h1 h2=>?_⟩
 ·have a1:=B.top r hr q hq
  have a2:=asc_at B.asc (Nat.le_succ _) hr hr'
  omega
 ·rcases Nat.lt_or_eq_of_le (Nat.le_of_lt_succ hi) with c | c
  ·exact B.don i r' c hr' f l h1 h2
  ·subst c
   rw [hr] at hr'
   obtain rfl:=Option.some.inj hr'
   exact ha f l h1 h2
theorem Bf.all {n:Nat} {L:List (List Int)} (h4:n≤4) (B:Bf n L L.length):∀ (m:Nat) (q:List Int),tb q = m→Fit q→q.length = n→q∈L
 | 0,q,e,fit,hl=>by
  rcases turn_dn fit (by omega) with ⟨_,h⟩ | ⟨h,_⟩
  ·rw [h,hl];exact B.plain
  ·omega
 | m + 1,q,e,fit,hl=>by
  rcases turn_dn fit (by omega) with ⟨h,_⟩ | ⟨_,f,l,h1,h2,h3⟩
  ·omega
  ·have fq:=turnP_fit fit h1 h2
   have lq:=turnP_len q f l
   have hm:=Bf.all h4 B m (turnP q f l) (by omega) fq (by omega)
   obtain ⟨i,hi⟩:=List.mem_iff_getElem?.mp hm
   have:=B.don i _ (List.getElem?_eq_some_iff.mp hi).1 hi f l h1 (by omega)
   rw [turnP_back h1 h2] at this
   exact this
theorem Bf.len {n:Nat} {L:List (List Int)} {at':Nat} (h4:n≤4) (B:Bf n L at'):L.length≤384:=by
 have h:=Th.sub_len B.nd (m:=rowsC n) fun r hr=>by
  obtain ⟨fr,lr⟩:=B.fit r hr
  have:=rows_all fr.perm
  rw [lr] at this
  exact this
 have:=of_decide_eq_true (List.all_eq_true.mp rows_len n (List.mem_range.mpr (by omega)))
 omega
end Mir


namespace Mir
open PySem L2 NK
theorem mapInj {α β:Type} {f:α→β} (hf:∀ a b,f a = f b→a = b):∀ {xs ys:List α},xs.map f = ys.map f→xs = ys
 | [],[],_=>rfl
 | [],y :: ys,h=>by simp at h
 | x :: xs,[],h=>by simp at h
 | x :: xs,y :: ys,h=>by
  rw [List.map_cons,List.map_cons] at h
  injection h with h1 h2
  rw [hf _ _ h1,mapInj hf h2]
noncomputable def kI (i:Int):Key:=.inl i
section
variable {H H':Hp} {t l a b c:Addr} {xs ys:List (List Int)} {z:Pz}
theorem iV_kI (x:List Int):iV x = (x.map kI).map kV:=by
 unfold iV
 rw [List.map_map]
 rfl
end
end Mir

namespace L2
open PySem PySem.Spec PyProof.Rows
section
variable {X:Cx}
noncomputable def tDisp1 (tk tv:TE):TE:=fun σ H Q=>∀ p,H p = none→tk σ (upd H p (.dT [])) fun x H1=>tv σ H1 fun y H2=>H2 p = some (.dT [])∧∃ (b:Addr) (k:List Key),x = .ref b∧H2 b = some (.tup (k.map kV))∧Q (.ref p) (upd H2 p (.dT [(k,y)]))
theorem pe_disp1 {k v:Expr} {pos:Pos} {tk tv:TE} (hu:X.A.units + 1 < cLine) (hk:PE X k tk) (hv:PE X v tv):PE X (.Dict [some k] [v] pos) (tDisp1 tk tv):=by
 intro pins s σ H Q I q
 have hn:=I.hok.fresh (Nat.le_refl s.heap.objs.size)
 have I1:=I.laid (a:=s.heap.objs.size) (o:=.dT []) (h':=s.heap.push { cls:=.type "dict",data:=.dict #[] }) (t':=s.toks) (fun _ _ q=>Heap.get?_push_of_some _ q) (Nat.le_refl _) (dt_empty s.heap I.big)
 have hp:=(pps_cons (pos:=pos) hk hv pps_nil) pins _ σ _ (fun ps H2=>match ps with | [(x,y)]=>H2 s.heap.objs.size = some (.dT [])∧∃ (b:Addr) (k:List Key),x = .ref b∧H2 b = some (.tup (k.map kV))∧Q (.ref s.heap.objs.size) (upd H2 s.heap.objs.size (.dT [(k,y)])) | _=>False) I1 (q _ hn)
 rw [arm_eval_Dict,zip_pairTrees [some k] [v] X.env pos rfl rfl,dictDisplay_pairs (pairTrees [some k] [v] X.env pos) (List.cons_ne_nil _ _) (by show 1 < 17;decide)]
 refine wpAny_bind (wpAny_standAt (wpAny_bind ?_))
 unfold subDict
 refine wpAny_bind (wpAny_alloc ?_)
 refine wpAny_bind (wpAny_holding ?_)
 rw [if_pos (show (pairTrees [some k] [v] X.env pos).length≤15 by show 1≤15;decide)]
 refine wpAny_bind (thn hp fun ws s2 ⟨ps,H2,I2,rel,q1⟩=>?_)
 obtain ⟨x,y,rfl⟩:∃ x y,ps = [(x,y)]:=by
  match ps,q1 with
  | [(x,y)],_=>exact ⟨x,y,rfl⟩
  | [],z=>exact z.elim
  | _ :: _ :: _,z=>exact z.elim
 obtain ⟨e,b,key,ex,eb,q2⟩:=q1
 cases rel with
 | @cons a c as bs h t =>
  cases t
  subst ex
  obtain ⟨c1,c2⟩:=c
  obtain rfl:c1 = Value.ref b:=h.1
  obtain ⟨z,hd,xs,rel0,dd⟩:=dt_of I2.hok e
  have hz:xs.length≤sizeLine:=by rw [← Paired.length rel0];exact z
  refine wpAny_holding ?_
  rw [List.forIn_cons]
  refine wpAny_bind (wpAny_bind (wpAny_bind (wpAny_dictSet_heap (hsz:=hz) (show X.A.units < cLine by omega) (key_of I2.hok eb) dd fun h' dd' hs=>wpAny_pure ?_)))
  dsimp only
  rw [List.forIn_nil]
  refine wpAny_pure (wpAny_pure (wpAny_pure (wpAny_pure ⟨.ref s.heap.objs.size,_,?_,rfl,q2⟩)))
  have hl:(putK ([]:List (List Key×V)) key y).length≤sizeLine:=by show 1≤sizeLine;decide
  obtain ⟨q',es,ep,hq,h2,h3,h4,_,h5⟩:=dd'
  refine d_write I2 (by rw [e];exact True.intro) hs ⟨q',hq⟩ ⟨hl,hd,_,(rel0.put key eb h.2).keeps fun c ys ec=>?_,q',es,ep,hq,h2,h3,h4,h5⟩
  rw [upd_ne (ne_of ec e (fun z=>nomatch z))]
  exact ec
end
end L2

namespace Mir
open PySem L2 NK
noncomputable def entC (L:List (List Int)):List (List Key×V):=L.map fun r=>(r.map kI,V.int (tb r:Nat))
theorem kI_inj {r q:List Int} (h:r.map kI = q.map kI):r = q:=mapInj (fun a b h=>by injection h) h
theorem ent_some {r:List Int}:∀ {L:List (List Int)},r∈L→valV (entC L) (r.map kI) = some (.int (tb r:Nat))
 | q :: L,h=>by
  by_cases c:q = r
  ·subst c
   exact valV_pos rfl
  ·refine (valV_neg (fun z=>c (kI_inj z))).trans (ent_some ?_)
   exact (List.mem_cons.mp h).resolve_left fun z=>c z.symm
theorem ent_none {r:List Int}:∀ {L:List (List Int)},r ∉ L→valV (entC L) (r.map kI) = none
 | [],_=>rfl
 | q :: L,h=>(valV_neg (fun z=>h (by rw [kI_inj z];exact List.mem_cons_self))).trans (ent_none fun z=>h (List.mem_cons_of_mem _ z))
theorem ent_put {r:List Int} {L:List (List Int)} (h:r ∉ L):putK (entC L) (r.map kI) (.int (tb r:Nat)) = entC (L ++ [r]):=by
 rw [putK_new _ (ent_none h)]
 unfold entC
 rw [List.map_append]
 rfl
theorem tup_kI {H:Hp} {t:Addr} {r:List Int} (h:H t = some (.tup (iV r))):H t = some (.tup ((r.map kI).map kV)):=by rw [h,iV_kI]
noncomputable def turnsP (rs:List Int) (cs:List (Int×Int)):List Int:=cs.foldl (fun r p=>turnP r p.1.toNat p.2.toNat) rs
theorem turnsP_snoc (rs:List Int) (cs:List (Int×Int)) (p:Int×Int):turnsP rs (cs ++ [p]) = turnP (turnsP rs cs) p.1.toNat p.2.toNat:=by
 unfold turnsP
 rw [List.foldl_append]
 rfl
noncomputable def InTurn (n:Nat) (p:Int×Int):Prop:=∃ f l:Nat,p = ((f:Int),(l:Int))∧f≤l∧l < n
noncomputable def spFewC:Sp:=fun vs H Q _=>∃ n:Nat,vs = [.int n]∧n≤4∧∀ (d:Addr) (L:List (List Int)) (H':Hp),H d = none→Same H H'→H' d = some (.dT (entC L))→Bf n L L.length→Q (.ref d) H'
noncomputable def spFewT:Sp:=fun vs H Q _=>∃ (t:Addr) (rs:List Int),vs = [.ref t]∧H t = some (.tup (iV rs))∧Fit rs∧rs.length≤4∧∀ (l:Addr) (cs:List (Int×Int)) (H':Hp),H l = none→Same H H'→TsT pr H' l cs→cs.length = tb rs→(∀ p∈cs,InTurn rs.length p)→turnsP rs cs = from1 rs.length→Q (.ref l) H'
end Mir

set_option maxHeartbeats 2000000
namespace Law
open PySem L2
noncomputable def top (i:Nat):Stmt:=PySem.Challenge.pw_claspwork_k50_whole_small_rows_by_trying.main.body.getD i (.Pass ⟨0,0,0,0⟩)
noncomputable abbrev s_framed:Stmt:=top 1
noncomputable abbrev s_open_gaps:Stmt:=top 2
noncomputable abbrev s_tie_gaps:Stmt:=top 3
noncomputable abbrev s_tie_rings:Stmt:=top 4
noncomputable abbrev s_hung_together:Stmt:=top 5
noncomputable abbrev s_kin_spans:Stmt:=top 6
noncomputable abbrev s_kin_end:Stmt:=top 7
noncomputable abbrev s_gap_kins:Stmt:=top 8
noncomputable abbrev s_knots_in:Stmt:=top 10
noncomputable abbrev s_web_of:Stmt:=top 11
noncomputable abbrev s_shortest_around:Stmt:=top 12
noncomputable abbrev s_thinned_web:Stmt:=top 13
noncomputable abbrev s_spare_things:Stmt:=top 14
noncomputable abbrev s_ends_of:Stmt:=top 15
noncomputable abbrev s_leg_from:Stmt:=top 16
noncomputable abbrev s_knot_legs:Stmt:=top 17
noncomputable abbrev s_knot_cost:Stmt:=top 18
noncomputable abbrev s_legs_cost:Stmt:=top 19
noncomputable abbrev s_turn_score:Stmt:=top 20
noncomputable abbrev s_turn_about:Stmt:=top 25
noncomputable abbrev s_turns_all:Stmt:=top 26
noncomputable abbrev s_fewest_turns:Stmt:=top 28
noncomputable abbrev s_law_cell_at:Stmt:=top 30
noncomputable abbrev s_law_row_by:Stmt:=top 31
noncomputable abbrev s_law_turn:Stmt:=top 32
noncomputable abbrev s_law_fewest:Stmt:=top 33
noncomputable abbrev s_law:Stmt:=top 34
theorem sc_framed:FnScope ["row"] ["row"] (defScope s_framed):=⟨rfl,rfl,rfl,by decide +kernel,rfl,by decide +kernel,by decide +kernel⟩
theorem sc_open_gaps:FnScope ["row","numbers"] ["row"] (defScope s_open_gaps):=⟨rfl,rfl,rfl,by decide +kernel,rfl,by decide +kernel,by decide +kernel⟩
theorem sc_tie_gaps:FnScope ["row","leaving","coming","place","number"] ["row"] (defScope s_tie_gaps):=⟨rfl,rfl,rfl,by decide +kernel,rfl,by decide +kernel,by decide +kernel⟩
theorem sc_tie_rings:FnScope ["row"] ["row"] (defScope s_tie_rings):=⟨rfl,rfl,rfl,by decide +kernel,rfl,by decide +kernel,by decide +kernel⟩
theorem sc_hung_together:FnScope ["pairs","groups","first","second","kept","lost","number","found","place","pair"] ["pairs"] (defScope s_hung_together):=⟨rfl,rfl,rfl,by decide +kernel,rfl,by decide +kernel,by decide +kernel⟩
theorem sc_kin_spans:FnScope ["row","numbers","spans"] ["row"] (defScope s_kin_spans):=⟨rfl,rfl,rfl,by decide +kernel,rfl,by decide +kernel,by decide +kernel⟩
theorem sc_kin_end:FnScope ["numbers","first","begin","sign","highest","last","amount"] ["numbers","first"] (defScope s_kin_end):=⟨rfl,rfl,rfl,by decide +kernel,rfl,by decide +kernel,by decide +kernel⟩
theorem sc_gap_kins:FnScope ["row","told","first","last","gap"] ["row"] (defScope s_gap_kins):=⟨rfl,rfl,rfl,by decide +kernel,rfl,by decide +kernel,by decide +kernel⟩
theorem sc_knots_in:FnScope ["row","numbers","belongs","minuses","gap","beside"] ["row"] (defScope s_knots_in):=⟨rfl,rfl,rfl,by decide +kernel,rfl,by decide +kernel,by decide +kernel⟩
theorem sc_web_of:FnScope ["kins","web","kin","group","chain","linked"] ["kins"] (defScope s_web_of):=⟨rfl,rfl,rfl,by decide +kernel,rfl,by decide +kernel,by decide +kernel⟩
theorem sc_shortest_around:FnScope ["chain","kins","around"] ["chain","kins"] (defScope s_shortest_around):=⟨rfl,rfl,rfl,by decide +kernel,rfl,by decide +kernel,by decide +kernel⟩
theorem sc_thinned_web:FnScope ["row","knots","web","spare","thing","linked"] ["row"] (defScope s_thinned_web):=⟨rfl,rfl,rfl,by decide +kernel,rfl,by decide +kernel,by decide +kernel⟩
theorem sc_spare_things:FnScope ["web","knots"] ["web","knots"] (defScope s_spare_things):=⟨rfl,rfl,rfl,by decide +kernel,rfl,by decide +kernel,by decide +kernel⟩
theorem sc_ends_of:FnScope ["web"] ["web"] (defScope s_ends_of):=⟨rfl,rfl,rfl,by decide +kernel,rfl,by decide +kernel,by decide +kernel⟩
theorem sc_leg_from:FnScope ["end","web","leg","onward","thing"] ["end","web"] (defScope s_leg_from):=⟨rfl,rfl,rfl,by decide +kernel,rfl,by decide +kernel,by decide +kernel⟩
theorem sc_knot_legs:FnScope ["row","knots","web","legs"] ["row"] (defScope s_knot_legs):=⟨rfl,rfl,rfl,by decide +kernel,rfl,by decide +kernel,by decide +kernel⟩
theorem sc_knot_cost:FnScope ["row"] ["row"] (defScope s_knot_cost):=⟨rfl,rfl,rfl,by decide +kernel,rfl,by decide +kernel,by decide +kernel⟩
theorem sc_legs_cost:FnScope ["legs","many"] ["legs"] (defScope s_legs_cost):=⟨rfl,rfl,rfl,by decide +kernel,rfl,by decide +kernel,by decide +kernel⟩
theorem sc_turn_score:FnScope ["row"] ["row"] (defScope s_turn_score):=⟨rfl,rfl,rfl,by decide +kernel,rfl,by decide +kernel,by decide +kernel⟩
theorem sc_turn_about:FnScope ["row","first","last","turned"] ["row","first","last"] (defScope s_turn_about):=⟨rfl,rfl,rfl,by decide +kernel,rfl,by decide +kernel,by decide +kernel⟩
theorem sc_turns_all:FnScope ["many","turns","first"] ["many"] (defScope s_turns_all):=⟨rfl,rfl,rfl,by decide +kernel,rfl,by decide +kernel,by decide +kernel⟩
theorem sc_fewest_turns:FnScope ["row","turns","now","left","first","last","behind"] ["row"] (defScope s_fewest_turns):=⟨rfl,rfl,rfl,by decide +kernel,rfl,by decide +kernel,by decide +kernel⟩
theorem sc_law_cell_at:FnScope ["script","k"] ["script","k"] (defScope s_law_cell_at):=⟨rfl,rfl,rfl,by decide +kernel,rfl,by decide +kernel,by decide +kernel⟩
theorem sc_law_row_by:FnScope ["script","at","many","row","k","cell","spot","number"] ["script","at","many"] (defScope s_law_row_by):=⟨rfl,rfl,rfl,by decide +kernel,rfl,by decide +kernel,by decide +kernel⟩
theorem sc_law_turn:FnScope ["row","first","last","behind","k"] ["row","first","last"] (defScope s_law_turn):=⟨rfl,rfl,rfl,by decide +kernel,rfl,by decide +kernel,by decide +kernel⟩
theorem sc_law_fewest:FnScope ["many","plain","counts","line","at","row","first","last","behind"] ["many"] (defScope s_law_fewest):=⟨rfl,rfl,rfl,by decide +kernel,rfl,by decide +kernel,by decide +kernel⟩
theorem sc_law:FnScope ["script","head","many","counts","row","rows","every","cell","one","turns","first","last"] ["script"] (defScope s_law):=⟨rfl,rfl,rfl,by decide +kernel,rfl,by decide +kernel,by decide +kernel⟩
structure Bl (mg:Str→Option Value):Prop where
 «abs»:mg "abs" = none
 «all»:mg "all" = none
 «any»:mg "any" = none
 «enumerate»:mg "enumerate" = none
 «isinstance»:mg "isinstance" = none
 «len»:mg "len" = none
 «list»:mg "list" = none
 «max»:mg "max" = none
 «range»:mg "range" = none
 «reversed»:mg "reversed" = none
 «sorted»:mg "sorted" = none
 «tuple»:mg "tuple" = none
section
variable {P:Program} {w:World} {K:PySem.W.Frag} {mg:Str→Option Value} {base:Heap}
theorem ok_framed {f:Addr} {fd:FuncData} (B:Bl mg) (F:Fn K mg "framed" s_framed ["row"] f fd):FnOk P w K mg base CX0 1 f fd ["row"] Mir.spFramed:=by
 refine F.fn.ok sc_framed (fun vs H Q E h=>?_) (fun cdv A outer s H vs Q E hr h=>?_)
 ·obtain ⟨t,rs,rfl,_⟩:=h
  rfl
 ·obtain ⟨t,rs,rfl,ht,hn,k⟩:=h
  refine ⟨_,(pss_one (ps_ret (pe_op op_catA (pe_op op_catA (pe_tup (pa_cons pe_int pa_nil)) (pv 0)) (pe_tup (pa_cons (pe_op op_add (pe_callB call_len_seq rfl B.len bb_len (pa_cons (pv 0) pa_nil)) pe_int) pa_nil))))),?_⟩
  have ivl:(Mir.iV rs).length = rs.length:=Mir.iV_len rs
  refine ⟨by show 1≤sizeLine;decide,fun p hp=>?_⟩
  have s1:Same H (upd H p (.tup [.int 0])):=same_upd hp
  refine ⟨_,rfl,p,t,_,_,rfl,rfl,upd_same,s1 _ _ ht,Nat.le_of_lt (small1000 (by show 1 + _≤1000;omega)),fun q H1 s2 hq=>?_⟩
  have s12:=s1.trans s2
  refine ⟨_,rfl,t,_,rfl,.inr (SqT.of (s12 _ _ ht)),_,_,rfl,rfl,by show 1≤sizeLine;decide,fun r hr'=>?_⟩
  have s3:Same H1 (upd H1 r (.tup [.int (((Mir.iV rs).length:Nat) + 1)])):=same_upd hr'
  refine ⟨q,r,_,_,rfl,rfl,s3 _ _ hq,upd_same,Nat.le_of_lt (small1000 (by rw [List.length_append,ivl];show 1 + _ + 1≤1000;omega)),fun t' H2 s4 ht'=>?_⟩
  refine k t' H2 ((s12.trans s3).trans s4) ?_
  rw [ht',ivl]
  unfold Mir.frm Mir.iV
  rw [List.map_cons,List.map_append]
  rfl
end
section
variable {P:Program} {w:World} {K:PySem.W.Frag} {mg:Str→Option Value} {base:Heap}
theorem ok_open_gaps {f f1:Addr} {fd fd1:FuncData} (B:Bl mg) (F:Fn K mg "open_gaps" s_open_gaps ["row"] f fd) (F_framed:Fn K mg "framed" s_framed ["row"] f1 fd1):FnOk P w K mg base CX0 2 f fd ["row"] Mir.spOpenGaps:=by
 have G_framed:FnOk P w K mg base CX0 1 f1 fd1 ["row"] Mir.spFramed:=ok_framed B F_framed
 refine F.fn.ok sc_open_gaps (fun vs H Q E h=>?_) (fun cdv A outer s H vs Q E hr h=>?_)
 ·obtain ⟨t,rs,rfl,_⟩:=h
  rfl
 ·obtain ⟨t,rs,rfl,ht,hn,k⟩:=h
  refine ⟨_,(pss_cons (ps_set (i:=1) sc_open_gaps.nd rfl (Or.inr rfl) (pe_fn G_framed F_framed (hr.mono (by decide)) (pa_cons (pv 0) pa_nil)))
   (pss_one (ps_ret (pe_comp (NC:=["gap","numbers"]) rfl (compOk2 (c:=s.heap.objs.size + 1) (j:=1) rfl (by decide +kernel) (by decide +kernel) rfl rfl rfl rfl rfl) (pi_range1 rfl B.range (pa_cons (pe_op op_add (pe_callB call_len_seq rfl B.len bb_len (pa_cons (pv 0) pa_nil)) pe_int) pa_nil)) (fun _ _ _ _=>(pg_name (i:=0) (show (["gap","numbers"]:List Str).Nodup by decide +kernel) rfl (Or.inl rfl))) (fun _ _ _ _=>(pts_one (pt_cmpR op_ne (pe_ix (ix_tupK (K:=K) rfl) (pv 1) (pe_op op_add (pv 0) pe_int) (fun _ _=>rfl)) (pe_op op_add (pe_ix (ix_tupK (K:=K) rfl) (pv 1) (pv 0) (fun _ _=>rfl)) pe_int) (nomark _)))) (fun _ _ _ _=>(pv 0)))))),?_⟩
  have ivl:(Mir.iV rs).length = rs.length:=Mir.iV_len rs
  refine ⟨_,rfl,t,rs,rfl,ht,hn,fun t1 H1 s1 ht1=>?_⟩
  refine ⟨_,rfl,t,_,rfl,.inr (SqT.of (s1 _ _ ht)),_,_,rfl,rfl,_,rfl,by rw [ivl];omega,by rw [ivl];omega,fun D hD=>?_⟩
  refine comp_range (fun i σ H2=>∃ v:Option V,σ = [v,some (.ref t1)]∧Same H1 H2∧H2 D = some (.lst (Mir.iV (Mir.openL (Mir.frm rs) i)))) ⟨none,rfl,same_upd hD,upd_same⟩ ?_ ?_
  ·rintro i σ H2 hi ⟨v,rfl,s2,h2⟩
   rw [ivl] at hi
   have hi:i < rs.length + 1:=by omega
   rw [Int.zero_add]
   have e1:(i:Int) + 1 = ((i + 1:Nat):Int):=by omega
   have fl:=Mir.frm_len rs
   have hl:(Mir.openL (Mir.frm rs) i).length≤i:=by
    unfold Mir.openL
    rw [List.length_map]
    exact Nat.le_trans (List.length_filter_le _ _) (by rw [List.length_range];exact Nat.le_refl _)
   refine ⟨_,rfl,_,rfl,_,_,rfl,rfl,t1,_,_,_,rfl,rfl,SqT.of (s2 _ _ ht1),(by rw [e1];exact atI_nat (Mir.iV_get0 (by omega))),_,rfl,_,rfl,t1,_,_,_,rfl,rfl,SqT.of (s2 _ _ ht1),atI_nat (Mir.iV_get0 (by omega)),_,_,rfl,rfl,rfl,_,rfl,?_⟩
   have es:Mir.openL (Mir.frm rs) (i + 1) = Mir.openL (Mir.frm rs) i ++ (if Mir.isOpen (Mir.frm rs) i = true then [(i:Int)] else []):=by
    unfold Mir.openL
    rw [List.range_succ,List.filter_append,List.map_append,List.filter_cons,List.filter_nil]
    split <;> rfl
   refine ite2 (fun h1=>?_) (fun h1=>?_)
   ·refine ⟨_,rfl,_,h2,small1000 (by rw [Mir.iV_len];omega),_,rfl,s2.upd hD,?_⟩
    have:Mir.isOpen (Mir.frm rs) i = true:=by unfold Mir.isOpen;simpa using h1
    rw [upd_same,es,if_pos this,Mir.iV_ap]
    rfl
   ·refine ⟨_,rfl,s2,?_⟩
    have:¬ Mir.isOpen (Mir.frm rs) i = true:=fun z=>h1 (by unfold Mir.isOpen at z;simpa using z)
    rw [es,if_neg this,List.append_nil]
    exact h2
  ·rintro σ H2 ⟨v,rfl,s2,h2⟩
   have e:(((Mir.iV rs).length:Nat) + 1:Int).toNat = rs.length + 1:=by rw [ivl];omega
   rw [e] at h2
   exact k D H2 (s1.free hD) (s1.trans s2) h2
end
section
variable {P:Program} {w:World} {K:PySem.W.Frag} {mg:Str→Option Value} {base:Heap}
theorem ok_tie_gaps {f f1:Addr} {fd fd1:FuncData} (B:Bl mg) (F:Fn K mg "tie_gaps" s_tie_gaps ["row"] f fd) (F_framed:Fn K mg "framed" s_framed ["row"] f1 fd1):FnOk P w K mg base CX0 2 f fd ["row"] Mir.spTieGaps:=by
 have G_framed:FnOk P w K mg base CX0 1 f1 fd1 ["row"] Mir.spFramed:=ok_framed B F_framed
 refine F.fn.ok sc_tie_gaps (fun vs H Q E h=>?_) (fun cdv A outer s H vs Q E hr h=>?_)
 ·obtain ⟨t,rs,rfl,_⟩:=h
  rfl
 ·obtain ⟨t,rs,rfl,ht,fit,k⟩:=h
  have hu:=hu_of hr
  have hn:=fit.small
  refine ⟨_,(pss_cons (ps_set (i:=1) sc_tie_gaps.nd rfl (Or.inr rfl) pe_dnewK)
   (pss_cons (ps_set (i:=2) sc_tie_gaps.nd rfl (Or.inr rfl) pe_dnewK)
   (pss_cons (ps_for PassesOwn.never rfl (pi_enumT rfl B.enumerate (pa_cons (pe_fn G_framed F_framed (hr.mono (by decide)) (pa_cons (pv 0) pa_nil)) pa_nil)) (pg_tup rfl (pgs_cons (pg_name (i:=3) sc_tie_gaps.nd rfl (Or.inl rfl)) (pgs_cons (pg_name (i:=4) sc_tie_gaps.nd rfl (Or.inl rfl)) pgs_nil))) (pss_cons (ps_dput hu (pv 1) (pe_callB call_abs rfl B.abs bb_abs (pa_cons (pv 4) pa_nil)) (pe_ifExp (pt_cmpR op_lt (pv 4) pe_int (nomark _)) (pe_op op_sub (pv 3) pe_int) (pv 3)) rfl)
   (pss_one (ps_dput hu (pv 2) (pe_callB call_abs rfl B.abs bb_abs (pa_cons (pv 4) pa_nil)) (pe_ifExp (pt_cmpR op_lt (pv 4) pe_int (nomark _)) (pv 3) (pe_op op_sub (pv 3) pe_int)) rfl))))
   (pss_one (ps_ret (pe_comp (NC:=["tie","leaving","coming"]) rfl (compOkN (pre:=["tie"]) [("leaving",s.heap.objs.size + 1,1),("coming",s.heap.objs.size + 2,2)] ["leaving","coming"] rfl rfl (by decide +kernel) (by decide +kernel) rfl (caps_cons ⟨rfl,rfl,rfl,rfl⟩ (caps_cons ⟨rfl,rfl,rfl,rfl⟩ caps_nil))) (pi_range1 rfl B.range (pa_cons (pe_op op_add (pe_callB call_len_seq rfl B.len bb_len (pa_cons (pv 0) pa_nil)) pe_int) pa_nil)) (fun _ _ _ _=>(pg_name (i:=0) (show (["tie","leaving","coming"]:List Str).Nodup by decide +kernel) rfl (Or.inl rfl))) (fun _ _ _ _=>pts_nil) (fun _ _ _ _=>(pe_tup (pa_cons (pe_dget hu (pv 1) (pv 0) (fun _ _=>rfl)) (pa_cons (pe_dget hu (pv 2) (pe_op op_add (pv 0) pe_int) (fun _ _=>rfl)) pa_nil)))))))))),?_⟩
  have ivl:(Mir.iV rs).length = rs.length:=Mir.iV_len rs
  have nd:=Mir.frm_nodup fit
  have fl:=Mir.frm_len rs
  have ivf:(Mir.iV (Mir.frm rs)).length = rs.length + 2:=by rw [Mir.iV_len,fl]
  intro dL hdL
  have s0:Same H (upd H dL (.dK [])):=same_upd hdL
  intro dC hdC
  have ne:dL≠dC:=fun e=>by rw [e,upd_same] at hdC;cases hdC
  have s1:Same H (upd (upd H dL (.dK [])) dC (.dK [])):=s0.trans (same_upd hdC)
  have hdC0:H dC = none:=s0.free hdC
  have hL1:upd (upd H dL (.dK [])) dC (.dK []) dL = some (.dK []):=by rw [upd_ne ne,upd_same]
  have hC1:upd (upd H dL (.dK [])) dC (.dK []) dC = some (.dK []):=upd_same
  generalize upd (upd H dL (.dK [])) dC (.dK []) = H1 at s1 hL1 hC1 ⊢
  refine ⟨_,rfl,t,rs,rfl,s1 _ _ ht,by omega,fun t1 H2 s2 ht1=>?_⟩
  have s12:=s1.trans s2
  refine ⟨t1,rfl,⟨_,SqT.of ht1⟩,for_enum (K:=K) (a:=t1) (xs:=Mir.iV (Mir.frm rs)) (fun i σ H3=>∃ (v3 v4:Option V) (kL kC:List (Key×V)),σ = [some (.ref t),some (.ref dL),some (.ref dC),v3,v4]∧Same H H3∧H3 t1 = some (.tup (Mir.iV (Mir.frm rs)))∧H3 dL = some (.dK kL)∧H3 dC = some (.dK kC)∧kL.length≤i∧kC.length≤i ∧
    (∀ j,j < i→valV kL (Sum.inl (Mir.absI ((Mir.frm rs).getD j 0)):Key) = some (.int (Mir.lvAt (Mir.frm rs) j)))∧∀ j,j < i→valV kC (Sum.inl (Mir.absI ((Mir.frm rs).getD j 0)):Key) = some (.int (Mir.cmAt (Mir.frm rs) j)))
   ⟨none,none,[],[],rfl,s12,ht1,s2 _ _ hL1,s2 _ _ hC1,Nat.le_refl _,Nat.le_refl _,fun j hj=>absurd hj (Nat.not_lt_zero _),fun j hj=>absurd hj (Nat.not_lt_zero _)⟩ (fun i σ H3 _ ⟨_,_,_,_,_,_,h3,_⟩=>SqT.of h3) ?_ ?_⟩
  ·rintro i y tt σ H3 hy ⟨v3,v4,kL,kC,rfl,s3,h1,hL,hC,lL,lC,vL,vC⟩ htt
   obtain ⟨x,hx,rfl⟩:=Mir.iV_get' hy
   have hi:i < (Mir.frm rs).length:=(List.getElem?_eq_some_iff.mp hx).1
   have hxg:(Mir.frm rs).getD i 0 = x:=by rw [Mir.getD_get hi] at hx;exact Option.some.inj hx
   have st:Same H3 (upd H3 tt (.tup [.int i,.int x])):=same_upd htt
   have s4:=s3.trans st
   have h4:=st _ _ h1
   have hL4:=st _ _ hL
   have hC4:=st _ _ hC
   have htt4:upd H3 tt (.tup [.int i,.int x]) tt = some (.tup [.int i,.int x]):=upd_same
   generalize upd H3 tt (.tup [.int i,.int x]) = H4 at s4 h4 hL4 hC4 htt4 ⊢
   have fin:∀ u v:Int,u = Mir.lvAt (Mir.frm rs) i→v = Mir.cmAt (Mir.frm rs) i→∃ H5,DPut H4 dL (kV (Sum.inl (Mir.absI x))) (.int u) H5∧∃ H6,DPut H5 dC (kV (Sum.inl (Mir.absI x))) (.int v) H6 ∧
     ∃ (kL kC:List (Key×V)),Same H H6∧H6 t1 = some (.tup (Mir.iV (Mir.frm rs)))∧H6 dL = some (.dK kL)∧H6 dC = some (.dK kC)∧kL.length≤i + 1∧kC.length≤i + 1 ∧
     (∀ j,j < i + 1→valV kL (Sum.inl (Mir.absI ((Mir.frm rs).getD j 0)):Key) = some (.int (Mir.lvAt (Mir.frm rs) j)))∧∀ j,j < i + 1→valV kC (Sum.inl (Mir.absI ((Mir.frm rs).getD j 0)):Key) = some (.int (Mir.cmAt (Mir.frm rs) j)):=fun u v hu' hv'=>by
    have zL:=length_putK kL (Sum.inl (Mir.absI x):Key) (V.int u)
    have zC:=length_putK kC (Sum.inl (Mir.absI x):Key) (V.int v)
    have n1:t1≠dL:=fun e=>by rw [e,hL4] at h4;cases h4
    have n2:t1≠dC:=fun e=>by rw [e,hC4] at h4;cases h4
    have hC5:upd H4 dL (.dK (putK kL (Sum.inl (Mir.absI x):Key) (V.int u))) dC = some (.dK kC):=by rw [upd_ne (Ne.symm ne)];exact hC4
    refine ⟨_,DPut.k (k:=Sum.inl (Mir.absI x)) hL4 (small1000 (by omega)),_,DPut.k (k:=Sum.inl (Mir.absI x)) hC5 (small1000 (by omega)),putK kL (Sum.inl (Mir.absI x):Key) (V.int u),putK kC (Sum.inl (Mir.absI x):Key) (V.int v),(s4.upd hdL).upd hdC0,?_,?_,upd_same,by omega,by omega,?_,?_⟩
    ·rw [upd_ne n2,upd_ne n1];exact h4
    ·rw [upd_ne ne,upd_same]
    ·have z:=Mir.put_amt nd (g:=fun j=>V.int (Mir.lvAt (Mir.frm rs) j)) hi vL
     rw [hxg,← hu'] at z
     exact z
    ·have z:=Mir.put_amt nd (g:=fun j=>V.int (Mir.cmAt (Mir.frm rs) j)) hi vC
     rw [hxg,← hv'] at z
     exact z
   refine ⟨tt,_,rfl,SqT.of htt4,rfl,_,_,rfl,_,_,rfl,rfl,?_⟩
   refine ⟨_,rfl,_,_,rfl,rfl,_,rfl,?_⟩
   refine ite2 (fun h2=>?_) (fun h2=>?_)
   ·have h2:x < 0:=of_decide_eq_true h2
    obtain ⟨H5,p5,H6,p6,r⟩:=fin ((i:Int) - 1) i (by unfold Mir.lvAt;rw [hxg,if_pos h2]) (by unfold Mir.cmAt;rw [hxg,if_pos h2])
    refine ⟨_,rfl,_,_,rfl,rfl,_,rfl,_,rfl,_,rfl,dL,H5,rfl,p5,?_⟩
    refine ⟨_,rfl,_,_,rfl,rfl,_,rfl,iteYes (decide_eq_true h2) ?_⟩
    ·obtain ⟨kL,kC,r⟩:=r
     exact ⟨_,rfl,_,rfl,_,rfl,_,rfl,dC,H6,rfl,p6,_,_,kL,kC,rfl,r⟩
   ·have h2:¬ x < 0:=fun z=>h2 (decide_eq_true z)
    obtain ⟨H5,p5,H6,p6,r⟩:=fin i ((i:Int) - 1) (by unfold Mir.lvAt;rw [hxg,if_neg h2]) (by unfold Mir.cmAt;rw [hxg,if_neg h2])
    refine ⟨_,rfl,_,rfl,_,rfl,_,rfl,dL,H5,rfl,p5,?_⟩
    refine ⟨_,rfl,_,_,rfl,rfl,_,rfl,iteNo (decide_eq_false h2) ?_⟩
    obtain ⟨kL,kC,r⟩:=r
    exact ⟨_,rfl,_,_,rfl,rfl,_,rfl,_,rfl,_,rfl,dC,H6,rfl,p6,_,_,kL,kC,rfl,r⟩
  ·rintro σ H3 ⟨v3,v4,kL,kC,rfl,s3,h1,hL,hC,lL,lC,vL,vC⟩
   rw [ivf] at vL vC
   refine ⟨_,rfl,t,_,rfl,.inr (SqT.of (s3 _ _ ht)),_,_,rfl,rfl,_,rfl,by rw [ivl];omega,by rw [ivl];omega,fun D hD=>?_⟩
   refine comp_range (fun i σ H4=>∃ v:Option V,σ = [v,some (.ref dL),some (.ref dC)]∧Same H3 H4∧Mir.TsT Mir.pr H4 D ((List.range i).map (Mir.tieI rs))) ⟨none,rfl,same_upd hD,Mir.TsT.nil upd_same⟩ ?_ ?_
   ·rintro i σ H4 hi ⟨v,rfl,s4,hT⟩
    rw [ivl] at hi
    have hi:i < rs.length + 1:=by omega
    rw [Int.zero_add]
    obtain ⟨p1,p2⟩:=Mir.plF_lt fit (show i < rs.length + 2 by omega)
    obtain ⟨q1,q2⟩:=Mir.plF_lt fit (show i + 1 < rs.length + 2 by omega)
    have eL:=vL _ p1
    have eC:=vC _ q1
    rw [p2] at eL
    rw [q2] at eC
    have e1:(i:Int) + 1 = ((i + 1:Nat):Int):=by omega
    have gL:=DGet.k (k:=Sum.inl (i:Int)) (s4 _ _ hL)
    have gC:=DGet.k (k:=Sum.inl ((i + 1:Nat):Int)) (s4 _ _ hC)
    rw [eL] at gL
    rw [eC] at gC
    refine gYes ?_
    refine ⟨_,rfl,_,rfl,dL,_,rfl,gL,_,rfl,_,rfl,_,_,rfl,rfl,dC,_,rfl,(by show DGet H4 dC (V.int ((i:Int) + 1)) _;rw [e1];exact gC),by show 2≤sizeLine;decide,fun tp htp=>?_⟩
    have s5:Same H4 (upd H4 tp (.tup [.int (Mir.lvOf rs i),.int (Mir.cmOf rs (i + 1))])):=same_upd htp
    obtain ⟨ys,y1,y2,y3⟩:=(hT.same s5).snoc (t:=tp) (x:=Mir.tieI rs i) upd_same
    refine ⟨_,y1,small1000 (by rw [y2,List.length_map,List.length_range];omega),_,rfl,(s4.trans s5).upd hD,?_⟩
    rw [List.range_succ,List.map_append]
    exact y3
   ·rintro σ H4 ⟨v,rfl,s4,hT⟩
    have e:(((Mir.iV rs).length:Nat) + 1:Int).toNat = rs.length + 1:=by rw [ivl];omega
    first | rw [e] at hT | skip
    exact k D H4 (s3.free hD) (s3.trans s4) hT
end
section
variable {P:Program} {w:World} {K:PySem.W.Frag} {mg:Str→Option Value} {base:Heap}
theorem ok_hung_together {f:Addr} {fd:FuncData} (B:Bl mg) (F:Fn K mg "hung_together" s_hung_together ["pairs"] f fd):FnOk P w K mg base CX0 1 f fd ["pairs"] Mir.spHung:=by
 refine F.fn.ok sc_hung_together (fun vs H Q E h=>?_) (fun cdv A outer s H vs Q E hr h=>?_)
 ·obtain ⟨l,ps,rfl,_⟩:=h
  rfl
 ·obtain ⟨l,ps,rfl,hT,hn,k⟩:=h
  have hu:=hu_of hr
  refine ⟨_,(pss_cons (ps_set (i:=1) sc_hung_together.nd rfl (Or.inl rfl) pe_dnewK)
   (pss_cons (ps_for PassesOwn.never rfl (pi_list (pv 0)) (pg_tup rfl (pgs_cons (pg_name (i:=2) sc_hung_together.nd rfl (Or.inl rfl)) (pgs_cons (pg_name (i:=3) sc_hung_together.nd rfl (Or.inl rfl)) pgs_nil))) (pss_cons (ps_set (i:=4) sc_hung_together.nd rfl (Or.inl rfl) (pe_dset (pv 1) (pv 2) (pv 2) ⟨rfl,rfl,rfl,rfl⟩))
   (pss_cons (ps_set (i:=5) sc_hung_together.nd rfl (Or.inl rfl) (pe_dset (pv 1) (pv 3) (pv 3) ⟨rfl,rfl,rfl,rfl⟩))
   (pss_one (ps_for PassesOwn.never rfl (pi_list (pe_callTy (call_list_dk rfl) rfl B.list bb_list (pa_cons (pv 1) pa_nil))) (pg_name (i:=6) sc_hung_together.nd rfl (Or.inl rfl)) (pss_one (ps_if (pt_cmpR op_eq (pe_dget hu (pv 1) (pv 6) (fun _ _=>rfl)) (pv 5) (nomark _)) (pss_one (ps_dput hu (pv 1) (pv 6) (pv 4) rfl)) pss_nil)))))))
   (pss_cons (ps_set (i:=7) sc_hung_together.nd rfl (Or.inl rfl) pe_dnewK)
   (pss_cons (ps_for PassesOwn.never rfl (pi_enumL rfl B.enumerate (pa_cons (pv 0) pa_nil)) (pg_tup rfl (pgs_cons (pg_name (i:=8) sc_hung_together.nd rfl (Or.inl rfl)) (pgs_cons (pg_name (i:=9) sc_hung_together.nd rfl (Or.inl rfl)) pgs_nil))) (pss_one (ps_expr (pe_bm PySem.F.plainAttrs_list PySem.F.slot_list_append PySem.F.type_list_append mt_append (pe_dset (pv 7) (pe_dget hu (pv 1) (pe_ix ix_tup (pv 9) pe_int (fun _ _=>rfl)) (fun _ _=>rfl)) (pe_lst pa_nil) ⟨rfl,rfl,rfl,rfl⟩) (pa_cons (pv 8) pa_nil)))))
   (pss_one (ps_ret (pe_comp (NC:=["places"]) rfl (compOk0 rfl (by decide +kernel) (by decide +kernel)) (pi_vals (pv 7)) (fun _ _ _ _=>(pg_name (i:=0) (show (["places"]:List Str).Nodup by decide +kernel) rfl (Or.inl rfl))) (fun _ _ _ _=>pts_nil) (fun _ _ _ _=>(pe_callTy call_tuple_any rfl B.tuple bb_tuple (pa_cons (pv 0) pa_nil)))))))))),?_⟩
  obtain ⟨ts,hts,hlen,htp⟩:=id hT
  have ltl:(ts.map V.ref).length = ps.length:=by rw [List.length_map,hlen]
  intro dG hdG
  have ht1:upd H dG (.dK []) l = some (.lst (ts.map V.ref)):=(same_upd hdG) _ _ hts
  refine ⟨_,rfl,l,rfl,⟨_,SqL.of ht1⟩,for_list (K:=K) (a:=l) (xs:=ts.map V.ref) (fun i σ H1=>∃ (v2 v3 v4 v5 v6:Option V) (kv:List (Key×V)),σ = [some (.ref l),some (.ref dG),v2,v3,v4,v5,v6,none,none,none]∧Same H H1∧H1 dG = some (.dK kv)∧kv.length≤2 * i∧Mir.GD kv (Mir.mk (ps.take i)) (Mir.Sn (ps.take i)))
   ⟨none,none,none,none,none,[],rfl,same_upd hdG,upd_same,Nat.le_refl _,Mir.GD.nil _ fun x ⟨p,hp,_⟩=>absurd hp List.not_mem_nil⟩ (fun i σ H1 _ ⟨_,_,_,_,_,_,_,s1,_⟩=>SqL.of (s1 _ _ hts)) ?_ ?_⟩
  ·rintro i y σ H1 hy ⟨v2,v3,v4,v5,v6,kv,rfl,s1,hG,lG,gd⟩
   have hi:i < ps.length:=by rw [← ltl];exact (List.getElem?_eq_some_iff.mp hy).1
   have hpi:ps[i]? = some ps[i]:=List.getElem?_eq_getElem hi
   obtain ⟨t,ht,rfl⟩:∃ t,ts[i]? = some t∧y = .ref t:=by
    rw [List.getElem?_map] at hy
    obtain ⟨t,e1,e2⟩:=Option.map_eq_some_iff.mp hy
    exact ⟨t,e1,e2.symm⟩
   have htt:=htp i t _ ht hpi
   have etk:ps.take (i + 1) = ps.take i ++ [ps[i]]:=Mir.take_snoc hpi
   generalize ps[i] = p at htt etk hpi
   have mf:=Mir.mk_fact (ps.take i)
   refine ⟨t,_,rfl,SqT.of (s1 _ _ htt),rfl,_,_,rfl,_,_,rfl,rfl,?_⟩
   refine ⟨_,rfl,dG,rfl,.inl ⟨_,.inl hG⟩,_,rfl,_,rfl,kv,Sum.inl p.1,hG,rfl,small1000 (by omega),Mir.dset_one hG gd (mf.1 _) fun kv2 H2 l2 hG2 o2 gd2=>?_⟩
   have s2:=Mir.Same.but s1 hdG o2
   refine ⟨_,rfl,dG,rfl,.inl ⟨_,.inl hG2⟩,_,rfl,_,rfl,kv2,Sum.inl p.2,hG2,rfl,small1000 (by omega),Mir.dset_one hG2 gd2 (fun z=>mf.1 _ fun z2=>z (.inl z2)) fun kv3 H3 l3 hG3 o3 gd3=>?_⟩
   have s3:=Mir.Same.but s2 hdG o3
   have gd3:Mir.GD kv3 (Mir.mk (ps.take i)) (Mir.Sn (ps.take (i + 1))):=gd3.imp fun x=>by
    rw [etk,Mir.sn_snoc,or_assoc]
   refine ⟨_,rfl,dG,kv3,rfl,hG3,fun lk hlk=>?_⟩
   have s4:Same H3 (upd H3 lk (.lst (kv3.map fun kv=>kV kv.1))):=same_upd hlk
   have hk4:upd H3 lk (.lst (kv3.map fun kv=>kV kv.1)) lk = some (.lst (kv3.map fun kv=>kV kv.1)):=upd_same
   have hlk0:H lk = none:=s3.free hlk
   have hG4:=s4 _ _ hG3
   have s34:=s3.trans s4
   have nk:lk≠dG:=fun z=>by rw [z,hG3] at hlk;cases hlk
   generalize upd H3 lk (.lst (kv3.map fun kv=>kV kv.1)) = H4 at s4 hk4 hG4 s34 ⊢
   let m:=Mir.mk (ps.take i)
   refine ⟨lk,rfl,⟨_,SqL.of hk4⟩,for_list (K:=K) (a:=lk) (xs:=kv3.map fun kv=>kV kv.1) (fun j σ H5=>∃ (v6:Option V) (kv5:List (Key×V)),σ = [some (.ref l),some (.ref dG),some (.int p.1),some (.int p.2),some (.int (m p.1)),some (.int (m p.2)),v6,none,none,none]∧Same H H5∧H5 lk = some (.lst (kv3.map fun kv=>kV kv.1))∧H5 dG = some (.dK kv5)∧kv5.length = kv3.length ∧
     Mir.GD kv5 (Mir.chg ((kv3.map Prod.fst).take j) m (m p.1) (m p.2)) (Mir.Sn (ps.take (i + 1))))
    ⟨v6,kv3,rfl,s34,hk4,hG4,rfl,gd3.congr fun x _=>by rw [List.take_zero,Mir.chg_nil]⟩ (fun j σ H5 _ ⟨_,_,_,_,h,_⟩=>SqL.of h) ?_ ?_⟩
   ·rintro j y σ H5 hy ⟨v6,kv5,rfl,s5,hk5,hG5,l5,gd5⟩
    rw [List.getElem?_map] at hy
    obtain ⟨kvj,ej,rfl⟩:=Option.map_eq_some_iff.mp hy
    have ekj:(kv3.map Prod.fst)[j]? = some kvj.1:=by rw [List.getElem?_map,ej];rfl
    obtain ⟨x,ex,hS⟩:=gd3.keys kvj.1 (List.mem_of_getElem? ekj)
    have etj:(kv3.map Prod.fst).take (j + 1) = (kv3.map Prod.fst).take j ++ [(Sum.inl x:Key)]:=by rw [← ex];exact Mir.take_snoc ekj
    rw [ex]
    have gy:=gd5.yes x hS
    have g5:=DGet.k (k:=Sum.inl x) hG5
    rw [gy] at g5
    refine ⟨_,rfl,_,rfl,dG,_,rfl,g5,_,rfl,rfl,_,rfl,?_⟩
    refine ite2 (fun h2=>?_) (fun h2=>?_)
    ·have h2:Mir.chg ((kv3.map Prod.fst).take j) m (m p.1) (m p.2) x = m p.2:=by have z:=of_decide_eq_true h2;injection z
     have zl:(putK kv5 (Sum.inl x:Key) (.int (m p.1))).length = kv5.length:=Mir.len_put (by rw [gy];rfl)
     refine ⟨_,rfl,_,rfl,_,rfl,dG,_,rfl,DPut.k (k:=Sum.inl x) hG5 (small1000 (by omega)),_,_,rfl,s5.upd hdG,by rw [upd_ne nk];exact hk5,upd_same,zl.trans l5,(gd5.put hS _).congr fun y _=>?_⟩
     rw [etj]
     exact Mir.chg_yes h2
    ·have h2:¬ Mir.chg ((kv3.map Prod.fst).take j) m (m p.1) (m p.2) x = m p.2:=fun z=>h2 (decide_eq_true (by rw [z]))
     refine ⟨_,_,rfl,s5,hk5,hG5,l5,gd5.congr fun y _=>?_⟩
     rw [etj]
     exact Mir.chg_no h2
   ·rintro σ H5 ⟨v6,kv5,rfl,s5,hk5,hG5,l5,gd5⟩
    refine ⟨_,_,_,_,_,kv5,rfl,s5,hG5,by omega,gd5.congr fun y hy=>?_⟩
    have hin:(Sum.inl y:Key)∈(kv3.map Prod.fst).take (kv3.map fun kv=>kV kv.1).length:=by
     rw [List.length_map,List.take_of_length_le (by rw [List.length_map];exact Nat.le_refl _)]
     exact valV_in (gd3.yes y hy)
    rw [etk,Mir.mk_snoc]
    exact Mir.chg_all hin
  ·rintro σ H1 ⟨v2,v3,v4,v5,v6,kv,rfl,s1,hG,lG,gd⟩
   rw [ltl,List.take_length] at gd
   rw [ltl] at lG
   intro dF hdF
   have s2:Same H1 (upd H1 dF (.dK [])):=same_upd hdF
   have hdF0:H dF = none:=s1.free hdF
   have hF2:upd H1 dF (.dK []) dF = some (.dK []):=upd_same
   have hG2:=s2 _ _ hG
   have nGF:dG≠dF:=fun z=>by rw [← z,hG] at hdF;cases hdF
   have s12:=s1.trans s2
   generalize upd H1 dF (.dK []) = H2 at s2 hF2 hG2 s12 ⊢
   let c:Nat→Int:=fun k=>Mir.mk ps (ps.getD k (0,0)).1
   refine ⟨_,rfl,l,rfl,⟨_,SqL.of (s12 _ _ hts)⟩,for_enumL (K:=K) (a:=l) (xs:=ts.map V.ref) (fun i σ H3=>∃ (v8 v9:Option V) (kf:List (Key×V)) (as:List Addr),σ = [some (.ref l),some (.ref dG),v2,v3,v4,v5,v6,some (.ref dF),v8,v9]∧Same H H3∧H3 dG = some (.dK kv)∧Mir.FG H H3 dF kf (Mir.grp c i) as)
    ⟨none,none,[],[],rfl,s12,hG2,⟨hF2,rfl,rfl,List.nodup_nil,fun j a e h=>by simp at h,fun a ha=>absurd ha List.not_mem_nil⟩⟩ (fun i σ H3 _ ⟨_,_,_,_,_,s3,_⟩=>SqL.of (s3 _ _ hts)) ?_ ?_⟩
   ·rintro i y tt σ H3 hy ⟨v8,v9,kf,as,rfl,s3,hG3,fg⟩ htt
    have hi:i < ps.length:=by rw [← ltl];exact (List.getElem?_eq_some_iff.mp hy).1
    have hpi:ps[i]? = some ps[i]:=List.getElem?_eq_getElem hi
    obtain ⟨t,ht,rfl⟩:∃ t,ts[i]? = some t∧y = .ref t:=by
     rw [List.getElem?_map] at hy
     obtain ⟨t,e1,e2⟩:=Option.map_eq_some_iff.mp hy
     exact ⟨t,e1,e2.symm⟩
    have htt':=htp i t _ ht hpi
    have ec:c i = Mir.mk ps ps[i].1:=by
     show Mir.mk ps (ps.getD i (0,0)).1 = _
     rw [List.getD_eq_getElem?_getD,hpi]
     rfl
    have hS:Mir.Sn ps ps[i].1:=⟨ps[i],List.getElem_mem hi,.inl rfl⟩
    have s4:Same H3 (upd H3 tt (.tup [.int i,.ref t])):=same_upd htt
    have ht4:upd H3 tt (.tup [.int i,.ref t]) tt = some (.tup [.int i,.ref t]):=upd_same
    have hG4:=s4 _ _ hG3
    have fg4:=fg.same s4
    have s34:=s3.trans s4
    generalize upd H3 tt (.tup [.int i,.ref t]) = H4 at s4 ht4 hG4 fg4 s34 ⊢
    have gy:=gd.yes _ hS
    rw [← ec] at gy
    have g4:=DGet.k (k:=Sum.inl ps[i].1) hG4
    rw [gy] at g4
    have hl4:=fg4.len
    have gl:=Mir.grp_len c i
    refine ⟨tt,_,rfl,SqT.of ht4,rfl,_,_,rfl,_,_,rfl,rfl,?_⟩
    refine ⟨_,rfl,dF,rfl,.inl ⟨_,.inl fg4.at'⟩,_,rfl,_,rfl,t,_,_,_,rfl,rfl,SqT.of (s34 _ _ htt'),rfl,dG,_,rfl,g4,by show 0≤sizeLine;decide,fun n hn4=>?_⟩
    have s5:Same H4 (upd H4 n (.lst [])):=same_upd hn4
    have hn5:upd H4 n (.lst []) n = some (.lst []):=upd_same
    have hG5:=s5 _ _ hG4
    have fg5:=fg4.same s5
    have s35:=s34.trans s5
    have nas:n ∉ as:=fun hm=>by
     obtain ⟨j,hj⟩:=List.getElem?_of_mem hm
     have hjl:j < (Mir.grp c i).length:=by rw [← hl4.2];exact (List.getElem?_eq_some_iff.mp hj).1
     have:=fg4.lst j n _ hj (List.getElem?_eq_getElem hjl)
     rw [hn4] at this
     cases this
    have nF:dF≠n:=fun z=>by rw [← z,fg4.at'] at hn4;cases hn4
    have nG:dG≠n:=fun z=>by rw [← z,hG4] at hn4;cases hn4
    have hn0:H n = none:=s34.free hn4
    generalize upd H4 n (.lst []) = H5 at s5 hn5 hG5 fg5 s35 ⊢
    refine ⟨kf,Sum.inl (c i),fg5.at',rfl,small1000 (by omega),fun v hv=>?_,fun hv=>?_⟩
    ·obtain ⟨a,L,rfl,ha,⟨e,he,eL⟩,fg6⟩:=fg5.old (Mir.grp_nodup c i) (x:=(i:Int)) hv
     have hL:L.length≤i:=by rw [← eL];exact (Mir.grp_ok c i).len e he
     have nGa:dG≠a:=fun z=>by rw [← z,hG5] at ha;cases ha
     have ha0:H a = none:=by
      have hmem:V.ref a∈kf.map Prod.snd:=by
       unfold valV at hv
       obtain ⟨q,q1,q2⟩:=Option.map_eq_some_iff.mp hv
       exact List.mem_map.mpr ⟨q,List.mem_of_find?_eq_some q1,q2⟩
      rw [fg5.vs] at hmem
      obtain ⟨a',ha',ea⟩:=List.mem_map.mp hmem
      injection ea with ea
      rw [← ea]
      exact fg5.new a' ha'
     refine ⟨.inl ⟨rfl,_,SqL.of ha⟩,_,rfl,a,_,_,rfl,rfl,ha,small1000 (by rw [Mir.iV_len];omega),?_⟩
     exact ⟨_,_,kf,as,rfl,s35.upd ha0,by rw [upd_ne nGa];exact hG5,fg6⟩
    ·have fg6:=fg5.fresh (x:=(i:Int)) hv hn5 hn0 nas
     have hn6:upd H5 dF (.dK (putK kf (Sum.inl (c i):Key) (.ref n))) n = some (.lst []):=by rw [upd_ne (Ne.symm nF)];exact hn5
     refine ⟨.inl ⟨rfl,_,SqL.of hn6⟩,_,rfl,n,_,_,rfl,rfl,hn6,by show 0 < sizeLine;decide,?_⟩
     exact ⟨_,_,_,_,rfl,(s35.upd hdF0).upd hn0,by rw [upd_ne nG,upd_ne nGF];exact hG5,fg6⟩
   ·rintro σ H3 ⟨v8,v9,kf,as,rfl,s3,hG3,fg⟩
    rw [ltl] at fg
    have hl:=fg.len
    have gl:=Mir.grp_len c ps.length
    have gok:=Mir.grp_ok c ps.length
    refine ⟨_,rfl,dF,kf,rfl,fg.at',fun ob D hD=>?_⟩
    have hD3:H3 D = none:=by
     by_cases e:D = dF
     ·rw [e,upd_same] at hD;cases hD
     ·rwa [upd_ne e] at hD
    have hF4:upd H3 dF (.frz ob (.dK kf)) dF = some (.frz ob (.dK kf)):=upd_same
    have ls4:∀ (j:Nat) (a:Addr) (e:Int×List Int),as[j]? = some a→(Mir.grp c ps.length)[j]? = some e→upd H3 dF (.frz ob (.dK kf)) a = some (.lst (Mir.iV e.2)):=fun j a e h1 h2=>by
     have z:=fg.lst j a e h1 h2
     rw [upd_ne fun q=>by have:=fg.at';rw [← q,z] at this;cases this]
     exact z
    have s4:Same H (upd H3 dF (.frz ob (.dK kf))):=s3.upd hdF0
    generalize upd H3 dF (.frz ob (.dK kf)) = H4 at hD hF4 ls4 s4 ⊢
    refine comp_vals (fun i σ H5=>∃ v:Option V,σ = [v]∧Same H4 H5∧Mir.TsT Mir.iV H5 D (((Mir.grp c ps.length).take i).map Prod.snd)) ⟨none,rfl,same_upd hD,Mir.TsT.nil upd_same⟩ (fun i σ H5 _ ⟨_,_,s5,_⟩=>s5 _ _ hF4) ?_ ?_
    ·rintro i y σ H5 hy ⟨v,rfl,s5,hT5⟩
     have hy:(kf.map Prod.snd)[i]? = some y:=hy
     rw [fg.vs,List.getElem?_map] at hy
     obtain ⟨a,ha,rfl⟩:=Option.map_eq_some_iff.mp hy
     have hi:i < (Mir.grp c ps.length).length:=by rw [← hl.2];exact (List.getElem?_eq_some_iff.mp ha).1
     have he:=List.getElem?_eq_getElem hi
     have la:=s5 _ _ (ls4 i a _ ha he)
     refine gYes ?_
     refine ⟨_,rfl,a,_,rfl,.inl la,fun tp H6 s6 htp=>?_⟩
     obtain ⟨ys,y1,y2,y3⟩:=(hT5.same s6).snoc (t:=tp) (x:=(Mir.grp c ps.length)[i].2) htp
     refine ⟨_,y1,small1000 (by rw [y2,List.length_map,List.length_take];omega),_,rfl,(s5.trans s6).upd hD,?_⟩
     rw [Mir.take_snoc he,List.map_append]
     exact y3
    ·rintro σ H5 ⟨v,rfl,s5,hT5⟩
     rw [List.take_of_length_le (by omega)] at hT5
     exact k D H5 (s3.free hD3) (s4.trans s5) hT5
end
section
variable {P:Program} {w:World} {K:PySem.W.Frag} {mg:Str→Option Value} {base:Heap}
theorem ok_tie_rings {f f1 f2 f3:Addr} {fd fd1 fd2 fd3:FuncData} (B:Bl mg) (F:Fn K mg "tie_rings" s_tie_rings ["row"] f fd) (F_framed:Fn K mg "framed" s_framed ["row"] f1 fd1) (F_tie_gaps:Fn K mg "tie_gaps" s_tie_gaps ["row"] f2 fd2) (F_hung_together:Fn K mg "hung_together" s_hung_together ["pairs"] f3 fd3):FnOk P w K mg base CX0 3 f fd ["row"] Mir.spTieRings:=by
 have G_tie_gaps:FnOk P w K mg base CX0 2 f2 fd2 ["row"] Mir.spTieGaps:=ok_tie_gaps B F_tie_gaps F_framed
 have G_hung_together:FnOk P w K mg base CX0 1 f3 fd3 ["pairs"] Mir.spHung:=ok_hung_together B F_hung_together
 refine F.fn.ok sc_tie_rings (fun vs H Q E h=>?_) (fun cdv A outer s H vs Q E hr h=>?_)
 ·obtain ⟨t,rs,rfl,_⟩:=h
  rfl
 ·obtain ⟨t,rs,rfl,ht,fit,k⟩:=h
  have hn:=fit.small
  refine ⟨_,(pss_one (ps_ret (pe_fn G_hung_together F_hung_together (hr.mono (by decide)) (pa_cons (pe_fn G_tie_gaps F_tie_gaps (hr.mono (by decide)) (pa_cons (pv 0) pa_nil)) pa_nil)))),?_⟩
  refine ⟨_,rfl,t,rs,rfl,ht,fit,fun l H1 hl s1 hT=>?_⟩
  refine ⟨l,_,rfl,hT,by rw [Mir.tieL_len];omega,fun r H2 hr2 s2 hT2=>?_⟩
  rw [← Mir.rings_hung] at hT2
  exact k r H2 (s1.free hr2) (s1.trans s2) hT2
end
section
variable {P:Program} {w:World} {K:PySem.W.Frag} {mg:Str→Option Value} {base:Heap}
theorem ok_kin_end {f:Addr} {fd:FuncData} (B:Bl mg) (F:Fn K mg "kin_end" s_kin_end ["numbers","first"] f fd):FnOk P w K mg base CX0 1 f fd ["numbers","first"] Mir.spKinEnd:=by
 refine F.fn.ok sc_kin_end (fun vs H Q E h=>?_) (fun cdv A outer s H vs Q E hr h=>?_)
 ·obtain ⟨t,fs,a,rfl,_⟩:=h
  rfl
 ·obtain ⟨t,fs,a,rfl,ht,nd,ha,hn,kS,kN⟩:=h
  refine ⟨_,(pss_cons (ps_set (i:=2) sc_kin_end.nd rfl (Or.inl rfl) (pe_ix ix_tup (pv 0) (pv 1) (fun _ _=>rfl)))
   (pss_cons (ps_set (i:=3) sc_kin_end.nd rfl (Or.inl rfl) (pe_ifExp (pt_cmpR op_lt (pv 2) pe_int (nomark _)) (pe_un un_neg pe_int) pe_int))
   (ps_sem (R:=fun D σ H2=>H2 = H∧σ = [some (.ref t),some (.int a),some (.int (fs.getD a 0)),some (.int (if fs.getD a 0 < 0 then -1 else 1)),none,none,none]∧D.rt = Q) fun D σ H2 hR=>?rest))),?_⟩
  case rest =>
   obtain ⟨rfl,rfl,hD⟩:=hR
   refine ⟨_,(pss_cons (ps_set (i:=4) sc_kin_end.nd rfl (Or.inl rfl) (pv 2))
   (pss_cons (ps_for PassesOwn.never rfl (pi_range2 rfl B.range (pa_cons (pe_op op_add (pv 1) pe_int) (pa_cons (pe_callB call_len_seq rfl B.len bb_len (pa_cons (pv 0) pa_nil)) pa_nil))) (pg_name (i:=5) sc_kin_end.nd rfl (Or.inl rfl)) (pss_cons (ps_set (i:=6) sc_kin_end.nd rfl (Or.inl rfl) (pe_op op_mul (pv 3) (pe_callB call_abs rfl B.abs bb_abs (pa_cons (pe_ix ix_tup (pv 0) (pv 5) (fun _ _=>rfl)) pa_nil))))
   (pss_cons (ps_if (pt_cmpR op_lt (pv 6) (pv 2) (nomark _)) (pss_one (ps_ret pe_non)) pss_nil)
   (pss_cons (ps_set (i:=4) sc_kin_end.nd rfl (Or.inl rfl) (pe_callB (call_max2 rfl) rfl B.max bb_max (pa_cons (pv 4) (pa_cons (pv 6) pa_nil))))
   (pss_one (ps_if (pt_chain op_eq op_eq (pe_ix ix_tup (pv 0) (pv 5) (fun _ _=>rfl)) (pv 4) (pe_op op_sub (pe_op op_add (pv 2) (pv 5)) (pv 1))) (pss_one (ps_ret (pv 5))) pss_nil))))))
   (pss_one (ps_ret pe_non)))),?_⟩
   have ivl:(Mir.iV fs).length = fs.length:=Mir.iV_len fs
   have sgA:∀ x,(if fs.getD a 0 < 0 then -1 else 1) * Mir.absI (fs.getD x 0) = Mir.amA fs a x:=fun x=>by unfold Mir.amA;split <;> omega
   have sgC:∀ j,CMul (if fs.getD a 0 < 0 then (-1:Int) else 1) j:=fun j=>.inl (by split <;> exact ⟨by decide,by decide⟩)
   generalize (if fs.getD a 0 < 0 then (-1:Int) else 1) = sg at sgA sgC ⊢
   refine ⟨_,rfl,_,rfl,_,_,rfl,rfl,_,rfl,t,_,rfl,.inr (SqT.of ht),_,_,rfl,⟨by omega,by omega,by rw [ivl];omega,by rw [ivl];omega⟩,
    for_range (lo:=(a:Int) + 1) (n:=(((Mir.iV fs).length:Nat) - ((a:Int) + 1):Int).toNat) (fun i σ H3=>∃ (hi:Int) (v5 v6:Option V),σ = [some (.ref t),some (.int a),some (.int (fs.getD a 0)),some (.int sg),some (.int hi),v5,v6]∧H3 = H2∧Mir.Seek fs a (a + 1 + i) hi∧∀ c,c < a + 1 + i→¬ Mir.Wh fs a c)
     ⟨_,none,none,rfl,rfl,Mir.Seek.first fs a,fun c hc W=>by have:=W.lt;omega⟩ ?_ ?_⟩
   ·rintro i σ H3 hi ⟨hi',v5,v6,rfl,rfl,S,no⟩
    rw [ivl] at hi
    have hc:a + 1 + i < fs.length:=by omega
    have ec:(a:Int) + 1 + (i:Int) = ((a + 1 + i:Nat):Int):=by omega
    rw [ec]
    refine ⟨_,rfl,_,rfl,_,rfl,t,_,_,_,rfl,rfl,SqT.of ht,atI_nat (Mir.iV_get0 hc),_,rfl,_,_,rfl,rfl,sgC _,?_⟩
    dsimp only
    rw [Mir.absI_eq,sgA]
    refine ⟨_,rfl,_,rfl,_,_,rfl,rfl,_,rfl,?_⟩
    refine ite2 (fun h1=>?_) (fun h1=>?_)
    ·have h1:=of_decide_eq_true h1
     show D.rt V.non _
     rw [hD]
     refine kN fun b W=>?_
     by_cases hb:b < a + 1 + i
     ·exact no b hb W
     ·exact Mir.Wh.stop (by omega) h1 (by omega) W
    have h1:fs.getD a 0≤Mir.amA fs a (a + 1 + i):=by
     have:¬ Mir.amA fs a (a + 1 + i) < fs.getD a 0:=fun z=>h1 (decide_eq_true z)
     omega
    have S2:=S.next (by omega) h1
    refine ⟨_,rfl,_,rfl,_,_,rfl,?_⟩
    dsimp only
    generalize (if Mir.amA fs a (a + 1 + i) > hi' then Mir.amA fs a (a + 1 + i) else hi') = hi2 at S2 ⊢
    have iff:=S2.wh nd (by omega) hc
    have e2:((a + 1 + i:Nat):Int) = (a:Int) + 1 + i:=by omega
    have stop:∀ W:Mir.Wh fs a (a + 1 + i),Mir.Kn fs a (a + 1 + i):=fun W=>⟨W,fun c hc=>no c hc⟩
    have go:¬ Mir.Wh fs a (a + 1 + i)→∀ c,c < a + 1 + (i + 1)→¬ Mir.Wh fs a c:=fun nw c hc=>by
     by_cases e:c = a + 1 + i
     ·rw [e];exact nw
     ·exact no c (by omega)
    refine ⟨_,rfl,_,rfl,t,_,_,_,rfl,rfl,SqT.of ht,atI_nat (Mir.iV_get0 hc),_,rfl,rfl,_,rfl,?_⟩
    refine ite2 (fun h2=>?_) (fun h2=>?_)
    ·have h2:fs.getD (a + 1 + i) 0 = hi2:=by injection of_decide_eq_true h2
     refine ⟨_,rfl,_,rfl,_,_,rfl,rfl,_,rfl,_,_,rfl,rfl,rfl,_,rfl,?_⟩
     refine ite2 (fun h3=>?_) (fun h3=>?_)
     ·have h3:hi2 = fs.getD a 0 + ((a + 1 + i:Nat):Int) - (a:Int):=by injection of_decide_eq_true h3
      refine ⟨_,rfl,?_⟩
      show D.rt _ _
      rw [hD]
      exact kS _ (stop (iff.mp ⟨h2,h3⟩))
     ·have h3:¬ hi2 = fs.getD a 0 + ((a + 1 + i:Nat):Int) - (a:Int):=fun z=>h3 (decide_eq_true (congrArg V.int z))
      exact ⟨_,_,_,rfl,rfl,S2,go fun W=>h3 (iff.mpr W).2⟩
    ·have h2:¬ fs.getD (a + 1 + i) 0 = hi2:=fun z=>h2 (decide_eq_true (congrArg V.int z))
     exact ⟨_,rfl,iteF ⟨_,_,_,rfl,rfl,S2,go fun W=>h2 (iff.mpr W).1⟩⟩
   ·rintro σ H3 ⟨hi',v5,v6,rfl,rfl,S,no⟩
    rw [ivl] at no
    show D.rt V.non _
    rw [hD]
    refine kN fun b W=>?_
    have:=W.lb
    exact no b (by omega) W
  refine ⟨_,rfl,_,rfl,t,_,_,_,rfl,rfl,SqT.of ht,atI_nat (Mir.iV_get0 ha),?_⟩
  refine ⟨_,rfl,_,_,rfl,rfl,_,rfl,?_⟩
  refine ite2 (fun h1=>?_) (fun h1=>?_)
  ·have h1:=of_decide_eq_true h1
   exact ⟨_,rfl,rfl,by rw [if_pos h1];rfl,rfl⟩
  ·have h1:¬ fs.getD a 0 < 0:=fun z=>h1 (decide_eq_true z)
   exact ⟨rfl,by rw [if_neg h1];rfl,rfl⟩
end
section
variable {P:Program} {w:World} {K:PySem.W.Frag} {mg:Str→Option Value} {base:Heap}
theorem ok_kin_spans {f f1 f2:Addr} {fd fd1 fd2:FuncData} (B:Bl mg) (F:Fn K mg "kin_spans" s_kin_spans ["row"] f fd) (F_framed:Fn K mg "framed" s_framed ["row"] f1 fd1) (F_kin_end:Fn K mg "kin_end" s_kin_end ["numbers","first"] f2 fd2):FnOk P w K mg base CX0 2 f fd ["row"] Mir.spKinSpans:=by
 have G_framed:FnOk P w K mg base CX0 1 f1 fd1 ["row"] Mir.spFramed:=ok_framed B F_framed
 have G_kin_end:FnOk P w K mg base CX0 1 f2 fd2 ["numbers","first"] Mir.spKinEnd:=ok_kin_end B F_kin_end
 refine F.fn.ok sc_kin_spans (fun vs H Q E h=>?_) (fun cdv A outer s H vs Q E hr h=>?_)
 ·obtain ⟨t,rs,rfl,_⟩:=h
  rfl
 ·obtain ⟨t,rs,rfl,ht,fit,k⟩:=h
  have hn:=fit.small
  refine ⟨_,(pss_cons (ps_set (i:=1) sc_kin_spans.nd rfl (Or.inr rfl) (pe_fn G_framed F_framed (hr.mono (by decide)) (pa_cons (pv 0) pa_nil)))
   (pss_cons (ps_comp (ix:=2) (NC:=["first","numbers"]) sc_kin_spans.nd rfl (Or.inl rfl) rfl (compOk2 (c:=s.heap.objs.size + 1) (j:=1) rfl (by decide +kernel) (by decide +kernel) rfl rfl rfl rfl rfl) (pi_range1 rfl B.range (pa_cons (pe_callB call_len_seq rfl B.len bb_len (pa_cons (pv 1) pa_nil)) pa_nil)) (fun _ _ _ _=>(pg_name (i:=0) (show (["first","numbers"]:List Str).Nodup by decide +kernel) rfl (Or.inl rfl))) (fun _ _ _ _=>pts_nil) (fun _ _ _ _=>(pe_tup (pa_cons (pv 0) (pa_cons (pe_fn G_kin_end F_kin_end (hr.mono (by decide)) (pa_cons (pv 1) (pa_cons (pv 0) pa_nil))) pa_nil)))))
   (pss_one (ps_ret (pe_comp (NC:=["span"]) rfl (compOk0 rfl (by decide +kernel) (by decide +kernel)) (pi_list (pv 2)) (fun _ _ _ _=>(pg_name (i:=0) (show (["span"]:List Str).Nodup by decide +kernel) rfl (Or.inl rfl))) (fun _ _ _ _=>(pts_one (pt_cmpR op_notN (pe_ix (ix_tupK (K:=K) rfl) (pv 0) pe_int (fun _ _=>rfl)) pe_non (nomark _)))) (fun _ _ _ _=>(pv 0))))))),?_⟩
  have nd:=Mir.frm_nodup fit
  have fl:=Mir.frm_len rs
  refine ⟨_,rfl,t,rs,rfl,ht,by omega,fun t1 H1 s1 ht1=>?_⟩
  generalize Mir.frm rs = fs at nd fl ht1 k
  have ivl:(Mir.iV fs).length = fs.length:=Mir.iV_len fs
  let ok:Nat→V→Prop:=fun a v=>(∃ b:Nat,Mir.Kn fs a b∧v = .int b)∨((∀ b,¬ Mir.Wh fs a b)∧v = .non)
  refine ⟨_,rfl,t1,_,rfl,.inr (SqT.of ht1),_,rfl,by rw [ivl];omega,by rw [ivl];omega,fun D hD=>?_⟩
  refine comp_range (fun i σ H2=>∃ (v:Option V) (es:List V),σ = [v,some (.ref t1)]∧Same H1 H2∧es.length = i∧(∀ a e,es[a]? = some e→ok a e)∧∃ ts:List Addr,H2 D = some (.lst (ts.map V.ref))∧ts.length = i∧∀ a t' e,ts[a]? = some t'→es[a]? = some e→H2 t' = some (.tup [.int (a:Nat),e]))
   ⟨none,[],rfl,same_upd hD,rfl,fun a e h=>(nomatch h),[],upd_same,rfl,fun a t' e h=>(nomatch h)⟩ ?_ ?_
  ·rintro i σ H2 hi ⟨v,es,rfl,s2,hel,hes,ts,hts,htl,hall⟩
   rw [ivl] at hi
   have hi:i < fs.length:=by omega
   rw [Int.zero_add]
   refine gYes ?_
   have fin:∀ e:V,ok i e→2≤sizeLine∧∀ tp,H2 tp = none→∃ ys,upd H2 tp (.tup [.int (i:Nat),e]) D = some (.lst ys)∧ys.length < sizeLine∧∃ (v:Option V) (es:List V),([some (.int (i:Nat)),some (.ref t1)]:St) = [v,some (.ref t1)]∧Same H1 (upd (upd H2 tp (.tup [.int (i:Nat),e])) D (.lst (ys ++ [.ref tp])))∧es.length = i + 1∧(∀ a e,es[a]? = some e→ok a e)∧∃ ts:List Addr,upd (upd H2 tp (.tup [.int (i:Nat),e])) D (.lst (ys ++ [.ref tp])) D = some (.lst (ts.map V.ref))∧ts.length = i + 1∧∀ a t' e',ts[a]? = some t'→es[a]? = some e'→upd (upd H2 tp (.tup [.int (i:Nat),e])) D (.lst (ys ++ [.ref tp])) t' = some (.tup [.int (a:Nat),e']):=fun e he=>by
    refine ⟨by decide,fun tp htp=>?_⟩
    have ne:D≠tp:=fun z=>by rw [← z,hts] at htp;cases htp
    have sp:Same H2 (upd H2 tp (.tup [.int (i:Nat),e])):=same_upd htp
    refine ⟨_,sp _ _ hts,small1000 (by rw [List.length_map];omega),_,es ++ [e],rfl,(s2.trans sp).upd hD,by rw [List.length_append,hel];rfl,fun a x hx=>?_,ts ++ [tp],by rw [upd_same,List.map_append];rfl,by rw [List.length_append,htl];rfl,fun a t' x h1 h2=>?_⟩
    ·by_cases c:a < es.length
     ·rw [List.getElem?_append_left c] at hx
      exact hes a x hx
     ·rw [List.getElem?_append_right (by omega)] at hx
      have ea:a = i:=by have:=(List.getElem?_eq_some_iff.mp hx).1;simp at this;omega
      rw [ea,hel,Nat.sub_self] at hx
      rw [ea,← Option.some.inj hx]
      exact he
    ·by_cases c:a < i
     ·rw [List.getElem?_append_left (by omega)] at h1 h2
      have q:=hall a t' x h1 h2
      have n1:t'≠D:=fun z=>by rw [z,hts] at q;cases q
      rw [upd_ne n1]
      exact sp _ _ q
     ·have ea:a = i:=by have:=(List.getElem?_eq_some_iff.mp h1).1;simp at this;omega
      rw [List.getElem?_append_right (by omega),ea,htl,Nat.sub_self] at h1
      rw [List.getElem?_append_right (by omega),ea,hel,Nat.sub_self] at h2
      rw [← Option.some.inj h1,← Option.some.inj h2,upd_ne (Ne.symm ne),upd_same,ea]
   refine ⟨_,rfl,_,rfl,_,rfl,t1,fs,i,rfl,s2 _ _ ht1,nd,hi,by omega,fun b hb=>?_,fun hb=>?_⟩
   ·exact fin _ (.inl ⟨b,hb,rfl⟩)
   ·exact fin _ (.inr ⟨hb,rfl⟩)
  ·rintro σ H2 ⟨v,es,rfl,s2,hel,hes,ts,hts,htl,hall⟩
   rw [ivl] at hel htl
   have hel:es.length = fs.length:=by omega
   have htl:ts.length = fs.length:=by omega
   refine ⟨_,rfl,D,rfl,⟨_,SqL.of hts⟩,fun D2 hD2=>comp_list (K:=K) (a:=D) (xs:=ts.map V.ref) (fun i σ H3=>∃ v:Option V,σ = [v]∧Same H2 H3∧Mir.TsT Mir.pr H3 D2 ((Mir.whL fs i).filter (Mir.isKn fs))) ⟨none,rfl,same_upd hD2,Mir.TsT.nil upd_same⟩ (fun i σ H3 _ ⟨_,_,s3,_⟩=>SqL.of (s3 _ _ hts)) ?_ ?_⟩
   ·rintro i y σ H3 hy ⟨v,rfl,s3,hT⟩
    have hi:i < fs.length:=by have:=(List.getElem?_eq_some_iff.mp hy).1;rw [List.length_map] at this;omega
    rw [List.getElem?_map,List.getElem?_eq_getElem (by omega)] at hy
    obtain rfl:=Option.some.inj hy
    have et:ts[i]? = some ts[i]:=List.getElem?_eq_getElem (by omega)
    have ee:es[i]? = some es[i]:=List.getElem?_eq_getElem (by omega)
    have q:=s3 _ _ (hall i _ _ et ee)
    have hok:=hes i _ ee
    generalize ts[i] = t' at q
    generalize es[i] = e at q hok
    have ll:((Mir.whL fs i).filter (Mir.isKn fs)).length≤fs.length:=by
     have:=Mir.kinL_pre fs i
     omega
    refine ⟨_,rfl,t',_,_,_,rfl,rfl,SqT.of q,(show atI [V.int (i:Nat),e] 1 = some e from rfl),rfl,_,rfl,?_⟩
    rcases hok with ⟨b,hb,rfl⟩ | ⟨hb,rfl⟩
    ·rcases Mir.knRow (fs:=fs) (a:=i) with ⟨hno,_⟩ | ⟨b',hb',er⟩
     ·exact absurd hb.1 (hno b)
     have eb:=Mir.kn_uniq hb' hb
     subst eb
     refine iteYes (show (!decide (V.int (b':Nat) = V.non)) = true by rw [decide_eq_false (fun z=>by cases z)];rfl) ?_
     obtain ⟨ys,y1,y2,y3⟩:=hT.snoc (t:=t') (x:=((i:Int),(b':Int))) q
     refine ⟨_,rfl,_,y1,small1000 (by rw [y2];omega),_,rfl,s3.upd hD2,?_⟩
     rw [Mir.whL_succ,List.filter_append,er]
     exact y3
    ·refine iteNo (by decide) ?_
     refine ⟨_,rfl,s3,?_⟩
     rcases Mir.knRow (fs:=fs) (a:=i) with ⟨_,er⟩ | ⟨b',hb',_⟩
     ·rw [Mir.whL_succ,List.filter_append,er,List.append_nil]
      exact hT
     ·exact absurd hb'.1 (hb b')
   ·rintro σ H3 ⟨v,rfl,s3,hT⟩
    rw [List.length_map,htl] at hT
    exact k D2 H3 ((s1.trans s2).free hD2) ((s1.trans s2).trans s3) hT
end
section
variable {P:Program} {w:World} {K:PySem.W.Frag} {mg:Str→Option Value} {base:Heap}
theorem ok_gap_kins {f f1 f2 f3:Addr} {fd fd1 fd2 fd3:FuncData} (B:Bl mg) (F:Fn K mg "gap_kins" s_gap_kins ["row"] f fd) (F_framed:Fn K mg "framed" s_framed ["row"] f1 fd1) (F_kin_end:Fn K mg "kin_end" s_kin_end ["numbers","first"] f2 fd2) (F_kin_spans:Fn K mg "kin_spans" s_kin_spans ["row"] f3 fd3):FnOk P w K mg base CX0 3 f fd ["row"] Mir.spGapKins:=by
 have G_kin_spans:FnOk P w K mg base CX0 2 f3 fd3 ["row"] Mir.spKinSpans:=ok_kin_spans B F_kin_spans F_framed F_kin_end
 refine F.fn.ok sc_gap_kins (fun vs H Q E h=>?_) (fun cdv A outer s H vs Q E hr h=>?_)
 ·obtain ⟨t,rs,rfl,_⟩:=h
  rfl
 ·obtain ⟨t,rs,rfl,ht,fit,k⟩:=h
  have hu:=hu_of hr
  have hn:=fit.small
  refine ⟨_,(pss_cons (ps_set (i:=1) sc_gap_kins.nd rfl (Or.inr rfl) pe_dnewK)
   (pss_cons (ps_for PassesOwn.never rfl (pi_list (pe_fn G_kin_spans F_kin_spans (hr.mono (by decide)) (pa_cons (pv 0) pa_nil))) (pg_tup rfl (pgs_cons (pg_name (i:=2) sc_gap_kins.nd rfl (Or.inl rfl)) (pgs_cons (pg_name (i:=3) sc_gap_kins.nd rfl (Or.inl rfl)) pgs_nil))) (pss_one (ps_for PassesOwn.never rfl (pi_range2 rfl B.range (pa_cons (pv 2) (pa_cons (pv 3) pa_nil))) (pg_name (i:=4) sc_gap_kins.nd rfl (Or.inl rfl)) (pss_one (ps_dput hu (pv 1) (pv 4) (pe_tup (pa_cons (pv 2) (pa_cons (pv 3) pa_nil))) rfl)))))
   (pss_one (ps_ret (pe_comp (NC:=["gap","told"]) rfl (compOk2 (c:=s.heap.objs.size + 1) (j:=1) rfl (by decide +kernel) (by decide +kernel) rfl rfl rfl rfl rfl) (pi_range1 rfl B.range (pa_cons (pe_op op_add (pe_callB call_len_seq rfl B.len bb_len (pa_cons (pv 0) pa_nil)) pe_int) pa_nil)) (fun _ _ _ _=>(pg_name (i:=0) (show (["gap","told"]:List Str).Nodup by decide +kernel) rfl (Or.inl rfl))) (fun _ _ _ _=>pts_nil) (fun _ _ _ _=>(pe_dget hu (pv 1) (pv 0) (fun _ _=>rfl)))))))),?_⟩
  have ivl:(Mir.iV rs).length = rs.length:=Mir.iV_len rs
  have lim:∀ x:Nat,x≤5000→x < sizeLine:=fun x hx=>Nat.lt_of_le_of_lt hx (by decide)
  intro dG hdG
  have s1:Same H (upd H dG (.dK [])):=same_upd hdG
  have hG1:upd H dG (.dK []) dG = some (.dK []):=upd_same
  generalize upd H dG (.dK []) = H1 at s1 hG1 ⊢
  refine ⟨_,rfl,t,rs,rfl,s1 _ _ ht,fit,fun l H2 hl s2 hT=>?_⟩
  obtain ⟨ts,hts,hlen,htp⟩:=id hT
  have kl:=Mir.kinL_len (Mir.frm rs)
  rw [Mir.frm_len] at kl
  have asc:=Mir.kinL_asc (Mir.frm rs)
  have knm:∀ p∈Mir.kinL (Mir.frm rs),∃ a b:Nat,p = ((a:Int),(b:Int))∧a < b∧b < rs.length + 2:=fun p hp=>by
   obtain ⟨a,b,kn,rfl⟩:=Mir.kinL_mem.mp hp
   have:=kn.1.lb
   rw [Mir.frm_len] at this
   exact ⟨a,b,rfl,kn.1.lt,this⟩
  have all:=fun (H:Hp) (d:Addr) (kv:List (Key×V)) (h:Mir.GK H d kv (Mir.kinL (Mir.frm rs))) (g:Nat) (hg:g < rs.length + 1)=>Mir.gk_all fit h hg
  have fin:(List.range (rs.length + 1)).map (Mir.ow (Mir.frm rs)) = Mir.gapL rs:=rfl
  generalize Mir.kinL (Mir.frm rs) = ps at hT htp hlen kl asc knm all
  have ltl:(ts.map V.ref).length = ps.length:=by rw [List.length_map,hlen]
  refine ⟨l,rfl,⟨_,SqL.of hts⟩,for_list (K:=K) (a:=l) (xs:=ts.map V.ref) (fun i σ H3=>∃ (v2 v3 v4:Option V) (kv:List (Key×V)),σ = [some (.ref t),some (.ref dG),v2,v3,v4]∧Same H H3∧H3 l = some (.lst (ts.map V.ref))∧(∀ a ys,H2 a = some (.tup ys)→H3 a = some (.tup ys))∧kv.length≤42 * i∧Mir.GK H3 dG kv (ps.take i))
   ⟨none,none,none,[],rfl,s1.trans s2,hts,fun a ys e=>e,Nat.le_refl _,s2 _ _ hG1,fun g q hq=>absurd hq List.not_mem_nil⟩ (fun i σ H3 _ ⟨_,_,_,_,_,_,h,_⟩=>SqL.of h) ?_ ?_⟩
  ·rintro i y σ H3 hy ⟨v2,v3,v4,kv,rfl,s3,hl3,kt3,lk,gk⟩
   have hi:i < ps.length:=by rw [← ltl];exact (List.getElem?_eq_some_iff.mp hy).1
   have hpi:ps[i]? = some ps[i]:=List.getElem?_eq_getElem hi
   obtain ⟨t',ht',rfl⟩:∃ t,ts[i]? = some t∧y = .ref t:=by
    rw [List.getElem?_map] at hy
    obtain ⟨t,e1,e2⟩:=Option.map_eq_some_iff.mp hy
    exact ⟨t,e1,e2.symm⟩
   have htt:=kt3 _ _ (htp i t' _ ht' hpi)
   have etk:ps.take (i + 1) = ps.take i ++ [ps[i]]:=Mir.take_snoc hpi
   have lts:∀ q∈ps.take i,q.1 < ps[i].1:=fun q hq=>by
    obtain ⟨j,hj⟩:=List.getElem?_of_mem hq
    rw [List.getElem?_take] at hj
    split at hj
    ·rename_i h
     have hj2:=List.getElem?_eq_some_iff.mp hj
     have z:=List.pairwise_iff_getElem.mp asc j i hj2.1 hi h
     rw [hj2.2] at z
     exact z
    ·cases hj
   obtain ⟨a,b,ep,hab,hb⟩:=knm _ (List.getElem_mem hi)
   rw [ep] at htt etk lts
   refine ⟨t',_,rfl,SqT.of htt,rfl,_,_,rfl,_,_,rfl,rfl,?_⟩
   refine ⟨_,rfl,_,rfl,_,_,rfl,⟨by omega,by omega,by omega,by omega⟩,for_range (lo:=(a:Int)) (n:=((b:Int) - (a:Int)).toNat) (fun j σ H4=>∃ (v4:Option V) (kv4:List (Key×V)),σ = [some (.ref t),some (.ref dG),some (.int a),some (.int b),v4]∧Same H H4∧H4 l = some (.lst (ts.map V.ref))∧(∀ a ys,H3 a = some (.tup ys)→H4 a = some (.tup ys))∧kv4.length≤42 * i + j∧Mir.GI H4 dG kv kv4 ((a:Int),(b:Int)) j)
    ⟨v4,kv,rfl,s3,hl3,fun a ys e=>e,by omega,gk.at',fun g h1 h2=>by dsimp only at h1 h2;omega,fun g _=>rfl⟩ ?_ ?_⟩
   ·rintro j σ H4 hj ⟨v4,kv4,rfl,s4,hl4,kt4,lk4,gi⟩
    refine ⟨_,rfl,_,rfl,by show 2≤sizeLine;decide,fun tp htp4=>?_⟩
    have s5:Same H4 (upd H4 tp (.tup [.int a,.int b])):=same_upd htp4
    have h5:upd H4 tp (.tup [.int a,.int b]) tp = some (.tup (Mir.pr ((a:Int),(b:Int)))):=upd_same
    have gi5:Mir.GI (upd H4 tp (.tup [.int a,.int b])) dG kv kv4 ((a:Int),(b:Int)) j:=⟨s5 _ _ gi.at',fun g h1 h2=>let ⟨t,e1,e2⟩:=gi.new g h1 h2;⟨t,e1,s5 _ _ e2⟩,gi.old⟩
    have gi6:=gi5.put (by dsimp only;omega) h5
    have zl:=length_putK kv4 (Sum.inl ((a:Int) + (j:Int)):Key) (V.ref tp)
    have hdG4:H dG = none:=hdG
    have nl:l≠dG:=fun z=>by rw [z,gi.at'] at hl4;cases hl4
    refine ⟨_,rfl,_,rfl,dG,_,rfl,DPut.k (k:=Sum.inl ((a:Int) + (j:Int))) gi5.at' (lim _ (by omega)),_,putK kv4 (Sum.inl ((a:Int) + (j:Int)):Key) (V.ref tp),rfl,(s4.trans s5).upd hdG,by rw [upd_ne nl];exact s5 _ _ hl4,fun x ys e=>?_,by omega,gi6⟩
    rw [upd_ne fun z=>by have:=gi.at';rw [← z,kt4 _ _ e] at this;cases this]
    exact s5 _ _ (kt4 _ _ e)
   ·rintro σ H4 ⟨v4,kv4,rfl,s4,hl4,kt4,lk4,gi⟩
    refine ⟨_,_,_,kv4,rfl,s4,hl4,fun x ys e=>kt4 _ _ (kt3 _ _ e),by omega,?_⟩
    rw [etk]
    exact gk.next gi (by dsimp only;omega) lts kt4
  ·rintro σ H3 ⟨v2,v3,v4,kv,rfl,s3,hl3,kt3,lk,gk⟩
   rw [ltl,List.take_length] at gk
   refine ⟨_,rfl,t,_,rfl,.inr (SqT.of (s3 _ _ ht)),_,_,rfl,rfl,_,rfl,by rw [ivl];omega,by rw [ivl];omega,fun D hD=>?_⟩
   refine comp_range (fun i σ H4=>∃ v:Option V,σ = [v,some (.ref dG)]∧Same H3 H4∧Mir.TsT Mir.pr H4 D ((List.range i).map (Mir.ow (Mir.frm rs)))) ⟨none,rfl,same_upd hD,Mir.TsT.nil upd_same⟩ ?_ ?_
   ·rintro i σ H4 hi ⟨v,rfl,s4,hT4⟩
    rw [ivl] at hi
    have hi:i < rs.length + 1:=by omega
    rw [Int.zero_add]
    obtain ⟨tp,e1,e2⟩:=all H3 dG kv gk i hi
    have g4:=DGet.k (k:=Sum.inl (i:Int)) (s4 _ _ gk.at')
    rw [e1] at g4
    refine gYes ?_
    obtain ⟨ys,y1,y2,y3⟩:=hT4.snoc (t:=tp) (x:=Mir.ow (Mir.frm rs) i) (s4 _ _ e2)
    refine ⟨_,rfl,_,rfl,dG,_,rfl,g4,_,y1,small1000 (by rw [y2,List.length_map,List.length_range];omega),_,rfl,s4.upd hD,?_⟩
    rw [List.range_succ,List.map_append]
    exact y3
   ·rintro σ H4 ⟨v,rfl,s4,hT4⟩
    have e:(((Mir.iV rs).length:Nat) + 1:Int).toNat = rs.length + 1:=by rw [ivl];omega
    rw [e,fin] at hT4
    exact k D H4 (s3.free hD) (s3.trans s4) hT4
end
section
variable {P:Program} {w:World} {K:PySem.W.Frag} {mg:Str→Option Value} {base:Heap}
theorem ok_knots_in {f f1 f2 f3 f4 f5:Addr} {fd fd1 fd2 fd3 fd4 fd5:FuncData} (B:Bl mg) (F:Fn K mg "knots_in" s_knots_in ["row"] f fd) (F_framed:Fn K mg "framed" s_framed ["row"] f1 fd1) (F_kin_end:Fn K mg "kin_end" s_kin_end ["numbers","first"] f2 fd2) (F_kin_spans:Fn K mg "kin_spans" s_kin_spans ["row"] f3 fd3) (F_gap_kins:Fn K mg "gap_kins" s_gap_kins ["row"] f4 fd4) (F_open_gaps:Fn K mg "open_gaps" s_open_gaps ["row"] f5 fd5):FnOk P w K mg base CX0 4 f fd ["row"] Mir.spKnots:=by
 have G_framed:FnOk P w K mg base CX0 1 f1 fd1 ["row"] Mir.spFramed:=ok_framed B F_framed
 have G_gap_kins:FnOk P w K mg base CX0 3 f4 fd4 ["row"] Mir.spGapKins:=ok_gap_kins B F_gap_kins F_framed F_kin_end F_kin_spans
 have G_open_gaps:FnOk P w K mg base CX0 2 f5 fd5 ["row"] Mir.spOpenGaps:=ok_open_gaps B F_open_gaps F_framed
 refine F.fn.ok sc_knots_in (fun vs H Q E h=>?_) (fun cdv A outer s H vs Q E hr h=>?_)
 ·obtain ⟨t,rs,rfl,_⟩:=h
  rfl
 ·obtain ⟨t,rs,rfl,ht,fit,k⟩:=h
  have hu:=hu_of hr
  have hn:=fit.small
  refine ⟨_,(pss_cons (ps_set (i:=1) sc_knots_in.nd rfl (Or.inl rfl) (pe_fn G_framed F_framed (hr.mono (by decide)) (pa_cons (pv 0) pa_nil)))
   (pss_cons (ps_set (i:=2) sc_knots_in.nd rfl (Or.inl rfl) (pe_fn G_gap_kins F_gap_kins (hr.mono (by decide)) (pa_cons (pv 0) pa_nil)))
   (pss_cons (ps_set (i:=3) sc_knots_in.nd rfl (Or.inl rfl) pe_dnewT)
   (pss_cons (ps_for PassesOwn.never rfl (pi_list (pe_fn G_open_gaps F_open_gaps (hr.mono (by decide)) (pa_cons (pv 0) pa_nil))) (pg_name (i:=4) sc_knots_in.nd rfl (Or.inl rfl)) (pss_cons (ps_set (i:=5) sc_knots_in.nd rfl (Or.inl rfl) (pe_dsetT hu (pv 3) (pe_ix ix_list (pv 2) (pv 4) (fun _ _=>rfl)) (pe_lst pa_nil) ⟨rfl,rfl,rfl,rfl⟩))
   (pss_one (ps_expr (pe_bm PySem.F.plainAttrs_list PySem.F.slot_list_extend PySem.F.type_list_extend mt_extend (pv 5) (pa_cons (pe_lst (pa_cons (pe_cmpR op_lt (pe_ix ix_tup (pv 1) (pv 4) (fun _ _=>rfl)) pe_int (nomark _)) (pa_cons (pe_cmpR op_lt (pe_ix ix_tup (pv 1) (pe_op op_add (pv 4) pe_int) (fun _ _=>rfl)) pe_int (nomark _)) pa_nil))) pa_nil))))))
   (pss_one (ps_ret (pe_callB (call_sortedP64 false) rfl B.sorted bb_sorted (pa_cons (pe_comp (NC:=["kin","beside"]) rfl (compOk0 rfl (by decide +kernel) (by decide +kernel)) (pi_its (pv 3)) (fun _ _ _ _=>(pg_tupK (K:=K) (n:=2) rfl rfl (pgs_cons (pg_name (i:=0) (show (["kin","beside"]:List Str).Nodup by decide +kernel) rfl (Or.inl rfl)) (pgs_cons (pg_name (i:=1) (show (["kin","beside"]:List Str).Nodup by decide +kernel) rfl (Or.inl rfl)) pgs_nil)))) (fun _ _ _ _=>(pts_one (PW.pt (pw_or (pt_val (pe_callB (call_all_bl rfl) rfl B.all bb_all (pa_cons (pv 1) pa_nil))) (pw_or1 (pt_not (pt_val (pe_callB (call_any_bl rfl) rfl B.any bb_any (pa_cons (pv 1) pa_nil))))))))) (fun _ _ _ _=>(pv 0))) pa_nil)))))))),?_⟩
  have fl:=Mir.frm_len rs
  have lim:∀ x:Nat,x≤5000→x < sizeLine:=fun x hx=>Nat.lt_of_le_of_lt hx (by decide)
  refine ⟨_,rfl,t,rs,rfl,ht,by omega,fun tN H1 s1 hN=>?_⟩
  refine ⟨_,rfl,t,rs,rfl,s1 _ _ ht,fit,fun lB H2 hlB s2 hB=>?_⟩
  intro d hd
  have s3:Same H2 (upd H2 d (.dT [])):=same_upd hd
  refine ⟨_,rfl,t,rs,rfl,s3 _ _ (s2 _ _ (s1 _ _ ht)),by omega,fun lO H4 hlO s4 hO=>?_⟩
  have hd4:H4 d = some (.dT []):=s4 _ _ upd_same
  have s24:Same H2 (Mir.wo H4 d):=Mir.same_wo (s3.trans s4) hd
  have nOd:lO≠d:=fun z=>by rw [z,upd_same] at hlO;cases hlO
  have hO0:Mir.wo H4 d lO = some (.lst (Mir.iV (Mir.openL (Mir.frm rs) (rs.length + 1)))):=by rw [Mir.wo_ne nOd];exact hO
  have sH:Same H (Mir.wo H4 d):=(s1.trans s2).trans s24
  have hN0:=s24 _ _ (s2 _ _ hN)
  have hB0:=hB.same s24
  have hd0:Mir.wo H4 d d = none:=Mir.wo_at
  have s04:Same (Mir.wo H4 d) H4:=Mir.wo_same
  generalize Mir.wo H4 d = H0 at s24 hO0 sH hN0 hB0 hd0 s04
  rw [Mir.openL_opn] at hO0 hO
  have hL:∀ g∈Mir.opn (Mir.frm rs) (rs.length + 1),g < rs.length + 1:=fun g hg=>Mir.opn_mem hg
  have lL:=Mir.opn_len (Mir.frm rs) (rs.length + 1)
  generalize Mir.opn (Mir.frm rs) (rs.length + 1) = L at hO0 hO hL lL k
  have eL:∀ (i:Nat) (g:Nat),L[i]? = some g→(Mir.iV (L.map fun (g:Nat)=>(g:Int)))[i]? = some (.int (g:Int)):=fun i g e=>by
   unfold Mir.iV
   rw [List.getElem?_map,List.getElem?_map,e]
   rfl
  have lenL:(Mir.iV (L.map fun (g:Nat)=>(g:Int))).length = L.length:=by rw [Mir.iV_len,List.length_map]
  refine ⟨lO,rfl,⟨_,SqL.of hO⟩,for_list (K:=K) (a:=lO) (xs:=Mir.iV (L.map fun (g:Nat)=>(g:Int))) (fun i σ H5=>∃ (v4 v5:Option V) (kvs:List (List Key×V)) (ps:List (Int×Int)) (as:List Addr),σ = [some (.ref t),some (.ref tN),some (.ref lB),some (.ref d),v4,v5]∧Same H0 H5∧Mir.KD H0 H5 d kvs ps as (Mir.sgl (Mir.frm rs) (L.take i))∧kvs.length≤i)
   ⟨none,none,[],[],[],rfl,s04,⟨hd4,rfl,rfl,List.nodup_nil,List.nodup_nil,fun j a p e=>(nomatch e),fun a ha=>absurd ha List.not_mem_nil,fun p=>⟨fun z=>absurd z List.not_mem_nil,fun z=>absurd rfl z⟩⟩,Nat.le_refl _⟩ (fun i σ H5 _ ⟨_,_,_,_,_,_,s5,_⟩=>SqL.of (s5 _ _ hO0)) ?_ ?_⟩
  ·rintro i y σ H5 hy ⟨v4,v5,kvs,ps,as,rfl,s5,kd,lk⟩
   have hi:i < L.length:=by have:=(List.getElem?_eq_some_iff.mp hy).1;rw [lenL] at this;exact this
   have ei:L[i]? = some L[i]:=List.getElem?_eq_getElem hi
   rw [eL i _ ei] at hy
   obtain rfl:=Option.some.inj hy
   have hg:=hL _ (List.getElem_mem hi)
   have etk:L.take (i + 1) = L.take i ++ [L[i]]:=Mir.take_snoc ei
   generalize L[i] = g at ei hg etk
   have egl:(Mir.gapL rs)[g]? = some (Mir.ow (Mir.frm rs) g):=by
    unfold Mir.gapL
    rw [List.getElem?_map,List.getElem?_range hg]
    rfl
   obtain ⟨vB,tB,b1,b2,b3⟩:=hB0.get egl
   have fNext:∀ q,q≠Mir.ow (Mir.frm rs) g→Mir.sgl (Mir.frm rs) (L.take (i + 1)) q = Mir.sgl (Mir.frm rs) (L.take i) q:=fun q hq=>by
    rw [etk,Mir.sgl_snoc,if_neg fun z=>hq z.symm]
   have fThis:Mir.sgl (Mir.frm rs) (L.take (i + 1)) (Mir.ow (Mir.frm rs) g) = Mir.sgl (Mir.frm rs) (L.take i) (Mir.ow (Mir.frm rs) g) ++ [decide ((Mir.frm rs).getD g 0 < 0),decide ((Mir.frm rs).getD (g + 1) 0 < 0)]:=by
    rw [etk,Mir.sgl_snoc,if_pos rfl]
   have sl:(Mir.sgl (Mir.frm rs) (L.take i) (Mir.ow (Mir.frm rs) g)).length≤100:=Nat.le_trans (Mir.sgl_len _ _ _) (by rw [List.length_take];omega)
   generalize Mir.sgl (Mir.frm rs) (L.take (i + 1)) = F' at fNext fThis
   generalize Mir.sgl (Mir.frm rs) (L.take i) = F at fNext fThis sl kd
   generalize Mir.ow (Mir.frm rs) g = p at b3 fNext fThis sl
   have e1:(g:Int) + 1 = ((g + 1:Nat):Int):=by omega
   have gN1:=Mir.iV_get0 (rs:=Mir.frm rs) (j:=g) (by omega)
   have gN2:=Mir.iV_get0 (rs:=Mir.frm rs) (j:=g + 1) (by omega)
   refine ⟨_,rfl,d,rfl,.inr ⟨_,.inl kd.at'⟩,_,rfl,_,rfl,lB,_,_,_,rfl,rfl,SqL.of (s5 _ _ b1),atI_nat b2,by show 0≤sizeLine;decide,fun n hnn=>?_⟩
   have s6:Same H5 (upd H5 n (.lst [])):=same_upd hnn
   have kd6:=kd.same s6
   have hn6:upd H5 n (.lst []) n = some (.lst []):=upd_same
   have hn0:H0 n = none:=s5.free hnn
   have nas:n ∉ as:=fun z=>by
    obtain ⟨j,hj⟩:=List.getElem?_of_mem z
    have hl:=kd.len
    have hj2:j < ps.length:=by rw [← hl.2];exact (List.getElem?_eq_some_iff.mp hj).1
    have:=kd.lst j n _ hj (List.getElem?_eq_getElem hj2)
    rw [hnn] at this
    cases this
   have s06:=s5.trans s6
   generalize upd H5 n (.lst []) = H6 at s6 kd6 hn6 s06
   refine ⟨kvs,Mir.kp p,tB,kd6.at',rfl,s06 _ _ b3,lim _ (by omega),fun v hv=>?_,fun hv=>?_⟩
   ·obtain ⟨a,ev,ha,ha0,_⟩:=kd6.old (F':=F') hv fThis fNext
    subst ev
    refine ⟨_,rfl,.inl ⟨rfl,_,SqL.of ha⟩,_,rfl,_,rfl,tN,_,_,_,rfl,rfl,SqT.of (s06 _ _ hN0),atI_nat gN1,_,_,rfl,rfl,_,rfl,_,rfl,_,_,rfl,rfl,tN,_,_,_,rfl,rfl,SqT.of (s06 _ _ hN0),(by rw [e1];exact atI_nat gN2),_,_,rfl,rfl,by show 2≤sizeLine;decide,fun l2 hl2=>?_⟩
    have s7:Same H6 (upd H6 l2 (.lst [.bl (decide ((Mir.frm rs).getD g 0 < 0)),.bl (decide ((Mir.frm rs).getD (g + 1) 0 < 0))])):=same_upd hl2
    have h27:upd H6 l2 (.lst [.bl (decide ((Mir.frm rs).getD g 0 < 0)),.bl (decide ((Mir.frm rs).getD (g + 1) 0 < 0))]) l2 = some (.lst [.bl (decide ((Mir.frm rs).getD g 0 < 0)),.bl (decide ((Mir.frm rs).getD (g + 1) 0 < 0))]):=upd_same
    generalize upd H6 l2 (.lst [.bl (decide ((Mir.frm rs).getD g 0 < 0)),.bl (decide ((Mir.frm rs).getD (g + 1) 0 < 0))]) = H7 at s7 h27
    obtain ⟨a',ev,ha',_,kd8⟩:=(kd6.same s7).old (F':=F') hv fThis fNext
    injection ev with ev
    subst ev
    exact ⟨a,l2,_,_,rfl,rfl,ha',h27,Nat.le_of_lt (lim _ (by rw [List.length_map];show _ + 2≤_;omega)),_,_,kvs,ps,as,rfl,(s06.trans s7).upd ha0,kd8,by omega⟩
   ·have ndn:d≠n:=fun z=>by have:=kd6.at';rw [z,hn6] at this;cases this
    have F0:F p = []:=Classical.byContradiction fun c=>by
     have hp:=(kd6.mem p).mpr c
     obtain ⟨j,hj⟩:=List.getElem?_of_mem hp
     have hl:=kd6.len
     have hj2:j < as.length:=by rw [hl.2];exact (List.getElem?_eq_some_iff.mp hj).1
     have:=Mir.val_at kd6.nk (kd6.key (List.getElem?_eq_getElem hj2) hj)
     rw [hv] at this
     cases this
    have hn7:upd H6 d (.dT (putK kvs (Mir.kp p) (.ref n))) n = some (.lst []):=by rw [upd_ne (Ne.symm ndn)];exact hn6
    have s07:Same H0 (upd H6 d (.dT (putK kvs (Mir.kp p) (.ref n)))):=s06.upd hd0
    refine ⟨_,rfl,.inl ⟨rfl,_,SqL.of hn7⟩,_,rfl,_,rfl,tN,_,_,_,rfl,rfl,SqT.of (s07 _ _ hN0),atI_nat gN1,_,_,rfl,rfl,_,rfl,_,rfl,_,_,rfl,rfl,tN,_,_,_,rfl,rfl,SqT.of (s07 _ _ hN0),(by rw [e1];exact atI_nat gN2),_,_,rfl,rfl,by show 2≤sizeLine;decide,fun l2 hl2=>?_⟩
    have n2d:l2≠d:=fun z=>by rw [z,upd_same] at hl2;cases hl2
    have hl26:H6 l2 = none:=by rw [upd_ne n2d] at hl2;exact hl2
    have n2n:n≠l2:=fun z=>by rw [← z,hn6] at hl26;cases hl26
    have s8:Same H6 (upd H6 l2 (.lst [.bl (decide ((Mir.frm rs).getD g 0 < 0)),.bl (decide ((Mir.frm rs).getD (g + 1) 0 < 0))])):=same_upd hl26
    have kd8:=(kd6.same s8).fresh (F':=F') (xs:=[decide ((Mir.frm rs).getD g 0 < 0),decide ((Mir.frm rs).getD (g + 1) 0 < 0)]) hv (s8 _ _ hn6) hn0 nas F0 (by rw [fThis,F0];rfl) (List.cons_ne_nil _ _) fNext
    rw [Mir.upd_swap n2d] at kd8
    have lk':=length_putK kvs (Mir.kp p) (V.ref n)
    exact ⟨n,l2,_,_,rfl,rfl,by rw [upd_ne n2n];exact hn7,upd_same,by show 2≤sizeLine;decide,_,_,_,_,_,rfl,((s07.upd (s06.free hl26)).upd hn0),kd8,by omega⟩
  ·rintro σ H5 ⟨v4,v5,kvs,ps,as,rfl,s5,kd,lk⟩
   rw [lenL,List.take_length] at kd
   rw [lenL] at lk
   have hl:=kd.len
   refine ⟨_,rfl,d,kvs,rfl,kd.at',fun ob D hD=>?_⟩
   have hD5:H5 D = none:=by
    by_cases e:D = d
    ·rw [e,upd_same] at hD;cases hD
    ·rwa [upd_ne e] at hD
   have hd6:upd H5 d (.frz ob (.dT kvs)) d = some (.frz ob (.dT kvs)):=upd_same
   have s6:Same H0 (upd H5 d (.frz ob (.dT kvs))):=s5.upd hd0
   have ls6:∀ (j:Nat) (a:Addr) (p:Int×Int),as[j]? = some a→ps[j]? = some p→upd H5 d (.frz ob (.dT kvs)) a = some (.lst ((Mir.sgl (Mir.frm rs) L p).map V.bl)):=fun j a p h1 h2=>by
    have z:=kd.lst j a p h1 h2
    rw [upd_ne fun q=>by have:=kd.at';rw [← q,z] at this;cases this]
    exact z
   generalize upd H5 d (.frz ob (.dT kvs)) = H6 at hD hd6 s6 ls6 ⊢
   refine comp_its (fun i σ H7=>∃ v v':Option V,σ = [v,v']∧Same H6 H7∧Mir.TsT Mir.pr H7 D ((ps.take i).filter (Mir.bySigns (Mir.frm rs) L))) ⟨none,none,rfl,same_upd hD,Mir.TsT.nil upd_same⟩ (fun i σ H7 _ ⟨_,_,_,s7,_⟩=>s7 _ _ hd6) ?_ ?_
   ·rintro i tp b kk v σ H7 hy ⟨v,v',rfl,s7,hT7⟩ htp hb
    have hi:i < ps.length:=by rw [← hl.1];exact (List.getElem?_eq_some_iff.mp hy).1
    have hia:i < as.length:=by omega
    have ep:=List.getElem?_eq_getElem hi
    have ea:=List.getElem?_eq_getElem hia
    rw [kd.key ea ep] at hy
    injection hy with hy
    injection hy with hy1 hy2
    subst hy1 hy2
    have s8:Same H7 (upd H7 tp (.tup [.ref b,.ref as[i]])):=same_upd htp
    have ha:=s8 _ _ (s7 _ _ (ls6 i _ _ ea ep))
    refine ⟨tp,_,rfl,SqT.of upd_same,rfl,_,_,rfl,_,_,rfl,rfl,?_⟩
    refine ⟨_,rfl,as[i],_,rfl,ha,_,rfl,?_⟩
    have es:(ps.take (i + 1)).filter (Mir.bySigns (Mir.frm rs) L) = (ps.take i).filter (Mir.bySigns (Mir.frm rs) L) ++ (if Mir.bySigns (Mir.frm rs) L ps[i] = true then [ps[i]] else []):=by
     rw [Mir.take_snoc ep,List.filter_append,List.filter_cons,List.filter_nil]
    obtain ⟨ys,y1,y2,y3⟩:=(hT7.same s8).snoc (t:=b) (x:=ps[i]) (s8 _ _ hb)
    have yl:ys.length < sizeLine:=lim _ (by rw [y2];exact Nat.le_trans (List.length_filter_le _ _) (by rw [List.length_take];omega))
    have hs8:Same H6 (upd (upd H7 tp (.tup [.ref b,.ref as[i]])) D (.lst (ys ++ [.ref b]))):=(s7.trans s8).upd hD
    refine ite2 (fun h1=>?_) (fun h1=>?_)
    ·have bt:Mir.bySigns (Mir.frm rs) L ps[i] = true:=by unfold Mir.bySigns;rw [h1];rfl
     rw [if_pos bt] at es
     dsimp only
     rw [if_pos rfl]
     exact ⟨_,rfl,ys,y1,yl,_,_,rfl,hs8,by rw [es];exact y3⟩
    ·refine ⟨_,rfl,as[i],_,rfl,ha,_,rfl,?_⟩
     refine ite2 (fun h2=>?_) (fun h2=>?_)
     ·have bt:Mir.bySigns (Mir.frm rs) L ps[i] = true:=by unfold Mir.bySigns;rw [h2];exact Bool.or_true _
      rw [if_pos bt] at es
      exact ⟨_,rfl,ys,y1,yl,_,_,rfl,hs8,by rw [es];exact y3⟩
     ·have bt:¬ Mir.bySigns (Mir.frm rs) L ps[i] = true:=by
       unfold Mir.bySigns
       rw [Bool.or_eq_true]
       exact fun z=>z.elim h1 h2
      rw [if_neg bt,List.append_nil] at es
      exact ⟨_,_,rfl,s7.trans s8,by rw [es];exact hT7.same s8⟩
   ·rintro σ H7 ⟨v,v',rfl,s7,hT7⟩
    rw [hl.1,List.take_length] at hT7
    obtain ⟨ts,g,c1,c2,c3,c4⟩:=Mir.sorted_pairs hT7 (fun p hp=>Mir.kin_rng fit (Mir.sgl_kin fit hL ((kd.mem p).mp (List.mem_filter.mp hp).1)))
    have tl:ts.length < 64:=by
     rw [c2]
     exact Nat.lt_of_le_of_lt (List.length_filter_le _ _) (by omega)
    refine ⟨D,ts,g,rfl,SqL.of c1,tl,c3,fun us l hp hs hl7=>?_⟩
    obtain ⟨M,m1,m2,m3⟩:=c4 us hp hs
    have eM:=Mir.knot_srt fit hL kd.np kd.mem m1 m2
    have s8:Same H7 (upd H7 l (.lst (us.map V.ref))):=same_upd hl7
    have hT8:=m3 _ l s8 upd_same
    rw [eM] at hT8
    exact k l _ (((sH.trans s6).trans s7).free hl7) (((sH.trans s6).trans s7).trans s8) hT8
end
section
seal L2.PSs L2.PS L2.PE L2.PT L2.PA
variable {P:Program} {w:World} {K:PySem.W.Frag} {mg:Str→Option Value} {base:Heap}
theorem ok_shortest_around {f:Addr} {fd:FuncData} (B:Bl mg) (F:Fn K mg "shortest_around" s_shortest_around ["chain","kins"] f fd):FnOk P w K mg base CX0 1 f fd ["chain","kins"] Mir.spShort:=by
 refine F.fn.ok sc_shortest_around (fun vs H Q E h=>?_) (fun cdv A outer s H vs Q E hr h=>?_)
 ·obtain ⟨tc,l,ts,c,kins,rfl,_⟩:=h
  rfl
 ·obtain ⟨tc,l,ts,c,kins,rfl,hc,ht,hne,hk,hn,k⟩:=h
  refine ⟨_,(pss_cons (ps_comp (ix:=2) (NC:=["kin","chain"]) sc_shortest_around.nd rfl (Or.inl rfl) rfl (compOk2 (c:=s.heap.objs.size + 1) (j:=0) rfl (by decide +kernel) (by decide +kernel) rfl rfl rfl rfl rfl) (pi_list (pv 1)) (fun _ _ _ _=>(pg_name (i:=0) (show (["kin","chain"]:List Str).Nodup by decide +kernel) rfl (Or.inl rfl))) (fun _ _ _ _=>(pts_one (PW.pt (pw_and (pt_cmpR op_lt (pe_ix (ix_tupK (K:=K) rfl) (pv 0) pe_int (fun _ _=>rfl)) (pe_ix (ix_tupK (K:=K) rfl) (pe_ix (ix_tupK (K:=K) rfl) (pv 1) pe_int (fun _ _=>rfl)) pe_int (fun _ _=>rfl)) (nomark _)) (pw_and1 (pt_cmpR op_lt (pe_ix (ix_tupK (K:=K) rfl) (pe_ix (ix_tupK (K:=K) rfl) (pv 1) (pe_un un_neg pe_int) (fun _ _=>rfl)) pe_int (fun _ _=>rfl)) (pe_ix (ix_tupK (K:=K) rfl) (pv 0) pe_int (fun _ _=>rfl)) (nomark _))))))) (fun _ _ _ _=>(pv 0)))
   (pss_one (ps_ret (pe_slice sl_list (pv 2) (po_some (pe_un un_neg pe_int)) po_none)))),?_⟩
  obtain ⟨us,h1,h2,h3⟩:=id hk
  have hcl:=ht.1
  have c0:0 < c.length:=by cases c with | nil=>exact absurd rfl hne | cons x r=>exact Nat.succ_pos _
  have g0:ts[0]? = some (ts[0]'(by omega)):=List.getElem?_eq_getElem (by omega)
  have gl:ts[ts.length - 1]? = some (ts[ts.length - 1]'(by omega)):=List.getElem?_eq_getElem (by omega)
  have t0:H (ts[0]'(by omega)) = some (.tup (Mir.pr (c.headD (0,0)))):=ht.2 0 _ _ g0 (by cases c with | nil=>exact absurd rfl hne | cons x r=>rfl)
  have tl:H (ts[ts.length - 1]'(by omega)) = some (.tup (Mir.pr (c.getLastD (0,0)))):=ht.2 _ _ _ gl (by
   rw [hcl,← List.getLast?_eq_getElem?,List.getLastD_eq_getLast?]
   cases e:c.getLast? with
   | none=>exact absurd (List.getLast?_eq_none_iff.mp e) hne
   | some x=>rfl)
  generalize ts[0]'(by omega) = u0 at g0 t0
  generalize ts[ts.length - 1]'(by omega) = ul at gl tl
  have a0:atI (ts.map V.ref) 0 = some (.ref u0):=atI_nat (j:=0) (by rw [List.getElem?_map,g0];rfl)
  have al:atI (ts.map V.ref) (-1) = some (.ref ul):=Mir.atI_fin (by rw [List.getLast?_map,List.getLast?_eq_getElem?,gl];rfl)
  refine ⟨_,rfl,l,rfl,⟨_,SqL.of h1⟩,fun D hD=>?_⟩
  refine comp_list (K:=K) (a:=l) (xs:=us.map V.ref) (fun i σ H2=>∃ v:Option V,σ = [v,some (.ref tc)]∧Same H H2∧Mir.TsT Mir.pr H2 D ((kins.take i).filter (Mir.isAr c))) ⟨none,rfl,same_upd hD,Mir.TsT.nil upd_same⟩ (fun i σ H2 _ ⟨_,_,s2,_⟩=>SqL.of (s2 _ _ h1)) ?_ ?_
  ·rintro i x σ H2 hx ⟨v,rfl,s2,hT⟩
   rw [List.getElem?_map] at hx
   obtain ⟨t,et,rfl⟩:=Option.map_eq_some_iff.mp hx
   have hi:i < kins.length:=by rw [← h2];exact (List.getElem?_eq_some_iff.mp et).1
   have ek:=List.getElem?_eq_getElem hi
   generalize kins[i] = p at ek
   have hp:=s2 _ _ (h3 i t p et ek)
   have hl:((kins.take i).filter (Mir.isAr c)).length≤100:=Nat.le_trans (List.length_filter_le _ _) (by rw [List.length_take];omega)
   refine ⟨_,rfl,t,_,_,_,rfl,rfl,SqT.of hp,rfl,_,rfl,tc,_,_,_,rfl,rfl,SqT.of (s2 _ _ hc),a0,u0,_,_,_,rfl,rfl,SqT.of (s2 _ _ t0),rfl,_,_,rfl,rfl,_,rfl,?_⟩
   have e3:(kins.take (i + 1)).filter (Mir.isAr c) = (kins.take i).filter (Mir.isAr c) ++ (if Mir.isAr c p = true then [p] else []):=by
    rw [Mir.take_snoc ek,List.filter_append,List.filter_cons,List.filter_nil]
   have yes:Mir.isAr c p = true→∃ ys,H2 D = some (.lst ys)∧ys.length < sizeLine∧∃ v:Option V,[some (.ref t),some (.ref tc)] = [v,some (.ref tc)]∧Same H (upd H2 D (.lst (ys ++ [.ref t])))∧Mir.TsT Mir.pr (upd H2 D (.lst (ys ++ [.ref t]))) D ((kins.take (i + 1)).filter (Mir.isAr c)):=fun h=>by
    obtain ⟨ys,y1,y2,y3⟩:=hT.snoc hp
    refine ⟨ys,y1,small1000 (by rw [y2];omega),_,rfl,s2.upd hD,?_⟩
    rw [e3,if_pos h]
    exact y3
   have no:¬ Mir.isAr c p = true→∃ v:Option V,[some (V.ref t),some (.ref tc)] = [v,some (.ref tc)]∧Same H H2∧Mir.TsT Mir.pr H2 D ((kins.take (i + 1)).filter (Mir.isAr c)):=fun h=>by
    refine ⟨_,rfl,s2,?_⟩
    rw [e3,if_neg h,List.append_nil]
    exact hT
   have ar:Mir.isAr c p = (decide (p.1 < (c.headD (0,0)).1) && decide ((c.getLastD (0,0)).2 < p.2)):=rfl
   by_cases c1:p.1 < (c.headD (0,0)).1
   ·rw [decide_eq_true c1]
    refine iteT ?_
    refine ⟨_,rfl,_,rfl,tc,_,_,_,rfl,rfl,SqT.of (s2 _ _ hc),al,ul,_,_,_,rfl,rfl,SqT.of (s2 _ _ tl),rfl,_,rfl,t,_,_,_,rfl,rfl,SqT.of hp,rfl,_,_,rfl,rfl,_,rfl,?_⟩
    by_cases c2:(c.getLastD (0,0)).2 < p.2
    ·rw [decide_eq_true c2]
     exact iteT ⟨_,rfl,yes (by rw [ar,decide_eq_true c1,decide_eq_true c2];rfl)⟩
    ·rw [decide_eq_false c2]
     exact iteF (no (by rw [ar,decide_eq_false c2];simp))
   ·rw [decide_eq_false c1]
    exact iteF (iteF (no (by rw [ar,decide_eq_false c1];simp)))
  ·rintro σ H2 ⟨v,rfl,s2,hT⟩
   rw [List.length_map,h2,List.take_length] at hT
   obtain ⟨vs,w1,w2,w3⟩:=id hT
   refine ⟨_,rfl,_,rfl,_,rfl,D,_,rfl,SqL.of w1,fun r hr=>?_⟩
   refine k r _ (s2.free hr) (s2.trans (same_upd hr)) ?_
   rw [Mir.cutV_last,List.length_map]
   refine ⟨vs.drop (vs.length - 1),by rw [upd_same,List.map_drop],?_,fun i u q e1 e2=>?_⟩
   ·rw [List.length_drop]
    unfold Mir.shrt Mir.arnd
    rw [List.length_drop,w2]
   ·rw [List.getElem?_drop] at e1
    unfold Mir.shrt Mir.arnd at e2
    rw [List.getElem?_drop,← w2] at e2
    exact (same_upd hr) _ _ (w3 _ u q e1 e2)
end
section
seal L2.PSs L2.PS L2.PE L2.PT L2.PA
variable {P:Program} {w:World} {K:PySem.W.Frag} {mg:Str→Option Value} {base:Heap}
theorem ok_web_of {f f1 f2:Addr} {fd fd1 fd2:FuncData} (B:Bl mg) (F:Fn K mg "web_of" s_web_of ["kins"] f fd) (F_hung_together:Fn K mg "hung_together" s_hung_together ["pairs"] f1 fd1) (F_shortest_around:Fn K mg "shortest_around" s_shortest_around ["chain","kins"] f2 fd2):FnOk P w K mg base CX0 2 f fd ["kins"] (Mir.spWebOf P w):=by
 have G_hung_together:FnOk P w K mg base CX0 1 f1 fd1 ["pairs"] Mir.spHung:=ok_hung_together B F_hung_together
 have G_shortest_around:FnOk P w K mg base CX0 1 f2 fd2 ["chain","kins"] Mir.spShort:=ok_shortest_around B F_shortest_around
 refine F.fn.ok sc_web_of (fun vs H Q E h=>?_) (fun cdv A outer s H vs Q E hr h=>?_)
 ·obtain ⟨l,kins,rfl,_⟩:=h
  rfl
 ·obtain ⟨l,kins,rfl,hk,asc,hn,k⟩:=h
  have hu2:=hr.lt 1 (by decide)
  refine ⟨_,(pss_cons (ps_set (i:=1) sc_web_of.nd rfl (Or.inl rfl) (NK.pe_2newK (P:=P) (w:=w) rfl rfl))
   (pss_cons (ps_for PassesOwn.never rfl (pi_list (pv 0)) (pg_name (i:=2) sc_web_of.nd rfl (Or.inl rfl)) (pss_one (NK.ps_2putK (P:=P) (w:=w) rfl rfl hu2 (pv 1) (pv 2) (pe_lst pa_nil) rfl)))
   (pss_cons (ps_for PassesOwn.never rfl (pi_list (pe_fn G_hung_together F_hung_together (hr.mono (by decide)) (pa_cons (pv 0) pa_nil))) (pg_name (i:=3) sc_web_of.nd rfl (Or.inl rfl)) (pss_cons (ps_set (i:=4) sc_web_of.nd rfl (Or.inl rfl) (pe_callTy call_tuple_any rfl B.tuple bb_tuple (pa_cons (pe_comp (NC:=["place","kins"]) rfl (compOk2 (c:=s.heap.objs.size + 1) (j:=0) rfl (by decide +kernel) (by decide +kernel) rfl rfl rfl rfl rfl) (pi_tup (pv 3)) (fun _ _ _ _=>(pg_name (i:=0) (show (["place","kins"]:List Str).Nodup by decide +kernel) rfl (Or.inl rfl))) (fun _ _ _ _=>pts_nil) (fun _ _ _ _=>(pe_ix (ix_listK (K:=K) rfl) (pv 1) (pv 0) (fun _ _=>rfl)))) pa_nil)))
   (pss_cons (ps_set (i:=5) sc_web_of.nd rfl (Or.inl rfl) (pe_op op_cat (pe_callTy call_list_of rfl B.list bb_list (pa_cons (pv 4) pa_nil)) (pe_fn G_shortest_around F_shortest_around (hr.mono (by decide)) (pa_cons (pv 4) (pa_cons (pv 0) pa_nil)))))
   (pss_cons (NK.ps_2putK (P:=P) (w:=w) rfl rfl hu2 (pv 1) (pv 4) (pv 5) rfl)
   (pss_one (ps_for PassesOwn.never rfl (pi_list (pv 5)) (pg_name (i:=2) sc_web_of.nd rfl (Or.inl rfl)) (pss_one (ps_expr (pe_bm PySem.F.plainAttrs_list PySem.F.slot_list_append PySem.F.type_list_append mt_append (NK.pe_2getK (P:=P) (w:=w) rfl rfl hu2 (pv 1) (pv 2) (fun _ _=>rfl)) (pa_cons (pv 4) pa_nil))))))))))
   (pss_one (ps_ret (pv 1)))))),?_⟩
  obtain ⟨us,h1,h2,h3⟩:=id hk
  intro a ha
  have T0:Mir.WbT P w (upd H a (NK.d2O P w a [])) a [] []:=⟨⟨upd_same,fun p hp=>absurd hp List.not_mem_nil⟩,.nil,List.nodup_nil⟩
  have s0:Same H (upd H a (NK.d2O P w a [])):=same_upd ha
  generalize upd H a (NK.d2O P w a []) = H0 at T0 s0
  have lim:∀ x:Nat,x≤1000→x < sizeLine:=fun x hx=>small1000 hx
  refine ⟨_,rfl,l,rfl,⟨_,SqL.of (s0 _ _ h1)⟩,for_list (K:=K) (a:=l) (xs:=us.map V.ref) (fun i σ H2=>∃ (es:Mir.Es) (v2:Option V),σ = [some (.ref l),some (.ref a),v2,none,none,none]∧Same H H2∧Mir.NewW H es∧Mir.WbT P w H2 a es ((kins.take i).map fun q=>(Mir.pN q,[]))) ⟨[],none,rfl,s0,fun e h=>absurd h List.not_mem_nil,T0⟩ (fun i σ H2 _ ⟨_,_,_,s2,_⟩=>SqL.of (s2 _ _ h1)) ?_ ?_⟩
  ·rintro i x σ H2 hx ⟨es,v2,rfl,s2,nw,T⟩
   rw [List.getElem?_map] at hx
   obtain ⟨t,et,rfl⟩:=Option.map_eq_some_iff.mp hx
   have hi:i < kins.length:=by rw [← h2];exact (List.getElem?_eq_some_iff.mp et).1
   have ek:=List.getElem?_eq_getElem hi
   have hp:=h3 i t _ et ek
   refine ⟨by show 0≤sizeLine;decide,fun n hnn=>?_⟩
   have s3:Same H2 (upd H2 n (.lst [])):=same_upd hnn
   have n3:upd H2 n (.lst []) n = some (.lst []):=upd_same
   generalize upd H2 n (.lst []) = H3 at s3 n3
   have T3:=T.same s3
   have lE:es.length = i:=by rw [T.r.length,List.length_map,List.length_take];omega
   have nin:n ∉ es.map (·.2.2):=fun z=>by
    obtain ⟨e,he,rfl⟩:=List.mem_map.mp z
    obtain ⟨y,_,_,bs,q,_⟩:=Mir.paired_memL T.r he
    rw [hnn] at q
    cases q
   refine ⟨_,rfl,_,rfl,a,t,_,_,rfl,rfl,T3.d,NK.K2.pair (s3 _ _ (s2 _ _ hp)),lim _ (by unfold Mir.eV;rw [List.length_map];omega),?_⟩
   have T4:=T3.put (k:=Mir.pN kins[i]) (b:=t) (l:=n) (ks:=[]) (fun z=>by
    unfold Mir.keysW at z
    rw [List.map_map] at z
    obtain ⟨q,hq,e⟩:=List.mem_map.mp z
    have e:q = kins[i]:=Mir.pN_inj e
    subst e
    obtain ⟨j,hj⟩:=List.getElem?_of_mem hq
    rw [List.getElem?_take] at hj
    by_cases c:j < i
    ·rw [if_pos c] at hj
     have:=(List.getElem?_inj (List.getElem?_eq_some_iff.mp hj).1 (Mir.asc_nd asc)).mp (hj.trans ek.symm)
     omega
    ·rw [if_neg c] at hj;cases hj) (NK.K2.pair (s3 _ _ (s2 _ _ hp))) ⟨[],n3,rfl,fun i b k e=>by simp at e⟩ nin
   have a0:H a = none:=ha
   refine ⟨es ++ [(Mir.pN kins[i],t,n)],_,rfl,(s2.trans s3).upd a0,fun e he=>?_,?_⟩
   rotate_left
   ·rw [Mir.take_snoc ek,List.map_append]
    exact T4
   ·rcases List.mem_append.mp he with he | he
    ·exact nw e he
    ·rw [List.mem_singleton.mp he]
     exact s2.free hnn
  ·rintro σ H2 ⟨es,v2,rfl,s2,nw,T⟩
   rw [List.length_map,h2,List.take_length] at T
   have KO:=Mir.chains_ok asc
   have T:Mir.WbT P w H2 a es (Mir.webJ kins []):=by
    unfold Mir.webJ
    rw [List.map_nil,List.append_nil]
    exact T
   have cl:=Mir.chains_len kins
   refine ⟨_,rfl,l,kins,rfl,hk.same s2,hn,fun r H3 hr3 s3 hR=>?_⟩
   obtain ⟨rs,r1,r2,r3⟩:=id hR
   have nar:a≠r:=fun z=>by have q:=T.d.1;rw [z,hr3] at q;cases q
   have rin:r ∉ es.map (·.2.2):=fun z=>by
    obtain ⟨e,he,q0⟩:=List.mem_map.mp z
    obtain ⟨y,_,_,bs,q,_⟩:=Mir.paired_memL T.r he
    have q0:e.2.2 = r:=q0
    rw [q0,hr3] at q
    cases q
   refine ⟨r,rfl,⟨_,SqL.of r1⟩,for_list (K:=K) (a:=r) (xs:=rs.map V.ref) (fun j σ H4=>∃ (es:Mir.Es) (v2 v3 v4 v5:Option V),σ = [some (.ref l),some (.ref a),v2,v3,v4,v5]∧Same H H4∧Mir.NewW H es∧Mir.TsT Mir.iV H4 r (Mir.hung kins)∧H4 r = some (.lst (rs.map V.ref))∧r ∉ es.map (·.2.2)∧Mir.WbT P w H4 a es (Mir.webJ kins ((Mir.chains kins).take j))) ⟨es,_,_,_,_,rfl,s2.trans s3,nw,hR,r1,rin,T.same s3⟩ (fun i σ H4 _ ⟨_,_,_,_,_,_,_,_,_,e,_⟩=>SqL.of e) ?_ ?_⟩
   ·rintro j x σ H4 hx ⟨es,v2,v3,v4,v5,rfl,s4,nw,hR4,r4,rin,T⟩
    rw [List.getElem?_map] at hx
    obtain ⟨tg,etg,rfl⟩:=Option.map_eq_some_iff.mp hx
    have hj:j < (Mir.hung kins).length:=by rw [← r2];exact (List.getElem?_eq_some_iff.mp etg).1
    have eg:=List.getElem?_eq_getElem hj
    have hg:(Mir.hung kins)[j]∈Mir.hung kins:=List.getElem_mem _
    generalize (Mir.hung kins)[j] = g at eg hg
    have htg:H4 tg = some (.tup (Mir.iV g)):=by
     obtain ⟨rs',q1,q2,q3⟩:=hR4
     rw [r4] at q1
     have:rs = rs':=(List.map_inj_right (f:=V.ref) fun a b h=>by injection h).mp (by injection q1 with q1;injection q1)
     subst this
     exact q3 j tg g etg eg
    obtain ⟨gne,glt,gasc,glen⟩:=Mir.hung_in hg
    have ec:(Mir.chains kins)[j]? = some (Mir.chn kins g):=by unfold Mir.chains;rw [List.getElem?_map,eg];rfl
    have hc:=List.mem_of_getElem? ec
    refine ⟨_,rfl,tg,rfl,⟨_,SqT.of htg⟩,fun D hD=>?_⟩
    refine comp_tup (K:=K) (a:=tg) (xs:=Mir.iV g) (fun i σ H5=>∃ (v:Option V) (ts:List Addr),σ = [v,some (.ref l)]∧Same H4 H5∧H5 D = some (.lst (ts.map V.ref))∧Mir.Tup Mir.pr H5 ts (Mir.chn kins (g.take i))) ⟨none,[],rfl,same_upd hD,upd_same,rfl,fun i t x e=>by simp at e⟩ (fun i σ H5 _ ⟨_,_,_,s5,_⟩=>SqT.of (s5 _ _ htg)) ?_ ?_
    ·rintro i x σ H5 hx ⟨v,ts,rfl,s5,hD5,tp⟩
     unfold Mir.iV at hx
     rw [List.getElem?_map] at hx
     obtain ⟨y,ey,rfl⟩:=Option.map_eq_some_iff.mp hx
     have hy:=glt y (List.mem_of_getElem? ey)
     have eu:=List.getElem?_eq_getElem (l:=us) (i:=y.toNat) (by omega)
     generalize us[y.toNat]'(by omega) = u at eu
     have ek:=List.getElem?_eq_getElem (l:=kins) (i:=y.toNat) (by omega)
     have hu:=(s4.trans s5) _ _ (h3 _ u _ eu ek)
     have lt:=tp.1
     have hil:i < g.length:=(List.getElem?_eq_some_iff.mp ey).1
     refine gYes ?_
     refine ⟨_,rfl,_,rfl,l,_,_,_,rfl,rfl,SqL.of ((s4.trans s5) _ _ h1),atI_of hy.1 (by rw [List.getElem?_map,eu];rfl),_,hD5,lim _ (by rw [List.length_map,lt];unfold Mir.chn;rw [List.length_map,List.length_take];omega),_,ts ++ [u],rfl,s5.upd hD,by rw [upd_same,List.map_append];rfl,?_⟩
     rw [Mir.chn_take kins ey]
     have e9:kins.getD y.toNat (0,0) = kins[y.toNat]'(by omega):=by rw [List.getD_eq_getElem?_getD,ek];rfl
     rw [e9]
     exact (tp.app (Mir.Tup.one hu)).upd hD5
    ·rintro σ H5 ⟨v,ts,rfl,s5,hD5,tp⟩
     rw [Mir.iV_len,List.take_length] at tp
     refine ⟨D,_,rfl,.inl hD5,fun tc H6 s6 htc=>?_⟩
     have s46:=s5.trans s6
     have tp6:=tp.same s6
     generalize hcc:Mir.chn kins g = c at tp6 ec hc
     have cne:c≠[]:=fun z=>by rw [← hcc] at z;unfold Mir.chn at z;exact gne (List.map_eq_nil_iff.mp z)
     have clen:c.length≤100:=by rw [← hcc];unfold Mir.chn;rw [List.length_map];omega
     refine ⟨_,rfl,tc,_,rfl,.inr (SqT.of htc),fun l1 hl1=>?_⟩
     have s67:Same H6 (upd H6 l1 (.lst (ts.map V.ref))):=same_upd hl1
     have l17:upd H6 l1 (.lst (ts.map V.ref)) l1 = some (.lst (ts.map V.ref)):=upd_same
     generalize upd H6 l1 (.lst (ts.map V.ref)) = H7 at s67 l17
     refine ⟨_,rfl,_,rfl,tc,l,ts,c,kins,rfl,s67 _ _ htc,tp6.same s67,cne,hk.same ((s4.trans s46).trans s67),hn,fun r2 H8 hr2 s78 t8=>?_⟩
     obtain ⟨qs,q1,q2⟩:=t8.tup
     have tp8:=(tp6.same s67).same s78
     have shl:=Mir.shrt_len (kins:=kins) (c:=c)
     refine ⟨l1,r2,_,_,rfl,rfl,s78 _ _ l17,q1,Nat.le_of_lt (lim _ (by rw [List.length_map,List.length_map,tp6.1,q2.1];omega)),fun l2 hl2=>?_⟩
     have L9:=Mir.catT tp8 q2 hl2
     have s89:Same H8 (upd H8 l2 (.lst (ts.map V.ref ++ qs.map V.ref))):=same_upd hl2
     have l29:upd H8 l2 (.lst (ts.map V.ref ++ qs.map V.ref)) l2 = some (.lst ((ts ++ qs).map V.ref)):=by rw [upd_same,List.map_append]
     generalize upd H8 l2 (.lst (ts.map V.ref ++ qs.map V.ref)) = H9 at L9 s89 l29
     have L9:Mir.TsT Mir.pr H9 l2 (Mir.lnk kins c):=L9
     have s49:=((s46.trans s67).trans s78).trans s89
     have T9:=T.same s49
     have htc9:=(s67.trans (s78.trans s89)) _ _ htc
     have kc9:NK.K2 H9 (Mir.cN c) tc:=NK.K2.chain htc9 ((tp6.same s67).same (s78.trans s89))
     have esl:es.length≤200:=by
      rw [T.r.length]
      unfold Mir.webJ
      rw [List.length_append,List.length_map,List.length_map,List.length_take]
      omega
     have n2:H4 l2 = none:=(s46.trans (s67.trans s78)).free hl2
     have nin:l2 ∉ es.map (·.2.2):=fun z=>by
      obtain ⟨e,he,q0⟩:=List.mem_map.mp z
      obtain ⟨y,_,_,bs,q,_⟩:=Mir.paired_memL T.r he
      have q0:e.2.2 = l2:=q0
      rw [q0,n2] at q
      cases q
     refine ⟨_,rfl,_,rfl,_,rfl,a,tc,_,_,rfl,rfl,T9.d,kc9,lim _ (by unfold Mir.eV;rw [List.length_map];omega),?_⟩
     have knew:Mir.cN c ∉ Mir.keysW (Mir.webJ kins ((Mir.chains kins).take j)):=fun z=>by
      rw [Mir.webJ_keys] at z
      rcases List.mem_append.mp z with z | z
      ·obtain ⟨q,_,e⟩:=List.mem_map.mp z
       exact Mir.pN_ne e
      ·obtain ⟨d,hd,e⟩:=List.mem_map.mp z
       cases Mir.cN_inj e
       obtain ⟨i,hi⟩:=List.getElem?_of_mem hd
       rw [List.getElem?_take] at hi
       by_cases q:i < j
       ·rw [if_pos q] at hi
        have:=(List.getElem?_inj (List.getElem?_eq_some_iff.mp hi).1 KO.cnd).mp (hi.trans ec.symm)
        omega
       ·rw [if_neg q] at hi;cases hi
     have T10:=T9.put knew kc9 L9.ths nin
     rw [← Mir.webM_zero] at T10
     have s10:Same H (upd H9 a (NK.d2O P w a (NK.put2 (Mir.eV es) (Mir.cN c) tc (.ref l2)))):=(s4.trans s49).upd ha
     have L10:=L9.keepE (o:=NK.d2O P w a (NK.put2 (Mir.eV es) (Mir.cN c) tc (.ref l2))) T9.d.1
     have R10:=(hR4.same s49).keepE (o:=NK.d2O P w a (NK.put2 (Mir.eV es) (Mir.cN c) tc (.ref l2))) T9.d.1
     have l210:upd H9 a (NK.d2O P w a (NK.put2 (Mir.eV es) (Mir.cN c) tc (.ref l2))) l2 = some (.lst ((ts ++ qs).map V.ref)):=by
      rw [upd_ne (fun z=>by rw [z,T9.d.1] at l29;cases l29)]
      exact l29
     have r10:upd H9 a (NK.d2O P w a (NK.put2 (Mir.eV es) (Mir.cN c) tc (.ref l2))) r = some (.lst (rs.map V.ref)):=by
      rw [upd_ne (Ne.symm nar)]
      exact s49 _ _ r4
     have kc10:NK.K2 (upd H9 a (NK.d2O P w a (NK.put2 (Mir.eV es) (Mir.cN c) tc (.ref l2)))) (Mir.cN c) tc:=kc9.keep fun x ys e=>by
      rw [upd_ne (fun z=>by rw [z,T9.d.1] at e;cases e)]
      exact e
     generalize upd H9 a (NK.d2O P w a (NK.put2 (Mir.eV es) (Mir.cN c) tc (.ref l2))) = H10 at T10 s10 L10 R10 l210 r10 kc10
     have nw':Mir.NewW H (es ++ [(Mir.cN c,tc,l2)]):=fun e he=>by
      rcases List.mem_append.mp he with he | he
      ·exact nw e he
      ·rw [List.mem_singleton.mp he]
       exact s4.free n2
     have nr2:r≠l2:=fun z=>by rw [← z,r4] at n2;cases n2
     have rin':r ∉ (es ++ [(Mir.cN c,tc,l2)]).map (·.2.2):=fun z=>by
      rw [List.map_append] at z
      rcases List.mem_append.mp z with z | z
      ·exact rin z
      ·exact nr2 (List.mem_singleton.mp z)
     have ll:(ts ++ qs).length = (Mir.lnk kins c).length:=by
      obtain ⟨xs,x1,x2,_⟩:=L10
      rw [l210] at x1
      have:ts ++ qs = xs:=(List.map_inj_right (f:=V.ref) fun a b h=>by injection h).mp (by injection x1 with x1;injection x1)
      rw [this];exact x2
     have lnd:=KO.lnd c hc
     have mnd:∀ i,(Mir.keysW (Mir.webM kins ((Mir.chains kins).take j) c i)).Nodup:=fun i=>by
      rw [Mir.webM_keys]
      have:=(Mir.webJ_ok (kins:=kins) (cs:=(Mir.chains kins).take j ++ [c]) ⟨KO.knd,by
       have:(Mir.chains kins).take j ++ [c] = (Mir.chains kins).take (j + 1):=(Mir.take_snoc ec).symm
       rw [this]
       exact KO.cnd.sublist (List.take_sublist _ _),fun d hd=>KO.sub d (by
       rcases List.mem_append.mp hd with hd | hd
       ·exact List.mem_of_mem_take hd
       ·rw [List.mem_singleton.mp hd];exact hc),fun d hd=>KO.lnd d (by
       rcases List.mem_append.mp hd with hd | hd
       ·exact List.mem_of_mem_take hd
       ·rw [List.mem_singleton.mp hd];exact hc)⟩).nd
      rw [Mir.webJ_keys,List.map_append] at this
      exact this
     refine ⟨_,rfl,l2,rfl,⟨_,SqL.of l210⟩,for_list (K:=K) (a:=l2) (xs:=(ts ++ qs).map V.ref) (fun i σ H11=>∃ (v2:Option V),σ = [some (.ref l),some (.ref a),v2,some (.ref tg),some (.ref tc),some (.ref l2)]∧Same H H11∧H11 l2 = some (.lst ((ts ++ qs).map V.ref))∧Mir.TsT Mir.pr H11 l2 (Mir.lnk kins c)∧Mir.TsT Mir.iV H11 r (Mir.hung kins)∧H11 r = some (.lst (rs.map V.ref))∧NK.K2 H11 (Mir.cN c) tc∧Mir.WbT P w H11 a (es ++ [(Mir.cN c,tc,l2)]) (Mir.webM kins ((Mir.chains kins).take j) c i)) ⟨_,rfl,s10,l210,L10,R10,r10,kc10,T10⟩ (fun i σ H11 _ ⟨_,_,_,e,_⟩=>SqL.of e) ?_ ?_⟩
     ·rintro i x σ H11 hx ⟨v2,rfl,s11,l211,L11,R11,r11,kc11,T11⟩
      rw [List.getElem?_map] at hx
      obtain ⟨t',et',rfl⟩:=Option.map_eq_some_iff.mp hx
      have hi:i < (Mir.lnk kins c).length:=by rw [← ll];exact (List.getElem?_eq_some_iff.mp et').1
      have ep:=List.getElem?_eq_getElem hi
      generalize (Mir.lnk kins c)[i] = q at ep
      have hq:=KO.sub c hc q (List.mem_of_getElem? ep)
      have ht':H11 t' = some (.tup (Mir.pr q)):=by
       obtain ⟨xs,x1,x2,x3⟩:=L11
       rw [l211] at x1
       have:ts ++ qs = xs:=(List.map_inj_right (f:=V.ref) fun a b h=>by injection h).mp (by injection x1 with x1;injection x1)
       subst this
       exact x3 i t' q et' ep
      obtain ⟨t,tm,te,tlen⟩:=Mir.webM_at (cs:=(Mir.chains kins).take j) (c:=c) (i:=i) hq
      obtain ⟨b3,l3,m3,v3',th3,_⟩:=T11.at (mnd i) tm
      rw [te] at m3 v3'
      obtain ⟨vs,y1,y2,y3⟩:=th3.snoc kc11
      have n32:l2≠l3:=fun z=>by
       obtain ⟨x,hx,ex⟩:=List.getElem_of_mem m3
       have hz:x < es.length + 1:=by rw [List.length_append] at hx;exact hx
       have e1:((es ++ [(Mir.cN c,tc,l2)]).map (·.2.2))[x]? = some l2:=by rw [List.getElem?_map,List.getElem?_eq_getElem hx,ex,z];rfl
       have e2:((es ++ [(Mir.cN c,tc,l2)]).map (·.2.2))[es.length]? = some l2:=by rw [List.getElem?_map,List.getElem?_append_right (Nat.le_refl _),Nat.sub_self];rfl
       have:=(List.getElem?_inj (List.getElem?_eq_some_iff.mp e1).1 T11.nd).mp (e1.trans e2.symm)
       subst this
       have e3:(es ++ [(Mir.cN c,tc,l2)])[es.length]? = some (Mir.cN c,tc,l2):=by rw [List.getElem?_append_right (Nat.le_refl _),Nat.sub_self];rfl
       rw [List.getElem?_eq_getElem hx,ex] at e3
       exact Mir.pN_ne (congrArg Prod.fst (Option.some.inj e3))
      have n3r:r≠l3:=fun z=>rin' (List.mem_map.mpr ⟨_,m3,z.symm⟩)
      have h3n:H l3 = none:=nw' _ m3
      refine ⟨_,rfl,_,rfl,a,t',_,_,_,rfl,rfl,T11.d,NK.K2.pair ht',v3',.inl ⟨rfl,_,SqL.of y1⟩,_,rfl,l3,_,_,rfl,rfl,y1,lim _ (by rw [y2];have:=tlen;rw [List.length_take] at this;omega),?_⟩
      refine ⟨_,rfl,s11.upd h3n,by rw [upd_ne n32];exact l211,L11.other y1 (Ne.symm n32),R11.other y1 (Ne.symm n3r),by rw [upd_ne n3r];exact r11,kc11.keep fun x ys e=>by rw [upd_ne (fun z=>by rw [z,y1] at e;cases e)];exact e,?_⟩
      have T12:=T11.chg (mnd i) m3 y1 (o:=.lst (vs ++ [.ref tc])) (f:=fun ls=>ls ++ [Mir.cN c]) (fun ls hls=>by
       obtain ⟨vs',z1,z2,z3⟩:=hls.snoc kc11
       rw [y1] at z1
       obtain rfl:vs = vs':=by injection z1 with z1;injection z1
       exact z3)
      rw [Mir.webM_step lnd ep] at T12
      exact T12
     ·rintro σ H11 ⟨v2,rfl,s11,l211,L11,R11,r11,kc11,T11⟩
      rw [List.length_map,ll,Mir.webM_end,← Mir.take_snoc ec] at T11
      exact ⟨_,_,_,_,_,rfl,s11,nw',R11,r11,rin',T11⟩
   ·rintro σ H4 ⟨es,v2,v3,v4,v5,rfl,s4,nw,hR4,r4,rin,T⟩
    rw [List.length_map,r2,show (Mir.hung kins).length = (Mir.chains kins).length by unfold Mir.chains;rw [List.length_map],List.take_length] at T
    exact ⟨_,rfl,k a es H4 ha s4 nw T⟩
end
section
seal L2.PSs L2.PS L2.PE L2.PT L2.PA
variable {P:Program} {w:World} {K:PySem.W.Frag} {mg:Str→Option Value} {base:Heap}
theorem ok_spare_things {f:Addr} {fd:FuncData} (B:Bl mg) (F:Fn K mg "spare_things" s_spare_things ["web","knots"] f fd):FnOk P w K mg base CX0 1 f fd ["web","knots"] (Mir.spSpare P w):=by
 refine F.fn.ok sc_spare_things (fun vs H Q E h=>?_) (fun cdv A outer s H vs Q E hr h=>?_)
 ·obtain ⟨a,l,es,W,ks,rfl,_⟩:=h
  rfl
 ·obtain ⟨a,l,es,W,ks,rfl,T,O,hn,hk,k⟩:=h
  refine ⟨_,(pss_one (ps_ret (NK.pe_thawK (P:=P) (w:=w) rfl rfl (pe_comp (NC:=["thing","web","knots"]) rfl (compOkT (pre:=["thing"]) (c:=s.heap.objs.size + 1) (e:=s.heap.objs.size + 2) (j:=0) (k:=1) rfl (by decide +kernel) (by decide +kernel) rfl rfl rfl rfl rfl rfl rfl rfl rfl) (NK.pi_ksK (P:=P) (w:=w) rfl rfl (pv 0)) (fun _ _ _ _=>(pg_name (i:=0) (show (["thing","web","knots"]:List Str).Nodup by decide +kernel) rfl (Or.inl rfl))) (fun _ _ _ _=>(pts_one (PW.pt (pw_and (pt_cmpR op_le (pe_callB (call_len_seqK (K:=K) rfl) rfl B.len bb_len (pa_cons (NK.pe_2getF (P:=P) (w:=w) rfl rfl (hr.lt 1 (by decide)) (pv 1) (pv 0) (fun _ _=>rfl)) pa_nil)) pe_int (nomark _)) (pw_and1 (pt_cmpR (NK.op_notIn2 (hr.lt 1 (by decide))) (pv 0) (pv 2) (by with_unfolding_all rfl))))))) (fun _ _ _ _=>(pv 0)))))),?_⟩
  have esl:es.length = W.length:=T.r.length
  have ev:(Mir.eV es).length = es.length:=by unfold Mir.eV;rw [List.length_map]
  refine ⟨_,rfl,a,Mir.eV es,rfl,T.d,fun o D hD=>?_⟩
  have nDa:D≠a:=fun z=>by rw [z,upd_same] at hD;cases hD
  have hD0:H D = none:=by rwa [upd_ne nDa] at hD
  have sF:∀ {c:Addr} {ho:HO},H c = some ho→c≠a→upd H a (NK.d2F P w a (Mir.eV es) o) c = some ho:=fun {c ho} e n=>by rw [upd_ne n];exact e
  have DF:NK.D2f P w (upd H a (NK.d2F P w a (Mir.eV es) o)) a (Mir.eV es) o:=T.d.to
  have nl:∀ {c:Addr} {vs:List V},H c = some (.lst vs)→c≠a:=fun {c vs} e z=>by rw [z,T.d.1] at e;cases e
  have nt:∀ {c:Addr} {vs:List V},H c = some (.tup vs)→c≠a:=fun {c vs} e z=>by rw [z,T.d.1] at e;cases e
  have thF:∀ {c:Addr} {L:List Mir.Nd},NK.Ths H c L→NK.Ths (upd H a (NK.d2F P w a (Mir.eV es) o)) c L:=fun {c L} q=>by
   obtain ⟨bs,h1,h2,h3⟩:=q
   exact ⟨bs,sF h1 (nl h1),h2,fun i b k e1 e2=>(h3 i b k e1 e2).keep fun c ys e=>sF e (nt e)⟩
  have rF:=Paired.mapP T.r (G:=Mir.RW (upd H a (NK.d2F P w a (Mir.eV es) o))) fun e t q=>⟨q.1,thF q.2⟩
  have kF:=thF hk.ths
  have back:∀ {H5:Hp},Same (upd H a (NK.d2F P w a (Mir.eV es) o)) H5→Same H (upd H5 a (NK.d2O P w a (Mir.eV es))):=fun {H5} s5 b o' e=>by
   by_cases z:b = a
   ·subst z
    rw [upd_same,← e,T.d.1]
   ·rw [upd_ne z]
    exact s5 _ _ (sF e z)
  generalize upd H a (NK.d2F P w a (Mir.eV es) o) = H1 at hD DF rF kF back
  refine NK.comp_ks (fun i σ H2=>∃ v:Option V,σ = [v,some (.ref a),some (.ref l)]∧Same H1 H2∧NK.Ths H2 D (Mir.spareW (W.take i) ks)) ⟨none,rfl,same_upd hD,[],upd_same,rfl,fun i b k e=>by simp at e⟩ (fun i σ H2 _ ⟨_,_,s2,_⟩=>⟨s2 _ _ DF.1,fun p hp=>NK.K2.same (DF.2 p hp) s2⟩) ?_ ?_
  ·rintro i kk b v σ H2 hx ⟨v0,rfl,s2,hT⟩
   obtain ⟨l',he,rfl⟩:=Mir.eV_at hx
   obtain ⟨t,ht,q1,q2⟩:=Mir.paired_at rF he
   have q1:kk = t.1:=q1
   subst q1
   have hm:=List.mem_of_getElem? he
   have hkb:NK.K2 H2 t.1 b:=NK.K2.same (DF.2 _ (List.mem_map.mpr ⟨_,hm,rfl⟩)) s2
   have vv:=Mir.val_es (by rw [Mir.keys_es T.r];exact O.nd) hm
   obtain ⟨vs,v1,v2⟩:=(NK.Ths.same q2 s2).len
   have hil:i < W.length:=(List.getElem?_eq_some_iff.mp ht).1
   have es1:=Mir.spare_snoc (ks:=ks) ht
   have hle:(Mir.spareW (W.take i) ks).length≤i:=by
    unfold Mir.spareW
    rw [List.length_map]
    exact Nat.le_trans (List.length_filter_le _ _) (by rw [List.length_take];omega)
   refine ⟨_,rfl,_,rfl,a,b,_,o,t.1,_,rfl,rfl,⟨s2 _ _ DF.1,fun p hp=>NK.K2.same (DF.2 p hp) s2⟩,hkb,vv,l',vs,rfl,.inl (SqL.of v1),_,_,rfl,rfl,_,rfl,?_⟩
   have no:¬ (t.2.length≤1∧t.1 ∉ ks.map Mir.pN)→∃ v:Option V,[some (V.ref b),some (.ref a),some (.ref l)] = [v,some (.ref a),some (.ref l)]∧Same H1 H2∧NK.Ths H2 D (Mir.spareW (W.take (i + 1)) ks):=fun h=>by
    refine ⟨_,rfl,s2,?_⟩
    rw [es1,if_neg h,List.append_nil]
    exact hT
   by_cases c1:t.2.length≤1
   ·rw [decide_eq_true (show ((vs.length:Nat):Int)≤1 by omega)]
    refine iteT ⟨_,rfl,_,rfl,b,l,t.1,_,rfl,rfl,hkb,NK.Ths.same kF s2,_,rfl,?_⟩
    by_cases c2:t.1∈ks.map Mir.pN
    ·rw [decide_eq_true c2]
     exact iteF (no fun z=>z.2 c2)
    ·rw [decide_eq_false c2]
     obtain ⟨ys,y1,y2,y3⟩:=hT.snoc hkb
     refine iteT ⟨_,rfl,ys,y1,small1000 (by rw [y2];omega),_,rfl,s2.upd hD,?_⟩
     rw [es1,if_pos ⟨c1,c2⟩]
     exact y3
   ·rw [decide_eq_false (show ¬ ((vs.length:Nat):Int)≤1 by omega)]
    exact iteF (iteF (no fun z=>c1 z.1))
  ·rintro σ H2 ⟨v,rfl,s2,hT⟩
   rw [ev,esl,List.take_length] at hT
   refine ⟨a,Mir.eV es,o,⟨s2 _ _ DF.1,fun p hp=>NK.K2.same (DF.2 p hp) s2⟩,?_⟩
   refine k D _ hD0 (back s2) ?_
   refine NK.Ths.keep hT (by rw [upd_ne nDa]) fun c ys e=>?_
   rw [upd_ne (fun z=>by rw [z,s2 _ _ DF.1] at e;cases e)]
   exact e
end
section
seal L2.PSs L2.PS L2.PE L2.PT L2.PA
variable {P:Program} {w:World} {K:PySem.W.Frag} {mg:Str→Option Value} {base:Heap}
theorem ok_thinned_web {f f1 f2 f3 f4:Addr} {fd fd1 fd2 fd3 fd4:FuncData} (B:Bl mg) (F:Fn K mg "thinned_web" s_thinned_web ["row"] f fd) (F_knots_in:Fn K mg "knots_in" s_knots_in ["row"] f1 fd1) (G_knots_in:FnOk P w K mg base CX0 4 f1 fd1 ["row"] Mir.spKnots)
  (F_kin_spans:Fn K mg "kin_spans" s_kin_spans ["row"] f2 fd2) (G_kin_spans:FnOk P w K mg base CX0 2 f2 fd2 ["row"] Mir.spKinSpans) (F_web_of:Fn K mg "web_of" s_web_of ["kins"] f3 fd3) (G_web_of:FnOk P w K mg base CX0 2 f3 fd3 ["kins"] (Mir.spWebOf P w)) (F_spare_things:Fn K mg "spare_things" s_spare_things ["web","knots"] f4 fd4):FnOk P w K mg base CX0 5 f fd ["row"] (Mir.spThin P w):=by
 have G_spare_things:FnOk P w K mg base CX0 1 f4 fd4 ["web","knots"] (Mir.spSpare P w):=ok_spare_things B F_spare_things
 refine F.fn.ok sc_thinned_web (fun vs H Q E h=>?_) (fun cdv A outer s H vs Q E hr h=>?_)
 ·obtain ⟨t,rs,rfl,_⟩:=h
  rfl
 ·obtain ⟨t,rs,rfl,ht,fit,k⟩:=h
  have hu2:=hr.lt 1 (by decide)
  have small:=fit.small
  refine ⟨_,(pss_cons (ps_set (i:=1) sc_thinned_web.nd rfl (Or.inl rfl) (pe_fn G_knots_in F_knots_in (hr.mono (by decide)) (pa_cons (pv 0) pa_nil)))
   (pss_cons (ps_if (pt_cmpR op_eq (pe_callB call_len_seq rfl B.len bb_len (pa_cons (pv 1) pa_nil)) pe_int (nomark _)) (pss_one (ps_ret (NK.pe_2newK (P:=P) (w:=w) rfl rfl))) pss_nil)
   (pss_cons (ps_set (i:=2) sc_thinned_web.nd rfl (Or.inl rfl) (pe_fn G_web_of F_web_of (hr.mono (by decide)) (pa_cons (pe_fn G_kin_spans F_kin_spans (hr.mono (by decide)) (pa_cons (pv 0) pa_nil)) pa_nil)))
   (pss_cons (ps_set (i:=3) sc_thinned_web.nd rfl (Or.inl rfl) (pe_fn G_spare_things F_spare_things (hr.mono (by decide)) (pa_cons (pv 2) (pa_cons (pv 1) pa_nil))))
   (pss_cons (ps_while PassesOwn.never (pt_cmpR op_gt (pe_callB call_len_seq rfl B.len bb_len (pa_cons (pv 3) pa_nil)) pe_int (nomark _)) (pss_cons (ps_for PassesOwn.never rfl (pi_list (pv 3)) (pg_name (i:=4) sc_thinned_web.nd rfl (Or.inl rfl)) (pss_cons (ps_for PassesOwn.never rfl (pi_list (pe_callTy call_list_of rfl B.list bb_list (pa_cons (NK.pe_2getK (P:=P) (w:=w) rfl rfl hu2 (pv 2) (pv 4) (fun _ _=>rfl)) pa_nil))) (pg_name (i:=5) sc_thinned_web.nd rfl (Or.inl rfl)) (pss_one (ps_expr (pe_bm PySem.F.plainAttrs_list PySem.F.slot_list_remove PySem.F.type_list_remove (NK.mt_rem hu2) (NK.pe_2getK (P:=P) (w:=w) rfl rfl hu2 (pv 2) (pv 5) (fun _ _=>rfl)) (pa_cons (pv 4) pa_nil)))))
   (pss_one (ps_expr (NK.pe_pop2K (P:=P) (w:=w) rfl rfl hu2 (pv 2) (pa_cons (pv 4) pa_nil))))))
   (pss_one (ps_set (i:=3) sc_thinned_web.nd rfl (Or.inl rfl) (pe_fn G_spare_things F_spare_things (hr.mono (by decide)) (pa_cons (pv 2) (pa_cons (pv 1) pa_nil)))))))
   (pss_one (ps_ret (pv 2)))))))),?_⟩
  have fl:=Mir.frm_len rs
  have kl:=Mir.kinL_len (Mir.frm rs)
  refine ⟨_,rfl,t,rs,rfl,ht,fit,fun lk H1 hlk s1 hK=>?_⟩
  have ewT:Mir.webT rs = if Mir.knotL (Mir.frm rs) (Mir.opn (Mir.frm rs) (rs.length + 1)) = [] then [] else Mir.thinW (Mir.webJ (Mir.kinL (Mir.frm rs)) (Mir.chains (Mir.kinL (Mir.frm rs)))) (Mir.knotL (Mir.frm rs) (Mir.opn (Mir.frm rs) (rs.length + 1))):=rfl
  generalize Mir.knotL (Mir.frm rs) (Mir.opn (Mir.frm rs) (rs.length + 1)) = ks at hK ewT
  obtain ⟨kv,k1,k2⟩:=hK.len
  refine ⟨_,rfl,lk,_,rfl,.inl (SqL.of k1),rfl,_,rfl,?_⟩
  by_cases c0:ks = []
  ·refine iteY (dInt (by rw [k2,c0];rfl)) ?_
   intro a ha
   refine k a [] _ (s1.free ha) (s1.trans (same_upd ha)) ?_
   rw [ewT,if_pos c0]
   exact ⟨⟨upd_same,fun p hp=>absurd hp List.not_mem_nil⟩,.nil,List.nodup_nil⟩
  ·refine iteN (dIntN (by rw [k2];intro z;exact c0 (List.length_eq_zero_iff.mp (by omega)))) ?_
   rw [if_neg c0] at ewT
   refine ⟨_,rfl,t,rs,rfl,s1 _ _ ht,fit,fun lS H2 hlS s2 hS=>?_⟩
   have asc:=Mir.kinL_asc (Mir.frm rs)
   refine ⟨lS,_,rfl,hS,asc,by omega,fun a es H3 ha s3 nw T=>?_⟩
   have O:=Mir.webJ_ok (Mir.chains_ok asc)
   have cl:=Mir.chains_len (Mir.kinL (Mir.frm rs))
   have Wl:(Mir.webJ (Mir.kinL (Mir.frm rs)) (Mir.chains (Mir.kinL (Mir.frm rs)))).length≤500:=by
    unfold Mir.webJ
    rw [List.length_append,List.length_map,List.length_map]
    omega
   generalize Mir.webJ (Mir.kinL (Mir.frm rs)) (Mir.chains (Mir.kinL (Mir.frm rs))) = W0 at T O Wl ewT
   have hK2:=hK.same s2
   have s12:=s1.trans s2
   have lk2:=(s2 _ _ k1)
   refine ⟨_,rfl,_,rfl,a,lk,es,W0,ks,rfl,T,O,Wl,hK2.same s3,fun sp H4 hsp s4 tsp=>?_⟩
   refine ⟨fun m σ H5=>∃ (W:Mir.Web) (es:Mir.Es) (sp:Addr) (v4 v5:Option V),m = W.length∧σ = [some (.ref t),some (.ref lk),some (.ref a),some (.ref sp),v4,v5]∧Same H2 H5∧Mir.NewW H2 es∧Mir.WbT P w H5 a es W∧Mir.WOk W∧W.length≤500∧NK.Ths H5 sp (Mir.spareW W ks)∧sp ∉ es.map (·.2.2)∧H2 sp = none∧Mir.thinW W ks = Mir.thinW W0 ks,⟨_,W0,es,sp,_,_,rfl,rfl,s3.trans s4,nw,T.same s4,O,Wl,tsp,?_,s3.free hsp,rfl⟩,?_⟩
   ·intro z
    obtain ⟨e,he,q0⟩:=List.mem_map.mp z
    obtain ⟨y,_,_,bs,q,_⟩:=Mir.paired_memL T.r he
    have q0:e.2.2 = sp:=q0
    rw [q0,hsp] at q
    cases q
   clear T O Wl tsp nw hsp s4
   rintro m σ H5 ⟨W,es,sp,v4,v5,rfl,rfl,s5,nw,T,O,Wl,tsp,nsp,fsp,eth⟩
   obtain ⟨bs,b1,b2,b3⟩:=id tsp
   refine ⟨_,rfl,sp,_,rfl,.inl (SqL.of b1),_,_,rfl,rfl,_,rfl,?_⟩
   by_cases c1:Mir.spareW W ks = []
   ·refine iteN (decide_eq_false (by rw [List.length_map,b2,c1];decide)) ?_
    refine ⟨_,rfl,k a es H5 (s12.free ha) (s12.trans s5) ?_⟩
    rw [ewT,← eth,Mir.thin_stop c1]
    exact T
   ·have cl:0 < (Mir.spareW W ks).length:=List.length_pos_iff.mpr c1
    refine iteY (decide_eq_true (by rw [List.length_map,b2];omega)) ?_
    refine ⟨fun σ' H'=>∃ m',m' < W.length∧∃ (W:Mir.Web) (es:Mir.Es) (sp:Addr) (v4 v5:Option V),m' = W.length∧σ' = [some (.ref t),some (.ref lk),some (.ref a),some (.ref sp),v4,v5]∧Same H2 H'∧Mir.NewW H2 es∧Mir.WbT P w H' a es W∧Mir.WOk W∧W.length≤500∧NK.Ths H' sp (Mir.spareW W ks)∧sp ∉ es.map (·.2.2)∧H2 sp = none∧Mir.thinW W ks = Mir.thinW W0 ks,fun _ _ q=>q,?_⟩
    have snd:=Mir.spare_nd O ks
    have a2:H2 a = none:=ha
    have nasp:a≠sp:=fun z=>by have q:=T.d.1;rw [z,b1] at q;cases q
    refine ⟨_,rfl,sp,rfl,⟨_,SqL.of b1⟩,for_list (K:=K) (a:=sp) (xs:=bs.map V.ref) (fun i σ H6=>∃ (es:Mir.Es) (v4 v5:Option V),σ = [some (.ref t),some (.ref lk),some (.ref a),some (.ref sp),v4,v5]∧Same H2 H6∧Mir.NewW H2 es∧Mir.WbT P w H6 a es (((Mir.spareW W ks).take i).foldl Mir.cutN W)∧H6 sp = some (.lst (bs.map V.ref))∧(∀ (i:Nat) (b:Addr) (k:Mir.Nd),bs[i]? = some b→(Mir.spareW W ks)[i]? = some k→NK.K2 H6 k b)∧sp ∉ es.map (·.2.2)) ⟨es,_,_,rfl,s5,nw,T,b1,b3,nsp⟩ (fun i σ H6 _ ⟨_,_,_,_,_,_,_,e,_⟩=>SqL.of e) ?_ ?_⟩
    ·rintro i x σ H6 hx ⟨es,v4,v5,rfl,s6,nw,T,b1,b3,nsp⟩
     rw [List.getElem?_map] at hx
     obtain ⟨bx,ebx,rfl⟩:=Option.map_eq_some_iff.mp hx
     have hi:i < (Mir.spareW W ks).length:=by rw [← b2];exact (List.getElem?_eq_some_iff.mp ebx).1
     have ex:=List.getElem?_eq_getElem hi
     generalize (Mir.spareW W ks)[i] = kx at ex
     have kb:=b3 i bx kx ebx ex
     have Oi:Mir.WOk (((Mir.spareW W ks).take i).foldl Mir.cutN W):=Mir.WOk.fold _ O
     have hkx:kx∈Mir.keysW (((Mir.spareW W ks).take i).foldl Mir.cutN W):=Mir.fold_keeps _ _ (Mir.spare_sub (List.mem_of_getElem? ex)) (fun z=>by
      obtain ⟨j,hj⟩:=List.getElem?_of_mem z
      rw [List.getElem?_take] at hj
      by_cases q:j < i
      ·rw [if_pos q] at hj
       have:=(List.getElem?_inj (List.getElem?_eq_some_iff.mp hj).1 snd).mp (hj.trans ex.symm)
       omega
      ·rw [if_neg q] at hj;cases hj)
     have Wil:(((Mir.spareW W ks).take i).foldl Mir.cutN W).length≤500:=Nat.le_trans (Mir.fold_len _ _) Wl
     rw [Mir.fold_snoc ex]
     generalize ((Mir.spareW W ks).take i).foldl Mir.cutN W = Wi at T Oi hkx Wil
     obtain ⟨u,hu,rfl⟩:=Mir.mem_keys.mp hkx
     obtain ⟨bk,lx,mx,vx,tx,_⟩:=T.at Oi.nd hu
     obtain ⟨cs,c1,c2,c3⟩:=id tx
     have nlx:=Oi.nl u hu
     refine ⟨_,rfl,_,rfl,a,bx,_,_,_,rfl,rfl,T.d,kb,vx,lx,_,rfl,.inl (SqL.of c1),fun lc hlc=>?_⟩
     have s7:Same H6 (upd H6 lc (.lst (cs.map V.ref))):=same_upd hlc
     have lc7:upd H6 lc (.lst (cs.map V.ref)) lc = some (.lst (cs.map V.ref)):=upd_same
     generalize upd H6 lc (.lst (cs.map V.ref)) = H7 at s7 lc7
     have nlc:lc ∉ es.map (·.2.2):=fun z=>by
      obtain ⟨e,he,q0⟩:=List.mem_map.mp z
      obtain ⟨y,_,_,bs,q,_⟩:=Mir.paired_memL T.r he
      have q0:e.2.2 = lc:=q0
      rw [q0,hlc] at q
      cases q
     refine ⟨lc,rfl,⟨_,SqL.of lc7⟩,for_list (K:=K) (a:=lc) (xs:=cs.map V.ref) (fun j σ H8=>∃ v5:Option V,σ = [some (.ref t),some (.ref lk),some (.ref a),some (.ref sp),some (.ref bx),v5]∧Same H2 H8∧Mir.WbT P w H8 a es (Mir.remW Wi u.1 (u.2.take j))∧H8 sp = some (.lst (bs.map V.ref))∧H8 lc = some (.lst (cs.map V.ref))∧(∀ c ys,H7 c = some (.tup ys)→H8 c = some (.tup ys))) ⟨_,rfl,s6.trans s7,by rw [List.take_zero,Mir.rem_nil];exact T.same s7,s7 _ _ b1,lc7,fun _ _ e=>e⟩ (fun i σ H8 _ ⟨_,_,_,_,_,e,_⟩=>SqL.of e) ?_ ?_⟩
     ·rintro j x σ H8 hx ⟨v5,rfl,s8,T8,b8,lc8,g8⟩
      rw [List.getElem?_map] at hx
      obtain ⟨by',eby,rfl⟩:=Option.map_eq_some_iff.mp hx
      have hj:j < u.2.length:=by rw [← c2];exact (List.getElem?_eq_some_iff.mp eby).1
      have ey:=List.getElem?_eq_getElem hj
      generalize u.2[j] = y at ey
      have ky:NK.K2 H8 y by':=(NK.K2.same (c3 j by' y eby ey) s7).keep g8
      have kb8:NK.K2 H8 u.1 bx:=(NK.K2.same kb s7).keep g8
      have nyl:y ∉ u.2.take j:=fun z=>by
       obtain ⟨i',hi'⟩:=List.getElem?_of_mem z
       rw [List.getElem?_take] at hi'
       by_cases q:i' < j
       ·rw [if_pos q] at hi'
        have:=(List.getElem?_inj (List.getElem?_eq_some_iff.mp hi').1 nlx).mp (hi'.trans ey.symm)
        omega
       ·rw [if_neg q] at hi';cases hi'
      obtain ⟨v,hv,ev,hin⟩:=Oi.sym u hu y (List.mem_of_getElem? ey)
      subst ev
      have nd8:(Mir.keysW (Mir.remW Wi u.1 (u.2.take j))).Nodup:=by rw [Mir.rem_keys];exact Oi.nd
      obtain ⟨bv,lv,mv,vv,tv,_⟩:=T8.at nd8 (Mir.rem_mem (k:=u.1) nyl (ls:=v.2) hv)
      obtain ⟨ds,d1,d2,d3⟩:=id tv
      have nlv:=Oi.nl v hv
      obtain ⟨jj,hjj⟩:=List.getElem?_of_mem hin
      have nsv:sp≠lv:=fun z=>nsp (List.mem_map.mpr ⟨_,mv,z.symm⟩)
      have ncv:lc≠lv:=fun z=>nlc (List.mem_map.mpr ⟨_,mv,z.symm⟩)
      refine ⟨_,rfl,_,rfl,a,by',_,_,_,rfl,rfl,T8.d,ky,vv,.inl ⟨rfl,_,SqL.of d1⟩,_,rfl,lv,bx,u.1,v.2,ds,jj,rfl,rfl,kb8,d1,d2,d3,hjj,Mir.first_at nlv hjj,?_⟩
      have T9:=T8.chg nd8 mv d1 (o:=.lst ((ds.eraseIdx jj).map V.ref)) (f:=fun ls=>ls.filter fun l=>decide (l≠u.1)) (fun ls hls=>by
       rw [NK.Ths.inj hls tv]
       have:=NK.Ths.erase (j:=jj) d1 d2 d3
       rw [Mir.erase_self nlv hjj] at this
       exact this)
      rw [Mir.rem_step nyl,← Mir.take_snoc ey] at T9
      refine ⟨_,rfl,s8.upd (nw _ mv),T9,by rw [upd_ne nsv];exact b8,by rw [upd_ne ncv];exact lc8,fun c ys e=>?_⟩
      have e:=g8 c ys e
      rw [upd_ne (fun z=>by rw [z,d1] at e;cases e)]
      exact e
     ·rintro σ H8 ⟨v5,rfl,s8,T8,b8,lc8,g8⟩
      rw [List.length_map,c2,List.take_length] at T8
      have kb8:NK.K2 H8 u.1 bx:=(NK.K2.same kb s7).keep g8
      obtain ⟨ix,hix⟩:=List.getElem?_of_mem mx
      refine ⟨_,rfl,⟨a,_,rfl,T8.d⟩,_,rfl,a,bx,_,u.1,.ref lx,rfl,rfl,T8.d,kb8,⟨bk,ix,by unfold Mir.eV;rw [List.getElem?_map,hix];rfl⟩,?_⟩
      have T9:=T8.drop (k:=u.1)
      rw [Mir.rem_cut Oi hu] at T9
      refine ⟨_,_,_,rfl,s8.upd a2,fun e he=>nw e (List.mem_filter.mp he).1,T9,by rw [upd_ne (Ne.symm nasp)];exact b8,fun i' b' k' e1 e2=>?_,fun z=>?_⟩
      ·refine ((NK.K2.same (b3 i' b' k' e1 e2) s7).keep g8).keep fun c ys e=>?_
       rw [upd_ne (fun z=>by rw [z,T8.d.1] at e;cases e)]
       exact e
      ·obtain ⟨e,he,q0⟩:=List.mem_map.mp z
       exact nsp (List.mem_map.mpr ⟨e,(List.mem_filter.mp he).1,q0⟩)
    ·rintro σ H6 ⟨es,v4,v5,rfl,s6,nw,T,b1,b3,nsp⟩
     rw [List.length_map,b2,List.take_length] at T
     have T:Mir.WbT P w H6 a es (Mir.passW W ks):=T
     have lt:=Mir.pass_lt c1
     refine ⟨_,rfl,_,rfl,a,lk,es,_,ks,rfl,T,Mir.WOk.fold _ O,by omega,hK2.same s6,fun sp' H7 hsp' s7 tsp'=>?_⟩
     refine ⟨_,lt,_,es,sp',_,_,rfl,rfl,s6.trans s7,nw,T.same s7,Mir.WOk.fold _ O,by omega,tsp',fun z=>?_,s6.free hsp',?_⟩
     ·obtain ⟨e,he,q0⟩:=List.mem_map.mp z
      obtain ⟨y,_,_,bs,q,_⟩:=Mir.paired_memL T.r he
      have q0:e.2.2 = sp':=q0
      rw [q0,hsp'] at q
      cases q
     ·rw [← Mir.thin_step c1]
      exact eth
end
section
seal L2.PSs L2.PS L2.PE L2.PT L2.PA
variable {P:Program} {w:World} {K:PySem.W.Frag} {mg:Str→Option Value} {base:Heap}
theorem ok_ends_of {f:Addr} {fd:FuncData} (B:Bl mg) (F:Fn K mg "ends_of" s_ends_of ["web"] f fd):FnOk P w K mg base CX0 1 f fd ["web"] (Mir.spEnds P w):=by
 refine F.fn.ok sc_ends_of (fun vs H Q E h=>?_) (fun cdv A outer s H vs Q E hr h=>?_)
 ·obtain ⟨a,es,W,ks,rfl,_⟩:=h
  rfl
 ·obtain ⟨a,es,W,ks,rfl,T,O,hn,hsp,asc,kl,kr,k⟩:=h
  refine ⟨_,(pss_one (ps_ret (pe_callB (call_sortedP64 false) rfl B.sorted bb_sorted (pa_cons (NK.pe_thawK (P:=P) (w:=w) rfl rfl (pe_comp (NC:=["thing","web"]) rfl (compOk2 (c:=s.heap.objs.size + 1) (j:=0) rfl (by decide +kernel) (by decide +kernel) rfl rfl rfl rfl rfl) (NK.pi_ksK (P:=P) (w:=w) rfl rfl (pv 0)) (fun _ _ _ _=>(pg_name (i:=0) (show (["thing","web"]:List Str).Nodup by decide +kernel) rfl (Or.inl rfl))) (fun _ _ _ _=>(pts_one (pt_cmpR op_le (pe_callB (call_len_seqK (K:=K) rfl) rfl B.len bb_len (pa_cons (NK.pe_2getF (P:=P) (w:=w) rfl rfl (hr.lt 1 (by decide)) (pv 1) (pv 0) (fun _ _=>rfl)) pa_nil)) pe_int (nomark _)))) (fun _ _ _ _=>(pv 0)))) pa_nil)))),?_⟩
  have esl:es.length = W.length:=T.r.length
  have ev:(Mir.eV es).length = es.length:=by unfold Mir.eV;rw [List.length_map]
  refine ⟨_,rfl,a,Mir.eV es,rfl,T.d,fun o D hD=>?_⟩
  have nDa:D≠a:=fun z=>by rw [z,upd_same] at hD;cases hD
  have hD0:H D = none:=by rwa [upd_ne nDa] at hD
  have sF:∀ {c:Addr} {ho:HO},H c = some ho→c≠a→upd H a (NK.d2F P w a (Mir.eV es) o) c = some ho:=fun {c ho} e n=>by rw [upd_ne n];exact e
  have DF:NK.D2f P w (upd H a (NK.d2F P w a (Mir.eV es) o)) a (Mir.eV es) o:=T.d.to
  have nl:∀ {c:Addr} {vs:List V},H c = some (.lst vs)→c≠a:=fun {c vs} e z=>by rw [z,T.d.1] at e;cases e
  have nt:∀ {c:Addr} {vs:List V},H c = some (.tup vs)→c≠a:=fun {c vs} e z=>by rw [z,T.d.1] at e;cases e
  have thF:∀ {c:Addr} {L:List Mir.Nd},NK.Ths H c L→NK.Ths (upd H a (NK.d2F P w a (Mir.eV es) o)) c L:=fun {c L} q=>by
   obtain ⟨bs,h1,h2,h3⟩:=q
   exact ⟨bs,sF h1 (nl h1),h2,fun i b k e1 e2=>(h3 i b k e1 e2).keep fun c ys e=>sF e (nt e)⟩
  have rF:=Paired.mapP T.r (G:=Mir.RW (upd H a (NK.d2F P w a (Mir.eV es) o))) fun e t q=>⟨q.1,thF q.2⟩
  have back:∀ {H5:Hp},Same (upd H a (NK.d2F P w a (Mir.eV es) o)) H5→Same H (upd H5 a (NK.d2O P w a (Mir.eV es))):=fun {H5} s5 b o' e=>by
   by_cases z:b = a
   ·subst z
    rw [upd_same,← e,T.d.1]
   ·rw [upd_ne z]
    exact s5 _ _ (sF e z)
  generalize upd H a (NK.d2F P w a (Mir.eV es) o) = H1 at hD DF rF back
  refine NK.comp_ks (fun i σ H2=>∃ v:Option V,σ = [v,some (.ref a)]∧Same H1 H2∧NK.Ths H2 D (Mir.lowW (W.take i))) ⟨none,rfl,same_upd hD,[],upd_same,rfl,fun i b k e=>by simp at e⟩ (fun i σ H2 _ ⟨_,_,s2,_⟩=>⟨s2 _ _ DF.1,fun p hp=>NK.K2.same (DF.2 p hp) s2⟩) ?_ ?_
  ·rintro i kk b v σ H2 hx ⟨v0,rfl,s2,hT⟩
   obtain ⟨l',he,rfl⟩:=Mir.eV_at hx
   obtain ⟨t,ht,q1,q2⟩:=Mir.paired_at rF he
   have q1:kk = t.1:=q1
   subst q1
   have hm:=List.mem_of_getElem? he
   have hkb:NK.K2 H2 t.1 b:=NK.K2.same (DF.2 _ (List.mem_map.mpr ⟨_,hm,rfl⟩)) s2
   have vv:=Mir.val_es (by rw [Mir.keys_es T.r];exact O.nd) hm
   obtain ⟨vs,v1,v2⟩:=(NK.Ths.same q2 s2).len
   have hil:i < W.length:=(List.getElem?_eq_some_iff.mp ht).1
   have es1:=Mir.low_snoc ht
   have hle:=Mir.low_len W i
   refine ⟨_,rfl,_,rfl,a,b,_,o,t.1,_,rfl,rfl,⟨s2 _ _ DF.1,fun p hp=>NK.K2.same (DF.2 p hp) s2⟩,hkb,vv,l',vs,rfl,.inl (SqL.of v1),_,_,rfl,rfl,_,rfl,?_⟩
   by_cases c1:t.2.length≤1
   ·rw [decide_eq_true (show ((vs.length:Nat):Int)≤1 by omega)]
    obtain ⟨ys,y1,y2,y3⟩:=hT.snoc hkb
    refine iteT ⟨_,rfl,ys,y1,small1000 (by rw [y2];omega),_,rfl,s2.upd hD,?_⟩
    rw [es1,if_pos c1]
    exact y3
   ·rw [decide_eq_false (show ¬ ((vs.length:Nat):Int)≤1 by omega)]
    refine iteF ⟨_,rfl,s2,?_⟩
    rw [es1,if_neg c1,List.append_nil]
    exact hT
  ·rintro σ H2 ⟨v,rfl,s2,hT⟩
   rw [ev,esl,List.take_length] at hT
   refine ⟨a,Mir.eV es,o,⟨s2 _ _ DF.1,fun p hp=>NK.K2.same (DF.2 p hp) s2⟩,?_⟩
   have hT3:NK.Ths (upd H2 a (NK.d2O P w a (Mir.eV es))) D (Mir.lowW W):=NK.Ths.keep hT (by rw [upd_ne nDa]) fun c ys e=>by
    rw [upd_ne (fun z=>by rw [z,s2 _ _ DF.1] at e;cases e)]
    exact e
   have s3:=back s2
   generalize upd H2 a (NK.d2O P w a (Mir.eV es)) = H3 at hT3 s3
   obtain ⟨ps,e1,e2,e3⟩:=Mir.low_ends O hsp asc
   rw [e1] at hT3
   have hT4:=hT3.tst
   obtain ⟨ts,g,c1,c2,c3,c4⟩:=Mir.sorted_pairs hT4 (fun p hp=>kr p (e3 p hp))
   have tl:ts.length < 64:=by
    rw [c2,e2.length_eq]
    exact Nat.lt_of_le_of_lt (List.length_filter_le _ _) (by omega)
   refine ⟨D,ts,g,rfl,SqL.of c1,tl,c3,fun us l hp hs hl7=>?_⟩
   obtain ⟨M,m1,m2,m3⟩:=c4 us hp hs
   have eM:=Mir.ends_srt asc m1 e2 m2
   have s8:Same H3 (upd H3 l (.lst (us.map V.ref))):=same_upd hl7
   have hT8:=m3 _ l s8 upd_same
   rw [eM] at hT8
   exact k l _ (s3.free hl7) (s3.trans s8) hT8
end
section
seal L2.PSs L2.PS L2.PE L2.PT L2.PA
variable {P:Program} {w:World} {K:PySem.W.Frag} {mg:Str→Option Value} {base:Heap}
theorem ok_leg_from {f:Addr} {fd:FuncData} (B:Bl mg) (F:Fn K mg "leg_from" s_leg_from ["end","web"] f fd):FnOk P w K mg base CX0 1 f fd ["end","web"] (Mir.spLeg P w):=by
 refine F.fn.ok sc_leg_from (fun vs H Q E h=>?_) (fun cdv A outer s H vs Q E hr h=>?_)
 ·obtain ⟨e,a,es,W,k,rfl,_⟩:=h
  rfl
 ·obtain ⟨e,a,es,W,k,rfl,T,O,hn,hk,hkw,hd,kk⟩:=h
  have hu2:=hr.lt 1 (by decide)
  refine ⟨_,(pss_cons (ps_set (i:=2) sc_leg_from.nd rfl (Or.inr rfl) (pe_lst (pa_cons (pv 0) pa_nil)))
   (pss_cons (ps_set (i:=3) sc_leg_from.nd rfl (Or.inl rfl) (NK.pe_2getK (P:=P) (w:=w) rfl rfl hu2 (pv 1) (pv 0) (fun _ _=>rfl)))
   (pss_cons (ps_while PassesOwn.never (PW.pt (pw_and (pt_cmpR op_gt (pe_callB call_len_seq rfl B.len bb_len (pa_cons (pv 3) pa_nil)) pe_int (nomark _)) (pw_and1 (pt_cmpR op_le (pe_callB call_len_seq rfl B.len bb_len (pa_cons (NK.pe_2getK (P:=P) (w:=w) rfl rfl hu2 (pv 1) (pe_ix ix_list (pv 3) pe_int (fun _ _=>rfl)) (fun _ _=>rfl)) pa_nil)) pe_int (nomark _))))) (pss_cons (ps_set (i:=4) sc_leg_from.nd rfl (Or.inl rfl) (pe_ix ix_list (pv 3) pe_int (fun _ _=>rfl)))
   (pss_cons (ps_comp (ix:=3) (NC:=["linked","leg"]) sc_leg_from.nd rfl (Or.inl rfl) rfl (compOk2 (c:=s.heap.objs.size + 1) (j:=2) rfl (by decide +kernel) (by decide +kernel) rfl rfl rfl rfl rfl) (pi_list (NK.pe_2getK (P:=P) (w:=w) rfl rfl hu2 (pv 1) (pv 4) (fun _ _=>rfl))) (fun _ _ _ _=>(pg_name (i:=0) (show (["linked","leg"]:List Str).Nodup by decide +kernel) rfl (Or.inl rfl))) (fun _ _ _ _=>(pts_one (pt_cmpR (NK.op_ne2 (hr.lt 0 (by decide))) (pv 0) (pe_ix (ix_listK (K:=K) rfl) (pv 1) (pe_un un_neg pe_int) (fun _ _=>rfl)) (nomark _)))) (fun _ _ _ _=>(pv 0)))
   (pss_one (ps_expr (pe_bm PySem.F.plainAttrs_list PySem.F.slot_list_append PySem.F.type_list_append mt_append (pv 2) (pa_cons (pv 4) pa_nil)))))))
   (pss_one (ps_ret (pv 2)))))),?_⟩
  refine ⟨_,rfl,by show 1≤sizeLine;decide,fun lg hlg=>?_⟩
  have s1:Same H (upd H lg (.lst [.ref e])):=same_upd hlg
  have g1:upd H lg (.lst [.ref e]) lg = some (.lst [.ref e]):=upd_same
  generalize upd H lg (.lst [.ref e]) = H1 at s1 g1
  have lka:∀ {x:Mir.Nd} {H':Hp},x∈Mir.keysW W→Same H H'→∃ lx,NK.val2 (Mir.eV es) x = some (.ref lx)∧NK.Ths H' lx (Mir.lkW W x)∧H lx≠none:=fun {x H'} hx s'=>by
   obtain ⟨u,hu,rfl⟩:=Mir.mem_keys.mp hx
   obtain ⟨b,lx,_,v,t,_⟩:=T.at O.nd hu
   rw [O.lk hu]
   exact ⟨lx,v,NK.Ths.same t s',fun z=>by obtain ⟨bs,q,_⟩:=t;rw [z] at q;cases q⟩
  obtain ⟨l0,v0,t0,f0⟩:=lka hkw s1
  refine ⟨_,rfl,_,rfl,a,e,_,k,_,rfl,rfl,(T.same s1).d,NK.K2.same hk s1,v0,?_⟩
  have P0:Mir.Path W [k]:=⟨by simp,fun v hv=>by rw [List.mem_singleton.mp hv];exact hkw,fun i a b e1 e2=>by simp at e2,fun v hv=>by rw [List.mem_singleton.mp hv];omega,fun a e1=>by cases e1;exact hd⟩
  have lp:=P0.len
  refine ⟨fun m σ H2=>∃ (acc:List Mir.Nd) (p:Mir.Nd) (on:List Mir.Nd) (lon:Addr) (v4:Option V),m = W.length + 1 - acc.length∧σ = [some (.ref e),some (.ref a),some (.ref lg),some (.ref lon),v4]∧Same H H2∧NK.Ths H2 lg acc∧acc.getLast? = some p∧NK.Ths H2 lon on∧lon≠lg∧Mir.Path W acc∧(∀ x∈on,x∈Mir.lkW W p)∧(∀ q,2≤acc.length→acc[acc.length - 2]? = some q→∀ x∈on,x≠q)∧Mir.legR W (W.length + 1 - acc.length) p on acc = Mir.legOf W k,⟨_,[k],k,Mir.lkW W k,l0,_,rfl,rfl,s1,?_,rfl,t0,fun z=>f0 (by rw [z];exact hlg),P0,fun x h=>h,fun q h=>absurd h (by show ¬ 2≤1;decide),rfl⟩,?_⟩
  ·exact ⟨[e],g1,rfl,fun i b x e1 e2=>by
    cases i with
    | zero=>cases e1;cases e2;exact NK.K2.same hk s1
    | succ i=>cases e1⟩
  ·rintro m σ H2 ⟨acc,p,on,lon,v4,rfl,rfl,s2,tg,hp,ton,nlon,PP,hon,hq,hleg⟩
   have T2:=T.same s2
   obtain ⟨os,o1,o2,o3⟩:=id ton
   have al:=PP.len
   have out:∀ {D:Ends},(∀ H3,Same H H3→NK.Ths H3 lg (Mir.legOf W k)→D.nx [some (.ref e),some (.ref a),some (.ref lg),some (.ref lon),v4] H3)→acc = Mir.legOf W k→D.nx [some (.ref e),some (.ref a),some (.ref lg),some (.ref lon),v4] H2:=fun {D} hD hc=>hD H2 s2 (by rw [← hc];exact tg)
   have fin:∀ H3,Same H H3→NK.Ths H3 lg (Mir.legOf W k)→Q (.ref lg) H3:=fun H3 s3 t3=>kk lg H3 hlg s3 t3
   obtain ⟨n,en⟩:∃ n,W.length + 1 - acc.length = n + 1:=⟨W.length - acc.length,by omega⟩
   rw [en] at hleg
   refine ⟨_,rfl,lon,_,rfl,.inl (SqL.of o1),_,_,rfl,rfl,_,rfl,?_⟩
   cases on with
   | nil =>
    refine iteN (decide_eq_false (by rw [List.length_map,o2];decide)) ?_
    refine iteF ⟨_,rfl,fin H2 s2 ?_⟩
    rw [← hleg]
    exact tg
   | cons x r =>
    refine iteY (decide_eq_true (by rw [List.length_map,o2];show (0:Int) < ((r.length + 1:Nat):Int);omega)) ?_
    have e0:os[0]? = some (os[0]'(by rw [o2];exact Nat.succ_pos _)):=List.getElem?_eq_getElem _
    generalize os[0]'(by rw [o2];exact Nat.succ_pos _) = bx at e0
    have kx:=o3 0 bx x e0 rfl
    have hxp:=hon x List.mem_cons_self
    have hxk:=(O.lkk hxp).2.1
    obtain ⟨lx,vx,tx,fx⟩:=lka hxk s2
    obtain ⟨xs,x1,x2,x3⟩:=id tx
    have a0:atI (os.map V.ref) 0 = some (.ref bx):=atI_nat (j:=0) (by rw [List.getElem?_map,e0];rfl)
    refine ⟨_,rfl,_,rfl,lon,_,_,_,rfl,rfl,SqL.of o1,a0,a,bx,_,x,_,rfl,rfl,T2.d,kx,vx,lx,_,rfl,.inl (SqL.of x1),_,_,rfl,rfl,_,rfl,?_⟩
    by_cases c2:(Mir.lkW W x).length≤2
    ·refine iteY (decide_eq_true (by rw [List.length_map,x2];omega)) ?_
     refine ⟨_,fun _ _ q=>q,?_⟩
     refine ⟨_,rfl,lon,_,_,_,rfl,rfl,SqL.of o1,a0,?_⟩
     obtain ⟨gs,y1,y2,y3⟩:=id tg
     have ane:acc.length≠0:=fun z=>by
      rw [List.length_eq_zero_iff.mp z] at hp
      cases hp
     obtain ⟨bp,eg⟩:∃ bp,gs[gs.length - 1]? = some bp:=⟨_,List.getElem?_eq_getElem (show gs.length - 1 < gs.length by omega)⟩
     have kp:NK.K2 H2 p bp:=y3 _ bp p eg (by rw [y2,← List.getLast?_eq_getElem?];exact hp)
     have agl:atI (gs.map V.ref) (-1) = some (.ref bp):=Mir.atI_fin (by rw [List.getLast?_map,List.getLast?_eq_getElem?,eg];rfl)
     refine ⟨_,rfl,_,rfl,a,bx,_,x,_,rfl,rfl,T2.d,kx,vx,lx,rfl,⟨_,SqL.of x1⟩,fun D hD=>?_⟩
     have nDg:D≠lg:=fun z=>by rw [z,y1] at hD;cases hD
     refine comp_list (K:=K) (a:=lx) (xs:=xs.map V.ref) (fun i σ H3=>∃ v:Option V,σ = [v,some (.ref lg)]∧Same H2 H3∧NK.Ths H3 D (((Mir.lkW W x).take i).filter fun l=>decide (l≠p))) ⟨none,rfl,same_upd hD,[],upd_same,rfl,fun i b k e=>by simp at e⟩ (fun i σ H3 _ ⟨_,_,s3,_⟩=>SqL.of (s3 _ _ x1)) ?_ ?_
     ·rintro i z σ H3 hz ⟨v,rfl,s3,t3⟩
      rw [List.getElem?_map] at hz
      obtain ⟨b,eb,rfl⟩:=Option.map_eq_some_iff.mp hz
      have hi:i < (Mir.lkW W x).length:=by rw [← x2];exact (List.getElem?_eq_some_iff.mp eb).1
      have ey:=List.getElem?_eq_getElem hi
      generalize (Mir.lkW W x)[i] = y at ey
      have ky:=NK.K2.same (x3 i b y eb ey) s3
      have e3:((Mir.lkW W x).take (i + 1)).filter (fun l=>decide (l≠p)) = ((Mir.lkW W x).take i).filter (fun l=>decide (l≠p)) ++ (if y≠p then [y] else []):=by
       rw [Mir.take_snoc ey,List.filter_append,List.filter_cons,List.filter_nil]
       by_cases c:y = p
       ·rw [if_neg (by simp [c]),if_neg (fun z=>z c)]
       ·rw [if_pos (by simp [c]),if_pos c]
      refine ⟨_,rfl,_,rfl,_,rfl,lg,_,_,_,rfl,rfl,SqL.of (s3 _ _ y1),agl,b,bp,y,p,rfl,rfl,ky,NK.K2.same kp s3,_,rfl,?_⟩
      by_cases c:y = p
      ·rw [decide_eq_true c]
       refine iteF ⟨_,rfl,s3,?_⟩
       rw [e3,if_neg (fun z=>z c),List.append_nil]
       exact t3
      ·rw [decide_eq_false c]
       obtain ⟨ys,w1,w2,w3⟩:=t3.snoc ky
       refine iteT ⟨_,rfl,ys,w1,small1000 (by rw [w2];exact Nat.le_trans (List.length_filter_le _ _) (by rw [List.length_take];omega)),_,rfl,s3.upd hD,?_⟩
       rw [e3,if_pos c]
       exact w3
     ·rintro σ H3 ⟨v,rfl,s3,t3⟩
      rw [List.length_map,x2,List.take_length] at t3
      obtain ⟨ys,w1,w2,w3⟩:=(NK.Ths.same tg s3).snoc (NK.K2.same kx s3)
      refine ⟨_,rfl,.inl ⟨rfl,_,SqL.of w1⟩,_,rfl,lg,_,_,rfl,rfl,w1,small1000 (by rw [w2];omega),?_⟩
      have P2:=PP.snoc O hp hxp (fun q h1 h2=>hq q h1 h2 x List.mem_cons_self) c2
      have pl:=P2.len
      rw [List.length_append,List.length_singleton] at pl
      refine ⟨W.length + 1 - (acc ++ [x]).length,by rw [List.length_append,List.length_singleton];omega,acc ++ [x],x,_,D,_,rfl,rfl,(s2.trans s3).upd hlg,w3,List.getLast?_concat,NK.Ths.keep t3 (by rw [upd_ne nDg]) (fun c ys e=>by rw [upd_ne (fun z=>by rw [z,w1] at e;cases e)];exact e),nDg,P2,fun y hy=>(List.mem_filter.mp hy).1,fun q h1 h2 y hy=>?_,?_⟩
      ·rw [List.length_append,List.length_singleton,show acc.length + 1 - 2 = acc.length - 1 by omega,List.getElem?_append_left (by omega),← List.getLast?_eq_getElem?,hp] at h2
       cases h2
       exact of_decide_eq_true (List.mem_filter.mp hy).2
      ·rw [← hleg,List.length_append,List.length_singleton,show W.length + 1 - (acc.length + 1) = n by omega]
       show _ = (if (Mir.lkW W x).length≤2 then _ else acc)
       rw [if_pos c2]
    ·refine iteN (decide_eq_false (by rw [List.length_map,x2];omega)) ⟨_,rfl,fin H2 s2 ?_⟩
     have:Mir.legR W (n + 1) p (x :: r) acc = acc:=by
      show (if (Mir.lkW W x).length≤2 then _ else acc) = acc
      rw [if_neg c2]
     rw [this] at hleg
     rw [← hleg]
     exact tg
end
section
seal L2.PSs L2.PS L2.PE L2.PT L2.PA
variable {P:Program} {w:World} {K:PySem.W.Frag} {mg:Str→Option Value} {base:Heap}
theorem ok_knot_legs {f f1 f2 f3 f4:Addr} {fd fd1 fd2 fd3 fd4:FuncData} (B:Bl mg) (F:Fn K mg "knot_legs" s_knot_legs ["row"] f fd) (F_knots_in:Fn K mg "knots_in" s_knots_in ["row"] f1 fd1) (G_knots_in:FnOk P w K mg base CX0 4 f1 fd1 ["row"] Mir.spKnots)
  (F_thinned_web:Fn K mg "thinned_web" s_thinned_web ["row"] f2 fd2) (G_thinned_web:FnOk P w K mg base CX0 5 f2 fd2 ["row"] (Mir.spThin P w)) (F_ends_of:Fn K mg "ends_of" s_ends_of ["web"] f3 fd3) (F_leg_from:Fn K mg "leg_from" s_leg_from ["end","web"] f4 fd4):FnOk P w K mg base CX0 6 f fd ["row"] Mir.spLegs:=by
 have G_ends_of:FnOk P w K mg base CX0 1 f3 fd3 ["web"] (Mir.spEnds P w):=ok_ends_of B F_ends_of
 have G_leg_from:FnOk P w K mg base CX0 1 f4 fd4 ["end","web"] (Mir.spLeg P w):=ok_leg_from B F_leg_from
 refine F.fn.ok sc_knot_legs (fun vs H Q E h=>?_) (fun cdv A outer s H vs Q E hr h=>?_)
 ·obtain ⟨t,rs,rfl,_⟩:=h
  rfl
 ·obtain ⟨t,rs,rfl,ht,fit,k⟩:=h
  have hu2:=hr.lt 1 (by decide)
  refine ⟨_,(pss_cons (ps_set (i:=1) sc_knot_legs.nd rfl (Or.inr rfl) (pe_fn G_knots_in F_knots_in (hr.mono (by decide)) (pa_cons (pv 0) pa_nil)))
   (pss_cons (ps_set (i:=2) sc_knot_legs.nd rfl (Or.inr rfl) (pe_fn G_thinned_web F_thinned_web (hr.mono (by decide)) (pa_cons (pv 0) pa_nil)))
   (pss_cons (ps_comp (ix:=3) (NC:=["end","web"]) sc_knot_legs.nd rfl (Or.inl rfl) rfl (compOk2 (c:=s.heap.objs.size + 2) (j:=2) rfl (by decide +kernel) (by decide +kernel) rfl rfl rfl rfl rfl) (pi_list (pe_fn G_ends_of F_ends_of (hr.mono (by decide)) (pa_cons (pv 2) pa_nil))) (fun _ _ _ _=>(pg_name (i:=0) (show (["end","web"]:List Str).Nodup by decide +kernel) rfl (Or.inl rfl))) (fun _ _ _ _=>pts_nil) (fun _ _ _ _=>(pe_fn G_leg_from F_leg_from (hr.mono (by decide)) (pa_cons (pv 0) (pa_cons (pv 1) pa_nil)))))
   (pss_one (ps_ret (pe_comp (NC:=["leg","knots"]) rfl (compOk2 (c:=s.heap.objs.size + 1) (j:=1) rfl (by decide +kernel) (by decide +kernel) rfl rfl rfl rfl rfl) (pi_list (pv 3)) (fun _ _ _ _=>(pg_name (i:=0) (show (["leg","knots"]:List Str).Nodup by decide +kernel) rfl (Or.inl rfl))) (fun _ _ _ _=>pts_nil) (fun _ _ _ _=>(pe_callB (call_len_seqK (K:=K) rfl) rfl B.len bb_len (pa_cons (by exact (pe_comp (NC:=["thing","knots"]) rfl (compOk2 (c:=s.heap.objs.size + 1) (j:=1) rfl (by decide +kernel) (by decide +kernel) rfl rfl rfl rfl rfl) (pi_listK (K:=K) rfl (pv 0)) (fun _ _ _ _=>(pg_name (i:=0) (show (["thing","knots"]:List Str).Nodup by decide +kernel) rfl (Or.inl rfl))) (fun _ _ _ _=>(pts_one (pt_cmpR (NK.op_in2 (hr.lt 1 (by decide))) (pv 0) (pv 1) (by with_unfolding_all rfl)))) (fun _ _ _ _=>(pv 0)))) pa_nil))))))))),?_⟩
  obtain ⟨O,Wl,hsp⟩:=Mir.webT_ok fit
  obtain ⟨asc,kl,kr⟩:=Mir.knot_facts fit
  refine ⟨_,rfl,t,rs,rfl,ht,fit,fun lk H1 hlk s1 hK=>?_⟩
  refine ⟨_,rfl,t,rs,rfl,s1 _ _ ht,fit,fun a es H2 ha s2 T=>?_⟩
  have eL:Mir.legsF rs = (Mir.endsL (Mir.webT rs) (Mir.knotL (Mir.frm rs) (Mir.opn (Mir.frm rs) (rs.length + 1)))).map fun e=>((((Mir.legOf (Mir.webT rs) (Mir.pN e)).filter fun k=>decide (k∈(Mir.knotL (Mir.frm rs) (Mir.opn (Mir.frm rs) (rs.length + 1))).map Mir.pN)).length:Nat):Int):=rfl
  generalize Mir.knotL (Mir.frm rs) (Mir.opn (Mir.frm rs) (rs.length + 1)) = ks at hK hsp asc kl kr eL
  generalize Mir.webT rs = W at T O Wl hsp eL
  refine ⟨_,rfl,a,es,W,ks,rfl,T,O,Wl,hsp,asc,kl,kr,fun lE H3 hlE s3 tE=>?_⟩
  obtain ⟨us,u1,u2,u3⟩:=id tE
  have s03:=(s1.trans s2).trans s3
  have el:(Mir.endsL W ks).length≤60:=Nat.le_trans (List.length_filter_le _ _) kl
  refine ⟨lE,rfl,⟨_,SqL.of u1⟩,fun D hD=>?_⟩
  refine comp_list (K:=K) (a:=lE) (xs:=us.map V.ref) (fun i σ H4=>∃ (v:Option V) (ls:List Addr),σ = [v,some (.ref a)]∧Same H3 H4∧H4 D = some (.lst (ls.map V.ref))∧ls.length = i∧∀ (j:Nat) (l:Addr) (p:Int×Int),ls[j]? = some l→(Mir.endsL W ks)[j]? = some p→NK.Ths H4 l (Mir.legOf W (Mir.pN p))∧l≠D) ⟨none,[],rfl,same_upd hD,upd_same,rfl,fun j l p e=>by simp at e⟩ (fun i σ H4 _ ⟨_,_,_,s4,_⟩=>SqL.of (s4 _ _ u1)) ?_ ?_
  ·rintro i x σ H4 hx ⟨v,ls,rfl,s4,hD4,hl,hls⟩
   rw [List.getElem?_map] at hx
   obtain ⟨b,eb,rfl⟩:=Option.map_eq_some_iff.mp hx
   have hi:i < (Mir.endsL W ks).length:=by rw [← u2];exact (List.getElem?_eq_some_iff.mp eb).1
   have ep:=List.getElem?_eq_getElem hi
   generalize (Mir.endsL W ks)[i] = p at ep
   have hp:=s4 _ _ (u3 i b p eb ep)
   have hpm:=List.mem_of_getElem? ep
   have hpe:Mir.pN p∈Mir.keysW W∧(Mir.lkW W (Mir.pN p)).length≤1:=by
    have:=(List.mem_filter.mp hpm).2
    rw [Bool.and_eq_true,decide_eq_true_iff,decide_eq_true_iff] at this
    exact this
   refine gYes ?_
   refine ⟨_,rfl,_,rfl,b,a,es,W,Mir.pN p,rfl,T.same (s3.trans s4),O,Wl,NK.K2.pair hp,hpe.1,hpe.2,fun r H5 hr5 s5 tl=>?_⟩
   have nrD:r≠D:=fun z=>by rw [z,hD4] at hr5;cases hr5
   have gk:∀ c ys,H5 c = some (.tup ys)→upd H5 D (.lst (ls.map V.ref ++ [.ref r])) c = some (.tup ys):=fun c ys e=>by
    rw [upd_ne (fun z=>by rw [z,s5 _ _ hD4] at e;cases e)]
    exact e
   refine ⟨_,s5 _ _ hD4,small1000 (by rw [List.length_map];omega),_,ls ++ [r],rfl,(s4.trans s5).upd hD,by rw [upd_same,List.map_append];rfl,by rw [List.length_append,hl];rfl,fun j l q e1 e2=>?_⟩
   by_cases c:j < ls.length
   ·rw [List.getElem?_append_left c] at e1
    obtain ⟨t1,t2⟩:=hls j l q e1 e2
    exact ⟨NK.Ths.keep (NK.Ths.same t1 s5) (by rw [upd_ne t2]) gk,t2⟩
   ·have hj:=(List.getElem?_eq_some_iff.mp e1).1
    rw [List.length_append,List.length_singleton] at hj
    have ej:j = ls.length:=by omega
    subst ej
    rw [List.getElem?_append_right (Nat.le_refl _),Nat.sub_self] at e1
    rw [hl,ep] at e2
    cases e1
    cases e2
    exact ⟨NK.Ths.keep tl (by rw [upd_ne nrD]) gk,nrD⟩
  ·rintro σ H4 ⟨v,ls,rfl,s4,hD4,hl,hls⟩
   rw [List.length_map,u2] at hl
   have hK4:=hK.same ((s2.trans s3).trans s4)
   refine ⟨_,rfl,D,rfl,⟨_,SqL.of hD4⟩,fun R hR=>?_⟩
   refine comp_list (K:=K) (a:=D) (xs:=ls.map V.ref) (fun i σ H5=>∃ v:Option V,σ = [v,some (.ref lk)]∧Same H4 H5∧H5 R = some (.lst (Mir.iV ((Mir.legsF rs).take i)))) ⟨none,rfl,same_upd hR,upd_same⟩ (fun i σ H5 _ ⟨_,_,s5,_⟩=>SqL.of (s5 _ _ hD4)) ?_ ?_
   ·rintro i x σ H5 hx ⟨v,rfl,s5,hR5⟩
    rw [List.getElem?_map] at hx
    obtain ⟨l,el',rfl⟩:=Option.map_eq_some_iff.mp hx
    have hi:i < (Mir.endsL W ks).length:=by rw [← hl];exact (List.getElem?_eq_some_iff.mp el').1
    have ep:=List.getElem?_eq_getElem hi
    generalize (Mir.endsL W ks)[i] = p at ep
    have tl:=NK.Ths.same (hls i l p el' ep).1 s5
    obtain ⟨bs,b1,b2,b3⟩:=id tl
    refine gYes ?_
    refine ⟨_,rfl,l,rfl,⟨_,SqL.of b1⟩,fun D2 hD2=>?_⟩
    refine comp_list (K:=K) (a:=l) (xs:=bs.map V.ref) (fun j σ H6=>∃ v:Option V,σ = [v,some (.ref lk)]∧Same H5 H6∧NK.Ths H6 D2 (((Mir.legOf W (Mir.pN p)).take j).filter fun k=>decide (k∈ks.map Mir.pN))) ⟨none,rfl,same_upd hD2,[],upd_same,rfl,fun i b k e=>by simp at e⟩ (fun j σ H6 _ ⟨_,_,s6,_⟩=>SqL.of (s6 _ _ b1)) ?_ ?_
    ·rintro j y σ H6 hy ⟨v,rfl,s6,t6⟩
     rw [List.getElem?_map] at hy
     obtain ⟨b,eb,rfl⟩:=Option.map_eq_some_iff.mp hy
     have hj:j < (Mir.legOf W (Mir.pN p)).length:=by rw [← b2];exact (List.getElem?_eq_some_iff.mp eb).1
     have ez:=List.getElem?_eq_getElem hj
     generalize (Mir.legOf W (Mir.pN p))[j] = z at ez
     have kz:=NK.K2.same (b3 j b z eb ez) s6
     have bl:=Mir.legOf_len W (Mir.pN p)
     have e3:((Mir.legOf W (Mir.pN p)).take (j + 1)).filter (fun k=>decide (k∈ks.map Mir.pN)) = ((Mir.legOf W (Mir.pN p)).take j).filter (fun k=>decide (k∈ks.map Mir.pN)) ++ (if z∈ks.map Mir.pN then [z] else []):=by
      rw [Mir.take_snoc ez,List.filter_append,List.filter_cons,List.filter_nil]
      by_cases c:z∈ks.map Mir.pN
      ·rw [if_pos (decide_eq_true c),if_pos c]
      ·rw [if_neg (by rw [decide_eq_false c];decide),if_neg c]
     refine ⟨_,rfl,_,rfl,b,lk,z,_,rfl,rfl,kz,NK.Ths.same (hK4.same s5).ths s6,_,rfl,?_⟩
     by_cases c:z∈ks.map Mir.pN
     ·rw [decide_eq_true c]
      obtain ⟨ys,w1,w2,w3⟩:=t6.snoc kz
      refine iteT ⟨_,rfl,ys,w1,small1000 (by rw [w2];exact Nat.le_trans (List.length_filter_le _ _) (by rw [List.length_take];omega)),_,rfl,s6.upd hD2,?_⟩
      rw [e3,if_pos c]
      exact w3
     ·rw [decide_eq_false c]
      refine iteF ⟨_,rfl,s6,?_⟩
      rw [e3,if_neg c,List.append_nil]
      exact t6
    ·rintro σ H6 ⟨v,rfl,s6,t6⟩
     rw [List.length_map,b2,List.take_length] at t6
     obtain ⟨vs,v1,v2⟩:=t6.len
     have ll:(Mir.legsF rs).length = (Mir.endsL W ks).length:=by rw [eL,List.length_map]
     refine ⟨D2,_,rfl,.inl (SqL.of v1),_,s6 _ _ hR5,small1000 (by rw [Mir.iV_len,List.length_take];omega),_,rfl,(s5.trans s6).upd hR,?_⟩
     have e9:(Mir.legsF rs)[i]? = some ((((Mir.legOf W (Mir.pN p)).filter fun k=>decide (k∈ks.map Mir.pN)).length:Nat):Int):=by rw [eL,List.getElem?_map,ep];rfl
     rw [upd_same,Mir.take_snoc e9,v2]
     unfold Mir.iV
     rw [List.map_append]
     rfl
   ·rintro σ H5 ⟨v,rfl,s5,hR5⟩
    have ll:(Mir.legsF rs).length = (Mir.endsL W ks).length:=by rw [eL,List.length_map]
    rw [List.length_map,hl,← ll,List.take_length] at hR5
    exact k R H5 ((s03.trans s4).free hR) ((s03.trans s4).trans s5) hR5
end
section
seal L2.PSs L2.PS L2.PE L2.PT L2.PA
variable {P:Program} {w:World} {K:PySem.W.Frag} {mg:Str→Option Value} {base:Heap}
theorem ok_legs_cost {f:Addr} {fd:FuncData} (B:Bl mg) (F:Fn K mg "legs_cost" s_legs_cost ["legs"] f fd):FnOk P w K mg base CX0 1 f fd ["legs"] (Mir.spLegsCost K):=by
 refine F.fn.ok sc_legs_cost (fun vs H Q E h=>?_) (fun cdv A outer s H vs Q E hr h=>?_)
 ·obtain ⟨a,L,rfl,_⟩:=h
  rfl
 ·obtain ⟨a,L,rfl,hL,k⟩:=h
  refine ⟨_,(pss_cons (ps_set (i:=1) sc_legs_cost.nd rfl (Or.inl rfl) (pe_callB call_len_seq rfl B.len bb_len (pa_cons (pv 0) pa_nil)))
   (pss_cons (ps_if (PW.pt (pw_and (pt_cmpR op_eq (pe_op op_mod (pv 1) pe_int) pe_int (nomark _)) (pw_and (pt_cmpR op_gt (pv 1) pe_int (nomark _)) (pw_and1 (pt_cmpR op_notIn_seq pe_int (pv 0) (by with_unfolding_all rfl)))))) (pss_one (ps_ret (pe_op op_add (pv 1) pe_int))) pss_nil)
   (pss_one (ps_ret (pv 1))))),?_⟩
  refine ⟨_,rfl,a,_,rfl,hL,?_⟩
  dsimp only
  rw [Mir.iV_len]
  have no:¬ (L.length % 2 = 1∧1 < L.length∧(1:Int) ∉ L)→Q (.int (L.length:Nat)) H:=fun c=>by
   unfold Mir.costF at k
   rw [if_neg c] at k
   exact k
  refine ⟨_,rfl,_,_,rfl,rfl,by show (0:Int) < 2;decide,rfl,_,rfl,?_⟩
  by_cases c1:L.length % 2 = 1
  ·refine iteY (dInt (by omega)) ?_
   refine ⟨_,rfl,_,_,rfl,rfl,_,rfl,?_⟩
   by_cases c2:1 < L.length
   ·refine iteY (decide_eq_true (by omega)) ?_
    refine ⟨_,rfl,a,_,rfl,hL,rfl,Mir.flat_iV L,_,rfl,?_⟩
    rw [Mir.iV_in]
    by_cases c3:(1:Int)∈L
    ·rw [decide_eq_true c3]
     exact iteF ⟨_,rfl,no fun z=>z.2.2 c3⟩
    ·rw [decide_eq_false c3]
     refine iteT ⟨_,rfl,_,_,rfl,rfl,?_⟩
     unfold Mir.costF at k
     rw [if_pos ⟨c1,c2,c3⟩] at k
     exact k
   ·refine iteN (decide_eq_false (by omega)) (iteF ⟨_,rfl,no fun z=>c2 z.2.1⟩)
  ·refine iteN (dIntN (by omega)) (iteF ⟨_,rfl,no fun z=>c1 z.1⟩)
theorem ok_knot_cost {f f1 f2:Addr} {fd fd1 fd2:FuncData} (B:Bl mg) (F:Fn K mg "knot_cost" s_knot_cost ["row"] f fd) (F_legs_cost:Fn K mg "legs_cost" s_legs_cost ["legs"] f1 fd1) (F_knot_legs:Fn K mg "knot_legs" s_knot_legs ["row"] f2 fd2) (G_knot_legs:FnOk P w K mg base CX0 6 f2 fd2 ["row"] Mir.spLegs):FnOk P w K mg base CX0 7 f fd ["row"] Mir.spCost:=by
 have G_legs_cost:FnOk P w K mg base CX0 1 f1 fd1 ["legs"] (Mir.spLegsCost K):=ok_legs_cost B F_legs_cost
 refine F.fn.ok sc_knot_cost (fun vs H Q E h=>?_) (fun cdv A outer s H vs Q E hr h=>?_)
 ·obtain ⟨t,rs,rfl,_⟩:=h
  rfl
 ·obtain ⟨t,rs,rfl,ht,fit,k⟩:=h
  refine ⟨_,(pss_one (ps_ret (pe_fn G_legs_cost F_legs_cost (hr.mono (by decide)) (pa_cons (pe_fn G_knot_legs F_knot_legs (hr.mono (by decide)) (pa_cons (pv 0) pa_nil)) pa_nil)))),?_⟩
  refine ⟨_,rfl,t,rs,rfl,ht,fit,fun r H1 hr1 s1 h1=>?_⟩
  exact ⟨r,_,rfl,.inl (SqL.of h1),k H1 s1⟩
theorem ok_turn_score {f f1 f2:Addr} {fd fd1 fd2:FuncData} (B:Bl mg) (F:Fn K mg "turn_score" s_turn_score ["row"] f fd) (F_tie_rings:Fn K mg "tie_rings" s_tie_rings ["row"] f1 fd1) (G_tie_rings:FnOk P w K mg base CX0 3 f1 fd1 ["row"] Mir.spTieRings) (F_knot_cost:Fn K mg "knot_cost" s_knot_cost ["row"] f2 fd2) (G_knot_cost:FnOk P w K mg base CX0 7 f2 fd2 ["row"] Mir.spCost):FnOk P w K mg base CX0 8 f fd ["row"] Mir.spScoreT:=by
 refine F.fn.ok sc_turn_score (fun vs H Q E h=>?_) (fun cdv A outer s H vs Q E hr h=>?_)
 ·obtain ⟨t,rs,rfl,_⟩:=h
  rfl
 ·obtain ⟨t,rs,rfl,ht,fit,k⟩:=h
  refine ⟨_,(pss_one (ps_ret (pe_op op_add (pe_op op_sub (pe_op op_add (pe_callB call_len_seq rfl B.len bb_len (pa_cons (pv 0) pa_nil)) pe_int) (pe_callB call_len_seq rfl B.len bb_len (pa_cons (pe_fn G_tie_rings F_tie_rings (hr.mono (by decide)) (pa_cons (pv 0) pa_nil)) pa_nil))) (pe_fn G_knot_cost F_knot_cost (hr.mono (by decide)) (pa_cons (pv 0) pa_nil))))),?_⟩
  refine ⟨_,rfl,t,_,rfl,.inr (SqT.of ht),_,_,rfl,rfl,?_⟩
  refine ⟨_,rfl,t,rs,rfl,ht,fit,fun l H1 hl s1 h1=>?_⟩
  obtain ⟨vs,v1,v2⟩:=h1.len
  refine ⟨l,_,rfl,.inl (SqL.of v1),_,_,rfl,rfl,?_⟩
  refine ⟨_,rfl,t,rs,rfl,s1 _ _ ht,fit,fun H2 s2=>⟨_,_,rfl,rfl,?_⟩⟩
  have e:(((Mir.iV rs).length:Nat):Int) + 1 - ((vs.length:Nat):Int) + Mir.costF (Mir.legsF rs) = Mir.scoreF rs:=by
   unfold Mir.scoreF
   rw [Mir.iV_len,v2,Mir.rings_hung]
  show Q (V.int ((((Mir.iV rs).length:Nat):Int) + 1 - ((vs.length:Nat):Int) + Mir.costF (Mir.legsF rs))) H2
  rw [e]
  exact k H2 (s1.trans s2)
end
section
variable {P:Program} {w:World} {K:PySem.W.Frag} {mg:Str→Option Value} {base:Heap}
theorem ok_turn_about {f C:Addr} {fd:FuncData} (B:Bl mg) (Z:ECls K mg "BadStretch" C) (F:Fn K mg "turn_about" s_turn_about ["row","first","last"] f fd):FnOk P w K mg base (CXo P w) 1 f fd ["row","first","last"] (Mir.spTurnAbout C):=by
 refine F.fn.okX2 sc_turn_about (fun vs H Q E h=>?_) (fun cdv A outer s H vs Q E hr h own=>?_)
 ·obtain ⟨t,rs,f,l,rfl,_⟩:=h
  rfl
 ·obtain ⟨t,rs,fi,la,rfl,ht,hn,sf,sl,hgood,hbad⟩:=h
  have nd1:(["number"]:List Str).Nodup:=by decide +kernel
  have one:1≤sizeLine:=by decide
  have hlen:(((Mir.iV rs).length:Nat):Int) = rs.length:=by rw [Mir.iV_len]
  refine ⟨_,pss_cons (ps_if (pt_not (pt_chain3 op_le op_le op_lt pe_int (pv 1) (pv 2) (pe_callB call_len_seq rfl B.len bb_len (pa_cons (pv 0) pa_nil))))
     (pss_one (ps_raise rfl Z (pa_cons (pe_fs (pj_str (pj_int (pv 1) (pj_str (pj_int (pv 2) pj_nil)))) (by decide)) pa_nil))) pss_nil)
   (pss_cons (ps_comp (ix:=3) (NC:=["number"]) sc_turn_about.nd rfl (Or.inl rfl) rfl (compOk0 rfl (by decide +kernel) (by decide +kernel)) (pi_revT rfl B.reversed (pa_cons (pe_slice sl_tupA (pv 0) (po_some (pv 1)) (po_some (pe_op op_add (pv 2) pe_int))) pa_nil))
     (fun _ _ _ _=>pg_name (i:=0) nd1 rfl (Or.inl rfl)) (fun _ _ _ _=>pts_nil) (fun _ _ _ _=>pe_un un_neg (pv 0)))
   (pss_one (ps_ret (pe_op op_catA (pe_op op_catA (pe_slice sl_tupA (pv 0) po_none (po_some (pv 1))) (pe_callTy call_tuple_any rfl B.tuple bb_tuple (pa_cons (pv 3) pa_nil))) (pe_slice sl_tupA (pv 0) (po_some (pe_op op_add (pv 2) pe_int)) po_none))))),?_⟩
  refine ⟨_,rfl,_,_,rfl,rfl,_,rfl,?_⟩
  refine ite2 (fun h1=>?_) (fun h1=>?_)
  rotate_left
  ·have no:¬ Mir.TurnOk rs.length (fi,la):=fun G=>h1 (decide_eq_true G.1)
   exact ⟨_,rfl,iteT ⟨⟨_,rfl,rfl,⟨_,rfl,sf⟩,_,rfl,rfl,⟨_,rfl,sl⟩,trivial⟩,fun x=>⟨one,hbad no H (Same.refl _)⟩⟩⟩
  refine ⟨_,rfl,_,_,rfl,rfl,_,rfl,?_⟩
  refine ite2 (fun h2=>?_) (fun h2=>?_)
  rotate_left
  ·have no:¬ Mir.TurnOk rs.length (fi,la):=fun G=>h2 (decide_eq_true G.2.1)
   exact ⟨_,rfl,iteT ⟨⟨_,rfl,rfl,⟨_,rfl,sf⟩,_,rfl,rfl,⟨_,rfl,sl⟩,trivial⟩,fun x=>⟨one,hbad no H (Same.refl _)⟩⟩⟩
  refine ⟨_,rfl,t,_,rfl,.inr (SqT.of ht),_,_,rfl,rfl,_,rfl,?_⟩
  refine ite2 (fun h3=>?_) (fun h3=>?_)
  ·have no:¬ Mir.TurnOk rs.length (fi,la):=fun G=>by
    have z:=G.2.2
    have z2:la < (((Mir.iV rs).length:Nat):Int):=by rw [hlen];exact z
    rw [decide_eq_true z2] at h3
    cases h3
   exact ⟨⟨_,rfl,rfl,⟨_,rfl,sf⟩,_,rfl,rfl,⟨_,rfl,sl⟩,trivial⟩,fun x=>⟨one,hbad no H (Same.refl _)⟩⟩
  have h1:=of_decide_eq_true h1
  have h2:=of_decide_eq_true h2
  have h3:la < rs.length:=by
   refine Classical.byContradiction fun z=>h3 ?_
   have z2:¬ la < (((Mir.iV rs).length:Nat):Int):=by rw [hlen];exact z
   rw [decide_eq_false z2]
   rfl
  have ok:Mir.TurnOk rs.length (fi,la):=⟨h1,h2,h3⟩
  have hg:=hgood ok
  obtain ⟨f,rfl⟩:∃ f:Nat,fi = f:=⟨fi.toNat,by omega⟩
  obtain ⟨l,rfl⟩:∃ l:Nat,la = l:=⟨la.toNat,by omega⟩
  rw [Int.toNat_natCast,Int.toNat_natCast] at hg
  have hfl:f≤l:=by omega
  have hln:l < rs.length:=by omega
  have el:(l:Int) + 1 = ((l + 1:Nat):Int):=by omega
  have ivl:(Mir.iV rs).length = rs.length:=Mir.iV_len rs
  refine ⟨_,rfl,_,rfl,_,rfl,_,rfl,_,_,rfl,rfl,_,rfl,t,_,rfl,ht,fun p H1 s1 hp=>?_⟩
  have emid:cutV (Mir.iV rs) (some (f:Int)) (some ((l:Int) + 1)) = Mir.iV ((rs.drop f).take (l + 1 - f)):=by
   rw [el,Mir.cut_mid (by omega) (by omega)]
   unfold Mir.iV
   rw [List.map_take,List.map_drop]
  rw [emid] at hp
  generalize hmid:(rs.drop f).take (l + 1 - f) = mid at hp
  have hml:mid.length≤100:=by rw [← hmid,List.length_take,List.length_drop];omega
  refine ⟨p,_,rfl,SqT.of hp,fun D hD=>comp_revT (K:=K) (a:=p) (xs:=Mir.iV mid) (fun i σ H2=>∃ v:Option V,σ = [v]∧Same H1 H2∧H2 D = some (.lst (Mir.iV ((mid.reverse.take i).map fun x=>-x)))) ⟨none,rfl,same_upd hD,upd_same⟩ (fun i σ H2 _ ⟨_,_,s2,_⟩=>SqT.of (s2 _ _ hp)) ?_ ?_⟩
  ·rintro i y σ H2 hy ⟨v,rfl,s2,hd⟩
   have hrev:(Mir.iV mid).reverse = Mir.iV mid.reverse:=by unfold Mir.iV;rw [List.map_reverse]
   rw [hrev] at hy
   obtain ⟨x,hx,rfl⟩:=Mir.iV_get' hy
   refine gYes ?_
   refine ⟨_,rfl,_,rfl,_,hd,small1000 (by rw [Mir.iV_len,List.length_map,List.length_take,List.length_reverse];omega),_,rfl,s2.upd hD,?_⟩
   rw [upd_same,Mir.take_snoc hx,List.map_append]
   unfold Mir.iV
   rw [List.map_append]
   rfl
  ·rintro σ H2 ⟨v,rfl,s2,hd⟩
   rw [Mir.iV_len,List.take_of_length_le (by rw [List.length_reverse];exact Nat.le_refl _)] at hd
   have s12:=s1.trans s2
   refine ⟨_,rfl,_,rfl,_,rfl,t,_,rfl,s12 _ _ ht,fun p2 H3 s3 hp2=>?_⟩
   rw [Mir.cut_to (by omega)] at hp2
   refine ⟨_,rfl,D,_,rfl,.inl (s3 _ _ hd),fun p3 H4 s4 hp3=>?_⟩
   have l2:((Mir.iV rs).take f).length≤100:=by rw [List.length_take];omega
   have l3:(Mir.iV (mid.reverse.map fun x=>-x)).length≤100:=by rw [Mir.iV_len,List.length_map,List.length_reverse];exact hml
   refine ⟨p2,p3,_,_,rfl,rfl,s4 _ _ hp2,hp3,Nat.le_of_lt (small1000 (by omega)),fun p5 H5 s5 hp5=>?_⟩
   have s15:=((s12.trans s3).trans s4).trans s5
   refine ⟨_,rfl,_,rfl,_,_,rfl,rfl,_,rfl,t,_,rfl,s15 _ _ ht,fun p6 H6 s6 hp6=>?_⟩
   rw [el,Mir.cut_from (by omega)] at hp6
   have l6:((Mir.iV rs).drop (l + 1)).length≤100:=by rw [List.length_drop];omega
   refine ⟨p5,p6,_,_,rfl,rfl,s6 _ _ hp5,hp6,Nat.le_of_lt (small1000 (by rw [List.length_append];omega)),fun p7 H7 s7 hp7=>?_⟩
   refine hg p7 H7 ((s15.trans s6).trans s7) ?_
   rw [hp7,← Mir.turnP_parts hfl hln,hmid]
   unfold Mir.iV
   rw [List.map_append,List.map_append,List.map_take,List.map_drop]
end
section
variable {P:Program} {w:World} {K:PySem.W.Frag} {mg:Str→Option Value} {base:Heap}
theorem ok_turns_all {f:Addr} {fd:FuncData} (B:Bl mg) (F:Fn K mg "turns_all" s_turns_all ["many"] f fd):FnOk P w K mg base CX0 1 f fd ["many"] Mir.spTurnsAll:=by
 refine F.fn.ok sc_turns_all (fun vs H Q E h=>?_) (fun cdv A outer s H vs Q E hr h=>?_)
 ·obtain ⟨n,rfl,_⟩:=h
  rfl
 ·obtain ⟨n,rfl,hn,k⟩:=h
  have nd2:(["last","first"]:List Str).Nodup:=by decide +kernel
  refine ⟨_,pss_cons (ps_set (i:=1) sc_turns_all.nd rfl (Or.inl rfl) (pe_lst pa_nil))
   (pss_cons (ps_for PassesOwn.never rfl (pi_range1 rfl B.range (pa_cons (pv 0) pa_nil)) (pg_name (i:=2) sc_turns_all.nd rfl (Or.inr rfl))
    (pss_one (ps_expr (pe_bm PySem.F.plainAttrs_list PySem.F.slot_list_extend PySem.F.type_list_extend mt_extend (pv 1) (pa_cons (pe_comp (NC:=["last","first"]) rfl (compOk2 (c:=s.heap.objs.size + 1) (j:=2) rfl (by decide +kernel) (by decide +kernel) rfl rfl rfl rfl rfl)
     (pi_range2 rfl B.range (pa_cons (pv 2) (pa_cons (pv 0) pa_nil))) (fun _ _ _ _=>pg_name (i:=0) nd2 rfl (Or.inl rfl)) (fun _ _ _ _=>pts_nil) (fun _ _ _ _=>pe_tup (pa_cons (pv 1) (pa_cons (pv 0) pa_nil)))) pa_nil)))))
   (pss_one (ps_ret (pv 1)))),?_⟩
  refine ⟨by show 0≤sizeLine;decide,fun l hl=>?_⟩
  have s0:Same H (upd H l (.lst [])):=same_upd hl
  refine ⟨_,rfl,_,rfl,by omega,by omega,for_range (lo:=0) (n:=((n:Nat):Int).toNat) (fun i σ H2=>∃ v2:Option V,σ = [some (.int n),some (.ref l),v2]∧Same H H2∧Mir.TsT Mir.pr H2 l (Mir.allTurns n i)) ⟨none,rfl,s0,Mir.TsT.nil upd_same⟩ ?_ ?_⟩
  ·rintro i σ H2 hi ⟨v2,rfl,s2,hT⟩
   have hi':i < n:=by omega
   rw [Int.zero_add]
   obtain ⟨vs,hv1,hv2⟩:=hT.len
   have hlT:=Mir.allTurns_len n i
   have h40:n * i≤1600:=Nat.mul_le_mul hn (by omega:i≤40)
   refine ⟨_,rfl,.inl ⟨rfl,_,SqL.of hv1⟩,_,rfl,_,rfl,_,_,rfl,⟨by omega,by omega,by omega,by omega⟩,fun D hD=>?_⟩
   refine comp_range (fun j σ H3=>∃ v:Option V,σ = [v,some (.int i)]∧Same H2 H3∧Mir.TsT Mir.pr H3 D ((List.range j).map fun (m:Nat)=>((i:Int),(i:Int) + m))) ⟨none,rfl,same_upd hD,Mir.TsT.nil upd_same⟩ ?_ ?_
   ·rintro j σ H3 hj ⟨v,rfl,s3,hR⟩
    refine gYes ?_
    refine ⟨_,rfl,_,rfl,by show 2≤sizeLine;decide,fun tp htp=>?_⟩
    have s4:Same H3 (upd H3 tp (.tup [.int i,.int ((i:Int) + j)])):=same_upd htp
    obtain ⟨ys,y1,y2,y3⟩:=(hR.same s4).snoc (t:=tp) (x:=((i:Int),(i:Int) + j)) upd_same
    refine ⟨_,y1,small1000 (by rw [y2,List.length_map,List.length_range];omega),_,rfl,(s3.trans s4).upd hD,?_⟩
    rw [List.range_succ,List.map_append]
    exact y3
   ·rintro σ H3 ⟨v,rfl,s3,hR⟩
    have e:((n:Int) - (i:Int)).toNat = n - i:=by omega
    rw [e] at hR
    obtain ⟨us,hu1,hu2⟩:=hR.tup
    obtain ⟨ts,ht1,ht2⟩:=(hT.same s3).tup
    have lt:ts.length = (Mir.allTurns n i).length:=ht2.1
    have lu:us.length = n - i:=by rw [hu2.1,List.length_map,List.length_range]
    refine ⟨l,D,_,_,rfl,rfl,ht1,hu1,Nat.le_of_lt (Nat.lt_of_le_of_lt (by rw [List.length_map,List.length_map];exact (show _≤1700 by omega)) (by decide)),_,rfl,(s2.trans s3).upd hl,?_⟩
    rw [Mir.allTurns_succ]
    exact ((ht2.app hu2).upd ht1).tst (by rw [upd_same,List.map_append])
  ·rintro σ H2 ⟨v2,rfl,s2,hT⟩
   have e:((n:Nat):Int).toNat = n:=by omega
   rw [e] at hT
   exact ⟨_,rfl,k l H2 hl s2 hT⟩
end
section
variable {P:Program} {w:World} {K:PySem.W.Frag} {mg:Str→Option Value} {base:Heap}
theorem ok_law_cell_at {f:Addr} {fd:FuncData} (B:Bl mg) (F:Fn K mg "_law_cell_at" s_law_cell_at ["script","k"] f fd):FnOk P w K mg base CX0 1 f fd ["script","k"] (Mir.spCellAt K):=by
 refine F.fn.ok sc_law_cell_at (fun vs H Q E h=>?_) (fun cdv A outer s H vs Q E hr h=>?_)
 ·obtain ⟨a,ns,k,rfl,_⟩:=h
  rfl
 ·obtain ⟨a,ns,k,rfl,hS,q⟩:=h
  refine ⟨_,pss_cons (ps_if (pt_cmpR op_lt (pv 1) (pe_callB call_len_seq rfl B.len bb_len (pa_cons (pv 0) pa_nil)) (nomark _)) (pss_one (ps_ret (pe_ix ix_list (pv 0) (pv 1) (fun _ _=>rfl)))) pss_nil) (pss_one (ps_ret pe_int)),?_⟩
  refine ⟨_,rfl,_,rfl,a,_,rfl,.inl hS,_,_,rfl,rfl,_,rfl,?_⟩
  refine ite2 (fun h1=>?_) (fun h1=>?_)
  ·have h1:=of_decide_eq_true h1
   rw [List.length_map] at h1
   have hk:k < ns.length:=by omega
   have e:(ns.map V.int)[k]? = some (.int ns[k]):=by rw [List.getElem?_map,List.getElem?_eq_getElem hk];rfl
   exact ⟨_,rfl,_,rfl,a,_,_,_,rfl,rfl,hS,atI_nat e,q _⟩
  ·exact q 0
end
section
variable {P:Program} {w:World} {K:PySem.W.Frag} {mg:Str→Option Value} {base:Heap}
theorem ok_law_row_by {f fC:Addr} {fd fdC:FuncData} (B:Bl mg) (F:Fn K mg "_law_row_by" s_law_row_by ["script","at","many"] f fd) (FC:Fn K mg "_law_cell_at" s_law_cell_at ["script","k"] fC fdC):FnOk P w K mg base CX0 2 f fd ["script","at","many"] (Mir.spRowBy K):=by
 have GC:FnOk P w K mg base CX0 1 fC fdC ["script","k"] (Mir.spCellAt K):=ok_law_cell_at B FC
 refine F.fn.ok sc_law_row_by (fun vs H Q E h=>?_) (fun cdv A outer s H vs Q E hr h=>?_)
 ·obtain ⟨a,ns,at',many,rfl,_⟩:=h
  rfl
 ·obtain ⟨a,ns,at',many,rfl,hS,hm,k⟩:=h
  refine ⟨_,pss_cons (ps_set (i:=3) sc_law_row_by.nd rfl (Or.inl rfl) (pe_lst pa_nil))
   (pss_cons (ps_for PassesOwn.never rfl (pi_range1 rfl B.range (pa_cons (pv 2) pa_nil)) (pg_name (i:=4) sc_law_row_by.nd rfl (Or.inl rfl))
    (pss_cons (ps_set (i:=5) sc_law_row_by.nd rfl (Or.inl rfl) (pe_op op_mod (pe_fn GC FC hr (pa_cons (pv 0) (pa_cons (pe_op op_add (pv 1) (pv 4)) pa_nil))) (pe_op op_pow pe_int pe_int)))
    (pss_cons (ps_set (i:=6) sc_law_row_by.nd rfl (Or.inl rfl) (pe_op op_mod (pe_op op_fdiv (pv 5) pe_int) (pe_op op_add (pe_callB call_len_seq rfl B.len bb_len (pa_cons (pv 3) pa_nil)) pe_int)))
    (pss_cons (ps_set (i:=7) sc_law_row_by.nd rfl (Or.inl rfl) (pe_ix ix_list (pe_lst (pa_cons (pe_op op_add (pv 4) pe_int) (pa_cons (pe_op op_sub (pe_op op_sub pe_int (pv 4)) pe_int) pa_nil))) (pe_op op_mod (pv 5) pe_int) (fun _ _=>rfl)))
    (pss_one (ps_set (i:=3) sc_law_row_by.nd rfl (Or.inl rfl) (pe_op op_cat (pe_op op_cat (pe_slice sl_list (pv 3) po_none (po_some (pv 6))) (pe_lst (pa_cons (pv 7) pa_nil))) (pe_slice sl_list (pv 3) (po_some (pv 6)) po_none))))))))
   (pss_one (ps_ret (pe_callTy call_tuple_any rfl B.tuple bb_tuple (pa_cons (pv 3) pa_nil))))),?_⟩
  refine ⟨by show 0≤sizeLine;decide,fun l0 hl0=>?_⟩
  have s0:Same H (upd H l0 (.lst [])):=same_upd hl0
  refine ⟨_,rfl,_,rfl,by omega,by omega,for_range (lo:=0) (n:=((many:Nat):Int).toNat) (fun i σ H2=>∃ (l:Addr) (rs:List Int) (v4 v5 v6 v7:Option V),σ = [some (.ref a),some (.int at'),some (.int many),some (.ref l),v4,v5,v6,v7]∧Same H H2∧H2 l = some (.lst (Mir.iV rs))∧rs.length = i∧(Mir.absL rs).Perm (Mir.from1 i))
   ⟨l0,[],none,none,none,none,rfl,s0,upd_same,rfl,List.Perm.refl _⟩ ?_ ?_⟩
  ·rintro i σ H2 hi ⟨l,rs,v4,v5,v6,v7,rfl,s2,hl,hlr,hp⟩
   have hi':i < many:=by omega
   rw [Int.zero_add]
   have p12:(0:Int) < 10 ^ (12:Int).toNat:=by decide +kernel
   have hrl:(((Mir.iV rs).length:Nat):Int) = i:=by rw [Mir.iV_len,hlr]
   have ea:(at':Int) + (i:Int) = ((at' + i:Nat):Int):=by omega
   refine ⟨_,rfl,_,rfl,_,rfl,_,_,rfl,rfl,a,ns,at' + i,(by show [V.ref a,V.int ((at':Int) + (i:Int))] = _;rw [ea]),s2.seq hS,fun c=>?_⟩
   refine ⟨_,_,rfl,rfl,⟨by decide,by decide,by decide⟩,_,_,rfl,rfl,p12,?_⟩
   dsimp only
   generalize c % 10 ^ (12:Int).toNat = d
   have g0:0≤d / 2 % ((i:Int) + 1):=Int.emod_nonneg _ (by omega)
   have g1:d / 2 % ((i:Int) + 1) < (i:Int) + 1:=Int.emod_lt_of_pos _ (by omega)
   obtain ⟨spot,hspot⟩:∃ spot:Nat,d / 2 % ((i:Int) + 1) = spot:=⟨(d / 2 % ((i:Int) + 1)).toNat,by omega⟩
   have hsp:spot≤rs.length:=by omega
   refine ⟨_,rfl,_,_,rfl,rfl,⟨by decide,by decide⟩,_,rfl,l,_,rfl,.inl (SqL.of hl),_,_,rfl,rfl,_,_,rfl,rfl,by rw [hrl];omega,?_⟩
   dsimp only
   rw [hrl,hspot]
   refine ⟨_,rfl,_,_,rfl,rfl,_,rfl,_,_,rfl,rfl,_,_,rfl,rfl,by show 2≤sizeLine;decide,fun lq hlq=>?_⟩
   have s3:Same H2 (upd H2 lq (.lst [.int ((i:Int) + 1),.int (0 - (i:Int) - 1)])):=same_upd hlq
   have hd:d % 2 = 0∨d % 2 = 1:=by omega
   obtain ⟨x,hx,hax⟩:∃ x:Int,atI [V.int ((i:Int) + 1),V.int (0 - (i:Int) - 1)] (d % 2) = some (.int x)∧Mir.absI x = (rs.length:Int) + 1:=by
    rcases hd with e | e
    ·exact ⟨(i:Int) + 1,by rw [e];rfl,by unfold Mir.absI;rw [if_neg (by omega),hlr]⟩
    ·exact ⟨0 - (i:Int) - 1,by rw [e];rfl,by unfold Mir.absI;rw [if_pos (by omega),hlr];omega⟩
   refine ⟨_,rfl,_,_,rfl,rfl,(by show (0:Int) < 2;decide),lq,_,_,_,rfl,rfl,SqL.of upd_same,hx,?_⟩
   have ivl:spot≤(Mir.iV rs).length:=by rw [Mir.iV_len];exact hsp
   refine ⟨_,rfl,_,rfl,_,rfl,l,_,rfl,SqL.of (s3 _ _ hl),fun p1 hp1=>?_⟩
   rw [Mir.cut_to ivl] at *
   have s4:Same (upd H2 lq (.lst [.int ((i:Int) + 1),.int (0 - (i:Int) - 1)])) (upd (upd H2 lq (.lst [.int ((i:Int) + 1),.int (0 - (i:Int) - 1)])) p1 (.lst ((Mir.iV rs).take spot))):=same_upd hp1
   have hp1':=upd_same (H:=upd H2 lq (.lst [.int ((i:Int) + 1),.int (0 - (i:Int) - 1)])) (a:=p1) (o:=.lst ((Mir.iV rs).take spot))
   generalize upd (upd H2 lq (.lst [.int ((i:Int) + 1),.int (0 - (i:Int) - 1)])) p1 (.lst ((Mir.iV rs).take spot)) = H3 at s4 hp1' ⊢
   refine ⟨_,rfl,by show 1≤sizeLine;decide,fun p2 hp2=>?_⟩
   have n12:p1≠p2:=ne_of_none hp1' hp2
   have tl:((Mir.iV rs).take spot).length≤40:=by rw [List.length_take,Mir.iV_len];omega
   refine ⟨p1,p2,_,_,rfl,rfl,by rw [upd_ne n12];exact hp1',upd_same,Nat.le_of_lt (small1000 (by show _ + 1≤1000;omega)),fun p3 hp3=>?_⟩
   have hp3':=upd_same (H:=upd H3 p2 (.lst [.int x])) (a:=p3) (o:=.lst ((Mir.iV rs).take spot ++ [.int x]))
   have s5:Same H3 (upd (upd H3 p2 (.lst [.int x])) p3 (.lst ((Mir.iV rs).take spot ++ [.int x]))):=(same_upd hp2).trans (same_upd hp3)
   generalize upd (upd H3 p2 (.lst [.int x])) p3 (.lst ((Mir.iV rs).take spot ++ [.int x])) = H4 at hp3' s5 ⊢
   have s34:=(s3.trans s4).trans s5
   refine ⟨_,rfl,_,rfl,_,rfl,l,_,rfl,SqL.of (s34 _ _ hl),fun p4 hp4=>?_⟩
   rw [Mir.cut_from ivl]
   have n34:p3≠p4:=ne_of_none hp3' hp4
   have dl:((Mir.iV rs).drop spot).length≤40:=by rw [List.length_drop,Mir.iV_len];omega
   refine ⟨p3,p4,_,_,rfl,rfl,by rw [upd_ne n34];exact hp3',upd_same,Nat.le_of_lt (small1000 (by rw [List.length_append];show _ + 1 + _≤1000;omega)),fun p5 hp5=>?_⟩
   have el:(Mir.iV rs).take spot ++ [V.int x] ++ (Mir.iV rs).drop spot = Mir.iV (rs.take spot ++ [x] ++ rs.drop spot):=by unfold Mir.iV;rw [List.map_append,List.map_append,List.map_take,List.map_drop];rfl
   refine ⟨p5,rs.take spot ++ [x] ++ rs.drop spot,_,_,_,_,rfl,(s2.trans s34).trans ((same_upd hp4).trans (same_upd hp5)),by rw [upd_same,el],?_,?_⟩
   ·rw [List.length_append,List.length_append,List.length_take,List.length_drop]
    show _ + 1 + _ = _
    omega
   ·have z:=Mir.put_perm (spot:=spot) (by rw [hlr];exact hp) hax
    rw [hlr] at z
    exact z
  ·rintro σ H2 ⟨l,rs,v4,v5,v6,v7,rfl,s2,hl,hlr,hp⟩
   have e:((many:Nat):Int).toNat = many:=by omega
   rw [e] at hlr hp
   exact ⟨_,rfl,l,_,rfl,.inl hl,fun t H3 s3 ht=>k t H3 rs (s2.trans s3) ht hlr ⟨by omega,by rw [hlr];exact hp⟩⟩
end
section
variable {P:Program} {w:World} {K:PySem.W.Frag} {mg:Str→Option Value} {base:Heap}
theorem ok_law_turn {f:Addr} {fd:FuncData} (B:Bl mg) (F:Fn K mg "_law_turn" s_law_turn ["row","first","last"] f fd):FnOk P w K mg base CX0 1 f fd ["row","first","last"] Mir.spLawTurn:=by
 refine F.fn.ok sc_law_turn (fun vs H Q E h=>?_) (fun cdv A outer s H vs Q E hr h=>?_)
 ·obtain ⟨t,rs,f,l,rfl,_⟩:=h
  rfl
 ·obtain ⟨t,rs,f,l,rfl,ht,hn,hfl,hln,k⟩:=h
  have ivl:(Mir.iV rs).length = rs.length:=Mir.iV_len rs
  refine ⟨_,pss_cons (ps_set (i:=3) sc_law_turn.nd rfl (Or.inl rfl) (pe_callTy call_list_of rfl B.list bb_list (pa_cons (pv 0) pa_nil)))
   (pss_cons (ps_for PassesOwn.never rfl (pi_range2 rfl B.range (pa_cons (pv 1) (pa_cons (pe_op op_add (pv 2) pe_int) pa_nil))) (pg_name (i:=4) sc_law_turn.nd rfl (Or.inl rfl))
    (pss_one (ps_asg (pe_op op_sub pe_int (pe_ix ix_tup (pv 0) (pe_op op_sub (pe_op op_add (pv 1) (pv 2)) (pv 4)) (fun _ _=>rfl))) (pg_sub (pv 3) (pv 4) set_list))))
   (pss_one (ps_ret (pe_callTy call_tuple_any rfl B.tuple bb_tuple (pa_cons (pv 3) pa_nil))))),?_⟩
  refine ⟨_,rfl,t,_,rfl,.inr (SqT.of ht),fun b hb=>?_⟩
  have s0:Same H (upd H b (.lst (Mir.iV rs))):=same_upd hb
  let T:Nat→List Int:=fun i=>(List.range rs.length).map fun j=>if f≤j∧j < f + i then - rs.getD (f + l - j) 0 else rs.getD j 0
  have T0:T 0 = rs:=List.ext_getElem? fun j=>by
   show ((List.range rs.length).map _)[j]? = _
   by_cases hj:j < rs.length
   ·rw [List.getElem?_map,List.getElem?_range hj,Mir.getD_get hj]
    show some (if f≤j∧j < f + 0 then _ else _) = _
    rw [if_neg (by omega)]
   ·rw [List.getElem?_eq_none (by rw [List.length_map,List.length_range];omega),List.getElem?_eq_none (by omega)]
  have TL:∀ i,(T i).length = rs.length:=fun i=>by show ((List.range rs.length).map _).length = _;rw [List.length_map,List.length_range]
  have TS:∀ i,f + i < rs.length→T (i + 1) = (T i).set (f + i) (0 - rs.getD (f + l - (f + i)) 0):=fun i hi=>List.ext_getElem? fun j=>by
   rw [List.getElem?_set,TL]
   show ((List.range rs.length).map _)[j]? = if f + i = j then _ else ((List.range rs.length).map _)[j]?
   by_cases hj:j < rs.length
   ·rw [List.getElem?_map,List.getElem?_map,List.getElem?_range hj]
    show some (if f≤j∧j < f + (i + 1) then _ else _) = if f + i = j then _ else some (if f≤j∧j < f + i then _ else _)
    by_cases e:f + i = j
    ·rw [if_pos (by omega),if_pos e,if_pos (by omega),e]
     congr 1
     omega
    ·rw [if_neg e]
     by_cases c:f≤j∧j < f + i
     ·rw [if_pos (by omega),if_pos c]
     ·rw [if_neg (by omega),if_neg c]
   ·rw [List.getElem?_eq_none (by rw [List.length_map,List.length_range];omega),if_neg (by omega),List.getElem?_eq_none (by rw [List.length_map,List.length_range];omega)]
  have TE:T (l + 1 - f) = Mir.turnP rs f l:=by
   show (List.range rs.length).map _ = (List.range rs.length).map _
   refine List.map_congr_left fun j _=>?_
   by_cases c:f≤j∧j≤l
   ·rw [if_pos (by omega),if_pos c]
   ·rw [if_neg (by omega),if_neg c]
  refine ⟨_,rfl,_,rfl,_,_,rfl,rfl,_,_,rfl,⟨by omega,by omega,by omega,by omega⟩,for_range (lo:=(f:Int)) (n:=((l:Int) + 1 - (f:Int)).toNat) (fun i σ H2=>∃ v4:Option V,σ = [some (.ref t),some (.int f),some (.int l),some (.ref b),v4]∧Same H H2∧H2 b = some (.lst (Mir.iV (T i)))) ⟨none,rfl,s0,by rw [upd_same,T0]⟩ ?_ ?_⟩
  ·rintro i σ H2 hi ⟨v4,rfl,s2,hb2⟩
   have hi':f + i≤l:=by omega
   have ex:(f:Int) + (l:Int) - ((f:Int) + (i:Int)) = ((f + l - (f + i):Nat):Int):=by omega
   have hx:(Mir.iV rs)[f + l - (f + i)]? = some (.int (rs.getD (f + l - (f + i)) 0)):=Mir.iV_get (Mir.getD_get (by omega))
   refine ⟨_,rfl,_,rfl,_,rfl,_,_,rfl,rfl,_,rfl,_,_,rfl,rfl,t,_,_,_,rfl,rfl,SqT.of (s2 _ _ ht),(by rw [ex];exact atI_nat hx),_,_,rfl,rfl,?_⟩
   refine ⟨_,rfl,_,rfl,b,_,_,f + i,rfl,rfl,hb2,?_,?_⟩
   ·rw [Mir.iV_len,TL]
    have e:(f:Int) + (i:Int) = ((f + i:Nat):Int):=by omega
    rw [e]
    unfold ixN
    rw [if_pos (by omega),if_pos (by omega),Int.toNat_natCast]
   ·refine ⟨_,rfl,s2.upd hb,?_⟩
    rw [upd_same,TS i (by omega)]
    unfold Mir.iV
    rw [List.map_set]
  ·rintro σ H2 ⟨v4,rfl,s2,hb2⟩
   have e:((l:Int) + 1 - (f:Int)).toNat = l + 1 - f:=by omega
   rw [e,TE] at hb2
   exact ⟨_,rfl,b,_,rfl,.inl hb2,fun t' H3 s3 ht3=>k t' H3 (s2.trans s3) ht3⟩
end
section
seal L2.PSs L2.PS L2.PE L2.PT L2.PA
variable {P:Program} {w:World} {K:PySem.W.Frag} {mg:Str→Option Value} {base:Heap}
theorem ok_fewest_turns {f f1 f2 f3 C:Addr} {fd fd1 fd2 fd3:FuncData} (B:Bl mg) (F:Fn K mg "fewest_turns" s_fewest_turns ["row"] f fd) (F_turn_score:Fn K mg "turn_score" s_turn_score ["row"] f1 fd1) (G_turn_score:FnOk P w K mg base CX0 8 f1 fd1 ["row"] Mir.spScoreT) (F_turn_about:Fn K mg "turn_about" s_turn_about ["row","first","last"] f2 fd2) (G_turn_about:FnOk P w K mg base (CXo P w) 1 f2 fd2 ["row","first","last"] (Mir.spTurnAbout C)) (F_turns_all:Fn K mg "turns_all" s_turns_all ["many"] f3 fd3):FnOk P w K mg base CX0 9 f fd ["row"] Mir.spFewT:=by
 have G_turns_all:FnOk P w K mg base CX0 1 f3 fd3 ["many"] Mir.spTurnsAll:=ok_turns_all B F_turns_all
 refine F.fn.ok sc_fewest_turns (fun vs H Q E h=>?_) (fun cdv A outer s H vs Q E hr h=>?_)
 ·obtain ⟨t,rs,rfl,_⟩:=h
  rfl
 ·obtain ⟨t,rs,rfl,ht,fit,h4,k⟩:=h
  refine ⟨_,(pss_cons (ps_set (i:=1) sc_fewest_turns.nd rfl (Or.inl rfl) (pe_lst pa_nil))
   (pss_cons (ps_set (i:=2) sc_fewest_turns.nd rfl (Or.inl rfl) (pv 0))
   (pss_cons (ps_set (i:=3) sc_fewest_turns.nd rfl (Or.inl rfl) (pe_fn G_turn_score F_turn_score (hr.mono (by decide)) (pa_cons (pv 0) pa_nil)))
   (pss_cons (ps_while PassesOwn.never (pt_cmpR op_gt (pv 3) pe_int (nomark _)) (pss_cons (ps_aug (i:=3) sc_fewest_turns.nd rfl (Or.inl rfl) pe_int iop_sub)
   (pss_one (ps_for PassesOwn.never rfl (pi_list (pe_fn G_turns_all F_turns_all (hr.mono (by decide)) (pa_cons (pe_callB call_len_seq rfl B.len bb_len (pa_cons (pv 0) pa_nil)) pa_nil))) (pg_tup rfl (pgs_cons (pg_name (i:=4) sc_fewest_turns.nd rfl (Or.inl rfl)) (pgs_cons (pg_name (i:=5) sc_fewest_turns.nd rfl (Or.inl rfl)) pgs_nil))) (pss_cons (ps_set (i:=6) sc_fewest_turns.nd rfl (Or.inl rfl) (pe_fnF G_turn_about F_turn_about (hr.mono (by decide)) (pa_cons (pv 2) (pa_cons (pv 4) (pa_cons (pv 5) pa_nil)))))
   (pss_one (ps_if (pt_cmpR op_eq (pe_fn G_turn_score F_turn_score (hr.mono (by decide)) (pa_cons (pv 6) pa_nil)) (pv 3) (nomark _)) (pss_cons (ps_expr (pe_bm PySem.F.plainAttrs_list PySem.F.slot_list_append PySem.F.type_list_append mt_append (pv 1) (pa_cons (pe_tup (pa_cons (pv 4) (pa_cons (pv 5) pa_nil))) pa_nil)))
   (pss_cons (ps_set (i:=2) sc_fewest_turns.nd rfl (Or.inl rfl) (pv 6))
   (pss_one ps_break))) pss_nil)))))))
   (pss_one (ps_ret (pv 1))))))),?_⟩
  refine ⟨by show 0≤sizeLine;decide,fun l hl=>?_⟩
  have s1:Same H (upd H l (.lst [])):=same_upd hl
  have u1:upd H l (.lst []) l = some (.lst []):=upd_same
  generalize upd H l (.lst []) = H1 at s1 u1
  refine ⟨_,rfl,?_⟩
  refine ⟨_,rfl,t,rs,rfl,s1 _ _ ht,fit,fun H2 s2=>?_⟩
  rw [Mir.sc_tb fit h4]
  have big:∀ x:Nat,x≤5000→x < sizeLine:=fun x hx=>Nat.lt_of_le_of_lt hx (by decide)
  have tb8:∀ r,Mir.tb r < 8:=fun r=>Nat.mod_lt _ (by decide)
  obtain ⟨W,hW⟩:∃ W:Nat→L2.St→Hp→Prop,W = fun m σ H3=>∃ (tn:Addr) (now:List Int) (cs:List (Int×Int)) (v4 v5 v6:Option V),σ = [some (.ref t),some (.ref l),some (.ref tn),some (.int (m:Nat)),v4,v5,v6]∧Same H H3∧H3 tn = some (.tup (Mir.iV now))∧Mir.Fit now∧now.length = rs.length∧Mir.tb now = m∧Mir.TsT Mir.pr H3 l cs∧cs.length + m = Mir.tb rs∧(∀ p∈cs,Mir.InTurn rs.length p)∧Mir.turnsP rs cs = now:=⟨_,rfl⟩
  refine ⟨W,⟨Mir.tb rs,by rw [hW];exact ⟨t,rs,[],none,none,none,rfl,s1.trans s2,(s1.trans s2) _ _ ht,fit,rfl,rfl,Mir.TsT.nil (s2 _ _ u1),by simp,fun p hp=>by simp at hp,rfl⟩⟩,?_⟩
  intro m σ H3 h
  have h':=h
  rw [hW] at h'
  obtain ⟨tn,now,cs,v4,v5,v6,rfl,s3,hn,fn,ln,tbn,hT,hc,hv,hp⟩:=h'
  refine ⟨_,rfl,_,_,rfl,rfl,_,rfl,?_⟩
  by_cases c:0 < m
  ·refine iteY (decide_eq_true (by omega)) ?_
   obtain ⟨m',rfl⟩:∃ m',m = m' + 1:=⟨m - 1,by omega⟩
   refine ⟨W m',fun σ' H' h=>⟨m',by omega,h⟩,?_⟩
   refine ⟨_,rfl,_,_,rfl,rfl,?_⟩
   have e1:(((m' + 1:Nat):Int) - 1) = ((m':Nat):Int):=by omega
   dsimp only
   rw [e1]
   refine ⟨_,rfl,t,_,rfl,.inr (SqT.of (s3 _ _ ht)),?_⟩
   rw [Mir.iV_len]
   refine ⟨rs.length,rfl,fit.small,fun lT H4 hlT s4 hT4=>?_⟩
   obtain ⟨us,a1,a2,a3⟩:=id hT4
   refine ⟨lT,rfl,⟨_,SqL.of a1⟩,?_⟩
   refine for_list (K:=K) (a:=lT) (xs:=us.map V.ref) (fun i σ H5=>∃ v4 v5 v6:Option V,σ = [some (.ref t),some (.ref l),some (.ref tn),some (.int (m':Nat)),v4,v5,v6]∧Same H4 H5∧∀ (j:Nat) (p:Int×Int),j < i→(Mir.allTurns rs.length rs.length)[j]? = some p→Mir.tb (Mir.turnP now p.1.toNat p.2.toNat)≠m') ⟨_,_,_,rfl,Same.refl _,fun j p hj=>absurd hj (Nat.not_lt_zero _)⟩ (fun i σ H5 _ ⟨_,_,_,_,s5,_⟩=>SqL.of (s5 _ _ a1)) ?_ ?_
   ·rintro i x σ H5 hx ⟨v4,v5,v6,rfl,s5,hno⟩
    rw [List.getElem?_map] at hx
    obtain ⟨b,eb,rfl⟩:=Option.map_eq_some_iff.mp hx
    have hi:i < (Mir.allTurns rs.length rs.length).length:=by rw [← a2];exact (List.getElem?_eq_some_iff.mp eb).1
    have ep:=List.getElem?_eq_getElem hi
    generalize (Mir.allTurns rs.length rs.length)[i] = p at ep
    obtain ⟨f',l',rfl,h1,h2⟩:=Mir.allTurns_mem (List.mem_of_getElem? ep)
    have hb:=s5 _ _ (a3 i b _ eb ep)
    have s35:=s4.trans s5
    have sm:∀ x:Nat,x < rs.length→Mir.Sm6 (x:Int):=fun x hx=>Mir.Sm6.of (by omega) (by omega)
    have fb:=Mir.turnP_fit fn h1 (show l' < now.length by omega)
    have lb:=Mir.turnP_len now f' l'
    refine ⟨b,_,rfl,SqT.of hb,rfl,_,_,rfl,_,_,rfl,rfl,?_⟩
    refine ⟨_,rfl,_,rfl,_,rfl,tn,now,_,_,rfl,s35 _ _ hn,by omega,sm f' (by omega),sm l' h2,fun _ t' H6 s6 ht'=>?_,fun z=>absurd ⟨by omega,by omega,by omega⟩ z⟩
    rw [Int.toNat_natCast,Int.toNat_natCast] at ht'
    refine ⟨_,rfl,t',_,rfl,ht',fb,fun H7 s7=>?_⟩
    have s37:=s35.trans (s6.trans s7)
    refine ⟨_,rfl,rfl,_,rfl,?_⟩
    rw [Mir.sc_tb fb (by omega)]
    by_cases c2:Mir.tb (Mir.turnP now f' l') = m'
    ·refine iteY (dInt (by omega)) ?_
     obtain ⟨vs,w1,w2⟩:=(hT.same s37).len
     refine ⟨_,rfl,.inl ⟨rfl,_,SqL.of w1⟩,_,rfl,_,rfl,by show 2≤sizeLine;decide,fun u hu=>?_⟩
     have s8:Same H7 (upd H7 u (.tup [.int (f':Nat),.int (l':Nat)])):=same_upd hu
     have u8:upd H7 u (.tup [.int (f':Nat),.int (l':Nat)]) u = some (.tup (Mir.pr ((f':Int),(l':Int)))):=upd_same
     generalize upd H7 u (.tup [.int (f':Nat),.int (l':Nat)]) = H8 at s8 u8
     obtain ⟨ys,y1,y2,y3⟩:=((hT.same s37).same s8).snoc u8
     have tr:=tb8 rs
     refine ⟨l,_,_,rfl,rfl,y1,big _ (by rw [y2];omega),?_⟩
     refine ⟨_,rfl,?_⟩
     show W m' _ _
     rw [hW]
     have nt:t'≠l:=fun z=>by
      have q:=s7 _ _ ht'
      rw [z,w1] at q
      cases q
     refine ⟨t',Mir.turnP now f' l',cs ++ [((f':Int),(l':Int))],_,_,_,rfl,((s3.trans s37).trans s8).upd hl,?_,fb,by omega,c2,y3,by rw [List.length_append,List.length_singleton];omega,fun p hp'=>?_,?_⟩
     ·rw [upd_ne nt]
      exact s8 _ _ (s7 _ _ ht')
     ·rcases List.mem_append.mp hp' with q | q
      ·exact hv p q
      ·rw [List.mem_singleton.mp q]
       exact ⟨f',l',rfl,h1,h2⟩
     ·rw [Mir.turnsP_snoc,hp,Int.toNat_natCast,Int.toNat_natCast]
    ·refine iteN (dIntN (by omega)) ⟨_,_,_,rfl,s5.trans (s6.trans s7),fun j p hj e=>?_⟩
     rcases Nat.lt_or_eq_of_le (Nat.le_of_lt_succ hj) with q | q
     ·exact hno j p q e
     ·subst q
      rw [ep] at e
      obtain rfl:=Option.some.inj e
      rw [Int.toNat_natCast,Int.toNat_natCast]
      exact c2
   ·rintro σ H5 ⟨v4,v5,v6,rfl,s5,hno⟩
    exfalso
    rcases Mir.turn_dn fn (by omega) with ⟨e,_⟩ | ⟨_,f',l',h1,h2,h3⟩
    ·omega
    ·have hm:((f':Int),(l':Int))∈Mir.allTurns rs.length rs.length:=by
      unfold Mir.allTurns
      refine List.mem_flatMap.mpr ⟨f',List.mem_range.mpr (by omega),List.mem_map.mpr ⟨l' - f',List.mem_range.mpr (by omega),?_⟩⟩
      rw [show ((f':Int) + ((l' - f':Nat):Int)) = l' by omega]
     obtain ⟨j,hj⟩:=List.mem_iff_getElem?.mp hm
     refine hno j _ (by rw [List.length_map,a2];exact (List.getElem?_eq_some_iff.mp hj).1) hj ?_
     rw [Int.toNat_natCast,Int.toNat_natCast]
     omega
  ·refine iteN (decide_eq_false (by omega)) ?_
   have m0:m = 0:=by omega
   subst m0
   refine ⟨_,rfl,?_⟩
   rcases Mir.turn_dn fn (by omega) with ⟨_,e⟩ | ⟨e,_⟩
   ·refine k l cs H3 hl s3 hT (by omega) hv ?_
    rw [hp,← ln]
    exact e
   ·omega
end
section
seal L2.PSs L2.PS L2.PE L2.PT L2.PA
variable {P:Program} {w:World} {K:PySem.W.Frag} {mg:Str→Option Value} {base:Heap}
theorem ok_law_fewest {f f1:Addr} {fd fd1:FuncData} (B:Bl mg) (F:Fn K mg "_law_fewest" s_law_fewest ["many"] f fd) (F_law_turn:Fn K mg "_law_turn" s_law_turn ["row","first","last"] f1 fd1):FnOk P w K mg base CX0 2 f fd ["many"] Mir.spFewC:=by
 have G_law_turn:FnOk P w K mg base CX0 1 f1 fd1 ["row","first","last"] Mir.spLawTurn:=ok_law_turn B F_law_turn
 refine F.fn.ok sc_law_fewest (fun vs H Q E h=>?_) (fun cdv A outer s H vs Q E hr h=>?_)
 ·obtain ⟨n,rfl,_⟩:=h
  rfl
 ·obtain ⟨n,rfl,h4,k⟩:=h
  have hu:=hr.lt 0 (by decide)
  refine ⟨_,(pss_cons (ps_set (i:=1) sc_law_fewest.nd rfl (Or.inl rfl) (pe_callTy (call_tuple_rng rfl) rfl B.tuple bb_tuple (pa_cons (pe_callTy call_rng2 rfl B.range bb_range (pa_cons pe_int (pa_cons (pe_op op_add (pv 0) pe_int) pa_nil))) pa_nil)))
   (pss_cons (ps_set (i:=2) sc_law_fewest.nd rfl (Or.inl rfl) (pe_disp1 (hr.lt 0 (by decide)) (pv 1) pe_int))
   (pss_cons (ps_set (i:=3) sc_law_fewest.nd rfl (Or.inl rfl) (pe_lst (pa_cons (pv 1) pa_nil)))
   (pss_cons (ps_set (i:=4) sc_law_fewest.nd rfl (Or.inl rfl) pe_int)
   (pss_cons (ps_while PassesOwn.never (pt_cmpR op_lt (pv 4) (pe_callB call_len_seq rfl B.len bb_len (pa_cons (pv 3) pa_nil)) (nomark _)) (pss_cons (ps_set (i:=5) sc_law_fewest.nd rfl (Or.inl rfl) (pe_ix ix_list (pv 3) (pv 4) (fun _ _=>rfl)))
   (pss_cons (ps_for PassesOwn.never rfl (pi_range1 rfl B.range (pa_cons (pv 0) pa_nil)) (pg_name (i:=6) sc_law_fewest.nd rfl (Or.inl rfl)) (pss_one (ps_for PassesOwn.never rfl (pi_range2 rfl B.range (pa_cons (pv 6) (pa_cons (pv 0) pa_nil))) (pg_name (i:=7) sc_law_fewest.nd rfl (Or.inl rfl)) (pss_cons (ps_set (i:=8) sc_law_fewest.nd rfl (Or.inl rfl) (pe_fn G_law_turn F_law_turn (hr.mono (by decide)) (pa_cons (pv 5) (pa_cons (pv 6) (pa_cons (pv 7) pa_nil)))))
   (pss_one (ps_if (pt_cmp (pc_dnotin hu (pv 8) (pv 2))) (pss_cons (ps_dput hu (pv 2) (pv 8) (pe_op op_add (pe_dget hu (pv 2) (pv 5) (fun _ _=>rfl)) pe_int) rfl)
   (pss_one (ps_expr (pe_bm PySem.F.plainAttrs_list PySem.F.slot_list_append PySem.F.type_list_append mt_append (pv 3) (pa_cons (pv 8) pa_nil))))) pss_nil))))))
   (pss_one (ps_set (i:=4) sc_law_fewest.nd rfl (Or.inl rfl) (pe_op op_add (pv 4) pe_int))))))
   (pss_one (ps_ret (pv 2)))))))),?_⟩
  have big:∀ x:Nat,x≤5000→x < sizeLine:=fun x hx=>Nat.lt_of_le_of_lt hx (by decide)
  refine ⟨_,rfl,_,_,rfl,rfl,_,_,rfl,fun p0 hp0=>?_⟩
  dsimp only
  have s1:Same H (upd H p0 (.rng 1 ((n:Nat) + 1))):=same_upd hp0
  have u1:upd H p0 (.rng 1 ((n:Nat) + 1)) p0 = some (.rng 1 ((n:Nat) + 1)):=upd_same
  generalize upd H p0 (.rng 1 ((n:Nat) + 1)) = H1 at s1 u1
  refine ⟨p0,_,_,rfl,u1,⟨by decide,by decide,by omega,by omega⟩,by omega,fun tp htp=>?_⟩
  rw [show ((n:Nat) + 1 - 1:Int).toNat = n by omega,Mir.rngV_from1]
  have s2:Same H1 (upd H1 tp (.tup (Mir.iV (Mir.from1 n)))):=same_upd htp
  have u2:upd H1 tp (.tup (Mir.iV (Mir.from1 n))) tp = some (.tup (Mir.iV (Mir.from1 n))):=upd_same
  generalize upd H1 tp (.tup (Mir.iV (Mir.from1 n))) = H2 at s2 u2
  have s02:=s1.trans s2
  intro d hd
  have hdH:H d = none:=s02.free hd
  refine ⟨_,rfl,upd_same,tp,(Mir.from1 n).map Mir.kI,rfl,Mir.tup_kI (by rw [upd_ne (fun z=>by rw [z,hd] at u2;cases u2)];exact u2),?_⟩
  have s3:Same H2 (upd (upd H2 d (.dT [])) d (.dT [((Mir.from1 n).map Mir.kI,.int 0)])):=(same_upd hd).upd hd
  have u3:upd (upd H2 d (.dT [])) d (.dT [((Mir.from1 n).map Mir.kI,.int 0)]) d = some (.dT (Mir.entC [Mir.from1 n])):=by
   rw [upd_same]
   unfold Mir.entC
   rw [List.map_cons,List.map_nil,Mir.tb_plain h4]
   rfl
  generalize upd (upd H2 d (.dT [])) d (.dT [((Mir.from1 n).map Mir.kI,.int 0)]) = H3 at s3 u3
  have s03:=s02.trans s3
  refine ⟨_,rfl,by show 1≤sizeLine;decide,fun ll hll=>?_⟩
  have hllH:H ll = none:=s03.free hll
  have s4:Same H3 (upd H3 ll (.lst [.ref tp])):=same_upd hll
  have u4:upd H3 ll (.lst [.ref tp]) ll = some (.lst [.ref tp]):=upd_same
  have ndl:d≠ll:=fun z=>by rw [← z,u3] at hll;cases hll
  generalize upd H3 ll (.lst [.ref tp]) = H4 at s4 u4
  have s04:=s03.trans s4
  have T0:Mir.TsT Mir.iV H4 ll [Mir.from1 n]:=⟨[tp],u4,rfl,fun i t x e1 e2=>by
   cases i with
   | zero=>cases e1;cases e2;exact s4 _ _ (s3 _ _ u2)
   | succ i=>simp at e1⟩
  obtain ⟨W,hW⟩:∃ W:Nat→L2.St→Hp→Prop,W = fun m σ H5=>∃ (i:Nat) (L:List (List Int)) (v5 v6 v7 v8:Option V),σ = [some (.int (n:Nat)),some (.ref tp),some (.ref d),some (.ref ll),some (.int (i:Nat)),v5,v6,v7,v8]∧m + i = 400∧Same H H5∧H5 d = some (.dT (Mir.entC L))∧Mir.TsT Mir.iV H5 ll L∧Mir.Bf n L i∧i≤L.length:=⟨_,rfl⟩
  refine ⟨W,⟨400,by rw [hW];exact ⟨0,[Mir.from1 n],_,_,_,_,rfl,rfl,s04,s4 _ _ u3,T0,Mir.Bf.start h4,Nat.zero_le _⟩⟩,?_⟩
  intro m σ H5 h
  have h':=h
  rw [hW] at h'
  obtain ⟨i,L,v5,v6,v7,v8,rfl,hm,s5,hd5,hT5,bf,hi⟩:=h'
  obtain ⟨lv,l1,l2⟩:=hT5.len
  refine ⟨_,rfl,_,rfl,ll,_,rfl,.inl (SqL.of l1),_,_,rfl,rfl,_,rfl,?_⟩
  have Ll:=bf.len h4
  by_cases c:i < L.length
  ·refine iteY (decide_eq_true (by omega)) ?_
   refine ⟨W (m - 1),fun σ' H' h=>⟨m - 1,by omega,h⟩,?_⟩
   have er:=List.getElem?_eq_getElem c
   generalize L[i] = r at er
   obtain ⟨lv',tr,g1,g2,g3⟩:=hT5.get er
   obtain ⟨fr,lr⟩:=bf.fit r (List.mem_of_getElem? er)
   refine ⟨_,rfl,_,rfl,ll,_,_,_,rfl,rfl,SqL.of g1,atI_nat g2,?_⟩
   refine ⟨_,rfl,_,rfl,by omega,by omega,for_range (lo:=0) (n:=((n:Nat):Int).toNat) (fun f σ H6=>∃ (L':List (List Int)) (v6 v7 v8:Option V),σ = [some (.int (n:Nat)),some (.ref tp),some (.ref d),some (.ref ll),some (.int (i:Nat)),some (.ref tr),v6,v7,v8]∧Same H H6∧H6 d = some (.dT (Mir.entC L'))∧Mir.TsT Mir.iV H6 ll L'∧Mir.Bf n L' i∧L'[i]? = some r∧H6 tr = some (.tup (Mir.iV r))∧∀ f' l':Nat,f' < f→f'≤l'→l' < n→Mir.turnP r f' l'∈L') ⟨L,_,_,_,rfl,s5,hd5,hT5,bf,er,g3,fun f' l' z=>absurd z (Nat.not_lt_zero _)⟩ ?_ ?_⟩
   ·rintro f σ H6 hf ⟨L1,v6,v7,v8,rfl,s6,hd6,hT6,bf6,er6,ht6,all6⟩
    rw [Int.toNat_natCast] at hf
    rw [Int.zero_add]
    refine ⟨_,rfl,_,rfl,_,_,rfl,⟨by omega,by omega,by omega,by omega⟩,for_range (lo:=(f:Nat)) (n:=(((n:Nat):Int) - (f:Nat)).toNat) (fun j σ H7=>∃ (L':List (List Int)) (v7 v8:Option V),σ = [some (.int (n:Nat)),some (.ref tp),some (.ref d),some (.ref ll),some (.int (i:Nat)),some (.ref tr),some (.int (f:Nat)),v7,v8]∧Same H H7∧H7 d = some (.dT (Mir.entC L'))∧Mir.TsT Mir.iV H7 ll L'∧Mir.Bf n L' i∧L'[i]? = some r∧H7 tr = some (.tup (Mir.iV r))∧(∀ f' l':Nat,f' < f→f'≤l'→l' < n→Mir.turnP r f' l'∈L')∧∀ l':Nat,f≤l'→l' < f + j→l' < n→Mir.turnP r f l'∈L') ⟨L1,_,_,rfl,s6,hd6,hT6,bf6,er6,ht6,all6,fun l' z1 z2=>by omega⟩ ?_ ?_⟩
    ·rintro j σ H7 hj ⟨L2,v7,v8,rfl,s7,hd7,hT7,bf7,er7,ht7,all7,in7⟩
     have hj:f + j < n:=by omega
     have ej:(f:Int) + (j:Nat) = ((f + j:Nat):Int):=by omega
     rw [ej]
     refine ⟨_,rfl,_,rfl,_,rfl,tr,r,f,f + j,rfl,ht7,by omega,by omega,by omega,fun tb' H8 s8 htb=>?_⟩
     have hd8:=s8 _ _ hd7
     refine ⟨_,rfl,_,rfl,d,_,rfl,DGet.t hd8 (Mir.tup_kI htb),_,rfl,?_⟩
     by_cases c2:Mir.turnP r f (f + j)∈L2
     ·rw [Mir.ent_some c2]
      refine iteF ⟨L2,_,_,rfl,s7.trans s8,hd8,hT7.same s8,bf7,er7,s8 _ _ ht7,all7,fun l' z1 z2 z3=>?_⟩
      by_cases q:l' = f + j
      ·rw [q];exact c2
      ·exact in7 l' z1 (by omega) z3
     ·rw [Mir.ent_none c2]
      refine iteT ?_
      obtain ⟨bf',etb⟩:=bf7.add h4 er7 (show f≤f + j by omega) hj c2
      have Ll':=bf'.len h4
      rw [List.length_append,List.length_singleton] at Ll'
      refine ⟨_,rfl,_,rfl,d,_,rfl,(by have z:=DGet.t hd8 (Mir.tup_kI (s8 _ _ ht7));rw [Mir.ent_some (List.mem_of_getElem? er7)] at z;exact z),_,_,rfl,rfl,?_⟩
      refine ⟨_,rfl,_,rfl,d,_,rfl,DPut.t hd8 (Mir.tup_kI htb) (big _ (by unfold Mir.entC;rw [List.length_map];omega)),?_⟩
      have ep:putK (Mir.entC L2) ((Mir.turnP r f (f + j)).map Mir.kI) (V.int ((Mir.tb r:Nat) + 1)) = Mir.entC (L2 ++ [Mir.turnP r f (f + j)]):=by
       rw [← Mir.ent_put c2,etb]
       rfl
      dsimp only
      rw [ep]
      have s9:Same H (upd H8 d (.dT (Mir.entC (L2 ++ [Mir.turnP r f (f + j)])))):=(s7.trans s8).upd hdH
      have u9:upd H8 d (.dT (Mir.entC (L2 ++ [Mir.turnP r f (f + j)]))) d = some (.dT (Mir.entC (L2 ++ [Mir.turnP r f (f + j)]))):=upd_same
      have k9:∀ a o,a≠d→H8 a = some o→upd H8 d (.dT (Mir.entC (L2 ++ [Mir.turnP r f (f + j)]))) a = some o:=fun a o q e=>by rw [upd_ne q];exact e
      generalize upd H8 d (.dT (Mir.entC (L2 ++ [Mir.turnP r f (f + j)]))) = H9 at s9 u9 k9
      have notd:∀ a ys,H8 a = some (.tup ys)→a≠d:=fun a ys e z=>by rw [z,hd8] at e;cases e
      have hT9:Mir.TsT Mir.iV H9 ll L2:=by
       obtain ⟨ts,q1,q2,q3⟩:=hT7.same s8
       exact ⟨ts,k9 _ _ (Ne.symm ndl) q1,q2,fun i t x e1 e2=>k9 _ _ (notd _ _ (q3 i t x e1 e2)) (q3 i t x e1 e2)⟩
      have htb9:=k9 _ _ (notd _ _ htb) htb
      have htr9:=k9 _ _ (notd _ _ (s8 _ _ ht7)) (s8 _ _ ht7)
      obtain ⟨ys,y1,y2,y3⟩:=hT9.snoc htb9
      refine ⟨_,rfl,.inl ⟨rfl,_,SqL.of y1⟩,_,rfl,ll,_,_,rfl,rfl,y1,big _ (by rw [y2];omega),?_⟩
      have hat:=(List.getElem?_eq_some_iff.mp er7).1
      have ntr:tr≠ll:=fun z=>by rw [z,y1] at htr9;cases htr9
      refine ⟨L2 ++ [Mir.turnP r f (f + j)],_,_,rfl,s9.upd hllH,by rw [upd_ne ndl];exact u9,y3,bf',by rw [List.getElem?_append_left hat];exact er7,by rw [upd_ne ntr];exact htr9,fun f' l' z1 z2 z3=>List.mem_append_left _ (all7 f' l' z1 z2 z3),fun l' z1 z2 z3=>?_⟩
      by_cases q:l' = f + j
      ·rw [q];exact List.mem_append_right _ List.mem_cons_self
      ·exact List.mem_append_left _ (in7 l' z1 (by omega) z3)
    ·rintro σ H7 ⟨L2,v7,v8,rfl,s7,hd7,hT7,bf7,er7,ht7,all7,in7⟩
     refine ⟨L2,_,_,_,rfl,s7,hd7,hT7,bf7,er7,ht7,fun f' l' z1 z2 z3=>?_⟩
     by_cases q:f' = f
     ·subst q
      exact in7 l' z2 (by omega) z3
     ·exact all7 f' l' (by omega) z2 z3
   ·rintro σ H6 ⟨L1,v6,v7,v8,rfl,s6,hd6,hT6,bf6,er6,ht6,all6⟩
    rw [Int.toNat_natCast] at all6
    refine ⟨_,rfl,_,_,rfl,rfl,?_⟩
    show W (m - 1) _ _
    rw [hW]
    have hat:=(List.getElem?_eq_some_iff.mp er6).1
    exact ⟨i + 1,L1,_,_,_,_,rfl,by omega,s6,hd6,hT6,bf6.next er6 fun f' l' z1 z2=>all6 f' l' (by omega) z1 z2,hat⟩
  ·refine iteN (decide_eq_false (by omega)) ?_
   refine ⟨_,rfl,?_⟩
   have ei:i = L.length:=by omega
   rw [ei] at bf
   exact k d L H5 hdH s5 hd5 bf
end
section
variable {P:Program} {w:World} {K:PySem.W.Frag} {mg:Str→Option Value} {base:Heap}
seal L2.PSs L2.PS L2.PE L2.PT L2.PA
theorem ok_law {C_BadStretch:Addr} (B:Bl mg) (Z:ECls K mg "BadStretch" C_BadStretch) {f0 f1 f2 f3 f4 f5 f6 f7 f8 f9 f10 f11 f12 f13 f14 f15 f16 f17 f18 f19 f20 f21 f22 f23 f24 f25 f26:Addr} {fd0 fd1 fd2 fd3 fd4 fd5 fd6 fd7 fd8 fd9 fd10 fd11 fd12 fd13 fd14 fd15 fd16 fd17 fd18 fd19 fd20 fd21 fd22 fd23 fd24 fd25 fd26:FuncData} (F_framed:Fn K mg "framed" s_framed ["row"] f0 fd0) (F_open_gaps:Fn K mg "open_gaps" s_open_gaps ["row"] f1 fd1) (F_tie_gaps:Fn K mg "tie_gaps" s_tie_gaps ["row"] f2 fd2) (F_tie_rings:Fn K mg "tie_rings" s_tie_rings ["row"] f3 fd3) (F_hung_together:Fn K mg "hung_together" s_hung_together ["pairs"] f4 fd4) (F_kin_spans:Fn K mg "kin_spans" s_kin_spans ["row"] f5 fd5) (F_kin_end:Fn K mg "kin_end" s_kin_end ["numbers","first"] f6 fd6) (F_gap_kins:Fn K mg "gap_kins" s_gap_kins ["row"] f7 fd7) (F_knots_in:Fn K mg "knots_in" s_knots_in ["row"] f8 fd8) (F_web_of:Fn K mg "web_of" s_web_of ["kins"] f9 fd9) (F_shortest_around:Fn K mg "shortest_around" s_shortest_around ["chain","kins"] f10 fd10) (F_thinned_web:Fn K mg "thinned_web" s_thinned_web ["row"] f11 fd11) (F_spare_things:Fn K mg "spare_things" s_spare_things ["web","knots"] f12 fd12) (F_ends_of:Fn K mg "ends_of" s_ends_of ["web"] f13 fd13) (F_leg_from:Fn K mg "leg_from" s_leg_from ["end","web"] f14 fd14) (F_knot_legs:Fn K mg "knot_legs" s_knot_legs ["row"] f15 fd15) (F_knot_cost:Fn K mg "knot_cost" s_knot_cost ["row"] f16 fd16) (F_legs_cost:Fn K mg "legs_cost" s_legs_cost ["legs"] f17 fd17) (F_turn_score:Fn K mg "turn_score" s_turn_score ["row"] f18 fd18) (F_turn_about:Fn K mg "turn_about" s_turn_about ["row","first","last"] f19 fd19) (F_turns_all:Fn K mg "turns_all" s_turns_all ["many"] f20 fd20) (F_fewest_turns:Fn K mg "fewest_turns" s_fewest_turns ["row"] f21 fd21) (F_law_cell_at:Fn K mg "_law_cell_at" s_law_cell_at ["script","k"] f22 fd22) (F_law_row_by:Fn K mg "_law_row_by" s_law_row_by ["script","at","many"] f23 fd23) (F_law_turn:Fn K mg "_law_turn" s_law_turn ["row","first","last"] f24 fd24) (F_law_fewest:Fn K mg "_law_fewest" s_law_fewest ["many"] f25 fd25) (F_law:Fn K mg "law" s_law ["script"] f26 fd26):FnOk P w K mg base CX0 10 f26 fd26 ["script"] (spLaw K):=by
 have G_law_cell_at:FnOk P w K mg base CX0 1 _ _ ["script","k"] (Mir.spCellAt K):=ok_law_cell_at B F_law_cell_at
 have G_law_row_by:FnOk P w K mg base CX0 2 _ _ ["script","at","many"] (Mir.spRowBy K):=ok_law_row_by B F_law_row_by F_law_cell_at
 have G_law_turn:FnOk P w K mg base CX0 1 _ _ ["row","first","last"] Mir.spLawTurn:=ok_law_turn B F_law_turn
 have G_law_fewest:FnOk P w K mg base CX0 2 _ _ ["many"] Mir.spFewC:=ok_law_fewest B F_law_fewest F_law_turn
 have G_knots_in:FnOk P w K mg base CX0 4 _ _ ["row"] Mir.spKnots:=ok_knots_in B F_knots_in F_framed F_kin_end F_kin_spans F_gap_kins F_open_gaps
 have G_kin_spans:FnOk P w K mg base CX0 2 _ _ ["row"] Mir.spKinSpans:=ok_kin_spans B F_kin_spans F_framed F_kin_end
 have G_web_of:FnOk P w K mg base CX0 2 _ _ ["kins"] (Mir.spWebOf P w):=ok_web_of B F_web_of F_hung_together F_shortest_around
 have G_thinned_web:FnOk P w K mg base CX0 5 _ _ ["row"] (Mir.spThin P w):=ok_thinned_web B F_thinned_web F_knots_in G_knots_in F_kin_spans G_kin_spans F_web_of G_web_of F_spare_things
 have G_knot_legs:FnOk P w K mg base CX0 6 _ _ ["row"] Mir.spLegs:=ok_knot_legs B F_knot_legs F_knots_in G_knots_in F_thinned_web G_thinned_web F_ends_of F_leg_from
 have G_knot_cost:FnOk P w K mg base CX0 7 _ _ ["row"] Mir.spCost:=ok_knot_cost B F_knot_cost F_legs_cost F_knot_legs G_knot_legs
 have G_tie_rings:FnOk P w K mg base CX0 3 _ _ ["row"] Mir.spTieRings:=ok_tie_rings B F_tie_rings F_framed F_tie_gaps F_hung_together
 have G_turn_score:FnOk P w K mg base CX0 8 _ _ ["row"] Mir.spScoreT:=ok_turn_score B F_turn_score F_tie_rings G_tie_rings F_knot_cost G_knot_cost
 have G_turn_about:FnOk P w K mg base (CXo P w) 1 _ _ ["row","first","last"] (Mir.spTurnAbout C_BadStretch):=ok_turn_about B Z F_turn_about
 have G_fewest_turns:FnOk P w K mg base CX0 9 _ _ ["row"] Mir.spFewT:=ok_fewest_turns B F_fewest_turns F_turn_score G_turn_score F_turn_about G_turn_about F_turns_all
 refine F_law.fn.ok sc_law (fun vs H Q E h=>?_) (fun cdv A outer s H vs Q E hr h=>?_)
 ·obtain ⟨a,ns,rfl,_⟩:=h
  rfl
 ·obtain ⟨a,ns,rfl,hS,hlen,k⟩:=h
  have hu:=hr.lt 0 (by decide)
  refine ⟨_,(pss_cons (ps_set (i:=1) sc_law.nd rfl (Or.inl rfl) (pe_fn G_law_cell_at F_law_cell_at (hr.mono (by decide)) (pa_cons (pv 0) (pa_cons pe_int pa_nil))))
   (pss_cons (ps_set (i:=2) sc_law.nd rfl (Or.inl rfl) (pe_op op_mod (pv 1) pe_int))
   (pss_cons (ps_if (pt_cmpR op_eq (pe_op op_mod (pe_op op_fdiv (pv 1) pe_int) pe_int) pe_int (nomark _)) (pss_one (ps_set (i:=2) sc_law.nd rfl (Or.inl rfl) pe_int)) pss_nil)
   (ps_sem (R:=fun D σ H2=>∃ (n:Nat) (v1:Option V),σ = [some (.ref a),v1,some (.int (n:Nat)),none,none,none,none,none,none,none,none,none]∧n≤4∧H2 = H∧D.rt = Q) fun D σ H2 hR=>?rest)))),?_⟩
  case rest =>
   obtain ⟨n,v1,rfl,h4,rfl,hD⟩:=hR
   refine ⟨_,(pss_cons (ps_set (i:=3) sc_law.nd rfl (Or.inl rfl) (pe_fn G_law_fewest F_law_fewest (hr.mono (by decide)) (pa_cons (pv 2) pa_nil)))
   (pss_cons (ps_set (i:=4) sc_law.nd rfl (Or.inl rfl) (pe_fn G_law_row_by F_law_row_by (hr.mono (by decide)) (pa_cons (pv 0) (pa_cons pe_int (pa_cons (pv 2) pa_nil)))))
   (pss_cons (ps_set (i:=5) sc_law.nd rfl (Or.inl rfl) (pe_lst (pa_cons (pv 4) pa_nil)))
   (pss_cons (ps_set (i:=6) sc_law.nd rfl (Or.inl rfl) (pe_callTy (call_list_dt rfl) rfl B.list bb_list (pa_cons (pv 3) pa_nil)))
   (pss_cons (ps_for PassesOwn.never rfl (pi_list (pe_slice sl_list (pv 0) (po_some pe_int) (po_some pe_int))) (pg_name (i:=7) sc_law.nd rfl (Or.inl rfl)) (pss_one (ps_expr (pe_bm PySem.F.plainAttrs_list PySem.F.slot_list_append PySem.F.type_list_append mt_append (pv 5) (pa_cons (pe_ix ix_list (pv 6) (pe_op op_mod (pv 7) (pe_callB call_len_seq rfl B.len bb_len (pa_cons (pv 6) pa_nil))) (fun _ _=>rfl)) pa_nil)))))
   (pss_cons (ps_for PassesOwn.never rfl (pi_list (pv 5)) (pg_name (i:=8) sc_law.nd rfl (Or.inl rfl)) (pss_one (ps_if (pt_cmpR op_ne (pe_fn G_turn_score F_turn_score (hr.mono (by decide)) (pa_cons (pv 8) pa_nil)) (pe_dget hu (pv 3) (pv 8) (fun _ _=>rfl)) (nomark _)) (pss_one (ps_ret pe_bl)) pss_nil)))
   (pss_cons (ps_set (i:=9) sc_law.nd rfl (Or.inl rfl) (pe_fn G_fewest_turns F_fewest_turns (hr.mono (by decide)) (pa_cons (pv 4) pa_nil)))
   (pss_cons (ps_if (PW.pt (pw_or (pt_not (pt_val (pe_callB call_isi rfl B.isinstance bb_isinstance (pa_cons (pv 9) (pa_cons (pe_bltn (v:=.ty "list") rfl B.list bb_list rfl) pa_nil))))) (pw_or1 (pt_cmpR op_ne (pe_callB call_len_seq rfl B.len bb_len (pa_cons (pv 9) pa_nil)) (pe_dget hu (pv 3) (pv 4) (fun _ _=>rfl)) (nomark _))))) (pss_one (ps_ret pe_bl)) pss_nil)
   (pss_cons (ps_for PassesOwn.never rfl (pi_list (pv 9)) (pg_tup rfl (pgs_cons (pg_name (i:=10) sc_law.nd rfl (Or.inl rfl)) (pgs_cons (pg_name (i:=11) sc_law.nd rfl (Or.inl rfl)) pgs_nil))) (pss_one (ps_set (i:=4) sc_law.nd rfl (Or.inl rfl) (pe_fn G_law_turn F_law_turn (hr.mono (by decide)) (pa_cons (pv 4) (pa_cons (pv 10) (pa_cons (pv 11) pa_nil)))))))
   (pss_one (ps_ret (pe_cmpR (op_eq_intsD (Nat.lt_of_succ_lt hu)) (pe_callTy call_list_of rfl B.list bb_list (pa_cons (pv 4) pa_nil)) (pe_callTy (call_list_rng rfl) rfl B.list bb_list (pa_cons (pe_callTy call_rng2 rfl B.range bb_range (pa_cons pe_int (pa_cons (pe_op op_add (pv 2) pe_int) pa_nil))) pa_nil)) (nomark _))))))))))))),?_⟩
   have big:∀ x:Nat,x≤5000→x < sizeLine:=fun x hx=>Nat.lt_of_le_of_lt hx (by decide)
   refine ⟨_,rfl,n,rfl,h4,fun d L H3 hd s3 hd3 bf=>?_⟩
   have Ll:=bf.len h4
   have Lp:0 < L.length:=List.length_pos_of_mem bf.plain
   have inL:∀ q:List Int,Mir.Fit q→q.length = n→q∈L:=fun q hq e=>bf.all h4 _ q rfl hq e
   refine ⟨_,rfl,_,rfl,a,ns,1,n,rfl,s3.seq hS,by omega,fun t H4 rs s4 ht lrs fit=>?_⟩
   have hd4:=s4 _ _ hd3
   refine ⟨_,rfl,by show 1≤sizeLine;decide,fun lr hlr=>?_⟩
   have s5:Same H4 (upd H4 lr (.lst [.ref t])):=same_upd hlr
   have u5:upd H4 lr (.lst [.ref t]) lr = some (.lst [.ref t]):=upd_same
   generalize upd H4 lr (.lst [.ref t]) = H5 at s5 u5
   have T5:Mir.TsT Mir.iV H5 lr [rs]:=⟨[t],u5,rfl,fun i t x e1 e2=>by
    cases i with
    | zero=>cases e1;cases e2;exact s5 _ _ ht
    | succ i=>simp at e1⟩
   refine ⟨_,rfl,d,_,rfl,s5 _ _ hd4,fun le bs hle hbl hbs=>?_⟩
   have T6:Mir.TsT Mir.iV (upd H5 le (.lst (bs.map V.ref))) le L:=by
    refine ⟨bs,upd_same,by rw [hbl];unfold Mir.entC;rw [List.length_map],fun i b r e1 e2=>?_⟩
    have:=hbs i b (r.map Mir.kI) (V.int (Mir.tb r:Nat)) e1 (by unfold Mir.entC;rw [List.getElem?_map,e2];rfl)
    rw [← Mir.iV_kI] at this
    rw [upd_ne (fun z=>by rw [z,hle] at this;cases this)]
    exact this
   have s6:Same H5 (upd H5 le (.lst (bs.map V.ref))):=same_upd hle
   generalize upd H5 le (.lst (bs.map V.ref)) = H6 at T6 s6
   have hlH5:∃ vs,H5 lr = some (.lst vs):=⟨_,u5⟩
   have nle:lr≠le:=fun z=>by rw [← z,u5] at hle;cases hle
   have s46:=s5.trans s6
   obtain ⟨cs,hcs,hcl⟩:=Mir.cutV_ints ns (some 1) (some 21)
   refine ⟨_,rfl,_,rfl,_,rfl,a,_,rfl,s46.seq (s4.seq (s3.seq hS)),fun lc hlc=>?_⟩
   rw [hcs]
   have s7:Same H6 (upd H6 lc (.lst (cs.map V.int))):=same_upd hlc
   have u7:upd H6 lc (.lst (cs.map V.int)) lc = some (.lst (cs.map V.int)):=upd_same
   have nlc:lc≠lr:=fun z=>by rw [z,s6 _ _ u5] at hlc;cases hlc
   generalize upd H6 lc (.lst (cs.map V.int)) = H7 at s7 u7
   refine ⟨lc,rfl,⟨_,SqL.of u7⟩,?_⟩
   refine for_list (K:=K) (a:=lc) (xs:=cs.map V.int) (fun j σ H8=>∃ (v7:Option V) (Rs:List (List Int)),σ = [some (.ref a),v1,some (.int (n:Nat)),some (.ref d),some (.ref t),some (.ref lr),some (.ref le),v7,none,none,none,none]∧Same H4 H8∧Mir.TsT Mir.iV H8 le L∧H8 lc = some (.lst (cs.map V.int))∧Mir.TsT Mir.iV H8 lr Rs∧(∀ r∈Rs,Mir.Fit r∧r.length = n)∧Rs.length = j + 1) ⟨_,[rs],rfl,s46.trans s7,T6.same s7,u7,T5.same (s6.trans s7),fun r hr=>by rw [List.mem_singleton.mp hr];exact ⟨fit,lrs⟩,rfl⟩ (fun i σ H8 _ ⟨_,_,_,_,_,q,_⟩=>SqL.of q) ?_ ?_
   ·rintro i x σ H8 hx ⟨v7,Rs,rfl,s8,T8,c8,R8,g8,len8⟩
    rw [List.getElem?_map] at hx
    obtain ⟨c,ec,rfl⟩:=Option.map_eq_some_iff.mp hx
    have hi:=(List.getElem?_eq_some_iff.mp ec).1
    obtain ⟨ev,e1,e2⟩:=T8.len
    obtain ⟨rv,r1,r2⟩:=R8.len
    have hpos:(0:Int) < (ev.length:Nat):=by omega
    obtain ⟨q,hq⟩:∃ q:Nat,c % ((ev.length:Nat):Int) = q:=⟨(c % ((ev.length:Nat):Int)).toNat,by have:=Int.emod_nonneg c (show ((ev.length:Nat):Int)≠0 by omega);omega⟩
    have hq2:q < L.length:=by
     have:=Int.emod_lt_of_pos c hpos
     omega
    have el:=List.getElem?_eq_getElem hq2
    generalize L[q] = r at el
    obtain ⟨ev',b,k1,k2,k3⟩:=T8.get el
    have ee:ev' = ev:=by rw [k1] at e1;injection e1 with e1;injection e1
    subst ee
    refine ⟨_,rfl,.inl ⟨rfl,_,SqL.of r1⟩,_,rfl,_,rfl,_,rfl,le,_,rfl,.inl (SqL.of e1),_,_,rfl,rfl,hpos,?_⟩
    dsimp only
    rw [hq]
    refine ⟨le,_,_,_,rfl,rfl,SqL.of e1,atI_nat k2,?_⟩
    obtain ⟨ys,y1,y2,y3⟩:=R8.snoc k3
    refine ⟨lr,_,_,rfl,rfl,y1,big _ (by rw [y2];omega),?_⟩
    refine ⟨_,Rs ++ [r],rfl,s8.upd hlr,T8.other y1 nle,by rw [upd_ne nlc];exact c8,y3,fun r' hr'=>?_,by rw [List.length_append,List.length_singleton];omega⟩
    rcases List.mem_append.mp hr' with z | z
    ·exact g8 r' z
    ·rw [List.mem_singleton.mp z]
     exact bf.fit r (List.mem_of_getElem? el)
   ·rintro σ H8 ⟨v7,Rs,rfl,s8,T8,c8,R8,g8,len8⟩
    obtain ⟨us,a1,a2,a3⟩:=id R8
    refine ⟨_,rfl,lr,rfl,⟨_,SqL.of a1⟩,?_⟩
    refine for_list (K:=K) (a:=lr) (xs:=us.map V.ref) (fun j σ H9=>∃ v8:Option V,σ = [some (.ref a),v1,some (.int (n:Nat)),some (.ref d),some (.ref t),some (.ref lr),some (.ref le),v7,v8,none,none,none]∧Same H8 H9) ⟨_,rfl,Same.refl _⟩ (fun i σ H9 _ ⟨_,_,s9⟩=>SqL.of (s9 _ _ a1)) ?_ ?_
    ·rintro i x σ H9 hx ⟨v8,rfl,s9⟩
     rw [List.getElem?_map] at hx
     obtain ⟨b,eb,rfl⟩:=Option.map_eq_some_iff.mp hx
     have hi:i < Rs.length:=by rw [← a2];exact (List.getElem?_eq_some_iff.mp eb).1
     have er:=List.getElem?_eq_getElem hi
     generalize Rs[i] = r at er
     have hb:=s9 _ _ (a3 i b r eb er)
     obtain ⟨fr,lr'⟩:=g8 r (List.mem_of_getElem? er)
     refine ⟨_,rfl,b,r,rfl,hb,fr,fun H10 s10=>?_⟩
     have hd10:=s10 _ _ (s9 _ _ (s8 _ _ hd4))
     refine ⟨_,rfl,_,rfl,d,_,rfl,(by have z:=DGet.t hd10 (Mir.tup_kI (s10 _ _ hb));rw [Mir.ent_some (inL r fr lr')] at z;exact z),rfl,_,rfl,iteNS (by rw [Mir.sc_tb fr (by omega)]) ?_⟩
     exact ⟨_,rfl,s9.trans s10⟩
    ·rintro σ H9 ⟨v8,rfl,s9⟩
     have s49:=s8.trans s9
     refine ⟨_,rfl,t,rs,rfl,s49 _ _ ht,fit,by omega,fun lt ts H10 hlt s10 hT10 tl tv tp=>?_⟩
     have s410:=s49.trans s10
     obtain ⟨vs,w1,w2⟩:=hT10.len
     refine ⟨_,rfl,_,_,_,_,rfl,.lst w1,kit_lst_lst _,_,rfl,iteF ?_⟩
     refine ⟨_,rfl,lt,_,rfl,.inl (SqL.of w1),_,rfl,_,rfl,d,_,rfl,(by have z:=DGet.t (s410 _ _ hd4) (Mir.tup_kI (s410 _ _ ht));rw [Mir.ent_some (inL rs fit lrs)] at z;exact z),rfl,_,rfl,iteNS (by rw [w2,tl]) ?_⟩
     obtain ⟨us',b1,b2,b3⟩:=id hT10
     refine ⟨_,rfl,lt,rfl,⟨_,SqL.of b1⟩,?_⟩
     refine for_list (K:=K) (a:=lt) (xs:=us'.map V.ref) (fun j σ H11=>∃ (t':Addr) (v10 v11:Option V),σ = [some (.ref a),v1,some (.int (n:Nat)),some (.ref d),some (.ref t'),some (.ref lr),some (.ref le),v7,v8,some (.ref lt),v10,v11]∧Same H10 H11∧H11 t' = some (.tup (Mir.iV (Mir.turnsP rs (ts.take j))))∧(Mir.turnsP rs (ts.take j)).length = n) ⟨t,_,_,rfl,Same.refl _,s410 _ _ ht,lrs⟩ (fun i σ H11 _ ⟨_,_,_,_,s11,_⟩=>SqL.of (s11 _ _ b1)) ?_ ?_
     ·rintro i x σ H11 hx ⟨t',v10,v11,rfl,s11,ht',hl'⟩
      rw [List.getElem?_map] at hx
      obtain ⟨b,eb,rfl⟩:=Option.map_eq_some_iff.mp hx
      have hi:i < ts.length:=by rw [← b2];exact (List.getElem?_eq_some_iff.mp eb).1
      have ep:=List.getElem?_eq_getElem hi
      generalize ts[i] = p at ep
      obtain ⟨f',l',rfl,h1,h2⟩:=tv p (List.mem_of_getElem? ep)
      have hb:=s11 _ _ (b3 i b _ eb ep)
      refine ⟨b,_,rfl,SqT.of hb,rfl,_,_,rfl,_,_,rfl,rfl,?_⟩
      refine ⟨_,rfl,_,rfl,_,rfl,t',_,f',l',rfl,ht',by omega,h1,by omega,fun t2 H12 s12 ht2=>?_⟩
      have et:Mir.turnsP rs (ts.take (i + 1)) = Mir.turnP (Mir.turnsP rs (ts.take i)) f' l':=by
       rw [Mir.take_snoc ep,Mir.turnsP_snoc,Int.toNat_natCast,Int.toNat_natCast]
      exact ⟨t2,_,_,rfl,s11.trans s12,by rw [et];exact ht2,by rw [et,Mir.turnP_len];exact hl'⟩
     ·rintro σ H11 ⟨t',v10,v11,rfl,s11,ht',hl'⟩
      rw [List.length_map,b2,List.take_length,tp,lrs] at ht'
      refine ⟨_,rfl,t',_,rfl,.inr (SqT.of ht'),fun l1 hl1=>?_⟩
      have s12:Same H11 (upd H11 l1 (.lst (Mir.iV (Mir.from1 n)))):=same_upd hl1
      have u12:upd H11 l1 (.lst (Mir.iV (Mir.from1 n))) l1 = some (.lst (Mir.iV (Mir.from1 n))):=upd_same
      generalize upd H11 l1 (.lst (Mir.iV (Mir.from1 n))) = H12 at s12 u12
      refine ⟨_,rfl,_,_,rfl,rfl,_,_,rfl,fun p0 hp0=>?_⟩
      dsimp only
      have s13:Same H12 (upd H12 p0 (.rng 1 ((n:Nat) + 1))):=same_upd hp0
      have u13:upd H12 p0 (.rng 1 ((n:Nat) + 1)) p0 = some (.rng 1 ((n:Nat) + 1)):=upd_same
      generalize upd H12 p0 (.rng 1 ((n:Nat) + 1)) = H13 at s13 u13
      refine ⟨p0,_,_,rfl,u13,⟨by decide,by decide,by omega,by omega⟩,by omega,fun l2 hl2=>?_⟩
      rw [show ((n:Nat) + 1 - 1:Int).toNat = n by omega,Mir.rngV_from1]
      have s14:Same H13 (upd H13 l2 (.lst (Mir.iV (Mir.from1 n)))):=same_upd hl2
      have u14:upd H13 l2 (.lst (Mir.iV (Mir.from1 n))) l2 = some (.lst (Mir.iV (Mir.from1 n))):=upd_same
      refine ⟨l1,l2,Mir.from1 n,Mir.from1 n,rfl,rfl,SqL.of (s14 _ _ (s13 _ _ u12)),SqL.of u14,rfl,?_⟩
      rw [decide_eq_true rfl]
      show D.rt _ _
      rw [hD]
      exact k _
  refine ⟨_,rfl,a,ns,0,rfl,hS,fun c0=>?_⟩
  refine ⟨_,rfl,_,_,rfl,rfl,(by show (0:Int) < 4;decide),?_⟩
  dsimp only
  obtain ⟨n,hm⟩:∃ many:Nat,c0 % 4 = many:=⟨(c0 % 4).toNat,by omega⟩
  rw [hm]
  refine ⟨_,rfl,_,_,rfl,rfl,⟨by decide,by decide⟩,_,_,rfl,rfl,(by show (0:Int) < 8;decide),rfl,_,rfl,?_⟩
  refine ite2 (fun h1=>?_) (fun h1=>?_)
  ·exact ⟨4,_,rfl,by omega,rfl,rfl⟩
  ·exact ⟨n,_,rfl,by omega,rfl,rfl⟩
end
theorem us0 {R:List Value→Prop} (h:∀ _:Unit,R []) (us:List Value) (e:us.length = 0):R us:=(List.length_eq_zero_iff.mp e) ▸ h ()
theorem us1 {R:List Value→Prop} (h:∀ x0:Value,R [x0]) (us:List Value) (e:us.length = 1):R us:=by
 obtain ⟨a,r,rfl⟩:=List.exists_cons_of_length_eq_add_one e
 exact us0 (R:=fun r=>R (a :: r)) (fun _=>h a) r (Nat.succ.inj e)
theorem us2 {R:List Value→Prop} (h:∀ x0 x1:Value,R [x0,x1]) (us:List Value) (e:us.length = 2):R us:=by
 obtain ⟨a,r,rfl⟩:=List.exists_cons_of_length_eq_add_one e
 exact us1 (R:=fun r=>R (a :: r)) (h a) r (Nat.succ.inj e)
theorem us3 {R:List Value→Prop} (h:∀ x0 x1 x2:Value,R [x0,x1,x2]) (us:List Value) (e:us.length = 3):R us:=by
 obtain ⟨a,r,rfl⟩:=List.exists_cons_of_length_eq_add_one e
 exact us2 (R:=fun r=>R (a :: r)) (h a) r (Nat.succ.inj e)
theorem fn1 (x:Str) (st:Stmt) (p0:Str) {K:PySem.W.Frag} {h:Heap} {mg:Str→Option Value} {f:Addr} {od an:Option Addr} {sl:Array (Option Value)} {oc kV dc pm cd ct:Value} (X:K.In h) (G:h.Ns mainGlobals mg) (a:PySem.W.nsIn K mainGlobals x = some (some (.ref f))) (l:K.lookup f = some ⟨oc,od,.func (PySem.W.fnOf x x (defArgs st) (defBody st) (defScope st) .none kV dc pm an cd ct),sl⟩) (c:PySem.W.codeIn K cd x = true) (k:PySem.W.keepIn K (.ref f) = true) (hb:∀ (kV doc pm:Value) (an:Option Addr) (cdv ct:Value) (x0:Value),bindArgs (PySem.W.fnOf x x (defArgs st) (defBody st) (defScope st) .none kV doc pm an cdv ct) ⟨[x0],[]⟩ = pure (List.zip [p0] [x0])):Fn K mg x st [p0] f (PySem.W.fnOf x x (defArgs st) (defBody st) (defScope st) .none kV dc pm an cd ct) :=
 Fn.mk' (fun_mk (st:=st) l c k) (fun kV doc pm an cdv ct us hl=>us1 (R:=fun us=>bindArgs _ ⟨us,[]⟩ = pure (List.zip _ us)) (hb kV doc pm an cdv ct) us hl) (PySem.W.mg_of X G a)
theorem fn2 (x:Str) (st:Stmt) (p0 p1:Str) {K:PySem.W.Frag} {h:Heap} {mg:Str→Option Value} {f:Addr} {od an:Option Addr} {sl:Array (Option Value)} {oc kV dc pm cd ct:Value} (X:K.In h) (G:h.Ns mainGlobals mg) (a:PySem.W.nsIn K mainGlobals x = some (some (.ref f))) (l:K.lookup f = some ⟨oc,od,.func (PySem.W.fnOf x x (defArgs st) (defBody st) (defScope st) .none kV dc pm an cd ct),sl⟩) (c:PySem.W.codeIn K cd x = true) (k:PySem.W.keepIn K (.ref f) = true) (hb:∀ (kV doc pm:Value) (an:Option Addr) (cdv ct:Value) (x0 x1:Value),bindArgs (PySem.W.fnOf x x (defArgs st) (defBody st) (defScope st) .none kV doc pm an cdv ct) ⟨[x0,x1],[]⟩ = pure (List.zip [p0,p1] [x0,x1])):Fn K mg x st [p0,p1] f (PySem.W.fnOf x x (defArgs st) (defBody st) (defScope st) .none kV dc pm an cd ct) :=
 Fn.mk' (fun_mk (st:=st) l c k) (fun kV doc pm an cdv ct us hl=>us2 (R:=fun us=>bindArgs _ ⟨us,[]⟩ = pure (List.zip _ us)) (hb kV doc pm an cdv ct) us hl) (PySem.W.mg_of X G a)
theorem fn3 (x:Str) (st:Stmt) (p0 p1 p2:Str) {K:PySem.W.Frag} {h:Heap} {mg:Str→Option Value} {f:Addr} {od an:Option Addr} {sl:Array (Option Value)} {oc kV dc pm cd ct:Value} (X:K.In h) (G:h.Ns mainGlobals mg) (a:PySem.W.nsIn K mainGlobals x = some (some (.ref f))) (l:K.lookup f = some ⟨oc,od,.func (PySem.W.fnOf x x (defArgs st) (defBody st) (defScope st) .none kV dc pm an cd ct),sl⟩) (c:PySem.W.codeIn K cd x = true) (k:PySem.W.keepIn K (.ref f) = true) (hb:∀ (kV doc pm:Value) (an:Option Addr) (cdv ct:Value) (x0 x1 x2:Value),bindArgs (PySem.W.fnOf x x (defArgs st) (defBody st) (defScope st) .none kV doc pm an cdv ct) ⟨[x0,x1,x2],[]⟩ = pure (List.zip [p0,p1,p2] [x0,x1,x2])):Fn K mg x st [p0,p1,p2] f (PySem.W.fnOf x x (defArgs st) (defBody st) (defScope st) .none kV dc pm an cd ct) :=
 Fn.mk' (fun_mk (st:=st) l c k) (fun kV doc pm an cdv ct us hl=>us3 (R:=fun us=>bindArgs _ ⟨us,[]⟩ = pure (List.zip _ us)) (hb kV doc pm an cdv ct) us hl) (PySem.W.mg_of X G a)
theorem walk {l:PySem.W.OpenLaw} {q:Program} {loose:List Str} {XP:(Str→Option Value)→Heap→Prop} {YP:World→Heap→Prop} {d:DefRec} {K:Params→PySem.W.Frag} (hn:l.most = some 63) (hdf:d.params.defaults = [])
  (hY:∀ (w:World) (h:Heap),YP w h→(K w.params).In h)
  (F:∀ (w:World) (mg:Str→Option Value) (fa:Addr) (h:Heap),(K w.params).In h→h.Ns mainGlobals mg→mg d.name = some (.ref fa) →
   ∃ fd:FuncData,(∀ (s:Shared) (u:Value),BindsTo s fd ⟨[u],[]⟩ [("script",u)])∧∀ base:Heap,(K w.params).In base→base.Ns mainGlobals mg→FnOk l.prog w (K w.params) mg base CX0 10 fa fd ["script"] (spLaw (K w.params))) :
  PySem.W.WalkO q loose XP YP l.row.toRowW d [] (fun f vs=>PySem.call f vs) :=
 L2.walk_of (n:=63) (k:=10) (x:="script") (CX:=fun _=>CX0) (sp:=fun w=>spLaw (K w.params)) hn (by decide) hdf ⟨rfl,by decide,by decide,rfl⟩ hY F (fun _ _ a ns hl _ hS=>⟨a,ns,rfl,hS,hl,fun _=>rfl⟩) fun _ _ _ _ _ z=>z
end Law
noncomputable def PySem.W.Fast.tw17735032299334220038:=0
noncomputable def PySem.W.Fast.tw12880722551929834352:=0
noncomputable def PySem.W.Fast.tw3284172801958060179:=0
noncomputable def PySem.W.Fast.tw765775315013359179:=0
noncomputable def PySem.W.Fast.tw4701339886686337553:=0
noncomputable def PySem.W.Fast.tw7489451423780432966:=0
noncomputable def PySem.W.Fast.tw5257717201952975687:=0
noncomputable def PySem.W.Fast.tw10979266769620986712:=0
noncomputable def PySem.W.Fast.tw3648196279720619817:=0
noncomputable def PySem.W.Fast.tw3008965555648106704:=0
noncomputable def PySem.W.Fast.tw864137041827004474:=0
noncomputable def PySem.W.Fast.tw2443664106398295260:=0
noncomputable def PySem.W.Fast.tw2464098230681502732:=0
noncomputable def PySem.W.Fast.tw5826944910354913353:=0
noncomputable def PySem.W.Fast.tw15290496905053646349:=0
noncomputable def PySem.W.Fast.tw1706790182261337914:=0
noncomputable def PySem.W.Fast.tw1936425408786728003:=0
noncomputable def PySem.W.Fast.tw4307354843652016941:=0
noncomputable def PySem.W.Fast.tw6894670825299161464:=0
noncomputable def PySem.W.Fast.tw1782514395597697952:=0
noncomputable def PySem.W.Fast.tw18200151709297286518:=0
noncomputable def PySem.W.Fast.tw7500444665284332936:=0
noncomputable def PySem.W.Fast.tw3623055894299092992:=0
noncomputable def PySem.W.Fast.tw14586649284470019030:=0
noncomputable def PySem.W.Fast.tw829745985530984478:=0
noncomputable def PySem.W.Fast.tw422792155701911634:=0
noncomputable def PySem.W.Fast.tw4983149995832844134:=0
noncomputable def PySem.W.Fast.tw11658255715377028482:=0
noncomputable def PySem.W.Fast.tw1615904398312123620:=0
noncomputable def PySem.W.Fast.tw9033581362221085625:=0
noncomputable def PySem.W.Fast.tw14671251626631243040:=0
noncomputable def PySem.W.Fast.tw8881186277200874969:=0
noncomputable def PySem.W.Fast.tw10858917077658121875:=0
noncomputable def PySem.W.Fast.tw441287993670304303:=0
noncomputable def PySem.W.Fast.tw17330786229800144584:=0
noncomputable def PySem.W.Fast.tw17468432256701520202:=0
noncomputable def PySem.W.Fast.tw6089362973003958985:=0
noncomputable def PySem.W.Fast.tw15561830568754877284:=0
noncomputable def PySem.W.Fast.tw16993982365647310219:=0
noncomputable def PySem.W.Fast.tw6431239298732309174:=0
noncomputable def PySem.W.Fast.tw1245546464308398317:=0
noncomputable def PySem.W.Fast.tw4910131092214925280:=0
noncomputable def PySem.W.Fast.tw6179986038511935007:=0
noncomputable def PySem.W.Fast.tw753787417724597406:=0
noncomputable def PySem.W.Fast.tw10602404555701620595:=0
noncomputable def PySem.W.Fast.tw4810956775206780797:=0
noncomputable def PySem.W.Fast.tw2391333825898506006:=0
noncomputable def PySem.W.Fast.tw10549349310744576340:=0
noncomputable def PySem.W.Fast.tw17275229736031140222:=0
noncomputable def PySem.W.Fast.tw7342297166947856605:=0
noncomputable def PySem.W.Fast.tw4220418779751410478:=0
noncomputable def PySem.W.Fast.tw7641099800480995073:=0
noncomputable def PySem.W.Fast.tw6372381117926618472:=0
noncomputable def PySem.W.Fast.tw13080152155611178557:=0
open PySem PySem.W PyProof.Rows
set_option maxRecDepth 100000 in
set_option maxHeartbeats 0 in
theorem PySem.Challenge.cw_claspwork_k50_whole_small_rows_by_trying_holds : PySem.Challenge.rw_claspwork_k50_whole_small_rows_by_trying.Holds := by
 w_on;o_law;k_head;(case hw=>w_witness2)
 k_fill
 refine Law.walk (l:=PySem.Challenge.rw_claspwork_k50_whole_small_rows_by_trying) rfl rfl (fun w h Y=>PySem.W.kIn_of Y) ?F
 case F =>
  intro w mg fa h X G hmg
  have F0:=Law.fn1 "framed" Law.s_framed "row" X G (by k_is) (by k_is) (by k_is) (by k_is) fun _ _ _ _ _ _ _=>rfl
  have F1:=Law.fn1 "open_gaps" Law.s_open_gaps "row" X G (by k_is) (by k_is) (by k_is) (by k_is) fun _ _ _ _ _ _ _=>rfl
  have F2:=Law.fn1 "tie_gaps" Law.s_tie_gaps "row" X G (by k_is) (by k_is) (by k_is) (by k_is) fun _ _ _ _ _ _ _=>rfl
  have F3:=Law.fn1 "tie_rings" Law.s_tie_rings "row" X G (by k_is) (by k_is) (by k_is) (by k_is) fun _ _ _ _ _ _ _=>rfl
  have F4:=Law.fn1 "hung_together" Law.s_hung_together "pairs" X G (by k_is) (by k_is) (by k_is) (by k_is) fun _ _ _ _ _ _ _=>rfl
  have F5:=Law.fn1 "kin_spans" Law.s_kin_spans "row" X G (by k_is) (by k_is) (by k_is) (by k_is) fun _ _ _ _ _ _ _=>rfl
  have F6:=Law.fn2 "kin_end" Law.s_kin_end "numbers" "first" X G (by k_is) (by k_is) (by k_is) (by k_is) fun _ _ _ _ _ _ _ _=>rfl
  have F7:=Law.fn1 "gap_kins" Law.s_gap_kins "row" X G (by k_is) (by k_is) (by k_is) (by k_is) fun _ _ _ _ _ _ _=>rfl
  have F8:=Law.fn1 "knots_in" Law.s_knots_in "row" X G (by k_is) (by k_is) (by k_is) (by k_is) fun _ _ _ _ _ _ _=>rfl
  have F9:=Law.fn1 "web_of" Law.s_web_of "kins" X G (by k_is) (by k_is) (by k_is) (by k_is) fun _ _ _ _ _ _ _=>rfl
  have F10:=Law.fn2 "shortest_around" Law.s_shortest_around "chain" "kins" X G (by k_is) (by k_is) (by k_is) (by k_is) fun _ _ _ _ _ _ _ _=>rfl
  have F11:=Law.fn1 "thinned_web" Law.s_thinned_web "row" X G (by k_is) (by k_is) (by k_is) (by k_is) fun _ _ _ _ _ _ _=>rfl
  have F12:=Law.fn2 "spare_things" Law.s_spare_things "web" "knots" X G (by k_is) (by k_is) (by k_is) (by k_is) fun _ _ _ _ _ _ _ _=>rfl
  have F13:=Law.fn1 "ends_of" Law.s_ends_of "web" X G (by k_is) (by k_is) (by k_is) (by k_is) fun _ _ _ _ _ _ _=>rfl
  have F14:=Law.fn2 "leg_from" Law.s_leg_from "end" "web" X G (by k_is) (by k_is) (by k_is) (by k_is) fun _ _ _ _ _ _ _ _=>rfl
  have F15:=Law.fn1 "knot_legs" Law.s_knot_legs "row" X G (by k_is) (by k_is) (by k_is) (by k_is) fun _ _ _ _ _ _ _=>rfl
  have F16:=Law.fn1 "knot_cost" Law.s_knot_cost "row" X G (by k_is) (by k_is) (by k_is) (by k_is) fun _ _ _ _ _ _ _=>rfl
  have F17:=Law.fn1 "legs_cost" Law.s_legs_cost "legs" X G (by k_is) (by k_is) (by k_is) (by k_is) fun _ _ _ _ _ _ _=>rfl
  have F18:=Law.fn1 "turn_score" Law.s_turn_score "row" X G (by k_is) (by k_is) (by k_is) (by k_is) fun _ _ _ _ _ _ _=>rfl
  have F19:=Law.fn3 "turn_about" Law.s_turn_about "row" "first" "last" X G (by k_is) (by k_is) (by k_is) (by k_is) fun _ _ _ _ _ _ _ _ _=>rfl
  have F20:=Law.fn1 "turns_all" Law.s_turns_all "many" X G (by k_is) (by k_is) (by k_is) (by k_is) fun _ _ _ _ _ _ _=>rfl
  have F21:=Law.fn1 "fewest_turns" Law.s_fewest_turns "row" X G (by k_is) (by k_is) (by k_is) (by k_is) fun _ _ _ _ _ _ _=>rfl
  have F22:=Law.fn2 "_law_cell_at" Law.s_law_cell_at "script" "k" X G (by k_is) (by k_is) (by k_is) (by k_is) fun _ _ _ _ _ _ _ _=>rfl
  have F23:=Law.fn3 "_law_row_by" Law.s_law_row_by "script" "at" "many" X G (by k_is) (by k_is) (by k_is) (by k_is) fun _ _ _ _ _ _ _ _ _=>rfl
  have F24:=Law.fn3 "_law_turn" Law.s_law_turn "row" "first" "last" X G (by k_is) (by k_is) (by k_is) (by k_is) fun _ _ _ _ _ _ _ _ _=>rfl
  have F25:=Law.fn1 "_law_fewest" Law.s_law_fewest "many" X G (by k_is) (by k_is) (by k_is) (by k_is) fun _ _ _ _ _ _ _=>rfl
  have F26:=Law.fn1 "law" Law.s_law "script" X G (by k_is) (by k_is) (by k_is) (by k_is) fun _ _ _ _ _ _ _=>rfl
  cases hmg.symm.trans F26.g
  have g_BadStretch:=PySem.W.mg_of (n:="BadStretch") X G (by k_is)
  refine' ⟨_,fun s v=>.of_eq rfl,fun base _ _=>Law.ok_law ⟨PySem.W.mg_none_of X G (by k_is),PySem.W.mg_none_of X G (by k_is),PySem.W.mg_none_of X G (by k_is),PySem.W.mg_none_of X G (by k_is),PySem.W.mg_none_of X G (by k_is),PySem.W.mg_none_of X G (by k_is),PySem.W.mg_none_of X G (by k_is),PySem.W.mg_none_of X G (by k_is),PySem.W.mg_none_of X G (by k_is),PySem.W.mg_none_of X G (by k_is),PySem.W.mg_none_of X G (by k_is),PySem.W.mg_none_of X G (by k_is)⟩ ⟨g_BadStretch,⟨_,_,_,_,(by kernel_rfl),PySem.F.excBase_ValueError⟩⟩ F0 F1 F2 F3 F4 F5 F6 F7 F8 F9 F10 F11 F12 F13 F14 F15 F16 F17 F18 F19 F20 F21 F22 F23 F24 F25 F26⟩


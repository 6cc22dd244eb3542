import PyProof.Rows.All
import Wide.All
import OpenK.AllK
import Wide.FinOn
import Lean
import PyProof.EqAt
import PyProof.EqKinds
import PyProof.TupleCall
import PyProof.SumWalkG
import KE.KTryMore
import PyProof.NeKinds
import PyProof.ExcAttrAll.ValueError
import KE.KRevIter
import PyProof.ReprRoads
import PyProof.ReprLen
import KE.KIntText
import PyProof.StrLoop
import PyProof.StrWalks
import PyProof.StrCalls2
import PyProof.ConsumeWalk
import PyProof.StrLawsRepr
import PyProof.StrLawsChain
import PyProof.StrLawsIdx
import PyProof.StrLawsNeg
import PyProof.StrBlockI
import KE.BitLaws
import PyProof.TupleOfSeq
import PyProof.Rows.SortRuns
import PyProof.Rows.SortShell
import KE.KSortKey
import PyProof.WalkInts
import KE.KSortTup
import PyProof.DictValues
import PyProof.DictItems
import PySem.Challenge.RW_claspwork_k10_whole_texts_of_works
set_option genSizeOf false
set_option Elab.async false
set_option linter.all false
set_option maxRecDepth 100000
local macro_rules
  | `(tactic| omega) => `(tactic| first | lia | omega (config := {}))
namespace L2
open PySem PySem.Spec PyProof.Rows

noncomputable abbrev Key := Sum Int Str
noncomputable def keyIs : Key → Value → Bool
  | .inl k, v => Value.isInt k v
  | .inr x, v => Value.isStrOf x v
noncomputable def keyH (w : World) : Key → Int
  | .inl k => hashInt k
  | .inr x => hashStr w x
theorem keyIs_shape : ∀ {k : Key} {v : Value}, keyIs k v = true → (∃ i t, k = Sum.inl i ∧ v = Value.int i t) ∨ (∃ x t, k = Sum.inr x ∧ v = Value.str x t)
  | .inl i, v, h => by
    obtain ⟨t, e⟩ := Value.isInt_shape (k := i) (v := v) h
    exact .inl ⟨i, t, rfl, e⟩
  | .inr x, v, h => by
    obtain ⟨t, e⟩ := Value.isStrOf_shape (x := x) (v := v) h
    exact .inr ⟨x, t, rfl, e⟩
theorem keyIs_int (i : Int) (t : Tok) : keyIs (.inl i) (.int i t) = true := by simp [keyIs, Value.isInt]
theorem keyIs_str (x : Str) (t : Tok) : keyIs (.inr x) (.str x t) = true := by simp [keyIs, Value.isStrOf]
theorem key_ll (a b : Int) : decide ((Sum.inl a : Key) = Sum.inl b) = (a == b) := by
  by_cases e : a = b
  · subst e; simp
  · have h : ¬ (Sum.inl a : Key) = Sum.inl b := fun q => e (Sum.inl.inj q)
    rw [decide_eq_false h]
    exact (beq_eq_false_iff_ne.mpr e).symm
theorem key_rr (a b : Str) : decide ((Sum.inr a : Key) = Sum.inr b) = decide (a = b) := by
  by_cases e : a = b
  · subst e; simp
  · have h : ¬ (Sum.inr a : Key) = Sum.inr b := fun q => e (Sum.inr.inj q)
    rw [decide_eq_false h, decide_eq_false e]
theorem key_lr (a : Int) (b : Str) : decide ((Sum.inl a : Key) = Sum.inr b) = false := decide_eq_false (fun q => nomatch q)
theorem key_rl (a : Str) (b : Int) : decide ((Sum.inr a : Key) = Sum.inl b) = false := decide_eq_false (fun q => nomatch q)

noncomputable def mixKind (prog : Program) (w : World) : PySem.KeyKind prog w Key where
  is := keyIs
  hash := keyH w
  inj := fun v a b ha hb => by
    rcases keyIs_shape ha with ⟨i, t, rfl, rfl⟩ | ⟨x, t, rfl, rfl⟩
    · rcases keyIs_shape hb with ⟨j, u, rfl, e⟩ | ⟨y, u, rfl, e⟩
      · injection e with e1 _; rw [e1]
      · exact nomatch e
    · rcases keyIs_shape hb with ⟨j, u, rfl, e⟩ | ⟨y, u, rfl, e⟩
      · exact nomatch e
      · injection e with e1 _; rw [e1]
  byValue := fun k v h => by
    rcases keyIs_shape h with ⟨i, t, rfl, rfl⟩ | ⟨x, t, rfl, rfl⟩ <;> rfl
  pyHash := fun hv h => by
    rcases keyIs_shape hv with ⟨i, t, rfl, rfl⟩ | ⟨x, t, rfl, rfl⟩
    · exact wpAny_pyHash_int h
    · exact wpAny_pyHash_str h
  eqBool := fun hu hv h => by
    rcases keyIs_shape hu with ⟨i, t, rfl, rfl⟩ | ⟨x, t, rfl, rfl⟩
    · rcases keyIs_shape hv with ⟨j, u, rfl, rfl⟩ | ⟨y, u, rfl, rfl⟩
      · rw [key_ll] at h; exact wpAny_eqBool_int h
      · rw [key_lr] at h; exact SeqAt.EqAt.int_str i t y u _ _ _ _ h
    · rcases keyIs_shape hv with ⟨j, u, rfl, rfl⟩ | ⟨y, u, rfl, rfl⟩
      · rw [key_rl] at h; exact SeqAt.EqAt.str_int x t j u _ _ _ _ h
      · rw [key_rr] at h; exact wpAny_eqBool_str h
  «strs» := fun k x t v h => by
    rcases keyIs_shape h with ⟨i, u, rfl, e⟩ | ⟨y, u, rfl, e⟩
    · exact nomatch e
    · injection e with e1 _
      subst e1
      cases v <;> rfl

theorem mixKind_int (prog : Program) (w : World) (i : Int) (t : Tok) : (mixKind prog w).is (.inl i) (.int i t) = true := keyIs_int i t
theorem mixKind_str (prog : Program) (w : World) (x : Str) (t : Tok) : (mixKind prog w).is (.inr x) (.str x t) = true := keyIs_str x t
end L2

namespace L2
open PySem PySem.Spec PyProof.Rows

inductive V where
  | non | bl (b : Bool) | int (i : Int) | str (x : Str) | byt (b : Array UInt8) | flt (b : UInt64) | ref (a : Addr) | ty (n : String)
  deriving DecidableEq

noncomputable def RelV : V → Value → Prop
  | .non, u => u = Value.none
  | .bl b, u => u = Value.bool b
  | .int i, u => ∃ t, u = Value.int i t
  | .str x, u => ∃ t, u = Value.str x t
  | .byt b, u => ∃ t, u = Value.bytes b t
  | .flt b, u => ∃ t, u = Value.float b t
  | .ref a, u => u = Value.ref a
  | .ty n, u => u = Value.type n

noncomputable abbrev Vals : List V → List Value → Prop := Paired RelV
theorem Vals.length {xs : List V} {us : List Value} (r : Vals xs us) : xs.length = us.length := Paired.length r
theorem Vals.get : ∀ {xs : List V} {us : List Value} {i : Nat} {x : V}, Vals xs us → xs[i]? = some x → ∃ u, us[i]? = some u ∧ RelV x u
  | _, _, _, _, .nil, e => by simp at e
  | _, _, 0, _, .cons r _, e => by simp at e; subst e; exact ⟨_, rfl, r⟩
  | _, _, i + 1, x, .cons _ t, e => by
    obtain ⟨u, h1, h2⟩ := Vals.get (i := i) (x := x) t (by simpa using e)
    exact ⟨u, by simpa using h1, h2⟩
theorem Vals.set {x : V} {u : Value} (r : RelV x u) : ∀ {xs : List V} {us : List Value} (i : Nat), Vals xs us → Vals (xs.set i x) (us.set i u)
  | _, _, _, .nil => .nil
  | _, _, 0, .cons _ t => .cons r t
  | _, _, i + 1, .cons q t => .cons q (Vals.set r i t)
theorem Vals.append : ∀ {xs ys : List V} {us ws : List Value}, Vals xs us → Vals ys ws → Vals (xs ++ ys) (us ++ ws)
  | _, _, _, _, .nil, s => s
  | _, _, _, _, .cons r t, s => .cons r (Vals.append t s)
theorem Vals.take : ∀ {xs : List V} {us : List Value} (n : Nat), Vals xs us → Vals (xs.take n) (us.take n)
  | _, _, 0, _ => .nil
  | _, _, _ + 1, .nil => .nil
  | _, _, n + 1, .cons r t => .cons r (Vals.take n t)
theorem Vals.drop : ∀ {xs : List V} {us : List Value} (n : Nat), Vals xs us → Vals (xs.drop n) (us.drop n)
  | _, _, 0, r => r
  | _, _, _ + 1, .nil => .nil
  | _, _, n + 1, .cons _ t => Vals.drop n t
noncomputable def RelO : Option V → Option Value → Prop
  | some v, some u => RelV v u
  | none, none => True
  | _, _ => False
noncomputable def KV {κ : Type} : List (κ × V) → List (κ × Value) → Prop := Paired fun (p : κ × V) (q : κ × Value) => p.1 = q.1 ∧ RelV p.2 q.2

noncomputable def kV : Key → V
  | .inl i => .int i
  | .inr x => .str x

inductive HO where
  | lst (xs : List V)
  | tup (xs : List V)
  | dK (kvs : List (Key × V)) | dT (kvs : List (List Key × V))
  | set (S : Int → Bool) (n : Nat)
  | ins (C dx : Addr) (fs : List (Str × V))
  | own (x : Addr)
  | xd (fs : List (Str × V))
  | met (f x : Addr)
  | rng (lo hi : Int)
  | frz (o : Obj) (u : HO)
  | tbl (ps : Array Value)
  | ext (φ : Heap → Prop)

noncomputable abbrev Hp := Addr → Option HO
noncomputable def upd (H : Hp) (a : Addr) (o : HO) : Hp := fun b => if b = a then some o else H b
theorem upd_same {H : Hp} {a : Addr} {o : HO} : upd H a o a = some o := by unfold upd; rw [if_pos rfl]
theorem upd_ne {H : Hp} {a b : Addr} {o : HO} (h : b ≠ a) : upd H a o b = H b := by unfold upd; rw [if_neg h]
theorem ne_of {H : Hp} {a b : Addr} {o u : HO} (h : H a = some o) (h' : H b = some u) (d : o ≠ u) : a ≠ b := by
  intro e; subst e; rw [h] at h'; exact d (Option.some.inj h')
theorem ne_of_none {H : Hp} {a b : Addr} {o : HO} (h : H a = some o) (h' : H b = none) : a ≠ b := by
  intro e; subst e; rw [h] at h'; cases h'

section
variable (P : Program) (w : World)
noncomputable def ObjOk (H : Hp) (h : Heap) (a : Addr) : HO → Prop
  | .lst xs => xs.length ≤ sizeLine ∧ ∃ (its : List Value) (n : Nat), Vals xs its ∧ h.get? a = some { cls := .type "list", data := .seq its.toArray n }
  | .tup xs => xs.length ≤ sizeLine ∧ ∃ its : List Value, Vals xs its ∧ IsTup h a its.toArray
  | .dK kvs => kvs.length ≤ sizeLine ∧ (a == sysModules) = false ∧ ∃ vs, KV kvs vs ∧ h.DictOf (mixKind P w) a vs
  | .dT kvs => kvs.length ≤ sizeLine ∧ (a == sysModules) = false ∧ ∃ xs : List (List Key × Addr × Value),
      Paired (fun (p : List Key × V) (q : List Key × Addr × Value) => p.1 = q.1 ∧ H q.2.1 = some (.tup (p.1.map kV)) ∧ RelV p.2 q.2.2) kvs xs ∧
      ∃ o es ep, h.get? a = some o ∧ o.ExactDict ∧ o.data = .dict es ep ∧ es.toList = xs.map (entryOfKey (tupleKind (mixKind P w))) ∧ (xs.map (·.1)).Nodup
  | .set S n => h.SetOf (intKind P w) a S n
  | .ins C dx fs => H dx = some (.own a) ∧ fs.length ≤ 1000 ∧ dx ≠ a ∧ h.get? a = some (PySem.W.instObj C dx) ∧
      ∃ mA, h.Ns1 dx mA ∧ (∀ f, RelO (fs.lookup f) (mA f)) ∧ PySem.Within mA (fs.map (·.1))
  | .own _ => ∃ o, h.get? a = some o
  | .xd fs => ∃ mA, h.Ns1 a mA ∧ ∀ f, RelO (fs.lookup f) (mA f)
  | .rng lo hi => ∃ t u v, h.get? a = some { cls := .type "range", data := .fields #[.int lo t, .int hi u, .int 1 v] }
  | .frz o u => h.get? a = some o ∧ ObjOk H h a u
  | .tbl ps => h.get? a = some { cls := .none, data := .fields ps }
  | .met f x => h.get? a = some (PySem.W.methodObj (.ref f) (.ref x))
  | .ext φ => φ h ∧ (∃ o, h.get? a = some o) ∧ ∀ h1 h2 : Heap, φ h1 → (∀ o, h1.get? a = some o → h2.get? a = some o) → φ h2
noncomputable def HOk (H : Hp) (h : Heap) : Prop := ∀ a o, H a = some o → ObjOk P w H h a o
end

section
variable {P : Program} {w : World} {H H' : Hp} {h h' : Heap} {a : Addr} {o : HO}
theorem ObjOk.lt (x : ObjOk P w H h a o) : a < h.objs.size := by
  cases o with
  | lst xs => obtain ⟨_, _, _, _, e⟩ := x; exact Heap.lt_size e
  | tup xs => obtain ⟨_, _, _, p⟩ := x; exact p.lt
  | dK kvs => obtain ⟨_, _, _, _, o, _, _, e, _⟩ := x; exact Heap.lt_size e
  | dT kvs => obtain ⟨_, _, _, _, o, _, _, e, _⟩ := x; exact Heap.lt_size e
  | set S n => obtain ⟨o, _, _, _, e, _⟩ := x; exact Heap.lt_size e
  | ins C dx fs => obtain ⟨_, _, _, e, _⟩ := x; exact Heap.lt_size e
  | own y => obtain ⟨_, e⟩ := x; exact Heap.lt_size e
  | xd fs => obtain ⟨_, ⟨_, _, _, e, _⟩, _⟩ := x; exact Heap.lt_size e
  | rng lo hi => obtain ⟨_, _, _, e⟩ := x; exact Heap.lt_size e
  | frz ob u => obtain ⟨e, _⟩ := x; exact Heap.lt_size e
  | tbl ps => exact Heap.lt_size (show h.get? a = some _ from x)
  | met f y => exact Heap.lt_size (show h.get? a = some _ from x)
  | ext φ => obtain ⟨_, ⟨_, e⟩, _⟩ := x; exact Heap.lt_size e
theorem Paired.mapP {α β : Type} {F G : α → β → Prop} : ∀ {l₁ : List α} {l₂ : List β}, Paired F l₁ l₂ → (∀ a b, F a b → G a b) → Paired G l₁ l₂
  | _, _, .nil, _ => .nil
  | _, _, .cons r t, f => .cons (f _ _ r) (Paired.mapP t f)
theorem ObjOk.stay (x : ObjOk P w H h a o) (k : ∀ b u, (b = a ∨ H b = some (.own a)) → h.get? b = some u → h'.get? b = some u)
    (ho : ∀ b, H b = some (.own a) → H' b = some (.own a)) (ht : ∀ b xs, H b = some (.tup xs) → H' b = some (.tup xs)) : ObjOk P w H' h' a o := by
  induction o with
  | lst xs => obtain ⟨z, its, n, r, e⟩ := x; exact ⟨z, its, n, r, k _ _ (.inl rfl) e⟩
  | tup xs => obtain ⟨z, its, r, ob, e, c⟩ := x; exact ⟨z, its, r, ob, k _ _ (.inl rfl) e, c⟩
  | dK kvs => obtain ⟨z, y, vs, r, ob, es, ep, e, c⟩ := x; exact ⟨z, y, vs, r, ob, es, ep, k _ _ (.inl rfl) e, c⟩
  | dT kvs =>
    obtain ⟨z, y, xs, r, ob, es, ep, e, c⟩ := x
    exact ⟨z, y, xs, Paired.mapP r fun p q z => ⟨z.1, ht _ _ z.2.1, z.2.2⟩, ob, es, ep, k _ _ (.inl rfl) e, c⟩
  | set S n => obtain ⟨ob, es, ep, t, e, c⟩ := x; exact ⟨ob, es, ep, t, k _ _ (.inl rfl) e, c⟩
  | ins C dx fs =>
    obtain ⟨d, z, ne, e, mA, ⟨od, es, ep, e2, c⟩, r⟩ := x
    exact ⟨ho _ d, z, ne, k _ _ (.inl rfl) e, mA, ⟨od, es, ep, k _ _ (.inr d) e2, c⟩, r⟩
  | own y => obtain ⟨ob, e⟩ := x; exact ⟨ob, k _ _ (.inl rfl) e⟩
  | xd fs => obtain ⟨mA, ⟨od, es, ep, e, c⟩, r⟩ := x; exact ⟨mA, ⟨od, es, ep, k _ _ (.inl rfl) e, c⟩, r⟩
  | rng lo hi => obtain ⟨t, u, v, e⟩ := x; exact ⟨t, u, v, k _ _ (.inl rfl) e⟩
  | frz ob u ih => obtain ⟨e, q⟩ := x; exact ⟨k _ _ (.inl rfl) e, ih q⟩
  | tbl ps =>
    have e : h.get? a = some { cls := .none, data := .fields ps } := x
    show h'.get? a = some { cls := .none, data := .fields ps }
    exact k a _ (.inl rfl) e
  | met f y =>
    have e : h.get? a = some (PySem.W.methodObj (.ref f) (.ref y)) := x
    show h'.get? a = some (PySem.W.methodObj (.ref f) (.ref y))
    exact k a _ (.inl rfl) e
  | ext φ => obtain ⟨p, ⟨o, e⟩, st⟩ := x; exact ⟨st _ _ p fun o q => k _ _ (.inl rfl) q, ⟨o, k _ _ (.inl rfl) e⟩, st⟩
theorem HOk.lt (x : HOk P w H h) (e : H a = some o) : a < h.objs.size := (x a o e).lt
theorem HOk.fresh (x : HOk P w H h) (e : h.objs.size ≤ a) : H a = none := by
  cases q : H a with
  | none => rfl
  | some u => exact absurd (Nat.lt_of_lt_of_le (x.lt q) e) (Nat.lt_irrefl _)
theorem HOk.kept (x : HOk P w H h) (k : ∀ b u, h.get? b = some u → h'.get? b = some u) : HOk P w H h' := fun a o e =>
  (x a o e).stay (fun b u _ q => k b u q) (fun _ q => q) fun _ _ q => q
theorem HOk.laid (x : HOk P w H h) (k : ∀ b u, h.get? b = some u → h'.get? b = some u) (hp : h.objs.size ≤ a) (new : ObjOk P w (upd H a o) h' a o) : HOk P w (upd H a o) h' := fun b u e => by
  have hn := x.fresh hp
  by_cases hb : b = a
  · subst hb; rw [upd_same] at e; cases e; exact new
  · rw [upd_ne hb] at e
    exact (x b u e).stay (fun c v _ q => k c v q) (fun c q => by rw [upd_ne (ne_of_none q hn)]; exact q) fun c xs q => by rw [upd_ne (ne_of_none q hn)]; exact q
end

noncomputable def Rd (H : Hp) (a : Addr) (u : HO) : Prop := H a = some u ∨ ∃ o, H a = some (.frz o u)
theorem Rd.ok {P : Program} {w : World} {H : Hp} {h : Heap} {a : Addr} {u : HO} (r : Rd H a u) (x : HOk P w H h) : ObjOk P w H h a u := by
  rcases r with r | ⟨o, r⟩
  · exact x a u r
  · obtain ⟨_, q⟩ := x a _ r
    exact q
noncomputable def Mut : Option HO → Prop
  | some (.lst _) => True
  | some (.dK _) => True
  | some (.dT _) => True
  | some (.set _ _) => True
  | some (.ins _ _ _) => True
  | some (.ext _) => True
  | _ => False
section
variable {P : Program} {w : World} {H : Hp} {h h' : Heap} {x e : Addr} {o' : HO}
theorem HOk.write (ok : HOk P w H h) (mu : Mut (H x)) (he : e = x ∨ H e = some (.own x)) (k : ∀ b u, b ≠ e → h.get? b = some u → h'.get? b = some u) (heo : ∃ u, h'.get? e = some u)
    (new : ObjOk P w (upd H x o') h' x o') : HOk P w (upd H x o') h' := fun b u q => by
  have nown : ∀ c y, H c = some (.own y) → c ≠ x := fun c y r z => by subst z; rw [r] at mu; exact mu
  have ntup : ∀ c xs, H c = some (.tup xs) → c ≠ x := fun c xs r z => by subst z; rw [r] at mu; exact mu
  by_cases hb : b = x
  · subst hb; rw [upd_same] at q; cases q; exact new
  · rw [upd_ne hb] at q
    by_cases hbe : b = e
    · have q' : H b = some (.own x) := by
        rcases he with z | z
        · exact absurd (hbe.trans z) hb
        · rw [hbe]; exact z
      rw [q] at q'; cases q'
      obtain ⟨v, hv⟩ := heo
      exact ⟨v, by rw [hbe]; exact hv⟩
    · refine (ok b u q).stay (fun c v hc r => k c v ?_ r) (fun c r => by rw [upd_ne (nown c b r)]; exact r) fun c xs r => by rw [upd_ne (ntup c xs r)]; exact r
      rcases hc with rfl | hc
      · exact hbe
      · rintro rfl
        rcases he with z | z
        · exact nown c b hc z
        · rw [hc] at z; cases z; exact hb rfl
end

structure Un (fs ex : List Addr) (H H' : Hp) (h h' : Heap) : Prop where
  keep : ∀ b o, h.get? b = some o → H b = none → b ∉ fs → b ∉ ex → h'.get? b = some o
  slot : ∀ b o, h.get? b = some o → H b = none → b ∈ fs → b ∉ ex → ∃ sl, h'.get? b = some { o with slots := sl }
  free : ∀ b o, h.get? b = some o → H b = none → b ∉ ex → H' b = none
  there : ∀ b o, h.get? b = some o → b ∉ ex → ∃ o', h'.get? b = some o'
  tups : ∀ b xs, H b = some (.tup xs) → H' b = some (.tup xs)
  frzs : ∀ b o u, H b = some (.frz o u) → H' b = some (.frz o u)
  tbls : ∀ b ps, H b = some (.tbl ps) → ∃ more, H' b = some (.tbl (ps ++ more))
section
variable {fs fs' ex ex' : List Addr} {H H1 H2 : Hp} {h h1 h2 h' : Heap} {a x e : Addr} {o : HO}
theorem Un.any (u : Un fs ex H H1 h h1) {b : Addr} {ob : Obj} (q : h.get? b = some ob) (n : H b = none) (hx : b ∉ ex) : ∃ sl, h1.get? b = some { ob with slots := sl } := by
  by_cases hb : b ∈ fs
  · exact u.slot b ob q n hb hx
  · exact ⟨ob.slots, u.keep b ob q n hb hx⟩
theorem Un.trans (a : Un fs ex H H1 h h1) (b : Un fs ex H1 H2 h1 h2) : Un fs ex H H2 h h2 where
  keep := fun c ob q n hc hx => b.keep c ob (a.keep c ob q n hc hx) (a.free c ob q n hx) hc hx
  slot := fun c ob q n hc hx => by
    obtain ⟨sl, e1⟩ := a.slot c ob q n hc hx
    obtain ⟨sl', e2⟩ := b.slot c _ e1 (a.free c ob q n hx) hc hx
    exact ⟨sl', e2⟩
  free := fun c ob q n hx => by
    obtain ⟨o', e1⟩ := a.there c ob q hx
    exact b.free c o' e1 (a.free c ob q n hx) hx
  there := fun c ob q hx => by
    obtain ⟨o', e1⟩ := a.there c ob q hx
    exact b.there c o' e1 hx
  tups := fun c xs q => b.tups c xs (a.tups c xs q)
  frzs := fun c ob xs q => b.frzs c ob xs (a.frzs c ob xs q)
  tbls := fun c ps q => by
    obtain ⟨m1, e1⟩ := a.tbls c ps q
    obtain ⟨m2, e2⟩ := b.tbls c _ e1
    exact ⟨m1 ++ m2, by rw [e2, Array.append_assoc]⟩
theorem Un.kept (k : ∀ b u, h.get? b = some u → h'.get? b = some u) : Un fs ex H H h h' :=
  ⟨fun b ob q _ _ _ => k b ob q, fun b ob q _ _ _ => ⟨ob.slots, k b ob q⟩, fun _ _ _ n _ => n, fun b ob q _ => ⟨ob, k b ob q⟩, fun _ _ q => q, fun _ _ _ q => q, fun _ ps q => ⟨#[], by rw [q]; simp⟩⟩
theorem Un.refl : Un fs ex H H h h := Un.kept fun _ _ q => q
theorem Un.laid (k : ∀ b u, h.get? b = some u → h'.get? b = some u) (hp : h.objs.size ≤ a) (hn : H a = none) : Un fs ex H (upd H a o) h h' where
  keep := fun b u q _ _ _ => k b u q
  slot := fun b u q _ _ _ => ⟨u.slots, k b u q⟩
  free := fun b u q n _ => by rw [upd_ne (Nat.ne_of_lt (Nat.lt_of_lt_of_le (Heap.lt_size q) hp))]; exact n
  there := fun b u q _ => ⟨u, k b u q⟩
  tups := fun b xs q => by rw [upd_ne (ne_of_none q hn)]; exact q
  frzs := fun b u xs q => by rw [upd_ne (ne_of_none q hn)]; exact q
  tbls := fun b ps q => ⟨#[], by rw [upd_ne (ne_of_none q hn), q]; simp⟩
theorem Un.write (mu : Mut (H x)) (he : e = x ∨ H e = some (.own x)) (k : ∀ b u, b ≠ e → h.get? b = some u → h'.get? b = some u) (heo : ∃ u, h'.get? e = some u) : Un fs ex H (upd H x o) h h' := by
  have hx : ∀ b, H b = none → b ≠ x := fun b n z => by subst z; rw [n] at mu; exact mu
  have hb : ∀ b, H b = none → b ≠ e := fun b n z => by
    subst z
    rcases he with r | r
    · exact hx b n r
    · rw [n] at r; cases r
  have hm : ∀ b u, H b = some u → ¬ Mut (some u) → b ≠ x := fun b u q nm z => by subst z; rw [q] at mu; exact nm mu
  refine ⟨fun b u q n _ _ => k b u (hb b n) q, fun b u q n _ _ => ⟨u.slots, k b u (hb b n) q⟩, fun b u q n _ => by rw [upd_ne (hx b n)]; exact n, fun b u q _ => ?_,
    fun b xs q => by rw [upd_ne (hm b _ q fun z => z)]; exact q, fun b u xs q => by rw [upd_ne (hm b _ q fun z => z)]; exact q, fun b ps q => ⟨#[], by rw [upd_ne (hm b _ q fun z => z), q]; simp⟩⟩
  by_cases hbe : b = e
  · subst hbe; exact heo
  · exact ⟨u, k b u hbe q⟩
theorem Un.mono (u : Un fs ex H H1 h h1) (hs : ∀ b ∈ fs, b ∈ fs') (hx : ∀ b ∈ ex, b ∈ ex') : Un fs' ex' H H1 h h1 :=
  ⟨fun b ob q n hb he => u.keep b ob q n (fun z => hb (hs b z)) fun z => he (hx b z), fun _ _ q n _ he => u.any q n fun z => he (hx _ z), fun b ob q n he => u.free b ob q n fun z => he (hx b z), fun b ob q he => u.there b ob q fun z => he (hx b z), u.tups, u.frzs, u.tbls⟩
end

noncomputable def trk (h : Heap) (H : Hp) : List Addr := (List.range h.objs.size).filter fun a => (H a).isSome
noncomputable def hidT (h : Heap) (H : Hp) : Heap := PySem.W.hideAll h (trk h H)
theorem hidT_size (h : Heap) (H : Hp) : (hidT h H).objs.size = h.objs.size := PySem.W.hideAll_size _ _
theorem hidT_get {h : Heap} {H : Hp} {b : Addr} {o : Obj} (e : h.get? b = some o) (n : H b = none) : (hidT h H).get? b = some o :=
  PySem.W.hideAll_get _ e fun hm => by
    have q : (H b).isSome = true := (List.mem_filter.mp hm).2
    rw [n] at q; simp at q
theorem of_hidT {h : Heap} {H : Hp} {b : Addr} {o : Obj} (e : (hidT h H).get? b = some o) : h.get? b = some o ∧ H b = none := by
  have e' : h.get? b = some o := PySem.W.of_hideAll (trk h H) e
  refine ⟨e', ?_⟩
  cases q : H b with
  | none => rfl
  | some x =>
    have hm : b ∈ trk h H := List.mem_filter.mpr ⟨List.mem_range.mpr (Heap.lt_size e'), by simp [q]⟩
    have z : (hidT h H).get? b = none := PySem.W.hideAll_none (trk h H) hm
    rw [z] at e; cases e

end L2

namespace L2
open PySem PySem.Spec PyProof.Rows

structure Mod (K : PySem.W.Frag) (mg : Str → Option Value) (base : Heap) : Prop where
  kin : K.In base
  glob : base.Ns mainGlobals mg
  blt : ∃ mb, base.Ns builtinsNs mb ∧ ∀ x : Str, x ≠ "__name__" → mb x = bootBuiltins x
  nolimit : base.NoLimit

/-- the context: a def's body (or a comprehension's block) running. base: fixed through the whole law; s₀, H₀: the entry; outer: the frames whose slots others may change (a def's callers); stack: all frames that run;
   ex: iterators that were made ahead of the entry and are walked here (a comprehension's); fn: the names whose cells were made at the entry (a def: all; a comprehension's block: its own); calm: not within an except suite; pn: pins that every state bears; xe: what is wanted of an exception that leaves the code -/
structure Cx where
  prog : Program
  w : World
  K : PySem.W.Frag
  mg : Str → Option Value
  base : Heap
  A : Around
  N : List Str
  s₀ : Shared
  H₀ : Hp
  env : Env
  outer : List Env
  stack : List Env
  ex : List Addr
  fn : Str → Bool
  calm : Bool
  pn : List (Addr × Obj)
  xe : Value → Shared → Prop
noncomputable def frs (l : List Env) : List Addr := l.filterMap (·.frame)
noncomputable abbrev Cx.fs (X : Cx) : List Addr := frs X.outer

noncomputable def Vis (sc : Scope) (x : Str) : Prop := sc.names.lookup x = some .local ∨ sc.names.lookup x = some .cell ∨ sc.names.lookup x = some .free
noncomputable def Loc (sc : Scope) (x : Str) : Prop := sc.names.lookup x = some .local ∨ sc.names.lookup x = some .cell
noncomputable def Look (env : Env) (h : Heap) (m : Str → Option Value) (x : Str) (u : Value) : Prop :=
  (env.kindOf x = some .local ∧ m x = some u) ∨ ((env.kindOf x = some .cell ∨ env.kindOf x = some .free) ∧ ∃ c, env.cells.lookup x = some c ∧ h.IsCell c (some u))

structure Cx.Ok (X : Cx) : Prop where
  mod : Mod X.K X.mg X.base
  kind : X.env.scope.kind = .function
  glob : X.env.globals = mainGlobals
  blt : X.env.builtins = builtinsNs
  above : X.s₀.heap.objs.size ≤ X.env.locals
  inj : ∀ x y c, X.env.cells.lookup x = some c → X.env.cells.lookup y = some c → x = y
  has : ∀ x, (X.env.kindOf x = some .cell ∨ X.env.kindOf x = some .free) → ∃ c, X.env.cells.lookup x = some c
  cab : ∀ x c, X.fn x = true → X.env.cells.lookup x = some c → X.s₀.heap.objs.size ≤ c
  hd : X.calm = true → X.A.handled = none
  frames : X.A.frames = some X.stack
  stk : X.stack = X.outer ∨ (X.stack = X.env :: X.outer ∧ X.env.frame = some X.env.locals)
  exf : ∀ b ∈ X.ex, b ≠ X.env.locals ∧ ∀ x c, X.env.cells.lookup x = some c → c ≠ b
  bs : ∀ b o, X.base.get? b = some o → X.s₀.heap.get? b = some o ∧ X.H₀ b = none
  bsz : X.base.objs.size ≤ X.s₀.heap.objs.size
  noex : ∀ b o, X.base.get? b = some o → b ∉ X.ex
  exfs : ∀ b ∈ X.ex, b ∉ X.fs
  funs : X.s₀.heap.FunFrames X.base X.outer
  frf : ∀ b ∈ X.fs, X.H₀ b = none

structure Inv (X : Cx) (pins : List (Addr × Obj)) (σ : List (Option V)) (H : Hp) (s : Shared) : Prop where
  ok : X.Ok
  os : s.os = X.s₀.os
  bare : AllBare s.gens
  base : Un X.fs X.ex X.H₀ H X.s₀.heap s.heap
  loc : ∃ m, s.heap.Ns X.env.locals m ∧ ∀ (i : Nat) (x : Str) (v : V), X.N[i]? = some x → σ[i]? = some (some v) → Vis X.env.scope x → ∃ u, RelV v u ∧ Look X.env s.heap m x u
  cell : ∀ x c, X.env.cells.lookup x = some c → ∃ v, s.heap.IsCell c v
  free : H X.env.locals = none
  freeC : ∀ x c, X.env.cells.lookup x = some c → H c = none
  pin : ∀ p ∈ X.pn ++ pins, s.heap.get? p.1 = some p.2 ∧ H p.1 = none ∧ p.1 ≠ X.env.locals ∧ p.1 ∉ X.fs ∧ ∀ v, p.2.data ≠ .cell v
  hok : HOk X.prog X.w H s.heap
  len : σ.length = X.N.length

section
variable {X : Cx} {pins : List (Addr × Obj)} {σ : List (Option V)} {H H' : Hp} {s : Shared} {h' : Heap}

theorem Cx.Ok.nofr (ok : X.Ok) {b : Addr} {o : Obj} (e : X.base.get? b = some o) : b ∉ X.fs := fun hb => by
  have := (ok.funs.mem hb).1
  rw [e] at this; cases this
theorem Inv.bs (I : Inv X pins σ H s) : ∀ b o, X.base.get? b = some o → s.heap.get? b = some o ∧ H b = none := fun b o e =>
  ⟨I.base.keep b o (I.ok.bs b o e).1 (I.ok.bs b o e).2 (I.ok.nofr e) (I.ok.noex b o e), I.base.free b o (I.ok.bs b o e).1 (I.ok.bs b o e).2 (I.ok.noex b o e)⟩
theorem Inv.bk (I : Inv X pins σ H s) : ∀ b o, X.base.get? b = some o → s.heap.get? b = some o := fun b o e => (I.bs b o e).1
theorem Inv.mod (I : Inv X pins σ H s) : Mod X.K X.mg X.base := I.ok.mod
theorem Inv.kIn (I : Inv X pins σ H s) : X.K.In s.heap := I.ok.mod.kin.keeps I.bk
theorem Inv.lt (I : Inv X pins σ H s) : X.env.locals < s.heap.objs.size := let ⟨_, hn, _⟩ := I.loc; hn.lt
theorem Inv.sz (I : Inv X pins σ H s) : X.s₀.heap.objs.size ≤ s.heap.objs.size := Nat.le_trans I.ok.above (Nat.le_of_lt I.lt)
theorem Inv.nofs (I : Inv X pins σ H s) {a : Addr} (h : s.heap.objs.size ≤ a) : a ∉ X.fs := fun hb => by
  obtain ⟨_, o, ho, _⟩ := I.ok.funs.mem hb
  exact absurd (Nat.lt_of_lt_of_le (Heap.lt_size ho) (Nat.le_trans I.sz h)) (Nat.lt_irrefl _)
theorem Inv.cne (I : Inv X pins σ H s) : ∀ x c, X.env.cells.lookup x = some c → c ≠ X.env.locals := fun x c e z => by
  obtain ⟨v, o, ho, hd⟩ := I.cell x c e
  obtain ⟨m, ⟨o', es, ep, ho', hd', _⟩, _⟩ := I.loc
  rw [z, ho'] at ho; cases ho; rw [hd'] at hd; cases hd
theorem Inv.funs (I : Inv X pins σ H s) : s.heap.FunFrames X.base X.outer := by
  have all : ∀ (l : List Env), (∀ b ∈ frs l, b ∈ X.fs) → X.s₀.heap.FunFrames X.base l → s.heap.FunFrames X.base l := by
    intro l
    induction l with
    | nil => intro _ _; trivial
    | cons env r ih =>
      intro hs hl
      obtain ⟨hk, ⟨L, o, hf, hn, ho, hd⟩, hr⟩ := hl
      have hL : L ∈ X.fs := hs L (by unfold frs; rw [List.filterMap_cons, hf]; exact List.mem_cons_self)
      obtain ⟨sl, e⟩ := I.base.slot L o ho (I.ok.frf L hL) hL fun z => I.ok.exfs L z hL
      exact ⟨hk, ⟨L, _, hf, hn, e, hd⟩, ih (fun b hb => hs b (by unfold frs; rw [List.filterMap_cons, hf]; exact List.mem_cons_of_mem _ hb)) hr⟩
  exact all X.outer (fun _ hb => hb) I.ok.funs

theorem Inv.stack (I : Inv X pins σ H s) : s.heap.FunFrames X.base X.stack := by
  rcases I.ok.stk with e | ⟨e, hf⟩
  · rw [e]; exact I.funs
  · rw [e]
    obtain ⟨m, hn, _⟩ := I.loc
    refine .cons (by rw [I.ok.kind]; decide) hf hn ?_ I.funs
    exact Heap.get?_none_of_le (Nat.le_trans I.ok.bsz I.ok.above)
theorem Inv.stkSub (I : Inv X pins σ H s) : ∀ b ∈ frs X.stack, b ∈ X.env.locals :: X.fs := fun b hb => by
  rcases I.ok.stk with e | ⟨e, hf⟩
  · rw [e] at hb; exact List.mem_cons_of_mem _ hb
  · rw [e] at hb
    unfold frs at hb
    rw [List.filterMap_cons, hf] at hb
    exact hb
theorem Inv.stkFree (I : Inv X pins σ H s) : ∀ b ∈ frs X.stack, H b = none := fun b hb => by
  rcases List.mem_cons.mp (I.stkSub b hb) with e | hb
  · rw [e]; exact I.free
  · obtain ⟨_, o, ho, _⟩ := I.ok.funs.mem hb
    exact I.base.free b o ho (I.ok.frf b hb) fun z => I.ok.exfs b z hb

theorem Inv.step {g' : Array GenState} {t' : Nat} {d' : Drawn} {ch : List Addr} (I : Inv X pins σ H s)
    (hch : ∀ b ∈ ch, (b ∈ X.ex ∨ X.s₀.heap.objs.size ≤ b) ∧ b ≠ X.env.locals ∧ (∀ x c, X.env.cells.lookup x = some c → c ≠ b) ∧ ∀ p ∈ X.pn ++ pins, p.1 ≠ b)
    (keep : ∀ b o, b ≠ X.env.locals → b ∉ X.fs → b ∉ ch → s.heap.get? b = some o → H b = none → h'.get? b = some o)
    (slot : ∀ b o, b ≠ X.env.locals → b ∈ X.fs → b ∉ ch → s.heap.get? b = some o → H b = none → ∃ sl, h'.get? b = some { o with slots := sl }) (free : ∀ b o, b ∉ ch → s.heap.get? b = some o → H b = none → H' b = none)
    (there : ∀ b o, b ∉ ch → s.heap.get? b = some o → ∃ o', h'.get? b = some o')
    (tups : ∀ b xs, H b = some (.tup xs) → H' b = some (.tup xs)) (frzs : ∀ b o u, H b = some (.frz o u) → H' b = some (.frz o u)) (tbls : ∀ b ps, H b = some (.tbl ps) → ∃ more, H' b = some (.tbl (ps ++ more)))
    (ns : ∀ m, s.heap.Ns X.env.locals m → h'.Ns X.env.locals m) (hok : HOk X.prog X.w H' h') (hg : AllBare g') :
    Inv X pins σ H' { s with heap := h', gens := g', drawn := d', toks := t' } := by
  have neL : ∀ b o, X.s₀.heap.get? b = some o → b ≠ X.env.locals := fun b o e => Nat.ne_of_lt (Nat.lt_of_lt_of_le (Heap.lt_size e) I.ok.above)
  have neC : ∀ b o, X.s₀.heap.get? b = some o → b ∉ X.ex → b ∉ ch := fun b o e hx hb => by
    rcases (hch b hb).1 with z | z
    · exact hx z
    · exact absurd (Nat.lt_of_lt_of_le (Heap.lt_size e) z) (Nat.lt_irrefl _)
  have cellK : ∀ x c, X.env.cells.lookup x = some c → ∀ v, s.heap.IsCell c v → h'.IsCell c v := fun x c e v ⟨o, ho, hd⟩ => by
    have nch : c ∉ ch := fun z => (hch c z).2.2.1 x c e rfl
    by_cases hc : c ∈ X.fs
    · obtain ⟨sl, q⟩ := slot c o (I.cne x c e) hc nch ho (I.freeC x c e)
      exact ⟨_, q, hd⟩
    · exact ⟨o, keep c o (I.cne x c e) hc nch ho (I.freeC x c e), hd⟩
  refine ⟨I.ok, I.os, hg, ⟨fun b o e n hb hx => ?_, fun b o e n hb hx => ?_, fun b o e n hx => ?_, fun b o e hx => ?_, fun b xs e => tups b xs (I.base.tups b xs e), fun b o xs e => frzs b o xs (I.base.frzs b o xs e), fun b ps e => ?_⟩, ?_, fun x c e => ?_, ?_, fun x c e => ?_, fun p hp => ?_, hok, I.len⟩
  · exact keep b o (neL b o e) hb (neC b o e hx) (I.base.keep b o e n hb hx) (I.base.free b o e n hx)
  · obtain ⟨sl, e1⟩ := I.base.slot b o e n hb hx
    obtain ⟨sl', e2⟩ := slot b _ (neL b o e) hb (neC b o e hx) e1 (I.base.free b o e n hx)
    exact ⟨sl', e2⟩
  · obtain ⟨o', e1⟩ := I.base.there b o e hx
    exact free b o' (neC b o e hx) e1 (I.base.free b o e n hx)
  · obtain ⟨o', e1⟩ := I.base.there b o e hx
    exact there b o' (neC b o e hx) e1
  · obtain ⟨m1, e1⟩ := I.base.tbls b ps e
    obtain ⟨m2, e2⟩ := tbls b _ e1
    exact ⟨m1 ++ m2, by rw [e2, Array.append_assoc]⟩
  · obtain ⟨m, hn, hl⟩ := I.loc
    refine ⟨m, ns m hn, fun i x v e1 e2 e3 => ?_⟩
    obtain ⟨u, r, l⟩ := hl i x v e1 e2 e3
    refine ⟨u, r, ?_⟩
    rcases l with l | ⟨k, c, e, z⟩
    · exact .inl l
    · exact .inr ⟨k, c, e, cellK x c e _ z⟩
  · obtain ⟨v, z⟩ := I.cell x c e
    exact ⟨v, cellK x c e v z⟩
  · obtain ⟨m, ⟨o, _, _, ho, _⟩, _⟩ := I.loc
    exact free _ o (fun z => (hch _ z).2.1 rfl) ho I.free
  · obtain ⟨v, o, ho, hd⟩ := I.cell x c e
    exact free c o (fun z => (hch c z).2.2.1 x c e rfl) ho (I.freeC x c e)
  · obtain ⟨e, n, ne, nf, d⟩ := I.pin p hp
    have nch : p.1 ∉ ch := fun z => (hch p.1 z).2.2.2 p hp rfl
    exact ⟨keep p.1 p.2 ne nf nch e n, free p.1 p.2 nch e n, ne, nf, d⟩
theorem Inv.un {t' : Nat} (I : Inv X pins σ H s) (u : Un X.fs [] H H' s.heap h') (hok : HOk X.prog X.w H' h') : Inv X pins σ H' { s with heap := h', toks := t' } := by
  obtain ⟨m, ⟨o, es, ep, ho, r⟩, _⟩ := id I.loc
  obtain ⟨sl, hL⟩ := u.any ho I.free (by simp)
  exact I.step (g' := s.gens) (d' := s.drawn) (ch := []) (fun _ z => nomatch z) (fun b o _ hb _ e n => u.keep b o e n hb (by simp)) (fun b o _ hb _ e n => u.slot b o e n hb (by simp)) (fun b o _ e n => u.free b o e n (by simp)) (fun b o _ e => u.there b o e (by simp)) u.tups u.frzs u.tbls (fun m' hm => by
    obtain ⟨o', es', ep', ho', r'⟩ := hm
    rw [ho] at ho'; cases ho'
    exact ⟨_, es', ep', hL, r'⟩) hok I.bare
theorem Inv.call {g' : Array GenState} {t' : Nat} {d' : Drawn} {ch : List Addr} (I : Inv X pins σ H s) (u : Un (frs X.stack) ch H H' s.heap h') (hok : HOk X.prog X.w H' h') (hg : AllBare g')
    (hch : ∀ b ∈ ch, (b ∈ X.ex ∨ X.s₀.heap.objs.size ≤ b) ∧ b ≠ X.env.locals ∧ (∀ x c, X.env.cells.lookup x = some c → c ≠ b) ∧ ∀ p ∈ X.pn ++ pins, p.1 ≠ b) :
    Inv X pins σ H' { s with heap := h', gens := g', drawn := d', toks := t' } := by
  obtain ⟨m, ⟨o, es, ep, ho, r⟩, _⟩ := id I.loc
  obtain ⟨sl, hL⟩ := u.any ho I.free fun z => (hch _ z).2.1 rfl
  exact I.step (ch := ch) hch (fun b o hL hb hc e n => u.keep b o e n (fun z => (List.mem_cons.mp (I.stkSub b z)).elim hL hb) hc) (fun b o _ _ hc e n => u.any e n hc) (fun b o hc e n => u.free b o e n hc) (fun b o hc e => u.there b o e hc) u.tups u.frzs u.tbls (fun m' hm => by
    obtain ⟨o', es', ep', ho', r'⟩ := hm
    rw [ho] at ho'; cases ho'
    exact ⟨_, es', ep', hL, r'⟩) hok hg
theorem Inv.turned {t' : Nat} {it : Addr} (I : Inv X pins σ H s) (k : ∀ b o, b ≠ it → s.heap.get? b = some o → h'.get? b = some o) (hn : H it = none) (hL : it ≠ X.env.locals)
    (h1 : it ∈ X.ex ∨ X.s₀.heap.objs.size ≤ it) (h2 : ∀ x c, X.env.cells.lookup x = some c → c ≠ it) (h3 : ∀ p ∈ X.pn ++ pins, p.1 ≠ it) : Inv X pins σ H { s with heap := h', toks := t' } := by
  have nit : ∀ b u, H b = some u → b ≠ it := fun b u e z => by rw [z, hn] at e; cases e
  refine I.step (g' := s.gens) (d' := s.drawn) (ch := [it]) (fun b hb => ?_) (fun b o _ _ hc e _ => k b o (fun z => hc (by simp [z])) e) (fun b o _ _ hc e _ => ⟨o.slots, k b o (fun z => hc (by simp [z])) e⟩) (fun _ _ _ _ n => n)
    (fun b o hc e => ⟨o, k b o (fun z => hc (by simp [z])) e⟩) (fun _ _ e => e) (fun _ _ _ e => e) (fun b ps e => ⟨#[], by rw [e]; simp⟩) (fun m hm => ?_) (fun b u e => ?_) I.bare
  · have e : b = it := by simpa using hb
    subst e
    exact ⟨h1, hL, h2, h3⟩
  · obtain ⟨o, es, ep, ho, r⟩ := hm
    exact ⟨o, es, ep, k _ o (Ne.symm hL) ho, r⟩
  · refine (I.hok b u e).stay (fun c v hc q => k c v ?_ q) (fun _ q => q) fun _ _ q => q
    rcases hc with z | z
    · rw [z]; exact nit b u e
    · exact nit c _ z
theorem Inv.tok (I : Inv X pins σ H s) (t : Nat) : Inv X pins σ H { s with toks := t } := I.un (h' := s.heap) (t' := t) Un.refl I.hok
theorem Inv.kept {t' : Nat} (I : Inv X pins σ H s) (k : ∀ b u, s.heap.get? b = some u → h'.get? b = some u) : Inv X pins σ H { s with heap := h', toks := t' } := I.un (Un.kept k) (I.hok.kept k)
theorem Inv.laid {a : Addr} {o : HO} {t' : Nat} (I : Inv X pins σ H s) (k : ∀ b u, s.heap.get? b = some u → h'.get? b = some u) (hp : s.heap.objs.size ≤ a) (new : ObjOk X.prog X.w (upd H a o) h' a o) :
    Inv X pins σ (upd H a o) { s with heap := h', toks := t' } := I.un (Un.laid k hp (I.hok.fresh hp)) (I.hok.laid k hp new)
theorem Inv.write {x e : Addr} {o : HO} {t' : Nat} (I : Inv X pins σ H s) (mu : Mut (H x)) (he : e = x ∨ H e = some (.own x)) (k : ∀ b u, b ≠ e → s.heap.get? b = some u → h'.get? b = some u) (heo : ∃ u, h'.get? e = some u)
    (new : ObjOk X.prog X.w (upd H x o) h' x o) : Inv X pins σ (upd H x o) { s with heap := h', toks := t' } := I.un (Un.write mu he k heo) (I.hok.write mu he k heo new)
theorem Inv.pins_of {pins' : List (Addr × Obj)} (I : Inv X pins σ H s) (h : ∀ p ∈ pins', s.heap.get? p.1 = some p.2 ∧ H p.1 = none ∧ p.1 ≠ X.env.locals ∧ p.1 ∉ X.fs ∧ ∀ v, p.2.data ≠ .cell v) : Inv X pins' σ H s :=
  ⟨I.ok, I.os, I.bare, I.base, I.loc, I.cell, I.free, I.freeC, fun p hp => (List.mem_append.mp hp).elim (fun z => I.pin p (List.mem_append_left _ z)) (h p), I.hok, I.len⟩

theorem nodup_ix {N : List Str} (hN : N.Nodup) {i j : Nat} {x : Str} (a : N[i]? = some x) (b : N[j]? = some x) : i = j := by
  obtain ⟨h1, e1⟩ := List.getElem?_eq_some_iff.mp a
  obtain ⟨h2, e2⟩ := List.getElem?_eq_some_iff.mp b
  exact (List.getElem_inj hN).mp (e1.trans e2.symm)

theorem store_ok2 {M : Model} {A : Around} {E : Value → Shared → Prop} {i : Nat} {x : Str} {v : V} {u : Value} {Q : Unit → Shared → Prop} (I : Inv X pins σ H s) (hN : X.N.Nodup) (hi : X.N[i]? = some x) (hx : Loc X.env.scope x) (r : RelV v u)
    (h : ∀ s', Inv X pins (σ.set i (some v)) H s' → (∃ a, Heap.SameBut a s.heap s'.heap ∧ (a = X.env.locals ∨ X.env.cells.lookup x = some a)) → Q () s') (hf : X.fn x = true ∨ X.env.scope.names.lookup x = some .local := by first | exact .inl rfl | exact .inr rfl | assumption) : wpAny M A (storeName X.env x u) Q E s := by
  obtain ⟨m, hn, hl⟩ := id I.loc
  have hcls : (X.env.scope.kind == .class || (X.env.scope.kind == .module && X.env.locals != X.env.globals)) = false := by rw [I.ok.kind]; rfl
  have hiσ : i < σ.length := by rw [I.len]; exact (List.getElem?_eq_some_iff.mp hi).1
  have cne := I.cne
  have tracked : ∀ {a : Addr} {h' : Heap}, (∃ o, s.heap.get? a = some o ∧ H a = none) → Heap.SameBut a s.heap h' → HOk X.prog X.w H h' := fun {a h'} ha hs b ob e => by
    obtain ⟨_, _, hfree⟩ := ha
    refine (I.hok b ob e).stay (fun c w' hc q => (hs.2 c ?_).trans q) (fun _ q => q) fun _ _ q => q
    rintro rfl
    rcases hc with rfl | hc
    · rw [hfree] at e; cases e
    · rw [hfree] at hc; cases hc
  rcases hx with hk | hk
  · refine wpAny_storeName_local hk hn (fun h' hn' hs => ?_) hcls
    obtain ⟨oL, _, _, hoL, _⟩ := id hn
    refine h _ ⟨I.ok, I.os, I.bare, ⟨fun b o e n hb hx => ?_, fun b o e n hb hx => ?_, I.base.free, fun b o e hx => ?_, I.base.tups, I.base.frzs, I.base.tbls⟩, ⟨_, hn', fun j y v' e1 e2 e3 => ?_⟩, fun y c e => ?_, I.free, I.freeC, fun p hp => ?_, tracked ⟨oL, hoL, I.free⟩ hs, by simpa using I.len⟩ ⟨_, hs, .inl rfl⟩
    · exact (hs.2 b (Nat.ne_of_lt (Nat.lt_of_lt_of_le (Heap.lt_size e) I.ok.above))).trans (I.base.keep b o e n hb hx)
    · obtain ⟨sl, e1⟩ := I.base.slot b o e n hb hx
      exact ⟨sl, (hs.2 b (Nat.ne_of_lt (Nat.lt_of_lt_of_le (Heap.lt_size e) I.ok.above))).trans e1⟩
    · obtain ⟨o', e1⟩ := I.base.there b o e hx
      exact ⟨o', (hs.2 b (Nat.ne_of_lt (Nat.lt_of_lt_of_le (Heap.lt_size e) I.ok.above))).trans e1⟩
    · by_cases hj : j = i
      · subst hj
        rw [hi] at e1; cases e1
        rw [List.getElem?_set_self hiσ] at e2
        cases e2
        exact ⟨u, r, .inl ⟨hk, by simp⟩⟩
      · rw [List.getElem?_set_ne (Ne.symm hj)] at e2
        obtain ⟨u', r', q⟩ := hl j y v' e1 e2 e3
        refine ⟨u', r', ?_⟩
        rcases q with ⟨k, e⟩ | ⟨k, c, e, z⟩
        · refine .inl ⟨k, ?_⟩
          have : y ≠ x := fun e => hj (nodup_ix hN e1 (e ▸ hi))
          simp [this, e]
        · exact .inr ⟨k, c, e, z.sameBut hs (cne y c e)⟩
    · obtain ⟨w', z⟩ := I.cell y c e
      exact ⟨w', z.sameBut hs (cne y c e)⟩
    · obtain ⟨e, n, ne, nf, d⟩ := I.pin p hp
      exact ⟨(hs.2 p.1 ne).trans e, n, ne, nf, d⟩
  · have hfn : X.fn x = true := by
      rcases hf with z | z
      · exact z
      · rw [z] at hk; cases hk
    obtain ⟨c, hc⟩ := I.ok.has x (.inl hk)
    obtain ⟨w', z⟩ := I.cell x c hc
    refine wpAny_storeName_cell I.ok.kind hk hc z (fun h' hc' hs => ?_)
    obtain ⟨oc, hoc, hocd⟩ := id z
    refine h { s with heap := h' } ⟨I.ok, I.os, I.bare, ⟨fun b o e n hb hx => ?_, fun b o e n hb hx => ?_, I.base.free, fun b o e hx => ?_, I.base.tups, I.base.frzs, I.base.tbls⟩, ⟨m, hn.sameBut hs (Ne.symm (cne x c hc)), fun j y v' e1 e2 e3 => ?_⟩, fun y c' e => ?_, I.free, I.freeC, fun p hp => ?_, tracked ⟨oc, hoc, I.freeC x c hc⟩ hs, by simpa using I.len⟩ ⟨c, hs, .inr hc⟩
    · exact (hs.2 b (Nat.ne_of_lt (Nat.lt_of_lt_of_le (Heap.lt_size e) (I.ok.cab x c hfn hc)))).trans (I.base.keep b o e n hb hx)
    · obtain ⟨sl, e1⟩ := I.base.slot b o e n hb hx
      exact ⟨sl, (hs.2 b (Nat.ne_of_lt (Nat.lt_of_lt_of_le (Heap.lt_size e) (I.ok.cab x c hfn hc)))).trans e1⟩
    · obtain ⟨o', e1⟩ := I.base.there b o e hx
      exact ⟨o', (hs.2 b (Nat.ne_of_lt (Nat.lt_of_lt_of_le (Heap.lt_size e) (I.ok.cab x c hfn hc)))).trans e1⟩
    · by_cases hj : j = i
      · subst hj
        rw [hi] at e1; cases e1
        rw [List.getElem?_set_self hiσ] at e2
        cases e2
        exact ⟨u, r, .inr ⟨.inl hk, c, hc, hc'⟩⟩
      · rw [List.getElem?_set_ne (Ne.symm hj)] at e2
        obtain ⟨u', r', q⟩ := hl j y v' e1 e2 e3
        refine ⟨u', r', ?_⟩
        rcases q with q | ⟨k, c', e, z'⟩
        · exact .inl q
        · refine .inr ⟨k, c', e, z'.sameBut hs ?_⟩
          rintro rfl
          exact hj (nodup_ix hN e1 (I.ok.inj _ _ _ e hc ▸ hi))
    · by_cases hcc : c' = c
      · subst hcc; exact ⟨_, hc'⟩
      · obtain ⟨w2, z2⟩ := I.cell y c' e
        exact ⟨w2, z2.sameBut hs hcc⟩
    · obtain ⟨e, n, ne, nf, d⟩ := I.pin p hp
      refine ⟨(hs.2 p.1 ?_).trans e, n, ne, nf, d⟩
      intro q
      rw [q, hoc] at e
      have q' : oc = p.2 := Option.some.inj e
      exact d w' (by rw [← q']; exact hocd)
theorem store_ok {M : Model} {A : Around} {E : Value → Shared → Prop} {i : Nat} {x : Str} {v : V} {u : Value} {Q : Unit → Shared → Prop} (I : Inv X pins σ H s) (hN : X.N.Nodup) (hi : X.N[i]? = some x) (hx : Loc X.env.scope x) (r : RelV v u)
    (h : ∀ s', Inv X pins (σ.set i (some v)) H s' → Q () s') (hf : X.fn x = true ∨ X.env.scope.names.lookup x = some .local := by first | exact .inl rfl | exact .inr rfl | assumption) : wpAny M A (storeName X.env x u) Q E s :=
  store_ok2 I hN hi hx r (fun s' I' _ => h s' I') hf
theorem Inv.call' {s' : Shared} {ch : List Addr} (I : Inv X pins σ H s) (ho : s'.os = s.os) (u : Un (frs X.stack) ch H H' s.heap s'.heap) (hok : HOk X.prog X.w H' s'.heap) (hg : AllBare s'.gens)
    (hch : ∀ b ∈ ch, (b ∈ X.ex ∨ X.s₀.heap.objs.size ≤ b) ∧ b ≠ X.env.locals ∧ (∀ x c, X.env.cells.lookup x = some c → c ≠ b) ∧ ∀ p ∈ X.pn ++ pins, p.1 ≠ b) : Inv X pins σ H' s' := by
  obtain ⟨h', g', d', t', o'⟩ := s'
  have e : o' = s.os := ho
  subst e
  exact I.call (g' := g') (t' := t') (d' := d') u hok hg hch
end

noncomputable abbrev XK := Value → Option Addr → Hp → Prop
noncomputable abbrev St := List (Option V)
noncomputable abbrev VK := V → Hp → Prop
noncomputable abbrev TE := St → Hp → VK → Prop
noncomputable abbrev TT := St → Hp → (Bool → Hp → Prop) → Prop
noncomputable abbrev TA := St → Hp → (List V → Hp → Prop) → Prop
structure Ends where
  nx : St → Hp → Prop
  rt : VK
  bk : St → Hp → Prop := fun _ _ => False
  ct : St → Hp → Prop := fun _ _ => False
noncomputable abbrev TS := Ends → St → Hp → Prop

noncomputable def EP (X : Cx) (pins : List (Addr × Obj)) (σ : St) (Q : VK) (u : Value) (s' : Shared) : Prop := ∃ v H', Inv X pins σ H' s' ∧ RelV v u ∧ Q v H'
noncomputable def TP (X : Cx) (pins : List (Addr × Obj)) (σ : St) (Q : Bool → Hp → Prop) (b : Bool) (s' : Shared) : Prop := ∃ H', Inv X pins σ H' s' ∧ Q b H'
noncomputable def AP (X : Cx) (pins : List (Addr × Obj)) (σ : St) (Q : List V → Hp → Prop) (us : List Value) (s' : Shared) : Prop := ∃ vs H', Inv X pins σ H' s' ∧ Vals vs us ∧ Q vs H'
noncomputable def SP (X : Cx) (pins : List (Addr × Obj)) (D : Ends) (f : Flow) (s' : Shared) : Prop :=
  match f with
  | .next => ∃ σ' H', Inv X pins σ' H' s' ∧ D.nx σ' H'
  | .brk => ∃ σ' H', Inv X pins σ' H' s' ∧ D.bk σ' H'
  | .cont => ∃ σ' H', Inv X pins σ' H' s' ∧ D.ct σ' H'
  | .ret u => ∃ v σ' H', Inv X pins σ' H' s' ∧ RelV v u ∧ D.rt v H'

noncomputable def PE (X : Cx) (e : Expr) (t : TE) : Prop :=
  ∀ (pins : List (Addr × Obj)) (s : Shared) (σ : St) (H : Hp) (Q : VK), Inv X pins σ H s → t σ H Q → wpAny (model X.prog X.w) X.A (eval e X.env) (EP X pins σ Q) X.xe s
noncomputable def PT (X : Cx) (e : Expr) (t : TT) : Prop :=
  ∀ (pins : List (Addr × Obj)) (s : Shared) (σ : St) (H : Hp) (Q : Bool → Hp → Prop), Inv X pins σ H s → t σ H Q → wpAny (model X.prog X.w) X.A (isTrue e X.env (eval e X.env)) (TP X pins σ Q) X.xe s
noncomputable def PW (X : Cx) (e : Expr) (t : TT) : Prop :=
  ∀ (whole : Sem Value) (pins : List (Addr × Obj)) (s : Shared) (σ : St) (H : Hp) (Q : Bool → Hp → Prop), Inv X pins σ H s → t σ H Q → wpAny (model X.prog X.w) X.A (isTrue e X.env whole) (TP X pins σ Q) X.xe s
theorem PW.pt {X : Cx} {e : Expr} {t : TT} (h : PW X e t) : PT X e t := h _
noncomputable def PA (X : Cx) (es : List Expr) (t : TA) : Prop :=
  ∀ (pos : Pos) (pins : List (Addr × Obj)) (s : Shared) (σ : St) (H : Hp) (Q : List V → Hp → Prop), Inv X pins σ H s → t σ H Q → wpAny (model X.prog X.w) X.A (spliced (backTo pos (starEach es X.env))) (AP X pins σ Q) X.xe s
noncomputable def PS (X : Cx) (st : Stmt) (t : TS) : Prop :=
  ∀ (pins : List (Addr × Obj)) (s : Shared) (σ : St) (H : Hp) (D : Ends), Inv X pins σ H s → t D σ H → wpAny (model X.prog X.w) X.A (exec st X.env) (SP X pins D) X.xe s
noncomputable def PSs (X : Cx) (st : List Stmt) (t : TS) : Prop :=
  ∀ (pins : List (Addr × Obj)) (s : Shared) (σ : St) (H : Hp) (D : Ends), Inv X pins σ H s → t D σ H → wpAny (model X.prog X.w) X.A (execs st X.env) (SP X pins D) X.xe s
theorem thn {α : Type} {t : Sem α} {Q Q' : α → Shared → Prop} {M : Model} {A : Around} {E : Value → Shared → Prop} {s : Shared} (h : wpAny M A t Q E s) (hQ : ∀ a s, Q a s → Q' a s) : wpAny M A t Q' E s := wpAny_mono h hQ fun _ _ x => x
end L2

namespace L2
open PySem PySem.Spec PyProof.Rows
section
variable {X : Cx}

noncomputable def tVar (i : Nat) : TE := fun σ H Q => ∃ v, σ[i]? = some (some v) ∧ Q v H
noncomputable def tC (v : V) : TE := fun _ H Q => Q v H
theorem pe_var {i : Nat} {x : Str} {pos : Pos} (hN : X.N[i]? = some x) (hv : Vis X.env.scope x) (hd : (x == ("__debug__" : Str)) = false := by decide) (hcd : (x == ("__classdict__" : Str)) = false := by decide) : PE X (.Name x pos) (tVar i) := by
  intro pins s σ H Q I h
  obtain ⟨v, e, h⟩ := h
  obtain ⟨m, hn, hl⟩ := I.loc
  obtain ⟨u, r, l⟩ := hl i x v hN e hv
  have fin : EP X pins σ Q u s := ⟨v, H, I, r, h⟩
  rcases l with ⟨hk, hm⟩ | ⟨hk, c, hc, hcell⟩
  · exact wpAny_Name (wpAny_loadName_local I.ok.kind hk hn hm fin) hd
  · rcases hk with hk | hk
    · exact wpAny_Name (wpAny_loadName_cell I.ok.kind hk hc hcell fin) hd
    · exact wpAny_Name (wpAny_loadName_free I.ok.kind hk hc hcell fin hcd) hd
theorem pe_int {i j pos} : PE X (.Constant (.int i) j pos) (tC (.int i)) := fun _ _ _ H _ I h => wpAny_Constant_int ⟨.int i, H, I.tok _, ⟨_, rfl⟩, h⟩
theorem pe_bl {b j pos} : PE X (.Constant (.bool b) j pos) (tC (.bl b)) := fun _ _ _ H _ I h => Constant_bool ⟨.bl b, H, I, rfl, h⟩
theorem pe_non {j pos} : PE X (.Constant .none j pos) (tC .non) := fun _ _ _ H _ I h => Constant_none ⟨.non, H, I, rfl, h⟩
theorem pe_str {x j pos} : PE X (.Constant (.str x) j pos) (tC (.str x)) := fun _ _ _ H _ I h => Calls.Constant_str ⟨.str x, H, I.tok _, ⟨_, rfl⟩, h⟩

noncomputable def Gl (X : Cx) (x : Str) : Prop := X.env.kindOf x = some .globalImplicit
theorem ld_glob {E : Value → Shared → Prop} {pins : List (Addr × Obj)} {s : Shared} {σ : St} {H : Hp} {x : Str} {u : Value} {pos : Pos} {Q : Value → Shared → Prop} (I : Inv X pins σ H s) (hg : Gl X x) (hm : X.mg x = some u) (h : Q u s)
    (hd : (x == ("__debug__" : Str)) = false := by decide) : wpAny (model X.prog X.w) X.A (eval (.Name x pos) X.env) Q E s :=
  Calls.Name_function_global I.ok.kind hg (Calls.loadGlobal_global (by rw [I.ok.glob]; exact I.mod.glob.keeps I.bk) hm h) hd
theorem ld_blt {E : Value → Shared → Prop} {pins : List (Addr × Obj)} {s : Shared} {σ : St} {H : Hp} {x : Str} {u : Value} {pos : Pos} {Q : Value → Shared → Prop} (I : Inv X pins σ H s) (hg : Gl X x) (hm : X.mg x = none) (hv : bootBuiltins x = some u) (h : Q u s)
    (hn : x ≠ "__name__" := by decide) (hd : (x == ("__debug__" : Str)) = false := by decide) : wpAny (model X.prog X.w) X.A (eval (.Name x pos) X.env) Q E s := by
  obtain ⟨mb, h1, h2⟩ := I.mod.blt
  exact Calls.Name_function_global I.ok.kind hg (Calls.loadGlobal_builtin (by rw [I.ok.glob]; exact I.mod.glob.keeps I.bk) hm (by rw [I.ok.blt]; exact h1.keeps I.bk) ((h2 x hn).trans hv) h) hd
theorem pe_glob {x : Str} {v : V} {u : Value} {pos : Pos} (hg : Gl X x) (hm : X.mg x = some u) (r : RelV v u) (hd : (x == ("__debug__" : Str)) = false := by decide) : PE X (.Name x pos) (tC v) :=
  fun _ _ _ H _ I h => ld_glob I hg hm ⟨v, H, I, r, h⟩ hd
theorem pe_bltn {x : Str} {v : V} {u : Value} {pos : Pos} (hg : Gl X x) (hm : X.mg x = none) (hv : bootBuiltins x = some u) (r : RelV v u) (hn : x ≠ "__name__" := by decide) (hd : (x == ("__debug__" : Str)) = false := by decide) : PE X (.Name x pos) (tC v) :=
  fun _ _ _ H _ I h => ld_blt I hg hm hv ⟨v, H, I, r, h⟩ hn hd

variable {a b : Expr} {ta tb : TE} {pos : Pos}
noncomputable def PC (X : Cx) (op : CmpOp) (a b : Expr) (t : TE) : Prop :=
  ∀ (pins : List (Addr × Obj)) (s : Shared) (σ : St) (H : Hp) (Q : VK), Inv X pins σ H s → t σ H Q →
    wpAny (model X.prog X.w) X.A (eval a X.env) (fun v s₁ => wpAny (model X.prog X.w) X.A (eval b X.env) (fun u s₂ => wpAny (model X.prog X.w) X.A (compareOp op v u) (EP X pins σ Q) X.xe s₂) X.xe s₁) X.xe s
noncomputable def tB (t : TE) : TT := fun σ H Q => t σ H fun x H1 => ∃ c, x = .bl c ∧ Q c H1
theorem pt_cmp {op : CmpOp} {t : TE} (h : PC X op a b t) (h1 : behindInMarks op b = false := by first | exact nobehind _ (by decide) (by decide) | rfl) : PT X (.Compare a [op] [b] pos) (tB t) := by
  intro pins s σ H Q I hw
  refine wpAny_isTrue_Compare1 (thn (h pins s σ H _ I hw) fun v s1 h1 => thn h1 fun u s2 h2 => thn h2 fun c s3 ⟨x, H1, I1, r1, q1⟩ => ?_) h1
  obtain ⟨d, rfl, q⟩ := q1
  cases r1
  exact wpAny_truthy_bool ⟨H1, I1, q⟩
theorem pt_val {e : Expr} {t : TE} (h : PE X e t) (he : ∀ whole, isTrue e X.env whole = (do let v ← whole; standAt e.pos; holding [v] (truthy v)) := by intro _; rfl) : PT X e (tB t) := by
  intro pins s σ H Q I hw
  refine isTrue_plain (thn (h pins s σ H _ I hw) fun v s1 ⟨x, H1, I1, r1, q1⟩ => ?_) (he _)
  obtain ⟨d, rfl, q⟩ := q1
  cases r1
  exact wpAny_truthy_bool ⟨H1, I1, q⟩

variable {tA tB' : TT} {rest : List Expr}
noncomputable def tAnd (t u : TT) : TT := fun σ H Q => t σ H fun c H1 => if c = true then u σ H1 Q else Q false H1
noncomputable def tOr (t u : TT) : TT := fun σ H Q => t σ H fun c H1 => if c = true then Q true H1 else u σ H1 Q
noncomputable def tNot (t : TT) : TT := fun σ H Q => t σ H fun c H1 => Q (!c) H1
theorem pw_and1 (ha : PT X a tA) : PW X (.BoolOp .And [a] pos) tA := by
  intro wh pins s σ H Q I h
  refine isTrue_and (thn (ha pins s σ H Q I h) fun c s1 e => ?_)
  cases c with
  | true => exact isTrue_and_nil e
  | false => exact e
theorem pw_or1 (ha : PT X a tA) : PW X (.BoolOp .Or [a] pos) tA := by
  intro wh pins s σ H Q I h
  refine isTrue_or (thn (ha pins s σ H Q I h) fun c s1 e => ?_)
  cases c with
  | false => exact isTrue_or_nil e
  | true => exact e
theorem pw_and (ha : PT X a tA) (hb : PW X (.BoolOp .And (b :: rest) pos) tB') : PW X (.BoolOp .And (a :: b :: rest) pos) (tAnd tA tB') := by
  intro wh pins s σ H Q I h
  refine isTrue_and (thn (ha pins s σ H _ I h) fun c s1 ⟨H1, I1, q1⟩ => ?_)
  cases c with
  | true => exact hb wh pins s1 σ H1 Q I1 q1
  | false => exact ⟨H1, I1, q1⟩
theorem pw_or (ha : PT X a tA) (hb : PW X (.BoolOp .Or (b :: rest) pos) tB') : PW X (.BoolOp .Or (a :: b :: rest) pos) (tOr tA tB') := by
  intro wh pins s σ H Q I h
  refine isTrue_or (thn (ha pins s σ H _ I h) fun c s1 ⟨H1, I1, q1⟩ => ?_)
  cases c with
  | true => exact ⟨H1, I1, q1⟩
  | false => exact hb wh pins s1 σ H1 Q I1 q1
theorem pt_not (ha : PT X a tA) : PT X (.UnaryOp .Not a pos) (tNot tA) := by
  intro pins s σ H Q I h
  exact isTrue_not (ha pins s σ H (fun c H1 => Q (!c) H1) I h)
noncomputable def tAndV (ta tb : TE) : TE := fun σ H Q => ta σ H fun x H1 => ∃ c, x = .bl c ∧ if c = true then tb σ H1 Q else Q (.bl false) H1
noncomputable def tOrV (ta tb : TE) : TE := fun σ H Q => ta σ H fun x H1 => ∃ c, x = .bl c ∧ if c = true then Q (.bl true) H1 else tb σ H1 Q
noncomputable def tNotV (ta : TE) : TE := fun σ H Q => ta σ H fun x H1 => ∃ c, x = .bl c ∧ Q (.bl (!c)) H1
theorem pe_one {op} {t : TE} (h : PE X a t) : PE X (.BoolOp op [a] pos) t := fun pins s σ H Q I hw => BoolOp_one (h pins s σ H Q I hw)
theorem pe_and (ha : PE X a ta) (hb : PE X (.BoolOp .And (b :: rest) pos) tb) : PE X (.BoolOp .And (a :: b :: rest) pos) (tAndV ta tb) := by
  intro pins s σ H Q I h
  refine BoolOp_and (thn (ha pins s σ H _ I h) fun v s1 ⟨x, H1, I1, r1, q1⟩ => ?_)
  obtain ⟨c, rfl, q1⟩ := q1
  cases r1
  refine wpAny_truthy_bool ?_
  cases c with
  | true => exact hb pins s1 σ H1 Q I1 q1
  | false => exact ⟨.bl false, H1, I1, rfl, q1⟩
theorem pe_or (ha : PE X a ta) (hb : PE X (.BoolOp .Or (b :: rest) pos) tb) : PE X (.BoolOp .Or (a :: b :: rest) pos) (tOrV ta tb) := by
  intro pins s σ H Q I h
  refine BoolOp_or (thn (ha pins s σ H _ I h) fun v s1 ⟨x, H1, I1, r1, q1⟩ => ?_)
  obtain ⟨c, rfl, q1⟩ := q1
  cases r1
  refine wpAny_truthy_bool ?_
  cases c with
  | false => exact hb pins s1 σ H1 Q I1 q1
  | true => exact ⟨.bl true, H1, I1, rfl, q1⟩
theorem pe_not (ha : PE X a ta) : PE X (.UnaryOp .Not a pos) (tNotV ta) := by
  intro pins s σ H Q I h
  refine UnaryOp_ (thn (ha pins s σ H _ I h) fun v s1 ⟨x, H1, I1, r1, q1⟩ => ?_)
  obtain ⟨c, rfl, q1⟩ := q1
  cases r1
  exact not_of (wpAny_truthy_bool ⟨.bl (!c), H1, I1, rfl, q1⟩)
noncomputable def tIf (t : TT) (ta tb : TE) : TE := fun σ H Q => t σ H fun c H1 => if c = true then ta σ H1 Q else tb σ H1 Q
theorem pe_ifExp {c : Expr} (hc : PT X c tA) (ha : PE X a ta) (hb : PE X b tb) : PE X (.IfExp c a b pos) (tIf tA ta tb) := by
  intro pins s σ H Q I h
  refine wpAny_IfExp (thn (hc pins s σ H _ I h) fun d s1 ⟨H1, I1, q1⟩ => ?_)
  cases d with
  | true => exact ha pins s1 σ H1 Q I1 q1
  | false => exact hb pins s1 σ H1 Q I1 q1
end
end L2

namespace L2
open PySem PySem.Spec PyProof.Rows

noncomputable def SqL (K : PySem.W.Frag) (H : Hp) (a : Addr) (xs : List V) : Prop :=
  Rd H a (.lst xs) ∨
    ∃ (o : Obj) (its : Array Value) (n : Nat), K.lookup a = some o ∧ o.cls = .type "list" ∧ o.dict = none ∧ o.data = .seq its n ∧ its.size ≤ sizeLine ∧ Vals xs its.toList
noncomputable def SqT (K : PySem.W.Frag) (H : Hp) (a : Addr) (xs : List V) : Prop :=
  Rd H a (.tup xs) ∨
    ∃ (o : Obj) (its : Array Value) (n : Nat), K.lookup a = some o ∧ o.cls = .type "tuple" ∧ o.data = .seq its n ∧ its.size ≤ sizeLine ∧ Vals xs its.toList
noncomputable def absV : Value → Option V
  | .none => some .non
  | .bool b => some (.bl b)
  | .int i _ => some (.int i)
  | .str x _ => some (.str x)
  | .bytes b _ => some (.byt b)
  | .float b _ => some (.flt b)
  | .ref a => some (.ref a)
  | .type n => some (.ty n)
  | _ => none
theorem RelV.abs {x : V} {u : Value} (r : RelV x u) : absV u = some x := by
  cases x with
  | non => cases r; rfl
  | bl _ => cases r; rfl
  | int _ => obtain ⟨t, rfl⟩ := r; rfl
  | str _ => obtain ⟨t, rfl⟩ := r; rfl
  | byt _ => obtain ⟨t, rfl⟩ := r; rfl
  | flt _ => obtain ⟨t, rfl⟩ := r; rfl
  | ref _ => cases r; rfl
  | ty _ => cases r; rfl
theorem RelV.inj {x y : V} {u : Value} (r : RelV x u) (q : RelV y u) : x = y := Option.some.inj (r.abs.symm.trans q.abs)
theorem Vals.inj : ∀ {xs ys : List V} {us : List Value}, Vals xs us → Vals ys us → xs = ys
  | _, _, _, .nil, .nil => rfl
  | _, _, _, .cons r t, .cons r' t' => by rw [r.inj r', Vals.inj t t']
section
variable {X : Cx} {pins : List (Addr × Obj)} {σ : St} {H : Hp} {s : Shared} {a : Addr} {xs ys : List V}
theorem SqL.of {K : PySem.W.Frag} (h : H a = some (.lst xs)) : SqL K H a xs := .inl (.inl h)
theorem SqT.of {K : PySem.W.Frag} (h : H a = some (.tup xs)) : SqT K H a xs := .inl (.inl h)
theorem Inv.list (I : Inv X pins σ H s) (h : SqL X.K H a xs) : ∃ its : List Value, Vals xs its ∧ PlainL s.heap a its.toArray ∧ xs.length ≤ sizeLine := by
  rcases h with h | ⟨o, its, n, hk, hc, hd, hs, hz, r⟩
  · obtain ⟨z, its, n, r, e⟩ := h.ok I.hok
    exact ⟨its, r, ⟨_, n, e, rfl, rfl, rfl⟩, z⟩
  · refine ⟨its.toList, r, ⟨o, n, I.kIn a o hk, hc, hd, by simpa using hs⟩, ?_⟩
    have e := r.length
    simp only [Array.length_toList] at e
    omega
theorem Inv.tuple (I : Inv X pins σ H s) (h : SqT X.K H a xs) : ∃ its : List Value, Vals xs its ∧ IsTup s.heap a its.toArray ∧ xs.length ≤ sizeLine := by
  rcases h with h | ⟨o, its, n, hk, hc, hs, hz, r⟩
  · obtain ⟨z, its, r, p⟩ := h.ok I.hok
    exact ⟨its, r, p, z⟩
  · refine ⟨its.toList, r, ⟨o, I.kIn a o hk, hc, n, by simpa using hs⟩, ?_⟩
    have e := r.length
    simp only [Array.length_toList] at e
    omega
theorem Inv.list_inj (I : Inv X pins σ H s) (h : SqL X.K H a xs) (h' : SqL X.K H a ys) : xs = ys := by
  obtain ⟨its, r, ⟨o, n, e, _, _, d⟩, _⟩ := I.list h
  obtain ⟨its', r', ⟨o', n', e', _, _, d'⟩, _⟩ := I.list h'
  rw [e] at e'; cases e'
  rw [d] at d'
  injection d' with d1 _
  have : its = its' := by simpa using congrArg Array.toList d1
  subst this
  exact r.inj r'
theorem Inv.tuple_inj (I : Inv X pins σ H s) (h : SqT X.K H a xs) (h' : SqT X.K H a ys) : xs = ys := by
  obtain ⟨its, r, ⟨o, e, _, n, d⟩, _⟩ := I.tuple h
  obtain ⟨its', r', ⟨o', e', _, n', d'⟩, _⟩ := I.tuple h'
  rw [e] at e'; cases e'
  rw [d] at d'
  injection d' with d1 _
  have : its = its' := by simpa using congrArg Array.toList d1
  subst this
  exact r.inj r'
end

noncomputable abbrev Cx.wish (X : Cx) (E : Value → Shared → Prop) : Cx := { X with xe := E }
noncomputable abbrev Cx.nox (X : Cx) : Cx := X.wish fun _ _ => False
theorem Cx.Ok.wish {X : Cx} (ok : X.Ok) (E : Value → Shared → Prop) : (X.wish E).Ok :=
  ⟨ok.mod, ok.kind, ok.glob, ok.blt, ok.above, ok.inj, ok.has, ok.cab, ok.hd, ok.frames, ok.stk, ok.exf, ok.bs, ok.bsz, ok.noex, ok.exfs, ok.funs, ok.frf⟩
theorem Cx.Ok.unwish {X : Cx} {E : Value → Shared → Prop} (ok : (X.wish E).Ok) : X.Ok :=
  ⟨ok.mod, ok.kind, ok.glob, ok.blt, ok.above, ok.inj, ok.has, ok.cab, ok.hd, ok.frames, ok.stk, ok.exf, ok.bs, ok.bsz, ok.noex, ok.exfs, ok.funs, ok.frf⟩
section
variable {X : Cx} {pins : List (Addr × Obj)} {σ : St} {H : Hp} {s : Shared} {E : Value → Shared → Prop}
theorem Inv.wish (I : Inv X pins σ H s) (E : Value → Shared → Prop) : Inv (X.wish E) pins σ H s := ⟨I.ok.wish E, I.os, I.bare, I.base, I.loc, I.cell, I.free, I.freeC, I.pin, I.hok, I.len⟩
theorem Inv.unwish (I : Inv (X.wish E) pins σ H s) : Inv X pins σ H s := ⟨I.ok.unwish, I.os, I.bare, I.base, I.loc, I.cell, I.free, I.freeC, I.pin, I.hok, I.len⟩
theorem SP.unwish {D : Ends} {f : Flow} {s' : Shared} (h : SP (X.wish E) pins D f s') : SP X pins D f s' := by
  cases f with
  | next => obtain ⟨σ', H', I, q⟩ := h; exact ⟨σ', H', I.unwish, q⟩
  | brk => obtain ⟨σ', H', I, q⟩ := h; exact ⟨σ', H', I.unwish, q⟩
  | cont => obtain ⟨σ', H', I, q⟩ := h; exact ⟨σ', H', I.unwish, q⟩
  | ret u => obtain ⟨v, σ', H', I, r, q⟩ := h; exact ⟨v, σ', H', I.unwish, r, q⟩
theorem PSs.nox {st : List Stmt} {t : TS} (h : PSs X.nox st t) : PSs X st t := fun pins s σ H D I hw =>
  wpAny_mono (h pins s σ H D (I.wish _) hw) (fun _ _ q => q.unwish) fun _ _ z => False.elim z
end

section
variable {X : Cx} {st : Stmt} {rest : List Stmt} {t u : TS} {e : Expr} {te : TE} {pos : Pos}
noncomputable def tNext : TS := fun D σ H => D.nx σ H
noncomputable def tSeq (t u : TS) : TS := fun D σ H => t { D with nx := u D } σ H
theorem pss_nil : PSs X [] tNext := fun _ _ σ H _ I h => wpAny_execs_nil ⟨σ, H, I, h⟩
theorem pss_cons (h1 : PS X st t) (h2 : PSs X rest u) : PSs X (st :: rest) (tSeq t u) := by
  intro pins s σ H D I h
  refine wpAny_execs_cons (thn (h1 pins s σ H { D with nx := u D } I h) fun f s1 q => ?_)
  cases f with
  | next =>
    obtain ⟨σ', H', I', q⟩ := q
    exact h2 pins s1 σ' H' D I' q
  | ret v => exact q
  | brk => exact q
  | cont => exact q
theorem pss_one (h1 : PS X st t) : PSs X [st] t := by
  intro pins s σ H D I h
  refine wpAny_execs_cons (thn (h1 pins s σ H D I h) fun f s1 q => ?_)
  cases f with
  | next => exact wpAny_execs_nil q
  | ret v => exact q
  | brk => exact q
  | cont => exact q
theorem Inv.quiet {pins : List (Addr × Obj)} {σ : St} {H : Hp} {s : Shared} (I : Inv X pins σ H s) : interactive X.env = false := by simp [interactive, I.ok.kind]
noncomputable def tDrop (te : TE) : TS := fun D σ H => te σ H fun _ H1 => D.nx σ H1
theorem ps_expr (he : PE X e te) (hs : swapsWith e none pos.line X.env = pure false := by rfl) : PS X (.Expr e pos) (tDrop te) := by
  intro pins s σ H D I h
  exact wpAny_Expr_any (thn (he pins s σ H _ I h) fun v s1 ⟨x, H1, I1, r1, q1⟩ => ⟨σ, H1, I1, q1⟩) I.quiet hs
noncomputable def tRet (te : TE) : TS := fun D σ H => te σ H D.rt
theorem ps_ret (he : PE X e te) : PS X (.Return (some e) pos) (tRet te) := by
  intro pins s σ H D I h
  exact wpAny_Return_some (thn (he pins s σ H _ I h) fun v s1 ⟨x, H1, I1, r1, q1⟩ => ⟨x, σ, H1, I1, r1, q1⟩)
noncomputable def tIfS (c : TT) (t u : TS) : TS := fun D σ H => c σ H fun b H1 => if b = true then t D σ H1 else u D σ H1
theorem ps_if {c : Expr} {a b : List Stmt} {tc : TT} (hc : PT X c tc) (ha : PSs X a t) (hb : PSs X b u) : PS X (.If c a b pos) (tIfS tc t u) := by
  intro pins s σ H D I h
  refine wpAny_If (thn (hc pins s σ H _ I h) fun d s1 ⟨H1, I1, q1⟩ => ?_)
  cases d with
  | true => exact ha pins s1 σ H1 D I1 q1
  | false => exact hb pins s1 σ H1 D I1 q1
noncomputable def tNever : TS := fun _ _ _ => False
theorem ps_never : PS X st tNever := fun _ _ _ _ _ _ h => h.elim
end

noncomputable abbrev TG := V → St → Hp → (St → Hp → Prop) → Prop
noncomputable abbrev TGs := List V → St → Hp → (St → Hp → Prop) → Prop
noncomputable def PG (X : Cx) (target : Expr) (t : TG) : Prop :=
  ∀ (pins : List (Addr × Obj)) (s : Shared) (σ : St) (H : Hp) (v : V) (u : Value) (Q : St → Hp → Prop), Inv X pins σ H s → RelV v u → t v σ H Q →
    wpAny (model X.prog X.w) X.A (assign target X.env u) (fun _ s' => ∃ σ' H', Inv X pins σ' H' s' ∧ Q σ' H') X.xe s
noncomputable def PGs (X : Cx) (ts : List Expr) (t : TGs) : Prop :=
  ∀ (pins : List (Addr × Obj)) (s : Shared) (σ : St) (H : Hp) (vs : List V) (us : List Value) (Q : St → Hp → Prop), Inv X pins σ H s → Vals vs us → t vs σ H Q →
    wpAny (model X.prog X.w) X.A (assignInOrder ((assignEach ts X.env).map (·.2)) us) (fun _ s' => ∃ σ' H', Inv X pins σ' H' s' ∧ Q σ' H') X.xe s
noncomputable abbrev TSet := V → V → V → Hp → (Hp → Prop) → Prop
noncomputable def PSet (X : Cx) (t : TSet) : Prop :=
  ∀ (pins : List (Addr × Obj)) (s : Shared) (σ : St) (H : Hp) (o i v : V) (ov iv u : Value) (Q : Hp → Prop), Inv X pins σ H s → RelV o ov → RelV i iv → RelV v u → t o i v H Q →
    wpAny (model X.prog X.w) X.A (setItem ov iv u) (fun _ s' => ∃ H', Inv X pins σ H' s' ∧ Q H') X.xe s
section
variable {X : Cx} {pos : Pos}
noncomputable def gName (i : Nat) : TG := fun v σ H Q => Q (σ.set i (some v)) H
theorem pg_name {i : Nat} {x : Str} (hN : X.N.Nodup) (hi : X.N[i]? = some x) (hx : Loc X.env.scope x) (hf : X.fn x = true ∨ X.env.scope.names.lookup x = some .local := by first | exact .inl rfl | exact .inr rfl | assumption) : PG X (.Name x pos) (gName i) := by
  intro pins s σ H v u Q I r h
  exact wpAny_assign_Name (store_ok I hN hi hx r (fun s' I' => ⟨_, H, I', h⟩) hf)
noncomputable def gNil : TGs := fun vs σ H Q => vs = [] ∧ Q σ H
noncomputable def gCons (t : TG) (u : TGs) : TGs := fun vs σ H Q => ∃ v r, vs = v :: r ∧ t v σ H fun σ' H' => u r σ' H' Q
theorem pgs_nil : PGs X [] gNil := by
  intro pins s σ H vs us Q I r h
  obtain ⟨e, h⟩ := h
  subst e
  cases r
  exact assignInOrder_nil ⟨σ, H, I, h⟩
theorem pgs_cons {e : Expr} {es : List Expr} {t : TG} {u : TGs} (h1 : PG X e t) (h2 : PGs X es u)
    (hs : (assignEach (e :: es) X.env).map (·.2) = assign e X.env :: (assignEach es X.env).map (·.2) := by rfl) : PGs X (e :: es) (gCons t u) := by
  intro pins s σ H vs us Q I r h
  obtain ⟨v, vr, e1, h⟩ := h
  subst e1
  cases r with
  | cons r rr =>
    rw [hs]
    refine assignInOrder_cons (thn (h1 pins s σ H _ _ _ I r h) fun _ s1 ⟨σ1, H1, I1, q1⟩ => ?_)
    exact h2 pins s1 σ1 H1 _ _ Q I1 rr q1
noncomputable def gTup (K : PySem.W.Frag) (n : Nat) (t : TGs) : TG := fun v σ H Q => ∃ a xs, v = .ref a ∧ SqT K H a xs ∧ xs.length = n ∧ t xs σ H Q
theorem pg_tup {es : List Expr} {k : Nat} {t : TGs} {n : Nat} (hc : X.calm = true) (h : PGs X es t)
    (hn : (assignEach es X.env).length = n := by rfl) (hst : (assignEach es X.env).findIdx? (·.1) = none := by rfl) : PG X (.Tuple es k pos) (gTup X.K n t) := by
  intro pins s σ H v u Q I r hw
  obtain ⟨a, xs, e1, hq, hl, hw⟩ := hw
  subst e1
  cases r
  obtain ⟨its, rv, ht, hz⟩ := I.tuple hq
  refine assign_Tuple_tuple (I.ok.hd hc) ht (by simp [hn, ← hl, rv.length]) hst fun h' hx => ?_
  have I1 : Inv X pins σ H { s with heap := h' } := I.kept (t' := s.toks) fun b o e => hx b o (Nat.ne_of_lt (Heap.lt_size e)) e
  exact h pins _ σ H xs _ Q I1 (by simpa using rv) hw
noncomputable def gSub (to ti : TE) (t : TSet) : TG := fun v σ H Q => to σ H fun o H1 => ti σ H1 fun i H2 => t o i v H2 fun H3 => Q σ H3
theorem pg_sub {o i : Expr} {to ti : TE} {t : TSet} (ho : PE X o to) (hi : PE X i ti) (hs : PSet X t)
    (ha : ∀ v, assign (.Subscript o i pos) X.env v = (do
      let ov ← holding [v] (eval o X.env)
      let iv ← holding [v, ov] (eval i X.env)
      standAt pos
      holding [v, ov, iv] (setItem ov iv v)
      release [v, ov, iv] []) := by intro _; rfl) : PG X (.Subscript o i pos) (gSub to ti t) := by
  intro pins s σ H v u Q I r h
  rw [ha]
  refine wpAny_bind (wpAny_holding (thn (ho pins s σ H _ I h) fun ov s1 ⟨x, H1, I1, r1, q1⟩ => ?_))
  refine wpAny_bind (wpAny_holding (thn (hi pins s1 σ H1 _ I1 q1) fun iv s2 ⟨y, H2, I2, r2, q2⟩ => ?_))
  refine wpAny_bind (wpAny_standAt (wpAny_bind (wpAny_holding (thn (hs pins s2 σ H2 x y v ov iv u _ I2 r1 r2 r q2) fun _ s3 ⟨H3, I3, q3⟩ => ?_))))
  exact wpAny_release ⟨σ, H3, I3, q3⟩
noncomputable def tAsg (te : TE) (g : TG) : TS := fun D σ H => te σ H fun x H1 => g x σ H1 D.nx
theorem ps_asg {tg e : Expr} {te : TE} {g : TG} (he : PE X e te) (hg : PG X tg g) (hs : swapsWithSole [tg] e pos.line X.env = pure false := by rfl) (hw : swappedStores [tg] e X.env = pure none := by rfl)
    (h1 : (assignEach [tg] X.env).map (·.2) = [assign tg X.env] := by rfl) : PS X (.Assign [tg] e pos) (tAsg te g) := by
  intro pins s σ H D I h
  refine wpAny_Assign_stores (thn (he pins s σ H _ I h) fun v s1 ⟨x, H1, I1, r1, q1⟩ => ?_) hs hw
  rw [h1]
  exact thn (hg pins s1 σ H1 x v _ I1 r1 q1) fun _ s2 q => q
theorem ps_set {i : Nat} {x : Str} {e : Expr} {te : TE} {pos' : Pos} (hN : X.N.Nodup) (hi : X.N[i]? = some x) (hx : Loc X.env.scope x) (he : PE X e te) (hs : swapsWith e (some (.Name x pos')) pos.line X.env = pure false := by rfl) (hf : X.fn x = true ∨ X.env.scope.names.lookup x = some .local := by first | exact .inl rfl | exact .inr rfl | assumption) :
    PS X (.Assign [.Name x pos'] e pos) (tAsg te (gName i)) := by
  intro pins s σ H D I h
  refine wpAny_Assign_Name (thn (he pins s σ H _ I h) fun v s1 ⟨y, H1, I1, r1, q1⟩ => ?_) hs
  exact store_ok I1 hN hi hx r1 (fun s2 I2 => ⟨_, H1, I2, q1⟩) hf
end

section
variable {X : Cx} {pos : Pos}
noncomputable def tWhile (c : TT) (tb : TS) : TS := fun D σ H => ∃ W : Nat → St → Hp → Prop, (∃ m, W m σ H) ∧ ∀ m σ H, W m σ H →
  c σ H fun b H1 => if b = true then ∃ N : St → Hp → Prop, (∀ σ' H', N σ' H' → ∃ m', m' < m ∧ W m' σ' H') ∧ tb { D with nx := N, ct := N, bk := D.nx } σ H1 else D.nx σ H1
theorem ps_while {c : Expr} {body : List Stmt} {tc : TT} {tb : TS} (hp : PassesOwn (model X.prog X.w) X.A X.env X.xe) (hc : PT X c tc) (hb : PSs X body tb) : PS X (.While c body [] pos) (tWhile tc tb) := by
  intro pins s σ H D I h
  obtain ⟨W, ⟨m0, w0⟩, turn⟩ := h
  refine wpAny_While (codeAny_whileLoop (fun n s' => ∃ σ' H', Inv X pins σ' H' s' ∧ W n σ' H') ?_ m0 ⟨σ, H, I, w0⟩)
  rintro n s1 ⟨σ1, H1, I1, w1⟩
  refine wpAny_passesOwn hp (thn (hc pins s1 σ1 H1 _ I1 (turn n σ1 H1 w1)) fun b s2 ⟨H2, I2, q2⟩ => ?_)
  cases b with
  | true =>
    obtain ⟨N, hN, q2⟩ := q2
    rw [if_pos rfl]
    refine wpAny_passesOwn hp (thn (hb pins s2 σ1 H2 _ I2 q2) fun f s3 q3 => ?_)
    cases f with
    | next =>
      obtain ⟨σ3, H3, I3, n3⟩ := q3
      obtain ⟨m', hm, w3⟩ := hN σ3 H3 n3
      exact ⟨m', hm, σ3, H3, I3, w3⟩
    | cont =>
      obtain ⟨σ3, H3, I3, n3⟩ := q3
      obtain ⟨m', hm, w3⟩ := hN σ3 H3 n3
      exact ⟨m', hm, σ3, H3, I3, w3⟩
    | brk => exact q3
    | ret v => exact q3
  | false =>
    rw [if_neg Bool.false_ne_true]
    exact wpAny_execs_nil ⟨σ1, H2, I2, q2⟩
end

structure It where
  go : Nat → Hp → Prop
  yld : Nat → Hp → V → Hp → Prop
  stop : Nat → Hp → Prop
noncomputable def FpOk (X : Cx) (pins : List (Addr × Obj)) (H : Hp) (b : Addr) : Prop :=
  H b = none ∧ b ≠ X.env.locals ∧ b ∉ X.fs ∧ (b ∈ X.ex ∨ X.s₀.heap.objs.size ≤ b) ∧ (∀ x c, X.env.cells.lookup x = some c → c ≠ b) ∧ ∀ p ∈ X.pn ++ pins, p.1 ≠ b
theorem Inv.fpOk {X : Cx} {pins : List (Addr × Obj)} {σ : St} {H H' : Hp} {s : Shared} {b : Addr} (I : Inv X pins σ H s) (hb : s.heap.objs.size ≤ b) (hn : H' b = none) : FpOk X pins H' b := by
  refine ⟨hn, Nat.ne_of_gt (Nat.lt_of_lt_of_le I.lt hb), I.nofs hb, .inr (Nat.le_trans I.sz hb), fun x c e z => ?_, fun p hp z => ?_⟩
  · obtain ⟨v, q⟩ := I.cell x c e
    exact absurd (Nat.lt_of_lt_of_le q.lt (by rw [z]; exact hb)) (Nat.lt_irrefl _)
  · exact absurd (Nat.lt_of_lt_of_le (Heap.lt_size (I.pin p hp).1) (by rw [z]; exact hb)) (Nat.lt_irrefl _)
structure Turn (P : Program) (w : World) (K : PySem.W.Frag) (tg : Expr) (J : It) (fp : List Addr) (it : Addr) (tn : Nat → Heap → Prop) : Prop where
  mem : it ∈ fp
  obj : ∀ i h, tn i h → ∀ b ∈ fp, ∃ o, h.get? b = some o ∧ ∀ v, o.data ≠ .cell v
  keep : ∀ i h h', tn i h → (∀ b ∈ fp, ∀ o, h.get? b = some o → h'.get? b = some o) → tn i h'
  item : ∀ (X : Cx), X.prog = P → X.w = w → X.K = K → X.calm = true → ∀ (i : Nat) (pins : List (Addr × Obj)) (s : Shared) (σ : St) (H : Hp) (E : Value → Shared → Prop), Inv X pins σ H s → (∀ b ∈ fp, FpOk X pins H b) → tn i s.heap → J.go i H →
    wpAny (model P w) X.A (pyNext (.ref it)) (fun r s1 => ∃ u, r = some u ∧
      wpAny (model P w) X.A (letOwnedTupleGo tg (.ref it) u) (fun _ s2 => ∃ x H', Inv X pins σ H' s2 ∧ RelV x u ∧ J.yld i H x H' ∧ tn (i + 1) s2.heap ∧ ∀ b ∈ fp, H' b = none) E s1) E s
  done : ∀ (X : Cx), X.prog = P → X.w = w → X.K = K → X.calm = true → ∀ (i : Nat) (pins : List (Addr × Obj)) (s : Shared) (σ : St) (H : Hp) (E : Value → Shared → Prop), Inv X pins σ H s → (∀ b ∈ fp, FpOk X pins H b) → tn i s.heap → J.stop i H →
    wpAny (model P w) X.A (pyNext (.ref it)) (fun r s1 => r = none ∧ Inv X pins σ H s1) E s
  self : ∀ (A : Around) (i : Nat) (s : Shared) (Q : Value → Shared → Prop) (E : Value → Shared → Prop), tn i s.heap → Q (.ref it) s → wpAny (model P w) A (pyIter (.ref it)) Q E s
noncomputable abbrev TI := St → Hp → (It → Hp → Prop) → Prop
noncomputable def PIE (X : Cx) (pins : List (Addr × Obj)) (σ : St) (tg : Expr) (R : It → Hp → Prop) (itv : Value) (s2 : Shared) : Prop :=
  ∃ (it : Addr) (fp : List Addr) (tn : Nat → Heap → Prop) (J : It) (H' : Hp), itv = .ref it ∧ Inv X pins σ H' s2 ∧ Turn X.prog X.w X.K tg J fp it tn ∧ tn 0 s2.heap ∧ (∀ b ∈ fp, FpOk X pins H' b) ∧ R J H'
noncomputable def PI (X : Cx) (tg iter : Expr) (wi : TI) : Prop :=
  ∀ (pins : List (Addr × Obj)) (s : Shared) (σ : St) (H : Hp) (R : It → Hp → Prop), Inv X pins σ H s → wi σ H R →
    wpAny (model X.prog X.w) X.A (eval iter X.env) (fun v s1 => wpAny (model X.prog X.w) X.A (pyIter v) (PIE X pins σ tg R) X.xe s1) X.xe s

theorem go_of {M : Model} {A : Around} {E : Value → Shared → Prop} {s : Shared} {tg : Expr} {it : Addr} {u : Value} {o : Obj} {n : String} {vs : Array Value} {Q : Unit → Shared → Prop} (ho : s.heap.get? it = some o) (hc : o.cls = .type n) (hd : o.data = .fields vs)
    (hn : ["enumerate", "zip", "dict_itemiterator", "dict_reverseitemiterator", "odict_iterator", "itertools.zip_longest", "itertools.pairwise"].contains n = false) (hQ : Q () s) : wpAny M A (letOwnedTupleGo tg (.ref it) u) Q E s := by
  unfold letOwnedTupleGo
  cases tg <;> first
    | exact wpAny_pure hQ
    | (cases u <;> first
        | exact wpAny_pure hQ
        | (refine wpAny_bind (wpAny_load ho ?_)
           rw [hc, hd]
           show wpAny M A (if (["enumerate", "zip", "dict_itemiterator", "dict_reverseitemiterator", "odict_iterator", "itertools.zip_longest", "itertools.pairwise"].contains n && vs[0]? == some (rawInt _)) = true then _ else _) Q E s
           rw [if_neg (by intro h; rw [hn, Bool.false_and] at h; cases h)]
           exact wpAny_pure hQ))

noncomputable def Itl (K : PySem.W.Frag) (a : Addr) : It :=
  ⟨fun i H => ∃ xs x, SqL K H a xs ∧ xs[i]? = some x, fun i H x H' => H' = H ∧ ∀ xs, SqL K H a xs → xs[i]? = some x, fun i H => ∃ xs, SqL K H a xs ∧ xs.length ≤ i⟩
noncomputable def Itt (K : PySem.W.Frag) (a : Addr) : It :=
  ⟨fun i H => ∃ xs x, SqT K H a xs ∧ xs[i]? = some x, fun i H x H' => H' = H ∧ ∀ xs, SqT K H a xs → xs[i]? = some x, fun i H => ∃ xs, SqT K H a xs ∧ xs.length ≤ i⟩
noncomputable def Itr (lo : Int) (n : Nat) : It := ⟨fun i _ => i < n, fun i H x H' => H' = H ∧ x = .int (lo + i), fun i _ => n ≤ i⟩
theorem turn_list {P : Program} {w : World} {K : PySem.W.Frag} {tg : Expr} (a it : Addr) : Turn P w K tg (Itl K a) [it] it (fun i h => h.IsListIter it a i) where
  mem := by simp
  obj := fun i h st b hb => by
    have e : b = it := by simpa using hb
    subst e
    obtain ⟨o, e, c, d⟩ := st
    exact ⟨o, e, fun v z => by rw [d] at z; cases z⟩
  keep := fun i h h' st k => st.at fun o e => k it (by simp) o e
  item := by
    intro X hP hw hK hc i pins s σ H E I hf st hg
    subst hP hw hK
    obtain ⟨xs, x, hq, hx⟩ := hg
    obtain ⟨its, rv, p, hz⟩ := I.list hq
    obtain ⟨u, hu, ru⟩ := rv.get hx
    obtain ⟨f0, f1, f2, f3, f4, f5⟩ := hf it (by simp)
    refine wpAny_pyNext_list_item st p.isList (x := u) (by simpa using hu) fun h' st' sb => ?_
    have I1 : Inv X pins σ H { s with heap := h' } := I.turned (t' := s.toks) (fun b o hb e => (sb.2 b hb).trans e) f0 f1 f3 f4 f5
    obtain ⟨o, e, c, d⟩ := id st'
    exact ⟨u, rfl, go_of (s := { s with heap := h' }) e c d (by decide) ⟨x, H, I1, ru, ⟨rfl, fun ys hy => by rw [I.list_inj hy hq]; exact hx⟩, st', fun b hb => (hf b hb).1⟩⟩
  done := by
    intro X hP hw hK hc i pins s σ H E I hf st hg
    subst hP hw hK
    obtain ⟨xs, hq, hx⟩ := hg
    obtain ⟨its, rv, p, hz⟩ := I.list hq
    obtain ⟨f0, f1, f2, f3, f4, f5⟩ := hf it (by simp)
    have hl := rv.length
    exact wpAny_pyNext_list_end (I.ok.hd hc) st p.isList (by simp; omega) fun h' eb => ⟨rfl, I.turned (t' := s.toks) (fun b o hb e => eb b o hb e) f0 f1 f3 f4 f5⟩
  self := fun _ _ _ _ _ st h => wpAny_pyIter_listiter st h
theorem turn_tuple {P : Program} {w : World} {K : PySem.W.Frag} {tg : Expr} (a it : Addr) : Turn P w K tg (Itt K a) [it] it (fun i h => h.IsTupleIter it a i) where
  mem := by simp
  obj := fun i h st b hb => by
    have e : b = it := by simpa using hb
    subst e
    obtain ⟨o, e, c, d⟩ := st
    exact ⟨o, e, fun v z => by rw [d] at z; cases z⟩
  keep := fun i h h' st k => st.at fun o e => k it (by simp) o e
  item := by
    intro X hP hw hK hc i pins s σ H E I hf st hg
    subst hP hw hK
    obtain ⟨xs, x, hq, hx⟩ := hg
    obtain ⟨its, rv, p, hz⟩ := I.tuple hq
    obtain ⟨u, hu, ru⟩ := rv.get hx
    obtain ⟨f0, f1, f2, f3, f4, f5⟩ := hf it (by simp)
    refine wpAny_pyNext_tuple_item st (show s.heap.IsTuple a its.toArray from p) (x := u) (by simpa using hu) fun h' st' sb => ?_
    have I1 : Inv X pins σ H { s with heap := h' } := I.turned (t' := s.toks) (fun b o hb e => (sb.2 b hb).trans e) f0 f1 f3 f4 f5
    obtain ⟨o, e, c, d⟩ := id st'
    exact ⟨u, rfl, go_of (s := { s with heap := h' }) e c d (by decide) ⟨x, H, I1, ru, ⟨rfl, fun ys hy => by rw [I.tuple_inj hy hq]; exact hx⟩, st', fun b hb => (hf b hb).1⟩⟩
  done := by
    intro X hP hw hK hc i pins s σ H E I hf st hg
    subst hP hw hK
    obtain ⟨xs, hq, hx⟩ := hg
    obtain ⟨its, rv, p, hz⟩ := I.tuple hq
    obtain ⟨f0, f1, f2, f3, f4, f5⟩ := hf it (by simp)
    have hl := rv.length
    exact wpAny_pyNext_tuple_end (I.ok.hd hc) st (show s.heap.IsTuple a its.toArray from p) (by simp; omega) fun h' eb => ⟨rfl, I.turned (t' := s.toks) (fun b o hb e => eb b o hb e) f0 f1 f3 f4 f5⟩
  self := fun _ _ _ _ _ st h => wpAny_pyIter_tupleiter st h
theorem turn_range {P : Program} {w : World} {K : PySem.W.Frag} {tg : Expr} (it : Addr) (lo : Int) (n : Nat) : Turn P w K tg (Itr lo n) [it] it (fun i h => IsRangeIter h it (lo + (i : Nat) * 1) ((n : Int) - (i : Nat)) 1) where
  mem := by simp
  obj := fun i h st b hb => by
    have e : b = it := by simpa using hb
    subst e
    exact ⟨_, st, fun v z => by
      have z' : Data.fields _ = Data.cell v := z
      cases z'⟩
  keep := fun i h h' st k => k it (by simp) _ st
  item := by
    intro X hP hw hK hc i pins s σ H E I hf st hg
    subst hP hw hK
    obtain ⟨f0, f1, f2, f3, f4, f5⟩ := hf it (by simp)
    have W := Walks.range (prog := X.prog) (w := X.w) (I.ok.hd hc) it lo 1 n
    refine W.item i s _ _ hg st fun v h' tk hv st' kk => ?_
    obtain ⟨t, rfl⟩ := hv
    have I1 : Inv X pins σ H { s with heap := h', toks := tk } := I.turned (fun b o hb e => kk b o (by simpa using hb) e) f0 f1 f3 f4 f5
    refine ⟨_, rfl, go_of (s := { s with heap := h', toks := tk }) (n := "range_iterator") st' rfl rfl (by decide) ⟨.int (lo + i), H, I1, ⟨t, ?_⟩, ⟨rfl, rfl⟩, st', fun b hb => (hf b hb).1⟩⟩
    rw [Int.mul_one]
  done := by
    intro X hP hw hK hc i pins s σ H E I hf st hg
    subst hP hw hK
    obtain ⟨f0, f1, f2, f3, f4, f5⟩ := hf it (by simp)
    exact wpAny_pyNext_range_end (I.ok.hd hc) st (by have : n ≤ i := hg; omega) fun h' eb => ⟨rfl, I.turned (t' := s.toks) (fun b o hb e => eb b o hb e) f0 f1 f3 f4 f5⟩
  self := fun _ _ _ _ _ st h => wpAny_pyIter_rangeiter st h
end L2

namespace L2
open PySem PySem.Spec PyProof.Rows
section
variable {X : Cx} {tg : Expr}
noncomputable def iList (K : PySem.W.Frag) (tl : TE) : TI := fun σ H R => tl σ H fun x H1 => ∃ a, x = .ref a ∧ (∃ xs, SqL K H1 a xs) ∧ R (Itl K a) H1
noncomputable def iTup (K : PySem.W.Frag) (tl : TE) : TI := fun σ H R => tl σ H fun x H1 => ∃ a, x = .ref a ∧ (∃ xs, SqT K H1 a xs) ∧ R (Itt K a) H1
theorem pi_list {l : Expr} {tl : TE} (hl : PE X l tl) : PI X tg l (iList X.K tl) := by
  intro pins s σ H R I h
  refine thn (hl pins s σ H _ I h) fun v s1 ⟨x, H1, I1, r1, q1⟩ => ?_
  obtain ⟨a, e, ⟨xs, hq⟩, q⟩ := q1
  subst e
  cases r1
  obtain ⟨its, rv, p, hz⟩ := I1.list hq
  refine wpAny_pyIter_list p.isList ?_
  refine ⟨s1.heap.objs.size, [s1.heap.objs.size], _, _, H1, rfl, I1.kept (t' := s1.toks) fun b o e => Heap.get?_push_of_some _ e, turn_list a _, ⟨_, Heap.get?_push_size _ rfl, rfl, rfl⟩, fun b hb => ?_, q⟩
  have e : b = s1.heap.objs.size := by simpa using hb
  subst e
  exact I1.fpOk (Nat.le_refl _) (I1.hok.fresh (Nat.le_refl _))
theorem pi_tup {l : Expr} {tl : TE} (hl : PE X l tl) : PI X tg l (iTup X.K tl) := by
  intro pins s σ H R I h
  refine thn (hl pins s σ H _ I h) fun v s1 ⟨x, H1, I1, r1, q1⟩ => ?_
  obtain ⟨a, e, ⟨xs, hq⟩, q⟩ := q1
  subst e
  cases r1
  obtain ⟨its, rv, p, hz⟩ := I1.tuple hq
  refine wpAny_pyIter_tuple (show s1.heap.IsTuple a its.toArray from p) ?_
  refine ⟨s1.heap.objs.size, [s1.heap.objs.size], _, _, H1, rfl, I1.kept (t' := s1.toks) fun b o e => Heap.get?_push_of_some _ e, turn_tuple a _, ⟨_, Heap.get?_push_size _ rfl, rfl, rfl⟩, fun b hb => ?_, q⟩
  have e : b = s1.heap.objs.size := by simpa using hb
  subst e
  exact I1.fpOk (Nat.le_refl _) (I1.hok.fresh (Nat.le_refl _))
theorem range_it {pins : List (Addr × Obj)} {σ : St} {H : Hp} {s : Shared} {R : It → Hp → Prop} {E : Value → Shared → Prop} {lo hi : Int} {t u v : Tok} {tk : Nat} (I : Inv X pins σ H s) (h1 : -(2 ^ 62) ≤ lo) (h2 : lo < 2 ^ 62) (h3 : -(2 ^ 62) ≤ hi) (h4 : hi < 2 ^ 62)
    (q : R (Itr lo (hi - lo).toNat) H) : wpAny (model X.prog X.w) X.A (pyIter (.ref s.heap.objs.size)) (PIE X pins σ tg R) E { s with heap := s.heap.push { cls := .type "range", data := .fields #[.int lo t, .int hi u, .int 1 v] }, toks := tk } := by
  refine wpAny_pyIter_range (IsRange.new ..) (small_one h1 h2 h3 h4) ?_
  have I1 : Inv X pins σ H { s with heap := s.heap.push { cls := .type "range", data := .fields #[.int lo t, .int hi u, .int 1 v] }, toks := tk } := I.kept fun b o e => Heap.get?_push_of_some _ e
  refine ⟨(s.heap.push { cls := .type "range", data := .fields #[.int lo t, .int hi u, .int 1 v] }).objs.size, [(s.heap.push { cls := .type "range", data := .fields #[.int lo t, .int hi u, .int 1 v] }).objs.size], _, _, H, rfl,
    I1.kept (t' := tk) fun b o e => Heap.get?_push_of_some _ e, turn_range _ lo (hi - lo).toNat, ?_, fun b hb => ?_, q⟩
  · have e1 : lo + ((0 : Nat) : Int) * 1 = lo := by simp
    have e2 : (((hi - lo).toNat : Nat) : Int) - ((0 : Nat) : Int) = Builtin.Range.rangeSize lo hi 1 := by rw [rangeSize_one]; split <;> omega
    show IsRangeIter _ _ (lo + ((0 : Nat) : Int) * 1) ((((hi - lo).toNat : Nat) : Int) - ((0 : Nat) : Int)) 1
    rw [e1, e2]
    exact Heap.get?_push_size _ rfl
  · have e : b = (s.heap.push { cls := .type "range", data := .fields #[.int lo t, .int hi u, .int 1 v] }).objs.size := by simpa using hb
    subst e
    exact I1.fpOk (Nat.le_refl _) (I1.hok.fresh (Nat.le_refl _))
noncomputable def iRng1 (ta : TA) : TI := fun σ H R => ta σ H fun vs H1 => ∃ j : Int, vs = [.int j] ∧ -(2 ^ 62) ≤ j ∧ j < 2 ^ 62 ∧ R (Itr 0 j.toNat) H1
noncomputable def iRng2 (ta : TA) : TI := fun σ H R => ta σ H fun vs H1 => ∃ i j : Int, vs = [.int i, .int j] ∧ (-(2 ^ 62) ≤ i ∧ i < 2 ^ 62 ∧ -(2 ^ 62) ≤ j ∧ j < 2 ^ 62) ∧ R (Itr i (j - i).toNat) H1
theorem pi_range1 {a : Expr} {ta : TA} {p pos : Pos} (hg : Gl X "range") (hm : X.mg "range" = none) (ha : PA X [a] ta) (hs : starEach [a] X.env = [(false, eval a X.env)] := by rfl) : PI X tg (.Call (.Name "range" p) [a] [] pos) (iRng1 ta) := by
  intro pins s σ H R I h
  refine Call_ (ld_blt I hg hm boot_range (PyProof.Rows.callWith_type1 (thn (ha pos pins s σ H _ I h) fun us s1 ⟨vs, H1, I1, r1, q1⟩ => ?_) hs rfl))
  obtain ⟨j, e, q1, q2, q⟩ := q1
  subst e
  cases r1 with
  | cons r rr =>
    cases rr
    obtain ⟨t, rfl⟩ := r
    exact call_range_1 (range_it I1 (by omega) (by omega) q1 q2 (by simpa using q))
theorem pi_range2 {a b : Expr} {ta : TA} {p pos : Pos} (hg : Gl X "range") (hm : X.mg "range" = none) (ha : PA X [a, b] ta) (hs : starEach [a, b] X.env = [(false, eval a X.env), (false, eval b X.env)] := by rfl) (hs2 : starEach [b] X.env = [(false, eval b X.env)] := by rfl) :
    PI X tg (.Call (.Name "range" p) [a, b] [] pos) (iRng2 ta) := by
  intro pins s σ H R I h
  refine Call_ (ld_blt I hg hm boot_range (PyProof.Rows.callWith_type1 (thn (ha pos pins s σ H _ I h) fun us s1 ⟨vs, H1, I1, r1, q1⟩ => ?_) (by rw [hs, hs2]) (by rw [hs2]; rfl)))
  obtain ⟨i, j, e, ⟨q1, q2, q3, q4⟩, q⟩ := q1
  subst e
  cases r1 with
  | cons r rr =>
    cases rr with
    | cons r' rr =>
      cases rr
      obtain ⟨t, rfl⟩ := r
      obtain ⟨t', rfl⟩ := r'
      exact call_range_2 (range_it I1 q1 q2 q3 q4 q)

noncomputable def tFor (wi : TI) (g : TG) (tb : TS) : TS := fun D σ H => wi σ H fun J H1 => ∃ W : Nat → Nat → St → Hp → Prop, (∃ m, W 0 m σ H1) ∧ ∀ i m σ H, W i m σ H →
  (J.stop i H ∧ D.nx σ H) ∨ (J.go i H ∧ ∃ N : St → Hp → Prop, (∀ σ' H', N σ' H' → ∃ m', m' < m ∧ W (i + 1) m' σ' H') ∧ ∀ x H', J.yld i H x H' → g x σ H' fun σ2 H2 => tb { D with nx := N, ct := N, bk := D.nx } σ2 H2)
noncomputable def pinsAt (fp : List Addr) (h : Heap) : List (Addr × Obj) := fp.filterMap fun b => (h.get? b).map fun o => (b, o)
theorem mem_pinsAt {fp : List Addr} {h : Heap} {b : Addr} {o : Obj} (hb : b ∈ fp) (e : h.get? b = some o) : (b, o) ∈ pinsAt fp h := List.mem_filterMap.mpr ⟨b, hb, by rw [e]; rfl⟩
theorem of_pinsAt {fp : List Addr} {h : Heap} {p : Addr × Obj} (hp : p ∈ pinsAt fp h) : p.1 ∈ fp ∧ h.get? p.1 = some p.2 := by
  obtain ⟨b, hb, e⟩ := List.mem_filterMap.mp hp
  cases q : h.get? b with
  | none => rw [q] at e; cases e
  | some o =>
    rw [q] at e
    have e' : (b, o) = p := Option.some.inj e
    subst e'
    exact ⟨hb, q⟩
theorem Inv.pinned {pins : List (Addr × Obj)} {σ : St} {H : Hp} {s : Shared} {fp : List Addr} (I : Inv X pins σ H s) (hf : ∀ b ∈ fp, FpOk X pins H b) (ho : ∀ b ∈ fp, ∃ o, s.heap.get? b = some o ∧ ∀ v, o.data ≠ .cell v) : Inv X (pins ++ pinsAt fp s.heap) σ H s :=
  I.pins_of fun p hp => (List.mem_append.mp hp).elim (fun z => I.pin p (List.mem_append_right _ z)) fun z => by
    obtain ⟨hb, e⟩ := of_pinsAt z
    obtain ⟨f0, f1, f2, _⟩ := hf p.1 hb
    obtain ⟨o, e', d⟩ := ho p.1 hb
    rw [e] at e'; cases e'
    exact ⟨e, f0, f1, f2, d⟩
theorem Inv.unpinned {pins pl : List (Addr × Obj)} {σ : St} {H : Hp} {s : Shared} (I : Inv X (pins ++ pl) σ H s) : Inv X pins σ H s := I.pins_of fun p hp => I.pin p (List.mem_append_right _ (List.mem_append_left _ hp))
theorem ps_for {iter : Expr} {body : List Stmt} {wi : TI} {g : TG} {tb : TS} {pos : Pos} (hp : PassesOwn (model X.prog X.w) X.A X.env X.xe) (hc : X.calm = true) (hi : PI X tg iter wi) (hg : PG X tg g) (hb : PSs X body tb)
    (hs : ∀ x, foldedSetIterable iter X.env x = pure x := by intro _; rfl) : PS X (.For tg iter body [] pos) (tFor wi g tb) := by
  intro pins s σ H D I h
  refine wpAny_For (thn (hi pins s σ H _ I h) fun v s1 h1 => thn h1 fun itv s2 h2 => ?_) hs
  obtain ⟨it, fp, tn, J, H2, e, I2, T, st2, f2, W, ⟨m0, w0⟩, turn⟩ := h2
  subst e
  have stat : ∀ {H' : Hp}, (∀ b ∈ fp, H' b = none) → ∀ b ∈ fp, FpOk X pins H' b := fun hn b hb => ⟨hn b hb, (f2 b hb).2⟩
  refine codeAny_forLoop_any (fun n s' => ∃ i σ' H', Inv X pins σ' H' s' ∧ tn i s'.heap ∧ (∀ b ∈ fp, H' b = none) ∧ W i n σ' H') ?_ m0 ⟨0, σ, H2, I2, st2, fun b hb => (f2 b hb).1, w0⟩
  rintro n s3 ⟨i, σ3, H3, I3, st3, fr3, w3⟩
  rcases turn i n σ3 H3 w3 with ⟨stop, qn⟩ | ⟨go, N, hN, step⟩
  · refine wpAny_passesOwn hp (thn (T.done X rfl rfl rfl hc i pins s3 σ3 H3 X.xe I3 (stat fr3) st3 stop) fun r s4 ⟨hr, I4⟩ => ?_)
    subst hr
    exact wpAny_execs_nil ⟨σ3, H3, I4, qn⟩
  · refine wpAny_passesOwn hp (thn (T.item X rfl rfl rfl hc i pins s3 σ3 H3 X.xe I3 (stat fr3) st3 go) fun r s4 ⟨u, hr, h4⟩ => ?_)
    subst hr
    refine wpAny_passesOwn hp (thn h4 fun _ s5 ⟨x, H5, I5, r5, y5, st5, fr5⟩ => ?_)
    have I5' := I5.pinned (stat fr5) (T.obj _ _ st5)
    refine wpAny_passesOwn hp (thn (hg _ s5 σ3 H5 x u _ I5' r5 (step x H5 y5)) fun _ s6 ⟨σ6, H6, I6, q6⟩ => ?_)
    refine wpAny_passesOwn hp (thn (hb _ s6 σ6 H6 _ I6 q6) fun f s7 q7 => ?_)
    have again : ∀ {σ7 : St} {H7 : Hp}, Inv X (pins ++ pinsAt fp s5.heap) σ7 H7 s7 → N σ7 H7 → ∃ m, m < n ∧ ∃ i σ' H', Inv X pins σ' H' s7 ∧ tn i s7.heap ∧ (∀ b ∈ fp, H' b = none) ∧ W i m σ' H' := fun {σ7 H7} I7 n7 => by
      obtain ⟨m', hm, w7⟩ := hN σ7 H7 n7
      refine ⟨m', hm, i + 1, σ7, H7, I7.unpinned, T.keep _ _ _ st5 fun b hb o e => (I7.pin (b, o) (List.mem_append_right _ (List.mem_append_right _ (mem_pinsAt hb e)))).1, fun b hb => ?_, w7⟩
      obtain ⟨o, e, d⟩ := T.obj _ _ st5 b hb
      exact (I7.pin (b, o) (List.mem_append_right _ (List.mem_append_right _ (mem_pinsAt hb e)))).2.1
    cases f with
    | next => obtain ⟨σ7, H7, I7, n7⟩ := q7; exact again I7 n7
    | cont => obtain ⟨σ7, H7, I7, n7⟩ := q7; exact again I7 n7
    | brk => obtain ⟨σ7, H7, I7, q7⟩ := q7; exact ⟨σ7, H7, I7.unpinned, q7⟩
    | ret v => obtain ⟨x7, σ7, H7, I7, r7, q7⟩ := q7; exact ⟨x7, σ7, H7, I7.unpinned, r7, q7⟩
end

theorem for_list {K : PySem.W.Frag} {a : Addr} {xs : List V} {g : TG} {tb : TS} {D : Ends} {σ : St} {H : Hp} (Pv : Nat → St → Hp → Prop) (h0 : Pv 0 σ H) (hl : ∀ i σ H, i ≤ xs.length → Pv i σ H → SqL K H a xs)
    (hs : ∀ i x σ H, xs[i]? = some x → Pv i σ H → g x σ H fun σ2 H2 => tb { D with nx := Pv (i + 1), ct := Pv (i + 1), bk := D.nx } σ2 H2) (hd : ∀ σ H, Pv xs.length σ H → D.nx σ H) :
    ∃ W : Nat → Nat → St → Hp → Prop, (∃ m, W 0 m σ H) ∧ ∀ i m σ H, W i m σ H →
      ((Itl K a).stop i H ∧ D.nx σ H) ∨ ((Itl K a).go i H ∧ ∃ N : St → Hp → Prop, (∀ σ' H', N σ' H' → ∃ m', m' < m ∧ W (i + 1) m' σ' H') ∧ ∀ x H', (Itl K a).yld i H x H' → g x σ H' fun σ2 H2 => tb { D with nx := N, ct := N, bk := D.nx } σ2 H2) := by
  refine ⟨fun i m σ H => m = xs.length - i ∧ i ≤ xs.length ∧ Pv i σ H, ⟨xs.length, by simp, Nat.zero_le _, h0⟩, ?_⟩
  rintro i m σ H ⟨rfl, hi, p⟩
  have q := hl i σ H hi p
  by_cases hlt : i < xs.length
  · refine .inr ⟨⟨xs, xs[i], q, by simp [hlt]⟩, Pv (i + 1), fun σ' H' p' => ⟨xs.length - (i + 1), by omega, rfl, hlt, p'⟩, fun x H' y => ?_⟩
    obtain ⟨e, y⟩ := y
    subst e
    exact hs i x σ _ (y xs q) p
  · have e : i = xs.length := by omega
    subst e
    exact .inl ⟨⟨xs, q, Nat.le_refl _⟩, hd σ H p⟩
theorem for_tup {K : PySem.W.Frag} {a : Addr} {xs : List V} {g : TG} {tb : TS} {D : Ends} {σ : St} {H : Hp} (Pv : Nat → St → Hp → Prop) (h0 : Pv 0 σ H) (hl : ∀ i σ H, i ≤ xs.length → Pv i σ H → SqT K H a xs)
    (hs : ∀ i x σ H, xs[i]? = some x → Pv i σ H → g x σ H fun σ2 H2 => tb { D with nx := Pv (i + 1), ct := Pv (i + 1), bk := D.nx } σ2 H2) (hd : ∀ σ H, Pv xs.length σ H → D.nx σ H) :
    ∃ W : Nat → Nat → St → Hp → Prop, (∃ m, W 0 m σ H) ∧ ∀ i m σ H, W i m σ H →
      ((Itt K a).stop i H ∧ D.nx σ H) ∨ ((Itt K a).go i H ∧ ∃ N : St → Hp → Prop, (∀ σ' H', N σ' H' → ∃ m', m' < m ∧ W (i + 1) m' σ' H') ∧ ∀ x H', (Itt K a).yld i H x H' → g x σ H' fun σ2 H2 => tb { D with nx := N, ct := N, bk := D.nx } σ2 H2) := by
  refine ⟨fun i m σ H => m = xs.length - i ∧ i ≤ xs.length ∧ Pv i σ H, ⟨xs.length, by simp, Nat.zero_le _, h0⟩, ?_⟩
  rintro i m σ H ⟨rfl, hi, p⟩
  have q := hl i σ H hi p
  by_cases hlt : i < xs.length
  · refine .inr ⟨⟨xs, xs[i], q, by simp [hlt]⟩, Pv (i + 1), fun σ' H' p' => ⟨xs.length - (i + 1), by omega, rfl, hlt, p'⟩, fun x H' y => ?_⟩
    obtain ⟨e, y⟩ := y
    subst e
    exact hs i x σ _ (y xs q) p
  · have e : i = xs.length := by omega
    subst e
    exact .inl ⟨⟨xs, q, Nat.le_refl _⟩, hd σ H p⟩
theorem for_range {lo : Int} {n : Nat} {g : TG} {tb : TS} {D : Ends} {σ : St} {H : Hp} (Pv : Nat → St → Hp → Prop) (h0 : Pv 0 σ H)
    (hs : ∀ i σ H, i < n → Pv i σ H → g (.int (lo + i)) σ H fun σ2 H2 => tb { D with nx := Pv (i + 1), ct := Pv (i + 1), bk := D.nx } σ2 H2) (hd : ∀ σ H, Pv n σ H → D.nx σ H) :
    ∃ W : Nat → Nat → St → Hp → Prop, (∃ m, W 0 m σ H) ∧ ∀ i m σ H, W i m σ H →
      ((Itr lo n).stop i H ∧ D.nx σ H) ∨ ((Itr lo n).go i H ∧ ∃ N : St → Hp → Prop, (∀ σ' H', N σ' H' → ∃ m', m' < m ∧ W (i + 1) m' σ' H') ∧ ∀ x H', (Itr lo n).yld i H x H' → g x σ H' fun σ2 H2 => tb { D with nx := N, ct := N, bk := D.nx } σ2 H2) := by
  refine ⟨fun i m σ H => m = n - i ∧ i ≤ n ∧ Pv i σ H, ⟨n, by simp, Nat.zero_le _, h0⟩, ?_⟩
  rintro i m σ H ⟨rfl, hi, p⟩
  by_cases hlt : i < n
  · refine .inr ⟨hlt, Pv (i + 1), fun σ' H' p' => ⟨n - (i + 1), by omega, rfl, hlt, p'⟩, fun x H' y => ?_⟩
    obtain ⟨e, y⟩ := y
    subst e y
    exact hs i σ _ hlt p
  · have e : i = n := by omega
    subst e
    exact .inl ⟨Nat.le_refl _, hd σ H p⟩
theorem while_by {c : TT} {tb : TS} {D : Ends} {σ : St} {H : Hp} (Pv : St → Hp → Prop) (μ : St → Hp → Nat) (h0 : Pv σ H)
    (hs : ∀ σ H, Pv σ H → c σ H fun b H1 => if b = true then tb { D with nx := fun σ' H' => Pv σ' H' ∧ μ σ' H' < μ σ H, ct := fun σ' H' => Pv σ' H' ∧ μ σ' H' < μ σ H, bk := D.nx } σ H1 else D.nx σ H1)
    (mono : ∀ σ H Q Q', (∀ b H1, Q b H1 → Q' b H1) → c σ H Q → c σ H Q') : tWhile c tb D σ H := by
  refine ⟨fun m σ H => m = μ σ H ∧ Pv σ H, ⟨_, rfl, h0⟩, ?_⟩
  rintro m σ H ⟨rfl, p⟩
  refine mono σ H _ _ (fun b H1 q => ?_) (hs σ H p)
  cases b with
  | true => exact ⟨_, fun σ' H' ⟨p', l⟩ => ⟨_, l, rfl, p'⟩, q⟩
  | false => exact q
end L2

namespace L2
open PySem PySem.Spec PyProof.Rows

noncomputable abbrev R2 := V → V → Hp → VK → Prop
noncomputable def OpR (X : Cx) (f : Value → Value → Sem Value) (r : R2) : Prop :=
  ∀ (pins : List (Addr × Obj)) (s : Shared) (σ : St) (H : Hp) (x y : V) (v u : Value) (Q : VK), Inv X pins σ H s → RelV x v → RelV y u → r x y H Q →
    wpAny (model X.prog X.w) X.A (f v u) (EP X pins σ Q) X.xe s
noncomputable def UnR (X : Cx) (f : Value → Sem Value) (r : V → Hp → VK → Prop) : Prop :=
  ∀ (pins : List (Addr × Obj)) (s : Shared) (σ : St) (H : Hp) (x : V) (v : Value) (Q : VK), Inv X pins σ H s → RelV x v → r x H Q →
    wpAny (model X.prog X.w) X.A (f v) (EP X pins σ Q) X.xe s
noncomputable def CallR (X : Cx) (f : Value) (r : List V → Hp → VK → Prop) : Prop :=
  ∀ (pins : List (Addr × Obj)) (s : Shared) (σ : St) (H : Hp) (xs : List V) (us : List Value) (Q : VK), Inv X pins σ H s → Vals xs us → r xs H Q →
    wpAny (model X.prog X.w) X.A (call f us) (EP X pins σ Q) X.xe s
noncomputable def tOp (r : R2) (ta tb : TE) : TE := fun σ H Q => ta σ H fun x H1 => tb σ H1 fun y H2 => r x y H2 Q
noncomputable def tUn (r : V → Hp → VK → Prop) (ta : TE) : TE := fun σ H Q => ta σ H fun x H1 => r x H1 Q
noncomputable def rI (C : Int → Int → Prop) (g : Int → Int → V) : R2 := fun x y H Q => ∃ i j, x = .int i ∧ y = .int j ∧ C i j ∧ Q (g i j) H
noncomputable def rI0 (g : Int → Int → V) : R2 := fun x y H Q => ∃ i j, x = .int i ∧ y = .int j ∧ Q (g i j) H
noncomputable def rU (g : Int → V) : V → Hp → VK → Prop := fun x H Q => ∃ i, x = .int i ∧ Q (g i) H

section
variable {X : Cx} {a b c : Expr} {ta tb tc : TE} {pos : Pos}

theorem binT (ha : PE X a ta) (hb : PE X b tb) {pins : List (Addr × Obj)} {s : Shared} {σ : St} {H : Hp} {R : V → V → Hp → Prop} (I : Inv X pins σ H s)
    (h : ta σ H fun x H1 => tb σ H1 fun y H2 => R x y H2) {Q : Value → Shared → Prop} {f : Value → Value → Sem Value}
    (hf : ∀ v u s2 x y H2, Inv X pins σ H2 s2 → RelV x v → RelV y u → R x y H2 → wpAny (model X.prog X.w) X.A (f v u) Q X.xe s2) :
    wpAny (model X.prog X.w) X.A (eval a X.env) (fun v s₁ => wpAny (model X.prog X.w) X.A (eval b X.env) (fun u s₂ => wpAny (model X.prog X.w) X.A (f v u) Q X.xe s₂) X.xe s₁) X.xe s := by
  refine thn (ha pins s σ H _ I h) fun v s1 ⟨x, H1, I1, r1, q1⟩ => ?_
  refine thn (hb pins s1 σ H1 _ I1 q1) fun u s2 ⟨y, H2, I2, r2, q2⟩ => ?_
  exact hf v u s2 x y H2 I2 r1 r2 q2

theorem pe_op {op : Operator} {r : R2} (ho : OpR X (binaryOp op) r) (ha : PE X a ta) (hb : PE X b tb) : PE X (.BinOp a op b pos) (tOp r ta tb) := by
  intro pins s σ H Q I h
  exact wpAny_BinOp (binT ha hb I h fun v u s2 x y H2 I2 rx ry q => ho pins s2 σ H2 x y v u Q I2 rx ry q)
theorem pe_un {op : UnaryOp} {r : V → Hp → VK → Prop} (ho : UnR X (unaryOp op) r) (ha : PE X a ta) : PE X (.UnaryOp op a pos) (tUn r ta) := by
  intro pins s σ H Q I h
  exact UnaryOp_ (thn (ha pins s σ H _ I h) fun v s1 ⟨x, H1, I1, r1, q1⟩ => ho pins s1 σ H1 x v Q I1 r1 q1)
theorem opI {f : Value → Value → Sem Value} {C : Int → Int → Prop} {g : Int → Int → Int}
    (rule : ∀ (i j : Int) (t u : Tok) (s : Shared) (Q : Value → Shared → Prop) (E : Value → Shared → Prop), C i j → Q (.int (g i j) s.toks) { s with toks := s.toks + 1 } → wpAny (model X.prog X.w) X.A (f (.int i t) (.int j u)) Q E s) :
    OpR X f (rI C fun i j => .int (g i j)) := by
  intro pins s σ H x y v u Q I rx ry h
  obtain ⟨i, j, rfl, rfl, hc, q⟩ := h
  obtain ⟨t, rfl⟩ := rx
  obtain ⟨t', rfl⟩ := ry
  exact rule i j t t' s _ _ hc ⟨.int (g i j), H, I.tok _, ⟨_, rfl⟩, q⟩
theorem opI0 {f : Value → Value → Sem Value} {g : Int → Int → Int}
    (rule : ∀ (i j : Int) (t u : Tok) (s : Shared) (Q : Value → Shared → Prop) (E : Value → Shared → Prop), Q (.int (g i j) s.toks) { s with toks := s.toks + 1 } → wpAny (model X.prog X.w) X.A (f (.int i t) (.int j u)) Q E s) :
    OpR X f (rI0 fun i j => .int (g i j)) := by
  intro pins s σ H x y v u Q I rx ry h
  obtain ⟨i, j, rfl, rfl, q⟩ := h
  obtain ⟨t, rfl⟩ := rx
  obtain ⟨t', rfl⟩ := ry
  exact rule i j t t' s _ _ ⟨.int (g i j), H, I.tok _, ⟨_, rfl⟩, q⟩
theorem opB0 {f : Value → Value → Sem Value} {g : Int → Int → Bool}
    (rule : ∀ (i j : Int) (t u : Tok) (s : Shared) (Q : Value → Shared → Prop) (E : Value → Shared → Prop), Q (.bool (g i j)) s → wpAny (model X.prog X.w) X.A (f (.int i t) (.int j u)) Q E s) :
    OpR X f (rI0 fun i j => .bl (g i j)) := by
  intro pins s σ H x y v u Q I rx ry h
  obtain ⟨i, j, rfl, rfl, q⟩ := h
  obtain ⟨t, rfl⟩ := rx
  obtain ⟨t', rfl⟩ := ry
  exact rule i j t t' s _ _ ⟨.bl (g i j), H, I, rfl, q⟩

noncomputable def CDiv (i j : Int) : Prop := 0 < j ∧ j < 1073741824
noncomputable def CMul (i j : Int) : Prop := (-(2 ^ 64) < i ∧ i < 2 ^ 64) ∨ (-(2 ^ 64) < j ∧ j < 2 ^ 64)
theorem CMul.ok {i j : Int} (h : CMul i j) : IntMulOk i j := by
  rcases h with ⟨h1, h2⟩ | ⟨h1, h2⟩
  · exact .of_left (intBits_le_64 h1 h2)
  · exact .of_right (intBits_le_64 h1 h2)
theorem op_add : OpR X (binaryOp .Add) (rI0 fun i j => .int (i + j)) := opI0 fun _ _ _ _ _ _ _ q => add_int q
theorem op_sub : OpR X (binaryOp .Sub) (rI0 fun i j => .int (i - j)) := opI0 fun _ _ _ _ _ _ _ q => sub_int q
theorem op_mul : OpR X (binaryOp .Mult) (rI CMul fun i j => .int (i * j)) := opI fun _ _ _ _ _ _ _ hc q => mul_int q hc.ok
theorem op_fdiv : OpR X (binaryOp .FloorDiv) (rI CDiv fun i j => .int (i / j)) := opI fun i j _ _ _ _ _ hc q => by
  have h1 : (0 : Int) < j := hc.1
  have h2 : j < 1073741824 := hc.2
  exact floordiv_int (by omega) (by rw [Int.fdiv_eq_ediv_of_nonneg i (by omega)]; exact q) (.inl (PyProof.noPylong_small (by omega)))
theorem op_mod : OpR X (binaryOp .Mod) (rI (fun _ j => 0 < j) fun i j => .int (i % j)) := opI fun i j _ _ _ _ _ hc q => by
  have h1 : (0 : Int) < j := hc
  exact mod_int' (by omega) (by rw [Int.fmod_eq_emod_of_nonneg i (by omega)]; exact q)
theorem op_xor : OpR X (binaryOp .BitXor) (rI0 fun i j => .int (Builtin.bitXor i j)) := opI0 fun _ _ _ _ _ _ _ q => xor_int q

theorem unI {f : Value → Sem Value} {g : Int → Int}
    (rule : ∀ (i : Int) (t : Tok) (s : Shared) (Q : Value → Shared → Prop) (E : Value → Shared → Prop), Q (.int (g i) s.toks) { s with toks := s.toks + 1 } → wpAny (model X.prog X.w) X.A (f (.int i t)) Q E s) :
    UnR X f (rU fun i => .int (g i)) := by
  intro pins s σ H x v Q I rx h
  obtain ⟨i, rfl, q⟩ := h
  obtain ⟨t, rfl⟩ := rx
  exact rule i t s _ _ ⟨.int (g i), H, I.tok _, ⟨_, rfl⟩, q⟩
theorem un_neg : UnR X (unaryOp .USub) (rU fun i => .int (-i)) := unI fun _ _ _ _ _ q => neg_int q
end

noncomputable def scal : V → V → Bool
  | .non, .non => true | .non, .int _ => true | .int _, .non => true | .non, .bl _ => true | .bl _, .non => true | .non, .str _ => true | .str _, .non => true
  | .int _, .int _ => true | .bl _, .bl _ => true | .str _, .str _ => true | .byt _, .byt _ => true
  | .int _, .str _ => true | .str _, .int _ => true | .bl _, .str _ => true | .str _, .bl _ => true
  | _, _ => false
noncomputable def rEq : R2 := fun x y H Q => scal x y = true ∧ Q (.bl (decide (x = y))) H
noncomputable def rNe : R2 := fun x y H Q => scal x y = true ∧ Q (.bl (!decide (x = y))) H

theorem dec_int {i j : Int} : decide (V.int i = V.int j) = (i == j) := by
  rw [Bool.eq_iff_iff]
  simp
theorem dec_bl {i j : Bool} : decide (V.bl i = V.bl j) = (i == j) := by
  rw [Bool.eq_iff_iff]
  simp
theorem dec_str {i j : Str} : decide (V.str i = V.str j) = (i == j) := by
  rw [Bool.eq_iff_iff]
  simp
theorem dec_byt {i j : Array UInt8} : decide (V.byt i = V.byt j) = (i.toList == j.toList) := by
  rw [Bool.eq_iff_iff]
  cases i
  cases j
  simp

section
variable {X : Cx} {a b c : Expr} {ta tb tc : TE} {pos : Pos}
theorem fin_bl {pins : List (Addr × Obj)} {σ : St} {H : Hp} {s : Shared} {Q : VK} {k k' : Bool} (I : Inv X pins σ H s) (q : Q (.bl k) H) (e : k = k') : EP X pins σ Q (.bool k') s := by
  subst e
  exact ⟨.bl k, H, I, rfl, q⟩
theorem op_eq : OpR X (compareOp .Eq) rEq := by
  intro pins s σ H x y v u Q I rx ry h
  obtain ⟨hs, q⟩ := h
  cases x with
  | non =>
    cases rx
    cases y with
    | non => cases ry; exact PySem.EqNone.eq_none_none (fin_bl I q (by simp))
    | bl j => cases ry; exact PySem.EqNone.eq_none_bool (fin_bl I q (by simp))
    | int j => obtain ⟨t', rfl⟩ := ry; exact PySem.EqNone.eq_none_int (fin_bl I q (by simp))
    | str j => obtain ⟨t', rfl⟩ := ry; exact PySem.EqNone.eq_none_str (fin_bl I q (by simp))
    | _ => exact absurd (show false = true from hs) Bool.false_ne_true
  | bl i =>
    cases rx
    cases y with
    | non => cases ry; exact PySem.EqNone.eq_bool_none (fin_bl I q (by simp))
    | bl j => cases ry; exact eq_bool (fin_bl I q dec_bl)
    | str j => obtain ⟨t', rfl⟩ := ry; exact PySem.EqMixed.eq_bool_str (fin_bl I q (by simp))
    | _ => exact absurd (show false = true from hs) Bool.false_ne_true
  | int i =>
    obtain ⟨t, rfl⟩ := rx
    cases y with
    | non => cases ry; exact PySem.EqNone.eq_int_none (fin_bl I q (by simp))
    | int j => obtain ⟨t', rfl⟩ := ry; exact eq_int (fin_bl I q dec_int)
    | str j => obtain ⟨t', rfl⟩ := ry; exact PySem.EqMixed.eq_int_str (fin_bl I q (by simp))
    | _ => exact absurd (show false = true from hs) Bool.false_ne_true
  | str i =>
    obtain ⟨t, rfl⟩ := rx
    cases y with
    | non => cases ry; exact PySem.EqNone.eq_str_none (fin_bl I q (by simp))
    | bl j => cases ry; exact PySem.EqMixed.eq_str_bool (fin_bl I q (by simp))
    | int j => obtain ⟨t', rfl⟩ := ry; exact PySem.EqMixed.eq_str_int (fin_bl I q (by simp))
    | str j => obtain ⟨t', rfl⟩ := ry; exact eq_str (fin_bl I q dec_str)
    | _ => exact absurd (show false = true from hs) Bool.false_ne_true
  | byt i =>
    obtain ⟨t, rfl⟩ := rx
    cases y with
    | byt j => obtain ⟨t', rfl⟩ := ry; exact PySem.W.eq_bytes (fin_bl I q dec_byt)
    | _ => exact absurd (show false = true from hs) Bool.false_ne_true
  | _ => cases y <;> exact absurd (show false = true from hs) Bool.false_ne_true
theorem op_ne : OpR X (compareOp .NotEq) rNe := by
  intro pins s σ H x y v u Q I rx ry h
  obtain ⟨hs, q⟩ := h
  cases x with
  | non =>
    cases rx
    cases y with
    | non => cases ry; exact PySem.EqNone.ne_none_none (fin_bl I q (by simp))
    | bl j => cases ry; exact PySem.EqNone.ne_none_bool (fin_bl I q (by simp))
    | int j => obtain ⟨t', rfl⟩ := ry; exact PySem.EqNone.ne_none_int (fin_bl I q (by simp))
    | str j => obtain ⟨t', rfl⟩ := ry; exact PySem.EqNone.ne_none_str (fin_bl I q (by simp))
    | _ => exact absurd (show false = true from hs) Bool.false_ne_true
  | bl i =>
    cases rx
    cases y with
    | non => cases ry; exact PySem.EqNone.ne_bool_none (fin_bl I q (by simp))
    | bl j => cases ry; exact ne_bool (fin_bl I q (congrArg not dec_bl))
    | str j => obtain ⟨t', rfl⟩ := ry; exact PySem.EqMixed.ne_bool_str (fin_bl I q (by simp))
    | _ => exact absurd (show false = true from hs) Bool.false_ne_true
  | int i =>
    obtain ⟨t, rfl⟩ := rx
    cases y with
    | non => cases ry; exact PySem.EqNone.ne_int_none (fin_bl I q (by simp))
    | int j => obtain ⟨t', rfl⟩ := ry; exact ne_int (fin_bl I q (congrArg not dec_int))
    | str j => obtain ⟨t', rfl⟩ := ry; exact PySem.EqMixed.ne_int_str (fin_bl I q (by simp))
    | _ => exact absurd (show false = true from hs) Bool.false_ne_true
  | str i =>
    obtain ⟨t, rfl⟩ := rx
    cases y with
    | non => cases ry; exact PySem.EqNone.ne_str_none (fin_bl I q (by simp))
    | bl j => cases ry; exact PySem.EqMixed.ne_str_bool (fin_bl I q (by simp))
    | int j => obtain ⟨t', rfl⟩ := ry; exact PySem.EqMixed.ne_str_int (fin_bl I q (by simp))
    | str j => obtain ⟨t', rfl⟩ := ry; exact ne_str (fin_bl I q (congrArg not dec_str))
    | _ => exact absurd (show false = true from hs) Bool.false_ne_true
  | byt i =>
    obtain ⟨t, rfl⟩ := rx
    cases y with
    | byt j => obtain ⟨t', rfl⟩ := ry; exact PySem.W.ne_bytes (fin_bl I q (congrArg not dec_byt))
    | _ => exact absurd (show false = true from hs) Bool.false_ne_true
  | _ => cases y <;> exact absurd (show false = true from hs) Bool.false_ne_true

theorem op_lt : OpR X (compareOp .Lt) (rI0 fun i j => .bl (decide (i < j))) := opB0 fun _ _ _ _ _ _ _ q => lt_int q
theorem op_le : OpR X (compareOp .LtE) (rI0 fun i j => .bl (decide (i ≤ j))) := opB0 fun _ _ _ _ _ _ _ q => le_int q
theorem op_gt : OpR X (compareOp .Gt) (rI0 fun i j => .bl (decide (j < i))) := opB0 fun _ _ _ _ _ _ _ q => gt_int q
theorem op_in_str : OpR X (compareOp .In) (fun x y H Q => ∃ i j, x = .str i ∧ y = .str j ∧ Q (.bl (!(Builtin.Str.occurrences j i 0 j.length 1).isEmpty)) H) := by
  intro pins s σ H x y v u Q I rx ry h
  obtain ⟨i, j, rfl, rfl, q⟩ := h
  obtain ⟨t, rfl⟩ := rx
  obtain ⟨t', rfl⟩ := ry
  exact in_str (fin_bl I q rfl)

theorem op_isN : OpR X (compareOp .Is) (fun x y H Q => y = .non ∧ Q (.bl (decide (x = .non))) H) := by
  intro pins s σ H x y v u Q I rx ry h
  obtain ⟨rfl, q⟩ := h
  cases ry
  refine is_none_gen (fin_bl I q ?_)
  cases x <;> first
    | (cases rx; rfl)
    | (obtain ⟨t, rfl⟩ := rx; rfl)
theorem op_notN : OpR X (compareOp .IsNot) (fun x y H Q => y = .non ∧ Q (.bl (!decide (x = .non))) H) := by
  intro pins s σ H x y v u Q I rx ry h
  obtain ⟨rfl, q⟩ := h
  cases ry
  refine isnot_none_gen (fin_bl I q ?_)
  cases x <;> first
    | (cases rx; rfl)
    | (obtain ⟨t, rfl⟩ := rx; rfl)

theorem op_notin_str : OpR X (compareOp .NotIn) (fun x y H Q => ∃ i j, x = .str i ∧ y = .str j ∧ Q (.bl (!(!(Builtin.Str.occurrences j i 0 j.length 1).isEmpty))) H) := by
  intro pins s σ H x y v u Q I rx ry h
  obtain ⟨i, j, rfl, rfl, q⟩ := h
  obtain ⟨t, rfl⟩ := rx
  obtain ⟨t', rfl⟩ := ry
  exact notIn_str (fin_bl I q rfl)
theorem nomark (b : Expr) {op : CmpOp} (h : op ≠ .In := by decide) (h2 : op ≠ .NotIn := by decide) : behindInMarks op b = false := by
  have e1 : (op == CmpOp.In) = false := by cases op <;> first | rfl | exact absurd rfl h
  have e2 : (op == CmpOp.NotIn) = false := by cases op <;> first | rfl | exact absurd rfl h2
  cases b <;> simp [behindInMarks, e1, e2]
theorem pe_cmpR {op : CmpOp} {r : R2} (ho : OpR X (compareOp op) r) (ha : PE X a ta) (hb : PE X b tb) (hm : behindInMarks op b = false) : PE X (.Compare a [op] [b] pos) (tOp r ta tb) := by
  intro pins s σ H Q I h
  exact wpAny_Compare1 (binT ha hb I h fun v u s2 x y H2 I2 rx ry q => ho pins s2 σ H2 x y v u Q I2 rx ry q) hm
noncomputable def tTest (t : TE) : TT := fun σ H Q => t σ H fun x H' => ∃ k, x = .bl k ∧ Q k H'
theorem pt_cmpR {op : CmpOp} {r : R2} (ho : OpR X (compareOp op) r) (ha : PE X a ta) (hb : PE X b tb) (hm : behindInMarks op b = false) : PT X (.Compare a [op] [b] pos) (tTest (tOp r ta tb)) := by
  intro pins s σ H Q I h
  refine wpAny_isTrue_Compare1 (thn (ha pins s σ H _ I h) fun v s1 ⟨x, H1, I1, r1, q1⟩ => thn (hb pins s1 σ H1 _ I1 q1) fun u s2 ⟨y, H2, I2, r2, q2⟩ =>
    thn (ho pins s2 σ H2 x y v u _ I2 r1 r2 q2) fun c s3 ⟨z, H3, I3, r3, k, e, q3⟩ => ?_) hm
  subst e
  cases r3
  exact wpAny_truthy_bool ⟨H3, I3, q3⟩
noncomputable def tChain (r r' : R2) (ta tb tc : TE) : TE := fun σ H Q => ta σ H fun x H1 => tb σ H1 fun y H2 => r x y H2 fun z H3 => ∃ k, z = .bl k ∧
  (if k = true then tc σ H3 fun w' H4 => r' y w' H4 Q else Q (.bl false) H3)
theorem pe_chain {op op' : CmpOp} {r r' : R2} (ho : OpR X (compareOp op) r) (ho' : OpR X (compareOp op') r') (ha : PE X a ta) (hb : PE X b tb) (hc : PE X c tc)
    (hm : lastMarks [op, op'] [b, c] = false := by with_unfolding_all rfl) : PE X (.Compare a [op, op'] [b, c] pos) (tChain r r' ta tb tc) := by
  intro pins s σ H Q I h
  refine Compare_chain (thn (ha pins s σ H _ I h) fun v s1 ⟨x, H1, I1, r1, q1⟩ => chain_link (thn (hb pins s1 σ H1 _ I1 q1) fun u s2 ⟨y, H2, I2, r2, q2⟩ =>
    thn (ho pins s2 σ H2 x y v u _ I2 r1 r2 q2) fun d s3 ⟨z, H3, I3, r3, k, e, q3⟩ => ?_)) hm
  subst e
  cases r3
  refine wpAny_truthy_bool ?_
  cases k with
  | false => exact ite_ff ⟨.bl false, H3, I3, rfl, q3⟩
  | true => exact ite_tt (chain_last (thn (hc pins s3 σ H3 _ I3 q3) fun w' s4 ⟨z', H4, I4, r4, q4⟩ => ho' pins s4 σ H4 y z' u w' Q I4 r2 r4 q4))
theorem line63 : (sizeLine : Nat) < 2 ^ 63 := by rw [sizeLine_eq]; decide
theorem op_add_str : OpR X (binaryOp .Add) (fun x y H Q => ∃ i j, x = .str i ∧ y = .str j ∧ i.length + j.length ≤ sizeLine ∧ Q (.str (i ++ j)) H) := by
  intro pins s σ H x y v u Q I rx ry h
  obtain ⟨i, j, rfl, rfl, hz, q⟩ := h
  obtain ⟨t, rfl⟩ := rx
  obtain ⟨t', rfl⟩ := ry
  exact add_str (fun t' tk => ⟨.str (i ++ j), H, I.tok _, ⟨_, rfl⟩, q⟩) hz
noncomputable def PlainIxT (b : Expr) : Prop := ∀ o i, subscripted b false o i = operate [o, i] (getItem o i)
theorem pe_item_str (ha : PE X a ta) (hb : PE X b tb) (hs : PlainIxT b) :
    PE X (.Subscript a b pos) (tOp (fun x y H Q => ∃ z i c, x = .str z ∧ y = .int i ∧ 0 ≤ i ∧ i < 2 ^ 63 ∧ i < z.length ∧ z.cps[i.toNat]? = some c ∧ Q (.str ⟨#[c]⟩) H) ta tb) := by
  intro pins s σ H Q I h
  refine Subscript_ (binT ha hb I h fun v u s2 x y H2 I2 rx ry q => ?_)
  obtain ⟨z, i, c, rfl, rfl, h0, h63, h1, hc, q⟩ := q
  obtain ⟨t, rfl⟩ := rx
  obtain ⟨t', rfl⟩ := ry
  have e : seqIndex? i z.length = some i.toNat := PySem.StrLaws.seqIndex_nonneg h0 h1
  exact tail_any (typeIs_str s2 z t) slot_str_getitem.lookup (getItem_str (c := c) (by
    have e1 : decide (i < -(2 ^ 63 : Int)) = false := decide_eq_false (by omega)
    have e2 : decide (i ≥ 2 ^ 63) = false := decide_eq_false (by omega)
    rw [e1, e2] <;> rfl) (by rw [e]; exact hc) ⟨.str ⟨#[c]⟩, H2, I2.tok _, ⟨_, rfl⟩, q⟩) (hs _ _)
theorem vals1 {x : V} {us : List Value} (r : Vals [x] us) : ∃ u, us = [u] ∧ RelV x u := by
  cases r with
  | cons r1 r2 => cases r2; exact ⟨_, rfl, r1⟩
theorem call_str_int : CallR X (.type "str") (fun xs H Q => ∃ i, xs = [.int i] ∧ i.natAbs.log2 < 1920 ∧ Q (.str (toString i)) H) := by
  intro pins s σ H xs us Q I r h
  obtain ⟨i, rfl, hz, q⟩ := h
  obtain ⟨u, rfl, t, rfl⟩ := vals1 r
  exact PySem.P.str_of_int hz ⟨.str _, H, I.tok _, ⟨_, rfl⟩, q⟩
end
end L2

namespace L2
open PySem PySem.Spec PyProof.Rows

structure ObjM (h : Heap) (x dx C : Addr) (mA : Str → Option Value) : Prop where
  obj : h.get? x = some (PySem.W.instObj C dx)
  ns : h.Ns1 dx mA
  ne : dx ≠ x

theorem lookIn_ns {h : Heap} {dx : Addr} {mA : Str → Option Value} (n : h.Ns1 dx mA) : ∃ od, h.get? dx = some od ∧ ∀ name, PySem.W.lookIn name od = some (mA name) := by
  obtain ⟨o, es, ep, ho, hd, hk, _, hm⟩ := n
  refine ⟨o, ho, fun name => ?_⟩
  have e := hm name
  unfold nsFind findBy at e
  rw [← Array.find?_toList] at e
  unfold PySem.W.lookIn
  rw [hd]
  dsimp only
  split
  · rename_i y q
    rw [q] at e
    exact congrArg some e
  · rename_i q
    rw [q] at e
    have a : es.toList.any (·.refKey) = false := by
      rw [List.any_eq_false]
      intro y hy
      obtain ⟨z, t, hkey⟩ := hk y (Array.mem_toList_iff.mp hy)
      simp [DictEntry.refKey, hkey]
    have a' : ¬ es.toList.any (·.refKey) = true := by rw [a]; exact Bool.false_ne_true
    rw [if_neg a']
    exact congrArg some e

theorem ObjM.look {h : Heap} {x dx C : Addr} {mA : Str → Option Value} (I : ObjM h x dx C mA) : ∃ od, PySem.W.InstAt h x (PySem.W.instObj C dx) C (some od) ∧ ∀ name, PySem.W.lookIn name od = some (mA name) :=
  let ⟨od, ho, hl⟩ := lookIn_ns I.ns
  ⟨od, ⟨I.obj, rfl, rfl, ho⟩, hl⟩


theorem RelO.some_of {v : V} {o : Option Value} (r : RelO (some v) o) : ∃ u, o = some u ∧ RelV v u := by
  cases o with
  | none => exact (show False from r).elim
  | some u => exact ⟨u, rfl, r⟩
section
variable {P : Program} {w : World} {H H' : Hp} {h h' : Heap} {a C dx : Addr} {fs fs' : List (Str × V)}
theorem ins_get (hok : HOk P w H h) (e : H a = some (.ins C dx fs)) : ∃ mA, ObjM h a dx C mA ∧ (∀ f, RelO (fs.lookup f) (mA f)) ∧ PySem.Within mA (fs.map (·.1)) ∧ fs.length ≤ 1000 ∧ H dx = some (.own a) := by
  obtain ⟨d, z, ne, ob, mA, n, r, q⟩ := (show ObjOk P w H h a (.ins C dx fs) from hok a _ e)
  exact ⟨mA, ⟨ob, n, ne⟩, r, q, z, d⟩
end

structure Cls (K : PySem.W.Frag) (C : Addr) : Prop where
  pg : PySem.W.plainGet K C Str.empty = true
  hd : PySem.W.hasDictIn K C = true
  po : PySem.W.plainOver K C = true
  sa : PySem.W.findIn K (.ref C) "__setattr__" = some (some (.builtin "object.__setattr__"))
theorem Cls.get {K : PySem.W.Frag} {C : Addr} (c : Cls K C) (f : Str) : PySem.W.plainGet K C f = true := c.pg


section
variable {X : Cx} {pins : List (Addr × Obj)} {σ : St} {H : Hp} {s : Shared} {A : Around} {E : Value → Shared → Prop} {Q : Value → Shared → Prop} {c : Value} {b : Bool}
inductive TyOf (K : PySem.W.Frag) (H : Hp) : V → Value → Prop where
  | non : TyOf K H .non (.type "NoneType")
  | bl (x : Bool) : TyOf K H (.bl x) (.type "bool")
  | int (i : Int) : TyOf K H (.int i) (.type "int")
  | str (x : Str) : TyOf K H (.str x) (.type "str")
  | flt (x : UInt64) : TyOf K H (.flt x) (.type "float")
  | lst {a : Addr} {xs : List V} (e : H a = some (.lst xs)) : TyOf K H (.ref a) (.type "list")
  | frz {a : Addr} {o : Obj} {xs : List V} (e : H a = some (.frz o (.lst xs))) : TyOf K H (.ref a) (.type "list")
  | tup {a : Addr} {xs : List V} (e : H a = some (.tup xs)) : TyOf K H (.ref a) (.type "tuple")
  | dK {a : Addr} {kvs : List (Key × V)} (e : H a = some (.dK kvs)) : TyOf K H (.ref a) (.type "dict")
  | dT {a : Addr} {kvs : List (List Key × V)} (e : H a = some (.dT kvs)) : TyOf K H (.ref a) (.type "dict")
  | ins {a C dx : Addr} {fs : List (Str × V)} (e : H a = some (.ins C dx fs)) (cl : Cls K C) (ha : PySem.W.findIn K (.ref C) "__class__" = some (some (.builtin "object.__class__")))
      (hn : PySem.W.specialIn K (.builtin "object.__class__") "__get__" = some (some (.builtin "getset_descriptor.__get__"))) (htk : PySem.W.takesIn K (.builtin "object.__class__") = some true)
      (hm : PySem.W.mroIn K C (.type "object") = some true) : TyOf K H (.ref a) (.ref C)
theorem isinst_ok {x : V} {u t : Value} (I : Inv X pins σ H s) (rx : RelV x u) (ty : TyOf X.K H x t) (e : PySem.W.kitOne X.K t c = some b) (h : ∀ tk, Q (.bool b) { s with toks := tk }) :
    wpAny (model X.prog X.w) A (call (.builtin "isinstance") [u, c]) Q E s := by
  cases ty with
  | non => cases (show u = Value.none from rx); exact PySem.W.kia_one PySem.W.kitx_none I.kIn True.intro e (fun z => nomatch z) h
  | bl y => cases (show u = Value.bool y from rx); exact PySem.W.kia_one PySem.W.kitx_bool I.kIn True.intro e (fun z => nomatch z) h
  | int i => obtain ⟨t, q⟩ := (show ∃ t, u = Value.int i t from rx); cases q; exact PySem.W.kia_one PySem.W.kitx_int I.kIn True.intro e (fun z => nomatch z) h
  | str y => obtain ⟨t, q⟩ := (show ∃ t, u = Value.str y t from rx); cases q; exact PySem.W.kia_one PySem.W.kitx_str I.kIn True.intro e (fun z => nomatch z) h
  | flt y => obtain ⟨t, q⟩ := (show ∃ t, u = Value.float y t from rx); cases q; exact PySem.W.kia_one PySem.W.kitx_float I.kIn True.intro e (fun z => nomatch z) h
  | @lst a xs ea =>
    cases (show u = Value.ref a from rx)
    obtain ⟨_, _, n, _, h1⟩ := (show ObjOk X.prog X.w H s.heap a (.lst xs) from I.hok a _ ea)
    exact PySem.W.kia_one PySem.W.kitx_list I.kIn ⟨_, h1, rfl⟩ e (fun z => nomatch z) h
  | @frz a ob xs ea =>
    cases (show u = Value.ref a from rx)
    obtain ⟨_, _, _, n, _, h1⟩ := (show ObjOk X.prog X.w H s.heap a (.frz ob (.lst xs)) from I.hok a _ ea)
    exact PySem.W.kia_one PySem.W.kitx_list I.kIn ⟨_, h1, rfl⟩ e (fun z => nomatch z) h
  | @tup a xs ea =>
    cases (show u = Value.ref a from rx)
    obtain ⟨_, _, _, p⟩ := (show ObjOk X.prog X.w H s.heap a (.tup xs) from I.hok a _ ea)
    obtain ⟨o, h1, h2, _⟩ := p
    exact PySem.W.kia_one PySem.W.kitx_tuple I.kIn ⟨o, h1, h2⟩ e (fun z => nomatch z) h
  | @dK a kvs ea =>
    cases (show u = Value.ref a from rx)
    obtain ⟨_, _, vs, _, p⟩ := (show ObjOk X.prog X.w H s.heap a (.dK kvs) from I.hok a _ ea)
    obtain ⟨o, es, ep, h1, h2, _⟩ := p
    exact PySem.W.kia_one PySem.W.kitx_dict I.kIn ⟨o, h1, h2.1⟩ e (fun z => nomatch z) h
  | @dT a kvs ea =>
    cases (show u = Value.ref a from rx)
    obtain ⟨_, _, xs, _, o, es, ep, h1, h2, _⟩ := (show ObjOk X.prog X.w H s.heap a (.dT kvs) from I.hok a _ ea)
    exact PySem.W.kia_one PySem.W.kitx_dict I.kIn ⟨o, h1, h2.1⟩ e (fun z => nomatch z) h
  | @ins a C dx fs ea cl ha hn htk hm =>
    cases (show u = Value.ref a from rx)
    obtain ⟨mA, O, _⟩ := ins_get I.hok ea
    obtain ⟨od, J, _⟩ := O.look
    exact PySem.W.kia_one (PySem.W.kitx_own (cl.get _) cl.hd ha hn htk hm) I.kIn J e (fun z => nomatch z) h
end
end L2

namespace L2
open PySem PySem.Spec PyProof.Rows

structure Room (k : Nat) (A : Around) : Prop where
  hd : A.handled = none
  dp : A.depth + 3 * k + 5 < recursionLimit
  un : A.units + 16 * k + 200 < cLine
  gd : A.guards = some []
theorem Room.mono {j k : Nat} {A : Around} (r : Room k A) (h : j ≤ k) : Room j A := ⟨r.hd, by have := r.dp; omega, by have := r.un; omega, r.gd⟩
theorem Room.deeper {k : Nat} {A : Around} (r : Room (k + 1) A) (env : Env) : Room k (A.deeper env) :=
  ⟨r.hd, by have := r.dp; show A.depth + 1 + 3 * k + 5 < _; omega, by have := r.un; show A.units + 3 + 16 * k + 200 < _; omega, r.gd⟩
theorem Room.depth {k : Nat} {A : Around} (r : Room k A) : A.depth < recursionLimit := by have := r.dp; omega
theorem Room.units {k : Nat} {A : Around} (r : Room k A) : A.units + 64 < cLine := by have := r.un; omega
theorem Room.units0 {k : Nat} {A : Around} (r : Room k A) : A.units < cLine := by have := r.un; omega

noncomputable def tNil : TA := fun _ H Q => Q [] H
noncomputable def tCons (ta : TE) (tr : TA) : TA := fun σ H Q => ta σ H fun x H1 => tr σ H1 fun xs H2 => Q (x :: xs) H2
section
variable {X : Cx} {e : Expr} {es : List Expr} {te : TE} {t : TA} {pos : Pos}
theorem pa_nil : PA X [] tNil := fun _ _ _ _ H Q I h => Calls.spliced_nil ⟨[], H, I, .nil, h⟩
theorem pa_cons (ha : PE X e te) (hr : PA X es t) (hs : starEach (e :: es) X.env = (false, eval e X.env) :: starEach es X.env := by rfl) : PA X (e :: es) (tCons te t) := by
  intro pos pins s σ H Q I h
  rw [hs]
  show wpAny _ _ (spliced ((false, eval e X.env) :: backTo pos (starEach es X.env))) _ _ s
  refine Calls.spliced_cons (thn (ha pins s σ H _ I h) fun u s1 ⟨x, H1, I1, r1, q1⟩ => ?_)
  exact thn (hr pos pins s1 σ H1 _ I1 q1) fun us s2 ⟨xs, H2, I2, r2, q2⟩ => ⟨x :: xs, H2, I2, .cons r1 r2, q2⟩

noncomputable def tTup (t : TA) : TE := fun σ H Q => t σ H fun xs H1 => xs.length ≤ sizeLine ∧ ∀ p, H1 p = none → Q (.ref p) (upd H1 p (.tup xs))
noncomputable def tLst (t : TA) : TE := fun σ H Q => t σ H fun xs H1 => xs.length ≤ sizeLine ∧ ∀ p, H1 p = none → Q (.ref p) (upd H1 p (.lst xs))
theorem pe_tup {x1} (h : PA X es t) : PE X (.Tuple es x1 pos) (tTup t) := by
  intro pins s σ H Q I hq
  refine wpAny_Tuple_spliced (thn (h pos pins s σ H _ I hq) fun us s1 ⟨xs, H1, I1, r, z, q⟩ => ⟨by rw [← r.length]; exact z, ?_⟩)
  have hf : H1 s1.heap.objs.size = none := I1.hok.fresh (Nat.le_refl _)
  refine ⟨.ref s1.heap.objs.size, upd H1 s1.heap.objs.size (.tup xs), I1.laid (t' := s1.toks) (fun b u e => Heap.get?_push_of_some _ e) (Nat.le_refl _) ?_, rfl, q _ hf⟩
  exact ⟨z, us, r, ⟨_, Heap.get?_push_size _ rfl, rfl, _, rfl⟩⟩
theorem pe_lst (h : PA X es t) : PE X (.List es pos) (tLst t) := by
  intro pins s σ H Q I hq
  refine wpAny_List_spliced (thn (h pos pins s σ H _ I hq) fun us s1 ⟨xs, H1, I1, r, z, q⟩ => ⟨by rw [← r.length]; exact z, ?_⟩)
  have hf : H1 s1.heap.objs.size = none := I1.hok.fresh (Nat.le_refl _)
  refine ⟨.ref s1.heap.objs.size, upd H1 s1.heap.objs.size (.lst xs), I1.laid (t' := s1.toks) (fun b u e => Heap.get?_push_of_some _ e) (Nat.le_refl _) ?_, rfl, q _ hf⟩
  exact ⟨z, us, 0, r, Heap.get?_push_size _ rfl⟩
end

noncomputable abbrev Sp := List V → Hp → VK → XK → Prop
noncomputable abbrev CXT := List Env → Hp → Shared → XK → Value → Shared → Prop

structure Env0 (P : Program) (w : World) (K : PySem.W.Frag) (mg : Str → Option Value) (base : Heap) (A : Around) (outer : List Env) (s : Shared) (H : Hp) : Prop where
  frames : A.frames = some outer
  mod : Mod K mg base
  bs : ∀ b o, base.get? b = some o → s.heap.get? b = some o ∧ H b = none
  bsz : base.objs.size ≤ s.heap.objs.size
  funs : s.heap.FunFrames base outer
  frf : ∀ b ∈ frs outer, H b = none
  hok : HOk P w H s.heap
  bare : AllBare s.gens
noncomputable def CE (outer : List Env) (P : Program) (w : World) (H : Hp) (s : Shared) (Q : VK) (u : Value) (s' : Shared) : Prop :=
  ∃ v H', s'.os = s.os ∧ AllBare s'.gens ∧ Un (frs outer) [] H H' s.heap s'.heap ∧ HOk P w H' s'.heap ∧ RelV v u ∧ Q v H'
noncomputable def CR (CX : CXT) (outer : List Env) (P : Program) (w : World) (H : Hp) (s : Shared) (Q : VK) (E : XK) (r : Result) (s' : Shared) : Prop :=
  match r with
  | .ok (.ret u) => CE outer P w H s Q u s'
  | .ok _ => False
  | .error e => CX outer H s E e s'
structure FnOk (P : Program) (w : World) (K : PySem.W.Frag) (mg : Str → Option Value) (base : Heap) (CX : CXT) (k : Nat) (f : Addr) (fd : FuncData) (ps : List Str) (sp : Sp) : Prop where
  len : ∀ vs H Q E, sp vs H Q E → vs.length = ps.length
  run : ∀ (A : Around) (outer : List Env) (s : Shared) (H : Hp) (args : Args) (us : List Value) (vs : List V) (Q : VK) (E : XK), Room k A → Env0 P w K mg base A outer s H → BindsTo s fd args (ps.zip us) → Vals vs us → sp vs H Q E →
    codeAny (model P w) A (.call (.ref f) args) (CR CX outer P w H s Q E) s
section
variable {X : Cx} {pins : List (Addr × Obj)} {σ : St} {H : Hp} {s s' : Shared}
theorem Inv.env0 (I : Inv X pins σ H s) : Env0 X.prog X.w X.K X.mg X.base X.A X.stack s H :=
  ⟨I.ok.frames, I.ok.mod, I.bs, Nat.le_trans I.ok.bsz I.sz, I.stack, I.stkFree, I.hok, I.bare⟩
theorem Inv.after {Q : VK} {u : Value} (I : Inv X pins σ H s) (h : CE X.stack X.prog X.w H s Q u s') : EP X pins σ Q u s' := by
  obtain ⟨v, H', os, bare, un, hok, r, q⟩ := h
  obtain ⟨hh, g, d, t, os'⟩ := s'
  obtain rfl : os' = s.os := os
  exact ⟨v, H', I.call (h' := hh) (g' := g) (d' := d) (t' := t) (ch := []) un hok bare (fun b z => absurd z (by simp)), r, q⟩
end

noncomputable def tCall (sp : Sp) (dvs : List V) (E : XK) (t : TA) : TE := fun σ H Q => t σ H fun vs H1 => sp (vs ++ dvs) H1 Q E
noncomputable def Binds (K : PySem.W.Frag) (fd : FuncData) (ps : List Str) (ds : List Value) : Prop :=
  ∀ (s : Shared) (us : List Value), K.In s.heap → (us ++ ds).length = ps.length → BindsTo s fd ⟨us, []⟩ (ps.zip (us ++ ds))
theorem Binds.all {K : PySem.W.Frag} {fd : FuncData} {ps : List Str} (h : ∀ us : List Value, us.length = ps.length → bindArgs fd ⟨us, []⟩ = pure (ps.zip us)) : Binds K fd ps [] := fun s us _ hl => by
  rw [List.append_nil] at hl ⊢
  exact .of_eq (h us hl)

noncomputable def Passes (CX : CXT) (X : Cx) (E : XK) : Prop := ∀ (pins : List (Addr × Obj)) (σ : St) (H : Hp) (s : Shared) (e : Value) (s' : Shared), Inv X pins σ H s → CX X.stack H s E e s' → X.xe e s'

section
variable {X : Cx} {CX : CXT} {k : Nat} {f C : Addr} {fd : FuncData} {ps : List Str} {sp : Sp} {dvs : List V} {ds : List Value} {E : XK} {x m : Str} {p pos apos : Pos} {e o : Expr} {es : List Expr} {ta : TE} {t : TA}

theorem run_fn {pins : List (Addr × Obj)} {σ : St} {H : Hp} {s : Shared} {Q : VK} {us : List Value} {vs : List V} (F : FnOk X.prog X.w X.K X.mg X.base CX k f fd ps sp) (hr : Room k X.A) (hb : Binds X.K fd ps ds) (hd : Vals dvs ds) (hx : Passes CX X E)
    (I : Inv X pins σ H s) (r : Vals vs us) (h : sp (vs ++ dvs) H Q E) : wpAny (model X.prog X.w) X.A (call (.ref f) us) (EP X pins σ Q) X.xe s := by
  have r2 : Vals (vs ++ dvs) (us ++ ds) := r.append hd
  have hl : (us ++ ds).length = ps.length := by rw [← r2.length]; exact F.len _ _ _ _ h
  refine wpAny_call (codeAny_mono (F.run X.A X.stack s H ⟨us, []⟩ (us ++ ds) (vs ++ dvs) Q E hr I.env0 (hb s us I.kIn hl) r2 h) fun r s' hq => ?_)
  cases r with
  | error e => exact hx pins σ H s e s' I hq
  | ok fl =>
    cases fl with
    | ret u => exact I.after hq
    | next => exact False.elim hq
    | brk => exact False.elim hq
    | cont => exact False.elim hq

theorem pe_call (F : FnOk X.prog X.w X.K X.mg X.base CX k f fd ps sp) (hr : Room k X.A) (hg : Gl X x) (hm : X.mg x = some (.ref f)) (hk : PySem.W.keepIn X.K (.ref f) = true) (hb : Binds X.K fd ps ds) (hd : Vals dvs ds) (hx : Passes CX X E)
    (ha : PA X (e :: es) t) (hdb : (x == ("__debug__" : Str)) = false := by decide) (he : starEach (e :: es) X.env = (false, eval e X.env) :: starEach es X.env := by rfl) (hpl : (backTo pos (starEach es X.env)).any (·.1) = false := by rfl) :
    PE X (.Call (.Name x p) (e :: es) [] pos) (tCall sp dvs E t) := by
  intro pins s σ H Q I h
  refine wpAny_Call_Name_kw (ld_glob I hg hm ?_ hdb)
  refine PySem.W.callWith_K (h₀ := X.base) I.ok.mod.kin hk (thn (ha pos pins s σ H _ I h) fun us s1 ⟨vs, H1, I1, r, q⟩ => ⟨I1.kIn, ?_⟩) he hpl
  exact run_fn F hr hb hd hx I1 r q
end


structure FnScope (N P : List Str) (sc : Scope) : Prop where
  kind : sc.kind = .function
  co : sc.isCoroutine = false
  gen : sc.isGenerator = false
  nd : N.Nodup
  pre : N.take P.length = P
  par : ∀ x ∈ P, sc.names.lookup x = some .local ∨ sc.names.lookup x = some .cell
  nofree : ∀ y ∈ sc.names, y.2 ≠ .free

theorem bindL_out {kindOf : Str → Option NameKind} {x : Str} : ∀ {binds : List (Str × Value)} {m : Str → Option Value}, (∀ v, (x, v) ∉ binds) → bindL kindOf binds m x = m x
  | [], _, _ => rfl
  | (n, v) :: r, m, h => by
    unfold bindL
    rw [bindL_out fun w hw => h w (List.mem_cons_of_mem _ hw)]
    split
    · have : x ≠ n := by rintro rfl; exact h v List.mem_cons_self
      simp [this]
    · rfl
theorem bindC_out {kindOf : Str → Option NameKind} {x : Str} : ∀ {binds : List (Str × Value)} {m : Str → Option Value}, (∀ v, (x, v) ∉ binds) → bindC kindOf binds m x = m x
  | [], _, _ => rfl
  | (n, v) :: r, m, h => by
    unfold bindC
    rw [bindC_out fun w hw => h w (List.mem_cons_of_mem _ hw)]
    split
    · rfl
    · have : x ≠ n := by rintro rfl; exact h v List.mem_cons_self
      simp [this]
theorem bindL_get {kindOf : Str → Option NameKind} {x : Str} {v : Value} : ∀ {P : List Str} {vs : List Value} {i : Nat} {m : Str → Option Value}, P.Nodup → P[i]? = some x → vs[i]? = some v → kindOf x = some .local →
    bindL kindOf (P.zip vs) m x = some v
  | [], _, _, _, _, h, _, _ => by simp at h
  | _ :: _, [], _, _, _, _, h, _ => by simp at h
  | p :: P, w :: vs, 0, m, nd, h1, h2, hk => by
    simp at h1 h2; subst h1; subst h2
    show bindL kindOf ((p, w) :: P.zip vs) m p = _
    unfold bindL
    rw [bindL_out fun v hv => (List.nodup_cons.mp nd).1 (List.of_mem_zip hv).1, if_pos hk]
    simp
  | p :: P, w :: vs, i + 1, m, nd, h1, h2, hk => by
    show bindL kindOf ((p, w) :: P.zip vs) m x = _
    unfold bindL
    exact bindL_get (i := i) (List.nodup_cons.mp nd).2 (by simpa using h1) (by simpa using h2) hk
theorem bindC_get {kindOf : Str → Option NameKind} {x : Str} {v : Value} : ∀ {P : List Str} {vs : List Value} {i : Nat} {m : Str → Option Value}, P.Nodup → P[i]? = some x → vs[i]? = some v → kindOf x ≠ some .local →
    bindC kindOf (P.zip vs) m x = some v
  | [], _, _, _, _, h, _, _ => by simp at h
  | _ :: _, [], _, _, _, _, h, _ => by simp at h
  | p :: P, w :: vs, 0, m, nd, h1, h2, hk => by
    simp at h1 h2; subst h1; subst h2
    show bindC kindOf ((p, w) :: P.zip vs) m p = _
    unfold bindC
    rw [bindC_out fun v hv => (List.nodup_cons.mp nd).1 (List.of_mem_zip hv).1, if_neg hk]
    simp
  | p :: P, w :: vs, i + 1, m, nd, h1, h2, hk => by
    show bindC kindOf ((p, w) :: P.zip vs) m x = _
    unfold bindC
    exact bindC_get (i := i) (List.nodup_cons.mp nd).2 (by simpa using h1) (by simpa using h2) hk

noncomputable def start (N : List Str) (vs : List V) : St := vs.map some ++ List.replicate (N.length - vs.length) none

noncomputable def cxOf (CX : CXT) (P : Program) (w : World) (K : PySem.W.Frag) (mg : Str → Option Value) (base : Heap) (N : List Str) (qual : Str) (scope : Scope) (f : Addr) (cd : Value) (A : Around) (outer : List Env) (s : Shared) (H : Hp) (E : XK) : Cx where
  prog := P
  w := w
  K := K
  mg := mg
  base := base
  A := A.deeper (envOfC qual scope s.heap.objs.size f cd)
  N := N
  s₀ := s
  H₀ := H
  env := envOfC qual scope s.heap.objs.size f cd
  outer := outer
  stack := envOfC qual scope s.heap.objs.size f cd :: outer
  ex := []
  calm := true
  fn := fun _ => true
  pn := []
  xe := fun e s' => wpAny (model P w) (A.deeper (envOfC qual scope s.heap.objs.size f cd)) (leaving (envOfC qual scope s.heap.objs.size f cd) e) (fun _ s'' => CX outer H s E e s'') (fun e' s'' => CX outer H s E e' s'') s'

theorem cell_has {sc : Scope} {n : Nat} {x : Str} (h : sc.names.lookup x = some .cell) : ∃ c, (cellsFrom n sc.names []).lookup x = some c := by
  have q := PySem.W.cellsFrom_some sc.names n [] (.inl h)
  exact Option.isSome_iff_exists.mp q

theorem inv_start {CX : CXT} {P : Program} {w : World} {K : PySem.W.Frag} {mg : Str → Option Value} {base : Heap} {N ps : List Str} {qual : Str} {scope : Scope} {f : Addr} {cd : Value} {A : Around} {outer : List Env} {s s1 : Shared} {H : Hp} {E : XK} {us : List Value} {vs : List V}
    (S : FnScope N ps scope) (hd : A.handled = none) (e0 : Env0 P w K mg base A outer s H) (hl : vs.length = ps.length) (r : Vals vs us)
    (x : InCallC s s.heap.objs.size (bindL (envOfC qual scope s.heap.objs.size f cd).kindOf (ps.zip us) fun _ => none) (cellsFrom (s.heap.objs.size + 1) scope.names []) (bindC (envOfC qual scope s.heap.objs.size f cd).kindOf (ps.zip us) fun _ => none) s1) :
    Inv (cxOf CX P w K mg base N qual scope f cd A outer s H E) [] (start N vs) H s1 := by
  have hpl : ps.length ≤ N.length := by have := congrArg List.length S.pre; rw [List.length_take] at this; omega
  obtain ⟨h1, tk, rfl, hk⟩ := x.done
  have noA : ∀ b : Addr, b ∉ (cxOf CX P w K mg base N qual scope f cd A outer s H E).ex := fun b z => absurd (show b ∈ ([] : List Addr) from z) (by simp)
  refine ⟨⟨e0.mod, S.kind, rfl, rfl, Nat.le_refl _, fun y z c h1 h2 => ?_, fun y hy => ?_, fun y c _ h => ?_, fun _ => hd, Around.frames_deeper e0.frames, .inr ⟨rfl, rfl⟩, fun b z => absurd z (noA b), e0.bs, e0.bsz, fun b _ _ => noA b, fun b z => absurd z (noA b), e0.funs, e0.frf⟩,
    rfl, e0.bare, Un.kept hk, ⟨_, x.toInCall.ns, fun i y v h1 h2 h3 => ?_⟩, fun y c h => ⟨_, x.cell y c h⟩, e0.hok.fresh (Nat.le_refl _), fun y c h => ?_, fun p hp => absurd (show p ∈ ([] : List (Addr × Obj)) from hp) (by simp), e0.hok.kept hk, ?_⟩
  · exact name_of_addr x.apart (PySem.mem_of_lookup h1) (PySem.mem_of_lookup h2)
  · have hy : scope.names.lookup y = some .cell ∨ scope.names.lookup y = some .free := hy
    rcases hy with hy | hy
    · exact cell_has hy
    · exact absurd rfl (S.nofree _ (PySem.mem_of_lookup hy))
  · exact Nat.le_of_lt (x.above y c (PySem.mem_of_lookup h))
  · have hi : i < vs.length := by
      unfold start at h2
      by_cases hi : i < vs.length
      · exact hi
      · rw [List.getElem?_append_right (by simpa using hi)] at h2
        rw [List.getElem?_replicate] at h2
        split at h2 <;> cases h2
    have ha : vs[i]? = some v := by
      unfold start at h2
      rw [List.getElem?_append_left (by simpa using hi), List.getElem?_map] at h2
      cases e : vs[i]? with
      | none => rw [e] at h2; cases h2
      | some a => rw [e] at h2; cases h2; rfl
    obtain ⟨u, hu, rv⟩ := r.get ha
    have hp : ps[i]? = some y := by
      rw [← S.pre, List.getElem?_take_of_lt (by omega)]; exact h1
    have ndP : ps.Nodup := by rw [← S.pre]; exact S.nd.sublist (List.take_sublist _ _)
    refine ⟨u, rv, ?_⟩
    rcases S.par y (List.mem_of_getElem? hp) with k | k
    · exact .inl ⟨k, bindL_get ndP hp hu k⟩
    · obtain ⟨c, e⟩ := cell_has (n := s.heap.objs.size + 1) k
      refine .inr ⟨.inl k, c, e, ?_⟩
      have q := x.cell y c e
      rw [bindC_get ndP hp hu (by show scope.names.lookup y ≠ _; rw [k]; decide)] at q
      exact q
  · exact e0.hok.fresh (Nat.le_of_lt (x.above y c (PySem.mem_of_lookup h)))
  · unfold start
    show _ = N.length
    rw [List.length_append, List.length_map, List.length_replicate]
    omega

theorem fn_of {CX : CXT} {P : Program} {w : World} {K : PySem.W.Frag} {mg : Str → Option Value} {base : Heap} {k : Nat} {f : Addr} {name qual : Str} {params : Arguments} {body : List Stmt} {scope : Scope} {dV kV doc pm cdv ct oc : Value} {an od : Option Addr}
    {osl : Array (Option Value)} {N ps : List Str} {sp : Sp} (lk : K.lookup f = some ⟨oc, od, .func (PySem.W.fnOf name qual params body scope dV kV doc pm an cdv ct), osl⟩) (hcd : PySem.W.codeIn K cdv qual = true) (S : FnScope N ps scope)
    (len : ∀ vs H Q E, sp vs H Q E → vs.length = ps.length)
    (hbody : ∀ (A : Around) (outer : List Env) (s : Shared) (H : Hp) (vs : List V) (Q : VK) (E : XK), Room k (A.deeper (envOfC qual scope s.heap.objs.size f cdv)) → sp vs H Q E →
      ∃ t, PSs (cxOf CX P w K mg base N qual scope f cdv A outer s H E) body t ∧ t { nx := fun _ H' => Q .non H', rt := Q } (start N vs) H) :
    FnOk P w K mg base CX (k + 1) f (PySem.W.fnOf name qual params body scope dV kV doc pm an cdv ct) ps sp := by
  refine ⟨len, fun A outer s H args us vs Q E hr e0 hb r hsp => ?_⟩
  have hl := len _ _ _ _ hsp
  have KX : K.In s.heap := e0.mod.kin.keeps fun b o e => (e0.bs b o e).1
  have lim : s.heap.NoLimit := e0.mod.nolimit.keeps fun b o e => (e0.bs b o e).1
  have hkind : ∀ y ∈ ps.zip us, scope.names.lookup y.1 = some .local ∨ (scope.names.lookup y.1 = some .cell ∧ ((cellsFrom (s.heap.objs.size + 1) scope.names []).lookup y.1).isSome = true) := fun ⟨n, v⟩ hy => by
    rcases S.par n (List.of_mem_zip hy).1 with q | q
    · exact .inl q
    · exact .inr ⟨q, PySem.W.cellsFrom_some _ _ _ (.inl q)⟩
  refine codeAny_call_function hr.depth (KX _ _ lk) rfl S.co S.gen rfl (PySem.W.codeRec_of KX hcd) (hb _ _ _ _ ?_)
  refine wpAny_newFunctionEnv_cells S.kind hkind fun env he s1 x => ?_
  subst he
  refine ⟨lim.keeps x.toInCall.keep, codeAny_func ?_⟩
  obtain ⟨t, ht, hq⟩ := hbody A outer s H vs Q E (hr.deeper _) hsp
  have I : Inv (cxOf CX P w K mg base N qual scope f cdv A outer s H E) [] (start N vs) H s1 := inv_start S hr.hd e0 hl r x
  refine wpAny_mono (ht [] s1 (start N vs) H _ I hq) (fun fl s' hs => ?_) fun e s' hs => hs
  have fin : ∀ {σ' : St} {H' : Hp} {v : V} {u : Value}, Inv (cxOf CX P w K mg base N qual scope f cdv A outer s H E) [] σ' H' s' → RelV v u → Q v H' → CE outer P w H s Q u s' :=
    fun {σ' H' v u} J rv q => ⟨v, H', J.os, J.bare, J.base, J.hok, rv, q⟩
  cases fl with
  | ret u =>
    obtain ⟨v, σ', H', J, rv, q⟩ := hs
    exact fin J rv q
  | next =>
    obtain ⟨σ', H', J, q⟩ := hs
    exact fin (v := V.non) (u := Value.none) J rfl q
  | brk =>
    obtain ⟨_, _, _, q⟩ := hs
    exact False.elim q
  | cont =>
    obtain ⟨_, _, _, q⟩ := hs
    exact False.elim q
end L2

namespace L2
open PySem PySem.Spec PyProof.Rows
section
variable {X : Cx} {x : Str} {p pos : Pos} {e : Expr} {es : List Expr} {t : TA} {id T : String} {r : List V → Hp → VK → Prop}

noncomputable def tCB (r : List V → Hp → VK → Prop) (t : TA) : TE := fun σ H Q => t σ H fun vs H1 => r vs H1 Q
theorem pe_callB (hc : CallR X (.builtin id) r) (hg : Gl X x) (hm : X.mg x = none) (hv : bootBuiltins x = some (.builtin id)) (ha : PA X (e :: es) t) (hn : x ≠ "__name__" := by decide) (hdb : (x == ("__debug__" : Str)) = false := by decide)
    (he : starEach (e :: es) X.env = (false, eval e X.env) :: starEach es X.env := by rfl) (hpl : (backTo pos (starEach es X.env)).any (·.1) = false := by rfl) : PE X (.Call (.Name x p) (e :: es) [] pos) (tCB r t) := by
  intro pins s σ H Q I h
  refine wpAny_Call_Name_kw (ld_blt I hg hm hv ?_ hn hdb)
  exact PyProof.Rows.callWith_builtin1 (thn (ha pos pins s σ H _ I h) fun us s1 ⟨vs, H1, I1, r1, q1⟩ => hc pins s1 σ H1 vs us Q I1 r1 q1) he hpl
theorem pe_callTy (hc : CallR X (.type T) r) (hg : Gl X x) (hm : X.mg x = none) (hv : bootBuiltins x = some (.type T)) (ha : PA X (e :: es) t) (hn : x ≠ "__name__" := by decide) (hdb : (x == ("__debug__" : Str)) = false := by decide)
    (he : starEach (e :: es) X.env = (false, eval e X.env) :: starEach es X.env := by rfl) (hpl : (backTo pos (starEach es X.env)).any (·.1) = false := by rfl) : PE X (.Call (.Name x p) (e :: es) [] pos) (tCB r t) := by
  intro pins s σ H Q I h
  refine wpAny_Call_Name_kw (ld_blt I hg hm hv ?_ hn hdb)
  exact PyProof.Rows.callWith_type1 (thn (ha pos pins s σ H _ I h) fun us s1 ⟨vs, H1, I1, r1, q1⟩ => hc pins s1 σ H1 vs us Q I1 r1 q1) he hpl
end
end L2

namespace L2
open PySem PySem.Spec PyProof.Rows

section
variable {κ : Type} [DecidableEq κ]
noncomputable def valV (kvs : List (κ × V)) (k : κ) : Option V := (kvs.find? fun kv => decide (kv.1 = k)).map (·.2)
noncomputable def putK (kvs : List (κ × V)) (k : κ) (v : V) : List (κ × V) :=
  if (kvs.any fun kv => decide (kv.1 = k)) = true then kvs.map (fun kv => if kv.1 = k then (kv.1, v) else kv) else kvs ++ [(k, v)]
theorem valV_pos {p : κ × V} {r : List (κ × V)} {k : κ} (e : p.1 = k) : valV (p :: r) k = some p.2 := by simp [valV, List.find?_cons, e]
theorem valV_neg {p : κ × V} {r : List (κ × V)} {k : κ} (e : ¬ p.1 = k) : valV (p :: r) k = valV r k := by simp [valV, List.find?_cons, e]
theorem valV_any (k : κ) : ∀ kvs : List (κ × V), (kvs.any fun kv => decide (kv.1 = k)) = (valV kvs k).isSome
  | [] => rfl
  | p :: r => by
    rw [List.any_cons]
    by_cases e : p.1 = k
    · simp only [valV_pos e, decide_eq_true e, Bool.true_or, Option.isSome_some]
    · rw [valV_neg e, decide_eq_false e, Bool.false_or]; exact valV_any k r
theorem valV_map (k j : κ) (y : V) : ∀ kvs : List (κ × V), valV (kvs.map fun kv => if kv.1 = k then (kv.1, y) else kv) j = (valV kvs j).map fun x => if j = k then y else x
  | [] => rfl
  | p :: r => by
    have ih := valV_map k j y r
    rw [List.map_cons]
    by_cases h : p.1 = k
    · rw [if_pos h]
      by_cases e : p.1 = j
      · rw [valV_pos (p := (p.1, y)) e, valV_pos e, Option.map_some, if_pos (e.symm.trans h)]
      · rw [valV_neg (p := (p.1, y)) e, valV_neg e, ih]
    · rw [if_neg h]
      by_cases e : p.1 = j
      · rw [valV_pos (p := p) e, valV_pos e, Option.map_some, if_neg (fun z => h (e.trans z))]
      · rw [valV_neg (p := p) e, valV_neg e, ih]
theorem valV_snoc (k j : κ) (y : V) : ∀ kvs : List (κ × V), valV kvs k = none → valV (kvs ++ [(k, y)]) j = if j = k then some y else valV kvs j
  | [], _ => by
    by_cases e : k = j
    · rw [if_pos e.symm]; exact valV_pos (p := (k, y)) e
    · rw [if_neg (fun z => e z.symm)]; exact valV_neg (p := (k, y)) e
  | p :: r, hn => by
    rw [List.cons_append]
    have hk : ¬ p.1 = k := fun z => by rw [valV_pos z] at hn; cases hn
    rw [valV_neg hk] at hn
    have ih := valV_snoc k j y r hn
    by_cases e : p.1 = j
    · rw [valV_pos e, valV_pos e, if_neg (fun z => hk (e.trans z))]
    · rw [valV_neg e, valV_neg e, ih]
theorem valV_put (kvs : List (κ × V)) (k j : κ) (y : V) : valV (putK kvs k y) j = if j = k then some y else valV kvs j := by
  unfold putK
  by_cases a : (kvs.any fun kv => decide (kv.1 = k)) = true
  · rw [if_pos a, valV_map]
    rw [valV_any] at a
    by_cases e : j = k
    · obtain ⟨x, hx⟩ := Option.isSome_iff_exists.mp a
      rw [if_pos e, e, hx, Option.map_some, if_pos rfl]
    · rw [if_neg e]
      cases valV kvs j with
      | none => rfl
      | some x => rw [Option.map_some, if_neg e]
  · rw [if_neg a]
    refine valV_snoc k j y kvs ?_
    rw [valV_any] at a
    cases q : valV kvs k with
    | none => rfl
    | some x => rw [q] at a; exact (a rfl).elim
theorem length_putK (kvs : List (κ × V)) (k : κ) (v : V) : (putK kvs k v).length ≤ kvs.length + 1 := by
  unfold putK
  split
  · rw [List.length_map]; omega
  · rw [List.length_append, List.length_cons, List.length_nil]; omega
theorem putK_new {kvs : List (κ × V)} {k : κ} (v : V) (h : valV kvs k = none) : putK kvs k v = kvs ++ [(k, v)] := by
  unfold putK
  rw [valV_any, h]
  exact if_neg (by decide)

theorem RelO.isSome_eq {o : Option V} {u : Option Value} (r : RelO o u) : o.isSome = u.isSome := by
  cases o with
  | none => cases u with
    | none => rfl
    | some _ => exact (show False from r).elim
  | some _ => cases u with
    | none => exact (show False from r).elim
    | some _ => rfl
theorem KV.val {kvs : List (κ × V)} {vs : List (κ × Value)} (r : KV kvs vs) (k : κ) : RelO (valV kvs k) (valueAt vs k) := by
  unfold KV at r
  induction r with
  | nil => exact True.intro
  | @cons p q ps qs h t ih =>
    obtain ⟨h1, h2⟩ := h
    by_cases e : p.1 = k
    · have e' : q.1 = k := h1.symm.trans e
      have b : valueAt (q :: qs) k = some q.2 := by simp [valueAt, List.find?_cons, e']
      rw [valV_pos e, b]; exact h2
    · have e' : ¬ q.1 = k := fun z => e (h1.trans z)
      have b : valueAt (q :: qs) k = valueAt qs k := by simp [valueAt, List.find?_cons, e']
      rw [valV_neg e, b]; exact ih
theorem KV.any {kvs : List (κ × V)} {vs : List (κ × Value)} (r : KV kvs vs) (k : κ) : (kvs.any fun kv => decide (kv.1 = k)) = vs.any fun kv => decide (kv.1 = k) := by
  unfold KV at r
  induction r with
  | nil => rfl
  | cons h t ih => rw [List.any_cons, List.any_cons, ih, h.1]
theorem KV.repl {kvs : List (κ × V)} {vs : List (κ × Value)} (r : KV kvs vs) (k : κ) {y : V} {u : Value} (ry : RelV y u) :
    KV (kvs.map fun kv => if kv.1 = k then (kv.1, y) else kv) (vs.map fun kv => if kv.1 = k then (kv.1, u) else kv) := by
  unfold KV at r ⊢
  induction r with
  | nil => exact .nil
  | @cons p q ps qs h t ih =>
    rw [List.map_cons, List.map_cons]
    refine .cons ?_ ih
    obtain ⟨h1, h2⟩ := h
    by_cases e : p.1 = k
    · rw [if_pos e, if_pos (h1.symm.trans e)]; exact ⟨h1, ry⟩
    · rw [if_neg e, if_neg (fun z => e (h1.trans z))]; exact ⟨h1, h2⟩
theorem KV.put {kvs : List (κ × V)} {vs : List (κ × Value)} (r : KV kvs vs) (k : κ) {y : V} {u : Value} (ry : RelV y u) : KV (putK kvs k y) (stored vs k u) := by
  unfold putK stored
  rw [r.any k]
  by_cases e : (vs.any fun kv => decide (kv.1 = k)) = true
  · rw [if_pos e, if_pos e]; exact r.repl k ry
  · rw [if_neg e, if_neg e]; exact Paired.snoc r ⟨rfl, ry⟩
theorem KV.length {kvs : List (κ × V)} {vs : List (κ × Value)} (r : KV kvs vs) : kvs.length = vs.length := Paired.length r
end


theorem kV_is {P : Program} {w : World} {k : Key} {u : Value} (r : RelV (kV k) u) : (mixKind P w).is k u = true := by
  cases k with
  | inl i => obtain ⟨t, e⟩ := (show ∃ t, u = Value.int i t from r); subst e; exact mixKind_int P w i t
  | inr x => obtain ⟨t, e⟩ := (show ∃ t, u = Value.str x t from r); subst e; exact mixKind_str P w x t
theorem items_are {P : Program} {w : World} : ∀ {ks : List Key} {us : List Value}, Vals (ks.map kV) us → ItemsAre (mixKind P w) ks us
  | [], _, r => by rw [List.map_nil] at r; cases r; exact .nil
  | k :: ks, _, r => by
    rw [List.map_cons] at r
    cases r with
    | cons h t => exact .cons (kV_is h) (items_are t)

noncomputable abbrev KT (H : Hp) : List (List Key × V) → List (List Key × Addr × Value) → Prop := Paired fun p q => p.1 = q.1 ∧ H q.2.1 = some (.tup (p.1.map kV)) ∧ RelV p.2 q.2.2
theorem KT.val {H : Hp} {kvs : List (List Key × V)} {xs : List (List Key × Addr × Value)} (r : KT H kvs xs) (k : List Key) : RelO (valV kvs k) ((atKey xs k).map (·.2)) := by
  induction r with
  | nil => exact True.intro
  | @cons p q ps qs h t ih =>
    obtain ⟨h1, _, h2⟩ := h
    by_cases e : p.1 = k
    · have e' : q.1 = k := h1.symm.trans e
      have b : atKey (q :: qs) k = some q.2 := by simp [atKey, List.find?_cons, e']
      rw [valV_pos e, b]; exact h2
    · have e' : ¬ q.1 = k := fun z => e (h1.trans z)
      have b : atKey (q :: qs) k = atKey qs k := by simp [atKey, List.find?_cons, e']
      rw [valV_neg e, b]; exact ih
theorem KT.repl {H : Hp} {kvs : List (List Key × V)} {xs : List (List Key × Addr × Value)} (r : KT H kvs xs) (k : List Key) {y : V} {u : Value} (ry : RelV y u) :
    KT H (kvs.map fun kv => if kv.1 = k then (kv.1, y) else kv) (xs.map (putAt k u)) := by
  induction r with
  | nil => exact .nil
  | @cons p q ps qs h t ih =>
    rw [List.map_cons, List.map_cons]
    refine .cons ?_ ih
    obtain ⟨h1, h2, h3⟩ := h
    unfold putAt
    by_cases e : p.1 = k
    · rw [if_pos e, if_pos (h1.symm.trans e)]; exact ⟨h1, h2, ry⟩
    · rw [if_neg e, if_neg (fun z => e (h1.trans z))]; exact ⟨h1, h2, h3⟩
theorem KT.put {H : Hp} {kvs : List (List Key × V)} {xs : List (List Key × Addr × Value)} (r : KT H kvs xs) (k : List Key) {b : Addr} {y : V} {u : Value} (hb : H b = some (.tup (k.map kV))) (ry : RelV y u) :
    KT H (putK kvs k y) (storedH xs k b u) := by
  have e : (kvs.any fun kv => decide (kv.1 = k)) = (atKey xs k).isSome := by
    rw [valV_any, (r.val k).isSome_eq, Option.isSome_map]
  unfold putK storedH
  rw [e]
  by_cases q : (atKey xs k).isSome = true
  · rw [if_pos q, if_pos q]; exact r.repl k ry
  · rw [if_neg q, if_neg q]; exact Paired.snoc r ⟨rfl, hb, ry⟩
theorem KT.keeps {H H' : Hp} {kvs : List (List Key × V)} {xs : List (List Key × Addr × Value)} (r : KT H kvs xs) (ht : ∀ b ys, H b = some (.tup ys) → H' b = some (.tup ys)) : KT H' kvs xs :=
  Paired.mapP r fun _ _ z => ⟨z.1, ht _ _ z.2.1, z.2.2⟩

section
variable {P : Program} {w : World} {H : Hp} {h : Heap} {a : Addr}
theorem rd_of {u : HO} (ok : HOk P w H h) (e : Rd H a u) : ObjOk P w H h a u := e.ok ok
theorem dk_rd {kvs : List (Key × V)} (ok : HOk P w H h) (e : Rd H a (.dK kvs)) : kvs.length ≤ sizeLine ∧ (a == sysModules) = false ∧ ∃ vs, KV kvs vs ∧ h.DictOf (mixKind P w) a vs :=
  show ObjOk P w H h a (.dK kvs) from rd_of ok e
theorem dk_of {kvs : List (Key × V)} (ok : HOk P w H h) (e : H a = some (.dK kvs)) : kvs.length ≤ sizeLine ∧ (a == sysModules) = false ∧ ∃ vs, KV kvs vs ∧ h.DictOf (mixKind P w) a vs := dk_rd ok (.inl e)
theorem key_of {ks : List Key} (ok : HOk P w H h) (e : H a = some (.tup (ks.map kV))) : (tupleKind (mixKind P w)).is h ks a := by
  obtain ⟨_, its, r, o, h1, h2, n, h3⟩ := (show ObjOk P w H h a (.tup (ks.map kV)) from ok a _ e)
  exact ⟨o, its.toArray, n, h1, h2, h3, by simpa using items_are r⟩
theorem dt_rd {kvs : List (List Key × V)} (ok : HOk P w H h) (e : Rd H a (.dT kvs)) : kvs.length ≤ sizeLine ∧ (a == sysModules) = false ∧
    ∃ xs, KT H kvs xs ∧ h.DictOfH (tupleKind (mixKind P w)) a xs := by
  obtain ⟨z, y, xs, r, o, es, ep, h1, h2, h3, h4, h5⟩ := (show ObjOk P w H h a (.dT kvs) from rd_of ok e)
  refine ⟨z, y, xs, r, o, es, ep, h1, h2, h3, h4, fun x hx => ?_, h5⟩
  have all : ∀ {l : List (List Key × V)} {m : List (List Key × Addr × Value)}, KT H l m → ∀ x ∈ m, (tupleKind (mixKind P w)).is h x.1 x.2.1 := by
    intro l m q
    induction q with
    | nil => intro x hx; exact nomatch hx
    | @cons p q ps qs hq t ih =>
      intro x hx
      rcases List.mem_cons.mp hx with e | hx
      · subst e
        exact key_of ok (by rw [← hq.1]; exact hq.2.1)
      · exact ih x hx
  exact all r x hx
theorem dt_of {kvs : List (List Key × V)} (ok : HOk P w H h) (e : H a = some (.dT kvs)) : kvs.length ≤ sizeLine ∧ (a == sysModules) = false ∧
    ∃ xs, KT H kvs xs ∧ h.DictOfH (tupleKind (mixKind P w)) a xs := dt_rd ok (.inl e)
end

noncomputable def DGet (H : Hp) (a : Addr) (y : V) (r : Option V) : Prop :=
  (∃ kvs k, Rd H a (.dK kvs) ∧ y = kV k ∧ r = valV kvs k) ∨ ∃ kvs k b, Rd H a (.dT kvs) ∧ y = .ref b ∧ H b = some (.tup (k.map kV)) ∧ r = valV kvs k
noncomputable def DPut (H : Hp) (a : Addr) (y v : V) (H' : Hp) : Prop :=
  (∃ kvs k, H a = some (.dK kvs) ∧ y = kV k ∧ kvs.length < sizeLine ∧ H' = upd H a (.dK (putK kvs k v))) ∨
  ∃ kvs k b, H a = some (.dT kvs) ∧ y = .ref b ∧ H b = some (.tup (k.map kV)) ∧ kvs.length < sizeLine ∧ H' = upd H a (.dT (putK kvs k v))
theorem DGet.k {H : Hp} {a : Addr} {kvs : List (Key × V)} {k : Key} (e : H a = some (.dK kvs)) : DGet H a (kV k) (valV kvs k) := .inl ⟨kvs, k, .inl e, rfl, rfl⟩
theorem DPut.k {H : Hp} {a : Addr} {kvs : List (Key × V)} {k : Key} {v : V} (e : H a = some (.dK kvs)) (hl : kvs.length < sizeLine) : DPut H a (kV k) v (upd H a (.dK (putK kvs k v))) := .inl ⟨kvs, k, e, rfl, hl, rfl⟩
section
variable {X : Cx} {pins : List (Addr × Obj)} {σ : St} {H : Hp} {s : Shared} {a : Addr} {y v : V} {u r : Value} {o : Option V} {A : Around} {E : Value → Shared → Prop}

theorem Inv.big (I : Inv X pins σ H s) : sysModules < s.heap.objs.size := by
  have h : mainGlobals < s.heap.objs.size := (I.mod.glob.keeps I.bk).lt
  exact Nat.lt_trans (by decide) h

theorem d_in {Q : Value → Shared → Prop} (hu : A.units + 1 < cLine) (I : Inv X pins σ H s) (g : DGet H a y o) (ry : RelV y u) (h : ∀ s', Inv X pins σ H s' → Q (.bool o.isSome) s') :
    wpAny (model X.prog X.w) A (compareOp .In u (.ref a)) Q E s := by
  rcases g with ⟨kvs, k, e, ey, l⟩ | ⟨kvs, k, b, e, ey, eb, l⟩
  · subst ey
    obtain ⟨z, hd, vs, rel, dd⟩ := dk_rd I.hok e
    refine wpAny_in_of (kV_is ry) hd dd.mapOf ?_
    rw [← (rel.val k).isSome_eq, ← l]
    exact h _ (I.tok _)
  · subst ey
    cases (show u = Value.ref b from ry)
    obtain ⟨z, hd, xs, rel, dd⟩ := dt_rd I.hok e
    refine wpAny_in_heap (tupleKind_room_in1 hu) (key_of I.hok eb) hd dd ?_
    have q := (rel.val k).isSome_eq
    rw [Option.isSome_map] at q
    rw [← q, ← l]
    exact h _ (I.tok _)
theorem d_notIn {Q : Value → Shared → Prop} (hu : A.units + 1 < cLine) (I : Inv X pins σ H s) (g : DGet H a y o) (ry : RelV y u) (h : ∀ s', Inv X pins σ H s' → Q (.bool (!o.isSome)) s') :
    wpAny (model X.prog X.w) A (compareOp .NotIn u (.ref a)) Q E s := by
  rcases g with ⟨kvs, k, e, ey, l⟩ | ⟨kvs, k, b, e, ey, eb, l⟩
  · subst ey
    obtain ⟨z, hd, vs, rel, dd⟩ := dk_rd I.hok e
    refine wpAny_notIn_of (kV_is ry) hd dd.mapOf ?_
    rw [← (rel.val k).isSome_eq, ← l]
    exact h _ (I.tok _)
  · subst ey
    cases (show u = Value.ref b from ry)
    obtain ⟨z, hd, xs, rel, dd⟩ := dt_rd I.hok e
    refine wpAny_notIn_heap (tupleKind_room_in1 hu) (key_of I.hok eb) hd dd ?_
    have q := (rel.val k).isSome_eq
    rw [Option.isSome_map] at q
    rw [← q, ← l]
    exact h _ (I.tok _)
theorem d_write {h' : Heap} {t' : Nat} {ob : HO} (I : Inv X pins σ H s) (mu : Mut (H a)) (hs : Heap.SameBut a s.heap h') (he : ∃ q, h'.get? a = some q) (new : ObjOk X.prog X.w (upd H a ob) h' a ob) :
    Inv X pins σ (upd H a ob) { s with heap := h', toks := t' } :=
  I.write (x := a) (e := a) mu (.inl rfl) (fun b q hb z => (hs.2 b hb).trans z) he new
theorem dk_new {P : Program} {w : World} {H' : Hp} {h' : Heap} {kvs : List (Key × V)} {vs : List (Key × Value)} (z : kvs.length ≤ sizeLine) (hd : (a == sysModules) = false) (rel : KV kvs vs) (dd : h'.DictOf (mixKind P w) a vs) :
    ObjOk P w H' h' a (.dK kvs) := ⟨z, hd, vs, rel, dd⟩
theorem d_setItem {H' : Hp} {Q : Unit → Shared → Prop} (hu : A.units + 1 < cLine) (I : Inv X pins σ H s) (g : DPut H a y v H') (ry : RelV y u) (rv : RelV v r) (h : ∀ s', Inv X pins σ H' s' → Q () s') :
    wpAny (model X.prog X.w) A (setItem (.ref a) u r) Q E s := by
  rcases g with ⟨kvs, k, e, ey, l, eH⟩ | ⟨kvs, k, b, e, ey, eb, l, eH⟩
  · subst ey eH
    obtain ⟨z, hd, vs, rel, dd⟩ := dk_of I.hok e
    have hz : vs.length ≤ sizeLine := by rw [← rel.length]; exact z
    have hl : (putK kvs k v).length ≤ sizeLine := by have := length_putK kvs k v; omega
    refine wpAny_setItem_pairs (hsz := hz) (kV_is ry) dd fun h' dd' hs => h _ ?_
    have he : ∃ q, h'.get? a = some q := let ⟨q, _, _, hq, _⟩ := dd'; ⟨q, hq⟩
    exact d_write I (by rw [e]; exact True.intro) hs he (dk_new hl hd (rel.put k rv) dd')
  · subst ey eH
    cases (show u = Value.ref b from ry)
    obtain ⟨z, hd, xs, rel, dd⟩ := dt_of I.hok e
    have hz : xs.length ≤ sizeLine := by rw [← Paired.length rel]; exact z
    have hl : (putK kvs k v).length ≤ sizeLine := by have := length_putK kvs k v; omega
    refine wpAny_setItem_heap (hsz := hz) (tupleKind_room_in1 hu) (key_of I.hok eb) dd fun h' dd' hs => h _ ?_
    obtain ⟨q, es, ep, hq, h2, h3, h4, _, h5⟩ := dd'
    refine d_write I (by rw [e]; exact True.intro) hs ⟨q, hq⟩ ⟨hl, hd, _, (rel.put k eb rv).keeps fun c ys ec => ?_, q, es, ep, hq, h2, h3, h4, h5⟩
    rw [upd_ne (ne_of ec e (fun z => nomatch z))]
    exact ec
end



noncomputable def NoSl (i : Expr) : Prop := ∀ ov iv, subscripted i false ov iv = operate [ov, iv] (getItem ov iv)
theorem subD_of {prog : Program} {w : World} {A : Around} {E : Value → Shared → Prop} {s : Shared} {env : Env} {value slice : Expr} {pos : Pos} {T id : String} {Q : Value → Shared → Prop}
    (hl : typeLookup (.type T) "__getitem__" = pure (some (.builtin id))) (hs : NoSl slice)
    (h : wpAny (model prog w) A (eval value env) (fun o s₁ => wpAny (model prog w) A (eval slice env) (fun i s₂ => s₂.TypeIs o T ∧ wpAny (model prog w) A (getItem o i) Q E s₂) E s₁) E s) :
    wpAny (model prog w) A (eval (.Subscript value slice pos) env) Q E s := by
  refine Subscript_ (wpAny_mono h (fun o s₁ h₁ => wpAny_mono h₁ (fun i s₂ h₂ => ?_) fun _ _ x => x) fun _ _ x => x)
  obtain ⟨hT, h₂⟩ := h₂
  unfold subscriptTail
  refine wpAny_bind ?_
  rw [getitemInPython_of_ne hT.not_modules]
  refine wpAny_bind (wpAny_specialOf hT hl ?_)
  have fin : wpAny (model prog w) A (subscripted slice false o i) (fun r s₃ => wpAny (model prog w) A (letTemporaryGo value o r >>= fun _ => pure r) Q E s₃) E s₂ := by
    rw [hs o i]
    exact wpAny_operating (wpAny_mono h₂ (fun r s₃ h₃ => wpAny_bind (wpAny_letTemporaryGo (wpAny_pure h₃))) fun _ _ x => x)
  first
    | exact wpAny_pure (wpAny_bind fin)
    | exact wpAny_bind (wpAny_pure (wpAny_bind fin))
    | exact wpAny_bind fin

noncomputable def tDIn (ty td : TE) : TE := fun σ H Q => ty σ H fun y H1 => td σ H1 fun x H2 => ∃ a o, x = .ref a ∧ DGet H2 a y o ∧ Q (.bl o.isSome) H2
noncomputable def tDNotIn (ty td : TE) : TE := fun σ H Q => ty σ H fun y H1 => td σ H1 fun x H2 => ∃ a o, x = .ref a ∧ DGet H2 a y o ∧ Q (.bl (!o.isSome)) H2
noncomputable def sDPut (td ty tv : TE) : TS := fun D σ H => tv σ H fun v H1 => td σ H1 fun x H2 => ty σ H2 fun y H3 => ∃ a H4, x = .ref a ∧ DPut H3 a y v H4 ∧ D.nx σ H4
section
variable {X : Cx} {o i e value : Expr} {pos pos' tpos : Pos} {td ty tv : TE}
theorem pc_din (hu : X.A.units + 1 < cLine) (hi : PE X i ty) (ho : PE X o td) : PC X .In i o (tDIn ty td) := by
  intro pins s σ H Q I h
  refine thn (hi pins s σ H _ I h) fun iv s1 ⟨y, H1, I1, ry, q1⟩ => thn (ho pins s1 σ H1 _ I1 q1) fun u s2 ⟨x, H2, I2, rx, a, ov, ex, g, q2⟩ => ?_
  subst ex
  obtain rfl : u = Value.ref a := rx
  exact d_in hu I2 g ry fun s3 I3 => ⟨.bl ov.isSome, H2, I3, rfl, q2⟩
theorem pc_dnotin (hu : X.A.units + 1 < cLine) (hi : PE X i ty) (ho : PE X o td) : PC X .NotIn i o (tDNotIn ty td) := by
  intro pins s σ H Q I h
  refine thn (hi pins s σ H _ I h) fun iv s1 ⟨y, H1, I1, ry, q1⟩ => thn (ho pins s1 σ H1 _ I1 q1) fun u s2 ⟨x, H2, I2, rx, a, ov, ex, g, q2⟩ => ?_
  subst ex
  obtain rfl : u = Value.ref a := rx
  exact d_notIn hu I2 g ry fun s3 I3 => ⟨.bl (!ov.isSome), H2, I3, rfl, q2⟩
theorem ps_dput (hu : X.A.units + 1 < cLine) (ho : PE X o td) (hi : PE X i ty) (hv : PE X value tv) (hs : swapsWith value (some (.Subscript o i pos')) pos.line X.env = pure false) :
    PS X (.Assign [.Subscript o i pos'] value pos) (sDPut td ty tv) := by
  intro pins s σ H D I h
  refine wpAny_Assign_Subscript (thn (hv pins s σ H _ I h) fun r s1 ⟨v, H1, I1, rv, q1⟩ => thn (ho pins s1 σ H1 _ I1 q1) fun u s2 ⟨x, H2, I2, rx, q2⟩ => thn (hi pins s2 σ H2 _ I2 q2) fun iv s3 ⟨y, H3, I3, ry, a, H4, ex, g, q3⟩ => ?_) hs
  subst ex
  obtain rfl : u = Value.ref a := rx
  exact d_setItem hu I3 g ry rv fun s4 I4 => ⟨σ, H4, I4, q3⟩
end


theorem dk_empty {P : Program} {w : World} {H : Hp} (h : Heap) (hb : sysModules < h.objs.size) : ObjOk P w H (h.push { cls := .type "dict", data := .dict #[] }) h.objs.size (.dK []) :=
  ⟨Nat.zero_le _, beq_eq_false_iff_ne.mpr (Ne.symm (Nat.ne_of_lt hb)), [], .nil, Heap.DictOf.new h⟩
noncomputable def tDNewK : TE := fun _ H Q => ∀ p, H p = none → Q (.ref p) (upd H p (.dK []))
section
variable {X : Cx} {pos : Pos}
theorem pe_dnewK : PE X (.Dict [] [] pos) tDNewK := fun pins s σ H Q I h =>
  wpAny_Dict_empty ⟨.ref s.heap.objs.size, _, I.laid (a := s.heap.objs.size) (o := .dK []) (t' := s.toks) (fun _ _ q => Heap.get?_push_of_some _ q) (Nat.le_refl _) (dk_empty s.heap I.big), rfl, h _ (I.hok.fresh (Nat.le_refl _))⟩
end





end L2


namespace HT
open PySem PyProof.Rows


section
variable {prog : Program} {w : World} {A : Around} {E : Value → Shared → Prop} {s : Shared}

noncomputable def sIx (n d : Nat) : Option Int → Nat
  | none => d
  | some v => if v < 0 then (v + (n : Int)).toNat else min v.toNat n
theorem sIx_none (n d : Nat) : sIx n d none = d := rfl
theorem sIx_nat (n d k : Nat) : sIx n d (some (k : Int)) = min k n := by
  show (if (k : Int) < 0 then ((k : Int) + (n : Int)).toNat else min (k : Int).toNat n) = min k n
  rw [if_neg (by omega), Int.toNat_natCast]
end
end HT

namespace L2
open PySem PySem.Spec PyProof.Rows

noncomputable abbrev TO := St → Hp → (Option Int → Hp → Prop) → Prop
noncomputable def PO (X : Cx) (e : Option Expr) (t : TO) : Prop :=
  ∀ (pins : List (Addr × Obj)) (s : Shared) (σ : St) (H : Hp) (Q : Option Int → Hp → Prop), Inv X pins σ H s → t σ H Q →
    wpAny (model X.prog X.w) X.A (evalPart e X.env) (fun u s' => ∃ o H', Inv X pins σ H' s' ∧ IsPart u o ∧ Q o H') X.xe s
noncomputable def tNoPart : TO := fun _ H Q => Q none H
noncomputable def tPart (t : TE) : TO := fun σ H Q => t σ H fun x H1 => ∃ i, x = .int i ∧ Q (some i) H1

theorem intsAre_of {ns : List Int} : ∀ {us : List Value}, Vals (ns.map V.int) us → IntsAre us ns := by
  induction ns with
  | nil => intro us r; rw [List.map_nil] at r; cases r; exact .nil
  | cons n ns ih =>
    intro us r
    rw [List.map_cons] at r
    cases r with
    | cons r1 r2 =>
      obtain ⟨t, e⟩ := r1
      subst e
      exact .cons n t (ih r2)

section
variable {X : Cx} {e : Expr} {te : TE} {lo hi : Option Expr} {tl th : TO} {pos p2 : Pos}

theorem po_none : PO X none tNoPart := by
  intro pins s σ H Q I h
  rw [evalPart_none]
  exact wpAny_pure ⟨none, H, I, .none, h⟩
theorem po_some (h : PE X e te) : PO X (some e) (tPart te) := by
  intro pins s σ H Q I hw
  rw [evalPart_some]
  refine thn (h pins s σ H _ I hw) fun u s1 ⟨x, H1, I1, r1, q1⟩ => ?_
  obtain ⟨i, rfl, q⟩ := q1
  obtain ⟨t, rfl⟩ := r1
  exact ⟨some i, H1, I1, .int i t, q⟩

noncomputable def SlR (X : Cx) (r : V → Option Int → Option Int → Hp → VK → Prop) : Prop :=
  ∀ (pins : List (Addr × Obj)) (s : Shared) (σ : St) (H : Hp) (x : V) (v vl vu : Value) (lo hi : Option Int) (sl : Addr) (Q : VK), Inv X pins σ H s → RelV x v → s.heap.IsSliceOf sl vl vu .none → IsPart vl lo → IsPart vu hi → r x lo hi H Q →
    ∃ T id, typeLookup (.type T) "__getitem__" = pure (some (.builtin id)) ∧ s.TypeIs v T ∧ wpAny (model X.prog X.w) X.A (getItem v (.ref sl)) (EP X pins σ Q) X.xe s
noncomputable def tSl (r : V → Option Int → Option Int → Hp → VK → Prop) (te : TE) (tl th : TO) : TE := fun σ H Q => te σ H fun x H1 => tl σ H1 fun l H2 => th σ H2 fun u H3 => r x l u H3 Q
theorem pe_slice {r : V → Option Int → Option Int → Hp → VK → Prop} (hr : SlR X r) (he : PE X e te) (hl : PO X lo tl) (hu : PO X hi th) : PE X (.Subscript e (.Slice lo hi none p2) pos) (tSl r te tl th) := by
  intro pins s σ H Q I h
  refine Subscript_ (thn (he pins s σ H _ I h) fun v s1 ⟨x, H1, I1, r1, q1⟩ => ?_)
  refine wpAny_Slice (thn (hl pins s1 σ H1 _ I1 q1) fun vl s2 ⟨l, H2, I2, pl, q2⟩ => thn (hu pins s2 σ H2 _ I2 q2) fun vu s3 ⟨u, H3, I3, pu, q3⟩ => ?_)
  rw [evalPart_none]
  refine wpAny_pure ?_
  have I4 : Inv X pins σ H3 { s3 with heap := s3.heap.push { cls := .type "slice", data := .fields #[vl, vu, .none] } } := I3.kept (t' := s3.toks) fun b ob q => Heap.get?_push_of_some _ q
  obtain ⟨T, id, hT, ht, hg⟩ := hr pins { s3 with heap := s3.heap.push { cls := .type "slice", data := .fields #[vl, vu, .none] } } σ H3 x v vl vu l u s3.heap.objs.size Q I4 r1 (Heap.IsSliceOf.new ..) pl pu q3
  show wpAny (model X.prog X.w) X.A (subscriptTail e (.Slice lo hi none p2) v (.ref s3.heap.objs.size)) (EP X pins σ Q) X.xe { s3 with heap := s3.heap.push { cls := .type "slice", data := .fields #[vl, vu, .none] } }
  exact tail_any (ops := [.ref s3.heap.objs.size, v]) ht hT hg (by with_unfolding_all rfl)

noncomputable def cutV (xs : List V) (lo hi : Option Int) : List V := (xs.drop (HT.sIx xs.length 0 lo)).take (HT.sIx xs.length xs.length hi - HT.sIx xs.length 0 lo)
theorem cutV_length (xs : List V) (lo hi : Option Int) : (cutV xs lo hi).length ≤ xs.length := by
  unfold cutV
  rw [List.length_take, List.length_drop]
  omega
end
end L2

namespace L2
open PySem PySem.Spec PyProof.Rows

noncomputable def ixN (n : Nat) (i : Int) : Option Nat := if 0 ≤ i then (if i < n then some i.toNat else none) else if -(n : Int) ≤ i then some (i + n).toNat else none
noncomputable def atI {α : Type} (xs : List α) (i : Int) : Option α := (ixN xs.length i).bind fun j => xs[j]?
theorem ixN_seq {n : Nat} {i : Int} {j : Nat} (h : ixN n i = some j) : seqIndex? i n = some j ∧ j < n ∧ -(n : Int) ≤ i ∧ i < n := by
  unfold ixN at h
  by_cases h0 : 0 ≤ i
  · rw [if_pos h0] at h
    by_cases h1 : i < n
    · rw [if_pos h1] at h
      have e : i.toNat = j := Option.some.inj h
      exact ⟨by rw [seqIndex_of h0 h1, e], by omega, by omega, h1⟩
    · rw [if_neg h1] at h; cases h
  · rw [if_neg h0] at h
    by_cases h1 : -(n : Int) ≤ i
    · rw [if_pos h1] at h
      have e : (i + n).toNat = j := Option.some.inj h
      exact ⟨by rw [seqIndex_neg (by omega) h1, e], by omega, h1, by omega⟩
    · rw [if_neg h1] at h; cases h
theorem atI_get {α : Type} {xs : List α} {i : Int} {v : α} (h : atI xs i = some v) : ∃ j, seqIndex? i xs.length = some j ∧ xs[j]? = some v ∧ j < xs.length ∧ -(xs.length : Int) ≤ i ∧ i < xs.length := by
  unfold atI at h
  cases e : ixN xs.length i with
  | none => rw [e] at h; cases h
  | some j =>
    rw [e] at h
    obtain ⟨h1, h2, h3, h4⟩ := ixN_seq e
    exact ⟨j, h1, h, h2, h3, h4⟩
theorem atI_nat {α : Type} {xs : List α} {j : Nat} {v : α} (h : xs[j]? = some v) : atI xs (j : Int) = some v := by
  have hj : j < xs.length := (List.getElem?_eq_some_iff.mp h).1
  have e : ixN xs.length (j : Int) = some j := by
    unfold ixN
    rw [if_pos (by omega), if_pos (by omega)]; simp
  unfold atI; rw [e]; exact h
theorem atI_last {α : Type} (xs : List α) (v : α) : atI (xs ++ [v]) (-1) = some v := by
  have hl : (xs ++ [v]).length = xs.length + 1 := by simp
  have e : ixN (xs ++ [v]).length (-1) = some xs.length := by
    unfold ixN
    rw [hl, if_neg (by decide), if_pos (by omega)]
    congr 1
    omega
  unfold atI
  rw [e]
  show (xs ++ [v])[xs.length]? = some v
  simp

noncomputable def PlainIx (b : Expr) : Prop := ∀ o i, subscripted b false o i = operate [o, i] (getItem o i)
noncomputable def IxR (X : Cx) (r : R2) : Prop :=
  ∀ (value slice : Expr) (pins : List (Addr × Obj)) (s : Shared) (σ : St) (H : Hp) (x y : V) (v u : Value) (Q : VK), Inv X pins σ H s → RelV x v → RelV y u → r x y H Q →
    subscripted slice false v u = operate [v, u] (getItem v u) → wpAny (model X.prog X.w) X.A (subscriptTail value slice v u) (EP X pins σ Q) X.xe s
noncomputable def MtR (X : Cx) (id : String) (r : V → List V → Hp → VK → Prop) : Prop :=
  ∀ (pins : List (Addr × Obj)) (s : Shared) (σ : St) (H : Hp) (x : V) (xs : List V) (v : Value) (us : List Value) (Q : VK), Inv X pins σ H s → RelV x v → Vals xs us → r x xs H Q →
    wpAny (model X.prog X.w) X.A (call (.builtin id) (v :: us)) (EP X pins σ Q) X.xe s
section
variable {X : Cx} {a b : Expr} {ta tb : TE} {pos : Pos}
theorem pe_ix {r : R2} (hr : IxR X r) (ha : PE X a ta) (hb : PE X b tb) (hs : PlainIx b) : PE X (.Subscript a b pos) (tOp r ta tb) := by
  intro pins s σ H Q I h
  exact Subscript_ (binT ha hb I h fun v u s2 x y H2 I2 rx ry q => hr a b pins s2 σ H2 x y v u Q I2 rx ry q (hs _ _))

noncomputable def rIxL (K : PySem.W.Frag) : R2 := fun x y H Q => ∃ p xs i v, x = .ref p ∧ y = .int i ∧ SqL K H p xs ∧ atI xs i = some v ∧ Q v H
noncomputable def rIxT (K : PySem.W.Frag) : R2 := fun x y H Q => ∃ p xs i v, x = .ref p ∧ y = .int i ∧ SqT K H p xs ∧ atI xs i = some v ∧ Q v H
theorem ix_list : IxR X (rIxL X.K) := by
  intro value slice pins s σ H x y v u Q I rx ry h hs
  obtain ⟨p, xs, i, z, rfl, rfl, hq, he, q⟩ := h
  cases rx
  obtain ⟨t, rfl⟩ := ry
  obtain ⟨its, r, pl, hz⟩ := I.list hq
  obtain ⟨j, h1, h2, h3, h4, h5⟩ := atI_get he
  obtain ⟨w, ew, rw'⟩ := r.get h2
  have hl := r.length
  have hn := line63
  have fin : EP X pins σ Q w s := ⟨z, H, I, rw', q⟩
  by_cases h0 : 0 ≤ i
  · have hj : i.toNat = j := by
      rw [seqIndex_of h0 h5] at h1
      exact Option.some.inj h1
    exact item_listR pl.isList h0 (by omega) (by rw [hj]; simpa using ew) fin hs
  · have hj : (i + (its.toArray.size : Int)).toNat = j := by
      rw [seqIndex_neg (by omega) h4] at h1
      rw [List.size_toArray, ← hl]
      exact Option.some.inj h1
    exact subscriptTail_builtinR (x := w) pl.isList.typeIs slot_list_getitem.lookup
      (wpAny_getItem_list_neg (Q := fun r s' => r = w ∧ EP X pins σ Q r s') pl.isList (by omega) (by rw [List.size_toArray] <;> omega) (by omega) (by rw [hj]; simpa using ew) ⟨rfl, fin⟩) hs
theorem ix_tup : IxR X (rIxT X.K) := by
  intro value slice pins s σ H x y v u Q I rx ry h hs
  obtain ⟨p, xs, i, z, rfl, rfl, hq, he, q⟩ := h
  cases rx
  obtain ⟨t, rfl⟩ := ry
  obtain ⟨its, r, pl, hz⟩ := I.tuple hq
  obtain ⟨j, h1, h2, h3, h4, h5⟩ := atI_get he
  obtain ⟨w, ew, rw'⟩ := r.get h2
  have hl := r.length
  have hn := line63
  have fin : EP X pins σ Q w s := ⟨z, H, I, rw', q⟩
  exact subscriptTail_builtinR (x := w) pl.typeIs slot_tuple_getitem.lookup
    (getItem_tuple (j := j) (Q := fun r s' => r = w ∧ EP X pins σ Q r s') pl (by omega) (by omega) (by rw [List.size_toArray, ← hl]; exact h1) (by simpa using ew) ⟨rfl, fin⟩) hs
theorem mapSeq_set (its : List Value) (n j : Nat) (u : Value) : Obj.mapSeq (·.setIfInBounds j u) { cls := .type "list", data := .seq its.toArray n } = { cls := .type "list", data := .seq (its.set j u).toArray n } := by
  simp [Obj.mapSeq]
theorem Inv.lst {pins : List (Addr × Obj)} {σ : St} {H : Hp} {s : Shared} {p : Addr} {xs : List V} (I : Inv X pins σ H s) (h : H p = some (.lst xs)) :
    ∃ (its : List Value) (n : Nat), Vals xs its ∧ s.heap.get? p = some { cls := .type "list", data := .seq its.toArray n } ∧ xs.length ≤ sizeLine := by
  obtain ⟨z, its, n, r, e⟩ := I.hok p _ h
  exact ⟨its, n, r, e, z⟩
theorem Inv.lstUpd {pins : List (Addr × Obj)} {σ : St} {H : Hp} {s : Shared} {p : Addr} {xs ys : List V} {its its' : List Value} {n n' : Nat} {f : Obj → Obj} (I : Inv X pins σ H s) (h : H p = some (.lst xs))
    (ho : s.heap.get? p = some { cls := .type "list", data := .seq its.toArray n }) (hf : f { cls := .type "list", data := .seq its.toArray n } = { cls := .type "list", data := .seq its'.toArray n' }) (r : Vals ys its') (hz : ys.length ≤ sizeLine) (t : Nat) :
    Inv X pins σ (upd H p (.lst ys)) { s with heap := s.heap.update p f, toks := t } := by
  have e : (s.heap.update p f).get? p = some { cls := .type "list", data := .seq its'.toArray n' } := by
    rw [Heap.get?_update_self f ho (by rw [hf] <;> rfl), hf]
  refine I.write (x := p) (e := p) (by rw [h]; trivial) (.inl rfl) (fun b u hb q => (Heap.get?_update_other _ _ (Ne.symm hb)).trans q) ⟨_, e⟩ ?_
  exact ⟨hz, its', n', r, e⟩
noncomputable def rSetL : V → V → V → Hp → (Hp → Prop) → Prop := fun o i v H Q => ∃ p xs k j, o = .ref p ∧ i = .int k ∧ H p = some (.lst xs) ∧ ixN xs.length k = some j ∧ Q (upd H p (.lst (xs.set j v)))
theorem set_list : PSet X rSetL := by
  intro pins s σ H o i v ov iv u Q I ro ri rv h
  obtain ⟨p, xs, k, j, rfl, rfl, hp, hj, q⟩ := h
  cases ro
  obtain ⟨t, rfl⟩ := ri
  obtain ⟨its, n, r, ho, hz⟩ := I.lst hp
  obtain ⟨h1, h2, h3, h4⟩ := ixN_seq hj
  have hl := r.length
  have hn := line63
  have I' : Inv X pins σ (upd H p (.lst (xs.set j v))) { s with heap := s.heap.update p (Obj.mapSeq (·.setIfInBounds j u)) } :=
    I.lstUpd hp ho (mapSeq_set its n j u) (r.set rv j) (by rw [List.length_set]; exact hz) s.toks
  by_cases h0 : 0 ≤ k
  · have hk : k.toNat = j := by
      rw [seqIndex_of h0 h4] at h1
      exact Option.some.inj h1
    exact PySem.W.ki_setAt ho h0 (by omega) (by rw [List.size_toArray, ← hl]; exact h4) (by rw [hk]; exact ⟨_, I', q⟩)
  · have hk : (k + (its.toArray.size : Int)).toNat = j := by
      rw [seqIndex_neg (by omega) h3] at h1
      rw [List.size_toArray, ← hl]
      exact Option.some.inj h1
    exact PySem.W.ki_setBack ho (by omega) (by rw [List.size_toArray, ← hl]; exact h3) (by omega) (by rw [hk]; exact ⟨_, I', q⟩)

theorem slice_bounds (lo hi : Option Int) (n : Nat) : (sliceBounds lo hi none n).1 = ((HT.sIx n 0 lo : Nat) : Int) ∧ (sliceBounds lo hi none n).2.1 = ((HT.sIx n n hi : Nat) : Int) ∧ (sliceBounds lo hi none n).2.2 = 1 := by
  refine ⟨?_, ?_, rfl⟩
  · cases lo with
    | none => simp [sliceBounds, HT.sIx]
    | some i =>
      simp only [sliceBounds, HT.sIx, Option.getD_none, show (1 : Int) > 0 by decide, if_true]
      by_cases h : i < 0
      · simp only [h, if_true] <;> omega
      · simp only [h, if_false] <;> omega
  · cases hi with
    | none => simp [sliceBounds, HT.sIx]
    | some i =>
      simp only [sliceBounds, HT.sIx, Option.getD_none, show (1 : Int) > 0 by decide, if_true]
      by_cases h : i < 0
      · simp only [h, if_true] <;> omega
      · simp only [h, if_false] <;> omega
theorem slicePick_cut (its : List Value) (lo hi : Option Int) : slicePick its.toArray lo hi none = ((its.drop (HT.sIx its.length 0 lo)).take (HT.sIx its.length its.length hi - HT.sIx its.length 0 lo)).toArray := by
  obtain ⟨h1, h2, h3⟩ := slice_bounds lo hi its.toArray.size
  unfold slicePick
  rw [h1, h2, h3]
  simp only [sliceRange_one, pick_run, List.size_toArray] <;> rfl
noncomputable def rSlL (K : PySem.W.Frag) : V → Option Int → Option Int → Hp → VK → Prop := fun x lo hi H Q => ∃ a xs, x = .ref a ∧ SqL K H a xs ∧ ∀ p, H p = none → Q (.ref p) (upd H p (.lst (cutV xs lo hi)))
theorem sl_list : SlR X (rSlL X.K) := by
  intro pins s σ H x v vl vu lo hi sl Q I rx hs pl pu h
  obtain ⟨a, xs, rfl, hx, q⟩ := h
  cases rx
  obtain ⟨its, r, ht, hz⟩ := I.list hx
  have hlen := r.length
  refine ⟨"list", _, slot_list_getitem.lookup, ht.isList.typeIs, ?_⟩
  refine wpAny_getItem_list_slice ht.isList hs pl pu .none (by simp) ?_ (by rw [List.size_toArray] <;> omega)
  rw [slicePick_cut, ← hlen]
  refine ⟨.ref s.heap.objs.size, _, I.laid (t' := s.toks) (o := .lst (cutV xs lo hi)) (fun b ob q => Heap.get?_push_of_some _ q) (Nat.le_refl _) ?_, rfl, q _ (I.hok.fresh (Nat.le_refl _))⟩
  exact ⟨Nat.le_trans (cutV_length xs lo hi) hz, _, 0, (r.drop (HT.sIx xs.length 0 lo)).take (HT.sIx xs.length xs.length hi - HT.sIx xs.length 0 lo), Heap.get?_push_size _ rfl⟩

noncomputable def flatV : V → Bool
  | .non => true
  | .bl _ => true
  | .int _ => true
  | .str _ => true
  | _ => false
noncomputable def eqV : V → V → Bool
  | .non, .non => true
  | .bl a, .bl b => a == b
  | .bl a, .int b => (if a then 1 else 0) == b
  | .int a, .bl b => a == (if b then 1 else 0)
  | .int a, .int b => a == b
  | .str a, .str b => a == b
  | _, _ => false
theorem eqAt_V {A : Around} {s : Shared} {y x : V} {u v : Value} (ry : RelV y u) (rx : RelV x v) (fy : flatV y = true) (fx : flatV x = true) : SeqAt.EqAt A s u v (eqV y x) := by
  cases y with
  | non =>
    cases ry
    cases x with
    | non => cases rx; exact SeqAt.EqAt.same _
    | bl b => cases rx; exact SeqAt.EqAt.none_bool b
    | int b => obtain ⟨t, rfl⟩ := rx; exact SeqAt.EqAt.none_int b t
    | str b => obtain ⟨t, rfl⟩ := rx; exact SeqAt.EqAt.none_str b t
    | _ => exact absurd (show false = true from fx) Bool.false_ne_true
  | bl a =>
    cases ry
    cases x with
    | non => cases rx; exact SeqAt.EqAt.bool_none a
    | bl b => cases rx; exact SeqAt.EqAt.bool_bool a b
    | int b => obtain ⟨t, rfl⟩ := rx; exact SeqAt.EqAt.bool_int a b t
    | str b => obtain ⟨t, rfl⟩ := rx; exact SeqAt.EqAt.bool_str a b t
    | _ => exact absurd (show false = true from fx) Bool.false_ne_true
  | int a =>
    obtain ⟨t', rfl⟩ := ry
    cases x with
    | non => cases rx; exact SeqAt.EqAt.int_none a t'
    | bl b => cases rx; exact SeqAt.EqAt.int_bool a t' b
    | int b => obtain ⟨t, rfl⟩ := rx; exact SeqAt.EqAt.int_int a t' b t
    | str b => obtain ⟨t, rfl⟩ := rx; exact SeqAt.EqAt.int_str a t' b t
    | _ => exact absurd (show false = true from fx) Bool.false_ne_true
  | str a =>
    obtain ⟨t', rfl⟩ := ry
    cases x with
    | non => cases rx; exact SeqAt.EqAt.str_none a t'
    | bl b => cases rx; exact SeqAt.EqAt.str_bool a t' b
    | int b => obtain ⟨t, rfl⟩ := rx; exact SeqAt.EqAt.str_int a t' b t
    | str b => obtain ⟨t, rfl⟩ := rx; exact SeqAt.EqAt.str_str a t' b t
    | _ => exact absurd (show false = true from fx) Bool.false_ne_true
  | _ => exact absurd (show false = true from fy) Bool.false_ne_true
noncomputable def eqU (x : V) (u : Value) : Bool := match u with
  | .none => eqV .non x
  | .bool b => eqV (.bl b) x
  | .int i _ => eqV (.int i) x
  | .str z _ => eqV (.str z) x
  | _ => false
theorem eqU_of {x y : V} {u : Value} (r : RelV y u) (f : flatV y = true) : eqU x u = eqV y x := by
  cases y with
  | non => cases r; rfl
  | bl b => cases r; rfl
  | int i => obtain ⟨t, rfl⟩ := r; rfl
  | str z => obtain ⟨t, rfl⟩ := r; rfl
  | _ => exact absurd (show false = true from f) Bool.false_ne_true
theorem any_eqU {x : V} : ∀ {xs : List V} {us : List Value}, Vals xs us → xs.all flatV = true → us.any (eqU x) = xs.any fun y => eqV y x
  | _, _, .nil, _ => rfl
  | y :: xs, u :: us, .cons r t, f => by
    rw [List.all_cons, Bool.and_eq_true] at f
    rw [List.any_cons, List.any_cons, eqU_of r f.1, any_eqU t f.2]
theorem mem_eqAt {A : Around} {s : Shared} {x : V} {v : Value} (rx : RelV x v) (fx : flatV x = true) : ∀ {xs : List V} {us : List Value}, Vals xs us → xs.all flatV = true → ∀ u ∈ us, SeqAt.EqAt A s u v (eqU x u)
  | _, _, .nil, _ => fun u hu => by cases hu
  | y :: xs, u :: us, .cons r t, f => fun u' hu => by
    rw [List.all_cons, Bool.and_eq_true] at f
    rcases List.mem_cons.mp hu with rfl | hu
    · rw [eqU_of r f.1]; exact eqAt_V r rx f.1 fx
    · exact mem_eqAt rx fx t f.2 u' hu
noncomputable def inV (x : V) (xs : List V) : Bool := xs.any fun y => eqV y x
noncomputable def rIn (K : PySem.W.Frag) (neg : Bool) : R2 := fun x y H Q => ∃ p xs, y = .ref p ∧ (SqL K H p xs ∨ SqT K H p xs) ∧ flatV x = true ∧ xs.all flatV = true ∧ Q (.bl (if neg then !inV x xs else inV x xs)) H
theorem op_notIn_seq : OpR X (compareOp .NotIn) (rIn X.K true) := by
  intro pins s σ H x y v u Q I rx ry h
  obtain ⟨p, xs, rfl, hq, fx, fs, q⟩ := h
  cases ry
  rcases hq with hq | hq
  · obtain ⟨its, r, pl, hz⟩ := I.list hq
    refine SeqAt.notIn_listAt (eqU x) pl.isList (fun w hw => mem_eqAt rx fx r fs w (by simpa using hw)) ⟨.bl _, H, I, rfl, ?_⟩
    rw [show its.toArray.any (eqU x) = its.any (eqU x) by simp, any_eqU r fs]
    exact q
  · obtain ⟨its, r, pl, hz⟩ := I.tuple hq
    refine SeqAt.notIn_tupleAt (eqU x) pl (fun w hw => mem_eqAt rx fx r fs w (by simpa using hw)) ⟨.bl _, H, I, rfl, ?_⟩
    rw [show its.toArray.any (eqU x) = its.any (eqU x) by simp, any_eqU r fs]
    exact q
theorem call_len_seq : CallR X (.builtin "len") (fun xs H Q => ∃ p ys, xs = [.ref p] ∧ (SqL X.K H p ys ∨ SqT X.K H p ys) ∧ Q (.int ys.length) H) := by
  intro pins s σ H xs us Q I r h
  obtain ⟨p, ys, rfl, hq, q⟩ := h
  obtain ⟨u, rfl, rx⟩ := vals1 r
  cases rx
  have hn := line63
  rcases hq with hq | hq
  · obtain ⟨its, r', pl, hz⟩ := I.list hq
    have hlen := r'.length
    exact Calls.call_len_list pl.isList (by simp only [List.size_toArray] <;> omega) ⟨.int ys.length, H, I.tok _, ⟨s.toks + 1, by rw [List.size_toArray, hlen]⟩, q⟩
  · obtain ⟨its, r', pl, hz⟩ := I.tuple hq
    have hlen := r'.length
    exact len_tuple pl (by simp only [List.size_toArray] <;> omega) ⟨.int ys.length, H, I.tok _, ⟨s.toks + 1, by rw [List.size_toArray, hlen]⟩, q⟩
theorem call_len_str : CallR X (.builtin "len") (fun xs H Q => ∃ z, xs = [.str z] ∧ z.length ≤ sizeLine ∧ Q (.int z.length) H) := by
  intro pins s σ H xs us Q I r h
  obtain ⟨z, rfl, hz, q⟩ := h
  obtain ⟨u, rfl, t, rfl⟩ := vals1 r
  have hn := line63
  exact len_str (by omega) ⟨.int z.length, H, I.tok _, ⟨_, rfl⟩, q⟩
theorem call_list_of : CallR X (.type "list") (fun xs H Q => ∃ p ys, xs = [.ref p] ∧ (SqL X.K H p ys ∨ SqT X.K H p ys) ∧ ∀ l, H l = none → Q (.ref l) (upd H l (.lst ys))) := by
  intro pins s σ H xs us Q I r h
  obtain ⟨p, ys, rfl, hq, q⟩ := h
  obtain ⟨u, rfl, rx⟩ := vals1 r
  cases rx
  have fin : ∀ (its : List Value), Vals ys its → ys.length ≤ sizeLine → ∀ (h' : Heap) (c' : Nat), (∀ b o', s.heap.get? b = some o' → h'.get? b = some o') →
      h'.get? s.heap.objs.size = some { cls := .type "list", dict := none, data := .seq its.toArray c', slots := #[] } → EP X pins σ Q (.ref s.heap.objs.size) { s with heap := h' } := fun its r' hz h' c' kp e =>
    ⟨.ref s.heap.objs.size, _, I.laid (t' := s.toks) kp (Nat.le_refl _) (show ObjOk X.prog X.w _ h' _ (.lst ys) from ⟨hz, its, c', r', e⟩), rfl, q _ (I.hok.fresh (Nat.le_refl _))⟩
  rcases hq with hq | hq
  · obtain ⟨its, r', pl, hz⟩ := I.list hq
    have hlen := r'.length
    obtain ⟨o, ho, hc, n, hd⟩ := pl.isList
    exact call_list_seq p (.inl rfl) ho hc hd (fun h' c' kp e => fin its r' hz h' c' kp e) (by simp only [List.size_toArray] <;> omega)
  · obtain ⟨its, r', pl, hz⟩ := I.tuple hq
    have hlen := r'.length
    obtain ⟨o, ho, hc, n, hd⟩ := pl
    exact call_list_seq p (.inr rfl) ho hc hd (fun h' c' kp e => fin its r' hz h' c' kp e) (by simp only [List.size_toArray] <;> omega)
theorem call_tuple_of : CallR X (.type "tuple") (fun xs H Q => ∃ p ys, xs = [.ref p] ∧ ((SqL X.K H p ys ∧ ∀ l, H l = none → Q (.ref l) (upd H l (.tup ys))) ∨ (SqT X.K H p ys ∧ Q (.ref p) H))) := by
  intro pins s σ H xs us Q I r h
  obtain ⟨p, ys, rfl, h⟩ := h
  obtain ⟨u, rfl, rx⟩ := vals1 r
  cases rx
  rcases h with ⟨hq, q⟩ | ⟨hq, q⟩
  · obtain ⟨its, r', pl, hz⟩ := I.list hq
    have hlen := r'.length
    refine call_tuple_list pl.isList (fun h' kp => ?_) (by simp only [List.size_toArray] <;> omega)
    have I1 : Inv X pins σ H { s with heap := h' } := I.kept (t' := s.toks) kp
    have I2 : Inv X pins σ (upd H h'.objs.size (.tup ys)) { s with heap := h'.push { cls := .type "tuple", data := .seq its.toArray } } :=
      I1.laid (t' := s.toks) (fun b o e => Heap.get?_push_of_some _ e) (Nat.le_refl _) (show ObjOk X.prog X.w _ _ _ (.tup ys) from ⟨hz, its, r', IsTup.new _ _⟩)
    exact ⟨.ref h'.objs.size, _, I2, rfl, q _ (I1.hok.fresh (Nat.le_refl _))⟩
  · obtain ⟨its, r', pl, hz⟩ := I.tuple hq
    exact call_tuple_same pl ⟨.ref p, H, I, rfl, q⟩

noncomputable def tyV (K : PySem.W.Frag) (T : String) (x : V) (H : Hp) : Prop := match x with
  | .str _ => T = "str"
  | .int _ => T = "int"
  | .ref p => (T = "list" ∧ ∃ xs, SqL K H p xs) ∨ (T = "tuple" ∧ ∃ o, K.lookup p = some o ∧ o.cls = .type "tuple" ∧ o.dict = none) ∨
      (T = "dict" ∧ ((∃ kvs, H p = some (.dK kvs)) ∨ ∃ kvs, H p = some (.dT kvs))) ∨ (T = "set" ∧ ∃ S n, H p = some (.set S n))
  | _ => False
theorem tyV_is {pins : List (Addr × Obj)} {σ : St} {H : Hp} {s : Shared} {T : String} {x : V} {v : Value} (I : Inv X pins σ H s) (r : RelV x v) (ty : tyV X.K T x H) :
    s.TypeIs v T ∧ ∀ a, v = .ref a → ∃ ob, s.heap.get? a = some ob ∧ ob.dict = none := by
  cases x with
  | str z =>
    obtain ⟨t, rfl⟩ := r
    cases (show T = "str" from ty)
    exact ⟨typeIs_str s z t, fun _ e => nomatch e⟩
  | int i =>
    obtain ⟨t, rfl⟩ := r
    cases (show T = "int" from ty)
    exact ⟨typeIs_int s i t, fun _ e => nomatch e⟩
  | ref p =>
    cases r
    rcases ty with ⟨rfl, xs, hq⟩ | ⟨rfl, o, hk, hc, hd⟩ | ⟨rfl, hk⟩ | ⟨rfl, S, n, hk⟩
    · obtain ⟨its, _, pl, _⟩ := I.list hq
      refine ⟨pl.isList.typeIs, fun a e => ?_⟩
      cases e
      obtain ⟨o, n, e, c, hd, _⟩ := pl
      exact ⟨o, e, hd⟩
    · refine ⟨⟨o, I.kIn p o hk, hc⟩, fun a e => ?_⟩
      cases e
      exact ⟨o, I.kIn _ o hk, hd⟩
    · have z : ∃ o, s.heap.get? p = some o ∧ o.ExactDict := by
        rcases hk with ⟨kvs, hk⟩ | ⟨kvs, hk⟩
        · obtain ⟨_, _, _, _, o, _, _, e, ex, _⟩ := I.hok p _ hk
          exact ⟨o, e, ex⟩
        · obtain ⟨_, _, _, _, o, _, _, e, ex, _⟩ := I.hok p _ hk
          exact ⟨o, e, ex⟩
      obtain ⟨o, e, ex⟩ := z
      refine ⟨⟨o, e, ex.1⟩, fun a e2 => ?_⟩
      cases e2
      exact ⟨o, e, ex.2.1⟩
    · obtain ⟨o, _, _, _, e, ex, _⟩ := I.hok p _ hk
      refine ⟨⟨o, e, ex.1⟩, fun a e2 => ?_⟩
      cases e2
      exact ⟨o, e, ex.2.1⟩
  | _ => exact False.elim ty
noncomputable def tBM (K : PySem.W.Frag) (T : String) (r : V → List V → Hp → VK → Prop) (to : TE) (t : TA) : TE := fun σ H Q => to σ H fun x H1 => tyV K T x H1 ∧ t σ H1 fun xs H2 => r x xs H2 Q
variable {o e : Expr} {es : List Expr} {to : TE} {t : TA} {name : Str} {apos cpos : Pos} {T id : String} {r : V → List V → Hp → VK → Prop}
theorem pe_bm (pa : PlainAttrs T) (slot : Slot T name id) (hty : typeOf (.builtin id) = pure (.type "method_descriptor")) (hm : MtR X id r) (ho : PE X o to) (ha : PA X (e :: es) t)
    (hbase : attributeBase o name X.env (eval o X.env) = eval o X.env := by rfl)
    (hfew : ((backTo cpos (starEach (e :: es) X.env)).all (fun x => !x.1) && (backToKw cpos (keywordEach [] X.env)).all (fun x => x.1.isSome)
      && decide ((e :: es).length + ([] : List Keyword).length + (if ([] : List Keyword).isEmpty then 0 else 1) < 30)) = true := by rfl)
    (hline : (apos.endLine == cpos.line) = true := by rfl) (hs : starEach (e :: es) X.env = (false, eval e X.env) :: starEach es X.env := by rfl) (hplain : (backTo cpos (starEach es X.env)).any (·.1) = false := by rfl) :
    PE X (.Call (.Attribute o name apos) (e :: es) [] cpos) (tBM X.K T r to t) := by
  intro pins s σ H Q I h
  refine wpAny_Call_method_late hbase hfew hline rfl (thn (ho pins s σ H _ I h) fun v s1 ⟨x, H1, I1, r1, ty, q1⟩ => ?_)
  obtain ⟨h1, h2⟩ := tyV_is I1 r1 ty
  refine ⟨T, id, pa, slot, hty, h1, h2, ?_⟩
  have hA := ha cpos pins s1 σ H1 _ I1 q1
  rw [hs] at hA ⊢
  refine Calls.callWith_builtin (by show (false || (backTo cpos (starEach es X.env)).any (·.1)) = false; rw [hplain] <;> rfl) (Calls.evalArgs_plain ?_)
  exact thn hA fun us s2 ⟨vs, H2, I2, r2, q2⟩ => hm pins s2 σ H2 x vs v us Q I2 r1 r2 q2
/- xs.append(e), list.index on a module's tuple .. are MtR facts of 06m -/
end
end L2

namespace L2
open PySem PySem.Spec PyProof.Rows

noncomputable def MtM (X : Cx) (id : String) (r : V → List V → Hp → VK → Prop) : Prop :=
  ∀ (pins : List (Addr × Obj)) (s : Shared) (σ : St) (H : Hp) (x : V) (xs : List V) (v : Value) (us : List Value) (Q : VK), Inv X pins σ H s → RelV x v → Vals xs us → r x xs H Q →
    wpAny (model X.prog X.w) X.A (call (.builtin id) (v :: us)) (EP X pins σ Q) X.xe s

theorem Vals.one : ∀ {x : V} {us : List Value}, Vals [x] us → ∃ u, us = [u] ∧ RelV x u
  | _, _, .cons r .nil => ⟨_, rfl, r⟩
theorem Vals.two : ∀ {x y : V} {us : List Value}, Vals [x, y] us → ∃ u v, us = [u, v] ∧ RelV x u ∧ RelV y v
  | _, _, _, .cons r (.cons q .nil) => ⟨_, _, rfl, r, q⟩
theorem Vals.eraseIdx : ∀ {xs : List V} {us : List Value} (i : Nat), Vals xs us → Vals (xs.eraseIdx i) (us.eraseIdx i)
  | _, _, _, .nil => .nil
  | _, _, 0, .cons _ t => t
  | _, _, i + 1, .cons r t => .cons r (Vals.eraseIdx i t)
theorem len_erase {α : Type} : ∀ (l : List α) (i : Nat), (l.eraseIdx i).length ≤ l.length
  | [], _ => Nat.le_refl _
  | _ :: _, 0 => Nat.le_succ _
  | _ :: r, i + 1 => Nat.succ_le_succ (len_erase r i)
section
variable {X : Cx} {pins : List (Addr × Obj)} {σ : St} {H : Hp} {s : Shared} {l b : Addr} {xs ys zs : List V}

theorem Inv.lset {its its' : List Value} {n : Nat} {f : Array Value → Array Value} {t' : Nat} (I : Inv X pins σ H s) (hH : H l = some (.lst xs))
    (e : s.heap.get? l = some { cls := .type "list", data := .seq its.toArray n }) (hf : f its.toArray = its'.toArray) (hv : Vals ys its') (hz : ys.length ≤ sizeLine) :
    Inv X pins σ (upd H l (.lst ys)) { s with heap := s.heap.update l (Obj.mapSeq f), toks := t' } := by
  have q := PySem.IsL.update e f
  rw [hf] at q
  refine I.write (x := l) (e := l) (by rw [hH]; exact trivial) (.inl rfl) (fun b' u hb hu => (Heap.get?_update_other s.heap (Obj.mapSeq f) (Ne.symm hb)).trans hu) ⟨_, q⟩ ?_
  exact ⟨hz, its', _, hv, q⟩
theorem Inv.lnew {its : List Value} {t' : Nat} (I : Inv X pins σ H s) (hv : Vals ys its) (hz : ys.length ≤ sizeLine) :
    Inv X pins σ (upd H s.heap.objs.size (.lst ys)) { s with heap := s.heap.push { cls := .type "list", data := .seq its.toArray }, toks := t' } :=
  I.laid (fun _ _ q => Heap.get?_push_of_some _ q) (Nat.le_refl _) ⟨hz, its, 0, hv, Heap.get?_push_size _ rfl⟩
theorem Inv.fresh (I : Inv X pins σ H s) : H s.heap.objs.size = none := I.hok.fresh (Nat.le_refl _)
theorem Inv.lstM (I : Inv X pins σ H s) (hH : H l = some (.lst xs)) : xs.length ≤ sizeLine ∧ ∃ (its : List Value) (n : Nat), Vals xs its ∧ xs.length = its.length ∧ s.heap.get? l = some { cls := .type "list", data := .seq its.toArray n } := by
  obtain ⟨z, its, n, r, e⟩ := I.hok l _ hH
  exact ⟨z, its, n, r, r.length, e⟩

theorem notLongL {n : Nat} (h : n ≤ sizeLine) : Builtin.List.listTooLong n = false := by
  unfold Builtin.List.listTooLong
  exact decide_eq_false (by omega)
end

section
variable {X : Cx}

noncomputable def rAppend : V → List V → Hp → VK → Prop := fun x vs H Q => ∃ l xs y, x = .ref l ∧ vs = [y] ∧ H l = some (.lst xs) ∧ xs.length < sizeLine ∧ Q .non (upd H l (.lst (xs ++ [y])))
theorem mt_append : MtM X "list.append" rAppend := by
  intro pins s σ H x vs v us Q I rx rv h
  obtain ⟨l, xs, y, rfl, rfl, hH, hz, q⟩ := h
  cases rx
  obtain ⟨u, rfl, ru⟩ := rv.one
  obtain ⟨z, its, n, r, hl, e⟩ := I.lstM hH
  refine call_meets F.slot_list_append ⟨_, e, rfl⟩ F.entry_list_append (F.args_list_append_2 _ _) (PySem.list_append l its.toArray n u (by rw [List.size_toArray]; omega)) ⟨e, ?_⟩
  refine ⟨.non, _, I.lset (its' := its ++ [u]) hH e (by simp) (r.append (.cons ru .nil)) ?_, rfl, q⟩
  rw [List.length_append, List.length_singleton]
  omega

noncomputable def rExtend : V → List V → Hp → VK → Prop := fun x vs H Q => ∃ l b xs zs, x = .ref l ∧ vs = [.ref b] ∧ H l = some (.lst xs) ∧ H b = some (.lst zs) ∧ xs.length + zs.length ≤ sizeLine ∧ Q .non (upd H l (.lst (xs ++ zs)))
theorem mt_extend : MtM X "list.extend" rExtend := by
  intro pins s σ H x vs v us Q I rx rv h
  obtain ⟨l, b, xs, zs, rfl, rfl, hH, hB, hz, q⟩ := h
  cases rx
  obtain ⟨u, rfl, ru⟩ := rv.one
  cases ru
  obtain ⟨z, its, n, r, hl, e⟩ := I.lstM hH
  obtain ⟨z2, its2, n2, r2, hl2, e2⟩ := I.lstM hB
  have hsz : its.toArray.size + its2.toArray.size ≤ sizeLine := by rw [List.size_toArray, List.size_toArray]; omega
  have hlong : ¬ (!its.toArray.isEmpty && Builtin.List.listTooLong (its.toArray.size + its2.toArray.size)) = true := by
    rw [notLongL hsz, Bool.and_false]
    exact Bool.false_ne_true
  refine call_meets F.slot_list_extend ⟨_, e, rfl⟩ F.entry_list_extend (F.args_list_extend_2 _ _)
    (AutoSeq1.list_extend_list_list_0 l its.toArray n b its2.toArray n2 hlong (by rw [List.size_toArray]; omega) (by omega)) ⟨e, e2, ?_⟩
  refine ⟨.non, _, I.lset (its' := its ++ its2) hH e (by simp) (r.append r2) ?_, rfl, q⟩
  rw [List.length_append]
  omega

noncomputable def rPopAt : V → List V → Hp → VK → Prop := fun x vs H Q => ∃ l xs i k y, x = .ref l ∧ vs = [.int i] ∧ H l = some (.lst xs) ∧ -(2 ^ 63) ≤ i ∧ i < 2 ^ 63 ∧ seqIndex? i xs.length = some k ∧ xs[k]? = some y ∧ Q y (upd H l (.lst (xs.eraseIdx k)))
theorem mt_popAt : MtM X "list.pop" rPopAt := by
  intro pins s σ H x vs v us Q I rx rv h
  obtain ⟨l, xs, i, k, y, rfl, rfl, hH, h1, h2, hk, hy, q⟩ := h
  cases rx
  obtain ⟨u, rfl, ru⟩ := rv.one
  obtain ⟨t, rfl⟩ := ru
  obtain ⟨z, its, n, r, hl, e⟩ := I.lstM hH
  obtain ⟨w, hw, rw'⟩ := r.get hy
  refine call_meets F.slot_list_pop ⟨_, e, rfl⟩ F.entry_list_pop (F.args_list_pop_2 _ _)
    (MeetsSeq.list_pop_at l its.toArray n i t k w (fitsIndex_both h1 h2) (by rw [List.size_toArray, ← hl]; exact hk) (by rw [← Array.getElem?_toList]; exact hw) (by rw [List.size_toArray]; omega)) ⟨e, ?_⟩
  refine ⟨y, _, I.lset (its' := its.eraseIdx k) hH e ?_ (r.eraseIdx k) ?_, rw', q⟩
  · show its.toArray.eraseIdxIfInBounds k = (its.eraseIdx k).toArray
    rw [List.eraseIdxIfInBounds_toArray]
  · have := len_erase xs k
    omega

noncomputable def rCat : R2 := fun x y H Q => ∃ l b xs zs, x = .ref l ∧ y = .ref b ∧ H l = some (.lst xs) ∧ H b = some (.lst zs) ∧ xs.length + zs.length ≤ sizeLine ∧ ∀ p, H p = none → Q (.ref p) (upd H p (.lst (xs ++ zs)))
theorem op_cat : OpR X (binaryOp .Add) rCat := by
  intro pins s σ H x y v u Q I rx ry h
  obtain ⟨l, b, xs, zs, rfl, rfl, hH, hB, hz, q⟩ := h
  cases rx
  cases ry
  obtain ⟨z, its, n, r, hl, e⟩ := I.lstM hH
  obtain ⟨z2, its2, n2, r2, hl2, e2⟩ := I.lstM hB
  refine PySem.P.add_list e e2 ?_ (by rw [List.size_toArray, List.size_toArray]; omega)
  have ea : its.toArray ++ its2.toArray = (its ++ its2).toArray := by simp
  rw [ea]
  exact ⟨.ref _, _, I.lnew (t' := s.toks) (r.append r2) (by rw [List.length_append]; omega), rfl, q _ I.fresh⟩
end

section
variable {prog : Program} {w : World} {A : Around} {E : Value → Shared → Prop} {s : Shared}
theorem splice_eq (its its2 : List Value) (a c : Nat) : its.toArray.extract 0 a ++ its2.toArray ++ its.toArray.extract c its.toArray.size = (its.take a ++ its2 ++ its.drop c).toArray := by
  apply Array.toList_inj.mp
  first
    | (simp
       exact List.take_of_length_le (by simp))
    | simp [List.take_of_length_le]
    | simp
end

end L2

namespace Att
open PySem PySem.W PySem.Calls PyProof.Rows

theorem ints_of_wellAll {P : Params} {h : Heap} : ∀ (ns : List Int) (vs : List Value), WellAll P h vs (ns.map WData.int) → IntsAre vs ns := by
  intro ns
  induction ns with
  | nil =>
    intro vs w
    rw [List.map_nil] at w
    cases w
    exact .nil
  | cons n ns ih =>
    intro vs w
    rw [List.map_cons] at w
    cases w with
    | cons a b =>
      cases a
      exact .cons _ _ (ih _ b)

theorem script_of {l : OpenLaw} {n : Nat} (hn : l.most = some n) {P : Params} {h : Heap} {args : List WData} {vals : List Value}
    (hpre : l.row.toRowW.claim.pre args = true) (hwl : WellAll P h vals args) :
    ∃ a vs ns, vals = [Value.ref a] ∧ args = [WData.list (ns.map WData.int)] ∧ h.get? a = some { cls := .type "list", data := .seq vs.toArray } ∧ IntsAre vs ns ∧ ns.length ≤ n := by
  have hsh : WShape.hasAll [] args [.list .int] = true := (pre_splitW hpre).1
  have hc : l.pre.holds [] { args := args } = true := (pre_splitW hpre).2
  obtain ⟨d, r, rfl, h1, h2⟩ := hasAllW_cons hsh
  obtain rfl := hasAllW_nil h2
  obtain ⟨xs, rfl, h3⟩ := hasW_list h1
  obtain ⟨ns, rfl⟩ := items_int h3
  have hlen : ns.length ≤ n := by
    unfold OpenLaw.pre at hc
    have h4 : (WTm.not (.lt (.lit (.int (n : Int))) (.len (.arg 0)))).holds [] { args := [.list (ns.map .int)] } = true := by
      have h4 := (holds_andW hc).1
      rw [hn] at h4
      exact h4
    have h5 := condW_of h4 (w_not (w_lt w_lit (w_len_list (w_arg rfl))))
    rw [List.length_map] at h5
    refine Nat.le_of_not_lt fun q => ?_
    have q' : (n : Int) < ((ns.length : Nat) : Int) := by omega
    first
      | (rw [decide_eq_true q'] at h5; exact absurd h5 (by decide))
      | (simp at h5; omega)
  cases hwl with
  | cons w1 w2 =>
    cases w2
    cases w1 with
    | list ho hall => exact ⟨_, _, ns, rfl, rfl, ho, ints_of_wellAll ns _ hall, hlen⟩

theorem post_true (l : OpenLaw) (args : List WData) : l.row.toRowW.claim.post args (.bool true) args = true :=
  postW_of (r := l.row.toRowW) (X := (true == true))
    (show WShape.has [] (.bool true) .bool = true by first | rfl | decide | simp [WShape.has, WShape.arms, WShape.armsAll])
    (show (WTm.eq .res (.lit (.bool true))).value [] { args := args, res := some (.bool true), after := args } = some (.bool (true == true)) from w_eq_bool (w_res rfl) w_lit) rfl

theorem attach_call {l : OpenLaw} {n : Nat} {q : Program} {loose : List Str} {XP : (Str → Option Value) → Heap → Prop} {YP : World → Heap → Prop} {d : DefRec}
    (hn : l.most = some n) (hdf : d.params.defaults = [])
    (call : ∀ (w : World) (s₀ s₁ : Shared) (mg mb : Str → Option Value) (fa : Addr) (o : Obj) (pm cd doc : Value) (a : Addr) (vs : List Value) (ns : List Int),
      Ground q loose [] XP w s₀ mg mb s₁.heap → YP w s₁.heap →
      s₁.heap.get? fa = some o → o.data = .func (docDef d.name d.params d.body d.scope pm cd doc) → s₁.heap.CodeRec cd d.name → mg d.name = some (.ref fa) →
      s₁.heap.get? a = some { cls := .type "list", data := .seq vs.toArray } → IntsAre vs ns → ns.length ≤ n → s₁.gens = #[] →
      codeAny (model l.prog w) callerA (.call (.ref fa) ⟨[.ref a], []⟩) (fun r s' => r = .ok (.ret (.bool true)) ∧ OldK s₁.heap s'.heap ∧ s'.os = s₁.os ∧ AllBare s'.gens) s₁) :
    WalkO q loose XP YP l.row.toRowW d [] (fun f vs => PySem.call f vs) := by
  intro w s₀ s₁ mg mb G Y fa o pm cd doc dV kV ho hd hcd hD hmg hg args vals as hpre hlay hrd hwl hlo
  obtain rfl : dV = .none := Dflts.none hD hdf
  obtain rfl : kV = .none := Dflts.noKw hD
  obtain ⟨a, vs, ns, rfl, rfl, hobj, hints, hlen⟩ := script_of hn hpre hwl
  refine enter_call (codeAny_mono (call w s₀ s₁ mg mb fa o pm cd doc a vs ns G Y ho (fd_plain hd) hcd hmg hobj hints hlen hg) fun r s' hq => ?_)
  obtain ⟨rfl, h2, h3, h4⟩ := hq
  exact ⟨.inl ⟨.bool true, .bool true, [], rfl, fun _ => rfl, .bool true, post_true l _, fun _ => ⟨List.Pairwise.nil, fun _ hm => (nomatch hm)⟩⟩, h2, h3, h4⟩

end Att

namespace L2
open PySem PySem.Spec PyProof.Rows

theorem vals_ints : ∀ {vs : List Value} {ns : List Int}, IntsAre vs ns → Vals (ns.map V.int) vs
  | _, _, .nil => .nil
  | _, _, .cons n t h => .cons ⟨t, rfl⟩ (vals_ints h)

noncomputable def Only (H : Hp) : Prop := ∀ b, H b = none ∨ ∃ o xs, H b = some (.frz o (.lst xs))

theorem law_call {P : Program} {w : World} {K : PySem.W.Frag} {mg mb : Str → Option Value} {CX : CXT} {k : Nat} {fa a : Addr} {fd : FuncData} {x : Str} {sp : Sp} {s₁ : Shared} {vs : List Value} {ns : List Int}
    (KX : K.In s₁.heap) (hns : s₁.heap.Ns mainGlobals mg) (hb : s₁.heap.Ns builtinsNs mb) (hbb : ∀ x : Str, x ≠ "__name__" → mb x = bootBuiltins x) (hlim : s₁.heap.NoLimit) (hg : s₁.gens = #[])
    (ha : s₁.heap.get? a = some { cls := .type "list", data := .seq vs.toArray }) (hi : IntsAre vs ns) (hl : ns.length ≤ sizeLine) (hr : Room k callerA)
    (F : ∀ base : Heap, K.In base → base.Ns mainGlobals mg → FnOk P w K mg base CX k fa fd [x] sp) (hbind : ∀ (s : Shared) (u : Value), BindsTo s fd ⟨[u], []⟩ [(x, u)])
    (hsp : ∀ H : Hp, Only H → SqL K H a (ns.map V.int) → sp [.ref a] H (fun v _ => v = .bl true) fun _ _ _ => False)
    (hCX : ∀ H e s', CX [] H s₁ (fun _ _ _ => False) e s' → False) :
    codeAny (model P w) callerA (.call (.ref fa) ⟨[.ref a], []⟩) (fun r s' => r = .ok (.ret (.bool true)) ∧ OldK s₁.heap s'.heap ∧ s'.os = s₁.os ∧ AllBare s'.gens) s₁ := by
  have rv := vals_ints hi
  have lenV := hi.length
  have core : ∀ H : Hp, Only H → SqL K H a (ns.map V.int) → HOk P w H s₁.heap → (∀ b, H b ≠ none → b = a) → (H a ≠ none → K.lookup a = none) →
      codeAny (model P w) callerA (.call (.ref fa) ⟨[.ref a], []⟩) (fun r s' => r = .ok (.ret (.bool true)) ∧ OldK s₁.heap s'.heap ∧ s'.os = s₁.os ∧ AllBare s'.gens) s₁ := by
    intro H hO hS hok hA hK
    have base_of : ∀ {b : Addr} {o : Obj}, s₁.heap.get? b = some o → H b = none → (hidT s₁.heap H).get? b = some o := fun e n => hidT_get e n
    have noA : ∀ {b : Addr} {o : Obj} {es : Array DictEntry} {ep : Nat}, s₁.heap.get? b = some o → o.data = .dict es ep → H b = none := fun {b o es ep} e d => by
      cases q : H b with
      | none => rfl
      | some u =>
        have e' : b = a := hA b (by rw [q]; simp)
        subst e'
        rw [ha] at e; cases e
        have d' : Data.seq vs.toArray _ = Data.dict es ep := d
        cases d'
    have nsK : ∀ {b : Addr} {m : Str → Option Value}, s₁.heap.Ns b m → (hidT s₁.heap H).Ns b m := fun {b m} ⟨o, es, ep, e, d, r⟩ => ⟨o, es, ep, base_of e (noA e d), d, r⟩
    have hKb : K.In (hidT s₁.heap H) := fun b o e => base_of (KX b o e) (by
      cases q : H b with
      | none => rfl
      | some u =>
        have e' : b = a := hA b (by rw [q]; simp)
        subst e'
        rw [hK (by rw [q]; simp)] at e; cases e)
    have hM : Mod K mg (hidT s₁.heap H) := ⟨hKb, nsK hns, ⟨mb, nsK hb, hbb⟩, let ⟨mc, h1, h2⟩ := hlim; ⟨mc, nsK h1, h2⟩⟩
    have e0 : Env0 P w K mg (hidT s₁.heap H) callerA [] s₁ H := ⟨rfl, hM, fun b o e => of_hidT e, Nat.le_of_eq (hidT_size _ _), trivial, fun b hb => absurd (show b ∈ ([] : List Addr) from hb) (by simp), hok, .of_eq hg⟩
    refine codeAny_mono ((F _ hKb (nsK hns)).run callerA [] s₁ H ⟨[.ref a], []⟩ [.ref a] [.ref a] _ _ hr e0 (hbind s₁ (.ref a)) (.cons rfl .nil) (hsp H hO hS)) fun r s' h => ?_
    cases r with
    | error e => exact (hCX H e s' h).elim
    | ok fl =>
      cases fl with
      | next => exact False.elim h
      | brk => exact False.elim h
      | cont => exact False.elim h
      | ret u =>
        obtain ⟨v, H', os, bare, un, hok', r', q⟩ := h
        have q' : v = .bl true := q
        subst q'
        obtain rfl : u = Value.bool true := r'
        refine ⟨rfl, OldK.of_keep fun b o e => ?_, os, bare⟩
        cases q : H b with
        | none => exact un.keep b o e q (by intro z; exact absurd (show b ∈ ([] : List Addr) from z) (by simp)) (by simp)
        | some u =>
          rcases hO b with z | ⟨ob, xs, z⟩
          · rw [q] at z; cases z
          · have z2 := un.frzs b ob _ z
            obtain ⟨e1, _⟩ := hok b _ z
            obtain ⟨e2, _⟩ := hok' b _ z2
            rw [e] at e1; cases e1
            exact e2
  cases hk : K.lookup a with
  | some o =>
    have e := KX a o hk
    rw [ha] at e
    cases e
    refine core (fun _ => none) (fun _ => .inl rfl) (.inr ⟨_, vs.toArray, _, hk, rfl, rfl, rfl, by rw [List.size_toArray, lenV]; exact hl, by simpa using rv⟩) (fun b u z => by have z' : (none : Option HO) = some u := z; cases z') (fun b z => absurd rfl z) fun z => absurd rfl z
  | none =>
    refine core (fun b => if b = a then some (.frz { cls := .type "list", data := .seq vs.toArray } (.lst (ns.map V.int))) else none) (fun b => ?_) (.inl (.inr ⟨{ cls := .type "list", data := .seq vs.toArray }, if_pos rfl⟩)) (fun b u z => ?_) (fun b z => ?_) fun _ => hk
    · by_cases hb : b = a
      · exact .inr ⟨_, _, if_pos hb⟩
      · exact .inl (if_neg hb)
    · by_cases hb : b = a
      · have z' := (if_pos hb).symm.trans z
        cases z'
        subst hb
        exact ⟨ha, by rw [List.length_map]; exact hl, vs, _, rv, ha⟩
      · have z' := (if_neg hb).symm.trans z
        cases z'
    · by_cases hb : b = a
      · exact hb
      · exact absurd (if_neg hb) z
end L2

namespace L2
open PySem PySem.Spec PyProof.Rows

theorem walk_of {l : PySem.W.OpenLaw} {n k : Nat} {q : Program} {loose : List Str} {XP : (Str → Option Value) → Heap → Prop} {YP : World → Heap → Prop} {d : DefRec} {K : Params → PySem.W.Frag} {CX : World → CXT} {sp : World → Sp} {x : Str}
    (hn : l.most = some n) (hn2 : n ≤ sizeLine) (hdf : d.params.defaults = []) (hr : Room k callerA)
    (hY : ∀ (w : World) (h : Heap), YP w h → (K w.params).In h)
    (F : ∀ (w : World) (mg : Str → Option Value) (fa : Addr) (h : Heap), (K w.params).In h → h.Ns mainGlobals mg → mg d.name = some (.ref fa) →
      ∃ fd : FuncData, (∀ (s : Shared) (u : Value), BindsTo s fd ⟨[u], []⟩ [(x, u)]) ∧
        ∀ base : Heap, (K w.params).In base → base.Ns mainGlobals mg → FnOk l.prog w (K w.params) mg base (CX w) k fa fd [x] (sp w))
    (hsp : ∀ (w : World) (H : Hp) (a : Addr) (ns : List Int), ns.length ≤ n → Only H → SqL (K w.params) H a (ns.map V.int) → sp w [.ref a] H (fun v _ => v = .bl true) fun _ _ _ => False)
    (hCX : ∀ (w : World) (H : Hp) (s : Shared) (e : Value) (s' : Shared), CX w [] H s (fun _ _ _ => False) e s' → False) :
    PySem.W.WalkO q loose XP YP l.row.toRowW d [] (fun f vs => PySem.call f vs) := by
  refine Att.attach_call hn hdf fun w s₀ s₁ mg mb fa o pm cd doc a vs ns G Y ho hd hcd hmg hobj hints hlen hg => ?_
  have KX := hY w _ Y
  obtain ⟨fd, hb, hF⟩ := F w mg fa _ KX G.T.g hmg
  exact law_call KX G.T.g G.T.b G.T.builtins G.T.nolimit hg hobj hints (Nat.le_trans hlen hn2) hr hF hb (fun H hO hS => hsp w H a ns hlen hO hS) fun H e s' => hCX w H s₁ e s'
end L2

/- THE LAST THEOREM (shape; LID, My.* are yours):
   My.Adr: a structure of the addresses that your layer names (classes, functions); My.Txt K t: a structure (Prop) of the equations over K;
   My.txt_mk : {K} {implicit addresses ..} (e1 : nsIn K mainGlobals "law" = some (some (.ref f))) (e2 : K.lookup f = some ⟨oc, od, .func (fnOf "law" "law" params body scope dV kV doc pm an cdv ct), sl⟩) (e3 : codeIn K cdv "law" = true) .. : ∃ t, My.Txt K t

set_option maxRecDepth 100000 in
set_option maxHeartbeats 0 in
theorem PySem.Challenge.cw_LID_holds : PySem.Challenge.rw_LID.Holds := by
  w_on; o_law; k_head; (case hw => w_witness2)
  k_fill
  refine L2.walk_of (l := PySem.Challenge.rw_LID) (n := 63) (k := 40) (x := "script") (CX := fun w => ..) (sp := fun _ => My.sp_law) rfl (by decide) rfl ⟨rfl, by decide, by decide⟩ (fun w h Y => PySem.W.kIn_of Y) ?F ?S ?C
  case F =>
    intro w mg fa h KX G hmg
    have T : ∃ t, My.Txt (L2.KOf KX) t := by
      dsimp only [L2.KOf]                          -- K must stand as «<heap const> w.params» for k_is
      refine' My.txt_mk ?e1 ?e2 ?e3 ..
      (case e1 => PySem.W.k_is)                    -- in the order: a name -> its address -> its object -> its parts
      (case e2 => PySem.W.k_is)
      ..
    obtain ⟨t, T⟩ := T
    have e0 := hmg.symm.trans (PySem.W.mg_of KX G T.law)
    cases e0                                       -- fa is the law's own address
    exact ⟨_, fun s u => .of_eq rfl, fun base kb nb => My.law_fn T kb nb⟩     -- if «.of_eq rfl» comes too early: refine' ⟨_, ?b, fun base kb nb => My.law_fn T kb nb⟩; exact fun s u => .of_eq rfl
  case S => exact fun w H a ns hl hO hS => ..
  case C => exact ..
(the tactic k_is has no namespace: write k_is) -/

namespace L2
open PySem PySem.Spec PyProof.Rows

noncomputable def defArgs (s : Stmt) : Arguments := match s with
  | .FunctionDef _ a _ _ _ _ _ _ _ _ => a
  | _ => { posonlyargs := [], args := [], vararg := none, kwonlyargs := [], kw_defaults := [], kwarg := none, defaults := [] }
noncomputable def defBody (s : Stmt) : List Stmt := match s with
  | .FunctionDef _ _ b _ _ _ _ _ _ _ => b
  | _ => []
noncomputable def defScope (s : Stmt) : Scope := match s with
  | .FunctionDef _ _ _ _ _ _ sc _ _ _ => sc
  | _ => { kind := .function, names := [], isGenerator := false, isCoroutine := false }

noncomputable abbrev CX0 : CXT := fun _ _ _ _ _ _ => False
noncomputable abbrev E0 : XK := fun _ _ _ => False
theorem pass0 {X : Cx} : Passes CX0 X E0 := fun _ _ _ _ _ _ _ h => h.elim

structure Fun (K : PySem.W.Frag) (x qual : Str) (st : Stmt) (f : Addr) (fd : FuncData) : Prop where
  ex : ∃ (oc : Value) (od : Option Addr) (kV doc pm : Value) (an : Option Addr) (cdv ct : Value) (osl : Array (Option Value)),
    fd = PySem.W.fnOf x qual (defArgs st) (defBody st) (defScope st) .none kV doc pm an cdv ct ∧ K.lookup f = some ⟨oc, od, .func fd, osl⟩ ∧ PySem.W.codeIn K cdv qual = true
  kp : PySem.W.keepIn K (.ref f) = true
section
variable {P : Program} {w : World} {K : PySem.W.Frag} {mg : Str → Option Value} {base : Heap}
theorem Fun.ok {x qual : Str} {st : Stmt} {f : Addr} {fd : FuncData} {N ps : List Str} {k : Nat} {sp : Sp} (F : Fun K x qual st f fd) (S : FnScope N ps (defScope st)) (len : ∀ vs H Q E, sp vs H Q E → vs.length = ps.length)
    (hbody : ∀ (cdv : Value) (A : Around) (outer : List Env) (s : Shared) (H : Hp) (vs : List V) (Q : VK) (E : XK), Room k (A.deeper (envOfC qual (defScope st) s.heap.objs.size f cdv)) → sp vs H Q E →
      ∃ t, PSs (cxOf CX0 P w K mg base N qual (defScope st) f cdv A outer s H E).nox (defBody st) t ∧ t { nx := fun _ H' => Q .non H', rt := Q } (start N vs) H) : FnOk P w K mg base CX0 (k + 1) f fd ps sp := by
  obtain ⟨oc, od, kV, doc, pm, an, cdv, ct, osl, rfl, lk, hcd⟩ := F.ex
  refine fn_of lk hcd S len fun A outer s H vs Q E hr hsp => ?_
  obtain ⟨t, h, q⟩ := hbody cdv A outer s H vs Q E hr hsp
  exact ⟨t, h.nox, q⟩
theorem Fun.binds {x qual : Str} {st : Stmt} {f : Addr} {fd : FuncData} {ps : List Str} (F : Fun K x qual st f fd)
    (h : ∀ (kV doc pm : Value) (an : Option Addr) (cdv ct : Value) (us : List Value), us.length = ps.length → bindArgs (PySem.W.fnOf x qual (defArgs st) (defBody st) (defScope st) .none kV doc pm an cdv ct) ⟨us, []⟩ = pure (ps.zip us)) : Binds K fd ps [] := by
  obtain ⟨oc, od, kV, doc, pm, an, cdv, ct, osl, rfl, lk, hcd⟩ := F.ex
  exact .all (h kV doc pm an cdv ct)
theorem fun_mk {x qual : Str} {st : Stmt} {f : Addr} {oc : Value} {od an : Option Addr} {osl : Array (Option Value)} {kV doc pm cdv ct : Value} (l : K.lookup f = some ⟨oc, od, .func (PySem.W.fnOf x qual (defArgs st) (defBody st) (defScope st) .none kV doc pm an cdv ct), osl⟩)
    (c : PySem.W.codeIn K cdv qual = true) (k : PySem.W.keepIn K (.ref f) = true) : Fun K x qual st f (PySem.W.fnOf x qual (defArgs st) (defBody st) (defScope st) .none kV doc pm an cdv ct) := ⟨⟨oc, od, kV, doc, pm, an, cdv, ct, osl, rfl, l, c⟩, k⟩
end
theorem hu_of {A : Around} {k : Nat} (hr : Room k A) : A.units + 1 < cLine := Nat.lt_of_le_of_lt (Nat.add_le_add_left (by decide : 1 ≤ 64) _) hr.units
theorem small1000 {n : Nat} (h : n ≤ 1000) : n < sizeLine := Nat.lt_of_le_of_lt h (by decide)

section
variable {X : Cx}
theorem pv (i : Nat) {x : Str} {pos : Pos} (hN : X.N[i]? = some x := by rfl) (hv : Vis X.env.scope x := by first | exact Or.inl rfl | exact Or.inr (Or.inl rfl) | exact Or.inr (Or.inr rfl)) (hd : (x == ("__debug__" : Str)) = false := by decide)
    (hcd : (x == ("__classdict__" : Str)) = false := by decide) : PE X (.Name x pos) (tVar i) := pe_var hN hv hd hcd
end

theorem iteF {A B : Prop} (h : B) : if false = true then A else B := by
  rw [if_neg Bool.false_ne_true]
  exact h
theorem iteT {A B : Prop} (h : A) : if true = true then A else B := by
  rw [if_pos rfl]
  exact h
theorem ite2 {c A B : Prop} [Decidable c] (h1 : c → A) (h2 : ¬ c → B) : if c then A else B := by
  by_cases h : c
  · rw [if_pos h]
    exact h1 h
  · rw [if_neg h]
    exact h2 h
theorem iteNS {c A B : Prop} [Decidable c] (hc : c) (h : B) : if (!decide c) = true then A else B := by
  rw [decide_eq_true hc]
  exact iteF h

noncomputable def Same (H H' : Hp) : Prop := ∀ b o, H b = some o → H' b = some o
theorem Same.refl (H : Hp) : Same H H := fun _ _ h => h
theorem Same.trans {H H1 H2 : Hp} (a : Same H H1) (b : Same H1 H2) : Same H H2 := fun c o h => b c o (a c o h)
theorem Same.free {H H' : Hp} (e : Same H H') {l : Addr} (h : H' l = Option.none) : H l = Option.none := by
  cases q : H l with
  | none => rfl
  | some o =>
    rw [e l o q] at h
    cases h
theorem Same.seq {K : PySem.W.Frag} {H H' : Hp} {a : Addr} {xs : List V} (e : Same H H') (h : SqL K H a xs) : SqL K H' a xs := by
  rcases h with (h | ⟨o, h⟩) | h
  · exact .inl (.inl (e _ _ h))
  · exact .inl (.inr ⟨o, e _ _ h⟩)
  · exact .inr h

end L2


namespace L2
open PySem PySem.Spec PyProof.Rows
section
variable {κ : Type} [DecidableEq κ]
theorem valV_not {kvs : List (κ × V)} {k : κ} (h : valV kvs k = none) : ¬ k ∈ kvs.map (·.1) := by
  intro m
  obtain ⟨p, hp, e⟩ := List.mem_map.mp m
  have q : (kvs.any fun kv => decide (kv.1 = k)) = true := List.any_eq_true.mpr ⟨p, hp, decide_eq_true e⟩
  rw [valV_any, h] at q
  exact absurd q (by simp)
theorem valV_in {kvs : List (κ × V)} {k : κ} {v : V} (h : valV kvs k = some v) : k ∈ kvs.map (·.1) := by
  have q : (kvs.any fun kv => decide (kv.1 = k)) = true := by
    rw [valV_any, h]
    all_goals rfl
  obtain ⟨p, hp, e⟩ := List.any_eq_true.mp q
  exact List.mem_map.mpr ⟨p, hp, of_decide_eq_true e⟩
end
end L2

namespace L2
open PySem PySem.Spec PyProof.Rows

theorem quietX {α : Type} {t : Sem α} {Q Q' : α → Shared → Prop} {M : Model} {A : Around} {E : Value → Shared → Prop} {s : Shared} (h : wpAny M A t Q (fun _ _ => False) s) (hQ : ∀ a s, Q a s → Q' a s) : wpAny M A t Q' E s :=
  wpAny_mono h hQ fun _ _ z => z.elim
theorem vals_of_get : ∀ {xs : List V} {us : List Value}, xs.length = us.length → (∀ (i : Nat) (x : V) (u : Value), xs[i]? = some x → us[i]? = some u → RelV x u) → Vals xs us
  | [], [], _, _ => .nil
  | [], _ :: _, h, _ => by simp at h
  | _ :: _, [], h, _ => by simp at h
  | x :: xs, u :: us, h, f => .cons (f 0 x u rfl rfl) (vals_of_get (by simpa using h) fun i y w e1 e2 => f (i + 1) y w (by simpa using e1) (by simpa using e2))

noncomputable def cxComp (X : Cx) (scope : Scope) (cl : List (Str × Addr)) (NC : List Str) (fp : List Addr) (C : Addr) (s₀ : Shared) (H₀ : Hp) : Cx where
  prog := X.prog
  w := X.w
  K := X.K
  mg := X.mg
  base := X.base
  A := X.A
  N := NC
  s₀ := s₀
  H₀ := H₀
  env := compEnvC scope cl C X.env
  outer := X.stack
  stack := X.stack
  ex := fp
  fn := fun _ => false
  calm := X.calm
  pn := []
  xe := fun _ _ => False
structure CompOk (X : Cx) (scope : Scope) (cl : List (Str × Addr)) (NC : List Str) (ini : List (Option Nat)) : Prop where
  clos : closureFor scope X.env = pure cl
  cell : ∀ y ∈ scope.names, y.2 ≠ .cell
  kind : scope.kind = .function
  names : ∀ y ∈ scope.names, y.2 = .local → scope.names.lookup y.1 = some .local
  cls : ∀ x c, cl.lookup x = some c → X.env.cells.lookup x = some c
  has : ∀ x, ((relabel scope X.env).names.lookup x = some .cell ∨ (relabel scope X.env).names.lookup x = some .free) → ∃ c, cl.lookup x = some c
  len : ini.length = NC.length
  src : ∀ (i j : Nat) (x : Str), ini[i]? = some (some j) → NC[i]? = some x → X.N[j]? = some x ∧ (X.env.kindOf x = some .cell ∨ X.env.kindOf x = some .free) ∧
    ((relabel scope X.env).names.lookup x = some .cell ∨ (relabel scope X.env).names.lookup x = some .free)
noncomputable def iniSt (ini : List (Option Nat)) (σ : St) : St := ini.map fun o => o.bind fun j => (σ[j]?).join
section
variable {X : Cx} {scope : Scope} {cl : List (Str × Addr)} {NC : List Str} {ini : List (Option Nat)} {pins : List (Addr × Obj)} {σ : St} {H : Hp} {s : Shared} {fp : List Addr}
theorem inv_comp {h₁ : Heap} {tk : Nat} {m : Str → Option Value} (O : CompOk X scope cl NC ini) (I : Inv X pins σ H s) (hf : ∀ b ∈ fp, FpOk X pins H b) (ho : ∀ b ∈ fp, ∃ o, s.heap.get? b = some o)
    (hn : h₁.Ns s.heap.objs.size m) (hk : ∀ b o, s.heap.get? b = some o → h₁.get? b = some o) :
    Inv (cxComp X scope cl NC fp s.heap.objs.size s H) [] (iniSt ini σ) H { s with heap := h₁, toks := tk } := by
  have lt : ∀ b ∈ fp, b < s.heap.objs.size := fun b hb => let ⟨o, e⟩ := ho b hb; Heap.lt_size e
  refine ⟨⟨I.ok.mod, O.kind, I.ok.glob, I.ok.blt, Nat.le_refl _, fun x y c h1 h2 => I.ok.inj x y c (O.cls x c h1) (O.cls y c h2), O.has, fun x c h => (Bool.false_ne_true h).elim, I.ok.hd, I.ok.frames, .inl rfl,
      fun b hb => ⟨Nat.ne_of_lt (lt b hb), fun x c h => (hf b hb).2.2.2.2.1 x c (O.cls x c h)⟩, I.bs, Nat.le_trans I.ok.bsz I.sz, fun b o e hb => ?_, fun b hb hs => ?_, I.stack, I.stkFree⟩,
    rfl, I.bare, Un.kept hk, ⟨m, hn, fun i x v e1 e2 e3 => ?_⟩, fun x c h => ?_, I.hok.fresh (Nat.le_refl _), fun x c h => I.freeC x c (O.cls x c h), fun p hp => absurd (show p ∈ ([] : List (Addr × Obj)) from hp) (by simp), I.hok.kept hk, ?_⟩
  · rcases (hf b hb).2.2.2.1 with z | z
    · exact I.ok.noex b o e z
    · exact absurd (Nat.lt_of_lt_of_le (Heap.lt_size e) (Nat.le_trans I.ok.bsz z)) (Nat.lt_irrefl _)
  · rcases List.mem_cons.mp (I.stkSub b hs) with e | e
    · exact (hf b hb).2.1 e
    · exact (hf b hb).2.2.1 e
  · have e2 : (ini.map fun o => o.bind fun j => (σ[j]?).join)[i]? = some (some v) := e2
    rw [List.getElem?_map] at e2
    cases q : ini[i]? with
    | none => rw [q] at e2; cases e2
    | some oj =>
      rw [q] at e2
      cases oj with
      | none => cases e2
      | some j =>
        have e4 : (σ[j]?).join = some v := Option.some.inj e2
        have e5 : σ[j]? = some (some v) := by
          cases z : σ[j]? with
          | none => rw [z] at e4; cases e4
          | some y =>
            rw [z] at e4
            have e4 : y = some v := e4
            rw [e4]
        obtain ⟨a1, a2, a3⟩ := O.src i j x q e1
        obtain ⟨m0, hn0, hl⟩ := I.loc
        obtain ⟨u, r, l⟩ := hl j x v a1 e5 (.inr a2)
        refine ⟨u, r, ?_⟩
        rcases l with ⟨k, _⟩ | ⟨_, c, e, z⟩
        · rcases a2 with a2 | a2
          · rw [k] at a2; cases a2
          · rw [k] at a2; cases a2
        · obtain ⟨c', e'⟩ := O.has x a3
          have e6 := O.cls x c' e'
          rw [e] at e6
          cases e6
          obtain ⟨oc, h1, h2⟩ := z
          exact .inr ⟨a3, c, e', oc, hk _ _ h1, h2⟩
  · obtain ⟨v, oc, h1, h2⟩ := I.cell x c (O.cls x c h)
    exact ⟨v, oc, hk _ _ h1, h2⟩
  · show (ini.map _).length = NC.length
    rw [List.length_map]
    exact O.len
theorem comp_back {pinsC : List (Addr × Obj)} {σ' : St} {H' : Hp} {s' : Shared} {h' : Heap} (I : Inv X pins σ H s) (hf : ∀ b ∈ fp, FpOk X pins H b) (J : Inv (cxComp X scope cl NC fp s.heap.objs.size s H) pinsC σ' H' s')
    (hs : Heap.SameBut s.heap.objs.size s'.heap h') : Inv X pins σ H' { s' with heap := h' } := by
  have ne : ∀ {b : Addr} {o : Obj}, s.heap.get? b = some o → b ≠ s.heap.objs.size := fun e => Nat.ne_of_lt (Heap.lt_size e)
  have hfree : H' s.heap.objs.size = none := J.free
  have B : Un (frs X.stack) fp H H' s.heap s'.heap := J.base
  refine I.call' (s' := { s' with heap := h' }) (ch := fp) J.os ⟨fun b o q n hb hx => (hs.2 b (ne q)).trans (B.keep b o q n hb hx), fun b o q n hb hx => ?_, B.free, fun b o q hx => ?_, B.tups, B.frzs, B.tbls⟩ (fun b u e => ?_) J.bare
    fun b hb => ⟨(hf b hb).2.2.2.1, (hf b hb).2.1, (hf b hb).2.2.2.2.1, (hf b hb).2.2.2.2.2⟩
  · obtain ⟨sl, e⟩ := B.slot b o q n hb hx
    exact ⟨sl, (hs.2 b (ne q)).trans e⟩
  · obtain ⟨o', e⟩ := B.there b o q hx
    exact ⟨o', (hs.2 b (ne q)).trans e⟩
  · refine (J.hok b u e).stay (fun c v hc q => (hs.2 c ?_).trans q) (fun _ q => q) fun _ _ q => q
    rintro rfl
    rcases hc with hc | hc
    · rw [← hc, hfree] at e; cases e
    · rw [hfree] at hc; cases hc
end

noncomputable def PTs (X : Cx) (ifs : List Expr) (t : TT) : Prop :=
  ∀ (pins : List (Addr × Obj)) (s : Shared) (σ : St) (H : Hp) (Q : Bool → Hp → Prop), Inv X pins σ H s → t σ H Q →
    wpAny (model X.prog X.w) X.A (forIn ifs true fun c r => if r = true then do let ok ← isTrue c X.env (eval c X.env); pure (ForInStep.yield ok) else pure (ForInStep.yield r)) (TP X pins σ Q) X.xe s
noncomputable def tYes : TT := fun _ H Q => Q true H
theorem gYes {i : Nat} {v : V} {σ : St} {H : Hp} {A B : St → Hp → Prop} (h : A (σ.set i (some v)) H) : gName i v σ H (fun σ3 H3 => tYes σ3 H3 fun b H4 => if b = true then A σ3 H4 else B σ3 H4) := h
theorem pts_nil {X : Cx} : PTs X [] tYes := fun _ _ _ H _ I h => wpAny_tests_nil ⟨H, I, h⟩
theorem pts_one {X : Cx} {c : Expr} {t : TT} (h : PT X c t) : PTs X [c] t := fun pins s σ H Q I hw => wpAny_tests_one (h pins s σ H Q I hw)

noncomputable def CompW (J : It) (g : TG) (tt : TT) (te : TE) (D : Addr) (Q : VK) (σ₀ : St) (H₀ : Hp) : Prop :=
  ∃ W : Nat → Nat → St → Hp → Prop, (∃ m, W 0 m σ₀ H₀) ∧ ∀ i m σ' H', W i m σ' H' →
    (J.stop i H' ∧ Q (.ref D) H') ∨ (J.go i H' ∧ ∃ N : St → Hp → Prop, (∀ σ2 H2, N σ2 H2 → ∃ m', m' < m ∧ W (i + 1) m' σ2 H2) ∧
      ∀ x H2, J.yld i H' x H2 → g x σ' H2 fun σ3 H3 => tt σ3 H3 fun b H4 => if b = true then te σ3 H4 fun v H5 => ∃ ys, H5 D = some (.lst ys) ∧ ys.length < sizeLine ∧ N σ3 (upd H5 D (.lst (ys ++ [v]))) else N σ3 H4)
noncomputable def tComp (wi : TI) (g : TG) (tt : TT) (te : TE) (ini : List (Option Nat)) : TE := fun σ H Q => wi σ H fun J H1 => ∀ D, H1 D = none → CompW J g tt te D Q (iniSt ini σ) (upd H1 D (.lst []))
theorem pe_comp {X : Cx} {elt iter tg : Expr} {ifs : List Expr} {scope : Scope} {pos : Pos} {cl : List (Str × Addr)} {NC : List Str} {ini : List (Option Nat)} {wi : TI} {g : TG} {tt : TT} {te : TE}
    (hc : X.calm = true) (O : CompOk X scope cl NC ini) (hi : PI X tg iter wi)
    (hg : ∀ fp C s₀ H₀, PG (cxComp X scope cl NC fp C s₀ H₀) tg g) (ht : ∀ fp C s₀ H₀, PTs (cxComp X scope cl NC fp C s₀ H₀) ifs tt) (he : ∀ fp C s₀ H₀, PE (cxComp X scope cl NC fp C s₀ H₀) elt te)
    (hs : ∀ x, foldedSetIterable iter X.env x = pure x := by intro _; rfl) : PE X (.ListComp elt [⟨tg, iter, ifs, 0⟩] scope pos) (tComp wi g tt te ini) := by
  intro pins s σ H Q I h
  rw [eval_ListComp]
  refine wpAny_comprehension_free (use := none) rfl hs O.clos O.kind O.names (thn (hi pins s σ H _ I h) fun v s1 h1 => thn h1 fun itv s2 h2 => ?_)
  obtain ⟨it, fp, tn, J, H2, e, I2, T, st2, f2, h2⟩ := h2
  subst e
  have hD : H2 s2.heap.objs.size = none := I2.hok.fresh (Nat.le_refl _)
  obtain ⟨W, ⟨m0, w0⟩, turn⟩ := h2 _ hD
  refine wpAny_newObj_type (wpAny_newFunctionEnv O.cell (by intro y hy; simp at hy) (fun h₁ hns₁ hsb₁ => ?_) O.kind)
  dsimp only at hns₁ hsb₁ ⊢
  have I3 : Inv X pins σ (upd H2 s2.heap.objs.size (.lst [])) { s2 with heap := s2.heap.push { cls := .type "list", dict := none, data := .seq ([] : List Value).toArray } } := I2.lnew (its := []) (t' := s2.toks) .nil (by decide)
  have ob2 : ∀ b ∈ fp, ∃ o, s2.heap.get? b = some o := fun b hb => let ⟨o, e, _⟩ := T.obj 0 _ st2 b hb; ⟨o, e⟩
  have neD : ∀ b ∈ fp, b ≠ s2.heap.objs.size := fun b hb => let ⟨o, e⟩ := ob2 b hb; Nat.ne_of_lt (Heap.lt_size e)
  have f3 : ∀ b ∈ fp, FpOk X pins (upd H2 s2.heap.objs.size (.lst [])) b := fun b hb => ⟨by rw [upd_ne (neD b hb)]; exact (f2 b hb).1, (f2 b hb).2⟩
  generalize hs3 : ({ s2 with heap := s2.heap.push { cls := .type "list", dict := none, data := .seq ([] : List Value).toArray } } : Shared) = s3 at I3
  have hh3 : s2.heap.push { cls := .type "list", dict := none, data := .seq ([] : List Value).toArray } = s3.heap := by rw [← hs3]
  have ob3 : ∀ b ∈ fp, ∃ o, s3.heap.get? b = some o := fun b hb => let ⟨o, e⟩ := ob2 b hb; ⟨o, by rw [← hh3]; exact Heap.get?_push_of_some _ e⟩
  rw [hh3] at hns₁ hsb₁ ⊢
  have old : ∀ b o, s3.heap.get? b = some o → h₁.get? b = some o := fun b o e => hsb₁.extBut b o (Nat.ne_of_lt (Heap.lt_size e)) (Heap.get?_push_of_some _ e)
  have st1 : tn 0 h₁ := T.keep 0 _ _ st2 fun b hb o e => old b o (by rw [← hh3]; exact Heap.get?_push_of_some _ e)
  have IC : ∀ tk, Inv (cxComp X scope cl NC fp s3.heap.objs.size s3 (upd H2 s2.heap.objs.size (.lst []))) [] (iniSt ini σ) (upd H2 s2.heap.objs.size (.lst [])) { s3 with heap := h₁, toks := tk } := fun tk => inv_comp O I3 f3 ob3 hns₁ old
  have stat : ∀ {H' : Hp}, (∀ b ∈ fp, H' b = none) → ∀ b ∈ fp, FpOk (cxComp X scope cl NC fp s3.heap.objs.size s3 (upd H2 s2.heap.objs.size (.lst []))) [] H' b := fun {H'} hn b hb => by
    obtain ⟨o, e⟩ := ob3 b hb
    refine ⟨hn b hb, Nat.ne_of_lt (Heap.lt_size e), fun z => ?_, .inl hb, fun x c hx => (f3 b hb).2.2.2.2.1 x c (O.cls x c hx), fun p hp => absurd (show p ∈ ([] : List (Addr × Obj)) from hp) (by simp)⟩
    rcases List.mem_cons.mp (I3.stkSub b z) with q | q
    · exact (f3 b hb).2.1 q
    · exact (f3 b hb).2.2.1 q
  have loop : ∀ s₃ : Shared, s₃ = { s2 with heap := h₁, toks := s2.toks + ([] : List (Str × Value)).length } →
      codeAny (model X.prog X.w) X.A (.compLoop (.ListComp elt [⟨tg, iter, ifs, 0⟩] scope pos) 0 (.ref it) (.ref s2.heap.objs.size) (compEnvC scope cl s3.heap.objs.size X.env))
        (compPost (model X.prog X.w) X.A X.xe none (EP X pins σ Q) (.ref s2.heap.objs.size) s3.heap.objs.size) s₃ := by
    rintro s₃ rfl
    refine codeAny_loop rfl (fun n s' => ∃ i σ' H', Inv (cxComp X scope cl NC fp s3.heap.objs.size s3 (upd H2 s2.heap.objs.size (.lst []))) [] σ' H' s' ∧ tn i s'.heap ∧ (∀ b ∈ fp, H' b = none) ∧ W i n σ' H') (fun n s' hI => ?_) m0
      ⟨0, _, _, by have z := IC (s2.toks + ([] : List (Str × Value)).length); rw [← hs3] at z ⊢; exact z, st1, fun b hb => (f3 b hb).1, w0⟩
    show wpAny _ X.A ((compTurn (.ListComp elt [⟨tg, iter, ifs, 0⟩] scope pos) 0 (.ref it) (.ref s2.heap.objs.size) (compEnvC scope cl s3.heap.objs.size X.env)).onRaise (fun x => do noteFrame x (compEnvC scope cl s3.heap.objs.size X.env); theTreesLotGoes x)) _ _ s'
    refine wpAny_noted ?_
    rw [compTurn_list]
    obtain ⟨i, σ3, H3, I3', st3, fr3, w3⟩ := hI
    rcases turn i n σ3 H3 w3 with ⟨stop, qn⟩ | ⟨go, N, hN, step⟩
    · refine wpAny_bind (wpAny_standAt (wpAny_bind (thn (T.done (cxComp X scope cl NC fp s3.heap.objs.size s3 (upd H2 s2.heap.objs.size (.lst []))) rfl rfl rfl hc i [] s' σ3 H3 _ I3' (stat fr3) st3 stop) fun r s4 ⟨hr, I4⟩ => ?_)))
      subst hr
      obtain ⟨m', hn', _⟩ := I4.loc
      exact wpAny_pure ⟨m', hn', fun h' hs' => ⟨.ref s2.heap.objs.size, H3, comp_back I3 f3 I4 hs', rfl, qn⟩⟩
    · refine wpAny_bind (wpAny_standAt (wpAny_bind (thn (T.item (cxComp X scope cl NC fp s3.heap.objs.size s3 (upd H2 s2.heap.objs.size (.lst []))) rfl rfl rfl hc i [] s' σ3 H3 _ I3' (stat fr3) st3 go) fun r s4 ⟨u, hr, h4⟩ => ?_)))
      subst hr
      refine wpAny_bind (thn h4 fun _ s5 ⟨x, H5, I5, r5, y5, st5, fr5⟩ => ?_)
      have I5' := I5.pinned (stat fr5) (T.obj _ _ st5)
      refine wpAny_bind (quietX (hg fp _ s3 _ _ s5 σ3 H5 x u _ I5' r5 (step x H5 y5)) fun _ s6 ⟨σ6, H6, I6, q6⟩ => ?_)
      have again : ∀ {s7 : Shared} {H7 : Hp}, Inv (cxComp X scope cl NC fp s3.heap.objs.size s3 (upd H2 s2.heap.objs.size (.lst []))) ([] ++ pinsAt fp s5.heap) σ6 H7 s7 → N σ6 H7 →
          ∃ m, m < n ∧ ∃ i σ' H', Inv (cxComp X scope cl NC fp s3.heap.objs.size s3 (upd H2 s2.heap.objs.size (.lst []))) [] σ' H' s7 ∧ tn i s7.heap ∧ (∀ b ∈ fp, H' b = none) ∧ W i m σ' H' := fun {s7 H7} I7 n7 => by
        obtain ⟨m', hm, w7⟩ := hN σ6 H7 n7
        refine ⟨m', hm, i + 1, σ6, H7, I7.unpinned, T.keep _ _ _ st5 fun b hb o e => (I7.pin (b, o) (List.mem_append_right _ (List.mem_append_right _ (mem_pinsAt hb e)))).1, fun b hb => ?_, w7⟩
        obtain ⟨o, e, d⟩ := T.obj _ _ st5 b hb
        exact (I7.pin (b, o) (List.mem_append_right _ (List.mem_append_right _ (mem_pinsAt hb e)))).2.1
      refine wpAny_bind (quietX (ht fp _ s3 _ _ s6 σ6 H6 _ I6 q6) fun ok s7 ⟨H7, I7, q7⟩ => ?_)
      cases ok with
      | false => exact wpAny_pure ⟨rfl, again I7 q7⟩
      | true =>
        refine wpAny_bind (wpAny_bind (quietX (he fp _ s3 _ _ s7 σ6 H7 _ I7 q7) fun u8 s8 ⟨v8, H8, I8, r8, ys, hy, hz, n8⟩ => ?_))
        refine wpAny_bind (quietX (mt_append _ s8 σ6 H8 (.ref s2.heap.objs.size) [v8] (.ref s2.heap.objs.size) [u8] (fun _ H9 => N σ6 H9) I8 rfl (.cons r8 .nil) ⟨_, ys, v8, rfl, rfl, hy, hz, n8⟩) fun _ s9 ⟨_, H9, I9, _, n9⟩ => ?_)
        exact wpAny_pure (wpAny_pure ⟨rfl, again I9 n9⟩)
  exact codeAny_compStart_list (loop _ rfl) (T.self _ 0 _ _ _ st1 (loop _ rfl))

theorem comp_range {lo : Int} {n : Nat} {g : TG} {tt : TT} {te : TE} {D : Addr} {Q : VK} {σ₀ : St} {H₀ : Hp} (Pv : Nat → St → Hp → Prop) (h0 : Pv 0 σ₀ H₀)
    (hs : ∀ i σ H, i < n → Pv i σ H → g (.int (lo + i)) σ H fun σ3 H3 => tt σ3 H3 fun b H4 => if b = true then te σ3 H4 fun v H5 => ∃ ys, H5 D = some (.lst ys) ∧ ys.length < sizeLine ∧ Pv (i + 1) σ3 (upd H5 D (.lst (ys ++ [v]))) else Pv (i + 1) σ3 H4)
    (hd : ∀ σ H, Pv n σ H → Q (.ref D) H) : CompW (Itr lo n) g tt te D Q σ₀ H₀ := by
  refine ⟨fun i m σ H => m = n - i ∧ i ≤ n ∧ Pv i σ H, ⟨n, by simp, Nat.zero_le _, h0⟩, ?_⟩
  rintro i m σ H ⟨rfl, hi, p⟩
  by_cases hlt : i < n
  · refine .inr ⟨hlt, Pv (i + 1), fun σ' H' p' => ⟨n - (i + 1), by omega, rfl, hlt, p'⟩, fun x H' y => ?_⟩
    obtain ⟨e, y⟩ := y
    subst e y
    exact hs i σ _ hlt p
  · have e : i = n := by omega
    subst e
    exact .inl ⟨Nat.le_refl _, hd σ H p⟩
theorem comp_list {K : PySem.W.Frag} {a : Addr} {xs : List V} {g : TG} {tt : TT} {te : TE} {D : Addr} {Q : VK} {σ₀ : St} {H₀ : Hp} (Pv : Nat → St → Hp → Prop) (h0 : Pv 0 σ₀ H₀) (hl : ∀ i σ H, i ≤ xs.length → Pv i σ H → SqL K H a xs)
    (hs : ∀ i x σ H, xs[i]? = some x → Pv i σ H → g x σ H fun σ3 H3 => tt σ3 H3 fun b H4 => if b = true then te σ3 H4 fun v H5 => ∃ ys, H5 D = some (.lst ys) ∧ ys.length < sizeLine ∧ Pv (i + 1) σ3 (upd H5 D (.lst (ys ++ [v]))) else Pv (i + 1) σ3 H4)
    (hd : ∀ σ H, Pv xs.length σ H → Q (.ref D) H) : CompW (Itl K a) g tt te D Q σ₀ H₀ := by
  refine ⟨fun i m σ H => m = xs.length - i ∧ i ≤ xs.length ∧ Pv i σ H, ⟨xs.length, by simp, Nat.zero_le _, h0⟩, ?_⟩
  rintro i m σ H ⟨rfl, hi, p⟩
  have q := hl i σ H hi p
  by_cases hlt : i < xs.length
  · refine .inr ⟨⟨xs, xs[i], q, by simp [hlt]⟩, Pv (i + 1), fun σ' H' p' => ⟨xs.length - (i + 1), by omega, rfl, hlt, p'⟩, fun x H' y => ?_⟩
    obtain ⟨e, y⟩ := y
    subst e
    exact hs i x σ _ (y xs q) p
  · have e : i = xs.length := by omega
    subst e
    exact .inl ⟨⟨xs, q, Nat.le_refl _⟩, hd σ H p⟩
theorem compOk0 {X : Cx} {scope : Scope} {NC : List Str} (hkind : scope.kind = .function) (h : ∀ y ∈ scope.names, y.2 ≠ .cell ∧ y.2 ≠ .free) (hn : ∀ y ∈ scope.names, y.2 = .local → scope.names.lookup y.1 = some .local) :
    CompOk X scope [] NC (List.replicate NC.length none) where
  clos := closureFor_none fun x hx => (h x hx).2
  cell := fun y hy => (h y hy).1
  kind := hkind
  names := hn
  cls := fun x c e => by cases e
  has := fun x e => by
    exfalso
    have key : ∀ k, (relabel scope X.env).names.lookup x = some k → k = .cell ∨ k = .free → False := fun k e hk => by
      have hm := PySem.mem_of_lookup e
      obtain ⟨⟨n, k'⟩, hy, ey⟩ := List.mem_map.mp hm
      have h1 := h _ hy
      have hb : (k' == NameKind.free) = false := by simpa using h1.2
      simp only [hb, Bool.false_and, Bool.false_eq_true, if_false, Prod.mk.injEq] at ey
      obtain ⟨_, rfl⟩ := ey
      rcases hk with hk | hk
      · exact h1.1 hk
      · exact h1.2 hk
    rcases e with e | e
    · exact key _ e (.inl rfl)
    · exact key _ e (.inr rfl)
  len := by simp
  src := fun i j x e _ => by
    rw [List.getElem?_replicate] at e
    split at e <;> cases e

section
variable {X : Cx}
theorem call_rng1 : CallR X (.type "range") (fun xs H Q => ∃ j, xs = [.int j] ∧ ∀ p, H p = none → Q (.ref p) (upd H p (.rng 0 j))) := by
  intro pins s σ H xs us Q I r h
  obtain ⟨j, rfl, q⟩ := h
  obtain ⟨u, rfl, ru⟩ := r.one
  obtain ⟨t, rfl⟩ := ru
  refine call_range_1 ⟨.ref s.heap.objs.size, _, I.laid (o := .rng 0 j) (fun b u e => Heap.get?_push_of_some _ e) (Nat.le_refl _) ?_, rfl, q _ (I.hok.fresh (Nat.le_refl _))⟩
  exact ⟨_, _, _, Heap.get?_push_size _ rfl⟩
noncomputable def rngV (lo : Int) (n : Nat) : List V := (List.range n).map fun (i : Nat) => V.int (lo + i)
theorem rngV_len (lo : Int) (n : Nat) : (rngV lo n).length = n := by unfold rngV; rw [List.length_map, List.length_range]
theorem rngV_get {lo : Int} {n i : Nat} (h : i < n) : (rngV lo n)[i]? = some (.int (lo + i)) := by
  unfold rngV
  rw [List.getElem?_map, List.getElem?_range h]
  rfl
theorem call_list_rng (hc : X.calm = true) : CallR X (.type "list") (fun xs H Q => ∃ p lo hi, xs = [.ref p] ∧ H p = some (.rng lo hi) ∧ (-(2 ^ 62) ≤ lo ∧ lo < 2 ^ 62 ∧ -(2 ^ 62) ≤ hi ∧ hi < 2 ^ 62) ∧ (hi - lo).toNat ≤ 2 ^ 20 ∧
    ∀ l, H l = none → Q (.ref l) (upd H l (.lst (rngV lo (hi - lo).toNat)))) := by
  intro pins s σ H xs us Q I r h
  obtain ⟨p, lo, hi, rfl, hp, ⟨b1, b2, b3, b4⟩, hz, q⟩ := h
  obtain ⟨u, rfl, ru⟩ := r.one
  cases ru
  obtain ⟨t, u', v', e⟩ := I.hok p _ hp
  have hsz : (hi - lo).toNat ≤ sizeLine := Nat.le_trans hz (by decide)
  refine call_list_range (n := (hi - lo).toNat) (I.ok.hd hc) (show IsRange s.heap p lo hi 1 t u' v' from e) (small_one b1 b2 b3 b4) (by rw [rangeSize_one]; split <;> omega) (Nat.le_trans hz (by decide)) fun h' tk acc' c' hk hS' hacc => ?_
  refine ⟨.ref s.heap.objs.size, _, I.laid (o := .lst (rngV lo (hi - lo).toNat)) (t' := tk) hk (Nat.le_refl _) ⟨by rw [rngV_len]; exact hsz, acc'.toList, c', ?_, by simpa using hS'⟩, rfl, q _ (I.hok.fresh (Nat.le_refl _))⟩
  refine vals_of_get (by rw [rngV_len, Array.length_toList, hacc.1]) fun i x w e1 e2 => ?_
  have hi' : i < (hi - lo).toNat := by
    have z := (List.getElem?_eq_some_iff.mp e1).1
    rw [rngV_len] at z
    exact z
  rw [rngV_get hi'] at e1
  cases e1
  obtain ⟨t, rfl⟩ := hacc.2 i w (by simpa using e2)
  exact ⟨t, by rw [Int.mul_one]⟩
theorem call_isi : CallR X (.builtin "isinstance") (fun xs H Q => ∃ x n t b, xs = [x, .ty n] ∧ TyOf X.K H x t ∧ PySem.W.kitOne X.K t (.type n) = some b ∧ Q (.bl b) H) := by
  intro pins s σ H xs us Q I r h
  obtain ⟨x, n, t, b, rfl, ty, e, q⟩ := h
  obtain ⟨u, v, rfl, ru, rv⟩ := r.two
  cases rv
  exact isinst_ok I ru ty e fun tk => ⟨.bl b, H, I.tok tk, rfl, q⟩
theorem kit_int_int (K : PySem.W.Frag) : PySem.W.kitOne K (.type "int") (.type "int") = some true := by unfold PySem.W.kitOne; rw [if_pos (by decide +kernel)]
theorem kit_tup_tup (K : PySem.W.Frag) : PySem.W.kitOne K (.type "tuple") (.type "tuple") = some true := by unfold PySem.W.kitOne; rw [if_pos (by decide +kernel)]
theorem kit_int_bool (K : PySem.W.Frag) : PySem.W.kitOne K (.type "int") (.type "bool") = some false := by
  unfold PySem.W.kitOne
  rw [if_neg (by decide +kernel)]
  show (if PySem.W.kitMeta "bool" = true then (fastBuiltinMro "int").map (·.contains (Value.type "bool")) else none) = some false
  decide +kernel
end

structure Fn (K : PySem.W.Frag) (mg : Str → Option Value) (x : Str) (st : Stmt) (ps : List Str) (f : Addr) (fd : FuncData) : Prop where
  fn : Fun K x x st f fd
  b : Binds K fd ps []
  g : mg x = some (.ref f)
theorem Fn.mk' {K : PySem.W.Frag} {mg : Str → Option Value} {x : Str} {st : Stmt} {ps : List Str} {f : Addr} {fd : FuncData} (F : Fun K x x st f fd)
    (h : ∀ (kV doc pm : Value) (an : Option Addr) (cdv ct : Value) (us : List Value), us.length = ps.length → bindArgs (PySem.W.fnOf x x (defArgs st) (defBody st) (defScope st) .none kV doc pm an cdv ct) ⟨us, []⟩ = pure (ps.zip us))
    (g : mg x = some (.ref f)) : Fn K mg x st ps f fd := ⟨F, F.binds h, g⟩
theorem pe_fn {X : Cx} {x : Str} {st : Stmt} {ps : List Str} {f : Addr} {fd : FuncData} {k : Nat} {sp : Sp} {e : Expr} {es : List Expr} {t : TA} {p pos : Pos} (G : FnOk X.prog X.w X.K X.mg X.base CX0 k f fd ps sp) (F : Fn X.K X.mg x st ps f fd) (hr : Room k X.A) (ha : PA X (e :: es) t)
    (hg : Gl X x := by rfl) (hdb : (x == ("__debug__" : Str)) = false := by decide) (he : starEach (e :: es) X.env = (false, eval e X.env) :: starEach es X.env := by rfl) (hpl : (backTo pos (starEach es X.env)).any (·.1) = false := by rfl) :
    PE X (.Call (.Name x p) (e :: es) [] pos) (tCall sp [] E0 t) := pe_call G hr hg F.g F.fn.kp F.b .nil pass0 ha hdb he hpl
noncomputable def spLaw (K : PySem.W.Frag) : Sp := fun vs H Q _ => ∃ (a : Addr) (ns : List Int), vs = [.ref a] ∧ SqL K H a (ns.map V.int) ∧ ns.length ≤ 63 ∧ ∀ H', Q (.bl true) H'

theorem same_upd {H : Hp} {p : Addr} {o : HO} (h : H p = none) : Same H (upd H p o) := fun b u e => by rw [upd_ne (ne_of_none e h)]; exact e
theorem Same.upd {H H' : Hp} {p : Addr} {o : HO} (s : Same H H') (h : H p = none) : Same H (upd H' p o) := fun b u e => by rw [upd_ne (ne_of_none e h)]; exact s b u e
theorem Same.tup {K : PySem.W.Frag} {H H' : Hp} {a : Addr} {xs : List V} (e : Same H H') (h : SqT K H a xs) : SqT K H' a xs := by
  rcases h with (h | ⟨o, h⟩) | h
  · exact .inl (.inl (e _ _ h))
  · exact .inl (.inr ⟨o, e _ _ h⟩)
  · exact .inr h
theorem none_upd {H : Hp} {p l : Addr} {o : HO} (h : upd H p o l = none) : l ≠ p ∧ H l = none := by
  by_cases e : l = p
  · rw [e, upd_same] at h; cases h
  · rw [upd_ne e] at h; exact ⟨e, h⟩
theorem ixN_of {n : Nat} {k : Int} (h0 : 0 ≤ k) (h1 : k < n) : ixN n k = some k.toNat := by unfold ixN; rw [if_pos h0, if_pos h1]
theorem atI_of {xs : List V} {k : Int} {v : V} (h0 : 0 ≤ k) (h : xs[k.toNat]? = some v) : atI xs k = some v := by
  have e : k = (k.toNat : Int) := by omega
  rw [e]
  exact atI_nat h

theorem bb_len : bootBuiltins "len" = some (.builtin "len") := by decide +kernel
theorem bb_isinstance : bootBuiltins "isinstance" = some (.builtin "isinstance") := by decide +kernel
theorem bb_sorted : bootBuiltins "sorted" = some (.builtin "sorted") := by decide +kernel
theorem bb_int : bootBuiltins "int" = some (.type "int") := by decide +kernel
theorem bb_bool : bootBuiltins "bool" = some (.type "bool") := by decide +kernel
theorem bb_list : bootBuiltins "list" = some (.type "list") := by decide +kernel
theorem bb_tuple : bootBuiltins "tuple" = some (.type "tuple") := by decide +kernel
theorem bb_range : bootBuiltins "range" = some (.type "range") := by decide +kernel
theorem bb_enumerate : bootBuiltins "enumerate" = some (.type "enumerate") := by decide +kernel
end L2


namespace L2
open PySem PySem.Spec PyProof.Rows
section
variable {X : Cx}
theorem pg_tupK {K : PySem.W.Frag} {es : List Expr} {k : Nat} {t : TGs} {n : Nat} {pos : Pos} (hK : X.K = K) (hc : X.calm = true) (h : PGs X es t)
    (hn : (assignEach es X.env).length = n := by rfl) (hst : (assignEach es X.env).findIdx? (·.1) = none := by rfl) : PG X (.Tuple es k pos) (gTup K n t) := hK ▸ pg_tup hc h hn hst
theorem call_sorted : CallR X (.builtin "sorted") (fun xs H Q => ∃ (p : Addr) (ns : List Int), xs = [.ref p] ∧ SqL X.K H p (ns.map V.int) ∧ ns.length < 64 ∧ ∀ (ns' : List Int) (l : Addr), ns'.Perm ns → ns'.Pairwise (· ≤ ·) → H l = none → Q (.ref l) (upd H l (.lst (ns'.map V.int)))) := by
  intro pins s σ H xs us Q I r h
  obtain ⟨p, ns, rfl, hq, h64, q⟩ := h
  obtain ⟨u, rfl, ru⟩ := r.one
  cases ru
  obtain ⟨its, rv, pl, hz⟩ := I.list hq
  have hlen : ns.length = its.length := by have z := rv.length; rwa [List.length_map] at z
  refine sorted_ints pl.isList (intsAre_of rv) (by omega) fun out ns' a1 a2 a3 => ?_
  obtain ⟨e, he⟩ := sortedAll_at s.heap its out
  have hfr : H (s.heap.objs.size + 1) = none := I.hok.fresh (Nat.le_succ _)
  refine ⟨.ref (s.heap.objs.size + 1), _, I.laid (a := s.heap.objs.size + 1) (o := .lst (ns'.map V.int)) (t' := s.toks) (fun b o => sortedAll_old) (Nat.le_succ _) ⟨?_, out.toList, e, vals_ints a1, by simpa [seqObj] using he⟩, rfl, q ns' _ a2 a3 hfr⟩
  rw [List.length_map, a2.length_eq]
  exact Nat.le_trans (Nat.le_of_lt h64) (by decide)
theorem op_eq_ints (hu : X.A.units < cLine) : OpR X (compareOp .Eq) (fun x y H Q => ∃ (a b : Addr) (ns : List Int), x = .ref a ∧ y = .ref b ∧ SqL X.K H a (ns.map V.int) ∧ SqL X.K H b (ns.map V.int) ∧ Q (.bl true) H) := by
  intro pins s σ H x y v u Q I rx ry h
  obtain ⟨a, b, ns, rfl, rfl, ha, hb, q⟩ := h
  cases rx
  cases ry
  obtain ⟨i1, r1, p1, z1⟩ := I.list ha
  obtain ⟨i2, r2, p2, z2⟩ := I.list hb
  have l1 : ns.length = i1.length := by have z := r1.length; rwa [List.length_map] at z
  have l2 : ns.length = i2.length := by have z := r2.length; rwa [List.length_map] at z
  refine SeqAt.eq_listAt (e := fun _ => true) p1.isList p2.isList (by simp only [List.size_toArray]; omega) hu (fun j h1 h2 => ?_) ⟨.bl true, H, I, ?_, q⟩
  · have hj : j < ns.length := by simp only [List.size_toArray] at h1; omega
    have e0 : (ns.map V.int)[j]? = some (.int ns[j]) := by rw [List.getElem?_map, List.getElem?_eq_getElem hj]; rfl
    obtain ⟨u1, e1, t1, rfl⟩ := r1.get e0
    obtain ⟨u2, e2, t2, rfl⟩ := r2.get e0
    have f1 : i1.toArray[j] = Value.int ns[j] t1 := by
      have z : i1.toArray[j]? = some (Value.int ns[j] t1) := by simpa using e1
      exact (Array.getElem?_eq_some_iff.mp z).2
    have f2 : i2.toArray[j] = Value.int ns[j] t2 := by
      have z : i2.toArray[j]? = some (Value.int ns[j] t2) := by simpa using e2
      exact (Array.getElem?_eq_some_iff.mp z).2
    rw [f1, f2]
    have z := SeqAt.EqAt.int_int (A := X.A.in1) (s := s) ns[j] t1 ns[j] t2
    rw [beq_self_eq_true] at z
    exact z
  · have z : (List.range i1.toArray.size).all (fun _ => true) = true := List.all_eq_true.mpr fun _ _ => rfl
    show Value.bool _ = Value.bool true
    rw [z]
end
end L2

namespace L2
open PySem PySem.Spec PyProof.Rows

theorem ObjOk.obj {P : Program} {w : World} {H : Hp} {h : Heap} {a : Addr} : ∀ {o : HO}, ObjOk P w H h a o → ∃ u, h.get? a = some u := fun {o} x => by
  cases o with
  | lst xs => obtain ⟨_, _, _, _, e⟩ := x; exact ⟨_, e⟩
  | tup xs => obtain ⟨_, _, _, o, e, _⟩ := x; exact ⟨_, e⟩
  | dK kvs => obtain ⟨_, _, _, _, o, _, _, e, _⟩ := x; exact ⟨_, e⟩
  | dT kvs => obtain ⟨_, _, _, _, o, _, _, e, _⟩ := x; exact ⟨_, e⟩
  | set S n => obtain ⟨o, _, _, _, e, _⟩ := x; exact ⟨_, e⟩
  | ins C dx fs => obtain ⟨_, _, _, e, _⟩ := x; exact ⟨_, e⟩
  | own y => exact x
  | xd fs => obtain ⟨_, ⟨_, _, _, e, _⟩, _⟩ := x; exact ⟨_, e⟩
  | rng lo hi => obtain ⟨_, _, _, e⟩ := x; exact ⟨_, e⟩
  | frz ob u => obtain ⟨e, _⟩ := x; exact ⟨_, e⟩
  | tbl ps => exact ⟨_, (show h.get? a = some _ from x)⟩
  | met f y => exact ⟨_, (show h.get? a = some _ from x)⟩
  | ext φ => obtain ⟨_, e, _⟩ := x; exact e
noncomputable def noFr (h : Heap) (l : List Env) : Heap := PySem.W.hideAll h (frs l)
theorem noFr_get {h : Heap} {l : List Env} {b : Addr} {o : Obj} (e : h.get? b = some o) (n : b ∉ frs l) : (noFr h l).get? b = some o := PySem.W.hideAll_get _ e n
theorem of_noFr {h : Heap} {l : List Env} {b : Addr} {o : Obj} (e : (noFr h l).get? b = some o) : h.get? b = some o := PySem.W.of_hideAll _ e
theorem noFr_frames {h base : Heap} {l : List Env} (x : h.FunFrames base l) : h.FunFrames (noFr h l) l := PySem.W.funFrames_hide x fun env he a hf => List.mem_filterMap.mpr ⟨env, he, hf⟩

noncomputable def Sta (B : Heap) (l : List Env) (a : Addr) (cls : Value) (h : Heap) : Prop := ∃ a0,
  (B.StaysIn h ∧ B.get? a = none ∧ h.FunFrames B l ∧ ∃ oe vs, h.get? a = some oe ∧ oe.cls = cls ∧ oe.data = .fields vs ∧ vs[1]? = some .none ∧ vs[0]? = some a0) ∨
  Heap.FlyingW B l a cls a0 h ∨ ∃ L env outer, l = env :: outer ∧ env.frame = some L ∧ Heap.HeldW B l a cls a0 L h
theorem Sta.stays {B h : Heap} {l : List Env} {a : Addr} {cls : Value} (x : Sta B l a cls h) : B.StaysIn h := by
  obtain ⟨a0, x | x | ⟨_, _, _, _, _, x⟩⟩ := x
  · exact x.1
  · exact x.1
  · exact x.1
theorem Sta.frames {B h : Heap} {l : List Env} {a : Addr} {cls : Value} (x : Sta B l a cls h) : h.FunFrames B l := by
  obtain ⟨a0, x | x | ⟨_, _, _, _, _, x⟩⟩ := x
  · exact x.2.2.1
  · exact x.2.2.1
  · exact x.2.2.1
section
variable {M : Model} {A : Around} {E : Value → Shared → Prop} {s : Shared} {B : Heap} {env : Env} {outer : List Env} {L a : Addr} {cls : Value}
theorem sta_note {Q : Unit → Shared → Prop} (hfr : A.frames = some (env :: outer)) (hf : env.frame = some L) (x : Sta B (env :: outer) a cls s.heap)
    (hQ : ∀ h' a0, Heap.HeldW B (env :: outer) a cls a0 L h' → s.heap.UpToSlots h' → Q () { s with heap := h' }) : wpAny M A (noteFrame (.ref a) env) Q E s := by
  obtain ⟨a0, ⟨x1, x2, x3, oe, vs, he, hc, hd, h1, h0⟩ | x | ⟨L', env', outer', e1, e2, x⟩⟩ := x
  · unfold noteFrame
    simp only [hf]
    refine wpAny_bind (wpAny_field he hd h1 ?_)
    rw [if_neg (by decide)]
    refine wpAny_entryW hfr x3 hf he x1 x2 hd (Array.getElem?_eq_some_iff.mp h1).1 h0 fun h' hN => ?_
    obtain ⟨k1, k2, k3, k4⟩ := hN
    rw [hc] at k3
    exact hQ h' a0 ⟨k1, x2, k2, k3⟩ k4
  · exact wpAny_looks_onW hfr hf x fun h' k1 k2 => hQ h' a0 k1 k2
  · cases e1
    rw [hf] at e2
    cases e2
    exact wpAny_noteFrame_againW hf x.2.2.2 (hQ s.heap a0 x (Heap.UpToSlots.refl _))
theorem sta_leave {Q : Unit → Shared → Prop} (hfr : A.frames = some (env :: outer)) (hf : env.frame = some L) (x : Sta B (env :: outer) a cls s.heap)
    (hQ : ∀ h' a0, Heap.FlyingW B outer a cls a0 h' → s.heap.UpToSlots h' → Q () { s with heap := h' }) : wpAny M A (leaving env (.ref a)) Q E s := by
  unfold leaving
  refine wpAny_bind (sta_note hfr hf x fun h1 a0 k1 k2 => ?_)
  refine wpAny_landsW k1 fun h2 k3 k4 => ?_
  obtain ⟨c1, c2, ⟨_, _, c3⟩, c4⟩ := k3
  exact hQ h2 a0 ⟨c1, c2, c3, c4⟩ (k2.trans k4)
theorem held_back {F : Value → Shared → Prop} {a0 : Value} (hf : env.frame = some L) (x : Heap.HeldW B (env :: outer) a cls a0 L s.heap)
    (hQ : ∀ h', Heap.HeldW B (env :: outer) a cls a0 L h' → s.heap.UpToSlots h' → F (.ref a) { s with heap := h' }) : cameBackBy M A env F (.ref a) s := by
  obtain ⟨hkb, hen, hl, oe, vs, T, oT, ts, he, hcls, hd, h1, hnT, hTe, hT, hdT, h3⟩ := x
  unfold cameBackBy
  refine wpAny_bind (wpAny_field he hd h1 ?_)
  rw [if_neg (show ¬ ((Value.ref T == Value.none) = true) from Bool.false_ne_true)]
  rw [hf]
  have hsz3 : 3 < ts.size := (Array.getElem?_eq_some_iff.mp h3).1
  have other : ∀ b, b ≠ T → (s.heap.update T (Obj.mapFields (·.setIfInBounds 3 ((some L).elim Value.none fun f => rawInt f)))).get? b = s.heap.get? b := fun b hb => Heap.get?_update_other _ _ (Ne.symm hb)
  have noRecord : ∀ b o, s.heap.get? b = some o → (∀ vs, o.data ≠ .fields vs) → b ≠ T := fun b o hb hnf q => by
    rw [q, hT] at hb; injection hb with hb; subst hb; exact hnf ts hdT
  unfold setFlight
  refine wpAny_bind (wpAny_field he hd h1 ?_)
  rw [if_pos (show (Value.ref T != Value.none) = true from by simp)]
  refine wpAny_setField hT hdT hsz3 (hQ _ ⟨fun b o hbo => (other b fun q => by rw [q, hnT] at hbo; cases hbo).trans (hkb b o hbo), hen,
    hl.of_keeps fun b o hb hnf => ⟨o, (other b (noRecord b o hb hnf)).trans hb, rfl⟩, ?_⟩ fun b o hb hnf => ⟨o.slots, (other b (noRecord b o hb hnf)).trans hb⟩)
  exact ⟨oe, vs, T, _, _, (other a (Ne.symm hTe)).trans he, hcls, hd, h1, hnT, hTe, Heap.get?_update_self _ hT (Obj.isFreed_of_fields (Obj.data_mapFields hdT _)), Obj.data_mapFields hdT _, by simp [hsz3]⟩
end

structure XAt (P : Program) (w : World) (l : List Env) (ex : List Addr) (H : Hp) (s : Shared) (B : Heap) (a : Addr) (cls : Value) (H' : Hp) (s' : Shared) : Prop where
  os : s'.os = s.os
  bare : AllBare s'.gens
  un : Un (frs l) ex H H' s.heap s'.heap
  hok : HOk P w H' s'.heap
  na : H' a = none
  sta : Sta B l a cls s'.heap
  old : ∀ b o, s.heap.get? b = some o → b ∉ frs l → b ∉ ex → ∃ o', s'.heap.get? b = some o' ∧ B.get? b = some o'
  trk : ∀ b, H' b ≠ none → ∃ o, s'.heap.get? b = some o ∧ B.get? b = some o
theorem XAt.move {P : Program} {w : World} {l l' : List Env} {ex : List Addr} {H H' : Hp} {s s' : Shared} {B h' : Heap} {a : Addr} {cls : Value} (x : XAt P w l ex H s B a cls H' s') (k : s'.heap.UpToSlots h') (st : Sta B l' a cls h')
    (hsub : ∀ b ∈ frs l', b ∈ frs l) (hin : ∀ b o, s.heap.get? b = some o → b ∈ frs l → b ∈ frs l') (hx : ∀ b ∈ frs l, b ∉ ex) : XAt P w l' ex H s B a cls H' { s' with heap := h' } := by
  have sB := st.stays
  have nf : ∀ b ∈ frs l, ∀ o, s'.heap.get? b = some o → ∀ vs, o.data ≠ .fields vs := fun b hb o e => by
    obtain ⟨_, o', e', d⟩ := x.sta.frames.mem hb
    rw [e] at e'; cases e'
    exact d
  have oldK : ∀ b o, s.heap.get? b = some o → b ∉ frs l' → b ∉ ex → ∃ o', s'.heap.get? b = some o' ∧ B.get? b = some o' := fun b o e hb he => x.old b o e (fun z => hb (hin b o e z)) he
  refine ⟨x.os, x.bare, ⟨fun b o e n hb he => ?_, fun b o e n hb he => ?_, x.un.free, fun b o e he => ?_, x.un.tups, x.un.frzs, x.un.tbls⟩, fun b u e => ?_, x.na, st, fun b o e hb he => ?_, fun b hb => ?_⟩
  · have e1 := x.un.keep b o e n (fun z => hb (hin b o e z)) he
    obtain ⟨o', e2, e3⟩ := oldK b o e hb he
    rw [e1] at e2; cases e2
    exact sB b _ e3
  · obtain ⟨sl, e1⟩ := x.un.slot b o e n (hsub b hb) he
    obtain ⟨sl', e2⟩ := k b _ e1 (nf b (hsub b hb) _ e1)
    exact ⟨sl', e2⟩
  · by_cases hb : b ∈ frs l
    · obtain ⟨_, o', e', d⟩ := x.sta.frames.mem hb
      obtain ⟨sl', e2⟩ := k b _ e' d
      exact ⟨_, e2⟩
    · obtain ⟨o', _, e3⟩ := x.old b o e hb he
      exact ⟨o', sB b _ e3⟩
  · refine (x.hok b u e).stay (fun c v hc q => ?_) (fun _ q => q) fun _ _ q => q
    have hn : H' c ≠ none := by
      rcases hc with rfl | hc
      · rw [e]; exact fun z => nomatch z
      · rw [hc]; exact fun z => nomatch z
    obtain ⟨o', e1, e2⟩ := x.trk c hn
    rw [q] at e1; cases e1
    exact sB c _ e2
  · obtain ⟨o', _, e3⟩ := oldK b o e hb he
    exact ⟨o', sB b _ e3, e3⟩
  · obtain ⟨o', _, e3⟩ := x.trk b hb
    exact ⟨o', sB b _ e3, e3⟩

noncomputable def CXo (P : Program) (w : World) : CXT := fun outer H s E e s' => ∃ a cls H' B, e = .ref a ∧ XAt P w outer [] H s B a cls H' s' ∧ E cls none H'
noncomputable def BodyX (X : Cx) (E : XK) (e : Value) (s' : Shared) : Prop := ∃ a cls H' B, e = .ref a ∧ XAt X.prog X.w X.stack X.ex X.H₀ X.s₀ B a cls H' s' ∧ E cls none H'
section
variable {X : Cx} {E : XK}
theorem passX {F : Value → Shared → Prop} : Passes (CXo X.prog X.w) (X.wish (BodyX X E)) E := fun pins σ H s e s' I h => by
  have I := I.unwish
  obtain ⟨a, cls, H', B, rfl, x, hE⟩ := h
  have U : Un (frs X.stack) X.ex X.H₀ H X.s₀.heap s.heap := I.base.mono (fun b hb => by
    rcases I.ok.stk with z | ⟨z, _⟩
    · rw [z]; exact hb
    · rw [z]; unfold frs; rw [List.filterMap_cons]; split
      · exact hb
      · exact List.mem_cons_of_mem _ hb) fun b hb => hb
  have U2 : Un (frs X.stack) X.ex H H' s.heap s'.heap := x.un.mono (fun b hb => hb) fun b hb => absurd hb (by simp)
  refine ⟨a, cls, H', B, rfl, ⟨x.os.trans I.os, x.bare, U.trans U2, x.hok, x.na, x.sta, fun b o q hb he => ?_, x.trk⟩, hE⟩
  obtain ⟨o1, e1⟩ := U.there b o q he
  exact x.old b o1 e1 hb (by simp)
end
structure Own (X : Cx) : Prop where
  ok : X.Ok
  top : X.stack = X.env :: X.outer
  fr : X.env.frame = some X.env.locals
  ex : X.ex = []
theorem Own.loc {X : Cx} (o : Own X) : ∀ b o', X.s₀.heap.get? b = some o' → b ∈ frs X.stack → b ∈ frs X.outer := fun b o' e hb => by
  rw [o.top] at hb
  unfold frs at hb
  rw [List.filterMap_cons, o.fr] at hb
  rcases List.mem_cons.mp hb with z | z
  · subst z
    exact absurd (Nat.lt_of_lt_of_le (Heap.lt_size e) o.ok.above) (Nat.lt_irrefl _)
  · exact z
theorem own_passes {X : Cx} {E : XK} (O : Own X) : PassesOwn (model X.prog X.w) X.A X.env (BodyX X E) := fun e s' h => by
  obtain ⟨a, cls, H', B, rfl, x, hE⟩ := h
  have hfr : X.A.frames = some (X.env :: X.outer) := by rw [← O.top]; exact O.ok.frames
  have x' := x
  have st := x.sta
  rw [O.top] at st
  show wpAny _ _ (noteFrame (.ref a) X.env) _ _ s'
  refine sta_note hfr O.fr st fun h1 a0 k1 k2 => ?_
  have x1 : XAt X.prog X.w X.stack X.ex X.H₀ X.s₀ B a cls H' { s' with heap := h1 } := x.move k2 (by rw [O.top]; exact ⟨a0, .inr (.inr ⟨_, _, _, rfl, O.fr, k1⟩)⟩) (fun b hb => hb) (fun b o _ hb => hb) fun b _ => by rw [O.ex]; simp
  refine held_back (s := { s' with heap := h1 }) O.fr k1 fun h2 k3 k4 => ?_
  exact ⟨a, cls, H', B, rfl, x1.move k4 (by rw [O.top]; exact ⟨a0, .inr (.inr ⟨_, _, _, rfl, O.fr, k3⟩)⟩) (fun b hb => hb) (fun b o _ hb => hb) fun b _ => by rw [O.ex]; simp, hE⟩

structure ECls (K : PySem.W.Frag) (mg : Str → Option Value) (x : Str) (C : Addr) : Prop where
  g : mg x = some (.ref C)
  ex : ∃ bm newId B initId, PySem.W.excIn K C bm newId = true ∧ ExcBaseFacts B newId initId bm
noncomputable def tRaise (C : Addr) (t : TA) (E : XK) : TS := fun _ σ H => t σ H fun vs H1 => vs.length ≤ sizeLine ∧ E (.ref C) none H1
theorem ecls_obj {K : PySem.W.Frag} {C : Addr} {bmB : List Value} {newId : String} {h : Heap} (X : K.In h) (q : PySem.W.excIn K C bmB newId = true) :
    ∃ bm ns nm qn bs hd sn sub ab col dd k0 k1 k2 k3 k5 mN, h.get? C = some (excClassObj nm qn C ns bs bm hd sn sub ab col dd k0 k1 k2 k3 k5 newId) ∧ h.Ns ns mN ∧ mN "__init__" = none ∧ OwnTail h bmB bm := by
  unfold PySem.W.excIn at q
  split at q
  · rename_i dd cd sl ho
    split at q
    · rename_i C' bm k0 k1 k2 k3 n k5 hm hs
      simp only [Bool.and_eq_true, beq_iff_eq, Bool.not_eq_true'] at q
      obtain ⟨⟨⟨⟨⟨rfl, rfl⟩, hdel⟩, ht⟩, hok⟩, hni⟩ := q
      obtain ⟨nm, bs, mro, ns, qn, hd, sn, sub, ab, col, del⟩ := cd
      dsimp only at hm hdel hok hni
      subst hm hdel
      have hsl : sl = #[k0, k1, k2, k3, some (.builtin n), k5] := by
        obtain ⟨l⟩ := sl
        simp only at hs
        rw [hs]
      subst hsl
      exact ⟨bm, ns, nm, qn, bs, hd, sn, sub, ab, col, dd, k0, k1, k2, k3, k5, _, X _ _ ho, .of_isNs (PySem.W.isNs_of_in X hok), PySem.W.nsMap_none_of_in X hok hni, PySem.W.tail_of_in X ht⟩
    · cases q
  · cases q
theorem ps_raise {X : Cx} {E : XK} {x : Str} {C : Addr} {np cpos pos : Pos} {e₀ : Expr} {rest : List Expr} {t : TA} (hc : X.calm = true) (Z : ECls X.K X.mg x C) (ha : PA (X.wish (BodyX X E)) (e₀ :: rest) t)
    (hg : Gl X x := by rfl) (hdb : (x == ("__debug__" : Str)) = false := by decide) (he : starEach (e₀ :: rest) X.env = (false, eval e₀ X.env) :: starEach rest X.env := by rfl) (hplain : (backTo cpos (starEach rest X.env)).any (·.1) = false := by rfl) :
    PS (X.wish (BodyX X E)) (.Raise (some (.Call (.Name x np) (e₀ :: rest) [] cpos)) none pos) (tRaise C t E) := by
  intro pins s σ H D I h
  obtain ⟨bmB, newId, Bn, initId, q, FB⟩ := Z.ex
  obtain ⟨bm, ns, nm, qn, bs, hd, sn, sub, ab, col, dd, k0, k1, k2, k3, k5, mN, hC, hN, hni, T⟩ := ecls_obj I.kIn q
  have hA := ha cpos pins s σ H _ I h
  rw [show starEach (e₀ :: rest) (X.wish (BodyX X E)).env = (false, eval e₀ X.env) :: starEach rest X.env from he] at hA
  refine wpAny_Raise_call_subT (C := C) (nm := nm) (q := qn) (N := ns) (bs := bs) (bm := bm) (hdct := hd) (sn := sn) (sub := sub) (ab := ab) (col := col) (dd := dd) (k0 := k0) (k1 := k1) (k2 := k2) (k3 := k3) (k5 := k5)
    FB (mN := mN) (T.hasType FB.hasBase) (I.ok.hd hc) (by show (backTo cpos (starEach (e₀ :: rest) X.env)).any (·.1) = false; rw [he]; show (false || (backTo cpos (starEach rest X.env)).any (·.1)) = false; rw [hplain]; rfl) hni (ld_glob I hg Z.g ⟨rfl, ?_⟩ hdb)
  show wpAny _ _ (evalArgs (.ref C) true (backTo cpos (starEach (e₀ :: rest) X.env)) []) _ _ s
  rw [he]
  refine Calls.evalArgs_plain (wpAny_mono hA (fun us s2 h2 => ?_) fun _ _ y => y)
  obtain ⟨vs, H2, I2, r2, hz, hE⟩ := h2
  obtain ⟨bm', ns', nm', qn', bs', hd', sn', sub', ab', col', dd', k0', k1', k2', k3', k5', mN', hC2, hN2, hni2, T2⟩ := ecls_obj I2.kIn q
  have J := I2.unwish
  have st : ∀ b o, X.base.get? b = some o → s2.heap.get? b = some o := J.bk
  have hC' : s2.heap.get? C = some (excClassObj nm qn C ns bs bm hd sn sub ab col dd k0 k1 k2 k3 k5 newId) := by
    obtain ⟨bm3, ns3, nm3, qn3, bs3, hd3, sn3, sub3, ab3, col3, dd3, k03, k13, k23, k33, k53, mN3, hC3, hN3, hni3, T3⟩ := ecls_obj J.ok.mod.kin q
    have e1 := (I.unwish.bk _ _ hC3).symm.trans hC
    cases e1
    exact st _ _ hC3
  have hN' : s2.heap.Ns ns mN := by
    obtain ⟨bm3, ns3, nm3, qn3, bs3, hd3, sn3, sub3, ab3, col3, dd3, k03, k13, k23, k33, k53, mN3, hC3, hN3, hni3, T3⟩ := ecls_obj J.ok.mod.kin q
    have e1 := (I.unwish.bk _ _ hC3).symm.trans hC
    injection e1 with e1
    injection e1 with _ _ e1 _
    injection e1 with e1
    injection e1 with _ _ _ e1 _ _ _ _ _ _ _
    subst e1
    have f1 := hN3.keeps I.unwish.bk
    have f2 := hN3.keeps st
    obtain ⟨o1, es1, ep1, g1, g2, g3, g4⟩ := f1
    obtain ⟨o2, es2, ep2, j1, j2, j3, j4⟩ := hN
    rw [g1] at j1; cases j1
    rw [g2] at j2; cases j2
    have em : mN3 = mN := by funext y; rw [← g4 y, ← j4 y]
    rw [← em]
    exact f2
  have T' : OwnTail s2.heap bmB bm := by
    obtain ⟨bm3, ns3, nm3, qn3, bs3, hd3, sn3, sub3, ab3, col3, dd3, k03, k13, k23, k33, k53, mN3, hC3, hN3, hni3, T3⟩ := ecls_obj J.ok.mod.kin q
    have e1 := (I.unwish.bk _ _ hC3).symm.trans hC
    injection e1 with e1
    injection e1 with _ _ e1 _
    injection e1 with e1
    injection e1 with _ _ e1 _ _ _ _ _ _ _ _
    injection e1 with _ e1
    rw [← e1]
    exact T3.keeps st
  refine ⟨rfl, by show us.length ≤ sizeLine; rw [← r2.length]; exact hz, hC', hN', T', fun h' a hx => ?_⟩
  have U : Un (frs X.stack) X.ex X.H₀ H2 X.s₀.heap s2.heap := J.base.mono (fun b hb => by
    rcases J.ok.stk with z | ⟨z, _⟩
    · rw [z]; exact hb
    · rw [z]; unfold frs; rw [List.filterMap_cons]; split
      · exact hb
      · exact List.mem_cons_of_mem _ hb) fun b hb => hb
  obtain ⟨t0, ht1, ht2, ht3⟩ := hx.there
  refine ⟨a, .ref C, H2, noFr s2.heap X.stack, rfl, ⟨J.os, J.bare, U.trans (Un.kept hx.keeps), J.hok.kept hx.keeps, ?_, ⟨_, .inl ⟨fun b o e => hx.keeps b o (of_noFr e), ?_, ?_, _, _, ht1, rfl, rfl, rfl, rfl⟩⟩, fun b o e hb he => ?_, fun b hb => ?_⟩, hE⟩
  · cases z : H2 a with
    | none => rfl
    | some u =>
      obtain ⟨o, e⟩ := (J.hok a u z).obj
      rw [hx.new] at e; cases e
  · cases z : (noFr s2.heap X.stack).get? a with
    | none => rfl
    | some o => have := of_noFr z; rw [hx.new] at this; cases this
  · exact (noFr_frames J.stack).of_keeps fun b o e _ => ⟨o, hx.keeps b o e, rfl⟩
  · obtain ⟨o1, e1⟩ := U.there b o e he
    exact ⟨o1, hx.keeps b o1 e1, noFr_get e1 hb⟩
  · obtain ⟨u, hu⟩ := Option.ne_none_iff_exists'.mp hb
    obtain ⟨o, e⟩ := (J.hok b u hu).obj
    exact ⟨o, hx.keeps b o e, noFr_get e fun z => hb (J.stkFree b z)⟩

theorem Fun.okX {P : Program} {w : World} {K : PySem.W.Frag} {mg : Str → Option Value} {base : Heap} {x qual : Str} {st : Stmt} {f : Addr} {fd : FuncData} {N ps : List Str} {k : Nat} {sp : Sp} (F : Fun K x qual st f fd) (S : FnScope N ps (defScope st)) (len : ∀ vs H Q E, sp vs H Q E → vs.length = ps.length)
    (hbody : ∀ (cdv : Value) (A : Around) (outer : List Env) (s : Shared) (H : Hp) (vs : List V) (Q : VK) (E : XK), Room k (A.deeper (envOfC qual (defScope st) s.heap.objs.size f cdv)) → sp vs H Q E → ∀ X : Cx, X = cxOf (CXo P w) P w K mg base N qual (defScope st) f cdv A outer s H E →
      ∃ t, PSs (X.wish (BodyX X E)) (defBody st) t ∧ t { nx := fun _ H' => Q .non H', rt := Q } (start N vs) H) : FnOk P w K mg base (CXo P w) (k + 1) f fd ps sp := by
  obtain ⟨oc, od, kV, doc, pm, an, cdv, ct, osl, rfl, lk, hcd⟩ := F.ex
  refine fn_of lk hcd S len fun A outer s H vs Q E hr hsp => ?_
  obtain ⟨t, h, q⟩ := hbody cdv A outer s H vs Q E hr hsp _ rfl
  refine ⟨t, fun pins s1 σ H1 D I hw => ?_, q⟩
  refine wpAny_mono (h pins s1 σ H1 D (I.wish _) hw) (fun _ _ q => q.unwish) fun e s' hx => ?_
  obtain ⟨a, cls, H', B, rfl, x, hE⟩ := hx
  have O : Own (cxOf (CXo P w) P w K mg base N qual (defScope st) f cdv A outer s H E) := ⟨I.ok, rfl, rfl, rfl⟩
  show wpAny (model P w) _ (leaving _ (.ref a)) _ _ s'
  refine sta_leave (outer := outer) I.ok.frames rfl x.sta fun h' a0 k1 k2 => ?_
  refine ⟨a, cls, H', B, rfl, x.move k2 ⟨a0, .inr (.inl k1)⟩ (fun b hb => List.mem_cons_of_mem _ hb) O.loc fun b _ => by simp [cxOf], hE⟩
end L2

namespace L2
open PySem PySem.Spec PyProof.Rows
section
variable {X : Cx} {pins : List (Addr × Obj)} {σ : St} {H : Hp} {s : Shared}
theorem Inv.unname {i : Nat} {x : Str} {h' : Heap} {m' : Str → Option Value} {t' : Nat} (I : Inv X pins σ H s) (hN : X.N.Nodup) (hi : X.N[i]? = some x) (hm : ∀ m, s.heap.Ns X.env.locals m → ∃ v, h'.Ns X.env.locals (fun y => if y = x then v else m y))
    (hs : Heap.SameBut X.env.locals s.heap h') : Inv X pins (σ.set i none) H { s with heap := h', toks := t' } := by
  obtain ⟨m, hn, hl⟩ := id I.loc
  obtain ⟨v0, hn'⟩ := hm m hn
  have cne := I.cne
  have hiσ : i < σ.length := by rw [I.len]; exact (List.getElem?_eq_some_iff.mp hi).1
  refine ⟨I.ok, I.os, I.bare, ⟨fun b o e n hb hx => ?_, fun b o e n hb hx => ?_, I.base.free, fun b o e hx => ?_, I.base.tups, I.base.frzs, I.base.tbls⟩, ⟨_, hn', fun j y v' e1 e2 e3 => ?_⟩, fun y c e => ?_, I.free, I.freeC, fun p hp => ?_, fun b ob e => ?_, by simpa using I.len⟩
  · exact (hs.2 b (Nat.ne_of_lt (Nat.lt_of_lt_of_le (Heap.lt_size e) I.ok.above))).trans (I.base.keep b o e n hb hx)
  · obtain ⟨sl, e1⟩ := I.base.slot b o e n hb hx
    exact ⟨sl, (hs.2 b (Nat.ne_of_lt (Nat.lt_of_lt_of_le (Heap.lt_size e) I.ok.above))).trans e1⟩
  · obtain ⟨o', e1⟩ := I.base.there b o e hx
    exact ⟨o', (hs.2 b (Nat.ne_of_lt (Nat.lt_of_lt_of_le (Heap.lt_size e) I.ok.above))).trans e1⟩
  · by_cases hj : j = i
    · subst hj
      rw [List.getElem?_set_self hiσ] at e2
      cases e2
    · rw [List.getElem?_set_ne (Ne.symm hj)] at e2
      obtain ⟨u', r', q⟩ := hl j y v' e1 e2 e3
      refine ⟨u', r', ?_⟩
      rcases q with ⟨k, e⟩ | ⟨k, c, e, z⟩
      · refine .inl ⟨k, ?_⟩
        have : y ≠ x := fun e => hj (nodup_ix hN e1 (e ▸ hi))
        simp [this, e]
      · exact .inr ⟨k, c, e, z.sameBut hs (cne y c e)⟩
  · obtain ⟨w', z⟩ := I.cell y c e
    exact ⟨w', z.sameBut hs (cne y c e)⟩
  · obtain ⟨e, n, ne, nf, d⟩ := I.pin p hp
    exact ⟨(hs.2 p.1 ne).trans e, n, ne, nf, d⟩
  · refine (I.hok b ob e).stay (fun c w' hc q => (hs.2 c ?_).trans q) (fun _ q => q) fun _ _ q => q
    rintro rfl
    rcases hc with rfl | hc
    · rw [I.free] at e; cases e
    · rw [I.free] at hc; cases hc
end
noncomputable def cxSuite (X : Cx) (a : Addr) (oe : Obj) : Cx := { X with A := X.A.mark (some (.ref a)), calm := false, pn := X.pn ++ [(a, oe)], xe := fun _ _ => False }
section
variable {X : Cx} {pins : List (Addr × Obj)} {σ : St} {H : Hp} {s : Shared} {a : Addr} {oe : Obj}
theorem Inv.suite (I : Inv X pins σ H s) (e : s.heap.get? a = some oe) (hn : H a = none) (hl : a ≠ X.env.locals) (hf : a ∉ X.fs) (hd : ∀ v, oe.data ≠ .cell v) : Inv (cxSuite X a oe) pins σ H s := by
  refine ⟨⟨I.ok.mod, I.ok.kind, I.ok.glob, I.ok.blt, I.ok.above, I.ok.inj, I.ok.has, I.ok.cab, fun z => (Bool.false_ne_true z).elim, I.ok.frames, I.ok.stk, I.ok.exf, I.ok.bs, I.ok.bsz, I.ok.noex, I.ok.exfs, I.ok.funs, I.ok.frf⟩, I.os, I.bare, I.base, I.loc, I.cell, I.free, I.freeC, fun p hp => ?_, I.hok, I.len⟩
  have hp : p ∈ (X.pn ++ [(a, oe)]) ++ pins := hp
  rcases List.mem_append.mp hp with z | z
  · rcases List.mem_append.mp z with z | z
    · exact I.pin p (List.mem_append_left _ z)
    · have z : p = (a, oe) := by simpa using z
      subst z
      exact ⟨e, hn, hl, hf, hd⟩
  · exact I.pin p (List.mem_append_right _ z)
theorem Inv.unsuite (ok : X.Ok) (I : Inv (cxSuite X a oe) pins σ H s) : Inv X pins σ H s :=
  ⟨ok, I.os, I.bare, I.base, I.loc, I.cell, I.free, I.freeC, fun p hp => I.pin p (by
    show p ∈ (X.pn ++ [(a, oe)]) ++ pins
    rcases List.mem_append.mp hp with z | z
    · exact List.mem_append_left _ (List.mem_append_left _ z)
    · exact List.mem_append_right _ z), I.hok, I.len⟩
end
noncomputable def PEX (X : Cx) (e : Expr) (t : XK → TE) : Prop :=
  ∀ (E : XK) (pins : List (Addr × Obj)) (s : Shared) (σ : St) (H : Hp) (Q : VK), Inv X pins σ H s → t E σ H Q →
    wpAny (model X.prog X.w) X.A (eval e X.env) (EP X pins σ Q) (fun e s' => ∃ H1 s1, Inv X pins σ H1 s1 ∧ CXo X.prog X.w X.stack H1 s1 E e s') s
theorem pex_fn {X : Cx} {x : Str} {st : Stmt} {ps : List Str} {f : Addr} {fd : FuncData} {k : Nat} {sp : Sp} {e : Expr} {es : List Expr} {t : TA} {p pos : Pos} (G : FnOk X.prog X.w X.K X.mg X.base (CXo X.prog X.w) k f fd ps sp) (F : Fn X.K X.mg x st ps f fd) (hr : Room k X.A) (ha : PA X.nox (e :: es) t)
    (hg : Gl X x := by rfl) (hdb : (x == ("__debug__" : Str)) = false := by decide) (he : starEach (e :: es) X.env = (false, eval e X.env) :: starEach es X.env := by rfl) (hpl : (backTo pos (starEach es X.env)).any (·.1) = false := by rfl) :
    PEX X (.Call (.Name x p) (e :: es) [] pos) (fun E => tCall sp [] E t) := by
  intro E pins s σ H Q I h
  refine wpAny_Call_Name_kw (ld_glob I hg F.g ?_ hdb)
  refine PySem.W.callWith_K (h₀ := X.base) I.ok.mod.kin F.fn.kp (quietX (ha pos pins s σ H _ (I.wish _) h) fun us s1 ⟨vs, H1, I1, r, q⟩ => ⟨I1.kIn, ?_⟩) he hpl
  have I1 := I1.unwish
  have q' : sp (vs ++ []) H1 Q E := q
  rw [List.append_nil] at q'
  have hl : us.length = ps.length := by rw [← r.length]; exact G.len _ _ _ _ q'
  have hb := F.b s1 us I1.kIn (by rw [List.append_nil]; exact hl)
  rw [List.append_nil] at hb
  refine wpAny_call (codeAny_mono (G.run X.A X.stack s1 H1 ⟨us, []⟩ us vs Q E hr I1.env0 hb r q') fun r s' hq => ?_)
  cases r with
  | error e => exact ⟨H1, s1, I1, hq⟩
  | ok fl =>
    cases fl with
    | ret u => exact I1.after hq
    | next => exact False.elim hq
    | brk => exact False.elim hq
    | cont => exact False.elim hq
end L2

namespace L2
open PySem PySem.Spec PyProof.Rows
section
variable {X : Cx}
theorem ps_sem {b : List Stmt} {R : TS} (h : ∀ D σ H, R D σ H → ∃ t, PSs X b t ∧ t D σ H) : PSs X b R := fun pins s σ H D I hw => by
  obtain ⟨t, ht, hq⟩ := h D σ H hw
  exact ht pins s σ H D I hq
theorem passF : Passes (CXo X.prog X.w) X E0 := fun _ _ _ _ _ _ _ h => by
  obtain ⟨_, _, _, _, _, _, z⟩ := h
  exact z.elim
theorem pe_fnF {x : Str} {st : Stmt} {ps : List Str} {f : Addr} {fd : FuncData} {k : Nat} {sp : Sp} {e : Expr} {es : List Expr} {t : TA} {p pos : Pos} (G : FnOk X.prog X.w X.K X.mg X.base (CXo X.prog X.w) k f fd ps sp) (F : Fn X.K X.mg x st ps f fd) (hr : Room k X.A) (ha : PA X (e :: es) t)
    (hg : Gl X x := by rfl) (hdb : (x == ("__debug__" : Str)) = false := by decide) (he : starEach (e :: es) X.env = (false, eval e X.env) :: starEach es X.env := by rfl) (hpl : (backTo pos (starEach es X.env)).any (·.1) = false := by rfl) :
    PE X (.Call (.Name x p) (e :: es) [] pos) (tCall sp [] E0 t) := pe_call G hr hg F.g F.fn.kp F.b .nil passF ha hdb he hpl
theorem pe_fnX {E : XK} {x : Str} {st : Stmt} {ps : List Str} {f : Addr} {fd : FuncData} {k : Nat} {sp : Sp} {e : Expr} {es : List Expr} {t : TA} {p pos : Pos} (G : FnOk X.prog X.w X.K X.mg X.base (CXo X.prog X.w) k f fd ps sp) (F : Fn X.K X.mg x st ps f fd) (hr : Room k X.A) (ha : PA (X.wish (BodyX X E)) (e :: es) t)
    (hg : Gl (X.wish (BodyX X E)) x := by rfl) (hdb : (x == ("__debug__" : Str)) = false := by decide) (he : starEach (e :: es) X.env = (false, eval e X.env) :: starEach es X.env := by rfl) (hpl : (backTo pos (starEach es X.env)).any (·.1) = false := by rfl) :
    PE (X.wish (BodyX X E)) (.Call (.Name x p) (e :: es) [] pos) (tCall sp [] E t) := pe_call (X := X.wish (BodyX X E)) G hr hg F.g F.fn.kp F.b .nil (passX (F := fun _ _ => True)) ha hdb he hpl

theorem Fun.okX2 {P : Program} {w : World} {K : PySem.W.Frag} {mg : Str → Option Value} {base : Heap} {x qual : Str} {st : Stmt} {f : Addr} {fd : FuncData} {N ps : List Str} {k : Nat} {sp : Sp} (F : Fun K x qual st f fd) (S : FnScope N ps (defScope st)) (len : ∀ vs H Q E, sp vs H Q E → vs.length = ps.length)
    (hbody : ∀ (cdv : Value) (A : Around) (outer : List Env) (s : Shared) (H : Hp) (vs : List V) (Q : VK) (E : XK), Room k (A.deeper (envOfC qual (defScope st) s.heap.objs.size f cdv)) → sp vs H Q E → Own (cxOf (CXo P w) P w K mg base N qual (defScope st) f cdv A outer s H E) →
      ∃ t, PSs ((cxOf (CXo P w) P w K mg base N qual (defScope st) f cdv A outer s H E).wish (BodyX (cxOf (CXo P w) P w K mg base N qual (defScope st) f cdv A outer s H E) E)) (defBody st) t ∧ t { nx := fun _ H' => Q .non H', rt := Q } (start N vs) H) : FnOk P w K mg base (CXo P w) (k + 1) f fd ps sp := by
  refine F.okX S len fun cdv A outer s H vs Q E hr h X hX => ?_
  subst hX
  by_cases ok : (cxOf (CXo P w) P w K mg base N qual (defScope st) f cdv A outer s H E).Ok
  · exact hbody cdv A outer s H vs Q E hr h ⟨ok, rfl, rfl, rfl⟩
  · exact ⟨fun _ _ _ => True, fun pins s σ H D I _ => absurd I.ok.unwish ok, trivial⟩
theorem Fun.okO {P : Program} {w : World} {K : PySem.W.Frag} {mg : Str → Option Value} {base : Heap} {x qual : Str} {st : Stmt} {f : Addr} {fd : FuncData} {N ps : List Str} {k : Nat} {sp : Sp} (F : Fun K x qual st f fd) (S : FnScope N ps (defScope st)) (len : ∀ vs H Q E, sp vs H Q E → vs.length = ps.length)
    (hbody : ∀ (cdv : Value) (A : Around) (outer : List Env) (s : Shared) (H : Hp) (vs : List V) (Q : VK) (E : XK), Room k (A.deeper (envOfC qual (defScope st) s.heap.objs.size f cdv)) → sp vs H Q E → Own (cxOf CX0 P w K mg base N qual (defScope st) f cdv A outer s H E).nox →
      ∃ t, PSs (cxOf CX0 P w K mg base N qual (defScope st) f cdv A outer s H E).nox (defBody st) t ∧ t { nx := fun _ H' => Q .non H', rt := Q } (start N vs) H) : FnOk P w K mg base CX0 (k + 1) f fd ps sp := by
  refine F.ok S len fun cdv A outer s H vs Q E hr h => ?_
  by_cases ok : (cxOf CX0 P w K mg base N qual (defScope st) f cdv A outer s H E).nox.Ok
  · exact hbody cdv A outer s H vs Q E hr h ⟨ok, rfl, rfl, rfl⟩
  · exact ⟨fun _ _ _ => True, fun pins s σ H D I _ => absurd I.ok ok, trivial⟩

theorem Room.lt {k : Nat} {A : Around} (r : Room k A) (n : Nat) (h : n ≤ 62) : A.units + n + 1 < cLine := by have := r.units; omega

noncomputable def PJ (X : Cx) (es : List Expr) (m : Nat) (t : St → Hp → Prop) : Prop :=
  ∀ (pins : List (Addr × Obj)) (s : Shared) (σ : St) (H : Hp) (out : Str) (Q : Value → Shared → Prop), Inv X pins σ H s → t σ H → out.length + m ≤ sizeLine → (∀ x tk s', Inv X pins σ H s' → Q (.str x tk) s') →
    wpAny (model X.prog X.w) X.A (joinParts out (evalEach es X.env)) Q X.xe s
noncomputable def jNil : St → Hp → Prop := fun _ _ => True
noncomputable def jInt (te : TE) (t : St → Hp → Prop) : St → Hp → Prop := fun σ H => te σ H fun v H' => H' = H ∧ (∃ i : Int, v = .int i ∧ i.natAbs.log2 < 1920) ∧ t σ H
theorem pj_nil : PJ X [] 0 jNil := fun pins s σ H out Q I _ hz q => joinParts_nil (q _ _ _ (I.tok _)) (by omega)
theorem pj_str {x : Str} {j} {pos : Pos} {es : List Expr} {m : Nat} {t : St → Hp → Prop} (h : PJ X es m t) : PJ X (.Constant (.str x) j pos :: es) (x.length + m) t := fun pins s σ H out Q I ht hz q => by
  show wpAny _ _ (joinParts out (eval (.Constant (.str x) j pos) X.env :: evalEach es X.env)) Q _ s
  have e : (out ++ x).length = out.length + x.length := strLen_append _ _
  refine joinParts_cons (Calls.Constant_str ?_)
  exact ⟨by rw [e]; omega, h pins _ σ H (out ++ x) Q (I.tok _) ht (by rw [e]; omega) q⟩
theorem pj_int {a : Expr} {pos : Pos} {es : List Expr} {m : Nat} {t : St → Hp → Prop} {te : TE} (ha : PE X a te) (h : PJ X es m t) : PJ X (.FormattedValue a (-1) none pos :: es) (1921 + m) (jInt te t) := fun pins s σ H out Q I ht hz q => by
  show wpAny _ _ (joinParts out (eval (.FormattedValue a (-1) none pos) X.env :: evalEach es X.env)) Q _ s
  refine joinParts_cons (FormattedValue_plain (thn (ha pins s σ H _ I ht) fun u s1 h1 => ?_))
  obtain ⟨v, H1, I1, r, rfl, ⟨i, rfl, hi⟩, ht1⟩ := h1
  obtain ⟨tk, rfl⟩ := r
  have l1 := int_text_length_le (k := 1920) (by decide) hi
  have e : (out ++ Str.ofString (toString i)).length = out.length + (toString i).length := by rw [strLen_append, PySem.ofString_length]
  refine formatField_int_small hi ?_
  exact ⟨by rw [e]; omega, h pins _ σ H1 (out ++ Str.ofString (toString i)) Q (I1.tok _) ht1 (by rw [e]; omega) q⟩
noncomputable def tFs (t : St → Hp → Prop) : TE := fun σ H Q => t σ H ∧ ∀ x, Q (.str x) H
theorem pe_fs {a b : Expr} {es : List Expr} {pos : Pos} {m : Nat} {t : St → Hp → Prop} (h : PJ X (a :: b :: es) m t) (hm : m ≤ 1000000) : PE X (.JoinedStr (a :: b :: es) pos) (tFs t) := fun pins s σ H Q I hw => by
  have e : Str.empty.length = 0 := rfl
  have z : sizeLine = 16777216 := sizeLine_eq
  exact JoinedStr_many (h pins s σ H Str.empty _ I hw.1 (by rw [e, z]; omega) fun x tk s' I' => ⟨.str x, H, I', ⟨_, rfl⟩, hw.2 x⟩)
end

open PySem.W in
structure ExK (K : Frag) (D : Addr) : Prop where
  ga : findIn K (.ref D) "__getattribute__" = some (some (.builtin "BaseException.__getattribute__"))
  gt : findIn K (.ref D) "__getattr__" = some none
  cl : findIn K (.ref D) "__class__" = some (some (.builtin "object.__class__"))
  sp : specialIn K (.builtin "object.__class__") "__get__" = some (some (.builtin "getset_descriptor.__get__"))
  tk : takesIn K (.builtin "object.__class__") = some true
  mo : mroIn K D (.type "object") = some true
  mb : mroIn K D (.type "BaseException") = some true
  hd : (clsIn K D).isSome = true
section
open PySem.W PySem.Calls Builtin Builtin.ObjectAttr Builtin.Getset_descriptor
variable {prog : Program} {w : World} {A : Around} {E : Value → Shared → Prop} {K : Frag} {x D : Addr} {hp : Heap} {gs : Array GenState} {dr : Drawn} {tn : Nat} {os : OsState}
theorem find_class (kin : K.In hp) (Z : ExK K D) (M : Model) : Looks M hp (Builtin.ObjectAttr.find (.ref x) (.ref D) "__class__") (.bind (.builtin "getset_descriptor.__get__") (.builtin "object.__class__")) := by
  refine (looks_findIn (M := M) kin Z.cl).andThen ?_
  refine (looks_specialIn (M := M) kin Z.sp).andThen ?_
  refine Looks.andThen (a := some (.builtin "getset_descriptor.__get__", .builtin "object.__class__")) ?_ (Looks.tag .now)
  refine (looks_takesIn (M := M) kin Z.tk).andThen ?_
  exact .now
theorem exc_class_get {R : Result → Shared → Prop} {tp : Value} (kin : K.In hp) (LT : ∀ M : Model, Looks M hp (typeOf (.ref x)) (.ref D)) (Z : ExK K D) (h : R (.ok (.ret (.ref D))) ⟨hp, gs, dr, tn, os⟩) :
    codeAny (model prog w) A (.call (.builtin "getset_descriptor.__get__") ⟨[.builtin "object.__class__", .ref x, tp], []⟩) R ⟨hp, gs, dr, tn, os⟩ := by
  have la := LT (model prog w)
  have lb := looks_mroIn (M := model prog w) kin Z.mo
  refine codeAny_call_builtin KF.slot_gs.plain KF.entry_gs (KF.slot_gs.check _ _ _ _ _ _ _ _ KF.type_class (KF.args_gs _ _ _) ?_)
  unfold Builtin.«getset_descriptor.__get__» descrGet; rw [dga_obj]
  refine wpAny_bind (wpAny_pure ?_)
  unfold descrGetter descrCheckInstance descrNameAndClass isInstance; simp only [KF.owner_class]
  repeat lk
  refine ⟨Code.quiet_builtin _ (by decide +kernel), codeAny_builtin KF.entry_class ?_⟩
  unfold Builtin.«object.__class__» shownTypeOf; repeat lk
  exact h
theorem exc_entry {Q : Fin → Shared → Prop} {tk : Tok} (kin : K.In hp) (LT : ∀ M : Model, Looks M hp (typeOf (.ref x)) (.ref D)) (Z : ExK K D) (h : Q (.done (.ret (.ref D))) ⟨hp, gs, dr, tn, os⟩) :
    wpAny (model prog w) A (Builtin.«object.__getattribute__» ⟨[.ref x, .str "__class__" tk], []⟩) Q E ⟨hp, gs, dr, tn, os⟩ := by
  have la := LT (model prog w)
  have lb := find_class (x := x) kin Z (model prog w)
  unfold Builtin.«object.__getattribute__»
  refine wpAny_bind (m := slotArgs "__getattribute__" 1 ⟨[.ref x, .str "__class__" tk], []⟩) (wpAny_pure ?_)
  show wpAny _ _ (attrName (.str "__class__" tk) >>= _) _ _ _
  refine wpAny_bind (m := attrName (.str "__class__" tk)) (wpAny_pure ?_)
  refine wpAny_bind (la.at ?_)
  refine wpAny_bind (lb.at ?_)
  show wpAny _ _ (bindTo (.builtin "getset_descriptor.__get__") (.builtin "object.__class__") (.ref x) (.ref D)) _ _ _
  unfold bindTo
  refine wpAny_bind (wpAny_holding (wpAny_call (exc_class_get kin LT Z ?_)))
  exact wpAny_pure h
theorem exc_class {Q : Option Value → Shared → Prop} (kin : K.In hp) (LT : ∀ M : Model, Looks M hp (typeOf (.ref x)) (.ref D)) (Z : ExK K D) (h : Q (some (.ref D)) ⟨hp, gs, dr, tn + 1, os⟩) :
    wpAny (model prog w) A (getAttr? (.ref x) "__class__") Q E ⟨hp, gs, dr, tn, os⟩ := by
  have la := LT (model prog w)
  have lb := looks_findIn (M := model prog w) kin Z.ga
  have lc := looks_findIn (M := model prog w) kin Z.gt
  have ld := looks_mroIn (M := model prog w) kin Z.mb
  have li : Looks (model prog w) hp (isInstance (.ref x) (.type "BaseException")) true := la.andThen ld
  have sl := PySem.F.attr_ValueError.ga
  have hne : (onTheHeap (Value.ref D) && Value.builtin "BaseException.__getattribute__" == Value.builtin "object.__getattribute__") = false := by
    rw [show (Value.builtin "BaseException.__getattribute__" == Value.builtin "object.__getattribute__") = false from by decide +kernel]
    rfl
  unfold getAttr? getAttrBy? getAttrBy
  refine wpAny_bind (wpAny_mkText (wpAny_bind (wpAny_attempt (wpAny_holding (wpAny_bind (la.at (wpAny_bind (lb.at ?_))))))))
  show wpAny _ _ (if (onTheHeap (Value.ref D) && Value.builtin "BaseException.__getattribute__" == Value.builtin "object.__getattribute__") = true then _ else getAttrByItsOwn _ _ _ _ _ _) _ _ _
  rw [hne, if_neg Bool.false_ne_true]
  unfold getAttrByItsOwn
  show wpAny _ _ (typeLookup (.ref D) "__getattr__" >>= _) _ _ _
  refine wpAny_bind (lc.at ?_)
  refine wpAny_bind (wpAny_attempt (wpAny_holding ?_))
  show wpAny _ _ (boundAndCalled _ _ _) _ _ _
  unfold boundAndCalled
  refine wpAny_bind (wpAny_of_eq (sl.bind (.ref x)) ?_)
  show wpAny _ _ (call (.builtin "BaseException.__getattribute__") [.ref x, .str "__class__" tn]) _ _ _
  have hk : builtinKind "BaseException.__getattribute__" = some .slot := by decide +kernel
  have hs : splitId "BaseException.__getattribute__" = some ("BaseException", "__getattribute__") := by decide +kernel
  have hg := PySem.F.args_bexc_ga (.ref x) (.str "__class__" tn)
  refine wpAny_call (codeAny_call_builtin sl.plain PySem.F.entry_bexc_ga ?_)
  simp only [checkBuiltinCall, hk, hs]
  refine wpAny_bind (li.at ?_)
  repeat (first | assumption | with_reducible refine exc_entry kin LT Z ?_ | wp_step)
theorem kitx_exc (Z : ExK K D) : KitX K (.ref x) (.ref D) (fun h => ∃ oe, h.get? x = some oe ∧ oe.cls = .ref D) where
  ty := fun M h _ q => by
    obtain ⟨oe, e, c⟩ := q
    rw [← c]
    exact (Looks.ld e).andThen .now
  it := fun _ _ kin _ => by
    have hd := Z.hd
    unfold clsIn at hd
    split at hd
    · rename_i ho
      intro A' Q' E' s' kk qq
      unfold isType loadHead
      exact wpAny_bind (wpAny_loadPart (kk _ _ (kin _ _ ho)) (wpAny_pure qq))
    · cases hd
  ne := fun h tp dd its n sl kin htp => by
    have hd := Z.hd
    refine Bool.eq_false_iff.mpr fun q => ?_
    have e : D = tp := Value.ref.inj (beq_iff_eq.mp q)
    rw [e] at hd
    unfold clsIn at hd
    split at hd
    · rename_i ho
      have z := (kin _ _ ho).symm.trans htp
      cases z
    · cases hd
  ca := fun {_ _ _ _ _ s} kin q k => by
    obtain ⟨hp, gs, dr, tn, os⟩ := s
    obtain ⟨oe, e, c⟩ := q
    exact exc_class kin (fun M => by rw [← c]; exact (Looks.ld e).andThen .now) Z k
end
theorem bb_ValueError : bootBuiltins "ValueError" = some (.type "ValueError") := by decide +kernel
theorem call_isx {X : Cx} {a D : Addr} {oe : Obj} (he : oe.cls = .ref D) (Z : ExK X.K D) : CallR (cxSuite X a oe) (.builtin "isinstance") (fun xs H Q => ∃ c b, ((∃ c', c = V.ref c' ∧ PySem.W.kitOne X.K (.ref D) (.ref c') = some b) ∨ (∃ n, c = V.ty n ∧ PySem.W.kitOne X.K (.ref D) (.type n) = some b)) ∧ xs = [.ref a, c] ∧ Q (.bl b) H) := by
  intro pins s σ H xs us Q I r h
  obtain ⟨c, b, hc, rfl, q⟩ := h
  obtain ⟨u, v, rfl, ru, rv⟩ := r.two
  cases ru
  have hp := (I.pin (a, oe) (List.mem_append_left _ (List.mem_append_right _ (List.mem_singleton.mpr rfl)))).1
  have kin : X.K.In s.heap := I.kIn
  rcases hc with ⟨c', rfl, e⟩ | ⟨n, rfl, e⟩
  · cases rv
    exact PySem.W.kia_one (kitx_exc Z) kin ⟨oe, hp, he⟩ e (fun z => nomatch z) fun tk => ⟨.bl b, H, I.tok tk, rfl, q⟩
  · cases rv
    exact PySem.W.kia_one (kitx_exc Z) kin ⟨oe, hp, he⟩ e (fun z => nomatch z) fun tk => ⟨.bl b, H, I.tok tk, rfl, q⟩
end L2

namespace L2
open PySem PySem.Spec PyProof.Rows
section
variable {X : Cx}
noncomputable def rInsert : V → List V → Hp → VK → Prop := fun x vs H Q => ∃ l xs i k y, x = .ref l ∧ vs = [.int i, y] ∧ H l = some (.lst xs) ∧ i = ((k : Nat) : Int) ∧ k ≤ xs.length ∧ xs.length < sizeLine ∧ Q .non (upd H l (.lst (xs.take k ++ y :: xs.drop k)))
theorem mt_insert : MtM X "list.insert" rInsert := by
  intro pins s σ H x vs v us Q I rx rv h
  obtain ⟨l, xs, i, k, y, rfl, rfl, hH, hi, hk, hz, q⟩ := h
  cases rx
  obtain ⟨u1, u2, rfl, r1, r2⟩ := rv.two
  obtain ⟨t, rfl⟩ := r1
  obtain ⟨z, its, n, r, hl, e⟩ := I.lstM hH
  have hz2 : xs.length < 16777216 := by rw [← sizeLine_eq]; exact hz
  have hfit : Builtin.List.listFitsIndex i = true := by
    have h1 : -(2 ^ 63 : Int) ≤ i := by omega
    have h2 : i < 2 ^ 63 := by omega
    exact fitsIndex_both h1 h2
  have hn1 : ¬ (!Builtin.List.listFitsIndex i) = true := fun z => by rw [hfit] at z; exact Bool.false_ne_true z
  have hn2 : its.toArray.size ≤ sizeLine := by rw [List.size_toArray]; omega
  refine call_meets F.slot_list_insert ⟨_, e, rfl⟩ F.entry_list_insert (F.args_list_insert_3 _ _ _) (AutoSeq1.list_insert_list_int_val_1 l its.toArray n i t u2 hn1 hn2) ⟨e, ?_⟩
  refine ⟨.non, _, I.lset (its' := its.take k ++ u2 :: its.drop k) hH e ?_ ((r.take k).append (.cons r2 (r.drop k))) ?_, rfl, q⟩
  · have hmin : (if i < 0 then (i + (its.toArray.size : Int)).toNat else min i.toNat its.toArray.size) = k := by
      rw [if_neg (by omega), hi, Int.toNat_natCast, List.size_toArray]
      omega
    show (its.toArray.extract 0 (if i < 0 then (i + (its.toArray.size : Int)).toNat else min i.toNat its.toArray.size)).push u2 ++ its.toArray.extract (if i < 0 then (i + (its.toArray.size : Int)).toNat else min i.toNat its.toArray.size) = _
    rw [hmin]
    have z2 := splice_eq its [u2] k k
    rw [Array.push_eq_append]
    have e3 : its.take k ++ [u2] ++ its.drop k = its.take k ++ u2 :: its.drop k := by simp
    rw [e3] at z2
    exact z2
  · rw [List.length_append, List.length_cons, List.length_take, List.length_drop]
    omega

noncomputable def Deep (K : PySem.W.Frag) (H : Hp) : Nat → V → V → Prop
  | 0, x, y => x = y ∧ flatV x = true
  | n + 1, x, y => (x = y ∧ flatV x = true) ∨ ∃ (a b : Addr) (xs ys : List V), x = .ref a ∧ y = .ref b ∧ ((SqL K H a xs ∧ SqL K H b ys) ∨ (SqT K H a xs ∧ SqT K H b ys)) ∧ xs.length = ys.length ∧ ∀ (i : Nat) (u v : V), xs[i]? = some u → ys[i]? = some v → Deep K H n u v
theorem eqV_self {x : V} (h : flatV x = true) : eqV x x = true := by
  cases x <;> first | rfl | (exact absurd h Bool.false_ne_true) | (show (_ == _) = true; exact beq_self_eq_true _)
theorem vals_at {xs : List V} {its : List Value} {j : Nat} (r : Vals xs its) (hj : j < its.toArray.size) : ∃ x, xs[j]? = some x ∧ RelV x its.toArray[j] := by
  have hl := r.length
  have hx : j < xs.length := by rw [List.size_toArray] at hj; omega
  obtain ⟨u, hu, ru⟩ := r.get (List.getElem?_eq_getElem hx)
  refine ⟨_, List.getElem?_eq_getElem hx, ?_⟩
  have z : its.toArray[j]? = some u := by simpa using hu
  rw [(Array.getElem?_eq_some_iff.mp z).2]
  exact ru
theorem all_true (n : Nat) : (List.range n).all (fun _ => true) = true := List.all_eq_true.mpr fun _ _ => rfl
section
variable {pins : List (Addr × Obj)} {σ : St} {H : Hp} {s : Shared}
theorem deep_eqAt (I : Inv X pins σ H s) : ∀ (n : Nat) {A : Around} {x y : V} {u v : Value}, A.units + n < cLine → Deep X.K H n x y → RelV x u → RelV y v → SeqAt.EqAt A s u v true
  | 0, A, x, y, u, v, hu, h, rx, ry => by
    obtain ⟨rfl, f⟩ := h
    have z := eqAt_V (A := A) (s := s) rx ry f f
    rw [eqV_self f] at z
    exact z
  | n + 1, A, x, y, u, v, hu, h, rx, ry => by
    rcases h with ⟨rfl, f⟩ | ⟨a, b, xs, ys, rfl, rfl, hs, hl, hd⟩
    · have z := eqAt_V (A := A) (s := s) rx ry f f
      rw [eqV_self f] at z
      exact z
    · cases rx
      cases ry
      by_cases e : a = b
      · subst e; exact SeqAt.EqAt.same _
      · refine SeqAt.EqAt.of_refs e ?_
        have hu1 : A.in1.units + n < cLine := by show A.units + 1 + n < cLine; omega
        rcases hs with ⟨h1, h2⟩ | ⟨h1, h2⟩
        · obtain ⟨i1, r1, p1, z1⟩ := I.list h1
          obtain ⟨i2, r2, p2, z2⟩ := I.list h2
          have l1 := r1.length
          have l2 := r2.length
          have z := SeqAt.RcAt.lists (A := A) (e := fun _ => true) p1.isList p2.isList (by simp only [List.size_toArray]; omega) (by omega) fun j q1 q2 => by
            obtain ⟨x1, e1, t1⟩ := vals_at r1 q1
            obtain ⟨x2, e2, t2⟩ := vals_at r2 q2
            exact deep_eqAt I n hu1 (hd j x1 x2 e1 e2) t1 t2
          rw [all_true] at z
          exact z
        · obtain ⟨i1, r1, p1, z1⟩ := I.tuple h1
          obtain ⟨i2, r2, p2, z2⟩ := I.tuple h2
          have l1 := r1.length
          have l2 := r2.length
          have z := SeqAt.RcAt.tuples (A := A) (e := fun _ => true) (show s.heap.IsTuple a i1.toArray from p1) (show s.heap.IsTuple b i2.toArray from p2) (by omega) fun j q1 q2 => by
            obtain ⟨x1, e1, t1⟩ := vals_at r1 q1
            obtain ⟨x2, e2, t2⟩ := vals_at r2 q2
            exact deep_eqAt I n hu1 (hd j x1 x2 e1 e2) t1 t2
          have e3 : (i1.toArray.size == i2.toArray.size) = true := by simp only [List.size_toArray, beq_iff_eq]; omega
          rw [all_true, e3] at z
          exact z
end
noncomputable def DeepL (K : PySem.W.Frag) (H : Hp) (n : Nat) (a b : Addr) : Prop := ∃ xs ys : List V, SqL K H a xs ∧ SqL K H b ys ∧ xs.length = ys.length ∧ ∀ (i : Nat) (u v : V), xs[i]? = some u → ys[i]? = some v → Deep K H n u v
theorem op_eq_deep (n : Nat) (hu : X.A.units + n + 1 < cLine) : OpR X (compareOp .Eq) (fun x y H Q => ∃ a b : Addr, x = .ref a ∧ y = .ref b ∧ DeepL X.K H n a b ∧ Q (.bl true) H) := by
  intro pins s σ H x y v u Q I rx ry h
  obtain ⟨a, b, rfl, rfl, ⟨xs, ys, h1, h2, hl, hd⟩, q⟩ := h
  cases rx
  cases ry
  obtain ⟨i1, r1, p1, z1⟩ := I.list h1
  obtain ⟨i2, r2, p2, z2⟩ := I.list h2
  have l1 := r1.length
  have l2 := r2.length
  refine SeqAt.eq_listAt (e := fun _ => true) p1.isList p2.isList (by simp only [List.size_toArray]; omega) (by omega) (fun j q1 q2 => ?_) ⟨.bl true, H, I, ?_, q⟩
  · obtain ⟨x1, e1, t1⟩ := vals_at r1 q1
    obtain ⟨x2, e2, t2⟩ := vals_at r2 q2
    exact deep_eqAt I n (by show X.A.units + 1 + n < cLine; omega) (hd j x1 x2 e1 e2) t1 t2
  · show Value.bool _ = Value.bool true
    rw [all_true]
end
end L2

namespace L2
open PySem PySem.Spec PyProof.Rows
noncomputable def IteL (K : PySem.W.Frag) (a : Addr) : It :=
  ⟨fun i H => ∃ xs x, SqL K H a xs ∧ xs[i]? = some x, fun i H y H' => ∃ t x, y = .ref t ∧ H t = none ∧ H' = upd H t (.tup [.int i, x]) ∧ ∀ xs, SqL K H a xs → xs[i]? = some x, fun i H => ∃ xs, SqL K H a xs ∧ xs.length ≤ i⟩
theorem turn_enumL {P : Program} {w : World} {K : PySem.W.Frag} {elts : List Expr} {x1 : Nat} {tp : Pos} (a e it : Addr) (hei : e ≠ it) :
    Turn P w K (.Tuple elts x1 tp) (IteL K a) [e, it] e (fun i h => (∃ old, IsEnum h e it i old) ∧ h.IsListIter it a i) where
  mem := by simp
  obj := fun i h st b hb => by
    obtain ⟨⟨old, he⟩, hit⟩ := st
    rcases List.mem_cons.mp hb with rfl | hb
    · exact ⟨_, he, fun v z => by
        have z' : Data.fields _ = Data.cell v := z
        cases z'⟩
    · have e1 : b = it := by simpa using hb
      subst e1
      obtain ⟨o, e, c, d⟩ := hit
      exact ⟨o, e, fun v z => by rw [d] at z; cases z⟩
  keep := fun i h h' st k => ⟨let ⟨old, he⟩ := st.1; ⟨old, k e (by simp) _ he⟩, let ⟨o, ho, r⟩ := st.2; ⟨o, k it (by simp) o ho, r⟩⟩
  item := by
    intro X hP hw hK hc i pins s σ H E I hf st hg
    subst hP hw hK
    obtain ⟨⟨old, he⟩, hit⟩ := st
    obtain ⟨xs, x, hq, hx⟩ := hg
    obtain ⟨its, rv, p, hz⟩ := I.list hq
    obtain ⟨u, hu, ru⟩ := rv.get hx
    obtain ⟨f0, f1, f2, f3, f4, f5⟩ := hf e (by simp)
    obtain ⟨g0, g1, g2, g3, g4, g5⟩ := hf it (by simp)
    refine wpAny_pyNext_enum_item he hit p.isList (x := u) (by simpa using hu) hei fun h' ho' hit' hT hsz hk => ?_
    refine ⟨_, rfl, wpAny_letOwnedTupleGo_enum ho' fun h'' he'' hs'' => ?_⟩
    have hlt : e < s.heap.objs.size := Heap.lt_size he
    have k2 : ∀ b o, b ≠ e → b ≠ it → s.heap.get? b = some o → h''.get? b = some o := fun b o h1 h2 q => (hs''.2 b h1).trans (hk b o h1 h2 q)
    have hT2 : h''.get? s.heap.objs.size = some { cls := .type "tuple", data := .seq #[.int i s.toks, u] } := (hs''.2 _ (Nat.ne_of_gt hlt)).trans hT
    have hfr : H s.heap.objs.size = none := I.hok.fresh (Nat.le_refl _)
    have neT : ∀ {b : Addr} {o : Obj}, s.heap.get? b = some o → b ≠ s.heap.objs.size := fun q => Nat.ne_of_lt (Heap.lt_size q)
    have trk : ∀ {b : Addr} {o : HO}, H b = some o → b ≠ e ∧ b ≠ it := fun q => ⟨fun z => (by rw [z, f0] at q; cases q), fun z => (by rw [z, g0] at q; cases q)⟩
    have I2 : Inv X pins σ (upd H s.heap.objs.size (.tup [.int i, x])) { s with heap := h'', toks := s.toks + 1 } := by
      refine I.step (g' := s.gens) (d' := s.drawn) (ch := [e, it]) (fun b hb => ?_) (fun b o _ _ hch q _ => k2 b o (fun z => hch (by simp [z])) (fun z => hch (by simp [z])) q) (fun b o _ _ hch q _ => ⟨o.slots, k2 b o (fun z => hch (by simp [z])) (fun z => hch (by simp [z])) q⟩)
        (fun b o _ q n => by rw [upd_ne (neT q)]; exact n) (fun b o hch q => ⟨o, k2 b o (fun z => hch (by simp [z])) (fun z => hch (by simp [z])) q⟩) (fun b ys q => by rw [upd_ne (ne_of_none q hfr)]; exact q) (fun b o ys q => by rw [upd_ne (ne_of_none q hfr)]; exact q)
        (fun b ps q => ⟨#[], by rw [upd_ne (ne_of_none q hfr), q]; simp⟩) (fun m hm => ?_) (fun b v q => ?_) I.bare
      · rcases List.mem_cons.mp hb with rfl | hb
        · exact ⟨f3, f1, f4, f5⟩
        · have e1 : b = it := by simpa using hb
          subst e1
          exact ⟨g3, g1, g4, g5⟩
      · obtain ⟨o, es, ep, ho, r⟩ := hm
        exact ⟨o, es, ep, k2 _ o (Ne.symm f1) (Ne.symm g1) ho, r⟩
      · by_cases hb : b = s.heap.objs.size
        · subst hb
          rw [upd_same] at q
          cases q
          exact ⟨by show 2 ≤ sizeLine; decide, [.int i s.toks, u], .cons ⟨_, rfl⟩ (.cons ru .nil), _, hT2, rfl, _, rfl⟩
        · rw [upd_ne hb] at q
          refine (I.hok b v q).stay (fun c o hc z => ?_) (fun c z => by rw [upd_ne (ne_of_none z hfr)]; exact z) fun c ys z => by rw [upd_ne (ne_of_none z hfr)]; exact z
          rcases hc with rfl | hc
          · exact k2 c o (trk q).1 (trk q).2 z
          · exact k2 c o (trk hc).1 (trk hc).2 z
    refine ⟨.ref s.heap.objs.size, _, I2, rfl, ⟨_, x, rfl, hfr, rfl, fun ys hy => by rw [I.list_inj hy hq]; exact hx⟩, ⟨⟨u, by simpa using he''⟩, ?_⟩, fun b hb => ?_⟩
    · obtain ⟨o, q, r⟩ := hit'
      exact ⟨o, (hs''.2 it (Ne.symm hei)).trans q, r⟩
    · rcases List.mem_cons.mp hb with rfl | hb
      · rw [upd_ne (Nat.ne_of_lt hlt)]; exact f0
      · have e1 : b = it := by simpa using hb
        subst e1
        obtain ⟨o, q, _⟩ := hit
        rw [upd_ne (neT q)]
        exact g0
  done := by
    intro X hP hw hK hc i pins s σ H E I hf st hg
    subst hP hw hK
    obtain ⟨⟨old, he⟩, hit⟩ := st
    obtain ⟨xs, hq, hx⟩ := hg
    obtain ⟨its, rv, p, hz⟩ := I.list hq
    obtain ⟨g0, g1, g2, g3, g4, g5⟩ := hf it (by simp)
    have hl := rv.length
    exact wpAny_pyNext_enum_end (I.ok.hd hc) he hit p.isList (by simp; omega) fun h' eb => ⟨rfl, I.turned (t' := s.toks) (fun b o hb q => eb b o hb q) g0 g1 g3 g4 g5⟩
  self := fun _ _ _ _ _ st h => let ⟨_, he⟩ := st.1; wpAny_pyIter_enum he h
section
variable {X : Cx}
noncomputable def iEnumL (K : PySem.W.Frag) (ta : TA) : TI := fun σ H R => ta σ H fun vs H1 => ∃ a, vs = [.ref a] ∧ (∃ xs, SqL K H1 a xs) ∧ R (IteL K a) H1
theorem pi_enumL {a : Expr} {ta : TA} {p pos : Pos} {elts : List Expr} {x1 : Nat} {tp : Pos} (hg : Gl X "enumerate") (hm : X.mg "enumerate" = none) (ha : PA X [a] ta) (hs : starEach [a] X.env = [(false, eval a X.env)] := by rfl) :
    PI X (.Tuple elts x1 tp) (.Call (.Name "enumerate" p) [a] [] pos) (iEnumL X.K ta) := by
  intro pins s σ H R I h
  refine Call_ (ld_blt I hg hm bb_enumerate (PyProof.Rows.callWith_type1 (thn (ha pos pins s σ H _ I h) fun us s1 ⟨vs, H1, I1, r1, q1⟩ => ?_) hs rfl))
  obtain ⟨l, e, ⟨xs, hq⟩, q⟩ := q1
  subst e
  cases r1 with
  | cons r rr =>
    cases rr
    cases r
    obtain ⟨its, rv, ht, hz⟩ := I1.list hq
    refine call_enumerate_list ht.isList fun h' he hit hsz hk => ?_
    have I2 : Inv X pins σ H1 { s1 with heap := h' } := I1.kept (t' := s1.toks) hk
    refine wpAny_pyIter_enum he ?_
    refine ⟨s1.heap.objs.size + 1, [s1.heap.objs.size + 1, s1.heap.objs.size], _, _, H1, rfl, I2, turn_enumL l _ _ (Nat.succ_ne_self _), ⟨⟨_, he⟩, hit⟩, fun b hb => ?_, q⟩
    rcases List.mem_cons.mp hb with rfl | hb
    · exact (I1.fpOk (Nat.le_succ _) (I1.hok.fresh (Nat.le_succ _)))
    · have e : b = s1.heap.objs.size := by simpa using hb
      subst e
      exact I1.fpOk (Nat.le_refl _) (I1.hok.fresh (Nat.le_refl _))
theorem for_enumL {K : PySem.W.Frag} {a : Addr} {xs : List V} {g : TG} {tb : TS} {D : Ends} {σ : St} {H : Hp} (Pv : Nat → St → Hp → Prop) (h0 : Pv 0 σ H) (hl : ∀ i σ H, i ≤ xs.length → Pv i σ H → SqL K H a xs)
    (hs : ∀ i x t σ H, xs[i]? = some x → Pv i σ H → H t = none → g (.ref t) σ (upd H t (.tup [.int i, x])) fun σ2 H2 => tb { D with nx := Pv (i + 1), ct := Pv (i + 1), bk := D.nx } σ2 H2) (hd : ∀ σ H, Pv xs.length σ H → D.nx σ H) :
    ∃ W : Nat → Nat → St → Hp → Prop, (∃ m, W 0 m σ H) ∧ ∀ i m σ H, W i m σ H →
      ((IteL K a).stop i H ∧ D.nx σ H) ∨ ((IteL K a).go i H ∧ ∃ N : St → Hp → Prop, (∀ σ' H', N σ' H' → ∃ m', m' < m ∧ W (i + 1) m' σ' H') ∧ ∀ x H', (IteL K a).yld i H x H' → g x σ H' fun σ2 H2 => tb { D with nx := N, ct := N, bk := D.nx } σ2 H2) := by
  refine ⟨fun i m σ H => m = xs.length - i ∧ i ≤ xs.length ∧ Pv i σ H, ⟨xs.length, by simp, Nat.zero_le _, h0⟩, ?_⟩
  rintro i m σ H ⟨rfl, hi, p⟩
  have q := hl i σ H hi p
  by_cases hlt : i < xs.length
  · refine .inr ⟨⟨xs, xs[i], q, by simp [hlt]⟩, Pv (i + 1), fun σ' H' p' => ⟨xs.length - (i + 1), by omega, rfl, hlt, p'⟩, fun x H' y => ?_⟩
    obtain ⟨t, z, e, hn, e2, y⟩ := y
    subst e e2
    exact hs i z t σ _ (y xs q) p hn
  · have e : i = xs.length := by omega
    subst e
    exact .inl ⟨⟨xs, q, Nat.le_refl _⟩, hd σ H p⟩
end

theorem compOk1 {X : Cx} {scope : Scope} {pre : List Str} {y : Str} {c : Addr} {j : Nat} (hkind : scope.kind = .function) (h : ∀ z ∈ scope.names, z.2 ≠ .cell ∧ (z.2 = .free → z.1 = y)) (hn : ∀ z ∈ scope.names, z.2 = .local → scope.names.lookup z.1 = some .local)
    (hcl : closureFor scope X.env = pure [(y, c)]) (hc : X.env.cells.lookup y = some c) (hN : X.N[j]? = some y) (hk : X.env.kindOf y = some .cell) (hr : (relabel scope X.env).names.lookup y = some .cell) :
    CompOk X scope [(y, c)] (pre ++ [y]) (List.replicate pre.length none ++ [some j]) where
  clos := hcl
  cell := fun z hz => (h z hz).1
  kind := hkind
  names := hn
  cls := fun x c' e => by
    rw [List.lookup_cons] at e
    split at e
    · rename_i hx
      rw [eq_of_beq hx, ← e]
      exact hc
    · cases e
  has := fun x e => by
    have key : ∀ k, (relabel scope X.env).names.lookup x = some k → k = .cell ∨ k = .free → x = y := fun k e hk => by
      have hm := PySem.mem_of_lookup e
      obtain ⟨⟨n, k'⟩, hy, ey⟩ := List.mem_map.mp hm
      have h1 := h _ hy
      by_cases hf : k' = .free
      · have z := h1.2 hf
        dsimp only at ey
        split at ey
        · cases ey; exact z
        · cases ey; exact z
      · have hb : (k' == NameKind.free) = false := by simpa using hf
        simp only [hb, Bool.false_and, Bool.false_eq_true, if_false, Prod.mk.injEq] at ey
        obtain ⟨_, rfl⟩ := ey
        rcases hk with hk | hk
        · exact absurd hk h1.1
        · exact absurd hk hf
    have hxy : x = y := by
      rcases e with e | e
      · exact key _ e (.inl rfl)
      · exact key _ e (.inr rfl)
    exact ⟨c, by rw [hxy, List.lookup_cons, beq_self_eq_true]⟩
  len := by simp
  src := fun i k x e1 e2 => by
    by_cases hi : i < pre.length
    · rw [List.getElem?_append_left (by simpa using hi), List.getElem?_replicate, if_pos hi] at e1
      cases e1
    · have hl := (List.getElem?_eq_some_iff.mp e2).1
      rw [List.length_append, List.length_singleton] at hl
      have e : i = pre.length := by omega
      subst e
      rw [List.getElem?_append_right (by simp)] at e1
      rw [List.getElem?_append_right (Nat.le_refl _)] at e2
      simp at e1 e2
      subst e1 e2
      exact ⟨hN, .inl hk, .inl hr⟩

theorem compOk2 {X : Cx} {scope : Scope} {x y : Str} {c : Addr} {j : Nat} (hkind : scope.kind = .function) (h : ∀ z ∈ scope.names, z.2 ≠ .cell ∧ (z.2 = .free → z.1 = y)) (hn : ∀ z ∈ scope.names, z.2 = .local → scope.names.lookup z.1 = some .local)
    (hcl : closureFor scope X.env = pure [(y, c)]) (hc : X.env.cells.lookup y = some c) (hN : X.N[j]? = some y) (hk : X.env.kindOf y = some .cell) (hr : (relabel scope X.env).names.lookup y = some .cell) :
    CompOk X scope [(y, c)] [x, y] [none, some j] := compOk1 (pre := [x]) hkind h hn hcl hc hN hk hr
theorem bind_name {M : Model} {A : Around} {E : Value → Shared → Prop} {s : Shared} {env : Env} {x : Str} {v : Value} {Q : Unit → Shared → Prop} (h : wpAny M A (storeName env x v) Q E s) : wpAny M A (bindName env x v) Q E s := fun Γ p hΓ => by
  rw [Sem.wp_bindName]
  exact h Γ _ hΓ
theorem ps_comp {X : Cx} {elt iter tg : Expr} {ifs : List Expr} {scope : Scope} {pos pos' ps : Pos} {x : Str} {ix : Nat} {cl : List (Str × Addr)} {NC : List Str} {ini : List (Option Nat)} {wi : TI} {g : TG} {tt : TT} {te : TE}
    (hN : X.N.Nodup) (hix : X.N[ix]? = some x) (hx : Loc X.env.scope x) (hc : X.calm = true) (O : CompOk X scope cl NC ini) (hi : PI X tg iter wi)
    (hg : ∀ fp C s₀ H₀, PG (cxComp X scope cl NC fp C s₀ H₀) tg g) (ht : ∀ fp C s₀ H₀, PTs (cxComp X scope cl NC fp C s₀ H₀) ifs tt) (he : ∀ fp C s₀ H₀, PE (cxComp X scope cl NC fp C s₀ H₀) elt te)
    (hs : ∀ x, foldedSetIterable iter X.env x = pure x := by intro _; rfl) (hsw : swapsWith (.ListComp elt [⟨tg, iter, ifs, 0⟩] scope pos) (some (.Name x pos')) ps.line X.env = pure true := by rfl)
    (hf : X.fn x = true ∨ X.env.scope.names.lookup x = some .local := by first | exact .inl rfl | exact .inr rfl | assumption) : PS X (.Assign [.Name x pos'] (.ListComp elt [⟨tg, iter, ifs, 0⟩] scope pos) ps) (tAsg (tComp wi g tt te ini) (gName ix)) := by
  intro pins s σ H Dn I h
  rw [exec_Assign_Name_used _ _ _ _ hsw]
  refine wpAny_bind (wpAny_standAt (wpAny_bind ?_))
  show wpAny _ _ (comprehension (.ListComp elt [⟨tg, iter, ifs, 0⟩] scope pos) scope X.env _ (newList []) false (eval iter X.env) (some (assign (.Name x pos') X.env)) >>= fun _ => pure ()) _ _ s
  refine wpAny_bind ?_
  refine wpAny_comprehension_free (use := some (assign (.Name x pos') X.env)) rfl hs O.clos O.kind O.names (thn (hi pins s σ H _ I h) fun v s1 h1 => thn h1 fun itv s2 h2 => ?_)
  obtain ⟨it, fp, tn, J, H2, e, I2, T, st2, f2, h2⟩ := h2
  subst e
  have hD : H2 s2.heap.objs.size = none := I2.hok.fresh (Nat.le_refl _)
  obtain ⟨W, ⟨m0, w0⟩, turn⟩ := h2 _ hD
  refine wpAny_newObj_type (wpAny_newFunctionEnv O.cell (by intro y hy; simp at hy) (fun h₁ hns₁ hsb₁ => ?_) O.kind)
  dsimp only at hns₁ hsb₁ ⊢
  have I3 : Inv X pins σ (upd H2 s2.heap.objs.size (.lst [])) { s2 with heap := s2.heap.push { cls := .type "list", dict := none, data := .seq ([] : List Value).toArray } } := I2.lnew (its := []) (t' := s2.toks) .nil (by decide)
  have ob2 : ∀ b ∈ fp, ∃ o, s2.heap.get? b = some o := fun b hb => let ⟨o, e, _⟩ := T.obj 0 _ st2 b hb; ⟨o, e⟩
  have neD : ∀ b ∈ fp, b ≠ s2.heap.objs.size := fun b hb => let ⟨o, e⟩ := ob2 b hb; Nat.ne_of_lt (Heap.lt_size e)
  have f3 : ∀ b ∈ fp, FpOk X pins (upd H2 s2.heap.objs.size (.lst [])) b := fun b hb => ⟨by rw [upd_ne (neD b hb)]; exact (f2 b hb).1, (f2 b hb).2⟩
  generalize hs3 : ({ s2 with heap := s2.heap.push { cls := .type "list", dict := none, data := .seq ([] : List Value).toArray } } : Shared) = s3 at I3
  have hh3 : s2.heap.push { cls := .type "list", dict := none, data := .seq ([] : List Value).toArray } = s3.heap := by rw [← hs3]
  have ob3 : ∀ b ∈ fp, ∃ o, s3.heap.get? b = some o := fun b hb => let ⟨o, e⟩ := ob2 b hb; ⟨o, by rw [← hh3]; exact Heap.get?_push_of_some _ e⟩
  rw [hh3] at hns₁ hsb₁ ⊢
  have old : ∀ b o, s3.heap.get? b = some o → h₁.get? b = some o := fun b o e => hsb₁.extBut b o (Nat.ne_of_lt (Heap.lt_size e)) (Heap.get?_push_of_some _ e)
  have st1 : tn 0 h₁ := T.keep 0 _ _ st2 fun b hb o e => old b o (by rw [← hh3]; exact Heap.get?_push_of_some _ e)
  have IC : ∀ tk, Inv (cxComp X scope cl NC fp s3.heap.objs.size s3 (upd H2 s2.heap.objs.size (.lst []))) [] (iniSt ini σ) (upd H2 s2.heap.objs.size (.lst [])) { s3 with heap := h₁, toks := tk } := fun tk => inv_comp O I3 f3 ob3 hns₁ old
  have stat : ∀ {H' : Hp}, (∀ b ∈ fp, H' b = none) → ∀ b ∈ fp, FpOk (cxComp X scope cl NC fp s3.heap.objs.size s3 (upd H2 s2.heap.objs.size (.lst []))) [] H' b := fun {H'} hn b hb => by
    obtain ⟨o, e⟩ := ob3 b hb
    refine ⟨hn b hb, Nat.ne_of_lt (Heap.lt_size e), fun z => ?_, .inl hb, fun x c hx => (f3 b hb).2.2.2.2.1 x c (O.cls x c hx), fun p hp => absurd (show p ∈ ([] : List (Addr × Obj)) from hp) (by simp)⟩
    rcases List.mem_cons.mp (I3.stkSub b z) with q | q
    · exact (f3 b hb).2.1 q
    · exact (f3 b hb).2.2.1 q
  have loop : ∀ s₃ : Shared, s₃ = { s2 with heap := h₁, toks := s2.toks + ([] : List (Str × Value)).length } →
      codeAny (model X.prog X.w) X.A (.compLoop (.ListComp elt [⟨tg, iter, ifs, 0⟩] scope pos) 0 (.ref it) (.ref s2.heap.objs.size) (compEnvC scope cl s3.heap.objs.size X.env))
        (compPost (model X.prog X.w) X.A X.xe (some (assign (.Name x pos') X.env)) (fun _ sE => wpAny (model X.prog X.w) X.A (pure ()) (fun _ s₁ => wpAny (model X.prog X.w) X.A (pure Flow.next) (SP X pins Dn) X.xe s₁) X.xe sE) (.ref s2.heap.objs.size) s3.heap.objs.size) s₃ := by
    rintro s₃ rfl
    refine codeAny_loop rfl (fun n s' => ∃ i σ' H', Inv (cxComp X scope cl NC fp s3.heap.objs.size s3 (upd H2 s2.heap.objs.size (.lst []))) [] σ' H' s' ∧ tn i s'.heap ∧ (∀ b ∈ fp, H' b = none) ∧ W i n σ' H') (fun n s' hI => ?_) m0
      ⟨0, _, _, by have z := IC (s2.toks + ([] : List (Str × Value)).length); rw [← hs3] at z ⊢; exact z, st1, fun b hb => (f3 b hb).1, w0⟩
    show wpAny _ X.A ((compTurn (.ListComp elt [⟨tg, iter, ifs, 0⟩] scope pos) 0 (.ref it) (.ref s2.heap.objs.size) (compEnvC scope cl s3.heap.objs.size X.env)).onRaise (fun x => do noteFrame x (compEnvC scope cl s3.heap.objs.size X.env); theTreesLotGoes x)) _ _ s'
    refine wpAny_noted ?_
    rw [compTurn_list]
    obtain ⟨i, σ3, H3, I3', st3, fr3, w3⟩ := hI
    rcases turn i n σ3 H3 w3 with ⟨stop, qn⟩ | ⟨go, N, hN, step⟩
    · refine wpAny_bind (wpAny_standAt (wpAny_bind (thn (T.done (cxComp X scope cl NC fp s3.heap.objs.size s3 (upd H2 s2.heap.objs.size (.lst []))) rfl rfl rfl hc i [] s' σ3 H3 _ I3' (stat fr3) st3 stop) fun r s4 ⟨hr, I4⟩ => ?_)))
      subst hr
      obtain ⟨m', hn', _⟩ := I4.loc
      refine wpAny_pure ?_
      show wpAny _ _ (do standAt pos'; bindName X.env x (.ref s2.heap.objs.size)) _ _ s4
      refine wpAny_bind (wpAny_standAt ?_)
      have IX : Inv X pins σ H3 s4 := comp_back I3 f3 I4 (Heap.SameBut.refl _ _)
      have fC : FpOk X pins H3 s3.heap.objs.size := I3.fpOk (Nat.le_refl _) I4.free
      obtain ⟨c0, c1, c2, c3, c4, c5⟩ := fC
      refine bind_name (store_ok2 IX hN hix hx (v := .ref s2.heap.objs.size) rfl (fun s5 I5 sb => ?_) hf)
      obtain ⟨aa, sb1, sb2⟩ := sb
      have nA : s3.heap.objs.size ≠ aa := by
        rcases sb2 with z | z
        · rw [z]; exact c1
        · exact Ne.symm (c4 x aa z)
      obtain ⟨oo, es, ep, g1, g2⟩ := hn'
      refine ⟨m', ⟨oo, es, ep, (sb1.2 _ nA).trans g1, g2⟩, fun h' hs' => wpAny_pure (wpAny_pure ⟨_, H3, I5.turned (t' := s5.toks) (fun b o hb e => (hs'.2 b hb).trans e) c0 c1 c3 c4 c5, qn⟩)⟩
    · refine wpAny_bind (wpAny_standAt (wpAny_bind (thn (T.item (cxComp X scope cl NC fp s3.heap.objs.size s3 (upd H2 s2.heap.objs.size (.lst []))) rfl rfl rfl hc i [] s' σ3 H3 _ I3' (stat fr3) st3 go) fun r s4 ⟨u, hr, h4⟩ => ?_)))
      subst hr
      refine wpAny_bind (thn h4 fun _ s5 ⟨x, H5, I5, r5, y5, st5, fr5⟩ => ?_)
      have I5' := I5.pinned (stat fr5) (T.obj _ _ st5)
      refine wpAny_bind (quietX (hg fp _ s3 _ _ s5 σ3 H5 x u _ I5' r5 (step x H5 y5)) fun _ s6 ⟨σ6, H6, I6, q6⟩ => ?_)
      have again : ∀ {s7 : Shared} {H7 : Hp}, Inv (cxComp X scope cl NC fp s3.heap.objs.size s3 (upd H2 s2.heap.objs.size (.lst []))) ([] ++ pinsAt fp s5.heap) σ6 H7 s7 → N σ6 H7 →
          ∃ m, m < n ∧ ∃ i σ' H', Inv (cxComp X scope cl NC fp s3.heap.objs.size s3 (upd H2 s2.heap.objs.size (.lst []))) [] σ' H' s7 ∧ tn i s7.heap ∧ (∀ b ∈ fp, H' b = none) ∧ W i m σ' H' := fun {s7 H7} I7 n7 => by
        obtain ⟨m', hm, w7⟩ := hN σ6 H7 n7
        refine ⟨m', hm, i + 1, σ6, H7, I7.unpinned, T.keep _ _ _ st5 fun b hb o e => (I7.pin (b, o) (List.mem_append_right _ (List.mem_append_right _ (mem_pinsAt hb e)))).1, fun b hb => ?_, w7⟩
        obtain ⟨o, e, d⟩ := T.obj _ _ st5 b hb
        exact (I7.pin (b, o) (List.mem_append_right _ (List.mem_append_right _ (mem_pinsAt hb e)))).2.1
      refine wpAny_bind (quietX (ht fp _ s3 _ _ s6 σ6 H6 _ I6 q6) fun ok s7 ⟨H7, I7, q7⟩ => ?_)
      cases ok with
      | false => exact wpAny_pure ⟨rfl, again I7 q7⟩
      | true =>
        refine wpAny_bind (wpAny_bind (quietX (he fp _ s3 _ _ s7 σ6 H7 _ I7 q7) fun u8 s8 ⟨v8, H8, I8, r8, ys, hy, hz, n8⟩ => ?_))
        refine wpAny_bind (quietX (mt_append _ s8 σ6 H8 (.ref s2.heap.objs.size) [v8] (.ref s2.heap.objs.size) [u8] (fun _ H9 => N σ6 H9) I8 rfl (.cons r8 .nil) ⟨_, ys, v8, rfl, rfl, hy, hz, n8⟩) fun _ s9 ⟨_, H9, I9, _, n9⟩ => ?_)
        exact wpAny_pure (wpAny_pure ⟨rfl, again I9 n9⟩)
  exact codeAny_compStart_list (loop _ rfl) (T.self _ 0 _ _ _ st1 (loop _ rfl))

theorem ix_listK {X : Cx} {K : PySem.W.Frag} (hK : X.K = K) : IxR X (rIxL K) := hK ▸ ix_list
theorem ix_tupK {X : Cx} {K : PySem.W.Frag} (hK : X.K = K) : IxR X (rIxT K) := hK ▸ ix_tup
noncomputable def Itv (K : PySem.W.Frag) (a : Addr) (xs : List V) : It := ⟨fun i H => i < xs.length ∧ SqL K H a xs, fun i H y H' => H' = H ∧ xs[xs.length - 1 - i]? = some y, fun i _ => xs.length ≤ i⟩
theorem turn_rev {P : Program} {w : World} {K : PySem.W.Frag} {tg : Expr} (a it : Addr) (xs : List V) : Turn P w K tg (Itv K a xs) [it] it (fun i h => i ≤ xs.length ∧ h.IsRevIter it a ((xs.length : Int) - 1 - (i : Nat))) where
  mem := by simp
  obj := fun i h st b hb => by
    have e : b = it := by simpa using hb
    subst e
    obtain ⟨_, o, e, c, d⟩ := st
    exact ⟨o, e, fun v z => by rw [d] at z; cases z⟩
  keep := fun i h h' st k => ⟨st.1, st.2.at fun o e => k it (by simp) o e⟩
  item := by
    intro X hP hw hK hc i pins s σ H E I hf st hg
    subst hP hw hK
    obtain ⟨hi, hq⟩ := hg
    obtain ⟨its, rv, p, hz⟩ := I.list hq
    have hl := rv.length
    have hx : xs[xs.length - 1 - i]? = some (xs[xs.length - 1 - i]'(by omega)) := List.getElem?_eq_getElem (by omega)
    obtain ⟨u, hu, ru⟩ := rv.get hx
    obtain ⟨f0, f1, f2, f3, f4, f5⟩ := hf it (by simp)
    have e1 : (xs.length : Int) - 1 - (i : Nat) = ((xs.length - 1 - i : Nat) : Int) := by omega
    have st2 := st.2
    rw [e1] at st2
    refine wpAny_pyNext_rev_item st2 p.isList (x := u) (by simpa using hu) fun h' st' sb => ?_
    have I1 : Inv X pins σ H { s with heap := h' } := I.turned (t' := s.toks) (fun b o hb e => (sb.2 b hb).trans e) f0 f1 f3 f4 f5
    have e2 : ((xs.length - 1 - i : Nat) : Int) - 1 = (xs.length : Int) - 1 - ((i + 1 : Nat) : Int) := by omega
    rw [e2] at st'
    obtain ⟨o, e, c, d⟩ := id st'
    exact ⟨u, rfl, go_of (s := { s with heap := h' }) e c d (by decide) ⟨_, H, I1, ru, ⟨rfl, hx⟩, ⟨hi, st'⟩, fun b hb => (hf b hb).1⟩⟩
  done := by
    intro X hP hw hK hc i pins s σ H E I hf st hg
    subst hP hw hK
    obtain ⟨f0, f1, f2, f3, f4, f5⟩ := hf it (by simp)
    have hg : xs.length ≤ i := hg
    have e1 : (xs.length : Int) - 1 - (i : Nat) = -1 := by have := st.1; omega
    have st2 := st.2
    rw [e1] at st2
    exact wpAny_pyNext_rev_end (I.ok.hd hc) st2 fun h' eb => ⟨rfl, I.turned (t' := s.toks) (fun b o hb e => eb b o hb e) f0 f1 f3 f4 f5⟩
  self := fun _ _ _ _ _ st h => wpAny_pyIter_revIter st.2 h
section
variable {X : Cx}
theorem bb_reversed : bootBuiltins "reversed" = some (.type "reversed") := by decide +kernel
noncomputable def iRev (K : PySem.W.Frag) (ta : TA) : TI := fun σ H R => ta σ H fun vs H1 => ∃ a xs, vs = [.ref a] ∧ SqL K H1 a xs ∧ R (Itv K a xs) H1
theorem pi_rev {a : Expr} {ta : TA} {p pos : Pos} {tg : Expr} (hg : Gl X "reversed") (hm : X.mg "reversed" = none) (ha : PA X [a] ta) (hs : starEach [a] X.env = [(false, eval a X.env)] := by rfl) :
    PI X tg (.Call (.Name "reversed" p) [a] [] pos) (iRev X.K ta) := by
  intro pins s σ H R I h
  refine Call_ (ld_blt I hg hm bb_reversed (PyProof.Rows.callWith_type1 (thn (ha pos pins s σ H _ I h) fun us s1 ⟨vs, H1, I1, r1, q1⟩ => ?_) hs rfl))
  obtain ⟨l, xs, e, hq, q⟩ := q1
  subst e
  cases r1 with
  | cons r rr =>
    cases rr
    cases r
    obtain ⟨its, rv, ht, hz⟩ := I1.list hq
    have hl := rv.length
    refine call_reversed_list ht.isList ?_
    have st0 : (s1.heap.push (revObj l ((its.toArray.size : Int) - 1))).IsRevIter s1.heap.objs.size l ((xs.length : Int) - 1 - ((0 : Nat) : Int)) := by
      have e1 : (xs.length : Int) - 1 - ((0 : Nat) : Int) = (its.toArray.size : Int) - 1 := by rw [List.size_toArray]; omega
      rw [e1]
      exact ⟨_, Heap.get?_push_size _ rfl, rfl, rfl⟩
    refine wpAny_pyIter_revIter (s := { s1 with heap := s1.heap.push (revObj l ((its.toArray.size : Int) - 1)) }) st0 ?_
    refine ⟨s1.heap.objs.size, [s1.heap.objs.size], _, _, H1, rfl, I1.kept (t' := s1.toks) fun b o e => Heap.get?_push_of_some _ e, turn_rev l _ xs, ⟨Nat.zero_le _, st0⟩, fun b hb => ?_, q⟩
    have e : b = s1.heap.objs.size := by simpa using hb
    subst e
    exact I1.fpOk (Nat.le_refl _) (I1.hok.fresh (Nat.le_refl _))
theorem comp_rev {K : PySem.W.Frag} {a : Addr} {xs : List V} {g : TG} {tt : TT} {te : TE} {D : Addr} {Q : VK} {σ₀ : St} {H₀ : Hp} (Pv : Nat → St → Hp → Prop) (h0 : Pv 0 σ₀ H₀) (hl : ∀ i σ H, i ≤ xs.length → Pv i σ H → SqL K H a xs)
    (hs : ∀ i x σ H, xs.reverse[i]? = some x → Pv i σ H → g x σ H fun σ3 H3 => tt σ3 H3 fun b H4 => if b = true then te σ3 H4 fun v H5 => ∃ ys, H5 D = some (.lst ys) ∧ ys.length < sizeLine ∧ Pv (i + 1) σ3 (upd H5 D (.lst (ys ++ [v]))) else Pv (i + 1) σ3 H4)
    (hd : ∀ σ H, Pv xs.length σ H → Q (.ref D) H) : CompW (Itv K a xs) g tt te D Q σ₀ H₀ := by
  refine ⟨fun i m σ H => m = xs.length - i ∧ i ≤ xs.length ∧ Pv i σ H, ⟨xs.length, by simp, Nat.zero_le _, h0⟩, ?_⟩
  rintro i m σ H ⟨rfl, hi, p⟩
  have q := hl i σ H hi p
  by_cases hlt : i < xs.length
  · refine .inr ⟨⟨hlt, q⟩, Pv (i + 1), fun σ' H' p' => ⟨xs.length - (i + 1), by omega, rfl, hlt, p'⟩, fun x H' y => ?_⟩
    obtain ⟨e, y⟩ := y
    subst e
    exact hs i x σ _ (by rw [List.getElem?_reverse hlt]; exact y) p
  · have e : i = xs.length := by omega
    subst e
    exact .inl ⟨Nat.le_refl _, hd σ H p⟩
end

end L2

namespace L2
open PySem PySem.Spec PyProof.Rows
section
variable {X : Cx}
theorem op_eq_intsD (hu : X.A.units < cLine) : OpR X (compareOp .Eq) (fun x y H Q => ∃ (a b : Addr) (ns ms : List Int), x = .ref a ∧ y = .ref b ∧ SqL X.K H a (ns.map V.int) ∧ SqL X.K H b (ms.map V.int) ∧ ns.length = ms.length ∧ Q (.bl (decide (ns = ms))) H) := by
  intro pins s σ H x y v u Q I rx ry h
  obtain ⟨a, b, ns, ms, rfl, rfl, ha, hb, hl, q⟩ := h
  cases rx
  cases ry
  obtain ⟨i1, r1, p1, z1⟩ := I.list ha
  obtain ⟨i2, r2, p2, z2⟩ := I.list hb
  have l1 : ns.length = i1.length := by have z := r1.length; rwa [List.length_map] at z
  have l2 : ms.length = i2.length := by have z := r2.length; rwa [List.length_map] at z
  refine SeqAt.eq_listAt (e := fun j => ns.getD j 0 == ms.getD j 0) p1.isList p2.isList (by simp only [List.size_toArray]; omega) hu (fun j h1 h2 => ?_) ⟨.bl (decide (ns = ms)), H, I, ?_, q⟩
  · have hj : j < ns.length := by simp only [List.size_toArray] at h1; omega
    have hj2 : j < ms.length := by omega
    obtain ⟨x1, e1, t1⟩ := vals_at r1 h1
    obtain ⟨x2, e2, t2⟩ := vals_at r2 h2
    rw [List.getElem?_map, List.getElem?_eq_getElem hj] at e1
    rw [List.getElem?_map, List.getElem?_eq_getElem hj2] at e2
    obtain rfl := Option.some.inj e1
    obtain rfl := Option.some.inj e2
    obtain ⟨k1, q1⟩ := t1
    obtain ⟨k2, q2⟩ := t2
    rw [q1, q2]
    have g1 : ns.getD j 0 = ns[j] := by simp [List.getD, List.getElem?_eq_getElem hj]
    have g2 : ms.getD j 0 = ms[j] := by simp [List.getD, List.getElem?_eq_getElem hj2]
    rw [g1, g2]
    exact SeqAt.EqAt.int_int (A := X.A.in1) (s := s) ns[j] k1 ms[j] k2
  · show Value.bool _ = Value.bool _
    congr 1
    by_cases c : ns = ms
    · subst c
      rw [decide_eq_true rfl]
      exact List.all_eq_true.mpr fun _ _ => beq_self_eq_true _
    · rw [decide_eq_false c]
      refine Bool.eq_false_iff.mpr fun z => c ?_
      refine List.ext_getElem hl fun j q1 q2 => ?_
      have z2 := List.all_eq_true.mp z j (List.mem_range.mpr (by rw [List.size_toArray]; omega))
      have g1 : ns.getD j 0 = ns[j] := by simp [List.getD, List.getElem?_eq_getElem q1]
      have g2 : ms.getD j 0 = ms[j] := by simp [List.getD, List.getElem?_eq_getElem q2]
      rw [← g1, ← g2]
      exact eq_of_beq z2
end
end L2

namespace L2
open PySem PySem.Spec PyProof.Rows
noncomputable def PSX (X : Cx) (b : List Stmt) (t : XK → TS) : Prop :=
  ∀ (E : XK) (pins : List (Addr × Obj)) (s : Shared) (σ : St) (H : Hp) (D : Ends), Inv X pins σ H s → t E D σ H →
    wpAny (model X.prog X.w) X.A (execs b X.env) (SP X pins D) (fun e s' => ∃ H1 s1, Inv X pins σ H1 s1 ∧ CXo X.prog X.w X.stack H1 s1 E e s') s
noncomputable def cxAfter (X : Cx) (a : Addr) (oe : Obj) : Cx := { X with pn := X.pn ++ [(a, oe)] }
theorem Inv.afterS {X : Cx} {pins : List (Addr × Obj)} {σ : St} {H : Hp} {s : Shared} {a : Addr} {oe : Obj} (ok : X.Ok) (I : Inv (cxSuite X a oe) pins σ H s) : Inv (cxAfter X a oe) pins σ H s :=
  ⟨⟨ok.mod, ok.kind, ok.glob, ok.blt, ok.above, ok.inj, ok.has, ok.cab, ok.hd, ok.frames, ok.stk, ok.exf, ok.bs, ok.bsz, ok.noex, ok.exfs, ok.funs, ok.frf⟩, I.os, I.bare, I.base, I.loc, I.cell, I.free, I.freeC, I.pin, I.hok, I.len⟩
theorem Inv.unafter {X : Cx} {pins : List (Addr × Obj)} {σ : St} {H : Hp} {s : Shared} {a : Addr} {oe : Obj} (ok : X.Ok) (I : Inv (cxAfter X a oe) pins σ H s) : Inv X pins σ H s :=
  ⟨ok, I.os, I.bare, I.base, I.loc, I.cell, I.free, I.freeC, fun p hp => I.pin p (by
    show p ∈ (X.pn ++ [(a, oe)]) ++ pins
    rcases List.mem_append.mp hp with z | z
    · exact List.mem_append_left _ (List.mem_append_left _ z)
    · exact List.mem_append_right _ z), I.hok, I.len⟩
noncomputable def tTryR (K : PySem.W.Frag) (t : XK → TS) (c : Value) (i : Nat) (tb tr : Value → Addr → TS) : TS := fun D σ H => ∃ E : XK, t E { nx := fun _ _ => False, rt := D.rt } σ H ∧ ∀ cls H', E cls none H' → PySem.W.exmOne K cls c = some true ∧
  ∀ a, H' a = none → tb cls a { nx := fun σ' H2 => tr cls a D (σ'.set i none) H2, rt := D.rt } (σ.set i (some (.ref a))) H'
theorem pss_tryR {X : Cx} {body rest : List Stmt} {hpos pos np : Pos} {x n : Str} {b₀ : Stmt} {suite : List Stmt} {t : XK → TS} {C : Addr} {i : Nat} {tb tr : Value → Addr → TS} (O : Own X) (hN : X.N.Nodup) (hi : X.N[i]? = some n) (hloc : X.env.scope.names.lookup n = some .local)
    (hm : X.mg x = some (.ref C)) (hc : PSX X body t) (hb : ∀ cls a oe, oe.cls = cls → PSs (cxSuite X a oe) (b₀ :: suite) (tb cls a)) (hR : ∀ cls a oe, oe.cls = cls → PSs (cxAfter X a oe) rest (tr cls a)) (hg : Gl X x := by rfl) (hdb : (x == ("__debug__" : Str)) = false := by decide) :
    PSs X (.Try body [.ExceptHandler (some (.Name x np)) (some n) (b₀ :: suite) hpos] [] [] pos :: rest) (tTryR X.K t (.ref C) i tb tr) := by
  intro pins s σ H D I h
  obtain ⟨E, hbody, hcatch⟩ := h
  have hcls : (X.env.scope.kind == .class || (X.env.scope.kind == .module && X.env.locals != X.env.globals)) = false := by rw [I.ok.kind]; rfl
  have hfr : X.A.frames = some (X.env :: X.outer) := by rw [← O.top]; exact O.ok.frames
  refine wpAny_execs_cons (wpAny_Try_except (wpAny_mono (hc E pins s σ H _ I hbody) (fun f s1 q => ?_) fun e s' hx => ?_))
  · cases f with
    | next => obtain ⟨_, _, _, z⟩ := q; exact z.elim
    | brk => obtain ⟨_, _, _, z⟩ := q; exact z.elim
    | cont => obtain ⟨_, _, _, z⟩ := q; exact z.elim
    | ret v => exact q
  · obtain ⟨H1, s1, I1, a, cls, H', B, rfl, x0, hE⟩ := hx
    obtain ⟨hexm, hsuite⟩ := hcatch cls H' hE
    have st := x0.sta
    rw [O.top] at st
    have noex : ∀ b ∈ frs X.stack, b ∉ ([] : List Addr) := fun b _ => by simp
    refine sta_note hfr O.fr st fun h4 a0 k4 u4 => ?_
    have x4 := x0.move (l' := X.stack) u4 (by rw [O.top]; exact ⟨a0, .inr (.inr ⟨_, _, _, rfl, O.fr, k4⟩)⟩) (fun b hb => hb) (fun b o _ hb => hb) noex
    refine wpAny_landsW (s := { s' with heap := h4 }) k4 fun h5 k5 u5 => ?_
    have x5 := x4.move (l' := X.stack) u5 (by rw [O.top]; exact ⟨a0, .inr (.inl k5)⟩) (fun b hb => hb) (fun b o _ hb => hb) noex
    have I5 : Inv X pins σ H' { s' with heap := h5 } := I1.call' (ch := []) x5.os x5.un x5.hok x5.bare fun b hb => absurd hb (by simp)
    have mk : ∀ {h6 : Heap}, Heap.FlyingW B (X.env :: X.outer) a cls a0 h6 → XAt X.prog X.w X.stack [] H1 s1 B a cls H' { s' with heap := h6 } → ∃ oe, h6.get? a = some oe ∧ oe.cls = cls ∧ Inv (cxSuite X a oe) pins σ H' { s' with heap := h6 } := fun {h6} k6 x6 => by
      obtain ⟨oe, vs, e1, e2, e3, _⟩ := k6.first
      have I6 : Inv X pins σ H' { s' with heap := h6 } := I1.call' (ch := []) x6.os x6.un x6.hok x6.bare fun b hb => absurd hb (by simp)
      refine ⟨oe, e1, e2, I6.suite e1 x6.na (fun z => ?_) (fun z => ?_) fun v z => by rw [e3] at z; cases z⟩
      · obtain ⟨m, ⟨o', es, ep, ho', hd', _⟩, _⟩ := I6.loc
        rw [← z] at ho'
        have ho' : h6.get? a = some o' := ho'
        rw [e1] at ho'; cases ho'
        rw [e3] at hd'; cases hd'
      · obtain ⟨_, o', ho', hd'⟩ := I6.funs.mem z
        have ho' : h6.get? a = some o' := ho'
        rw [e1] at ho'; cases ho'
        exact hd' _ e3
    obtain ⟨oe5, e51, e52, J5⟩ := mk k5 x5
    refine wpAny_handleBy_cons (codeAny_handlers_test (ld_glob (X := cxSuite X a oe5) J5 hg hm ?_ hdb)) (by intro q; cases q)
    have LT : PySem.W.Looks (model X.prog X.w) h5 (typeOf (.ref a)) cls := by
      have z : PySem.W.Looks (model X.prog X.w) h5 (typeOf (.ref a)) oe5.cls := (PySem.W.Looks.ld (M := model X.prog X.w) e51).andThen .now
      rw [e52] at z
      exact z
    refine (PySem.W.exm_one (M := model X.prog X.w) (h := h5) I5.kIn LT hexm).at ?_
    show codeAny _ _ _ _ _
    refine codeAny_handlers_suite_as ?_
    refine lands_againW (s := { s' with heap := h5 }) k5 fun h6 k6 u6 => ?_
    have x6 := x5.move (l' := X.stack) u6 (by rw [O.top]; exact ⟨a0, .inr (.inl k6)⟩) (fun b hb => hb) (fun b o _ hb => hb) noex
    obtain ⟨oe, e61, e62, J6⟩ := mk k6 x6
    refine store_ok (X := cxSuite X a oe) (i := i) (v := .ref a) J6 hN hi (.inl hloc) rfl (fun s7 J7 => ?_) (.inr hloc)
    refine quietX (hb cls a oe e62 pins s7 _ H' _ J7 (hsuite a x6.na)) fun f s8 q8 => ?_
    have go : ∀ {σ8 : St} {H8 : Hp} {Q8 : Unit → Shared → Prop}, Inv (cxSuite X a oe) pins σ8 H8 s8 → (∀ s9, Inv (cxAfter X a oe) pins (σ8.set i none) H8 s9 → Q8 () s9) → wpAny (model X.prog X.w) X.A (do bindName X.env n .none; unbindBehindTheSuite X.env n hpos) Q8 X.xe s8 := fun {σ8 H8 Q8} J8 hq => by
      have I8 := J8.afterS O.ok
      obtain ⟨m, hn, _⟩ := id I8.loc
      refine wpAny_nameGoes_keeps hloc hn hcls fun h9 v hn9 hs9 => ?_
      refine hq _ (I8.unname (h' := h9) (m' := m) (t' := s8.toks + 1) hN hi (fun m2 hn2 => ?_) hs9)
      have em : m2 = m := by
        obtain ⟨o1, es1, ep1, g1, g2, g3, g4⟩ := hn
        obtain ⟨o2, es2, ep2, j1, j2, j3, j4⟩ := hn2
        rw [g1] at j1; cases j1
        rw [g2] at j2; cases j2
        funext y
        rw [← g4 y, ← j4 y]
      subst em
      exact ⟨v, hn9⟩
    cases f with
    | next =>
      obtain ⟨σ8, H8, J8, q8⟩ := q8
      refine go J8 fun s9 I9 => ?_
      refine wpAny_mono (hR cls a oe e62 pins s9 _ H8 D I9 q8) (fun f' s' q' => ?_) fun _ _ x => x
      cases f' with
      | next => obtain ⟨σ', H', I', q⟩ := q'; exact ⟨σ', H', I'.unafter O.ok, q⟩
      | brk => obtain ⟨σ', H', I', q⟩ := q'; exact ⟨σ', H', I'.unafter O.ok, q⟩
      | cont => obtain ⟨σ', H', I', q⟩ := q'; exact ⟨σ', H', I'.unafter O.ok, q⟩
      | ret u => obtain ⟨v, σ', H', I', r, q⟩ := q'; exact ⟨v, σ', H', I'.unafter O.ok, r, q⟩
    | brk => obtain ⟨σ8, H8, J8, q8⟩ := q8; exact q8.elim
    | cont => obtain ⟨σ8, H8, J8, q8⟩ := q8; exact q8.elim
    | ret u =>
      obtain ⟨v8, σ8, H8, J8, r8, q8⟩ := q8
      exact go J8 fun s9 I9 => ⟨v8, _, H8, I9.unafter O.ok, r8, q8⟩
end L2

namespace L2
open PySem PySem.Spec PyProof.Rows
section
variable {X : Cx}
theorem tup_items {s : Shared} {A : Around} {ns ms : List Int} {i1 i2 : List Value} (r1 : Vals (ns.map V.int) i1) (r2 : Vals (ms.map V.int) i2) (j : Nat) (h1 : j < i1.toArray.size) (h2 : j < i2.toArray.size) :
    SeqAt.EqAt A.in1 s i1.toArray[j] i2.toArray[j] (ns.getD j 0 == ms.getD j 0) := by
  have l1 : ns.length = i1.length := by have z := r1.length; rwa [List.length_map] at z
  have l2 : ms.length = i2.length := by have z := r2.length; rwa [List.length_map] at z
  have hj : j < ns.length := by simp only [List.size_toArray] at h1; omega
  have hj2 : j < ms.length := by simp only [List.size_toArray] at h2; omega
  obtain ⟨x1, e1, t1⟩ := vals_at r1 h1
  obtain ⟨x2, e2, t2⟩ := vals_at r2 h2
  rw [List.getElem?_map, List.getElem?_eq_getElem hj] at e1
  rw [List.getElem?_map, List.getElem?_eq_getElem hj2] at e2
  obtain rfl := Option.some.inj e1
  obtain rfl := Option.some.inj e2
  obtain ⟨k1, q1⟩ := t1
  obtain ⟨k2, q2⟩ := t2
  rw [q1, q2]
  have g1 : ns.getD j 0 = ns[j] := by simp [List.getD, List.getElem?_eq_getElem hj]
  have g2 : ms.getD j 0 = ms[j] := by simp [List.getD, List.getElem?_eq_getElem hj2]
  rw [g1, g2]
  exact SeqAt.EqAt.int_int (A := A.in1) (s := s) ns[j] k1 ms[j] k2
theorem tup_answer {ns ms : List Int} {i1 i2 : List Value} (r1 : Vals (ns.map V.int) i1) (r2 : Vals (ms.map V.int) i2) :
    ((List.range (min i1.toArray.size i2.toArray.size)).all (fun j => ns.getD j 0 == ms.getD j 0) && i1.toArray.size == i2.toArray.size) = decide (ns = ms) := by
  have l1 : ns.length = i1.length := by have z := r1.length; rwa [List.length_map] at z
  have l2 : ms.length = i2.length := by have z := r2.length; rwa [List.length_map] at z
  by_cases c : ns = ms
  · subst c
    rw [decide_eq_true rfl, Bool.and_eq_true]
    exact ⟨List.all_eq_true.mpr fun _ _ => beq_self_eq_true _, by simp only [List.size_toArray, ← l1, ← l2]; exact beq_self_eq_true _⟩
  · rw [decide_eq_false c]
    refine Bool.eq_false_iff.mpr fun z => c ?_
    rw [Bool.and_eq_true] at z
    have hl : ns.length = ms.length := by have z2 := eq_of_beq z.2; simp only [List.size_toArray] at z2; omega
    refine List.ext_getElem hl fun j q1 q2 => ?_
    have z2 := List.all_eq_true.mp z.1 j (List.mem_range.mpr (by simp only [List.size_toArray]; omega))
    have g1 : ns.getD j 0 = ns[j] := by simp [List.getD, List.getElem?_eq_getElem q1]
    have g2 : ms.getD j 0 = ms[j] := by simp [List.getD, List.getElem?_eq_getElem q2]
    rw [← g1, ← g2]
    exact eq_of_beq z2
end
end L2


namespace L2
open PySem PySem.Spec PyProof.Rows
theorem vals_strs : ∀ {ts : List Str} {its : List Value}, Vals (ts.map V.str) its → ∃ l : List (Str × Tok), strValues l = its ∧ l.map (·.1) = ts
  | [], _, .nil => ⟨[], rfl, rfl⟩
  | t :: ts, _ :: _, .cons r v => by
    obtain ⟨tk, rfl⟩ := r
    obtain ⟨l, e1, e2⟩ := vals_strs v
    exact ⟨(t, tk) :: l, by rw [← e1]; rfl, by rw [← e2]; rfl⟩
theorem vals_of_strs : ∀ (l : List (Str × Tok)), Vals ((l.map (·.1)).map V.str) (strValues l)
  | [] => .nil
  | (x, t) :: l => .cons ⟨t, rfl⟩ (vals_of_strs l)
section
variable {X : Cx}
noncomputable def rJoin : V → List V → Hp → VK → Prop := fun x vs H Q => ∃ (sep : Str) (l : Addr) (ts : List Str), x = .str sep ∧ vs = [.ref l] ∧ H l = some (.lst (ts.map V.str)) ∧ JoinOk sep ts = true ∧ Q (.str (Txt.join sep ts)) H
theorem mt_join : MtM X "str.join" rJoin := by
  intro pins s σ H x vs v us Q I rx rv h
  obtain ⟨sep, l, ts, rfl, rfl, hl, hok, q⟩ := h
  obtain ⟨t, rfl⟩ := rx
  obtain ⟨u, rfl, ru⟩ := rv.one
  cases ru
  obtain ⟨z, its, n, r, hlen, e⟩ := I.lstM hl
  obtain ⟨lt, e1, e2⟩ := vals_strs r
  refine SC.join (l := lt) (texts := ts) ⟨_, e, rfl, n, by rw [e1]⟩ e2 hok fun t' k => ⟨.str _, H, I.tok k, ⟨_, rfl⟩, q⟩
noncomputable def rSplit : V → List V → Hp → VK → Prop := fun x vs H Q => ∃ (z sep : Str), x = .str z ∧ vs = [.str sep] ∧ (sep.length == 0) = false ∧ z.length ≤ sizeLine ∧ (Txt.split z sep).length ≤ sizeLine ∧ (Builtin.Str.partsBetween z (Builtin.Str.occurrences z sep 0 z.length (z.length + 1)) sep.length).length ≤ sizeLine ∧ ∀ p, H p = none → Q (.ref p) (upd H p (.lst ((Txt.split z sep).map V.str)))
theorem mt_split : MtM X "str.split" rSplit := by
  intro pins s σ H x vs v us Q I rx rv h
  obtain ⟨z, sep, rfl, rfl, hy, hz, hn, hn2, q⟩ := h
  obtain ⟨t, rfl⟩ := rx
  obtain ⟨u, rfl, ru⟩ := rv.one
  obtain ⟨tu, rfl⟩ := ru
  have fr : H s.heap.objs.size = none := I.hok.fresh (Nat.le_refl _)
  have fin : ∀ (l : List (Str × Tok)) (k : Nat), l.map (·.1) = Txt.split z sep → EP X pins σ Q (.ref s.heap.objs.size) { s with toks := k, heap := s.heap.push { cls := .type "list", data := .seq (strValues l).toArray } } := fun l k e => by
    refine ⟨.ref s.heap.objs.size, _, I.laid (t' := k) (o := .lst ((Txt.split z sep).map V.str)) (fun b ob q => Heap.get?_push_of_some _ q) (Nat.le_refl _) ⟨by rw [List.length_map]; exact hn, strValues l, 0, ?_, Heap.get?_push_size _ rfl⟩, rfl, q _ fr⟩
    rw [← e]
    exact vals_of_strs l
  cases h1 : (decide (z.length < sep.length) || decide (Builtin.Str.strKind z < Builtin.Str.strKind sep))
  · cases hf : (Builtin.Str.occurrences z sep 0 z.length (z.length + 1)).isEmpty
    · refine call_meets F.slot_str_split (typeIs_str _ _ _) F.entry_str_split (F.args_str_split_2 _ _) (meets_str_split_sep z sep t tu h1 hy hf hz hn2) ?_
      have e3 := strsFrom_eq s.toks (Builtin.Str.partsBetween z (Builtin.Str.occurrences z sep 0 z.length (z.length + 1)) sep.length)
      have e4 := fin (numbered s.toks (Builtin.Str.partsBetween z (Builtin.Str.occurrences z sep 0 z.length (z.length + 1)) sep.length)) (s.toks + (Builtin.Str.partsBetween z (Builtin.Str.occurrences z sep 0 z.length (z.length + 1)) sep.length).length) ((numbered_texts _ _).trans ((if_neg (ne_true_of_eq_false h1)).trans (if_neg (ne_true_of_eq_false hf))).symm)
      rw [← e3] at e4
      exact e4
    · exact call_meets F.slot_str_split (typeIs_str _ _ _) F.entry_str_split (F.args_str_split_2 _ _) (meets_str_split_not_found z sep t tu h1 hy hf) (fin [(z, t)] s.toks ((if_neg (ne_true_of_eq_false h1)).trans (if_pos hf)).symm)
  · exact call_meets F.slot_str_split (typeIs_str _ _ _) F.entry_str_split (F.args_str_split_2 _ _) (meets_str_split_cannot_occur z sep t tu h1) (fin [(z, t)] s.toks (if_pos h1).symm)
theorem call_int_text : CallR X (.type "int") (fun xs H Q => ∃ (z : Str) (n : Int), xs = [.str z] ∧ PySem.intText? z = some n ∧ z.length ≤ 640 ∧ Q (.int n) H) := by
  intro pins s σ H xs us Q I r h
  obtain ⟨z, n, rfl, hn, hl, q⟩ := h
  obtain ⟨u, rfl, t, rfl⟩ := r.one
  exact PySem.W.KIN.call_text hn hl ⟨.int n, H, I.tok _, ⟨_, rfl⟩, q⟩
theorem range_alls (bs : List Bool) : ((List.range bs.length).all fun i => (bs[i]?).getD true) = bs.all id := by
  rw [Bool.eq_iff_iff, List.all_eq_true, List.all_eq_true]
  constructor
  · intro h b hb
    obtain ⟨i, hi, rfl⟩ := List.mem_iff_getElem.mp hb
    have z := h i (List.mem_range.mpr hi)
    rw [List.getElem?_eq_getElem hi] at z
    exact z
  · intro h i hi
    have hi := List.mem_range.mp hi
    rw [List.getElem?_eq_getElem hi]
    exact h _ (List.getElem_mem hi)
theorem call_all_bl (hc : X.calm = true) : CallR X (.builtin "all") (fun xs H Q => ∃ (p : Addr) (bs : List Bool), xs = [.ref p] ∧ H p = some (.lst (bs.map V.bl)) ∧ Q (.bl (bs.all id)) H) := by
  intro pins s σ H xs us Q I r h
  obtain ⟨p, bs, rfl, hp, q⟩ := h
  obtain ⟨u, rfl, ru⟩ := r.one
  cases ru
  obtain ⟨z, its, n, rv, hlen, e⟩ := I.lstM hp
  have hl : s.heap.IsList p its.toArray := ⟨_, e, rfl, n, rfl⟩
  have hlt : p < s.heap.objs.size := Heap.lt_size e
  have hbl : bs.length = its.length := by rw [← hlen, List.length_map]
  refine call_all_walk (wpAny_pyIter_list hl ⟨s.heap.objs.size, [s.heap.objs.size, p], [s.heap.objs.size], its.toArray.size, _, _, fun i => (bs[i]?).getD true, rfl, Walks.list (A := X.A.in1) (I.ok.hd hc) _ p (Nat.ne_of_lt hlt) its.toArray,
    ⟨⟨_, Heap.get?_push_size _ rfl, rfl, rfl⟩, hl.push _⟩, fun i v s' Q' E' hP hQ => ?_, fun h' tk hk => ?_⟩)
  · have hP : its[i]? = some v := by simpa using hP
    have hi : i < bs.length := by rw [hbl]; exact (List.getElem?_eq_some_iff.mp hP).1
    have eb : (bs.map V.bl)[i]? = some (.bl bs[i]) := by rw [List.getElem?_map, List.getElem?_eq_getElem hi]; rfl
    obtain ⟨u, e1, r1⟩ := rv.get eb
    rw [hP] at e1
    obtain rfl := Option.some.inj e1
    cases r1
    dsimp only at hQ
    rw [List.getElem?_eq_getElem hi] at hQ
    exact wpAny_truthy_bool hQ
  · have e2 : ((List.range its.toArray.size).all fun i => (bs[i]?).getD true) = bs.all id := by rw [List.size_toArray, ← hbl]; exact range_alls bs
    rw [e2]
    exact ⟨.bl _, H, I.kept (t' := tk) fun b o eb => hk b o (fun hm => by rw [List.mem_singleton.mp hm] at eb; exact Nat.lt_irrefl _ (Heap.lt_size eb)) (Heap.get?_push_of_some _ eb), rfl, q⟩
end
noncomputable def Ascii (z : Str) : Prop := z.cps.all (· < 128) = true
noncomputable def Its (z : Str) : It := ⟨fun i _ => i < z.length, fun i H x H' => H' = H ∧ ∃ c, z.cps[i]? = some c ∧ x = .str ⟨#[c]⟩, fun i _ => z.length ≤ i⟩
theorem turn_str {P : Program} {w : World} {K : PySem.W.Frag} {tg : Expr} (z : Str) (t : Tok) (it : Addr) : Turn P w K tg (Its z) [it] it (fun i h => h.IsStrIter it "str_ascii_iterator" z t i) where
  mem := by simp
  obj := fun i h st b hb => by
    have e : b = it := by simpa using hb
    subst e
    obtain ⟨o, e, c, d⟩ := st
    exact ⟨o, e, fun v z => by rw [d] at z; cases z⟩
  keep := fun i h h' st k => by
    obtain ⟨o, e, c, d⟩ := st
    exact ⟨o, k it (by simp) o e, c, d⟩
  item := by
    intro X hP hw hK hc i pins s σ H E I hf st hg
    subst hP hw hK
    have hg : i < z.length := hg
    have hx : z.cps[i]? = some (z.cps[i]'hg) := Array.getElem?_eq_getElem hg
    obtain ⟨f0, f1, f2, f3, f4, f5⟩ := hf it (by simp)
    refine wpAny_pyNext_ascii_item st hx fun h' st' sb => ?_
    have I1 : Inv X pins σ H { s with heap := h', toks := s.toks + 1 } := I.turned (t' := s.toks + 1) (fun b o hb e => (sb.2 b hb).trans e) f0 f1 f3 f4 f5
    obtain ⟨o, e, c, d⟩ := id st'
    exact ⟨_, rfl, go_of (s := { s with heap := h', toks := s.toks + 1 }) e c d (by decide) ⟨.str ⟨#[z.cps[i]'hg]⟩, H, I1, ⟨_, rfl⟩, ⟨rfl, _, hx, rfl⟩, st', fun b hb => (hf b hb).1⟩⟩
  done := by
    intro X hP hw hK hc i pins s σ H E I hf st hg
    subst hP hw hK
    have hg : z.length ≤ i := hg
    obtain ⟨f0, f1, f2, f3, f4, f5⟩ := hf it (by simp)
    exact wpAny_pyNext_ascii_end (I.ok.hd hc) st (Array.getElem?_eq_none hg) fun h' eb => ⟨rfl, I.turned (t' := s.toks) (fun b o hb e => eb b o hb e) f0 f1 f3 f4 f5⟩
  self := fun _ _ _ _ _ st h => wpAny_pyIter_striter_ascii st h
section
variable {X : Cx}
noncomputable def iStr (te : TE) : TI := fun σ H R => te σ H fun x H1 => ∃ z, x = .str z ∧ Ascii z ∧ R (Its z) H1
theorem pi_str {e tg : Expr} {te : TE} (he : PE X e te) : PI X tg e (iStr te) := by
  intro pins s σ H R I h
  refine thn (he pins s σ H _ I h) fun v s1 ⟨x, H1, I1, r1, z, ex, ha, q⟩ => ?_
  subst ex
  obtain ⟨t, rfl⟩ := r1
  refine wpAny_pyIter_ascii ha ?_
  refine ⟨s1.heap.objs.size, [s1.heap.objs.size], _, _, H1, rfl, I1.kept (t' := s1.toks) fun b o e => Heap.get?_push_of_some _ e, turn_str z t _, ⟨_, Heap.get?_push_size _ rfl, rfl, rfl⟩, fun b hb => ?_, q⟩
  have e : b = s1.heap.objs.size := by simpa using hb
  subst e
  exact I1.fpOk (Nat.le_refl _) (I1.hok.fresh (Nat.le_refl _))
theorem comp_str {z : Str} {g : TG} {tt : TT} {te : TE} {D : Addr} {Q : VK} {σ₀ : St} {H₀ : Hp} (Pv : Nat → St → Hp → Prop) (h0 : Pv 0 σ₀ H₀)
    (hs : ∀ i c σ H, z.cps[i]? = some c → Pv i σ H → g (.str ⟨#[c]⟩) σ H fun σ3 H3 => tt σ3 H3 fun b H4 => if b = true then te σ3 H4 fun v H5 => ∃ ys, H5 D = some (.lst ys) ∧ ys.length < sizeLine ∧ Pv (i + 1) σ3 (upd H5 D (.lst (ys ++ [v]))) else Pv (i + 1) σ3 H4)
    (hd : ∀ σ H, Pv z.length σ H → Q (.ref D) H) : CompW (Its z) g tt te D Q σ₀ H₀ := by
  refine ⟨fun i m σ H => m = z.length - i ∧ i ≤ z.length ∧ Pv i σ H, ⟨z.length, by simp, Nat.zero_le _, h0⟩, ?_⟩
  rintro i m σ H ⟨rfl, hi, p⟩
  by_cases hlt : i < z.length
  · refine .inr ⟨hlt, Pv (i + 1), fun σ' H' p' => ⟨z.length - (i + 1), by omega, rfl, hlt, p'⟩, fun x H' y => ?_⟩
    obtain ⟨e, c, hc, rfl⟩ := y
    subst e
    exact hs i c σ _ hc p
  · have e : i = z.length := by omega
    subst e
    exact .inl ⟨Nat.le_refl _, hd σ H p⟩
noncomputable def jSv (te : TE) (t : St → Hp → Prop) : St → Hp → Prop := fun σ H => te σ H fun v H' => H' = H ∧ (∃ z : Str, v = .str z ∧ z.length ≤ 5000 ∧ Ascii z) ∧ t σ H
theorem pj_sv {a : Expr} {pos : Pos} {es : List Expr} {m : Nat} {t : St → Hp → Prop} {te : TE} (ha : PE X a te) (h : PJ X es m t) : PJ X (.FormattedValue a (-1) none pos :: es) (60000 + m) (jSv te t) := fun pins s σ H out Q I ht hz q => by
  show wpAny _ _ (joinParts out (eval (.FormattedValue a (-1) none pos) X.env :: evalEach es X.env)) Q _ s
  refine joinParts_cons (FormattedValue_plain (thn (ha pins s σ H _ I ht) fun u s1 h1 => ?_))
  obtain ⟨v, H1, I1, r, rfl, ⟨z, rfl, hz2, _⟩, ht1⟩ := h1
  obtain ⟨tk, rfl⟩ := r
  have e : (out ++ z).length = out.length + z.length := strLen_append _ _
  have fin : ∀ (t' : Tok) (k' : Nat), (out ++ z).length ≤ sizeLine ∧ wpAny (model X.prog X.w) X.A (joinParts (out ++ z) (evalEach es X.env)) Q X.xe { s1 with toks := k' } := fun t' k' => ⟨by rw [e]; omega, h pins _ σ H1 (out ++ z) Q (I1.tok _) ht1 (by rw [e]; omega) q⟩
  exact SB.field_str (fun t' k' => fin t' k') (Nat.le_trans hz2 (by decide))
theorem pj_rv {a : Expr} {pos : Pos} {es : List Expr} {m : Nat} {t : St → Hp → Prop} {te : TE} (ha : PE X a te) (h : PJ X es m t) : PJ X (.FormattedValue a 114 none pos :: es) (60000 + m) (jSv te t) := fun pins s σ H out Q I ht hz q => by
  show wpAny _ _ (joinParts out (eval (.FormattedValue a 114 none pos) X.env :: evalEach es X.env)) Q _ s
  refine joinParts_cons (wpAny_FormattedValue_repr (thn (ha pins s σ H _ I ht) fun u s1 h1 => ?_))
  obtain ⟨v, H1, I1, r, rfl, ⟨z, rfl, hz2, hz3⟩, ht1⟩ := h1
  obtain ⟨tk, rfl⟩ := r
  have lr : (reprText z).length ≤ 10 * z.length + 2 := StrLaws.reprText_len z fun c hc => by
    have z3 : z.cps.toList.all (· < 128) = true := by rw [Array.all_toList]; exact hz3
    have := of_decide_eq_true (List.all_eq_true.mp z3 c hc)
    omega
  have e : (out ++ reprText z).length = out.length + (reprText z).length := strLen_append _ _
  have fin : ∀ (t' : Tok) (k' : Nat), (out ++ reprText z).length ≤ sizeLine ∧ wpAny (model X.prog X.w) X.A (joinParts (out ++ reprText z) (evalEach es X.env)) Q X.xe { s1 with toks := k' } := fun t' k' => ⟨by rw [e]; omega, h pins _ σ H1 (out ++ reprText z) Q (I1.tok _) ht1 (by rw [e]; omega) q⟩
  have szz : (reprText z).length ≤ sizeLine := Nat.le_trans (show (reprText z).length ≤ 100000 by omega) (by decide)
  exact pyReprObj_str (SB.field_str (s := { s1 with toks := s1.toks + 1 }) (fun t' k' => fin t' k') szz) szz
end
end L2

namespace Sx
open PySem Builtin Builtin.Str StrLaws
noncomputable def tl (s : PySem.Str) : List Nat := s.cps.toList
theorem ext {a b : PySem.Str} (h : tl a = tl b) : a = b := by
  obtain ⟨⟨x⟩⟩ := a
  obtain ⟨⟨y⟩⟩ := b
  have h : x = y := h
  rw [h]
theorem tl_app (a b : PySem.Str) : tl (a ++ b) = tl a ++ tl b := by
  show (a.cps ++ b.cps).toList = _
  exact Array.toList_append
theorem tl_len (a : PySem.Str) : (tl a).length = a.length := rfl
noncomputable def splitL (c : Nat) : List Nat → List (List Nat)
  | [] => [[]]
  | a :: r => if a = c then [] :: splitL c r else match splitL c r with
    | [] => [[a]]
    | p :: q => (a :: p) :: q
noncomputable def joinL (c : Nat) : List (List Nat) → List Nat
  | [] => []
  | [w] => w
  | w :: v :: r => w ++ c :: joinL c (v :: r)
theorem splitL_plain {c : Nat} : ∀ {w : List Nat}, c ∉ w → splitL c w = [w]
  | [], _ => rfl
  | a :: r, h => by
    have h1 : a ≠ c := fun e => h (e ▸ List.mem_cons_self)
    have h2 : c ∉ r := fun z => h (List.mem_cons_of_mem _ z)
    conv => lhs; unfold splitL
    rw [if_neg h1, splitL_plain h2]
theorem splitL_at {c : Nat} : ∀ {p q : List Nat}, c ∉ p → splitL c (p ++ c :: q) = p :: splitL c q
  | [], q, _ => by
    show splitL c (c :: q) = _
    conv => lhs; unfold splitL
    rw [if_pos rfl]
  | a :: r, q, h => by
    have h1 : a ≠ c := fun e => h (e ▸ List.mem_cons_self)
    have h2 : c ∉ r := fun z => h (List.mem_cons_of_mem _ z)
    show splitL c (a :: (r ++ c :: q)) = _
    conv => lhs; unfold splitL
    rw [if_neg h1, splitL_at h2]
theorem split_join {c : Nat} : ∀ {ws : List (List Nat)}, ws ≠ [] → (∀ w ∈ ws, c ∉ w) → splitL c (joinL c ws) = ws
  | [], h, _ => absurd rfl h
  | [w], _, h => splitL_plain (h w List.mem_cons_self)
  | w :: v :: r, _, h => by
    show splitL c (w ++ c :: joinL c (v :: r)) = _
    rw [splitL_at (h w List.mem_cons_self), split_join (by simp) fun x hx => h x (List.mem_cons_of_mem _ hx)]
theorem tl_join (c : Nat) : ∀ ts : List PySem.Str, tl (PySem.Str.join ⟨#[c]⟩ ts) = joinL c (ts.map tl)
  | [] => rfl
  | [t] => rfl
  | t :: u :: r => by
    show tl (t ++ ⟨#[c]⟩ ++ PySem.Str.join ⟨#[c]⟩ (u :: r)) = tl t ++ c :: joinL c ((u :: r).map tl)
    rw [tl_app, tl_app, tl_join c (u :: r), List.append_assoc]
    rfl
inductive Cuts (x : PySem.Str) (c : Nat) : Nat → List Nat → Prop
  | nil {s : Nat} : (∀ i, s ≤ i → (tl x)[i]? ≠ some c) → Cuts x c s []
  | cons {s k : Nat} {r : List Nat} : s ≤ k → (∀ i, s ≤ i → i < k → (tl x)[i]? ≠ some c) → (tl x)[k]? = some c → Cuts x c (k + 1) r → Cuts x c s (k :: r)
theorem parts_cuts {x : PySem.Str} {c : Nat} : ∀ {cuts : List Nat} {s : Nat}, Cuts x c s cuts → s ≤ x.length → (partsFrom x 1 s cuts).map tl = splitL c ((tl x).drop s)
  | [], s, h, hs => by
    cases h with
    | nil h =>
      have e : tl (strSub x s x.length) = (tl x).drop s := by
        have z := strSub_toList x s x.length
        show (strSub x s x.length).cps.toList = _
        rw [z]
        exact List.take_of_length_le (by rw [List.length_drop]; exact Nat.le_refl _)
      show [tl (strSub x s x.length)] = _
      rw [e, splitL_plain]
      intro m
      obtain ⟨i, hi⟩ := List.mem_iff_getElem?.mp m
      rw [List.getElem?_drop] at hi
      exact h (s + i) (by omega) hi
  | k :: r, s, h, hs => by
    cases h with
    | cons h1 h2 h3 h4 =>
      have hk : k < x.length := (List.getElem?_eq_some_iff.mp h3).1
      have e : tl (strSub x s k) = ((tl x).drop s).take (k - s) := strSub_toList x s k
      show tl (strSub x s k) :: (partsFrom x 1 (k + 1) r).map tl = _
      rw [parts_cuts h4 (by omega), e]
      have d : (tl x).drop s = ((tl x).drop s).take (k - s) ++ c :: (tl x).drop (k + 1) := by
        conv => lhs; rw [← List.take_append_drop (k - s) ((tl x).drop s)]
        congr 1
        rw [List.drop_drop, show s + (k - s) = k by omega, List.drop_eq_getElem_cons (show k < (tl x).length from hk)]
        congr 1
        have z := h3
        rw [List.getElem?_eq_getElem (show k < (tl x).length from hk)] at z
        exact Option.some.inj z
      conv => rhs; rw [d]
      rw [splitL_at]
      intro m
      obtain ⟨i, hi⟩ := List.mem_iff_getElem?.mp m
      have hik : i < k - s := by
        have z := (List.getElem?_eq_some_iff.mp hi).1
        rw [List.length_take] at z
        omega
      rw [List.getElem?_take_of_lt hik, List.getElem?_drop] at hi
      exact h2 (s + i) (by omega) (by omega) hi
theorem subAt_one (x : PySem.Str) (c i : Nat) (hi : i < x.length) : subAt x ⟨#[c]⟩ i = decide ((tl x)[i]? = some c) := by
  rw [subAt_eq]
  show (((tl x).drop i).take 1 == [c]) = _
  rw [List.drop_eq_getElem_cons (show i < (tl x).length from hi), List.getElem?_eq_getElem (show i < (tl x).length from hi)]
  show ([(tl x)[i]] == [c]) = decide (some (tl x)[i] = some c)
  by_cases e : (tl x)[i] = c
  · rw [e]; simp
  · simp [e]
theorem scan (x : PySem.Str) (c : Nat) : ∀ (m a : Nat) (st : Array Nat × Nat), a + m = x.length + 1 → st.2 ≤ a → st.1.size ≤ a → (forIn (List.range' a m) st (occBody x ⟨#[c]⟩ x.length (x.length + 1))).run.fst.toList = st.1.toList ++ (List.range' a m).filter (fun i => decide ((tl x)[i]? = some c))
  | 0, a, st, _, _, _ => by simp
  | m + 1, a, st, h1, h2, h3 => by
    rw [List.range'_succ, List.forIn_cons, List.filter_cons]
    have one : (⟨#[c]⟩ : PySem.Str).length = 1 := rfl
    by_cases e : (tl x)[a]? = some c
    · have ha : a < x.length := (List.getElem?_eq_some_iff.mp e).1
      have hc : ((st.1.size < x.length + 1 ∧ st.2 ≤ a) ∧ a + (⟨#[c]⟩ : PySem.Str).length ≤ x.length) ∧ subAt x ⟨#[c]⟩ a = true := ⟨⟨⟨by omega, h2⟩, by rw [one]; omega⟩, by rw [subAt_one x c a ha]; exact decide_eq_true e⟩
      rw [if_pos (decide_eq_true e)]
      unfold occBody
      rw [if_pos hc]
      show (forIn (List.range' (a + 1) m) (st.1.push a, a + 1) (occBody x ⟨#[c]⟩ x.length (x.length + 1))).run.fst.toList = _
      rw [scan x c m (a + 1) _ (by omega) (Nat.le_refl _) (by rw [Array.size_push]; omega), Array.toList_push, List.append_assoc]
      rfl
    · have hc : ¬ (((st.1.size < x.length + 1 ∧ st.2 ≤ a) ∧ a + (⟨#[c]⟩ : PySem.Str).length ≤ x.length) ∧ subAt x ⟨#[c]⟩ a = true) := fun z => by
        have ha : a < x.length := by have := z.1.2; rw [one] at this; omega
        have y := z.2
        rw [subAt_one x c a ha] at y
        exact e (of_decide_eq_true y)
      have ed : ¬ decide ((tl x)[a]? = some c) = true := fun z => e (of_decide_eq_true z)
      rw [if_neg ed]
      unfold occBody
      rw [if_neg hc]
      show (forIn (List.range' (a + 1) m) (st.1, st.2) (occBody x ⟨#[c]⟩ x.length (x.length + 1))).run.fst.toList = _
      exact scan x c m (a + 1) _ (by omega) (by show st.2 ≤ a + 1; omega) (by show st.1.size ≤ a + 1; omega)
theorem cuts_less {x : PySem.Str} {c a : Nat} (e : ¬ (tl x)[a]? = some c) {r : List Nat} (q : Cuts x c (a + 1) r) : Cuts x c a r := by
  cases q with
  | nil q =>
    refine .nil fun i hi => ?_
    by_cases z : i = a
    · rw [z]; exact e
    · exact q i (by omega)
  | cons q1 q2 q3 q4 =>
    refine .cons (by omega) (fun i h1 h2 => ?_) q3 q4
    by_cases z : i = a
    · rw [z]; exact e
    · exact q2 i (by omega) h2
theorem cuts_filter (x : PySem.Str) (c : Nat) : ∀ (m a : Nat), a + m = x.length + 1 → Cuts x c a ((List.range' a m).filter (fun i => decide ((tl x)[i]? = some c)))
  | 0, a, h => .nil fun i hi z => by
    have := (List.getElem?_eq_some_iff.mp z).1
    rw [tl_len] at this
    omega
  | m + 1, a, h => by
    rw [List.range'_succ, List.filter_cons]
    have ih := cuts_filter x c m (a + 1) (by omega)
    by_cases e : (tl x)[a]? = some c
    · rw [if_pos (decide_eq_true e)]
      exact .cons (Nat.le_refl _) (fun i h1 h2 => by omega) e ih
    · rw [if_neg (fun z => e (of_decide_eq_true z))]
      exact cuts_less e ih
theorem occ_cuts (x : PySem.Str) (c : Nat) : Cuts x c 0 (occurrences x ⟨#[c]⟩ 0 x.length (x.length + 1)) := by
  rw [occ_eq, scan x c _ 0 (#[], 0) (by omega) (Nat.le_refl _) (Nat.le_refl _)]
  exact cuts_filter x c _ 0 (by omega)
theorem kind_ascii {x : PySem.Str} (h : L2.Ascii x) : Builtin.Str.strKind x = 1 := by
  unfold Builtin.Str.strKind
  rw [if_pos]
  have h : x.cps.all (· < 128) = true := h
  rw [Array.all_eq_true] at h ⊢
  intro i hi
  have z := of_decide_eq_true (h i hi)
  exact decide_eq_true (by omega)
theorem split_tl {x : PySem.Str} {c : Nat} (h : L2.Ascii x) (hc : c < 128) : (Txt.split x ⟨#[c]⟩).map tl = splitL c (tl x) := by
  have key := parts_cuts (occ_cuts x c) (Nat.zero_le _)
  rw [List.drop_zero] at key
  have hk : Builtin.Str.strKind (⟨#[c]⟩ : PySem.Str) = 1 := kind_ascii (by show (#[c]).all (· < 128) = true; simpa using hc)
  unfold Txt.split
  rw [kind_ascii h, hk]
  have whole : occurrences x ⟨#[c]⟩ 0 x.length (x.length + 1) = [] → [tl x] = splitL c (tl x) := fun e => by
    have z := occ_cuts x c
    rw [e] at z
    cases z with
    | nil z => rw [splitL_plain (fun m => by obtain ⟨i, hi⟩ := List.mem_iff_getElem?.mp m; exact z i (Nat.zero_le _) hi)]
  split
  · rename_i h1
    refine whole ?_
    have hz : x.length = 0 := by
      simp at h1
      have e1 : (⟨#[c]⟩ : PySem.Str).length = 1 := rfl
      omega
    have z := occ_cuts x c
    cases e : occurrences x ⟨#[c]⟩ 0 x.length (x.length + 1) with
    | nil => rfl
    | cons k r =>
      rw [e] at z
      cases z with
      | cons _ _ z3 _ =>
        have := (List.getElem?_eq_some_iff.mp z3).1
        rw [tl_len] at this
        omega
  · split
    · rename_i h2
      exact whole (List.isEmpty_iff.mp h2)
    · rw [partsBetween_eq]
      exact key
theorem splitL_len (c : Nat) : ∀ l : List Nat, (splitL c l).length ≤ l.length + 1
  | [] => Nat.le_refl _
  | a :: r => by
    have ih := splitL_len c r
    unfold splitL
    split
    · simp; omega
    · split
      · simp
      · rename_i p q e
        rw [e] at ih
        simp at ih ⊢
        omega
end Sx

namespace L2
open PySem PySem.Spec PyProof.Rows
section
variable {X : Cx}
noncomputable def rSlS : V → Option Int → Option Int → Hp → VK → Prop := fun x lo hi H Q => ∃ z : Str, x = .str z ∧ z.length ≤ sizeLine ∧ Q (.str (Txt.slice z lo hi)) H
theorem part_of {v : Value} {o : Option Int} (p : IsPart v o) : ∃ q : Option (Int × Tok), v = partValue q ∧ q.map (·.1) = o := by
  cases p with
  | none => exact ⟨none, rfl, rfl⟩
  | int i t => exact ⟨some (i, t), rfl, rfl⟩
theorem sl_str : SlR X rSlS := by
  intro pins s σ H x v vl vu lo hi sl Q I rx hs pl pu h
  obtain ⟨z, rfl, hz, q⟩ := h
  obtain ⟨t, rfl⟩ := rx
  obtain ⟨ql, rfl, e1⟩ := part_of pl
  obtain ⟨qu, rfl, e2⟩ := part_of pu
  refine ⟨"str", _, F.slot_str_getitem.lookup, typeIs_str _ _ _, wpAny_getItem_str_slice (l := ql) (u := qu) (st := none) hs rfl ?_⟩
  refine post_val_or_str ⟨?_, fun t' k => ?_⟩
  · have := Txt.slice_le z lo hi
    rw [← e1, ← e2] at this
    exact Nat.le_trans this hz
  · rw [← e1, ← e2] at q
    exact ⟨.str (Txt.slice z (ql.map (·.1)) (qu.map (·.1))), H, I.tok _, ⟨_, rfl⟩, q⟩
noncomputable def rStarts : V → List V → Hp → VK → Prop := fun x vs H Q => ∃ (z y : Str), x = .str z ∧ vs = [.str y] ∧ Q (.bl (Txt.startswith z y)) H
theorem mt_starts : MtM X "str.startswith" rStarts := by
  intro pins s σ H x vs v us Q I rx rv h
  obtain ⟨z, y, rfl, rfl, q⟩ := h
  obtain ⟨t, rfl⟩ := rx
  obtain ⟨u, rfl, ru⟩ := rv.one
  obtain ⟨tu, rfl⟩ := ru
  exact SC.startswith ⟨.bl _, H, I, rfl, q⟩
noncomputable def rEnds : V → List V → Hp → VK → Prop := fun x vs H Q => ∃ (z y : Str), x = .str z ∧ vs = [.str y] ∧ Q (.bl (Txt.endswith z y)) H
theorem mt_ends : MtM X "str.endswith" rEnds := by
  intro pins s σ H x vs v us Q I rx rv h
  obtain ⟨z, y, rfl, rfl, q⟩ := h
  obtain ⟨t, rfl⟩ := rx
  obtain ⟨u, rfl, ru⟩ := rv.one
  obtain ⟨tu, rfl⟩ := ru
  exact SC.endswith ⟨.bl _, H, I, rfl, q⟩
noncomputable def KD (P : Program) (w : World) (K : PySem.W.Frag) (a : Addr) (kvs : List (Str × Str)) : Prop :=
  (a == sysModules) = false ∧ ∀ h : Heap, K.In h → ∃ vs : List (Key × Value), KV (kvs.map fun p => (Sum.inr p.1, V.str p.2)) vs ∧ h.DictOf (mixKind P w) a vs
theorem kd_two {P : Program} {w : World} {K : PySem.W.Frag} {a : Addr} {k1 v1 k2 v2 : Str} {t0 t1 t2 t3 : Tok} {ep} (l : K.lookup a = some ⟨.type "dict", none, .dict #[⟨keyH w (Sum.inr k1), .str k1 t0, .str v1 t1⟩, ⟨keyH w (Sum.inr k2), .str k2 t2, .str v2 t3⟩] ep, #[]⟩) (hs : (a == sysModules) = false) (hk : k1 ≠ k2) : KD P w K a [(k1, v1), (k2, v2)] := by
  refine ⟨hs, fun h kin => ⟨[(Sum.inr k1, .str v1 t1), (Sum.inr k2, .str v2 t3)], .cons ⟨rfl, _, rfl⟩ (.cons ⟨rfl, _, rfl⟩ .nil), _, _, _, kin _ _ l, ⟨rfl, rfl, rfl⟩, rfl, ?_, ?_, ?_⟩⟩
  · intro e he
    have he : e = ⟨keyH w (Sum.inr k1), .str k1 t0, .str v1 t1⟩ ∨ e = ⟨keyH w (Sum.inr k2), .str k2 t2, .str v2 t3⟩ := by simpa using he
    rcases he with rfl | rfl
    · exact ⟨Sum.inr k1, keyIs_str k1 t0, rfl⟩
    · exact ⟨Sum.inr k2, keyIs_str k2 t2, rfl⟩
  · exact .cons (keyIs_str k1 t0) rfl (.cons (keyIs_str k2 t2) rfl .nil)
  · simp [hk]
noncomputable def atS (kvs : List (Str × Str)) (k : Str) : Option Str := (kvs.find? fun p => decide (p.1 = k)).map (·.2)
theorem kd_val {kvs : List (Str × Str)} (k : Str) : valV (kvs.map fun p => ((Sum.inr p.1 : Key), V.str p.2)) (Sum.inr k) = (atS kvs k).map V.str := by
  unfold valV atS
  induction kvs with
  | nil => rfl
  | cons p r ih =>
    simp only [List.map_cons, List.find?_cons]
    by_cases e : p.1 = k
    · simp [e]
    · have e2 : ¬ (Sum.inr p.1 : Key) = Sum.inr k := fun z => e (Sum.inr.inj z)
      simp only [decide_eq_false e, decide_eq_false e2]
      exact ih
noncomputable def tKGet (kvs : List (Str × Str)) (a : Addr) (td ty : TE) : TE := fun σ H Q => td σ H fun x H1 => x = .ref a ∧ ty σ H1 fun y H2 => ∃ k v, y = .str k ∧ atS kvs k = some v ∧ Q (.str v) H2
theorem pe_kget {kvs : List (Str × Str)} {a : Addr} {o i : Expr} {pos : Pos} {td ty : TE} (kd : KD X.prog X.w X.K a kvs) (ho : PE X o td) (hi : PE X i ty) (hs : NoSl i) : PE X (.Subscript o i pos) (tKGet kvs a td ty) := by
  intro pins s σ H Q I h
  refine subD_of PySem.F.slot_dict_getitem.lookup hs (thn (ho pins s σ H _ I h) fun u s1 ⟨x, H1, I1, rx, ex, q1⟩ => thn (hi pins s1 σ H1 _ I1 q1) fun iv s2 ⟨y, H2, I2, ry, k, v, ey, g, q2⟩ => ?_)
  subst ex
  obtain rfl : u = Value.ref a := rx
  obtain ⟨vs, rel, dd⟩ := kd.2 _ I2.kIn
  refine ⟨dd.typeIs, ?_⟩
  have l := kd_val (kvs := kvs) k
  rw [g] at l
  obtain ⟨w', hw, rw'⟩ := RelO.some_of (v := V.str v) (o := valueAt vs (Sum.inr k)) (by rw [show some (V.str v) = (some v).map V.str from rfl, ← l]; exact rel.val _)
  subst ey
  exact wpAny_getItem_of (kV_is (k := Sum.inr k) ry) dd.mapOf hw ⟨.str v, H2, I2.tok _, rw', q2⟩
noncomputable def tKNotIn (kvs : List (Str × Str)) (a : Addr) (ty td : TE) : TE := fun σ H Q => ty σ H fun y H1 => td σ H1 fun x H2 => x = .ref a ∧ ∃ k, y = .str k ∧ Q (.bl (!(atS kvs k).isSome)) H2
theorem pc_knotin {kvs : List (Str × Str)} {a : Addr} {o i : Expr} {td ty : TE} (kd : KD X.prog X.w X.K a kvs) (hi : PE X i ty) (ho : PE X o td) : PC X .NotIn i o (tKNotIn kvs a ty td) := by
  intro pins s σ H Q I h
  refine thn (hi pins s σ H _ I h) fun iv s1 ⟨y, H1, I1, ry, q1⟩ => thn (ho pins s1 σ H1 _ I1 q1) fun u s2 ⟨x, H2, I2, rx, ex, k, ey, q2⟩ => ?_
  subst ex
  obtain rfl : u = Value.ref a := rx
  obtain ⟨vs, rel, dd⟩ := kd.2 _ I2.kIn
  subst ey
  refine wpAny_notIn_of (kV_is (k := Sum.inr k) ry) kd.1 dd.mapOf ?_
  have e : (valueAt vs (Sum.inr k)).isSome = (atS kvs k).isSome := by
    rw [← (rel.val (Sum.inr k)).isSome_eq, kd_val]
    cases atS kvs k <;> rfl
  rw [e]
  exact ⟨.bl _, H2, I2.tok _, rfl, q2⟩
end
end L2

namespace Mir
open PySem L2

noncomputable def farI (e : Int) : Int := if e % 2 = 0 then e + 1 else e - 1
theorem and_one {e : Int} (h : 0 ≤ e) : Builtin.bitAnd e 1 = e % 2 := by
  unfold Builtin.bitAnd
  rw [decide_eq_true h, decide_eq_true (show (0 : Int) ≤ 1 by decide)]
  show ((e.toNat &&& (1 : Int).toNat : Nat) : Int) = e % 2
  have e1 : e.toNat &&& (1 : Int).toNat = e.toNat % 2 := Nat.and_one_is_mod _
  rw [e1]
  omega
theorem xor_one {e : Int} (h : 0 ≤ e) : Builtin.bitXor e 1 = farI e := by
  rw [PyProof.Rows.bitXor_and, and_one h]
  unfold farI
  split <;> omega

theorem nodup_bound : ∀ (m : Nat) {es : List Int}, (∀ e ∈ es, 0 ≤ e ∧ e < (m : Int)) → es.Nodup → es.length ≤ m
  | 0, es, h, _ => by
    cases es with
    | nil => exact Nat.le_refl _
    | cons a r =>
      have := h a List.mem_cons_self
      omega
  | m + 1, es, h, nd => by
    by_cases hm : ((m : Nat) : Int) ∈ es
    · have nd2 : (es.erase ((m : Nat) : Int)).Nodup := nd.erase _
      have h2 : ∀ e ∈ es.erase ((m : Nat) : Int), 0 ≤ e ∧ e < (m : Int) := fun e he => by
        obtain ⟨h1, h3⟩ := (List.Nodup.mem_erase_iff nd).mp he
        have := h e h3
        omega
      have z := nodup_bound m h2 nd2
      rw [List.length_erase_of_mem hm] at z
      omega
    · have h2 : ∀ e ∈ es, 0 ≤ e ∧ e < (m : Int) := fun e he => by
        have h1 := h e he
        have : e ≠ m := fun z => hm (z ▸ he)
        omega
      have z := nodup_bound m h2 nd
      omega

noncomputable def flat (cs : List (Int × Int)) : List Int := cs.flatMap fun p => [p.1, p.2]
theorem flat_snoc (cs : List (Int × Int)) (p : Int × Int) : flat (cs ++ [p]) = flat cs ++ [p.1, p.2] := by unfold flat; simp
noncomputable def mStep (m : List V) (p : Int × Int) : List V := (m.set p.1.toNat (.int p.2)).set p.2.toNat (.int p.1)
noncomputable def matesOf (n : Nat) (cs : List (Int × Int)) : List V := cs.foldl mStep (rngV 0 (2 * n))
theorem matesOf_snoc (n : Nat) (cs : List (Int × Int)) (p : Int × Int) : matesOf n (cs ++ [p]) = mStep (matesOf n cs) p := by unfold matesOf; rw [List.foldl_append]; rfl
theorem mStep_len (m : List V) (p : Int × Int) : (mStep m p).length = m.length := by unfold mStep; rw [List.length_set, List.length_set]
theorem foldl_mStep_len : ∀ (cs : List (Int × Int)) (m : List V), (cs.foldl mStep m).length = m.length
  | [], _ => rfl
  | p :: r, m => by rw [List.foldl_cons, foldl_mStep_len r, mStep_len]
theorem matesOf_len (n : Nat) (cs : List (Int × Int)) : (matesOf n cs).length = 2 * n := by unfold matesOf; rw [foldl_mStep_len, rngV_len]
structure GoodCl (n : Nat) (cs : List (Int × Int)) : Prop where
  rng : ∀ e ∈ flat cs, 0 ≤ e ∧ e < 2 * n
  nd : (flat cs).Nodup
noncomputable def ClAt (K : PySem.W.Frag) (H : Hp) (c : Addr) (cs : List (Int × Int)) : Prop :=
  ∃ ts : List Addr, SqL K H c (ts.map V.ref) ∧ ts.length = cs.length ∧ ∀ (i : Nat) (t : Addr) (p : Int × Int), ts[i]? = some t → cs[i]? = some p → SqT K H t [.int p.1, .int p.2]
theorem take_snoc {α : Type} {l : List α} {i : Nat} {x : α} (h : l[i]? = some x) : l.take (i + 1) = l.take i ++ [x] := by
  rw [List.take_add_one, h]; rfl
theorem flat_take {cs : List (Int × Int)} {i : Nat} {p : Int × Int} (h : cs[i]? = some p) : ∃ r, flat cs = flat (cs.take i) ++ ([p.1, p.2] ++ r) := by
  refine ⟨flat (cs.drop (i + 1)), ?_⟩
  have e : cs = cs.take i ++ (p :: cs.drop (i + 1)) := by
    obtain ⟨hi, e⟩ := List.getElem?_eq_some_iff.mp h
    rw [← e, List.getElem_cons_drop, List.take_append_drop]
  conv => lhs; rw [e]
  unfold flat
  simp
noncomputable def seenV (es : List Int) : List (Key × V) := es.map fun e => (Sum.inl e, V.bl true)
theorem seenV_none {es : List Int} {e : Int} (h : e ∉ es) : valV (seenV es) (Sum.inl e : Key) = none := by
  cases q : valV (seenV es) (Sum.inl e : Key) with
  | none => rfl
  | some v =>
    have m := valV_in q
    unfold seenV at m
    rw [List.map_map] at m
    obtain ⟨x, hx, ex⟩ := List.mem_map.mp m
    have ex : (Sum.inl x : Key) = Sum.inl e := ex
    cases ex
    exact absurd hx h
theorem seenV_put {es : List Int} {e : Int} (h : e ∉ es) : putK (seenV es) (Sum.inl e : Key) (.bl true) = seenV (es ++ [e]) := by
  rw [putK_new _ (seenV_none h)]
  unfold seenV
  simp
theorem seenV_len (es : List Int) : (seenV es).length = es.length := by unfold seenV; rw [List.length_map]

noncomputable def spIsEnd : Sp := fun vs H Q _ => ∃ a b : Int, vs = [.int a, .int b] ∧ Q (.bl (decide (0 ≤ a ∧ a < b))) H
noncomputable def spFar : Sp := fun vs H Q _ => ∃ e : Int, vs = [.int e] ∧ 0 ≤ e ∧ Q (.int (farI e)) H
noncomputable def spWhole : Sp := fun vs H Q _ => ∃ e : Int, vs = [.int e] ∧ Q (.bl true) H
end Mir

namespace Ch
noncomputable def far (x : Nat) : Nat := if x % 2 = 0 then x + 1 else x - 1
theorem far_far (x : Nat) : far (far x) = x := by unfold far; split <;> split <;> omega
theorem far_ne (x : Nat) : far x ≠ x := by unfold far; split <;> omega
theorem far_half (x : Nat) : far x / 2 = x / 2 := by unfold far; split <;> omega
theorem far_lt {x n : Nat} (h : x < 2 * n) : far x < 2 * n := by unfold far; split <;> omega
theorem far_inj {x y : Nat} (h : far x = far y) : x = y := by rw [← far_far x, ← far_far y, h]
theorem half_eq {x y : Nat} (h : x / 2 = y / 2) : x = y ∨ x = far y := by unfold far; split <;> omega
structure Work (n : Nat) (M : Nat → Nat) : Prop where
  lt : ∀ x, x < 2 * n → M x < 2 * n
  inv : ∀ x, x < 2 * n → M (M x) = x
section
variable {n : Nat} {M : Nat → Nat}
structure Steps (n : Nat) (M : Nat → Nat) (s : Nat) (xs : List Nat) : Prop where
  hd : xs[0]? = some s
  step : ∀ (i x y : Nat), xs[i]? = some x → xs[i + 1]? = some y → y = M (far x) ∧ y ≠ far x ∧ y ≠ s
  lt : ∀ x ∈ xs, x < 2 * n
theorem Steps.one {s : Nat} (h : s < 2 * n) : Steps n M s [s] := by
  refine ⟨rfl, fun i x y h1 h2 => ?_, fun x hx => ?_⟩
  · cases i <;> simp at h2
  · simp at hx; subst hx; exact h
theorem Steps.snoc {s x : Nat} {xs : List Nat} (W : Work n M) (S : Steps n M s (xs ++ [x])) (h1 : M (far x) ≠ far x) (h2 : M (far x) ≠ s) : Steps n M s (xs ++ [x] ++ [M (far x)]) := by
  refine ⟨?_, fun i a b ha hb => ?_, fun y hy => ?_⟩
  · rw [List.getElem?_append_left (by simp)]; exact S.hd
  · by_cases hi : i + 1 < (xs ++ [x]).length
    · rw [List.getElem?_append_left (by omega)] at ha
      rw [List.getElem?_append_left hi] at hb
      exact S.step i a b ha hb
    · have hl : (xs ++ [x] ++ [M (far x)]).length = xs.length + 2 := by simp
      have hlt : i + 1 < (xs ++ [x] ++ [M (far x)]).length := (List.getElem?_eq_some_iff.mp hb).1
      have hl2 : (xs ++ [x]).length = xs.length + 1 := by simp
      have e : i = xs.length := by omega
      subst e
      have e1 : a = x := by
        rw [List.getElem?_append_left (by omega), List.getElem?_append_right (by omega)] at ha
        simpa using ha.symm
      have e2 : b = M (far x) := by
        rw [List.getElem?_append_right (by omega)] at hb
        simpa using hb.symm
      subst e1 e2
      exact ⟨rfl, h1, h2⟩
  · rcases List.mem_append.mp hy with hy | hy
    · exact S.lt y hy
    · simp at hy
      subst hy
      exact W.lt _ (far_lt (S.lt x (by simp)))
theorem Steps.back {s : Nat} {xs : List Nat} (W : Work n M) (S : Steps n M s xs) {i x y : Nat} (h1 : xs[i]? = some x) (h2 : xs[i + 1]? = some y) : M y = far x := by
  obtain ⟨e, _, _⟩ := S.step i x y h1 h2
  rw [e]
  exact W.inv _ (far_lt (S.lt x (List.mem_of_getElem? h1)))
theorem Steps.apart {s : Nat} {xs : List Nat} (W : Work n M) (S : Steps n M s xs) : ∀ (i d x y : Nat), xs[i]? = some x → xs[i + d + 1]? = some y → x ≠ y
  | 0, d, x, y, h1, h2 => by
    rw [S.hd] at h1
    cases h1
    have hl : 0 + d + 1 < xs.length := (List.getElem?_eq_some_iff.mp h2).1
    obtain ⟨z, hz⟩ : ∃ z, xs[0 + d]? = some z := ⟨xs[0 + d]'(by omega), List.getElem?_eq_getElem (by omega)⟩
    exact fun e => (S.step (0 + d) z y hz h2).2.2 e.symm
  | i + 1, d, x, y, h1, h2 => by
    have hl : i + 1 + d + 1 < xs.length := (List.getElem?_eq_some_iff.mp h2).1
    obtain ⟨u, hu⟩ : ∃ z, xs[i]? = some z := ⟨xs[i]'(by omega), List.getElem?_eq_getElem (by omega)⟩
    obtain ⟨v, hv⟩ : ∃ z, xs[i + d + 1]? = some z := ⟨xs[i + d + 1]'(by omega), List.getElem?_eq_getElem (by omega)⟩
    have ih := Steps.apart W S i d u v hu hv
    intro e
    subst e
    have e1 := S.back W hu h1
    have e2 := S.back W hv (by rw [show i + d + 1 + 1 = i + 1 + d + 1 by omega]; exact h2)
    exact ih (far_inj (e1.symm.trans e2))
theorem Steps.apartF {s : Nat} {xs : List Nat} (W : Work n M) (S : Steps n M s xs) : ∀ (k d i x y : Nat), d ≤ k → xs[i]? = some x → xs[i + d]? = some y → x ≠ far y
  | 0, d, i, x, y, hd, h1, h2 => by
    have e : d = 0 := by omega
    subst e
    rw [Nat.add_zero, h1] at h2
    cases h2
    exact fun e => far_ne x e.symm
  | k + 1, d, i, x, y, hd, h1, h2 => by
    match d, hd, h2 with
    | 0, _, h2 =>
      rw [Nat.add_zero, h1] at h2
      cases h2
      exact fun e => far_ne x e.symm
    | 1, _, h2 =>
      obtain ⟨e, h3, _⟩ := S.step i x y h1 h2
      intro z
      exact h3 (by rw [z, far_far])
    | d + 2, hd, h2 =>
      have hl : i + (d + 2) < xs.length := (List.getElem?_eq_some_iff.mp h2).1
      obtain ⟨u, hu⟩ : ∃ z, xs[i + 1]? = some z := ⟨xs[i + 1]'(by omega), List.getElem?_eq_getElem (by omega)⟩
      obtain ⟨v, hv⟩ : ∃ z, xs[i + 1 + d]? = some z := ⟨xs[i + 1 + d]'(by omega), List.getElem?_eq_getElem (by omega)⟩
      have ih := Steps.apartF W S k d (i + 1) u v (by omega) hu hv
      intro z
      have e1 := (S.step i x u h1 hu).1
      have e2 := S.back W hv (by rw [show i + 1 + d + 1 = i + (d + 2) by omega]; exact h2)
      apply ih
      rw [e1, z, far_far, e2]
theorem Steps.nodup {s : Nat} {xs : List Nat} (W : Work n M) (S : Steps n M s xs) : (xs.map (· / 2)).Nodup := by
  rw [List.nodup_iff_pairwise_ne, List.pairwise_iff_getElem]
  intro i j hi hj hij e
  rw [List.length_map] at hi hj
  rw [List.getElem_map, List.getElem_map] at e
  have h1 : xs[i]? = some xs[i] := List.getElem?_eq_getElem hi
  have h2 : xs[j]? = some xs[j] := List.getElem?_eq_getElem hj
  rcases half_eq e with e | e
  · exact S.apart W i (j - i - 1) _ _ h1 (by rw [show i + (j - i - 1) + 1 = j by omega]; exact h2) e
  · exact S.apartF W (j - i) (j - i) i _ _ (Nat.le_refl _) h1 (by rw [show i + (j - i) = j by omega]; exact h2) e
theorem nodup_len : ∀ (m : Nat) {es : List Nat}, (∀ e ∈ es, e < m) → es.Nodup → es.length ≤ m
  | 0, es, h, _ => by
    cases es with
    | nil => exact Nat.le_refl _
    | cons a r => exact absurd (h a List.mem_cons_self) (by omega)
  | m + 1, es, h, nd => by
    by_cases hm : m ∈ es
    · have nd2 : (es.erase m).Nodup := nd.erase _
      have h2 : ∀ e ∈ es.erase m, e < m := fun e he => by
        obtain ⟨h1, h3⟩ := (List.Nodup.mem_erase_iff nd).mp he
        have := h e h3
        omega
      have z := nodup_len m h2 nd2
      rw [List.length_erase_of_mem hm] at z
      omega
    · have h2 : ∀ e ∈ es, e < m := fun e he => by
        have h1 := h e he
        have : e ≠ m := fun z => hm (z ▸ he)
        omega
      have z := nodup_len m h2 nd
      omega
theorem Steps.len {s : Nat} {xs : List Nat} (W : Work n M) (S : Steps n M s xs) : xs.length ≤ n := by
  have z := nodup_len n (es := xs.map (· / 2)) (fun e he => by
    obtain ⟨x, hx, rfl⟩ := List.mem_map.mp he
    have := S.lt x hx
    omega) (S.nodup W)
  rwa [List.length_map] at z

noncomputable def goF (M : Nat → Nat) (s : Nat) : Nat → Nat → List Nat
  | 0, _ => []
  | k + 1, lv => if M lv ≠ lv ∧ M lv ≠ s then M lv :: goF M s k (far (M lv)) else []
noncomputable def walk (n : Nat) (M : Nat → Nat) (s : Nat) : List Nat := s :: goF M s n (far s)
theorem goF_stop {s k lv : Nat} (h : ¬ (M lv ≠ lv ∧ M lv ≠ s)) : goF M s k lv = [] := by
  cases k with
  | zero => rfl
  | succ k => show (if M lv ≠ lv ∧ M lv ≠ s then _ else _) = _; rw [if_neg h]
structure Full (n : Nat) (M : Nat → Nat) (s : Nat) (xs : List Nat) : Prop where
  st : Steps n M s xs
  ne : xs ≠ []
  stop : ∀ x, xs.getLast? = some x → ¬ (M (far x) ≠ far x ∧ M (far x) ≠ s)
theorem goF_full {s : Nat} (W : Work n M) : ∀ (k : Nat) (xs : List Nat) (x : Nat), Steps n M s (xs ++ [x]) → n ≤ (xs ++ [x]).length + k → Full n M s (xs ++ [x] ++ goF M s k (far x))
  | 0, xs, x, S, h => by
    have e : goF M s 0 (far x) = [] := rfl
    rw [e, List.append_nil]
    refine ⟨S, by simp, fun y hy => ?_⟩
    have hy : x = y := by simpa using hy
    subst hy
    rintro ⟨h1, h2⟩
    have z := (S.snoc W h1 h2).len W
    rw [List.length_append] at z
    have : [M (far x)].length = 1 := rfl
    omega
  | k + 1, xs, x, S, h => by
    show Full n M s (xs ++ [x] ++ (if M (far x) ≠ far x ∧ M (far x) ≠ s then M (far x) :: goF M s k (far (M (far x))) else []))
    by_cases c : M (far x) ≠ far x ∧ M (far x) ≠ s
    · rw [if_pos c]
      have ih := goF_full W k (xs ++ [x]) (M (far x)) (S.snoc W c.1 c.2) (by simp at h ⊢; omega)
      rw [List.append_assoc (xs ++ [x]) [M (far x)]] at ih
      exact ih
    · rw [if_neg c, List.append_nil]
      refine ⟨S, by simp, fun y hy => ?_⟩
      have hy : x = y := by simpa using hy
      subst hy
      exact c
theorem walk_full (W : Work n M) {s : Nat} (h : s < 2 * n) : Full n M s (walk n M s) := goF_full (s := s) W n [] s (Steps.one h) (by simp)
noncomputable def Ends (xs : List Nat) (e : Nat) : Prop := ∃ x ∈ xs, e = x ∨ e = far x
theorem ends_stave {xs : List Nat} {e : Nat} : Ends xs e ↔ e / 2 ∈ xs.map (· / 2) := by
  constructor
  · rintro ⟨x, hx, rfl | rfl⟩
    · exact List.mem_map.mpr ⟨e, hx, rfl⟩
    · exact List.mem_map.mpr ⟨x, hx, (far_half x).symm⟩
  · intro h
    obtain ⟨x, hx, e1⟩ := List.mem_map.mp h
    refine ⟨x, hx, ?_⟩
    rcases half_eq e1.symm with z | z
    · exact .inl z
    · exact .inr z
structure Shut (n : Nat) (M : Nat → Nat) (C : Nat → Prop) : Prop where
  far : ∀ e, C e → C (far e)
  mate : ∀ e, e < 2 * n → C e → C (M e)
theorem Ends.far {xs : List Nat} {e : Nat} (h : Ends xs e) : Ends xs (Ch.far e) := by
  obtain ⟨x, hx, rfl | rfl⟩ := h
  · exact ⟨e, hx, .inr rfl⟩
  · exact ⟨x, hx, .inl (far_far x)⟩
theorem Steps.all {s : Nat} {xs : List Nat} {C : Nat → Prop} (W : Work n M) (S : Steps n M s xs) (hC : Shut n M C) {z : Nat} (hz : Ends xs z) (cz : C z) : ∀ e, Ends xs e → C e := by
  have at' : ∀ (i x : Nat), xs[i]? = some x → (C x ↔ C s) := by
    intro i
    induction i with
    | zero => intro x h; rw [S.hd] at h; cases h; exact Iff.rfl
    | succ i ih =>
      intro x h
      have hl : i + 1 < xs.length := (List.getElem?_eq_some_iff.mp h).1
      obtain ⟨u, hu⟩ : ∃ z, xs[i]? = some z := ⟨xs[i]'(by omega), List.getElem?_eq_getElem (by omega)⟩
      rw [← ih u hu]
      constructor
      · intro c
        have := hC.mate x (S.lt x (List.mem_of_getElem? h)) c
        rw [S.back W hu h] at this
        have := hC.far _ this
        rwa [far_far] at this
      · intro c
        have := hC.mate _ (far_lt (S.lt u (List.mem_of_getElem? hu))) (hC.far _ c)
        rwa [← (S.step i u x hu h).1] at this
  have cs : C s := by
    obtain ⟨x, hx, e⟩ := hz
    obtain ⟨i, hi⟩ := List.mem_iff_getElem?.mp hx
    refine (at' i x hi).mp ?_
    rcases e with e | e
    · rw [← e]; exact cz
    · have := hC.far _ cz
      rwa [e, far_far] at this
  rintro e ⟨x, hx, he⟩
  obtain ⟨i, hi⟩ := List.mem_iff_getElem?.mp hx
  have cx := (at' i x hi).mpr cs
  rcases he with rfl | rfl
  · exact cx
  · exact hC.far _ cx
theorem Full.last {s : Nat} {xs : List Nat} (F : Full n M s xs) : ∃ x, xs.getLast? = some x ∧ xs[xs.length - 1]? = some x ∧ x ∈ xs := by
  obtain ⟨x, hx⟩ : ∃ x, xs.getLast? = some x := by
    cases h : xs.getLast? with
    | none => exact absurd (List.getLast?_eq_none_iff.mp h) F.ne
    | some x => exact ⟨x, rfl⟩
  refine ⟨x, hx, ?_, ?_⟩
  · rw [← List.getLast?_eq_getElem?]; exact hx
  · exact List.mem_of_getLast? hx
theorem Full.shut {s : Nat} {xs : List Nat} (W : Work n M) (F : Full n M s xs) (h : M s = s ∨ ∃ x, xs.getLast? = some x ∧ M (far x) = s) : Shut n M (Ends xs) := by
  refine ⟨fun e he => he.far, fun e hlt he => ?_⟩
  obtain ⟨x, hx, hx1, hx2⟩ := F.last
  have hne : 0 < xs.length := by
    have := F.ne
    cases xs with
    | nil => exact absurd rfl this
    | cons _ _ => simp
  have hs : s ∈ xs := List.mem_of_getElem? F.st.hd
  obtain ⟨y, hy, e1⟩ := he
  obtain ⟨i, hi⟩ := List.mem_iff_getElem?.mp hy
  have hil : i < xs.length := (List.getElem?_eq_some_iff.mp hi).1
  rcases e1 with rfl | rfl
  · -- the end by which the stave is come into
    cases i with
    | zero =>
      rw [F.st.hd] at hi
      cases hi
      rcases h with h | ⟨x', hx', h⟩
      · rw [h]; exact ⟨_, hs, .inl rfl⟩
      · rw [hx] at hx'; cases hx'
        have e2 : M (M (far x)) = far x := W.inv _ (far_lt (F.st.lt x hx2))
        rw [h] at e2
        rw [e2]
        exact ⟨x, hx2, .inr rfl⟩
    | succ i =>
      obtain ⟨u, hu⟩ : ∃ z, xs[i]? = some z := ⟨xs[i]'(by omega), List.getElem?_eq_getElem (by omega)⟩
      rw [F.st.back W hu hi]
      exact ⟨u, List.mem_of_getElem? hu, .inr rfl⟩
  · -- the other one
    by_cases hl : i + 1 < xs.length
    · obtain ⟨u, hu⟩ : ∃ z, xs[i + 1]? = some z := ⟨xs[i + 1]'hl, List.getElem?_eq_getElem hl⟩
      rw [← (F.st.step i y u hi hu).1]
      exact ⟨u, List.mem_of_getElem? hu, .inl rfl⟩
    · have e2 : i = xs.length - 1 := by omega
      rw [e2, hx1] at hi
      cases hi
      by_cases c : M (far x) = far x
      · rw [c]; exact ⟨x, hx2, .inr rfl⟩
      · by_cases c2 : M (far x) = s
        · rw [c2]; exact ⟨s, hs, .inl rfl⟩
        · exact absurd ⟨c, c2⟩ (F.stop x hx)
noncomputable def lastFar (xs : List Nat) : Nat := far (xs.getLast?.getD 0)
theorem Full.lastFar_eq {s : Nat} {xs : List Nat} (F : Full n M s xs) : ∃ x, xs.getLast? = some x ∧ lastFar xs = far x ∧ x ∈ xs := by
  obtain ⟨x, hx, _, h2⟩ := F.last
  exact ⟨x, hx, by unfold lastFar; rw [hx]; rfl, h2⟩
theorem row_ends (W : Work n M) {s : Nat} {xs : List Nat} (F : Full n M s xs) (hs : M s = s) : M (lastFar xs) = lastFar xs ∧ lastFar xs ≠ s ∧ lastFar xs < 2 * n := by
  obtain ⟨x, hx, e, hm⟩ := F.lastFar_eq
  have hlt := far_lt (F.st.lt x hm)
  have hs0 : s ∈ xs := List.mem_of_getElem? F.st.hd
  have hne : far x ≠ s := by
    obtain ⟨_, hx', hx1, _⟩ := F.last
    rw [hx] at hx'; cases hx'
    have hpos : 0 < xs.length := by
      have := F.ne
      cases xs with
      | nil => exact absurd rfl this
      | cons _ _ => simp
    intro z
    exact F.st.apartF W (xs.length - 1) (xs.length - 1) 0 s x (Nat.le_refl _) F.st.hd (by rw [Nat.zero_add]; exact hx1) z.symm
  rw [e]
  refine ⟨?_, hne, hlt⟩
  by_cases c : M (far x) = far x
  · exact c
  · by_cases c2 : M (far x) = s
    · have z := W.inv _ hlt
      rw [c2, hs] at z
      exact absurd z.symm hne
    · exact absurd ⟨c, c2⟩ (F.stop x hx)
theorem row_loose (W : Work n M) {s : Nat} {xs : List Nat} (F : Full n M s xs) {e : Nat} (he : Ends xs e) (hl : M e = e) : e = s ∨ e = lastFar xs := by
  obtain ⟨x, hx, hx1, hx2⟩ := F.last
  have elf : lastFar xs = far x := by unfold lastFar; rw [hx]; rfl
  obtain ⟨y, hy, e1⟩ := he
  obtain ⟨i, hi⟩ := List.mem_iff_getElem?.mp hy
  have hil : i < xs.length := (List.getElem?_eq_some_iff.mp hi).1
  rcases e1 with rfl | rfl
  · cases i with
    | zero => rw [F.st.hd] at hi; cases hi; exact .inl rfl
    | succ i =>
      obtain ⟨u, hu⟩ : ∃ z, xs[i]? = some z := ⟨xs[i]'(by omega), List.getElem?_eq_getElem (by omega)⟩
      have e2 := F.st.back W hu hi
      exact absurd (hl.symm.trans e2) (F.st.step i u e hu hi).2.1
  · by_cases h1 : i + 1 < xs.length
    · obtain ⟨u, hu⟩ : ∃ z, xs[i + 1]? = some z := ⟨xs[i + 1]'h1, List.getElem?_eq_getElem h1⟩
      obtain ⟨e2, e3, _⟩ := F.st.step i y u hi hu
      exact absurd (e2.trans hl) e3
    · have e2 : i = xs.length - 1 := by omega
      rw [e2, hx1] at hi
      cases hi
      exact .inr elf.symm

noncomputable def looseL (n : Nat) (M : Nat → Nat) : List Nat := (List.range (2 * n)).filter fun e => e == M e
noncomputable def rowsL (n : Nat) (M : Nat → Nat) : List (List Nat) := ((looseL n M).map (walk n M)).filter fun xs => decide (xs.headD 0 < lastFar xs)
theorem mem_loose {e : Nat} : e ∈ looseL n M ↔ e < 2 * n ∧ M e = e := by
  unfold looseL
  rw [List.mem_filter, List.mem_range, beq_iff_eq]
  exact ⟨fun h => ⟨h.1, h.2.symm⟩, fun h => ⟨h.1, h.2.symm⟩⟩
theorem loose_sorted : (looseL n M).Pairwise (· < ·) := List.Pairwise.filter _ List.pairwise_lt_range
theorem mem_rows (W : Work n M) {xs : List Nat} : xs ∈ rowsL n M ↔ ∃ s, s < 2 * n ∧ M s = s ∧ xs = walk n M s ∧ s < lastFar xs := by
  unfold rowsL
  rw [List.mem_filter, List.mem_map]
  constructor
  · rintro ⟨⟨s, hs, rfl⟩, h⟩
    obtain ⟨h1, h2⟩ := mem_loose.mp hs
    exact ⟨s, h1, h2, rfl, of_decide_eq_true h⟩
  · rintro ⟨s, h1, h2, rfl, h⟩
    exact ⟨⟨s, mem_loose.mpr ⟨h1, h2⟩, rfl⟩, decide_eq_true h⟩
theorem row_full (W : Work n M) {xs : List Nat} (h : xs ∈ rowsL n M) : ∃ s, s < 2 * n ∧ M s = s ∧ Full n M s xs ∧ s < lastFar xs ∧ Shut n M (Ends xs) := by
  obtain ⟨s, h1, h2, rfl, h⟩ := (mem_rows W).mp h
  have F := walk_full W h1
  exact ⟨s, h1, h2, F, h, F.shut W (.inl h2)⟩
theorem shut_same (W : Work n M) {s t : Nat} {xs ys : List Nat} (S : Steps n M s xs) (T : Steps n M t ys) (hy : Shut n M (Ends ys)) {z : Nat} (h1 : Ends xs z) (h2 : Ends ys z) : ∀ e, Ends xs e → Ends ys e := S.all W hy h1 h2
theorem row_of_loose (W : Work n M) {e : Nat} (h1 : e < 2 * n) (h2 : M e = e) : ∃ xs ∈ rowsL n M, Ends xs e := by
  have F := walk_full W h1
  obtain ⟨l1, l2, l3⟩ := row_ends W F h2
  have he : Ends (walk n M e) e := ⟨e, List.mem_of_getElem? F.st.hd, .inl rfl⟩
  by_cases c : e < lastFar (walk n M e)
  · exact ⟨_, (mem_rows W).mpr ⟨e, h1, h2, rfl, c⟩, he⟩
  · have G := walk_full W l3
    have hp : Ends (walk n M (lastFar (walk n M e))) (lastFar (walk n M e)) := ⟨_, List.mem_of_getElem? G.st.hd, .inl rfl⟩
    have hp2 : Ends (walk n M e) (lastFar (walk n M e)) := by
      obtain ⟨x, _, e1, hx⟩ := F.lastFar_eq
      exact ⟨x, hx, .inr e1⟩
    have he2 : Ends (walk n M (lastFar (walk n M e))) e := shut_same W F.st G.st (G.shut W (.inl l1)) hp2 hp e he
    refine ⟨_, (mem_rows W).mpr ⟨_, l3, l1, rfl, ?_⟩, he2⟩
    rcases row_loose W G he2 h2 with z | z
    · exact absurd z.symm l2
    · rw [← z]; omega
theorem rows_apart (W : Work n M) {s t : Nat} (h1 : s < 2 * n) (h2 : M s = s) (c1 : s < lastFar (walk n M s)) (h3 : t < 2 * n) (h4 : M t = t) (c2 : t < lastFar (walk n M t)) {z : Nat} (hz : Ends (walk n M s) z) (hz2 : Ends (walk n M t) z) : s = t := by
  have F := walk_full W h1
  have G := walk_full W h3
  have a := shut_same W F.st G.st (G.shut W (.inl h4)) hz hz2
  have hs : Ends (walk n M t) s := a s ⟨s, List.mem_of_getElem? F.st.hd, .inl rfl⟩
  have hl : Ends (walk n M t) (lastFar (walk n M s)) := a _ (by
    obtain ⟨x, _, e1, hx⟩ := F.lastFar_eq
    exact ⟨x, hx, .inr e1⟩)
  rcases row_loose W G hs h2 with e | e
  · exact e
  · rcases row_loose W G hl (row_ends W F h2).1 with e' | e'
    · omega
    · omega

noncomputable def ringStep (n : Nat) (M : Nat → Nat) (r : List (List Nat) × List Nat) (st : Nat) : List (List Nat) × List Nat :=
  if st ∈ r.2 then r else (r.1 ++ [walk n M (2 * st)], r.2 ++ (walk n M (2 * st)).map (· / 2))
noncomputable def rowStaves (n : Nat) (M : Nat → Nat) : List Nat := (rowsL n M).flatMap fun xs => xs.map (· / 2)
noncomputable def ringSt (n : Nat) (M : Nat → Nat) (k : Nat) : List (List Nat) × List Nat := (List.range k).foldl (ringStep n M) ([], rowStaves n M)
noncomputable def ringsL (n : Nat) (M : Nat → Nat) : List (List Nat) := (ringSt n M n).1
theorem ringSt_succ (k : Nat) : ringSt n M (k + 1) = ringStep n M (ringSt n M k) k := by unfold ringSt; rw [List.range_succ, List.foldl_append]; rfl
structure RingInv (n : Nat) (M : Nat → Nat) (k : Nat) (rs : List (List Nat)) (seen : List Nat) : Prop where
  eq : seen = rowStaves n M ++ rs.flatMap fun xs => xs.map (· / 2)
  nd : seen.Nodup
  lt : ∀ e ∈ seen, e < n
  all : ∀ e, e < k → e ∈ seen
  ring : ∀ xs ∈ rs, ∃ st, st < k ∧ Full n M (2 * st) xs ∧ (∃ x, xs.getLast? = some x ∧ M (far x) = 2 * st ∧ M (far x) ≠ far x) ∧ ∀ x ∈ xs, 2 * st ≤ x
  rise : rs.Pairwise fun xs ys => xs.headD 0 < ys.headD 0
  shut : ∀ e, e < 2 * n → e / 2 ∈ seen → M e / 2 ∈ seen
theorem nodup_flat {α β : Type} {f : α → List β} : ∀ {l : List α}, (∀ x ∈ l, (f x).Nodup) → l.Pairwise (fun x y => ∀ a, a ∈ f x → a ∈ f y → False) → (l.flatMap f).Nodup
  | [], _, _ => by simp
  | x :: r, h, p => by
    rw [List.flatMap_cons]
    obtain ⟨p1, p2⟩ := List.pairwise_cons.mp p
    refine List.nodup_append.mpr ⟨h x List.mem_cons_self, nodup_flat (fun y hy => h y (List.mem_cons_of_mem _ hy)) p2, fun a ha b hb e => ?_⟩
    subst e
    obtain ⟨y, hy, hay⟩ := List.mem_flatMap.mp hb
    exact p1 y hy a ha hay
theorem rows_pairwise (W : Work n M) : (rowsL n M).Pairwise fun xs ys => ∀ a, a ∈ xs.map (· / 2) → a ∈ ys.map (· / 2) → False := by
  unfold rowsL
  rw [List.pairwise_filter, List.pairwise_map]
  have key : (looseL n M).Pairwise fun s t => s < 2 * n ∧ M s = s ∧ t < 2 * n ∧ M t = t ∧ s < t := by
    refine List.Pairwise.imp_of_mem (fun {a b} ha hb h => ?_) loose_sorted
    obtain ⟨a1, a2⟩ := mem_loose.mp ha
    obtain ⟨b1, b2⟩ := mem_loose.mp hb
    exact ⟨a1, a2, b1, b2, h⟩
  refine key.imp fun {s t} h hs ht a ha hb => ?_
  obtain ⟨h1, h2, h3, h4, h5⟩ := h
  have hs : s < lastFar (walk n M s) := of_decide_eq_true hs
  have ht : t < lastFar (walk n M t) := of_decide_eq_true ht
  have e1 : (2 * a) / 2 = a := by omega
  have za : Ends (walk n M s) (2 * a) := ends_stave.mpr (by rw [e1]; exact ha)
  have zb : Ends (walk n M t) (2 * a) := ends_stave.mpr (by rw [e1]; exact hb)
  have := rows_apart W h1 h2 hs h3 h4 ht za zb
  omega
theorem rows_nodup (W : Work n M) : (rowStaves n M).Nodup := nodup_flat (fun xs hx => by
    obtain ⟨s, _, _, F, _, _⟩ := row_full W hx
    exact F.st.nodup W) (rows_pairwise W)
theorem mem_rowStaves {e : Nat} : e ∈ rowStaves n M ↔ ∃ xs ∈ rowsL n M, e ∈ xs.map (· / 2) := List.mem_flatMap
theorem rows_shut (W : Work n M) {e : Nat} (he : e < 2 * n) (h : e / 2 ∈ rowStaves n M) : M e / 2 ∈ rowStaves n M := by
  obtain ⟨xs, hx, h⟩ := mem_rowStaves.mp h
  obtain ⟨s, _, _, F, _, S⟩ := row_full W hx
  exact mem_rowStaves.mpr ⟨xs, hx, ends_stave.mp (S.mate e he (ends_stave.mpr h))⟩
theorem ring_closes (W : Work n M) {st : Nat} (hst : st < n) {C : Nat → Prop} (hC : Shut n M C) (hrow : ∀ e, e < 2 * n → M e = e → C e) (hno : ¬ C (2 * st)) :
    ∃ x, (walk n M (2 * st)).getLast? = some x ∧ M (far x) = 2 * st ∧ M (far x) ≠ far x := by
  have F := walk_full W (show 2 * st < 2 * n by omega)
  obtain ⟨x, hx, hx1, hx2⟩ := F.last
  have hlt := far_lt (F.st.lt x hx2)
  have nl : M (far x) ≠ far x := fun c => by
    have cf := hrow _ hlt c
    have := F.st.all W hC (z := far x) ⟨x, hx2, .inr rfl⟩ cf (2 * st) ⟨_, List.mem_of_getElem? F.st.hd, .inl rfl⟩
    exact hno this
  refine ⟨x, hx, ?_, nl⟩
  by_cases c : M (far x) = 2 * st
  · exact c
  · exact absurd ⟨nl, c⟩ (F.stop x hx)
theorem ringInv (W : Work n M) : ∀ k, k ≤ n → RingInv n M k (ringSt n M k).1 (ringSt n M k).2
  | 0, _ => by
    refine ⟨?_, rows_nodup W, fun e he => ?_, fun e he => absurd he (Nat.not_lt_zero _), fun xs hx => ?_, ?_, fun e he h => rows_shut W he h⟩
    · show rowStaves n M = rowStaves n M ++ []
      rw [List.append_nil]
    · obtain ⟨xs, hx, h⟩ := mem_rowStaves.mp (show e ∈ rowStaves n M from he)
      obtain ⟨s, _, _, F, _, _⟩ := row_full W hx
      obtain ⟨x, hx, rfl⟩ := List.mem_map.mp h
      have := F.st.lt x hx
      omega
    · exact absurd (show xs ∈ ([] : List (List Nat)) from hx) (by simp)
    · exact List.Pairwise.nil
  | k + 1, hk => by
    have ih := ringInv W k (by omega)
    rw [ringSt_succ]
    generalize hr : ringSt n M k = r at ih
    obtain ⟨rs, seen⟩ := r
    unfold ringStep
    by_cases c : k ∈ seen
    · rw [if_pos c]
      refine ⟨ih.eq, ih.nd, ih.lt, fun e he => ?_, fun xs hx => ?_, ih.rise, ih.shut⟩
      · by_cases h : e = k
        · subst h; exact c
        · exact ih.all e (by omega)
      · obtain ⟨st, h, r⟩ := ih.ring xs hx
        exact ⟨st, by omega, r⟩
    · rw [if_neg c]
      have hkn : 2 * k < 2 * n := by omega
      have F := walk_full W hkn
      have hC : Shut n M (fun e => e / 2 ∈ seen) := ⟨fun e h => by show far e / 2 ∈ seen; rw [far_half]; exact h, fun e he h => ih.shut e he h⟩
      have hrow : ∀ e, e < 2 * n → M e = e → e / 2 ∈ seen := fun e he hl => by
        obtain ⟨xs, hx, hE⟩ := row_of_loose W he hl
        show e / 2 ∈ seen
        have heq : seen = _ := ih.eq
        rw [heq]
        exact List.mem_append_left _ (mem_rowStaves.mpr ⟨xs, hx, ends_stave.mp hE⟩)
      have e2 : 2 * k / 2 = k := by omega
      have hno : ¬ (2 * k) / 2 ∈ seen := by rw [e2]; exact c
      have hcl := ring_closes W (show k < n by omega) hC hrow hno
      have S : Shut n M (Ends (walk n M (2 * k))) := F.shut W (.inr (let ⟨x, h1, h2, _⟩ := hcl; ⟨x, h1, h2⟩))
      have hself : Ends (walk n M (2 * k)) (2 * k) := ⟨_, List.mem_of_getElem? F.st.hd, .inl rfl⟩
      have dis : ∀ a, a ∈ seen → a ∈ (walk n M (2 * k)).map (· / 2) → False := fun a ha hb => by
        have e1 : (2 * a) / 2 = a := by omega
        exact hno (F.st.all W hC (z := 2 * a) (ends_stave.mpr (by rw [e1]; exact hb)) (by show 2 * a / 2 ∈ seen; rw [e1]; exact ha) (2 * k) hself)
      refine ⟨?_, ?_, fun e he => ?_, fun e he => ?_, fun xs hx => ?_, ?_, fun e he h => ?_⟩
      · show seen ++ _ = _
        have heq : seen = _ := ih.eq
        rw [List.flatMap_append, ← List.append_assoc, ← heq]
        simp
      · exact List.nodup_append.mpr ⟨ih.nd, F.st.nodup W, fun a ha b hb e => dis a ha (e ▸ hb)⟩
      · rcases List.mem_append.mp he with h | h
        · exact ih.lt e h
        · obtain ⟨x, hx, rfl⟩ := List.mem_map.mp h
          have := F.st.lt x hx
          omega
      · by_cases h : e = k
        · subst h
          exact List.mem_append_right _ (List.mem_map.mpr ⟨_, List.mem_of_getElem? F.st.hd, e2⟩)
        · exact List.mem_append_left _ (ih.all e (by omega))
      · rcases List.mem_append.mp hx with h | h
        · obtain ⟨st, h, r⟩ := ih.ring xs h
          exact ⟨st, by omega, r⟩
        · have : xs = walk n M (2 * k) := by simpa using h
          subst this
          refine ⟨k, by omega, F, hcl, fun x hx => ?_⟩
          have : k ≤ x / 2 := by
            refine Nat.le_of_not_lt fun z => ?_
            exact dis (x / 2) (ih.all _ z) (List.mem_map.mpr ⟨x, hx, rfl⟩)
          omega
      · refine List.pairwise_append.mpr ⟨ih.rise, List.pairwise_singleton _ _, fun xs hx ys hy => ?_⟩
        have : ys = walk n M (2 * k) := by simpa using hy
        subst this
        obtain ⟨st, h, G, _⟩ := ih.ring xs hx
        have h0 := G.st.hd
        have : xs.headD 0 = 2 * st := by
          cases xs with
          | nil => simp at h0
          | cons a r => simpa using h0
        rw [this]
        show 2 * st < 2 * k
        omega
      · rcases List.mem_append.mp h with h | h
        · exact List.mem_append_left _ (ih.shut e he h)
        · exact List.mem_append_right _ (ends_stave.mp (S.mate e he (ends_stave.mpr h)))
end
end Ch

namespace Mir
open PySem L2 Ch
noncomputable def nV (ms : List Nat) : List V := ms.map fun (m : Nat) => V.int m
theorem nV_len (ms : List Nat) : (nV ms).length = ms.length := by unfold nV; rw [List.length_map]
theorem nV_get {ms : List Nat} {i m : Nat} (h : ms[i]? = some m) : (nV ms)[i]? = some (.int m) := by unfold nV; rw [List.getElem?_map, h]; rfl
theorem nV_get' {ms : List Nat} {i : Nat} {x : V} (h : (nV ms)[i]? = some x) : ∃ m, ms[i]? = some m ∧ x = .int m := by
  unfold nV at h
  rw [List.getElem?_map] at h
  cases e : ms[i]? with
  | none => rw [e] at h; cases h
  | some m => rw [e] at h; exact ⟨m, rfl, (Option.some.inj h).symm⟩
theorem nV_snoc (xs : List Nat) (x : Nat) : nV (xs ++ [x]) = nV xs ++ [.int x] := by unfold nV; rw [List.map_append]; rfl
noncomputable def at0 (ms : List Nat) (e : Nat) : Nat := ms.getD e 0
theorem at0_get {ms : List Nat} {e : Nat} (h : e < ms.length) : ms[e]? = some (at0 ms e) := by unfold at0; simp [List.getD, List.getElem?_eq_getElem h]
structure WorkL (n : Nat) (ms : List Nat) : Prop where
  small : n ≤ 40
  len : ms.length = 2 * n
  wk : Work n (at0 ms)
theorem WorkL.get {n : Nat} {ms : List Nat} (W : WorkL n ms) {e : Nat} (h : e < 2 * n) : (nV ms)[e]? = some (.int (at0 ms e)) := nV_get (at0_get (by rw [W.len]; exact h))
theorem WorkL.ix {n : Nat} {ms : List Nat} (W : WorkL n ms) {e : Nat} (h : e < 2 * n) : atI (nV ms) (e : Int) = some (.int (at0 ms e)) := atI_nat (W.get h)
theorem farI_nat (e : Nat) : farI (e : Int) = ((far e : Nat) : Int) := by unfold farI far; split <;> split <;> omega
theorem atI_nlast {xs : List Nat} {x : Nat} (h : xs.getLast? = some x) : atI (nV xs) (-1) = some (.int x) := by
  obtain ⟨ys, rfl⟩ := List.getLast?_eq_some_iff.mp h
  rw [nV_snoc]
  exact atI_last _ _
noncomputable def spCellAt (K : PySem.W.Frag) : Sp := fun vs H Q _ => ∃ (a : Addr) (ns : List Int) (k : Nat), vs = [.ref a, .int k] ∧ SqL K H a (ns.map V.int) ∧ ∀ i : Int, Q (.int i) H
noncomputable def spLawStaves : Sp := fun vs H Q _ => ∃ c : Int, vs = [.int c] ∧ ∀ n : Nat, n ≤ 40 → Q (.int n) H
noncomputable def spLawFar : Sp := fun vs H Q _ => ∃ e : Nat, vs = [.int e] ∧ Q (.int (far e : Nat)) H
noncomputable def spMates (K : PySem.W.Frag) : Sp := fun vs H Q _ => ∃ (a : Addr) (cs : List Int) (n : Nat), vs = [.ref a, .int n] ∧ SqL K H a (cs.map V.int) ∧ n ≤ 40 ∧
  ∀ (l : Addr) (H' : Hp) (ms : List Nat), H l = none → Same H H' → WorkL n ms → H' l = some (.lst (nV ms)) → Q (.ref l) H'

noncomputable def freed (ms : List Nat) (e : Nat) : List Nat := (ms.set (at0 ms e) (at0 ms e)).set e e
noncomputable def clasp (ms : List Nat) (p q : Nat) : List Nat := (ms.set p q).set q p
theorem at0_set {ms : List Nat} {i j v : Nat} (hi : i < ms.length) : at0 (ms.set i v) j = if j = i then v else at0 ms j := by
  unfold at0
  by_cases e : j = i
  · subst e; rw [if_pos rfl]; simp [List.getD, List.getElem?_set_self hi]
  · rw [if_neg e]; simp [List.getD, List.getElem?_set_ne (Ne.symm e)]
theorem freed_len (ms : List Nat) (e : Nat) : (freed ms e).length = ms.length := by unfold freed; rw [List.length_set, List.length_set]
theorem freed_at {n : Nat} {ms : List Nat} (W : WorkL n ms) {e : Nat} (he : e < 2 * n) (j : Nat) : at0 (freed ms e) j = if j = e then e else if j = at0 ms e then at0 ms e else at0 ms j := by
  unfold freed
  rw [at0_set (by rw [List.length_set, W.len]; exact he), at0_set (by rw [W.len]; exact W.wk.lt e he)]
theorem freed_work {n : Nat} {ms : List Nat} (W : WorkL n ms) {e : Nat} (he : e < 2 * n) : WorkL n (freed ms e) ∧ at0 (freed ms e) e = e := by
  have m := W.wk.lt e he
  have key := freed_at W he
  refine ⟨⟨W.small, by rw [freed_len]; exact W.len, fun x hx => ?_, fun x hx => ?_⟩, by rw [key, if_pos rfl]⟩
  · rw [key]
    split
    · exact he
    · split
      · exact m
      · exact W.wk.lt x hx
  · rw [key x]
    by_cases c1 : x = e
    · rw [if_pos c1, key, if_pos rfl, c1]
    · rw [if_neg c1]
      by_cases c2 : x = at0 ms e
      · rw [if_pos c2, key]
        by_cases c3 : at0 ms e = e
        · exact absurd (c2.trans c3) c1
        · rw [if_neg c3, if_pos rfl, c2]
      · rw [if_neg c2, key]
        have i1 := W.wk.inv x hx
        have c3 : at0 ms x ≠ e := fun z => c2 (by rw [← z, i1])
        have c4 : at0 ms x ≠ at0 ms e := fun z => c1 (by rw [← i1, z, W.wk.inv e he])
        rw [if_neg c3, if_neg c4, i1]
theorem clasp_work {n : Nat} {ms : List Nat} (W : WorkL n ms) {p q : Nat} (hp : p < 2 * n) (hq : q < 2 * n) (lp : at0 ms p = p) (lq : at0 ms q = q) : WorkL n (clasp ms p q) := by
  have key : ∀ j, at0 (clasp ms p q) j = if j = q then p else if j = p then q else at0 ms j := fun j => by
    unfold clasp
    rw [at0_set (by rw [List.length_set, W.len]; exact hq), at0_set (by rw [W.len]; exact hp)]
  refine ⟨W.small, by unfold clasp; rw [List.length_set, List.length_set]; exact W.len, fun x hx => ?_, fun x hx => ?_⟩
  · rw [key]
    split
    · exact hp
    · split
      · exact hq
      · exact W.wk.lt x hx
  · rw [key x]
    by_cases c1 : x = q
    · rw [if_pos c1, key]
      by_cases c2 : p = q
      · rw [if_pos c2, c1, c2]
      · rw [if_neg c2, if_pos rfl, c1]
    · rw [if_neg c1]
      by_cases c2 : x = p
      · rw [if_pos c2, key, if_pos rfl, c2]
      · rw [if_neg c2, key]
        have i1 := W.wk.inv x hx
        have c3 : at0 ms x ≠ q := fun z => c1 (by rw [← i1, z, lq])
        have c4 : at0 ms x ≠ p := fun z => c2 (by rw [← i1, z, lp])
        rw [if_neg c3, if_neg c4, i1]
theorem freed_keeps {n : Nat} {ms : List Nat} (W : WorkL n ms) {e : Nat} (he : e < 2 * n) {j : Nat} (hj : at0 ms j = j) : at0 (freed ms e) j = j := by
  rw [freed_at W he]
  split
  · rename_i h; exact h.symm
  · split
    · rename_i h; exact h.symm
    · exact hj
theorem range_work {n : Nat} (h : n ≤ 40) : WorkL n (List.range (2 * n)) := by
  have key : ∀ x, x < 2 * n → at0 (List.range (2 * n)) x = x := fun x hx => by unfold at0; simp [List.getD, List.getElem?_range hx]
  exact ⟨h, List.length_range, fun x hx => by rw [key x hx]; exact hx, fun x hx => by rw [key x hx, key x hx]⟩
theorem rngV_nV (n : Nat) : rngV 0 n = nV (List.range n) := by
  unfold rngV nV
  refine List.map_congr_left fun a _ => ?_
  rw [Int.zero_add]
theorem nV_set (ms : List Nat) (i v : Nat) : (nV ms).set i (.int v) = nV (ms.set i v) := by unfold nV; rw [List.map_set]

theorem sorted_unique : ∀ {l₁ l₂ : List Int}, l₁.Perm l₂ → l₁.Pairwise (· ≤ ·) → l₂.Pairwise (· ≤ ·) → l₁ = l₂
  | [], l₂, p, _, _ => by have z := p.length_eq; cases l₂ with
    | nil => rfl
    | cons a r => simp at z
  | a :: r, [], p, _, _ => by have z := p.length_eq; simp at z
  | a :: r, b :: s, p, h1, h2 => by
    obtain ⟨a1, a2⟩ := List.pairwise_cons.mp h1
    obtain ⟨b1, b2⟩ := List.pairwise_cons.mp h2
    have e : a = b := by
      have m1 : a ∈ b :: s := p.subset List.mem_cons_self
      have m2 : b ∈ a :: r := p.symm.subset List.mem_cons_self
      rcases List.mem_cons.mp m1 with e | m1
      · exact e
      · rcases List.mem_cons.mp m2 with e | m2
        · exact e.symm
        · exact Int.le_antisymm (a1 b m2) (b1 a m1)
    subst e
    rw [sorted_unique (List.Perm.cons_inv p) a2 b2]
theorem cutV_ints (ns : List Int) (lo hi : Option Int) : ∃ cs : List Int, cutV (ns.map V.int) lo hi = cs.map V.int ∧ cs.length ≤ ns.length := by
  have h := cutV_length (ns.map V.int) lo hi
  rw [List.length_map] at h
  unfold cutV at h ⊢
  rw [← List.map_drop, ← List.map_take] at h ⊢
  exact ⟨_, rfl, by rw [List.length_map] at h; exact h⟩
end Mir

namespace Mt
open Ch

noncomputable def up (xs : List Nat) : List Int := xs.map fun (x : Nat) => (x : Int)
theorem up_len (xs : List Nat) : (up xs).length = xs.length := by unfold up; rw [List.length_map]

noncomputable def flat (cs : List (Int × Int)) : List Int := cs.flatMap fun p => [p.1, p.2]
theorem mem_flat {cs : List (Int × Int)} {e : Int} : e ∈ flat cs ↔ ∃ p ∈ cs, e = p.1 ∨ e = p.2 := by
  unfold flat
  rw [List.mem_flatMap]
  constructor
  · rintro ⟨p, hp, h⟩; exact ⟨p, hp, by simpa using h⟩
  · rintro ⟨p, hp, h⟩; exact ⟨p, hp, by simpa using h⟩
theorem flat_sub : ∀ {cs : List (Int × Int)} {p : Int × Int}, p ∈ cs → [p.1, p.2].Sublist (flat cs)
  | q :: r, p, h => by
    have e : flat (q :: r) = [q.1, q.2] ++ flat r := by unfold flat; rw [List.flatMap_cons]
    rw [e]
    rcases List.mem_cons.mp h with rfl | h
    · exact List.sublist_append_left _ _
    · exact (flat_sub h).trans (List.sublist_append_right _ _)
structure GoodC (n : Nat) (cs : List (Int × Int)) : Prop where
  rng : ∀ e ∈ flat cs, 0 ≤ e ∧ e < 2 * n
  nd : (flat cs).Nodup
structure Matches (n : Nat) (M : Nat → Nat) (cs : List (Int × Int)) : Prop where
  nd : (flat cs).Nodup
  pr : ∀ p ∈ cs, ∃ a b : Nat, p = ((a : Int), (b : Int)) ∧ a < 2 * n ∧ b < 2 * n ∧ M a = b ∧ M b = a
  all : ∀ e, e < 2 * n → M e ≠ e → (e : Int) ∈ flat cs
section
variable {n : Nat} {M : Nat → Nat} {cs ds : List (Int × Int)}
theorem Matches.good (h : Matches n M cs) : GoodC n cs := by
  refine ⟨fun e he => ?_, h.nd⟩
  obtain ⟨p, hp, he⟩ := mem_flat.mp he
  obtain ⟨a, b, rfl, ha, hb, _⟩ := h.pr p hp
  rcases he with rfl | rfl
  · show 0 ≤ (a : Int) ∧ (a : Int) < 2 * n; omega
  · show 0 ≤ (b : Int) ∧ (b : Int) < 2 * n; omega
theorem Matches.loose (h : Matches n M cs) (W : Work n M) {e : Nat} (he : e < 2 * n) : (e : Int) ∈ flat cs ↔ M e ≠ e := by
  refine ⟨fun hm z => ?_, h.all e he⟩
  obtain ⟨p, hp, hc⟩ := mem_flat.mp hm
  obtain ⟨a, b, rfl, ha, hb, h1, h2⟩ := h.pr p hp
  have key : a = b := by
    rcases hc with hc | hc
    · have hc : (e : Int) = a := hc
      have : e = a := by omega
      subst this; omega
    · have hc : (e : Int) = b := hc
      have : e = b := by omega
      subst this; omega
  subst key
  have nd := h.nd
  obtain ⟨i, hi⟩ := List.mem_iff_getElem?.mp hp
  have hs : [((a : Nat) : Int), ((a : Nat) : Int)].Sublist (flat cs) := flat_sub hp
  have := nd.sublist hs
  simp at this
end
end Mt

namespace Mt
open Ch
section
variable {n : Nat} {M : Nat → Nat}
noncomputable def Lk (M : Nat → Nat) (x y : Nat) : Prop := M (far x) = y ∧ M y = far x
theorem Lk.back {x y : Nat} (h : Lk M x y) : Lk M (far y) (far x) := by
  unfold Lk
  rw [far_far]
  exact ⟨h.2, h.1⟩
structure IsCh (n : Nat) (M : Nat → Nat) (xs : List Nat) : Prop where
  ne : 0 < xs.length
  lt : ∀ x ∈ xs, x < 2 * n
  lk : ∀ (i x y : Nat), xs[i]? = some x → xs[i + 1]? = some y → Lk M x y
structure IsRow (n : Nat) (M : Nat → Nat) (xs : List Nat) : Prop extends IsCh n M xs where
  fst : ∀ x, xs[0]? = some x → M x = x
  lst : ∀ x, xs[xs.length - 1]? = some x → M (far x) = far x
structure IsRing (n : Nat) (M : Nat → Nat) (xs : List Nat) : Prop extends IsCh n M xs where
  cl : ∀ x y, xs[0]? = some x → xs[xs.length - 1]? = some y → Lk M y x
noncomputable def backL (xs : List Nat) : List Nat := xs.reverse.map far
theorem backL_len (xs : List Nat) : (backL xs).length = xs.length := by unfold backL; rw [List.length_map, List.length_reverse]
theorem backL_get {xs : List Nat} {i y : Nat} (h : (backL xs)[i]? = some y) : ∃ x, xs[xs.length - 1 - i]? = some x ∧ y = far x ∧ i < xs.length := by
  have hi : i < xs.length := by have z := (List.getElem?_eq_some_iff.mp h).1; rw [backL_len] at z; exact z
  unfold backL at h
  rw [List.getElem?_map, List.getElem?_reverse hi] at h
  cases e : xs[xs.length - 1 - i]? with
  | none => rw [e] at h; cases h
  | some x => rw [e] at h; exact ⟨x, rfl, (Option.some.inj h).symm, hi⟩
theorem IsCh.back {xs : List Nat} (h : IsCh n M xs) : IsCh n M (backL xs) := by
  refine ⟨by rw [backL_len]; exact h.ne, fun y hy => ?_, fun i x y hx hy => ?_⟩
  · unfold backL at hy
    obtain ⟨x, hx, rfl⟩ := List.mem_map.mp hy
    exact far_lt (h.lt x (List.mem_reverse.mp hx))
  · obtain ⟨a, ha, rfl, h1⟩ := backL_get hx
    obtain ⟨b, hb, rfl, h2⟩ := backL_get hy
    have e : xs.length - 1 - i = xs.length - 1 - (i + 1) + 1 := by omega
    rw [e] at ha
    exact (h.lk _ b a hb ha).back
theorem IsRow.back {xs : List Nat} (h : IsRow n M xs) : IsRow n M (backL xs) := by
  refine ⟨h.toIsCh.back, fun x hx => ?_, fun x hx => ?_⟩
  · obtain ⟨a, ha, rfl, _⟩ := backL_get hx
    exact h.lst a ha
  · obtain ⟨a, ha, rfl, h1⟩ := backL_get hx
    rw [far_far]
    have e : xs.length - 1 - ((backL xs).length - 1) = 0 := by rw [backL_len]; omega
    rw [e] at ha
    exact h.fst a ha
theorem IsRing.back {xs : List Nat} (h : IsRing n M xs) : IsRing n M (backL xs) := by
  refine ⟨h.toIsCh.back, fun x y hx hy => ?_⟩
  obtain ⟨a, ha, rfl, _⟩ := backL_get hx
  obtain ⟨b, hb, rfl, _⟩ := backL_get hy
  have e : xs.length - 1 - ((backL xs).length - 1) = 0 := by rw [backL_len]; omega
  rw [e] at hb
  exact (h.cl b a hb ha).back
noncomputable def rotL (k : Nat) (xs : List Nat) : List Nat := xs.drop k ++ xs.take k
theorem rotL_len (k : Nat) (xs : List Nat) : (rotL k xs).length = xs.length := by unfold rotL; rw [List.length_append, List.length_drop, List.length_take]; omega
theorem rotL_get {xs : List Nat} {k i y : Nat} (hk : k < xs.length) (h : (rotL k xs)[i]? = some y) : (i < xs.length - k ∧ xs[k + i]? = some y) ∨ (xs.length - k ≤ i ∧ i < xs.length ∧ xs[i - (xs.length - k)]? = some y) := by
  have hi : i < xs.length := by have z := (List.getElem?_eq_some_iff.mp h).1; rw [rotL_len] at z; exact z
  unfold rotL at h
  by_cases c : i < xs.length - k
  · rw [List.getElem?_append_left (by rw [List.length_drop]; exact c), List.getElem?_drop] at h
    exact .inl ⟨c, h⟩
  · rw [List.getElem?_append_right (by rw [List.length_drop]; omega), List.length_drop, List.getElem?_take_of_lt (by omega)] at h
    exact .inr ⟨by omega, hi, h⟩
theorem IsRing.rot {xs : List Nat} {k : Nat} (h : IsRing n M xs) (hk : k < xs.length) : IsRing n M (rotL k xs) := by
  refine ⟨⟨by rw [rotL_len]; exact h.ne, fun y hy => ?_, fun i x y hx hy => ?_⟩, fun x y hx hy => ?_⟩
  · unfold rotL at hy
    rcases List.mem_append.mp hy with z | z
    · exact h.lt y (List.mem_of_mem_drop z)
    · exact h.lt y (List.mem_of_mem_take z)
  · rcases rotL_get hk hx with ⟨c1, e1⟩ | ⟨c1, d1, e1⟩
    · rcases rotL_get hk hy with ⟨c2, e2⟩ | ⟨c2, d2, e2⟩
      · exact h.lk (k + i) x y e1 e2
      · have q1 : k + i = xs.length - 1 := by omega
        have q2 : i + 1 - (xs.length - k) = 0 := by omega
        rw [q1] at e1
        rw [q2] at e2
        exact h.cl y x e2 e1
    · rcases rotL_get hk hy with ⟨c2, e2⟩ | ⟨c2, d2, e2⟩
      · omega
      · have q : i + 1 - (xs.length - k) = i - (xs.length - k) + 1 := by omega
        rw [q] at e2
        exact h.lk _ x y e1 e2
  · rw [rotL_len] at hy
    rcases rotL_get hk hx with ⟨c1, e1⟩ | ⟨c1, d1, e1⟩
    · rcases rotL_get hk hy with ⟨c2, e2⟩ | ⟨c2, d2, e2⟩
      · have q : k = 0 := by omega
        subst q
        rw [Nat.zero_add] at e1 e2
        exact h.cl x y e1 e2
      · have q1 : k + 0 = xs.length - 1 - (xs.length - k) + 1 := by omega
        rw [q1] at e1
        exact h.lk _ y x e2 e1
    · omega

noncomputable def half (xs : List Nat) : List Nat := xs.map (· / 2)
structure Deco (n : Nat) (M : Nat → Nat) (rows rings : List (List Nat)) : Prop where
  row : ∀ r ∈ rows, IsRow n M r
  ring : ∀ r ∈ rings, IsRing n M r
  nd : ((rows ++ rings).flatMap half).Nodup
  all : ∀ s, s < n → s ∈ (rows ++ rings).flatMap half
theorem half_back_perm (xs : List Nat) : (half (backL xs)).Perm (half xs) := by
  unfold half backL
  have e : (xs.reverse.map far).map (· / 2) = (xs.map (· / 2)).reverse := by
    rw [List.map_map, ← List.map_reverse]
    exact List.map_congr_left fun x _ => far_half x
  rw [e]
  exact List.reverse_perm _
theorem half_rot_perm (k : Nat) (xs : List Nat) : (half (rotL k xs)).Perm (half xs) := by
  unfold half rotL
  refine List.Perm.map _ (List.perm_append_comm.trans ?_)
  rw [List.take_append_drop]
theorem Deco.perm {rows rings rows' rings' : List (List Nat)} (D : Deco n M rows rings) (h1 : ∀ r ∈ rows', IsRow n M r) (h2 : ∀ r ∈ rings', IsRing n M r) (p1 : (rows'.flatMap half).Perm (rows.flatMap half)) (p2 : (rings'.flatMap half).Perm (rings.flatMap half)) : Deco n M rows' rings' := by
  have p : ((rows' ++ rings').flatMap half).Perm ((rows ++ rings).flatMap half) := by
    rw [List.flatMap_append, List.flatMap_append]
    exact p1.append p2
  exact ⟨h1, h2, p.nodup_iff.mpr D.nd, fun s hs => p.symm.subset (D.all s hs)⟩
theorem mem_half {xs : List Nat} {s : Nat} : s ∈ half xs ↔ ∃ x ∈ xs, x / 2 = s := by unfold half; rw [List.mem_map]
theorem Deco.ch {rows rings : List (List Nat)} (D : Deco n M rows rings) {r : List Nat} (h : r ∈ rows ++ rings) : IsCh n M r := by
  rcases List.mem_append.mp h with z | z
  · exact (D.row r z).toIsCh
  · exact (D.ring r z).toIsCh
theorem Deco.lt {rows rings : List (List Nat)} (D : Deco n M rows rings) : ∀ s ∈ (rows ++ rings).flatMap half, s < n := fun s hs => by
  obtain ⟨r, hr, h⟩ := List.mem_flatMap.mp hs
  obtain ⟨x, hx, rfl⟩ := mem_half.mp h
  have := (D.ch hr).lt x hx
  omega
theorem Deco.total {rows rings : List (List Nat)} (D : Deco n M rows rings) : ((rows ++ rings).flatMap half).Perm (List.range n) :=
  (List.perm_ext_iff_of_nodup D.nd List.nodup_range).mpr fun a => ⟨fun h => List.mem_range.mpr (D.lt a h), fun h => D.all a (List.mem_range.mp h)⟩

noncomputable def innerC (xs : List Nat) : List (Int × Int) := (List.range (xs.length - 1)).map fun (i : Nat) => (((far (xs.getD i 0) : Nat) : Int), ((xs.getD (i + 1) 0 : Nat) : Int))
noncomputable def ringC (xs : List Nat) : List (Int × Int) := innerC xs ++ [(((far (xs.getD (xs.length - 1) 0) : Nat) : Int), ((xs.getD 0 0 : Nat) : Int))]
noncomputable def allC (rows rings : List (List Nat)) : List (Int × Int) := rows.flatMap innerC ++ rings.flatMap ringC
theorem getD_of {xs : List Nat} {i x : Nat} (h : xs[i]? = some x) : xs.getD i 0 = x := by simp [List.getD, h]
theorem mem_inner {xs : List Nat} {p : Int × Int} : p ∈ innerC xs ↔ ∃ i x y : Nat, xs[i]? = some x ∧ xs[i + 1]? = some y ∧ p = (((far x : Nat) : Int), (y : Int)) := by
  unfold innerC
  rw [List.mem_map]
  constructor
  · rintro ⟨i, hi, rfl⟩
    have hi := List.mem_range.mp hi
    have h1 : xs[i]? = some (xs[i]'(by omega)) := List.getElem?_eq_getElem (by omega)
    have h2 : xs[i + 1]? = some (xs[i + 1]'(by omega)) := List.getElem?_eq_getElem (by omega)
    exact ⟨i, _, _, h1, h2, by rw [getD_of h1, getD_of h2]⟩
  · rintro ⟨i, x, y, h1, h2, rfl⟩
    have hl := (List.getElem?_eq_some_iff.mp h2).1
    exact ⟨i, List.mem_range.mpr (by omega), by rw [getD_of h1, getD_of h2]⟩
noncomputable def endsI (xs : List Nat) : List Int := xs.flatMap fun (x : Nat) => [(x : Int), ((far x : Nat) : Int)]
theorem innerC_cons (x y : Nat) (r : List Nat) : innerC (x :: y :: r) = (((far x : Nat) : Int), (y : Int)) :: innerC (y :: r) := by
  unfold innerC
  have e : (x :: y :: r).length - 1 = r.length + 1 := by simp
  have e2 : (y :: r).length - 1 = r.length := by simp
  rw [e, e2, List.range_succ_eq_map, List.map_cons, List.map_map]
  rfl
theorem endsI_eq : ∀ (x : Nat) (r : List Nat), endsI (x :: r) = (x : Int) :: (flat (innerC (x :: r)) ++ [((far ((x :: r).getD ((x :: r).length - 1) 0) : Nat) : Int)])
  | x, [] => rfl
  | x, y :: r => by
    have ih := endsI_eq y r
    rw [innerC_cons]
    have e1 : endsI (x :: y :: r) = (x : Int) :: ((far x : Nat) : Int) :: endsI (y :: r) := rfl
    have e2 : flat ((((far x : Nat) : Int), (y : Int)) :: innerC (y :: r)) = ((far x : Nat) : Int) :: (y : Int) :: flat (innerC (y :: r)) := rfl
    have e3 : (x :: y :: r).getD ((x :: y :: r).length - 1) 0 = (y :: r).getD ((y :: r).length - 1) 0 := by simp [List.getD]
    rw [e1, ih, e2, e3]
    rfl
theorem row_sub {xs : List Nat} : (flat (innerC xs)).Sublist (endsI xs) := by
  cases xs with
  | nil => exact List.Sublist.refl _
  | cons x r =>
    rw [endsI_eq]
    exact List.Sublist.cons _ (List.sublist_append_left _ _)
theorem flat_append (cs ds : List (Int × Int)) : flat (cs ++ ds) = flat cs ++ flat ds := by unfold flat; rw [List.flatMap_append]
theorem flat_flatMap {α : Type} (f : α → List (Int × Int)) : ∀ l : List α, flat (l.flatMap f) = l.flatMap fun x => flat (f x)
  | [] => rfl
  | x :: r => by rw [List.flatMap_cons, flat_append, flat_flatMap f r, List.flatMap_cons]
theorem ring_perm {xs : List Nat} (h : 0 < xs.length) : (flat (ringC xs)).Perm (endsI xs) := by
  cases xs with
  | nil => simp at h
  | cons x r =>
    rw [endsI_eq]
    unfold ringC
    rw [flat_append]
    show (flat (innerC (x :: r)) ++ [((far ((x :: r).getD ((x :: r).length - 1) 0) : Nat) : Int), (x : Int)]).Perm _
    have e : flat (innerC (x :: r)) ++ [((far ((x :: r).getD ((x :: r).length - 1) 0) : Nat) : Int), (x : Int)] = (flat (innerC (x :: r)) ++ [((far ((x :: r).getD ((x :: r).length - 1) 0) : Nat) : Int)]) ++ [(x : Int)] := by simp
    rw [e]
    exact List.perm_append_comm.trans (List.Perm.refl _)
theorem flatMap_perm {α β : Type} {f g : α → List β} : ∀ {l : List α}, (∀ x ∈ l, (f x).Perm (g x)) → (l.flatMap f).Perm (l.flatMap g)
  | [], _ => List.Perm.refl _
  | x :: r, h => by
    rw [List.flatMap_cons, List.flatMap_cons]
    exact (h x List.mem_cons_self).append (flatMap_perm fun y hy => h y (List.mem_cons_of_mem _ hy))
theorem flatMap_sub {α β : Type} {f g : α → List β} (h : ∀ x, (f x).Sublist (g x)) : ∀ l : List α, (l.flatMap f).Sublist (l.flatMap g)
  | [] => List.Sublist.refl _
  | x :: r => by
    rw [List.flatMap_cons, List.flatMap_cons]
    exact (h x).append (flatMap_sub h r)
theorem ends_nodup : ∀ {xs : List Nat}, (half xs).Nodup → (endsI xs).Nodup
  | [], _ => by simp [endsI]
  | x :: r, h => by
    obtain ⟨h1, h2⟩ := List.nodup_cons.mp (show (x / 2 :: half r).Nodup from h)
    have e : endsI (x :: r) = [(x : Int), ((far x : Nat) : Int)] ++ endsI r := rfl
    rw [e]
    refine List.nodup_append.mpr ⟨?_, ends_nodup h2, fun a ha b hb z => ?_⟩
    · have := far_ne x
      simp
      omega
    · subst z
      have hb2 : ∃ y ∈ r, a = (y : Int) ∨ a = ((far y : Nat) : Int) := by
        unfold endsI at hb
        obtain ⟨y, hy, h⟩ := List.mem_flatMap.mp hb
        exact ⟨y, hy, by simpa using h⟩
      obtain ⟨y, hy, hc⟩ := hb2
      have ha : a = (x : Int) ∨ a = ((far x : Nat) : Int) := by simpa using ha
      refine h1 (mem_half.mpr ⟨y, hy, ?_⟩)
      have fx := far_half x
      have fy := far_half y
      rcases ha with ha | ha <;> rcases hc with hc | hc <;> omega
theorem half_flat (l : List (List Nat)) : l.flatMap half = half l.flatten := by
  unfold half
  rw [List.flatMap_def, List.map_flatten]
theorem ends_flat (l : List (List Nat)) : l.flatMap endsI = endsI l.flatten := by
  induction l with
  | nil => rfl
  | cons x r ih =>
    rw [List.flatMap_cons, List.flatten_cons, ih]
    unfold endsI
    rw [List.flatMap_append]
theorem Deco.clasps {rows rings : List (List Nat)} (W : Work n M) (D : Deco n M rows rings) : Matches n M (allC rows rings) := by
  have mem : ∀ p, p ∈ allC rows rings ↔ (∃ r ∈ rows, p ∈ innerC r) ∨ ∃ r ∈ rings, p ∈ ringC r := fun p => by
    unfold allC
    rw [List.mem_append, List.mem_flatMap, List.mem_flatMap]
  have inPr : ∀ {xs : List Nat}, IsCh n M xs → ∀ p ∈ innerC xs, ∃ a b : Nat, p = ((a : Int), (b : Int)) ∧ a < 2 * n ∧ b < 2 * n ∧ M a = b ∧ M b = a := fun {xs} h p hp => by
    obtain ⟨i, x, y, h1, h2, rfl⟩ := mem_inner.mp hp
    obtain ⟨e1, e2⟩ := h.lk i x y h1 h2
    exact ⟨far x, y, rfl, far_lt (h.lt x (List.mem_of_getElem? h1)), h.lt y (List.mem_of_getElem? h2), e1, e2⟩
  have ringLast : ∀ {xs : List Nat}, IsRing n M xs → ∃ x y : Nat, xs[0]? = some x ∧ xs[xs.length - 1]? = some y ∧ ringC xs = innerC xs ++ [(((far y : Nat) : Int), (x : Int))] := fun {xs} h => by
    have hp := h.ne
    have h1 : xs[0]? = some (xs[0]'(by omega)) := List.getElem?_eq_getElem (by omega)
    have h2 : xs[xs.length - 1]? = some (xs[xs.length - 1]'(by omega)) := List.getElem?_eq_getElem (by omega)
    refine ⟨_, _, h1, h2, ?_⟩
    unfold ringC
    rw [getD_of h1, getD_of h2]
  refine ⟨?_, fun p hp => ?_, fun e he hm => ?_⟩
  · have p1 : (flat (allC rows rings)).Perm (rows.flatMap (fun r => flat (innerC r)) ++ rings.flatMap endsI) := by
      unfold allC
      rw [flat_append, flat_flatMap, flat_flatMap]
      exact List.Perm.append (List.Perm.refl _) (flatMap_perm fun r hr => ring_perm (D.ring r hr).ne)
    have s1 : (rows.flatMap (fun r => flat (innerC r)) ++ rings.flatMap endsI).Sublist ((rows ++ rings).flatMap endsI) := by
      rw [List.flatMap_append]
      exact (flatMap_sub (fun _ => row_sub) rows).append (List.Sublist.refl _)
    have nd : ((rows ++ rings).flatMap endsI).Nodup := by
      rw [ends_flat]
      refine ends_nodup ?_
      rw [← half_flat]
      exact D.nd
    exact p1.nodup_iff.mpr (nd.sublist s1)
  · rcases (mem p).mp hp with ⟨r, hr, h⟩ | ⟨r, hr, h⟩
    · exact inPr (D.row r hr).toIsCh p h
    · have R := D.ring r hr
      obtain ⟨x, y, h1, h2, e⟩ := ringLast R
      rw [e] at h
      rcases List.mem_append.mp h with h | h
      · exact inPr R.toIsCh p h
      · have h : p = (((far y : Nat) : Int), (x : Int)) := by simpa using h
        obtain ⟨e1, e2⟩ := R.cl x y h1 h2
        exact ⟨far y, x, h, far_lt (R.lt y (List.mem_of_getElem? h2)), R.lt x (List.mem_of_getElem? h1), e1, e2⟩
  · obtain ⟨r, hr, hs⟩ := List.mem_flatMap.mp (D.all (e / 2) (by omega))
    obtain ⟨x, hx, hx2⟩ := mem_half.mp hs
    obtain ⟨i, hi⟩ := List.mem_iff_getElem?.mp hx
    have hil := (List.getElem?_eq_some_iff.mp hi).1
    have mid : ∀ j a b : Nat, r[j]? = some a → r[j + 1]? = some b → ((far a : Nat) : Int) ∈ flat (innerC r) ∧ (b : Int) ∈ flat (innerC r) := fun j a b h1 h2 =>
      ⟨mem_flat.mpr ⟨_, mem_inner.mpr ⟨j, a, b, h1, h2, rfl⟩, .inl rfl⟩, mem_flat.mpr ⟨_, mem_inner.mpr ⟨j, a, b, h1, h2, rfl⟩, .inr rfl⟩⟩
    have key : (e : Int) ∈ flat (innerC r) ∨ (i = 0 ∧ e = x) ∨ (i = r.length - 1 ∧ e = far x) := by
      rcases half_eq hx2.symm with z | z
      · cases i with
        | zero => exact .inr (.inl ⟨rfl, z⟩)
        | succ i =>
          have h1 : r[i]? = some (r[i]'(by omega)) := List.getElem?_eq_getElem (by omega)
          rw [z]
          exact .inl (mid i _ _ h1 hi).2
      · by_cases c : i + 1 < r.length
        · have h1 : r[i + 1]? = some (r[i + 1]'c) := List.getElem?_eq_getElem c
          rw [z]
          exact .inl (mid i _ _ hi h1).1
        · exact .inr (.inr ⟨by omega, z⟩)
    rw [mem_flat]
    rcases List.mem_append.mp hr with hr | hr
    · have R := D.row r hr
      rcases key with k | ⟨rfl, rfl⟩ | ⟨rfl, rfl⟩
      · obtain ⟨p, hp, hc⟩ := mem_flat.mp k
        exact ⟨p, (mem p).mpr (.inl ⟨r, hr, hp⟩), hc⟩
      · exact absurd (R.fst _ hi) hm
      · exact absurd (R.lst _ hi) hm
    · have R := D.ring r hr
      obtain ⟨a, b, h1, h2, e0⟩ := ringLast R
      have inR : ∀ p, p ∈ innerC r ∨ p = (((far b : Nat) : Int), (a : Int)) → p ∈ allC rows rings := fun p hp => (mem p).mpr (.inr ⟨r, hr, by
        rw [e0]
        rcases hp with hp | hp
        · exact List.mem_append_left _ hp
        · exact List.mem_append_right _ (by rw [hp]; simp)⟩)
      rcases key with k | ⟨rfl, rfl⟩ | ⟨rfl, rfl⟩
      · obtain ⟨p, hp, hc⟩ := mem_flat.mp k
        exact ⟨p, inR p (.inl hp), hc⟩
      · rw [hi] at h1
        obtain rfl := Option.some.inj h1
        exact ⟨_, inR _ (.inr rfl), .inr rfl⟩
      · rw [hi] at h2
        obtain rfl := Option.some.inj h2
        exact ⟨_, inR _ (.inr rfl), .inl rfl⟩
end

noncomputable def halfI (es : List Int) : List Int := es.map (· / 2)
noncomputable def Once (es : List Int) : Prop := (halfI es).Perm (up (List.range es.length))
theorem once_of {n : Nat} {xs : List Nat} (h : (half xs).Perm (List.range n)) : Once (up xs) := by
  have hl : xs.length = n := by have z := h.length_eq; unfold half at z; rw [List.length_map, List.length_range] at z; exact z
  unfold Once halfI
  rw [up_len, hl]
  have e : (up xs).map (· / 2) = up (half xs) := by
    unfold up half
    rw [List.map_map, List.map_map]
    refine List.map_congr_left fun a _ => ?_
    show (a : Int) / 2 = ((a / 2 : Nat) : Int)
    omega
  rw [e]
  unfold up
  exact h.map _
end Mt

namespace Mt
open Ch
section
variable {n : Nat} {M : Nat → Nat}
theorem Full.isCh {s : Nat} {xs : List Nat} (W : Work n M) (F : Full n M s xs) : IsCh n M xs := by
  refine ⟨?_, F.st.lt, fun i x y h1 h2 => ⟨(F.st.step i x y h1 h2).1.symm, F.st.back W h1 h2⟩⟩
  have := F.ne
  cases xs with
  | nil => exact absurd rfl this
  | cons _ _ => simp
theorem walk_row (W : Work n M) {s : Nat} (h : s < 2 * n) (hl : M s = s) : IsRow n M (walk n M s) := by
  have F := walk_full W h
  obtain ⟨l1, _, _⟩ := row_ends W F hl
  refine ⟨Full.isCh W F, fun x hx => ?_, fun x hx => ?_⟩
  · rw [F.st.hd] at hx
    obtain rfl := Option.some.inj hx
    exact hl
  · obtain ⟨y, hy, hy1, _⟩ := F.last
    rw [hy1] at hx
    obtain rfl := Option.some.inj hx
    unfold lastFar at l1
    rw [hy] at l1
    exact l1
theorem walk_ring (W : Work n M) {s : Nat} (h : s < 2 * n) {C : Nat → Prop} (hC : Shut n M C) (hrow : ∀ e, e < 2 * n → M e = e → C e) (hno : ¬ C s) : IsRing n M (walk n M s) ∧ Shut n M (Ends (walk n M s)) := by
  have F := walk_full W h
  obtain ⟨x, hx, hx1, hx2⟩ := F.last
  have hlt := far_lt (F.st.lt x hx2)
  have nl : M (far x) ≠ far x := fun c => hno (F.st.all W hC (z := far x) ⟨x, hx2, .inr rfl⟩ (hrow _ hlt c) s ⟨_, List.mem_of_getElem? F.st.hd, .inl rfl⟩)
  have cl : M (far x) = s := Decidable.byContradiction fun c => F.stop x hx ⟨nl, c⟩
  refine ⟨⟨Full.isCh W F, fun a b ha hb => ?_⟩, F.shut W (.inr ⟨x, hx, cl⟩)⟩
  rw [F.st.hd] at ha
  rw [hx1] at hb
  obtain rfl := Option.some.inj ha
  obtain rfl := Option.some.inj hb
  exact ⟨cl, by rw [← cl]; exact W.inv _ hlt⟩

noncomputable def rowStepE (n : Nat) (M : Nat → Nat) (r : List (List Nat) × List Nat) (e : Nat) : List (List Nat) × List Nat := if M e = e ∧ e / 2 ∉ r.2 then (r.1 ++ [walk n M e], r.2 ++ half (walk n M e)) else r
noncomputable def rowsE (n : Nat) (M : Nat → Nat) (k : Nat) : List (List Nat) × List Nat := (List.range k).foldl (rowStepE n M) ([], [])
noncomputable def ringStepE (n : Nat) (M : Nat → Nat) (r : List (List Nat) × List Nat) (e : Nat) : List (List Nat) × List Nat := if e / 2 ∉ r.2 then (r.1 ++ [walk n M e], r.2 ++ half (walk n M e)) else r
noncomputable def ringsE (n : Nat) (M : Nat → Nat) (k : Nat) : List (List Nat) × List Nat := (List.range k).foldl (ringStepE n M) ([], (rowsE n M (2 * n)).2)
theorem rowsE_succ (k : Nat) : rowsE n M (k + 1) = rowStepE n M (rowsE n M k) k := by unfold rowsE; rw [List.range_succ, List.foldl_append]; rfl
theorem ringsE_succ (k : Nat) : ringsE n M (k + 1) = ringStepE n M (ringsE n M k) k := by unfold ringsE; rw [List.range_succ, List.foldl_append]; rfl
structure Seen (n : Nat) (M : Nat → Nat) (seen : List Nat) : Prop where
  nd : seen.Nodup
  lt : ∀ e ∈ seen, e < n
  shut : ∀ e, e < 2 * n → e / 2 ∈ seen → M e / 2 ∈ seen
theorem Seen.set {seen : List Nat} (h : Seen n M seen) : Shut n M (fun e => e / 2 ∈ seen) := ⟨fun e z => by show far e / 2 ∈ seen; rw [far_half]; exact z, fun e he z => h.shut e he z⟩
theorem Seen.more {seen : List Nat} (W : Work n M) (h : Seen n M seen) {s : Nat} (hs : s < 2 * n) (hno : s / 2 ∉ seen) (S : Shut n M (Ends (walk n M s))) : Seen n M (seen ++ half (walk n M s)) := by
  have F := walk_full W hs
  have hself : Ends (walk n M s) s := ⟨_, List.mem_of_getElem? F.st.hd, .inl rfl⟩
  have dis : ∀ a, a ∈ seen → a ∈ half (walk n M s) → False := fun a ha hb => by
    have e1 : (2 * a) / 2 = a := by omega
    exact hno (F.st.all W h.set (z := 2 * a) (ends_stave.mpr (by rw [e1]; exact hb)) (by show 2 * a / 2 ∈ seen; rw [e1]; exact ha) s hself)
  refine ⟨List.nodup_append.mpr ⟨h.nd, F.st.nodup W, fun a ha b hb e => dis a ha (e ▸ hb)⟩, fun e he => ?_, fun e he z => ?_⟩
  · rcases List.mem_append.mp he with z | z
    · exact h.lt e z
    · obtain ⟨x, hx, rfl⟩ := mem_half.mp z
      have := F.st.lt x hx
      omega
  · rcases List.mem_append.mp z with z | z
    · exact List.mem_append_left _ (h.shut e he z)
    · exact List.mem_append_right _ (ends_stave.mp (S.mate e he (ends_stave.mpr z)))
theorem self_half (W : Work n M) {s : Nat} (hs : s < 2 * n) : s / 2 ∈ half (walk n M s) := mem_half.mpr ⟨s, List.mem_of_getElem? (walk_full W hs).st.hd, rfl⟩
structure RowI (n : Nat) (M : Nat → Nat) (k : Nat) (r : List (List Nat) × List Nat) : Prop where
  eq : r.2 = r.1.flatMap half
  sn : Seen n M r.2
  row : ∀ x ∈ r.1, IsRow n M x
  met : ∀ e, e < k → M e = e → e / 2 ∈ r.2
theorem rowI (W : Work n M) : ∀ k, k ≤ 2 * n → RowI n M k (rowsE n M k)
  | 0, _ => ⟨rfl, ⟨List.nodup_nil, fun e h => (by cases h), fun e _ h => (by cases h)⟩, fun x h => (by cases h), fun e h => absurd h (Nat.not_lt_zero _)⟩
  | k + 1, hk => by
    have ih := rowI W k (by omega)
    rw [rowsE_succ]
    generalize rowsE n M k = r at ih
    unfold rowStepE
    by_cases c : M k = k ∧ k / 2 ∉ r.2
    · rw [if_pos c]
      have hkn : k < 2 * n := by omega
      have F := walk_full W hkn
      refine ⟨?_, ih.sn.more W hkn c.2 (F.shut W (.inl c.1)), fun x hx => ?_, fun e he hm => ?_⟩
      · show r.2 ++ _ = (r.1 ++ [_]).flatMap half
        rw [List.flatMap_append, ← ih.eq]
        simp
      · rcases List.mem_append.mp hx with z | z
        · exact ih.row x z
        · have : x = walk n M k := by simpa using z
          rw [this]
          exact walk_row W hkn c.1
      · by_cases q : e = k
        · subst q
          exact List.mem_append_right _ (self_half W hkn)
        · exact List.mem_append_left _ (ih.met e (by omega) hm)
    · rw [if_neg c]
      refine ⟨ih.eq, ih.sn, ih.row, fun e he hm => ?_⟩
      by_cases q : e = k
      · subst q
        exact Decidable.byContradiction fun z => c ⟨hm, z⟩
      · exact ih.met e (by omega) hm
structure RingI (n : Nat) (M : Nat → Nat) (k : Nat) (r : List (List Nat) × List Nat) : Prop where
  eq : r.2 = (rowsE n M (2 * n)).1.flatMap half ++ r.1.flatMap half
  sn : Seen n M r.2
  ring : ∀ x ∈ r.1, IsRing n M x
  met : ∀ e, e < k → e / 2 ∈ r.2
theorem ringI (W : Work n M) : ∀ k, k ≤ 2 * n → RingI n M k (ringsE n M k)
  | 0, _ => by
    have R := rowI W (2 * n) (Nat.le_refl _)
    exact ⟨by show (rowsE n M (2 * n)).2 = _ ++ []; rw [List.append_nil]; exact R.eq, R.sn, fun x h => (by cases h), fun e h => absurd h (Nat.not_lt_zero _)⟩
  | k + 1, hk => by
    have R := rowI W (2 * n) (Nat.le_refl _)
    have ih := ringI W k (by omega)
    rw [ringsE_succ]
    generalize ringsE n M k = r at ih
    unfold ringStepE
    by_cases c : k / 2 ∉ r.2
    · rw [if_pos c]
      have hkn : k < 2 * n := by omega
      have hrow : ∀ e, e < 2 * n → M e = e → e / 2 ∈ r.2 := fun e he hm => by
        rw [ih.eq, ← R.eq]
        exact List.mem_append_left _ (R.met e he hm)
      obtain ⟨G, S⟩ := walk_ring W hkn ih.sn.set hrow c
      refine ⟨?_, ih.sn.more W hkn c S, fun x hx => ?_, fun e he => ?_⟩
      · show r.2 ++ _ = _ ++ (r.1 ++ [_]).flatMap half
        rw [List.flatMap_append, ← List.append_assoc, ← ih.eq]
        simp
      · rcases List.mem_append.mp hx with z | z
        · exact ih.ring x z
        · have : x = walk n M k := by simpa using z
          rw [this]
          exact G
      · by_cases q : e = k
        · subst q
          exact List.mem_append_right _ (self_half W hkn)
        · exact List.mem_append_left _ (ih.met e (by omega))
    · rw [if_neg c]
      refine ⟨ih.eq, ih.sn, ih.ring, fun e he => ?_⟩
      by_cases q : e = k
      · subst q
        exact Decidable.byContradiction c
      · exact ih.met e (by omega)
theorem deco_found (W : Work n M) : Deco n M (rowsE n M (2 * n)).1 (ringsE n M (2 * n)).1 := by
  have R := rowI W (2 * n) (Nat.le_refl _)
  have G := ringI W (2 * n) (Nat.le_refl _)
  refine ⟨R.row, G.ring, ?_, fun s hs => ?_⟩
  · rw [List.flatMap_append, ← G.eq]
    exact G.sn.nd
  · rw [List.flatMap_append, ← G.eq]
    have z := G.met (2 * s) (by omega)
    have e : 2 * s / 2 = s := by omega
    rw [e] at z
    exact z
theorem deco_own (W : Work n M) : Deco n M (rowsL n M) (ringsL n M) := by
  have R := ringInv W n (Nat.le_refl _)
  have e : (rowsL n M ++ ringsL n M).flatMap half = (ringSt n M n).2 := by
    rw [List.flatMap_append, R.eq]
    rfl
  refine ⟨fun r hr => ?_, fun r hr => ?_, by rw [e]; exact R.nd, fun s hs => by rw [e]; exact R.all s hs⟩
  · obtain ⟨s, h1, h2, rfl, _⟩ := (mem_rows W).mp hr
    exact walk_row W h1 h2
  · obtain ⟨st, h1, F, ⟨x, hx, hc, _⟩, _⟩ := R.ring r hr
    refine ⟨Full.isCh W F, fun a b ha hb => ?_⟩
    obtain ⟨y, hy, hy1, hy2⟩ := F.last
    rw [hx] at hy
    obtain rfl := Option.some.inj hy
    rw [F.st.hd] at ha
    rw [hy1] at hb
    obtain rfl := Option.some.inj ha
    obtain rfl := Option.some.inj hb
    exact ⟨hc, by rw [← hc]; exact W.inv _ (far_lt (F.st.lt _ hy2))⟩
end

noncomputable def mapIx {α β : Type} (f : Nat → α → β) : Nat → List α → List β
  | _, [] => []
  | k, p :: r => f k p :: mapIx f (k + 1) r
section
variable {α β : Type} {f : Nat → α → β}
theorem mapIx_get : ∀ (l : List α) (k i : Nat), (mapIx f k l)[i]? = l[i]?.map (f (k + i))
  | [], k, i => by simp [mapIx]
  | p :: r, k, 0 => by simp [mapIx]
  | p :: r, k, i + 1 => by
    show (mapIx f (k + 1) r)[i]? = _
    rw [mapIx_get r (k + 1) i, show k + 1 + i = k + (i + 1) by omega]
    rfl
theorem mapIx_snoc (p : α) : ∀ (l : List α) (k : Nat), mapIx f k (l ++ [p]) = mapIx f k l ++ [f (k + l.length) p]
  | [], k => rfl
  | q :: r, k => by
    show _ :: mapIx f (k + 1) (r ++ [p]) = _ :: mapIx f (k + 1) r ++ _
    rw [mapIx_snoc p r (k + 1), show k + 1 + r.length = k + (q :: r).length by simp; omega]
    rfl
theorem mapIx_mem : ∀ {l : List α} {k : Nat} {q : β}, q ∈ mapIx f k l → ∃ j p, p ∈ l ∧ q = f j p
  | p :: r, k, q, h => by
    rcases List.mem_cons.mp h with h | h
    · exact ⟨k, p, List.mem_cons_self, h⟩
    · obtain ⟨j, p', h1, h2⟩ := mapIx_mem h
      exact ⟨j, p', List.mem_cons_of_mem _ h1, h2⟩
end
theorem mapIx_half {f : Nat → List Nat → List Nat} : ∀ {l : List (List Nat)} (k : Nat), (∀ j p, p ∈ l → (half (f j p)).Perm (half p)) → ((mapIx f k l).flatMap half).Perm (l.flatMap half)
  | [], _, _ => List.Perm.refl _
  | p :: r, k, h => by
    show ((f k p :: mapIx f (k + 1) r).flatMap half).Perm _
    rw [List.flatMap_cons, List.flatMap_cons]
    exact (h k p List.mem_cons_self).append (mapIx_half (k + 1) fun j q hq => h j q (List.mem_cons_of_mem _ hq))
noncomputable def tellRow (c : Int) (k : Nat) (r : List Nat) : List Nat := if (c + (k : Int) * k) % 3 = 1 then backL r else r
noncomputable def tellRing (c d : Int) (k : Nat) (r : List Nat) : List Nat :=
  if (d + (k : Int) * k) % 3 = 1 then backL (rotL ((c + 3 * k) % (r.length : Int)).toNat r) else rotL ((c + 3 * k) % (r.length : Int)).toNat r
noncomputable def cutL {α : Type} (cut : Nat) (l : List α) : List α := l.drop cut ++ l.take cut
theorem cutL_perm {α : Type} (cut : Nat) (l : List α) : (cutL cut l).Perm l := by
  unfold cutL
  exact List.perm_append_comm.trans (by rw [List.take_append_drop])
section
variable {n : Nat} {M : Nat → Nat}
theorem tellRow_row {c : Int} {k : Nat} {r : List Nat} (h : IsRow n M r) : IsRow n M (tellRow c k r) := by
  unfold tellRow
  split
  · exact h.back
  · exact h
theorem tellRing_ring {c d : Int} {k : Nat} {r : List Nat} (h : IsRing n M r) : IsRing n M (tellRing c d k r) := by
  have hp := h.ne
  have h0 := Int.emod_nonneg (c + 3 * k) (show (r.length : Int) ≠ 0 by omega)
  have h1 := Int.emod_lt_of_pos (c + 3 * k) (show (0 : Int) < r.length by omega)
  have G := h.rot (k := ((c + 3 * k) % (r.length : Int)).toNat) (by omega)
  unfold tellRing
  split
  · exact G.back
  · exact G
theorem Deco.told {rows rings : List (List Nat)} (D : Deco n M rows rings) (c d e : Int) (cut : Nat) : Deco n M (cutL cut (mapIx (tellRow c) 0 rows)) (mapIx (tellRing d e) 0 rings).reverse := by
  refine D.perm (fun r hr => ?_) (fun r hr => ?_) ?_ ?_
  · obtain ⟨j, p, hp, rfl⟩ := mapIx_mem ((cutL_perm cut _).subset hr)
    exact tellRow_row (D.row p hp)
  · obtain ⟨j, p, hp, rfl⟩ := mapIx_mem (List.mem_reverse.mp hr)
    exact tellRing_ring (D.ring p hp)
  · refine (List.Perm.flatMap_right _ (cutL_perm cut _)).trans (mapIx_half 0 fun j p _ => ?_)
    unfold tellRow
    split
    · exact half_back_perm p
    · exact List.Perm.refl _
  · refine (List.Perm.flatMap_right _ (List.reverse_perm _)).trans (mapIx_half 0 fun j p _ => ?_)
    unfold tellRing
    split
    · exact (half_back_perm _).trans (half_rot_perm _ p)
    · exact half_rot_perm _ p
end

structure GoodCh (cs : List (List Int)) : Prop where
  ne : ∀ c ∈ cs, c ≠ []
  le : cs.flatten.length ≤ 40
  once : Once cs.flatten
theorem flatten_at {α : Type} {cs : List (List α)} {i : Nat} {L : List α} (h : cs[i]? = some L) : ∃ P Q, cs.flatten = P ++ L ++ Q ∧ ∀ L', (cs.set i L').flatten = P ++ L' ++ Q := by
  refine ⟨(cs.take i).flatten, (cs.drop (i + 1)).flatten, ?_, fun L' => ?_⟩
  · obtain ⟨hi, e⟩ := List.getElem?_eq_some_iff.mp h
    have z : cs = cs.take i ++ (L :: cs.drop (i + 1)) := by rw [← e, List.getElem_cons_drop, List.take_append_drop]
    conv => lhs; rw [z]
    simp
  · obtain ⟨hi, e⟩ := List.getElem?_eq_some_iff.mp h
    rw [List.set_eq_take_append_cons_drop, if_pos hi]
    simp
theorem bad_ch_empty {cs : List (List Int)} (h : [] ∈ cs) : ¬ GoodCh cs := fun G => G.ne [] h rfl
theorem bad_ch_long {cs : List (List Int)} (h : 40 < cs.flatten.length) : ¬ GoodCh cs := fun G => by have := G.le; omega
end Mt

namespace Mir
open PySem L2 Ch
theorem not_dec {c : Prop} [Decidable c] (h : (!decide c) = true) : ¬ c := by simpa using h
theorem not_dec' {c : Prop} [Decidable c] (h : ¬ (!decide c) = true) : c := by simpa using h
noncomputable def iV (ns : List Int) : List V := ns.map V.int
theorem iV_len (ns : List Int) : (iV ns).length = ns.length := by unfold iV; rw [List.length_map]
theorem iV_get' {ns : List Int} {i : Nat} {x : V} (h : (iV ns)[i]? = some x) : ∃ m, ns[i]? = some m ∧ x = .int m := by
  unfold iV at h
  rw [List.getElem?_map] at h
  cases e : ns[i]? with
  | none => rw [e] at h; cases h
  | some m => rw [e] at h; exact ⟨m, rfl, (Option.some.inj h).symm⟩
theorem nV_up (ms : List Nat) : nV ms = iV (Mt.up ms) := by unfold nV iV Mt.up; rw [List.map_map]; rfl
theorem iV_app (xs ys : List Int) : iV xs ++ iV ys = iV (xs ++ ys) := by unfold iV; rw [List.map_append]
noncomputable def Sm (i : Int) : Prop := i.natAbs < 10 ^ 40
theorem Sm.log {i : Int} (h : Sm i) : i.natAbs.log2 < 1920 := by
  unfold Sm at h
  by_cases z : i.natAbs = 0
  · rw [z]; decide
  · exact (Nat.log2_lt z).mpr (Nat.lt_of_lt_of_le h (by decide +kernel))
theorem Sm.of {i : Int} (h1 : -(10 ^ 32 : Int) < i) (h2 : i < (10 ^ 32 : Int)) : Sm i := by
  unfold Sm
  have e : (10 : Nat) ^ 40 = 100000000 * 10 ^ 32 := by decide +kernel
  rw [e]
  omega
noncomputable def spNumbers (K : PySem.W.Frag) : Sp := fun vs H Q _ => ∃ (a b : Addr) (ns : List Int), vs = [.ref a, .ref b] ∧ H a = some (.tup (iV ns)) ∧ (SqL K H b (iV ns) ∨ SqT K H b (iV ns)) ∧ ns.length ≤ 1000 ∧ ∀ H' : Hp, Same H H' → Q (.bl true) H'
theorem goodC_iff {n : Nat} {cs : List (Int × Int)} : Mt.GoodC n cs ↔ GoodCl n cs := ⟨fun h => ⟨h.rng, h.nd⟩, fun h => ⟨h.rng, h.nd⟩⟩
noncomputable def ClT (H : Hp) (l : Addr) (cs : List (Int × Int)) : Prop :=
  ∃ ts : List Addr, H l = some (.lst (ts.map V.ref)) ∧ ts.length = cs.length ∧ ∀ (i : Nat) (t : Addr) (p : Int × Int), ts[i]? = some t → cs[i]? = some p → H t = some (.tup [.int p.1, .int p.2])
theorem ClT.same {H H' : Hp} {l : Addr} {cs : List (Int × Int)} (h : ClT H l cs) (s : Same H H') : ClT H' l cs := by
  obtain ⟨ts, h1, h2, h3⟩ := h
  exact ⟨ts, s _ _ h1, h2, fun i t p e1 e2 => s _ _ (h3 i t p e1 e2)⟩
theorem ClT.nil {H : Hp} {l : Addr} (h : H l = some (.lst [])) : ClT H l [] := ⟨[], h, rfl, fun i t r e => by simp at e⟩
theorem ClT.snoc {H : Hp} {l t : Addr} {cs : List (Int × Int)} {p : Int × Int} (h : ClT H l cs) (ht : H t = some (.tup [.int p.1, .int p.2])) : ∃ xs, H l = some (.lst xs) ∧ xs.length = cs.length ∧ ClT (upd H l (.lst (xs ++ [.ref t]))) l (cs ++ [p]) := by
  obtain ⟨ts, h1, h2, h3⟩ := h
  refine ⟨_, h1, by rw [List.length_map]; exact h2, ts ++ [t], by rw [upd_same, List.map_append]; rfl, by rw [List.length_append, List.length_append, h2]; rfl, fun i u q e1 e2 => ?_⟩
  have key : H u = some (.tup [.int q.1, .int q.2]) := by
    by_cases hi : i < ts.length
    · rw [List.getElem?_append_left hi] at e1
      rw [List.getElem?_append_left (by omega)] at e2
      exact h3 i u q e1 e2
    · have hil := (List.getElem?_eq_some_iff.mp e1).1
      rw [List.length_append, List.length_singleton] at hil
      have e : i = ts.length := by omega
      subst e
      rw [List.getElem?_append_right (Nat.le_refl _), Nat.sub_self] at e1
      rw [List.getElem?_append_right (by omega), h2, Nat.sub_self] at e2
      obtain rfl : t = u := Option.some.inj e1
      obtain rfl : p = q := Option.some.inj e2
      exact ht
  rw [upd_ne (fun e => by rw [e, h1] at key; cases key)]
  exact key
theorem ClT.len {H : Hp} {l : Addr} {cs : List (Int × Int)} (h : ClT H l cs) : ∃ xs, H l = some (.lst xs) ∧ xs.length = cs.length := by
  obtain ⟨ts, h1, h2, _⟩ := h
  exact ⟨_, h1, by rw [List.length_map]; exact h2⟩
theorem ClT.at {K : PySem.W.Frag} {H : Hp} {l : Addr} {cs : List (Int × Int)} (h : ClT H l cs) : ClAt K H l cs := by
  obtain ⟨ts, h1, h2, h3⟩ := h
  exact ⟨ts, SqL.of h1, h2, fun i t p e1 e2 => SqT.of (h3 i t p e1 e2)⟩
section
variable (K : PySem.W.Frag)
noncomputable def spWorkByX (C : Addr) : Sp := fun vs H Q E => ∃ (n : Nat) (c : Addr) (cs : List (Int × Int)), vs = [.int n, .ref c] ∧ n ≤ 40 ∧ ClAt K H c cs ∧ cs.length ≤ 1000 ∧ (∀ e ∈ flat cs, Sm e) ∧
  (GoodCl n cs → ∀ (l : Addr) (H' : Hp), H l = none → Same H H' → H' l = some (.tup (matesOf n cs)) → Q (.ref l) H') ∧ (¬ GoodCl n cs → ∀ H' : Hp, Same H H' → E (.ref C) none H')
end
theorem mates_take {n : Nat} {ms : List Nat} {cs : List (Int × Int)} (h : Mt.Matches n (at0 ms) cs) : ∀ k, k ≤ cs.length → ∀ e, e < 2 * n → (matesOf n (cs.take k))[e]? = some (.int (if (e : Int) ∈ flat (cs.take k) then ((at0 ms e : Nat) : Int) else (e : Int)))
  | 0, _, e, he => by
    show (rngV 0 (2 * n))[e]? = _
    rw [rngV_get he, if_neg (by simp [flat]), Int.zero_add]
  | k + 1, hk, e, he => by
    have hc : cs[k]? = some (cs[k]'(by omega)) := List.getElem?_eq_getElem (by omega)
    have hm : cs[k]'(by omega) ∈ cs := List.getElem_mem _
    obtain ⟨a, b, e0, ha, hb, h1, h2⟩ := h.pr _ hm
    rw [e0] at hc
    rw [take_snoc hc, matesOf_snoc, flat_snoc]
    have ih := mates_take h k (by omega) e he
    have hl : (matesOf n (cs.take k)).length = 2 * n := matesOf_len _ _
    unfold mStep
    show (((matesOf n (cs.take k)).set (a : Int).toNat (.int (b : Int))).set (b : Int).toNat (.int (a : Int)))[e]? = _
    rw [Int.toNat_natCast, Int.toNat_natCast]
    by_cases q2 : e = b
    · subst q2
      rw [List.getElem?_set_self (by rw [List.length_set, hl]; exact he), if_pos (by simp), h2]
    · rw [List.getElem?_set_ne (Ne.symm q2)]
      by_cases q1 : e = a
      · subst q1
        rw [List.getElem?_set_self (by rw [hl]; exact he), if_pos (by simp), h1]
      · rw [List.getElem?_set_ne (Ne.symm q1), ih]
        have z : (e : Int) ∈ flat (cs.take k) ++ [((a : Int), (b : Int)).1, ((a : Int), (b : Int)).2] ↔ (e : Int) ∈ flat (cs.take k) := by
          simp
          omega
        simp only [z]
theorem mates_of {n : Nat} {ms : List Nat} {cs : List (Int × Int)} (W : WorkL n ms) (h : Mt.Matches n (at0 ms) cs) : matesOf n cs = nV ms := by
  refine List.ext_getElem? fun e => ?_
  by_cases he : e < 2 * n
  · have z := mates_take h cs.length (Nat.le_refl _) e he
    rw [List.take_length] at z
    rw [z, W.get he]
    have q := h.loose W.wk he
    by_cases c : (e : Int) ∈ flat cs
    · rw [if_pos c]
    · rw [if_neg c]
      have : at0 ms e = e := Decidable.byContradiction fun z => c (q.mpr z)
      rw [this]
  · rw [List.getElem?_eq_none (by rw [matesOf_len]; omega), List.getElem?_eq_none (by rw [nV_len, W.len]; omega)]

theorem cut_from {xs : List V} {k : Nat} (h : k ≤ xs.length) : cutV xs (some (k : Int)) none = xs.drop k := by
  unfold cutV
  have e1 : HT.sIx xs.length 0 (some (k : Int)) = k := by unfold HT.sIx; simp only; rw [if_neg (by omega), Int.toNat_natCast]; omega
  have e2 : HT.sIx xs.length xs.length none = xs.length := rfl
  rw [e1, e2]
  exact List.take_of_length_le (by rw [List.length_drop]; omega)
theorem cut_to {xs : List V} {k : Nat} (h : k ≤ xs.length) : cutV xs none (some (k : Int)) = xs.take k := by
  unfold cutV
  have e1 : HT.sIx xs.length xs.length (some (k : Int)) = k := by unfold HT.sIx; simp only; rw [if_neg (by omega), Int.toNat_natCast]; omega
  have e2 : HT.sIx xs.length 0 none = 0 := rfl
  rw [e1, e2]
  rfl
theorem Matches_sm {n : Nat} {M : Nat → Nat} {cs : List (Int × Int)} (hn : n ≤ 40) (h : Mt.Matches n M cs) : ∀ e ∈ flat cs, Sm e := fun e he => by
  have z := h.good.rng e he
  exact Sm.of (by omega) (by omega)
end Mir

namespace Mt
open Ch
theorem getD_mem {ps : List Nat} {i : Nat} (h : i < ps.length) : ps[i]? = some (ps.getD i 0) := by simp [List.getD, List.getElem?_eq_getElem h]
end Mt

namespace Mir
open PySem L2 Ch
section
variable (K : PySem.W.Frag)
noncomputable def spOnce : Sp := fun vs H Q _ => ∃ (a : Addr) (es : List Int), vs = [.ref a] ∧ SqL K H a (iV es) ∧ es.length < 64 ∧ ∀ (b : Bool) (H' : Hp), (b = true ↔ Mt.Once es) → Same H H' → Q (.bl b) H'
end
theorem nV_getD {ps : List Nat} {i : Nat} (h : i < ps.length) : atI (nV ps) (i : Int) = some (.int (ps.getD i 0 : Nat)) := atI_nat (nV_get (Mt.getD_mem h))
end Mir

namespace L2E
open PySem PySem.Spec PyProof.Rows
open Sem (wp)
open AutoSeq1 (wpAny_loadPart')
theorem meets_extend_tup (l : Addr) (items : Array Value) (n : Nat) (b : Addr) (items2 : Array Value) (n2 : Nat) (dct : Option Addr) (sl : Array (Option Value)) (hs0 : ¬(!items.isEmpty && Builtin.List.listTooLong (items.size + items2.size)) = true) (hs1 : items.size ≤ sizeLine) (hs2 : items.size + items2.size ≤ sizeLine + 1) :
    Meets (Builtin.«list.extend» ⟨[.ref l, .ref b], []⟩) (fun _ R s => s.heap.get? l = some { cls := .type "list", dict := none, data := .seq items n, slots := #[] } ∧ s.heap.get? b = some { cls := .type "tuple", dict := dct, data := .seq items2 n2, slots := sl } ∧ R (.ok (.ret Value.none)) { s with heap := s.heap.update l (Obj.mapSeq fun x => x ++ items2), toks := s.toks }) :=
  .of_wp fun prog w A R s h => by
    obtain ⟨hp, g, d, tk, os⟩ := s; obtain ⟨hl, hb, h⟩ := h; have f1 := AutoSeq1.idx_int; have f2 := AutoSeq1.sub_tuple_tuple; have f3 := AutoSeq1.sub_list_list; have f4 := AutoSeq1.sub_tuple_list; have f5 := AutoSeq1.sub_list_tuple;
    have hz' : (items ++ items2).size ≤ sizeLine + 1 := by rw [Array.size_append]; exact hs2
    wp_walk using (wpAny_updateSeq hl rfl (hz := hs1) (_hz' := hz')), wpAny_loadPart' hl, wpAny_loadPart' hb; exact ⟨_, rfl, h⟩
end L2E
namespace L2
open PySem PySem.Spec PyProof.Rows
section
variable {X : Cx}
noncomputable def LT (H : Hp) (a : Addr) (xs : List V) : Prop := H a = some (.lst xs) ∨ H a = some (.tup xs)
theorem LT.same {H H' : Hp} {a : Addr} {xs : List V} (h : LT H a xs) (s : Same H H') : LT H' a xs := h.imp (s _ _) (s _ _)
noncomputable def rExtendA : V → List V → Hp → VK → Prop := fun x vs H Q => ∃ l b xs zs, x = .ref l ∧ vs = [.ref b] ∧ H l = some (.lst xs) ∧ LT H b zs ∧ xs.length + zs.length ≤ sizeLine ∧ Q .non (upd H l (.lst (xs ++ zs)))
theorem mt_extendA : MtM X "list.extend" rExtendA := by
  intro pins s σ H x vs v us Q I rx rv h
  obtain ⟨l, b, xs, zs, ex, ev, hH, hB, hz, q⟩ := h
  rcases hB with hB | hB
  · exact mt_extend pins s σ H x vs v us Q I rx rv ⟨l, b, xs, zs, ex, ev, hH, hB, hz, q⟩
  subst ex ev
  cases rx
  obtain ⟨u, rfl, ru⟩ := rv.one
  cases ru
  obtain ⟨z, its, n, r, hl, e⟩ := I.lstM hH
  obtain ⟨z2, its2, r2, ⟨⟨c, dct, dt, sl⟩, e2, hc, n2, hd⟩⟩ := I.hok b _ hB
  have hc : c = .type "tuple" := hc
  have hd : dt = .seq its2.toArray n2 := hd
  subst hc hd
  have hl2 := r2.length
  have hsz : its.toArray.size + its2.toArray.size ≤ sizeLine := by rw [List.size_toArray, List.size_toArray]; omega
  have hlong : ¬ (!its.toArray.isEmpty && Builtin.List.listTooLong (its.toArray.size + its2.toArray.size)) = true := by
    rw [notLongL hsz, Bool.and_false]
    exact Bool.false_ne_true
  refine call_meets F.slot_list_extend ⟨_, e, rfl⟩ F.entry_list_extend (F.args_list_extend_2 _ _)
    (L2E.meets_extend_tup l its.toArray n b its2.toArray n2 dct sl hlong (by rw [List.size_toArray]; omega) (by omega)) ⟨e, e2, ?_⟩
  refine ⟨.non, _, I.lset (its' := its ++ its2) hH e (by simp) (r.append r2) ?_, rfl, q⟩
  rw [List.length_append]
  omega
noncomputable def rIxA (K : PySem.W.Frag) : R2 := fun x y H Q => ∃ p xs i v, x = .ref p ∧ y = .int i ∧ LT H p xs ∧ atI xs i = some v ∧ Q v H
theorem ix_any {K : PySem.W.Frag} (hK : X.K = K) : IxR X (rIxA K) := by
  intro value slice pins s σ H x y v u Q I rx ry h hs
  obtain ⟨p, xs, i, z, e1, e2, hq, he, q⟩ := h
  rcases hq with hq | hq
  · exact ix_listK hK value slice pins s σ H x y v u Q I rx ry ⟨p, xs, i, z, e1, e2, SqL.of hq, he, q⟩ hs
  · exact ix_tupK hK value slice pins s σ H x y v u Q I rx ry ⟨p, xs, i, z, e1, e2, SqT.of hq, he, q⟩ hs
end
end L2

namespace Mir
open PySem L2 Ch
inductive All2 {α β : Type} (R : α → β → Prop) : List α → List β → Prop
  | nil : All2 R [] []
  | cons {a : α} {b : β} {as : List α} {bs : List β} : R a b → All2 R as bs → All2 R (a :: as) (b :: bs)
section
variable {α β : Type} {R S : α → β → Prop}
theorem All2.len : ∀ {as : List α} {bs : List β}, All2 R as bs → as.length = bs.length
  | _, _, .nil => rfl
  | _, _, .cons _ t => by rw [List.length_cons, List.length_cons, t.len]
theorem All2.app : ∀ {as : List α} {bs : List β} {cs : List α} {ds : List β}, All2 R as bs → All2 R cs ds → All2 R (as ++ cs) (bs ++ ds)
  | _, _, _, _, .nil, k => k
  | _, _, _, _, .cons h t, k => .cons h (t.app k)
theorem All2.snoc {as : List α} {bs : List β} {a : α} {b : β} (h : All2 R as bs) (k : R a b) : All2 R (as ++ [a]) (bs ++ [b]) := h.app (.cons k .nil)
theorem All2.imp (f : ∀ a b, R a b → S a b) : ∀ {as : List α} {bs : List β}, All2 R as bs → All2 S as bs
  | _, _, .nil => .nil
  | _, _, .cons h t => .cons (f _ _ h) (t.imp f)
theorem All2.impM {as : List α} {bs : List β} (h : All2 R as bs) (f : ∀ a b, a ∈ as → R a b → S a b) : All2 S as bs := by
  induction h with
  | nil => exact .nil
  | cons h t ih => exact .cons (f _ _ List.mem_cons_self h) (ih fun a b ha => f a b (List.mem_cons_of_mem _ ha))
theorem All2.get : ∀ {as : List α} {bs : List β}, All2 R as bs → ∀ {i : Nat} {a : α}, as[i]? = some a → ∃ b, bs[i]? = some b ∧ R a b
  | _, _, .nil, i, a, e => by simp at e
  | _, _, .cons h t, 0, a, e => by cases e; exact ⟨_, rfl, h⟩
  | _, _, .cons h t, i + 1, a, e => t.get (i := i) e
end
noncomputable def Cs (H : Hp) : List Addr → List (List Int) → Prop := All2 fun t c => LT H t (iV c)
noncomputable def Cl (H : Hp) : List Addr → List (List Int) → Prop := All2 fun t c => H t = some (.lst (iV c))
theorem Cs.same {H H' : Hp} {ts : List Addr} {cs : List (List Int)} (h : Cs H ts cs) (s : Same H H') : Cs H' ts cs := All2.imp (fun _ _ h => h.same s) h
theorem Cl.same {H H' : Hp} {ts : List Addr} {cs : List (List Int)} (h : Cl H ts cs) (s : Same H H') : Cl H' ts cs := All2.imp (fun _ _ h => s _ _ h) h
theorem Cl.upd {H : Hp} {ts : List Addr} {cs : List (List Int)} {l : Addr} {o : HO} (h : Cl H ts cs) (ne : ∀ t ∈ ts, t ≠ l) : Cl (upd H l o) ts cs := All2.impM h fun t c ht e => by rw [upd_ne (ne t ht)]; exact e
theorem Cl.but {H H' : Hp} {ts : List Addr} {cs : List (List Int)} {d : Addr} {kv : List (Key × V)} (h : Cl H ts cs) (hd : H d = some (.dK kv)) (s : ∀ b o, b ≠ d → H b = some o → H' b = some o) : Cl H' ts cs := All2.imp (fun t c e => s t _ (fun z => by rw [z, hd] at e; cases e) e) h
noncomputable def refs (ts : List Addr) : List V := ts.map V.ref
theorem refs_len (ts : List Addr) : (refs ts).length = ts.length := by unfold refs; rw [List.length_map]
theorem refs_get' {ts : List Addr} {i : Nat} {x : V} (h : (refs ts)[i]? = some x) : ∃ t, ts[i]? = some t ∧ x = .ref t := by
  unfold refs at h
  rw [List.getElem?_map] at h
  cases e : ts[i]? with
  | none => rw [e] at h; cases h
  | some m => rw [e] at h; exact ⟨m, rfl, (Option.some.inj h).symm⟩
theorem refs_snoc (ts : List Addr) (t : Addr) : refs (ts ++ [t]) = refs ts ++ [.ref t] := by unfold refs; rw [List.map_append]; rfl
theorem refs_app (ts us : List Addr) : refs (ts ++ us) = refs ts ++ refs us := by unfold refs; rw [List.map_append]
structure ChT (H : Hp) (l : Addr) (ts : List Addr) (cs : List (List Int)) : Prop where
  lst : H l = some (.lst (refs ts))
  ch : Cs H ts cs
theorem ChT.same {H H' : Hp} {l : Addr} {ts : List Addr} {cs : List (List Int)} (h : ChT H l ts cs) (s : Same H H') : ChT H' l ts cs := ⟨s _ _ h.lst, h.ch.same s⟩
theorem ClT.app {H : Hp} {l b : Addr} {cs ds : List (Int × Int)} (h : ClT H l cs) (k : ClT H b ds) : ∃ xs zs, H l = some (.lst xs) ∧ H b = some (.lst zs) ∧ xs.length = cs.length ∧ zs.length = ds.length ∧ ClT (upd H l (.lst (xs ++ zs))) l (cs ++ ds) := by
  obtain ⟨ts, h1, h2, h3⟩ := h
  obtain ⟨us, k1, k2, k3⟩ := k
  refine ⟨_, _, h1, k1, by rw [List.length_map]; exact h2, by rw [List.length_map]; exact k2, ts ++ us, by rw [upd_same, List.map_append], by rw [List.length_append, List.length_append, h2, k2], fun i u q e1 e2 => ?_⟩
  have key : H u = some (.tup [.int q.1, .int q.2]) := by
    by_cases hi : i < ts.length
    · rw [List.getElem?_append_left hi] at e1
      rw [List.getElem?_append_left (by omega)] at e2
      exact h3 i u q e1 e2
    · rw [List.getElem?_append_right (by omega)] at e1 e2
      rw [← h2] at e2
      exact k3 _ u q e1 e2
  rw [upd_ne (fun e => by rw [e, h1] at key; cases key)]
  exact key
theorem put_iff {kv : List (Key × V)} {x j : Nat} {ys : List Nat} {A : Prop} (hk : (valV kv (Sum.inl (j : Int) : Key)).isSome = true ↔ A ∨ j ∈ ys.map (· / 2)) :
    (valV (putK kv (Sum.inl ((x : Int) / 2) : Key) (V.bl true)) (Sum.inl (j : Int) : Key)).isSome = true ↔ A ∨ j ∈ (ys ++ [x]).map (· / 2) := by
  rw [valV_put, List.map_append, List.mem_append]
  by_cases e : (Sum.inl (j : Int) : Key) = Sum.inl ((x : Int) / 2)
  · rw [if_pos e]
    have e2 : j = x / 2 := by injection e with e; omega
    constructor
    · intro _; exact .inr (.inr (by simp [e2]))
    · intro _; rfl
  · rw [if_neg e, hk]
    have e2 : j ≠ x / 2 := fun z => e (by congr 1; omega)
    constructor
    · rintro (h | h)
      · exact .inl h
      · exact .inr (.inl h)
    · rintro (h | h | h)
      · exact .inl h
      · exact .inr h
      · simp at h; exact absurd h e2
noncomputable def spInner : Sp := fun vs H Q _ => ∃ (t : Addr) (xs : List Nat), vs = [.ref t] ∧ LT H t (iV (Mt.up xs)) ∧ xs.length ≤ 60 ∧ ∀ (l : Addr) (H' : Hp), H l = none → Same H H' → ClT H' l (Mt.innerC xs) → Q (.ref l) H'
noncomputable def spEntered (C : Addr) : Sp := fun vs H Q E => ∃ (l : Addr) (ts : List Addr) (cs : List (List Int)), vs = [.ref l] ∧ ChT H l ts cs ∧ cs.flatten.length ≤ 1000 ∧
  (Mt.GoodCh cs → ∀ (l' : Addr) (H' : Hp), Same H H' → H' l' = some (.lst (iV cs.flatten)) → Q (.ref l') H') ∧ (¬ Mt.GoodCh cs → ∀ H' : Hp, Same H H' → E (.ref C) none H')
noncomputable def spWorkFrom (C : Addr) : Sp := fun vs H Q E => ∃ (a b : Addr) (ts us : List Addr) (cs ds : List (List Int)), vs = [.ref a, .ref b] ∧ ChT H a ts cs ∧ ChT H b us ds ∧ (cs ++ ds).flatten.length ≤ 1000 ∧ (cs ++ ds).length ≤ 1000 ∧
  ((∃ (n : Nat) (ms : List Nat) (rows rings : List (List Nat)), WorkL n ms ∧ Mt.Deco n (at0 ms) rows rings ∧ cs = rows.map Mt.up ∧ ds = rings.map Mt.up ∧ ∀ (l : Addr) (H' : Hp), H l = none → Same H H' → H' l = some (.tup (nV ms)) → Q (.ref l) H') ∨
    (¬ Mt.GoodCh (cs ++ ds) ∧ ∀ H' : Hp, Same H H' → E (.ref C) none H'))
noncomputable def spLawChain (K : PySem.W.Frag) : Sp := fun vs H Q _ => ∃ (a : Addr) (n : Nat) (ms : List Nat) (s : Nat), vs = [.ref a, .int s] ∧ SqL K H a (nV ms) ∧ WorkL n ms ∧ s < 2 * n ∧
  ∀ (l : Addr) (H' : Hp), H l = none → Same H H' → H' l = some (.lst (nV (walk n (at0 ms) s))) → Q (.ref l) H'
noncomputable def spLawChains : Sp := fun vs H Q _ => ∃ (a : Addr) (n : Nat) (ms : List Nat), vs = [.ref a] ∧ H a = some (.lst (nV ms)) ∧ WorkL n ms ∧
  ∀ (t lr lg : Addr) (ts us : List Addr) (H' : Hp), Same H H' → H' t = some (.tup [.ref lr, .ref lg]) → H' lr = some (.lst (refs ts)) → Cl H' ts ((Mt.rowsE n (at0 ms) (2 * n)).1.map Mt.up) → H' lg = some (.lst (refs us)) → Cl H' us ((Mt.ringsE n (at0 ms) (2 * n)).1.map Mt.up) → Q (.ref t) H'
noncomputable def spLawBack : Sp := fun vs H Q _ => ∃ (t : Addr) (xs : List Nat), vs = [.ref t] ∧ H t = some (.lst (nV xs)) ∧ xs.length ≤ 60 ∧ ∀ (l : Addr) (H' : Hp), H l = none → Same H H' → H' l = some (.lst (nV (Mt.backL xs))) → Q (.ref l) H'
theorem up_flat (l : List (List Nat)) : (l.map Mt.up).flatten = Mt.up l.flatten := by
  unfold Mt.up
  rw [List.map_flatten]
theorem deco_len {n : Nat} {M : Nat → Nat} {rows rings : List (List Nat)} (D : Mt.Deco n M rows rings) : (rows ++ rings).flatten.length = n := by
  have z := D.total.length_eq
  rw [Mt.half_flat, List.length_range] at z
  unfold Mt.half at z
  rw [List.length_map] at z
  exact z
theorem deco_good {n : Nat} {M : Nat → Nat} {rows rings : List (List Nat)} (hn : n ≤ 40) (D : Mt.Deco n M rows rings) : Mt.GoodCh (rows.map Mt.up ++ rings.map Mt.up) := by
  have e : (rows.map Mt.up ++ rings.map Mt.up).flatten = Mt.up (rows ++ rings).flatten := by rw [← List.map_append, up_flat]
  refine ⟨fun c hc => ?_, by rw [e, Mt.up_len, deco_len D]; exact hn, by rw [e]; refine Mt.once_of (n := n) ?_; rw [← Mt.half_flat]; exact D.total⟩
  rw [← List.map_append] at hc
  obtain ⟨r, hr, rfl⟩ := List.mem_map.mp hc
  have z := (D.ch hr).ne
  intro h
  have y : r.length = 0 := by rw [← Mt.up_len r, h]; rfl
  omega
theorem flatten_le {α : Type} {l : List (List α)} {r : List α} (h : r ∈ l) : r.length ≤ l.flatten.length := by
  obtain ⟨i, hi⟩ := List.mem_iff_getElem?.mp h
  obtain ⟨P, Q, e, _⟩ := Mt.flatten_at hi
  rw [e, List.length_append, List.length_append]
  omega
theorem len_le_flat {α : Type} : ∀ {l : List (List α)}, (∀ r ∈ l, 0 < r.length) → l.length ≤ l.flatten.length
  | [], _ => Nat.le_refl _
  | a :: r, h => by
    have z := len_le_flat (l := r) fun x hx => h x (List.mem_cons_of_mem _ hx)
    have y := h a List.mem_cons_self
    rw [List.flatten_cons, List.length_append, List.length_cons]
    omega
theorem atI_up {xs : List Nat} (h : 0 < xs.length) : atI (nV xs) (-1) = some (.int (xs.getD (xs.length - 1) 0 : Nat)) := atI_nlast (by rw [List.getLast?_eq_getElem?]; exact Mt.getD_mem (by omega))
theorem inner_len (xs : List Nat) : (Mt.innerC xs).length = xs.length - 1 := by unfold Mt.innerC; rw [List.length_map, List.length_range]
theorem inners_len : ∀ l : List (List Nat), (l.flatMap Mt.innerC).length ≤ l.flatten.length
  | [] => Nat.le_refl _
  | a :: r => by
    have z := inners_len r
    have y := inner_len a
    rw [List.flatMap_cons, List.flatten_cons, List.length_append, List.length_append]
    omega
theorem rings_len : ∀ l : List (List Nat), (l.flatMap Mt.ringC).length ≤ l.flatten.length + l.length
  | [] => Nat.le_refl _
  | a :: r => by
    have z := rings_len r
    have y := inner_len a
    have x : (Mt.ringC a).length = (Mt.innerC a).length + 1 := by unfold Mt.ringC; rw [List.length_append]; rfl
    rw [List.flatMap_cons, List.flatten_cons, List.length_append, List.length_append, List.length_cons]
    omega
end Mir

namespace Mir
open PySem L2 Ch
theorem deco_bounds {n : Nat} {M : Nat → Nat} {rows rings : List (List Nat)} (hn : n ≤ 40) (D : Mt.Deco n M rows rings) : (rows.map Mt.up ++ rings.map Mt.up).flatten.length ≤ 40 ∧ (rows.map Mt.up ++ rings.map Mt.up).length ≤ 40 := by
  have G := deco_good hn D
  exact ⟨G.le, Nat.le_trans (len_le_flat fun x hx => Nat.pos_of_ne_zero fun z => G.ne x hx (List.eq_nil_of_length_eq_zero z)) G.le⟩
end Mir

namespace Sx
open PySem Builtin Builtin.Str StrLaws
noncomputable def dg (m : Nat) : List Nat := (Nat.toDigits 10 m).map Char.toNat
theorem tl_num (m : Nat) : tl (PySem.Str.ofString (toString ((m : Nat) : Int))) = dg m := PySem.W.KIN.signs_num m
theorem dg_all : ∀ m : Nat, m < 40 → (∀ c ∈ dg m, 48 ≤ c ∧ c ≤ 57) ∧ dg m ≠ [] ∧ (dg m).length ≤ 2 ∧ ((dg m).head? = some 48 → dg m = [48]) := by decide +kernel
noncomputable def sw (e : Nat) : List Nat := if e % 2 = 1 then 45 :: dg (e / 2) else dg (e / 2)
theorem sw_mem {e : Nat} (h : e < 80) : ∀ c ∈ sw e, c = 45 ∨ (48 ≤ c ∧ c ≤ 57) := by
  intro c hc
  have z := (dg_all (e / 2) (by omega)).1
  unfold sw at hc
  split at hc
  · rcases List.mem_cons.mp hc with h1 | h1
    · exact .inl h1
    · exact .inr (z c h1)
  · exact .inr (z c hc)
theorem sw_len {e : Nat} (h : e < 80) : 0 < (sw e).length ∧ (sw e).length ≤ 3 := by
  have z := (dg_all (e / 2) (by omega)).2
  have z1 : 0 < (dg (e / 2)).length := List.length_pos_iff.mpr z.1
  unfold sw
  split
  · rw [List.length_cons]; omega
  · omega
structure Tk where
  o : Bool
  k : Bool
  e : Nat
  c : Bool
noncomputable def opC (k : Bool) : Nat := if k then 91 else 40
noncomputable def clC (k : Bool) : Nat := if k then 93 else 41
noncomputable def told (t : Tk) : List Nat := sw t.e ++ (if t.c then [clC t.k] else [])
noncomputable def word (t : Tk) : List Nat := (if t.o then [opC t.k] else []) ++ told t
noncomputable def tksT (k : Bool) : List Nat → List Tk
  | [] => []
  | [e] => [⟨false, k, e, true⟩]
  | e :: f :: r => ⟨false, k, e, false⟩ :: tksT k (f :: r)
noncomputable def tks (k : Bool) : List Nat → List Tk
  | [] => []
  | [e] => [⟨true, k, e, true⟩]
  | e :: f :: r => ⟨true, k, e, false⟩ :: tksT k (f :: r)
noncomputable def chainL (k : Bool) (es : List Nat) : List Nat := opC k :: (joinL 32 (es.map sw) ++ [clC k])
theorem tksT_ne {k : Bool} : ∀ {es : List Nat}, es ≠ [] → tksT k es ≠ []
  | [], h => absurd rfl h
  | [e], _ => by simp [tksT]
  | e :: f :: r, _ => by simp [tksT]
theorem tks_ne {k : Bool} : ∀ {es : List Nat}, es ≠ [] → tks k es ≠ []
  | [], h => absurd rfl h
  | [e], _ => by simp [tks]
  | e :: f :: r, _ => by simp [tks]
theorem joinL_cons {c : Nat} {w : List Nat} : ∀ {ws : List (List Nat)}, ws ≠ [] → joinL c (w :: ws) = w ++ c :: joinL c ws
  | [], h => absurd rfl h
  | v :: r, _ => rfl
theorem joinL_app {c : Nat} : ∀ {us ws : List (List Nat)}, us ≠ [] → ws ≠ [] → joinL c (us ++ ws) = joinL c us ++ c :: joinL c ws
  | [], _, h, _ => absurd rfl h
  | [u], ws, _, h => joinL_cons h
  | u :: v :: r, ws, _, h => by
    show joinL c (u :: ((v :: r) ++ ws)) = _
    rw [joinL_cons (by simp), joinL_app (by simp) h, joinL_cons (w := u) (ws := v :: r) (by simp), List.append_assoc]
    rfl
theorem join_T {k : Bool} : ∀ {es : List Nat}, es ≠ [] → joinL 32 ((tksT k es).map word) = joinL 32 (es.map sw) ++ [clC k]
  | [], h => absurd rfl h
  | [e], _ => by simp [tksT, word, told, joinL]
  | e :: f :: r, _ => by
    show joinL 32 (word ⟨false, k, e, false⟩ :: (tksT k (f :: r)).map word) = joinL 32 (sw e :: (f :: r).map sw) ++ [clC k]
    rw [joinL_cons (by intro z; exact tksT_ne (by simp) (List.map_eq_nil_iff.mp z)), joinL_cons (by simp), join_T (by simp)]
    simp [word, told]
theorem join_tks {k : Bool} : ∀ {es : List Nat}, es ≠ [] → joinL 32 ((tks k es).map word) = chainL k es
  | [], h => absurd rfl h
  | [e], _ => by simp [tks, word, told, joinL, chainL]
  | e :: f :: r, _ => by
    show joinL 32 (word ⟨true, k, e, false⟩ :: (tksT k (f :: r)).map word) = opC k :: (joinL 32 (sw e :: (f :: r).map sw) ++ [clC k])
    rw [joinL_cons (by intro z; exact tksT_ne (by simp) (List.map_eq_nil_iff.mp z)), joinL_cons (by simp), join_T (by simp)]
    simp [word, told]
theorem join_flat {c : Nat} : ∀ {L : List (List (List Nat))}, (∀ ws ∈ L, ws ≠ []) → joinL c (L.map (joinL c)) = joinL c L.flatten
  | [], _ => rfl
  | [ws], _ => by simp [joinL]
  | ws :: vs :: r, h => by
    have h2 : (vs :: r).flatten ≠ [] := by
      have := h vs (by simp)
      intro z
      rw [List.flatten_cons] at z
      exact this (List.append_eq_nil_iff.mp z).1
    rw [List.map_cons, joinL_cons (by simp), join_flat (fun x hx => h x (List.mem_cons_of_mem _ hx))]
    show _ = joinL c (ws ++ (vs :: r).flatten)
    rw [joinL_app (h ws List.mem_cons_self) h2]
noncomputable def workL (cs : List (Bool × List Nat)) : List Nat := if cs = [] then [46] else joinL 32 (cs.map fun c => chainL c.1 c.2)
noncomputable def allT (cs : List (Bool × List Nat)) : List Tk := cs.flatMap fun c => tks c.1 c.2
theorem workL_tks {cs : List (Bool × List Nat)} (h0 : cs ≠ []) (h : ∀ c ∈ cs, c.2 ≠ []) : workL cs = joinL 32 ((allT cs).map word) := by
  unfold workL allT
  rw [if_neg h0, List.flatMap_def, List.map_flatten, List.map_map]
  show _ = joinL 32 (cs.map fun c => (tks c.1 c.2).map word).flatten
  rw [← join_flat (L := cs.map fun c => (tks c.1 c.2).map word), List.map_map]
  · congr 1
    refine List.map_congr_left fun c hc => ?_
    show chainL c.1 c.2 = joinL 32 ((tks c.1 c.2).map word)
    rw [join_tks (h c hc)]
  · intro ws hw
    obtain ⟨c, hc, rfl⟩ := List.mem_map.mp hw
    intro z
    exact tks_ne (h c hc) (List.map_eq_nil_iff.mp z)
theorem mem_tksT {k : Bool} : ∀ {es : List Nat} {t : Tk}, t ∈ tksT k es → t.e ∈ es
  | [], _, h => by cases h
  | [e], t, h => by
    have := List.mem_singleton.mp h
    subst this
    simp
  | e :: f :: r, t, h => by
    rcases List.mem_cons.mp h with h1 | h1
    · subst h1; simp
    · exact List.mem_cons_of_mem _ (mem_tksT h1)
theorem mem_tks {k : Bool} : ∀ {es : List Nat} {t : Tk}, t ∈ tks k es → t.e ∈ es
  | [], _, h => by cases h
  | [e], t, h => by
    have := List.mem_singleton.mp h
    subst this
    simp
  | e :: f :: r, t, h => by
    rcases List.mem_cons.mp h with h1 | h1
    · subst h1; simp
    · exact List.mem_cons_of_mem _ (mem_tksT h1)
theorem word_no {t : Tk} (h : t.e < 80) : 32 ∉ word t := by
  intro m
  unfold word told at m
  rcases List.mem_append.mp m with m | m
  · split at m
    · have := List.mem_singleton.mp m
      unfold opC at this
      split at this <;> omega
    · cases m
  · rcases List.mem_append.mp m with m | m
    · rcases sw_mem h _ m with z | z <;> omega
    · split at m
      · have := List.mem_singleton.mp m
        unfold clC at this
        split at this <;> omega
      · cases m
theorem words_of {cs : List (Bool × List Nat)} (h0 : cs ≠ []) (h : ∀ c ∈ cs, c.2 ≠ []) (h8 : ∀ c ∈ cs, ∀ e ∈ c.2, e < 80) : splitL 32 (workL cs) = (allT cs).map word := by
  rw [workL_tks h0 h]
  refine split_join ?_ ?_
  · intro z
    have z := List.map_eq_nil_iff.mp z
    unfold allT at z
    match cs, h0, z with
    | c :: r, _, z =>
      rw [List.flatMap_cons] at z
      exact tks_ne (h c List.mem_cons_self) (List.append_eq_nil_iff.mp z).1
  · intro w hw
    obtain ⟨t, ht, rfl⟩ := List.mem_map.mp hw
    obtain ⟨c, hc, htc⟩ := List.mem_flatMap.mp ht
    exact word_no (h8 c hc _ (mem_tks htc))
noncomputable def addL : List (Bool × List Nat) → Nat → List (Bool × List Nat)
  | [], _ => []
  | [p], e => [(p.1, p.2 ++ [e])]
  | p :: q :: r, e => p :: addL (q :: r) e
theorem addL_app (k : Bool) (l : List Nat) (e : Nat) : ∀ acc : List (Bool × List Nat), addL (acc ++ [(k, l)]) e = acc ++ [(k, l ++ [e])]
  | [] => rfl
  | [p] => rfl
  | p :: q :: r => by
    show p :: addL ((q :: r) ++ [(k, l)]) e = _
    rw [addL_app k l e (q :: r)]
    rfl
noncomputable def step (s : List (Bool × List Nat) × Option Bool) (t : Tk) : List (Bool × List Nat) × Option Bool := (if t.o then s.1 ++ [(t.k, [t.e])] else addL s.1 t.e, if t.c then none else some t.k)
noncomputable def Fits1 (s : List (Bool × List Nat) × Option Bool) (t : Tk) : Prop := match s.2 with
  | none => t.o = true
  | some k => t.o = false ∧ t.k = k ∧ s.1 ≠ []
noncomputable def Runs : List (Bool × List Nat) × Option Bool → List Tk → List (Bool × List Nat) → Prop
  | s, [], out => s = (out, none)
  | s, t :: r, out => Fits1 s t ∧ Runs (step s t) r out
theorem runs_T {k : Bool} {rest : List Tk} {out : List (Bool × List Nat)} : ∀ {es : List Nat} {acc : List (Bool × List Nat)} {l : List Nat}, es ≠ [] → Runs (acc ++ [(k, l ++ es)], none) rest out → Runs (acc ++ [(k, l)], some k) (tksT k es ++ rest) out
  | [], _, _, h, _ => absurd rfl h
  | [e], acc, l, _, h => by
    refine ⟨⟨rfl, rfl, by simp⟩, ?_⟩
    show Runs (addL (acc ++ [(k, l)]) e, none) rest out
    rw [addL_app]
    exact h
  | e :: f :: r, acc, l, _, h => by
    refine ⟨⟨rfl, rfl, by simp⟩, ?_⟩
    show Runs (addL (acc ++ [(k, l)]) e, some k) (tksT k (f :: r) ++ rest) out
    rw [addL_app]
    refine runs_T (by simp) ?_
    rw [List.append_assoc]
    exact h
theorem runs_tks {k : Bool} {rest : List Tk} {out : List (Bool × List Nat)} : ∀ {es : List Nat} {acc : List (Bool × List Nat)}, es ≠ [] → Runs (acc ++ [(k, es)], none) rest out → Runs (acc, none) (tks k es ++ rest) out
  | [], _, h, _ => absurd rfl h
  | [e], acc, _, h => ⟨rfl, h⟩
  | e :: f :: r, acc, _, h => by
    refine ⟨rfl, ?_⟩
    show Runs (acc ++ [(k, [e])], some k) (tksT k (f :: r) ++ rest) out
    exact runs_T (by simp) h
theorem runs_all : ∀ {cs acc : List (Bool × List Nat)}, (∀ c ∈ cs, c.2 ≠ []) → Runs (acc, none) (allT cs) (acc ++ cs)
  | [], acc, _ => by
    show (acc, none) = (acc ++ [], none)
    rw [List.append_nil]
  | c :: r, acc, h => by
    show Runs (acc, none) (tks c.1 c.2 ++ allT r) (acc ++ c :: r)
    refine runs_tks (h c List.mem_cons_self) ?_
    have z := runs_all (cs := r) (acc := acc ++ [c]) fun x hx => h x (List.mem_cons_of_mem _ hx)
    rw [List.append_assoc] at z
    exact z
end Sx

namespace Sx
open PySem Builtin Builtin.Str StrLaws L2 Mir
theorem len_tl (z : PySem.Str) : z.length = (tl z).length := rfl
theorem slice_from1 {z : PySem.Str} (h : 1 ≤ z.length) : tl (Txt.slice z (some 1) none) = (tl z).drop 1 := by
  have e : Txt.slice z (some 1) none = _ := sliceText_from (x := z) (i := 1) ⟨by decide, by have : z.cps.toList.length = z.length := rfl; omega⟩
  rw [e]
  show (((tl z).drop 1).take (((tl z).length : Int) - 1).toNat) = _
  exact List.take_of_length_le (by rw [List.length_drop]; omega)
theorem slice_to1 {z : PySem.Str} (h : 1 ≤ z.length) : tl (Txt.slice z none (some 1)) = (tl z).take 1 := by
  have e : Txt.slice z none (some 1) = _ := sliceText_to (x := z) (j := 1) ⟨by decide, by have : z.cps.toList.length = z.length := rfl; omega⟩
  rw [e]
  rfl
theorem slice_tom1 {z : PySem.Str} (h : 1 ≤ z.length) : tl (Txt.slice z none (some (-1))) = (tl z).take ((tl z).length - 1) := by
  have e0 : Txt.slice z none (some (-1)) = sliceText z none (some (-1 + (z.length : Int))) := sliceText_neg_hi z none (j := -1) (by decide) (by omega)
  have e : sliceText z none (some (-1 + (z.length : Int))) = _ := sliceText_to (x := z) (j := -1 + (z.length : Int)) ⟨by omega, by have : z.cps.toList.length = z.length := rfl; omega⟩
  rw [e0, e]
  show ((tl z).drop 0).take (-1 + (z.length : Int) - 0).toNat = _
  rw [List.drop_zero]
  congr 1
  rw [← len_tl]
  omega
theorem starts_one {z : PySem.Str} {c : Nat} (h : 1 ≤ z.length) : Txt.startswith z ⟨#[c]⟩ = decide ((tl z)[0]? = some c) := by
  unfold Txt.startswith
  rw [subAt_one z c 0 (by omega)]
  have e : (⟨#[c]⟩ : PySem.Str).length = 1 := rfl
  rw [e, decide_eq_true (show 0 + 1 ≤ z.length by omega), Bool.true_and]
theorem ends_one {z : PySem.Str} {c : Nat} (h : 1 ≤ z.length) : Txt.endswith z ⟨#[c]⟩ = decide ((tl z)[(tl z).length - 1]? = some c) := by
  unfold Txt.endswith
  have e : (⟨#[c]⟩ : PySem.Str).length = 1 := rfl
  rw [e, subAt_one z c (z.length - 1) (by omega), decide_eq_true (show 0 + 1 ≤ z.length by omega), Bool.true_and]
  rfl
theorem join_tl (ts : List PySem.Str) : tl (Txt.join ⟨#[32]⟩ ts) = joinL 32 (ts.map tl) := by
  show tl (glued ⟨#[32]⟩ ts) = _
  rw [glued_eq_join, tl_join]
theorem fold_le (d m : Nat) : ∀ (ts : List PySem.Str) (i : Nat), (∀ t ∈ ts, t.length ≤ m) → ts.foldl (fun n (t : PySem.Str) => n + t.length + d) i ≤ i + ts.length * (m + d)
  | [], i, _ => by simp
  | t :: r, i, h => by
    have z := fold_le d m r (i + t.length + d) fun x hx => h x (List.mem_cons_of_mem _ hx)
    have y := h t List.mem_cons_self
    rw [List.foldl_cons, List.length_cons, Nat.succ_mul]
    omega
theorem join_ok {ts : List PySem.Str} (h1 : ts.length ≤ 1000) (h2 : ∀ t ∈ ts, t.length ≤ 1000) : JoinOk ⟨#[32]⟩ ts = true := by
  have z := fold_le 1 1000 ts 0 h2
  have y : ts.length * (1000 + 1) ≤ 1000 * 1001 := Nat.mul_le_mul_right _ h1
  unfold JoinOk
  rw [List.foldl_toArray]
  have e : tooLong (ts.foldl (fun n (t : PySem.Str) => n + t.length + (⟨#[32]⟩ : PySem.Str).length) 0) = false := by
    unfold tooLong
    refine decide_eq_false ?_
    show ¬ ts.foldl (fun n (t : PySem.Str) => n + t.length + 1) 0 > 2 ^ 24
    have : (2 : Nat) ^ 24 = 16777216 := by decide
    omega
  rw [e]
  rfl
theorem blank : (" " : PySem.Str) = ⟨#[32]⟩ := by decide +kernel
theorem minus : ("-" : PySem.Str) = ⟨#[45]⟩ := by decide +kernel
noncomputable def opS (k : Bool) : PySem.Str := if k then "[" else "("
noncomputable def clS (k : Bool) : PySem.Str := if k then "]" else ")"
noncomputable def CLO : List (PySem.Str × PySem.Str) := [("[", "]"), ("(", ")")]
theorem at_op (k : Bool) : atS CLO (opS k) = some (clS k) := by cases k <;> decide +kernel
theorem tl_op (k : Bool) : tl (opS k) = [opC k] := by cases k <;> decide +kernel
theorem tl_cl (k : Bool) : tl (clS k) = [clC k] := by cases k <;> decide +kernel
theorem op_one (k : Bool) : opS k = ⟨#[opC k]⟩ := ext (tl_op k)
theorem cl_one (k : Bool) : clS k = ⟨#[clC k]⟩ := ext (tl_cl k)
theorem joinL_len {c m : Nat} : ∀ {ws : List (List Nat)}, (∀ w ∈ ws, w.length ≤ m) → (joinL c ws).length ≤ ws.length * (m + 1)
  | [], _ => Nat.zero_le _
  | [w], h => by
    have := h w List.mem_cons_self
    show w.length ≤ 1 * (m + 1)
    omega
  | w :: v :: r, h => by
    have z := joinL_len (c := c) (ws := v :: r) fun x hx => h x (List.mem_cons_of_mem _ hx)
    have y := h w List.mem_cons_self
    show (w ++ c :: joinL c (v :: r)).length ≤ _
    rw [List.length_append, List.length_cons, List.length_cons (a := w), Nat.succ_mul]
    omega
theorem chainL_len {k : Bool} {es : List Nat} (h : ∀ e ∈ es, e < 80) (hl : es.length ≤ 40) : (chainL k es).length ≤ 170 := by
  have z := joinL_len (c := 32) (m := 3) (ws := es.map sw) fun w hw => by
    obtain ⟨e, he, rfl⟩ := List.mem_map.mp hw
    exact (sw_len (h e he)).2
  rw [List.length_map] at z
  unfold chainL
  rw [List.length_cons, List.length_append]
  have : ([clC k] : List Nat).length = 1 := rfl
  omega
noncomputable def chainsOf (n : Nat) (ms : List Nat) : List (Bool × List Nat) := (Ch.rowsL n (at0 ms)).map (fun r => (true, r)) ++ (Ch.ringsL n (at0 ms)).map (fun r => (false, r))
noncomputable def spWordsOf : Sp := fun vs H Q _ => ∃ (z : PySem.Str), vs = [.str z] ∧ Ascii z ∧ z.length ≤ 10000 ∧ ∀ (l : Addr) (ws : List PySem.Str) (H' : Hp), H l = none → Same H H' → H' l = some (.lst (ws.map V.str)) → ws.map tl = (if tl z = [46] then [] else splitL 32 (tl z)) → Q (.ref l) H'
end Sx
namespace Sx
open PySem Builtin Builtin.Str StrLaws L2 Mir
theorem dot : tl ("." : PySem.Str) = [46] := by decide +kernel
theorem eq_dot {z : PySem.Str} : z = "." ↔ tl z = [46] := ⟨fun h => by rw [h]; exact dot, fun h => ext (by rw [h, dot])⟩
theorem split_len {z : PySem.Str} (h : Ascii z) : (Txt.split z ⟨#[32]⟩).length ≤ z.length + 1 := by
  have e := congrArg List.length (split_tl (c := 32) h (by decide))
  rw [List.length_map] at e
  rw [e]
  exact splitL_len 32 (tl z)
theorem parts_len (z : PySem.Str) : (partsBetween z (occurrences z ⟨#[32]⟩ 0 z.length (z.length + 1)) (⟨#[32]⟩ : PySem.Str).length).length ≤ z.length + 1 := by
  rw [partsBetween_eq]
  have e := congrArg List.length (parts_cuts (occ_cuts z 32) (Nat.zero_le _))
  rw [List.length_map] at e
  show (partsFrom z 1 0 _).length ≤ _
  rw [e]
  exact splitL_len 32 _
noncomputable def FIG : PySem.Str := "0123456789"
theorem is_num {z : PySem.Str} {m : Nat} (h : tl z = dg m) : z = PySem.Str.ofString (toString ((m : Nat) : Int)) := ext (by rw [h, tl_num])
theorem ascii_of {z : PySem.Str} (h : ∀ c ∈ tl z, c < 128) : Ascii z := by
  show z.cps.all (· < 128) = true
  rw [← Array.all_toList, List.all_eq_true]
  exact fun c hc => decide_eq_true (h c hc)
end Sx
namespace L2
theorem bb_all : PySem.bootBuiltins "all" = some (.builtin "all") := by decide +kernel
theorem bb_str : PySem.bootBuiltins "str" = some (.type "str") := by decide +kernel
theorem iteD {c A B : Prop} [Decidable c] (hc : ¬ c) (h : B) : if decide c = true then A else B := by
  rw [if_neg (fun z => hc (of_decide_eq_true z))]
  exact h
theorem iteE {c A B : Prop} [Decidable c] (hc : c) (h : A) : if decide c = true then A else B := by
  rw [if_pos (decide_eq_true hc)]
  exact h
end L2

namespace Sx
open PySem L2 Mir
noncomputable def RCt (H : Hp) (t : Addr) (x : Addr × Bool × List Nat) : Prop := H t = some (.tup [.str (opS x.2.1), .ref x.1]) ∧ H x.1 = some (.lst (nV x.2.2))
structure RC (H1 H : Hp) (p : Addr) (ts : List Addr) (xs : List (Addr × Bool × List Nat)) : Prop where
  lst : H p = some (.lst (refs ts))
  all : All2 (RCt H) ts xs
  nd : (p :: xs.map (·.1)).Nodup
  fresh : ∀ b ∈ xs.map (·.1), H1 b = none
  same : ∀ a o, a ≠ p → H1 a = some o → H a = some o
theorem RC.keep {H1 H H' : Hp} {p : Addr} {ts : List Addr} {xs : List (Addr × Bool × List Nat)} (r : RC H1 H p ts xs) (s : Same H H') : RC H1 H' p ts xs :=
  ⟨s _ _ r.lst, r.all.imp fun t x h => ⟨s _ _ h.1, s _ _ h.2⟩, r.nd, r.fresh, fun a o h1 h2 => s _ _ (r.same a o h1 h2)⟩
theorem all2_imp {α β : Type} {R S : α → β → Prop} {as : List α} {bs : List β} (h : All2 R as bs) (f : ∀ a b, b ∈ bs → R a b → S a b) : All2 S as bs := by
  induction h with
  | nil => exact .nil
  | cons h t ih => exact .cons (f _ _ List.mem_cons_self h) (ih fun a b hb => f a b (List.mem_cons_of_mem _ hb))
theorem all2_last {α β : Type} {R : α → β → Prop} : ∀ {as : List α} {bs : List β} {a : α} {b : β}, All2 R (as ++ [a]) (bs ++ [b]) → All2 R as bs ∧ R a b
  | [], [], _, _, .cons h _ => ⟨.nil, h⟩
  | [], b' :: bs, a, b, h => by have := h.len; simp at this
  | a' :: as, [], a, b, h => by have := h.len; simp at this
  | a' :: as, b' :: bs, a, b, .cons h t => by
    obtain ⟨h1, h2⟩ := all2_last t
    exact ⟨.cons h h1, h2⟩
theorem RC.ne {H1 H : Hp} {p : Addr} {ts : List Addr} {xs : List (Addr × Bool × List Nat)} (r : RC H1 H p ts xs) {x : Addr × Bool × List Nat} (h : x ∈ xs) : x.1 ≠ p := fun e =>
  (List.nodup_cons.mp r.nd).1 (e ▸ List.mem_map_of_mem h)
theorem RC.tne {H1 H : Hp} {p : Addr} {ts : List Addr} {xs : List (Addr × Bool × List Nat)} (r : RC H1 H p ts xs) {u : Addr} {vs : List V} (h : H u = some (.tup vs)) : u ≠ p := ne_of h r.lst (by intro z; cases z)
theorem RC.push {H1 H : Hp} {p t l : Addr} {k : Bool} {ts : List Addr} {xs : List (Addr × Bool × List Nat)} (r : RC H1 H p ts xs) (ht : H t = some (.tup [.str (opS k), .ref l])) (hl : H l = some (.lst [])) (hp : l ≠ p) (hn : l ∉ xs.map (·.1)) (h1 : H1 l = none) :
    RC H1 (upd H p (.lst (refs ts ++ [.ref t]))) p (ts ++ [t]) (xs ++ [(l, k, [])]) := by
  refine ⟨by rw [upd_same, refs_snoc], All2.snoc (all2_imp r.all fun u x hx h => ⟨by rw [upd_ne (r.tne h.1)]; exact h.1, by rw [upd_ne (r.ne hx)]; exact h.2⟩) ⟨by rw [upd_ne (r.tne ht)]; exact ht, by rw [upd_ne hp]; exact hl⟩, ?_, ?_, ?_⟩
  · rw [List.map_append]
    show ((p :: xs.map (·.1)) ++ [l]).Nodup
    rw [List.nodup_append]
    refine ⟨r.nd, by simp, fun a ha b hb => ?_⟩
    have e : b = l := by simpa using hb
    subst e
    rcases List.mem_cons.mp ha with e | ha
    · rw [e]; exact hp.symm
    · exact fun e => hn (e ▸ ha)
  · intro b hb
    rw [List.map_append] at hb
    rcases List.mem_append.mp hb with hb | hb
    · exact r.fresh b hb
    · have e : b = l := by simpa using hb
      rw [e]
      exact h1
  · intro a o h2 h3
    rw [upd_ne h2]
    exact r.same a o h2 h3
theorem RC.add {H1 H : Hp} {p t b : Addr} {k : Bool} {l : List Nat} {e : Nat} {ts : List Addr} {xs : List (Addr × Bool × List Nat)} (r : RC H1 H p (ts ++ [t]) (xs ++ [(b, k, l)])) :
    RC H1 (upd H b (.lst (nV l ++ [.int e]))) p (ts ++ [t]) (xs ++ [(b, k, l ++ [e])]) := by
  obtain ⟨r1, r2⟩ := all2_last r.all
  have bp : b ≠ p := r.ne (x := (b, k, l)) (by simp)
  have tb : ∀ {u : Addr} {vs : List V}, H u = some (.tup vs) → u ≠ b := fun h => ne_of h r2.2 (by intro z; cases z)
  have nd := r.nd
  rw [List.map_append] at nd
  have nd2 : ((p :: xs.map (·.1)) ++ [b]).Nodup := nd
  rw [List.nodup_append] at nd2
  refine ⟨by rw [upd_ne bp.symm]; exact r.lst, All2.snoc (all2_imp r1 fun u x hx h => ⟨by rw [upd_ne (tb h.1)]; exact h.1, ?_⟩) ⟨by rw [upd_ne (tb r2.1)]; exact r2.1, by rw [upd_same, nV_snoc]⟩, ?_, ?_, ?_⟩
  · rw [upd_ne (nd2.2.2 x.1 (List.mem_cons_of_mem _ (List.mem_map_of_mem hx)) b (by simp))]
    exact h.2
  · rw [List.map_append]
    exact nd
  · have f := r.fresh
    rw [List.map_append] at f ⊢
    exact f
  · intro a o h2 h3
    have : a ≠ b := fun e => by
      have z := r.fresh b (by rw [List.map_append]; simp)
      rw [← e, h3] at z
      cases z
    rw [upd_ne this]
    exact r.same a o h2 h3
theorem all2_memR {α β : Type} {R : α → β → Prop} {as : List α} {bs : List β} (h : All2 R as bs) : ∀ b ∈ bs, ∃ a, R a b := by
  induction h with
  | nil => intro b hb; cases hb
  | cons h t ih =>
    intro b hb
    rcases List.mem_cons.mp hb with e | hb
    · exact ⟨_, e ▸ h⟩
    · exact ih b hb
theorem RC.new {H1 H : Hp} {p l : Addr} {ts : List Addr} {xs : List (Addr × Bool × List Nat)} (r : RC H1 H p ts xs) (hl : H l = none) : l ≠ p ∧ l ∉ xs.map (·.1) ∧ H1 l = none := by
  have lp : l ≠ p := fun e => by rw [e, r.lst] at hl; cases hl
  refine ⟨lp, fun m => ?_, ?_⟩
  · obtain ⟨x, hx, e⟩ := List.mem_map.mp m
    obtain ⟨t, h⟩ := all2_memR r.all x hx
    have h2 := h.2
    rw [e, hl] at h2
    cases h2
  · cases e : H1 l with
    | none => rfl
    | some o =>
      have := r.same l o lp e
      rw [hl] at this
      cases this
theorem RC.split {H1 H : Hp} {p : Addr} {ts : List Addr} {xs : List (Addr × Bool × List Nat)} (r : RC H1 H p ts xs) (h : xs ≠ []) : ∃ ts' t xs' b k l, ts = ts' ++ [t] ∧ xs = xs' ++ [(b, k, l)] := by
  have hl := r.all.len
  have ht : ts ≠ [] := fun e => by rw [e] at hl; exact h (List.eq_nil_of_length_eq_zero hl.symm)
  refine ⟨ts.dropLast, ts.getLast ht, xs.dropLast, (xs.getLast h).1, (xs.getLast h).2.1, (xs.getLast h).2.2, (List.dropLast_concat_getLast ht).symm, (List.dropLast_concat_getLast h).symm⟩
noncomputable def brS : Option Bool → PySem.Str
  | none => ""
  | some k => opS k
theorem op_ne (k : Bool) : opS k ≠ "" := by cases k <;> decide +kernel
noncomputable def wordsL (z : PySem.Str) : List (List Nat) := if tl z = [46] then [] else splitL 32 (tl z)
end Sx
namespace Sx
open PySem L2 Mir
noncomputable def sel (k : Bool) (out : List (Bool × List Nat)) : List (List Nat) := (out.filter fun c => c.1 == k).map (·.2)
noncomputable def selX (k : Bool) (xs : List (Addr × Bool × List Nat)) : List (Addr × Bool × List Nat) := xs.filter fun x => x.2.1 == k
theorem sel_map (k : Bool) (xs : List (Addr × Bool × List Nat)) : sel k (xs.map (·.2)) = (selX k xs).map (·.2.2) := by
  unfold sel selX
  rw [List.filter_map, List.map_map]
  rfl
theorem sel_ch {H : Hp} {D p : Addr} {k : Bool} {ts : List Addr} {xs : List (Addr × Bool × List Nat)} (h : All2 (RCt H) ts xs) (hD : H D = some (.lst (refs ((selX k xs).map (·.1))))) : ChT H D ((selX k xs).map (·.1)) ((sel k (xs.map (·.2))).map Mt.up) := by
  refine ⟨hD, ?_⟩
  rw [sel_map, List.map_map]
  have m : ∀ x ∈ selX k xs, H x.1 = some (.lst (nV x.2.2)) := fun x hx => by
    obtain ⟨t, r⟩ := all2_memR h x (List.mem_filter.mp hx).1
    exact r.2
  clear hD
  generalize selX k xs = ys at m ⊢
  induction ys with
  | nil => exact .nil
  | cons y r ih => exact .cons (.inl (by show H y.1 = some (.lst (iV (Mt.up y.2.2))); rw [← nV_up]; exact m y List.mem_cons_self)) (ih fun x hx => m x (List.mem_cons_of_mem _ hx))
theorem selX_snoc {k : Bool} {xs : List (Addr × Bool × List Nat)} {i : Nat} {y : Addr × Bool × List Nat} (h : xs[i]? = some y) : selX k (xs.take (i + 1)) = selX k (xs.take i) ++ (if y.2.1 == k then [y] else []) := by
  unfold selX
  rw [take_snoc h, List.filter_append, List.filter_cons, List.filter_nil]
end Sx

namespace Sx
open PySem L2 Mir
theorem chains_ok {n : Nat} {ms : List Nat} {rows rings : List (List Nat)} (W : WorkL n ms) (D : Mt.Deco n (at0 ms) rows rings) : (∀ r ∈ rows ++ rings, r ≠ [] ∧ r.length ≤ 40 ∧ ∀ e ∈ r, e < 80) ∧ rows.length + rings.length ≤ 40 := by
  have hn := W.small
  refine ⟨fun r hr => ⟨fun z => ?_, ?_, fun e he => ?_⟩, ?_⟩
  · have y := (D.ch hr).ne
    rw [z] at y
    exact absurd y (by decide)
  · have z := flatten_le hr
    rw [deco_len D] at z
    omega
  · have z := D.lt (e / 2) (List.mem_flatMap.mpr ⟨r, hr, Mt.mem_half.mpr ⟨e, he, rfl⟩⟩)
    omega
  · have z := (deco_bounds hn D).2
    rw [List.length_append, List.length_map, List.length_map] at z
    exact z
noncomputable def chs (rows rings : List (List Nat)) : List (Bool × List Nat) := rows.map (fun r => (true, r)) ++ rings.map (fun r => (false, r))
theorem chs_sel (rows rings : List (List Nat)) : sel true (chs rows rings) = rows ∧ sel false (chs rows rings) = rings := by
  unfold sel chs
  constructor
  · rw [List.filter_append, List.map_append]
    have e1 : (rows.map (fun r => (true, r))).filter (fun c => c.1 == true) = rows.map (fun r => (true, r)) := List.filter_eq_self.mpr fun c hc => by obtain ⟨r, _, rfl⟩ := List.mem_map.mp hc; rfl
    have e2 : (rings.map (fun r => (false, r))).filter (fun c => c.1 == true) = [] := List.filter_eq_nil_iff.mpr fun c hc => by obtain ⟨r, _, rfl⟩ := List.mem_map.mp hc; simp
    rw [e1, e2, List.map_map]
    simp [Function.comp_def]
  · rw [List.filter_append, List.map_append]
    have e1 : (rows.map (fun r => (true, r))).filter (fun c => c.1 == false) = [] := List.filter_eq_nil_iff.mpr fun c hc => by obtain ⟨r, _, rfl⟩ := List.mem_map.mp hc; simp
    have e2 : (rings.map (fun r => (false, r))).filter (fun c => c.1 == false) = rings.map (fun r => (false, r)) := List.filter_eq_self.mpr fun c hc => by obtain ⟨r, _, rfl⟩ := List.mem_map.mp hc; rfl
    rw [e1, e2, List.map_map]
    simp [Function.comp_def]
theorem chs_snd (rows rings : List (List Nat)) : (chs rows rings).map (·.2) = rows ++ rings := by
  unfold chs
  rw [List.map_append, List.map_map, List.map_map]
  simp [Function.comp_def]
theorem mem_joinL {s c : Nat} : ∀ {ws : List (List Nat)}, c ∈ joinL s ws → c = s ∨ ∃ w ∈ ws, c ∈ w
  | [], h => by cases h
  | [w], h => .inr ⟨w, List.mem_cons_self, h⟩
  | w :: v :: r, h => by
    rcases List.mem_append.mp (show c ∈ w ++ s :: joinL s (v :: r) from h) with h | h
    · exact .inr ⟨w, List.mem_cons_self, h⟩
    · rcases List.mem_cons.mp h with h | h
      · exact .inl h
      · rcases mem_joinL h with h | ⟨x, hx, h⟩
        · exact .inl h
        · exact .inr ⟨x, List.mem_cons_of_mem _ hx, h⟩
theorem chainL_low {k : Bool} {es : List Nat} (h : ∀ e ∈ es, e < 80) : ∀ c ∈ chainL k es, c < 128 := by
  intro c hc
  unfold chainL at hc
  rcases List.mem_cons.mp hc with e | hc
  · rw [e]; unfold opC; split <;> omega
  · rcases List.mem_append.mp hc with hc | hc
    · rcases mem_joinL hc with e | ⟨w, hw, hc⟩
      · omega
      · obtain ⟨e, he, rfl⟩ := List.mem_map.mp hw
        rcases sw_mem (h e he) c hc with z | z <;> omega
    · have e : c = clC k := by simpa using hc
      rw [e]; unfold clC; split <;> omega
theorem text_reads {cs : List (Bool × List Nat)} {z : PySem.Str} (hz : tl z = workL cs) (hc : ∀ c ∈ cs, c.2 ≠ [] ∧ c.2.length ≤ 40 ∧ ∀ e ∈ c.2, e < 80) (hn : cs.length ≤ 40) :
    Ascii z ∧ z.length ≤ 10000 ∧ wordsL z = (allT cs).map word ∧ (∀ t ∈ allT cs, t.e < 80) ∧ Runs ([], none) (allT cs) cs := by
  refine ⟨ascii_of fun c h => ?_, ?_, ?_, fun t ht => ?_, ?_⟩
  · rw [hz] at h
    unfold workL at h
    split at h
    · have e : c = 46 := by simpa using h
      omega
    · rcases mem_joinL h with e | ⟨w, hw, h⟩
      · omega
      · obtain ⟨x, hx, rfl⟩ := List.mem_map.mp hw
        exact chainL_low (hc x hx).2.2 c h
  · rw [len_tl, hz]
    unfold workL
    split
    · decide
    · have y := joinL_len (c := 32) (m := 170) (ws := cs.map fun c => chainL c.1 c.2) fun w hw => by
        obtain ⟨x, hx, rfl⟩ := List.mem_map.mp hw
        exact chainL_len (hc x hx).2.2 (hc x hx).2.1
      rw [List.length_map] at y
      have : cs.length * (170 + 1) ≤ 40 * 171 := Nat.mul_le_mul_right _ hn
      omega
  · unfold wordsL
    by_cases h0 : cs = []
    · subst h0
      rw [hz, show workL [] = [46] from rfl, if_pos rfl]
      rfl
    · have hne : workL cs ≠ [46] := by
        unfold workL
        rw [if_neg h0]
        match cs, h0 with
        | [c], _ =>
          intro e
          have e : opC c.1 :: (joinL 32 (c.2.map sw) ++ [clC c.1]) = [46] := e
          injection e with e _
          unfold opC at e
          split at e <;> omega
        | c :: d :: r, _ =>
          intro e
          have e : opC c.1 :: ((joinL 32 (c.2.map sw) ++ [clC c.1]) ++ 32 :: joinL 32 ((d :: r).map fun c => chainL c.1 c.2)) = [46] := e
          injection e with e _
          unfold opC at e
          split at e <;> omega
      rw [hz, if_neg hne, words_of h0 (fun c h => (hc c h).1) fun c h => (hc c h).2.2]
  · obtain ⟨c, hcc, htc⟩ := List.mem_flatMap.mp ht
    exact (hc c hcc).2.2 _ (mem_tks htc)
  · have y := runs_all (cs := cs) (acc := []) fun c h => (hc c h).1
    exact y
end Sx
namespace Sx
open PySem L2 Mir
theorem chains_nil {n : Nat} {ms : List Nat} (W : WorkL n ms) : (Mt.up ms = []) ↔ chainsOf n ms = [] := by
  have DO := Mt.deco_own W.wk
  obtain ⟨ok1, _⟩ := chains_ok W DO
  have hl := deco_len DO
  have e0 : Mt.up ms = [] ↔ n = 0 := by
    have z := Mt.up_len ms
    rw [W.len] at z
    constructor
    · intro h
      rw [h] at z
      simp at z
      omega
    · intro h
      exact List.eq_nil_of_length_eq_zero (by omega)
  rw [e0]
  have ec : chainsOf n ms = chs (Ch.rowsL n (at0 ms)) (Ch.ringsL n (at0 ms)) := rfl
  rw [ec, ← List.map_eq_nil_iff (f := fun c : Bool × List Nat => c.2), chs_snd]
  constructor
  · intro h
    rw [h] at hl
    cases e : Ch.rowsL n (at0 ms) ++ Ch.ringsL n (at0 ms) with
    | nil => rfl
    | cons r q =>
      have y := (ok1 r (by rw [e]; exact List.mem_cons_self)).1
      rw [h] at e
      rw [e, List.flatten_cons, List.length_append] at hl
      exact absurd (List.eq_nil_of_length_eq_zero (by omega)) y
  · intro h
    rw [h] at hl
    exact hl.symm
end Sx

namespace Sx
open PySem Builtin Builtin.Str StrLaws L2 Mir
theorem dg100 : ∀ m : Nat, m < 100 → (∀ c ∈ dg m, 48 ≤ c ∧ c ≤ 57) ∧ dg m ≠ [] ∧ (dg m).length ≤ 2 ∧ ((dg m).head? = some 48 → dg m = [48]) := by decide +kernel
theorem dg_one : ∀ d : Nat, d < 10 → dg d = [48 + d] := by decide +kernel
theorem dg_two : ∀ a : Nat, a < 10 → ∀ b : Nat, b < 10 → 1 ≤ a → dg (10 * a + b) = [48 + a, 48 + b] := by decide +kernel
theorem num_of {l : List Nat} (h1 : l ≠ []) (h2 : ∀ c ∈ l, 48 ≤ c ∧ c ≤ 57) (h3 : l.head? = some 48 → l = [48]) (h4 : l.length ≤ 2) : ∃ m, m < 100 ∧ l = dg m := by
  match l, h1, h2, h3, h4 with
  | [c], _, h2, _, _ =>
    have := h2 c List.mem_cons_self
    refine ⟨c - 48, by omega, ?_⟩
    rw [dg_one (c - 48) (by omega), show 48 + (c - 48) = c by omega]
  | [c, d], _, h2, h3, _ =>
    have hc := h2 c List.mem_cons_self
    have hd := h2 d (List.mem_cons_of_mem _ List.mem_cons_self)
    have nz : c ≠ 48 := fun e => by have := h3 (congrArg some e); cases this
    refine ⟨10 * (c - 48) + (d - 48), by omega, ?_⟩
    rw [dg_two (c - 48) (by omega) (d - 48) (by omega) (by omega), show 48 + (c - 48) = c by omega, show 48 + (d - 48) = d by omega]
theorem fig_at : ∀ c : Nat, c < 128 → (!(occurrences FIG ⟨#[c]⟩ 0 FIG.length 1).isEmpty) = decide (48 ≤ c ∧ c ≤ 57) := by decide +kernel
theorem splitL_ne (c : Nat) : ∀ l : List Nat, splitL c l ≠ []
  | [] => by simp [splitL]
  | a :: r => by
    unfold splitL
    split
    · simp
    · split <;> simp
end Sx

namespace Sx
noncomputable def rdM (b : Nat) (l : List Nat) : Option Nat := (List.range b).find? fun m => decide (dg m = l)
theorem rdM_of {b : Nat} {l : List Nat} {m : Nat} (h : rdM b l = some m) : m < b ∧ dg m = l := ⟨List.mem_range.mp (List.mem_of_find?_eq_some h), of_decide_eq_true (p := dg m = l) (List.find?_some (p := fun m => decide (dg m = l)) h)⟩
theorem rdM_100 : ∀ m : Nat, m < 100 → rdM 100 (dg m) = some m := by decide +kernel
theorem rdM_40 : ∀ m : Nat, m < 40 → rdM 40 (dg m) = some m := by decide +kernel
noncomputable def rdS (b : Nat) (w : List Nat) : Option Nat := if w.head? = some 45 then (rdM b w.tail).map fun m => 2 * m + 1 else (rdM b w).map fun m => 2 * m
theorem rdS_up {w : List Nat} {e : Nat} (h : rdS 40 w = some e) : rdS 100 w = some e ∧ e < 80 := by
  unfold rdS at *
  split at h
  · obtain ⟨m, h1, h2⟩ := Option.map_eq_some_iff.mp h
    obtain ⟨q1, q2⟩ := rdM_of h1
    rename_i c
    rw [if_pos c, ← q2, rdM_100 m (by omega)]
    exact ⟨congrArg some h2, by omega⟩
  · obtain ⟨m, h1, h2⟩ := Option.map_eq_some_iff.mp h
    obtain ⟨q1, q2⟩ := rdM_of h1
    rename_i c
    rw [if_neg c, ← q2, rdM_100 m (by omega)]
    exact ⟨congrArg some h2, by omega⟩
theorem rdS_dn {w : List Nat} {e : Nat} (h : rdS 100 w = some e) (he : e < 80) : rdS 40 w = some e := by
  unfold rdS at *
  split at h
  · obtain ⟨m, h1, h2⟩ := Option.map_eq_some_iff.mp h
    obtain ⟨q1, q2⟩ := rdM_of h1
    rename_i c
    rw [if_pos c, ← q2, rdM_40 m (by omega)]
    exact congrArg some h2
  · obtain ⟨m, h1, h2⟩ := Option.map_eq_some_iff.mp h
    obtain ⟨q1, q2⟩ := rdM_of h1
    rename_i c
    rw [if_neg c, ← q2, rdM_40 m (by omega)]
    exact congrArg some h2
theorem rdS_lt {b : Nat} {w : List Nat} {e : Nat} (h : rdS b w = some e) : e < 2 * b := by
  unfold rdS at h
  split at h
  all_goals
    obtain ⟨m, h1, h2⟩ := Option.map_eq_some_iff.mp h
    have := (rdM_of h1).1
    omega
noncomputable abbrev Chs := List (Bool × List Nat)
noncomputable def isCl (k : Bool) (told : List Nat) : Bool := decide (told.getLast? = some (clC k))
noncomputable def go (b : Nat) (k : Bool) (acc : Chs) (told : List Nat) : Option (Chs × Option Bool) := (rdS b (if isCl k told then told.dropLast else told)).map fun e => (addL acc e, if isCl k told then none else some k)
noncomputable def stp (b : Nat) (s : Chs × Option Bool) (w : List Nat) : Option (Chs × Option Bool) := match s.2 with
  | none => if w.head? = some 91 then go b true (s.1 ++ [(true, [])]) w.tail else if w.head? = some 40 then go b false (s.1 ++ [(false, [])]) w.tail else none
  | some k => go b k s.1 w
noncomputable def rdC (b : Nat) (s : Chs × Option Bool) : List (List Nat) → Option Chs
  | [] => if s.2 = none then some s.1 else none
  | w :: ws => (stp b s w).bind fun s' => rdC b s' ws
structure Snd (s : Chs × Option Bool) : Prop where
  ne : ∀ c ∈ s.1, c.2 ≠ []
  kd : ∀ k, s.2 = some k → ∃ A l, s.1 = A ++ [(k, l)]
noncomputable def endsO (out : Chs) : List Nat := (out.map (·.2)).flatten
theorem addL_ends (k : Bool) (l : List Nat) (e : Nat) (A : Chs) : endsO (addL (A ++ [(k, l)]) e) = endsO (A ++ [(k, l)]) ++ [e] := by
  rw [addL_app]
  unfold endsO
  simp
theorem go_snd {b : Nat} {k : Bool} {A : Chs} {l told : List Nat} {s' : Chs × Option Bool} (hA : ∀ c ∈ A, c.2 ≠ []) (h : go b k (A ++ [(k, l)]) told = some s') : ∃ e, rdS b (if isCl k told then told.dropLast else told) = some e ∧ s' = (A ++ [(k, l ++ [e])], if isCl k told then none else some k) ∧ Snd s' ∧ endsO s'.1 = endsO (A ++ [(k, l)]) ++ [e] ∧ s'.1.length = A.length + 1 := by
  unfold go at h
  obtain ⟨e, h1, h2⟩ := Option.map_eq_some_iff.mp h
  rw [addL_app] at h2
  refine ⟨e, h1, h2.symm, ?_, ?_, ?_⟩
  · rw [← h2]
    refine ⟨fun c hc => ?_, fun k' hk => ?_⟩
    · rcases List.mem_append.mp hc with q | q
      · exact hA c q
      · rw [List.mem_singleton.mp q]
        simp
    · refine ⟨A, l ++ [e], ?_⟩
      have hk : (if isCl k told then none else some k) = some k' := hk
      split at hk
      · cases hk
      · cases hk; rfl
  · rw [← h2, ← addL_app, addL_ends]
  · rw [← h2]
    simp
theorem stp_snd {b : Nat} {s s' : Chs × Option Bool} {w : List Nat} (S : Snd s) (h : stp b s w = some s') : Snd s' ∧ (∃ e, e < 2 * b ∧ endsO s'.1 = endsO s.1 ++ [e]) ∧ s'.1.length ≤ s.1.length + 1 := by
  unfold stp at h
  split at h
  · rename_i hn
    split at h
    · obtain ⟨e, q1, q2, q3, q4, q5⟩ := go_snd S.ne h
      refine ⟨q3, ⟨e, rdS_lt q1, ?_⟩, by omega⟩
      rw [q4]
      unfold endsO
      simp
    · split at h
      · obtain ⟨e, q1, q2, q3, q4, q5⟩ := go_snd S.ne h
        refine ⟨q3, ⟨e, rdS_lt q1, ?_⟩, by omega⟩
        rw [q4]
        unfold endsO
        simp
      · cases h
  · rename_i k hk
    obtain ⟨A, l, e0⟩ := S.kd k hk
    rw [e0] at h
    obtain ⟨e, q1, q2, q3, q4, q5⟩ := go_snd (fun c hc => S.ne c (by rw [e0]; exact List.mem_append_left _ hc)) h
    refine ⟨q3, ⟨e, rdS_lt q1, ?_⟩, ?_⟩
    · rw [q4, e0]
    · rw [q5, e0, List.length_append]
      simp
theorem rdC_snd {b : Nat} : ∀ {ws : List (List Nat)} {s : Chs × Option Bool} {out : Chs}, Snd s → rdC b s ws = some out → (∀ c ∈ out, c.2 ≠ []) ∧ (∀ e ∈ endsO s.1, e ∈ endsO out) ∧ (endsO out).length = (endsO s.1).length + ws.length ∧ out.length ≤ s.1.length + ws.length
  | [], s, out, S, h => by
    unfold rdC at h
    split at h
    · cases h
      exact ⟨S.ne, fun e he => he, rfl, Nat.le_refl _⟩
    · cases h
  | w :: ws, s, out, S, h => by
    unfold rdC at h
    obtain ⟨s', h1, h2⟩ := Option.bind_eq_some_iff.mp h
    obtain ⟨S', ⟨e, _, he⟩, hl⟩ := stp_snd S h1
    obtain ⟨i1, i2, i3, i4⟩ := rdC_snd S' h2
    refine ⟨i1, fun x hx => i2 x (by rw [he]; exact List.mem_append_left _ hx), ?_, ?_⟩
    · rw [i3, he, List.length_append]
      show _ + 1 + _ = _ + (_ + 1)
      omega
    · rw [List.length_cons]
      omega
theorem stp_up {s s' : Chs × Option Bool} {w : List Nat} (h : stp 40 s w = some s') : stp 100 s w = some s' := by
  have g : ∀ {k : Bool} {acc : Chs} {told : List Nat}, go 40 k acc told = some s' → go 100 k acc told = some s' := fun {k acc told} h => by
    unfold go at *
    obtain ⟨e, h1, h2⟩ := Option.map_eq_some_iff.mp h
    rw [(rdS_up h1).1]
    exact congrArg some h2
  unfold stp at *
  split at h
  · split at h
    · rename_i c; rw [if_pos c]; exact g h
    · rename_i c
      rw [if_neg c]
      split at h
      · rename_i c; rw [if_pos c]; exact g h
      · cases h
  · exact g h
theorem rdC_up : ∀ {ws : List (List Nat)} {s : Chs × Option Bool} {out : Chs}, rdC 40 s ws = some out → rdC 100 s ws = some out
  | [], _, _, h => h
  | w :: ws, s, out, h => by
    unfold rdC at h
    obtain ⟨s', h1, h2⟩ := Option.bind_eq_some_iff.mp h
    unfold rdC
    rw [stp_up h1]
    exact rdC_up h2
theorem stp_dn {s s' : Chs × Option Bool} {w : List Nat} (S : Snd s) (h : stp 100 s w = some s') (h8 : ∀ e ∈ endsO s'.1, e < 80) : stp 40 s w = some s' := by
  have g : ∀ {k : Bool} {A : Chs} {l told : List Nat}, (∀ c ∈ A, c.2 ≠ []) → go 100 k (A ++ [(k, l)]) told = some s' → go 40 k (A ++ [(k, l)]) told = some s' := fun {k A l told} hA h => by
    obtain ⟨e, q1, q2, q3, q4, q5⟩ := go_snd hA h
    have he : e < 80 := h8 e (by rw [q4]; exact List.mem_append_right _ List.mem_cons_self)
    unfold go
    rw [rdS_dn q1 he, q2, ← addL_app]
    rfl
  unfold stp at *
  split at h
  · split at h
    · rename_i c; rw [if_pos c]; exact g S.ne h
    · rename_i c
      rw [if_neg c]
      split at h
      · rename_i c; rw [if_pos c]; exact g S.ne h
      · cases h
  · rename_i k hk
    obtain ⟨A, l, e0⟩ := S.kd k hk
    rw [e0] at h ⊢
    exact g (fun c hc => S.ne c (by rw [e0]; exact List.mem_append_left _ hc)) h
theorem rdC_dn : ∀ {ws : List (List Nat)} {s : Chs × Option Bool} {out : Chs}, Snd s → rdC 100 s ws = some out → (∀ e ∈ endsO out, e < 80) → rdC 40 s ws = some out
  | [], _, _, _, h, _ => h
  | w :: ws, s, out, S, h, h8 => by
    unfold rdC at h
    obtain ⟨s', h1, h2⟩ := Option.bind_eq_some_iff.mp h
    have S' := (stp_snd S h1).1
    unfold rdC
    rw [stp_dn S h1 fun e he => h8 e ((rdC_snd S' h2).2.1 e he)]
    exact rdC_dn S' h2 h8
theorem snd0 : Snd (([], none) : Chs × Option Bool) := ⟨fun c hc => (by cases hc), fun k hk => (by cases hk)⟩
end Sx

namespace Mt
open Ch Mir
noncomputable def inN : List Nat → List (Nat × Nat)
  | x :: y :: r => (far x, y) :: inN (y :: r)
  | _ => []
noncomputable def lastN (xs : List Nat) : Nat := xs.getLastD 0
noncomputable def prC (c : Bool × List Nat) : List (Nat × Nat) := (if c.1 then [] else [(far (lastN c.2), c.2.headD 0)]) ++ inN c.2
noncomputable def flN (ps : List (Nat × Nat)) : List Nat := ps.flatMap fun p => [p.1, p.2]
noncomputable def enN (xs : List Nat) : List Nat := xs.flatMap fun x => [x, far x]
theorem flN_app (ps qs : List (Nat × Nat)) : flN (ps ++ qs) = flN ps ++ flN qs := by unfold flN; rw [List.flatMap_append]
theorem enN_app (xs ys : List Nat) : enN (xs ++ ys) = enN xs ++ enN ys := by unfold enN; rw [List.flatMap_append]
theorem enN_eq : ∀ (x : Nat) (r : List Nat), enN (x :: r) = x :: (flN (inN (x :: r)) ++ [far (lastN (x :: r))])
  | x, [] => rfl
  | x, y :: r => by
    have ih := enN_eq y r
    have e1 : enN (x :: y :: r) = x :: far x :: enN (y :: r) := rfl
    have e2 : flN (inN (x :: y :: r)) = far x :: y :: flN (inN (y :: r)) := rfl
    have e3 : lastN (x :: y :: r) = lastN (y :: r) := by unfold lastN; simp
    rw [e1, ih, e2, e3]
    rfl
theorem mem_flN {ps : List (Nat × Nat)} {e : Nat} : e ∈ flN ps ↔ ∃ p ∈ ps, e = p.1 ∨ e = p.2 := by
  unfold flN
  rw [List.mem_flatMap]
  simp
theorem mem_enN {xs : List Nat} {e : Nat} : e ∈ enN xs ↔ ∃ x ∈ xs, e = x ∨ e = far x := by
  unfold enN
  rw [List.mem_flatMap]
  simp
theorem prC_ok {k : Bool} {es : List Nat} (h : es ≠ []) (nd : (enN es).Nodup) : (flN (prC (k, es))).Nodup ∧ (∀ e ∈ flN (prC (k, es)), e ∈ enN es) ∧ (k = true → es.headD 0 ∉ flN (prC (k, es)) ∧ far (lastN es) ∉ flN (prC (k, es))) := by
  cases es with
  | nil => exact absurd rfl h
  | cons x r =>
    rw [enN_eq] at nd ⊢
    obtain ⟨n1, n2⟩ := List.nodup_cons.mp nd
    obtain ⟨m1, m2, m3⟩ := List.nodup_append.mp n2
    have x1 : x ∉ flN (inN (x :: r)) := fun z => n1 (List.mem_append_left _ z)
    have x2 : far (lastN (x :: r)) ∉ flN (inN (x :: r)) := fun z => m3 _ z _ List.mem_cons_self rfl
    have x3 : x ≠ far (lastN (x :: r)) := fun z => n1 (List.mem_append_right _ (List.mem_singleton.mpr z))
    cases k with
    | true =>
      have e : flN (prC (true, x :: r)) = flN (inN (x :: r)) := rfl
      rw [e]
      exact ⟨m1, fun e he => List.mem_cons_of_mem _ (List.mem_append_left _ he), fun _ => ⟨x1, x2⟩⟩
    | false =>
      have e : flN (prC (false, x :: r)) = far (lastN (x :: r)) :: x :: flN (inN (x :: r)) := rfl
      rw [e]
      refine ⟨List.nodup_cons.mpr ⟨fun z => ?_, List.nodup_cons.mpr ⟨x1, m1⟩⟩, fun e he => ?_, fun z => (by cases z)⟩
      · rcases List.mem_cons.mp z with z | z
        · exact x3 z.symm
        · exact x2 z
      · rcases List.mem_cons.mp he with rfl | he
        · exact List.mem_cons_of_mem _ (List.mem_append_right _ List.mem_cons_self)
        · rcases List.mem_cons.mp he with rfl | he
          · exact List.mem_cons_self
          · exact List.mem_cons_of_mem _ (List.mem_append_left _ he)
theorem enN_nodup : ∀ {xs : List Nat}, (half xs).Nodup → (enN xs).Nodup
  | [], _ => List.nodup_nil
  | x :: r, h => by
    obtain ⟨h1, h2⟩ := List.nodup_cons.mp (show (x / 2 :: half r).Nodup from h)
    show (x :: far x :: enN r).Nodup
    have out : ∀ a, a / 2 = x / 2 → a ∉ enN r := fun a ha z => by
      obtain ⟨y, hy, e⟩ := mem_enN.mp z
      refine h1 (mem_half.mpr ⟨y, hy, ?_⟩)
      have := far_half y
      rcases e with e | e <;> omega
    refine List.nodup_cons.mpr ⟨fun z => ?_, List.nodup_cons.mpr ⟨out _ (far_half x), enN_nodup h2⟩⟩
    rcases List.mem_cons.mp z with z | z
    · exact far_ne x z.symm
    · exact out x rfl z
noncomputable def setP (ms : List Nat) (p : Nat × Nat) : List Nat := (ms.set p.1 p.2).set p.2 p.1
theorem at0_set {ms : List Nat} {i v e : Nat} (h : i < ms.length) : at0 (ms.set i v) e = if e = i then v else at0 ms e := by
  unfold at0
  rw [List.getD, List.getD, List.getElem?_set]
  by_cases c : i = e
  · subst c
    rw [if_pos rfl, if_pos rfl, if_pos h]
    rfl
  · rw [if_neg c, if_neg (fun z => c z.symm)]
theorem msL_ok : ∀ (ps : List (Nat × Nat)) (ms : List Nat), (flN ps).Nodup → (∀ e ∈ flN ps, e < ms.length ∧ at0 ms e = e) → (ps.foldl setP ms).length = ms.length ∧ (∀ p ∈ ps, at0 (ps.foldl setP ms) p.1 = p.2 ∧ at0 (ps.foldl setP ms) p.2 = p.1) ∧ ∀ e, e ∉ flN ps → at0 (ps.foldl setP ms) e = at0 ms e
  | [], ms, _, _ => ⟨rfl, fun p hp => (by cases hp), fun e _ => rfl⟩
  | p :: ps, ms, nd, h => by
    have nd : (p.1 :: p.2 :: flN ps).Nodup := nd
    obtain ⟨n1, n2⟩ := List.nodup_cons.mp nd
    obtain ⟨n3, n4⟩ := List.nodup_cons.mp n2
    have h1 := h p.1 List.mem_cons_self
    have h2 := h p.2 (List.mem_cons_of_mem _ List.mem_cons_self)
    have ne : p.1 ≠ p.2 := fun z => n1 (by rw [z]; exact List.mem_cons_self)
    have len : (setP ms p).length = ms.length := by unfold setP; rw [List.length_set, List.length_set]
    have at' : ∀ e, at0 (setP ms p) e = if e = p.2 then p.1 else if e = p.1 then p.2 else at0 ms e := fun e => by
      unfold setP
      rw [at0_set (by rw [List.length_set]; exact h2.1), at0_set h1.1]
    obtain ⟨i1, i2, i3⟩ := msL_ok ps (setP ms p) n4 fun e he => by
      refine ⟨by rw [len]; exact (h e (List.mem_cons_of_mem _ (List.mem_cons_of_mem _ he))).1, ?_⟩
      rw [at' e, if_neg (fun z : e = p.2 => n3 (z ▸ he)), if_neg (fun z : e = p.1 => n1 (List.mem_cons_of_mem _ (z ▸ he)))]
      exact (h e (List.mem_cons_of_mem _ (List.mem_cons_of_mem _ he))).2
    show (ps.foldl setP (setP ms p)).length = _ ∧ _
    refine ⟨by rw [i1, len], fun q hq => ?_, fun e he => ?_⟩
    · rcases List.mem_cons.mp hq with rfl | hq
      · have e1 : at0 (ps.foldl setP (setP ms q)) q.1 = at0 (setP ms q) q.1 := i3 _ fun z => n1 (List.mem_cons_of_mem _ z)
        have e2 : at0 (ps.foldl setP (setP ms q)) q.2 = at0 (setP ms q) q.2 := i3 _ n3
        refine ⟨?_, ?_⟩
        · show at0 (ps.foldl setP (setP ms q)) q.1 = _
          rw [e1, at', if_neg ne, if_pos rfl]
        · show at0 (ps.foldl setP (setP ms q)) q.2 = _
          rw [e2, at', if_pos rfl]
      · exact i2 q hq
    · have he : e ∉ p.1 :: p.2 :: flN ps := he
      have a1 : e ≠ p.1 := fun z => he (by rw [z]; exact List.mem_cons_self)
      have a2 : e ≠ p.2 := fun z => he (by rw [z]; exact List.mem_cons_of_mem _ List.mem_cons_self)
      have a3 : e ∉ flN ps := fun z => he (List.mem_cons_of_mem _ (List.mem_cons_of_mem _ z))
      show at0 (ps.foldl setP (setP ms p)) e = _
      rw [i3 e a3, at', if_neg a2, if_neg a1]
theorem at0_range {n e : Nat} (h : e < n) : at0 (List.range n) e = e := by
  unfold at0
  rw [List.getD, List.getElem?_range h]
  rfl
open Sx in
noncomputable def allP (out : Chs) : List (Nat × Nat) := out.flatMap prC
open Sx in
theorem allP_ok : ∀ {out : Chs}, (∀ c ∈ out, c.2 ≠ []) → (enN (endsO out)).Nodup → (flN (allP out)).Nodup ∧ ∀ e ∈ flN (allP out), e ∈ enN (endsO out)
  | [], _, _ => ⟨List.nodup_nil, fun e he => (by cases he)⟩
  | c :: out, h, nd => by
    have e1 : endsO (c :: out) = c.2 ++ endsO out := rfl
    have e2 : flN (allP (c :: out)) = flN (prC c) ++ flN (allP out) := by
      show flN (prC c ++ allP out) = _
      rw [flN_app]
    rw [e1, enN_app] at nd ⊢
    obtain ⟨m1, m2, m3⟩ := List.nodup_append.mp nd
    obtain ⟨q1, q2, _⟩ := prC_ok (k := c.1) (h c List.mem_cons_self) m1
    obtain ⟨i1, i2⟩ := allP_ok (out := out) (fun d hd => h d (List.mem_cons_of_mem _ hd)) m2
    rw [e2]
    refine ⟨List.nodup_append.mpr ⟨q1, i1, fun a ha b hb z => m3 a (q2 a ha) b (i2 b hb) z⟩, fun e he => ?_⟩
    rcases List.mem_append.mp he with he | he
    · exact List.mem_append_left _ (q2 e he)
    · exact List.mem_append_right _ (i2 e he)
theorem inN_get : ∀ {xs : List Nat} {i x y : Nat}, xs[i]? = some x → xs[i + 1]? = some y → (far x, y) ∈ inN xs
  | [], i, x, y, h, _ => by simp at h
  | [a], i, x, y, h, k => by cases i <;> simp at k
  | a :: b :: r, 0, x, y, h, k => by
    cases h
    cases k
    exact List.mem_cons_self
  | a :: b :: r, i + 1, x, y, h, k => List.mem_cons_of_mem _ (inN_get (xs := b :: r) (i := i) (by simpa using h) (by simpa using k))
theorem headD_of {xs : List Nat} {x : Nat} (h : xs[0]? = some x) : xs.headD 0 = x := by
  cases xs with
  | nil => cases h
  | cons a r => cases h; rfl
theorem lastN_of {xs : List Nat} {x : Nat} (h : xs[xs.length - 1]? = some x) : lastN xs = x := by
  unfold lastN
  rw [List.getLastD_eq_getLast?, List.getLast?_eq_getElem?, h]
  rfl
open Sx in
theorem sel_perm : ∀ out : Chs, (sel true out ++ sel false out).Perm (out.map (·.2))
  | [] => List.Perm.refl _
  | (k, es) :: out => by
    have ih := sel_perm out
    cases k with
    | true =>
      have e1 : sel true ((true, es) :: out) = es :: sel true out := rfl
      have e2 : sel false ((true, es) :: out) = sel false out := rfl
      rw [e1, e2]
      exact ih.cons es
    | false =>
      have e1 : sel true ((false, es) :: out) = sel true out := rfl
      have e2 : sel false ((false, es) :: out) = es :: sel false out := rfl
      rw [e1, e2]
      exact List.perm_middle.trans (ih.cons es)
open Sx in
theorem sel_mem {k : Bool} {out : Chs} {r : List Nat} (h : r ∈ sel k out) : (k, r) ∈ out := by
  unfold sel at h
  obtain ⟨c, hc, rfl⟩ := List.mem_map.mp h
  obtain ⟨h1, h2⟩ := List.mem_filter.mp hc
  have : c.1 = k := by simpa using h2
  rw [← this]
  exact h1
open Sx in
noncomputable def workO (out : Chs) : List Nat := (allP out).foldl setP (List.range (2 * (endsO out).length))
open Sx in
theorem work_of {out : Chs} (ne : ∀ c ∈ out, c.2 ≠ []) (le : (endsO out).length ≤ 40) (hp : (half (endsO out)).Perm (List.range (endsO out).length)) : WorkL (endsO out).length (workO out) ∧ Deco (endsO out).length (at0 (workO out)) (sel true out) (sel false out) := by
  have hnd : (half (endsO out)).Nodup := hp.nodup_iff.mpr List.nodup_range
  have end' := enN_nodup hnd
  obtain ⟨a1, a2⟩ := allP_ok ne end'
  have lt : ∀ e ∈ endsO out, e < 2 * (endsO out).length := fun e he => by
    have z := List.mem_range.mp (hp.subset (mem_half.mpr ⟨e, he, rfl⟩))
    omega
  have lt2 : ∀ e ∈ enN (endsO out), e < 2 * (endsO out).length := fun e he => by
    obtain ⟨x, hx, q⟩ := mem_enN.mp he
    have := List.mem_range.mp (hp.subset (mem_half.mpr ⟨x, hx, rfl⟩))
    have := far_half x
    rcases q with q | q <;> omega
  obtain ⟨b1, b2, b3⟩ := msL_ok (allP out) (List.range (2 * (endsO out).length)) a1 fun e he => by
    have := lt2 e (a2 e he)
    exact ⟨by rw [List.length_range]; exact this, at0_range this⟩
  have b1 : (workO out).length = 2 * (endsO out).length := by rw [← List.length_range (n := 2 * (endsO out).length)]; exact b1
  have b2 : ∀ p ∈ allP out, at0 (workO out) p.1 = p.2 ∧ at0 (workO out) p.2 = p.1 := b2
  have b3 : ∀ e, e < 2 * (endsO out).length → e ∉ flN (allP out) → at0 (workO out) e = e := fun e h1 h2 => (b3 e h2).trans (at0_range h1)
  have W : Work (endsO out).length (at0 (workO out)) := by
    refine ⟨fun x hx => ?_, fun x hx => ?_⟩
    · by_cases c : x ∈ flN (allP out)
      · obtain ⟨p, hp', q⟩ := mem_flN.mp c
        obtain ⟨q1, q2⟩ := b2 p hp'
        rcases q with q | q
        · rw [q, q1]; exact lt2 _ (a2 _ (mem_flN.mpr ⟨p, hp', .inr rfl⟩))
        · rw [q, q2]; exact lt2 _ (a2 _ (mem_flN.mpr ⟨p, hp', .inl rfl⟩))
      · rw [b3 x hx c]; exact hx
    · by_cases c : x ∈ flN (allP out)
      · obtain ⟨p, hp', q⟩ := mem_flN.mp c
        obtain ⟨q1, q2⟩ := b2 p hp'
        rcases q with q | q
        · rw [q, q1, q2]
        · rw [q, q2, q1]
      · rw [b3 x hx c, b3 x hx c]
  have pm := sel_perm out
  have hpm : ((sel true out ++ sel false out).flatMap half).Perm (List.range (endsO out).length) := by
    rw [half_flat]
    refine List.Perm.trans ?_ hp
    exact (List.Perm.flatten pm).map _
  have inE : ∀ {c : Bool × List Nat}, c ∈ out → ∀ x ∈ c.2, x ∈ endsO out := fun {c} hc x hx => List.mem_flatten.mpr ⟨c.2, List.mem_map_of_mem hc, hx⟩
  have ch : ∀ {k : Bool} {r : List Nat}, (k, r) ∈ out → IsCh (endsO out).length (at0 (workO out)) r := fun {k r} h => by
    refine ⟨List.length_pos_iff.mpr (ne _ h), fun x hx => lt x (inE h x hx), fun i x y hx hy => ?_⟩
    have m : (far x, y) ∈ allP out := List.mem_flatMap.mpr ⟨(k, r), h, List.mem_append_right _ (inN_get hx hy)⟩
    exact b2 _ m
  /- an end of a chain that its own clasps do not have is loose -/
  have free : ∀ {k : Bool} {r : List Nat} {e : Nat}, (k, r) ∈ out → e ∈ enN r → e ∉ flN (prC (k, r)) → at0 (workO out) e = e := fun {k r e} h he hn => by
    have hin : e ∈ enN (endsO out) := by
      obtain ⟨x, hx, q⟩ := mem_enN.mp he
      exact mem_enN.mpr ⟨x, inE h x hx, q⟩
    refine b3 e (lt2 e hin) fun z => ?_
    obtain ⟨A, B, hAB⟩ := List.append_of_mem h
    have eo : endsO out = endsO A ++ (r ++ endsO B) := by
      rw [hAB]
      unfold endsO
      simp
    have eP : flN (allP out) = flN (allP A) ++ (flN (prC (k, r)) ++ flN (allP B)) := by
      rw [hAB]
      unfold allP
      rw [List.flatMap_append, List.flatMap_cons, flN_app, flN_app]
    rw [eo, enN_app, enN_app] at end'
    obtain ⟨d1, d2, d3⟩ := List.nodup_append.mp end'
    obtain ⟨d4, d5, d6⟩ := List.nodup_append.mp d2
    have nA := allP_ok (out := A) (fun c hc => ne c (by rw [hAB]; exact List.mem_append_left _ hc)) d1
    have nB := allP_ok (out := B) (fun c hc => ne c (by rw [hAB]; exact List.mem_append_right _ (List.mem_cons_of_mem _ hc))) d5
    rw [eP] at z
    rcases List.mem_append.mp z with z | z
    · exact d3 e (nA.2 e z) e (List.mem_append_left _ he) rfl
    · rcases List.mem_append.mp z with z | z
      · exact hn z
      · exact d6 e he e (nB.2 e z) rfl
  have own : ∀ {k : Bool} {r : List Nat}, (k, r) ∈ out → (enN r).Nodup := fun {k r} h => by
    obtain ⟨A, B, hAB⟩ := List.append_of_mem h
    have eo : endsO out = endsO A ++ (r ++ endsO B) := by
      rw [hAB]
      unfold endsO
      simp
    rw [eo, enN_app, enN_app] at end'
    exact (List.nodup_append.mp (List.nodup_append.mp end').2.1).1
  refine ⟨⟨le, b1, W⟩, fun r hr => ?_, fun r hr => ?_, hpm.nodup_iff.mpr List.nodup_range, fun s hs => hpm.symm.subset (List.mem_range.mpr hs)⟩
  · have h := sel_mem hr
    obtain ⟨_, _, q⟩ := prC_ok (k := true) (ne _ h) (own h)
    obtain ⟨q1, q2⟩ := q rfl
    refine ⟨ch h, fun x hx => ?_, fun x hx => ?_⟩
    · rw [headD_of hx] at q1
      exact free h (mem_enN.mpr ⟨x, List.mem_of_getElem? hx, .inl rfl⟩) q1
    · rw [lastN_of hx] at q2
      exact free h (mem_enN.mpr ⟨x, List.mem_of_getElem? hx, .inr rfl⟩) q2
  · have h := sel_mem hr
    refine ⟨ch h, fun x y hx hy => ?_⟩
    have m : (far y, x) ∈ allP out := by
      refine List.mem_flatMap.mpr ⟨(false, r), h, List.mem_append_left _ ?_⟩
      show (far y, x) ∈ [(far (lastN r), r.headD 0)]
      rw [headD_of hx, lastN_of hy]
      exact List.mem_cons_self
    exact b2 _ m
end Mt

namespace Sx
open PySem L2 Mir
theorem sel_perm {k : Bool} {cs ds : List (Bool × List Nat)} (h : cs.Perm ds) : (sel k cs).Perm (sel k ds) := (h.filter _).map _
theorem deco_any {n : Nat} {M : Nat → Nat} {rows rings : List (List Nat)} {cs : List (Bool × List Nat)} (D : Mt.Deco n M rows rings) (c d e : Int) (h : cs.Perm (chs (Mt.mapIx (Mt.tellRow c) 0 rows) (Mt.mapIx (Mt.tellRing d e) 0 rings))) : Mt.Deco n M (sel true cs) (sel false cs) := by
  have D1 := D.told c d e 0
  obtain ⟨e1, e2⟩ := chs_sel (Mt.mapIx (Mt.tellRow c) 0 rows) (Mt.mapIx (Mt.tellRing d e) 0 rings)
  have p1 := sel_perm (k := true) h
  have p2 := sel_perm (k := false) h
  rw [e1] at p1
  rw [e2] at p2
  have q1 := p1.trans (Mt.cutL_perm 0 _).symm
  have q2 := p2.trans (List.reverse_perm _).symm
  exact D1.perm (fun r hr => D1.row r (q1.subset hr)) (fun r hr => D1.ring r (q2.subset hr)) (List.Perm.flatMap_right _ q1) (List.Perm.flatMap_right _ q2)
noncomputable def spWritten9 : Sp := fun vs H Q _ => ∃ (k : Bool) (a : Addr) (es : List Nat), vs = [.ref a, .str (if k then "[]" else "()")] ∧ H a = some (.lst (nV es)) ∧ es.length ≤ 60 ∧ (∀ e ∈ es, e < 80) ∧ ∀ z H', Same H H' → tl z = chainL k es → Q (.str z) H'
noncomputable def spTextElse : Sp := fun vs H Q _ => ∃ (l : Addr) (n : Nat) (ms : List Nat) (c : Int), vs = [.ref l, .int c] ∧ H l = some (.lst (nV ms)) ∧ WorkL n ms ∧
  ∀ (z : PySem.Str) (cs : List (Bool × List Nat)) (H' : Hp), Same H H' → tl z = workL cs → Mt.Deco n (at0 ms) (sel true cs) (sel false cs) → (∀ x ∈ cs, x.2 ∈ sel true cs ++ sel false cs) → cs.length = (sel true cs).length + (sel false cs).length → Q (.str z) H'
theorem sel_mem {cs : List (Bool × List Nat)} {x : Bool × List Nat} (h : x ∈ cs) : x.2 ∈ sel true cs ++ sel false cs := by
  obtain ⟨k, l⟩ := x
  cases k
  · exact List.mem_append_right _ (List.mem_map.mpr ⟨(false, l), List.mem_filter.mpr ⟨h, rfl⟩, rfl⟩)
  · exact List.mem_append_left _ (List.mem_map.mpr ⟨(true, l), List.mem_filter.mpr ⟨h, rfl⟩, rfl⟩)
theorem sel_len (cs : List (Bool × List Nat)) : cs.length = (sel true cs).length + (sel false cs).length := by
  induction cs with
  | nil => rfl
  | cons c r ih =>
    obtain ⟨k, l⟩ := c
    unfold sel at ih ⊢
    cases k <;> simp at ih ⊢ <;> omega
end Sx
namespace Sx
open PySem L2 Mir
theorem deco_told {n : Nat} {M : Nat → Nat} {rows rings : List (List Nat)} (D : Mt.Deco n M rows rings) (c d e : Int) : Mt.Deco n M (Mt.mapIx (Mt.tellRow c) 0 rows) (Mt.mapIx (Mt.tellRing d e) 0 rings) := by
  have z := deco_any (cs := chs (Mt.mapIx (Mt.tellRow c) 0 rows) (Mt.mapIx (Mt.tellRing d e) 0 rings)) D c d e (List.Perm.refl _)
  obtain ⟨e1, e2⟩ := chs_sel (Mt.mapIx (Mt.tellRow c) 0 rows) (Mt.mapIx (Mt.tellRing d e) 0 rings)
  rw [e1, e2] at z
  exact z
noncomputable def chL (c : Bool × List Nat) : List Nat := chainL c.1 c.2
theorem ins_map {α β : Type} (f : α → β) (l : List α) (k : Nat) (x : α) : (l.take k ++ x :: l.drop k).map f = (l.map f).take k ++ f x :: (l.map f).drop k := by
  rw [List.map_append, List.map_take, List.map_cons, List.map_drop]
theorem ins_perm {α : Type} (l : List α) (k : Nat) (x : α) : (l.take k ++ x :: l.drop k).Perm (x :: l) := by
  refine List.perm_middle.trans ?_
  rw [List.take_append_drop]
theorem chs_snoc (rows rings : List (List Nat)) (r : List Nat) : chs rows (rings ++ [r]) = chs rows rings ++ [(false, r)] := by
  unfold chs
  rw [List.map_append, List.append_assoc]
  rfl
theorem deco_zero {n : Nat} {ms : List Nat} (W : WorkL n ms) (h : ms = []) : Mt.Deco n (at0 ms) (sel true []) (sel false []) := by
  have D := Mt.deco_own W.wk
  have e := (chains_nil W).mp (by rw [h]; rfl)
  obtain ⟨e1, e2⟩ := chs_sel (Ch.rowsL n (at0 ms)) (Ch.ringsL n (at0 ms))
  have e : chs (Ch.rowsL n (at0 ms)) (Ch.ringsL n (at0 ms)) = [] := e
  rw [e] at e1 e2
  rw [← e1, ← e2] at D
  exact D
end Sx

namespace Sx
open PySem L2 Mir
theorem splS {c : Nat} : ∀ {l w : List Nat}, w ∈ splitL c l → (∀ x ∈ w, x ∈ l) ∧ w.length ≤ l.length
  | [], w, h => by
    have h : w ∈ [[]] := h
    rw [List.mem_singleton.mp h]
    exact ⟨fun x hx => (by cases hx), Nat.le_refl _⟩
  | a :: r, w, h => by
    unfold splitL at h
    split at h
    · rcases List.mem_cons.mp h with z | z
      · rw [z]; exact ⟨fun x hx => (by cases hx), Nat.zero_le _⟩
      · obtain ⟨i1, i2⟩ := splS z
        exact ⟨fun x hx => List.mem_cons_of_mem _ (i1 x hx), by rw [List.length_cons]; omega⟩
    · cases hs : splitL c r with
      | nil => exact absurd hs (splitL_ne c r)
      | cons p q =>
        rw [hs] at h
        rcases List.mem_cons.mp h with z | z
        · obtain ⟨i1, i2⟩ := splS (c := c) (l := r) (w := p) (by rw [hs]; exact List.mem_cons_self)
          rw [z]
          refine ⟨fun x hx => ?_, by rw [List.length_cons, List.length_cons]; omega⟩
          rcases List.mem_cons.mp hx with y | y
          · rw [y]; exact List.mem_cons_self
          · exact List.mem_cons_of_mem _ (i1 x y)
        · obtain ⟨i1, i2⟩ := splS (c := c) (l := r) (w := w) (by rw [hs]; exact List.mem_cons_of_mem _ z)
          exact ⟨fun x hx => List.mem_cons_of_mem _ (i1 x hx), by rw [List.length_cons]; omega⟩
theorem ascM {z : PySem.Str} (h : Ascii z) : ∀ c ∈ tl z, c < 128 := fun c hc => by
  have z3 : z.cps.toList.all (· < 128) = true := by rw [Array.all_toList]; exact h
  exact of_decide_eq_true (List.all_eq_true.mp z3 c hc)
theorem iteNQ {c A B : Prop} [Decidable c] (hc : ¬ c) (h : A) : if (!decide c) = true then A else B := by
  rw [decide_eq_false hc]
  exact h
noncomputable def OnceO (out : Chs) : Prop := (endsO out).length ≤ 40 ∧ (Mt.half (endsO out)).Perm (List.range (endsO out).length)
theorem up_half (xs : List Nat) : Mt.halfI (Mt.up xs) = Mt.up (Mt.half xs) := by
  unfold Mt.halfI Mt.up Mt.half
  rw [List.map_map, List.map_map]
  refine List.map_congr_left fun a _ => ?_
  show (a : Int) / 2 = ((a / 2 : Nat) : Int)
  omega
theorem up_perm {xs ys : List Nat} (h : (Mt.up xs).Perm (Mt.up ys)) : xs.Perm ys := by
  have z := h.map Int.toNat
  have e : ∀ l : List Nat, (Mt.up l).map Int.toNat = l := fun l => by
    unfold Mt.up
    rw [List.map_map]
    exact List.map_id' l
  rw [e, e] at z
  exact z
theorem good_flat (out : Chs) : ((sel true out).map Mt.up ++ (sel false out).map Mt.up).flatten = Mt.up ((sel true out ++ sel false out).flatten) := by
  rw [← List.map_append]
  unfold Mt.up
  rw [List.map_flatten]
theorem good_once {out : Chs} (G : Mt.GoodCh ((sel true out).map Mt.up ++ (sel false out).map Mt.up)) : OnceO out := by
  have pm := (Mt.sel_perm out).flatten
  have le := G.le
  have on := G.once
  rw [good_flat, Mt.up_len] at le
  rw [good_flat] at on
  unfold Mt.Once at on
  rw [up_half, Mt.up_len] at on
  have on := up_perm on
  have l : ((sel true out ++ sel false out).flatten).length = (endsO out).length := pm.length_eq
  rw [l] at le on
  exact ⟨le, ((pm.map (· / 2)).symm.trans on)⟩
noncomputable def outO (z : Str) : Option Chs := rdC 40 ([], none) (wordsL z)
open Classical in
noncomputable def workZ (z : Str) : Option (List Nat) := match outO z with
  | none => none
  | some out => if OnceO out then some (Mt.workO out) else none
noncomputable def spNum39 (C : Addr) : Sp := fun vs H Q E => ∃ z : Str, vs = [.str z, .int 39] ∧ Ascii z ∧ z.length ≤ 5000 ∧ (∀ (m : Nat) H', rdM 40 (tl z) = some m → Same H H' → Q (.int (m : Int)) H') ∧ (∀ H', rdM 40 (tl z) = none → Same H H' → E (.ref C) none H')
noncomputable def spStaveX (C : Addr) : Sp := fun vs H Q E => ∃ z : Str, vs = [.str z] ∧ Ascii z ∧ z.length ≤ 5000 ∧ (∀ (e : Nat) H', rdS 40 (tl z) = some e → Same H H' → Q (.int (e : Int)) H') ∧ (∀ H', rdS 40 (tl z) = none → Same H H' → E (.ref C) none H')
noncomputable def spOpenX (C : Addr) : Sp := fun vs H Q E => ∃ z : Str, vs = [.str z] ∧ Ascii z ∧ z.length ≤ 5000 ∧ (∀ k, (tl z).head? = some (opC k) → Q (.str (opS k)) H) ∧ ((∀ k, (tl z).head? ≠ some (opC k)) → ∀ H', Same H H' → E (.ref C) none H')
noncomputable def spChainsX (C : Addr) : Sp := fun vs H Q E => ∃ z : Str, vs = [.str z] ∧ Ascii z ∧ z.length ≤ 5000 ∧
  (∀ out, outO z = some out → ∀ (p : Addr) (ts : List Addr) (xs : List (Addr × Bool × List Nat)) (H' : Hp), Same H H' → H' p = some (.lst (refs ts)) → All2 (RCt H') ts xs → xs.map (·.2) = out → Q (.ref p) H') ∧ (outO z = none → ∀ H', Same H H' → E (.ref C) none H')
theorem starts_any {z : Str} {c : Nat} : Txt.startswith z ⟨#[c]⟩ = decide ((tl z).head? = some c) := by
  by_cases h : 1 ≤ z.length
  · rw [starts_one h]
    refine decide_eq_decide.mpr ?_
    rw [List.head?_eq_getElem?]
  · have e : tl z = [] := List.length_eq_zero_iff.mp (by have := len_tl z; omega)
    have ez : z = PySem.Str.empty := ext (by rw [e]; rfl)
    subst ez
    rfl
theorem ends_any {z : Str} {c : Nat} : Txt.endswith z ⟨#[c]⟩ = decide ((tl z).getLast? = some c) := by
  by_cases h : 1 ≤ z.length
  · rw [ends_one h]
    refine decide_eq_decide.mpr ?_
    rw [List.getLast?_eq_getElem?]
  · have e : tl z = [] := List.length_eq_zero_iff.mp (by have := len_tl z; omega)
    have ez : z = PySem.Str.empty := ext (by rw [e]; rfl)
    subst ez
    rfl
theorem slice_none {z : Str} (h : tl z = []) : Txt.slice z none (some 1) = PySem.Str.empty := by
  have ez : z = PySem.Str.empty := ext (by rw [h]; rfl)
  subst ez
  decide +kernel
theorem slice_head {z : Str} {k : Bool} (h : (tl z).head? = some (opC k)) : Txt.slice z none (some 1) = opS k := by
  have hl : 1 ≤ z.length := by
    cases q : tl z with
    | nil => rw [q] at h; cases h
    | cons a r => rw [len_tl, q]; simp
  refine ext ?_
  rw [slice_to1 hl, tl_op]
  cases q : tl z with
  | nil => rw [q] at h; cases h
  | cons a r => rw [q] at h; cases h; rfl
theorem atS_none {s : Str} (h : ∀ k, tl s ≠ [opC k]) : atS CLO s = none := by
  have h1 : ¬ ("[" : Str) = s := fun e => h true (by rw [← e]; exact tl_op true)
  have h2 : ¬ ("(" : Str) = s := fun e => h false (by rw [← e]; exact tl_op false)
  unfold atS CLO
  rw [List.find?_cons, decide_eq_false h1, List.find?_cons, decide_eq_false h2]
  rfl
theorem at_none {z : Str} (h : ∀ k, (tl z).head? ≠ some (opC k)) : atS CLO (Txt.slice z none (some 1)) = none := by
  refine atS_none fun k e => ?_
  by_cases hl : 1 ≤ z.length
  · rw [slice_to1 hl] at e
    refine h k ?_
    cases q : tl z with
    | nil => rw [q] at e; cases e
    | cons a r => rw [q] at e; rw [List.head?_cons]; exact congrArg some (List.cons.inj e).1
  · have e0 : tl z = [] := List.length_eq_zero_iff.mp (by have := len_tl z; omega)
    rw [slice_none e0] at e
    cases e
noncomputable def Low (b : Nat) (z : Str) : Prop := Ascii z ∧ z.length ≤ b
end Sx

namespace L2
open PySem PySem.Spec PyProof.Rows
noncomputable def Cln (h : Heap) (a : Addr) : Prop := ∃ oe vs, h.get? a = some oe ∧ oe.data = .fields vs ∧ vs[2]? = some .none
theorem Cln.keep {h h' : Heap} {a : Addr} (c : Cln h a) (e : ∀ o, h.get? a = some o → h'.get? a = some o) : Cln h' a := by
  obtain ⟨oe, vs, h1, h2, h3⟩ := c
  exact ⟨oe, vs, e _ h1, h2, h3⟩
section
variable {M : Model} {A : Around} {E : Value → Shared → Prop} {s : Shared} {B : Heap} {env : Env} {outer : List Env} {L a : Addr} {cls : Value}
theorem entry_cln {base : Heap} {oe : Obj} {vs : Array Value} {head a0 : Value} {hadNext : Bool} {Q : Unit → Shared → Prop}
    (hfr : A.frames = some (env :: outer)) (hl : s.heap.FunFrames base (env :: outer)) (hf : env.frame = some L) (hkb : base.StaysIn s.heap) (hen : base.get? a = none)
    (he : s.heap.get? a = some oe) (hd : oe.data = .fields vs) (h1 : 1 < vs.size) (h0 : vs[0]? = some a0) (h2 : vs[2]? = some .none)
    (h : ∀ h', Heap.NotedW base (env :: outer) a oe.cls a0 (rawInt L) s.heap h' → Cln h' a → Q () { s with heap := h' }) :
    wpAny M A (do let x ← frameOf env; let pl ← entryPlaceOf L hadNext; let b ← EntryCells.newEntry head x .none (rawInt L) .none pl; setField (.ref a) 1 b) Q E s := by
  have na : a ∉ (env :: outer).filterMap (·.frame) := fun hm => by
    obtain ⟨_, o, ho, hnf⟩ := hl.mem hm
    rw [he] at ho; cases ho; exact hnf vs hd
  refine wpAny_bind (wpAny_frameOf_fun hfr hl hf fun h₁ hs₁ => ?_)
  refine wpAny_bind (wpAny_entryPlaceOf fun pl hpl => ?_)
  unfold EntryCells.newEntry newFields
  refine wpAny_bind (wpAny_newObj_type ?_ (hpl.sizeOk5 _ _ _ _ _))
  have e1 : h₁.get? a = some oe := (hs₁.2.1 a na).trans he
  have k1 : base.StaysIn h₁ := fun b o hb => (hs₁.2.1 b fun hm => by rw [(hl.mem hm).1] at hb; cases hb).trans (hkb b o hb)
  generalize hT : ({ cls := .type "traceback", dict := none, data := .fields ([head, .ref L, .none, rawInt L, .none] ++ (if pl.isEmpty then List.replicate 6 Value.none else pl)).toArray } : Obj) = oT
  have e2 := Heap.get?_push_of_some (h := h₁) oT e1
  have d3 := Obj.data_mapFields hd (·.setIfInBounds 1 (Value.ref h₁.objs.size))
  have e3 := Heap.get?_update_self (Obj.mapFields (·.setIfInBounds 1 (Value.ref h₁.objs.size))) e2 (Obj.isFreed_of_fields d3)
  have ne : h₁.objs.size ≠ a := Nat.ne_of_gt (Heap.lt_size e1)
  have kp : ∀ b o, b ≠ a → h₁.get? b = some o → ((h₁.push oT).update a (Obj.mapFields (·.setIfInBounds 1 (Value.ref h₁.objs.size)))).get? b = some o := fun b o hb q => by
    rw [Heap.get?_update_other _ _ (Ne.symm hb)]
    exact Heap.get?_push_of_some _ q
  have nr : ∀ b o, s.heap.get? b = some o → (∀ vs, o.data ≠ .fields vs) → b ≠ a := fun b o hb hn q => by
    rw [q, he] at hb; cases hb; exact hn vs hd
  have c0 : ((h₁.push oT).get? h₁.objs.size) = some oT := by subst hT; exact Heap.get?_push_size h₁ rfl
  refine wpAny_setField e2 hd h1 (h _ ⟨fun b o hb => kp b o (fun q => by rw [q, hen] at hb; cases hb) (k1 b o hb), hl.of_keeps fun b o hb hn => ?_, ?_, fun b o hb hn => ?_⟩ ?_)
  · obtain ⟨sl, hs⟩ := hs₁.2.2 b o hb
    exact ⟨_, kp b _ (nr b o hb hn) hs, rfl⟩
  · refine ⟨_, _, h₁.objs.size, oT, _, e3, ⟨Obj.cls_mapFields _ _, by rw [Array.getElem?_setIfInBounds_ne (by decide)]; exact h0⟩, d3, by simp [h1], k1.fresh, ne, ?_, by subst hT; rfl, ?_⟩
    · rw [Heap.get?_update_other _ _ (Ne.symm ne)]; exact c0
    · first | (simp; done) | (rcases hpl with rfl | ⟨_, _, _, _, _, _, _, rfl⟩ <;> simp)
  · obtain ⟨sl, hs⟩ := hs₁.2.2 b o hb
    exact ⟨sl, kp b _ (nr b o hb hn) hs⟩
  · exact ⟨_, _, e3, d3, by rw [Array.getElem?_setIfInBounds_ne (by decide)]; exact h2⟩
theorem sta_noteK {Q : Unit → Shared → Prop} (hfr : A.frames = some (env :: outer)) (hf : env.frame = some L) (x : Sta B (env :: outer) a cls s.heap) (c : Cln s.heap a)
    (hQ : ∀ h' a0, Heap.HeldW B (env :: outer) a cls a0 L h' → s.heap.UpToSlots h' → Cln h' a → Q () { s with heap := h' }) : wpAny M A (noteFrame (.ref a) env) Q E s := by
  obtain ⟨oc, vc, c1, c2, c3⟩ := id c
  obtain ⟨a0, ⟨x1, x2, x3, oe, vs, he, hc, hd, h1, h0⟩ | x | ⟨L', env', outer', e1, e2, x⟩⟩ := x
  · rw [c1] at he; cases he
    rw [c2] at hd; cases hd
    unfold noteFrame
    simp only [hf]
    refine wpAny_bind (wpAny_field c1 c2 h1 ?_)
    rw [if_neg (by decide)]
    refine entry_cln hfr x3 hf x1 x2 c1 c2 (Array.getElem?_eq_some_iff.mp h1).1 h0 c3 fun h' hN hk => ?_
    obtain ⟨k1, k2, k3, k4⟩ := hN
    rw [hc] at k3
    exact hQ h' a0 ⟨k1, x2, k2, k3⟩ k4 hk
  · obtain ⟨f1, f2, f3, oe, vs, T, oT, ts, he, ⟨hcls, h0⟩, hd, h1, hnT, hTe, hT, hdT, h3⟩ := x
    rw [c1] at he; cases he
    rw [c2] at hd; cases hd
    subst hcls
    unfold noteFrame
    simp only [hf]
    refine wpAny_bind (wpAny_field c1 c2 h1 ?_)
    rw [if_pos (show (Value.ref T != Value.none) = true from by simp)]
    refine wpAny_bind (wpAny_field hT hdT h3 ?_)
    rw [if_neg (show ¬ ((Value.none == rawInt L) = true) from by simp [rawInt])]
    refine wpAny_bind (wpAny_setField hT hdT (Array.getElem?_eq_some_iff.mp h3).1 ?_)
    have other : ∀ b, b ≠ T → (s.heap.update T (Obj.mapFields (·.setIfInBounds 3 Value.none))).get? b = s.heap.get? b := fun b hb => Heap.get?_update_other _ _ (Ne.symm hb)
    have noRecord : ∀ b o, s.heap.get? b = some o → (∀ vs, o.data ≠ .fields vs) → b ≠ T := fun b o hb hnf q => by
      rw [q, hT] at hb; cases hb; exact hnf ts hdT
    refine entry_cln hfr (f3.of_keeps fun b o hb hnf => ⟨o, (other b (noRecord b o hb hnf)).trans hb, rfl⟩) hf (fun b o hbo => (other b fun q => by rw [q, hnT] at hbo; cases hbo).trans (f1 b o hbo)) f2
      ((other a (Ne.symm hTe)).trans c1) c2 (Array.getElem?_eq_some_iff.mp h1).1 h0 c3 fun h' hN hk => ?_
    obtain ⟨k1, k2, k3, k4⟩ := hN
    exact hQ h' a0 ⟨k1, f2, k2, k3⟩ (fun b o hb hnf => k4 b o ((other b (noRecord b o hb hnf)).trans hb) hnf) hk
  · cases e1
    rw [hf] at e2
    cases e2
    exact wpAny_noteFrame_againW hf x.2.2.2 (hQ s.heap a0 x (Heap.UpToSlots.refl _) c)
theorem land_cln {a0 fl v : Value} {l : List Env} {k : Option Addr} {Q : Unit → Shared → Prop} (hkb : B.StaysIn s.heap) (hl : s.heap.FunFrames B l) (x : s.heap.TracedAtW B a cls a0 fl) (c : Cln s.heap a)
    (hQ : ∀ h', B.StaysIn h' → h'.FunFrames B l → h'.TracedAtW B a cls a0 (k.elim .none fun f => rawInt f) → s.heap.UpToSlots h' → Cln h' a → Q () { s with heap := h' }) : wpAny M A (setFlight (.ref a) k) Q E s := by
  obtain ⟨oe, vs, T, oT, ts, he, hcls, hd, h1, hnT, hTe, hT, hdT, h3⟩ := x
  have hsz3 : 3 < ts.size := (Array.getElem?_eq_some_iff.mp h3).1
  have other : ∀ b, b ≠ T → (s.heap.update T (Obj.mapFields (·.setIfInBounds 3 (k.elim Value.none fun f => rawInt f)))).get? b = s.heap.get? b := fun b hb => Heap.get?_update_other _ _ (Ne.symm hb)
  have noRecord : ∀ b o, s.heap.get? b = some o → (∀ vs, o.data ≠ .fields vs) → b ≠ T := fun b o hb hnf q => by
    rw [q, hT] at hb; cases hb; exact hnf ts hdT
  unfold setFlight
  refine wpAny_bind (wpAny_field he hd h1 ?_)
  rw [if_pos (show (Value.ref T != Value.none) = true from by simp)]
  refine wpAny_setField hT hdT hsz3 (hQ _ (fun b o hbo => (other b fun q => by rw [q, hnT] at hbo; cases hbo).trans (hkb b o hbo)) (hl.of_keeps fun b o hb hnf => ⟨o, (other b (noRecord b o hb hnf)).trans hb, rfl⟩) ?_
    (fun b o hb hnf => ⟨o.slots, (other b (noRecord b o hb hnf)).trans hb⟩) (c.keep fun o q => (other a (Ne.symm hTe)).trans q))
  exact ⟨oe, vs, T, _, _, (other a (Ne.symm hTe)).trans he, hcls, hd, h1, hnT, hTe, Heap.get?_update_self _ hT (Obj.isFreed_of_fields (Obj.data_mapFields hdT _)), Obj.data_mapFields hdT _, by simp [hsz3]⟩
theorem sta_leaveK {Q : Unit → Shared → Prop} (hfr : A.frames = some (env :: outer)) (hf : env.frame = some L) (x : Sta B (env :: outer) a cls s.heap) (c : Cln s.heap a)
    (hQ : ∀ h' a0, Heap.FlyingW B outer a cls a0 h' → s.heap.UpToSlots h' → Cln h' a → Q () { s with heap := h' }) : wpAny M A (leaving env (.ref a)) Q E s := by
  unfold leaving
  refine wpAny_bind (sta_noteK hfr hf x c fun h1 a0 k1 k2 k3 => ?_)
  refine land_cln (v := .none) (l := env :: outer) k1.1 k1.2.2.1 k1.2.2.2 k3 fun h2 c1 c2 c3 c4 c5 => ?_
  obtain ⟨_, _, c2⟩ := c2
  exact hQ h2 a0 ⟨c1, k1.2.1, c2, c3⟩ (k2.trans c4) c5
theorem held_backK {F : Value → Shared → Prop} {a0 : Value} (hf : env.frame = some L) (x : Heap.HeldW B (env :: outer) a cls a0 L s.heap) (c : Cln s.heap a)
    (hQ : ∀ h', Heap.HeldW B (env :: outer) a cls a0 L h' → s.heap.UpToSlots h' → Cln h' a → F (.ref a) { s with heap := h' }) : cameBackBy M A env F (.ref a) s := by
  obtain ⟨hkb, hen, hl, tr⟩ := x
  obtain ⟨oe, vs, T, oT, ts, he, hcls, hd, h1, _⟩ := id tr
  unfold cameBackBy
  refine wpAny_bind (wpAny_field he hd h1 ?_)
  rw [if_neg (show ¬ ((Value.ref T == Value.none) = true) from Bool.false_ne_true)]
  rw [hf]
  exact land_cln (v := .none) (l := env :: outer) (k := some L) hkb hl tr c fun h' k1 k2 k3 k4 k5 => hQ h' ⟨k1, hen, k2, k3⟩ k4 k5
end
end L2

namespace L2
open PySem PySem.Spec PyProof.Rows
noncomputable def CXk (P : Program) (w : World) : CXT := fun outer H s E e s' => ∃ a cls H' B, e = .ref a ∧ XAt P w outer [] H s B a cls H' s' ∧ Cln s'.heap a ∧ E cls none H'
noncomputable def BodyK (X : Cx) (E : XK) (e : Value) (s' : Shared) : Prop := ∃ a cls H' B, e = .ref a ∧ XAt X.prog X.w X.stack X.ex X.H₀ X.s₀ B a cls H' s' ∧ Cln s'.heap a ∧ E cls none H'
section
variable {X : Cx} {E : XK}
theorem passK : Passes (CXk X.prog X.w) (X.wish (BodyK X E)) E := fun pins σ H s e s' I h => by
  have I := I.unwish
  obtain ⟨a, cls, H', B, rfl, x, hk, hE⟩ := h
  have U : Un (frs X.stack) X.ex X.H₀ H X.s₀.heap s.heap := I.base.mono (fun b hb => by
    rcases I.ok.stk with z | ⟨z, _⟩
    · rw [z]; exact hb
    · rw [z]; unfold frs; rw [List.filterMap_cons]; split
      · exact hb
      · exact List.mem_cons_of_mem _ hb) fun b hb => hb
  have U2 : Un (frs X.stack) X.ex H H' s.heap s'.heap := x.un.mono (fun b hb => hb) fun b hb => absurd hb (by simp)
  refine ⟨a, cls, H', B, rfl, ⟨x.os.trans I.os, x.bare, U.trans U2, x.hok, x.na, x.sta, fun b o q hb he => ?_, x.trk⟩, hk, hE⟩
  obtain ⟨o1, e1⟩ := U.there b o q he
  exact x.old b o1 e1 hb (by simp)
end
theorem own_passesK {X : Cx} {E : XK} (O : Own X) : PassesOwn (model X.prog X.w) X.A X.env (BodyK X E) := fun e s' h => by
  obtain ⟨a, cls, H', B, rfl, x, hk, hE⟩ := h
  have hfr : X.A.frames = some (X.env :: X.outer) := by rw [← O.top]; exact O.ok.frames
  have st := x.sta
  rw [O.top] at st
  show wpAny _ _ (noteFrame (.ref a) X.env) _ _ s'
  refine sta_noteK hfr O.fr st hk fun h1 a0 k1 k2 c1 => ?_
  have x1 : XAt X.prog X.w X.stack X.ex X.H₀ X.s₀ B a cls H' { s' with heap := h1 } := x.move k2 (by rw [O.top]; exact ⟨a0, .inr (.inr ⟨_, _, _, rfl, O.fr, k1⟩)⟩) (fun b hb => hb) (fun b o _ hb => hb) fun b _ => by rw [O.ex]; simp
  refine held_backK (s := { s' with heap := h1 }) O.fr k1 c1 fun h2 k3 k4 c2 => ?_
  exact ⟨a, cls, H', B, rfl, x1.move k4 (by rw [O.top]; exact ⟨a0, .inr (.inr ⟨_, _, _, rfl, O.fr, k3⟩)⟩) (fun b hb => hb) (fun b o _ hb => hb) fun b _ => by rw [O.ex]; simp, c2, hE⟩
structure EObj (s : Shared) (C : Addr) (bmB bm : List Value) (ns : Addr) (mN : Str → Option Value) (ob : Obj) : Prop where
  c : s.heap.get? C = some ob
  n : s.heap.Ns ns mN
  t : OwnTail s.heap bmB bm
theorem ecls_two {X : Cx} {E : Value → Shared → Prop} {C : Addr} {bmB : List Value} {newId : String} (q : PySem.W.excIn X.K C bmB newId = true) (ok : X.Ok) :
    ∃ bm ns nm qn bs hd sn sub ab col dd k0 k1 k2 k3 k5 mN, mN "__init__" = none ∧ (∀ s : Shared, (∀ b o, X.base.get? b = some o → s.heap.get? b = some o) → EObj s C bmB bm ns mN (excClassObj nm qn C ns bs bm hd sn sub ab col dd k0 k1 k2 k3 k5 newId)) := by
  obtain ⟨bm, ns, nm, qn, bs, hd, sn, sub, ab, col, dd, k0, k1, k2, k3, k5, mN, hC, hN, hni, T⟩ := ecls_obj ok.mod.kin q
  exact ⟨bm, ns, nm, qn, bs, hd, sn, sub, ab, col, dd, k0, k1, k2, k3, k5, mN, hni, fun s st => ⟨st _ _ hC, hN.keeps st, T.keeps st⟩⟩
theorem ps_raiseK {X : Cx} {E : XK} {x : Str} {C : Addr} {np cpos pos : Pos} {e₀ : Expr} {rest : List Expr} {t : TA} (hc : X.calm = true) (Z : ECls X.K X.mg x C) (ha : PA (X.wish (BodyK X E)) (e₀ :: rest) t)
    (hg : Gl X x := by rfl) (hdb : (x == ("__debug__" : Str)) = false := by decide) (he : starEach (e₀ :: rest) X.env = (false, eval e₀ X.env) :: starEach rest X.env := by rfl) (hplain : (backTo cpos (starEach rest X.env)).any (·.1) = false := by rfl) :
    PS (X.wish (BodyK X E)) (.Raise (some (.Call (.Name x np) (e₀ :: rest) [] cpos)) none pos) (tRaise C t E) := by
  intro pins s σ H D I h
  obtain ⟨bmB, newId, Bn, initId, q, FB⟩ := Z.ex
  obtain ⟨bm, ns, nm, qn, bs, hd, sn, sub, ab, col, dd, k0, k1, k2, k3, k5, mN, hni, two⟩ := ecls_two (X := X) (E := fun _ _ => True) q I.unwish.ok
  have hA := ha cpos pins s σ H _ I h
  rw [show starEach (e₀ :: rest) (X.wish (BodyK X E)).env = (false, eval e₀ X.env) :: starEach rest X.env from he] at hA
  refine wpAny_Raise_call_subT (C := C) (nm := nm) (q := qn) (N := ns) (bs := bs) (bm := bm) (hdct := hd) (sn := sn) (sub := sub) (ab := ab) (col := col) (dd := dd) (k0 := k0) (k1 := k1) (k2 := k2) (k3 := k3) (k5 := k5)
    FB (mN := mN) ((two s I.unwish.bk).t.hasType FB.hasBase) (I.ok.hd hc) (by show (backTo cpos (starEach (e₀ :: rest) X.env)).any (·.1) = false; rw [he]; show (false || (backTo cpos (starEach rest X.env)).any (·.1)) = false; rw [hplain]; rfl) hni (ld_glob I hg Z.g ⟨rfl, ?_⟩ hdb)
  show wpAny _ _ (evalArgs (.ref C) true (backTo cpos (starEach (e₀ :: rest) X.env)) []) _ _ s
  rw [he]
  refine Calls.evalArgs_plain (wpAny_mono hA (fun us s2 h2 => ?_) fun _ _ y => y)
  obtain ⟨vs, H2, I2, r2, hz, hE⟩ := h2
  have J := I2.unwish
  obtain ⟨hC', hN', T'⟩ := two s2 J.bk
  refine ⟨rfl, by show us.length ≤ sizeLine; rw [← r2.length]; exact hz, hC', hN', T', fun h' a hx => ?_⟩
  have U : Un (frs X.stack) X.ex X.H₀ H2 X.s₀.heap s2.heap := J.base.mono (fun b hb => by
    rcases J.ok.stk with z | ⟨z, _⟩
    · rw [z]; exact hb
    · rw [z]; unfold frs; rw [List.filterMap_cons]; split
      · exact hb
      · exact List.mem_cons_of_mem _ hb) fun b hb => hb
  obtain ⟨t0, ht1, ht2, ht3⟩ := hx.there
  refine ⟨a, .ref C, H2, noFr s2.heap X.stack, rfl, ⟨J.os, J.bare, U.trans (Un.kept hx.keeps), J.hok.kept hx.keeps, ?_, ⟨_, .inl ⟨fun b o e => hx.keeps b o (of_noFr e), ?_, ?_, _, _, ht1, rfl, rfl, rfl, rfl⟩⟩, fun b o e hb he => ?_, fun b hb => ?_⟩, ⟨_, _, ht1, rfl, rfl⟩, hE⟩
  · cases z : H2 a with
    | none => rfl
    | some u =>
      obtain ⟨o, e⟩ := (J.hok a u z).obj
      rw [hx.new] at e; cases e
  · cases z : (noFr s2.heap X.stack).get? a with
    | none => rfl
    | some o => have := of_noFr z; rw [hx.new] at this; cases this
  · exact (noFr_frames J.stack).of_keeps fun b o e _ => ⟨o, hx.keeps b o e, rfl⟩
  · obtain ⟨o1, e1⟩ := U.there b o e he
    exact ⟨o1, hx.keeps b o1 e1, noFr_get e1 hb⟩
  · obtain ⟨u, hu⟩ := Option.ne_none_iff_exists'.mp hb
    obtain ⟨o, e⟩ := (J.hok b u hu).obj
    exact ⟨o, hx.keeps b o e, noFr_get e fun z => hb (J.stkFree b z)⟩
theorem Fun.okK {P : Program} {w : World} {K : PySem.W.Frag} {mg : Str → Option Value} {base : Heap} {x qual : Str} {st : Stmt} {f : Addr} {fd : FuncData} {N ps : List Str} {k : Nat} {sp : Sp} (F : Fun K x qual st f fd) (S : FnScope N ps (defScope st)) (len : ∀ vs H Q E, sp vs H Q E → vs.length = ps.length)
    (hbody : ∀ (cdv : Value) (A : Around) (outer : List Env) (s : Shared) (H : Hp) (vs : List V) (Q : VK) (E : XK), Room k (A.deeper (envOfC qual (defScope st) s.heap.objs.size f cdv)) → sp vs H Q E → Own (cxOf (CXk P w) P w K mg base N qual (defScope st) f cdv A outer s H E) →
      ∃ t, PSs ((cxOf (CXk P w) P w K mg base N qual (defScope st) f cdv A outer s H E).wish (BodyK (cxOf (CXk P w) P w K mg base N qual (defScope st) f cdv A outer s H E) E)) (defBody st) t ∧ t { nx := fun _ H' => Q .non H', rt := Q } (start N vs) H) : FnOk P w K mg base (CXk P w) (k + 1) f fd ps sp := by
  obtain ⟨oc, od, kV, doc, pm, an, cdv, ct, osl, rfl, lk, hcd⟩ := F.ex
  refine fn_of lk hcd S len fun A outer s H vs Q E hr hsp => ?_
  by_cases ok : (cxOf (CXk P w) P w K mg base N qual (defScope st) f cdv A outer s H E).Ok
  · obtain ⟨t, h, q⟩ := hbody cdv A outer s H vs Q E hr hsp ⟨ok, rfl, rfl, rfl⟩
    refine ⟨t, fun pins s1 σ H1 D I hw => ?_, q⟩
    refine wpAny_mono (h pins s1 σ H1 D (I.wish _) hw) (fun _ _ q => q.unwish) fun e s' hx => ?_
    obtain ⟨a, cls, H', B, rfl, x, hk, hE⟩ := hx
    have O : Own (cxOf (CXk P w) P w K mg base N qual (defScope st) f cdv A outer s H E) := ⟨I.ok, rfl, rfl, rfl⟩
    show wpAny (model P w) _ (leaving _ (.ref a)) _ _ s'
    refine sta_leaveK (outer := outer) I.ok.frames rfl x.sta hk fun h' a0 k1 k2 c => ?_
    refine ⟨a, cls, H', B, rfl, x.move k2 ⟨a0, .inr (.inl k1)⟩ (fun b hb => List.mem_cons_of_mem _ hb) O.loc fun b _ => by simp [cxOf], c, hE⟩
  · exact ⟨fun _ _ _ => True, fun pins s σ H D I _ => absurd I.ok ok, trivial⟩
section
variable {X : Cx}
theorem pe_fnK {E : XK} {x : Str} {st : Stmt} {ps : List Str} {f : Addr} {fd : FuncData} {k : Nat} {sp : Sp} {e : Expr} {es : List Expr} {t : TA} {p pos : Pos} (G : FnOk X.prog X.w X.K X.mg X.base (CXk X.prog X.w) k f fd ps sp) (F : Fn X.K X.mg x st ps f fd) (hr : Room k X.A) (ha : PA (X.wish (BodyK X E)) (e :: es) t)
    (hg : Gl (X.wish (BodyK X E)) x := by rfl) (hdb : (x == ("__debug__" : Str)) = false := by decide) (he : starEach (e :: es) X.env = (false, eval e X.env) :: starEach es X.env := by rfl) (hpl : (backTo pos (starEach es X.env)).any (·.1) = false := by rfl) :
    PE (X.wish (BodyK X E)) (.Call (.Name x p) (e :: es) [] pos) (tCall sp [] E t) := pe_call (X := X.wish (BodyK X E)) G hr hg F.g F.fn.kp F.b .nil passK ha hdb he hpl
end
noncomputable def PEK (X : Cx) (e : Expr) (t : XK → TE) : Prop :=
  ∀ (E : XK) (pins : List (Addr × Obj)) (s : Shared) (σ : St) (H : Hp) (Q : VK), Inv X pins σ H s → t E σ H Q →
    wpAny (model X.prog X.w) X.A (eval e X.env) (EP X pins σ Q) (fun e s' => ∃ H1 s1, Inv X pins σ H1 s1 ∧ CXk X.prog X.w X.stack H1 s1 E e s') s
theorem pek_fn {X : Cx} {x : Str} {st : Stmt} {ps : List Str} {f : Addr} {fd : FuncData} {k : Nat} {sp : Sp} {e : Expr} {es : List Expr} {t : TA} {p pos : Pos} (G : FnOk X.prog X.w X.K X.mg X.base (CXk X.prog X.w) k f fd ps sp) (F : Fn X.K X.mg x st ps f fd) (hr : Room k X.A) (ha : PA X.nox (e :: es) t)
    (hg : Gl X x := by rfl) (hdb : (x == ("__debug__" : Str)) = false := by decide) (he : starEach (e :: es) X.env = (false, eval e X.env) :: starEach es X.env := by rfl) (hpl : (backTo pos (starEach es X.env)).any (·.1) = false := by rfl) :
    PEK X (.Call (.Name x p) (e :: es) [] pos) (fun E => tCall sp [] E t) := by
  intro E pins s σ H Q I h
  refine wpAny_Call_Name_kw (ld_glob I hg F.g ?_ hdb)
  refine PySem.W.callWith_K (h₀ := X.base) I.ok.mod.kin F.fn.kp (quietX (ha pos pins s σ H _ (I.wish _) h) fun us s1 ⟨vs, H1, I1, r, q⟩ => ⟨I1.kIn, ?_⟩) he hpl
  have I1 := I1.unwish
  have q' : sp (vs ++ []) H1 Q E := q
  rw [List.append_nil] at q'
  have hl : us.length = ps.length := by rw [← r.length]; exact G.len _ _ _ _ q'
  have hb := F.b s1 us I1.kIn (by rw [List.append_nil]; exact hl)
  rw [List.append_nil] at hb
  refine wpAny_call (codeAny_mono (G.run X.A X.stack s1 H1 ⟨us, []⟩ us vs Q E hr I1.env0 hb r q') fun r s' hq => ?_)
  cases r with
  | error e => exact ⟨H1, s1, I1, hq⟩
  | ok fl =>
    cases fl with
    | ret u => exact I1.after hq
    | next => exact False.elim hq
    | brk => exact False.elim hq
    | cont => exact False.elim hq
end L2

namespace L2
open PySem PySem.Spec PyProof.Rows
theorem entry_unchain : entryFor table "proto.unchain" = some Builtin.«proto.unchain» := entryFor_of_fast (by kernel_rfl)
section
variable {prog : Program} {w : World} {A : Around} {E : Value → Shared → Prop} {env : Env}
theorem unchain_cln {s : Shared} {e : Value} {ah : Addr} {Q : Value → Shared → Prop} (c : Cln s.heap ah) (h : Q .none s) : wpAny (model prog w) A (runValue (.builtin "proto.unchain" ⟨[e, .ref ah, .ref ah, .bool false], []⟩)) Q E s := by
  obtain ⟨oe, vs, h1, h2, h3⟩ := c
  refine wpAny_runValue (codeAny_builtin entry_unchain ?_)
  unfold Builtin.«proto.unchain»
  dsimp only
  refine wpAny_bind (wpAny_field h1 h2 h3 ?_)
  rw [if_pos (by rfl)]
  wp_walk
  exact h
noncomputable def chd (h : Heap) (e ah : Addr) : Heap := ((h.update e (Obj.mapFields (·.setIfInBounds 3 Value.none))).update e (Obj.mapFields (·.setIfInBounds 4 (Value.bool true)))).update e (Obj.mapFields (·.setIfInBounds 2 (Value.ref ah)))
theorem chd_self {h : Heap} {e ah t : Addr} {cls : Value} (he : h.get? e = some { cls := cls, data := .fields #[.ref t, .none, .none, .none, .bool false, .none] }) : (chd h e ah).get? e = some { cls := cls, data := .fields #[.ref t, .none, .ref ah, .none, .bool true, .none] } := by
  have h1 := Heap.get?_update_self (Obj.mapFields (·.setIfInBounds 3 Value.none)) he (Obj.isFreed_of_fields (Obj.data_mapFields rfl _))
  have h2 := Heap.get?_update_self (Obj.mapFields (·.setIfInBounds 4 (Value.bool true))) h1 (Obj.isFreed_of_fields (Obj.data_mapFields (Obj.data_mapFields rfl _) _))
  have h3 := Heap.get?_update_self (Obj.mapFields (·.setIfInBounds 2 (Value.ref ah))) h2 (Obj.isFreed_of_fields (Obj.data_mapFields (Obj.data_mapFields (Obj.data_mapFields rfl _) _) _))
  exact h3
theorem chd_other {h : Heap} {e ah b : Addr} (ne : b ≠ e) : (chd h e ah).get? b = h.get? b := by
  unfold chd
  rw [Heap.get?_update_other _ _ (Ne.symm ne), Heap.get?_update_other _ _ (Ne.symm ne), Heap.get?_update_other _ _ (Ne.symm ne)]
end
section
variable {prog : Program} {w : World} {A : Around} {E : Value → Shared → Prop} {env : Env}
variable {nm q : Str} {C N : Addr} {bs bm bmB : List Value} {hdct : Bool} {sn : List Str} {sub : List Value} {ab : Bool} {col : Option Bool} {dd : Option Addr} {k0 k1 k2 k3 k5 : Option Value} {B newId initId : String}
theorem raiseStmt_none {s : Shared} {ah : Addr} {x c : Sem Value} {Q : Flow → Shared → Prop} (hbase : bm.contains (.type "BaseException") = true) (hh : A.handled = some (.ref ah)) (hc : ∀ (s₁ : Shared) (Q' : Value → Shared → Prop), Q' .none s₁ → wpAny (model prog w) A c Q' E s₁)
    (h : wpAny (model prog w) A x (fun v s₁ => ∃ e t, v = .ref e ∧ s₁.heap.get? C = some (excClassObj nm q C N bs bm hdct sn sub ab col dd k0 k1 k2 k3 k5 newId) ∧
      s₁.heap.get? e = some { cls := .ref C, data := .fields #[.ref t, .none, .none, .none, .bool false, .none] } ∧ ah ≠ e ∧ C ≠ e ∧ Cln s₁.heap ah ∧ E (.ref e) { s₁ with heap := chd s₁.heap e ah }) E s) :
    wpAny (model prog w) A (raiseStmt env (some x) (some c)) Q E s := by
  have hcB : (Value.ref C :: bm).contains (.type "BaseException") = true := by rw [List.contains_cons, hbase, Bool.or_true]
  unfold raiseStmt
  refine wpAny_bind (wpAny_mono h (fun v s₁ h₁ => ?_) fun _ _ x => x)
  obtain ⟨e, t, rfl, hC, he, ne, nC, hk, hE⟩ := h₁
  obtain ⟨hp, g, d, tk, os⟩ := s₁
  refine wpAny_bind (wpAny_holding (hc _ _ ?_))
  refine wpAny_bind (wpAny_pure ?_)
  refine wpAny_bind (wpAny_holding ?_)
  unfold excFromValue
  repeat (first | with_reducible refine wpAny_loadPart_at he ?_ | with_reducible refine wpAny_loadPart_at hC ?_ | (with_reducible refine wpAny_isSubtype_exc hC ?_; rw [hcB]) | wp_step)
  unfold raiseNew
  refine wpAny_bind (wpAny_handled ?_)
  rw [hh]
  have f1 := Heap.get?_update_self (Obj.mapFields (·.setIfInBounds 3 Value.none)) he (Obj.isFreed_of_fields (Obj.data_mapFields rfl _))
  have f2 := Heap.get?_update_self (Obj.mapFields (·.setIfInBounds 4 (Value.bool true))) f1 (Obj.isFreed_of_fields (Obj.data_mapFields (Obj.data_mapFields rfl _) _))
  dsimp only
  rw [if_pos (by rw [bne_iff_ne]; intro z; injection z with z; exact ne z)]
  refine wpAny_bind (wpAny_holding (unchain_cln (hk.keep fun o q => ?_) ?_))
  · show ((hp.update e (Obj.mapFields fun x => x.setIfInBounds 3 Value.none)).update e (Obj.mapFields fun x => x.setIfInBounds 4 (Value.bool true))).get? ah = some o
    rw [Heap.get?_update_other _ _ (Ne.symm ne), Heap.get?_update_other _ _ (Ne.symm ne)]
    exact q
  · refine wpAny_bind (wpAny_setField (a := e) (i := 2) (x := .ref ah) f2 rfl (by show 2 < _; simp) (wpAny_throw ?_))
    exact hE
theorem Raise_none {s : Shared} {ah : Addr} (F : ExcBaseFacts B newId initId bmB) {mN : Str → Option Value} {x : Str} {np cpos pos npos : Pos} {j} {args : List Expr} {Q : Flow → Shared → Prop}
    (hbase : bm.contains (.type "BaseException") = true) (hh : A.handled = some (.ref ah)) (hplain : (backTo cpos (starEach args env)).any (·.1) = false) (hni : mN "__init__" = none)
    (h : wpAny (model prog w) A (eval (.Name x np) env) (fun f s₁ => f = .ref C ∧ wpAny (model prog w) A (evalArgs (.ref C) true (backTo cpos (starEach args env)) [])
      (fun a s₂ => a.kw = [] ∧ a.pos.length ≤ sizeLine ∧ s₂.heap.get? C = some (excClassObj nm q C N bs bm hdct sn sub ab col dd k0 k1 k2 k3 k5 newId) ∧ s₂.heap.Ns N mN ∧ OwnTail s₂.heap bmB bm ∧ Cln s₂.heap ah ∧
        ∀ h' e, Heap.MadeExcOf s₂.heap h' e (.ref C) a.pos → E (.ref e) { s₂ with heap := chd h' e ah }) E s₁) E s) :
    wpAny (model prog w) A (exec (.Raise (some (.Call (.Name x np) args [] cpos)) (some (.Constant .none j npos)) pos) env) Q E s := by
  rw [arm_exec_Raise]
  simp only [evalOpt, Option.map]
  refine wpAny_bind (wpAny_standAt (raiseStmt_none (ah := ah) (C := C) (nm := nm) (q := q) (N := N) (bs := bs) (bm := bm) (hdct := hdct) (sn := sn) (sub := sub) (ab := ab) (col := col) (dd := dd) (k0 := k0) (k1 := k1) (k2 := k2) (k3 := k3) (k5 := k5) (newId := newId) hbase hh (fun s₁ Q' hq => wpAny_bind (wpAny_Constant_none (wpAny_bind (wpAny_standAt (wpAny_pure hq))))) (wpAny_bind (wpAny_mono (wpAny_Call_ofName (wpAny_mono h (fun f s₁ h₁ => ?_) fun _ _ x => x)) (fun v s₃ h₃ => wpAny_bind (wpAny_standAt (wpAny_pure h₃))) fun _ _ x => x))))
  obtain ⟨rfl, h₁⟩ := h₁
  unfold callWith
  refine wpAny_bind (wpAny_holding (wpAny_mono h₁ (fun a s₂ h₂ => wpAny_bind (wpAny_standAt ?_)) fun _ _ x => x))
  obtain ⟨apos, akw⟩ := a
  obtain ⟨hkw, hlen, hC, hn, T, hk, h₂⟩ := h₂
  obtain rfl : akw = [] := hkw
  obtain ⟨hp, g, d, tk, os⟩ := s₂
  simp only [hplain]
  refine wpAny_bind (wpAny_keeperOf_exc hC ?_)
  refine wpAny_bind (wpAny_call_exc_subT (hrest := hlen) F T hC hn hni fun h' e hm => wpAny_bind (wpAny_holding (wpAny_point (wpAny_pure ?_))))
  obtain ⟨t, ht, _, _⟩ := hm.there
  have nw : ∀ b o, hp.get? b = some o → b ≠ e := fun b o hb z => by rw [z, hm.new] at hb; cases hb
  obtain ⟨ok, vk, e1, _, _⟩ := id hk
  exact ⟨e, t, rfl, hm.keeps _ _ hC, ht, nw _ _ e1, nw _ _ hC, hk.keep fun o q => hm.keeps _ _ q, h₂ h' e hm⟩
end
theorem ps_raiseN {X : Cx} {E : XK} {x : Str} {C ah : Addr} {oh : Obj} {vh : Array Value} {np cpos pos npos : Pos} {j} {e₀ : Expr} {rest : List Expr} {t : TA} (hd1 : oh.data = .fields vh) (hd2 : vh[2]? = some .none) (Z : ECls X.K X.mg x C) (ha : PA ((cxSuite X ah oh).wish (BodyX X E)) (e₀ :: rest) t)
    (hg : Gl X x := by rfl) (hdb : (x == ("__debug__" : Str)) = false := by decide) (he : starEach (e₀ :: rest) X.env = (false, eval e₀ X.env) :: starEach rest X.env := by rfl) (hplain : (backTo cpos (starEach rest X.env)).any (·.1) = false := by rfl) :
    PS ((cxSuite X ah oh).wish (BodyX X E)) (.Raise (some (.Call (.Name x np) (e₀ :: rest) [] cpos)) (some (.Constant .none j npos)) pos) (tRaise C t E) := by
  intro pins s σ H D I h
  obtain ⟨bmB, newId, Bn, initId, q, FB⟩ := Z.ex
  obtain ⟨bm, ns, nm, qn, bs, hd, sn, sub, ab, col, dd, k0, k1, k2, k3, k5, mN, hni, two⟩ := ecls_two (X := cxSuite X ah oh) (E := fun _ _ => True) q I.unwish.ok
  have hA := ha cpos pins s σ H _ I h
  rw [show starEach (e₀ :: rest) ((cxSuite X ah oh).wish (BodyX X E)).env = (false, eval e₀ X.env) :: starEach rest X.env from he] at hA
  refine Raise_none (ah := ah) (C := C) (nm := nm) (q := qn) (N := ns) (bs := bs) (bm := bm) (hdct := hd) (sn := sn) (sub := sub) (ab := ab) (col := col) (dd := dd) (k0 := k0) (k1 := k1) (k2 := k2) (k3 := k3) (k5 := k5)
    FB (mN := mN) ((two s I.unwish.bk).t.hasType FB.hasBase) rfl (by show (backTo cpos (starEach (e₀ :: rest) X.env)).any (·.1) = false; rw [he]; show (false || (backTo cpos (starEach rest X.env)).any (·.1)) = false; rw [hplain]; rfl) hni (ld_glob I hg Z.g ⟨rfl, ?_⟩ hdb)
  show wpAny _ _ (evalArgs (.ref C) true (backTo cpos (starEach (e₀ :: rest) X.env)) []) _ _ s
  rw [he]
  refine Calls.evalArgs_plain (wpAny_mono hA (fun us s2 h2 => ?_) fun _ _ y => y)
  obtain ⟨vs, H2, I2, r2, hz, hE⟩ := h2
  have J := I2.unwish
  obtain ⟨hC', hN', T'⟩ := two s2 J.bk
  obtain ⟨p1, _⟩ := J.pin (ah, oh) (List.mem_append_left _ (List.mem_append_right _ (List.mem_singleton.mpr rfl)))
  refine ⟨rfl, by show us.length ≤ sizeLine; rw [← r2.length]; exact hz, hC', hN', T', ⟨oh, vh, p1, hd1, hd2⟩, fun h' a hx => ?_⟩
  have U : Un (frs X.stack) X.ex X.H₀ H2 X.s₀.heap s2.heap := J.base.mono (fun b hb => by
    rcases J.ok.stk with z | ⟨z, _⟩
    · rw [show X.stack = _ from z]; exact hb
    · rw [show X.stack = _ from z]; unfold frs; rw [List.filterMap_cons]; split
      · exact hb
      · exact List.mem_cons_of_mem _ hb) fun b hb => hb
  obtain ⟨t0, ht1, ht2, ht3⟩ := hx.there
  have kp : ∀ b o, s2.heap.get? b = some o → (chd h' a ah).get? b = some o := fun b o e => by
    rw [chd_other (fun z => by rw [z, hx.new] at e; cases e)]
    exact hx.keeps b o e
  have he1 := chd_self (ah := ah) ht1
  refine ⟨a, .ref C, H2, noFr s2.heap X.stack, rfl, ⟨J.os, J.bare, U.trans (Un.kept kp), J.hok.kept kp, ?_, ⟨_, .inl ⟨fun b o e => kp b o (of_noFr e), ?_, ?_, _, _, he1, rfl, rfl, rfl, rfl⟩⟩, fun b o e hb he => ?_, fun b hb => ?_⟩, hE⟩
  · cases z : H2 a with
    | none => rfl
    | some u =>
      obtain ⟨o, e⟩ := (J.hok a u z).obj
      rw [hx.new] at e; cases e
  · cases z : (noFr s2.heap X.stack).get? a with
    | none => rfl
    | some o => have := of_noFr z; rw [hx.new] at this; cases this
  · exact (noFr_frames J.stack).of_keeps fun b o e _ => ⟨o, kp b o e, rfl⟩
  · obtain ⟨o1, e1⟩ := U.there b o e he
    exact ⟨o1, kp b o1 e1, noFr_get e1 hb⟩
  · obtain ⟨u, hu⟩ := Option.ne_none_iff_exists'.mp hb
    obtain ⟨o, e⟩ := (J.hok b u hu).obj
    exact ⟨o, kp b o e, noFr_get e fun z => hb (J.stkFree b z)⟩
end L2

namespace L2
open PySem PySem.Spec PyProof.Rows
noncomputable def tTryK (K : PySem.W.Frag) (t : XK → TE) (c : Value) (tb : TS) : TS := fun D σ H => ∃ E : XK, t E σ H D.rt ∧ ∀ cls H', E cls none H' → PySem.W.exmOne K cls c = some true ∧ tb D σ H'
theorem suite_passes {X : Cx} {E : XK} {A' : Around} (O : Own X) (hfr' : A'.frames = some (X.env :: X.outer)) : PassesOwnAt (model X.prog X.w) A' X.A X.env (BodyX X E) := fun e s' h => by
  obtain ⟨a, cls, H', B, rfl, x, hE⟩ := h
  have hfr : X.A.frames = some (X.env :: X.outer) := by rw [← O.top]; exact O.ok.frames
  have st := x.sta
  rw [O.top] at st
  show wpAny _ _ (noteFrame (.ref a) X.env) _ _ s'
  refine sta_note hfr' O.fr st fun h1 a0 k1 k2 => ?_
  have x1 : XAt X.prog X.w X.stack X.ex X.H₀ X.s₀ B a cls H' { s' with heap := h1 } := x.move k2 (by rw [O.top]; exact ⟨a0, .inr (.inr ⟨_, _, _, rfl, O.fr, k1⟩)⟩) (fun b hb => hb) (fun b o _ hb => hb) fun b _ => by rw [O.ex]; simp
  refine held_back (s := { s' with heap := h1 }) O.fr k1 fun h2 k3 k4 => ?_
  exact ⟨a, cls, H', B, rfl, x1.move k4 (by rw [O.top]; exact ⟨a0, .inr (.inr ⟨_, _, _, rfl, O.fr, k3⟩)⟩) (fun b hb => hb) (fun b o _ hb => hb) fun b _ => by rw [O.ex]; simp, hE⟩
theorem ps_try0K {X : Cx} {E0' : XK} {ce : Expr} {epos hpos pos np : Pos} {x : Str} {b₀ : Stmt} {suite : List Stmt} {t : XK → TE} {C : Addr} {tb : TS} (O : Own X)
    (hm : X.mg x = some (.ref C)) (hc : PEK X ce t) (hb : ∀ a oe vs, oe.data = .fields vs → vs[2]? = some .none → PSs ((cxSuite X a oe).wish (BodyX X E0')) (b₀ :: suite) tb) (hg : Gl X x := by rfl) (hdb : (x == ("__debug__" : Str)) = false := by decide) :
    PS (X.wish (BodyX X E0')) (.Try [.Return (some ce) epos] [.ExceptHandler (some (.Name x np)) none (b₀ :: suite) hpos] [] [] pos) (tTryK X.K t (.ref C) tb) := by
  intro pins s σ H D I h
  have I := I.unwish
  obtain ⟨E, hbody, hcatch⟩ := h
  have hfr : X.A.frames = some (X.env :: X.outer) := by rw [← O.top]; exact O.ok.frames
  show wpAny (model X.prog X.w) X.A (exec _ X.env) (SP (X.wish (BodyX X E0')) pins D) (BodyX X E0') s
  refine wpAny_Try_except (wpAny_execs_cons (wpAny_Return_some (wpAny_mono (hc E pins s σ H _ I hbody) (fun v s1 ⟨y, H1, I1, r1, q1⟩ => ?_) fun e s' hx => ?_)))
  · exact (show SP (X.wish (BodyX X E0')) pins D (.ret v) s1 from ⟨y, σ, H1, I1.wish _, r1, q1⟩)
  · obtain ⟨H1, s1, I1, a, cls, H', B, rfl, x0, hk, hE⟩ := hx
    obtain ⟨hexm, hsuite⟩ := hcatch cls H' hE
    have st := x0.sta
    rw [O.top] at st
    have noex : ∀ b ∈ frs X.stack, b ∉ ([] : List Addr) := fun b _ => by simp
    refine sta_noteK hfr O.fr st hk fun h4 a0 k4 u4 c4 => ?_
    have x4 := x0.move (l' := X.stack) u4 (by rw [O.top]; exact ⟨a0, .inr (.inr ⟨_, _, _, rfl, O.fr, k4⟩)⟩) (fun b hb => hb) (fun b o _ hb => hb) noex
    refine land_cln (s := { s' with heap := h4 }) (v := .none) (l := X.env :: X.outer) (k := none) k4.1 k4.2.2.1 k4.2.2.2 c4 fun h5 l1 l2 l3 u5 c5 => ?_
    have k5 : Heap.FlyingW B (X.env :: X.outer) a cls a0 h5 := ⟨l1, k4.2.1, l2, l3⟩
    have x5 := x4.move (l' := X.stack) u5 (by rw [O.top]; exact ⟨a0, .inr (.inl k5)⟩) (fun b hb => hb) (fun b o _ hb => hb) noex
    have I5 : Inv X pins σ H' { s' with heap := h5 } := I1.call' (ch := []) x5.os x5.un x5.hok x5.bare fun b hb => absurd hb (by simp)
    have mk : ∀ {h6 : Heap}, Heap.FlyingW B (X.env :: X.outer) a cls a0 h6 → XAt X.prog X.w X.stack [] H1 s1 B a cls H' { s' with heap := h6 } → ∃ oe, h6.get? a = some oe ∧ oe.cls = cls ∧ Inv (cxSuite X a oe) pins σ H' { s' with heap := h6 } := fun {h6} k6 x6 => by
      obtain ⟨oe, vs, e1, e2, e3, _⟩ := k6.first
      have I6 : Inv X pins σ H' { s' with heap := h6 } := I1.call' (ch := []) x6.os x6.un x6.hok x6.bare fun b hb => absurd hb (by simp)
      refine ⟨oe, e1, e2, I6.suite e1 x6.na (fun z => ?_) (fun z => ?_) fun v z => by rw [e3] at z; cases z⟩
      · obtain ⟨m, ⟨o', es, ep, ho', hd', _⟩, _⟩ := I6.loc
        rw [← z] at ho'
        have ho' : h6.get? a = some o' := ho'
        rw [e1] at ho'; cases ho'
        rw [e3] at hd'; cases hd'
      · obtain ⟨_, o', ho', hd'⟩ := I6.funs.mem z
        have ho' : h6.get? a = some o' := ho'
        rw [e1] at ho'; cases ho'
        exact hd' _ e3
    obtain ⟨oe5, e51, e52, J5⟩ := mk k5 x5
    refine wpAny_handleBy_cons (codeAny_handlers_test (ld_glob (X := cxSuite X a oe5) J5 hg hm ?_ hdb)) (by intro q; cases q)
    have LT : PySem.W.Looks (model X.prog X.w) h5 (typeOf (.ref a)) cls := by
      have z : PySem.W.Looks (model X.prog X.w) h5 (typeOf (.ref a)) oe5.cls := (PySem.W.Looks.ld (M := model X.prog X.w) e51).andThen .now
      rw [e52] at z
      exact z
    refine (PySem.W.exm_one (M := model X.prog X.w) (h := h5) I5.kIn LT hexm).at ?_
    show codeAny _ _ _ _ _
    refine codeAny_handlers_suite ?_
    refine land_cln (s := { s' with heap := h5 }) (v := .none) (l := X.env :: X.outer) (k := none) l1 l2 l3 c5 fun h6 m1 m2 m3 u6 c6 => ?_
    have k6 : Heap.FlyingW B (X.env :: X.outer) a cls a0 h6 := ⟨m1, k4.2.1, m2, m3⟩
    have x6 := x5.move (l' := X.stack) u6 (by rw [O.top]; exact ⟨a0, .inr (.inl k6)⟩) (fun b hb => hb) (fun b o _ hb => hb) noex
    obtain ⟨oe, e61, e62, J6⟩ := mk k6 x6
    obtain ⟨ok, vk, d1, d2, d3⟩ := c6
    have d1 : h6.get? a = some ok := d1
    rw [e61] at d1
    cases d1
    refine wpAny_mono (hb a oe vk d2 d3 pins _ σ H' _ (J6.wish _) hsuite) (fun f s8 q8 => ?_) fun e8 s8 hx => ?_
    · cases f with
      | next => obtain ⟨σ8, H8, J8, q8⟩ := q8; exact ⟨σ8, H8, (J8.unwish.unsuite O.ok).wish _, q8⟩
      | brk => obtain ⟨σ8, H8, J8, q8⟩ := q8; exact ⟨σ8, H8, (J8.unwish.unsuite O.ok).wish _, q8⟩
      | cont => obtain ⟨σ8, H8, J8, q8⟩ := q8; exact ⟨σ8, H8, (J8.unwish.unsuite O.ok).wish _, q8⟩
      | ret u => obtain ⟨v8, σ8, H8, J8, r8, q8⟩ := q8; exact ⟨v8, σ8, H8, (J8.unwish.unsuite O.ok).wish _, r8, q8⟩
    · exact suite_passes (A' := X.A.mark (some (.ref a))) O hfr e8 s8 hx
end L2

namespace Sx
open PySem L2 Mir
theorem split_two {c : Nat} : ∀ {l p : List Nat} {q : List (List Nat)}, splitL c l = p :: q → (∀ w ∈ q, w ≠ []) → 2 * (q.length + 1) ≤ l.length + 1 + (if p = [] then 1 else 0)
  | [], p, q, e, h => by
    have e : [[]] = p :: q := e
    cases e
    decide
  | a :: r, p, q, e, h => by
    unfold splitL at e
    split at e
    · cases e
      cases hs : splitL c r with
      | nil => exact absurd hs (splitL_ne c r)
      | cons p' q' =>
        rw [hs] at h
        have i := split_two hs fun w hw => h w (List.mem_cons_of_mem _ hw)
        rw [if_neg (h p' List.mem_cons_self)] at i
        rw [if_pos rfl, List.length_cons, List.length_cons]
        omega
    · cases hs : splitL c r with
      | nil => exact absurd hs (splitL_ne c r)
      | cons p' q' =>
        rw [hs] at e
        cases e
        have i := split_two hs h
        rw [if_neg (by simp), List.length_cons]
        split at i <;> omega
theorem split_half {c : Nat} {l : List Nat} (h : ∀ w ∈ splitL c l, w ≠ []) : 2 * (splitL c l).length ≤ l.length + 1 := by
  cases hs : splitL c l with
  | nil => exact absurd hs (splitL_ne c l)
  | cons p q =>
    rw [hs] at h
    have i := split_two hs fun w hw => h w (List.mem_cons_of_mem _ hw)
    rw [if_neg (h p List.mem_cons_self)] at i
    rw [List.length_cons]
    omega
theorem rdM_nil {b : Nat} (hb : b ≤ 100) : rdM b [] = none := by
  cases h : rdM b [] with
  | none => rfl
  | some m =>
    obtain ⟨h1, h2⟩ := rdM_of h
    have z : ∀ m, m < 100 → dg m ≠ [] := by decide +kernel
    exact absurd h2 (z m (by omega))
theorem stp_nil {b : Nat} (hb : b ≤ 100) (s : Chs × Option Bool) : stp b s [] = none := by
  unfold stp
  split
  · rfl
  · unfold go rdS
    rw [show isCl _ [] = false from rfl]
    rw [show (if (false : Bool) = true then ([] : List Nat).dropLast else []) = [] from rfl, if_neg (by simp), rdM_nil hb]
    rfl
theorem rdC_ne {b : Nat} (hb : b ≤ 100) : ∀ {ws : List (List Nat)} {s : Chs × Option Bool} {out : Chs}, rdC b s ws = some out → ∀ w ∈ ws, w ≠ []
  | [], _, _, _, w, hw => by cases hw
  | v :: ws, s, out, h, w, hw => by
    unfold rdC at h
    obtain ⟨s', h1, h2⟩ := Option.bind_eq_some_iff.mp h
    rcases List.mem_cons.mp hw with e | e
    · rw [e]
      intro z
      rw [z, stp_nil hb] at h1
      cases h1
    · exact rdC_ne hb h2 w e
theorem snd00 : Snd ([], none) := ⟨fun c hc => (by cases hc), fun k hk => (by cases hk)⟩
theorem out_len {b : Nat} (hb : b ≤ 100) {z : Str} {out : Chs} (h : rdC b ([], none) (wordsL z) = some out) (hz : z.length ≤ 1999) : (endsO out).length ≤ 1000 ∧ out.length ≤ 1000 ∧ ∀ c ∈ out, c.2 ≠ [] := by
  obtain ⟨i1, _, i3, i4⟩ := rdC_snd snd00 h
  have e0 : (endsO ([] : Chs)).length = 0 := rfl
  have i3 : (endsO out).length = 0 + (wordsL z).length := i3
  have i4 : out.length ≤ 0 + (wordsL z).length := i4
  have w : (wordsL z).length ≤ 1000 := by
    by_cases hd : tl z = [46]
    · have e : wordsL z = [] := if_pos hd
      rw [e]
      exact Nat.zero_le _
    · have e : wordsL z = splitL 32 (tl z) := if_neg hd
      rw [e] at h ⊢
      have y := split_half (rdC_ne hb h)
      have t := len_tl z
      omega
  exact ⟨by omega, by omega, i1⟩
theorem sel_len2 (out : Chs) : (sel true out).length + (sel false out).length = out.length := by
  have h := (Mt.sel_perm out).length_eq
  rw [List.length_append, List.length_map] at h
  exact h
noncomputable def spWorkY (C : Addr) : Sp := fun vs H Q E => ∃ z : Str, vs = [.str z] ∧ Ascii z ∧ z.length ≤ 1999 ∧
  (∀ ms, workZ z = some ms → ∀ (l : Addr) (H' : Hp), Same H H' → H' l = some (.tup (nV ms)) → Q (.ref l) H') ∧ (workZ z = none → ∀ H', Same H H' → E (.ref C) none H')
end Sx

namespace L2
open PySem PySem.Spec PyProof.Rows
theorem iteBT {b : Bool} {A B : Prop} (hb : b = true) (h : A) : if b = true then A else B := by rw [if_pos hb]; exact h
theorem iteBF {b : Bool} {A B : Prop} (hb : b = false) (h : B) : if b = true then A else B := by rw [if_neg (by rw [hb]; decide)]; exact h
theorem for_str {z : Str} {g : TG} {tb : TS} {D : Ends} {σ : St} {H : Hp} (Pv : Nat → St → Hp → Prop) (h0 : Pv 0 σ H)
    (hs : ∀ i c σ H, z.cps[i]? = some c → Pv i σ H → g (.str ⟨#[c]⟩) σ H fun σ2 H2 => tb { D with nx := Pv (i + 1), ct := Pv (i + 1), bk := D.nx } σ2 H2) (hd : ∀ σ H, Pv z.length σ H → D.nx σ H) :
    ∃ W : Nat → Nat → St → Hp → Prop, (∃ m, W 0 m σ H) ∧ ∀ i m σ H, W i m σ H →
      ((Its z).stop i H ∧ D.nx σ H) ∨ ((Its z).go i H ∧ ∃ N : St → Hp → Prop, (∀ σ' H', N σ' H' → ∃ m', m' < m ∧ W (i + 1) m' σ' H') ∧ ∀ x H', (Its z).yld i H x H' → g x σ H' fun σ2 H2 => tb { D with nx := N, ct := N, bk := D.nx } σ2 H2) := by
  refine ⟨fun i m σ H => m = z.length - i ∧ i ≤ z.length ∧ Pv i σ H, ⟨z.length, by simp, Nat.zero_le _, h0⟩, ?_⟩
  rintro i m σ H ⟨rfl, hi, p⟩
  by_cases hlt : i < z.length
  · refine .inr ⟨hlt, Pv (i + 1), fun σ' H' p' => ⟨z.length - (i + 1), by omega, rfl, hlt, p'⟩, fun x H' y => ?_⟩
    obtain ⟨e, c, hc, rfl⟩ := y
    subst e
    exact hs i c σ _ hc p
  · have e : i = z.length := by omega
    subst e
    exact .inl ⟨Nat.le_refl _, hd σ H p⟩
end L2
namespace Sx
open PySem L2 Mir
noncomputable def spLStave : Sp := fun vs H Q _ => ∃ z : Str, vs = [.str z] ∧ Ascii z ∧ z.length ≤ 2000 ∧ (∀ e, rdS 100 (tl z) = some e → ∀ H', Same H H' → Q (.int (e : Int)) H') ∧ (rdS 100 (tl z) = none → ∀ H', Same H H' → Q .non H')
theorem inV2 {n : Nat} (h1 : n ≠ 1) (h2 : n ≠ 2) : inV (.int (n : Int)) [.int 1, .int 2] = false := by
  unfold inV
  rw [List.any_eq_false]
  intro x hx
  rcases List.mem_cons.mp hx with e | hx
  · rw [e]
    show ¬ (decide ((1 : Int) = n)) = true
    rw [decide_eq_true_eq]
    omega
  · rw [List.mem_singleton.mp hx]
    show ¬ (decide ((2 : Int) = n)) = true
    rw [decide_eq_true_eq]
    omega
end Sx

namespace Sx
open PySem L2 Mir PySem.StrLaws
theorem slice_last {z : PySem.Str} (h : 1 ≤ z.length) : tl (Txt.slice z (some (-1)) none) = (tl z).drop ((tl z).length - 1) := by
  have e0 : Txt.slice z (some (-1)) none = sliceText z (some (-1 + (z.length : Int))) none := sliceText_neg_lo z none (i := -1) (by decide) (by omega)
  have e : sliceText z (some (-1 + (z.length : Int))) none = _ := sliceText_from (x := z) (i := -1 + (z.length : Int)) ⟨by omega, by have : z.cps.toList.length = z.length := rfl; omega⟩
  rw [e0, e]
  show (((tl z).drop (-1 + (z.length : Int)).toNat).take (((tl z).length : Int) - (-1 + (z.length : Int))).toNat) = _
  have l := len_tl z
  rw [show (-1 + (z.length : Int)).toNat = (tl z).length - 1 by omega]
  exact List.take_of_length_le (by rw [List.length_drop]; omega)
theorem last_eq {z : PySem.Str} {c : PySem.Str} {n : Nat} (hc : tl c = [n]) : V.str (Txt.slice z (some (-1)) none) = V.str c ↔ (tl z).getLast? = some n := by
  have k : V.str (Txt.slice z (some (-1)) none) = V.str c ↔ tl (Txt.slice z (some (-1)) none) = [n] := ⟨fun e => by injection e with e; rw [e, hc], fun e => congrArg V.str (ext (by rw [e, hc]))⟩
  rw [k]
  by_cases h : 1 ≤ z.length
  · rw [slice_last h]
    have l := len_tl z
    generalize tl z = L at *
    rw [List.getLast?_eq_getElem?]
    have hl : L.length - 1 < L.length := by omega
    rw [List.drop_eq_getElem_cons hl, List.getElem?_eq_getElem hl]
    rw [List.drop_of_length_le (by omega)]
    simp
  · have e0 : tl z = [] := List.length_eq_zero_iff.mp (by have := len_tl z; omega)
    have ez : z = PySem.Str.empty := ext (by rw [e0]; rfl)
    rw [e0]
    have : tl (Txt.slice z (some (-1)) none) = [] := by rw [ez]; decide +kernel
    rw [this]
    simp
noncomputable def RCL (H : Hp) (t : Addr) (c : Bool × List Nat) : Prop := H t = some (.lst (.str (opS c.1) :: nV c.2))
theorem RCL.updt {H : Hp} {ts : List Addr} {A : Chs} {b : Addr} {o : HO} (h : All2 (RCL H) ts A) (hb : b ∉ ts) : All2 (RCL (L2.upd H b o)) ts A := h.impM fun t c ht r => by
  have ne : t ≠ b := fun e => hb (by rw [← e]; exact ht)
  show L2.upd H b o t = _
  rw [upd_ne ne]
  exact r
theorem RCL.same {H H' : Hp} {ts : List Addr} {A : Chs} (h : All2 (RCL H) ts A) (s : Same H H') : All2 (RCL H') ts A := h.imp fun t c r => s _ _ r
theorem RCL.no {H : Hp} : ∀ {ts : List Addr} {A : Chs} {b : Addr}, All2 (RCL H) ts A → H b = none → b ∉ ts := fun {ts A b} h hb hm => by
  obtain ⟨i, hi⟩ := List.getElem?_of_mem hm
  obtain ⟨c, _, r⟩ := h.get hi
  unfold RCL at r
  rw [hb] at r
  cases r
theorem at_head (v : V) (xs : List V) : atI (v :: xs) 0 = some v := atI_of (k := 0) (by decide) rfl
theorem stp_op {A : Chs} {w : List Nat} {k : Bool} (h : w.head? = some (opC k)) : stp 100 (A, none) w = go 100 k (A ++ [(k, [])]) w.tail := by
  unfold stp
  cases k with
  | true => exact if_pos h
  | false =>
    have h : w.head? = some 40 := h
    show (if w.head? = some 91 then _ else if w.head? = some 40 then _ else none) = _
    rw [h, if_neg (by decide), if_pos rfl]
theorem stp_no {A : Chs} {w : List Nat} (h : ∀ k, w.head? ≠ some (opC k)) : stp 100 (A, none) w = none := by
  unfold stp
  show (if w.head? = some 91 then _ else if w.head? = some 40 then _ else none) = _
  have h1 : ¬ w.head? = some 91 := h true
  have h2 : ¬ w.head? = some 40 := h false
  rw [if_neg h1, if_neg h2]
theorem slice_no {z s : Str} {k : Bool} (h : ∀ k, (tl z).head? ≠ some (opC k)) : ¬ Txt.slice z none (some 1) = opS k := fun e => by
  have e := congrArg tl e
  rw [tl_op] at e
  by_cases hl : 1 ≤ z.length
  · rw [slice_to1 hl] at e
    refine h k ?_
    cases q : tl z with
    | nil => rw [q] at e; cases e
    | cons a r => rw [q] at e; rw [List.head?_cons]; exact congrArg some (List.cons.inj e).1
  · have e0 : tl z = [] := List.length_eq_zero_iff.mp (by have := len_tl z; omega)
    rw [slice_none e0] at e
    cases e
noncomputable def spLChains : Sp := fun vs H Q _ => ∃ z : Str, vs = [.str z] ∧ Ascii z ∧ z.length ≤ 1999 ∧
  (∀ out, rdC 100 ([], none) (splitL 32 (tl z)) = some out → ∀ (p : Addr) (ts : List Addr) (H' : Hp), Same H H' → H' p = some (.lst (refs ts)) → All2 (RCL H') ts out → Q (.ref p) H') ∧ (rdC 100 ([], none) (splitL 32 (tl z)) = none → ∀ H', Same H H' → Q .non H')
noncomputable def LInv (z : Str) (ws : List (List Nat)) (H : Hp) (p q : Addr) (xs : List V) (i : Nat) (σ : St) (H2 : Hp) : Prop := ∃ (st : Chs × Option Bool) (vc : V) (v3 v4 v5 : Option V) (ts : List Addr) (A : Chs), σ = [some (.str z), some (.ref p), some vc, v3, v4, v5] ∧
  rdC 100 ([], none) ws = rdC 100 st (ws.drop i) ∧ Same H H2 ∧ H2 p = some (.lst (refs ts)) ∧ p ∉ ts ∧ All2 (RCL H2) ts A ∧ A.length ≤ i ∧ H2 q = some (.lst xs) ∧
  (st = (A, none) ∧ vc = .non ∨ ∃ k l lc, st = (A ++ [(k, l)], some k) ∧ vc = .ref lc ∧ H lc = none ∧ lc ≠ p ∧ lc ≠ q ∧ lc ∉ ts ∧ H2 lc = some (.lst (.str (opS k) :: nV l)) ∧ l.length ≤ i)
noncomputable def LMid (z : Str) (ws : List (List Nat)) (H : Hp) (p q : Addr) (xs : List V) (i : Nat) (σ : St) (H2 : Hp) : Prop := ∃ (y : Str) (k : Bool) (l : List Nat) (lc : Addr) (v4 v5 : Option V) (ts : List Addr) (A : Chs), σ = [some (.str z), some (.ref p), some (.ref lc), some (.str y), v4, v5] ∧
  rdC 100 ([], none) ws = (go 100 k (A ++ [(k, l)]) (tl y)).bind (fun s' => rdC 100 s' (ws.drop (i + 1))) ∧ Ascii y ∧ y.length ≤ 2000 ∧ Same H H2 ∧ H2 p = some (.lst (refs ts)) ∧ p ∉ ts ∧ All2 (RCL H2) ts A ∧ A.length ≤ i ∧ H2 q = some (.lst xs) ∧
  H lc = none ∧ lc ≠ p ∧ lc ≠ q ∧ lc ∉ ts ∧ H2 lc = some (.lst (.str (opS k) :: nV l)) ∧ l.length ≤ i
theorem inVs {s : Str} : inV (.str s) [.str "[", .str "("] = decide (∃ k, s = opS k) := by
  have e : inV (.str s) [.str "[", .str "("] = (decide (("[" : Str) = s) || decide (("(" : Str) = s)) := by
    unfold inV
    show (_ || (_ || false)) = _
    rw [Bool.or_false]
    rfl
  rw [e, ← Bool.decide_or]
  refine decide_eq_decide.mpr ⟨fun h => ?_, fun ⟨k, h⟩ => ?_⟩
  · rcases h with h | h
    · exact ⟨true, h.symm⟩
    · exact ⟨false, h.symm⟩
  · cases k
    · exact .inr h.symm
    · exact .inl h.symm
end Sx

namespace L2
open PySem PySem.Spec PyProof.Rows
section
variable {X : Cx}
theorem op_ne_intsD (hu : X.A.units < cLine) : OpR X (compareOp .NotEq) (fun x y H Q => ∃ (a b : Addr) (ns ms : List Int), x = .ref a ∧ y = .ref b ∧ SqL X.K H a (ns.map V.int) ∧ SqL X.K H b (ms.map V.int) ∧ ns.length = ms.length ∧ Q (.bl (!decide (ns = ms))) H) := by
  intro pins s σ H x y v u Q I rx ry h
  obtain ⟨a, b, ns, ms, rfl, rfl, ha, hb, hl, q⟩ := h
  cases rx
  cases ry
  obtain ⟨i1, r1, p1, z1⟩ := I.list ha
  obtain ⟨i2, r2, p2, z2⟩ := I.list hb
  have l1 : ns.length = i1.length := by have z := r1.length; rwa [List.length_map] at z
  have l2 : ms.length = i2.length := by have z := r2.length; rwa [List.length_map] at z
  refine SeqAt.RcNeAt.lists (A := X.A) (e := fun j => ns.getD j 0 == ms.getD j 0) p1.isList p2.isList (by simp only [List.size_toArray]; omega) (by omega) (fun j q1 q2 => tup_items r1 r2 j q1 q2) X.prog X.w X.xe _ ⟨.bl (!decide (ns = ms)), H, I, ?_, q⟩
  show Value.bool _ = Value.bool _
  congr 1
  have z := tup_answer r1 r2
  have e : (i1.toArray.size == i2.toArray.size) = true := by simp only [List.size_toArray, beq_iff_eq]; omega
  have e2 : min i1.toArray.size i2.toArray.size = i1.toArray.size := by simp only [List.size_toArray]; omega
  rw [e, Bool.and_true, e2] at z
  rw [z]
end
end L2








set_option maxHeartbeats 2000000


set_option maxHeartbeats 2000000
namespace SrtR
open PySem PyProof.Rows
class RkP where
  G : Keyed → Prop
  nm : Keyed → Int
  kd : SortKind
variable [RkP]
end SrtR



set_option maxHeartbeats 4000000















namespace L2
open PySem
end L2

set_option maxHeartbeats 1000000

set_option maxHeartbeats 1000000









set_option maxHeartbeats 4000000








set_option maxHeartbeats 4000000













set_option maxHeartbeats 1000000

set_option maxHeartbeats 1000000

namespace Mir
open PySem L2
theorem cutV_from (xs : List V) (k : Nat) : cutV xs (some (k : Int)) none = xs.drop k := by
  unfold cutV
  rw [HT.sIx_none, HT.sIx_nat]
  by_cases h : k ≤ xs.length
  · rw [Nat.min_eq_left h, List.take_of_length_le (by rw [List.length_drop]; omega)]
  · rw [Nat.min_eq_right (by omega), List.drop_length, List.drop_eq_nil_of_le (by omega), List.take_nil]
end Mir

namespace Sx
open PySem L2 Mir
noncomputable def spLRead : Sp := fun vs H Q _ => ∃ z : Str, vs = [.str z] ∧ Ascii z ∧ z.length ≤ 1999 ∧
  (∀ ms, workZ z = some ms → ∀ (l : Addr) (H' : Hp), Same H H' → H' l = some (.lst (nV ms)) → Q (.ref l) H') ∧ (workZ z = none → ∀ H', Same H H' → Q .non H')
theorem once_lt {out : Chs} (h : OnceO out) : ∀ e ∈ endsO out, e < 80 := fun e he => by
  have z := h.2.subset (Mt.mem_half.mpr ⟨e, he, rfl⟩)
  have z := List.mem_range.mp z
  have := h.1
  omega
theorem workZ_dot {z : Str} (h : tl z = [46]) : workZ z = some [] := by
  have e : outO z = some [] := by
    unfold outO
    rw [show wordsL z = [] from if_pos h]
    rfl
  unfold workZ
  rw [e]
  exact if_pos ⟨Nat.zero_le _, List.Perm.refl _⟩
theorem workZ_none {z : Str} (h : tl z ≠ [46]) (e : rdC 100 ([], none) (splitL 32 (tl z)) = none) : workZ z = none := by
  have e2 : outO z = none := by
    unfold outO
    rw [show wordsL z = splitL 32 (tl z) from if_neg h]
    cases q : rdC 40 ([], none) (splitL 32 (tl z)) with
    | none => rfl
    | some out => rw [rdC_up q] at e; cases e
  unfold workZ
  rw [e2]
theorem workZ_some {z : Str} {out : Chs} (h : tl z ≠ [46]) (e : rdC 100 ([], none) (splitL 32 (tl z)) = some out) (o : OnceO out) : workZ z = some (Mt.workO out) := by
  have e2 : outO z = some out := by
    unfold outO
    rw [show wordsL z = splitL 32 (tl z) from if_neg h]
    exact rdC_dn snd0 e (once_lt o)
  unfold workZ
  rw [e2]
  exact if_pos o
theorem workZ_bad {z : Str} {out : Chs} (h : tl z ≠ [46]) (e : rdC 100 ([], none) (splitL 32 (tl z)) = some out) (o : ¬ OnceO out) : workZ z = none := by
  unfold workZ
  cases q : outO z with
  | none => rfl
  | some out' =>
    unfold outO at q
    rw [show wordsL z = splitL 32 (tl z) from if_neg h] at q
    have := rdC_up q
    rw [e] at this
    cases this
    exact if_neg o
theorem once_iff {out : Chs} (l40 : (endsO out).length ≤ 40) {ns : List Int} (p : ns.Perm (Mt.up (Mt.half (endsO out)))) (s : ns.Pairwise (· ≤ ·)) : ns = Mt.up (List.range (endsO out).length) ↔ OnceO out := by
  constructor
  · intro e
    rw [e] at p
    exact ⟨l40, (up_perm p).symm⟩
  · intro o
    refine List.Perm.eq_of_pairwise (le := fun a b : Int => a ≤ b) (fun a b _ _ h1 h2 => Int.le_antisymm h1 h2) s ?_ (p.trans (o.2.map _))
    unfold Mt.up
    refine List.Pairwise.map _ (R := fun (a b : Nat) => a < b) (fun a b hab => by omega) List.pairwise_lt_range
noncomputable def prK (c : Bool × List Nat) (j : Nat) : List (Nat × Nat) := if j = 0 then [] else (if c.1 then [] else [(Ch.far (Mt.lastN c.2), c.2.headD 0)]) ++ Mt.inN (c.2.take j)
theorem inN_snoc : ∀ (l : List Nat) (a b : Nat), Mt.inN (l ++ [a, b]) = Mt.inN (l ++ [a]) ++ [(Ch.far a, b)]
  | [], a, b => rfl
  | [x], a, b => rfl
  | x :: y :: r, a, b => by
    show (Ch.far x, y) :: Mt.inN ((y :: r) ++ [a, b]) = (Ch.far x, y) :: Mt.inN ((y :: r) ++ [a]) ++ _
    rw [inN_snoc (y :: r) a b]
    rfl
theorem prK_one {c : Bool × List Nat} {x : Nat} (h : c.2[0]? = some x) : prK c 1 = prK c 0 ++ (if c.1 then [] else [(Ch.far (Mt.lastN c.2), x)]) := by
  unfold prK
  cases q : c.2 with
  | nil => rw [q] at h; cases h
  | cons a r =>
    rw [q] at h
    have h : a = x := Option.some.inj h
    rw [if_neg (show ¬ (1 : Nat) = 0 by decide), if_pos rfl, h, List.nil_append]
    show (if c.1 = true then [] else [(Ch.far (Mt.lastN (x :: r)), x)]) ++ Mt.inN [x] = _
    rw [show Mt.inN [x] = [] from rfl, List.append_nil]
theorem prK_more {c : Bool × List Nat} {i x y : Nat} (h1 : c.2[i]? = some x) (h2 : c.2[i + 1]? = some y) : prK c (i + 2) = prK c (i + 1) ++ [(Ch.far x, y)] := by
  unfold prK
  rw [if_neg (show ¬ (i + 2 = 0) by omega), if_neg (show ¬ (i + 1 = 0) by omega), List.append_assoc]
  congr 1
  have e1 : c.2.take (i + 1) = c.2.take i ++ [x] := Mir.take_snoc h1
  have e2 : c.2.take (i + 2) = c.2.take i ++ [x, y] := by
    rw [show i + 2 = (i + 1) + 1 from rfl, Mir.take_snoc h2, e1, List.append_assoc]
    rfl
  rw [e1, e2, inN_snoc]
theorem prK_all {c : Bool × List Nat} (h : c.2 ≠ []) : prK c c.2.length = Mt.prC c := by
  unfold prK Mt.prC
  rw [if_neg (fun e => h (List.length_eq_zero_iff.mp e)), List.take_length]
theorem setP_len (ms : List Nat) : ∀ ps : List (Nat × Nat), (ps.foldl Mt.setP ms).length = ms.length
  | [] => rfl
  | p :: ps => by
    show (ps.foldl Mt.setP (Mt.setP ms p)).length = _
    have := setP_len (Mt.setP ms p) ps
    rw [this]
    unfold Mt.setP
    rw [List.length_set, List.length_set]
    termination_by ps => ps.length
theorem allP_snoc {out : Chs} {i : Nat} {c : Bool × List Nat} (h : out[i]? = some c) : Mt.allP (out.take (i + 1)) = Mt.allP (out.take i) ++ Mt.prC c := by
  unfold Mt.allP
  rw [Mir.take_snoc h, List.flatMap_append]
  simp
theorem ends_snoc {out : Chs} {i : Nat} {c : Bool × List Nat} (h : out[i]? = some c) : endsO (out.take (i + 1)) = endsO (out.take i) ++ c.2 := by
  unfold endsO
  rw [Mir.take_snoc h, List.map_append, List.flatten_append]
  simp
theorem ends_take_le (out : Chs) (i : Nat) : (endsO (out.take i)).length ≤ (endsO out).length := by
  unfold endsO
  conv => rhs; rw [← List.take_append_drop i out, List.map_append, List.flatten_append, List.length_append]
  omega
theorem ends_mem {out : Chs} {c : Bool × List Nat} {e : Nat} (h : c ∈ out) (he : e ∈ c.2) : e ∈ endsO out := by
  unfold endsO
  exact List.mem_flatten.mpr ⟨c.2, List.mem_map.mpr ⟨c, h, rfl⟩, he⟩
theorem far_lt {e n : Nat} (h : e < 2 * n) : Ch.far e < 2 * n := by
  unfold Ch.far
  split <;> omega
theorem rng_ok {n : Nat} (h : n ≤ 100) : (-(2 ^ 62) ≤ (0 : Int) ∧ (0 : Int) < 2 ^ 62 ∧ -(2 ^ 62) ≤ (n : Int) ∧ (n : Int) < 2 ^ 62) ∧ ((n : Int) - 0).toNat ≤ 2 ^ 20 := by
  have h1 : (101 : Int) < 2 ^ 62 := by decide +kernel
  have h2 : (101 : Nat) < 2 ^ 20 := by decide +kernel
  omega
theorem rng_nV (n : Nat) : rngV 0 ((n : Int) - 0).toNat = nV (List.range n) := by
  unfold rngV nV
  rw [show ((n : Int) - 0).toNat = n by omega]
  refine List.map_congr_left fun a _ => ?_
  show V.int (0 + (a : Int)) = V.int (a : Int)
  rw [Int.zero_add]
end Sx

namespace L2
open PySem
inductive StrD : List Expr → List Str → Prop
  | nil : StrD [] []
  | cons {x : Str} {j : Nat} {pos : Pos} {es : List Expr} {xs : List Str} : StrD es xs → StrD (.Constant (.str x) j pos :: es) (x :: xs)
noncomputable def tStrD (xs : List Str) : TA := fun _ H Q => Q (xs.map V.str) H
theorem pa_strD {X : Cx} {es : List Expr} {xs : List Str} (h : StrD es xs) : PA X es (tStrD xs) := by
  induction h with
  | nil => exact pa_nil
  | cons h ih => exact pa_cons pe_str ih
end L2
namespace Sx
open PySem L2 Mir
theorem slice_any (z : Str) (lo hi : Option Int) : (∀ c ∈ tl (Txt.slice z lo hi), c ∈ tl z) ∧ (Txt.slice z lo hi).length ≤ z.length := by
  show (∀ c ∈ tl (PySem.StrLaws.sliceText z lo hi), c ∈ tl z) ∧ (PySem.StrLaws.sliceText z lo hi).length ≤ z.length
  unfold PySem.StrLaws.sliceText
  split
  · exact ⟨fun c h => h, Nat.le_refl _⟩
  · refine ⟨fun c hc => ?_, ?_⟩
    · have hc : c ∈ (PySem.Builtin.Str.strSliceIndices lo hi 1 z.length).filterMap (z.cps[·]?) := hc
      obtain ⟨i, _, h2⟩ := List.mem_filterMap.mp hc
      have h2 : z.cps[i]? = some c := h2
      rw [← Array.getElem?_toList] at h2
      exact List.mem_of_getElem? h2
    · show ((PySem.Builtin.Str.strSliceIndices lo hi 1 z.length).filterMap (z.cps[·]?)).length ≤ _
      exact Nat.le_trans (List.length_filterMap_le _ _) (PyProof.Rows.indices_len_le lo hi z.length)
theorem Low.sl {b : Nat} {z : Str} (h : Low b z) (lo hi : Option Int) : Low b (Txt.slice z lo hi) := by
  obtain ⟨h1, h2⟩ := slice_any z lo hi
  exact ⟨ascii_of fun c hc => ascM h.1 c (h1 c hc), Nat.le_trans h2 h.2⟩
theorem Low.app {a b : Nat} {x y : Str} (h : Low a x) (k : Low b y) : Low (a + b) (x ++ y) := by
  refine ⟨ascii_of fun c hc => ?_, ?_⟩
  · rw [tl_app] at hc
    rcases List.mem_append.mp hc with q | q
    · exact ascM h.1 c q
    · exact ascM k.1 c q
  · rw [strLen_append]
    exact Nat.add_le_add h.2 k.2
theorem Low.mono {a b : Nat} {x : Str} (h : Low a x) (k : a ≤ b) : Low b x := ⟨h.1, Nat.le_trans h.2 k⟩
theorem Low.one {z : Str} (h : Ascii z) {i c : Nat} (e : z.cps[i]? = some c) : Low 1 ⟨#[c]⟩ := by
  refine ⟨ascii_of fun x hx => ?_, Nat.le_refl _⟩
  have hx : x ∈ [c] := hx
  rw [List.mem_singleton.mp hx]
  rw [← Array.getElem?_toList] at e
  exact ascM h c (List.mem_of_getElem? e)
theorem item_any {z : Str} (c : Int) (h : 0 < z.length) (hl : z.length ≤ 2000) : ∃ x, 0 ≤ c % ((z.length : Nat) : Int) ∧ c % ((z.length : Nat) : Int) < 2 ^ 63 ∧ c % ((z.length : Nat) : Int) < ((z.length : Nat) : Int) ∧ z.cps[(c % ((z.length : Nat) : Int)).toNat]? = some x := by
  have h1 := Int.emod_nonneg c (b := ((z.length : Nat) : Int)) (by omega)
  have h2 := Int.emod_lt_of_pos c (b := ((z.length : Nat) : Int)) (by omega)
  have h3 : (2001 : Int) < 2 ^ 63 := by decide +kernel
  have h4 : (c % ((z.length : Nat) : Int)).toNat < z.cps.size := by
    have : z.cps.size = z.length := rfl
    omega
  exact ⟨_, h1, by omega, h2, Array.getElem?_eq_getElem h4⟩
noncomputable def spSignBy : Sp := fun vs H Q _ => ∃ c : Int, vs = [.int c] ∧ ∀ s, Low 1 s → Q (.str s) H
noncomputable def spSpoiled : Sp := fun vs H Q _ => ∃ (z : Str) (c : Int) (b : Nat), vs = [.str z, .int c] ∧ Low b z ∧ b ≤ 990 ∧ ∀ z' H', Same H H' → Low (2 * b + 3) z' → Q (.str z') H'
noncomputable def wsum : List (List Nat) → Nat
  | [] => 0
  | w :: r => w.length + 1 + wsum r
theorem wsum_app : ∀ a b : List (List Nat), wsum (a ++ b) = wsum a + wsum b
  | [], b => by show wsum b = 0 + wsum b; omega
  | w :: r, b => by
    show w.length + 1 + wsum (r ++ b) = w.length + 1 + wsum r + wsum b
    rw [wsum_app r b]
    omega
theorem join_wsum {c : Nat} : ∀ ws : List (List Nat), (joinL c ws).length ≤ wsum ws ∧ (ws ≠ [] → (joinL c ws).length + 1 ≤ wsum ws)
  | [] => ⟨Nat.le_refl _, fun h => absurd rfl h⟩
  | [w] => ⟨by show w.length ≤ w.length + 1 + 0; omega, fun _ => by show w.length + 1 ≤ w.length + 1 + 0; omega⟩
  | w :: v :: r => by
    obtain ⟨_, h⟩ := join_wsum (c := c) (v :: r)
    have h := h (by simp)
    have e : (joinL c (w :: v :: r)).length = w.length + ((joinL c (v :: r)).length + 1) := by
      show (w ++ c :: joinL c (v :: r)).length = _
      rw [List.length_append, List.length_cons]
    have f : wsum (w :: v :: r) = w.length + 1 + wsum (v :: r) := rfl
    rw [e, f]
    exact ⟨by omega, fun _ => by omega⟩
theorem split_wsum {c : Nat} : ∀ l : List Nat, wsum (splitL c l) = l.length + 1
  | [] => rfl
  | a :: r => by
    have ih := split_wsum (c := c) r
    unfold splitL
    split
    · show 0 + 1 + wsum (splitL c r) = r.length + 1 + 1
      omega
    · cases hs : splitL c r with
      | nil => exact absurd hs (splitL_ne c r)
      | cons p q =>
        rw [hs] at ih
        show (a :: p).length + 1 + wsum q = r.length + 1 + 1
        have ih : p.length + 1 + wsum q = r.length + 1 := ih
        rw [List.length_cons]
        omega
theorem wsum_erase : ∀ (ws : List (List Nat)) (k : Nat), wsum (ws.eraseIdx k) ≤ wsum ws
  | [], k => by simp
  | w :: r, 0 => by show wsum r ≤ w.length + 1 + wsum r; omega
  | w :: r, k + 1 => by
    show w.length + 1 + wsum (r.eraseIdx k) ≤ w.length + 1 + wsum r
    have := wsum_erase r k
    omega
theorem wsum_ins (ws : List (List Nat)) (k : Nat) (w : List Nat) : wsum (ws.take k ++ w :: ws.drop k) = wsum ws + (w.length + 1) := by
  have e : wsum ws = wsum (ws.take k) + wsum (ws.drop k) := by rw [← wsum_app, List.take_append_drop]
  rw [wsum_app, e]
  show _ + (w.length + 1 + _) = _
  omega
theorem join_mem {c : Nat} : ∀ (ws : List (List Nat)) (x : Nat), x ∈ joinL c ws → x = c ∨ ∃ w ∈ ws, x ∈ w
  | [], x, h => by cases h
  | [w], x, h => .inr ⟨w, List.mem_cons_self, h⟩
  | w :: v :: r, x, h => by
    have h : x ∈ w ++ c :: joinL c (v :: r) := h
    rcases List.mem_append.mp h with h | h
    · exact .inr ⟨w, List.mem_cons_self, h⟩
    · rcases List.mem_cons.mp h with h | h
      · exact .inl h
      · rcases join_mem (v :: r) x h with h | ⟨u, h1, h2⟩
        · exact .inl h
        · exact .inr ⟨u, List.mem_cons_of_mem _ h1, h2⟩
theorem low_join {b : Nat} {ts : List Str} (h : ∀ t ∈ ts, ∀ c ∈ tl t, c < 128) (hs : wsum (ts.map tl) ≤ b + 1) : Low b (Txt.join ⟨#[32]⟩ ts) := by
  refine ⟨ascii_of fun c hc => ?_, ?_⟩
  · rw [join_tl] at hc
    rcases join_mem _ _ hc with e | ⟨w, h1, h2⟩
    · rw [e]; decide
    · obtain ⟨t, ht, rfl⟩ := List.mem_map.mp h1
      exact h t ht c h2
  · rw [len_tl, join_tl]
    obtain ⟨h1, h2⟩ := join_wsum (c := 32) (ts.map tl)
    by_cases e : ts.map tl = []
    · rw [e]; exact Nat.zero_le _
    · have := h2 e
      omega
theorem map_erase {α β : Type} (f : α → β) : ∀ (l : List α) (k : Nat), (l.map f).eraseIdx k = (l.eraseIdx k).map f
  | [], k => by simp
  | a :: r, 0 => rfl
  | a :: r, k + 1 => by
    show f a :: (r.map f).eraseIdx k = f a :: (r.eraseIdx k).map f
    rw [map_erase f r k]
end Sx




















namespace L2
open PySem PySem.Spec PyProof.Rows
section
variable {X : Cx}
theorem op_notIn_sK {K : PySem.W.Frag} (hK : X.K = K) : OpR X (PySem.compareOp .NotIn) (rIn K true) := hK ▸ op_notIn_seq
end
end L2

namespace L2
open PySem PySem.Spec PyProof.Rows
section
variable {X : Cx}
theorem ps_tryG {body : List Stmt} {h₀ : ExceptHandler} {hs : List ExceptHandler} {pos : Pos} {t : TS} (hc : PSs X.nox body t) : PS X (.Try body (h₀ :: hs) [] [] pos) t := by
  intro pins s σ H D I h
  refine wpAny_Try_except (quietX (hc pins s σ H D (I.wish _) h) fun f s1 q => ?_)
  cases f with
  | next => obtain ⟨σ1, H1, I1, q1⟩ := q; exact wpAny_execs_nil ⟨σ1, H1, I1.unwish, q1⟩
  | ret v => obtain ⟨x, σ1, H1, I1, r1, q1⟩ := q; exact ⟨x, σ1, H1, I1.unwish, r1, q1⟩
  | brk => obtain ⟨σ1, H1, I1, q1⟩ := q; exact ⟨σ1, H1, I1.unwish, q1⟩
  | cont => obtain ⟨σ1, H1, I1, q1⟩ := q; exact ⟨σ1, H1, I1.unwish, q1⟩
theorem psx_setG {ce : Expr} {x : Str} {pos' pos : Pos} {t : XK → TE} (hc : PEX X ce t) (hs : swapsWith ce (some (.Name x pos')) pos.line X.env = pure false := by rfl) : PSX X [.Assign [.Name x pos'] ce pos] (fun E D σ H => t E σ H fun _ _ => False) := fun E pins s σ H D I h => by
  refine wpAny_execs_cons (wpAny_Assign_Name (wpAny_mono (hc E pins s σ H _ I h) (fun v s1 ⟨y, H1, I1, r1, q1⟩ => q1.elim) fun e s' hx => hx) hs)
end
end L2
namespace Sx
open PySem L2 Mir
theorem wsum_le {m : Nat} : ∀ {ws : List (List Nat)}, (∀ w ∈ ws, w.length ≤ m) → wsum ws ≤ (m + 1) * ws.length
  | [], _ => Nat.zero_le _
  | w :: r, h => by
    have i := wsum_le (m := m) (ws := r) fun x hx => h x (List.mem_cons_of_mem _ hx)
    have j := h w List.mem_cons_self
    show w.length + 1 + wsum r ≤ (m + 1) * (r.length + 1)
    rw [Nat.mul_add, Nat.mul_one]
    omega
theorem chain_len {k : Bool} {es : List Nat} (h0 : es ≠ []) (h : ∀ e ∈ es, e < 80) : (chainL k es).length + 1 ≤ 6 * es.length := by
  obtain ⟨_, j⟩ := join_wsum (c := 32) (es.map sw)
  have j := j (by simpa using h0)
  have w := wsum_le (m := 3) (ws := es.map sw) fun x hx => by
    obtain ⟨e, he, rfl⟩ := List.mem_map.mp hx
    exact (sw_len (h e he)).2
  rw [List.length_map] at w
  have p : 0 < es.length := List.length_pos_iff.mpr h0
  unfold chainL
  rw [List.length_cons, List.length_append]
  show (joinL 32 (es.map sw)).length + 1 + 1 + 1 ≤ _
  omega
theorem chains_wsum : ∀ {cs : Chs}, (∀ c ∈ cs, c.2 ≠ [] ∧ ∀ e ∈ c.2, e < 80) → wsum (cs.map fun c => chainL c.1 c.2) ≤ 6 * (endsO cs).length
  | [], _ => Nat.zero_le _
  | c :: r, h => by
    have i := chains_wsum (cs := r) fun x hx => h x (List.mem_cons_of_mem _ hx)
    obtain ⟨h1, h2⟩ := h c List.mem_cons_self
    have j := chain_len (k := c.1) h1 h2
    have e : (endsO (c :: r)).length = c.2.length + (endsO r).length := by
      show (c.2 ++ endsO r).length = _
      rw [List.length_append]
    show (chainL c.1 c.2).length + 1 + wsum _ ≤ _
    rw [e]
    omega
theorem work_len {cs : Chs} (h : ∀ c ∈ cs, c.2 ≠ [] ∧ ∀ e ∈ c.2, e < 80) (hl : (endsO cs).length ≤ 40) : (workL cs).length ≤ 240 := by
  unfold workL
  split
  · decide
  · have := (join_wsum (c := 32) (cs.map fun c => chainL c.1 c.2)).1
    have := chains_wsum h
    omega
theorem strs42 : ∀ k : Nat, k < 43 → (Str.ofString (toString (k : Int))).length ≤ 2 ∧ (tl (Str.ofString (toString (k : Int)))).all (fun c => decide (c < 128)) = true := by decide +kernel
theorem workZ_len {z : Str} {ms : List Nat} (h : workZ z = some ms) : ms.length ≤ 1000 := by
  unfold workZ at h
  cases q : outO z with
  | none => rw [q] at h; cases h
  | some out =>
    rw [q] at h
    by_cases o : OnceO out
    · have h : some (Mt.workO out) = some ms := (if_pos o).symm.trans h
      cases h
      unfold Mt.workO
      rw [setP_len, List.length_range]
      have := o.1
      omega
    · have h : (none : Option (List Nat)) = some ms := (if_neg o).symm.trans h
      cases h
end Sx

set_option maxHeartbeats 2000000
namespace Law
open PySem L2
noncomputable def top (i : Nat) : Stmt := PySem.Challenge.pw_claspwork_k10_whole_texts_of_works.main.body.getD i (.Pass ⟨0, 0, 0, 0⟩)
noncomputable abbrev s_is_end : Stmt := top 6
noncomputable abbrev s_far_end : Stmt := top 7
noncomputable abbrev s_work_by : Stmt := top 8
noncomputable abbrev s_each_stave_once : Stmt := top 9
noncomputable abbrev s_work_from : Stmt := top 11
noncomputable abbrev s_entered_ends : Stmt := top 12
noncomputable abbrev s_inner_clasps : Stmt := top 13
noncomputable abbrev s_read_work : Stmt := top 17
noncomputable abbrev s_read_chains : Stmt := top 18
noncomputable abbrev s_opening_bracket : Stmt := top 19
noncomputable abbrev s_read_stave : Stmt := top 20
noncomputable abbrev s_words_of_text : Stmt := top 21
noncomputable abbrev s_read_number : Stmt := top 22
noncomputable abbrev s_law_cell_at : Stmt := top 24
noncomputable abbrev s_law_whole : Stmt := top 25
noncomputable abbrev s_law_staves : Stmt := top 26
noncomputable abbrev s_law_mates : Stmt := top 27
noncomputable abbrev s_law_numbers : Stmt := top 28
noncomputable abbrev s_law_far : Stmt := top 29
noncomputable abbrev s_law_chain : Stmt := top 30
noncomputable abbrev s_law_chains : Stmt := top 31
noncomputable abbrev s_law_back : Stmt := top 32
noncomputable abbrev s_law_written : Stmt := top 33
noncomputable abbrev s_law_text_else : Stmt := top 34
noncomputable abbrev s_law_sign_by : Stmt := top 35
noncomputable abbrev s_law_sign_spoiled : Stmt := top 36
noncomputable abbrev s_law_part_spoiled : Stmt := top 37
noncomputable abbrev s_law_number_spoiled : Stmt := top 38
noncomputable abbrev s_law_stave : Stmt := top 39
noncomputable abbrev s_law_read_chains : Stmt := top 40
noncomputable abbrev s_law_read : Stmt := top 41
noncomputable abbrev s_law : Stmt := top 42
theorem sc_is_end : FnScope ["number", "ends"] ["number", "ends"] (defScope s_is_end) := ⟨rfl, rfl, rfl, by decide +kernel, rfl, by decide +kernel, by decide +kernel⟩
theorem sc_far_end : FnScope ["end"] ["end"] (defScope s_far_end) := ⟨rfl, rfl, rfl, by decide +kernel, rfl, by decide +kernel, by decide +kernel⟩
theorem sc_work_by : FnScope ["staves", "clasps", "mates", "clasped", "one", "other", "end"] ["staves", "clasps"] (defScope s_work_by) := ⟨rfl, rfl, rfl, by decide +kernel, rfl, by decide +kernel, by decide +kernel⟩
theorem sc_each_stave_once : FnScope ["ends"] ["ends"] (defScope s_each_stave_once) := ⟨rfl, rfl, rfl, by decide +kernel, rfl, by decide +kernel, by decide +kernel⟩
theorem sc_work_from : FnScope ["rows", "rings", "entered", "clasps", "row", "ring"] ["rows", "rings"] (defScope s_work_from) := ⟨rfl, rfl, rfl, by decide +kernel, rfl, by decide +kernel, by decide +kernel⟩
theorem sc_entered_ends : FnScope ["chains", "entered", "chain"] ["chains"] (defScope s_entered_ends) := ⟨rfl, rfl, rfl, by decide +kernel, rfl, by decide +kernel, by decide +kernel⟩
theorem sc_inner_clasps : FnScope ["chain"] ["chain"] (defScope s_inner_clasps) := ⟨rfl, rfl, rfl, by decide +kernel, rfl, by decide +kernel, by decide +kernel⟩
theorem sc_read_work : FnScope ["text", "chains", "rows", "rings"] ["text"] (defScope s_read_work) := ⟨rfl, rfl, rfl, by decide +kernel, rfl, by decide +kernel, by decide +kernel⟩
theorem sc_read_chains : FnScope ["text", "chains", "bracket", "word", "told", "closed"] ["text"] (defScope s_read_chains) := ⟨rfl, rfl, rfl, by decide +kernel, rfl, by decide +kernel, by decide +kernel⟩
theorem sc_opening_bracket : FnScope ["word"] ["word"] (defScope s_opening_bracket) := ⟨rfl, rfl, rfl, by decide +kernel, rfl, by decide +kernel, by decide +kernel⟩
theorem sc_read_stave : FnScope ["word", "by_head", "stave"] ["word"] (defScope s_read_stave) := ⟨rfl, rfl, rfl, by decide +kernel, rfl, by decide +kernel, by decide +kernel⟩
theorem sc_words_of_text : FnScope ["text"] ["text"] (defScope s_words_of_text) := ⟨rfl, rfl, rfl, by decide +kernel, rfl, by decide +kernel, by decide +kernel⟩
theorem sc_read_number : FnScope ["word", "most"] ["word", "most"] (defScope s_read_number) := ⟨rfl, rfl, rfl, by decide +kernel, rfl, by decide +kernel, by decide +kernel⟩
theorem sc_law_cell_at : FnScope ["script", "k"] ["script", "k"] (defScope s_law_cell_at) := ⟨rfl, rfl, rfl, by decide +kernel, rfl, by decide +kernel, by decide +kernel⟩
theorem sc_law_whole : FnScope ["found"] ["found"] (defScope s_law_whole) := ⟨rfl, rfl, rfl, by decide +kernel, rfl, by decide +kernel, by decide +kernel⟩
theorem sc_law_staves : FnScope ["cell"] ["cell"] (defScope s_law_staves) := ⟨rfl, rfl, rfl, by decide +kernel, rfl, by decide +kernel, by decide +kernel⟩
theorem sc_law_mates : FnScope ["flow", "staves", "mates", "cell", "one", "other", "end"] ["flow", "staves"] (defScope s_law_mates) := ⟨rfl, rfl, rfl, by decide +kernel, rfl, by decide +kernel, by decide +kernel⟩
theorem sc_law_numbers : FnScope ["found", "due", "number"] ["found", "due"] (defScope s_law_numbers) := ⟨rfl, rfl, rfl, by decide +kernel, rfl, by decide +kernel, by decide +kernel⟩
theorem sc_law_far : FnScope ["end"] ["end"] (defScope s_law_far) := ⟨rfl, rfl, rfl, by decide +kernel, rfl, by decide +kernel, by decide +kernel⟩
theorem sc_law_chain : FnScope ["mates", "start", "chain", "last"] ["mates", "start"] (defScope s_law_chain) := ⟨rfl, rfl, rfl, by decide +kernel, rfl, by decide +kernel, by decide +kernel⟩
theorem sc_law_chains : FnScope ["mates", "known", "rows", "rings", "end", "one"] ["mates"] (defScope s_law_chains) := ⟨rfl, rfl, rfl, by decide +kernel, rfl, by decide +kernel, by decide +kernel⟩
theorem sc_law_back : FnScope ["chain"] ["chain"] (defScope s_law_back) := ⟨rfl, rfl, rfl, by decide +kernel, rfl, by decide +kernel, by decide +kernel⟩
theorem sc_law_written : FnScope ["chain", "brackets", "staves"] ["chain", "brackets"] (defScope s_law_written) := ⟨rfl, rfl, rfl, by decide +kernel, rfl, by decide +kernel, by decide +kernel⟩
theorem sc_law_text_else : FnScope ["mates", "cell", "rows", "rings", "parts", "k", "row", "ring", "at", "cut"] ["mates", "cell"] (defScope s_law_text_else) := ⟨rfl, rfl, rfl, by decide +kernel, rfl, by decide +kernel, by decide +kernel⟩
theorem sc_law_sign_by : FnScope ["cell", "some"] ["cell"] (defScope s_law_sign_by) := ⟨rfl, rfl, rfl, by decide +kernel, rfl, by decide +kernel, by decide +kernel⟩
theorem sc_law_sign_spoiled : FnScope ["text", "cell", "often", "spot", "sign"] ["text", "cell"] (defScope s_law_sign_spoiled) := ⟨rfl, rfl, rfl, by decide +kernel, rfl, by decide +kernel, by decide +kernel⟩
theorem sc_law_part_spoiled : FnScope ["text", "cell", "parts", "spot", "other", "part"] ["text", "cell"] (defScope s_law_part_spoiled) := ⟨rfl, rfl, rfl, by decide +kernel, rfl, by decide +kernel, by decide +kernel⟩
theorem sc_law_number_spoiled : FnScope ["text", "cell", "odd", "at", "last"] ["text", "cell"] (defScope s_law_number_spoiled) := ⟨rfl, rfl, rfl, by decide +kernel, rfl, by decide +kernel, by decide +kernel⟩
theorem sc_law_stave : FnScope ["text", "figures", "sign"] ["text"] (defScope s_law_stave) := ⟨rfl, rfl, rfl, by decide +kernel, rfl, by decide +kernel, by decide +kernel⟩
theorem sc_law_read_chains : FnScope ["text", "found", "chain", "part", "closed", "end"] ["text"] (defScope s_law_read_chains) := ⟨rfl, rfl, rfl, by decide +kernel, rfl, by decide +kernel, by decide +kernel⟩
theorem sc_law_read : FnScope ["text", "found", "staves", "chain", "mates", "k", "last"] ["text"] (defScope s_law_read) := ⟨rfl, rfl, rfl, by decide +kernel, rfl, by decide +kernel, by decide +kernel⟩
theorem sc_law : FnScope ["script", "mates", "text", "turns", "turn", "cell", "due", "signs", "found", "e"] ["script"] (defScope s_law) := ⟨rfl, rfl, rfl, by decide +kernel, rfl, by decide +kernel, by decide +kernel⟩
structure Bl (mg : Str → Option Value) : Prop where
  «ValueError» : mg "ValueError" = none
  «all» : mg "all" = none
  «bool» : mg "bool" = none
  «enumerate» : mg "enumerate" = none
  «int» : mg "int" = none
  «isinstance» : mg "isinstance" = none
  «len» : mg "len" = none
  «list» : mg "list" = none
  «range» : mg "range" = none
  «reversed» : mg "reversed" = none
  «sorted» : mg "sorted" = none
  «str» : mg "str" = none
  «tuple» : mg "tuple" = none
section
variable {P : Program} {w : World} {K : PySem.W.Frag} {mg : Str → Option Value} {base : Heap}
theorem ok_is_end {f : Addr} {fd : FuncData} (F : Fn K mg "is_end" s_is_end ["number", "ends"] f fd) : FnOk P w K mg base CX0 1 f fd ["number", "ends"] Mir.spIsEnd := by
  refine F.fn.ok sc_is_end (fun vs H Q E h => ?_) (fun cdv A outer s H vs Q E hr h => ?_)
  · obtain ⟨a, b, rfl, _⟩ := h
    rfl
  · obtain ⟨a, b, rfl, q⟩ := h
    refine ⟨_, pss_one (ps_ret (pe_chain op_le op_lt pe_int (pv 0) (pv 1))), ?_⟩
    refine ⟨_, rfl, _, _, rfl, rfl, _, rfl, ?_⟩
    refine ite2 (fun h1 => ?_) (fun h1 => ?_)
    · refine ⟨_, rfl, _, _, rfl, rfl, ?_⟩
      have h1 : 0 ≤ a := of_decide_eq_true h1
      have e : decide (0 ≤ a ∧ a < b) = decide (a < b) := by simp [h1]
      rw [e] at q
      exact q
    · have h1 : ¬ 0 ≤ a := fun z => h1 (decide_eq_true z)
      have e : decide (0 ≤ a ∧ a < b) = false := by simp [h1]
      rw [e] at q
      exact q
end
section
variable {P : Program} {w : World} {K : PySem.W.Frag} {mg : Str → Option Value} {base : Heap}
theorem ok_far_end {f : Addr} {fd : FuncData} (F : Fn K mg "far_end" s_far_end ["end"] f fd) : FnOk P w K mg base CX0 1 f fd ["end"] Mir.spFar := by
  refine F.fn.ok sc_far_end (fun vs H Q E h => ?_) (fun cdv A outer s H vs Q E hr h => ?_)
  · obtain ⟨e, rfl, _⟩ := h
    rfl
  · obtain ⟨e, rfl, h0, q⟩ := h
    refine ⟨_, pss_one (ps_ret (pe_op op_xor (pv 0) pe_int)), ?_⟩
    refine ⟨_, rfl, _, _, rfl, rfl, ?_⟩
    rw [← Mir.xor_one h0] at q
    exact q
end
section
variable {P : Program} {w : World} {K : PySem.W.Frag} {mg : Str → Option Value} {base : Heap}
theorem ok_work_by {f fE C : Addr} {fd fdE : FuncData} (B : Bl mg) (Z : ECls K mg "BadWork" C) (F : Fn K mg "work_by" s_work_by ["staves", "clasps"] f fd) (FE : Fn K mg "is_end" s_is_end ["number", "ends"] fE fdE) :
    FnOk P w K mg base (CXo P w) 2 f fd ["staves", "clasps"] (Mir.spWorkByX K C) := by
  have GE : FnOk P w K mg base CX0 1 fE fdE ["number", "ends"] Mir.spIsEnd := ok_is_end FE
  refine F.fn.okX2 sc_work_by (fun vs H Q E h => ?_) (fun cdv A outer s H vs Q E hr h own => ?_)
  · obtain ⟨n, c, cs, rfl, _⟩ := h
    rfl
  · obtain ⟨n, c, cs, rfl, hn, ⟨ts, hS, htl, hT⟩, hcl, hsm, hgood, hbad⟩ := h
    have hu := hu_of hr
    have one : 1 ≤ sizeLine := by decide
    have smN : ((n : Nat) : Int).natAbs.log2 < 1920 := (Mir.Sm.of (i := (n : Int)) (by omega) (by omega)).log
    have op := own_passes (E := E) own
    refine ⟨_, pss_cons (ps_set (i := 2) sc_work_by.nd rfl (Or.inl rfl) (pe_callTy (call_list_rng rfl) rfl B.list bb_list (pa_cons (pe_callTy call_rng1 rfl B.range bb_range (pa_cons (pe_op op_mul pe_int (pv 0)) pa_nil)) pa_nil)))
      (pss_cons (ps_set (i := 3) sc_work_by.nd rfl (Or.inl rfl) pe_dnewK)
      (pss_cons (ps_for op rfl (pi_list (pv 1)) (pg_tup rfl (pgs_cons (pg_name (i := 4) sc_work_by.nd rfl (Or.inl rfl)) (pgs_cons (pg_name (i := 5) sc_work_by.nd rfl (Or.inl rfl)) pgs_nil)))
        (pss_cons (ps_for op rfl (pi_tup (pe_tup (pa_cons (pv 4) (pa_cons (pv 5) pa_nil)))) (pg_name (i := 6) sc_work_by.nd rfl (Or.inl rfl))
          (pss_cons (ps_if (pt_not (pt_val (pe_fn GE FE hr (pa_cons (pv 6) (pa_cons (pe_callB call_len_seq rfl B.len bb_len (pa_cons (pv 2) pa_nil)) pa_nil))))) (pss_one (ps_raise rfl Z (pa_cons (pe_fs (pj_int (pv 6) (pj_str (pj_int (pv 0) (pj_str pj_nil)))) (by decide)) pa_nil))) pss_nil)
          (pss_cons (ps_if (pt_cmp (pc_din hu (pv 6) (pv 3))) (pss_one (ps_raise rfl Z (pa_cons (pe_fs (pj_str (pj_int (pv 6) (pj_str pj_nil))) (by decide)) pa_nil))) pss_nil)
          (pss_one (ps_dput hu (pv 3) (pv 6) pe_bl rfl)))))
        (pss_cons (ps_asg (pv 5) (pg_sub (pv 2) (pv 4) set_list))
        (pss_one (ps_asg (pv 4) (pg_sub (pv 2) (pv 5) set_list))))))
      (pss_one (ps_ret (pe_callTy call_tuple_of rfl B.tuple bb_tuple (pa_cons (pv 2) pa_nil)))))), ?_⟩
    refine ⟨_, rfl, _, _, rfl, rfl, .inl ⟨by decide, by decide⟩, _, rfl, fun p hp => ⟨p, 0, _, rfl, upd_same, ⟨by omega, by omega, by omega, by omega⟩, by omega, fun l hl => ?_⟩⟩
    intro d hd
    obtain ⟨nlp, nl⟩ := none_upd hl
    obtain ⟨ndl, hd1⟩ := none_upd hd
    obtain ⟨ndp, nd⟩ := none_upd hd1
    have e0 : rngV 0 (2 * (n : Int) - 0).toNat = Mir.matesOf n (cs.take 0) := by
      rw [show (2 * (n : Int) - 0).toNat = 2 * n by omega]
      rfl
    rw [e0]
    have S1 : Same H (upd (upd (upd H p (.rng 0 (2 * (n : Int)))) l (.lst (Mir.matesOf n (cs.take 0)))) d (.dK [])) := ((same_upd hp).upd nl).upd nd
    refine ⟨_, rfl, c, rfl, ⟨_, S1.seq hS⟩, for_list (K := K) (a := c) (xs := ts.map V.ref) (fun i σ H2 => ∃ v4 v5 v6 : Option V, σ = [some (.int n), some (.ref c), some (.ref l), some (.ref d), v4, v5, v6] ∧ Same H H2 ∧
        H2 l = some (.lst (Mir.matesOf n (cs.take i))) ∧ H2 d = some (.dK (Mir.seenV (Mir.flat (cs.take i)))) ∧ Mir.GoodCl n (cs.take i))
      ⟨none, none, none, rfl, S1, by rw [upd_ne ndl.symm, upd_same], upd_same, ⟨fun e he => by simp [Mir.flat] at he, by simp [Mir.flat]⟩⟩ (fun i σ H2 _ ⟨_, _, _, _, s2, _⟩ => s2.seq hS) ?_ ?_⟩
    · rintro i x σ H2 hi ⟨v4, v5, v6, rfl, s2, hl2, hd2, GP⟩
      have hit : i < ts.length := by
        have z := (List.getElem?_eq_some_iff.mp hi).1
        rw [List.length_map] at z
        exact z
      obtain ⟨t, ht⟩ : ∃ t, ts[i]? = some t := ⟨ts[i], List.getElem?_eq_getElem hit⟩
      rw [List.getElem?_map, ht] at hi
      obtain rfl : V.ref t = x := Option.some.inj hi
      obtain ⟨⟨pa, qa⟩, hp2⟩ : ∃ p, cs[i]? = some p := ⟨cs[i]'(by omega), List.getElem?_eq_getElem (by omega)⟩
      obtain ⟨rest, hfl⟩ := Mir.flat_take hp2
      have hml : (Mir.matesOf n (cs.take i)).length = 2 * n := Mir.matesOf_len _ _
      have fll : (Mir.flat (cs.take i)).length ≤ 2 * n := Mir.nodup_bound (2 * n) (es := Mir.flat (cs.take i)) (fun e he => by have z := GP.rng e he; omega) GP.nd
      refine ⟨t, _, rfl, s2.tup (hT i t (pa, qa) ht hp2), rfl, _, _, rfl, _, _, rfl, rfl, ?_⟩
      refine ⟨_, rfl, _, rfl, by show 2 ≤ sizeLine; decide, fun tp htp => ⟨tp, rfl, ⟨_, SqT.of upd_same⟩, for_tup (K := K) (a := tp) (xs := [.int pa, .int qa])
        (fun j σ H3 => ∃ v : Option V, σ = [some (.int n), some (.ref c), some (.ref l), some (.ref d), some (.int pa), some (.int qa), v] ∧ (∀ b o, b ≠ d → (upd H2 tp (.tup [.int pa, .int qa])) b = some o → H3 b = some o) ∧
          H3 d = some (.dK (Mir.seenV (Mir.flat (cs.take i) ++ [pa, qa].take j))) ∧ (∀ e ∈ [pa, qa].take j, 0 ≤ e ∧ e < 2 * (n : Int)) ∧ (Mir.flat (cs.take i) ++ [pa, qa].take j).Nodup)
        ⟨v6, rfl, fun b o _ e => e, by rw [upd_ne (ne_of_none hd2 htp), List.take_zero, List.append_nil]; exact hd2, fun e he => by simp at he, by rw [List.take_zero, List.append_nil]; exact GP.nd⟩ (fun j σ H3 _ ⟨_, _, s3, _⟩ => SqT.of (s3 tp _ (ne_of_none hd2 htp).symm upd_same)) ?_ ?_⟩⟩
      · rintro j y σ H3 hj ⟨v, rfl, s3, hd3, hrng, hnd⟩
        have sH : Same H H3 := fun b o e => s3 b o (ne_of_none e nd) (by rw [upd_ne (ne_of_none (s2 b o e) htp)]; exact s2 b o e)
        have hl3 : H3 l = some (.lst (Mir.matesOf n (cs.take i))) := s3 l _ ndl.symm (by rw [upd_ne (ne_of_none hl2 htp)]; exact hl2)
        obtain ⟨x, rfl, hx, hxf, hsub⟩ : ∃ x, y = V.int x ∧ [pa, qa].take (j + 1) = [pa, qa].take j ++ [x] ∧ x ∈ Mir.flat cs ∧ ((Mir.flat (cs.take i) ++ [pa, qa].take j) ++ [x]).Sublist (Mir.flat cs) := by
          have sl : ∀ k, (Mir.flat (cs.take i) ++ [pa, qa].take k).Sublist (Mir.flat cs) := fun k => by
            rw [hfl]
            exact (List.Sublist.refl _).append ((List.take_sublist k _).trans (List.sublist_append_left _ _))
          match j, hj with
          | 0, hj => exact ⟨pa, (Option.some.inj hj).symm, rfl, by rw [hfl]; simp, by have z := sl 1; simpa using z⟩
          | 1, hj => exact ⟨qa, (Option.some.inj hj).symm, rfl, by rw [hfl]; simp, by have z := sl 2; simpa using z⟩
          | _ + 2, hj => cases hj
        refine ⟨_, rfl, _, rfl, l, _, rfl, .inl (SqL.of hl3), _, _, rfl, _, rfl, ?_⟩
        rw [hml]
        refine ite2 (fun h1 => ?_) (fun h1 => ?_)
        · have h1 := Mir.not_dec h1
          exact ⟨⟨_, rfl, rfl, ⟨_, rfl, (hsm x hxf).log⟩, ⟨_, rfl, rfl, ⟨_, rfl, smN⟩, trivial⟩⟩, fun _ => ⟨one, hbad (fun G => by have z := G.rng x hxf; omega) _ sH⟩⟩
        have h1 : 0 ≤ x ∧ x < 2 * (n : Int) := by
          have z := Mir.not_dec' h1
          omega
        refine ⟨_, rfl, _, rfl, d, _, rfl, DGet.k (k := Sum.inl x) hd3, _, rfl, ?_⟩
        by_cases hin : x ∈ Mir.flat (cs.take i) ++ [pa, qa].take j
        · have hs : (valV (Mir.seenV (Mir.flat (cs.take i) ++ [pa, qa].take j)) (Sum.inl x : Key)).isSome = true := by
            cases q : valV (Mir.seenV (Mir.flat (cs.take i) ++ [pa, qa].take j)) (Sum.inl x : Key) with
            | some v => rfl
            | none =>
              exfalso
              refine valV_not q ?_
              unfold Mir.seenV
              rw [List.map_map]
              exact List.mem_map.mpr ⟨x, hin, rfl⟩
          rw [hs]
          refine iteT ⟨⟨_, rfl, rfl, ⟨_, rfl, (hsm x hxf).log⟩, trivial⟩, fun _ => ⟨one, hbad (fun G => ?_) _ sH⟩⟩
          have z := G.nd.sublist hsub
          obtain ⟨_, _, z⟩ := List.nodup_append.mp z
          exact z x hin x (by simp) rfl
        · rw [Mir.seenV_none hin]
          refine iteF ?_
          have jl : ([pa, qa].take j).length ≤ 2 := by rw [List.length_take]; simp; omega
          refine ⟨_, rfl, _, rfl, d, _, rfl, DPut.k (k := Sum.inl x) hd3 (small1000 (by rw [Mir.seenV_len, List.length_append]; omega)), ?_⟩
          refine ⟨_, rfl, fun b o hb e => by rw [upd_ne hb]; exact s3 b o hb e, ?_, ?_, ?_⟩
          · rw [upd_same, Mir.seenV_put hin, List.append_assoc, hx]
          · intro e he
            rw [hx] at he
            rcases List.mem_append.mp he with z | z
            · exact hrng e z
            · have z : e = x := by simpa using z
              rw [z]; exact h1
          · rw [hx, ← List.append_assoc]
            refine List.nodup_append.mpr ⟨hnd, by simp, fun a ha b hb z => ?_⟩
            have hb : b = x := by simpa using hb
            rw [z, hb] at ha
            exact hin ha
      · rintro σ H3 ⟨v, rfl, s3, hd3, hrng, hnd⟩
        have hl3 : H3 l = some (.lst (Mir.matesOf n (cs.take i))) := s3 l _ ndl.symm (by rw [upd_ne (ne_of_none hl2 htp)]; exact hl2)
        have rp : 0 ≤ pa ∧ pa < 2 * (n : Int) := hrng pa (by simp)
        have rq : 0 ≤ qa ∧ qa < 2 * (n : Int) := hrng qa (by simp)
        refine ⟨_, rfl, _, rfl, _, rfl, l, _, _, _, rfl, rfl, hl3, ixN_of rp.1 (by rw [hml]; omega), ?_⟩
        refine ⟨_, rfl, _, rfl, _, rfl, l, _, _, _, rfl, rfl, upd_same, ixN_of rq.1 (by rw [List.length_set, hml]; omega), ?_⟩
        have ef : Mir.flat (cs.take (i + 1)) = Mir.flat (cs.take i) ++ [pa, qa] := by rw [Mir.take_snoc hp2, Mir.flat_snoc]
        refine ⟨_, _, _, rfl, fun b o e => ?_, ?_, ?_, ⟨fun e he => ?_, ?_⟩⟩
        · have hb : b ≠ l := ne_of_none e nl
          rw [upd_ne hb, upd_ne hb]
          exact s3 b o (ne_of_none e nd) (by rw [upd_ne (ne_of_none (s2 b o e) htp)]; exact s2 b o e)
        · rw [upd_same, Mir.take_snoc hp2, Mir.matesOf_snoc]
          rfl
        · rw [upd_ne ndl, upd_ne ndl, hd3, ef]
          rfl
        · rw [ef] at he
          rcases List.mem_append.mp he with z | z
          · exact GP.rng e z
          · exact hrng e z
        · rw [ef]
          exact hnd
    · rintro σ H2 ⟨v4, v5, v6, rfl, s2, hl2, hd2, GP⟩
      rw [List.length_map, htl, List.take_length] at hl2 GP
      refine ⟨_, rfl, l, _, rfl, .inl ⟨SqL.of hl2, fun r hr => ?_⟩⟩
      exact hgood GP r _ (s2.free hr) (s2.upd (s2.free hr)) upd_same
end
section
variable {P : Program} {w : World} {K : PySem.W.Frag} {mg : Str → Option Value} {base : Heap}
theorem ok_each_stave_once {f : Addr} {fd : FuncData} (B : Bl mg) (F : Fn K mg "each_stave_once" s_each_stave_once ["ends"] f fd) : FnOk P w K mg base CX0 1 f fd ["ends"] (Mir.spOnce K) := by
  refine F.fn.ok sc_each_stave_once (fun vs H Q E h => ?_) (fun cdv A outer s H vs Q E hr h => ?_)
  · obtain ⟨a, es, rfl, _⟩ := h
    rfl
  · obtain ⟨a, es, rfl, hS, hn, k⟩ := h
    have nd1 : (["end"] : List Str).Nodup := by decide +kernel
    refine ⟨_, pss_one (ps_ret (pe_cmpR (op_eq_intsD hr.units0) (pe_callB call_sorted rfl B.sorted bb_sorted (pa_cons (pe_comp (NC := ["end"]) rfl (compOk0 rfl (by decide +kernel) (by decide +kernel)) (pi_list (pv 0))
        (fun _ _ _ _ => pg_name (i := 0) nd1 rfl (Or.inl rfl)) (fun _ _ _ _ => pts_nil) (fun _ _ _ _ => pe_op op_fdiv (pv 0) pe_int)) pa_nil))
      (pe_callTy (call_list_rng rfl) rfl B.list bb_list (pa_cons (pe_callTy call_rng1 rfl B.range bb_range (pa_cons (pe_callB call_len_seq rfl B.len bb_len (pa_cons (pv 0) pa_nil)) pa_nil)) pa_nil)) (nomark _))), ?_⟩
    refine ⟨_, rfl, a, rfl, ⟨_, hS⟩, fun D hD => ?_⟩
    refine comp_list (K := K) (a := a) (xs := Mir.iV es) (fun i σ H2 => ∃ v : Option V, σ = [v] ∧ Same H H2 ∧ H2 D = some (.lst (Mir.iV (Mt.halfI (es.take i))))) ⟨none, rfl, same_upd hD, upd_same⟩ (fun i σ H2 _ ⟨_, _, s2, _⟩ => s2.seq hS) ?_ ?_
    · rintro i y σ H2 hy ⟨v, rfl, s2, h2⟩
      obtain ⟨x, hx, rfl⟩ := Mir.iV_get' hy
      have hi : i < es.length := (List.getElem?_eq_some_iff.mp hx).1
      refine gYes ?_
      refine ⟨_, rfl, _, _, rfl, rfl, ⟨by decide, by decide⟩, _, h2, small1000 (by rw [Mir.iV_len]; unfold Mt.halfI; rw [List.length_map, List.length_take]; omega), _, rfl, s2.upd hD, ?_⟩
      rw [upd_same, Mir.take_snoc hx]
      unfold Mt.halfI Mir.iV
      rw [List.map_append, List.map_append]
      rfl
    · rintro σ H2 ⟨v, rfl, s2, h2⟩
      rw [Mir.iV_len, List.take_length] at h2
      have hl : (Mt.halfI es).length = es.length := by unfold Mt.halfI; rw [List.length_map]
      refine ⟨D, Mt.halfI es, rfl, SqL.of h2, by rw [hl]; exact hn, fun ns' l hp hsrt hl0 => ?_⟩
      have s3 : Same H2 (upd H2 l (.lst (ns'.map V.int))) := same_upd hl0
      refine ⟨_, rfl, a, _, rfl, .inl ((s2.trans s3).seq hS), _, rfl, fun p hp0 => ⟨p, 0, _, rfl, upd_same, ⟨by omega, by omega, by rw [Mir.iV_len]; omega, by rw [Mir.iV_len]; omega⟩, by rw [Mir.iV_len]; omega, fun lq hlq => ?_⟩⟩
      have e1 : rngV 0 ((((Mir.iV es).length : Nat) : Int) - 0).toNat = (Mt.up (List.range es.length)).map V.int := by
        rw [Mir.iV_len]
        have z : (((es.length : Nat) : Int) - 0).toNat = es.length := by omega
        rw [z, Mir.rngV_nV, Mir.nV_up]
        rfl
      have s4 : Same (upd H2 l (.lst (ns'.map V.int))) (upd (upd (upd H2 l (.lst (ns'.map V.int))) p (.rng 0 (((Mir.iV es).length : Nat) : Int))) lq (.lst (rngV 0 ((((Mir.iV es).length : Nat) : Int) - 0).toNat))) := (same_upd hp0).trans (same_upd hlq)
      refine ⟨l, lq, ns', Mt.up (List.range es.length), rfl, rfl, SqL.of (s4 _ _ upd_same), SqL.of (by rw [upd_same, e1]), by rw [hp.length_eq, hl, Mt.up_len, List.length_range], ?_⟩
      refine k _ _ ?_ ((s2.trans s3).trans s4)
      rw [decide_eq_true_iff]
      have rs : (Mt.up (List.range es.length)).Pairwise (· ≤ ·) := by
        unfold Mt.up
        rw [List.pairwise_map]
        exact List.pairwise_lt_range.imp fun h => by omega
      constructor
      · intro e
        unfold Mt.Once
        rw [← e]
        exact hp.symm
      · intro O
        exact Mir.sorted_unique (hp.trans O) hsrt rs
end
section
variable {P : Program} {w : World} {K : PySem.W.Frag} {mg : Str → Option Value} {base : Heap}
theorem ok_inner_clasps {f fF : Addr} {fd fdF : FuncData} (B : Bl mg) (F : Fn K mg "inner_clasps" s_inner_clasps ["chain"] f fd) (FF : Fn K mg "far_end" s_far_end ["end"] fF fdF) : FnOk P w K mg base CX0 2 f fd ["chain"] Mir.spInner := by
  have GF : FnOk P w K mg base CX0 1 fF fdF ["end"] Mir.spFar := ok_far_end FF
  refine F.fn.ok sc_inner_clasps (fun vs H Q E h => ?_) (fun cdv A outer s H vs Q E hr h => ?_)
  · obtain ⟨t, xs, rfl, _⟩ := h
    rfl
  · obtain ⟨t, xs, rfl, hS, hn, k⟩ := h
    have nd2 : (["place", "chain"] : List Str).Nodup := by decide +kernel
    refine ⟨_, pss_one (ps_ret (pe_comp (NC := ["place", "chain"]) rfl (compOk2 (c := s.heap.objs.size + 1) (j := 0) rfl (by decide +kernel) (by decide +kernel) rfl rfl rfl rfl rfl)
      (pi_range2 rfl B.range (pa_cons pe_int (pa_cons (pe_callB call_len_seq rfl B.len bb_len (pa_cons (pv 0) pa_nil)) pa_nil)))
      (fun _ _ _ _ => pg_name (i := 0) nd2 rfl (Or.inl rfl)) (fun _ _ _ _ => pts_nil)
      (fun _ _ _ _ => pe_tup (pa_cons (pe_fn GF FF hr (pa_cons (pe_ix (ix_any (K := K) rfl) (pv 1) (pe_op op_sub (pv 0) pe_int) (fun _ _ => rfl)) pa_nil)) (pa_cons (pe_ix (ix_any (K := K) rfl) (pv 1) (pv 0) (fun _ _ => rfl)) pa_nil))))), ?_⟩
    have hS' : LT H t (Mir.nV xs) := by rw [Mir.nV_up]; exact hS
    refine ⟨_, rfl, t, _, rfl, hS'.imp SqL.of SqT.of, _, _, rfl, ⟨by omega, by omega, by rw [Mir.nV_len]; omega, by rw [Mir.nV_len]; omega⟩, fun D hD => ?_⟩
    refine comp_range (lo := 1) (n := ((((Mir.nV xs).length : Nat) : Int) - 1).toNat) (fun i σ H2 => ∃ v0 : Option V, σ = [v0, some (.ref t)] ∧ Same H H2 ∧ Mir.ClT H2 D ((List.range i).map fun (i : Nat) => (((Ch.far (xs.getD i 0) : Nat) : Int), ((xs.getD (i + 1) 0 : Nat) : Int)))) ⟨none, rfl, same_upd hD, .nil upd_same⟩ ?_ ?_
    · rintro i σ H2 hi ⟨v0, rfl, s2, hc⟩
      rw [Mir.nV_len] at hi
      have hi1 : i + 1 < xs.length := by omega
      have a0 : atI (Mir.nV xs) ((1 : Int) + (i : Nat) - 1) = some (.int (xs.getD i 0 : Nat)) := by
        rw [show (1 : Int) + (i : Nat) - 1 = ((i : Nat) : Int) by omega]
        exact Mir.nV_getD (by omega)
      have a1 : atI (Mir.nV xs) ((1 : Int) + (i : Nat)) = some (.int (xs.getD (i + 1) 0 : Nat)) := by
        rw [show (1 : Int) + (i : Nat) = ((i + 1 : Nat) : Int) by omega]
        exact Mir.nV_getD hi1
      refine gYes ?_
      refine ⟨_, rfl, _, rfl, _, _, rfl, rfl, t, _, _, _, rfl, rfl, hS'.same s2, a0, _, rfl, Int.natCast_nonneg _, ?_⟩
      rw [Mir.farI_nat]
      refine ⟨_, rfl, _, rfl, t, _, _, _, rfl, rfl, hS'.same s2, a1, by show 2 ≤ sizeLine; decide, fun t2 ht2 => ?_⟩
      have s3 := same_upd (o := .tup [.int ((Ch.far (xs.getD i 0) : Nat) : Int), .int ((xs.getD (i + 1) 0 : Nat) : Int)]) ht2
      obtain ⟨ys, hx1, hx2, hx3⟩ := (hc.same s3).snoc (t := t2) (p := (((Ch.far (xs.getD i 0) : Nat) : Int), ((xs.getD (i + 1) 0 : Nat) : Int))) upd_same
      refine ⟨ys, hx1, small1000 (by rw [hx2, List.length_map, List.length_range]; omega), _, rfl, (s2.trans s3).upd hD, ?_⟩
      rw [List.range_succ, List.map_append]
      exact hx3
    · rintro σ H2 ⟨v0, rfl, s2, hc⟩
      rw [Mir.nV_len, show (((xs.length : Nat) : Int) - 1).toNat = xs.length - 1 by omega] at hc
      exact k D H2 hD s2 hc
end
section
variable {P : Program} {w : World} {K : PySem.W.Frag} {mg : Str → Option Value} {base : Heap}
theorem ok_entered_ends_k {f fO C : Addr} {fd fdO : FuncData} {tk : Tok} (B : Bl mg) (Z : ECls K mg "BadWork" C) (MS : mg "MOST_STAVES" = some (.int 40 tk)) (F : Fn K mg "entered_ends" s_entered_ends ["chains"] f fd) (FO : Fn K mg "each_stave_once" s_each_stave_once ["ends"] fO fdO) :
    FnOk P w K mg base (CXk P w) 2 f fd ["chains"] (Mir.spEntered C) := by
  have GO : FnOk P w K mg base CX0 1 fO fdO ["ends"] (Mir.spOnce K) := ok_each_stave_once B FO
  refine F.fn.okK sc_entered_ends (fun vs H Q E h => ?_) (fun cdv A outer s H vs Q E hr h own => ?_)
  · obtain ⟨l, ts, cs, rfl, _⟩ := h
    rfl
  · obtain ⟨l, ts, cs, rfl, ⟨hl, hc⟩, hn, hgood, hbad⟩ := h
    have op := own_passesK (E := E) own
    have one : 1 ≤ sizeLine := by decide
    refine ⟨_, pss_cons (ps_set (i := 1) sc_entered_ends.nd rfl (Or.inl rfl) (pe_lst pa_nil))
      (pss_cons (ps_for op rfl (pi_list (pv 0)) (pg_name (i := 2) sc_entered_ends.nd rfl (Or.inl rfl))
        (pss_cons (ps_if (pt_cmpR op_eq (pe_callB call_len_seq rfl B.len bb_len (pa_cons (pv 2) pa_nil)) pe_int (nomark _)) (pss_one (ps_raiseK rfl Z (pa_cons pe_str pa_nil))) pss_nil)
        (pss_one (ps_expr (pe_bm PySem.F.plainAttrs_list PySem.F.slot_list_extend PySem.F.type_list_extend mt_extendA (pv 1) (pa_cons (pv 2) pa_nil))))))
      (pss_cons (ps_if (pt_cmpR op_gt (pe_callB call_len_seq rfl B.len bb_len (pa_cons (pv 1) pa_nil)) (pe_glob (v := .int 40) rfl MS ⟨_, rfl⟩) (nomark _)) (pss_one (ps_raiseK rfl Z (pa_cons (pe_fs (pj_str (pj_int (pe_glob (v := .int 40) rfl MS ⟨_, rfl⟩) (pj_str pj_nil))) (by decide)) pa_nil))) pss_nil)
      (pss_cons (ps_if (pt_not (pt_val (pe_fn GO FO hr (pa_cons (pv 1) pa_nil)))) (pss_one (ps_raiseK rfl Z (pa_cons pe_str pa_nil))) pss_nil)
      (pss_one (ps_ret (pv 1)))))), ?_⟩
    refine ⟨by show 0 ≤ sizeLine; decide, fun le hle => ?_⟩
    have s1 : Same H (upd H le (.lst [])) := same_upd hle
    refine ⟨_, rfl, l, rfl, ⟨_, SqL.of (s1 _ _ hl)⟩, for_list (K := K) (a := l) (xs := Mir.refs ts) (fun i σ H2 => ∃ v : Option V, σ = [some (.ref l), some (.ref le), v] ∧ Same H H2 ∧ H2 le = some (.lst (Mir.iV (cs.take i).flatten)) ∧ ∀ c ∈ cs.take i, c ≠ [])
      ⟨none, rfl, s1, upd_same, fun c hc => by simp at hc⟩ (fun i σ H2 _ ⟨_, _, s2, _⟩ => SqL.of (s2 _ _ hl)) ?_ ?_⟩
    · rintro i x σ H2 hx ⟨v, rfl, s2, h2, hne⟩
      obtain ⟨t, ht, rfl⟩ := Mir.refs_get' hx
      obtain ⟨c, hci, htc⟩ := Mir.All2.get hc ht
      have htc2 := htc.same s2
      refine ⟨_, rfl, t, _, rfl, htc2.imp SqL.of SqT.of, rfl, _, rfl, ?_⟩
      refine ite2 (fun h1 => ?_) (fun h1 => ?_)
      · have h1 := of_decide_eq_true h1
        injection h1 with h1
        rw [Mir.iV_len] at h1
        have e : c = [] := List.eq_nil_of_length_eq_zero (by omega)
        exact ⟨one, hbad (Mt.bad_ch_empty (by rw [← e]; exact List.mem_of_getElem? hci)) H2 s2⟩
      have h1 : c ≠ [] := fun z => h1 (decide_eq_true (by rw [z]; rfl))
      have hlen : (cs.take i).flatten.length + c.length ≤ cs.flatten.length := by
        have z := Mir.take_snoc hci
        have y : (cs.take (i + 1)).flatten.length ≤ cs.flatten.length := by
          conv => rhs; rw [← List.take_append_drop (i + 1) cs, List.flatten_append, List.length_append]
          omega
        rw [z, List.flatten_append, List.length_append] at y
        simpa using y
      refine ⟨_, rfl, .inl ⟨rfl, _, SqL.of h2⟩, _, rfl, le, t, _, _, rfl, rfl, h2, htc2, ?_, ?_⟩
      · rw [Mir.iV_len, Mir.iV_len]
        exact Nat.le_trans (show (cs.take i).flatten.length + c.length ≤ 1000 by omega) (by decide)
      · refine ⟨_, rfl, s2.upd hle, ?_, ?_⟩
        · rw [upd_same, Mir.take_snoc hci, List.flatten_append, Mir.iV_app]
          simp
        · rw [Mir.take_snoc hci]
          intro d hd
          rcases List.mem_append.mp hd with z | z
          · exact hne d z
          · rw [List.mem_singleton.mp z]; exact h1
    · rintro σ H2 ⟨v, rfl, s2, h2, hne⟩
      have tl : (Mir.refs ts).length = cs.length := by rw [Mir.refs_len]; exact Mir.All2.len hc
      rw [tl, List.take_length] at h2 hne
      refine ⟨_, rfl, le, _, rfl, .inl (SqL.of h2), _, _, rfl, rfl, _, rfl, ?_⟩
      rw [Mir.iV_len]
      refine ite2 (fun h1 => ?_) (fun h1 => ?_)
      · have h1 := of_decide_eq_true h1
        exact ⟨⟨rfl, ⟨_, rfl, by decide⟩, trivial⟩, fun x => ⟨one, hbad (Mt.bad_ch_long (by omega)) H2 s2⟩⟩
      have h1 : cs.flatten.length ≤ 40 := by
        have z : ¬ (40 : Int) < ((cs.flatten.length : Nat) : Int) := fun z => h1 (decide_eq_true z)
        omega
      refine ⟨_, rfl, le, _, rfl, SqL.of h2, by omega, fun b H3 hb s3 => ⟨_, rfl, ?_⟩⟩
      cases b with
      | false => exact iteT ⟨one, hbad (fun G => Bool.false_ne_true (hb.mpr G.once)) H3 (s2.trans s3)⟩
      | true => exact iteF ⟨_, rfl, hgood ⟨hne, h1, hb.mp rfl⟩ le H3 (s2.trans s3) (s3 _ _ h2)⟩
end
section
variable {P : Program} {w : World} {K : PySem.W.Frag} {mg : Str → Option Value} {base : Heap}
theorem ok_work_from_k {f fE fF fW fO fEn fI C : Addr} {fd fdE fdF fdW fdO fdEn fdI : FuncData} {tk : Tok} (B : Bl mg) (Z : ECls K mg "BadWork" C) (MS : mg "MOST_STAVES" = some (.int 40 tk)) (F : Fn K mg "work_from" s_work_from ["rows", "rings"] f fd)
    (FE : Fn K mg "is_end" s_is_end ["number", "ends"] fE fdE) (FF : Fn K mg "far_end" s_far_end ["end"] fF fdF) (FW : Fn K mg "work_by" s_work_by ["staves", "clasps"] fW fdW) (FO : Fn K mg "each_stave_once" s_each_stave_once ["ends"] fO fdO)
    (FEn : Fn K mg "entered_ends" s_entered_ends ["chains"] fEn fdEn) (FI : Fn K mg "inner_clasps" s_inner_clasps ["chain"] fI fdI) : FnOk P w K mg base (CXk P w) 3 f fd ["rows", "rings"] (Mir.spWorkFrom C) := by
  have GF : FnOk P w K mg base CX0 1 fF fdF ["end"] Mir.spFar := ok_far_end FF
  have GW : FnOk P w K mg base (CXo P w) 2 fW fdW ["staves", "clasps"] (Mir.spWorkByX K C) := ok_work_by B Z FW FE
  have GEn : FnOk P w K mg base (CXk P w) 2 fEn fdEn ["chains"] (Mir.spEntered C) := ok_entered_ends_k B Z MS FEn FO
  have GI : FnOk P w K mg base CX0 2 fI fdI ["chain"] Mir.spInner := ok_inner_clasps B FI FF
  refine F.fn.okK sc_work_from (fun vs H Q E h => ?_) (fun cdv A outer s H vs Q E hr h own => ?_)
  · obtain ⟨a, b, ts, us, cs, ds, rfl, _⟩ := h
    rfl
  · obtain ⟨a, b, ts, us, cs, ds, rfl, ha, hb, hfl, hln, alt⟩ := h
    have hr1 : Room 1 _ := hr.mono (by decide)
    have op := own_passesK (E := E) own
    refine ⟨_, pss_cons (ps_set (i := 2) sc_work_from.nd rfl (Or.inl rfl) (pe_fnK GEn FEn hr (pa_cons (pe_op op_cat (pe_callTy call_list_of rfl B.list bb_list (pa_cons (pv 0) pa_nil)) (pe_callTy call_list_of rfl B.list bb_list (pa_cons (pv 1) pa_nil))) pa_nil)))
      (pss_cons (ps_set (i := 3) sc_work_from.nd rfl (Or.inl rfl) (pe_lst pa_nil))
      (pss_cons (ps_for op rfl (pi_list (pv 0)) (pg_name (i := 4) sc_work_from.nd rfl (Or.inl rfl))
        (pss_one (ps_expr (pe_bm PySem.F.plainAttrs_list PySem.F.slot_list_extend PySem.F.type_list_extend mt_extend (pv 3) (pa_cons (pe_fn GI FI hr (pa_cons (pv 4) pa_nil)) pa_nil)))))
      (pss_cons (ps_for op rfl (pi_list (pv 1)) (pg_name (i := 5) sc_work_from.nd rfl (Or.inl rfl))
        (pss_cons (ps_expr (pe_bm PySem.F.plainAttrs_list PySem.F.slot_list_extend PySem.F.type_list_extend mt_extend (pv 3) (pa_cons (pe_fn GI FI hr (pa_cons (pv 5) pa_nil)) pa_nil)))
        (pss_one (ps_expr (pe_bm PySem.F.plainAttrs_list PySem.F.slot_list_append PySem.F.type_list_append mt_append (pv 3) (pa_cons (pe_tup (pa_cons (pe_fn GF FF hr1 (pa_cons (pe_ix (ix_any (K := K) rfl) (pv 5) (pe_un un_neg pe_int) (fun _ _ => rfl)) pa_nil)) (pa_cons (pe_ix (ix_any (K := K) rfl) (pv 5) pe_int (fun _ _ => rfl)) pa_nil))) pa_nil))))))
      (pss_one (ps_ret (pe_fnF GW FW hr (pa_cons (pe_callB call_len_seq rfl B.len bb_len (pa_cons (pv 2) pa_nil)) (pa_cons (pv 3) pa_nil)))))))), ?_⟩
    have tl := Mir.All2.len ha.ch
    have ul := Mir.All2.len hb.ch
    rw [List.length_append] at hln
    refine ⟨_, rfl, a, _, rfl, .inl (SqL.of ha.lst), fun l1 hl1 => ?_⟩
    have s1 : Same H (upd H l1 (.lst (Mir.refs ts))) := same_upd hl1
    refine ⟨_, rfl, b, _, rfl, .inl (SqL.of (s1 _ _ hb.lst)), fun l2 hl2 => ?_⟩
    have s2 : Same (upd H l1 (.lst (Mir.refs ts))) (upd (upd H l1 (.lst (Mir.refs ts))) l2 (.lst (Mir.refs us))) := same_upd hl2
    refine ⟨l1, l2, _, _, rfl, rfl, s2 _ _ upd_same, upd_same, Nat.le_trans (show (Mir.refs ts).length + (Mir.refs us).length ≤ 1000 by rw [Mir.refs_len, Mir.refs_len]; omega) (by decide), fun l3 hl3 => ?_⟩
    have s3 := (s1.trans s2).trans (same_upd (o := .lst (Mir.refs ts ++ Mir.refs us)) hl3)
    have hcc : Mir.Cs H (ts ++ us) (cs ++ ds) := Mir.All2.app ha.ch hb.ch
    have hch : Mir.ChT (upd (upd (upd H l1 (.lst (Mir.refs ts))) l2 (.lst (Mir.refs us))) l3 (.lst (Mir.refs ts ++ Mir.refs us))) l3 (ts ++ us) (cs ++ ds) := ⟨by rw [upd_same, Mir.refs_app], hcc.same s3⟩
    rcases alt with ⟨n, ms, rows, rings, W, D, rfl, rfl, k⟩ | ⟨hbad, kx⟩
    · have hsm := W.small
      have G := Mir.deco_good hsm D
      have el : (rows.map Mt.up ++ rings.map Mt.up).flatten.length = n := by rw [← List.map_append, Mir.up_flat, Mt.up_len, Mir.deco_len D]
      have rlen : ∀ r ∈ rows ++ rings, 0 < r.length ∧ r.length ≤ 40 := fun r h => ⟨(D.ch h).ne, by have z := Mir.flatten_le h; rw [Mir.deco_len D] at z; omega⟩
      have fl : rows.flatten.length + rings.flatten.length = n := by have z := Mir.deco_len D; rw [List.flatten_append, List.length_append] at z; exact z
      have gl : rings.length ≤ 40 := by have z := Mir.len_le_flat (l := rings) fun r h => (rlen r (List.mem_append_right _ h)).1; omega
      refine ⟨l3, _, _, rfl, hch, hfl, fun _ le H4 s4 hle => ?_, fun hb => absurd G hb⟩
      have sH4 := s3.trans s4
      refine ⟨by show 0 ≤ sizeLine; decide, fun lc hlc => ?_⟩
      have s5 : Same H4 (upd H4 lc (.lst [])) := same_upd hlc
      have ha4 := ha.same sH4
      have hb4 := hb.same sH4
      refine ⟨_, rfl, a, rfl, ⟨_, SqL.of (s5 _ _ ha4.lst)⟩, for_list (K := K) (a := a) (xs := Mir.refs ts) (fun i σ H2 => ∃ v : Option V, σ = [some (.ref a), some (.ref b), some (.ref le), some (.ref lc), v, none] ∧ Same H4 H2 ∧ Mir.ClT H2 lc ((rows.take i).flatMap Mt.innerC))
        ⟨none, rfl, s5, .nil upd_same⟩ (fun i σ H2 _ ⟨_, _, s6, _⟩ => SqL.of (s6 _ _ ha4.lst)) ?_ ?_⟩
      · rintro i x σ H2 hx ⟨v, rfl, s6, hc⟩
        obtain ⟨t, ht, rfl⟩ := Mir.refs_get' hx
        obtain ⟨c, hci, htc⟩ := Mir.All2.get ha4.ch ht
        rw [List.getElem?_map] at hci
        cases hri : rows[i]? with
        | none => rw [hri] at hci; cases hci
        | some r =>
          rw [hri] at hci
          obtain rfl := Option.some.inj hci
          have rl := rlen r (List.mem_append_left _ (List.mem_of_getElem? hri))
          obtain ⟨xs, hx1, hx2⟩ := hc.len
          refine ⟨_, rfl, .inl ⟨rfl, _, SqL.of hx1⟩, _, rfl, t, r, rfl, htc.same s6, by omega, fun li H3 hli s7 hci3 => ?_⟩
          obtain ⟨xs2, zs, e1, e2, e3, e4, hap⟩ := (hc.same s7).app hci3
          refine ⟨lc, li, xs2, zs, rfl, rfl, e1, e2, ?_, ?_⟩
          · have z1 := Mir.inners_len (rows.take i)
            have z2 := Mir.inner_len r
            have z3 : (rows.take i).flatten.length ≤ rows.flatten.length := by
              conv => rhs; rw [← List.take_append_drop i rows, List.flatten_append, List.length_append]
              omega
            rw [e3, e4]
            exact Nat.le_trans (show ((rows.take i).flatMap Mt.innerC).length + (Mt.innerC r).length ≤ 1000 by omega) (by decide)
          · refine ⟨_, rfl, (s6.trans s7).upd hlc, ?_⟩
            rw [Mir.take_snoc hri, List.flatMap_append]
            simpa using hap
      rintro σ H6 ⟨v, rfl, s6, hc⟩
      have tl2 : (Mir.refs ts).length = rows.length := by rw [Mir.refs_len, tl, List.length_map]
      rw [tl2, List.take_length] at hc
      have sz1 := Mir.inners_len rows
      refine ⟨_, rfl, b, rfl, ⟨_, SqL.of (s6 _ _ hb4.lst)⟩, for_list (K := K) (a := b) (xs := Mir.refs us) (fun i σ H2 => ∃ v5 : Option V, σ = [some (.ref a), some (.ref b), some (.ref le), some (.ref lc), v, v5] ∧ Same H4 H2 ∧ Mir.ClT H2 lc (rows.flatMap Mt.innerC ++ (rings.take i).flatMap Mt.ringC))
        ⟨none, rfl, s6, by simpa using hc⟩ (fun i σ H2 _ ⟨_, _, s7, _⟩ => SqL.of (s7 _ _ hb4.lst)) ?_ ?_⟩
      · rintro i x σ H2 hx ⟨v5, rfl, s7, hc⟩
        obtain ⟨t, ht, rfl⟩ := Mir.refs_get' hx
        obtain ⟨c, hci, htc⟩ := Mir.All2.get hb4.ch ht
        rw [List.getElem?_map] at hci
        cases hri : rings[i]? with
        | none => rw [hri] at hci; cases hci
        | some r =>
          rw [hri] at hci
          obtain rfl := Option.some.inj hci
          have rl := rlen r (List.mem_append_right _ (List.mem_of_getElem? hri))
          obtain ⟨xs, hx1, hx2⟩ := hc.len
          have z1 := Mir.rings_len (rings.take i)
          have z2 := Mir.inner_len r
          have z3 : (rings.take i).flatten.length ≤ rings.flatten.length := by
            conv => rhs; rw [← List.take_append_drop i rings, List.flatten_append, List.length_append]
            omega
          have z4 : (rings.take i).length ≤ rings.length := by rw [List.length_take]; omega
          refine ⟨_, rfl, .inl ⟨rfl, _, SqL.of hx1⟩, _, rfl, t, r, rfl, htc.same s7, by omega, fun li H3 hli s8 hci3 => ?_⟩
          obtain ⟨xs2, zs, e1, e2, e3, e4, hap⟩ := (hc.same s8).app hci3
          have e5 : xs2.length + zs.length ≤ 1000 := by rw [e3, e4, List.length_append]; omega
          refine ⟨lc, li, xs2, zs, rfl, rfl, e1, e2, Nat.le_trans e5 (by decide), ?_⟩
          have s9 : Same H4 (upd H3 lc (.lst (xs2 ++ zs))) := (s7.trans s8).upd hlc
          have e6 : upd H3 lc (.lst (xs2 ++ zs)) lc = some (.lst (xs2 ++ zs)) := upd_same
          generalize upd H3 lc (.lst (xs2 ++ zs)) = H5 at s9 e6 hap
          have htn : LT H5 t (Mir.nV r) := by rw [Mir.nV_up]; exact htc.same s9
          refine ⟨_, rfl, .inl ⟨rfl, _, SqL.of e6⟩, _, rfl, _, rfl, t, _, _, _, rfl, rfl, htn, Mir.atI_up rl.1, _, rfl, Int.natCast_nonneg _, ?_⟩
          rw [Mir.farI_nat]
          refine ⟨_, rfl, t, _, _, _, rfl, rfl, htn, Mir.nV_getD (i := 0) rl.1, by show 2 ≤ sizeLine; decide, fun tp htp => ?_⟩
          have sA := same_upd (o := .tup [.int ((Ch.far (r.getD (r.length - 1) 0) : Nat) : Int), .int ((r.getD 0 0 : Nat) : Int)]) htp
          obtain ⟨ys, y1, y2, y3⟩ := (hap.same sA).snoc (t := tp) (p := (((Ch.far (r.getD (r.length - 1) 0) : Nat) : Int), ((r.getD 0 0 : Nat) : Int))) upd_same
          refine ⟨lc, _, _, rfl, rfl, y1, small1000 (by rw [y2, List.length_append, ← e3, ← e4]; exact e5), ?_⟩
          refine ⟨_, rfl, (s9.trans sA).upd hlc, ?_⟩
          rw [Mir.take_snoc hri, List.flatMap_append]
          simpa [Mt.ringC] using y3
      rintro σ H7 ⟨v5, rfl, s7, hc⟩
      have ul2 : (Mir.refs us).length = rings.length := by rw [Mir.refs_len, ul, List.length_map]
      rw [ul2, List.take_length] at hc
      have hc : Mir.ClT H7 lc (Mt.allC rows rings) := hc
      have MM := D.clasps W.wk
      have cl : (Mt.allC rows rings).length ≤ 1000 := by
        have z := Mir.rings_len rings
        unfold Mt.allC
        rw [List.length_append]
        omega
      refine ⟨_, rfl, le, _, rfl, .inl (SqL.of (s7 _ _ hle)), _, rfl, ?_⟩
      rw [Mir.iV_len, el]
      have sH7 := sH4.trans s7
      refine ⟨n, lc, _, rfl, hsm, hc.at, cl, Mir.Matches_sm hsm MM, fun _ tw H8 ntw s8 hw => ?_, fun hb => absurd (Mir.goodC_iff.mp MM.good) hb⟩
      rw [Mir.mates_of W MM] at hw
      exact k tw H8 (sH7.free ntw) (sH7.trans s8) hw
    · exact ⟨l3, _, _, rfl, hch, hfl, fun G => absurd G hbad, fun _ H4 s4 => kx H4 (s3.trans s4)⟩
end
section
variable {P : Program} {w : World} {K : PySem.W.Frag} {mg : Str → Option Value} {base : Heap}
theorem ok_words_of_text {f : Addr} {fd : FuncData} (F : Fn K mg "words_of_text" s_words_of_text ["text"] f fd) : FnOk P w K mg base CX0 1 f fd ["text"] Sx.spWordsOf := by
  refine F.fn.ok sc_words_of_text (fun vs H Q E h => ?_) (fun cdv A outer s H vs Q E hr h => ?_)
  · obtain ⟨z, rfl, _⟩ := h
    rfl
  · obtain ⟨z, rfl, hz, hl, k⟩ := h
    refine ⟨_, pss_one (ps_ret (pe_ifExp (pt_cmpR op_ne (pv 0) pe_str (nomark _)) (pe_bm PySem.F.plainAttrs_str PySem.F.slot_str_split PySem.F.type_str_split mt_split (pv 0) (pa_cons pe_str pa_nil)) (pe_lst pa_nil))), ?_⟩
    refine ⟨_, rfl, rfl, _, rfl, ?_⟩
    have sz : ∀ n : Nat, n ≤ 20000 → n ≤ sizeLine := fun n h => Nat.le_trans h (by decide)
    refine ite2 (fun h3 => ?_) (fun h3 => ?_)
    · have ne : z ≠ "." := fun e => by rw [e] at h3; simp at h3
      have l1 := Sx.split_len hz
      have l2 := Sx.parts_len z
      refine ⟨_, rfl, rfl, z, _, rfl, rfl, by rw [Sx.blank]; rfl, sz _ (by omega), sz _ (by rw [Sx.blank]; omega), sz _ (by rw [Sx.blank]; omega), fun p hp => k p _ _ hp (same_upd hp) upd_same ?_⟩
      rw [Sx.blank, Sx.split_tl hz (by decide), if_neg (fun e => ne (Sx.eq_dot.mpr e))]
    · have e : z = "." := by
        by_cases e : z = "."
        · exact e
        · exact absurd (by simp [e]) h3
      refine ⟨by show 0 ≤ sizeLine; decide, fun p hp => k p [] _ hp (same_upd hp) upd_same ?_⟩
      rw [if_pos (Sx.eq_dot.mp e)]
      rfl
end
section
variable {P : Program} {w : World} {K : PySem.W.Frag} {mg : Str → Option Value} {base : Heap}
theorem ok_read_number39 {f C : Addr} {fd : FuncData} {tf : Tok} (B : Bl mg) (MF : mg "FIGURES" = some (.str Sx.FIG tf)) (Z : ECls K mg "NoText" C) (F : Fn K mg "read_number" s_read_number ["word", "most"] f fd) : FnOk P w K mg base (CXo P w) 1 f fd ["word", "most"] (Sx.spNum39 C) := by
  refine F.fn.okX2 sc_read_number (fun vs H Q E h => ?_) (fun cdv A outer s H vs Q E hr h own => ?_)
  · obtain ⟨z, rfl, _⟩ := h
    rfl
  · obtain ⟨z, rfl, hA, hl, kg, kb⟩ := h
    have nd1 : (["sign"] : List Str).Nodup := by decide +kernel
    have sz : ∀ n : Nat, n ≤ 20000 → n ≤ sizeLine := fun n h => Nat.le_trans h (by decide)
    have one : 1 ≤ sizeLine := by decide
    have big : ∀ x : Nat, x ≤ 5000 → x < sizeLine := fun x hx => Nat.lt_of_le_of_lt hx (by decide)
    have l39 : (Str.ofString (toString (39 : Int))).length = 2 := by decide +kernel
    have g39 : (39 : Int).natAbs.log2 < 1920 := by decide +kernel
    have zero : Sx.tl ("0" : Str) = [48] := by decide +kernel
    refine ⟨_, pss_cons (ps_if (PW.pt (pw_or (pt_cmpR op_eq (pv 0) pe_str (nomark _)) (pw_or1 (pt_not (pt_val (pe_callB (call_all_bl rfl) rfl B.all bb_all (pa_cons (pe_comp (NC := ["sign"]) rfl (compOk0 rfl (by decide +kernel) (by decide +kernel)) (pi_str (pv 0)) (fun _ _ _ _ => pg_name (i := 0) nd1 rfl (Or.inl rfl)) (fun _ _ _ _ => pts_nil) (fun _ _ _ _ => pe_cmpR op_in_str (pv 0) (pe_glob (v := .str Sx.FIG) rfl MF ⟨_, rfl⟩) rfl)) pa_nil))))))) (pss_one (ps_raise rfl Z (pa_cons (pe_fs (pj_rv (pv 0) (pj_str pj_nil)) (by decide)) pa_nil))) pss_nil)
      (pss_cons (ps_if (PW.pt (pw_and (pt_cmpR op_eq (pe_item_str (pv 0) pe_int (fun _ _ => rfl)) pe_str (nomark _)) (pw_and1 (pt_cmpR op_ne (pv 0) pe_str (nomark _))))) (pss_one (ps_raise rfl Z (pa_cons (pe_fs (pj_sv (pv 0) (pj_str pj_nil)) (by decide)) pa_nil))) pss_nil)
      (ps_sem (R := fun D σ H2 => σ = [some (.str z), some (.int 39)] ∧ Same H H2 ∧ Sx.tl z ≠ [] ∧ (∀ c ∈ Sx.tl z, 48 ≤ c ∧ c ≤ 57) ∧ ((Sx.tl z).head? = some 48 → Sx.tl z = [48]) ∧ D.rt = Q) fun D σ H2 hR => ?rest)), ?_⟩
    case rest =>
      obtain ⟨rfl, s2, d2, d1, d4, hD⟩ := hR
      refine ⟨_, pss_cons (ps_if (PW.pt (pw_or (pt_cmpR op_gt (pe_callB call_len_str rfl B.len bb_len (pa_cons (pv 0) pa_nil)) (pe_callB call_len_str rfl B.len bb_len (pa_cons (pe_callTy call_str_int rfl B.str bb_str (pa_cons (pv 1) pa_nil)) pa_nil)) (nomark _)) (pw_or1 (pt_cmpR op_gt (pe_callTy call_int_text rfl B.int bb_int (pa_cons (pv 0) pa_nil)) (pv 1) (nomark _))))) (pss_one (ps_raise rfl Z (pa_cons (pe_fs (pj_sv (pv 0) (pj_str (pj_int (pv 1) pj_nil))) (by decide)) pa_nil))) pss_nil)
        (pss_one (ps_ret (pe_callTy call_int_text rfl B.int bb_int (pa_cons (pv 0) pa_nil)))), ?_⟩
      refine ⟨_, rfl, z, rfl, sz _ (by omega), _, rfl, 39, rfl, g39, _, rfl, sz _ (by omega), _, _, rfl, rfl, _, rfl, ?_⟩
      by_cases c2 : z.length ≤ 2
      · obtain ⟨m, hm, hz⟩ := Sx.num_of d2 d1 d4 c2
        have nr : PySem.intText? z = some (m : Int) := by rw [Sx.is_num hz]; exact PySem.W.KIN.num_reads (by omega) (by omega)
        refine iteD (by rw [l39]; omega) ⟨_, rfl, z, m, rfl, nr, by omega, _, rfl, _, _, rfl, rfl, _, rfl, ?_⟩
        by_cases c3 : m < 40
        · refine iteD (by omega) ⟨_, rfl, z, m, rfl, nr, by omega, ?_⟩
          rw [hD]
          exact kg m _ (by rw [hz]; exact Sx.rdM_40 m c3) s2
        · refine iteE (by omega) ⟨⟨_, rfl, rfl, ⟨z, rfl, by omega, hA⟩, _, rfl, rfl, ⟨_, rfl, g39⟩, trivial⟩, fun x => ⟨one, kb _ ?_ s2⟩⟩
          cases q : Sx.rdM 40 (Sx.tl z) with
          | none => rfl
          | some m2 =>
            obtain ⟨q1, q2⟩ := Sx.rdM_of q
            have nr2 : PySem.intText? z = some (m2 : Int) := by rw [Sx.is_num q2.symm]; exact PySem.W.KIN.num_reads (by omega) (by omega)
            rw [nr] at nr2
            have := Option.some.inj nr2
            omega
      · refine iteE (by rw [l39]; omega) ⟨⟨_, rfl, rfl, ⟨z, rfl, by omega, hA⟩, _, rfl, rfl, ⟨_, rfl, g39⟩, trivial⟩, fun x => ⟨one, kb _ ?_ s2⟩⟩
        cases q : Sx.rdM 40 (Sx.tl z) with
        | none => rfl
        | some m2 =>
          obtain ⟨q1, q2⟩ := Sx.rdM_of q
          have := (Sx.dg100 m2 (by omega)).2.2.1
          rw [q2] at this
          exact absurd this c2
    have bad : ∀ {H2 : Hp}, Sx.rdM 40 (Sx.tl z) = none → Same H H2 → E (.ref C) none H2 := fun h1 h2 => kb _ h1 h2
    refine ⟨_, rfl, rfl, _, rfl, ?_⟩
    by_cases h0 : Sx.tl z = []
    · have e0 : z = "" := Sx.ext (by rw [h0]; decide +kernel)
      exact iteE (by rw [e0]) ⟨⟨_, rfl, rfl, ⟨z, rfl, by omega, hA⟩, trivial⟩, fun x => ⟨one, kb _ (by rw [h0]; decide +kernel) (Same.refl _)⟩⟩
    have nz : ¬ z = "" := fun e => h0 (by rw [e]; decide +kernel)
    refine iteD (fun e => nz (by injection e)) ?_
    refine ⟨_, rfl, z, rfl, hA, fun D hD => comp_str (z := z) (fun i σ H2 => ∃ (v : Option V), σ = [v] ∧ Same H H2 ∧ H2 D = some (.lst ((((Sx.tl z).take i).map fun c => decide (48 ≤ c ∧ c ≤ 57)).map V.bl)))
      ⟨none, rfl, same_upd hD, upd_same⟩ ?_ ?_⟩
    · rintro i c σ H2 hc ⟨v, rfl, s4, hD2⟩
      have hi : i < z.length := (Array.getElem?_eq_some_iff.mp hc).1
      have hci : (Sx.tl z)[i]? = some c := by rw [← hc]; exact Array.getElem?_toList
      refine gYes ⟨_, rfl, _, _, rfl, rfl, ?_⟩
      rw [Sx.fig_at c (Sx.ascM hA c (List.mem_of_getElem? hci))]
      refine ⟨_, hD2, big _ (by rw [List.length_map, List.length_map, List.length_take]; omega), _, rfl, s4.upd hD, ?_⟩
      rw [upd_same, Mir.take_snoc hci, List.map_append, List.map_append]
      rfl
    · rintro σ H2 ⟨v, rfl, s4, hD2⟩
      rw [List.take_of_length_le (show (Sx.tl z).length ≤ z.length from Nat.le_refl _)] at hD2
      refine ⟨D, _, rfl, hD2, _, rfl, ?_⟩
      by_cases d1 : ∀ c ∈ Sx.tl z, 48 ≤ c ∧ c ≤ 57
      · have e : ((Sx.tl z).map fun c => decide (48 ≤ c ∧ c ≤ 57)).all id = true := by
          rw [List.all_eq_true]
          intro b hb
          obtain ⟨c, hc, rfl⟩ := List.mem_map.mp hb
          exact decide_eq_true (d1 c hc)
        rw [e]
        refine iteF ?_
        have h1 : (Sx.tl z)[0]? = some ((Sx.tl z).headD 0) := by
          cases h : Sx.tl z with
          | nil => exact absurd h h0
          | cons a r => rfl
        have h2 : z.cps[(0 : Int).toNat]? = some ((Sx.tl z).headD 0) := by
          rw [← h1]
          exact Array.getElem?_toList.symm
        have hl1 : 1 ≤ z.length := List.length_pos_iff.mpr h0
        refine ⟨_, rfl, _, _, _, rfl, rfl, by decide, by decide, by show (0 : Int) < z.length; omega, h2, rfl, _, rfl, ?_⟩
        by_cases c0 : (Sx.tl z).headD 0 = 48
        · refine iteE (by rw [c0]; exact congrArg V.str (Sx.ext (by rw [zero]; rfl))) ⟨_, rfl, rfl, _, rfl, ?_⟩
          by_cases c1 : Sx.tl z = [48]
          · refine iteNS (by rw [show z = "0" from Sx.ext (by rw [zero, c1])]) ?_
            exact ⟨rfl, s4, h0, d1, fun _ => c1, rfl⟩
          · have e1 : ¬ V.str z = V.str "0" := fun e => c1 (by injection e with e; rw [e, zero])
            refine Sx.iteNQ e1 ⟨⟨_, rfl, rfl, ⟨z, rfl, by omega, hA⟩, trivial⟩, fun x => ⟨one, bad ?_ s4⟩⟩
            cases q : Sx.rdM 40 (Sx.tl z) with
            | none => rfl
            | some m2 =>
              obtain ⟨q1, q2⟩ := Sx.rdM_of q
              refine absurd ((Sx.dg100 m2 (by omega)).2.2.2 ?_) (by rw [q2]; exact c1)
              rw [q2]
              cases h : Sx.tl z with
              | nil => exact absurd h h0
              | cons a r => rw [h] at c0; exact congrArg some c0
        · refine iteD (fun e => c0 (by injection e with e; have := congrArg Sx.tl e; rw [zero] at this; exact (List.cons.inj this).1)) (iteF ?_)
          refine ⟨rfl, s4, h0, d1, fun h => absurd ?_ c0, rfl⟩
          rw [List.headD_eq_head?_getD, h]
          rfl
      · have e : ((Sx.tl z).map fun c => decide (48 ≤ c ∧ c ≤ 57)).all id = false := by
          rw [Bool.eq_false_iff]
          intro h
          rw [List.all_eq_true] at h
          exact d1 fun c hc => of_decide_eq_true (h _ (List.mem_map.mpr ⟨c, hc, rfl⟩))
        rw [e]
        refine iteT ⟨⟨_, rfl, rfl, ⟨z, rfl, by omega, hA⟩, trivial⟩, fun x => ⟨one, bad ?_ s4⟩⟩
        cases q : Sx.rdM 40 (Sx.tl z) with
        | none => rfl
        | some m2 =>
          obtain ⟨q1, q2⟩ := Sx.rdM_of q
          exact absurd (by rw [← q2]; exact (Sx.dg100 m2 (by omega)).1) d1
end
section
seal L2.PSs L2.PS L2.PE L2.PT L2.PA
variable {P : Program} {w : World} {K : PySem.W.Frag} {mg : Str → Option Value} {base : Heap}
theorem ok_read_stave_x {f fN C : Addr} {fd fdN : FuncData} {tf tm : Tok} (B : Bl mg) (MF : mg "FIGURES" = some (.str Sx.FIG tf)) (MS : mg "MOST_STAVES" = some (.int 40 tm)) (Z : ECls K mg "NoText" C) (F : Fn K mg "read_stave" s_read_stave ["word"] f fd) (FN : Fn K mg "read_number" s_read_number ["word", "most"] fN fdN) : FnOk P w K mg base (CXo P w) 2 f fd ["word"] (Sx.spStaveX C) := by
  have GN : FnOk P w K mg base (CXo P w) 1 fN fdN ["word", "most"] (Sx.spNum39 C) := ok_read_number39 B MF Z FN
  refine F.fn.okX2 sc_read_stave (fun vs H Q E h => ?_) (fun cdv A outer s H vs Q E hr h own => ?_)
  · obtain ⟨z, rfl, _⟩ := h
    rfl
  · obtain ⟨z, rfl, hA, hl, kg, kb⟩ := h
    have sz : ∀ n : Nat, n ≤ 20000 → n ≤ sizeLine := fun n h => Nat.le_trans h (by decide)
    refine ⟨_, pss_cons (ps_set (i := 1) sc_read_stave.nd rfl (Or.inl rfl) (pe_bm PySem.F.plainAttrs_str PySem.F.slot_str_startswith PySem.F.type_str_startswith mt_starts (pv 0) (pa_cons pe_str pa_nil)))
      (pss_cons (ps_set (i := 2) sc_read_stave.nd rfl (Or.inl rfl) (pe_fnX GN FN hr (pa_cons (pe_ifExp (pt_val (pv 1)) (pe_slice sl_str (pv 0) (po_some pe_int) po_none) (pv 0)) (pa_cons (pe_op op_sub (pe_glob (v := .int 40) rfl MS ⟨_, rfl⟩) pe_int) pa_nil))))
      (pss_one (ps_ret (pe_ifExp (pt_val (pv 1)) (pe_op op_add (pe_op op_mul pe_int (pv 2)) pe_int) (pe_op op_mul pe_int (pv 2)))))), ?_⟩
    refine ⟨_, rfl, rfl, _, _, rfl, rfl, ?_⟩
    rw [Sx.minus, Sx.starts_any]
    unfold Sx.rdS at kg kb
    by_cases ho : (Sx.tl z).head? = some 45
    · rw [decide_eq_true ho]
      rw [if_pos ho] at kg kb
      have hl1 : 1 ≤ z.length := by
        cases h : Sx.tl z with
        | nil => rw [h] at ho; cases ho
        | cons a r => rw [Sx.len_tl, h]; simp
      have ez : Sx.tl (Txt.slice z (some 1) none) = (Sx.tl z).tail := by rw [Sx.slice_from1 hl1, List.drop_one]
      refine ⟨_, rfl, _, rfl, iteT ⟨_, rfl, _, rfl, z, rfl, sz _ (by omega), _, _, rfl, rfl, _, rfl, Sx.ascii_of fun c hc => Sx.ascM hA c (List.mem_of_mem_tail (ez ▸ hc)), ?_, fun m H' hm s1 => ?_, fun H' hm s1 => ?_⟩⟩
      · rw [Sx.len_tl, ez, List.length_tail, ← Sx.len_tl]; omega
      · rw [ez] at hm
        refine ⟨_, rfl, _, rfl, iteT ⟨_, rfl, _, _, rfl, rfl, .inl ⟨by decide, by decide⟩, _, _, rfl, rfl, ?_⟩⟩
        have e1 : (2 : Int) * ((m : Nat) : Int) + 1 = ((2 * m + 1 : Nat) : Int) := by omega
        show Q (V.int ((2 : Int) * ((m : Nat) : Int) + 1)) H'
        rw [e1]
        exact kg _ _ (by rw [hm]; rfl) s1
      · rw [ez] at hm
        exact kb _ (by rw [hm]; rfl) s1
    · rw [decide_eq_false ho]
      rw [if_neg ho] at kg kb
      refine ⟨_, rfl, _, rfl, iteF ⟨_, rfl, _, _, rfl, rfl, _, rfl, hA, hl, fun m H' hm s1 => ?_, fun H' hm s1 => ?_⟩⟩
      · refine ⟨_, rfl, _, rfl, iteF ⟨_, rfl, _, _, rfl, rfl, .inl ⟨by decide, by decide⟩, ?_⟩⟩
        have e1 : (2 : Int) * ((m : Nat) : Int) = ((2 * m : Nat) : Int) := by omega
        show Q (V.int ((2 : Int) * ((m : Nat) : Int))) H'
        rw [e1]
        exact kg _ _ (by rw [hm]; rfl) s1
      · exact kb _ (by rw [hm]; rfl) s1
end
section
seal L2.PSs L2.PS L2.PE L2.PT L2.PA
variable {P : Program} {w : World} {K : PySem.W.Frag} {mg : Str → Option Value} {base : Heap}
theorem ok_opening_x {f C CN : Addr} {fd : FuncData} (MC : mg "CLOSING" = some (.ref C)) (kd : KD P w K C Sx.CLO) (Z : ECls K mg "NoText" CN) (F : Fn K mg "opening_bracket" s_opening_bracket ["word"] f fd) : FnOk P w K mg base (CXo P w) 1 f fd ["word"] (Sx.spOpenX CN) := by
  refine F.fn.okX2 sc_opening_bracket (fun vs H Q E h => ?_) (fun cdv A outer s H vs Q E hr h own => ?_)
  · obtain ⟨z, rfl, _⟩ := h
    rfl
  · obtain ⟨z, rfl, hA, hl, kg, kb⟩ := h
    have sz : ∀ n : Nat, n ≤ 20000 → n ≤ sizeLine := fun n h => Nat.le_trans h (by decide)
    have one : 1 ≤ sizeLine := by decide
    refine ⟨_, pss_cons (ps_if (pt_cmp (pc_knotin (a := C) kd (pe_slice sl_str (pv 0) po_none (po_some pe_int)) (pe_glob (v := .ref C) rfl MC rfl)) rfl) (pss_one (ps_raise rfl Z (pa_cons (pe_fs (pj_str (pj_rv (pv 0) pj_nil)) (by decide)) pa_nil))) pss_nil)
      (pss_one (ps_ret (pe_slice sl_str (pv 0) po_none (po_some pe_int)))), ?_⟩
    refine ⟨_, rfl, _, rfl, z, rfl, sz _ (by omega), rfl, _, rfl, _, rfl, ?_⟩
    by_cases h : ∃ k, (Sx.tl z).head? = some (Sx.opC k)
    · obtain ⟨k, hk⟩ := h
      have e : Txt.slice z none (some 1) = Sx.opS k := Sx.slice_head hk
      rw [e, Sx.at_op]
      refine iteF ⟨_, rfl, _, rfl, z, rfl, sz _ (by omega), ?_⟩
      rw [e]
      exact kg k hk
    · have hn : ∀ k, (Sx.tl z).head? ≠ some (Sx.opC k) := fun k z => h ⟨k, z⟩
      rw [Sx.at_none hn]
      exact iteT ⟨⟨_, rfl, rfl, ⟨z, rfl, by omega, hA⟩, trivial⟩, fun x => ⟨one, kb hn _ (Same.refl _)⟩⟩
end
section
variable {P : Program} {w : World} {K : PySem.W.Frag} {mg : Str → Option Value} {base : Heap}
theorem ok_read_chains_x {f fW fO fS fN C CN : Addr} {fd fdW fdO fdS fdN : FuncData} {tf tm : Tok} (B : Bl mg) (MC : mg "CLOSING" = some (.ref C)) (kd : KD P w K C Sx.CLO) (MF : mg "FIGURES" = some (.str Sx.FIG tf)) (MS : mg "MOST_STAVES" = some (.int 40 tm)) (Z : ECls K mg "NoText" CN)
    (F : Fn K mg "read_chains" s_read_chains ["text"] f fd) (FW : Fn K mg "words_of_text" s_words_of_text ["text"] fW fdW) (FO : Fn K mg "opening_bracket" s_opening_bracket ["word"] fO fdO) (FS : Fn K mg "read_stave" s_read_stave ["word"] fS fdS) (FN : Fn K mg "read_number" s_read_number ["word", "most"] fN fdN) :
    FnOk P w K mg base (CXo P w) 3 f fd ["text"] (Sx.spChainsX CN) := by
  have GW : FnOk P w K mg base CX0 1 fW fdW ["text"] Sx.spWordsOf := ok_words_of_text FW
  have GO : FnOk P w K mg base (CXo P w) 1 fO fdO ["word"] (Sx.spOpenX CN) := ok_opening_x MC kd Z FO
  have GS : FnOk P w K mg base (CXo P w) 2 fS fdS ["word"] (Sx.spStaveX CN) := ok_read_stave_x B MF MS Z FS FN
  refine F.fn.okX2 sc_read_chains (fun vs H Q E h => ?_) (fun cdv A outer s H vs Q E hr h own => ?_)
  · obtain ⟨z, rfl, _⟩ := h
    rfl
  · obtain ⟨z, rfl, hz, hzl, kg, kb⟩ := h
    have hr1 : Room 1 _ := hr.mono (by decide)
    have sz : ∀ n : Nat, n ≤ 20000 → n ≤ sizeLine := fun n h => Nat.le_trans h (by decide)
    have one : 1 ≤ sizeLine := by decide
    have op := own_passes (E := E) own
    have big : ∀ x : Nat, x ≤ 10000 → x < sizeLine := fun x hx => Nat.lt_of_le_of_lt hx (by decide)
    refine ⟨_, pss_cons (ps_set (i := 1) sc_read_chains.nd rfl (Or.inl rfl) (pe_lst pa_nil))
      (pss_cons (ps_set (i := 2) sc_read_chains.nd rfl (Or.inl rfl) pe_str)
      (pss_cons (ps_for op rfl (pi_list (pe_fn GW FW hr1 (pa_cons (pv 0) pa_nil))) (pg_name (i := 3) sc_read_chains.nd rfl (Or.inl rfl))
        (pss_cons (ps_set (i := 4) sc_read_chains.nd rfl (Or.inl rfl) (pv 3))
        (pss_cons (ps_if (pt_cmpR op_eq (pv 2) pe_str (nomark _))
          (pss_cons (ps_set (i := 2) sc_read_chains.nd rfl (Or.inl rfl) (pe_fnX GO FO hr1 (pa_cons (pv 3) pa_nil)))
          (pss_cons (ps_expr (pe_bm PySem.F.plainAttrs_list PySem.F.slot_list_append PySem.F.type_list_append mt_append (pv 1) (pa_cons (pe_tup (pa_cons (pv 2) (pa_cons (pe_lst pa_nil) pa_nil))) pa_nil)))
          (pss_one (ps_set (i := 4) sc_read_chains.nd rfl (Or.inl rfl) (pe_slice sl_str (pv 3) (po_some pe_int) po_none))))) pss_nil)
        (ps_sem (R := fun D σ H2 => ∃ (H1 : Hp) (p : Addr) (v3 v5 : Option V) (told : Str) (k k0 : Bool) (ts : List Addr) (t b : Addr) (xs : List (Addr × Bool × List Nat)) (l : List Nat),
            σ = [some (.str z), some (.ref p), some (.str (Sx.opS k)), v3, some (.str told), v5] ∧ Sx.RC H1 H2 p (ts ++ [t]) (xs ++ [(b, k0, l)]) ∧ Ascii told ∧ told.length ≤ 5000 ∧ l.length ≤ 9000 ∧
            (∀ e H', Sx.rdS 40 (if Sx.isCl k (Sx.tl told) then (Sx.tl told).dropLast else Sx.tl told) = some e → Sx.RC H1 H' p (ts ++ [t]) (xs ++ [(b, k0, l ++ [e])]) → D.nx [some (.str z), some (.ref p), some (.str (Sx.brS (if Sx.isCl k (Sx.tl told) then none else some k))), v3, some (.str told), some (.bl (Sx.isCl k (Sx.tl told)))] H') ∧
            (Sx.rdS 40 (if Sx.isCl k (Sx.tl told) then (Sx.tl told).dropLast else Sx.tl told) = none → ∀ H', Same H2 H' → E (.ref CN) none H')) fun D σ H2 hR => ?rest))))
      (pss_cons (ps_if (pt_cmpR op_ne (pv 2) pe_str (nomark _)) (pss_one (ps_raise rfl Z (pa_cons (pe_fs (pj_sv (pv 2) (pj_str pj_nil)) (by decide)) pa_nil))) pss_nil)
      (pss_one (ps_ret (pv 1)))))), ?_⟩
    case rest =>
      obtain ⟨H1, p, v3, v5, told, k, k0, ts, t, b, xs, l, rfl, r, hA, hT, hl, nx, nb⟩ := hR
      refine ⟨_, pss_cons (ps_set (i := 5) sc_read_chains.nd rfl (Or.inl rfl) (pe_bm PySem.F.plainAttrs_str PySem.F.slot_str_endswith PySem.F.type_str_endswith mt_ends (pv 4) (pa_cons (pe_kget (a := C) kd (pe_glob (v := .ref C) rfl MC rfl) (pv 2) (fun _ _ => rfl)) pa_nil)))
        (pss_cons (ps_expr (pe_bm PySem.F.plainAttrs_list PySem.F.slot_list_append PySem.F.type_list_append mt_append (pe_ix ix_tup (pe_ix ix_list (pv 1) (pe_un un_neg pe_int) (fun _ _ => rfl)) pe_int (fun _ _ => rfl)) (pa_cons (pe_fnX GS FS hr (pa_cons (pe_ifExp (pt_val (pv 5)) (pe_slice sl_str (pv 4) po_none (po_some (pe_un un_neg pe_int))) (pv 4)) pa_nil)) pa_nil)))
        (pss_one (ps_if (pt_val (pv 5)) (pss_one (ps_set (i := 2) sc_read_chains.nd rfl (Or.inl rfl) pe_str)) pss_nil))), ?_⟩
      refine ⟨_, rfl, rfl, rfl, _, rfl, _, _, rfl, Sx.at_op k, _, _, rfl, rfl, ?_⟩
      rw [Sx.cl_one, Sx.ends_any]
      have ic : decide ((Sx.tl told).getLast? = some (Sx.clC k)) = Sx.isCl k (Sx.tl told) := rfl
      rw [ic]
      obtain ⟨_, r2⟩ := Sx.all2_last r.all
      have hat : atI (Mir.refs (ts ++ [t])) (-1) = some (.ref t) := by rw [Mir.refs_snoc]; exact atI_last _ _
      cases c : Sx.isCl k (Sx.tl told) with
      | true =>
        rw [c] at nx nb
        have hn := of_decide_eq_true (p := (Sx.tl told).getLast? = some (Sx.clC k)) c
        have tl1 : 1 ≤ told.length := by
          cases q : Sx.tl told with
          | nil => rw [q] at hn; cases hn
          | cons a r => rw [Sx.len_tl, q]; simp
        have ez : Sx.tl (Txt.slice told none (some (-1))) = (Sx.tl told).dropLast := by rw [Sx.slice_tom1 tl1, List.dropLast_eq_take]
        refine ⟨_, rfl, _, rfl, p, _, _, _, rfl, rfl, SqL.of r.lst, hat, t, _, _, _, rfl, rfl, SqT.of r2.1, rfl, .inl ⟨rfl, _, SqL.of r2.2⟩, ?_⟩
        refine ⟨_, rfl, _, rfl, iteT ⟨_, rfl, _, rfl, _, rfl, told, rfl, sz _ (by omega), _, rfl, Sx.ascii_of fun c hc => Sx.ascM hA c (List.dropLast_subset _ (ez ▸ hc)), ?_, fun e H3 he s3 => ?_, fun H3 he s3 => ?_⟩⟩
        · rw [Sx.len_tl, ez, List.length_dropLast, ← Sx.len_tl]; omega
        · rw [ez] at he
          have r3 := r.keep s3
          obtain ⟨_, r4⟩ := Sx.all2_last r3.all
          exact ⟨b, _, _, rfl, rfl, r4.2, big _ (by rw [Mir.nV_len]; exact Nat.le_trans hl (by decide)), _, rfl, _, rfl, iteT (nx e _ he r3.add)⟩
        · rw [ez] at he
          exact nb he _ s3
      | false =>
        rw [c] at nx nb
        refine ⟨_, rfl, _, rfl, p, _, _, _, rfl, rfl, SqL.of r.lst, hat, t, _, _, _, rfl, rfl, SqT.of r2.1, rfl, .inl ⟨rfl, _, SqL.of r2.2⟩, ?_⟩
        refine ⟨_, rfl, _, rfl, iteF ⟨_, rfl, _, rfl, hA, hT, fun e H3 he s3 => ?_, fun H3 he s3 => ?_⟩⟩
        · have r3 := r.keep s3
          obtain ⟨_, r4⟩ := Sx.all2_last r3.all
          exact ⟨b, _, _, rfl, rfl, r4.2, big _ (by rw [Mir.nV_len]; exact Nat.le_trans hl (by decide)), _, rfl, _, rfl, iteF (nx e _ he r3.add)⟩
        · exact nb he _ s3
    · refine ⟨by show 0 ≤ sizeLine; decide, fun p hp => ?_⟩
      have s1 : Same H (upd H p (.lst [])) := same_upd hp
      refine ⟨_, rfl, z, rfl, hz, by omega, fun lw ws H1 hlw s2 hw1 hws => ?_⟩
      have hp1 : H1 p = some (.lst []) := s2 _ _ upd_same
      have hpw : p ≠ lw := ne_of_none (H := upd H p (.lst [])) upd_same hlw
      have s01 : Same H H1 := s1.trans s2
      have hwe : ws.map Sx.tl = Sx.wordsL z := hws
      have sub : ∀ wd ∈ ws, Ascii wd ∧ wd.length ≤ 5000 := fun wd hm => by
        have m : Sx.tl wd ∈ Sx.wordsL z := by rw [← hwe]; exact List.mem_map_of_mem hm
        unfold Sx.wordsL at m
        split at m
        · cases m
        · obtain ⟨a1, a2⟩ := Sx.splS m
          refine ⟨Sx.ascii_of fun c hc => Sx.ascM hz c (a1 c hc), ?_⟩
          rw [Sx.len_tl]
          have := Sx.len_tl z
          omega
      have wl5 : ws.length ≤ 5001 := by
        have e := congrArg List.length hwe
        rw [List.length_map] at e
        rw [e]
        unfold Sx.wordsL
        split
        · exact Nat.zero_le _
        · have a := Sx.splitL_len 32 (Sx.tl z)
          have := Sx.len_tl z
          omega
      have back : ∀ {H2 : Hp} {ts : List Addr} {xs : List (Addr × Bool × List Nat)}, Sx.RC H1 H2 p ts xs → Same H H2 := fun {H2 ts xs} r a o ha => r.same a o (ne_of_none ha hp) (s01 _ _ ha)
      refine ⟨lw, rfl, ⟨_, SqL.of hw1⟩, for_list (K := K) (a := lw) (xs := ws.map V.str) (fun i σ H2 => ∃ (v3 v4 v5 : Option V) (ts : List Addr) (xs : List (Addr × Bool × List Nat)) (br : Option Bool),
          σ = [some (.str z), some (.ref p), some (.str (Sx.brS br)), v3, v4, v5] ∧ Sx.RC H1 H2 p ts xs ∧ Sx.Snd (xs.map (·.2), br) ∧ Sx.rdC 40 (xs.map (·.2), br) ((ws.drop i).map Sx.tl) = Sx.outO z ∧ xs.length ≤ i ∧ ∀ x ∈ xs, x.2.2.length ≤ i)
        ⟨none, none, none, [], [], none, rfl, ⟨hp1, .nil, by simp, fun b hb => by simp at hb, fun a o _ h => h⟩, Sx.snd0, by show Sx.rdC 40 ([], none) (ws.map Sx.tl) = _; rw [hwe]; rfl, Nat.le_refl _, fun x hx => by simp at hx⟩ (fun i σ H2 _ ⟨_, _, _, _, _, _, _, r, _⟩ => SqL.of (r.same _ _ hpw.symm hw1)) ?_ ?_⟩
      · rintro i x σ H2 hx ⟨v3, v4, v5, ts, xs, br, rfl, r, sd, run, hxl, hxx⟩
        obtain ⟨wd, hwd, rfl⟩ : ∃ wd, ws[i]? = some wd ∧ x = .str wd := by
          rw [List.getElem?_map] at hx
          obtain ⟨wd, h1, h2⟩ := Option.map_eq_some_iff.mp hx
          exact ⟨wd, h1, h2.symm⟩
        obtain ⟨hi, ei⟩ := List.getElem?_eq_some_iff.mp hwd
        obtain ⟨wA, wL⟩ := sub wd (List.mem_of_getElem? hwd)
        rw [List.drop_eq_getElem_cons hi, ei, List.map_cons] at run
        have run : (Sx.stp 40 (xs.map (·.2), br) (Sx.tl wd)).bind (fun s' => Sx.rdC 40 s' ((ws.drop (i + 1)).map Sx.tl)) = Sx.outO z := run
        cases br with
        | none =>
          refine ⟨_, rfl, _, rfl, rfl, _, rfl, iteE rfl ⟨_, rfl, wd, rfl, wA, wL, fun k hk => ?_, fun hn H' s' => ?_⟩⟩
          · have hd : ∃ r0, Sx.tl wd = Sx.opC k :: r0 := by
              cases q : Sx.tl wd with
              | nil => rw [q] at hk; cases hk
              | cons a r0 => rw [q] at hk; cases hk; exact ⟨r0, rfl⟩
            obtain ⟨r0, htw⟩ := hd
            have wl1 : 1 ≤ wd.length := by rw [Sx.len_tl, htw]; simp
            have ez : Sx.tl (Txt.slice wd (some 1) none) = r0 := by rw [Sx.slice_from1 wl1, htw]; rfl
            have es : Sx.stp 40 (xs.map (·.2), none) (Sx.tl wd) = Sx.go 40 k (xs.map (·.2) ++ [(k, [])]) r0 := by rw [htw]; cases k <;> rfl
            refine ⟨_, rfl, .inl ⟨rfl, _, SqL.of r.lst⟩, _, rfl, by show 0 ≤ sizeLine; decide, fun l hl => ?_⟩
            obtain ⟨n1, n2, n3⟩ := r.new hl
            have z1 := same_upd (o := .lst []) hl
            refine ⟨by show 2 ≤ sizeLine; decide, fun t ht => ?_⟩
            have z2 := same_upd (o := .tup [.str (Sx.opS k), .ref l]) ht
            have r1 := (r.keep z1).keep z2
            refine ⟨p, _, _, rfl, rfl, r1.lst, big _ (by rw [Mir.refs_len, r.all.len]; omega), _, rfl, _, rfl, wd, rfl, sz _ (by omega), ?_⟩
            have rp := r1.push upd_same (z2 _ _ upd_same) n1 n2 n3
            refine ⟨H1, p, _, _, _, k, k, ts, t, l, xs, [], rfl, rp, Sx.ascii_of fun c hc => Sx.ascM wA c (by rw [ez] at hc; rw [htw]; exact List.mem_cons_of_mem _ hc), ?_, Nat.zero_le _, fun e H' he r' => ?_, fun he H' s' => ?_⟩
            · rw [Sx.len_tl, ez]
              have := Sx.len_tl wd
              rw [htw, List.length_cons] at this
              omega
            · rw [ez] at he ⊢
              have eg : Sx.go 40 k (xs.map (·.2) ++ [(k, [])]) r0 = some (xs.map (·.2) ++ [(k, [] ++ [e])], if Sx.isCl k r0 then none else some k) := by
                unfold Sx.go
                rw [he, Option.map_some, Sx.addL_app]
              obtain ⟨e', q1, q2, q3, _, _⟩ := Sx.go_snd sd.ne eg
              refine ⟨_, _, _, _, _, _, rfl, r', ?_, ?_, ?_, ?_⟩
              · rw [List.map_append]; exact q3
              · rw [← run, es, List.map_append]
                rw [eg]
                rfl
              · rw [List.length_append]
                show xs.length + 1 ≤ i + 1
                omega
              · intro x hx
                rcases List.mem_append.mp hx with hx | hx
                · exact Nat.le_succ_of_le (hxx x hx)
                · have e2 : x = (l, k, [] ++ [e]) := by simpa using hx
                  rw [e2]
                  show 1 ≤ i + 1
                  omega
            · rw [ez] at he
              refine kb ?_ _ ((back rp).trans s')
              rw [← run, es]
              unfold Sx.go
              rw [he]
              rfl
          · refine kb ?_ _ ((back r).trans s')
            rw [← run]
            have h1 : (Sx.tl wd).head? ≠ some 91 := hn true
            have h2 : (Sx.tl wd).head? ≠ some 40 := hn false
            show ((if (Sx.tl wd).head? = some 91 then _ else if (Sx.tl wd).head? = some 40 then _ else none : Option (Sx.Chs × Option Bool)).bind _) = none
            rw [if_neg h1, if_neg h2]
            rfl
        | some k =>
          obtain ⟨A0, l0, eA⟩ := sd.kd k rfl
          have hx0 : xs ≠ [] := fun e => by rw [e] at eA; simp at eA
          obtain ⟨ts', t, xs', b, k0, l, rfl, rfl⟩ := r.split hx0
          rw [List.map_append] at eA
          have eA : xs'.map (·.2) ++ [(k0, l)] = A0 ++ [(k, l0)] := eA
          obtain ⟨ea, eb⟩ := List.append_inj' eA rfl
          injection eb with eb
          injection eb with ek el
          subst ek
          have es : Sx.stp 40 ((xs' ++ [(b, k0, l)]).map (·.2), some k0) (Sx.tl wd) = Sx.go 40 k0 (xs'.map (·.2) ++ [(k0, l)]) (Sx.tl wd) := by rw [List.map_append]; rfl
          refine ⟨_, rfl, _, rfl, rfl, _, rfl, iteD (fun e => Sx.op_ne k0 (by injection e)) ?_⟩
          have hll : l.length ≤ i := hxx (b, k0, l) (by simp)
          refine ⟨H1, p, _, _, _, k0, k0, ts', t, b, xs', l, rfl, r, wA, wL, by omega, fun e H' he r' => ?_, fun he H' s' => ?_⟩
          · have eg : Sx.go 40 k0 (xs'.map (·.2) ++ [(k0, l)]) (Sx.tl wd) = some (xs'.map (·.2) ++ [(k0, l ++ [e])], if Sx.isCl k0 (Sx.tl wd) then none else some k0) := by
              unfold Sx.go
              rw [he, Option.map_some, Sx.addL_app]
            obtain ⟨e', q1, q2, q3, _, _⟩ := Sx.go_snd (fun c hc => sd.ne c (by rw [List.map_append]; exact List.mem_append_left _ hc)) eg
            refine ⟨_, _, _, _, _, _, rfl, r', ?_, ?_, ?_, ?_⟩
            · rw [List.map_append]; exact q3
            · rw [← run, es, eg, List.map_append]
              rfl
            · rw [List.length_append] at hxl ⊢
              exact Nat.le_succ_of_le hxl
            · intro x hx
              rcases List.mem_append.mp hx with hx | hx
              · exact Nat.le_succ_of_le (hxx x (by simp [hx]))
              · have e2 : x = (b, k0, l ++ [e]) := by simpa using hx
                rw [e2]
                show (l ++ [e]).length ≤ i + 1
                rw [List.length_append]
                show l.length + 1 ≤ i + 1
                omega
          · refine kb ?_ _ ((back r).trans s')
            rw [← run, es]
            unfold Sx.go
            rw [he]
            rfl
      · rintro σ H2 ⟨v3, v4, v5, ts, xs, br, rfl, r, sd, run, _⟩
        rw [List.length_map, List.drop_length] at run
        have run : (if br = none then some (xs.map (·.2)) else none) = Sx.outO z := run
        cases br with
        | none =>
          rw [if_pos rfl] at run
          exact ⟨_, rfl, rfl, _, rfl, iteNS rfl ⟨_, rfl, kg _ run.symm p ts xs H2 (back r) r.lst r.all rfl⟩⟩
        | some k =>
          rw [if_neg (fun z => by cases z)] at run
          refine ⟨_, rfl, rfl, _, rfl, Sx.iteNQ (fun e => Sx.op_ne k (by injection e)) ⟨⟨_, rfl, rfl, ⟨Sx.opS k, rfl, ?_, ?_⟩, trivial⟩, fun x => ⟨one, kb run.symm _ (back r)⟩⟩⟩
          · cases k <;> decide +kernel
          · exact Sx.ascii_of fun c hc => by rw [Sx.tl_op, List.mem_singleton] at hc; rw [hc]; cases k <;> decide
end
section
variable {P : Program} {w : World} {K : PySem.W.Frag} {mg : Str → Option Value} {base : Heap}
theorem ok_read_work_x {f fR fWf CB CN : Addr} {fd fdR fdWf : FuncData} (MB : mg "BadWork" = some (.ref CB)) (XB : PySem.W.exmOne K (.ref CB) (.ref CB) = some true) (Z : ECls K mg "NoText" CN) (F : Fn K mg "read_work" s_read_work ["text"] f fd) (FR : Fn K mg "read_chains" s_read_chains ["text"] fR fdR) (FWf : Fn K mg "work_from" s_work_from ["rows", "rings"] fWf fdWf)
    (GR : FnOk P w K mg base (CXo P w) 3 fR fdR ["text"] (Sx.spChainsX CN)) (GWf : FnOk P w K mg base (CXk P w) 3 fWf fdWf ["rows", "rings"] (Mir.spWorkFrom CB)) : FnOk P w K mg base (CXo P w) 4 f fd ["text"] (Sx.spWorkY CN) := by
  refine F.fn.okX2 sc_read_work (fun vs H Q E h => ?_) (fun cdv A outer s H vs Q E hr h own => ?_)
  · obtain ⟨z, rfl, _⟩ := h
    rfl
  · obtain ⟨z, rfl, hz, hzl, kg, kb⟩ := h
    have nd2 : (["bracket", "ends"] : List Str).Nodup := by decide +kernel
    have one : 1 ≤ sizeLine := by decide
    refine ⟨_, pss_cons (ps_set (i := 1) sc_read_work.nd rfl (Or.inl rfl) (pe_fnX GR FR hr (pa_cons (pv 0) pa_nil)))
      (pss_cons (ps_comp (ix := 2) (NC := ["bracket", "ends"]) sc_read_work.nd rfl (Or.inl rfl) rfl (compOk0 rfl (by decide +kernel) (by decide +kernel)) (pi_list (pv 1)) (fun _ _ _ _ => pg_tupK (K := K) (n := 2) rfl rfl (pgs_cons (pg_name (i := 0) nd2 rfl (Or.inl rfl)) (pgs_cons (pg_name (i := 1) nd2 rfl (Or.inl rfl)) pgs_nil))) (fun _ _ _ _ => pts_one (pt_cmpR op_eq (pv 0) pe_str (nomark _))) (fun _ _ _ _ => pv 1))
      (pss_cons (ps_comp (ix := 3) (NC := ["bracket", "ends"]) sc_read_work.nd rfl (Or.inl rfl) rfl (compOk0 rfl (by decide +kernel) (by decide +kernel)) (pi_list (pv 1)) (fun _ _ _ _ => pg_tupK (K := K) (n := 2) rfl rfl (pgs_cons (pg_name (i := 0) nd2 rfl (Or.inl rfl)) (pgs_cons (pg_name (i := 1) nd2 rfl (Or.inl rfl)) pgs_nil))) (fun _ _ _ _ => pts_one (pt_cmpR op_eq (pv 0) pe_str (nomark _))) (fun _ _ _ _ => pv 1))
      (pss_one (ps_try0K own MB (pek_fn GWf FWf hr (pa_cons (pv 2) (pa_cons (pv 3) pa_nil))) (fun e oe vh d1 d2 => pss_one (ps_raiseN d1 d2 Z (pa_cons pe_str pa_nil))))))), ?_⟩
    refine ⟨_, rfl, z, rfl, hz, by omega, fun out hout0 p ts xs H1 s1 hp1 ha1 hout => ?_, fun hn H1 s1 => kb (by unfold Sx.workZ; rw [hn]) H1 s1⟩
    obtain ⟨hel, hol, hne⟩ := Sx.out_len (by decide) hout0 hzl
    have hxl : xs.length ≤ 1000 := by rw [← hout, List.length_map] at hol; exact hol
    refine ⟨_, rfl, p, rfl, ⟨_, SqL.of hp1⟩, fun D1 hD1 => comp_list (K := K) (a := p) (xs := Mir.refs ts) (fun i σ H2 => ∃ v0 v1 : Option V, σ = [v0, v1] ∧ Same H1 H2 ∧ H2 D1 = some (.lst (Mir.refs ((Sx.selX true (xs.take i)).map (·.1)))))
      ⟨none, none, rfl, same_upd hD1, upd_same⟩ (fun i σ H2 _ ⟨_, _, _, s4, _⟩ => SqL.of (s4 _ _ hp1)) ?_ ?_⟩
    · rintro i x σ H2 hx ⟨v0, v1, rfl, s4, hD2⟩
      obtain ⟨t, ht, rfl⟩ := Mir.refs_get' hx
      obtain ⟨y, hy, r1, r2⟩ := Mir.All2.get ha1 ht
      have hyl : i < xs.length := (List.getElem?_eq_some_iff.mp hy).1
      refine ⟨t, _, rfl, SqT.of (s4 _ _ r1), rfl, _, _, rfl, _, _, rfl, rfl, ?_⟩
      refine ⟨_, rfl, rfl, _, rfl, ?_⟩
      have st := Sx.selX_snoc (k := true) hy
      by_cases hk : y.2.1 = true
      · refine iteE (by rw [hk]; rfl) ⟨_, rfl, _, hD2, small1000 ?_, _, _, rfl, s4.upd hD1, ?_⟩
        · rw [Mir.refs_len, List.length_map]
          have z := List.length_filter_le (fun x : Addr × Bool × List Nat => x.2.1 == true) (xs.take i)
          rw [List.length_take] at z
          have z : (Sx.selX true (xs.take i)).length ≤ min i xs.length := z
          omega
        · rw [upd_same, st, hk, List.map_append]
          exact (congrArg (fun l => some (HO.lst l)) (Mir.refs_snoc _ y.1)).symm
      · refine iteD (fun e => ?_) ⟨_, _, rfl, s4, ?_⟩
        · injection e with e
          exact hk (by cases hq : y.2.1 <;> rw [hq] at e <;> first | rfl | exact absurd e (by decide +kernel))
        · rw [hD2, st, if_neg (by rw [beq_iff_eq]; exact hk), List.append_nil]
    rintro σ Hb ⟨v0, v1, rfl, s2, hD1⟩
    rw [Mir.refs_len, ha1.len, List.take_length] at hD1
    have hp2 := s2 _ _ hp1
    have ha2 : Mir.All2 (Sx.RCt Hb) ts xs := ha1.imp fun t x h => ⟨s2 _ _ h.1, s2 _ _ h.2⟩
    refine ⟨_, rfl, p, rfl, ⟨_, SqL.of hp2⟩, fun D2 fD2 => comp_list (K := K) (a := p) (xs := Mir.refs ts) (fun i σ H2 => ∃ v0 v1 : Option V, σ = [v0, v1] ∧ Same Hb H2 ∧ H2 D2 = some (.lst (Mir.refs ((Sx.selX false (xs.take i)).map (·.1)))))
      ⟨none, none, rfl, same_upd fD2, upd_same⟩ (fun i σ H2 _ ⟨_, _, _, s4, _⟩ => SqL.of (s4 _ _ hp2)) ?_ ?_⟩
    · rintro i x σ H2 hx ⟨v0, v1, rfl, s4, hD2⟩
      obtain ⟨t, ht, rfl⟩ := Mir.refs_get' hx
      obtain ⟨y, hy, r1, r2⟩ := Mir.All2.get ha2 ht
      have hyl : i < xs.length := (List.getElem?_eq_some_iff.mp hy).1
      refine ⟨t, _, rfl, SqT.of (s4 _ _ r1), rfl, _, _, rfl, _, _, rfl, rfl, ?_⟩
      refine ⟨_, rfl, rfl, _, rfl, ?_⟩
      have st := Sx.selX_snoc (k := false) hy
      by_cases hk : y.2.1 = false
      · refine iteE (by rw [hk]; rfl) ⟨_, rfl, _, hD2, small1000 ?_, _, _, rfl, s4.upd fD2, ?_⟩
        · rw [Mir.refs_len, List.length_map]
          have z := List.length_filter_le (fun x : Addr × Bool × List Nat => x.2.1 == false) (xs.take i)
          rw [List.length_take] at z
          have z : (Sx.selX false (xs.take i)).length ≤ min i xs.length := z
          omega
        · rw [upd_same, st, hk, List.map_append]
          exact (congrArg (fun l => some (HO.lst l)) (Mir.refs_snoc _ y.1)).symm
      · refine iteD (fun e => ?_) ⟨_, _, rfl, s4, ?_⟩
        · injection e with e
          exact hk (by cases hq : y.2.1 <;> rw [hq] at e <;> first | rfl | exact absurd e (by decide +kernel))
        · rw [hD2, st, if_neg (by rw [beq_iff_eq]; exact hk), List.append_nil]
    rintro σ Hc ⟨v2, v3, rfl, s3, hD2⟩
    rw [Mir.refs_len, ha1.len, List.take_length] at hD2
    have ha3 : Mir.All2 (Sx.RCt Hc) ts xs := ha2.imp fun t x h => ⟨s3 _ _ h.1, s3 _ _ h.2⟩
    have c1 := Sx.sel_ch (p := p) (k := true) ha3 (s3 _ _ hD1)
    have c2 := Sx.sel_ch (p := p) (k := false) ha3 hD2
    rw [hout] at c1 c2
    have sz1 : ((Sx.sel true out).map Mt.up ++ (Sx.sel false out).map Mt.up).flatten.length ≤ 1000 := by
      rw [Sx.good_flat, Mt.up_len, (Mt.sel_perm out).flatten.length_eq]
      exact hel
    have sz2 : ((Sx.sel true out).map Mt.up ++ (Sx.sel false out).map Mt.up).length ≤ 1000 := by
      have z := Sx.sel_len2 out
      rw [List.length_append, List.length_map, List.length_map]
      omega
    by_cases hon : Sx.OnceO out
    · obtain ⟨W, D⟩ := Mt.work_of hne hon.1 hon.2
      have hw : Sx.workZ z = some (Mt.workO out) := by unfold Sx.workZ; rw [hout0]; exact if_pos hon
      exact ⟨fun _ _ _ => False, ⟨_, rfl, _, rfl, D1, D2, _, _, _, _, rfl, c1, c2, sz1, sz2, .inl ⟨_, _, _, _, W, D, rfl, rfl, fun l H4 _ s4 hl4 => kg _ hw l H4 (((s1.trans s2).trans s3).trans s4) hl4⟩⟩, fun cls H' hx => hx.elim⟩
    · have hw : Sx.workZ z = none := by unfold Sx.workZ; rw [hout0]; exact if_neg hon
      refine ⟨fun cls _ H' => cls = .ref CB ∧ Same Hc H', ⟨_, rfl, _, rfl, D1, D2, _, _, _, _, rfl, c1, c2, sz1, sz2, .inr ⟨fun G => hon (Sx.good_once G), fun H4 s4 => ⟨rfl, s4⟩⟩⟩, fun cls H' hx => ?_⟩
      obtain ⟨rfl, s4⟩ := hx
      exact ⟨XB, one, kb hw H' (((s1.trans s2).trans s3).trans s4)⟩
end
section
variable {P : Program} {w : World} {K : PySem.W.Frag} {mg : Str → Option Value} {base : Heap}
theorem ok_law_cell_at {f : Addr} {fd : FuncData} (B : Bl mg) (F : Fn K mg "_law_cell_at" s_law_cell_at ["script", "k"] f fd) : FnOk P w K mg base CX0 1 f fd ["script", "k"] (Mir.spCellAt K) := by
  refine F.fn.ok sc_law_cell_at (fun vs H Q E h => ?_) (fun cdv A outer s H vs Q E hr h => ?_)
  · obtain ⟨a, ns, k, rfl, _⟩ := h
    rfl
  · obtain ⟨a, ns, k, rfl, hS, q⟩ := h
    refine ⟨_, pss_cons (ps_if (pt_cmpR op_lt (pv 1) (pe_callB call_len_seq rfl B.len bb_len (pa_cons (pv 0) pa_nil)) (nomark _)) (pss_one (ps_ret (pe_ix ix_list (pv 0) (pv 1) (fun _ _ => rfl)))) pss_nil) (pss_one (ps_ret pe_int)), ?_⟩
    refine ⟨_, rfl, _, rfl, a, _, rfl, .inl hS, _, _, rfl, rfl, _, rfl, ?_⟩
    refine ite2 (fun h1 => ?_) (fun h1 => ?_)
    · have h1 := of_decide_eq_true h1
      rw [List.length_map] at h1
      have hk : k < ns.length := by omega
      have e : (ns.map V.int)[k]? = some (.int ns[k]) := by rw [List.getElem?_map, List.getElem?_eq_getElem hk]; rfl
      exact ⟨_, rfl, _, rfl, a, _, _, _, rfl, rfl, hS, atI_nat e, q _⟩
    · exact q 0
end
section
variable {P : Program} {w : World} {K : PySem.W.Frag} {mg : Str → Option Value} {base : Heap}
theorem ok_law_whole {f : Addr} {fd : FuncData} (B : Bl mg) (F : Fn K mg "_law_whole" s_law_whole ["found"] f fd) : FnOk P w K mg base CX0 1 f fd ["found"] Mir.spWhole := by
  refine F.fn.ok sc_law_whole (fun vs H Q E h => ?_) (fun cdv A outer s H vs Q E hr h => ?_)
  · obtain ⟨e, rfl, _⟩ := h
    rfl
  · obtain ⟨e, rfl, q⟩ := h
    refine ⟨_, pss_one (ps_ret (pe_and (pe_callB call_isi rfl B.isinstance bb_isinstance (pa_cons (pv 0) (pa_cons (pe_bltn (v := .ty "int") rfl B.int bb_int rfl) pa_nil)))
      (pe_one (pe_not (pe_callB call_isi rfl B.isinstance bb_isinstance (pa_cons (pv 0) (pa_cons (pe_bltn (v := .ty "bool") rfl B.bool bb_bool rfl) pa_nil))))))), ?_⟩
    refine ⟨_, rfl, _, _, _, _, rfl, .int e, kit_int_int _, _, rfl, iteT ?_⟩
    exact ⟨_, rfl, _, _, _, _, rfl, .int e, kit_int_bool _, _, rfl, q⟩
end
section
variable {P : Program} {w : World} {K : PySem.W.Frag} {mg : Str → Option Value} {base : Heap}
theorem ok_law_staves {f : Addr} {fd : FuncData} (F : Fn K mg "_law_staves" s_law_staves ["cell"] f fd) : FnOk P w K mg base CX0 1 f fd ["cell"] Mir.spLawStaves := by
  refine F.fn.ok sc_law_staves (fun vs H Q E h => ?_) (fun cdv A outer s H vs Q E hr h => ?_)
  · obtain ⟨c, rfl, _⟩ := h
    rfl
  · obtain ⟨c, rfl, q⟩ := h
    refine ⟨_, pss_cons (ps_if (pt_cmpR op_eq (pe_op op_mod (pe_op op_fdiv (pv 0) pe_int) pe_int) pe_int (nomark _)) (pss_one (ps_ret (pe_op op_mod (pe_op op_fdiv (pv 0) pe_int) pe_int))) pss_nil) (pss_one (ps_ret (pe_op op_mod (pv 0) pe_int))), ?_⟩
    refine ⟨_, rfl, _, _, rfl, rfl, ⟨by decide, by decide⟩, _, _, rfl, rfl, (by show (0 : Int) < 3; decide), rfl, _, rfl, ?_⟩
    refine ite2 (fun _ => ?_) (fun _ => ?_)
    · refine ⟨_, rfl, _, _, rfl, rfl, ⟨by decide, by decide⟩, _, _, rfl, rfl, (by show (0 : Int) < 41; decide), ?_⟩
      have h0 : 0 ≤ c / 27 % 41 := Int.emod_nonneg _ (by decide)
      have h1 : c / 27 % 41 < 41 := Int.emod_lt_of_pos _ (by decide)
      have e : c / 27 % 41 = ((c / 27 % 41).toNat : Int) := by omega
      have z := q (c / 27 % 41).toNat (by omega)
      rw [← e] at z
      exact z
    · refine ⟨_, rfl, _, _, rfl, rfl, (by show (0 : Int) < 9; decide), ?_⟩
      have h0 : 0 ≤ c % 9 := Int.emod_nonneg _ (by decide)
      have h1 : c % 9 < 9 := Int.emod_lt_of_pos _ (by decide)
      have e : c % 9 = ((c % 9).toNat : Int) := by omega
      have z := q (c % 9).toNat (by omega)
      rw [← e] at z
      exact z
end
section
variable {P : Program} {w : World} {K : PySem.W.Frag} {mg : Str → Option Value} {base : Heap}
theorem ok_law_mates {f : Addr} {fd : FuncData} (B : Bl mg) (F : Fn K mg "_law_mates" s_law_mates ["flow", "staves"] f fd) : FnOk P w K mg base CX0 1 f fd ["flow", "staves"] (Mir.spMates K) := by
  refine F.fn.ok sc_law_mates (fun vs H Q E h => ?_) (fun cdv A outer s H vs Q E hr h => ?_)
  · obtain ⟨a, cs, n, rfl, _⟩ := h
    rfl
  · obtain ⟨a, cs, n, rfl, hS, hn, k⟩ := h
    refine ⟨_, pss_cons (ps_set (i := 2) sc_law_mates.nd rfl (Or.inl rfl) (pe_callTy (call_list_rng rfl) rfl B.list bb_list (pa_cons (pe_callTy call_rng1 rfl B.range bb_range (pa_cons (pe_op op_mul pe_int (pv 1)) pa_nil)) pa_nil)))
      (pss_cons (ps_for PassesOwn.never rfl (pi_list (pv 0)) (pg_name (i := 3) sc_law_mates.nd rfl (Or.inl rfl))
        (pss_one (ps_if (pt_cmpR op_gt (pv 1) pe_int (nomark _))
          (pss_cons (ps_set (i := 4) sc_law_mates.nd rfl (Or.inl rfl) (pe_op op_mod (pv 3) (pe_op op_mul pe_int (pv 1))))
          (pss_cons (ps_set (i := 5) sc_law_mates.nd rfl (Or.inl rfl) (pe_op op_mod (pe_op op_fdiv (pe_op op_mod (pe_op op_mul (pe_op op_mod (pv 3) pe_int) pe_int) pe_int) pe_int) (pe_op op_mul pe_int (pv 1))))
          (pss_cons (ps_for PassesOwn.never rfl (pi_list (pe_lst (pa_cons (pv 4) (pa_cons (pv 5) pa_nil)))) (pg_name (i := 6) sc_law_mates.nd rfl (Or.inl rfl))
            (pss_cons (ps_asg (pe_ix ix_list (pv 2) (pv 6) (fun _ _ => rfl)) (pg_sub (pv 2) (pe_ix ix_list (pv 2) (pv 6) (fun _ _ => rfl)) set_list))
            (pss_one (ps_asg (pv 6) (pg_sub (pv 2) (pv 6) set_list)))))
          (pss_cons (ps_asg (pv 5) (pg_sub (pv 2) (pv 4) set_list))
          (pss_one (ps_asg (pv 4) (pg_sub (pv 2) (pv 5) set_list))))))) pss_nil)))
      (pss_one (ps_ret (pv 2)))), ?_⟩
    refine ⟨_, rfl, _, _, rfl, rfl, .inl ⟨by decide, by decide⟩, _, rfl, fun p hp => ⟨p, 0, _, rfl, upd_same, ⟨by omega, by omega, by omega, by omega⟩, by omega, fun l hl => ?_⟩⟩
    obtain ⟨nlp, nl⟩ := none_upd hl
    have e0 : rngV 0 (2 * (n : Int) - 0).toNat = Mir.nV (List.range (2 * n)) := by
      rw [show (2 * (n : Int) - 0).toNat = 2 * n by omega]
      exact Mir.rngV_nV _
    rw [e0]
    have S1 : Same H (upd (upd H p (.rng 0 (2 * (n : Int)))) l (.lst (Mir.nV (List.range (2 * n))))) := (same_upd hp).upd nl
    refine ⟨_, rfl, a, rfl, ⟨_, S1.seq hS⟩, for_list (K := K) (a := a) (xs := cs.map V.int) (fun i σ H2 => ∃ (v3 v4 v5 v6 : Option V) (ms : List Nat), σ = [some (.ref a), some (.int n), some (.ref l), v3, v4, v5, v6] ∧ Same H H2 ∧ H2 l = some (.lst (Mir.nV ms)) ∧ Mir.WorkL n ms)
      ⟨none, none, none, none, _, rfl, S1, upd_same, Mir.range_work hn⟩ (fun i σ H2 _ ⟨_, _, _, _, _, _, s2, _⟩ => s2.seq hS) ?_ ?_⟩
    · rintro i x σ H2 hx ⟨v3, v4, v5, v6, ms, rfl, s2, hl2, W⟩
      obtain ⟨z, rfl⟩ : ∃ z, x = V.int z := by
        obtain ⟨z, _, e⟩ := List.mem_map.mp (List.mem_of_getElem? hx)
        exact ⟨z, e.symm⟩
      refine ⟨_, rfl, _, _, rfl, rfl, _, rfl, ?_⟩
      refine ite2 (fun h1 => ?_) (fun h1 => ?_)
      · have hn0 : 0 < (n : Int) := of_decide_eq_true h1
        have hpos : 0 < 2 * (n : Int) := by omega
        refine ⟨_, rfl, _, rfl, _, _, rfl, rfl, .inl ⟨by decide, by decide⟩, _, _, rfl, rfl, hpos, ?_⟩
        have b0 := Int.emod_nonneg z (show (1000000007 : Int) ≠ 0 by decide)
        have b1 := Int.emod_lt_of_pos z (show (0 : Int) < 1000000007 by decide)
        refine ⟨_, rfl, _, _, rfl, rfl, (by show (0 : Int) < 1000000007; decide), _, _, rfl, rfl, .inl ⟨by omega, by omega⟩, _, _, rfl, rfl, (by show (0 : Int) < 2147483647; decide), _, _, rfl, rfl, ⟨by decide, by decide⟩, _, rfl, _, _, rfl, rfl, .inl ⟨by decide, by decide⟩, _, _, rfl, rfl, hpos, ?_⟩
        generalize z % 1000000007 * 48271 % 2147483647 / 89 = y
        obtain ⟨pe, hpe, hp1⟩ : ∃ pe : Nat, z % (2 * (n : Int)) = pe ∧ pe < 2 * n := ⟨(z % (2 * (n : Int))).toNat, by have := Int.emod_nonneg z (show 2 * (n : Int) ≠ 0 by omega); omega, by have := Int.emod_lt_of_pos z hpos; have := Int.emod_nonneg z (show 2 * (n : Int) ≠ 0 by omega); omega⟩
        obtain ⟨qe, hqe, hq1⟩ : ∃ qe : Nat, y % (2 * (n : Int)) = qe ∧ qe < 2 * n := ⟨(y % (2 * (n : Int))).toNat, by have := Int.emod_nonneg y (show 2 * (n : Int) ≠ 0 by omega); omega, by have := Int.emod_lt_of_pos y hpos; have := Int.emod_nonneg y (show 2 * (n : Int) ≠ 0 by omega); omega⟩
        dsimp only
        rw [hpe, hqe]
        refine ⟨_, rfl, _, rfl, by show 2 ≤ sizeLine; decide, fun le hle => ⟨le, rfl, ⟨_, SqL.of upd_same⟩, for_list (K := K) (a := le) (xs := [.int pe, .int qe])
          (fun j σ H3 => ∃ (v : Option V) (ms' : List Nat), σ = [some (.ref a), some (.int n), some (.ref l), some (.int z), some (.int pe), some (.int qe), v] ∧ Same H H3 ∧ H3 le = some (.lst [.int pe, .int qe]) ∧ H3 l = some (.lst (Mir.nV ms')) ∧ Mir.WorkL n ms' ∧
            (1 ≤ j → Mir.at0 ms' pe = pe) ∧ (2 ≤ j → Mir.at0 ms' qe = qe))
          ⟨v6, ms, rfl, s2.upd (s2.free hle), upd_same, by rw [upd_ne (ne_of_none hl2 hle)]; exact hl2, W, fun h => by omega, fun h => by omega⟩ (fun j σ H3 _ ⟨_, _, _, _, e, _⟩ => SqL.of e) ?_ ?_⟩⟩
        · rintro j y' σ H3 hj ⟨v, ms', rfl, s3, hle3, hl3, W3, h1', h2'⟩
          obtain ⟨e, rfl, he, hcase⟩ : ∃ e : Nat, y' = V.int e ∧ e < 2 * n ∧ ((j = 0 ∧ e = pe) ∨ (j = 1 ∧ e = qe)) := by
            match j, hj with
            | 0, hj => exact ⟨pe, (Option.some.inj hj).symm, hp1, .inl ⟨rfl, rfl⟩⟩
            | 1, hj => exact ⟨qe, (Option.some.inj hj).symm, hq1, .inr ⟨rfl, rfl⟩⟩
            | _ + 2, hj => cases hj
          have nll : l ≠ le := ne_of_none hl2 hle
          have hix := W3.ix he
          have hlen : (Mir.nV ms').length = 2 * n := by rw [Mir.nV_len, W3.len]
          have hm := W3.wk.lt e he
          refine ⟨_, rfl, _, rfl, l, _, _, _, rfl, rfl, SqL.of hl3, hix, _, rfl, _, rfl, _, rfl, l, _, _, _, rfl, rfl, SqL.of hl3, hix, l, _, _, _, rfl, rfl, hl3, ixN_of (Int.natCast_nonneg _) (by rw [hlen]; omega), ?_⟩
          rw [Int.toNat_natCast, Mir.nV_set]
          refine ⟨_, rfl, _, rfl, _, rfl, l, _, _, _, rfl, rfl, upd_same, ixN_of (Int.natCast_nonneg _) (by rw [Mir.nV_len, List.length_set, W3.len]; omega), ?_⟩
          rw [Int.toNat_natCast, Mir.nV_set]
          obtain ⟨W4, l4⟩ := Mir.freed_work W3 he
          refine ⟨_, Mir.freed ms' e, rfl, (s3.upd nl).upd nl, by rw [upd_ne nll.symm, upd_ne nll.symm]; exact hle3, upd_same, W4, fun _ => ?_, fun h => ?_⟩
          · rcases hcase with ⟨rfl, rfl⟩ | ⟨rfl, rfl⟩
            · exact l4
            · exact Mir.freed_keeps W3 he (h1' (Nat.le_refl _))
          · rcases hcase with ⟨rfl, rfl⟩ | ⟨rfl, rfl⟩
            · omega
            · exact l4
        · rintro σ H3 ⟨v, ms', rfl, s3, hle3, hl3, W3, h1', h2'⟩
          have hlen : (Mir.nV ms').length = 2 * n := by rw [Mir.nV_len, W3.len]
          refine ⟨_, rfl, _, rfl, _, rfl, l, _, _, _, rfl, rfl, hl3, ixN_of (Int.natCast_nonneg _) (by rw [hlen]; omega), ?_⟩
          rw [Int.toNat_natCast, Mir.nV_set]
          refine ⟨_, rfl, _, rfl, _, rfl, l, _, _, _, rfl, rfl, upd_same, ixN_of (Int.natCast_nonneg _) (by rw [Mir.nV_len, List.length_set, W3.len]; omega), ?_⟩
          rw [Int.toNat_natCast, Mir.nV_set]
          exact ⟨_, _, _, _, Mir.clasp ms' pe qe, rfl, (s3.upd nl).upd nl, upd_same, Mir.clasp_work W3 hp1 hq1 (h1' (by simp)) (h2' (by simp))⟩
      · exact ⟨_, _, _, _, ms, rfl, s2, hl2, W⟩
    · rintro σ H2 ⟨v3, v4, v5, v6, ms, rfl, s2, hl2, W⟩
      exact ⟨_, rfl, k l H2 ms nl s2 W hl2⟩
end
section
variable {P : Program} {w : World} {K : PySem.W.Frag} {mg : Str → Option Value} {base : Heap}
theorem ok_law_numbers {f fH : Addr} {fd fdH : FuncData} (B : Bl mg) (F : Fn K mg "_law_numbers" s_law_numbers ["found", "due"] f fd) (FH : Fn K mg "_law_whole" s_law_whole ["found"] fH fdH) : FnOk P w K mg base CX0 2 f fd ["found", "due"] (Mir.spNumbers K) := by
  have GH : FnOk P w K mg base CX0 1 fH fdH ["found"] Mir.spWhole := ok_law_whole B FH
  refine F.fn.ok sc_law_numbers (fun vs H Q E h => ?_) (fun cdv A outer s H vs Q E hr h => ?_)
  · obtain ⟨a, b, ns, rfl, _⟩ := h
    rfl
  · obtain ⟨a, b, ns, rfl, ha, hb, hn, k⟩ := h
    have hu := hu_of hr
    have hlb : SqL K H b (Mir.iV ns) ∨ SqT K H b (Mir.iV ns) := hb
    refine ⟨_, pss_cons (ps_if (PW.pt (pw_or (pt_not (pt_val (pe_callB call_isi rfl B.isinstance bb_isinstance (pa_cons (pv 0) (pa_cons (pe_bltn (v := .ty "tuple") rfl B.tuple bb_tuple rfl) pa_nil)))))
          (pw_or1 (pt_cmpR op_ne (pe_callB call_len_seq rfl B.len bb_len (pa_cons (pv 0) pa_nil)) (pe_callB call_len_seq rfl B.len bb_len (pa_cons (pv 1) pa_nil)) (nomark _))))) (pss_one (ps_ret pe_bl)) pss_nil)
      (pss_cons (ps_for PassesOwn.never rfl (pi_tup (pv 0)) (pg_name (i := 2) sc_law_numbers.nd rfl (Or.inl rfl))
        (pss_one (ps_if (pt_not (pt_val (pe_fn GH FH hr (pa_cons (pv 2) pa_nil)))) (pss_one (ps_ret pe_bl)) pss_nil)))
      (pss_one (ps_ret (pe_cmpR (op_eq_ints (Nat.lt_of_succ_lt hu)) (pe_callTy call_list_of rfl B.list bb_list (pa_cons (pv 0) pa_nil)) (pe_callTy call_list_of rfl B.list bb_list (pa_cons (pv 1) pa_nil)) (nomark _))))), ?_⟩
    refine ⟨_, rfl, _, _, _, _, rfl, .tup ha, kit_tup_tup _, _, rfl, ?_⟩
    refine iteF ?_
    refine ⟨_, rfl, a, _, rfl, .inr (SqT.of ha), _, rfl, b, _, rfl, hb, rfl, _, rfl, ?_⟩
    refine iteNS rfl ?_
    refine ⟨_, rfl, a, rfl, ⟨_, SqT.of ha⟩, for_tup (K := K) (a := a) (xs := Mir.iV ns) (fun i σ H2 => ∃ v2 : Option V, σ = [some (.ref a), some (.ref b), v2] ∧ H2 = H) ⟨none, rfl, rfl⟩ (fun i σ H2 _ ⟨_, _, e⟩ => by rw [e]; exact SqT.of ha) ?_ ?_⟩
    · rintro i y σ H2 hy ⟨v2, rfl, rfl⟩
      obtain ⟨x, hx, rfl⟩ := Mir.iV_get' hy
      refine ⟨_, rfl, _, rfl, _, rfl, ?_⟩
      refine iteF ?_
      exact ⟨_, rfl, rfl⟩
    · rintro σ H2 ⟨v2, rfl, rfl⟩
      refine ⟨_, rfl, a, _, rfl, .inr (SqT.of ha), fun l1 hl1 => ?_⟩
      have s1 : Same H2 (upd H2 l1 (.lst (Mir.iV ns))) := same_upd hl1
      refine ⟨_, rfl, b, Mir.iV ns, rfl, ?_, fun l2 hl2 => ?_⟩
      · rcases hb with hb | hb
        · exact .inl (s1.seq hb)
        · exact .inr (s1.tup hb)
      · refine ⟨l1, l2, ns, rfl, rfl, SqL.of ?_, SqL.of upd_same, ?_⟩
        · rw [upd_ne (ne_of_none upd_same hl2), upd_same]
          rfl
        · exact k _ (s1.trans (same_upd hl2))
end
section
variable {P : Program} {w : World} {K : PySem.W.Frag} {mg : Str → Option Value} {base : Heap}
theorem ok_law_far {f : Addr} {fd : FuncData} (F : Fn K mg "_law_far" s_law_far ["end"] f fd) : FnOk P w K mg base CX0 1 f fd ["end"] Mir.spLawFar := by
  refine F.fn.ok sc_law_far (fun vs H Q E h => ?_) (fun cdv A outer s H vs Q E hr h => ?_)
  · obtain ⟨e, rfl, _⟩ := h
    rfl
  · obtain ⟨e, rfl, q⟩ := h
    refine ⟨_, pss_one (ps_ret (pe_op op_sub (pe_op op_add (pv 0) pe_int) (pe_op op_mul pe_int (pe_op op_mod (pv 0) pe_int)))), ?_⟩
    refine ⟨_, rfl, _, _, rfl, rfl, _, rfl, _, _, rfl, rfl, (by show (0 : Int) < 2; decide), _, _, rfl, rfl, .inl ⟨by decide, by decide⟩, _, _, rfl, rfl, ?_⟩
    have z : (e : Int) + 1 - 2 * ((e : Int) % 2) = (Ch.far e : Nat) := by unfold Ch.far; split <;> omega
    rw [← z] at q
    exact q
end
section
variable {P : Program} {w : World} {K : PySem.W.Frag} {mg : Str → Option Value} {base : Heap}
theorem ok_law_chain {f fF : Addr} {fd fdF : FuncData} (B : Bl mg) (F : Fn K mg "_law_chain" s_law_chain ["mates", "start"] f fd) (FF : Fn K mg "_law_far" s_law_far ["end"] fF fdF) : FnOk P w K mg base CX0 2 f fd ["mates", "start"] (Mir.spLawChain K) := by
  have GF : FnOk P w K mg base CX0 1 fF fdF ["end"] Mir.spLawFar := ok_law_far FF
  refine F.fn.ok sc_law_chain (fun vs H Q E h => ?_) (fun cdv A outer s H vs Q E hr h => ?_)
  · obtain ⟨a, n, ms, s, rfl, _⟩ := h
    rfl
  · obtain ⟨a, n, ms, st, rfl, hS, W, hst, k⟩ := h
    have hsm := W.small
    refine ⟨_, pss_cons (ps_set (i := 2) sc_law_chain.nd rfl (Or.inl rfl) (pe_lst (pa_cons (pv 1) pa_nil)))
      (pss_cons (ps_set (i := 3) sc_law_chain.nd rfl (Or.inl rfl) (pe_fn GF FF hr (pa_cons (pv 1) pa_nil)))
      (pss_cons (ps_while PassesOwn.never (PW.pt (pw_and (pt_cmpR op_ne (pe_ix ix_list (pv 0) (pv 3) (fun _ _ => rfl)) (pv 3) (nomark _)) (pw_and1 (pt_cmpR op_ne (pe_ix ix_list (pv 0) (pv 3) (fun _ _ => rfl)) (pv 1) (nomark _)))))
        (pss_cons (ps_expr (pe_bm PySem.F.plainAttrs_list PySem.F.slot_list_append PySem.F.type_list_append mt_append (pv 2) (pa_cons (pe_ix ix_list (pv 0) (pv 3) (fun _ _ => rfl)) pa_nil)))
        (pss_one (ps_set (i := 3) sc_law_chain.nd rfl (Or.inl rfl) (pe_fn GF FF hr (pa_cons (pe_ix ix_list (pv 0) (pv 3) (fun _ _ => rfl)) pa_nil))))))
      (pss_one (ps_ret (pv 2))))), ?_⟩
    refine ⟨_, rfl, by show 1 ≤ sizeLine; decide, fun l hl => ?_⟩
    refine ⟨_, rfl, st, rfl, ?_⟩
    refine while_by (fun σ H2 => ∃ (xs : List Nat) (x j : Nat), σ = [some (.ref a), some (.int st), some (.ref l), some (.int (Ch.far x : Nat))] ∧ Same H H2 ∧ H2 l = some (.lst (Mir.nV (xs ++ [x]))) ∧
        Ch.Steps n (Mir.at0 ms) st (xs ++ [x]) ∧ (xs ++ [x]).length + j = n + 1 ∧ xs ++ [x] ++ Ch.goF (Mir.at0 ms) st j (Ch.far x) = Ch.walk n (Mir.at0 ms) st)
      (fun σ H2 => match H2 l with | some (.lst ys) => n + 1 - ys.length | _ => 0)
      ⟨[], st, n, rfl, same_upd hl, upd_same, Ch.Steps.one hst, by simp; omega, rfl⟩ ?_ ?_
    · rintro σ H2 ⟨xs, x, j, rfl, s2, hl2, S, hj, hw⟩
      have hx : x < 2 * n := S.lt x (by simp)
      have hfx := Ch.far_lt hx
      have hix := W.ix hfx
      have hlen := S.len W.wk
      have out : ∀ D : Ends, (∀ H3, Same H H3 → H3 l = some (.lst (Mir.nV (Ch.walk n (Mir.at0 ms) st))) → D.nx [some (.ref a), some (.int st), some (.ref l), some (.int (Ch.far x : Nat))] H3) →
          ¬ (Mir.at0 ms (Ch.far x) ≠ Ch.far x ∧ Mir.at0 ms (Ch.far x) ≠ st) → D.nx [some (.ref a), some (.int st), some (.ref l), some (.int (Ch.far x : Nat))] H2 := fun D hD hc => by
        refine hD H2 s2 ?_
        rw [hl2, ← hw, Ch.goF_stop hc, List.append_nil]
      refine ⟨_, rfl, _, rfl, a, _, _, _, rfl, rfl, s2.seq hS, hix, _, rfl, rfl, _, rfl, ?_⟩
      refine ite2 (fun h1 => ?_) (fun h1 => ?_)
      · have c1 : Mir.at0 ms (Ch.far x) ≠ Ch.far x := fun z => by
          rw [z] at h1
          simp at h1
        refine ⟨_, rfl, _, rfl, a, _, _, _, rfl, rfl, s2.seq hS, hix, _, rfl, rfl, _, rfl, ?_⟩
        refine ite2 (fun h2 => ?_) (fun h2 => ?_)
        · have c2 : Mir.at0 ms (Ch.far x) ≠ st := fun z => by
            rw [z] at h2
            simp at h2
          have S2 := S.snoc W.wk c1 c2
          have hlen2 := S2.len W.wk
          have hll : (xs ++ [x] ++ [Mir.at0 ms (Ch.far x)]).length = (xs ++ [x]).length + 1 := by simp
          obtain ⟨j', rfl⟩ : ∃ j', j = j' + 1 := ⟨j - 1, by omega⟩
          refine ⟨_, rfl, .inl ⟨rfl, _, SqL.of hl2⟩, _, rfl, _, rfl, a, _, _, _, rfl, rfl, s2.seq hS, hix, l, _, _, rfl, rfl, hl2, small1000 (by rw [Mir.nV_len]; omega), ?_⟩
          have s3 : Same H (upd H2 l (.lst (Mir.nV (xs ++ [x]) ++ [V.int (Mir.at0 ms (Ch.far x) : Nat)]))) := s2.upd hl
          refine ⟨_, rfl, _, rfl, a, _, _, _, rfl, rfl, s3.seq hS, hix, _, rfl, ?_⟩
          refine ⟨⟨xs ++ [x], Mir.at0 ms (Ch.far x), j', rfl, s3, by rw [upd_same, ← Mir.nV_snoc], S2, by omega, ?_⟩, ?_⟩
          · rw [← hw, List.append_assoc (xs ++ [x])]
            congr 1
            show _ = (if Mir.at0 ms (Ch.far x) ≠ Ch.far x ∧ Mir.at0 ms (Ch.far x) ≠ st then _ else _)
            rw [if_pos ⟨c1, c2⟩]
            rfl
          · show (match (upd H2 l (.lst (Mir.nV (xs ++ [x]) ++ [V.int (Mir.at0 ms (Ch.far x) : Nat)]))) l with | some (.lst ys) => n + 1 - ys.length | _ => 0) < (match H2 l with | some (.lst ys) => n + 1 - ys.length | _ => 0)
            rw [upd_same, hl2]
            show n + 1 - (Mir.nV (xs ++ [x]) ++ [V.int (Mir.at0 ms (Ch.far x) : Nat)]).length < n + 1 - (Mir.nV (xs ++ [x])).length
            rw [List.length_append, Mir.nV_len, List.length_singleton]
            omega
        · refine out _ (fun H3 s3 h3 => ?_) (fun z => h2 ?_)
          · exact ⟨_, rfl, k l H3 hl s3 h3⟩
          · have z2 := z.2
            simp only [Bool.not_eq_true', decide_eq_false_iff_not]
            intro e
            injection e with e
            exact z2 (by omega)
      · refine out _ (fun H3 s3 h3 => ?_) (fun z => h1 ?_)
        · exact ⟨_, rfl, k l H3 hl s3 h3⟩
        · have z1 := z.1
          simp only [Bool.not_eq_true', decide_eq_false_iff_not]
          intro e
          injection e with e
          exact z1 (by omega)
    · rintro σ H2 R R' hR ⟨a1, e1, a2, e2, p, ys, i, z, e3, e4, e5, e6, a3, e7, sc, c, ec, h⟩
      refine ⟨a1, e1, a2, e2, p, ys, i, z, e3, e4, e5, e6, a3, e7, sc, c, ec, ?_⟩
      cases c with
      | false => exact hR _ _ h
      | true =>
        obtain ⟨b1, d1, b2, d2, p', ys', i', z', d3, d4, d5, d6, b3, d7, sc', c', ec', h⟩ := h
        exact ⟨b1, d1, b2, d2, p', ys', i', z', d3, d4, d5, d6, b3, d7, sc', c', ec', hR _ _ h⟩
end
section
variable {P : Program} {w : World} {K : PySem.W.Frag} {mg : Str → Option Value} {base : Heap}
theorem ok_law_chains {f fC fF : Addr} {fd fdC fdF : FuncData} (B : Bl mg) (F : Fn K mg "_law_chains" s_law_chains ["mates"] f fd) (FC : Fn K mg "_law_chain" s_law_chain ["mates", "start"] fC fdC) (FF : Fn K mg "_law_far" s_law_far ["end"] fF fdF) : FnOk P w K mg base CX0 3 f fd ["mates"] Mir.spLawChains := by
  have GC : FnOk P w K mg base CX0 2 fC fdC ["mates", "start"] (Mir.spLawChain K) := ok_law_chain B FC FF
  refine F.fn.ok sc_law_chains (fun vs H Q E h => ?_) (fun cdv A outer s H vs Q E hr h => ?_)
  · obtain ⟨a, n, ms, rfl, _⟩ := h
    rfl
  · obtain ⟨a, n, ms, rfl, hS, W, k⟩ := h
    have hu := hu_of hr
    have hsm := W.small
    refine ⟨_, pss_cons (ps_set (i := 1) sc_law_chains.nd rfl (Or.inl rfl) pe_dnewK)
      (pss_cons (ps_set (i := 2) sc_law_chains.nd rfl (Or.inl rfl) (pe_lst pa_nil))
      (pss_cons (ps_set (i := 3) sc_law_chains.nd rfl (Or.inl rfl) (pe_lst pa_nil))
      (pss_cons (ps_for PassesOwn.never rfl (pi_range1 rfl B.range (pa_cons (pe_callB call_len_seq rfl B.len bb_len (pa_cons (pv 0) pa_nil)) pa_nil)) (pg_name (i := 4) sc_law_chains.nd rfl (Or.inl rfl))
        (pss_one (ps_if (PW.pt (pw_and (pt_cmpR op_eq (pe_ix ix_list (pv 0) (pv 4) (fun _ _ => rfl)) (pv 4) (nomark _)) (pw_and1 (pt_cmp (pc_dnotin hu (pe_op op_fdiv (pv 4) pe_int) (pv 1))))))
          (pss_cons (ps_expr (pe_bm PySem.F.plainAttrs_list PySem.F.slot_list_append PySem.F.type_list_append mt_append (pv 2) (pa_cons (pe_fn GC FC hr (pa_cons (pv 0) (pa_cons (pv 4) pa_nil))) pa_nil)))
          (pss_one (ps_for PassesOwn.never rfl (pi_list (pe_ix ix_list (pv 2) (pe_un un_neg pe_int) (fun _ _ => rfl))) (pg_name (i := 5) sc_law_chains.nd rfl (Or.inl rfl)) (pss_one (ps_dput hu (pv 1) (pe_op op_fdiv (pv 5) pe_int) pe_bl rfl))))) pss_nil)))
      (pss_cons (ps_for PassesOwn.never rfl (pi_range1 rfl B.range (pa_cons (pe_callB call_len_seq rfl B.len bb_len (pa_cons (pv 0) pa_nil)) pa_nil)) (pg_name (i := 4) sc_law_chains.nd rfl (Or.inl rfl))
        (pss_one (ps_if (pt_cmp (pc_dnotin hu (pe_op op_fdiv (pv 4) pe_int) (pv 1)))
          (pss_cons (ps_expr (pe_bm PySem.F.plainAttrs_list PySem.F.slot_list_append PySem.F.type_list_append mt_append (pv 3) (pa_cons (pe_fn GC FC hr (pa_cons (pv 0) (pa_cons (pv 4) pa_nil))) pa_nil)))
          (pss_one (ps_for PassesOwn.never rfl (pi_list (pe_ix ix_list (pv 3) (pe_un un_neg pe_int) (fun _ _ => rfl))) (pg_name (i := 5) sc_law_chains.nd rfl (Or.inl rfl)) (pss_one (ps_dput hu (pv 1) (pe_op op_fdiv (pv 5) pe_int) pe_bl rfl))))) pss_nil)))
      (pss_one (ps_ret (pe_tup (pa_cons (pv 2) (pa_cons (pv 3) pa_nil))))))))), ?_⟩
    intro d hdH
    have s1 : Same H (upd H d (.dK [])) := same_upd hdH
    have hd1 : upd H d (.dK []) d = some (.dK []) := upd_same
    generalize upd H d (.dK []) = Ha at s1 hd1
    refine ⟨by show 0 ≤ sizeLine; decide, fun lr hlra => ?_⟩
    have s2 : Same Ha (upd Ha lr (.lst [])) := same_upd hlra
    have hlr1 : upd Ha lr (.lst []) lr = some (.lst []) := upd_same
    have hlrH : H lr = none := s1.free hlra
    generalize upd Ha lr (.lst []) = Hb at s2 hlr1
    refine ⟨by show 0 ≤ sizeLine; decide, fun lg hlgb => ?_⟩
    have s3 : Same Hb (upd Hb lg (.lst [])) := same_upd hlgb
    have hlg1 : upd Hb lg (.lst []) lg = some (.lst []) := upd_same
    have hlgH : H lg = none := (s1.trans s2).free hlgb
    have ndr : d ≠ lr := ne_of_none hd1 hlra
    have ndg : d ≠ lg := ne_of_none (s2 _ _ hd1) hlgb
    have nrg : lr ≠ lg := ne_of_none hlr1 hlgb
    have hd2 := s3 _ _ (s2 _ _ hd1)
    have hlr2 := s3 _ _ hlr1
    generalize upd Hb lg (.lst []) = Hc at s3 hlg1 hd2 hlr2
    have sHc := (s1.trans s2).trans s3
    have ml : (Mir.nV ms).length = 2 * n := by rw [Mir.nV_len, W.len]
    refine ⟨_, rfl, a, _, rfl, .inl (SqL.of (sHc _ _ hS)), _, rfl, by omega, by omega, ?_⟩
    rw [ml]
    refine for_range (lo := 0) (n := ((2 * n : Nat) : Int).toNat) (fun i σ H2 => ∃ (v4 v5 : Option V) (kv : List (Key × V)) (ts : List Addr), σ = [some (.ref a), some (.ref d), some (.ref lr), some (.ref lg), v4, v5] ∧ Same H H2 ∧ H2 d = some (.dK kv) ∧ kv.length ≤ 40 * i ∧
        (∀ j : Nat, (valV kv (Sum.inl (j : Int) : Key)).isSome = true ↔ j ∈ (Mt.rowsE n (Mir.at0 ms) i).2) ∧ H2 lr = some (.lst (Mir.refs ts)) ∧ H2 lg = some (.lst []) ∧ Mir.Cl H2 ts ((Mt.rowsE n (Mir.at0 ms) i).1.map Mt.up) ∧ ts.length ≤ i ∧ ∀ t ∈ ts, t ≠ lr ∧ t ≠ lg)
      ⟨none, none, [], [], rfl, sHc, hd2, Nat.le_refl _, fun j => by simp [valV, Mt.rowsE], hlr2, hlg1, .nil, Nat.le_refl _, fun t h => by simp at h⟩ ?_ ?_
    · rintro i σ H2 hi ⟨v4, v5, kv, ts, rfl, sH2, hd, hkl, hk, hlr, hlg, hc, htl, hts⟩
      have hi : i < 2 * n := by omega
      have e0 : (0 : Int) + (i : Nat) = ((i : Nat) : Int) := by omega
      rw [e0]
      have ez : ((i : Nat) : Int) / 2 = ((i / 2 : Nat) : Int) := by omega
      have stay : ∀ c : ¬ (Mir.at0 ms i = i ∧ i / 2 ∉ (Mt.rowsE n (Mir.at0 ms) i).2), Mt.rowsE n (Mir.at0 ms) (i + 1) = Mt.rowsE n (Mir.at0 ms) i := fun c => by rw [Mt.rowsE_succ]; unfold Mt.rowStepE; rw [if_neg c]
      refine ⟨_, rfl, _, rfl, a, _, _, _, rfl, rfl, SqL.of (sH2 _ _ hS), W.ix hi, _, rfl, rfl, _, rfl, ?_⟩
      refine ite2 (fun h1 => ?_) (fun h1 => ?_)
      · have h1 := of_decide_eq_true h1
        injection h1 with h1
        have h1 : Mir.at0 ms i = i := by omega
        refine ⟨_, rfl, _, _, rfl, rfl, ⟨by decide, by decide⟩, _, rfl, d, _, rfl, DGet.k (k := Sum.inl (((i : Nat) : Int) / 2)) hd, _, rfl, ?_⟩
        rw [ez]
        by_cases c : i / 2 ∈ (Mt.rowsE n (Mir.at0 ms) i).2
        · rw [(hk _).mpr c]
          refine iteF ?_
          rw [stay fun z => z.2 c]
          exact ⟨_, _, kv, ts, rfl, sH2, hd, by omega, hk, hlr, hlg, hc, by omega, hts⟩
        · have e1 : (valV kv (Sum.inl ((i / 2 : Nat) : Int) : Key)).isSome = false := by
            cases q : (valV kv (Sum.inl ((i / 2 : Nat) : Int) : Key)).isSome with
            | false => rfl
            | true => exact absurd ((hk _).mp q) c
          rw [e1]
          refine iteT ?_
          have step : Mt.rowsE n (Mir.at0 ms) (i + 1) = ((Mt.rowsE n (Mir.at0 ms) i).1 ++ [Ch.walk n (Mir.at0 ms) i], (Mt.rowsE n (Mir.at0 ms) i).2 ++ Mt.half (Ch.walk n (Mir.at0 ms) i)) := by rw [Mt.rowsE_succ]; unfold Mt.rowStepE; rw [if_pos ⟨h1, c⟩]
          refine ⟨_, rfl, .inl ⟨rfl, _, SqL.of hlr⟩, _, rfl, _, rfl, a, n, ms, i, rfl, SqL.of (sH2 _ _ hS), W, hi, fun t H3 ht s4 ht3 => ?_⟩
          have tne : ∀ {b : Addr} {o : HO}, H2 b = some o → t ≠ b := fun e z => by rw [z, e] at ht; cases ht
          have wl := (Ch.walk_full W.wk hi).st.len W.wk
          refine ⟨lr, _, _, rfl, rfl, s4 _ _ hlr, small1000 (by rw [Mir.refs_len]; omega), ?_⟩
          have e4 : upd H3 lr (.lst (Mir.refs ts ++ [.ref t])) lr = some (.lst (Mir.refs ts ++ [.ref t])) := upd_same
          have n4 : ∀ b o, b ≠ lr → H3 b = some o → upd H3 lr (.lst (Mir.refs ts ++ [.ref t])) b = some o := fun b o hb e => by rw [upd_ne hb]; exact e
          have c4 := (hc.same s4).upd (l := lr) (o := .lst (Mir.refs ts ++ [.ref t])) fun x hx => (hts x hx).1
          generalize upd H3 lr (.lst (Mir.refs ts ++ [.ref t])) = H4 at e4 n4 c4
          have ht4 : H4 t = some (.lst (Mir.nV (Ch.walk n (Mir.at0 ms) i))) := n4 _ _ (tne hlr) ht3
          have hd4 : H4 d = some (.dK kv) := n4 _ _ ndr (s4 _ _ hd)
          have hlg4 : H4 lg = some (.lst []) := n4 _ _ nrg.symm (s4 _ _ hlg)
          have sH4 : Same H H4 := fun b o e => n4 b o (ne_of_none e hlrH) (s4 _ _ (sH2 _ _ e))
          refine ⟨_, rfl, _, rfl, lr, _, _, _, rfl, rfl, SqL.of e4, atI_last _ _, t, rfl, ⟨_, SqL.of ht4⟩, ?_⟩
          refine for_list (K := K) (a := t) (xs := Mir.nV (Ch.walk n (Mir.at0 ms) i)) (fun j σ H5 => ∃ (v : Option V) (kv2 : List (Key × V)), σ = [some (.ref a), some (.ref d), some (.ref lr), some (.ref lg), some (.int (i : Nat)), v] ∧ (∀ b o, b ≠ d → H4 b = some o → H5 b = some o) ∧ H5 d = some (.dK kv2) ∧
              kv2.length ≤ kv.length + j ∧ ∀ j' : Nat, (valV kv2 (Sum.inl (j' : Int) : Key)).isSome = true ↔ (valV kv (Sum.inl (j' : Int) : Key)).isSome = true ∨ j' ∈ ((Ch.walk n (Mir.at0 ms) i).take j).map (· / 2))
            ⟨_, kv, rfl, fun b o _ e => e, hd4, Nat.le_refl _, fun j => by simp⟩ (fun j σ H5 _ ⟨_, _, _, s5, _⟩ => SqL.of (s5 _ _ (tne hd) ht4)) ?_ ?_
          · rintro j y σ H5 hy ⟨v, kv2, rfl, s5, hd5, hl5, hk5⟩
            obtain ⟨x, hx, rfl⟩ := Mir.nV_get' hy
            have hjl : j < (Ch.walk n (Mir.at0 ms) i).length := (List.getElem?_eq_some_iff.mp hx).1
            refine ⟨_, rfl, _, rfl, _, _, rfl, rfl, ⟨by decide, by decide⟩, d, _, rfl, DPut.k (k := Sum.inl ((x : Int) / 2)) hd5 (Nat.lt_of_le_of_lt (show kv2.length ≤ 200000 by omega) (by decide)), ?_⟩
            refine ⟨_, _, rfl, fun b o hb e => by rw [upd_ne hb]; exact s5 b o hb e, upd_same, ?_, fun j' => ?_⟩
            · have z := length_putK kv2 (Sum.inl ((x : Int) / 2) : Key) (V.bl true)
              omega
            · rw [Mir.take_snoc hx]
              exact Mir.put_iff (hk5 j')
          · rintro σ H5 ⟨v, kv2, rfl, s5, hd5, hl5, hk5⟩
            rw [Mir.nV_len] at hl5 hk5
            rw [List.take_length] at hk5
            rw [step]
            refine ⟨_, v, kv2, ts ++ [t], rfl, fun b o e => s5 b o (ne_of_none e hdH) (sH4 b o e), hd5, by omega, fun j => ?_, by rw [Mir.refs_snoc]; exact s5 _ _ ndr.symm e4, s5 _ _ ndg.symm hlg4, ?_, by rw [List.length_append]; simp; omega, fun x hx => ?_⟩
            · rw [hk5 j, hk j, List.mem_append]
              rfl
            · rw [List.map_append]
              exact Mir.All2.snoc (c4.but hd4 s5) (by rw [← Mir.nV_up]; exact s5 _ _ (tne hd) ht4)
            · rcases List.mem_append.mp hx with z | z
              · exact hts x z
              · rw [List.mem_singleton.mp z]; exact ⟨tne hlr, tne hlg⟩
      · have h1 : ¬ Mir.at0 ms i = i := fun z => h1 (decide_eq_true (congrArg V.int (by omega)))
        refine iteF ?_
        rw [stay fun z => h1 z.1]
        exact ⟨_, _, kv, ts, rfl, sH2, hd, by omega, hk, hlr, hlg, hc, by omega, hts⟩
    rintro σ Hd ⟨v4, v5, kv0, ts, rfl, sHd, hdd, hkl0, hk0, hlrd, hlgd, hcd, htl0, hts0⟩
    rw [Int.toNat_natCast] at hkl0 hk0 hcd htl0
    refine ⟨_, rfl, a, _, rfl, .inl (SqL.of (sHd _ _ hS)), _, rfl, by omega, by omega, ?_⟩
    rw [ml]
    refine for_range (lo := 0) (n := ((2 * n : Nat) : Int).toNat) (fun i σ H2 => ∃ (v4 v5 : Option V) (kv : List (Key × V)) (us : List Addr), σ = [some (.ref a), some (.ref d), some (.ref lr), some (.ref lg), v4, v5] ∧ Same H H2 ∧ H2 d = some (.dK kv) ∧ kv.length ≤ 3200 + 40 * i ∧
        (∀ j : Nat, (valV kv (Sum.inl (j : Int) : Key)).isSome = true ↔ j ∈ (Mt.ringsE n (Mir.at0 ms) i).2) ∧ H2 lr = some (.lst (Mir.refs ts)) ∧ H2 lg = some (.lst (Mir.refs us)) ∧ Mir.Cl H2 ts ((Mt.rowsE n (Mir.at0 ms) (2 * n)).1.map Mt.up) ∧ Mir.Cl H2 us ((Mt.ringsE n (Mir.at0 ms) i).1.map Mt.up) ∧ us.length ≤ i ∧ ∀ t ∈ us, t ≠ lg)
      ⟨_, _, kv0, [], rfl, sHd, hdd, by omega, hk0, hlrd, hlgd, hcd, .nil, Nat.le_refl _, fun t h => by simp at h⟩ ?_ ?_
    · rintro i σ H2 hi ⟨v4, v5, kv, us, rfl, sH2, hd, hkl, hk, hlr, hlg, hc0, hc, htl, hts⟩
      have hi : i < 2 * n := by omega
      have e0 : (0 : Int) + (i : Nat) = ((i : Nat) : Int) := by omega
      rw [e0]
      have ez : ((i : Nat) : Int) / 2 = ((i / 2 : Nat) : Int) := by omega
      refine ⟨_, rfl, _, _, rfl, rfl, ⟨by decide, by decide⟩, _, rfl, d, _, rfl, DGet.k (k := Sum.inl (((i : Nat) : Int) / 2)) hd, _, rfl, ?_⟩
      rw [ez]
      by_cases c : i / 2 ∈ (Mt.ringsE n (Mir.at0 ms) i).2
      · rw [(hk _).mpr c]
        refine iteF ?_
        have stay : Mt.ringsE n (Mir.at0 ms) (i + 1) = Mt.ringsE n (Mir.at0 ms) i := by rw [Mt.ringsE_succ]; unfold Mt.ringStepE; rw [if_neg (fun z => z c)]
        rw [stay]
        exact ⟨_, _, kv, us, rfl, sH2, hd, by omega, hk, hlr, hlg, hc0, hc, by omega, hts⟩
      · have e1 : (valV kv (Sum.inl ((i / 2 : Nat) : Int) : Key)).isSome = false := by
          cases q : (valV kv (Sum.inl ((i / 2 : Nat) : Int) : Key)).isSome with
          | false => rfl
          | true => exact absurd ((hk _).mp q) c
        rw [e1]
        refine iteT ?_
        have step : Mt.ringsE n (Mir.at0 ms) (i + 1) = ((Mt.ringsE n (Mir.at0 ms) i).1 ++ [Ch.walk n (Mir.at0 ms) i], (Mt.ringsE n (Mir.at0 ms) i).2 ++ Mt.half (Ch.walk n (Mir.at0 ms) i)) := by rw [Mt.ringsE_succ]; unfold Mt.ringStepE; rw [if_pos c]
        refine ⟨_, rfl, .inl ⟨rfl, _, SqL.of hlg⟩, _, rfl, _, rfl, a, n, ms, i, rfl, SqL.of (sH2 _ _ hS), W, hi, fun t H3 ht s4 ht3 => ?_⟩
        have tne : ∀ {b : Addr} {o : HO}, H2 b = some o → t ≠ b := fun e z => by rw [z, e] at ht; cases ht
        have wl := (Ch.walk_full W.wk hi).st.len W.wk
        refine ⟨lg, _, _, rfl, rfl, s4 _ _ hlg, small1000 (by rw [Mir.refs_len]; omega), ?_⟩
        have e4 : upd H3 lg (.lst (Mir.refs us ++ [.ref t])) lg = some (.lst (Mir.refs us ++ [.ref t])) := upd_same
        have n4 : ∀ b o, b ≠ lg → H3 b = some o → upd H3 lg (.lst (Mir.refs us ++ [.ref t])) b = some o := fun b o hb e => by rw [upd_ne hb]; exact e
        have c4 := (hc.same s4).upd (l := lg) (o := .lst (Mir.refs us ++ [.ref t])) hts
        have c5 := (hc0.same s4).upd (l := lg) (o := .lst (Mir.refs us ++ [.ref t])) fun x hx => (hts0 x hx).2
        generalize upd H3 lg (.lst (Mir.refs us ++ [.ref t])) = H4 at e4 n4 c4 c5
        have ht4 : H4 t = some (.lst (Mir.nV (Ch.walk n (Mir.at0 ms) i))) := n4 _ _ (tne hlg) ht3
        have hd4 : H4 d = some (.dK kv) := n4 _ _ ndg (s4 _ _ hd)
        have hlr4 : H4 lr = some (.lst (Mir.refs ts)) := n4 _ _ nrg (s4 _ _ hlr)
        have sH4 : Same H H4 := fun b o e => n4 b o (ne_of_none e hlgH) (s4 _ _ (sH2 _ _ e))
        refine ⟨_, rfl, _, rfl, lg, _, _, _, rfl, rfl, SqL.of e4, atI_last _ _, t, rfl, ⟨_, SqL.of ht4⟩, ?_⟩
        refine for_list (K := K) (a := t) (xs := Mir.nV (Ch.walk n (Mir.at0 ms) i)) (fun j σ H5 => ∃ (v : Option V) (kv2 : List (Key × V)), σ = [some (.ref a), some (.ref d), some (.ref lr), some (.ref lg), some (.int (i : Nat)), v] ∧ (∀ b o, b ≠ d → H4 b = some o → H5 b = some o) ∧ H5 d = some (.dK kv2) ∧
            kv2.length ≤ kv.length + j ∧ ∀ j' : Nat, (valV kv2 (Sum.inl (j' : Int) : Key)).isSome = true ↔ (valV kv (Sum.inl (j' : Int) : Key)).isSome = true ∨ j' ∈ ((Ch.walk n (Mir.at0 ms) i).take j).map (· / 2))
          ⟨_, kv, rfl, fun b o _ e => e, hd4, Nat.le_refl _, fun j => by simp⟩ (fun j σ H5 _ ⟨_, _, _, s5, _⟩ => SqL.of (s5 _ _ (tne hd) ht4)) ?_ ?_
        · rintro j y σ H5 hy ⟨v, kv2, rfl, s5, hd5, hl5, hk5⟩
          obtain ⟨x, hx, rfl⟩ := Mir.nV_get' hy
          have hjl : j < (Ch.walk n (Mir.at0 ms) i).length := (List.getElem?_eq_some_iff.mp hx).1
          refine ⟨_, rfl, _, rfl, _, _, rfl, rfl, ⟨by decide, by decide⟩, d, _, rfl, DPut.k (k := Sum.inl ((x : Int) / 2)) hd5 (Nat.lt_of_le_of_lt (show kv2.length ≤ 200000 by omega) (by decide)), ?_⟩
          refine ⟨_, _, rfl, fun b o hb e => by rw [upd_ne hb]; exact s5 b o hb e, upd_same, ?_, fun j' => ?_⟩
          · have z := length_putK kv2 (Sum.inl ((x : Int) / 2) : Key) (V.bl true)
            omega
          · rw [Mir.take_snoc hx]
            exact Mir.put_iff (hk5 j')
        · rintro σ H5 ⟨v, kv2, rfl, s5, hd5, hl5, hk5⟩
          rw [Mir.nV_len] at hl5 hk5
          rw [List.take_length] at hk5
          rw [step]
          refine ⟨_, v, kv2, us ++ [t], rfl, fun b o e => s5 b o (ne_of_none e hdH) (sH4 b o e), hd5, by omega, fun j => ?_, s5 _ _ ndr.symm hlr4, by rw [Mir.refs_snoc]; exact s5 _ _ ndg.symm e4, c5.but hd4 s5, ?_, by rw [List.length_append]; simp; omega, fun x hx => ?_⟩
          · rw [hk5 j, hk j, List.mem_append]
            rfl
          · rw [List.map_append]
            exact Mir.All2.snoc (c4.but hd4 s5) (by rw [← Mir.nV_up]; exact s5 _ _ (tne hd) ht4)
          · rcases List.mem_append.mp hx with z | z
            · exact hts x z
            · rw [List.mem_singleton.mp z]; exact tne hlg
    rintro σ He ⟨w4, w5, kv1, us, rfl, sHe, hde, hkl1, hk1, hlre, hlge, hce, hcf, htl1, hts1⟩
    rw [Int.toNat_natCast] at hcf
    refine ⟨_, rfl, _, rfl, by show 2 ≤ sizeLine; decide, fun t ht => ?_⟩
    have sl := same_upd (o := .tup [.ref lr, .ref lg]) ht
    exact k t lr lg ts us _ (sHe.trans sl) upd_same (sl _ _ hlre) (hce.same sl) (sl _ _ hlge) (hcf.same sl)
end
section
variable {P : Program} {w : World} {K : PySem.W.Frag} {mg : Str → Option Value} {base : Heap}
theorem ok_law_back {f fF : Addr} {fd fdF : FuncData} (B : Bl mg) (F : Fn K mg "_law_back" s_law_back ["chain"] f fd) (FF : Fn K mg "_law_far" s_law_far ["end"] fF fdF) : FnOk P w K mg base CX0 2 f fd ["chain"] Mir.spLawBack := by
  have GF : FnOk P w K mg base CX0 1 fF fdF ["end"] Mir.spLawFar := ok_law_far FF
  refine F.fn.ok sc_law_back (fun vs H Q E h => ?_) (fun cdv A outer s H vs Q E hr h => ?_)
  · obtain ⟨t, xs, rfl, _⟩ := h
    rfl
  · obtain ⟨t, xs, rfl, ht, hn, k⟩ := h
    have nd1 : (["end"] : List Str).Nodup := by decide +kernel
    refine ⟨_, pss_one (ps_ret (pe_comp (NC := ["end"]) rfl (compOk0 rfl (by decide +kernel) (by decide +kernel)) (pi_rev rfl B.reversed (pa_cons (pv 0) pa_nil))
      (fun _ _ _ _ => pg_name (i := 0) nd1 rfl (Or.inl rfl)) (fun _ _ _ _ => pts_nil) (fun _ _ _ _ => pe_fn GF FF hr (pa_cons (pv 0) pa_nil)))), ?_⟩
    refine ⟨_, rfl, t, _, rfl, SqL.of ht, fun D hD => ?_⟩
    refine comp_rev (K := K) (a := t) (xs := Mir.nV xs) (fun i σ H2 => ∃ v : Option V, σ = [v] ∧ Same H H2 ∧ H2 D = some (.lst (Mir.nV ((xs.reverse.take i).map Ch.far)))) ⟨none, rfl, same_upd hD, upd_same⟩ (fun i σ H2 _ ⟨_, _, s2, _⟩ => SqL.of (s2 _ _ ht)) ?_ ?_
    · rintro i x σ H2 hx ⟨v, rfl, s2, h2⟩
      have hx : (Mir.nV xs.reverse)[i]? = some x := by unfold Mir.nV at hx ⊢; rw [List.map_reverse]; exact hx
      obtain ⟨m, hm, rfl⟩ := Mir.nV_get' hx
      have hi : i < xs.length := by have z := (List.getElem?_eq_some_iff.mp hm).1; rw [List.length_reverse] at z; exact z
      refine gYes ?_
      refine ⟨_, rfl, m, rfl, _, h2, small1000 (by rw [Mir.nV_len, List.length_map, List.length_take]; omega), _, rfl, s2.upd hD, ?_⟩
      rw [upd_same, Mir.take_snoc hm, List.map_append, List.map_singleton, Mir.nV_snoc]
    · rintro σ H2 ⟨v, rfl, s2, h2⟩
      have e : (Mir.nV xs).length = xs.reverse.length := by rw [Mir.nV_len, List.length_reverse]
      rw [e, List.take_length] at h2
      exact k D H2 hD s2 h2
end
section
variable {P : Program} {w : World} {K : PySem.W.Frag} {mg : Str → Option Value} {base : Heap}
theorem ok_law_written {f : Addr} {fd : FuncData} (B : Bl mg) (F : Fn K mg "_law_written" s_law_written ["chain", "brackets"] f fd) : FnOk P w K mg base CX0 1 f fd ["chain", "brackets"] Sx.spWritten9 := by
  refine F.fn.ok sc_law_written (fun vs H Q E h => ?_) (fun cdv A outer s H vs Q E hr h => ?_)
  · obtain ⟨k, a, es, rfl, _⟩ := h
    rfl
  · obtain ⟨k, a, es, rfl, ha, hl, h8, q⟩ := h
    have sz : ∀ n : Nat, n ≤ 20000 → n ≤ sizeLine := fun n h => Nat.le_trans h (by decide)
    have nd1 : (["end"] : List Str).Nodup := by decide +kernel
    refine ⟨_, pss_cons (ps_comp (ix := 2) (NC := ["end"]) sc_law_written.nd rfl (Or.inl rfl) rfl (compOk0 rfl (by decide +kernel) (by decide +kernel)) (pi_list (pv 0)) (fun _ _ _ _ => pg_name (i := 0) nd1 rfl (Or.inl rfl)) (fun _ _ _ _ => pts_nil)
        (fun _ _ _ _ => pe_op op_add_str (pe_ix (ix_listK (K := K) rfl) (pe_lst (pa_cons pe_str (pa_cons pe_str pa_nil))) (pe_op op_mod (pv 0) pe_int) (fun _ _ => rfl)) (pe_callTy call_str_int rfl B.str bb_str (pa_cons (pe_op op_fdiv (pv 0) pe_int) pa_nil))))
      (pss_one (ps_ret (pe_op op_add_str (pe_op op_add_str (pe_item_str (pv 1) pe_int (fun _ _ => rfl)) (pe_bm PySem.F.plainAttrs_str PySem.F.slot_str_join PySem.F.type_str_join mt_join pe_str (pa_cons (pv 2) pa_nil))) (pe_item_str (pv 1) pe_int (fun _ _ => rfl))))), ?_⟩
    have hb0 : (if k then ("[]" : Str) else "()").cps[(0 : Int).toNat]? = some (Sx.opC k) := by cases k <;> decide +kernel
    have hb1 : (if k then ("[]" : Str) else "()").cps[(1 : Int).toNat]? = some (Sx.clC k) := by cases k <;> decide +kernel
    have hbl : (if k then ("[]" : Str) else "()").length = 2 := by cases k <;> decide +kernel
    refine ⟨_, rfl, a, rfl, ⟨_, SqL.of ha⟩, fun D hD => comp_list (K := K) (a := a) (xs := Mir.nV es) (fun i σ H2 => ∃ (v : Option V) (ts : List Str), σ = [v] ∧ Same H H2 ∧ H2 D = some (.lst (ts.map V.str)) ∧ ts.map Sx.tl = (es.take i).map Sx.sw)
      ⟨none, [], rfl, same_upd hD, upd_same, rfl⟩ (fun i σ H2 _ ⟨_, _, _, s4, _⟩ => SqL.of (s4 _ _ ha)) ?_ ?_⟩
    · rintro i x σ H2 hx ⟨v, ts, rfl, s4, hD2, ht⟩
      obtain ⟨e, he, rfl⟩ := Mir.nV_get' hx
      have he8 := h8 e (List.mem_of_getElem? he)
      have hi : i < es.length := (List.getElem?_eq_some_iff.mp he).1
      have htl : ts.length = i := by
        have := congrArg List.length ht
        rw [List.length_map, List.length_map, List.length_take] at this
        omega
      have e2 : ((e : Int) / 2) = ((e / 2 : Nat) : Int) := by omega
      have hlog : ((e : Int) / 2).natAbs.log2 < 1920 := by
        rw [e2, Int.natAbs_natCast]
        refine Nat.lt_of_le_of_lt (Nat.log2_le_self _) (by omega)
      have nl : (Str.ofString (toString ((e : Int) / 2))).length ≤ 2 := by
        rw [e2, Sx.len_tl, Sx.tl_num]
        exact (Sx.dg_all (e / 2) (by omega)).2.2.1
      refine gYes ⟨by show 2 ≤ sizeLine; decide, fun lp hlp => ?_⟩
      have s5 := same_upd (o := .lst [.str "", .str "-"]) hlp
      have sg : ∃ g : Str, atI [V.str "", V.str "-"] ((e : Int) % 2) = some (.str g) ∧ Sx.tl g = (if e % 2 = 1 then [45] else []) ∧ g.length ≤ 1 := by
        by_cases ho : e % 2 = 1
        · exact ⟨"-", by rw [show (e : Int) % 2 = 1 by omega]; rfl, by rw [if_pos ho, Sx.minus]; rfl, by decide +kernel⟩
        · exact ⟨"", by rw [show (e : Int) % 2 = 0 by omega]; rfl, by rw [if_neg ho]; rfl, by decide +kernel⟩
      obtain ⟨g, hg1, hg2, hg3⟩ := sg
      refine ⟨_, rfl, _, _, rfl, rfl, show (0 : Int) < 2 by decide, lp, _, _, _, rfl, rfl, SqL.of upd_same, hg1, _, rfl, _, _, rfl, rfl, ⟨by decide, by decide⟩, _, rfl, hlog, _, _, rfl, rfl, sz _ (by omega), ?_⟩
      refine ⟨_, s5 _ _ hD2, small1000 (by rw [List.length_map]; omega), _, ts ++ [g ++ Str.ofString (toString ((e : Int) / 2))], rfl, (s4.trans s5).upd hD, by rw [upd_same, List.map_append]; rfl, ?_⟩
      rw [Mir.take_snoc he, List.map_append, List.map_append, ht]
      show _ ++ [Sx.tl (g ++ Str.ofString (toString ((e : Int) / 2)))] = _
      rw [Sx.tl_app, hg2, e2, Sx.tl_num]
      unfold Sx.sw
      split <;> simp [*]
    · rintro σ H2 ⟨v, ts, rfl, s4, hD2, ht⟩
      rw [Mir.nV_len, List.take_length] at ht
      have htl : ts.length = es.length := by
        have := congrArg List.length ht
        rwa [List.length_map, List.length_map] at this
      have ht3 : ∀ t ∈ ts, t.length ≤ 3 := fun t h => by
        have z : Sx.tl t ∈ es.map Sx.sw := by rw [← ht]; exact List.mem_map_of_mem h
        obtain ⟨e, he, z⟩ := List.mem_map.mp z
        rw [Sx.len_tl, ← z]
        exact (Sx.sw_len (h8 e he)).2
      have hj : Sx.tl (Txt.join " " ts) = Sx.joinL 32 (es.map Sx.sw) := by rw [Sx.blank, Sx.join_tl, ht]
      have hjl : (Txt.join " " ts).length ≤ 240 := by
        rw [Sx.len_tl, hj]
        have z := Sx.joinL_len (c := 32) (m := 3) (ws := es.map Sx.sw) fun w hw => by
          obtain ⟨e, he, rfl⟩ := List.mem_map.mp hw
          exact (Sx.sw_len (h8 e he)).2
        rw [List.length_map] at z
        omega
      refine ⟨_, rfl, _, _, _, rfl, rfl, by decide, by decide, by rw [hbl]; decide, hb0, rfl, _, rfl, _, D, ts, rfl, rfl, hD2, by rw [Sx.blank]; exact Sx.join_ok (by omega) fun t h => by have := ht3 t h; omega, ?_⟩
      refine ⟨_, _, rfl, rfl, sz _ (by show 1 + _ ≤ _; omega), _, rfl, _, _, _, rfl, rfl, by decide, by decide, by rw [hbl]; decide, hb1, _, _, rfl, rfl, sz _ (by rw [strLen_append]; show 1 + _ + 1 ≤ _; omega), q _ _ s4 ?_⟩
      rw [Sx.tl_app, Sx.tl_app, hj]
      rfl
end
section
variable {P : Program} {w : World} {K : PySem.W.Frag} {mg : Str → Option Value} {base : Heap}
theorem ok_law_text_else {f fB fC fW : Addr} {fd fdB fdC fdW : FuncData} (B : Bl mg) (F : Fn K mg "_law_text_else" s_law_text_else ["mates", "cell"] f fd) (FB : Fn K mg "_law_back" s_law_back ["chain"] fB fdB) (FC : Fn K mg "_law_chains" s_law_chains ["mates"] fC fdC) (FW : Fn K mg "_law_written" s_law_written ["chain", "brackets"] fW fdW)
    (GB : FnOk P w K mg base CX0 2 fB fdB ["chain"] Mir.spLawBack) (GC : FnOk P w K mg base CX0 3 fC fdC ["mates"] Mir.spLawChains) (GW : FnOk P w K mg base CX0 1 fW fdW ["chain", "brackets"] Sx.spWritten9) : FnOk P w K mg base CX0 4 f fd ["mates", "cell"] Sx.spTextElse := by
  refine F.fn.ok sc_law_text_else (fun vs H Q E h => ?_) (fun cdv A outer s H vs Q E hr h => ?_)
  · obtain ⟨l, n, ms, c, rfl, _⟩ := h
    rfl
  · obtain ⟨l, n, ms, c, rfl, hl, W, k⟩ := h
    have hr1 : Room 1 _ := hr.mono (by decide)
    have hr2 : Room 2 _ := hr.mono (by decide)
    have sz : ∀ n : Nat, n ≤ 20000 → n ≤ sizeLine := fun n h => Nat.le_trans h (by decide)
    let R1 : TS := fun D σ H' => ∃ (lr lg lp t : Addr) (r : List Nat) (zs : List Str) (v5 : Option V), σ = [some (.ref l), some (.int c), some (.ref lr), some (.ref lg), some (.ref lp), v5, some (.ref t), none, none, none] ∧ H' lp = some (.lst (zs.map V.str)) ∧ zs.length ≤ 100 ∧ H' t = some (.lst (Mir.nV r)) ∧ r.length ≤ 60 ∧ (∀ e ∈ r, e < 80) ∧
      ∀ (z : Str) (H2 : Hp), Same H' H2 → Sx.tl z = Sx.chainL true r → D.nx σ (upd H2 lp (.lst ((zs ++ [z]).map V.str)))
    let R2 : TS := fun D σ H' => ∃ (lr lg lp t : Addr) (r : List Nat) (zs : List Str) (i : Nat) (v6 v8 : Option V), σ = [some (.ref l), some (.int c), some (.ref lr), some (.ref lg), some (.ref lp), some (.int (i : Int)), v6, some (.ref t), v8, none] ∧ H' lp = some (.lst (zs.map V.str)) ∧ zs.length ≤ 100 ∧ H' t = some (.lst (Mir.nV r)) ∧ r.length ≤ 60 ∧ (∀ e ∈ r, e < 80) ∧
      ∀ (z : Str) (j : Nat) (H2 : Hp), Same H' H2 → j ≤ zs.length → Sx.tl z = Sx.chainL false r → D.nx σ (upd H2 lp (.lst ((zs.take j ++ z :: zs.drop j).map V.str)))
    refine ⟨_, pss_cons (ps_if (pt_cmpR op_eq (pe_callB call_len_seq rfl B.len bb_len (pa_cons (pv 0) pa_nil)) pe_int (nomark _)) (pss_one (ps_ret pe_str)) pss_nil)
      (pss_cons (ps_asg (pe_fn GC FC hr (pa_cons (pv 0) pa_nil)) (pg_tup rfl (pgs_cons (pg_name (i := 2) sc_law_text_else.nd rfl (Or.inl rfl)) (pgs_cons (pg_name (i := 3) sc_law_text_else.nd rfl (Or.inl rfl)) pgs_nil))))
      (pss_cons (ps_set (i := 4) sc_law_text_else.nd rfl (Or.inl rfl) (pe_lst pa_nil))
      (pss_cons (ps_for PassesOwn.never rfl (pi_enumL rfl B.enumerate (pa_cons (pv 2) pa_nil)) (pg_tup rfl (pgs_cons (pg_name (i := 5) sc_law_text_else.nd rfl (Or.inl rfl)) (pgs_cons (pg_name (i := 6) sc_law_text_else.nd rfl (Or.inl rfl)) pgs_nil)))
        (pss_cons (ps_if (pt_cmpR op_eq (pe_op op_mod (pe_op op_add (pe_op op_fdiv (pv 1) pe_int) (pe_op op_mul (pv 5) (pv 5))) pe_int) pe_int (nomark _))
          (pss_one (ps_set (i := 6) sc_law_text_else.nd rfl (Or.inl rfl) (pe_fn GB FB hr2 (pa_cons (pv 6) pa_nil)))) pss_nil)
        (ps_sem (R := R1) fun D σ H' hR => ⟨_, pss_one (ps_expr (pe_bm PySem.F.plainAttrs_list PySem.F.slot_list_append PySem.F.type_list_append mt_append (pv 4) (pa_cons (pe_fn GW FW hr1 (pa_cons (pv 6) (pa_cons pe_str pa_nil))) pa_nil))), ?app1⟩)))
      (pss_cons (ps_for PassesOwn.never rfl (pi_enumL rfl B.enumerate (pa_cons (pv 3) pa_nil)) (pg_tup rfl (pgs_cons (pg_name (i := 5) sc_law_text_else.nd rfl (Or.inl rfl)) (pgs_cons (pg_name (i := 7) sc_law_text_else.nd rfl (Or.inl rfl)) pgs_nil)))
        (pss_cons (ps_set (i := 8) sc_law_text_else.nd rfl (Or.inl rfl) (pe_op op_mod (pe_op op_add (pe_op op_fdiv (pv 1) pe_int) (pe_op op_mul pe_int (pv 5))) (pe_callB call_len_seq rfl B.len bb_len (pa_cons (pv 7) pa_nil))))
        (pss_cons (ps_set (i := 7) sc_law_text_else.nd rfl (Or.inl rfl) (pe_op op_cat (pe_slice sl_list (pv 7) (po_some (pv 8)) po_none) (pe_slice sl_list (pv 7) po_none (po_some (pv 8)))))
        (pss_cons (ps_if (pt_cmpR op_eq (pe_op op_mod (pe_op op_add (pe_op op_fdiv (pv 1) pe_int) (pe_op op_mul (pv 5) (pv 5))) pe_int) pe_int (nomark _))
          (pss_one (ps_set (i := 7) sc_law_text_else.nd rfl (Or.inl rfl) (pe_fn GB FB hr2 (pa_cons (pv 7) pa_nil)))) pss_nil)
        (ps_sem (R := R2) fun D σ H' hR => ⟨_, pss_one (ps_expr (pe_bm PySem.F.plainAttrs_list PySem.F.slot_list_insert PySem.F.type_list_insert mt_insert (pv 4) (pa_cons (pe_op op_mod (pe_op op_add (pe_op op_fdiv (pv 1) pe_int) (pe_op op_mul pe_int (pv 5))) (pe_op op_add (pe_callB call_len_seq rfl B.len bb_len (pa_cons (pv 4) pa_nil)) pe_int)) (pa_cons (pe_fn GW FW hr1 (pa_cons (pv 7) (pa_cons pe_str pa_nil))) pa_nil)))), ?app2⟩)))))
      (pss_cons (ps_set (i := 9) sc_law_text_else.nd rfl (Or.inl rfl) (pe_op op_mod (pe_op op_fdiv (pv 1) pe_int) (pe_callB call_len_seq rfl B.len bb_len (pa_cons (pv 4) pa_nil))))
      (pss_one (ps_ret (pe_bm PySem.F.plainAttrs_str PySem.F.slot_str_join PySem.F.type_str_join mt_join pe_str (pa_cons (pe_op op_cat (pe_slice sl_list (pv 4) (po_some (pv 9)) po_none) (pe_slice sl_list (pv 4) po_none (po_some (pv 9)))) pa_nil))))))))), ?_⟩
    case app1 =>
      obtain ⟨lr, lg, lp, t, r, zs, v5, rfl, hp, hzl, ht, hrl, h8, q⟩ := hR
      refine ⟨_, rfl, .inl ⟨rfl, _, SqL.of hp⟩, _, rfl, true, t, r, rfl, ht, hrl, h8, fun z H2 s2 hz => ?_⟩
      have q := q z H2 s2 hz
      rw [List.map_append] at q
      exact ⟨lp, _, _, rfl, rfl, s2 _ _ hp, small1000 (by rw [List.length_map]; omega), q⟩
    case app2 =>
      obtain ⟨lr, lg, lp, t, r, zs, i, v6, v8, rfl, hp, hzl, ht, hrl, h8, q⟩ := hR
      have j0 := Int.emod_nonneg (c / 13 + 5 * (i : Int)) (show (((zs.map V.str).length : Nat) : Int) + 1 ≠ 0 by omega)
      have j1 := Int.emod_lt_of_pos (c / 13 + 5 * (i : Int)) (show (0 : Int) < (((zs.map V.str).length : Nat) : Int) + 1 by omega)
      obtain ⟨j, hj⟩ : ∃ j : Nat, (c / 13 + 5 * (i : Int)) % ((((zs.map V.str).length : Nat) : Int) + 1) = j := ⟨_, (Int.toNat_of_nonneg j0).symm⟩
      have hjl : j ≤ (zs.map V.str).length := by omega
      refine ⟨_, rfl, .inl ⟨rfl, _, SqL.of hp⟩, _, rfl, _, _, rfl, rfl, ⟨by decide, by decide⟩, _, rfl, _, _, rfl, rfl, .inl ⟨by decide, by decide⟩, _, _, rfl, rfl, _, rfl, lp, _, rfl, .inl (SqL.of hp), _, _, rfl, rfl, _, _, rfl, rfl, (by show (0 : Int) < (((zs.map V.str).length : Nat) : Int) + 1; omega), ?_⟩
      refine ⟨_, rfl, false, t, r, rfl, ht, hrl, h8, fun z H2 s2 hz => ?_⟩
      have q := q z j H2 s2 (by rw [List.length_map] at hjl; exact hjl) hz
      rw [Sx.ins_map] at q
      exact ⟨lp, _, _, j, _, rfl, rfl, s2 _ _ hp, hj, hjl, small1000 (by rw [List.length_map]; omega), q⟩
    have hsm := W.small
    refine ⟨_, rfl, l, _, rfl, .inl (SqL.of hl), rfl, _, rfl, ?_⟩
    by_cases h0 : ms = []
    · refine iteE (by rw [h0]; rfl) (k _ [] H (Same.refl _) (by decide +kernel) (Sx.deco_zero W h0) (fun x hx => by cases hx) rfl)
    refine iteD (fun e => h0 (by injection e with e; rw [Mir.nV_len] at e; exact List.eq_nil_of_length_eq_zero (by omega))) ?_
    refine ⟨_, rfl, l, n, ms, rfl, hl, W, fun tp lr lg ts us H1 s1 htp hlr hcr hlg hcg => ?_⟩
    have D0 := Mt.deco_found W.wk
    have D1 := Sx.deco_told D0 (c / 5) (c / 7) (c / 11)
    obtain ⟨ok0, okl0⟩ := Sx.chains_ok W D0
    obtain ⟨ok1, okl1⟩ := Sx.chains_ok W D1
    generalize (Mt.rowsE n (Mir.at0 ms) (2 * n)).1 = rows at hcr D0 D1 ok0 okl0 ok1 okl1
    generalize (Mt.ringsE n (Mir.at0 ms) (2 * n)).1 = rings at hcg D0 D1 ok0 okl0 ok1 okl1
    have tl : ts.length = rows.length := by have z := Mir.All2.len hcr; rw [List.length_map] at z; exact z
    have ul : us.length = rings.length := by have z := Mir.All2.len hcg; rw [List.length_map] at z; exact z
    have ib : ∀ i : Nat, i < 100 → -(2 ^ 64 : Int) < (i : Nat) ∧ ((i : Nat) : Int) < 2 ^ 64 := fun i hi => ⟨by omega, by omega⟩
    refine ⟨tp, _, rfl, SqT.of htp, rfl, _, _, rfl, _, _, rfl, rfl, ?_⟩
    refine ⟨by show 0 ≤ sizeLine; decide, fun lp hlp => ?_⟩
    have s2 : Same H1 (upd H1 lp (.lst [])) := same_upd hlp
    have hlp1 : upd H1 lp (.lst []) lp = some (.lst []) := upd_same
    generalize upd H1 lp (.lst []) = Ha at s2 hlp1
    refine ⟨_, rfl, lr, rfl, ⟨_, SqL.of (s2 _ _ hlr)⟩, for_enumL (K := K) (a := lr) (xs := Mir.refs ts) (fun i σ H2 => ∃ (v5 v6 : Option V) (zs : List Str), σ = [some (.ref l), some (.int c), some (.ref lr), some (.ref lg), some (.ref lp), v5, v6, none, none, none] ∧ Same H1 H2 ∧ H2 lp = some (.lst (zs.map V.str)) ∧
        zs.map Sx.tl = (Mt.mapIx (Mt.tellRow (c / 5)) 0 (rows.take i)).map (Sx.chainL true) ∧ zs.length = i)
      ⟨none, none, [], rfl, s2, hlp1, rfl, rfl⟩ (fun i σ H2 _ ⟨_, _, _, _, s3, _⟩ => SqL.of (s3 _ _ hlr)) ?_ ?_⟩
    · rintro i x tt σ H2 hx ⟨v5, v6, zs, rfl, s3, hp2, hzs, hzl⟩ htt
      obtain ⟨t, ht, rfl⟩ := Mir.refs_get' hx
      obtain ⟨c0, hci, htc⟩ := Mir.All2.get hcr ht
      rw [List.getElem?_map] at hci
      cases hri : rows[i]? with
      | none => rw [hri] at hci; cases hci
      | some r =>
        rw [hri] at hci
        obtain rfl := Option.some.inj hci
        rw [← Mir.nV_up] at htc
        have hi : i < rows.length := (List.getElem?_eq_some_iff.mp hri).1
        have rl := ok0 r (List.mem_append_left _ (List.mem_of_getElem? hri))
        have e1 : Mt.mapIx (Mt.tellRow (c / 5)) 0 (rows.take (i + 1)) = Mt.mapIx (Mt.tellRow (c / 5)) 0 (rows.take i) ++ [Mt.tellRow (c / 5) i r] := by
          rw [Mir.take_snoc hri, Mt.mapIx_snoc, List.length_take]
          have z : 0 + min i rows.length = i := by omega
          rw [z]
        have ro := ok1 (Mt.tellRow (c / 5) i r) (List.mem_append_left _ (List.mem_of_getElem? (i := i) (by rw [Mt.mapIx_get, hri, Nat.zero_add]; rfl)))
        rw [e1]
        have s4 : Same H2 (upd H2 tt (.tup [.int (i : Nat), .ref t])) := same_upd htt
        refine ⟨tt, _, rfl, SqT.of upd_same, rfl, _, _, rfl, _, _, rfl, rfl, ?_⟩
        generalize upd H2 tt (.tup [.int (i : Nat), .ref t]) = H3 at s4
        refine ⟨_, rfl, _, _, rfl, rfl, ⟨by decide, by decide⟩, _, rfl, _, rfl, _, _, rfl, rfl, .inl (ib i (by omega)), _, _, rfl, rfl, _, _, rfl, rfl, (by show (0 : Int) < 3; decide), rfl, _, rfl, ?_⟩
        have fin : ∀ z : Str, Sx.tl z = Sx.chainL true (Mt.tellRow (c / 5) i r) → (zs ++ [z]).map Sx.tl = (Mt.mapIx (Mt.tellRow (c / 5)) 0 (rows.take i) ++ [Mt.tellRow (c / 5) i r]).map (Sx.chainL true) := fun z hz => by
          rw [List.map_append, List.map_append, hzs]
          show _ ++ [Sx.tl z] = _
          rw [hz]
          rfl
        have s13 := s3.trans s4
        refine ite2 (fun h1 => ?_) (fun h1 => ?_)
        · have h1 := of_decide_eq_true h1
          injection h1 with h1
          refine ⟨_, rfl, t, r, rfl, s13 _ _ htc, by omega, fun t' H4 ht' s5 h4 => ?_⟩
          have e2 : Mt.tellRow (c / 5) i r = Mt.backL r := by unfold Mt.tellRow; rw [if_pos h1]
          rw [e2] at ro fin ⊢
          exact ⟨lr, lg, lp, t', _, zs, _, rfl, s5 _ _ (s4 _ _ hp2), by omega, h4, by have := ro.2.1; omega, ro.2.2, fun z H5 s6 hz => ⟨_, _, zs ++ [z], rfl, ((s13.trans s5).trans s6).upd hlp, upd_same, fin z hz, by rw [List.length_append, hzl]; rfl⟩⟩
        · have h1 : ¬ (c / 5 + ((i : Nat) : Int) * i) % 3 = 1 := fun z => h1 (decide_eq_true (congrArg V.int z))
          have e2 : Mt.tellRow (c / 5) i r = r := by unfold Mt.tellRow; rw [if_neg h1]
          rw [e2] at ro fin ⊢
          exact ⟨lr, lg, lp, t, _, zs, _, rfl, s4 _ _ hp2, by omega, s13 _ _ htc, by have := ro.2.1; omega, ro.2.2, fun z H5 s6 hz => ⟨_, _, zs ++ [z], rfl, (s13.trans s6).upd hlp, upd_same, fin z hz, by rw [List.length_append, hzl]; rfl⟩⟩
    rintro σ Hb ⟨v5, v6, zs1, rfl, sb, hpb, hz1, hz1l⟩
    rw [Mir.refs_len, tl] at hz1 hz1l
    rw [List.take_length] at hz1
    refine ⟨_, rfl, lg, rfl, ⟨_, SqL.of (sb _ _ hlg)⟩, for_enumL (K := K) (a := lg) (xs := Mir.refs us) (fun i σ H2 => ∃ (v5 v7 v8 : Option V) (zs : List Str) (cs : List (Bool × List Nat)), σ = [some (.ref l), some (.int c), some (.ref lr), some (.ref lg), some (.ref lp), v5, v6, v7, v8, none] ∧ Same H1 H2 ∧ H2 lp = some (.lst (zs.map V.str)) ∧
        zs.map Sx.tl = cs.map Sx.chL ∧ cs.Perm (Sx.chs (Mt.mapIx (Mt.tellRow (c / 5)) 0 rows) (Mt.mapIx (Mt.tellRing (c / 7) (c / 11)) 0 (rings.take i))) ∧ zs.length = rows.length + i)
      ⟨_, none, none, zs1, Sx.chs (Mt.mapIx (Mt.tellRow (c / 5)) 0 rows) [], rfl, sb, hpb, ?_, List.Perm.refl _, hz1l⟩ (fun i σ H2 _ ⟨_, _, _, _, _, _, s3, _⟩ => SqL.of (s3 _ _ hlg)) ?_ ?_⟩
    · rw [hz1]
      unfold Sx.chs Sx.chL
      rw [List.map_nil, List.append_nil, List.map_map]
      rfl
    · rintro i x tt σ H2 hx ⟨w5, v7, v8, zs, cs, rfl, s3, hp2, hzs, hperm, hzl⟩ htt
      obtain ⟨t, ht, rfl⟩ := Mir.refs_get' hx
      obtain ⟨c0, hci, htc⟩ := Mir.All2.get hcg ht
      rw [List.getElem?_map] at hci
      cases hri : rings[i]? with
      | none => rw [hri] at hci; cases hci
      | some r =>
        rw [hri] at hci
        obtain rfl := Option.some.inj hci
        rw [← Mir.nV_up] at htc
        have hi : i < rings.length := (List.getElem?_eq_some_iff.mp hri).1
        have rl := ok0 r (List.mem_append_right _ (List.mem_of_getElem? hri))
        have rp0 : 0 < r.length := List.length_pos_iff.mpr rl.1
        have e1 : Mt.mapIx (Mt.tellRing (c / 7) (c / 11)) 0 (rings.take (i + 1)) = Mt.mapIx (Mt.tellRing (c / 7) (c / 11)) 0 (rings.take i) ++ [Mt.tellRing (c / 7) (c / 11) i r] := by
          rw [Mir.take_snoc hri, Mt.mapIx_snoc, List.length_take]
          have z : 0 + min i rings.length = i := by omega
          rw [z]
        have ro := ok1 (Mt.tellRing (c / 7) (c / 11) i r) (List.mem_append_right _ (List.mem_of_getElem? (i := i) (by rw [Mt.mapIx_get, hri, Nat.zero_add]; rfl)))
        rw [e1]
        have s4 : Same H2 (upd H2 tt (.tup [.int (i : Nat), .ref t])) := same_upd htt
        refine ⟨tt, _, rfl, SqT.of upd_same, rfl, _, _, rfl, _, _, rfl, rfl, ?_⟩
        generalize upd H2 tt (.tup [.int (i : Nat), .ref t]) = H3 at s4
        have ht3 : H3 t = some (.lst (Mir.nV r)) := s4 _ _ (s3 _ _ htc)
        have rp : (0 : Int) < (r.length : Nat) := by omega
        have a0 := Int.emod_nonneg (c / 7 + 3 * ((i : Nat) : Int)) (show ((r.length : Nat) : Int) ≠ 0 by omega)
        have a1 := Int.emod_lt_of_pos (c / 7 + 3 * ((i : Nat) : Int)) rp
        obtain ⟨ap, hap⟩ : ∃ ap : Nat, (c / 7 + 3 * ((i : Nat) : Int)) % ((r.length : Nat) : Int) = ap := ⟨((c / 7 + 3 * ((i : Nat) : Int)) % ((r.length : Nat) : Int)).toNat, by omega⟩
        have apl : ap < r.length := by omega
        refine ⟨_, rfl, _, _, rfl, rfl, ⟨by decide, by decide⟩, _, rfl, _, _, rfl, rfl, .inl ⟨by decide, by decide⟩, _, _, rfl, rfl, _, rfl, t, _, rfl, .inl (SqL.of ht3), _, _, rfl, rfl, (by show (0 : Int) < (((Mir.nV r).length : Nat) : Int); rw [Mir.nV_len]; exact rp), ?_⟩
        dsimp only
        rw [Mir.nV_len, hap]
        refine ⟨_, rfl, _, rfl, _, rfl, t, _, rfl, SqL.of ht3, fun la hla => ⟨_, rfl, _, rfl, _, rfl, t, _, rfl, SqL.of (same_upd hla _ _ ht3), fun lb hlb => ?_⟩⟩
        have nl : ap ≤ (Mir.nV r).length := by rw [Mir.nV_len]; omega
        rw [Mir.cut_from nl, Mir.cut_to nl]
        rw [Mir.cut_from nl] at hlb
        have nab : la ≠ lb := ne_of_none upd_same hlb
        refine ⟨la, lb, _, _, rfl, rfl, by rw [upd_ne nab, upd_same], upd_same, Nat.le_trans (show _ ≤ 1000 by rw [List.length_drop, List.length_take, Mir.nV_len]; omega) (by decide), fun lc hlc => ?_⟩
        have s5 := ((same_upd hla).trans (same_upd hlb)).trans (same_upd (o := .lst ((Mir.nV r).drop ap ++ (Mir.nV r).take ap)) hlc)
        have hc5 : upd (upd (upd H3 la (.lst ((Mir.nV r).drop ap))) lb (.lst ((Mir.nV r).take ap))) lc (.lst ((Mir.nV r).drop ap ++ (Mir.nV r).take ap)) lc = some (.lst (Mir.nV (Mt.rotL ap r))) := by
          rw [upd_same]
          unfold Mt.rotL Mir.nV
          rw [List.map_append, List.map_drop, List.map_take]
        generalize upd (upd (upd H3 la (.lst ((Mir.nV r).drop ap))) lb (.lst ((Mir.nV r).take ap))) lc (.lst ((Mir.nV r).drop ap ++ (Mir.nV r).take ap)) = H5 at s5 hc5
        have hp5 := s5 _ _ (s4 _ _ hp2)
        have et : ((c / 7 + 3 * ((i : Nat) : Int)) % ((r.length : Nat) : Int)).toNat = ap := by omega
        have sH5 := (s3.trans s4).trans s5
        have fin : ∀ (z : Str) (j : Nat), j ≤ zs.length → Sx.tl z = Sx.chainL false (Mt.tellRing (c / 7) (c / 11) i r) → ∃ cs' : List (Bool × List Nat), (zs.take j ++ z :: zs.drop j).map Sx.tl = cs'.map Sx.chL ∧ cs'.Perm (Sx.chs (Mt.mapIx (Mt.tellRow (c / 5)) 0 rows) (Mt.mapIx (Mt.tellRing (c / 7) (c / 11)) 0 (rings.take i) ++ [Mt.tellRing (c / 7) (c / 11) i r])) ∧ (zs.take j ++ z :: zs.drop j).length = rows.length + (i + 1) := fun z j hj hz => by
          refine ⟨cs.take j ++ (false, Mt.tellRing (c / 7) (c / 11) i r) :: cs.drop j, ?_, ?_, ?_⟩
          · rw [Sx.ins_map, Sx.ins_map, hzs, hz]
            rfl
          · refine (Sx.ins_perm _ _ _).trans ?_
            rw [Sx.chs_snoc]
            exact (hperm.cons _).trans (List.perm_append_singleton _ _).symm
          · rw [(Sx.ins_perm zs j z).length_eq, List.length_cons, hzl]
            omega
        refine ⟨_, rfl, _, _, rfl, rfl, ⟨by decide, by decide⟩, _, rfl, _, rfl, _, _, rfl, rfl, .inl (ib i (by omega)), _, _, rfl, rfl, _, _, rfl, rfl, (by show (0 : Int) < 3; decide), rfl, _, rfl, ?_⟩
        refine ite2 (fun h1 => ?_) (fun h1 => ?_)
        · have h1 := of_decide_eq_true h1
          injection h1 with h1
          have e2 : Mt.tellRing (c / 7) (c / 11) i r = Mt.backL (Mt.rotL ap r) := by unfold Mt.tellRing; rw [if_pos h1, et]
          rw [e2] at ro fin ⊢
          refine ⟨_, rfl, lc, _, rfl, hc5, by rw [Mt.rotL_len]; omega, fun t' H6 ht' s6 h6 => ?_⟩
          refine ⟨lr, lg, lp, t', _, zs, i, _, _, rfl, s6 _ _ hp5, by omega, h6, by have := ro.2.1; omega, ro.2.2, fun z j H7 s7 hj hz => ?_⟩
          obtain ⟨cs', f1, f2, f3⟩ := fin z j hj hz
          exact ⟨_, _, _, _, cs', rfl, ((sH5.trans s6).trans s7).upd hlp, upd_same, f1, f2, f3⟩
        · have h1 : ¬ (c / 11 + ((i : Nat) : Int) * i) % 3 = 1 := fun z => h1 (decide_eq_true (congrArg V.int z))
          have e2 : Mt.tellRing (c / 7) (c / 11) i r = Mt.rotL ap r := by unfold Mt.tellRing; rw [if_neg h1, et]
          rw [e2] at ro fin ⊢
          refine ⟨lr, lg, lp, lc, _, zs, i, _, _, rfl, hp5, by omega, hc5, by have := ro.2.1; omega, ro.2.2, fun z j H7 s7 hj hz => ?_⟩
          obtain ⟨cs', f1, f2, f3⟩ := fin z j hj hz
          exact ⟨_, _, _, _, cs', rfl, (sH5.trans s7).upd hlp, upd_same, f1, f2, f3⟩
    rintro σ Hd ⟨w5, v7, v8, zs, cs, rfl, sd, hpd, hzs, hperm, hzl⟩
    rw [Mir.refs_len, ul] at hperm hzl
    rw [List.take_length] at hperm
    have csl : cs.length = zs.length := by
      have := congrArg List.length hzs
      rw [List.length_map, List.length_map] at this
      exact this.symm
    have zp : 0 < zs.length := by
      have y : 0 < n := by
        have := W.len
        cases n with
        | zero => exact absurd (List.eq_nil_of_length_eq_zero (by omega)) h0
        | succ m => omega
      have z := Mir.deco_len D0
      cases e : rows ++ rings with
      | nil => rw [e] at z; simp at z; omega
      | cons a q =>
        have := congrArg List.length e
        rw [List.length_append, List.length_cons] at this
        omega
    have vl : (zs.map V.str).length = zs.length := List.length_map _
    have c0 : 0 ≤ c / 17 % (((zs.map V.str).length : Nat) : Int) := Int.emod_nonneg _ (by omega)
    have c1 : c / 17 % (((zs.map V.str).length : Nat) : Int) < (((zs.map V.str).length : Nat) : Int) := Int.emod_lt_of_pos _ (by omega)
    obtain ⟨cut, hcut⟩ : ∃ cut : Nat, c / 17 % (((zs.map V.str).length : Nat) : Int) = cut := ⟨_, (Int.toNat_of_nonneg c0).symm⟩
    refine ⟨_, rfl, _, _, rfl, rfl, ⟨by decide, by decide⟩, _, rfl, lp, _, rfl, .inl (SqL.of hpd), _, _, rfl, rfl, (by show (0 : Int) < (((zs.map V.str).length : Nat) : Int); omega), ?_⟩
    dsimp only
    rw [hcut]
    have nl : cut ≤ (zs.map V.str).length := by omega
    refine ⟨rfl, _, rfl, _, rfl, _, rfl, lp, _, rfl, SqL.of hpd, fun la hla => ⟨_, rfl, _, rfl, _, rfl, lp, _, rfl, SqL.of (same_upd hla _ _ hpd), fun lb hlb => ?_⟩⟩
    rw [Mir.cut_from nl, Mir.cut_to nl]
    rw [Mir.cut_from nl] at hlb
    have nab : la ≠ lb := ne_of_none upd_same hlb
    refine ⟨la, lb, _, _, rfl, rfl, by rw [upd_ne nab, upd_same], upd_same, Nat.le_trans (show _ ≤ 1000 by rw [List.length_drop, List.length_take, List.length_map]; omega) (by decide), fun l1 hl1 => ?_⟩
    have s5 := ((same_upd hla).trans (same_upd hlb)).trans (same_upd (o := .lst ((zs.map V.str).drop cut ++ (zs.map V.str).take cut)) hl1)
    have hc5 : upd (upd (upd Hd la (.lst ((zs.map V.str).drop cut))) lb (.lst ((zs.map V.str).take cut))) l1 (.lst ((zs.map V.str).drop cut ++ (zs.map V.str).take cut)) l1 = some (.lst ((Mt.cutL cut zs).map V.str)) := by
      rw [upd_same]
      unfold Mt.cutL
      rw [List.map_append, List.map_drop, List.map_take]
    generalize upd (upd (upd Hd la (.lst ((zs.map V.str).drop cut))) lb (.lst ((zs.map V.str).take cut))) l1 (.lst ((zs.map V.str).drop cut ++ (zs.map V.str).take cut)) = He at s5 hc5
    have hcc : (Mt.cutL cut zs).map Sx.tl = (Mt.cutL cut cs).map Sx.chL := by
      unfold Mt.cutL
      rw [List.map_append, List.map_append, List.map_drop, List.map_take, List.map_drop, List.map_take, hzs]
    have DC := Sx.deco_any D0 (c / 5) (c / 7) (c / 11) ((Mt.cutL_perm cut cs).trans hperm)
    obtain ⟨ok2, okl2⟩ := Sx.chains_ok W DC
    have htl : ∀ t ∈ Mt.cutL cut zs, t.length ≤ 1000 := fun t ht => by
      have m : Sx.tl t ∈ (Mt.cutL cut cs).map Sx.chL := by rw [← hcc]; exact List.mem_map_of_mem ht
      obtain ⟨x, hx, e⟩ := List.mem_map.mp m
      have o := ok2 x.2 (Sx.sel_mem hx)
      rw [Sx.len_tl, ← e]
      exact Nat.le_trans (Sx.chainL_len o.2.2 o.2.1) (by decide)
    have ctl : (Mt.cutL cut zs).length = zs.length := (Mt.cutL_perm cut zs).length_eq
    refine ⟨_, l1, Mt.cutL cut zs, rfl, rfl, hc5, by rw [Sx.blank]; exact Sx.join_ok (by omega) htl, k _ (Mt.cutL cut cs) He (((s1.trans sd)).trans s5) ?_ DC (fun x hx => Sx.sel_mem hx) (Sx.sel_len _)⟩
    rw [Sx.blank, Sx.join_tl, hcc]
    unfold Sx.workL
    rw [if_neg fun e => by have := (Mt.cutL_perm cut cs).length_eq; rw [e] at this; simp at this; omega]
    rfl
end
section
variable {P : Program} {w : World} {K : PySem.W.Frag} {mg : Str → Option Value} {base : Heap}
theorem ok_law_sign_by {f : Addr} {fd : FuncData} (B : Bl mg) (F : Fn K mg "_law_sign_by" s_law_sign_by ["cell"] f fd) : FnOk P w K mg base CX0 1 f fd ["cell"] Sx.spSignBy := by
  refine F.fn.ok sc_law_sign_by (fun vs H Q E h => ?_) (fun cdv A outer s H vs Q E hr h => ?_)
  · obtain ⟨c, rfl, _⟩ := h
    rfl
  · obtain ⟨c, rfl, k⟩ := h
    refine ⟨_, (pss_cons (ps_set (i := 1) sc_law_sign_by.nd rfl (Or.inl rfl) pe_str)
      (pss_cons (ps_set (i := 1) sc_law_sign_by.nd rfl (Or.inl rfl) (pe_op op_add_str (pv 1) pe_str))
      (pss_one (ps_ret (pe_item_str (pv 1) (pe_op op_mod (pv 0) (pe_callB call_len_str rfl B.len bb_len (pa_cons (pv 1) pa_nil))) (fun _ _ => rfl)))))), ?_⟩
    have sz : ∀ n : Nat, n ≤ 20000 → n ≤ sizeLine := fun n h => Nat.le_trans h (by decide)
    refine ⟨_, rfl, _, _, rfl, rfl, by decide +kernel, ?_⟩
    have hA : Ascii ((" !\"#$&'()*+,-./0123456789:;<=>?@ABCDEFGHIJKLMNOPQRSTUVWXYZ[\\]^_`" : Str) ++ ("abcdefghijklmnopqrstuvwxyz{|}~" : Str)) := Sx.ascii_of (by decide +kernel)
    have h1 : 0 < ((" !\"#$&'()*+,-./0123456789:;<=>?@ABCDEFGHIJKLMNOPQRSTUVWXYZ[\\]^_`" : Str) ++ ("abcdefghijklmnopqrstuvwxyz{|}~" : Str)).length := by decide +kernel
    have h2 : ((" !\"#$&'()*+,-./0123456789:;<=>?@ABCDEFGHIJKLMNOPQRSTUVWXYZ[\\]^_`" : Str) ++ ("abcdefghijklmnopqrstuvwxyz{|}~" : Str)).length ≤ 2000 := by decide +kernel
    generalize ((" !\"#$&'()*+,-./0123456789:;<=>?@ABCDEFGHIJKLMNOPQRSTUVWXYZ[\\]^_`" : Str) ++ ("abcdefghijklmnopqrstuvwxyz{|}~" : Str)) = S at hA h1 h2 ⊢
    obtain ⟨x, q1, q2, q3, q4⟩ := Sx.item_any c h1 h2
    exact ⟨_, rfl, _, rfl, _, rfl, S, rfl, sz _ (by omega), _, _, rfl, rfl, by show (0 : Int) < S.length; omega, S, _, x, rfl, rfl, q1, q2, q3, q4, k _ (Sx.Low.one hA q4)⟩
end
section
variable {P : Program} {w : World} {K : PySem.W.Frag} {mg : Str → Option Value} {base : Heap}
theorem ok_law_sign_spoiled {f fB : Addr} {fd fdB : FuncData} (B : Bl mg) (F : Fn K mg "_law_sign_spoiled" s_law_sign_spoiled ["text", "cell"] f fd) (F_law_sign_by : Fn K mg "_law_sign_by" s_law_sign_by ["cell"] fB fdB) : FnOk P w K mg base CX0 2 f fd ["text", "cell"] Sx.spSpoiled := by
  have G_law_sign_by : FnOk P w K mg base CX0 1 fB fdB ["cell"] Sx.spSignBy := ok_law_sign_by B F_law_sign_by
  refine F.fn.ok sc_law_sign_spoiled (fun vs H Q E h => ?_) (fun cdv A outer s H vs Q E hr h => ?_)
  · obtain ⟨z, c, b, rfl, _⟩ := h
    rfl
  · obtain ⟨z, c, b, rfl, hz, hb, k⟩ := h
    have sz : ∀ n : Nat, n ≤ 20000 → n ≤ sizeLine := fun n h => Nat.le_trans h (by decide)
    have zl := hz.2
    refine ⟨_, pss_cons (ps_set (i := 2) sc_law_sign_spoiled.nd rfl (Or.inl rfl) pe_str)
      (pss_cons (ps_set (i := 3) sc_law_sign_spoiled.nd rfl (Or.inl rfl) (pe_op op_mod (pe_op op_fdiv (pv 1) pe_int) (pe_op op_add (pe_callB call_len_str rfl B.len bb_len (pa_cons (pv 0) pa_nil)) pe_int)))
      (pss_cons (ps_set (i := 4) sc_law_sign_spoiled.nd rfl (Or.inl rfl) (pe_item_str (pv 2) (pe_op op_mod (pe_op op_fdiv (pv 1) pe_int) (pe_callB call_len_str rfl B.len bb_len (pa_cons (pv 2) pa_nil))) (fun _ _ => rfl)))
      (pss_cons (ps_if (pt_cmpR op_eq (pe_op op_mod (pe_op op_fdiv (pv 1) pe_int) pe_int) pe_int (nomark _)) (pss_one (ps_set (i := 4) sc_law_sign_spoiled.nd rfl (Or.inl rfl) (pe_fn G_law_sign_by F_law_sign_by (hr.mono (by decide)) (pa_cons (pe_op op_fdiv (pv 1) pe_int) pa_nil)))) pss_nil)
      (ps_sem (R := fun D σ H2 => ∃ (v2 : Option V) (i : Int) (g : Str), σ = [some (.str z), some (.int c), v2, some (.int i), some (.str g)] ∧ H = H2 ∧ Sx.Low 1 g ∧ D.rt = Q) fun D σ H2 hR => ?rest)))), ?_⟩
    case rest =>
      obtain ⟨v2, i, g, rfl, rfl, hg, hD⟩ := hR
      have gl := hg.2
      have s1 := (Sx.slice_any z none (some i)).2
      have s2 := (Sx.slice_any z (some i) none).2
      have s3 := (Sx.slice_any z (some (i + 1)) none).2
      refine ⟨_, pss_cons (ps_if (pt_cmpR op_eq (pe_op op_mod (pv 1) pe_int) pe_int (nomark _)) (pss_one (ps_ret (pe_op op_add_str (pe_op op_add_str (pe_slice sl_str (pv 0) po_none (po_some (pv 3))) (pv 4)) (pe_slice sl_str (pv 0) (po_some (pv 3)) po_none)))) pss_nil)
        (pss_cons (ps_if (pt_cmpR op_eq (pe_op op_mod (pv 1) pe_int) pe_int (nomark _)) (pss_one (ps_ret (pe_op op_add_str (pe_op op_add_str (pe_slice sl_str (pv 0) po_none (po_some (pv 3))) (pv 4)) (pe_slice sl_str (pv 0) (po_some (pe_op op_add (pv 3) pe_int)) po_none)))) pss_nil)
        (pss_one (ps_ret (pe_op op_add_str (pe_slice sl_str (pv 0) po_none (po_some (pv 3))) (pe_slice sl_str (pv 0) (po_some (pe_op op_add (pv 3) pe_int)) po_none))))), ?_⟩
      refine ⟨_, rfl, _, _, rfl, rfl, (show (0 : Int) < 3 by decide), rfl, _, rfl, ite2 (fun _ => ?_) fun _ => ⟨_, rfl, _, _, rfl, rfl, (show (0 : Int) < 3 by decide), rfl, _, rfl, ite2 (fun _ => ?_) fun _ => ?_⟩⟩
      · refine ⟨_, rfl, _, rfl, _, rfl, z, rfl, sz _ (by omega), _, rfl, _, _, rfl, rfl, sz _ (by omega), ?_⟩
        refine ⟨_, rfl, _, rfl, _, rfl, z, rfl, sz _ (by omega), _, _, rfl, rfl, sz _ (by rw [strLen_append]; omega), ?_⟩
        show D.rt _ H
        rw [hD]
        exact k _ H (Same.refl _) (((hz.sl none (some i)).app hg).app (hz.sl (some i) none) |>.mono (by omega))
      · refine ⟨_, rfl, _, rfl, _, rfl, z, rfl, sz _ (by omega), _, rfl, _, _, rfl, rfl, sz _ (by omega), ?_⟩
        refine ⟨_, rfl, _, rfl, _, _, rfl, rfl, _, rfl, z, rfl, sz _ (by omega), _, _, rfl, rfl, sz _ (by rw [strLen_append]; omega), ?_⟩
        show D.rt _ H
        rw [hD]
        exact k _ H (Same.refl _) (((hz.sl none (some i)).app hg).app (hz.sl (some (i + 1)) none) |>.mono (by omega))
      · refine ⟨_, rfl, _, rfl, _, rfl, z, rfl, sz _ (by omega), _, rfl, _, rfl, _, _, rfl, rfl, _, rfl, z, rfl, sz _ (by omega), _, _, rfl, rfl, sz _ (by omega), ?_⟩
        show D.rt _ H
        rw [hD]
        exact k _ H (Same.refl _) ((hz.sl none (some i)).app (hz.sl (some (i + 1)) none) |>.mono (by omega))
    have oA : Ascii (" -0123456789[]()." : Str) := Sx.ascii_of (by decide +kernel)
    have o1 : 0 < (" -0123456789[]()." : Str).length := by decide +kernel
    have o2 : (" -0123456789[]()." : Str).length ≤ 2000 := by decide +kernel
    obtain ⟨x, q1, q2, q3, q4⟩ := Sx.item_any (c / 1009) o1 o2
    refine ⟨_, rfl, _, _, rfl, rfl, ⟨by decide, by decide⟩, _, rfl, z, rfl, sz _ (by omega), _, _, rfl, rfl, _, _, rfl, rfl, (show (0 : Int) < ((z.length : Nat) : Int) + 1 by omega), ?_⟩
    refine ⟨_, rfl, _, rfl, _, _, rfl, rfl, ⟨by decide, by decide⟩, _, rfl, _, rfl, sz _ (by decide +kernel), _, _, rfl, rfl, (show (0 : Int) < (((" -0123456789[]()." : Str).length : Nat) : Int) by decide +kernel), _, _, x, rfl, rfl, q1, q2, q3, q4, ?_⟩
    refine ⟨_, rfl, _, _, rfl, rfl, ⟨by decide, by decide⟩, _, _, rfl, rfl, (show (0 : Int) < 2 by decide), rfl, _, rfl, ite2 (fun _ => ?_) fun _ => ?_⟩
    · exact ⟨_, rfl, _, _, rfl, rfl, ⟨by decide, by decide⟩, _, rfl, fun g hg => ⟨_, _, g, rfl, rfl, hg, rfl⟩⟩
    · exact ⟨_, _, _, rfl, rfl, Sx.Low.one oA q4, rfl⟩
end
section
variable {P : Program} {w : World} {K : PySem.W.Frag} {mg : Str → Option Value} {base : Heap}
theorem ok_law_part_spoiled {f : Addr} {fd : FuncData} (B : Bl mg) (F : Fn K mg "_law_part_spoiled" s_law_part_spoiled ["text", "cell"] f fd) : FnOk P w K mg base CX0 1 f fd ["text", "cell"] Sx.spSpoiled := by
  refine F.fn.ok sc_law_part_spoiled (fun vs H Q E h => ?_) (fun cdv A outer s H vs Q E hr h => ?_)
  · obtain ⟨z, c, b, rfl, _⟩ := h
    rfl
  · obtain ⟨z, c, b, rfl, hz, hb, k⟩ := h
    have sz : ∀ n : Nat, n ≤ 20000 → n ≤ sizeLine := fun n h => Nat.le_trans h (by decide)
    have zl := hz.2
    have l1 := Sx.split_len hz.1
    have l2 := Sx.parts_len z
    refine ⟨_, pss_cons (ps_set (i := 2) sc_law_part_spoiled.nd rfl (Or.inl rfl) (pe_bm PySem.F.plainAttrs_str PySem.F.slot_str_split PySem.F.type_str_split mt_split (pv 0) (pa_cons pe_str pa_nil)))
      (pss_cons (ps_set (i := 3) sc_law_part_spoiled.nd rfl (Or.inl rfl) (pe_op op_mod (pe_op op_fdiv (pv 1) pe_int) (pe_callB call_len_seq rfl B.len bb_len (pa_cons (pv 2) pa_nil))))
      (pss_cons (ps_set (i := 4) sc_law_part_spoiled.nd rfl (Or.inl rfl) (pe_op op_mod (pe_op op_fdiv (pv 1) pe_int) (pe_callB call_len_seq rfl B.len bb_len (pa_cons (pv 2) pa_nil))))
      (pss_cons (ps_set (i := 5) sc_law_part_spoiled.nd rfl (Or.inl rfl) (pe_ix ix_list (pv 2) (pv 3) (fun _ _ => rfl)))
      (pss_cons (ps_if (pt_cmpR op_ne (pe_op op_mod (pv 1) pe_int) pe_int (nomark _)) (pss_one (ps_expr (pe_bm PySem.F.plainAttrs_list PySem.F.slot_list_pop PySem.F.type_list_pop mt_popAt (pv 2) (pa_cons (pv 3) pa_nil)))) pss_nil)
      (ps_sem (R := fun D σ H2 => ∃ (l : Addr) (v3 : Option V) (o : Nat) (y : Str) (ts : List Str), σ = [some (.str z), some (.int c), some (.ref l), v3, some (.int (o : Nat)), some (.str y)] ∧ H l = none ∧ Same H H2 ∧ H2 l = some (.lst (ts.map V.str)) ∧ (∀ t ∈ ts, ∀ c ∈ Sx.tl t, c < 128) ∧ (∀ c ∈ Sx.tl y, c < 128) ∧ y.length ≤ b ∧ Sx.wsum (ts.map Sx.tl) ≤ b + 1 ∧ o ≤ ts.length ∧ ts.length ≤ 995 ∧ (∀ t ∈ ts, t.length ≤ 1000) ∧ D.rt = Q) fun D σ H2 hR => ?rest))))), ?_⟩
    case rest =>
      obtain ⟨l, v3, o, y, ts, rfl, fl, s1, hl, h1, h2, hy, hw, ho, h9, ht, hD⟩ := hR
      refine ⟨_, pss_cons (ps_if (pt_cmpR op_ne (pe_op op_mod (pv 1) pe_int) pe_int (nomark _)) (pss_one (ps_expr (pe_bm PySem.F.plainAttrs_list PySem.F.slot_list_insert PySem.F.type_list_insert mt_insert (pv 2) (pa_cons (pv 4) (pa_cons (pv 5) pa_nil))))) pss_nil)
        (pss_one (ps_ret (pe_bm PySem.F.plainAttrs_str PySem.F.slot_str_join PySem.F.type_str_join mt_join pe_str (pa_cons (pv 2) pa_nil)))), ?_⟩
      refine ⟨_, rfl, _, _, rfl, rfl, (show (0 : Int) < 3 by decide), rfl, _, rfl, ite2 (fun _ => ?_) fun _ => ?_⟩
      · refine ⟨_, rfl, .inl ⟨rfl, _, SqL.of hl⟩, _, rfl, _, rfl, l, _, _, o, _, rfl, rfl, hl, rfl, by rw [List.length_map]; exact ho, by rw [List.length_map]; exact Nat.lt_of_le_of_lt h9 (by decide), ?_⟩
        have e : ((ts.map V.str).take o ++ V.str y :: (ts.map V.str).drop o) = (ts.take o ++ y :: ts.drop o).map V.str := by rw [List.map_append, List.map_cons, List.map_take, List.map_drop]
        rw [e]
        have m1 : ∀ t ∈ ts.take o ++ y :: ts.drop o, t = y ∨ t ∈ ts := fun t h => by
          rcases List.mem_append.mp h with h | h
          · exact .inr (List.mem_of_mem_take h)
          · rcases List.mem_cons.mp h with h | h
            · exact .inl h
            · exact .inr (List.mem_of_mem_drop h)
        refine ⟨rfl, _, rfl, _, l, _, rfl, rfl, upd_same, ?_, ?_⟩
        · rw [Sx.blank]
          refine Sx.join_ok (by rw [List.length_append, List.length_cons, List.length_take, List.length_drop]; omega) fun t h => ?_
          rcases m1 t h with e | e
          · rw [e]; omega
          · exact ht t e
        · show D.rt _ _
          rw [hD, Sx.blank]
          refine k _ _ (s1.upd fl) (Sx.low_join (fun t h => ?_) ?_)
          · rcases m1 t h with e | e
            · rw [e]; exact h2
            · exact h1 t e
          · rw [List.map_append, List.map_cons, List.map_take, List.map_drop, Sx.wsum_ins, ← Sx.len_tl]
            omega
      · refine ⟨rfl, _, rfl, _, l, _, rfl, rfl, hl, ?_, ?_⟩
        · rw [Sx.blank]
          exact Sx.join_ok (by omega) ht
        · show D.rt _ _
          rw [hD, Sx.blank]
          exact k _ _ s1 (Sx.low_join h1 (by omega))
    refine ⟨_, rfl, rfl, z, _, rfl, rfl, by rw [Sx.blank]; rfl, sz _ (by omega), sz _ (by rw [Sx.blank]; omega), sz _ (by rw [Sx.blank]; omega), fun l hl => ?_⟩
    have sp : (Txt.split z (" " : Str)).map Sx.tl = Sx.splitL 32 (Sx.tl z) := by rw [Sx.blank, Sx.split_tl hz.1 (by decide)]
    have wl : (Txt.split z (" " : Str)).length ≤ 992 := by rw [Sx.blank]; exact Nat.le_trans l1 (by omega)
    generalize Txt.split z (" " : Str) = ws at *
    have wpos : 0 < ws.length := by
      refine Nat.pos_of_ne_zero fun e => Sx.splitL_ne 32 (Sx.tl z) ?_
      rw [← sp, List.length_eq_zero_iff.mp e]
      rfl
    have hM : ∀ d : Int, ∃ n : Nat, d % (((ws.map V.str).length : Nat) : Int) = (n : Int) ∧ n < ws.length := fun d => by
      rw [List.length_map]
      have h1 := Int.emod_nonneg d (b := ((ws.length : Nat) : Int)) (by omega)
      have h2 := Int.emod_lt_of_pos d (b := ((ws.length : Nat) : Int)) (by omega)
      exact ⟨(d % ((ws.length : Nat) : Int)).toNat, by omega, by omega⟩
    obtain ⟨a, ha, al⟩ := hM (c / 3)
    obtain ⟨o, ho, ol⟩ := hM (c / 1009)
    have lpos : (0 : Int) < (((ws.map V.str).length : Nat) : Int) := by rw [List.length_map]; omega
    have gy : ws[a]? = some ws[a] := List.getElem?_eq_getElem al
    have gv : (ws.map V.str)[a]? = some (V.str ws[a]) := by rw [List.getElem?_map, gy]; rfl
    have mem : ∀ t ∈ ws, (∀ c ∈ Sx.tl t, c < 128) ∧ t.length ≤ b := fun t ht => by
      have h : Sx.tl t ∈ Sx.splitL 32 (Sx.tl z) := by rw [← sp]; exact List.mem_map.mpr ⟨t, ht, rfl⟩
      obtain ⟨h1, h2⟩ := Sx.splS h
      refine ⟨fun c hc => Sx.ascM hz.1 c (h1 c hc), ?_⟩
      rw [Sx.len_tl t]
      have := Sx.len_tl z
      omega
    have ws1 : Sx.wsum (ws.map Sx.tl) ≤ b + 1 := by rw [sp, Sx.split_wsum, ← Sx.len_tl]; omega
    have hl1 : upd H l (.lst (ws.map V.str)) l = some (.lst (ws.map V.str)) := upd_same
    have s1 := same_upd (o := .lst (ws.map V.str)) hl
    generalize upd H l (.lst (ws.map V.str)) = H1 at hl1 s1 ⊢
    refine ⟨_, rfl, _, _, rfl, rfl, ⟨by decide, by decide⟩, _, rfl, l, _, rfl, .inl (SqL.of hl1), _, _, rfl, rfl, lpos, ?_⟩
    refine ⟨_, rfl, _, _, rfl, rfl, ⟨by decide, by decide⟩, _, rfl, l, _, rfl, .inl (SqL.of hl1), _, _, rfl, rfl, lpos, ?_⟩
    show tSeq _ _ _ [some (V.str z), some (V.int c), some (V.ref l), some (V.int (c / 3 % (((ws.map V.str).length : Nat) : Int))), some (V.int (c / 1009 % (((ws.map V.str).length : Nat) : Int))), none] H1
    rw [ha, ho]
    refine ⟨_, rfl, _, rfl, l, _, _, .str ws[a], rfl, rfl, SqL.of hl1, atI_nat gv, ?_⟩
    refine ⟨_, rfl, _, _, rfl, rfl, (show (0 : Int) < 3 by decide), rfl, _, rfl, ite2 (fun _ => ?_) fun _ => ?_⟩
    · have b63 : (1000 : Int) < 2 ^ 63 := by decide +kernel
      have n63 : -(2 : Int) ^ 63 ≤ 0 := by decide +kernel
      refine ⟨_, rfl, .inl ⟨rfl, _, SqL.of hl1⟩, _, rfl, l, _, _, a, _, rfl, rfl, hl1, by omega, by omega, ?_, gv, ?_⟩
      · exact PySem.StrLaws.seqIndex_nonneg (Int.natCast_nonneg _) (by rw [List.length_map]; omega)
      · refine ⟨l, _, o, ws[a], ws.eraseIdx a, rfl, hl, s1.upd hl, ?_, fun t ht => (mem t (List.mem_of_mem_eraseIdx ht)).1, (mem _ (List.getElem_mem al)).1, (mem _ (List.getElem_mem al)).2, ?_, ?_, ?_, fun t ht => by have := (mem t (List.mem_of_mem_eraseIdx ht)).2; omega, rfl⟩
        · rw [upd_same, Sx.map_erase]
        · rw [← Sx.map_erase]
          exact Nat.le_trans (Sx.wsum_erase _ _) ws1
        · rw [List.length_eraseIdx_of_lt al]; omega
        · rw [List.length_eraseIdx_of_lt al]; omega
    · exact ⟨l, _, o, ws[a], ws, rfl, hl, s1, hl1, fun t ht => (mem t ht).1, (mem _ (List.getElem_mem al)).1, (mem _ (List.getElem_mem al)).2, ws1, by omega, by omega, fun t ht => by have := (mem t ht).2; omega, rfl⟩
end
section
seal L2.PSs L2.PS L2.PE L2.PT L2.PA
variable {P : Program} {w : World} {K : PySem.W.Frag} {mg : Str → Option Value} {base : Heap}
theorem ok_law_number_spoiled {f : Addr} {fd : FuncData} (B : Bl mg) (F : Fn K mg "_law_number_spoiled" s_law_number_spoiled ["text", "cell"] f fd) : FnOk P w K mg base CX0 1 f fd ["text", "cell"] Sx.spSpoiled := by
  refine F.fn.ok sc_law_number_spoiled (fun vs H Q E h => ?_) (fun cdv A outer s H vs Q E hr h => ?_)
  · obtain ⟨z, c, b, rfl, _⟩ := h
    rfl
  · obtain ⟨z, c, b, rfl, hz, hb, k⟩ := h
    have sz : ∀ n : Nat, n ≤ 20000 → n ≤ sizeLine := fun n h => Nat.le_trans h (by decide)
    have zl := hz.2
    refine ⟨_, pss_cons (ps_set (i := 2) sc_law_number_spoiled.nd rfl (Or.inl rfl) (pe_lst (pa_strD (.cons (.cons (.cons (.cons (.cons (.cons (.cons (.cons (.cons (.cons (.cons (.cons (.cons (.cons (.cons (.cons .nil)))))))))))))))))))
      (ps_sem (R := fun D σ H2 => ∃ (lo : Addr) (od : List Str), σ = [some (.str z), some (.int c), some (.ref lo), none, none] ∧ H2 lo = some (.lst (od.map V.str)) ∧ Same H H2 ∧ od.length = 16 ∧ (∀ t ∈ od, Sx.Low 3 t) ∧ D.rt = Q) fun D σ H2 hR => ?rest), ?_⟩
    case rest =>
      obtain ⟨lo, od, rfl, hlo, s1, ol, hod, hD⟩ := hR
      have b63 : (2000 : Int) < 2 ^ 63 := by decide +kernel
      have ch : ∀ a : Nat, a < z.length → ∃ x, z.cps[((a : Nat) : Int).toNat]? = some x := fun a h => ⟨_, Array.getElem?_eq_getElem (show a < z.cps.size from h)⟩
      refine ⟨_, pss_cons (ps_set (i := 3) sc_law_number_spoiled.nd rfl (Or.inl rfl) (pe_op op_mod (pe_op op_fdiv (pv 1) pe_int) (pe_op op_add (pe_callB call_len_str rfl B.len bb_len (pa_cons (pv 0) pa_nil)) pe_int)))
        (pss_cons (ps_while PassesOwn.never (PW.pt (pw_and (pt_cmpR op_lt (pv 3) (pe_callB call_len_str rfl B.len bb_len (pa_cons (pv 0) pa_nil)) (nomark _)) (pw_and1 (pt_cmpR op_notin_str (pe_item_str (pv 0) (pv 3) (fun _ _ => rfl)) pe_str (by with_unfolding_all rfl))))) (pss_one (ps_set (i := 3) sc_law_number_spoiled.nd rfl (Or.inl rfl) (pe_op op_add (pv 3) pe_int))))
        (ps_sem (R := fun D2 σ H4 => ∃ a : Nat, σ = [some (V.str z), some (V.int c), some (V.ref lo), some (V.int (a : Int)), none] ∧ H2 = H4 ∧ a ≤ z.length ∧ D2.rt = Q) fun D2 σ H4 hR => ?sec)), ?_⟩
      case sec =>
        obtain ⟨a, rfl, rfl, la, hD2⟩ := hR
        refine ⟨_, pss_cons (ps_set (i := 4) sc_law_number_spoiled.nd rfl (Or.inl rfl) (pv 3))
          (pss_cons (ps_while PassesOwn.never (PW.pt (pw_and (pt_cmpR op_lt (pv 4) (pe_callB call_len_str rfl B.len bb_len (pa_cons (pv 0) pa_nil)) (nomark _)) (pw_and1 (pt_cmpR op_in_str (pe_item_str (pv 0) (pv 4) (fun _ _ => rfl)) pe_str (by with_unfolding_all rfl))))) (pss_one (ps_set (i := 4) sc_law_number_spoiled.nd rfl (Or.inl rfl) (pe_op op_add (pv 4) pe_int))))
          (ps_sem (R := fun D3 σ H4 => ∃ e : Nat, σ = [some (V.str z), some (V.int c), some (V.ref lo), some (V.int (a : Int)), some (V.int (e : Int))] ∧ H2 = H4 ∧ e ≤ z.length ∧ D3.rt = Q) fun D3 σ H4 hR => ?thr)), ?_⟩
        case thr =>
          obtain ⟨e, rfl, rfl, le, hD3⟩ := hR
          refine ⟨_, pss_one (ps_ret (pe_op op_add_str (pe_op op_add_str (pe_slice sl_str (pv 0) po_none (po_some (pv 3))) (pe_ix ix_list (pv 2) (pe_op op_mod (pv 1) (pe_callB call_len_seq rfl B.len bb_len (pa_cons (pv 2) pa_nil))) (fun _ _ => rfl))) (pe_slice sl_str (pv 0) (po_some (pv 4)) po_none))), ?_⟩
          have l16 : (((od.map V.str).length : Nat) : Int) = 16 := by rw [List.length_map, ol]; rfl
          have h1 := Int.emod_nonneg c (b := 16) (by decide)
          have h2 := Int.emod_lt_of_pos c (b := 16) (by decide)
          have hi : (c % 16).toNat < od.length := by omega
          have g := hod _ (List.getElem_mem hi)
          have q1 := (Sx.slice_any z none (some (a : Int))).2
          have q2 := (Sx.slice_any z (some (e : Int)) none).2
          have q3 := g.2
          refine ⟨_, rfl, _, rfl, _, rfl, z, rfl, sz _ (by omega), _, rfl, _, rfl, _, rfl, lo, _, rfl, .inl (SqL.of hlo), _, _, rfl, rfl, (show (0 : Int) < (((od.map V.str).length : Nat) : Int) by rw [l16]; decide), lo, _, _, .str od[(c % 16).toNat], rfl, rfl, SqL.of hlo, ?_, ?_⟩
          · rw [l16]
            refine atI_of h1 ?_
            rw [List.getElem?_map, List.getElem?_eq_getElem hi]
            rfl
          refine ⟨_, _, rfl, rfl, sz _ (by omega), _, rfl, _, rfl, _, rfl, z, rfl, sz _ (by omega), _, _, rfl, rfl, sz _ (by rw [strLen_append]; omega), ?_⟩
          show D3.rt _ H2
          rw [hD3]
          exact k _ H2 s1 (((hz.sl none (some (a : Int))).app g).app (hz.sl (some (e : Int)) none) |>.mono (by omega))
        refine ⟨_, rfl, fun m σ H3 => ∃ e : Nat, σ = [some (V.str z), some (V.int c), some (V.ref lo), some (V.int (a : Int)), some (V.int (e : Int))] ∧ H3 = H2 ∧ e ≤ z.length ∧ m = z.length - e, ⟨_, a, rfl, rfl, la, rfl⟩, ?_⟩
        rintro m σ H3 ⟨e, rfl, rfl, le, rfl⟩
        refine ⟨_, rfl, _, rfl, z, rfl, sz _ (by omega), _, _, rfl, rfl, _, rfl, ?_⟩
        by_cases c1 : e < z.length
        · obtain ⟨x, hx⟩ := ch e c1
          refine iteE (by omega) ⟨_, rfl, _, rfl, z, _, x, rfl, rfl, Int.natCast_nonneg _, by omega, by omega, hx, _, _, rfl, rfl, _, rfl, ite2 (fun _ => ?_) fun _ => ?_⟩
          · refine ⟨fun σ' H' => ∃ a' : Nat, σ' = [some (V.str z), some (V.int c), some (V.ref lo), some (V.int (a : Int)), some (V.int (a' : Int))] ∧ H' = H3 ∧ a' ≤ z.length ∧ z.length - a' < z.length - e, fun σ' H' ⟨a', e1, e2, e3, e4⟩ => ⟨_, e4, a', e1, e2, e3, rfl⟩, ?_⟩
            refine ⟨_, rfl, _, _, rfl, rfl, e + 1, ?_, rfl, by omega, by omega⟩
            show [some (V.str z), some (V.int c), some (V.ref lo), some (V.int (a : Int)), some (V.int ((e : Int) + 1))] = _
            rw [show (e : Int) + 1 = ((e + 1 : Nat) : Int) by omega]
          · exact ⟨e, rfl, rfl, le, hD2⟩
        · exact iteD (by omega) ⟨e, rfl, rfl, le, hD2⟩
      refine ⟨_, rfl, _, _, rfl, rfl, ⟨by decide, by decide⟩, _, rfl, z, rfl, sz _ (by omega), _, _, rfl, rfl, _, _, rfl, rfl, (show (0 : Int) < ((z.length : Nat) : Int) + 1 by omega), ?_⟩
      obtain ⟨a0, ha0, la0⟩ : ∃ a : Nat, c / 16 % (((z.length : Nat) : Int) + 1) = (a : Int) ∧ a ≤ z.length := by
        have h1 := Int.emod_nonneg (c / 16) (b := ((z.length : Nat) : Int) + 1) (by omega)
        have h2 := Int.emod_lt_of_pos (c / 16) (b := ((z.length : Nat) : Int) + 1) (by omega)
        exact ⟨(c / 16 % (((z.length : Nat) : Int) + 1)).toNat, by omega, by omega⟩
      show tSeq _ _ _ [some (V.str z), some (V.int c), some (V.ref lo), some (V.int (c / 16 % (((z.length : Nat) : Int) + 1))), none] H2
      rw [ha0]
      refine ⟨fun m σ H3 => ∃ a : Nat, σ = [some (V.str z), some (V.int c), some (V.ref lo), some (V.int (a : Int)), none] ∧ H3 = H2 ∧ a ≤ z.length ∧ m = z.length - a, ⟨_, a0, rfl, rfl, la0, rfl⟩, ?_⟩
      rintro m σ H3 ⟨a, rfl, rfl, la, rfl⟩
      refine ⟨_, rfl, _, rfl, z, rfl, sz _ (by omega), _, _, rfl, rfl, _, rfl, ?_⟩
      by_cases c1 : a < z.length
      · obtain ⟨x, hx⟩ := ch a c1
        refine iteE (by omega) ⟨_, rfl, _, rfl, z, _, x, rfl, rfl, Int.natCast_nonneg _, by omega, by omega, hx, _, _, rfl, rfl, _, rfl, ite2 (fun _ => ?_) fun _ => ?_⟩
        · refine ⟨fun σ' H' => ∃ a' : Nat, σ' = [some (V.str z), some (V.int c), some (V.ref lo), some (V.int (a' : Int)), none] ∧ H' = H3 ∧ a' ≤ z.length ∧ z.length - a' < z.length - a, fun σ' H' ⟨a', e1, e2, e3, e4⟩ => ⟨_, e4, a', e1, e2, e3, rfl⟩, ?_⟩
          refine ⟨_, rfl, _, _, rfl, rfl, a + 1, ?_, rfl, by omega, by omega⟩
          show [some (V.str z), some (V.int c), some (V.ref lo), some (V.int ((a : Int) + 1)), none] = _
          rw [show (a : Int) + 1 = ((a + 1 : Nat) : Int) by omega]
        · exact ⟨a, rfl, rfl, la, hD⟩
      · exact iteD (by omega) ⟨a, rfl, rfl, la, hD⟩
    refine ⟨?_, fun lo hlo => ⟨lo, _, rfl, upd_same, same_upd hlo, rfl, ?_, rfl⟩⟩
    · show 16 ≤ sizeLine
      decide
    · intro t ht
      simp only [List.mem_cons, List.mem_nil_iff, or_false] at ht
      rcases ht with rfl | rfl | rfl | rfl | rfl | rfl | rfl | rfl | rfl | rfl | rfl | rfl | rfl | rfl | rfl | rfl <;> exact ⟨Sx.ascii_of (by decide +kernel), by decide +kernel⟩
end
section
variable {P : Program} {w : World} {K : PySem.W.Frag} {mg : Str → Option Value} {base : Heap}
theorem ok_law_stave {f : Addr} {fd : FuncData} (B : Bl mg) (F : Fn K mg "_law_stave" s_law_stave ["text"] f fd) : FnOk P w K mg base CX0 1 f fd ["text"] Sx.spLStave := by
  refine F.fn.ok sc_law_stave (fun vs H Q E h => ?_) (fun cdv A outer s H vs Q E hr h => ?_)
  · obtain ⟨z, rfl, _⟩ := h
    rfl
  · obtain ⟨z, rfl, hA, hl, kg, kb⟩ := h
    have sz : ∀ n : Nat, n ≤ 20000 → n ≤ sizeLine := fun n h => Nat.le_trans h (by decide)
    have minus : Sx.tl ("-" : Str) = [45] := by decide +kernel
    have zero : Sx.tl ("0" : Str) = [48] := by decide +kernel
    refine ⟨_, pss_cons (ps_set (i := 1) sc_law_stave.nd rfl (Or.inl rfl) (pv 0))
      (pss_cons (ps_if (pt_cmpR op_eq (pe_slice sl_str (pv 0) po_none (po_some pe_int)) pe_str (nomark _)) (pss_one (ps_set (i := 1) sc_law_stave.nd rfl (Or.inl rfl) (pe_slice sl_str (pv 0) (po_some pe_int) po_none))) pss_nil)
      (ps_sem (R := fun D σ H2 => ∃ y : Str, σ = [some (.str z), some (.str y), none] ∧ H2 = H ∧ ((Sx.tl z).head? = some 45 ∧ Sx.tl y = (Sx.tl z).tail ∨ (Sx.tl z).head? ≠ some 45 ∧ y = z) ∧ D.rt = Q) fun D σ H2 hR => ?rest)), ?_⟩
    case rest =>
      obtain ⟨y, rfl, rfl, hy, hD⟩ := hR
      refine ⟨_, (pss_cons (ps_if (PW.pt (pw_or (pt_cmpR (op_notIn_sK (K := K) rfl) (pe_callB call_len_str rfl B.len bb_len (pa_cons (pv 1) pa_nil)) (pe_lst (pa_cons pe_int (pa_cons pe_int pa_nil))) (by with_unfolding_all rfl)) (pw_or1 (PW.pt (pw_and (pt_cmpR op_eq (pe_callB call_len_str rfl B.len bb_len (pa_cons (pv 1) pa_nil)) pe_int (nomark _)) (pw_and1 (pt_cmpR op_eq (pe_item_str (pv 1) pe_int (fun _ _ => rfl)) pe_str (nomark _)))))))) (pss_one (ps_ret pe_non)) pss_nil)
        (pss_cons (ps_for PassesOwn.never rfl (pi_str (pv 1)) (pg_name (i := 2) sc_law_stave.nd rfl (Or.inl rfl)) (pss_one (ps_if (pt_cmpR op_notin_str (pv 2) pe_str (by with_unfolding_all rfl)) (pss_one (ps_ret pe_non)) pss_nil)))
        (pss_one (ps_ret (pe_op op_sub (pe_op op_add (pe_op op_mul pe_int (pe_callTy call_int_text rfl B.int bb_int (pa_cons (pv 1) pa_nil))) (pe_callB call_len_str rfl B.len bb_len (pa_cons (pv 0) pa_nil))) (pe_callB call_len_str rfl B.len bb_len (pa_cons (pv 1) pa_nil))))))), ?_⟩
      have yl : y.length ≤ z.length ∧ (∀ c ∈ Sx.tl y, c ∈ Sx.tl z) := by
        rcases hy with ⟨_, e⟩ | ⟨_, e⟩
        · exact ⟨by rw [Sx.len_tl, Sx.len_tl z, e, List.length_tail]; omega, fun c hc => List.mem_of_mem_tail (e ▸ hc)⟩
        · rw [e]; exact ⟨Nat.le_refl _, fun c hc => hc⟩
      have yA : Ascii y := Sx.ascii_of fun c hc => Sx.ascM hA c (yl.2 c hc)
      have main : Sx.rdS 100 (Sx.tl z) = (Sx.rdM 100 (Sx.tl y)).map fun m => 2 * m + (z.length - y.length) := by
        unfold Sx.rdS
        rcases hy with ⟨e1, e2⟩ | ⟨e1, e2⟩
        · rw [if_pos e1, ← e2]
          have h1 : z.length - y.length = 1 := by
            have a := Sx.len_tl y
            have b := Sx.len_tl z
            rw [e2, List.length_tail] at a
            have c : 0 < (Sx.tl z).length := by cases q : Sx.tl z with
              | nil => rw [q] at e1; cases e1
              | cons a r => simp
            omega
          rw [h1]
        · rw [if_neg e1, e2]
          simp
      have bad : ∀ H', Sx.rdM 100 (Sx.tl y) = none → Same H2 H' → D.rt .non H' := fun H' h1 h2 => by rw [hD]; exact kb (by rw [main, h1]; rfl) H' h2
      refine ⟨_, rfl, y, rfl, sz _ (by omega), by decide, fun l hl1 => ⟨l, _, rfl, .inl (SqL.of upd_same), rfl, rfl, _, rfl, ?_⟩⟩
      have s1 := same_upd (o := .lst [.int 1, .int 2]) hl1
      by_cases c1 : y.length = 1 ∨ y.length = 2
      rotate_left
      · refine iteBT (by show (!inV (V.int ((y.length : Nat) : Int)) [.int 1, .int 2]) = true; rw [Sx.inV2 (fun e => c1 (.inl e)) fun e => c1 (.inr e)]; rfl) (bad _ ?_ s1)
        cases q : Sx.rdM 100 (Sx.tl y) with
        | none => rfl
        | some m =>
          obtain ⟨q1, q2⟩ := Sx.rdM_of q
          obtain ⟨_, z1, z2, _⟩ := Sx.dg100 m q1
          rw [q2] at z1 z2
          have z3 := Sx.len_tl y
          have z4 : 0 < (Sx.tl y).length := List.length_pos_iff.mpr z1
          exact absurd (show y.length = 1 ∨ y.length = 2 by omega) c1
      refine iteBF (by show (!inV (V.int ((y.length : Nat) : Int)) [.int 1, .int 2]) = false; rcases c1 with e | e <;> rw [e] <;> decide) ?_
      have ne : Sx.tl y ≠ [] := fun e => by have z3 := Sx.len_tl y; rw [e] at z3; rcases c1 with e | e <;> rw [e] at z3 <;> cases z3
      have h1 : (Sx.tl y)[0]? = some ((Sx.tl y).headD 0) := by
        cases h : Sx.tl y with
        | nil => exact absurd h ne
        | cons a r => rfl
      have h2 : y.cps[(0 : Int).toNat]? = some ((Sx.tl y).headD 0) := by
        rw [← h1]
        exact Array.getElem?_toList.symm
      have loop : ((Sx.tl y).head? = some 48 → Sx.tl y = [48]) → ?LG := ?lp
      refine ⟨_, rfl, y, rfl, sz _ (by omega), rfl, _, rfl, ?_⟩
      by_cases c2 : y.length = 2
      · refine iteE (by rw [c2]; rfl) ⟨_, rfl, _, _, _, rfl, rfl, by decide, by decide, by show (0 : Int) < y.length; omega, h2, rfl, _, rfl, ?_⟩
        by_cases c0 : (Sx.tl y).headD 0 = 48
        · refine iteE (by rw [c0]; exact congrArg V.str (Sx.ext (by rw [zero]; rfl))) (bad _ ?_ s1)
          cases q : Sx.rdM 100 (Sx.tl y) with
          | none => rfl
          | some m =>
            obtain ⟨q1, q2⟩ := Sx.rdM_of q
            obtain ⟨_, _, _, z4⟩ := Sx.dg100 m q1
            rw [q2] at z4
            have z3 := Sx.len_tl y
            rw [z4 (by rw [List.head?_eq_getElem?, h1, c0]), c2] at z3
            cases z3
        · refine iteD (fun e => c0 (by injection e with e; have := congrArg Sx.tl e; rw [zero] at this; exact (List.cons.inj this).1)) ?_
          exact loop fun e => absurd (by rw [List.headD_eq_head?_getD, e]; rfl) c0
      · refine iteD (fun e => c2 (by injection e with e; omega)) ?_
        exact loop fun e => by
          cases q : Sx.tl y with
          | nil => exact absurd q ne
          | cons a r =>
            rw [q] at e
            have z3 := Sx.len_tl y
            rw [q, List.length_cons] at z3
            have : r = [] := List.length_eq_zero_iff.mp (by omega)
            rw [this]
            exact congrArg (fun x => [x]) (Option.some.inj e)
      case lp =>
        intro d4
        refine ⟨_, rfl, y, rfl, yA, for_str (z := y) (fun i σ H3 => ∃ v : Option V, σ = [some (.str z), some (.str y), v] ∧ Same H2 H3 ∧ ∀ c ∈ (Sx.tl y).take i, 48 ≤ c ∧ c ≤ 57) ⟨none, rfl, s1, by simp⟩ ?_ ?_⟩
        · rintro i c σ H3 hc ⟨v, rfl, s3, hd⟩
          have hci : (Sx.tl y)[i]? = some c := by rw [← hc]; exact Array.getElem?_toList
          have fa := Sx.fig_at c (Sx.ascM yA c (List.mem_of_getElem? hci))
          refine ⟨_, rfl, _, _, rfl, rfl, _, rfl, ?_⟩
          by_cases dg : 48 ≤ c ∧ c ≤ 57
          · refine iteBF (by rw [decide_eq_true dg] at fa; exact congrArg (!·) fa) ⟨_, rfl, s3, ?_⟩
            rw [Mir.take_snoc hci]
            intro x hx
            rcases List.mem_append.mp hx with h | h
            · exact hd x h
            · rw [List.mem_singleton.mp h]; exact dg
          · refine iteBT (by rw [decide_eq_false dg] at fa; exact congrArg (!·) fa) (bad _ ?_ s3)
            cases q : Sx.rdM 100 (Sx.tl y) with
            | none => rfl
            | some m =>
              obtain ⟨q1, q2⟩ := Sx.rdM_of q
              refine absurd ((Sx.dg100 m q1).1 c ?_) dg
              rw [q2]
              exact List.mem_of_getElem? hci
        · rintro σ H3 ⟨v, rfl, s3, hd⟩
          rw [List.take_of_length_le (show (Sx.tl y).length ≤ y.length from Nat.le_refl _)] at hd
          obtain ⟨m, hm, hz⟩ := Sx.num_of ne hd d4 (show y.length ≤ 2 by omega)
          have nr : PySem.intText? y = some (m : Int) := by rw [Sx.is_num hz]; exact PySem.W.KIN.num_reads (by omega) (by omega)
          have e1 : Sx.rdM 100 (Sx.tl y) = some m := by rw [hz]; exact Sx.rdM_100 m hm
          have e2 : (2 : Int) * (m : Int) + ((z.length : Nat) : Int) - ((y.length : Nat) : Int) = ((2 * m + (z.length - y.length) : Nat) : Int) := by have := yl.1; omega
          refine ⟨_, rfl, y, m, rfl, nr, by omega, ?_⟩
          refine ⟨_, _, rfl, rfl, .inl ⟨by decide, by decide⟩, _, rfl, z, rfl, sz _ (by omega), _, _, rfl, rfl, _, rfl, y, rfl, sz _ (by omega), _, _, rfl, rfl, ?_⟩
          show D.rt (V.int ((2 : Int) * (m : Int) + ((z.length : Nat) : Int) - ((y.length : Nat) : Int))) H3
          rw [e2, hD]
          exact kg _ (by rw [main, e1]; rfl) H3 s3
    refine ⟨_, rfl, _, rfl, _, rfl, z, rfl, sz _ (by omega), rfl, _, rfl, ?_⟩
    by_cases c : (Sx.tl z).head? = some 45
    · have hl1 : 1 ≤ z.length := by
        cases h : Sx.tl z with
        | nil => rw [h] at c; cases c
        | cons a r => rw [Sx.len_tl, h]; simp
      refine iteE (congrArg V.str (Sx.ext ?_)) ⟨_, rfl, _, rfl, z, rfl, sz _ (by omega), _, rfl, rfl, .inl ⟨c, by rw [Sx.slice_from1 hl1, List.drop_one]⟩, rfl⟩
      rw [minus, Sx.slice_to1 hl1]
      cases h : Sx.tl z with
      | nil => rw [h] at c; cases c
      | cons a r => rw [h] at c; rw [Option.some.inj c]; rfl
    · refine iteD (fun e => c ?_) ⟨_, rfl, rfl, .inr ⟨c, rfl⟩, rfl⟩
      injection e with e
      have e := congrArg Sx.tl e
      rw [minus] at e
      by_cases hl1 : 1 ≤ z.length
      · rw [Sx.slice_to1 hl1] at e
        cases h : Sx.tl z with
        | nil => rw [h] at e; cases e
        | cons a r => rw [h] at e; rw [List.head?_cons]; exact congrArg some (List.cons.inj e).1
      · have e0 : Sx.tl z = [] := List.length_eq_zero_iff.mp (by have := Sx.len_tl z; omega)
        rw [Sx.slice_none e0] at e
        cases e
end
section
variable {P : Program} {w : World} {K : PySem.W.Frag} {mg : Str → Option Value} {base : Heap}
theorem ok_law_read_chains {f fS : Addr} {fd fdS : FuncData} (B : Bl mg) (F : Fn K mg "_law_read_chains" s_law_read_chains ["text"] f fd) (F_law_stave : Fn K mg "_law_stave" s_law_stave ["text"] fS fdS) : FnOk P w K mg base CX0 2 f fd ["text"] Sx.spLChains := by
  have G_law_stave : FnOk P w K mg base CX0 1 fS fdS ["text"] Sx.spLStave := ok_law_stave B F_law_stave
  refine F.fn.ok sc_law_read_chains (fun vs H Q E h => ?_) (fun cdv A outer s H vs Q E hr h => ?_)
  · obtain ⟨z, rfl, _⟩ := h
    rfl
  · obtain ⟨z, rfl, hA, hl, kg, kb⟩ := h
    have sz : ∀ n : Nat, n ≤ 20000 → n ≤ sizeLine := fun n h => Nat.le_trans h (by decide)
    have big : ∀ x : Nat, x ≤ 10000 → x < sizeLine := fun x hx => Nat.lt_of_le_of_lt hx (by decide)
    refine ⟨_, pss_cons (ps_set (i := 1) sc_law_read_chains.nd rfl (Or.inl rfl) (pe_lst pa_nil))
      (pss_cons (ps_set (i := 2) sc_law_read_chains.nd rfl (Or.inl rfl) pe_non)
      (pss_cons (ps_for PassesOwn.never rfl (pi_list (pe_bm PySem.F.plainAttrs_str PySem.F.slot_str_split PySem.F.type_str_split mt_split (pv 0) (pa_cons pe_str pa_nil))) (pg_name (i := 3) sc_law_read_chains.nd rfl (Or.inl rfl))
        (pss_cons (ps_if (pt_cmpR op_isN (pv 2) pe_non (nomark _)) (pss_cons (ps_if (pt_cmpR (op_notIn_sK (K := K) rfl) (pe_slice sl_str (pv 3) po_none (po_some pe_int)) (pe_lst (pa_cons pe_str (pa_cons pe_str pa_nil))) (by with_unfolding_all rfl)) (pss_one (ps_ret pe_non)) pss_nil)
          (pss_cons (ps_set (i := 2) sc_law_read_chains.nd rfl (Or.inl rfl) (pe_lst (pa_cons (pe_item_str (pv 3) pe_int (fun _ _ => rfl)) pa_nil)))
          (pss_one (ps_set (i := 3) sc_law_read_chains.nd rfl (Or.inl rfl) (pe_slice sl_str (pv 3) (po_some pe_int) po_none))))) pss_nil)
        (ps_sem (R := fun D σ H2 => ∃ (p q : Addr) (wv : List V) (i : Nat), Sx.LMid z (Sx.splitL 32 (Sx.tl z)) H p q wv i σ H2 ∧ i ≤ 3000 ∧ q ≠ p ∧ H p = none ∧ D.rt = Q ∧ D.nx = Sx.LInv z (Sx.splitL 32 (Sx.tl z)) H p q wv (i + 1)) fun D σ H2 hR => ?rest)))
      (pss_cons (ps_if (pt_cmpR op_notN (pv 2) pe_non (nomark _)) (pss_one (ps_ret pe_non)) pss_nil)
      (pss_one (ps_ret (pv 1)))))), ?_⟩
    case rest =>
      obtain ⟨p, q, wv, i, ⟨y, k, l, lc, v4, v5, ts, A, rfl, hrd, yA, yl, s2, hp, hpt, hal, hAl, hq, fl, nlp, nlq, nlt, hlc, hll⟩, hi, nqp, hp0, hD, hN⟩ := hR
      refine ⟨_, pss_cons (ps_set (i := 4) sc_law_read_chains.nd rfl (Or.inl rfl) (pe_or (pe_and (pe_cmpR op_eq (pe_slice sl_str (pv 3) (po_some (pe_un un_neg pe_int)) po_none) pe_str (nomark _)) (pe_one (pe_cmpR op_eq (pe_ix (ix_listK (K := K) rfl) (pv 2) pe_int (fun _ _ => rfl)) pe_str (nomark _)))) (pe_one (pe_and (pe_cmpR op_eq (pe_slice sl_str (pv 3) (po_some (pe_un un_neg pe_int)) po_none) pe_str (nomark _)) (pe_one (pe_cmpR op_eq (pe_ix (ix_listK (K := K) rfl) (pv 2) pe_int (fun _ _ => rfl)) pe_str (nomark _)))))))
        (ps_sem (R := fun D' σ H3 => σ = [some (.str z), some (.ref p), some (.ref lc), some (.str y), some (.bl (Sx.isCl k (Sx.tl y))), v5] ∧ H2 = H3 ∧ D'.rt = Q ∧ D'.nx = Sx.LInv z (Sx.splitL 32 (Sx.tl z)) H p q wv (i + 1)) fun D' σ H3 hR => ?rest2), ?_⟩
      case rest2 =>
        obtain ⟨rfl, rfl, hD1, hN1⟩ := hR
        refine ⟨_, pss_cons (ps_if (pt_val (pv 4)) (pss_one (ps_set (i := 3) sc_law_read_chains.nd rfl (Or.inl rfl) (pe_slice sl_str (pv 3) po_none (po_some (pe_un un_neg pe_int))))) pss_nil)
          (ps_sem (R := fun D2 σ H3 => ∃ y' : Str, σ = [some (.str z), some (.ref p), some (.ref lc), some (.str y'), some (.bl (Sx.isCl k (Sx.tl y))), v5] ∧ H2 = H3 ∧ Sx.tl y' = (if Sx.isCl k (Sx.tl y) then (Sx.tl y).dropLast else Sx.tl y) ∧ D2.rt = Q ∧ D2.nx = Sx.LInv z (Sx.splitL 32 (Sx.tl z)) H p q wv (i + 1)) fun D2 σ H3 hR => ?rest3), ?_⟩
        case rest3 =>
          obtain ⟨y', rfl, rfl, hy', hD2, hN2⟩ := hR
          have ym : (∀ c ∈ Sx.tl y', c ∈ Sx.tl y) ∧ y'.length ≤ y.length := by
            rw [Sx.len_tl y', Sx.len_tl y, hy']
            split
            · exact ⟨fun c hc => (List.dropLast_sublist _).subset hc, by rw [List.length_dropLast]; omega⟩
            · exact ⟨fun c hc => hc, Nat.le_refl _⟩
          have hgo : Sx.go 100 k (A ++ [(k, l)]) (Sx.tl y) = (Sx.rdS 100 (Sx.tl y')).map fun e => (A ++ [(k, l ++ [e])], if Sx.isCl k (Sx.tl y) then none else some k) := by
            unfold Sx.go
            rw [hy']
            congr 1
            funext e
            rw [Sx.addL_app]
          refine ⟨_, pss_cons (ps_set (i := 5) sc_law_read_chains.nd rfl (Or.inl rfl) (pe_fn G_law_stave F_law_stave (hr.mono (by decide)) (pa_cons (pv 3) pa_nil)))
            (pss_cons (ps_if (pt_cmpR op_isN (pv 5) pe_non (nomark _)) (pss_one (ps_ret pe_non)) pss_nil)
            (pss_cons (ps_expr (pe_bm PySem.F.plainAttrs_list PySem.F.slot_list_append PySem.F.type_list_append mt_append (pv 2) (pa_cons (pv 5) pa_nil)))
            (pss_one (ps_if (pt_val (pv 4)) (pss_cons (ps_expr (pe_bm PySem.F.plainAttrs_list PySem.F.slot_list_append PySem.F.type_list_append mt_append (pv 1) (pa_cons (pv 2) pa_nil)))
            (pss_one (ps_set (i := 2) sc_law_read_chains.nd rfl (Or.inl rfl) pe_non))) pss_nil)))), ?_⟩
          refine ⟨_, rfl, y', rfl, Sx.ascii_of fun c hc => Sx.ascM yA c (ym.1 c hc), by omega, fun e he H' s3 => ?_, fun hn H' s3 => ?_⟩
          · have hlc3 := s3 _ _ hlc
            refine ⟨_, rfl, rfl, _, rfl, iteD (by intro h; cases h) ⟨_, rfl, .inl ⟨rfl, _, SqL.of hlc3⟩, _, rfl, lc, _, _, rfl, rfl, hlc3, big _ (by rw [List.length_cons, Mir.nV_len]; omega), ?_⟩⟩
            have hp3 := s3 _ _ hp
            have hal3 := Sx.RCL.same hal s3
            have e1 : (V.str (Sx.opS k) :: Mir.nV l) ++ [V.int (e : Int)] = V.str (Sx.opS k) :: Mir.nV (l ++ [e]) := by unfold Mir.nV; rw [List.map_append]; rfl
            rw [e1]
            have hp4 : upd H' lc (.lst (V.str (Sx.opS k) :: Mir.nV (l ++ [e]))) p = some (.lst (Mir.refs ts)) := by rw [upd_ne (Ne.symm nlp)]; exact hp3
            have hl4 : upd H' lc (.lst (V.str (Sx.opS k) :: Mir.nV (l ++ [e]))) lc = some (.lst (V.str (Sx.opS k) :: Mir.nV (l ++ [e]))) := upd_same
            have hq4 : upd H' lc (.lst (V.str (Sx.opS k) :: Mir.nV (l ++ [e]))) q = some (.lst wv) := by rw [upd_ne (Ne.symm nlq)]; exact s3 _ _ hq
            have hal4 := Sx.RCL.updt (o := .lst (V.str (Sx.opS k) :: Mir.nV (l ++ [e]))) hal3 nlt
            have s4 : Same H (upd H' lc (.lst (V.str (Sx.opS k) :: Mir.nV (l ++ [e])))) := (s2.trans s3).upd fl
            generalize upd H' lc (.lst (V.str (Sx.opS k) :: Mir.nV (l ++ [e]))) = H4 at hp4 hl4 hal4 hq4 s4 ⊢
            rw [hgo, he] at hrd
            have hrd : Sx.rdC 100 ([], none) (Sx.splitL 32 (Sx.tl z)) = Sx.rdC 100 (A ++ [(k, l ++ [e])], if Sx.isCl k (Sx.tl y) then none else some k) ((Sx.splitL 32 (Sx.tl z)).drop (i + 1)) := hrd
            refine ⟨_, rfl, _, rfl, ?_⟩
            cases hcl : Sx.isCl k (Sx.tl y) with
            | true =>
              rw [hcl] at hrd
              refine iteT ⟨_, rfl, .inl ⟨rfl, _, SqL.of hp4⟩, _, rfl, p, _, _, rfl, rfl, hp4, big _ (by rw [Mir.refs_len, hal.len]; omega), ?_⟩
              have nlt' : ¬ p ∈ ts ++ [lc] := fun h => by
                rcases List.mem_append.mp h with h | h
                · exact hpt h
                · exact nlp (List.mem_singleton.mp h).symm
              show D2.nx _ _
              rw [hN2]
              refine ⟨_, _, _, _, _, ts ++ [lc], A ++ [(k, l ++ [e])], rfl, hrd, s4.upd hp0, by rw [upd_same, Mir.refs_snoc], nlt', Sx.RCL.updt (hal4.snoc hl4) nlt', by rw [List.length_append]; simp; omega, by rw [upd_ne nqp]; exact hq4, .inl ⟨rfl, rfl⟩⟩
            | false =>
              rw [hcl] at hrd
              refine iteF ?_
              show D2.nx _ H4
              rw [hN2]
              refine ⟨_, _, _, _, _, ts, A, rfl, hrd, s4, hp4, hpt, hal4, by omega, hq4, .inr ⟨k, l ++ [e], lc, rfl, rfl, fl, nlp, nlq, nlt, hl4, by rw [List.length_append]; simp; omega⟩⟩
          · refine ⟨_, rfl, rfl, _, rfl, iteE rfl ?_⟩
            show D2.rt _ H'
            rw [hD2]
            exact kb (by rw [hrd, hgo, hn]; rfl) H' (s2.trans s3)
        refine ⟨_, rfl, _, rfl, ?_⟩
        cases hcl : Sx.isCl k (Sx.tl y) with
        | true =>
          have yl1 : 1 ≤ y.length := by
            cases q : Sx.tl y with
            | nil => rw [q] at hcl; cases hcl
            | cons a r => rw [Sx.len_tl, q]; simp
          refine iteT ⟨_, rfl, _, rfl, _, rfl, y, rfl, sz _ (by omega), _, rfl, rfl, ?_, hD1, hN1⟩
          show Sx.tl (Txt.slice y none (some (-1))) = (Sx.tl y).dropLast
          rw [Sx.slice_tom1 yl1, List.dropLast_eq_take]
        | false => exact iteF ⟨_, rfl, rfl, rfl, hD1, hN1⟩
      have r1 : Sx.tl ("]" : Str) = [93] := by decide +kernel
      have r2 : Sx.tl (")" : Str) = [41] := by decide +kernel
      have l93 := Sx.last_eq (z := y) r1
      have l41 := Sx.last_eq (z := y) r2
      have b1 : Sx.opS k = "[" ↔ k = true := by cases k <;> decide +kernel
      have b2 : Sx.opS k = "(" ↔ k = false := by cases k <;> decide +kernel
      have c1 : Sx.isCl k (Sx.tl y) = true ↔ (Sx.tl y).getLast? = some (Sx.clC k) := by unfold Sx.isCl; exact decide_eq_true_iff
      refine ⟨_, rfl, _, rfl, _, rfl, y, rfl, sz _ (by omega), rfl, _, rfl, ?_⟩
      have fin : ∀ b : Bool, Sx.isCl k (Sx.tl y) = b → [some (V.str z), some (.ref p), some (.ref lc), some (.str y), some (.bl b), v5] = [some (V.str z), some (.ref p), some (.ref lc), some (.str y), some (.bl (Sx.isCl k (Sx.tl y))), v5] ∧ H2 = H2 ∧ D.rt = Q ∧ D.nx = Sx.LInv z (Sx.splitL 32 (Sx.tl z)) H p q wv (i + 1) := fun b hb => by rw [hb]; exact ⟨rfl, rfl, hD, hN⟩
      have c0 : Sx.isCl k (Sx.tl y) = false ↔ ¬ (Sx.tl y).getLast? = some (Sx.clC k) := by rw [← c1]; cases Sx.isCl k (Sx.tl y) <;> simp
      have snd : ¬ (k = true ∧ (Sx.tl y).getLast? = some 93) → ∀ (Q' : VK), (∀ b, Sx.isCl k (Sx.tl y) = b → Q' (.bl b) H2) → (tAndV (tOp rEq (tSl rSlS (tVar 3) (tPart (tUn (rU fun i => V.int (-i)) (tC (V.int 1)))) tNoPart) (tC (V.str (Str.ofString ")")))) (tOp rEq (tOp (rIxL K) (tVar 2) (tC (V.int 0))) (tC (V.str (Str.ofString "(")))))
          [some (V.str z), some (V.ref p), some (V.ref lc), some (V.str y), v4, v5] H2 Q' := fun hno Q' hq => by
        refine ⟨_, rfl, _, rfl, _, rfl, y, rfl, sz _ (by omega), rfl, _, rfl, ?_⟩
        by_cases d : (Sx.tl y).getLast? = some 41
        · refine iteE (l41.mpr d) ⟨_, rfl, lc, _, _, .str (Sx.opS k), rfl, rfl, SqL.of hlc, Sx.at_head _ _, rfl, hq _ ?_⟩
          cases k with
          | true =>
            rw [decide_eq_false (fun h => by injection h with h; exact absurd (b2.mp h) (by decide))]
            exact c0.mpr (by rw [d]; decide)
          | false =>
            rw [decide_eq_true (congrArg V.str (b2.mpr rfl))]
            exact c1.mpr d
        · refine iteD (fun h => d (l41.mp h)) (hq false (c0.mpr ?_))
          cases k with
          | true => exact fun h => hno ⟨rfl, h⟩
          | false => exact d
      by_cases d : (Sx.tl y).getLast? = some 93
      · refine iteE (l93.mpr d) ⟨_, rfl, lc, _, _, .str (Sx.opS k), rfl, rfl, SqL.of hlc, Sx.at_head _ _, rfl, _, rfl, ?_⟩
        by_cases hk : k = true
        · refine iteE (congrArg V.str (b1.mpr hk)) (fin true (c1.mpr ?_))
          rw [hk]
          exact d
        · refine iteD (fun h => hk (b1.mp (by injection h))) ?_
          exact snd (fun h => hk h.1) _ fun b hb => fin b hb
      · refine iteD (fun h => d (l93.mp h)) ⟨_, rfl, iteF ?_⟩
        exact snd (fun h => d h.2) _ fun b hb => fin b hb
    refine ⟨by show 0 ≤ sizeLine; decide, fun p hp0 => ?_⟩
    have l1 := Sx.split_len hA
    have l2 := Sx.parts_len z
    refine ⟨_, rfl, rfl, z, _, rfl, rfl, by rw [Sx.blank]; rfl, sz _ (by omega), sz _ (by rw [Sx.blank]; omega), sz _ (by rw [Sx.blank]; omega), fun q hq => ?_⟩
    have sp : (Txt.split z (" " : Str)).map Sx.tl = Sx.splitL 32 (Sx.tl z) := by rw [Sx.blank, Sx.split_tl hA (by decide)]
    have wl : (Txt.split z (" " : Str)).length ≤ 2001 := by rw [Sx.blank]; exact Nat.le_trans l1 (by omega)
    generalize Txt.split z (" " : Str) = ws at *
    have nqp : q ≠ p := fun e => by rw [e, upd_same] at hq; cases hq
    have q0 : H q = none := by rw [upd_ne nqp] at hq; exact hq
    have sH : Same H (upd (upd H p (.lst [])) q (.lst (ws.map V.str))) := (same_upd hp0).trans (same_upd hq)
    refine ⟨q, rfl, ⟨_, SqL.of upd_same⟩, for_list (K := K) (a := q) (xs := ws.map V.str) (fun i σ H2 => Sx.LInv z (Sx.splitL 32 (Sx.tl z)) H p q (ws.map V.str) i σ H2)
      ⟨([], none), .non, none, none, none, [], [], rfl, rfl, sH, by rw [upd_ne (Ne.symm nqp), upd_same]; rfl, by simp, .nil, Nat.zero_le _, upd_same, .inl ⟨rfl, rfl⟩⟩ (fun i σ H2 _ ⟨_, _, _, _, _, _, _, _, _, _, _, _, _, _, h, _⟩ => SqL.of h) ?_ ?_⟩
    · rintro i x σ H2 hx ⟨st, vc, v3, v4, v5, ts, A, rfl, hrd, s2, hp, hpt, hal, hAl, hq2, alt⟩
      obtain ⟨y, hy, rfl⟩ : ∃ y, ws[i]? = some y ∧ V.str y = x := by
        rw [List.getElem?_map] at hx
        obtain ⟨y, h1, h2⟩ := Option.map_eq_some_iff.mp hx
        exact ⟨y, h1, h2⟩
      have hi : i < ws.length := (List.getElem?_eq_some_iff.mp hy).1
      have hyw : (Sx.splitL 32 (Sx.tl z))[i]? = some (Sx.tl y) := by rw [← sp, List.getElem?_map, hy]; rfl
      obtain ⟨y1, y2⟩ := Sx.splS (List.mem_of_getElem? hyw)
      have yA : Ascii y := Sx.ascii_of fun c hc => Sx.ascM hA c (y1 c hc)
      have yl : y.length ≤ 1999 := by rw [Sx.len_tl y]; have := Sx.len_tl z; omega
      have dr : (Sx.splitL 32 (Sx.tl z)).drop i = Sx.tl y :: (Sx.splitL 32 (Sx.tl z)).drop (i + 1) := by
        obtain ⟨h1, h2⟩ := List.getElem?_eq_some_iff.mp hyw
        rw [List.drop_eq_getElem_cons h1, h2]
      rw [dr] at hrd
      have hrd : Sx.rdC 100 ([], none) (Sx.splitL 32 (Sx.tl z)) = (Sx.stp 100 st (Sx.tl y)).bind fun s' => Sx.rdC 100 s' ((Sx.splitL 32 (Sx.tl z)).drop (i + 1)) := hrd
      rcases alt with ⟨rfl, rfl⟩ | ⟨k, l, lc, rfl, rfl, fl, nlp, nlq, nlt, hlc, hll⟩
      · refine ⟨_, rfl, rfl, _, rfl, iteE rfl ?_⟩
        refine ⟨_, rfl, _, rfl, y, rfl, sz _ (by omega), by decide, fun lq hlq => ⟨lq, _, rfl, .inl (SqL.of upd_same), rfl, rfl, _, rfl, ?_⟩⟩
        have s3 := same_upd (o := .lst [.str "[", .str "("]) hlq
        by_cases hk : ∃ k, (Sx.tl y).head? = some (Sx.opC k)
        · obtain ⟨k, hk⟩ := hk
          have yl1 : 1 ≤ y.length := by
            cases h : Sx.tl y with
            | nil => rw [h] at hk; cases hk
            | cons a r => rw [Sx.len_tl, h]; simp
          have h1 : y.cps[(0 : Int).toNat]? = some (Sx.opC k) := by
            rw [List.head?_eq_getElem?] at hk
            rw [← hk]
            exact Array.getElem?_toList.symm
          refine iteBF (by show (!inV (V.str (Txt.slice y none (some 1))) [.str "[", .str "("]) = false; rw [Sx.inVs, decide_eq_true ⟨k, Sx.slice_head hk⟩]; rfl) ?_
          refine ⟨_, rfl, _, _, _, rfl, rfl, by decide, by decide, by show (0 : Int) < y.length; omega, h1, by show 1 ≤ sizeLine; decide, fun lc hlc => ?_⟩
          have s4 := same_upd (o := .lst [.str ⟨#[Sx.opC k]⟩]) hlc
          have e1 := s3.free hlc
          have sA := s3.trans s4
          have nq : lc ≠ q := fun e => by rw [e, hq2] at e1; cases e1
          have np : lc ≠ p := fun e => by rw [e, hp] at e1; cases e1
          have nt : lc ∉ ts := Sx.RCL.no hal e1
          have ts1 : Sx.tl (Txt.slice y (some 1) none) = (Sx.tl y).tail := by rw [Sx.slice_from1 yl1, List.drop_one]
          rw [Sx.stp_op hk, ← ts1] at hrd
          refine ⟨_, rfl, _, rfl, y, rfl, sz _ (by omega), p, q, _, i, ⟨_, k, [], lc, v4, v5, ts, A, rfl, hrd, Sx.ascii_of fun c hc => Sx.ascM yA c (List.mem_of_mem_tail (ts1 ▸ hc)), ?_, s2.trans sA, sA _ _ hp, hpt, Sx.RCL.same hal sA, hAl, sA _ _ hq2, s2.free e1, np, nq, nt, ?_, Nat.zero_le _⟩, by omega, nqp, hp0, rfl, rfl⟩
          · rw [Sx.len_tl, ts1, List.length_tail]; have := Sx.len_tl y; omega
          · rw [upd_same, Sx.op_one]; rfl
        · have hk : ∀ k, (Sx.tl y).head? ≠ some (Sx.opC k) := fun k h => hk ⟨k, h⟩
          refine iteBT (by show (!inV (V.str (Txt.slice y none (some 1))) [.str "[", .str "("]) = true; rw [Sx.inVs, decide_eq_false fun ⟨k, h⟩ => Sx.slice_no (s := y) hk h]; rfl) ?_
          exact kb (by rw [hrd, Sx.stp_no hk]; rfl) _ (s2.trans s3)
      · refine ⟨_, rfl, rfl, _, rfl, iteD (by intro h; cases h) ?_⟩
        exact ⟨p, q, _, i, ⟨y, k, l, lc, v4, v5, ts, A, rfl, hrd, yA, by omega, s2, hp, hpt, hal, hAl, hq2, fl, nlp, nlq, nlt, hlc, hll⟩, by omega, nqp, hp0, rfl, rfl⟩
    · rintro σ H2 ⟨st, vc, v3, v4, v5, ts, A, rfl, hrd, s2, hp, hpt, hal, hAl, hq2, alt⟩
      have dr : (Sx.splitL 32 (Sx.tl z)).drop (ws.map V.str).length = [] := List.drop_of_length_le (by rw [← sp]; simp)
      rw [dr] at hrd
      rcases alt with ⟨rfl, rfl⟩ | ⟨k, l, lc, rfl, rfl, fl, nlp, nlq, nlt, hlc, hll⟩
      · refine ⟨_, rfl, rfl, _, rfl, iteBF (by decide) ⟨_, rfl, kg A hrd p ts H2 s2 hp hal⟩⟩
      · exact ⟨_, rfl, rfl, _, rfl, iteBT (by rw [decide_eq_false (by intro h; cases h)]; rfl) (kb hrd H2 s2)⟩
end
section
variable {P : Program} {w : World} {K : PySem.W.Frag} {mg : Str → Option Value} {base : Heap}
theorem ok_law_read {f fC fS fF : Addr} {fd fdC fdS fdF : FuncData} (B : Bl mg) (F : Fn K mg "_law_read" s_law_read ["text"] f fd) (F_law_read_chains : Fn K mg "_law_read_chains" s_law_read_chains ["text"] fC fdC) (F_law_stave : Fn K mg "_law_stave" s_law_stave ["text"] fS fdS) (F_law_far : Fn K mg "_law_far" s_law_far ["end"] fF fdF) : FnOk P w K mg base CX0 3 f fd ["text"] Sx.spLRead := by
  have G_law_read_chains : FnOk P w K mg base CX0 2 fC fdC ["text"] Sx.spLChains := ok_law_read_chains B F_law_read_chains F_law_stave
  have G_law_far : FnOk P w K mg base CX0 1 fF fdF ["end"] Mir.spLawFar := ok_law_far F_law_far
  refine F.fn.ok sc_law_read (fun vs H Q E h => ?_) (fun cdv A outer s H vs Q E hr h => ?_)
  · obtain ⟨z, rfl, _⟩ := h
    rfl
  · obtain ⟨z, rfl, hA, hl, kg, kb⟩ := h
    have sz : ∀ n : Nat, n ≤ 20000 → n ≤ sizeLine := fun n h => Nat.le_trans h (by decide)
    have big : ∀ x : Nat, x ≤ 10000 → x < sizeLine := fun x hx => Nat.lt_of_le_of_lt hx (by decide)
    have hu : (A.deeper (PyProof.Rows.envOfC "_law_read" (defScope s_law_read) s.heap.objs.size f cdv)).units < cLine := by have := hr.lt 0 (by decide); omega
    refine ⟨_, (pss_cons (ps_if (pt_cmpR op_eq (pv 0) pe_str (nomark _)) (pss_one (ps_ret (pe_lst pa_nil))) pss_nil)
      (pss_cons (ps_set (i := 1) sc_law_read.nd rfl (Or.inl rfl) (pe_fn G_law_read_chains F_law_read_chains (hr.mono (by decide)) (pa_cons (pv 0) pa_nil)))
      (pss_cons (ps_if (pt_cmpR op_isN (pv 1) pe_non (nomark _)) (pss_one (ps_ret pe_non)) pss_nil)
      (pss_cons (ps_set (i := 2) sc_law_read.nd rfl (Or.inl rfl) (pe_lst pa_nil))
      (pss_cons (ps_for PassesOwn.never rfl (pi_list (pv 1)) (pg_name (i := 3) sc_law_read.nd rfl (Or.inl rfl)) (pss_one (ps_expr (pe_bm PySem.F.plainAttrs_list PySem.F.slot_list_extend PySem.F.type_list_extend mt_extend (pv 2) (pa_cons (pe_comp (NC := ["end"]) rfl (compOk0 rfl (by decide +kernel) (by decide +kernel)) (pi_list (pe_slice sl_list (pv 3) (po_some pe_int) po_none)) (fun _ _ _ _ => (pg_name (i := 0) (show (["end"] : List Str).Nodup by decide +kernel) rfl (Or.inl rfl))) (fun _ _ _ _ => pts_nil) (fun _ _ _ _ => (pe_op op_fdiv (pv 0) pe_int))) pa_nil)))))
      (pss_cons (ps_if (PW.pt (pw_or (pt_cmpR op_gt (pe_callB call_len_seq rfl B.len bb_len (pa_cons (pv 2) pa_nil)) pe_int (nomark _)) (pw_or1 (pt_cmpR (op_ne_intsD hu) (pe_callB call_sorted rfl B.sorted bb_sorted (pa_cons (pv 2) pa_nil)) (pe_callTy (call_list_rng rfl) rfl B.list bb_list (pa_cons (pe_callTy call_rng1 rfl B.range bb_range (pa_cons (pe_callB call_len_seq rfl B.len bb_len (pa_cons (pv 2) pa_nil)) pa_nil)) pa_nil)) (nomark _))))) (pss_one (ps_ret pe_non)) pss_nil)
      (pss_cons (ps_set (i := 4) sc_law_read.nd rfl (Or.inl rfl) (pe_callTy (call_list_rng rfl) rfl B.list bb_list (pa_cons (pe_callTy call_rng1 rfl B.range bb_range (pa_cons (pe_op op_mul pe_int (pe_callB call_len_seq rfl B.len bb_len (pa_cons (pv 2) pa_nil))) pa_nil)) pa_nil)))
      (pss_cons (ps_for PassesOwn.never rfl (pi_list (pv 1)) (pg_name (i := 3) sc_law_read.nd rfl (Or.inl rfl)) (pss_one (ps_for PassesOwn.never rfl (pi_range2 rfl B.range (pa_cons pe_int (pa_cons (pe_callB call_len_seq rfl B.len bb_len (pa_cons (pv 3) pa_nil)) pa_nil))) (pg_name (i := 5) sc_law_read.nd rfl (Or.inl rfl)) (pss_cons (ps_set (i := 6) sc_law_read.nd rfl (Or.inl rfl) (pe_ifExp (pt_cmpR op_gt (pv 5) pe_int (nomark _)) (pe_fn G_law_far F_law_far (hr.mono (by decide)) (pa_cons (pe_ix ix_list (pv 3) (pe_op op_sub (pv 5) pe_int) (fun _ _ => rfl)) pa_nil)) (pe_fn G_law_far F_law_far (hr.mono (by decide)) (pa_cons (pe_ix ix_list (pv 3) (pe_un un_neg pe_int) (fun _ _ => rfl)) pa_nil))))
      (pss_one (ps_if (PW.pt (pw_or (pt_cmpR op_gt (pv 5) pe_int (nomark _)) (pw_or1 (pt_cmpR op_eq (pe_ix ix_list (pv 3) pe_int (fun _ _ => rfl)) pe_str (nomark _))))) (pss_cons (ps_asg (pe_ix ix_list (pv 3) (pv 5) (fun _ _ => rfl)) (pg_sub (pv 4) (pv 6) set_list))
      (pss_one (ps_asg (pv 6) (pg_sub (pv 4) (pe_ix ix_list (pv 3) (pv 5) (fun _ _ => rfl)) set_list)))) pss_nil))))))
      (pss_one (ps_ret (pv 4))))))))))), ?_⟩
    have dot : Sx.tl ("." : Str) = [46] := by decide +kernel
    refine ⟨_, rfl, rfl, _, rfl, ?_⟩
    by_cases hd : Sx.tl z = [46]
    · exact iteE (congrArg V.str (Sx.ext (by rw [dot, hd]))) ⟨by show 0 ≤ sizeLine; decide, fun l hl => kg [] (Sx.workZ_dot hd) l _ (same_upd hl) upd_same⟩
    refine iteD (fun e => hd (by injection e with e; rw [e, dot])) ⟨_, rfl, z, rfl, hA, hl, fun out ho p ts H1 s1 hp hal => ?_, fun hn H1 s1 => ⟨_, rfl, rfl, _, rfl, iteE rfl (kb (Sx.workZ_none hd hn) H1 s1)⟩⟩
    have ow : Sx.rdC 100 ([], none) (Sx.wordsL z) = some out := by rw [show Sx.wordsL z = Sx.splitL 32 (Sx.tl z) from if_neg hd]; exact ho
    obtain ⟨hel, hol, hne⟩ := Sx.out_len (by decide) ow hl
    have htl : ts.length = out.length := hal.len
    refine ⟨_, rfl, rfl, _, rfl, iteD (by intro h; cases h) ⟨by show 0 ≤ sizeLine; decide, fun ls hls => ?_⟩⟩
    refine ⟨_, rfl, p, rfl, ⟨_, SqL.of (same_upd hls _ _ hp)⟩, for_list (K := K) (a := p) (xs := Mir.refs ts) (fun i σ H2 => ∃ v3 : Option V, σ = [some (.str z), some (.ref p), some (.ref ls), v3, none, none, none] ∧ Same H1 H2 ∧ H2 ls = some (.lst (Mir.nV (Mt.half (Sx.endsO (out.take i))))))
      ⟨none, rfl, same_upd hls, upd_same⟩ (fun i σ H2 _ ⟨_, _, s2, _⟩ => SqL.of (s2 _ _ hp)) ?_ ?_⟩
    · rintro i x σ H2 hx ⟨v3, rfl, s2, h2⟩
      obtain ⟨t, ht, rfl⟩ := Mir.refs_get' hx
      obtain ⟨c, hc, htc⟩ := hal.get ht
      have htc2 := s2 _ _ htc
      refine ⟨_, rfl, .inl ⟨rfl, _, SqL.of h2⟩, ?_⟩
      have en := Sx.ends_snoc hc
      have el := Sx.ends_take_le out (i + 1)
      rw [en, List.length_append] at el
      refine ⟨_, rfl, _, rfl, t, _, rfl, SqL.of htc2, fun lq hlq => ?_⟩
      rw [show cutV (V.str (Sx.opS c.1) :: Mir.nV c.2) (some 1) none = Mir.nV c.2 from Mir.cutV_from _ 1]
      have s3 := same_upd (o := .lst (Mir.nV c.2)) hlq
      have hls0 : ls ≠ lq := fun e => by rw [← e, h2] at hlq; cases hlq
      refine ⟨lq, rfl, ⟨_, SqL.of upd_same⟩, fun D hD => comp_list (K := K) (a := lq) (xs := Mir.nV c.2) (fun j σ H3 => ∃ v : Option V, σ = [v] ∧ Same (upd H2 lq (.lst (Mir.nV c.2))) H3 ∧ H3 D = some (.lst (Mir.nV (Mt.half (c.2.take j)))))
        ⟨none, rfl, same_upd hD, upd_same⟩ (fun j σ H3 _ ⟨_, _, s4, _⟩ => SqL.of (s4 _ _ upd_same)) ?_ ?_⟩
      · rintro j x σ H3 hx ⟨v, rfl, s4, hD2⟩
        obtain ⟨e, he, rfl⟩ := Mir.nV_get' hx
        have hj : j < c.2.length := (List.getElem?_eq_some_iff.mp he).1
        refine gYes ⟨_, rfl, _, _, rfl, rfl, ⟨by decide, by decide⟩, ?_⟩
        refine ⟨_, hD2, big _ (by rw [Mir.nV_len]; unfold Mt.half; rw [List.length_map, List.length_take]; omega), _, rfl, s4.upd hD, ?_⟩
        rw [upd_same, Mir.take_snoc he]
        unfold Mt.half Mir.nV
        rw [List.map_append, List.map_append]
        have e2 : ((e : Int) / 2) = ((e / 2 : Nat) : Int) := by omega
        show some (HO.lst (_ ++ [V.int ((e : Int) / 2)])) = _
        rw [e2]
        rfl
      · rintro σ H3 ⟨v, rfl, s4, hD2⟩
        rw [Mir.nV_len, List.take_length] at hD2
        have s5 := s3.trans s4
        refine ⟨ls, D, _, _, rfl, rfl, s5 _ _ h2, hD2, sz _ (by rw [Mir.nV_len, Mir.nV_len]; unfold Mt.half; rw [List.length_map, List.length_map]; omega), _, rfl, (s2.trans s5).upd hls, ?_⟩
        rw [upd_same, en]
        unfold Mt.half Mir.nV
        rw [List.map_append, List.map_append]
    rintro σ H2 ⟨v3, rfl, s2, h2⟩
    rw [Mir.refs_len, htl, List.take_length] at h2
    have hll : (Mt.half (Sx.endsO out)).length = (Sx.endsO out).length := by unfold Mt.half; rw [List.length_map]
    have nU : ∀ xs : List Nat, Mir.nV xs = (Mt.up xs).map V.int := fun xs => by unfold Mir.nV Mt.up; rw [List.map_map]; rfl
    have bad : ¬ Sx.OnceO out → ∀ H3, Same H2 H3 → Q .non H3 := fun h H3 s3 => kb (Sx.workZ_bad hd ho h) H3 ((s1.trans s2).trans s3)
    refine ⟨_, rfl, ls, _, rfl, .inl (SqL.of h2), _, _, rfl, rfl, _, rfl, ?_⟩
    rw [Mir.nV_len, hll]
    by_cases l40 : 40 < (Sx.endsO out).length
    · exact iteE (by omega) (bad (fun o => by have := o.1; omega) H2 (Same.refl _))
    refine iteD (by omega) ?_
    refine ⟨_, rfl, ls, _, rfl, by rw [← nU]; exact SqL.of h2, by rw [Mt.up_len, hll]; omega, fun ns lo hperm hsort hlo => ?_⟩
    have sA := same_upd (o := .lst (ns.map V.int)) hlo
    obtain ⟨r1, r2⟩ := Sx.rng_ok (n := (Sx.endsO out).length) (by omega)
    refine ⟨_, rfl, ls, _, rfl, .inl (SqL.of (sA _ _ h2)), _, rfl, fun pr hpr => ?_⟩
    rw [Mir.nV_len, hll]
    have sB := sA.trans (same_upd (o := .rng 0 ((Sx.endsO out).length : Int)) hpr)
    refine ⟨pr, 0, _, rfl, upd_same, r1, r2, fun lr hlr => ?_⟩
    have sC := sB.trans (same_upd (o := .lst (rngV 0 (((Sx.endsO out).length : Int) - 0).toNat)) hlr)
    have hlo2 : upd (upd (upd H2 lo (.lst (ns.map V.int))) pr (.rng 0 ((Sx.endsO out).length : Int))) lr (.lst (rngV 0 (((Sx.endsO out).length : Int) - 0).toNat)) lo = some (.lst (ns.map V.int)) := (same_upd hlr) _ _ ((same_upd hpr) _ _ upd_same)
    have hlr2 : upd (upd (upd H2 lo (.lst (ns.map V.int))) pr (.rng 0 ((Sx.endsO out).length : Int))) lr (.lst (rngV 0 (((Sx.endsO out).length : Int) - 0).toNat)) lr = some (.lst ((Mt.up (List.range (Sx.endsO out).length)).map V.int)) := by
      rw [upd_same, ← nU, Sx.rng_nV]
    generalize upd (upd (upd H2 lo (.lst (ns.map V.int))) pr (.rng 0 ((Sx.endsO out).length : Int))) lr (.lst (rngV 0 (((Sx.endsO out).length : Int) - 0).toNat)) = H3 at sC hlo2 hlr2 ⊢
    refine ⟨lo, lr, ns, _, rfl, rfl, SqL.of hlo2, SqL.of hlr2, by rw [hperm.length_eq, Mt.up_len, Mt.up_len, hll, List.length_range], _, rfl, ?_⟩
    have io := Sx.once_iff (by omega) hperm hsort
    by_cases oo : Sx.OnceO out
    rotate_left
    · exact iteBT (by rw [decide_eq_false fun e => oo (io.mp e)]; rfl) (bad oo H3 sC)
    refine iteBF (by rw [decide_eq_true (io.mpr oo)]; rfl) ?_
    obtain ⟨q1, q2⟩ := Sx.rng_ok (n := 2 * (Sx.endsO out).length) (by omega)
    have h3 := sC _ _ h2
    refine ⟨_, rfl, ls, _, rfl, .inl (SqL.of h3), _, _, rfl, rfl, .inl ⟨by decide, by decide⟩, ?_⟩
    have e2n : (2 : Int) * (((Mir.nV (Mt.half (Sx.endsO out))).length : Nat) : Int) = ((2 * (Sx.endsO out).length : Nat) : Int) := by rw [Mir.nV_len, hll]; omega
    refine ⟨((2 * (Sx.endsO out).length : Nat) : Int), congrArg (fun x => [V.int x]) e2n, fun pr2 hpr2 => ⟨pr2, 0, _, rfl, upd_same, q1, q2, fun lm hlm => ?_⟩⟩
    rw [Sx.rng_nV]
    have sD := sC.trans (same_upd (o := .rng 0 ((2 * (Sx.endsO out).length : Nat) : Int)) hpr2)
    generalize upd H3 pr2 (.rng 0 ((2 * (Sx.endsO out).length : Nat) : Int)) = H4 at sD hlm ⊢
    have hp4 := (s2.trans sD) _ _ hp
    have hal4 := Sx.RCL.same hal (s2.trans sD)
    have elt : ∀ c ∈ out, ∀ e ∈ c.2, e < 2 * (Sx.endsO out).length := fun c hc e he => by
      have z := List.mem_range.mp (oo.2.subset (Mt.mem_half.mpr ⟨e, Sx.ends_mem hc he, rfl⟩))
      omega
    refine ⟨_, rfl, p, rfl, ⟨_, SqL.of (same_upd hlm _ _ hp4)⟩, for_list (K := K) (a := p) (xs := Mir.refs ts) (fun i σ H5 => ∃ v3 v5 v6 : Option V, σ = [some (.str z), some (.ref p), some (.ref ls), v3, some (.ref lm), v5, v6] ∧ Same H4 H5 ∧ H5 lm = some (.lst (Mir.nV ((Mt.allP (out.take i)).foldl Mt.setP (List.range (2 * (Sx.endsO out).length))))))
      ⟨v3, none, none, rfl, same_upd hlm, upd_same⟩ (fun i σ H5 _ ⟨_, _, _, _, s5, _⟩ => SqL.of (s5 _ _ hp4)) ?_ ?_⟩
    rotate_left
    · rintro σ H5 ⟨v3, v5, v6, rfl, s5, h5⟩
      rw [Mir.refs_len, htl, List.take_length] at h5
      exact ⟨_, rfl, kg _ (Sx.workZ_some hd ho oo) lm H5 (((s1.trans s2).trans sD).trans s5) h5⟩
    rintro i x σ H5 hx ⟨v3, v5, v6, rfl, s5, h5⟩
    obtain ⟨t, ht, rfl⟩ := Mir.refs_get' hx
    obtain ⟨c, hc, htc⟩ := hal4.get ht
    have htc : H4 t = some (.lst (.str (Sx.opS c.1) :: Mir.nV c.2)) := htc
    have cm := List.mem_of_getElem? hc
    have cne := hne c cm
    have clen : c.2.length ≤ (Sx.endsO out).length := by
      have z := Sx.ends_take_le out (i + 1)
      rw [Sx.ends_snoc hc, List.length_append] at z
      omega
    have hnn : ((((V.str (Sx.opS c.1) :: Mir.nV c.2).length : Nat) : Int) - 1).toNat = c.2.length := by rw [List.length_cons, Mir.nV_len]; omega
    have nlt : t ≠ lm := fun e => by rw [e, hlm] at htc; cases htc
    have slen : ∀ ps : List (Nat × Nat), (Mir.nV (ps.foldl Mt.setP (List.range (2 * (Sx.endsO out).length)))).length = 2 * (Sx.endsO out).length := fun ps => by rw [Mir.nV_len, Sx.setP_len, List.length_range]
    have hrg : -(2 ^ 62) ≤ (1 : Int) ∧ (1 : Int) < 2 ^ 62 ∧ -(2 ^ 62) ≤ (((V.str (Sx.opS c.1) :: Mir.nV c.2).length : Nat) : Int) ∧ (((V.str (Sx.opS c.1) :: Mir.nV c.2).length : Nat) : Int) < 2 ^ 62 := by
      rw [List.length_cons, Mir.nV_len]
      have h1 : (101 : Int) < 2 ^ 62 := by decide +kernel
      omega
    refine ⟨_, rfl, t, _, rfl, .inl (SqL.of (s5 _ _ htc)), _, _, rfl, hrg, ?_⟩
    rw [hnn]
    refine for_range (lo := 1) (n := c.2.length) (fun j σ H6 => ∃ v5 v6 : Option V, σ = [some (.str z), some (.ref p), some (.ref ls), some (.ref t), some (.ref lm), v5, v6] ∧ Same H4 H6 ∧ H6 lm = some (.lst (Mir.nV ((Mt.allP (out.take i) ++ Sx.prK c j).foldl Mt.setP (List.range (2 * (Sx.endsO out).length))))))
      ⟨v5, v6, rfl, s5, by rw [show Sx.prK c 0 = [] from rfl, List.append_nil]; exact h5⟩ ?_ ?_
    rotate_left
    · rintro σ H6 ⟨v5, v6, rfl, s6, h6⟩
      rw [Sx.prK_all cne, ← Sx.allP_snoc hc] at h6
      exact ⟨_, _, _, rfl, s6, h6⟩
    rintro j σ H6 hj ⟨v5, v6, rfl, s6, h6⟩
    have htc6 := s6 _ _ htc
    have hb : c.2[j]? = some c.2[j] := List.getElem?_eq_getElem hj
    have blt := elt c cm _ (List.mem_of_getElem? hb)
    have atk : ∀ m : Nat, ∀ e : Nat, c.2[m]? = some e → atI (V.str (Sx.opS c.1) :: Mir.nV c.2) ((1 : Int) + (m : Nat)) = some (.int (e : Int)) := fun m e he => by
      rw [show (1 : Int) + (m : Nat) = ((m + 1 : Nat) : Int) by omega]
      refine atI_nat ?_
      rw [List.getElem?_cons_succ]
      unfold Mir.nV
      rw [List.getElem?_map, he]
      rfl
    have put : ∀ (a : Nat) (D : Ends), a < 2 * (Sx.endsO out).length → (∀ H7, Same H4 H7 → H7 lm = some (.lst (Mir.nV ((Mt.allP (out.take i) ++ (Sx.prK c j ++ [(a, c.2[j])])).foldl Mt.setP (List.range (2 * (Sx.endsO out).length))))) → D.nx [some (.str z), some (.ref p), some (.ref ls), some (.ref t), some (.ref lm), some (.int (1 + (j : Nat))), some (.int (a : Nat))] H7) →
        tSeq (tAsg (tOp (rIxL K) (tVar 3) (tVar 5)) (gSub (tVar 4) (tVar 6) rSetL)) (tAsg (tVar 6) (gSub (tVar 4) (tOp (rIxL K) (tVar 3) (tVar 5)) rSetL)) D [some (.str z), some (.ref p), some (.ref ls), some (.ref t), some (.ref lm), some (.int (1 + (j : Nat))), some (.int (a : Nat))] H6 := fun a D ha k => by
      refine ⟨_, rfl, _, rfl, t, _, _, _, rfl, rfl, SqL.of htc6, atk j _ hb, _, rfl, _, rfl, lm, _, _, _, rfl, rfl, h6, ixN_of (Int.natCast_nonneg _) (by rw [slen]; omega), ?_⟩
      rw [Int.toNat_natCast, Mir.nV_set]
      have s7 := s6.upd (o := .lst (Mir.nV (((Mt.allP (out.take i) ++ Sx.prK c j).foldl Mt.setP (List.range (2 * (Sx.endsO out).length))).set a c.2[j]))) hlm
      have h7 : upd H6 lm (.lst (Mir.nV (((Mt.allP (out.take i) ++ Sx.prK c j).foldl Mt.setP (List.range (2 * (Sx.endsO out).length))).set a c.2[j]))) lm = _ := upd_same
      generalize upd H6 lm (.lst (Mir.nV (((Mt.allP (out.take i) ++ Sx.prK c j).foldl Mt.setP (List.range (2 * (Sx.endsO out).length))).set a c.2[j]))) = H7 at s7 h7 ⊢
      refine ⟨_, rfl, _, rfl, _, rfl, _, rfl, t, _, _, _, rfl, rfl, SqL.of (s7 _ _ htc), atk j _ hb, lm, _, _, _, rfl, rfl, h7, ixN_of (Int.natCast_nonneg _) (by rw [Mir.nV_len, List.length_set, ← Mir.nV_len, slen]; omega), ?_⟩
      rw [Int.toNat_natCast, Mir.nV_set]
      refine k _ (s7.upd hlm) ?_
      rw [upd_same, ← List.append_assoc]
      have fe : ((Mt.allP (out.take i) ++ Sx.prK c j) ++ [(a, c.2[j])]).foldl Mt.setP (List.range (2 * (Sx.endsO out).length)) = Mt.setP ((Mt.allP (out.take i) ++ Sx.prK c j).foldl Mt.setP (List.range (2 * (Sx.endsO out).length))) (a, c.2[j]) := by
        generalize Mt.allP (out.take i) ++ Sx.prK c j = ps
        rw [List.foldl_append]
        rfl
      rw [fe]
      rfl
    refine ⟨_, rfl, _, _, rfl, rfl, _, rfl, ?_⟩
    cases j with
    | zero =>
      have al : atI (V.str (Sx.opS c.1) :: Mir.nV c.2) (-1) = some (.int ((Mt.lastN c.2 : Nat) : Int)) := by
        rcases List.eq_nil_or_concat c.2 with e | ⟨ys, y, e⟩
        · exact absurd e cne
        · rw [e, List.concat_eq_append]
          have e1 : Mt.lastN (ys ++ [y]) = y := by unfold Mt.lastN; simp
          rw [e1]
          have e2 : V.str (Sx.opS c.1) :: Mir.nV (ys ++ [y]) = (V.str (Sx.opS c.1) :: Mir.nV ys) ++ [.int (y : Int)] := by unfold Mir.nV; rw [List.map_append]; rfl
          rw [e2]
          exact atI_last _ _
      have lm2 : Mt.lastN c.2 < 2 * (Sx.endsO out).length := by
        refine elt c cm _ ?_
        rcases List.eq_nil_or_concat c.2 with e | ⟨ys, y, e⟩
        · exact absurd e cne
        · rw [e, List.concat_eq_append]
          have e1 : Mt.lastN (ys ++ [y]) = y := by unfold Mt.lastN; simp
          rw [e1]
          simp
      refine iteD (by omega) ⟨_, rfl, _, rfl, t, _, _, _, rfl, rfl, SqL.of htc6, al, _, rfl, ?_⟩
      refine ⟨_, rfl, _, _, rfl, rfl, _, rfl, iteD (by omega) ⟨_, rfl, t, _, _, .str (Sx.opS c.1), rfl, rfl, SqL.of htc6, Sx.at_head _ _, rfl, _, rfl, ?_⟩⟩
      have b2 : Sx.opS c.1 = "(" ↔ c.1 = false := by cases c.1 <;> decide +kernel
      have one := Sx.prK_one (c := c) hb
      by_cases hk : c.1 = false
      · rw [if_neg (by rw [hk]; decide)] at one
        refine iteE (congrArg V.str (b2.mpr hk)) (put _ _ (Sx.far_lt lm2) fun H7 s7 h7 => ⟨_, _, rfl, s7, ?_⟩)
        rw [one]
        exact h7
      · rw [if_pos (by cases q : c.1 with
          | true => rfl
          | false => exact absurd q hk), List.append_nil] at one
        refine iteD (fun e => hk (b2.mp (by injection e))) ⟨_, _, rfl, s6, ?_⟩
        rw [one]
        exact h6
    | succ j =>
      have hj' : j < c.2.length := by omega
      have ha : c.2[j]? = some c.2[j] := List.getElem?_eq_getElem hj'
      have al := atk j _ ha
      have more := Sx.prK_more ha hb
      refine iteE (by omega) ⟨_, rfl, _, rfl, _, _, rfl, rfl, t, _, _, .int ((c.2[j] : Nat) : Int), rfl, rfl, SqL.of htc6, ?_, _, rfl, ?_⟩
      · rw [← al]
        congr 1
        show (1 : Int) + ((j + 1 : Nat) : Int) - 1 = 1 + (j : Nat)
        omega
      refine ⟨_, rfl, _, _, rfl, rfl, _, rfl, iteE (by omega) (put _ _ (Sx.far_lt (elt c cm _ (List.mem_of_getElem? ha))) fun H7 s7 h7 => ⟨_, _, rfl, s7, ?_⟩)⟩
      rw [more]
      exact h7
end
section
seal L2.PSs L2.PS L2.PE L2.PT L2.PA
variable {P : Program} {w : World} {K : PySem.W.Frag} {mg : Str → Option Value} {base : Heap}
theorem ok_law {C_BadWork C_NoText C_ClaspError C_CLOSING : Addr} {ep} {tMS tF t0 t1 t2 t3 : Tok} (B : Bl mg) (ZB : ECls K mg "BadWork" C_BadWork) (ZN : ECls K mg "NoText" C_NoText) (ME : mg "ClaspError" = some (.ref C_ClaspError)) (MS : mg "MOST_STAVES" = some (.int 40 tMS)) (MF : mg "FIGURES" = some (.str "0123456789" tF)) (MC : mg "CLOSING" = some (.ref C_CLOSING))
    (d : K.lookup C_CLOSING = some ⟨.type "dict", none, .dict #[⟨L2.keyH w (Sum.inr "["), .str "[" t0, .str "]" t1⟩, ⟨L2.keyH w (Sum.inr "("), .str "(" t2, .str ")" t3⟩] ep, #[]⟩) (XN : ExK K C_NoText) (sm : (C_CLOSING == PySem.sysModules) = false)
    (pe : PySem.W.exmOne K (.ref C_NoText) (.ref C_ClaspError) = some true) (xb : PySem.W.exmOne K (.ref C_BadWork) (.ref C_BadWork) = some true) (pb : PySem.W.kitOne K (.ref C_NoText) (.ref C_NoText) = some true) (pv' : PySem.W.kitOne K (.ref C_NoText) (.type "ValueError") = some true) (p1 : PySem.W.kitOne K (.ref C_NoText) (.ref C_BadWork) = some false)
    {f0 f1 f2 f3 f4 f5 f6 f7 f8 f9 f10 f11 f12 f13 f14 f15 f16 f17 f18 f19 f20 f21 f22 f23 f24 f25 f26 f27 f28 f29 f30 f31 : Addr} {fd0 fd1 fd2 fd3 fd4 fd5 fd6 fd7 fd8 fd9 fd10 fd11 fd12 fd13 fd14 fd15 fd16 fd17 fd18 fd19 fd20 fd21 fd22 fd23 fd24 fd25 fd26 fd27 fd28 fd29 fd30 fd31 : FuncData} (F_is_end : Fn K mg "is_end" s_is_end ["number", "ends"] f0 fd0) (F_far_end : Fn K mg "far_end" s_far_end ["end"] f1 fd1) (F_work_by : Fn K mg "work_by" s_work_by ["staves", "clasps"] f2 fd2) (F_each_stave_once : Fn K mg "each_stave_once" s_each_stave_once ["ends"] f3 fd3) (F_work_from : Fn K mg "work_from" s_work_from ["rows", "rings"] f4 fd4) (F_entered_ends : Fn K mg "entered_ends" s_entered_ends ["chains"] f5 fd5) (F_inner_clasps : Fn K mg "inner_clasps" s_inner_clasps ["chain"] f6 fd6) (F_read_work : Fn K mg "read_work" s_read_work ["text"] f7 fd7) (F_read_chains : Fn K mg "read_chains" s_read_chains ["text"] f8 fd8) (F_opening_bracket : Fn K mg "opening_bracket" s_opening_bracket ["word"] f9 fd9) (F_read_stave : Fn K mg "read_stave" s_read_stave ["word"] f10 fd10) (F_words_of_text : Fn K mg "words_of_text" s_words_of_text ["text"] f11 fd11) (F_read_number : Fn K mg "read_number" s_read_number ["word", "most"] f12 fd12) (F_law_cell_at : Fn K mg "_law_cell_at" s_law_cell_at ["script", "k"] f13 fd13) (F_law_whole : Fn K mg "_law_whole" s_law_whole ["found"] f14 fd14) (F_law_staves : Fn K mg "_law_staves" s_law_staves ["cell"] f15 fd15) (F_law_mates : Fn K mg "_law_mates" s_law_mates ["flow", "staves"] f16 fd16) (F_law_numbers : Fn K mg "_law_numbers" s_law_numbers ["found", "due"] f17 fd17) (F_law_far : Fn K mg "_law_far" s_law_far ["end"] f18 fd18) (F_law_chain : Fn K mg "_law_chain" s_law_chain ["mates", "start"] f19 fd19) (F_law_chains : Fn K mg "_law_chains" s_law_chains ["mates"] f20 fd20) (F_law_back : Fn K mg "_law_back" s_law_back ["chain"] f21 fd21) (F_law_written : Fn K mg "_law_written" s_law_written ["chain", "brackets"] f22 fd22) (F_law_text_else : Fn K mg "_law_text_else" s_law_text_else ["mates", "cell"] f23 fd23) (F_law_sign_by : Fn K mg "_law_sign_by" s_law_sign_by ["cell"] f24 fd24) (F_law_sign_spoiled : Fn K mg "_law_sign_spoiled" s_law_sign_spoiled ["text", "cell"] f25 fd25) (F_law_part_spoiled : Fn K mg "_law_part_spoiled" s_law_part_spoiled ["text", "cell"] f26 fd26) (F_law_number_spoiled : Fn K mg "_law_number_spoiled" s_law_number_spoiled ["text", "cell"] f27 fd27) (F_law_stave : Fn K mg "_law_stave" s_law_stave ["text"] f28 fd28) (F_law_read_chains : Fn K mg "_law_read_chains" s_law_read_chains ["text"] f29 fd29) (F_law_read : Fn K mg "_law_read" s_law_read ["text"] f30 fd30) (F_law : Fn K mg "law" s_law ["script"] f31 fd31) : FnOk P w K mg base CX0 5 f31 fd31 ["script"] (spLaw K) := by
  have kd : KD P w K C_CLOSING Sx.CLO := kd_two d sm (by decide +kernel)
  have G_law_cell_at : FnOk P w K mg base CX0 1 _ _ ["script", "k"] (Mir.spCellAt K) := ok_law_cell_at B F_law_cell_at
  have G_law_staves : FnOk P w K mg base CX0 1 _ _ ["cell"] Mir.spLawStaves := ok_law_staves F_law_staves
  have G_law_mates : FnOk P w K mg base CX0 1 _ _ ["flow", "staves"] (Mir.spMates K) := ok_law_mates B F_law_mates
  have G_law_numbers : FnOk P w K mg base CX0 2 _ _ ["found", "due"] (Mir.spNumbers K) := ok_law_numbers B F_law_numbers F_law_whole
  have GWf : FnOk P w K mg base (CXk P w) 3 _ _ ["rows", "rings"] (Mir.spWorkFrom C_BadWork) := ok_work_from_k B ZB MS F_work_from F_is_end F_far_end F_work_by F_each_stave_once F_entered_ends F_inner_clasps
  have GRc : FnOk P w K mg base (CXo P w) 3 _ _ ["text"] (Sx.spChainsX C_NoText) := ok_read_chains_x B MC kd MF MS ZN F_read_chains F_words_of_text F_opening_bracket F_read_stave F_read_number
  have G_read_work : FnOk P w K mg base (CXo P w) 4 _ _ ["text"] (Sx.spWorkY C_NoText) := ok_read_work_x ZB.g xb ZN F_read_work F_read_chains F_work_from GRc GWf
  have GCs : FnOk P w K mg base CX0 3 _ _ ["mates"] Mir.spLawChains := ok_law_chains B F_law_chains F_law_chain F_law_far
  have GB : FnOk P w K mg base CX0 2 _ _ ["chain"] Mir.spLawBack := ok_law_back B F_law_back F_law_far
  have GLw : FnOk P w K mg base CX0 1 _ _ ["chain", "brackets"] Sx.spWritten9 := ok_law_written B F_law_written
  have G_law_text_else : FnOk P w K mg base CX0 4 _ _ ["mates", "cell"] Sx.spTextElse := ok_law_text_else B F_law_text_else F_law_back F_law_chains F_law_written GB GCs GLw
  have G_law_sign_spoiled : FnOk P w K mg base CX0 2 _ _ ["text", "cell"] Sx.spSpoiled := ok_law_sign_spoiled B F_law_sign_spoiled F_law_sign_by
  have G_law_part_spoiled : FnOk P w K mg base CX0 1 _ _ ["text", "cell"] Sx.spSpoiled := ok_law_part_spoiled B F_law_part_spoiled
  have G_law_number_spoiled : FnOk P w K mg base CX0 1 _ _ ["text", "cell"] Sx.spSpoiled := ok_law_number_spoiled B F_law_number_spoiled
  have G_law_read : FnOk P w K mg base CX0 3 _ _ ["text"] Sx.spLRead := ok_law_read B F_law_read F_law_read_chains F_law_stave F_law_far
  refine F_law.fn.okO sc_law (fun vs H Q E h => ?_) (fun cdv A outer s H vs Q E hr h own => ?_)
  · obtain ⟨a, ns, rfl, _⟩ := h
    rfl
  · obtain ⟨a, ns, rfl, hS, hlen, k⟩ := h
    have hu := hu_of hr
    refine ⟨_, (pss_cons (ps_set (i := 1) sc_law.nd rfl (Or.inl rfl) (pe_fn G_law_mates F_law_mates (hr.mono (by decide)) (pa_cons (pe_slice sl_list (pv 0) (po_some pe_int) po_none) (pa_cons (pe_fn G_law_staves F_law_staves (hr.mono (by decide)) (pa_cons (pe_fn G_law_cell_at F_law_cell_at (hr.mono (by decide)) (pa_cons (pv 0) (pa_cons pe_int pa_nil))) pa_nil)) pa_nil))))
      (pss_cons (ps_set (i := 2) sc_law.nd rfl (Or.inl rfl) (pe_fn G_law_text_else F_law_text_else (hr.mono (by decide)) (pa_cons (pv 1) (pa_cons (pe_fn G_law_cell_at F_law_cell_at (hr.mono (by decide)) (pa_cons (pv 0) (pa_cons pe_int pa_nil))) pa_nil))))
      (pss_cons (ps_set (i := 3) sc_law.nd rfl (Or.inl rfl) (pe_op op_add pe_int (pe_op op_mod (pe_op op_fdiv (pe_fn G_law_cell_at F_law_cell_at (hr.mono (by decide)) (pa_cons (pv 0) (pa_cons pe_int pa_nil))) pe_int) pe_int)))
      (pss_cons (ps_if (pt_cmpR op_eq (pe_op op_mod (pe_op op_fdiv (pe_fn G_law_cell_at F_law_cell_at (hr.mono (by decide)) (pa_cons (pv 0) (pa_cons pe_int pa_nil))) pe_int) pe_int) pe_int (nomark _)) (pss_cons (ps_set (i := 2) sc_law.nd rfl (Or.inl rfl) (pe_bm PySem.F.plainAttrs_str PySem.F.slot_str_join PySem.F.type_str_join mt_join pe_str (pa_cons (pe_comp (NC := ["stave"]) rfl (compOk0 rfl (by decide +kernel) (by decide +kernel)) (pi_range1 rfl B.range (pa_cons (pe_op op_add pe_int (pe_op op_mod (pe_op op_fdiv (pe_fn G_law_cell_at F_law_cell_at (hr.mono (by decide)) (pa_cons (pv 0) (pa_cons pe_int pa_nil))) pe_int) pe_int)) pa_nil)) (fun _ _ _ _ => (pg_name (i := 0) (show (["stave"] : List Str).Nodup by decide +kernel) rfl (Or.inl rfl))) (fun _ _ _ _ => pts_nil) (fun _ _ _ _ => (pe_op op_add_str (pe_op op_add_str pe_str (pe_callTy call_str_int rfl B.str bb_str (pa_cons (pv 0) pa_nil))) pe_str))) pa_nil)))
      (pss_one (ps_set (i := 3) sc_law.nd rfl (Or.inl rfl) (pe_op op_mod (pe_op op_fdiv (pe_fn G_law_cell_at F_law_cell_at (hr.mono (by decide)) (pa_cons (pv 0) (pa_cons pe_int pa_nil))) pe_int) pe_int)))) pss_nil)
      (ps_sem (R := fun D σ H2 => ∃ (v1 : Option V) (z : Str) (t : Nat), σ = [some (.ref a), v1, some (.str z), some (.int (t : Nat)), none, none, none, none, none, none] ∧ Same H H2 ∧ Sx.Low 240 z ∧ t ≤ 3 ∧ D.rt = Q) fun D σ H2 hR => ?turns))))), ?_⟩
    case turns =>
      obtain ⟨v1, z0, t, rfl, sH, hz0, ht, hD⟩ := hR
      refine ⟨_, (pss_cons (ps_for PassesOwn.never rfl (pi_range1 rfl B.range (pa_cons (pv 3) pa_nil)) (pg_name (i := 4) sc_law.nd rfl (Or.inl rfl)) (pss_cons (ps_set (i := 5) sc_law.nd rfl (Or.inl rfl) (pe_op op_mod (pe_op op_mul (pe_op op_add (pe_op op_mod (pe_fn G_law_cell_at F_law_cell_at (hr.mono (by decide)) (pa_cons (pv 0) (pa_cons pe_int pa_nil))) pe_int) (pv 4)) pe_int) pe_int))
      (pss_cons (ps_set (i := 5) sc_law.nd rfl (Or.inl rfl) (pe_op op_mod (pe_op op_mul (pv 5) (pv 5)) pe_int))
      (pss_one (ps_if (pt_cmpR op_eq (pe_op op_mod (pv 5) pe_int) pe_int (nomark _)) (pss_one (ps_set (i := 2) sc_law.nd rfl (Or.inl rfl) (pe_fn G_law_part_spoiled F_law_part_spoiled (hr.mono (by decide)) (pa_cons (pv 2) (pa_cons (pe_op op_fdiv (pv 5) pe_int) pa_nil))))) (pss_one (ps_if (pt_cmpR op_eq (pe_op op_mod (pv 5) pe_int) pe_int (nomark _)) (pss_one (ps_set (i := 2) sc_law.nd rfl (Or.inl rfl) (pe_fn G_law_number_spoiled F_law_number_spoiled (hr.mono (by decide)) (pa_cons (pv 2) (pa_cons (pe_op op_fdiv (pv 5) pe_int) pa_nil))))) (pss_one (ps_set (i := 2) sc_law.nd rfl (Or.inl rfl) (pe_fn G_law_sign_spoiled F_law_sign_spoiled (hr.mono (by decide)) (pa_cons (pv 2) (pa_cons (pe_op op_fdiv (pv 5) pe_int) pa_nil))))))))))))
      (ps_sem (R := fun D σ H2 => ∃ (v1 v3 v4 v5 : Option V) (z : Str), σ = [some (.ref a), v1, some (.str z), v3, v4, v5, none, none, none, none] ∧ Same H H2 ∧ Sx.Low 1999 z ∧ D.rt = Q) fun D σ H2 hR => ?due)), ?_⟩
      case due =>
        obtain ⟨v1, v3, v4, v5, z, rfl, sH, hz, hD⟩ := hR
        have hr3 : Room 3 _ := hr.mono (by decide)
        have hr2 : Room 2 _ := hr.mono (by decide)
        cases hw : Sx.workZ z with
        | none =>
          refine ⟨_, pss_cons (ps_set (i := 6) sc_law.nd rfl (Or.inl rfl) (pe_fn G_law_read F_law_read hr3 (pa_cons (pv 2) pa_nil)))
            (pss_cons (ps_set (i := 7) sc_law.nd rfl (Or.inl rfl) (pe_lst pa_nil))
            (pss_cons (ps_set (i := 8) sc_law.nd rfl (Or.inl rfl) pe_non)
            (pss_tryR own sc_law.nd (i := 9) rfl rfl ME (psx_setG (pex_fn G_read_work F_read_work hr (pa_cons (pv 2) pa_nil)))
              (tb := fun cls e D σ H' => cls = .ref C_NoText ∧ ∃ v0 v1 v2 v3 v4 v5 v7 v8 : Option V, σ = [v0, v1, v2, v3, v4, v5, some .non, v7, v8, some (.ref e)] ∧ ∀ (l : Addr) (H2 : Hp), H2 l = some (.lst [.bl true, .bl true, .bl false]) → D.nx [v0, v1, v2, v3, v4, v5, some .non, some (.ref l), v8, some (.ref e)] H2)
              (tr := fun cls e D σ H' => ∃ (l : Addr) (v0 v1 v2 v3 v4 v5 v8 v9 : Option V), σ = [v0, v1, v2, v3, v4, v5, some .non, some (.ref l), v8, v9] ∧ H' l = some (.lst [.bl true, .bl true, .bl false]) ∧ ∀ H2, D.rt (.bl true) H2)
              (fun cls e oe he => ps_sem fun D σ H' hR => ?suite) (fun cls e oe he => ps_sem fun D σ H' hR => ?after)))), ?_⟩
          case suite =>
            obtain ⟨rfl, v0, v1, v2, v3, v4, v5, v7, v8, rfl, q⟩ := hR
            refine ⟨_, pss_one (ps_set (i := 7) sc_law.nd rfl (Or.inl rfl) (pe_lst (pa_cons (pe_callB (call_isx he XN) rfl B.isinstance bb_isinstance (pa_cons (pv 9) (pa_cons (pe_glob (v := .ref C_NoText) rfl ZN.g rfl) pa_nil))) (pa_cons (pe_callB (call_isx he XN) rfl B.isinstance bb_isinstance (pa_cons (pv 9) (pa_cons (pe_bltn (v := .ty "ValueError") rfl B.ValueError bb_ValueError rfl) pa_nil))) (pa_cons (pe_callB (call_isx he XN) rfl B.isinstance bb_isinstance (pa_cons (pv 9) (pa_cons (pe_glob (v := .ref C_BadWork) rfl ZB.g rfl) pa_nil))) pa_nil))))), ?_⟩
            exact ⟨_, rfl, _, _, .inl ⟨_, rfl, pb⟩, rfl, _, rfl, _, _, .inr ⟨_, rfl, pv'⟩, rfl, _, rfl, _, _, .inl ⟨_, rfl, p1⟩, rfl, by show 3 ≤ sizeLine; decide, fun l hl => q l _ upd_same⟩
          case after =>
            obtain ⟨l, v0, v1, v2, v3, v4, v5, v8, v9, rfl, hl, q⟩ := hR
            refine ⟨_, pss_cons (ps_if (pt_cmpR op_isN (pv 6) pe_non (nomark _)) (pss_one (ps_ret (pe_cmpR (op_eq_deep 0 (hr.lt 0 (by decide))) (pv 7) (pe_lst (pa_cons pe_bl (pa_cons pe_bl (pa_cons pe_bl pa_nil)))) (nomark _)))) pss_nil) (ps_sem (R := fun _ _ _ => False) fun _ _ _ h => h.elim), ?_⟩
            refine ⟨_, rfl, rfl, _, rfl, iteE rfl ⟨_, rfl, by show 3 ≤ sizeLine; decide, fun l3 hl3 => ⟨l, l3, rfl, rfl, ⟨_, _, SqL.of (same_upd hl3 _ _ hl), SqL.of upd_same, rfl, fun i u v h1 h2 => ?_⟩, q _⟩⟩⟩
            rw [h1] at h2
            obtain rfl := Option.some.inj h2
            refine ⟨rfl, ?_⟩
            have hm := List.mem_of_getElem? h1
            simp at hm
            rcases hm with rfl | rfl <;> rfl
          refine ⟨_, rfl, z, rfl, hz.1, hz.2, fun ms h => (by rw [hw] at h; cases h), fun _ H1 s1 => ⟨by show 0 ≤ sizeLine; decide, fun l0 hl0 => ?_⟩⟩
          refine ⟨fun cls _ H' => cls = .ref C_NoText, ⟨_, rfl, z, rfl, hz.1, hz.2, fun ms h => (by rw [hw] at h; cases h), fun _ H' _ => rfl⟩, ?_⟩
          rintro cls H' rfl
          exact ⟨pe, fun e he => ⟨rfl, _, _, _, _, _, _, _, _, rfl, fun l H2 hl2 => ⟨l, _, _, _, _, _, _, _, _, rfl, hl2, fun H3 => by rw [hD]; exact k H3⟩⟩⟩
        | some ms =>
          refine ⟨_, pss_cons (ps_set (i := 6) sc_law.nd rfl (Or.inl rfl) (pe_fn G_law_read F_law_read hr3 (pa_cons (pv 2) pa_nil)))
            (pss_cons (ps_set (i := 7) sc_law.nd rfl (Or.inl rfl) (pe_lst pa_nil))
            (pss_cons (ps_set (i := 8) sc_law.nd rfl (Or.inl rfl) pe_non)
            (pss_cons (ps_tryG (pss_one (ps_set (i := 8) sc_law.nd rfl (Or.inl rfl) (pe_fnF G_read_work F_read_work hr (pa_cons (pv 2) pa_nil)))))
            (pss_cons (ps_if (pt_cmpR op_isN (pv 6) pe_non (nomark _)) (pss_one ps_never) pss_nil)
            (pss_one (ps_ret (pe_and (pe_cmpR (op_eq_deep 0 (hr.lt 0 (by decide))) (pv 7) (pe_lst pa_nil) (nomark _)) (pe_one (pe_fn G_law_numbers F_law_numbers hr2 (pa_cons (pv 8) (pa_cons (pv 6) pa_nil))))))))))), ?_⟩
          have msl : (Mt.up ms).length ≤ 1000 := by
            rw [Mt.up_len]
            exact Sx.workZ_len hw
          refine ⟨_, rfl, z, rfl, hz.1, hz.2, fun ms' h l H1 s1 hl1 => ?_, fun h => (by rw [hw] at h; cases h)⟩
          obtain rfl : ms = ms' := Option.some.inj (hw.symm.trans h)
          refine ⟨by show 0 ≤ sizeLine; decide, fun l0 hl0 => ?_⟩
          have s2 := same_upd (o := .lst []) hl0
          have h0 : upd H1 l0 (.lst []) l0 = some (.lst []) := upd_same
          generalize upd H1 l0 (.lst []) = H3 at s2 h0 ⊢
          refine ⟨_, rfl, z, rfl, hz.1, hz.2, fun ms' h t H4 s4 ht4 => ?_, fun h => (by rw [hw] at h; cases h)⟩
          obtain rfl : ms = ms' := Option.some.inj (hw.symm.trans h)
          refine ⟨_, rfl, rfl, _, rfl, iteD (by intro h; cases h) ?_⟩
          refine ⟨_, rfl, by show 0 ≤ sizeLine; decide, fun l5 hl5 => ⟨l0, l5, rfl, rfl, ⟨_, _, SqL.of (same_upd hl5 _ _ (s4 _ _ h0)), SqL.of upd_same, rfl, fun i u v h1 h2 => by simp at h1⟩, _, rfl, iteT ?_⟩⟩
          have s5 := same_upd (o := .lst []) hl5
          refine ⟨_, rfl, _, rfl, t, l, Mt.up ms, rfl, by rw [← Mir.nV_up]; exact s5 _ _ ht4, .inl (SqL.of (by rw [← Mir.nV_up]; exact s5 _ _ (s4 _ _ (s2 _ _ hl1)))), msl, fun H6 s6 => by rw [hD]; exact k H6⟩
      have b62 : (1000 : Int) < 2 ^ 62 := by decide +kernel
      have n62 : -(2 : Int) ^ 62 ≤ 0 := by decide +kernel
      refine ⟨_, rfl, _, rfl, by omega, by omega, for_range (lo := 0) (n := ((t : Nat) : Int).toNat) (fun i σ H5 => ∃ (v4 v5 : Option V) (z : Str) (b : Nat), σ = [some (.ref a), v1, some (.str z), some (.int (t : Nat)), v4, v5, none, none, none, none] ∧ Same H H5 ∧ Sx.Low b z ∧ (i = 0 → b ≤ 240) ∧ (i ≤ 1 → b ≤ 483) ∧ (i ≤ 2 → b ≤ 969) ∧ b ≤ 1999)
        ⟨none, none, z0, 240, rfl, sH, hz0, fun _ => by omega, fun _ => by omega, fun _ => by omega, by omega⟩ ?_ ?_⟩
      · rintro i σ H5 hi ⟨v4, v5, z, b, rfl, s5, hz, b0, b1, b2, b3⟩
        have hi3 : i < 3 := by omega
        have bb : b ≤ 969 := b2 (by omega)
        refine ⟨_, rfl, a, ns, 2, rfl, s5.seq hS, fun c => ⟨_, _, rfl, rfl, (show (0 : Int) < 1000000007 by decide), _, rfl, _, _, rfl, rfl, _, _, rfl, rfl, .inr ⟨by decide, by decide⟩, _, _, rfl, rfl, (show (0 : Int) < 2147483647 by decide), ?_⟩⟩
        have k1 := Int.emod_nonneg ((c % 1000000007 + (0 + (i : Nat))) * 48271) (b := 2147483647) (by decide)
        have k2 := Int.emod_lt_of_pos ((c % 1000000007 + (0 + (i : Nat))) * 48271) (b := 2147483647) (by decide)
        show tSeq _ _ _ [some (.ref a), v1, some (.str z), some (.int (t : Nat)), some (.int (0 + (i : Nat))), some (V.int ((c % 1000000007 + (0 + (i : Nat))) * 48271 % 2147483647)), none, none, none, none] H5
        generalize (c % 1000000007 + (0 + (i : Nat))) * 48271 % 2147483647 = ce at k1 k2 ⊢
        have b64 : (2147483648 : Int) < 2 ^ 64 := by decide +kernel
        have n64 : -(2 : Int) ^ 64 < 0 := by decide +kernel
        refine ⟨_, rfl, _, rfl, _, _, rfl, rfl, .inl ⟨by omega, by omega⟩, _, _, rfl, rfl, (show (0 : Int) < 2147483647 by decide), ?_⟩
        have nxt : ∀ (z' : Str) (H' : Hp) (w4 w5 : Option V), Same H5 H' → Sx.Low (2 * b + 3) z' → ∃ (v4 v5 : Option V) (z'' : Str) (b' : Nat), [some (V.ref a), v1, some (.str z'), some (.int (t : Nat)), w4, w5, none, none, none, none] = [some (V.ref a), v1, some (.str z''), some (.int (t : Nat)), v4, v5, none, none, none, none] ∧ Same H H' ∧ Sx.Low b' z'' ∧ (i + 1 = 0 → b' ≤ 240) ∧ (i + 1 ≤ 1 → b' ≤ 483) ∧ (i + 1 ≤ 2 → b' ≤ 969) ∧ b' ≤ 1999 := fun z' H' w4 w5 s' hz' =>
          ⟨w4, w5, z', 2 * b + 3, rfl, s5.trans s', hz', fun h => by omega, fun h => by have := b0 (by omega); omega, fun h => by have := b1 (by omega); omega, by omega⟩
        refine ⟨_, rfl, _, _, rfl, rfl, (show (0 : Int) < 4 by decide), rfl, _, rfl, ite2 (fun _ => ?_) fun _ => ?_⟩
        · exact ⟨_, rfl, _, rfl, _, _, rfl, rfl, ⟨by decide, by decide⟩, z, _, b, rfl, hz, by omega, fun z' H' s' hz' => nxt z' H' _ _ s' hz'⟩
        refine ⟨_, rfl, _, _, rfl, rfl, (show (0 : Int) < 4 by decide), rfl, _, rfl, ite2 (fun _ => ?_) fun _ => ?_⟩
        · exact ⟨_, rfl, _, rfl, _, _, rfl, rfl, ⟨by decide, by decide⟩, z, _, b, rfl, hz, by omega, fun z' H' s' hz' => nxt z' H' _ _ s' hz'⟩
        · exact ⟨_, rfl, _, rfl, _, _, rfl, rfl, ⟨by decide, by decide⟩, z, _, b, rfl, hz, by omega, fun z' H' s' hz' => nxt z' H' _ _ s' hz'⟩
      · rintro σ H5 ⟨v4, v5, z, b, rfl, s5, hz, _, _, _, hb⟩
        exact ⟨v1, _, v4, v5, z, rfl, s5, hz.mono hb, hD⟩
    have sz : ∀ n : Nat, n ≤ 20000 → n ≤ sizeLine := fun n h => Nat.le_trans h (by decide)
    obtain ⟨cs0, hcs, _⟩ := Mir.cutV_ints ns (some 3) none
    refine ⟨_, rfl, _, rfl, a, _, rfl, hS, fun b hb => ?_⟩
    have s1 : Same H (upd H b (.lst (cutV (ns.map V.int) (some 3) none))) := same_upd hb
    refine ⟨_, rfl, a, ns, 0, rfl, s1.seq hS, fun c0 => ⟨c0, rfl, fun n hn => ⟨b, cs0, n, rfl, by rw [← hcs]; exact SqL.of upd_same, hn, fun l H1 ms hl s2 W hl1 => ?_⟩⟩⟩
    have s01 : Same H H1 := s1.trans s2
    refine ⟨_, rfl, _, rfl, a, ns, 1, rfl, s01.seq hS, fun c => ⟨l, n, ms, c, rfl, hl1, W, fun z cs H2 s12 hz DC hmem hcl => ?_⟩⟩
    obtain ⟨ok1, ok2⟩ := Sx.chains_ok W DC
    have hc40 : cs.length ≤ 40 := by omega
    obtain ⟨r1, r2, r3, r4, r5⟩ := Sx.text_reads hz (fun x hx => ok1 x.2 (hmem x hx)) hc40
    have e40 : (Sx.endsO cs).length ≤ 40 := by
      unfold Sx.endsO
      rw [← (Mt.sel_perm cs).flatten.length_eq, Mir.deco_len DC]
      exact W.small
    have hzL : Sx.Low 240 z := ⟨r1, by rw [Sx.len_tl, hz]; exact Sx.work_len (fun x hx => ⟨(ok1 x.2 (hmem x hx)).1, (ok1 x.2 (hmem x hx)).2.2⟩) e40⟩
    have sH2 : Same H H2 := s01.trans s12
    refine ⟨_, rfl, a, ns, 1, rfl, sH2.seq hS, fun c1 => ⟨_, _, rfl, rfl, ⟨by decide, by decide⟩, _, _, rfl, rfl, (show (0 : Int) < 3 by decide), _, _, rfl, rfl, ?_⟩⟩
    obtain ⟨t1, ht1, lt1⟩ : ∃ t : Nat, (1 : Int) + c1 / 221 % 3 = (t : Int) ∧ t ≤ 3 := ⟨((1 : Int) + c1 / 221 % 3).toNat, by omega, by omega⟩
    show tSeq _ _ _ [some (.ref a), some (.ref l), some (.str z), some (V.int ((1 : Int) + c1 / 221 % 3)), none, none, none, none, none, none] H2
    rw [ht1]
    refine ⟨_, rfl, a, ns, 1, rfl, sH2.seq hS, fun c2 => ⟨_, _, rfl, rfl, ⟨by decide, by decide⟩, _, _, rfl, rfl, (show (0 : Int) < 8 by decide), rfl, _, rfl, ite2 (fun _ => ?_) fun _ => ?_⟩⟩
    rotate_left
    · exact ⟨_, z, t1, rfl, sH2, hzL, lt1, rfl⟩
    refine ⟨rfl, ?_⟩
    refine ⟨_, rfl, a, ns, 1, rfl, sH2.seq hS, fun c3 => ⟨_, _, rfl, rfl, ⟨by decide, by decide⟩, _, _, rfl, rfl, (show (0 : Int) < 4 by decide), _, _, rfl, rfl, ?_⟩⟩
    obtain ⟨m, hm, lm⟩ : ∃ m : Nat, (39 : Int) + c3 / 5304 % 4 = (m : Int) ∧ m ≤ 42 := ⟨((39 : Int) + c3 / 5304 % 4).toNat, by omega, by omega⟩
    have b62 : (1000 : Int) < 2 ^ 62 := by decide +kernel
    have n62 : -(2 : Int) ^ 62 ≤ 0 := by decide +kernel
    have len1 : ("[" : Str).length = 1 := by decide +kernel
    have len2 : ("]" : Str).length = 1 := by decide +kernel
    have tl1 : Sx.tl ("[" : Str) = [91] := by decide +kernel
    have tl2 : Sx.tl ("]" : Str) = [93] := by decide +kernel
    refine ⟨(m : Int), congrArg (fun x => [V.int x]) hm, by omega, by omega, fun D1 hD1 => comp_range (lo := 0) (n := (m : Int).toNat) (fun i σ H5 => ∃ (v : Option V) (ts : List Str), σ = [v] ∧ Same H2 H5 ∧ H5 D1 = some (.lst (ts.map V.str)) ∧ ts.length = i ∧ ∀ t ∈ ts, t.length ≤ 4 ∧ ∀ c ∈ Sx.tl t, c < 128)
      ⟨none, [], rfl, same_upd hD1, upd_same, rfl, fun t ht => by cases ht⟩ ?_ ?_⟩
    · rintro i σ H5 hi ⟨v, ts, rfl, s5, h5, hts, hall⟩
      have hi : i < m := by omega
      obtain ⟨q1, q2⟩ := Sx.strs42 i (by omega)
      have e0 : (0 : Int) + (i : Nat) = ((i : Nat) : Int) := by omega
      rw [e0]
      have lg : ((i : Nat) : Int).natAbs.log2 < 1920 := by
        rw [Int.natAbs_natCast]
        exact Nat.lt_of_le_of_lt (Nat.log2_le_self _) (by omega)
      refine gYes ⟨_, rfl, _, rfl, lg, _, _, rfl, rfl, sz _ (by rw [len1]; omega), _, _, rfl, rfl, sz _ (by rw [strLen_append, len1, len2]; omega), ?_⟩
      refine ⟨_, h5, Nat.lt_of_le_of_lt (show (ts.map V.str).length ≤ 1000 by rw [List.length_map]; omega) (by decide), _, ts ++ [("[" : Str) ++ Str.ofString (toString ((i : Nat) : Int)) ++ ("]" : Str)], rfl, s5.upd hD1, by rw [upd_same, List.map_append]; rfl, by rw [List.length_append, hts]; rfl, fun t ht => ?_⟩
      rcases List.mem_append.mp ht with h | h
      · exact hall t h
      · rw [List.mem_singleton.mp h]
        refine ⟨by rw [strLen_append, strLen_append, len1, len2]; omega, fun x hx => ?_⟩
        rw [Sx.tl_app, Sx.tl_app, tl1, tl2] at hx
        rcases List.mem_append.mp hx with h | h
        · rcases List.mem_append.mp h with h | h
          · rw [List.mem_singleton.mp h]; decide
          · exact of_decide_eq_true (List.all_eq_true.mp q2 x h)
        · rw [List.mem_singleton.mp h]; decide
    rintro σ H5 ⟨v, ts, rfl, s5, h5, hts, hall⟩
    have sH5 := sH2.trans s5
    have lts : ts.length ≤ 42 := by omega
    refine ⟨_, D1, ts, rfl, rfl, h5, by rw [Sx.blank]; exact Sx.join_ok (by omega) fun x hx => by have := (hall x hx).1; omega, ?_⟩
    refine ⟨_, rfl, a, ns, 1, rfl, sH5.seq hS, fun c4 => ⟨_, _, rfl, rfl, ⟨by decide, by decide⟩, _, _, rfl, rfl, (show (0 : Int) < 2 by decide), ?_⟩⟩
    obtain ⟨t2, ht2, lt2⟩ : ∃ t : Nat, c4 / 221 % 2 = (t : Int) ∧ t ≤ 3 := ⟨(c4 / 221 % 2).toNat, by omega, by omega⟩
    refine ⟨some (.ref l), Txt.join (" " : Str) ts, t2, ?_, sH5, ?_, lt2, rfl⟩
    · show [some (V.ref a), some (V.ref l), some (V.str (Txt.join (" " : Str) ts)), some (V.int (c4 / 221 % 2)), none, none, none, none, none, none] = _
      rw [ht2]
    · rw [Sx.blank]
      refine Sx.low_join (fun t ht => (hall t ht).2) ?_
      have := Sx.wsum_le (m := 4) (ws := ts.map Sx.tl) fun x hx => by
        obtain ⟨t, ht, rfl⟩ := List.mem_map.mp hx
        exact (hall t ht).1
      rw [List.length_map] at this
      omega
end
theorem us0 {R : List Value → Prop} (h : ∀ _ : Unit, R []) (us : List Value) (e : us.length = 0) : R us := (List.length_eq_zero_iff.mp e) ▸ h ()
theorem us1 {R : List Value → Prop} (h : ∀ x0 : Value, R [x0]) (us : List Value) (e : us.length = 1) : R us := by
  obtain ⟨a, r, rfl⟩ := List.exists_cons_of_length_eq_add_one e
  exact us0 (R := fun r => R (a :: r)) (fun _ => h a) r (Nat.succ.inj e)
theorem us2 {R : List Value → Prop} (h : ∀ x0 x1 : Value, R [x0, x1]) (us : List Value) (e : us.length = 2) : R us := by
  obtain ⟨a, r, rfl⟩ := List.exists_cons_of_length_eq_add_one e
  exact us1 (R := fun r => R (a :: r)) (h a) r (Nat.succ.inj e)
theorem fn1 (x : Str) (st : Stmt) (p0 : Str) {K : PySem.W.Frag} {h : Heap} {mg : Str → Option Value} {f : Addr} {od an : Option Addr} {sl : Array (Option Value)} {oc kV dc pm cd ct : Value} (X : K.In h) (G : h.Ns mainGlobals mg) (a : PySem.W.nsIn K mainGlobals x = some (some (.ref f))) (l : K.lookup f = some ⟨oc, od, .func (PySem.W.fnOf x x (defArgs st) (defBody st) (defScope st) .none kV dc pm an cd ct), sl⟩) (c : PySem.W.codeIn K cd x = true) (k : PySem.W.keepIn K (.ref f) = true) (hb : ∀ (kV doc pm : Value) (an : Option Addr) (cdv ct : Value) (x0 : Value), bindArgs (PySem.W.fnOf x x (defArgs st) (defBody st) (defScope st) .none kV doc pm an cdv ct) ⟨[x0], []⟩ = pure (List.zip [p0] [x0])) : Fn K mg x st [p0] f (PySem.W.fnOf x x (defArgs st) (defBody st) (defScope st) .none kV dc pm an cd ct) :=
  Fn.mk' (fun_mk (st := st) l c k) (fun kV doc pm an cdv ct us hl => us1 (R := fun us => bindArgs _ ⟨us, []⟩ = pure (List.zip _ us)) (hb kV doc pm an cdv ct) us hl) (PySem.W.mg_of X G a)
theorem fn2 (x : Str) (st : Stmt) (p0 p1 : Str) {K : PySem.W.Frag} {h : Heap} {mg : Str → Option Value} {f : Addr} {od an : Option Addr} {sl : Array (Option Value)} {oc kV dc pm cd ct : Value} (X : K.In h) (G : h.Ns mainGlobals mg) (a : PySem.W.nsIn K mainGlobals x = some (some (.ref f))) (l : K.lookup f = some ⟨oc, od, .func (PySem.W.fnOf x x (defArgs st) (defBody st) (defScope st) .none kV dc pm an cd ct), sl⟩) (c : PySem.W.codeIn K cd x = true) (k : PySem.W.keepIn K (.ref f) = true) (hb : ∀ (kV doc pm : Value) (an : Option Addr) (cdv ct : Value) (x0 x1 : Value), bindArgs (PySem.W.fnOf x x (defArgs st) (defBody st) (defScope st) .none kV doc pm an cdv ct) ⟨[x0, x1], []⟩ = pure (List.zip [p0, p1] [x0, x1])) : Fn K mg x st [p0, p1] f (PySem.W.fnOf x x (defArgs st) (defBody st) (defScope st) .none kV dc pm an cd ct) :=
  Fn.mk' (fun_mk (st := st) l c k) (fun kV doc pm an cdv ct us hl => us2 (R := fun us => bindArgs _ ⟨us, []⟩ = pure (List.zip _ us)) (hb kV doc pm an cdv ct) us hl) (PySem.W.mg_of X G a)
theorem walk {l : PySem.W.OpenLaw} {q : Program} {loose : List Str} {XP : (Str → Option Value) → Heap → Prop} {YP : World → Heap → Prop} {d : DefRec} {K : Params → PySem.W.Frag} (hn : l.most = some 63) (hdf : d.params.defaults = [])
    (hY : ∀ (w : World) (h : Heap), YP w h → (K w.params).In h)
    (F : ∀ (w : World) (mg : Str → Option Value) (fa : Addr) (h : Heap), (K w.params).In h → h.Ns mainGlobals mg → mg d.name = some (.ref fa) →
      ∃ fd : FuncData, (∀ (s : Shared) (u : Value), BindsTo s fd ⟨[u], []⟩ [("script", u)]) ∧ ∀ base : Heap, (K w.params).In base → base.Ns mainGlobals mg → FnOk l.prog w (K w.params) mg base CX0 5 fa fd ["script"] (spLaw (K w.params))) :
    PySem.W.WalkO q loose XP YP l.row.toRowW d [] (fun f vs => PySem.call f vs) :=
  L2.walk_of (n := 63) (k := 5) (x := "script") (CX := fun _ => CX0) (sp := fun w => spLaw (K w.params)) hn (by decide) hdf ⟨rfl, by decide, by decide, rfl⟩ hY F (fun _ _ a ns hl _ hS => ⟨a, ns, rfl, hS, hl, fun _ => rfl⟩) fun _ _ _ _ _ z => z
end Law
noncomputable def PySem.W.Fast.tw5705834478663433817 := 0
noncomputable def PySem.W.Fast.tw1626292245317690072 := 0
noncomputable def PySem.W.Fast.tw16492829409994357716 := 0
noncomputable def PySem.W.Fast.tw8837474219668618176 := 0
noncomputable def PySem.W.Fast.tw11497231322607044333 := 0
noncomputable def PySem.W.Fast.tw14746148819423491339 := 0
noncomputable def PySem.W.Fast.tw12625036913928222501 := 0
noncomputable def PySem.W.Fast.tw17878711361320850971 := 0
noncomputable def PySem.W.Fast.tw6072465268600752062 := 0
noncomputable def PySem.W.Fast.tw11297962132791483224 := 0
noncomputable def PySem.W.Fast.tw9492222671713880772 := 0
noncomputable def PySem.W.Fast.tw11062020552289605890 := 0
noncomputable def PySem.W.Fast.tw3814897268562408682 := 0
noncomputable def PySem.W.Fast.tw16717180508285414828 := 0
noncomputable def PySem.W.Fast.tw3988949542057996395 := 0
noncomputable def PySem.W.Fast.tw12769914560048548750 := 0
noncomputable def PySem.W.Fast.tw17311426310167586410 := 0
noncomputable def PySem.W.Fast.tw5406966911037018721 := 0
noncomputable def PySem.W.Fast.tw3049944021606111148 := 0
noncomputable def PySem.W.Fast.tw14615070115577354655 := 0
noncomputable def PySem.W.Fast.tw3121337032364209072 := 0
noncomputable def PySem.W.Fast.tw7995711398044226805 := 0
noncomputable def PySem.W.Fast.tw1829396690251068464 := 0
noncomputable def PySem.W.Fast.tw16477112556226007573 := 0
noncomputable def PySem.W.Fast.tw6244070373249731792 := 0
noncomputable def PySem.W.Fast.tw12346349582472388610 := 0
noncomputable def PySem.W.Fast.tw885725805959809363 := 0
noncomputable def PySem.W.Fast.tw2898991773955053356 := 0
noncomputable def PySem.W.Fast.tw12656104413469174249 := 0
noncomputable def PySem.W.Fast.tw8557606147761936340 := 0
noncomputable def PySem.W.Fast.tw2691372059243273411 := 0
noncomputable def PySem.W.Fast.tw15735180335722407009 := 0
noncomputable def PySem.W.Fast.tw7528136255215071076 := 0
noncomputable def PySem.W.Fast.tw8858400055803029898 := 0
noncomputable def PySem.W.Fast.tw16399947252007239654 := 0
noncomputable def PySem.W.Fast.tw12853341105448933225 := 0
noncomputable def PySem.W.Fast.tw17095174817636606748 := 0
noncomputable def PySem.W.Fast.tw6611402659580011296 := 0
noncomputable def PySem.W.Fast.tw11890348145201855717 := 0
noncomputable def PySem.W.Fast.tw1215398432186071332 := 0
noncomputable def PySem.W.Fast.tw540381513084785367 := 0
noncomputable def PySem.W.Fast.tw3695459067779125177 := 0
noncomputable def PySem.W.Fast.tw9087909233167814538 := 0
noncomputable def PySem.W.Fast.tw4669755177262684083 := 0
noncomputable def PySem.W.Fast.tw6905856720825364621 := 0
noncomputable def PySem.W.Fast.tw5133067731558881965 := 0
noncomputable def PySem.W.Fast.tw15633735727045677139 := 0
noncomputable def PySem.W.Fast.tw10764916090702057013 := 0
noncomputable def PySem.W.Fast.tw7671912718856559024 := 0
noncomputable def PySem.W.Fast.tw175207353623524500 := 0
noncomputable def PySem.W.Fast.tw5288698236675145864 := 0
noncomputable def PySem.W.Fast.tw5692841383448999163 := 0
noncomputable def PySem.W.Fast.tw15692113594048834357 := 0
noncomputable def PySem.W.Fast.tw17672678733450314307 := 0
noncomputable def PySem.W.Fast.tw6812992866371030988 := 0
noncomputable def PySem.W.Fast.tw2805479305179558530 := 0
noncomputable def PySem.W.Fast.tw661984693747862412 := 0
noncomputable def PySem.W.Fast.tw15093909462629925219 := 0
noncomputable def PySem.W.Fast.tw3415711063773712361 := 0
noncomputable def PySem.W.Fast.tw5604263916769807607 := 0
open PySem PySem.W PyProof.Rows
set_option maxRecDepth 100000 in
set_option maxHeartbeats 0 in
theorem PySem.Challenge.cw_claspwork_k10_whole_texts_of_works_holds : PySem.Challenge.rw_claspwork_k10_whole_texts_of_works.Holds := by
  w_on; o_law; k_head; (case hw => w_witness2)
  k_fill
  refine Law.walk (l := PySem.Challenge.rw_claspwork_k10_whole_texts_of_works) rfl rfl (fun w h Y => PySem.W.kIn_of Y) ?F
  case F =>
    intro w mg fa h X G hmg
    have F0 := Law.fn2 "is_end" Law.s_is_end "number" "ends" X G (by k_is) (by k_is) (by k_is) (by k_is) fun _ _ _ _ _ _ _ _ => rfl
    have F1 := Law.fn1 "far_end" Law.s_far_end "end" X G (by k_is) (by k_is) (by k_is) (by k_is) fun _ _ _ _ _ _ _ => rfl
    have F2 := Law.fn2 "work_by" Law.s_work_by "staves" "clasps" X G (by k_is) (by k_is) (by k_is) (by k_is) fun _ _ _ _ _ _ _ _ => rfl
    have F3 := Law.fn1 "each_stave_once" Law.s_each_stave_once "ends" X G (by k_is) (by k_is) (by k_is) (by k_is) fun _ _ _ _ _ _ _ => rfl
    have F4 := Law.fn2 "work_from" Law.s_work_from "rows" "rings" X G (by k_is) (by k_is) (by k_is) (by k_is) fun _ _ _ _ _ _ _ _ => rfl
    have F5 := Law.fn1 "entered_ends" Law.s_entered_ends "chains" X G (by k_is) (by k_is) (by k_is) (by k_is) fun _ _ _ _ _ _ _ => rfl
    have F6 := Law.fn1 "inner_clasps" Law.s_inner_clasps "chain" X G (by k_is) (by k_is) (by k_is) (by k_is) fun _ _ _ _ _ _ _ => rfl
    have F7 := Law.fn1 "read_work" Law.s_read_work "text" X G (by k_is) (by k_is) (by k_is) (by k_is) fun _ _ _ _ _ _ _ => rfl
    have F8 := Law.fn1 "read_chains" Law.s_read_chains "text" X G (by k_is) (by k_is) (by k_is) (by k_is) fun _ _ _ _ _ _ _ => rfl
    have F9 := Law.fn1 "opening_bracket" Law.s_opening_bracket "word" X G (by k_is) (by k_is) (by k_is) (by k_is) fun _ _ _ _ _ _ _ => rfl
    have F10 := Law.fn1 "read_stave" Law.s_read_stave "word" X G (by k_is) (by k_is) (by k_is) (by k_is) fun _ _ _ _ _ _ _ => rfl
    have F11 := Law.fn1 "words_of_text" Law.s_words_of_text "text" X G (by k_is) (by k_is) (by k_is) (by k_is) fun _ _ _ _ _ _ _ => rfl
    have F12 := Law.fn2 "read_number" Law.s_read_number "word" "most" X G (by k_is) (by k_is) (by k_is) (by k_is) fun _ _ _ _ _ _ _ _ => rfl
    have F13 := Law.fn2 "_law_cell_at" Law.s_law_cell_at "script" "k" X G (by k_is) (by k_is) (by k_is) (by k_is) fun _ _ _ _ _ _ _ _ => rfl
    have F14 := Law.fn1 "_law_whole" Law.s_law_whole "found" X G (by k_is) (by k_is) (by k_is) (by k_is) fun _ _ _ _ _ _ _ => rfl
    have F15 := Law.fn1 "_law_staves" Law.s_law_staves "cell" X G (by k_is) (by k_is) (by k_is) (by k_is) fun _ _ _ _ _ _ _ => rfl
    have F16 := Law.fn2 "_law_mates" Law.s_law_mates "flow" "staves" X G (by k_is) (by k_is) (by k_is) (by k_is) fun _ _ _ _ _ _ _ _ => rfl
    have F17 := Law.fn2 "_law_numbers" Law.s_law_numbers "found" "due" X G (by k_is) (by k_is) (by k_is) (by k_is) fun _ _ _ _ _ _ _ _ => rfl
    have F18 := Law.fn1 "_law_far" Law.s_law_far "end" X G (by k_is) (by k_is) (by k_is) (by k_is) fun _ _ _ _ _ _ _ => rfl
    have F19 := Law.fn2 "_law_chain" Law.s_law_chain "mates" "start" X G (by k_is) (by k_is) (by k_is) (by k_is) fun _ _ _ _ _ _ _ _ => rfl
    have F20 := Law.fn1 "_law_chains" Law.s_law_chains "mates" X G (by k_is) (by k_is) (by k_is) (by k_is) fun _ _ _ _ _ _ _ => rfl
    have F21 := Law.fn1 "_law_back" Law.s_law_back "chain" X G (by k_is) (by k_is) (by k_is) (by k_is) fun _ _ _ _ _ _ _ => rfl
    have F22 := Law.fn2 "_law_written" Law.s_law_written "chain" "brackets" X G (by k_is) (by k_is) (by k_is) (by k_is) fun _ _ _ _ _ _ _ _ => rfl
    have F23 := Law.fn2 "_law_text_else" Law.s_law_text_else "mates" "cell" X G (by k_is) (by k_is) (by k_is) (by k_is) fun _ _ _ _ _ _ _ _ => rfl
    have F24 := Law.fn1 "_law_sign_by" Law.s_law_sign_by "cell" X G (by k_is) (by k_is) (by k_is) (by k_is) fun _ _ _ _ _ _ _ => rfl
    have F25 := Law.fn2 "_law_sign_spoiled" Law.s_law_sign_spoiled "text" "cell" X G (by k_is) (by k_is) (by k_is) (by k_is) fun _ _ _ _ _ _ _ _ => rfl
    have F26 := Law.fn2 "_law_part_spoiled" Law.s_law_part_spoiled "text" "cell" X G (by k_is) (by k_is) (by k_is) (by k_is) fun _ _ _ _ _ _ _ _ => rfl
    have F27 := Law.fn2 "_law_number_spoiled" Law.s_law_number_spoiled "text" "cell" X G (by k_is) (by k_is) (by k_is) (by k_is) fun _ _ _ _ _ _ _ _ => rfl
    have F28 := Law.fn1 "_law_stave" Law.s_law_stave "text" X G (by k_is) (by k_is) (by k_is) (by k_is) fun _ _ _ _ _ _ _ => rfl
    have F29 := Law.fn1 "_law_read_chains" Law.s_law_read_chains "text" X G (by k_is) (by k_is) (by k_is) (by k_is) fun _ _ _ _ _ _ _ => rfl
    have F30 := Law.fn1 "_law_read" Law.s_law_read "text" X G (by k_is) (by k_is) (by k_is) (by k_is) fun _ _ _ _ _ _ _ => rfl
    have F31 := Law.fn1 "law" Law.s_law "script" X G (by k_is) (by k_is) (by k_is) (by k_is) fun _ _ _ _ _ _ _ => rfl
    cases hmg.symm.trans F31.g
    have g_BadWork := PySem.W.mg_of (n := "BadWork") X G (by k_is)
    have g_NoText := PySem.W.mg_of (n := "NoText") X G (by k_is)
    have g_ClaspError := PySem.W.mg_of (n := "ClaspError") X G (by k_is)
    have g_MOST_STAVES := PySem.W.mg_of (n := "MOST_STAVES") X G (by k_is)
    have g_FIGURES := PySem.W.mg_of (n := "FIGURES") X G (by k_is)
    have g_CLOSING := PySem.W.mg_of (n := "CLOSING") X G (by k_is)
    refine' ⟨_, fun s v => .of_eq rfl, fun base _ _ => Law.ok_law ⟨PySem.W.mg_none_of X G (by k_is), PySem.W.mg_none_of X G (by k_is), PySem.W.mg_none_of X G (by k_is), PySem.W.mg_none_of X G (by k_is), PySem.W.mg_none_of X G (by k_is), PySem.W.mg_none_of X G (by k_is), PySem.W.mg_none_of X G (by k_is), PySem.W.mg_none_of X G (by k_is), PySem.W.mg_none_of X G (by k_is), PySem.W.mg_none_of X G (by k_is), PySem.W.mg_none_of X G (by k_is), PySem.W.mg_none_of X G (by k_is), PySem.W.mg_none_of X G (by k_is)⟩ ⟨g_BadWork, ⟨_, _, _, _, (by kernel_rfl), PySem.F.excBase_ValueError⟩⟩ ⟨g_NoText, ⟨_, _, _, _, (by kernel_rfl), PySem.F.excBase_ValueError⟩⟩ g_ClaspError g_MOST_STAVES g_FIGURES g_CLOSING (by k_is) ⟨(by k_is), (by k_is), (by k_is), (by k_is), (by k_is), (by k_is), (by k_is), (by kernel_rfl)⟩ (by kernel_rfl) (by kernel_rfl) (by kernel_rfl) (by kernel_rfl) (by kernel_rfl) (by kernel_rfl) F0 F1 F2 F3 F4 F5 F6 F7 F8 F9 F10 F11 F12 F13 F14 F15 F16 F17 F18 F19 F20 F21 F22 F23 F24 F25 F26 F27 F28 F29 F30 F31⟩


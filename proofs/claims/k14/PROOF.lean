import PyProof.Rows.All
import Wide.All
import OpenK.AllK
import Wide.FinOn
import Lean
import PyProof.EqAt
import PyProof.EqKinds
import PyProof.TupleCall
import PyProof.SumWalkG
import KE.KTryMore
import PyProof.NeKinds
import PyProof.ExcAttrAll.ValueError
import KE.KRevIter
import PyProof.ReprRoads
import PyProof.ReprLen
import KE.BitLaws
import PyProof.TupleOfSeq
import PyProof.Rows.SetFrom
import PyProof.DictUpdate
import PyProof.Rows.SortRuns
import PyProof.Rows.SortShell
import KE.KIntText
import PyProof.StrLoop
import PyProof.StrWalks
import PyProof.StrCalls2
import PyProof.ConsumeWalk
import PyProof.StrLawsRepr
import KE.KSortKey
import PySem.Challenge.RW_claspwork_k14_what_deeds_do
set_option Elab.async false
set_option linter.all false
set_option maxRecDepth 100000
namespace L2
open PySem PySem.Spec PyProof.Rows

abbrev Key := Sum Int Str
def keyIs : Key → Value → Bool
  | .inl k, v => Value.isInt k v
  | .inr x, v => Value.isStrOf x v
def keyH (w : World) : Key → Int
  | .inl k => hashInt k
  | .inr x => hashStr w x
theorem keyIs_shape : ∀ {k : Key} {v : Value}, keyIs k v = true → (∃ i t, k = Sum.inl i ∧ v = Value.int i t) ∨ (∃ x t, k = Sum.inr x ∧ v = Value.str x t)
  | .inl i, v, h => by
    obtain ⟨t, e⟩ := Value.isInt_shape (k := i) (v := v) h
    exact .inl ⟨i, t, rfl, e⟩
  | .inr x, v, h => by
    obtain ⟨t, e⟩ := Value.isStrOf_shape (x := x) (v := v) h
    exact .inr ⟨x, t, rfl, e⟩
theorem keyIs_int (i : Int) (t : Tok) : keyIs (.inl i) (.int i t) = true := by simp [keyIs, Value.isInt]
theorem keyIs_str (x : Str) (t : Tok) : keyIs (.inr x) (.str x t) = true := by simp [keyIs, Value.isStrOf]
theorem key_ll (a b : Int) : decide ((Sum.inl a : Key) = Sum.inl b) = (a == b) := by
  by_cases e : a = b
  · subst e; simp
  · have h : ¬ (Sum.inl a : Key) = Sum.inl b := fun q => e (Sum.inl.inj q)
    rw [decide_eq_false h]
    exact (beq_eq_false_iff_ne.mpr e).symm
theorem key_rr (a b : Str) : decide ((Sum.inr a : Key) = Sum.inr b) = decide (a = b) := by
  by_cases e : a = b
  · subst e; simp
  · have h : ¬ (Sum.inr a : Key) = Sum.inr b := fun q => e (Sum.inr.inj q)
    rw [decide_eq_false h, decide_eq_false e]
theorem key_lr (a : Int) (b : Str) : decide ((Sum.inl a : Key) = Sum.inr b) = false := decide_eq_false (fun q => nomatch q)
theorem key_rl (a : Str) (b : Int) : decide ((Sum.inr a : Key) = Sum.inl b) = false := decide_eq_false (fun q => nomatch q)

def mixKind (prog : Program) (w : World) : PySem.KeyKind prog w Key where
  is := keyIs
  hash := keyH w
  inj := fun v a b ha hb => by
    rcases keyIs_shape ha with ⟨i, t, rfl, rfl⟩ | ⟨x, t, rfl, rfl⟩
    · rcases keyIs_shape hb with ⟨j, u, rfl, e⟩ | ⟨y, u, rfl, e⟩
      · injection e with e1 _; rw [e1]
      · exact nomatch e
    · rcases keyIs_shape hb with ⟨j, u, rfl, e⟩ | ⟨y, u, rfl, e⟩
      · exact nomatch e
      · injection e with e1 _; rw [e1]
  byValue := fun k v h => by
    rcases keyIs_shape h with ⟨i, t, rfl, rfl⟩ | ⟨x, t, rfl, rfl⟩ <;> rfl
  pyHash := fun hv h => by
    rcases keyIs_shape hv with ⟨i, t, rfl, rfl⟩ | ⟨x, t, rfl, rfl⟩
    · exact wpAny_pyHash_int h
    · exact wpAny_pyHash_str h
  eqBool := fun hu hv h => by
    rcases keyIs_shape hu with ⟨i, t, rfl, rfl⟩ | ⟨x, t, rfl, rfl⟩
    · rcases keyIs_shape hv with ⟨j, u, rfl, rfl⟩ | ⟨y, u, rfl, rfl⟩
      · rw [key_ll] at h; exact wpAny_eqBool_int h
      · rw [key_lr] at h; exact SeqAt.EqAt.int_str i t y u _ _ _ _ h
    · rcases keyIs_shape hv with ⟨j, u, rfl, rfl⟩ | ⟨y, u, rfl, rfl⟩
      · rw [key_rl] at h; exact SeqAt.EqAt.str_int x t j u _ _ _ _ h
      · rw [key_rr] at h; exact wpAny_eqBool_str h
  «strs» := fun k x t v h => by
    rcases keyIs_shape h with ⟨i, u, rfl, e⟩ | ⟨y, u, rfl, e⟩
    · exact nomatch e
    · injection e with e1 _
      subst e1
      cases v <;> rfl

theorem mixKind_int (prog : Program) (w : World) (i : Int) (t : Tok) : (mixKind prog w).is (.inl i) (.int i t) = true := keyIs_int i t
theorem mixKind_str (prog : Program) (w : World) (x : Str) (t : Tok) : (mixKind prog w).is (.inr x) (.str x t) = true := keyIs_str x t
end L2

namespace L2
open PySem PySem.Spec PyProof.Rows

inductive V where
  | non | bl (b : Bool) | int (i : Int) | str (x : Str) | byt (b : Array UInt8) | flt (b : UInt64) | ref (a : Addr) | ty (n : String)
  deriving DecidableEq

def RelV : V → Value → Prop
  | .non, u => u = Value.none
  | .bl b, u => u = Value.bool b
  | .int i, u => ∃ t, u = Value.int i t
  | .str x, u => ∃ t, u = Value.str x t
  | .byt b, u => ∃ t, u = Value.bytes b t
  | .flt b, u => ∃ t, u = Value.float b t
  | .ref a, u => u = Value.ref a
  | .ty n, u => u = Value.type n

abbrev Vals : List V → List Value → Prop := Paired RelV
theorem Vals.length {xs : List V} {us : List Value} (r : Vals xs us) : xs.length = us.length := Paired.length r
theorem Vals.get : ∀ {xs : List V} {us : List Value} {i : Nat} {x : V}, Vals xs us → xs[i]? = some x → ∃ u, us[i]? = some u ∧ RelV x u
  | _, _, _, _, .nil, e => by simp at e
  | _, _, 0, _, .cons r _, e => by simp at e; subst e; exact ⟨_, rfl, r⟩
  | _, _, i + 1, x, .cons _ t, e => by
    obtain ⟨u, h1, h2⟩ := Vals.get (i := i) (x := x) t (by simpa using e)
    exact ⟨u, by simpa using h1, h2⟩
theorem Vals.set {x : V} {u : Value} (r : RelV x u) : ∀ {xs : List V} {us : List Value} (i : Nat), Vals xs us → Vals (xs.set i x) (us.set i u)
  | _, _, _, .nil => .nil
  | _, _, 0, .cons _ t => .cons r t
  | _, _, i + 1, .cons q t => .cons q (Vals.set r i t)
theorem Vals.append : ∀ {xs ys : List V} {us ws : List Value}, Vals xs us → Vals ys ws → Vals (xs ++ ys) (us ++ ws)
  | _, _, _, _, .nil, s => s
  | _, _, _, _, .cons r t, s => .cons r (Vals.append t s)
theorem Vals.take : ∀ {xs : List V} {us : List Value} (n : Nat), Vals xs us → Vals (xs.take n) (us.take n)
  | _, _, 0, _ => .nil
  | _, _, _ + 1, .nil => .nil
  | _, _, n + 1, .cons r t => .cons r (Vals.take n t)
theorem Vals.drop : ∀ {xs : List V} {us : List Value} (n : Nat), Vals xs us → Vals (xs.drop n) (us.drop n)
  | _, _, 0, r => r
  | _, _, _ + 1, .nil => .nil
  | _, _, n + 1, .cons _ t => Vals.drop n t
def RelO : Option V → Option Value → Prop
  | some v, some u => RelV v u
  | none, none => True
  | _, _ => False
def KV {κ : Type} : List (κ × V) → List (κ × Value) → Prop := Paired fun (p : κ × V) (q : κ × Value) => p.1 = q.1 ∧ RelV p.2 q.2

def kV : Key → V
  | .inl i => .int i
  | .inr x => .str x

inductive HO where
  | lst (xs : List V)
  | tup (xs : List V)
  | dK (kvs : List (Key × V)) | dT (kvs : List (List Key × V))
  | set (S : Int → Bool) (n : Nat)
  | ins (C dx : Addr) (fs : List (Str × V))
  | own (x : Addr)
  | xd (fs : List (Str × V))
  | met (f x : Addr)
  | rng (lo hi : Int)
  | frz (o : Obj) (u : HO)
  | tbl (ps : Array Value)
  | ext (φ : Heap → Prop)

abbrev Hp := Addr → Option HO
def upd (H : Hp) (a : Addr) (o : HO) : Hp := fun b => if b = a then some o else H b
theorem upd_same {H : Hp} {a : Addr} {o : HO} : upd H a o a = some o := by unfold upd; rw [if_pos rfl]
theorem upd_ne {H : Hp} {a b : Addr} {o : HO} (h : b ≠ a) : upd H a o b = H b := by unfold upd; rw [if_neg h]
theorem ne_of {H : Hp} {a b : Addr} {o u : HO} (h : H a = some o) (h' : H b = some u) (d : o ≠ u) : a ≠ b := by
  intro e; subst e; rw [h] at h'; exact d (Option.some.inj h')
theorem ne_of_none {H : Hp} {a b : Addr} {o : HO} (h : H a = some o) (h' : H b = none) : a ≠ b := by
  intro e; subst e; rw [h] at h'; cases h'

section
variable (P : Program) (w : World)
def ObjOk (H : Hp) (h : Heap) (a : Addr) : HO → Prop
  | .lst xs => xs.length ≤ sizeLine ∧ ∃ (its : List Value) (n : Nat), Vals xs its ∧ h.get? a = some { cls := .type "list", data := .seq its.toArray n }
  | .tup xs => xs.length ≤ sizeLine ∧ ∃ its : List Value, Vals xs its ∧ IsTup h a its.toArray
  | .dK kvs => kvs.length ≤ sizeLine ∧ (a == sysModules) = false ∧ ∃ vs, KV kvs vs ∧ h.DictOf (mixKind P w) a vs
  | .dT kvs => kvs.length ≤ sizeLine ∧ (a == sysModules) = false ∧ ∃ xs : List (List Key × Addr × Value),
      Paired (fun (p : List Key × V) (q : List Key × Addr × Value) => p.1 = q.1 ∧ H q.2.1 = some (.tup (p.1.map kV)) ∧ RelV p.2 q.2.2) kvs xs ∧
      ∃ o es ep, h.get? a = some o ∧ o.ExactDict ∧ o.data = .dict es ep ∧ es.toList = xs.map (entryOfKey (tupleKind (mixKind P w))) ∧ (xs.map (·.1)).Nodup
  | .set S n => h.SetOf (intKind P w) a S n
  | .ins C dx fs => H dx = some (.own a) ∧ fs.length ≤ 1000 ∧ dx ≠ a ∧ h.get? a = some (PySem.W.instObj C dx) ∧
      ∃ mA, h.Ns1 dx mA ∧ (∀ f, RelO (fs.lookup f) (mA f)) ∧ PySem.Within mA (fs.map (·.1))
  | .own _ => ∃ o, h.get? a = some o
  | .xd fs => ∃ mA, h.Ns1 a mA ∧ ∀ f, RelO (fs.lookup f) (mA f)
  | .rng lo hi => ∃ t u v, h.get? a = some { cls := .type "range", data := .fields #[.int lo t, .int hi u, .int 1 v] }
  | .frz o u => h.get? a = some o ∧ ObjOk H h a u
  | .tbl ps => h.get? a = some { cls := .none, data := .fields ps }
  | .met f x => h.get? a = some (PySem.W.methodObj (.ref f) (.ref x))
  | .ext φ => φ h ∧ (∃ o, h.get? a = some o) ∧ ∀ h1 h2 : Heap, φ h1 → (∀ o, h1.get? a = some o → h2.get? a = some o) → φ h2
def HOk (H : Hp) (h : Heap) : Prop := ∀ a o, H a = some o → ObjOk P w H h a o
end

section
variable {P : Program} {w : World} {H H' : Hp} {h h' : Heap} {a : Addr} {o : HO}
theorem ObjOk.lt (x : ObjOk P w H h a o) : a < h.objs.size := by
  cases o with
  | lst xs => obtain ⟨_, _, _, _, e⟩ := x; exact Heap.lt_size e
  | tup xs => obtain ⟨_, _, _, p⟩ := x; exact p.lt
  | dK kvs => obtain ⟨_, _, _, _, o, _, _, e, _⟩ := x; exact Heap.lt_size e
  | dT kvs => obtain ⟨_, _, _, _, o, _, _, e, _⟩ := x; exact Heap.lt_size e
  | set S n => obtain ⟨o, _, _, _, e, _⟩ := x; exact Heap.lt_size e
  | ins C dx fs => obtain ⟨_, _, _, e, _⟩ := x; exact Heap.lt_size e
  | own y => obtain ⟨_, e⟩ := x; exact Heap.lt_size e
  | xd fs => obtain ⟨_, ⟨_, _, _, e, _⟩, _⟩ := x; exact Heap.lt_size e
  | rng lo hi => obtain ⟨_, _, _, e⟩ := x; exact Heap.lt_size e
  | frz ob u => obtain ⟨e, _⟩ := x; exact Heap.lt_size e
  | tbl ps => exact Heap.lt_size (show h.get? a = some _ from x)
  | met f y => exact Heap.lt_size (show h.get? a = some _ from x)
  | ext φ => obtain ⟨_, ⟨_, e⟩, _⟩ := x; exact Heap.lt_size e
theorem Paired.mapP {α β : Type} {F G : α → β → Prop} : ∀ {l₁ : List α} {l₂ : List β}, Paired F l₁ l₂ → (∀ a b, F a b → G a b) → Paired G l₁ l₂
  | _, _, .nil, _ => .nil
  | _, _, .cons r t, f => .cons (f _ _ r) (Paired.mapP t f)
theorem ObjOk.stay (x : ObjOk P w H h a o) (k : ∀ b u, (b = a ∨ H b = some (.own a)) → h.get? b = some u → h'.get? b = some u)
    (ho : ∀ b, H b = some (.own a) → H' b = some (.own a)) (ht : ∀ b xs, H b = some (.tup xs) → H' b = some (.tup xs)) : ObjOk P w H' h' a o := by
  induction o with
  | lst xs => obtain ⟨z, its, n, r, e⟩ := x; exact ⟨z, its, n, r, k _ _ (.inl rfl) e⟩
  | tup xs => obtain ⟨z, its, r, ob, e, c⟩ := x; exact ⟨z, its, r, ob, k _ _ (.inl rfl) e, c⟩
  | dK kvs => obtain ⟨z, y, vs, r, ob, es, ep, e, c⟩ := x; exact ⟨z, y, vs, r, ob, es, ep, k _ _ (.inl rfl) e, c⟩
  | dT kvs =>
    obtain ⟨z, y, xs, r, ob, es, ep, e, c⟩ := x
    exact ⟨z, y, xs, Paired.mapP r fun p q z => ⟨z.1, ht _ _ z.2.1, z.2.2⟩, ob, es, ep, k _ _ (.inl rfl) e, c⟩
  | set S n => obtain ⟨ob, es, ep, t, e, c⟩ := x; exact ⟨ob, es, ep, t, k _ _ (.inl rfl) e, c⟩
  | ins C dx fs =>
    obtain ⟨d, z, ne, e, mA, ⟨od, es, ep, e2, c⟩, r⟩ := x
    exact ⟨ho _ d, z, ne, k _ _ (.inl rfl) e, mA, ⟨od, es, ep, k _ _ (.inr d) e2, c⟩, r⟩
  | own y => obtain ⟨ob, e⟩ := x; exact ⟨ob, k _ _ (.inl rfl) e⟩
  | xd fs => obtain ⟨mA, ⟨od, es, ep, e, c⟩, r⟩ := x; exact ⟨mA, ⟨od, es, ep, k _ _ (.inl rfl) e, c⟩, r⟩
  | rng lo hi => obtain ⟨t, u, v, e⟩ := x; exact ⟨t, u, v, k _ _ (.inl rfl) e⟩
  | frz ob u ih => obtain ⟨e, q⟩ := x; exact ⟨k _ _ (.inl rfl) e, ih q⟩
  | tbl ps =>
    have e : h.get? a = some { cls := .none, data := .fields ps } := x
    show h'.get? a = some { cls := .none, data := .fields ps }
    exact k a _ (.inl rfl) e
  | met f y =>
    have e : h.get? a = some (PySem.W.methodObj (.ref f) (.ref y)) := x
    show h'.get? a = some (PySem.W.methodObj (.ref f) (.ref y))
    exact k a _ (.inl rfl) e
  | ext φ => obtain ⟨p, ⟨o, e⟩, st⟩ := x; exact ⟨st _ _ p fun o q => k _ _ (.inl rfl) q, ⟨o, k _ _ (.inl rfl) e⟩, st⟩
theorem HOk.lt (x : HOk P w H h) (e : H a = some o) : a < h.objs.size := (x a o e).lt
theorem HOk.fresh (x : HOk P w H h) (e : h.objs.size ≤ a) : H a = none := by
  cases q : H a with
  | none => rfl
  | some u => exact absurd (Nat.lt_of_lt_of_le (x.lt q) e) (Nat.lt_irrefl _)
theorem HOk.kept (x : HOk P w H h) (k : ∀ b u, h.get? b = some u → h'.get? b = some u) : HOk P w H h' := fun a o e =>
  (x a o e).stay (fun b u _ q => k b u q) (fun _ q => q) fun _ _ q => q
theorem HOk.laid (x : HOk P w H h) (k : ∀ b u, h.get? b = some u → h'.get? b = some u) (hp : h.objs.size ≤ a) (new : ObjOk P w (upd H a o) h' a o) : HOk P w (upd H a o) h' := fun b u e => by
  have hn := x.fresh hp
  by_cases hb : b = a
  · subst hb; rw [upd_same] at e; cases e; exact new
  · rw [upd_ne hb] at e
    exact (x b u e).stay (fun c v _ q => k c v q) (fun c q => by rw [upd_ne (ne_of_none q hn)]; exact q) fun c xs q => by rw [upd_ne (ne_of_none q hn)]; exact q
end

def Rd (H : Hp) (a : Addr) (u : HO) : Prop := H a = some u ∨ ∃ o, H a = some (.frz o u)
theorem Rd.ok {P : Program} {w : World} {H : Hp} {h : Heap} {a : Addr} {u : HO} (r : Rd H a u) (x : HOk P w H h) : ObjOk P w H h a u := by
  rcases r with r | ⟨o, r⟩
  · exact x a u r
  · obtain ⟨_, q⟩ := x a _ r
    exact q
def Mut : Option HO → Prop
  | some (.lst _) => True
  | some (.dK _) => True
  | some (.dT _) => True
  | some (.set _ _) => True
  | some (.ins _ _ _) => True
  | some (.ext _) => True
  | _ => False
section
variable {P : Program} {w : World} {H : Hp} {h h' : Heap} {x e : Addr} {o' : HO}
theorem HOk.write (ok : HOk P w H h) (mu : Mut (H x)) (he : e = x ∨ H e = some (.own x)) (k : ∀ b u, b ≠ e → h.get? b = some u → h'.get? b = some u) (heo : ∃ u, h'.get? e = some u)
    (new : ObjOk P w (upd H x o') h' x o') : HOk P w (upd H x o') h' := fun b u q => by
  have nown : ∀ c y, H c = some (.own y) → c ≠ x := fun c y r z => by subst z; rw [r] at mu; exact mu
  have ntup : ∀ c xs, H c = some (.tup xs) → c ≠ x := fun c xs r z => by subst z; rw [r] at mu; exact mu
  by_cases hb : b = x
  · subst hb; rw [upd_same] at q; cases q; exact new
  · rw [upd_ne hb] at q
    by_cases hbe : b = e
    · have q' : H b = some (.own x) := by
        rcases he with z | z
        · exact absurd (hbe.trans z) hb
        · rw [hbe]; exact z
      rw [q] at q'; cases q'
      obtain ⟨v, hv⟩ := heo
      exact ⟨v, by rw [hbe]; exact hv⟩
    · refine (ok b u q).stay (fun c v hc r => k c v ?_ r) (fun c r => by rw [upd_ne (nown c b r)]; exact r) fun c xs r => by rw [upd_ne (ntup c xs r)]; exact r
      rcases hc with rfl | hc
      · exact hbe
      · rintro rfl
        rcases he with z | z
        · exact nown c b hc z
        · rw [hc] at z; cases z; exact hb rfl
end

structure Un (fs ex : List Addr) (H H' : Hp) (h h' : Heap) : Prop where
  keep : ∀ b o, h.get? b = some o → H b = none → b ∉ fs → b ∉ ex → h'.get? b = some o
  slot : ∀ b o, h.get? b = some o → H b = none → b ∈ fs → b ∉ ex → ∃ sl, h'.get? b = some { o with slots := sl }
  free : ∀ b o, h.get? b = some o → H b = none → b ∉ ex → H' b = none
  there : ∀ b o, h.get? b = some o → b ∉ ex → ∃ o', h'.get? b = some o'
  tups : ∀ b xs, H b = some (.tup xs) → H' b = some (.tup xs)
  frzs : ∀ b o u, H b = some (.frz o u) → H' b = some (.frz o u)
  tbls : ∀ b ps, H b = some (.tbl ps) → ∃ more, H' b = some (.tbl (ps ++ more))
section
variable {fs fs' ex ex' : List Addr} {H H1 H2 : Hp} {h h1 h2 h' : Heap} {a x e : Addr} {o : HO}
theorem Un.any (u : Un fs ex H H1 h h1) {b : Addr} {ob : Obj} (q : h.get? b = some ob) (n : H b = none) (hx : b ∉ ex) : ∃ sl, h1.get? b = some { ob with slots := sl } := by
  by_cases hb : b ∈ fs
  · exact u.slot b ob q n hb hx
  · exact ⟨ob.slots, u.keep b ob q n hb hx⟩
theorem Un.trans (a : Un fs ex H H1 h h1) (b : Un fs ex H1 H2 h1 h2) : Un fs ex H H2 h h2 where
  keep := fun c ob q n hc hx => b.keep c ob (a.keep c ob q n hc hx) (a.free c ob q n hx) hc hx
  slot := fun c ob q n hc hx => by
    obtain ⟨sl, e1⟩ := a.slot c ob q n hc hx
    obtain ⟨sl', e2⟩ := b.slot c _ e1 (a.free c ob q n hx) hc hx
    exact ⟨sl', e2⟩
  free := fun c ob q n hx => by
    obtain ⟨o', e1⟩ := a.there c ob q hx
    exact b.free c o' e1 (a.free c ob q n hx) hx
  there := fun c ob q hx => by
    obtain ⟨o', e1⟩ := a.there c ob q hx
    exact b.there c o' e1 hx
  tups := fun c xs q => b.tups c xs (a.tups c xs q)
  frzs := fun c ob xs q => b.frzs c ob xs (a.frzs c ob xs q)
  tbls := fun c ps q => by
    obtain ⟨m1, e1⟩ := a.tbls c ps q
    obtain ⟨m2, e2⟩ := b.tbls c _ e1
    exact ⟨m1 ++ m2, by rw [e2, Array.append_assoc]⟩
theorem Un.kept (k : ∀ b u, h.get? b = some u → h'.get? b = some u) : Un fs ex H H h h' :=
  ⟨fun b ob q _ _ _ => k b ob q, fun b ob q _ _ _ => ⟨ob.slots, k b ob q⟩, fun _ _ _ n _ => n, fun b ob q _ => ⟨ob, k b ob q⟩, fun _ _ q => q, fun _ _ _ q => q, fun _ ps q => ⟨#[], by rw [q]; simp⟩⟩
theorem Un.refl : Un fs ex H H h h := Un.kept fun _ _ q => q
theorem Un.laid (k : ∀ b u, h.get? b = some u → h'.get? b = some u) (hp : h.objs.size ≤ a) (hn : H a = none) : Un fs ex H (upd H a o) h h' where
  keep := fun b u q _ _ _ => k b u q
  slot := fun b u q _ _ _ => ⟨u.slots, k b u q⟩
  free := fun b u q n _ => by rw [upd_ne (Nat.ne_of_lt (Nat.lt_of_lt_of_le (Heap.lt_size q) hp))]; exact n
  there := fun b u q _ => ⟨u, k b u q⟩
  tups := fun b xs q => by rw [upd_ne (ne_of_none q hn)]; exact q
  frzs := fun b u xs q => by rw [upd_ne (ne_of_none q hn)]; exact q
  tbls := fun b ps q => ⟨#[], by rw [upd_ne (ne_of_none q hn), q]; simp⟩
theorem Un.write (mu : Mut (H x)) (he : e = x ∨ H e = some (.own x)) (k : ∀ b u, b ≠ e → h.get? b = some u → h'.get? b = some u) (heo : ∃ u, h'.get? e = some u) : Un fs ex H (upd H x o) h h' := by
  have hx : ∀ b, H b = none → b ≠ x := fun b n z => by subst z; rw [n] at mu; exact mu
  have hb : ∀ b, H b = none → b ≠ e := fun b n z => by
    subst z
    rcases he with r | r
    · exact hx b n r
    · rw [n] at r; cases r
  have hm : ∀ b u, H b = some u → ¬ Mut (some u) → b ≠ x := fun b u q nm z => by subst z; rw [q] at mu; exact nm mu
  refine ⟨fun b u q n _ _ => k b u (hb b n) q, fun b u q n _ _ => ⟨u.slots, k b u (hb b n) q⟩, fun b u q n _ => by rw [upd_ne (hx b n)]; exact n, fun b u q _ => ?_,
    fun b xs q => by rw [upd_ne (hm b _ q fun z => z)]; exact q, fun b u xs q => by rw [upd_ne (hm b _ q fun z => z)]; exact q, fun b ps q => ⟨#[], by rw [upd_ne (hm b _ q fun z => z), q]; simp⟩⟩
  by_cases hbe : b = e
  · subst hbe; exact heo
  · exact ⟨u, k b u hbe q⟩
theorem Un.mono (u : Un fs ex H H1 h h1) (hs : ∀ b ∈ fs, b ∈ fs') (hx : ∀ b ∈ ex, b ∈ ex') : Un fs' ex' H H1 h h1 :=
  ⟨fun b ob q n hb he => u.keep b ob q n (fun z => hb (hs b z)) fun z => he (hx b z), fun _ _ q n _ he => u.any q n fun z => he (hx _ z), fun b ob q n he => u.free b ob q n fun z => he (hx b z), fun b ob q he => u.there b ob q fun z => he (hx b z), u.tups, u.frzs, u.tbls⟩
end

def trk (h : Heap) (H : Hp) : List Addr := (List.range h.objs.size).filter fun a => (H a).isSome
def hidT (h : Heap) (H : Hp) : Heap := PySem.W.hideAll h (trk h H)
theorem hidT_size (h : Heap) (H : Hp) : (hidT h H).objs.size = h.objs.size := PySem.W.hideAll_size _ _
theorem hidT_get {h : Heap} {H : Hp} {b : Addr} {o : Obj} (e : h.get? b = some o) (n : H b = none) : (hidT h H).get? b = some o :=
  PySem.W.hideAll_get _ e fun hm => by
    have q : (H b).isSome = true := (List.mem_filter.mp hm).2
    rw [n] at q; simp at q
theorem of_hidT {h : Heap} {H : Hp} {b : Addr} {o : Obj} (e : (hidT h H).get? b = some o) : h.get? b = some o ∧ H b = none := by
  have e' : h.get? b = some o := PySem.W.of_hideAll (trk h H) e
  refine ⟨e', ?_⟩
  cases q : H b with
  | none => rfl
  | some x =>
    have hm : b ∈ trk h H := List.mem_filter.mpr ⟨List.mem_range.mpr (Heap.lt_size e'), by simp [q]⟩
    have z : (hidT h H).get? b = none := PySem.W.hideAll_none (trk h H) hm
    rw [z] at e; cases e

end L2

namespace L2
open PySem PySem.Spec PyProof.Rows

structure Mod (K : PySem.W.Frag) (mg : Str → Option Value) (base : Heap) : Prop where
  kin : K.In base
  glob : base.Ns mainGlobals mg
  blt : ∃ mb, base.Ns builtinsNs mb ∧ ∀ x : Str, x ≠ "__name__" → mb x = bootBuiltins x
  nolimit : base.NoLimit

/-- the context: a def's body (or a comprehension's block) running. base: fixed through the whole law; s₀, H₀: the entry; outer: the frames whose slots others may change (a def's callers); stack: all frames that run;
   ex: iterators that were made ahead of the entry and are walked here (a comprehension's); fn: the names whose cells were made at the entry (a def: all; a comprehension's block: its own); calm: not within an except suite; pn: pins that every state bears; xe: what is wanted of an exception that leaves the code -/
structure Cx where
  prog : Program
  w : World
  K : PySem.W.Frag
  mg : Str → Option Value
  base : Heap
  A : Around
  N : List Str
  s₀ : Shared
  H₀ : Hp
  env : Env
  outer : List Env
  stack : List Env
  ex : List Addr
  fn : Str → Bool
  calm : Bool
  pn : List (Addr × Obj)
  xe : Value → Shared → Prop
def frs (l : List Env) : List Addr := l.filterMap (·.frame)
abbrev Cx.fs (X : Cx) : List Addr := frs X.outer

def Vis (sc : Scope) (x : Str) : Prop := sc.names.lookup x = some .local ∨ sc.names.lookup x = some .cell ∨ sc.names.lookup x = some .free
def Loc (sc : Scope) (x : Str) : Prop := sc.names.lookup x = some .local ∨ sc.names.lookup x = some .cell
def Look (env : Env) (h : Heap) (m : Str → Option Value) (x : Str) (u : Value) : Prop :=
  (env.kindOf x = some .local ∧ m x = some u) ∨ ((env.kindOf x = some .cell ∨ env.kindOf x = some .free) ∧ ∃ c, env.cells.lookup x = some c ∧ h.IsCell c (some u))

structure Cx.Ok (X : Cx) : Prop where
  mod : Mod X.K X.mg X.base
  kind : X.env.scope.kind = .function
  glob : X.env.globals = mainGlobals
  blt : X.env.builtins = builtinsNs
  above : X.s₀.heap.objs.size ≤ X.env.locals
  inj : ∀ x y c, X.env.cells.lookup x = some c → X.env.cells.lookup y = some c → x = y
  has : ∀ x, (X.env.kindOf x = some .cell ∨ X.env.kindOf x = some .free) → ∃ c, X.env.cells.lookup x = some c
  cab : ∀ x c, X.fn x = true → X.env.cells.lookup x = some c → X.s₀.heap.objs.size ≤ c
  hd : X.calm = true → X.A.handled = none
  frames : X.A.frames = some X.stack
  stk : X.stack = X.outer ∨ (X.stack = X.env :: X.outer ∧ X.env.frame = some X.env.locals)
  exf : ∀ b ∈ X.ex, b ≠ X.env.locals ∧ ∀ x c, X.env.cells.lookup x = some c → c ≠ b
  bs : ∀ b o, X.base.get? b = some o → X.s₀.heap.get? b = some o ∧ X.H₀ b = none
  bsz : X.base.objs.size ≤ X.s₀.heap.objs.size
  noex : ∀ b o, X.base.get? b = some o → b ∉ X.ex
  exfs : ∀ b ∈ X.ex, b ∉ X.fs
  funs : X.s₀.heap.FunFrames X.base X.outer
  frf : ∀ b ∈ X.fs, X.H₀ b = none

structure Inv (X : Cx) (pins : List (Addr × Obj)) (σ : List (Option V)) (H : Hp) (s : Shared) : Prop where
  ok : X.Ok
  os : s.os = X.s₀.os
  bare : AllBare s.gens
  base : Un X.fs X.ex X.H₀ H X.s₀.heap s.heap
  loc : ∃ m, s.heap.Ns X.env.locals m ∧ ∀ (i : Nat) (x : Str) (v : V), X.N[i]? = some x → σ[i]? = some (some v) → Vis X.env.scope x → ∃ u, RelV v u ∧ Look X.env s.heap m x u
  cell : ∀ x c, X.env.cells.lookup x = some c → ∃ v, s.heap.IsCell c v
  free : H X.env.locals = none
  freeC : ∀ x c, X.env.cells.lookup x = some c → H c = none
  pin : ∀ p ∈ X.pn ++ pins, s.heap.get? p.1 = some p.2 ∧ H p.1 = none ∧ p.1 ≠ X.env.locals ∧ p.1 ∉ X.fs ∧ ∀ v, p.2.data ≠ .cell v
  hok : HOk X.prog X.w H s.heap
  len : σ.length = X.N.length

section
variable {X : Cx} {pins : List (Addr × Obj)} {σ : List (Option V)} {H H' : Hp} {s : Shared} {h' : Heap}

theorem Cx.Ok.nofr (ok : X.Ok) {b : Addr} {o : Obj} (e : X.base.get? b = some o) : b ∉ X.fs := fun hb => by
  have := (ok.funs.mem hb).1
  rw [e] at this; cases this
theorem Inv.bs (I : Inv X pins σ H s) : ∀ b o, X.base.get? b = some o → s.heap.get? b = some o ∧ H b = none := fun b o e =>
  ⟨I.base.keep b o (I.ok.bs b o e).1 (I.ok.bs b o e).2 (I.ok.nofr e) (I.ok.noex b o e), I.base.free b o (I.ok.bs b o e).1 (I.ok.bs b o e).2 (I.ok.noex b o e)⟩
theorem Inv.bk (I : Inv X pins σ H s) : ∀ b o, X.base.get? b = some o → s.heap.get? b = some o := fun b o e => (I.bs b o e).1
theorem Inv.mod (I : Inv X pins σ H s) : Mod X.K X.mg X.base := I.ok.mod
theorem Inv.kIn (I : Inv X pins σ H s) : X.K.In s.heap := I.ok.mod.kin.keeps I.bk
theorem Inv.lt (I : Inv X pins σ H s) : X.env.locals < s.heap.objs.size := let ⟨_, hn, _⟩ := I.loc; hn.lt
theorem Inv.sz (I : Inv X pins σ H s) : X.s₀.heap.objs.size ≤ s.heap.objs.size := Nat.le_trans I.ok.above (Nat.le_of_lt I.lt)
theorem Inv.nofs (I : Inv X pins σ H s) {a : Addr} (h : s.heap.objs.size ≤ a) : a ∉ X.fs := fun hb => by
  obtain ⟨_, o, ho, _⟩ := I.ok.funs.mem hb
  exact absurd (Nat.lt_of_lt_of_le (Heap.lt_size ho) (Nat.le_trans I.sz h)) (Nat.lt_irrefl _)
theorem Inv.cne (I : Inv X pins σ H s) : ∀ x c, X.env.cells.lookup x = some c → c ≠ X.env.locals := fun x c e z => by
  obtain ⟨v, o, ho, hd⟩ := I.cell x c e
  obtain ⟨m, ⟨o', es, ep, ho', hd', _⟩, _⟩ := I.loc
  rw [z, ho'] at ho; cases ho; rw [hd'] at hd; cases hd
theorem Inv.funs (I : Inv X pins σ H s) : s.heap.FunFrames X.base X.outer := by
  have all : ∀ (l : List Env), (∀ b ∈ frs l, b ∈ X.fs) → X.s₀.heap.FunFrames X.base l → s.heap.FunFrames X.base l := by
    intro l
    induction l with
    | nil => intro _ _; trivial
    | cons env r ih =>
      intro hs hl
      obtain ⟨hk, ⟨L, o, hf, hn, ho, hd⟩, hr⟩ := hl
      have hL : L ∈ X.fs := hs L (by unfold frs; rw [List.filterMap_cons, hf]; exact List.mem_cons_self)
      obtain ⟨sl, e⟩ := I.base.slot L o ho (I.ok.frf L hL) hL fun z => I.ok.exfs L z hL
      exact ⟨hk, ⟨L, _, hf, hn, e, hd⟩, ih (fun b hb => hs b (by unfold frs; rw [List.filterMap_cons, hf]; exact List.mem_cons_of_mem _ hb)) hr⟩
  exact all X.outer (fun _ hb => hb) I.ok.funs

theorem Inv.stack (I : Inv X pins σ H s) : s.heap.FunFrames X.base X.stack := by
  rcases I.ok.stk with e | ⟨e, hf⟩
  · rw [e]; exact I.funs
  · rw [e]
    obtain ⟨m, hn, _⟩ := I.loc
    refine .cons (by rw [I.ok.kind]; decide) hf hn ?_ I.funs
    exact Heap.get?_none_of_le (Nat.le_trans I.ok.bsz I.ok.above)
theorem Inv.stkSub (I : Inv X pins σ H s) : ∀ b ∈ frs X.stack, b ∈ X.env.locals :: X.fs := fun b hb => by
  rcases I.ok.stk with e | ⟨e, hf⟩
  · rw [e] at hb; exact List.mem_cons_of_mem _ hb
  · rw [e] at hb
    unfold frs at hb
    rw [List.filterMap_cons, hf] at hb
    exact hb
theorem Inv.stkFree (I : Inv X pins σ H s) : ∀ b ∈ frs X.stack, H b = none := fun b hb => by
  rcases List.mem_cons.mp (I.stkSub b hb) with e | hb
  · rw [e]; exact I.free
  · obtain ⟨_, o, ho, _⟩ := I.ok.funs.mem hb
    exact I.base.free b o ho (I.ok.frf b hb) fun z => I.ok.exfs b z hb

theorem Inv.step {g' : Array GenState} {t' : Nat} {d' : Drawn} {ch : List Addr} (I : Inv X pins σ H s)
    (hch : ∀ b ∈ ch, (b ∈ X.ex ∨ X.s₀.heap.objs.size ≤ b) ∧ b ≠ X.env.locals ∧ (∀ x c, X.env.cells.lookup x = some c → c ≠ b) ∧ ∀ p ∈ X.pn ++ pins, p.1 ≠ b)
    (keep : ∀ b o, b ≠ X.env.locals → b ∉ X.fs → b ∉ ch → s.heap.get? b = some o → H b = none → h'.get? b = some o)
    (slot : ∀ b o, b ≠ X.env.locals → b ∈ X.fs → b ∉ ch → s.heap.get? b = some o → H b = none → ∃ sl, h'.get? b = some { o with slots := sl }) (free : ∀ b o, b ∉ ch → s.heap.get? b = some o → H b = none → H' b = none)
    (there : ∀ b o, b ∉ ch → s.heap.get? b = some o → ∃ o', h'.get? b = some o')
    (tups : ∀ b xs, H b = some (.tup xs) → H' b = some (.tup xs)) (frzs : ∀ b o u, H b = some (.frz o u) → H' b = some (.frz o u)) (tbls : ∀ b ps, H b = some (.tbl ps) → ∃ more, H' b = some (.tbl (ps ++ more)))
    (ns : ∀ m, s.heap.Ns X.env.locals m → h'.Ns X.env.locals m) (hok : HOk X.prog X.w H' h') (hg : AllBare g') :
    Inv X pins σ H' { s with heap := h', gens := g', drawn := d', toks := t' } := by
  have neL : ∀ b o, X.s₀.heap.get? b = some o → b ≠ X.env.locals := fun b o e => Nat.ne_of_lt (Nat.lt_of_lt_of_le (Heap.lt_size e) I.ok.above)
  have neC : ∀ b o, X.s₀.heap.get? b = some o → b ∉ X.ex → b ∉ ch := fun b o e hx hb => by
    rcases (hch b hb).1 with z | z
    · exact hx z
    · exact absurd (Nat.lt_of_lt_of_le (Heap.lt_size e) z) (Nat.lt_irrefl _)
  have cellK : ∀ x c, X.env.cells.lookup x = some c → ∀ v, s.heap.IsCell c v → h'.IsCell c v := fun x c e v ⟨o, ho, hd⟩ => by
    have nch : c ∉ ch := fun z => (hch c z).2.2.1 x c e rfl
    by_cases hc : c ∈ X.fs
    · obtain ⟨sl, q⟩ := slot c o (I.cne x c e) hc nch ho (I.freeC x c e)
      exact ⟨_, q, hd⟩
    · exact ⟨o, keep c o (I.cne x c e) hc nch ho (I.freeC x c e), hd⟩
  refine ⟨I.ok, I.os, hg, ⟨fun b o e n hb hx => ?_, fun b o e n hb hx => ?_, fun b o e n hx => ?_, fun b o e hx => ?_, fun b xs e => tups b xs (I.base.tups b xs e), fun b o xs e => frzs b o xs (I.base.frzs b o xs e), fun b ps e => ?_⟩, ?_, fun x c e => ?_, ?_, fun x c e => ?_, fun p hp => ?_, hok, I.len⟩
  · exact keep b o (neL b o e) hb (neC b o e hx) (I.base.keep b o e n hb hx) (I.base.free b o e n hx)
  · obtain ⟨sl, e1⟩ := I.base.slot b o e n hb hx
    obtain ⟨sl', e2⟩ := slot b _ (neL b o e) hb (neC b o e hx) e1 (I.base.free b o e n hx)
    exact ⟨sl', e2⟩
  · obtain ⟨o', e1⟩ := I.base.there b o e hx
    exact free b o' (neC b o e hx) e1 (I.base.free b o e n hx)
  · obtain ⟨o', e1⟩ := I.base.there b o e hx
    exact there b o' (neC b o e hx) e1
  · obtain ⟨m1, e1⟩ := I.base.tbls b ps e
    obtain ⟨m2, e2⟩ := tbls b _ e1
    exact ⟨m1 ++ m2, by rw [e2, Array.append_assoc]⟩
  · obtain ⟨m, hn, hl⟩ := I.loc
    refine ⟨m, ns m hn, fun i x v e1 e2 e3 => ?_⟩
    obtain ⟨u, r, l⟩ := hl i x v e1 e2 e3
    refine ⟨u, r, ?_⟩
    rcases l with l | ⟨k, c, e, z⟩
    · exact .inl l
    · exact .inr ⟨k, c, e, cellK x c e _ z⟩
  · obtain ⟨v, z⟩ := I.cell x c e
    exact ⟨v, cellK x c e v z⟩
  · obtain ⟨m, ⟨o, _, _, ho, _⟩, _⟩ := I.loc
    exact free _ o (fun z => (hch _ z).2.1 rfl) ho I.free
  · obtain ⟨v, o, ho, hd⟩ := I.cell x c e
    exact free c o (fun z => (hch c z).2.2.1 x c e rfl) ho (I.freeC x c e)
  · obtain ⟨e, n, ne, nf, d⟩ := I.pin p hp
    have nch : p.1 ∉ ch := fun z => (hch p.1 z).2.2.2 p hp rfl
    exact ⟨keep p.1 p.2 ne nf nch e n, free p.1 p.2 nch e n, ne, nf, d⟩
theorem Inv.un {t' : Nat} (I : Inv X pins σ H s) (u : Un X.fs [] H H' s.heap h') (hok : HOk X.prog X.w H' h') : Inv X pins σ H' { s with heap := h', toks := t' } := by
  obtain ⟨m, ⟨o, es, ep, ho, r⟩, _⟩ := id I.loc
  obtain ⟨sl, hL⟩ := u.any ho I.free (by simp)
  exact I.step (g' := s.gens) (d' := s.drawn) (ch := []) (fun _ z => nomatch z) (fun b o _ hb _ e n => u.keep b o e n hb (by simp)) (fun b o _ hb _ e n => u.slot b o e n hb (by simp)) (fun b o _ e n => u.free b o e n (by simp)) (fun b o _ e => u.there b o e (by simp)) u.tups u.frzs u.tbls (fun m' hm => by
    obtain ⟨o', es', ep', ho', r'⟩ := hm
    rw [ho] at ho'; cases ho'
    exact ⟨_, es', ep', hL, r'⟩) hok I.bare
theorem Inv.call {g' : Array GenState} {t' : Nat} {d' : Drawn} {ch : List Addr} (I : Inv X pins σ H s) (u : Un (frs X.stack) ch H H' s.heap h') (hok : HOk X.prog X.w H' h') (hg : AllBare g')
    (hch : ∀ b ∈ ch, (b ∈ X.ex ∨ X.s₀.heap.objs.size ≤ b) ∧ b ≠ X.env.locals ∧ (∀ x c, X.env.cells.lookup x = some c → c ≠ b) ∧ ∀ p ∈ X.pn ++ pins, p.1 ≠ b) :
    Inv X pins σ H' { s with heap := h', gens := g', drawn := d', toks := t' } := by
  obtain ⟨m, ⟨o, es, ep, ho, r⟩, _⟩ := id I.loc
  obtain ⟨sl, hL⟩ := u.any ho I.free fun z => (hch _ z).2.1 rfl
  exact I.step (ch := ch) hch (fun b o hL hb hc e n => u.keep b o e n (fun z => (List.mem_cons.mp (I.stkSub b z)).elim hL hb) hc) (fun b o _ _ hc e n => u.any e n hc) (fun b o hc e n => u.free b o e n hc) (fun b o hc e => u.there b o e hc) u.tups u.frzs u.tbls (fun m' hm => by
    obtain ⟨o', es', ep', ho', r'⟩ := hm
    rw [ho] at ho'; cases ho'
    exact ⟨_, es', ep', hL, r'⟩) hok hg
theorem Inv.turned {t' : Nat} {it : Addr} (I : Inv X pins σ H s) (k : ∀ b o, b ≠ it → s.heap.get? b = some o → h'.get? b = some o) (hn : H it = none) (hL : it ≠ X.env.locals)
    (h1 : it ∈ X.ex ∨ X.s₀.heap.objs.size ≤ it) (h2 : ∀ x c, X.env.cells.lookup x = some c → c ≠ it) (h3 : ∀ p ∈ X.pn ++ pins, p.1 ≠ it) : Inv X pins σ H { s with heap := h', toks := t' } := by
  have nit : ∀ b u, H b = some u → b ≠ it := fun b u e z => by rw [z, hn] at e; cases e
  refine I.step (g' := s.gens) (d' := s.drawn) (ch := [it]) (fun b hb => ?_) (fun b o _ _ hc e _ => k b o (fun z => hc (by simp [z])) e) (fun b o _ _ hc e _ => ⟨o.slots, k b o (fun z => hc (by simp [z])) e⟩) (fun _ _ _ _ n => n)
    (fun b o hc e => ⟨o, k b o (fun z => hc (by simp [z])) e⟩) (fun _ _ e => e) (fun _ _ _ e => e) (fun b ps e => ⟨#[], by rw [e]; simp⟩) (fun m hm => ?_) (fun b u e => ?_) I.bare
  · have e : b = it := by simpa using hb
    subst e
    exact ⟨h1, hL, h2, h3⟩
  · obtain ⟨o, es, ep, ho, r⟩ := hm
    exact ⟨o, es, ep, k _ o (Ne.symm hL) ho, r⟩
  · refine (I.hok b u e).stay (fun c v hc q => k c v ?_ q) (fun _ q => q) fun _ _ q => q
    rcases hc with z | z
    · rw [z]; exact nit b u e
    · exact nit c _ z
theorem Inv.tok (I : Inv X pins σ H s) (t : Nat) : Inv X pins σ H { s with toks := t } := I.un (h' := s.heap) (t' := t) Un.refl I.hok
theorem Inv.kept {t' : Nat} (I : Inv X pins σ H s) (k : ∀ b u, s.heap.get? b = some u → h'.get? b = some u) : Inv X pins σ H { s with heap := h', toks := t' } := I.un (Un.kept k) (I.hok.kept k)
theorem Inv.laid {a : Addr} {o : HO} {t' : Nat} (I : Inv X pins σ H s) (k : ∀ b u, s.heap.get? b = some u → h'.get? b = some u) (hp : s.heap.objs.size ≤ a) (new : ObjOk X.prog X.w (upd H a o) h' a o) :
    Inv X pins σ (upd H a o) { s with heap := h', toks := t' } := I.un (Un.laid k hp (I.hok.fresh hp)) (I.hok.laid k hp new)
theorem Inv.write {x e : Addr} {o : HO} {t' : Nat} (I : Inv X pins σ H s) (mu : Mut (H x)) (he : e = x ∨ H e = some (.own x)) (k : ∀ b u, b ≠ e → s.heap.get? b = some u → h'.get? b = some u) (heo : ∃ u, h'.get? e = some u)
    (new : ObjOk X.prog X.w (upd H x o) h' x o) : Inv X pins σ (upd H x o) { s with heap := h', toks := t' } := I.un (Un.write mu he k heo) (I.hok.write mu he k heo new)
theorem Inv.pins_of {pins' : List (Addr × Obj)} (I : Inv X pins σ H s) (h : ∀ p ∈ pins', s.heap.get? p.1 = some p.2 ∧ H p.1 = none ∧ p.1 ≠ X.env.locals ∧ p.1 ∉ X.fs ∧ ∀ v, p.2.data ≠ .cell v) : Inv X pins' σ H s :=
  ⟨I.ok, I.os, I.bare, I.base, I.loc, I.cell, I.free, I.freeC, fun p hp => (List.mem_append.mp hp).elim (fun z => I.pin p (List.mem_append_left _ z)) (h p), I.hok, I.len⟩

theorem nodup_ix {N : List Str} (hN : N.Nodup) {i j : Nat} {x : Str} (a : N[i]? = some x) (b : N[j]? = some x) : i = j := by
  obtain ⟨h1, e1⟩ := List.getElem?_eq_some_iff.mp a
  obtain ⟨h2, e2⟩ := List.getElem?_eq_some_iff.mp b
  exact (List.getElem_inj hN).mp (e1.trans e2.symm)

theorem store_ok2 {M : Model} {A : Around} {E : Value → Shared → Prop} {i : Nat} {x : Str} {v : V} {u : Value} {Q : Unit → Shared → Prop} (I : Inv X pins σ H s) (hN : X.N.Nodup) (hi : X.N[i]? = some x) (hx : Loc X.env.scope x) (r : RelV v u)
    (h : ∀ s', Inv X pins (σ.set i (some v)) H s' → (∃ a, Heap.SameBut a s.heap s'.heap ∧ (a = X.env.locals ∨ X.env.cells.lookup x = some a)) → Q () s') (hf : X.fn x = true ∨ X.env.scope.names.lookup x = some .local := by first | exact .inl rfl | exact .inr rfl | assumption) : wpAny M A (storeName X.env x u) Q E s := by
  obtain ⟨m, hn, hl⟩ := id I.loc
  have hcls : (X.env.scope.kind == .class || (X.env.scope.kind == .module && X.env.locals != X.env.globals)) = false := by rw [I.ok.kind]; rfl
  have hiσ : i < σ.length := by rw [I.len]; exact (List.getElem?_eq_some_iff.mp hi).1
  have cne := I.cne
  have tracked : ∀ {a : Addr} {h' : Heap}, (∃ o, s.heap.get? a = some o ∧ H a = none) → Heap.SameBut a s.heap h' → HOk X.prog X.w H h' := fun {a h'} ha hs b ob e => by
    obtain ⟨_, _, hfree⟩ := ha
    refine (I.hok b ob e).stay (fun c w' hc q => (hs.2 c ?_).trans q) (fun _ q => q) fun _ _ q => q
    rintro rfl
    rcases hc with rfl | hc
    · rw [hfree] at e; cases e
    · rw [hfree] at hc; cases hc
  rcases hx with hk | hk
  · refine wpAny_storeName_local hk hn (fun h' hn' hs => ?_) hcls
    obtain ⟨oL, _, _, hoL, _⟩ := id hn
    refine h _ ⟨I.ok, I.os, I.bare, ⟨fun b o e n hb hx => ?_, fun b o e n hb hx => ?_, I.base.free, fun b o e hx => ?_, I.base.tups, I.base.frzs, I.base.tbls⟩, ⟨_, hn', fun j y v' e1 e2 e3 => ?_⟩, fun y c e => ?_, I.free, I.freeC, fun p hp => ?_, tracked ⟨oL, hoL, I.free⟩ hs, by simpa using I.len⟩ ⟨_, hs, .inl rfl⟩
    · exact (hs.2 b (Nat.ne_of_lt (Nat.lt_of_lt_of_le (Heap.lt_size e) I.ok.above))).trans (I.base.keep b o e n hb hx)
    · obtain ⟨sl, e1⟩ := I.base.slot b o e n hb hx
      exact ⟨sl, (hs.2 b (Nat.ne_of_lt (Nat.lt_of_lt_of_le (Heap.lt_size e) I.ok.above))).trans e1⟩
    · obtain ⟨o', e1⟩ := I.base.there b o e hx
      exact ⟨o', (hs.2 b (Nat.ne_of_lt (Nat.lt_of_lt_of_le (Heap.lt_size e) I.ok.above))).trans e1⟩
    · by_cases hj : j = i
      · subst hj
        rw [hi] at e1; cases e1
        rw [List.getElem?_set_self hiσ] at e2
        cases e2
        exact ⟨u, r, .inl ⟨hk, by simp⟩⟩
      · rw [List.getElem?_set_ne (Ne.symm hj)] at e2
        obtain ⟨u', r', q⟩ := hl j y v' e1 e2 e3
        refine ⟨u', r', ?_⟩
        rcases q with ⟨k, e⟩ | ⟨k, c, e, z⟩
        · refine .inl ⟨k, ?_⟩
          have : y ≠ x := fun e => hj (nodup_ix hN e1 (e ▸ hi))
          simp [this, e]
        · exact .inr ⟨k, c, e, z.sameBut hs (cne y c e)⟩
    · obtain ⟨w', z⟩ := I.cell y c e
      exact ⟨w', z.sameBut hs (cne y c e)⟩
    · obtain ⟨e, n, ne, nf, d⟩ := I.pin p hp
      exact ⟨(hs.2 p.1 ne).trans e, n, ne, nf, d⟩
  · have hfn : X.fn x = true := by
      rcases hf with z | z
      · exact z
      · rw [z] at hk; cases hk
    obtain ⟨c, hc⟩ := I.ok.has x (.inl hk)
    obtain ⟨w', z⟩ := I.cell x c hc
    refine wpAny_storeName_cell I.ok.kind hk hc z (fun h' hc' hs => ?_)
    obtain ⟨oc, hoc, hocd⟩ := id z
    refine h { s with heap := h' } ⟨I.ok, I.os, I.bare, ⟨fun b o e n hb hx => ?_, fun b o e n hb hx => ?_, I.base.free, fun b o e hx => ?_, I.base.tups, I.base.frzs, I.base.tbls⟩, ⟨m, hn.sameBut hs (Ne.symm (cne x c hc)), fun j y v' e1 e2 e3 => ?_⟩, fun y c' e => ?_, I.free, I.freeC, fun p hp => ?_, tracked ⟨oc, hoc, I.freeC x c hc⟩ hs, by simpa using I.len⟩ ⟨c, hs, .inr hc⟩
    · exact (hs.2 b (Nat.ne_of_lt (Nat.lt_of_lt_of_le (Heap.lt_size e) (I.ok.cab x c hfn hc)))).trans (I.base.keep b o e n hb hx)
    · obtain ⟨sl, e1⟩ := I.base.slot b o e n hb hx
      exact ⟨sl, (hs.2 b (Nat.ne_of_lt (Nat.lt_of_lt_of_le (Heap.lt_size e) (I.ok.cab x c hfn hc)))).trans e1⟩
    · obtain ⟨o', e1⟩ := I.base.there b o e hx
      exact ⟨o', (hs.2 b (Nat.ne_of_lt (Nat.lt_of_lt_of_le (Heap.lt_size e) (I.ok.cab x c hfn hc)))).trans e1⟩
    · by_cases hj : j = i
      · subst hj
        rw [hi] at e1; cases e1
        rw [List.getElem?_set_self hiσ] at e2
        cases e2
        exact ⟨u, r, .inr ⟨.inl hk, c, hc, hc'⟩⟩
      · rw [List.getElem?_set_ne (Ne.symm hj)] at e2
        obtain ⟨u', r', q⟩ := hl j y v' e1 e2 e3
        refine ⟨u', r', ?_⟩
        rcases q with q | ⟨k, c', e, z'⟩
        · exact .inl q
        · refine .inr ⟨k, c', e, z'.sameBut hs ?_⟩
          rintro rfl
          exact hj (nodup_ix hN e1 (I.ok.inj _ _ _ e hc ▸ hi))
    · by_cases hcc : c' = c
      · subst hcc; exact ⟨_, hc'⟩
      · obtain ⟨w2, z2⟩ := I.cell y c' e
        exact ⟨w2, z2.sameBut hs hcc⟩
    · obtain ⟨e, n, ne, nf, d⟩ := I.pin p hp
      refine ⟨(hs.2 p.1 ?_).trans e, n, ne, nf, d⟩
      intro q
      rw [q, hoc] at e
      have q' : oc = p.2 := Option.some.inj e
      exact d w' (by rw [← q']; exact hocd)
theorem store_ok {M : Model} {A : Around} {E : Value → Shared → Prop} {i : Nat} {x : Str} {v : V} {u : Value} {Q : Unit → Shared → Prop} (I : Inv X pins σ H s) (hN : X.N.Nodup) (hi : X.N[i]? = some x) (hx : Loc X.env.scope x) (r : RelV v u)
    (h : ∀ s', Inv X pins (σ.set i (some v)) H s' → Q () s') (hf : X.fn x = true ∨ X.env.scope.names.lookup x = some .local := by first | exact .inl rfl | exact .inr rfl | assumption) : wpAny M A (storeName X.env x u) Q E s :=
  store_ok2 I hN hi hx r (fun s' I' _ => h s' I') hf
theorem Inv.call' {s' : Shared} {ch : List Addr} (I : Inv X pins σ H s) (ho : s'.os = s.os) (u : Un (frs X.stack) ch H H' s.heap s'.heap) (hok : HOk X.prog X.w H' s'.heap) (hg : AllBare s'.gens)
    (hch : ∀ b ∈ ch, (b ∈ X.ex ∨ X.s₀.heap.objs.size ≤ b) ∧ b ≠ X.env.locals ∧ (∀ x c, X.env.cells.lookup x = some c → c ≠ b) ∧ ∀ p ∈ X.pn ++ pins, p.1 ≠ b) : Inv X pins σ H' s' := by
  obtain ⟨h', g', d', t', o'⟩ := s'
  have e : o' = s.os := ho
  subst e
  exact I.call (g' := g') (t' := t') (d' := d') u hok hg hch
end

abbrev XK := Value → Option Addr → Hp → Prop
abbrev St := List (Option V)
abbrev VK := V → Hp → Prop
abbrev TE := St → Hp → VK → Prop
abbrev TT := St → Hp → (Bool → Hp → Prop) → Prop
abbrev TA := St → Hp → (List V → Hp → Prop) → Prop
structure Ends where
  nx : St → Hp → Prop
  rt : VK
  bk : St → Hp → Prop := fun _ _ => False
  ct : St → Hp → Prop := fun _ _ => False
abbrev TS := Ends → St → Hp → Prop

def EP (X : Cx) (pins : List (Addr × Obj)) (σ : St) (Q : VK) (u : Value) (s' : Shared) : Prop := ∃ v H', Inv X pins σ H' s' ∧ RelV v u ∧ Q v H'
def TP (X : Cx) (pins : List (Addr × Obj)) (σ : St) (Q : Bool → Hp → Prop) (b : Bool) (s' : Shared) : Prop := ∃ H', Inv X pins σ H' s' ∧ Q b H'
def AP (X : Cx) (pins : List (Addr × Obj)) (σ : St) (Q : List V → Hp → Prop) (us : List Value) (s' : Shared) : Prop := ∃ vs H', Inv X pins σ H' s' ∧ Vals vs us ∧ Q vs H'
def SP (X : Cx) (pins : List (Addr × Obj)) (D : Ends) (f : Flow) (s' : Shared) : Prop :=
  match f with
  | .next => ∃ σ' H', Inv X pins σ' H' s' ∧ D.nx σ' H'
  | .brk => ∃ σ' H', Inv X pins σ' H' s' ∧ D.bk σ' H'
  | .cont => ∃ σ' H', Inv X pins σ' H' s' ∧ D.ct σ' H'
  | .ret u => ∃ v σ' H', Inv X pins σ' H' s' ∧ RelV v u ∧ D.rt v H'

def PE (X : Cx) (e : Expr) (t : TE) : Prop :=
  ∀ (pins : List (Addr × Obj)) (s : Shared) (σ : St) (H : Hp) (Q : VK), Inv X pins σ H s → t σ H Q → wpAny (model X.prog X.w) X.A (eval e X.env) (EP X pins σ Q) X.xe s
def PT (X : Cx) (e : Expr) (t : TT) : Prop :=
  ∀ (pins : List (Addr × Obj)) (s : Shared) (σ : St) (H : Hp) (Q : Bool → Hp → Prop), Inv X pins σ H s → t σ H Q → wpAny (model X.prog X.w) X.A (isTrue e X.env (eval e X.env)) (TP X pins σ Q) X.xe s
def PW (X : Cx) (e : Expr) (t : TT) : Prop :=
  ∀ (whole : Sem Value) (pins : List (Addr × Obj)) (s : Shared) (σ : St) (H : Hp) (Q : Bool → Hp → Prop), Inv X pins σ H s → t σ H Q → wpAny (model X.prog X.w) X.A (isTrue e X.env whole) (TP X pins σ Q) X.xe s
theorem PW.pt {X : Cx} {e : Expr} {t : TT} (h : PW X e t) : PT X e t := h _
def PA (X : Cx) (es : List Expr) (t : TA) : Prop :=
  ∀ (pos : Pos) (pins : List (Addr × Obj)) (s : Shared) (σ : St) (H : Hp) (Q : List V → Hp → Prop), Inv X pins σ H s → t σ H Q → wpAny (model X.prog X.w) X.A (spliced (backTo pos (starEach es X.env))) (AP X pins σ Q) X.xe s
def PS (X : Cx) (st : Stmt) (t : TS) : Prop :=
  ∀ (pins : List (Addr × Obj)) (s : Shared) (σ : St) (H : Hp) (D : Ends), Inv X pins σ H s → t D σ H → wpAny (model X.prog X.w) X.A (exec st X.env) (SP X pins D) X.xe s
def PSs (X : Cx) (st : List Stmt) (t : TS) : Prop :=
  ∀ (pins : List (Addr × Obj)) (s : Shared) (σ : St) (H : Hp) (D : Ends), Inv X pins σ H s → t D σ H → wpAny (model X.prog X.w) X.A (execs st X.env) (SP X pins D) X.xe s
theorem thn {α : Type} {t : Sem α} {Q Q' : α → Shared → Prop} {M : Model} {A : Around} {E : Value → Shared → Prop} {s : Shared} (h : wpAny M A t Q E s) (hQ : ∀ a s, Q a s → Q' a s) : wpAny M A t Q' E s := wpAny_mono h hQ fun _ _ x => x
end L2

namespace L2
open PySem PySem.Spec PyProof.Rows
section
variable {X : Cx}

def tVar (i : Nat) : TE := fun σ H Q => ∃ v, σ[i]? = some (some v) ∧ Q v H
def tC (v : V) : TE := fun _ H Q => Q v H
theorem pe_var {i : Nat} {x : Str} {pos : Pos} (hN : X.N[i]? = some x) (hv : Vis X.env.scope x) (hd : (x == ("__debug__" : Str)) = false := by decide) (hcd : (x == ("__classdict__" : Str)) = false := by decide) : PE X (.Name x pos) (tVar i) := by
  intro pins s σ H Q I h
  obtain ⟨v, e, h⟩ := h
  obtain ⟨m, hn, hl⟩ := I.loc
  obtain ⟨u, r, l⟩ := hl i x v hN e hv
  have fin : EP X pins σ Q u s := ⟨v, H, I, r, h⟩
  rcases l with ⟨hk, hm⟩ | ⟨hk, c, hc, hcell⟩
  · exact wpAny_Name (wpAny_loadName_local I.ok.kind hk hn hm fin) hd
  · rcases hk with hk | hk
    · exact wpAny_Name (wpAny_loadName_cell I.ok.kind hk hc hcell fin) hd
    · exact wpAny_Name (wpAny_loadName_free I.ok.kind hk hc hcell fin hcd) hd
theorem pe_int {i j pos} : PE X (.Constant (.int i) j pos) (tC (.int i)) := fun _ _ _ H _ I h => wpAny_Constant_int ⟨.int i, H, I.tok _, ⟨_, rfl⟩, h⟩
theorem pe_bl {b j pos} : PE X (.Constant (.bool b) j pos) (tC (.bl b)) := fun _ _ _ H _ I h => Constant_bool ⟨.bl b, H, I, rfl, h⟩
theorem pe_str {x j pos} : PE X (.Constant (.str x) j pos) (tC (.str x)) := fun _ _ _ H _ I h => Calls.Constant_str ⟨.str x, H, I.tok _, ⟨_, rfl⟩, h⟩

def Gl (X : Cx) (x : Str) : Prop := X.env.kindOf x = some .globalImplicit
theorem ld_glob {E : Value → Shared → Prop} {pins : List (Addr × Obj)} {s : Shared} {σ : St} {H : Hp} {x : Str} {u : Value} {pos : Pos} {Q : Value → Shared → Prop} (I : Inv X pins σ H s) (hg : Gl X x) (hm : X.mg x = some u) (h : Q u s)
    (hd : (x == ("__debug__" : Str)) = false := by decide) : wpAny (model X.prog X.w) X.A (eval (.Name x pos) X.env) Q E s :=
  Calls.Name_function_global I.ok.kind hg (Calls.loadGlobal_global (by rw [I.ok.glob]; exact I.mod.glob.keeps I.bk) hm h) hd
theorem ld_blt {E : Value → Shared → Prop} {pins : List (Addr × Obj)} {s : Shared} {σ : St} {H : Hp} {x : Str} {u : Value} {pos : Pos} {Q : Value → Shared → Prop} (I : Inv X pins σ H s) (hg : Gl X x) (hm : X.mg x = none) (hv : bootBuiltins x = some u) (h : Q u s)
    (hn : x ≠ "__name__" := by decide) (hd : (x == ("__debug__" : Str)) = false := by decide) : wpAny (model X.prog X.w) X.A (eval (.Name x pos) X.env) Q E s := by
  obtain ⟨mb, h1, h2⟩ := I.mod.blt
  exact Calls.Name_function_global I.ok.kind hg (Calls.loadGlobal_builtin (by rw [I.ok.glob]; exact I.mod.glob.keeps I.bk) hm (by rw [I.ok.blt]; exact h1.keeps I.bk) ((h2 x hn).trans hv) h) hd
theorem pe_bltn {x : Str} {v : V} {u : Value} {pos : Pos} (hg : Gl X x) (hm : X.mg x = none) (hv : bootBuiltins x = some u) (r : RelV v u) (hn : x ≠ "__name__" := by decide) (hd : (x == ("__debug__" : Str)) = false := by decide) : PE X (.Name x pos) (tC v) :=
  fun _ _ _ H _ I h => ld_blt I hg hm hv ⟨v, H, I, r, h⟩ hn hd

variable {a b : Expr} {ta tb : TE} {pos : Pos}
def PC (X : Cx) (op : CmpOp) (a b : Expr) (t : TE) : Prop :=
  ∀ (pins : List (Addr × Obj)) (s : Shared) (σ : St) (H : Hp) (Q : VK), Inv X pins σ H s → t σ H Q →
    wpAny (model X.prog X.w) X.A (eval a X.env) (fun v s₁ => wpAny (model X.prog X.w) X.A (eval b X.env) (fun u s₂ => wpAny (model X.prog X.w) X.A (compareOp op v u) (EP X pins σ Q) X.xe s₂) X.xe s₁) X.xe s
def tB (t : TE) : TT := fun σ H Q => t σ H fun x H1 => ∃ c, x = .bl c ∧ Q c H1
theorem pt_cmp {op : CmpOp} {t : TE} (h : PC X op a b t) (h1 : behindInMarks op b = false := by first | exact nobehind _ (by decide) (by decide) | rfl) : PT X (.Compare a [op] [b] pos) (tB t) := by
  intro pins s σ H Q I hw
  refine wpAny_isTrue_Compare1 (thn (h pins s σ H _ I hw) fun v s1 h1 => thn h1 fun u s2 h2 => thn h2 fun c s3 ⟨x, H1, I1, r1, q1⟩ => ?_) h1
  obtain ⟨d, rfl, q⟩ := q1
  cases r1
  exact wpAny_truthy_bool ⟨H1, I1, q⟩
theorem pt_val {e : Expr} {t : TE} (h : PE X e t) (he : ∀ whole, isTrue e X.env whole = (do let v ← whole; standAt e.pos; holding [v] (truthy v)) := by intro _; rfl) : PT X e (tB t) := by
  intro pins s σ H Q I hw
  refine isTrue_plain (thn (h pins s σ H _ I hw) fun v s1 ⟨x, H1, I1, r1, q1⟩ => ?_) (he _)
  obtain ⟨d, rfl, q⟩ := q1
  cases r1
  exact wpAny_truthy_bool ⟨H1, I1, q⟩

variable {tA tB' : TT} {rest : List Expr}
def tAnd (t u : TT) : TT := fun σ H Q => t σ H fun c H1 => if c = true then u σ H1 Q else Q false H1
def tOr (t u : TT) : TT := fun σ H Q => t σ H fun c H1 => if c = true then Q true H1 else u σ H1 Q
def tNot (t : TT) : TT := fun σ H Q => t σ H fun c H1 => Q (!c) H1
theorem pw_and1 (ha : PT X a tA) : PW X (.BoolOp .And [a] pos) tA := by
  intro wh pins s σ H Q I h
  refine isTrue_and (thn (ha pins s σ H Q I h) fun c s1 e => ?_)
  cases c with
  | true => exact isTrue_and_nil e
  | false => exact e
theorem pw_or1 (ha : PT X a tA) : PW X (.BoolOp .Or [a] pos) tA := by
  intro wh pins s σ H Q I h
  refine isTrue_or (thn (ha pins s σ H Q I h) fun c s1 e => ?_)
  cases c with
  | false => exact isTrue_or_nil e
  | true => exact e
theorem pw_and (ha : PT X a tA) (hb : PW X (.BoolOp .And (b :: rest) pos) tB') : PW X (.BoolOp .And (a :: b :: rest) pos) (tAnd tA tB') := by
  intro wh pins s σ H Q I h
  refine isTrue_and (thn (ha pins s σ H _ I h) fun c s1 ⟨H1, I1, q1⟩ => ?_)
  cases c with
  | true => exact hb wh pins s1 σ H1 Q I1 q1
  | false => exact ⟨H1, I1, q1⟩
theorem pw_or (ha : PT X a tA) (hb : PW X (.BoolOp .Or (b :: rest) pos) tB') : PW X (.BoolOp .Or (a :: b :: rest) pos) (tOr tA tB') := by
  intro wh pins s σ H Q I h
  refine isTrue_or (thn (ha pins s σ H _ I h) fun c s1 ⟨H1, I1, q1⟩ => ?_)
  cases c with
  | true => exact ⟨H1, I1, q1⟩
  | false => exact hb wh pins s1 σ H1 Q I1 q1
theorem pt_not (ha : PT X a tA) : PT X (.UnaryOp .Not a pos) (tNot tA) := by
  intro pins s σ H Q I h
  exact isTrue_not (ha pins s σ H (fun c H1 => Q (!c) H1) I h)
def tIf (t : TT) (ta tb : TE) : TE := fun σ H Q => t σ H fun c H1 => if c = true then ta σ H1 Q else tb σ H1 Q
theorem pe_ifExp {c : Expr} (hc : PT X c tA) (ha : PE X a ta) (hb : PE X b tb) : PE X (.IfExp c a b pos) (tIf tA ta tb) := by
  intro pins s σ H Q I h
  refine wpAny_IfExp (thn (hc pins s σ H _ I h) fun d s1 ⟨H1, I1, q1⟩ => ?_)
  cases d with
  | true => exact ha pins s1 σ H1 Q I1 q1
  | false => exact hb pins s1 σ H1 Q I1 q1
end
end L2

namespace L2
open PySem PySem.Spec PyProof.Rows

def SqL (K : PySem.W.Frag) (H : Hp) (a : Addr) (xs : List V) : Prop :=
  Rd H a (.lst xs) ∨
    ∃ (o : Obj) (its : Array Value) (n : Nat), K.lookup a = some o ∧ o.cls = .type "list" ∧ o.dict = none ∧ o.data = .seq its n ∧ its.size ≤ sizeLine ∧ Vals xs its.toList
def SqT (K : PySem.W.Frag) (H : Hp) (a : Addr) (xs : List V) : Prop :=
  Rd H a (.tup xs) ∨
    ∃ (o : Obj) (its : Array Value) (n : Nat), K.lookup a = some o ∧ o.cls = .type "tuple" ∧ o.data = .seq its n ∧ its.size ≤ sizeLine ∧ Vals xs its.toList
def absV : Value → Option V
  | .none => some .non
  | .bool b => some (.bl b)
  | .int i _ => some (.int i)
  | .str x _ => some (.str x)
  | .bytes b _ => some (.byt b)
  | .float b _ => some (.flt b)
  | .ref a => some (.ref a)
  | .type n => some (.ty n)
  | _ => none
theorem RelV.abs {x : V} {u : Value} (r : RelV x u) : absV u = some x := by
  cases x with
  | non => cases r; rfl
  | bl _ => cases r; rfl
  | int _ => obtain ⟨t, rfl⟩ := r; rfl
  | str _ => obtain ⟨t, rfl⟩ := r; rfl
  | byt _ => obtain ⟨t, rfl⟩ := r; rfl
  | flt _ => obtain ⟨t, rfl⟩ := r; rfl
  | ref _ => cases r; rfl
  | ty _ => cases r; rfl
theorem RelV.inj {x y : V} {u : Value} (r : RelV x u) (q : RelV y u) : x = y := Option.some.inj (r.abs.symm.trans q.abs)
theorem Vals.inj : ∀ {xs ys : List V} {us : List Value}, Vals xs us → Vals ys us → xs = ys
  | _, _, _, .nil, .nil => rfl
  | _, _, _, .cons r t, .cons r' t' => by rw [r.inj r', Vals.inj t t']
section
variable {X : Cx} {pins : List (Addr × Obj)} {σ : St} {H : Hp} {s : Shared} {a : Addr} {xs ys : List V}
theorem SqL.of {K : PySem.W.Frag} (h : H a = some (.lst xs)) : SqL K H a xs := .inl (.inl h)
theorem SqT.of {K : PySem.W.Frag} (h : H a = some (.tup xs)) : SqT K H a xs := .inl (.inl h)
theorem Inv.list (I : Inv X pins σ H s) (h : SqL X.K H a xs) : ∃ its : List Value, Vals xs its ∧ PlainL s.heap a its.toArray ∧ xs.length ≤ sizeLine := by
  rcases h with h | ⟨o, its, n, hk, hc, hd, hs, hz, r⟩
  · obtain ⟨z, its, n, r, e⟩ := h.ok I.hok
    exact ⟨its, r, ⟨_, n, e, rfl, rfl, rfl⟩, z⟩
  · refine ⟨its.toList, r, ⟨o, n, I.kIn a o hk, hc, hd, by simpa using hs⟩, ?_⟩
    have e := r.length
    simp only [Array.length_toList] at e
    omega
theorem Inv.tuple (I : Inv X pins σ H s) (h : SqT X.K H a xs) : ∃ its : List Value, Vals xs its ∧ IsTup s.heap a its.toArray ∧ xs.length ≤ sizeLine := by
  rcases h with h | ⟨o, its, n, hk, hc, hs, hz, r⟩
  · obtain ⟨z, its, r, p⟩ := h.ok I.hok
    exact ⟨its, r, p, z⟩
  · refine ⟨its.toList, r, ⟨o, I.kIn a o hk, hc, n, by simpa using hs⟩, ?_⟩
    have e := r.length
    simp only [Array.length_toList] at e
    omega
theorem Inv.list_inj (I : Inv X pins σ H s) (h : SqL X.K H a xs) (h' : SqL X.K H a ys) : xs = ys := by
  obtain ⟨its, r, ⟨o, n, e, _, _, d⟩, _⟩ := I.list h
  obtain ⟨its', r', ⟨o', n', e', _, _, d'⟩, _⟩ := I.list h'
  rw [e] at e'; cases e'
  rw [d] at d'
  injection d' with d1 _
  have : its = its' := by simpa using congrArg Array.toList d1
  subst this
  exact r.inj r'
theorem Inv.tuple_inj (I : Inv X pins σ H s) (h : SqT X.K H a xs) (h' : SqT X.K H a ys) : xs = ys := by
  obtain ⟨its, r, ⟨o, e, _, n, d⟩, _⟩ := I.tuple h
  obtain ⟨its', r', ⟨o', e', _, n', d'⟩, _⟩ := I.tuple h'
  rw [e] at e'; cases e'
  rw [d] at d'
  injection d' with d1 _
  have : its = its' := by simpa using congrArg Array.toList d1
  subst this
  exact r.inj r'
end

abbrev Cx.wish (X : Cx) (E : Value → Shared → Prop) : Cx := { X with xe := E }
abbrev Cx.nox (X : Cx) : Cx := X.wish fun _ _ => False
theorem Cx.Ok.wish {X : Cx} (ok : X.Ok) (E : Value → Shared → Prop) : (X.wish E).Ok :=
  ⟨ok.mod, ok.kind, ok.glob, ok.blt, ok.above, ok.inj, ok.has, ok.cab, ok.hd, ok.frames, ok.stk, ok.exf, ok.bs, ok.bsz, ok.noex, ok.exfs, ok.funs, ok.frf⟩
theorem Cx.Ok.unwish {X : Cx} {E : Value → Shared → Prop} (ok : (X.wish E).Ok) : X.Ok :=
  ⟨ok.mod, ok.kind, ok.glob, ok.blt, ok.above, ok.inj, ok.has, ok.cab, ok.hd, ok.frames, ok.stk, ok.exf, ok.bs, ok.bsz, ok.noex, ok.exfs, ok.funs, ok.frf⟩
section
variable {X : Cx} {pins : List (Addr × Obj)} {σ : St} {H : Hp} {s : Shared} {E : Value → Shared → Prop}
theorem Inv.wish (I : Inv X pins σ H s) (E : Value → Shared → Prop) : Inv (X.wish E) pins σ H s := ⟨I.ok.wish E, I.os, I.bare, I.base, I.loc, I.cell, I.free, I.freeC, I.pin, I.hok, I.len⟩
theorem Inv.unwish (I : Inv (X.wish E) pins σ H s) : Inv X pins σ H s := ⟨I.ok.unwish, I.os, I.bare, I.base, I.loc, I.cell, I.free, I.freeC, I.pin, I.hok, I.len⟩
theorem SP.unwish {D : Ends} {f : Flow} {s' : Shared} (h : SP (X.wish E) pins D f s') : SP X pins D f s' := by
  cases f with
  | next => obtain ⟨σ', H', I, q⟩ := h; exact ⟨σ', H', I.unwish, q⟩
  | brk => obtain ⟨σ', H', I, q⟩ := h; exact ⟨σ', H', I.unwish, q⟩
  | cont => obtain ⟨σ', H', I, q⟩ := h; exact ⟨σ', H', I.unwish, q⟩
  | ret u => obtain ⟨v, σ', H', I, r, q⟩ := h; exact ⟨v, σ', H', I.unwish, r, q⟩
theorem PSs.nox {st : List Stmt} {t : TS} (h : PSs X.nox st t) : PSs X st t := fun pins s σ H D I hw =>
  wpAny_mono (h pins s σ H D (I.wish _) hw) (fun _ _ q => q.unwish) fun _ _ z => False.elim z
end

section
variable {X : Cx} {st : Stmt} {rest : List Stmt} {t u : TS} {e : Expr} {te : TE} {pos : Pos}
def tNext : TS := fun D σ H => D.nx σ H
def tSeq (t u : TS) : TS := fun D σ H => t { D with nx := u D } σ H
theorem pss_nil : PSs X [] tNext := fun _ _ σ H _ I h => wpAny_execs_nil ⟨σ, H, I, h⟩
theorem pss_cons (h1 : PS X st t) (h2 : PSs X rest u) : PSs X (st :: rest) (tSeq t u) := by
  intro pins s σ H D I h
  refine wpAny_execs_cons (thn (h1 pins s σ H { D with nx := u D } I h) fun f s1 q => ?_)
  cases f with
  | next =>
    obtain ⟨σ', H', I', q⟩ := q
    exact h2 pins s1 σ' H' D I' q
  | ret v => exact q
  | brk => exact q
  | cont => exact q
theorem pss_one (h1 : PS X st t) : PSs X [st] t := by
  intro pins s σ H D I h
  refine wpAny_execs_cons (thn (h1 pins s σ H D I h) fun f s1 q => ?_)
  cases f with
  | next => exact wpAny_execs_nil q
  | ret v => exact q
  | brk => exact q
  | cont => exact q
theorem Inv.quiet {pins : List (Addr × Obj)} {σ : St} {H : Hp} {s : Shared} (I : Inv X pins σ H s) : interactive X.env = false := by simp [interactive, I.ok.kind]
def tDrop (te : TE) : TS := fun D σ H => te σ H fun _ H1 => D.nx σ H1
theorem ps_expr (he : PE X e te) (hs : swapsWith e none pos.line X.env = pure false := by rfl) : PS X (.Expr e pos) (tDrop te) := by
  intro pins s σ H D I h
  exact wpAny_Expr_any (thn (he pins s σ H _ I h) fun v s1 ⟨x, H1, I1, r1, q1⟩ => ⟨σ, H1, I1, q1⟩) I.quiet hs
def tRet (te : TE) : TS := fun D σ H => te σ H D.rt
theorem ps_ret (he : PE X e te) : PS X (.Return (some e) pos) (tRet te) := by
  intro pins s σ H D I h
  exact wpAny_Return_some (thn (he pins s σ H _ I h) fun v s1 ⟨x, H1, I1, r1, q1⟩ => ⟨x, σ, H1, I1, r1, q1⟩)
def tIfS (c : TT) (t u : TS) : TS := fun D σ H => c σ H fun b H1 => if b = true then t D σ H1 else u D σ H1
theorem ps_if {c : Expr} {a b : List Stmt} {tc : TT} (hc : PT X c tc) (ha : PSs X a t) (hb : PSs X b u) : PS X (.If c a b pos) (tIfS tc t u) := by
  intro pins s σ H D I h
  refine wpAny_If (thn (hc pins s σ H _ I h) fun d s1 ⟨H1, I1, q1⟩ => ?_)
  cases d with
  | true => exact ha pins s1 σ H1 D I1 q1
  | false => exact hb pins s1 σ H1 D I1 q1
end

abbrev TG := V → St → Hp → (St → Hp → Prop) → Prop
abbrev TGs := List V → St → Hp → (St → Hp → Prop) → Prop
def PG (X : Cx) (target : Expr) (t : TG) : Prop :=
  ∀ (pins : List (Addr × Obj)) (s : Shared) (σ : St) (H : Hp) (v : V) (u : Value) (Q : St → Hp → Prop), Inv X pins σ H s → RelV v u → t v σ H Q →
    wpAny (model X.prog X.w) X.A (assign target X.env u) (fun _ s' => ∃ σ' H', Inv X pins σ' H' s' ∧ Q σ' H') X.xe s
def PGs (X : Cx) (ts : List Expr) (t : TGs) : Prop :=
  ∀ (pins : List (Addr × Obj)) (s : Shared) (σ : St) (H : Hp) (vs : List V) (us : List Value) (Q : St → Hp → Prop), Inv X pins σ H s → Vals vs us → t vs σ H Q →
    wpAny (model X.prog X.w) X.A (assignInOrder ((assignEach ts X.env).map (·.2)) us) (fun _ s' => ∃ σ' H', Inv X pins σ' H' s' ∧ Q σ' H') X.xe s
abbrev TSet := V → V → V → Hp → (Hp → Prop) → Prop
def PSet (X : Cx) (t : TSet) : Prop :=
  ∀ (pins : List (Addr × Obj)) (s : Shared) (σ : St) (H : Hp) (o i v : V) (ov iv u : Value) (Q : Hp → Prop), Inv X pins σ H s → RelV o ov → RelV i iv → RelV v u → t o i v H Q →
    wpAny (model X.prog X.w) X.A (setItem ov iv u) (fun _ s' => ∃ H', Inv X pins σ H' s' ∧ Q H') X.xe s
section
variable {X : Cx} {pos : Pos}
def gName (i : Nat) : TG := fun v σ H Q => Q (σ.set i (some v)) H
theorem pg_name {i : Nat} {x : Str} (hN : X.N.Nodup) (hi : X.N[i]? = some x) (hx : Loc X.env.scope x) (hf : X.fn x = true ∨ X.env.scope.names.lookup x = some .local := by first | exact .inl rfl | exact .inr rfl | assumption) : PG X (.Name x pos) (gName i) := by
  intro pins s σ H v u Q I r h
  exact wpAny_assign_Name (store_ok I hN hi hx r (fun s' I' => ⟨_, H, I', h⟩) hf)
def gNil : TGs := fun vs σ H Q => vs = [] ∧ Q σ H
def gCons (t : TG) (u : TGs) : TGs := fun vs σ H Q => ∃ v r, vs = v :: r ∧ t v σ H fun σ' H' => u r σ' H' Q
theorem pgs_nil : PGs X [] gNil := by
  intro pins s σ H vs us Q I r h
  obtain ⟨e, h⟩ := h
  subst e
  cases r
  exact assignInOrder_nil ⟨σ, H, I, h⟩
theorem pgs_cons {e : Expr} {es : List Expr} {t : TG} {u : TGs} (h1 : PG X e t) (h2 : PGs X es u)
    (hs : (assignEach (e :: es) X.env).map (·.2) = assign e X.env :: (assignEach es X.env).map (·.2) := by rfl) : PGs X (e :: es) (gCons t u) := by
  intro pins s σ H vs us Q I r h
  obtain ⟨v, vr, e1, h⟩ := h
  subst e1
  cases r with
  | cons r rr =>
    rw [hs]
    refine assignInOrder_cons (thn (h1 pins s σ H _ _ _ I r h) fun _ s1 ⟨σ1, H1, I1, q1⟩ => ?_)
    exact h2 pins s1 σ1 H1 _ _ Q I1 rr q1
def gTup (K : PySem.W.Frag) (n : Nat) (t : TGs) : TG := fun v σ H Q => ∃ a xs, v = .ref a ∧ SqT K H a xs ∧ xs.length = n ∧ t xs σ H Q
theorem pg_tup {es : List Expr} {k : Nat} {t : TGs} {n : Nat} (hc : X.calm = true) (h : PGs X es t)
    (hn : (assignEach es X.env).length = n := by rfl) (hst : (assignEach es X.env).findIdx? (·.1) = none := by rfl) : PG X (.Tuple es k pos) (gTup X.K n t) := by
  intro pins s σ H v u Q I r hw
  obtain ⟨a, xs, e1, hq, hl, hw⟩ := hw
  subst e1
  cases r
  obtain ⟨its, rv, ht, hz⟩ := I.tuple hq
  refine assign_Tuple_tuple (I.ok.hd hc) ht (by simp [hn, ← hl, rv.length]) hst fun h' hx => ?_
  have I1 : Inv X pins σ H { s with heap := h' } := I.kept (t' := s.toks) fun b o e => hx b o (Nat.ne_of_lt (Heap.lt_size e)) e
  exact h pins _ σ H xs _ Q I1 (by simpa using rv) hw
def gSub (to ti : TE) (t : TSet) : TG := fun v σ H Q => to σ H fun o H1 => ti σ H1 fun i H2 => t o i v H2 fun H3 => Q σ H3
theorem pg_sub {o i : Expr} {to ti : TE} {t : TSet} (ho : PE X o to) (hi : PE X i ti) (hs : PSet X t)
    (ha : ∀ v, assign (.Subscript o i pos) X.env v = (do
      let ov ← holding [v] (eval o X.env)
      let iv ← holding [v, ov] (eval i X.env)
      standAt pos
      holding [v, ov, iv] (setItem ov iv v)
      release [v, ov, iv] []) := by intro _; rfl) : PG X (.Subscript o i pos) (gSub to ti t) := by
  intro pins s σ H v u Q I r h
  rw [ha]
  refine wpAny_bind (wpAny_holding (thn (ho pins s σ H _ I h) fun ov s1 ⟨x, H1, I1, r1, q1⟩ => ?_))
  refine wpAny_bind (wpAny_holding (thn (hi pins s1 σ H1 _ I1 q1) fun iv s2 ⟨y, H2, I2, r2, q2⟩ => ?_))
  refine wpAny_bind (wpAny_standAt (wpAny_bind (wpAny_holding (thn (hs pins s2 σ H2 x y v ov iv u _ I2 r1 r2 r q2) fun _ s3 ⟨H3, I3, q3⟩ => ?_))))
  exact wpAny_release ⟨σ, H3, I3, q3⟩
def tAsg (te : TE) (g : TG) : TS := fun D σ H => te σ H fun x H1 => g x σ H1 D.nx
theorem ps_asg {tg e : Expr} {te : TE} {g : TG} (he : PE X e te) (hg : PG X tg g) (hs : swapsWithSole [tg] e pos.line X.env = pure false := by rfl) (hw : swappedStores [tg] e X.env = pure none := by rfl)
    (h1 : (assignEach [tg] X.env).map (·.2) = [assign tg X.env] := by rfl) : PS X (.Assign [tg] e pos) (tAsg te g) := by
  intro pins s σ H D I h
  refine wpAny_Assign_stores (thn (he pins s σ H _ I h) fun v s1 ⟨x, H1, I1, r1, q1⟩ => ?_) hs hw
  rw [h1]
  exact thn (hg pins s1 σ H1 x v _ I1 r1 q1) fun _ s2 q => q
theorem ps_set {i : Nat} {x : Str} {e : Expr} {te : TE} {pos' : Pos} (hN : X.N.Nodup) (hi : X.N[i]? = some x) (hx : Loc X.env.scope x) (he : PE X e te) (hs : swapsWith e (some (.Name x pos')) pos.line X.env = pure false := by rfl) (hf : X.fn x = true ∨ X.env.scope.names.lookup x = some .local := by first | exact .inl rfl | exact .inr rfl | assumption) :
    PS X (.Assign [.Name x pos'] e pos) (tAsg te (gName i)) := by
  intro pins s σ H D I h
  refine wpAny_Assign_Name (thn (he pins s σ H _ I h) fun v s1 ⟨y, H1, I1, r1, q1⟩ => ?_) hs
  exact store_ok I1 hN hi hx r1 (fun s2 I2 => ⟨_, H1, I2, q1⟩) hf
def tPar (i j : Nat) (ta : TA) : TS := fun D σ H => ta σ H fun vs H1 => ∃ v w, vs = [v, w] ∧ D.nx ((σ.set i (some v)).set j (some w)) H1
theorem ps_par {i j : Nat} {x y : Str} {a b : Expr} {ta : TA} {px py pt : Pos} {kt k2 pt2} (hc : X.calm = true) (hN : X.N.Nodup) (hi : X.N[i]? = some x) (hj : X.N[j]? = some y) (hij : i ≠ j)
    (hx : X.env.scope.names.lookup x = some .local) (hy : X.env.scope.names.lookup y = some .local) (ha : PA X [a, b] ta)
    (hw : swappedStores [.Tuple [.Name x px, .Name y py] kt pt] (.Tuple [a, b] k2 pt2) X.env = pure (some [x, y]))
    (hs : swapsWithSole [.Tuple [.Name x px, .Name y py] kt pt] (.Tuple [a, b] k2 pt2) pos.line X.env = pure false := by rfl) :
    PS X (.Assign [.Tuple [.Name x px, .Name y py] kt pt] (.Tuple [a, b] k2 pt2) pos) (tPar i j ta) := by
  intro pins s σ H D I h
  rw [exec_Assign_arm]
  refine wpAny_bind (wpAny_standAt ?_)
  rw [hs]
  refine wpAny_bind (wpAny_pure ?_)
  rw [if_neg (by decide)]
  refine wpAny_bind (Tuple_ (thn (ha _ pins s σ H _ I h) fun us s1 ⟨vs, H1, I1, r1, q1⟩ => ?_))
  obtain ⟨v, w, e1, q1⟩ := q1
  subst e1
  obtain ⟨u1, u2, rfl, rv, rw'⟩ : ∃ u1 u2, us = [u1, u2] ∧ RelV v u1 ∧ RelV w u2 := by
    cases r1 with
    | cons p q =>
      cases q with
      | cons p' q' =>
        cases q'
        exact ⟨_, _, rfl, p, p'⟩
  refine wpAny_newObj_type ?_ (by show 2 ≤ sizeLine; decide)
  have I2 : Inv X pins σ H1 { s1 with heap := s1.heap.push { cls := .type "tuple", data := .seq [u1, u2].toArray } } := I1.kept (t' := s1.toks) fun b o e => Heap.get?_push_of_some _ e
  rw [hw]
  refine wpAny_bind (wpAny_pure ?_)
  show wpAny (model X.prog X.w) X.A (do rule "assign.swapped-stores"; let items ← unpackItems (.ref s1.heap.objs.size) 2 none; assignInOrder [fun v => bindName X.env y v, fun v => bindName X.env x v] items.reverse; pure Flow.next) _ _ _
  refine wpAny_bind (wpAny_rule (wpAny_bind (unpackItems_tuple (items := #[u1, u2]) (I.ok.hd hc) (IsTup.new s1.heap _) fun h' hx' => ?_)))
  have I3 := I2.kept (h' := h') (t' := s1.toks) fun b o e => hx' b o (Nat.ne_of_lt (Heap.lt_size e)) e
  show wpAny _ _ (assignInOrder [fun v => bindName X.env y v, fun v => bindName X.env x v] [u2, u1] >>= fun _ => pure Flow.next) _ _ _
  refine wpAny_bind (assignInOrder_cons (wpAny_bindName (store_ok I3 hN hj (.inl hy) rw' (fun s2 I4 => ?_) (.inr hy))))
  refine assignInOrder_cons (wpAny_bindName (store_ok I4 hN hi (.inl hx) rv (fun s3 I5 => assignInOrder_nil (wpAny_pure ?_)) (.inr hx)))
  rw [List.set_comm _ _ (Ne.symm hij)] at I5
  exact ⟨_, H1, I5, q1⟩
end

section
variable {X : Cx} {pos : Pos}
def tWhile (c : TT) (tb : TS) : TS := fun D σ H => ∃ W : Nat → St → Hp → Prop, (∃ m, W m σ H) ∧ ∀ m σ H, W m σ H →
  c σ H fun b H1 => if b = true then ∃ N : St → Hp → Prop, (∀ σ' H', N σ' H' → ∃ m', m' < m ∧ W m' σ' H') ∧ tb { D with nx := N, ct := N, bk := D.nx } σ H1 else D.nx σ H1
theorem ps_while {c : Expr} {body : List Stmt} {tc : TT} {tb : TS} (hp : PassesOwn (model X.prog X.w) X.A X.env X.xe) (hc : PT X c tc) (hb : PSs X body tb) : PS X (.While c body [] pos) (tWhile tc tb) := by
  intro pins s σ H D I h
  obtain ⟨W, ⟨m0, w0⟩, turn⟩ := h
  refine wpAny_While (codeAny_whileLoop (fun n s' => ∃ σ' H', Inv X pins σ' H' s' ∧ W n σ' H') ?_ m0 ⟨σ, H, I, w0⟩)
  rintro n s1 ⟨σ1, H1, I1, w1⟩
  refine wpAny_passesOwn hp (thn (hc pins s1 σ1 H1 _ I1 (turn n σ1 H1 w1)) fun b s2 ⟨H2, I2, q2⟩ => ?_)
  cases b with
  | true =>
    obtain ⟨N, hN, q2⟩ := q2
    rw [if_pos rfl]
    refine wpAny_passesOwn hp (thn (hb pins s2 σ1 H2 _ I2 q2) fun f s3 q3 => ?_)
    cases f with
    | next =>
      obtain ⟨σ3, H3, I3, n3⟩ := q3
      obtain ⟨m', hm, w3⟩ := hN σ3 H3 n3
      exact ⟨m', hm, σ3, H3, I3, w3⟩
    | cont =>
      obtain ⟨σ3, H3, I3, n3⟩ := q3
      obtain ⟨m', hm, w3⟩ := hN σ3 H3 n3
      exact ⟨m', hm, σ3, H3, I3, w3⟩
    | brk => exact q3
    | ret v => exact q3
  | false =>
    rw [if_neg Bool.false_ne_true]
    exact wpAny_execs_nil ⟨σ1, H2, I2, q2⟩
end

structure It where
  go : Nat → Hp → Prop
  yld : Nat → Hp → V → Hp → Prop
  stop : Nat → Hp → Prop
def FpOk (X : Cx) (pins : List (Addr × Obj)) (H : Hp) (b : Addr) : Prop :=
  H b = none ∧ b ≠ X.env.locals ∧ b ∉ X.fs ∧ (b ∈ X.ex ∨ X.s₀.heap.objs.size ≤ b) ∧ (∀ x c, X.env.cells.lookup x = some c → c ≠ b) ∧ ∀ p ∈ X.pn ++ pins, p.1 ≠ b
theorem Inv.fpOk {X : Cx} {pins : List (Addr × Obj)} {σ : St} {H H' : Hp} {s : Shared} {b : Addr} (I : Inv X pins σ H s) (hb : s.heap.objs.size ≤ b) (hn : H' b = none) : FpOk X pins H' b := by
  refine ⟨hn, Nat.ne_of_gt (Nat.lt_of_lt_of_le I.lt hb), I.nofs hb, .inr (Nat.le_trans I.sz hb), fun x c e z => ?_, fun p hp z => ?_⟩
  · obtain ⟨v, q⟩ := I.cell x c e
    exact absurd (Nat.lt_of_lt_of_le q.lt (by rw [z]; exact hb)) (Nat.lt_irrefl _)
  · exact absurd (Nat.lt_of_lt_of_le (Heap.lt_size (I.pin p hp).1) (by rw [z]; exact hb)) (Nat.lt_irrefl _)
structure Turn (P : Program) (w : World) (K : PySem.W.Frag) (tg : Expr) (J : It) (fp : List Addr) (it : Addr) (tn : Nat → Heap → Prop) : Prop where
  mem : it ∈ fp
  obj : ∀ i h, tn i h → ∀ b ∈ fp, ∃ o, h.get? b = some o ∧ ∀ v, o.data ≠ .cell v
  keep : ∀ i h h', tn i h → (∀ b ∈ fp, ∀ o, h.get? b = some o → h'.get? b = some o) → tn i h'
  item : ∀ (X : Cx), X.prog = P → X.w = w → X.K = K → X.calm = true → ∀ (i : Nat) (pins : List (Addr × Obj)) (s : Shared) (σ : St) (H : Hp) (E : Value → Shared → Prop), Inv X pins σ H s → (∀ b ∈ fp, FpOk X pins H b) → tn i s.heap → J.go i H →
    wpAny (model P w) X.A (pyNext (.ref it)) (fun r s1 => ∃ u, r = some u ∧
      wpAny (model P w) X.A (letOwnedTupleGo tg (.ref it) u) (fun _ s2 => ∃ x H', Inv X pins σ H' s2 ∧ RelV x u ∧ J.yld i H x H' ∧ tn (i + 1) s2.heap ∧ ∀ b ∈ fp, H' b = none) E s1) E s
  done : ∀ (X : Cx), X.prog = P → X.w = w → X.K = K → X.calm = true → ∀ (i : Nat) (pins : List (Addr × Obj)) (s : Shared) (σ : St) (H : Hp) (E : Value → Shared → Prop), Inv X pins σ H s → (∀ b ∈ fp, FpOk X pins H b) → tn i s.heap → J.stop i H →
    wpAny (model P w) X.A (pyNext (.ref it)) (fun r s1 => r = none ∧ Inv X pins σ H s1) E s
  self : ∀ (A : Around) (i : Nat) (s : Shared) (Q : Value → Shared → Prop) (E : Value → Shared → Prop), tn i s.heap → Q (.ref it) s → wpAny (model P w) A (pyIter (.ref it)) Q E s
abbrev TI := St → Hp → (It → Hp → Prop) → Prop
def PIE (X : Cx) (pins : List (Addr × Obj)) (σ : St) (tg : Expr) (R : It → Hp → Prop) (itv : Value) (s2 : Shared) : Prop :=
  ∃ (it : Addr) (fp : List Addr) (tn : Nat → Heap → Prop) (J : It) (H' : Hp), itv = .ref it ∧ Inv X pins σ H' s2 ∧ Turn X.prog X.w X.K tg J fp it tn ∧ tn 0 s2.heap ∧ (∀ b ∈ fp, FpOk X pins H' b) ∧ R J H'
def PI (X : Cx) (tg iter : Expr) (wi : TI) : Prop :=
  ∀ (pins : List (Addr × Obj)) (s : Shared) (σ : St) (H : Hp) (R : It → Hp → Prop), Inv X pins σ H s → wi σ H R →
    wpAny (model X.prog X.w) X.A (eval iter X.env) (fun v s1 => wpAny (model X.prog X.w) X.A (pyIter v) (PIE X pins σ tg R) X.xe s1) X.xe s

theorem go_of {M : Model} {A : Around} {E : Value → Shared → Prop} {s : Shared} {tg : Expr} {it : Addr} {u : Value} {o : Obj} {n : String} {vs : Array Value} {Q : Unit → Shared → Prop} (ho : s.heap.get? it = some o) (hc : o.cls = .type n) (hd : o.data = .fields vs)
    (hn : ["enumerate", "zip", "dict_itemiterator", "dict_reverseitemiterator", "odict_iterator", "itertools.zip_longest", "itertools.pairwise"].contains n = false) (hQ : Q () s) : wpAny M A (letOwnedTupleGo tg (.ref it) u) Q E s := by
  unfold letOwnedTupleGo
  cases tg <;> first
    | exact wpAny_pure hQ
    | (cases u <;> first
        | exact wpAny_pure hQ
        | (refine wpAny_bind (wpAny_load ho ?_)
           rw [hc, hd]
           show wpAny M A (if (["enumerate", "zip", "dict_itemiterator", "dict_reverseitemiterator", "odict_iterator", "itertools.zip_longest", "itertools.pairwise"].contains n && vs[0]? == some (rawInt _)) = true then _ else _) Q E s
           rw [if_neg (by intro h; rw [hn, Bool.false_and] at h; cases h)]
           exact wpAny_pure hQ))

def Itl (K : PySem.W.Frag) (a : Addr) : It :=
  ⟨fun i H => ∃ xs x, SqL K H a xs ∧ xs[i]? = some x, fun i H x H' => H' = H ∧ ∀ xs, SqL K H a xs → xs[i]? = some x, fun i H => ∃ xs, SqL K H a xs ∧ xs.length ≤ i⟩
def Itt (K : PySem.W.Frag) (a : Addr) : It :=
  ⟨fun i H => ∃ xs x, SqT K H a xs ∧ xs[i]? = some x, fun i H x H' => H' = H ∧ ∀ xs, SqT K H a xs → xs[i]? = some x, fun i H => ∃ xs, SqT K H a xs ∧ xs.length ≤ i⟩
def Itr (lo : Int) (n : Nat) : It := ⟨fun i _ => i < n, fun i H x H' => H' = H ∧ x = .int (lo + i), fun i _ => n ≤ i⟩
theorem turn_list {P : Program} {w : World} {K : PySem.W.Frag} {tg : Expr} (a it : Addr) : Turn P w K tg (Itl K a) [it] it (fun i h => h.IsListIter it a i) where
  mem := by simp
  obj := fun i h st b hb => by
    have e : b = it := by simpa using hb
    subst e
    obtain ⟨o, e, c, d⟩ := st
    exact ⟨o, e, fun v z => by rw [d] at z; cases z⟩
  keep := fun i h h' st k => st.at fun o e => k it (by simp) o e
  item := by
    intro X hP hw hK hc i pins s σ H E I hf st hg
    subst hP hw hK
    obtain ⟨xs, x, hq, hx⟩ := hg
    obtain ⟨its, rv, p, hz⟩ := I.list hq
    obtain ⟨u, hu, ru⟩ := rv.get hx
    obtain ⟨f0, f1, f2, f3, f4, f5⟩ := hf it (by simp)
    refine wpAny_pyNext_list_item st p.isList (x := u) (by simpa using hu) fun h' st' sb => ?_
    have I1 : Inv X pins σ H { s with heap := h' } := I.turned (t' := s.toks) (fun b o hb e => (sb.2 b hb).trans e) f0 f1 f3 f4 f5
    obtain ⟨o, e, c, d⟩ := id st'
    exact ⟨u, rfl, go_of (s := { s with heap := h' }) e c d (by decide) ⟨x, H, I1, ru, ⟨rfl, fun ys hy => by rw [I.list_inj hy hq]; exact hx⟩, st', fun b hb => (hf b hb).1⟩⟩
  done := by
    intro X hP hw hK hc i pins s σ H E I hf st hg
    subst hP hw hK
    obtain ⟨xs, hq, hx⟩ := hg
    obtain ⟨its, rv, p, hz⟩ := I.list hq
    obtain ⟨f0, f1, f2, f3, f4, f5⟩ := hf it (by simp)
    have hl := rv.length
    exact wpAny_pyNext_list_end (I.ok.hd hc) st p.isList (by simp; omega) fun h' eb => ⟨rfl, I.turned (t' := s.toks) (fun b o hb e => eb b o hb e) f0 f1 f3 f4 f5⟩
  self := fun _ _ _ _ _ st h => wpAny_pyIter_listiter st h
theorem turn_tuple {P : Program} {w : World} {K : PySem.W.Frag} {tg : Expr} (a it : Addr) : Turn P w K tg (Itt K a) [it] it (fun i h => h.IsTupleIter it a i) where
  mem := by simp
  obj := fun i h st b hb => by
    have e : b = it := by simpa using hb
    subst e
    obtain ⟨o, e, c, d⟩ := st
    exact ⟨o, e, fun v z => by rw [d] at z; cases z⟩
  keep := fun i h h' st k => st.at fun o e => k it (by simp) o e
  item := by
    intro X hP hw hK hc i pins s σ H E I hf st hg
    subst hP hw hK
    obtain ⟨xs, x, hq, hx⟩ := hg
    obtain ⟨its, rv, p, hz⟩ := I.tuple hq
    obtain ⟨u, hu, ru⟩ := rv.get hx
    obtain ⟨f0, f1, f2, f3, f4, f5⟩ := hf it (by simp)
    refine wpAny_pyNext_tuple_item st (show s.heap.IsTuple a its.toArray from p) (x := u) (by simpa using hu) fun h' st' sb => ?_
    have I1 : Inv X pins σ H { s with heap := h' } := I.turned (t' := s.toks) (fun b o hb e => (sb.2 b hb).trans e) f0 f1 f3 f4 f5
    obtain ⟨o, e, c, d⟩ := id st'
    exact ⟨u, rfl, go_of (s := { s with heap := h' }) e c d (by decide) ⟨x, H, I1, ru, ⟨rfl, fun ys hy => by rw [I.tuple_inj hy hq]; exact hx⟩, st', fun b hb => (hf b hb).1⟩⟩
  done := by
    intro X hP hw hK hc i pins s σ H E I hf st hg
    subst hP hw hK
    obtain ⟨xs, hq, hx⟩ := hg
    obtain ⟨its, rv, p, hz⟩ := I.tuple hq
    obtain ⟨f0, f1, f2, f3, f4, f5⟩ := hf it (by simp)
    have hl := rv.length
    exact wpAny_pyNext_tuple_end (I.ok.hd hc) st (show s.heap.IsTuple a its.toArray from p) (by simp; omega) fun h' eb => ⟨rfl, I.turned (t' := s.toks) (fun b o hb e => eb b o hb e) f0 f1 f3 f4 f5⟩
  self := fun _ _ _ _ _ st h => wpAny_pyIter_tupleiter st h
theorem turn_range {P : Program} {w : World} {K : PySem.W.Frag} {tg : Expr} (it : Addr) (lo : Int) (n : Nat) : Turn P w K tg (Itr lo n) [it] it (fun i h => IsRangeIter h it (lo + (i : Nat) * 1) ((n : Int) - (i : Nat)) 1) where
  mem := by simp
  obj := fun i h st b hb => by
    have e : b = it := by simpa using hb
    subst e
    exact ⟨_, st, fun v z => by
      have z' : Data.fields _ = Data.cell v := z
      cases z'⟩
  keep := fun i h h' st k => k it (by simp) _ st
  item := by
    intro X hP hw hK hc i pins s σ H E I hf st hg
    subst hP hw hK
    obtain ⟨f0, f1, f2, f3, f4, f5⟩ := hf it (by simp)
    have W := Walks.range (prog := X.prog) (w := X.w) (I.ok.hd hc) it lo 1 n
    refine W.item i s _ _ hg st fun v h' tk hv st' kk => ?_
    obtain ⟨t, rfl⟩ := hv
    have I1 : Inv X pins σ H { s with heap := h', toks := tk } := I.turned (fun b o hb e => kk b o (by simpa using hb) e) f0 f1 f3 f4 f5
    refine ⟨_, rfl, go_of (s := { s with heap := h', toks := tk }) (n := "range_iterator") st' rfl rfl (by decide) ⟨.int (lo + i), H, I1, ⟨t, ?_⟩, ⟨rfl, rfl⟩, st', fun b hb => (hf b hb).1⟩⟩
    rw [Int.mul_one]
  done := by
    intro X hP hw hK hc i pins s σ H E I hf st hg
    subst hP hw hK
    obtain ⟨f0, f1, f2, f3, f4, f5⟩ := hf it (by simp)
    exact wpAny_pyNext_range_end (I.ok.hd hc) st (by have : n ≤ i := hg; omega) fun h' eb => ⟨rfl, I.turned (t' := s.toks) (fun b o hb e => eb b o hb e) f0 f1 f3 f4 f5⟩
  self := fun _ _ _ _ _ st h => wpAny_pyIter_rangeiter st h
end L2

namespace L2
open PySem PySem.Spec PyProof.Rows
section
variable {X : Cx} {tg : Expr}
def iList (K : PySem.W.Frag) (tl : TE) : TI := fun σ H R => tl σ H fun x H1 => ∃ a, x = .ref a ∧ (∃ xs, SqL K H1 a xs) ∧ R (Itl K a) H1
def iTup (K : PySem.W.Frag) (tl : TE) : TI := fun σ H R => tl σ H fun x H1 => ∃ a, x = .ref a ∧ (∃ xs, SqT K H1 a xs) ∧ R (Itt K a) H1
theorem pi_list {l : Expr} {tl : TE} (hl : PE X l tl) : PI X tg l (iList X.K tl) := by
  intro pins s σ H R I h
  refine thn (hl pins s σ H _ I h) fun v s1 ⟨x, H1, I1, r1, q1⟩ => ?_
  obtain ⟨a, e, ⟨xs, hq⟩, q⟩ := q1
  subst e
  cases r1
  obtain ⟨its, rv, p, hz⟩ := I1.list hq
  refine wpAny_pyIter_list p.isList ?_
  refine ⟨s1.heap.objs.size, [s1.heap.objs.size], _, _, H1, rfl, I1.kept (t' := s1.toks) fun b o e => Heap.get?_push_of_some _ e, turn_list a _, ⟨_, Heap.get?_push_size _ rfl, rfl, rfl⟩, fun b hb => ?_, q⟩
  have e : b = s1.heap.objs.size := by simpa using hb
  subst e
  exact I1.fpOk (Nat.le_refl _) (I1.hok.fresh (Nat.le_refl _))
theorem pi_tup {l : Expr} {tl : TE} (hl : PE X l tl) : PI X tg l (iTup X.K tl) := by
  intro pins s σ H R I h
  refine thn (hl pins s σ H _ I h) fun v s1 ⟨x, H1, I1, r1, q1⟩ => ?_
  obtain ⟨a, e, ⟨xs, hq⟩, q⟩ := q1
  subst e
  cases r1
  obtain ⟨its, rv, p, hz⟩ := I1.tuple hq
  refine wpAny_pyIter_tuple (show s1.heap.IsTuple a its.toArray from p) ?_
  refine ⟨s1.heap.objs.size, [s1.heap.objs.size], _, _, H1, rfl, I1.kept (t' := s1.toks) fun b o e => Heap.get?_push_of_some _ e, turn_tuple a _, ⟨_, Heap.get?_push_size _ rfl, rfl, rfl⟩, fun b hb => ?_, q⟩
  have e : b = s1.heap.objs.size := by simpa using hb
  subst e
  exact I1.fpOk (Nat.le_refl _) (I1.hok.fresh (Nat.le_refl _))
theorem range_it {pins : List (Addr × Obj)} {σ : St} {H : Hp} {s : Shared} {R : It → Hp → Prop} {E : Value → Shared → Prop} {lo hi : Int} {t u v : Tok} {tk : Nat} (I : Inv X pins σ H s) (h1 : -(2 ^ 62) ≤ lo) (h2 : lo < 2 ^ 62) (h3 : -(2 ^ 62) ≤ hi) (h4 : hi < 2 ^ 62)
    (q : R (Itr lo (hi - lo).toNat) H) : wpAny (model X.prog X.w) X.A (pyIter (.ref s.heap.objs.size)) (PIE X pins σ tg R) E { s with heap := s.heap.push { cls := .type "range", data := .fields #[.int lo t, .int hi u, .int 1 v] }, toks := tk } := by
  refine wpAny_pyIter_range (IsRange.new ..) (small_one h1 h2 h3 h4) ?_
  have I1 : Inv X pins σ H { s with heap := s.heap.push { cls := .type "range", data := .fields #[.int lo t, .int hi u, .int 1 v] }, toks := tk } := I.kept fun b o e => Heap.get?_push_of_some _ e
  refine ⟨(s.heap.push { cls := .type "range", data := .fields #[.int lo t, .int hi u, .int 1 v] }).objs.size, [(s.heap.push { cls := .type "range", data := .fields #[.int lo t, .int hi u, .int 1 v] }).objs.size], _, _, H, rfl,
    I1.kept (t' := tk) fun b o e => Heap.get?_push_of_some _ e, turn_range _ lo (hi - lo).toNat, ?_, fun b hb => ?_, q⟩
  · have e1 : lo + ((0 : Nat) : Int) * 1 = lo := by simp
    have e2 : (((hi - lo).toNat : Nat) : Int) - ((0 : Nat) : Int) = Builtin.Range.rangeSize lo hi 1 := by rw [rangeSize_one]; split <;> omega
    show IsRangeIter _ _ (lo + ((0 : Nat) : Int) * 1) ((((hi - lo).toNat : Nat) : Int) - ((0 : Nat) : Int)) 1
    rw [e1, e2]
    exact Heap.get?_push_size _ rfl
  · have e : b = (s.heap.push { cls := .type "range", data := .fields #[.int lo t, .int hi u, .int 1 v] }).objs.size := by simpa using hb
    subst e
    exact I1.fpOk (Nat.le_refl _) (I1.hok.fresh (Nat.le_refl _))
def iRng1 (ta : TA) : TI := fun σ H R => ta σ H fun vs H1 => ∃ j : Int, vs = [.int j] ∧ -(2 ^ 62) ≤ j ∧ j < 2 ^ 62 ∧ R (Itr 0 j.toNat) H1
theorem pi_range1 {a : Expr} {ta : TA} {p pos : Pos} (hg : Gl X "range") (hm : X.mg "range" = none) (ha : PA X [a] ta) (hs : starEach [a] X.env = [(false, eval a X.env)] := by rfl) : PI X tg (.Call (.Name "range" p) [a] [] pos) (iRng1 ta) := by
  intro pins s σ H R I h
  refine Call_ (ld_blt I hg hm boot_range (PyProof.Rows.callWith_type1 (thn (ha pos pins s σ H _ I h) fun us s1 ⟨vs, H1, I1, r1, q1⟩ => ?_) hs rfl))
  obtain ⟨j, e, q1, q2, q⟩ := q1
  subst e
  cases r1 with
  | cons r rr =>
    cases rr
    obtain ⟨t, rfl⟩ := r
    exact call_range_1 (range_it I1 (by omega) (by omega) q1 q2 (by simpa using q))
def tFor (wi : TI) (g : TG) (tb : TS) : TS := fun D σ H => wi σ H fun J H1 => ∃ W : Nat → Nat → St → Hp → Prop, (∃ m, W 0 m σ H1) ∧ ∀ i m σ H, W i m σ H →
  (J.stop i H ∧ D.nx σ H) ∨ (J.go i H ∧ ∃ N : St → Hp → Prop, (∀ σ' H', N σ' H' → ∃ m', m' < m ∧ W (i + 1) m' σ' H') ∧ ∀ x H', J.yld i H x H' → g x σ H' fun σ2 H2 => tb { D with nx := N, ct := N, bk := D.nx } σ2 H2)
def pinsAt (fp : List Addr) (h : Heap) : List (Addr × Obj) := fp.filterMap fun b => (h.get? b).map fun o => (b, o)
theorem mem_pinsAt {fp : List Addr} {h : Heap} {b : Addr} {o : Obj} (hb : b ∈ fp) (e : h.get? b = some o) : (b, o) ∈ pinsAt fp h := List.mem_filterMap.mpr ⟨b, hb, by rw [e]; rfl⟩
theorem of_pinsAt {fp : List Addr} {h : Heap} {p : Addr × Obj} (hp : p ∈ pinsAt fp h) : p.1 ∈ fp ∧ h.get? p.1 = some p.2 := by
  obtain ⟨b, hb, e⟩ := List.mem_filterMap.mp hp
  cases q : h.get? b with
  | none => rw [q] at e; cases e
  | some o =>
    rw [q] at e
    have e' : (b, o) = p := Option.some.inj e
    subst e'
    exact ⟨hb, q⟩
theorem Inv.pinned {pins : List (Addr × Obj)} {σ : St} {H : Hp} {s : Shared} {fp : List Addr} (I : Inv X pins σ H s) (hf : ∀ b ∈ fp, FpOk X pins H b) (ho : ∀ b ∈ fp, ∃ o, s.heap.get? b = some o ∧ ∀ v, o.data ≠ .cell v) : Inv X (pins ++ pinsAt fp s.heap) σ H s :=
  I.pins_of fun p hp => (List.mem_append.mp hp).elim (fun z => I.pin p (List.mem_append_right _ z)) fun z => by
    obtain ⟨hb, e⟩ := of_pinsAt z
    obtain ⟨f0, f1, f2, _⟩ := hf p.1 hb
    obtain ⟨o, e', d⟩ := ho p.1 hb
    rw [e] at e'; cases e'
    exact ⟨e, f0, f1, f2, d⟩
theorem Inv.unpinned {pins pl : List (Addr × Obj)} {σ : St} {H : Hp} {s : Shared} (I : Inv X (pins ++ pl) σ H s) : Inv X pins σ H s := I.pins_of fun p hp => I.pin p (List.mem_append_right _ (List.mem_append_left _ hp))
theorem ps_for {iter : Expr} {body : List Stmt} {wi : TI} {g : TG} {tb : TS} {pos : Pos} (hp : PassesOwn (model X.prog X.w) X.A X.env X.xe) (hc : X.calm = true) (hi : PI X tg iter wi) (hg : PG X tg g) (hb : PSs X body tb)
    (hs : ∀ x, foldedSetIterable iter X.env x = pure x := by intro _; rfl) : PS X (.For tg iter body [] pos) (tFor wi g tb) := by
  intro pins s σ H D I h
  refine wpAny_For (thn (hi pins s σ H _ I h) fun v s1 h1 => thn h1 fun itv s2 h2 => ?_) hs
  obtain ⟨it, fp, tn, J, H2, e, I2, T, st2, f2, W, ⟨m0, w0⟩, turn⟩ := h2
  subst e
  have stat : ∀ {H' : Hp}, (∀ b ∈ fp, H' b = none) → ∀ b ∈ fp, FpOk X pins H' b := fun hn b hb => ⟨hn b hb, (f2 b hb).2⟩
  refine codeAny_forLoop_any (fun n s' => ∃ i σ' H', Inv X pins σ' H' s' ∧ tn i s'.heap ∧ (∀ b ∈ fp, H' b = none) ∧ W i n σ' H') ?_ m0 ⟨0, σ, H2, I2, st2, fun b hb => (f2 b hb).1, w0⟩
  rintro n s3 ⟨i, σ3, H3, I3, st3, fr3, w3⟩
  rcases turn i n σ3 H3 w3 with ⟨stop, qn⟩ | ⟨go, N, hN, step⟩
  · refine wpAny_passesOwn hp (thn (T.done X rfl rfl rfl hc i pins s3 σ3 H3 X.xe I3 (stat fr3) st3 stop) fun r s4 ⟨hr, I4⟩ => ?_)
    subst hr
    exact wpAny_execs_nil ⟨σ3, H3, I4, qn⟩
  · refine wpAny_passesOwn hp (thn (T.item X rfl rfl rfl hc i pins s3 σ3 H3 X.xe I3 (stat fr3) st3 go) fun r s4 ⟨u, hr, h4⟩ => ?_)
    subst hr
    refine wpAny_passesOwn hp (thn h4 fun _ s5 ⟨x, H5, I5, r5, y5, st5, fr5⟩ => ?_)
    have I5' := I5.pinned (stat fr5) (T.obj _ _ st5)
    refine wpAny_passesOwn hp (thn (hg _ s5 σ3 H5 x u _ I5' r5 (step x H5 y5)) fun _ s6 ⟨σ6, H6, I6, q6⟩ => ?_)
    refine wpAny_passesOwn hp (thn (hb _ s6 σ6 H6 _ I6 q6) fun f s7 q7 => ?_)
    have again : ∀ {σ7 : St} {H7 : Hp}, Inv X (pins ++ pinsAt fp s5.heap) σ7 H7 s7 → N σ7 H7 → ∃ m, m < n ∧ ∃ i σ' H', Inv X pins σ' H' s7 ∧ tn i s7.heap ∧ (∀ b ∈ fp, H' b = none) ∧ W i m σ' H' := fun {σ7 H7} I7 n7 => by
      obtain ⟨m', hm, w7⟩ := hN σ7 H7 n7
      refine ⟨m', hm, i + 1, σ7, H7, I7.unpinned, T.keep _ _ _ st5 fun b hb o e => (I7.pin (b, o) (List.mem_append_right _ (List.mem_append_right _ (mem_pinsAt hb e)))).1, fun b hb => ?_, w7⟩
      obtain ⟨o, e, d⟩ := T.obj _ _ st5 b hb
      exact (I7.pin (b, o) (List.mem_append_right _ (List.mem_append_right _ (mem_pinsAt hb e)))).2.1
    cases f with
    | next => obtain ⟨σ7, H7, I7, n7⟩ := q7; exact again I7 n7
    | cont => obtain ⟨σ7, H7, I7, n7⟩ := q7; exact again I7 n7
    | brk => obtain ⟨σ7, H7, I7, q7⟩ := q7; exact ⟨σ7, H7, I7.unpinned, q7⟩
    | ret v => obtain ⟨x7, σ7, H7, I7, r7, q7⟩ := q7; exact ⟨x7, σ7, H7, I7.unpinned, r7, q7⟩
end

theorem for_list {K : PySem.W.Frag} {a : Addr} {xs : List V} {g : TG} {tb : TS} {D : Ends} {σ : St} {H : Hp} (Pv : Nat → St → Hp → Prop) (h0 : Pv 0 σ H) (hl : ∀ i σ H, i ≤ xs.length → Pv i σ H → SqL K H a xs)
    (hs : ∀ i x σ H, xs[i]? = some x → Pv i σ H → g x σ H fun σ2 H2 => tb { D with nx := Pv (i + 1), ct := Pv (i + 1), bk := D.nx } σ2 H2) (hd : ∀ σ H, Pv xs.length σ H → D.nx σ H) :
    ∃ W : Nat → Nat → St → Hp → Prop, (∃ m, W 0 m σ H) ∧ ∀ i m σ H, W i m σ H →
      ((Itl K a).stop i H ∧ D.nx σ H) ∨ ((Itl K a).go i H ∧ ∃ N : St → Hp → Prop, (∀ σ' H', N σ' H' → ∃ m', m' < m ∧ W (i + 1) m' σ' H') ∧ ∀ x H', (Itl K a).yld i H x H' → g x σ H' fun σ2 H2 => tb { D with nx := N, ct := N, bk := D.nx } σ2 H2) := by
  refine ⟨fun i m σ H => m = xs.length - i ∧ i ≤ xs.length ∧ Pv i σ H, ⟨xs.length, by simp, Nat.zero_le _, h0⟩, ?_⟩
  rintro i m σ H ⟨rfl, hi, p⟩
  have q := hl i σ H hi p
  by_cases hlt : i < xs.length
  · refine .inr ⟨⟨xs, xs[i], q, by simp [hlt]⟩, Pv (i + 1), fun σ' H' p' => ⟨xs.length - (i + 1), by omega, rfl, hlt, p'⟩, fun x H' y => ?_⟩
    obtain ⟨e, y⟩ := y
    subst e
    exact hs i x σ _ (y xs q) p
  · have e : i = xs.length := by omega
    subst e
    exact .inl ⟨⟨xs, q, Nat.le_refl _⟩, hd σ H p⟩
theorem for_tup {K : PySem.W.Frag} {a : Addr} {xs : List V} {g : TG} {tb : TS} {D : Ends} {σ : St} {H : Hp} (Pv : Nat → St → Hp → Prop) (h0 : Pv 0 σ H) (hl : ∀ i σ H, i ≤ xs.length → Pv i σ H → SqT K H a xs)
    (hs : ∀ i x σ H, xs[i]? = some x → Pv i σ H → g x σ H fun σ2 H2 => tb { D with nx := Pv (i + 1), ct := Pv (i + 1), bk := D.nx } σ2 H2) (hd : ∀ σ H, Pv xs.length σ H → D.nx σ H) :
    ∃ W : Nat → Nat → St → Hp → Prop, (∃ m, W 0 m σ H) ∧ ∀ i m σ H, W i m σ H →
      ((Itt K a).stop i H ∧ D.nx σ H) ∨ ((Itt K a).go i H ∧ ∃ N : St → Hp → Prop, (∀ σ' H', N σ' H' → ∃ m', m' < m ∧ W (i + 1) m' σ' H') ∧ ∀ x H', (Itt K a).yld i H x H' → g x σ H' fun σ2 H2 => tb { D with nx := N, ct := N, bk := D.nx } σ2 H2) := by
  refine ⟨fun i m σ H => m = xs.length - i ∧ i ≤ xs.length ∧ Pv i σ H, ⟨xs.length, by simp, Nat.zero_le _, h0⟩, ?_⟩
  rintro i m σ H ⟨rfl, hi, p⟩
  have q := hl i σ H hi p
  by_cases hlt : i < xs.length
  · refine .inr ⟨⟨xs, xs[i], q, by simp [hlt]⟩, Pv (i + 1), fun σ' H' p' => ⟨xs.length - (i + 1), by omega, rfl, hlt, p'⟩, fun x H' y => ?_⟩
    obtain ⟨e, y⟩ := y
    subst e
    exact hs i x σ _ (y xs q) p
  · have e : i = xs.length := by omega
    subst e
    exact .inl ⟨⟨xs, q, Nat.le_refl _⟩, hd σ H p⟩
theorem for_range {lo : Int} {n : Nat} {g : TG} {tb : TS} {D : Ends} {σ : St} {H : Hp} (Pv : Nat → St → Hp → Prop) (h0 : Pv 0 σ H)
    (hs : ∀ i σ H, i < n → Pv i σ H → g (.int (lo + i)) σ H fun σ2 H2 => tb { D with nx := Pv (i + 1), ct := Pv (i + 1), bk := D.nx } σ2 H2) (hd : ∀ σ H, Pv n σ H → D.nx σ H) :
    ∃ W : Nat → Nat → St → Hp → Prop, (∃ m, W 0 m σ H) ∧ ∀ i m σ H, W i m σ H →
      ((Itr lo n).stop i H ∧ D.nx σ H) ∨ ((Itr lo n).go i H ∧ ∃ N : St → Hp → Prop, (∀ σ' H', N σ' H' → ∃ m', m' < m ∧ W (i + 1) m' σ' H') ∧ ∀ x H', (Itr lo n).yld i H x H' → g x σ H' fun σ2 H2 => tb { D with nx := N, ct := N, bk := D.nx } σ2 H2) := by
  refine ⟨fun i m σ H => m = n - i ∧ i ≤ n ∧ Pv i σ H, ⟨n, by simp, Nat.zero_le _, h0⟩, ?_⟩
  rintro i m σ H ⟨rfl, hi, p⟩
  by_cases hlt : i < n
  · refine .inr ⟨hlt, Pv (i + 1), fun σ' H' p' => ⟨n - (i + 1), by omega, rfl, hlt, p'⟩, fun x H' y => ?_⟩
    obtain ⟨e, y⟩ := y
    subst e y
    exact hs i σ _ hlt p
  · have e : i = n := by omega
    subst e
    exact .inl ⟨Nat.le_refl _, hd σ H p⟩
theorem while_by {c : TT} {tb : TS} {D : Ends} {σ : St} {H : Hp} (Pv : St → Hp → Prop) (μ : St → Hp → Nat) (h0 : Pv σ H)
    (hs : ∀ σ H, Pv σ H → c σ H fun b H1 => if b = true then tb { D with nx := fun σ' H' => Pv σ' H' ∧ μ σ' H' < μ σ H, ct := fun σ' H' => Pv σ' H' ∧ μ σ' H' < μ σ H, bk := D.nx } σ H1 else D.nx σ H1)
    (mono : ∀ σ H Q Q', (∀ b H1, Q b H1 → Q' b H1) → c σ H Q → c σ H Q') : tWhile c tb D σ H := by
  refine ⟨fun m σ H => m = μ σ H ∧ Pv σ H, ⟨_, rfl, h0⟩, ?_⟩
  rintro m σ H ⟨rfl, p⟩
  refine mono σ H _ _ (fun b H1 q => ?_) (hs σ H p)
  cases b with
  | true => exact ⟨_, fun σ' H' ⟨p', l⟩ => ⟨_, l, rfl, p'⟩, q⟩
  | false => exact q
end L2

namespace L2
open PySem PySem.Spec PyProof.Rows

abbrev R2 := V → V → Hp → VK → Prop
def OpR (X : Cx) (f : Value → Value → Sem Value) (r : R2) : Prop :=
  ∀ (pins : List (Addr × Obj)) (s : Shared) (σ : St) (H : Hp) (x y : V) (v u : Value) (Q : VK), Inv X pins σ H s → RelV x v → RelV y u → r x y H Q →
    wpAny (model X.prog X.w) X.A (f v u) (EP X pins σ Q) X.xe s
def UnR (X : Cx) (f : Value → Sem Value) (r : V → Hp → VK → Prop) : Prop :=
  ∀ (pins : List (Addr × Obj)) (s : Shared) (σ : St) (H : Hp) (x : V) (v : Value) (Q : VK), Inv X pins σ H s → RelV x v → r x H Q →
    wpAny (model X.prog X.w) X.A (f v) (EP X pins σ Q) X.xe s
def CallR (X : Cx) (f : Value) (r : List V → Hp → VK → Prop) : Prop :=
  ∀ (pins : List (Addr × Obj)) (s : Shared) (σ : St) (H : Hp) (xs : List V) (us : List Value) (Q : VK), Inv X pins σ H s → Vals xs us → r xs H Q →
    wpAny (model X.prog X.w) X.A (call f us) (EP X pins σ Q) X.xe s
def tOp (r : R2) (ta tb : TE) : TE := fun σ H Q => ta σ H fun x H1 => tb σ H1 fun y H2 => r x y H2 Q
def tUn (r : V → Hp → VK → Prop) (ta : TE) : TE := fun σ H Q => ta σ H fun x H1 => r x H1 Q
def rI (C : Int → Int → Prop) (g : Int → Int → V) : R2 := fun x y H Q => ∃ i j, x = .int i ∧ y = .int j ∧ C i j ∧ Q (g i j) H
def rI0 (g : Int → Int → V) : R2 := fun x y H Q => ∃ i j, x = .int i ∧ y = .int j ∧ Q (g i j) H
def rU (g : Int → V) : V → Hp → VK → Prop := fun x H Q => ∃ i, x = .int i ∧ Q (g i) H

section
variable {X : Cx} {a b c : Expr} {ta tb tc : TE} {pos : Pos}

theorem binT (ha : PE X a ta) (hb : PE X b tb) {pins : List (Addr × Obj)} {s : Shared} {σ : St} {H : Hp} {R : V → V → Hp → Prop} (I : Inv X pins σ H s)
    (h : ta σ H fun x H1 => tb σ H1 fun y H2 => R x y H2) {Q : Value → Shared → Prop} {f : Value → Value → Sem Value}
    (hf : ∀ v u s2 x y H2, Inv X pins σ H2 s2 → RelV x v → RelV y u → R x y H2 → wpAny (model X.prog X.w) X.A (f v u) Q X.xe s2) :
    wpAny (model X.prog X.w) X.A (eval a X.env) (fun v s₁ => wpAny (model X.prog X.w) X.A (eval b X.env) (fun u s₂ => wpAny (model X.prog X.w) X.A (f v u) Q X.xe s₂) X.xe s₁) X.xe s := by
  refine thn (ha pins s σ H _ I h) fun v s1 ⟨x, H1, I1, r1, q1⟩ => ?_
  refine thn (hb pins s1 σ H1 _ I1 q1) fun u s2 ⟨y, H2, I2, r2, q2⟩ => ?_
  exact hf v u s2 x y H2 I2 r1 r2 q2

theorem pe_op {op : Operator} {r : R2} (ho : OpR X (binaryOp op) r) (ha : PE X a ta) (hb : PE X b tb) : PE X (.BinOp a op b pos) (tOp r ta tb) := by
  intro pins s σ H Q I h
  exact wpAny_BinOp (binT ha hb I h fun v u s2 x y H2 I2 rx ry q => ho pins s2 σ H2 x y v u Q I2 rx ry q)
theorem pe_un {op : UnaryOp} {r : V → Hp → VK → Prop} (ho : UnR X (unaryOp op) r) (ha : PE X a ta) : PE X (.UnaryOp op a pos) (tUn r ta) := by
  intro pins s σ H Q I h
  exact UnaryOp_ (thn (ha pins s σ H _ I h) fun v s1 ⟨x, H1, I1, r1, q1⟩ => ho pins s1 σ H1 x v Q I1 r1 q1)
theorem opI {f : Value → Value → Sem Value} {C : Int → Int → Prop} {g : Int → Int → Int}
    (rule : ∀ (i j : Int) (t u : Tok) (s : Shared) (Q : Value → Shared → Prop) (E : Value → Shared → Prop), C i j → Q (.int (g i j) s.toks) { s with toks := s.toks + 1 } → wpAny (model X.prog X.w) X.A (f (.int i t) (.int j u)) Q E s) :
    OpR X f (rI C fun i j => .int (g i j)) := by
  intro pins s σ H x y v u Q I rx ry h
  obtain ⟨i, j, rfl, rfl, hc, q⟩ := h
  obtain ⟨t, rfl⟩ := rx
  obtain ⟨t', rfl⟩ := ry
  exact rule i j t t' s _ _ hc ⟨.int (g i j), H, I.tok _, ⟨_, rfl⟩, q⟩
theorem opI0 {f : Value → Value → Sem Value} {g : Int → Int → Int}
    (rule : ∀ (i j : Int) (t u : Tok) (s : Shared) (Q : Value → Shared → Prop) (E : Value → Shared → Prop), Q (.int (g i j) s.toks) { s with toks := s.toks + 1 } → wpAny (model X.prog X.w) X.A (f (.int i t) (.int j u)) Q E s) :
    OpR X f (rI0 fun i j => .int (g i j)) := by
  intro pins s σ H x y v u Q I rx ry h
  obtain ⟨i, j, rfl, rfl, q⟩ := h
  obtain ⟨t, rfl⟩ := rx
  obtain ⟨t', rfl⟩ := ry
  exact rule i j t t' s _ _ ⟨.int (g i j), H, I.tok _, ⟨_, rfl⟩, q⟩
theorem opB0 {f : Value → Value → Sem Value} {g : Int → Int → Bool}
    (rule : ∀ (i j : Int) (t u : Tok) (s : Shared) (Q : Value → Shared → Prop) (E : Value → Shared → Prop), Q (.bool (g i j)) s → wpAny (model X.prog X.w) X.A (f (.int i t) (.int j u)) Q E s) :
    OpR X f (rI0 fun i j => .bl (g i j)) := by
  intro pins s σ H x y v u Q I rx ry h
  obtain ⟨i, j, rfl, rfl, q⟩ := h
  obtain ⟨t, rfl⟩ := rx
  obtain ⟨t', rfl⟩ := ry
  exact rule i j t t' s _ _ ⟨.bl (g i j), H, I, rfl, q⟩

def CDiv (i j : Int) : Prop := 0 < j ∧ j < 1073741824
def CMul (i j : Int) : Prop := (-(2 ^ 64) < i ∧ i < 2 ^ 64) ∨ (-(2 ^ 64) < j ∧ j < 2 ^ 64)
theorem CMul.ok {i j : Int} (h : CMul i j) : IntMulOk i j := by
  rcases h with ⟨h1, h2⟩ | ⟨h1, h2⟩
  · exact .of_left (intBits_le_64 h1 h2)
  · exact .of_right (intBits_le_64 h1 h2)
theorem op_add : OpR X (binaryOp .Add) (rI0 fun i j => .int (i + j)) := opI0 fun _ _ _ _ _ _ _ q => add_int q
theorem op_sub : OpR X (binaryOp .Sub) (rI0 fun i j => .int (i - j)) := opI0 fun _ _ _ _ _ _ _ q => sub_int q
theorem op_mul : OpR X (binaryOp .Mult) (rI CMul fun i j => .int (i * j)) := opI fun _ _ _ _ _ _ _ hc q => mul_int q hc.ok
theorem op_fdiv : OpR X (binaryOp .FloorDiv) (rI CDiv fun i j => .int (i / j)) := opI fun i j _ _ _ _ _ hc q => by
  have h1 : (0 : Int) < j := hc.1
  have h2 : j < 1073741824 := hc.2
  exact floordiv_int (by omega) (by rw [Int.fdiv_eq_ediv_of_nonneg i (by omega)]; exact q) (.inl (PyProof.noPylong_small (by omega)))
theorem op_mod : OpR X (binaryOp .Mod) (rI (fun _ j => 0 < j) fun i j => .int (i % j)) := opI fun i j _ _ _ _ _ hc q => by
  have h1 : (0 : Int) < j := hc
  exact mod_int' (by omega) (by rw [Int.fmod_eq_emod_of_nonneg i (by omega)]; exact q)
theorem op_xor : OpR X (binaryOp .BitXor) (rI0 fun i j => .int (Builtin.bitXor i j)) := opI0 fun _ _ _ _ _ _ _ q => xor_int q

theorem unI {f : Value → Sem Value} {g : Int → Int}
    (rule : ∀ (i : Int) (t : Tok) (s : Shared) (Q : Value → Shared → Prop) (E : Value → Shared → Prop), Q (.int (g i) s.toks) { s with toks := s.toks + 1 } → wpAny (model X.prog X.w) X.A (f (.int i t)) Q E s) :
    UnR X f (rU fun i => .int (g i)) := by
  intro pins s σ H x v Q I rx h
  obtain ⟨i, rfl, q⟩ := h
  obtain ⟨t, rfl⟩ := rx
  exact rule i t s _ _ ⟨.int (g i), H, I.tok _, ⟨_, rfl⟩, q⟩
theorem un_neg : UnR X (unaryOp .USub) (rU fun i => .int (-i)) := unI fun _ _ _ _ _ q => neg_int q
end

def scal : V → V → Bool
  | .non, .non => true | .non, .int _ => true | .int _, .non => true | .non, .bl _ => true | .bl _, .non => true | .non, .str _ => true | .str _, .non => true
  | .int _, .int _ => true | .bl _, .bl _ => true | .str _, .str _ => true | .byt _, .byt _ => true
  | .int _, .str _ => true | .str _, .int _ => true | .bl _, .str _ => true | .str _, .bl _ => true
  | _, _ => false
def rEq : R2 := fun x y H Q => scal x y = true ∧ Q (.bl (decide (x = y))) H
def rNe : R2 := fun x y H Q => scal x y = true ∧ Q (.bl (!decide (x = y))) H

theorem dec_int {i j : Int} : decide (V.int i = V.int j) = (i == j) := by
  rw [Bool.eq_iff_iff]
  simp
theorem dec_bl {i j : Bool} : decide (V.bl i = V.bl j) = (i == j) := by
  rw [Bool.eq_iff_iff]
  simp
theorem dec_str {i j : Str} : decide (V.str i = V.str j) = (i == j) := by
  rw [Bool.eq_iff_iff]
  simp
theorem dec_byt {i j : Array UInt8} : decide (V.byt i = V.byt j) = (i.toList == j.toList) := by
  rw [Bool.eq_iff_iff]
  cases i
  cases j
  simp

section
variable {X : Cx} {a b c : Expr} {ta tb tc : TE} {pos : Pos}
theorem fin_bl {pins : List (Addr × Obj)} {σ : St} {H : Hp} {s : Shared} {Q : VK} {k k' : Bool} (I : Inv X pins σ H s) (q : Q (.bl k) H) (e : k = k') : EP X pins σ Q (.bool k') s := by
  subst e
  exact ⟨.bl k, H, I, rfl, q⟩
theorem op_eq : OpR X (compareOp .Eq) rEq := by
  intro pins s σ H x y v u Q I rx ry h
  obtain ⟨hs, q⟩ := h
  cases x with
  | non =>
    cases rx
    cases y with
    | non => cases ry; exact PySem.EqNone.eq_none_none (fin_bl I q (by simp))
    | bl j => cases ry; exact PySem.EqNone.eq_none_bool (fin_bl I q (by simp))
    | int j => obtain ⟨t', rfl⟩ := ry; exact PySem.EqNone.eq_none_int (fin_bl I q (by simp))
    | str j => obtain ⟨t', rfl⟩ := ry; exact PySem.EqNone.eq_none_str (fin_bl I q (by simp))
    | _ => exact absurd (show false = true from hs) Bool.false_ne_true
  | bl i =>
    cases rx
    cases y with
    | non => cases ry; exact PySem.EqNone.eq_bool_none (fin_bl I q (by simp))
    | bl j => cases ry; exact eq_bool (fin_bl I q dec_bl)
    | str j => obtain ⟨t', rfl⟩ := ry; exact PySem.EqMixed.eq_bool_str (fin_bl I q (by simp))
    | _ => exact absurd (show false = true from hs) Bool.false_ne_true
  | int i =>
    obtain ⟨t, rfl⟩ := rx
    cases y with
    | non => cases ry; exact PySem.EqNone.eq_int_none (fin_bl I q (by simp))
    | int j => obtain ⟨t', rfl⟩ := ry; exact eq_int (fin_bl I q dec_int)
    | str j => obtain ⟨t', rfl⟩ := ry; exact PySem.EqMixed.eq_int_str (fin_bl I q (by simp))
    | _ => exact absurd (show false = true from hs) Bool.false_ne_true
  | str i =>
    obtain ⟨t, rfl⟩ := rx
    cases y with
    | non => cases ry; exact PySem.EqNone.eq_str_none (fin_bl I q (by simp))
    | bl j => cases ry; exact PySem.EqMixed.eq_str_bool (fin_bl I q (by simp))
    | int j => obtain ⟨t', rfl⟩ := ry; exact PySem.EqMixed.eq_str_int (fin_bl I q (by simp))
    | str j => obtain ⟨t', rfl⟩ := ry; exact eq_str (fin_bl I q dec_str)
    | _ => exact absurd (show false = true from hs) Bool.false_ne_true
  | byt i =>
    obtain ⟨t, rfl⟩ := rx
    cases y with
    | byt j => obtain ⟨t', rfl⟩ := ry; exact PySem.W.eq_bytes (fin_bl I q dec_byt)
    | _ => exact absurd (show false = true from hs) Bool.false_ne_true
  | _ => cases y <;> exact absurd (show false = true from hs) Bool.false_ne_true
theorem op_ne : OpR X (compareOp .NotEq) rNe := by
  intro pins s σ H x y v u Q I rx ry h
  obtain ⟨hs, q⟩ := h
  cases x with
  | non =>
    cases rx
    cases y with
    | non => cases ry; exact PySem.EqNone.ne_none_none (fin_bl I q (by simp))
    | bl j => cases ry; exact PySem.EqNone.ne_none_bool (fin_bl I q (by simp))
    | int j => obtain ⟨t', rfl⟩ := ry; exact PySem.EqNone.ne_none_int (fin_bl I q (by simp))
    | str j => obtain ⟨t', rfl⟩ := ry; exact PySem.EqNone.ne_none_str (fin_bl I q (by simp))
    | _ => exact absurd (show false = true from hs) Bool.false_ne_true
  | bl i =>
    cases rx
    cases y with
    | non => cases ry; exact PySem.EqNone.ne_bool_none (fin_bl I q (by simp))
    | bl j => cases ry; exact ne_bool (fin_bl I q (congrArg not dec_bl))
    | str j => obtain ⟨t', rfl⟩ := ry; exact PySem.EqMixed.ne_bool_str (fin_bl I q (by simp))
    | _ => exact absurd (show false = true from hs) Bool.false_ne_true
  | int i =>
    obtain ⟨t, rfl⟩ := rx
    cases y with
    | non => cases ry; exact PySem.EqNone.ne_int_none (fin_bl I q (by simp))
    | int j => obtain ⟨t', rfl⟩ := ry; exact ne_int (fin_bl I q (congrArg not dec_int))
    | str j => obtain ⟨t', rfl⟩ := ry; exact PySem.EqMixed.ne_int_str (fin_bl I q (by simp))
    | _ => exact absurd (show false = true from hs) Bool.false_ne_true
  | str i =>
    obtain ⟨t, rfl⟩ := rx
    cases y with
    | non => cases ry; exact PySem.EqNone.ne_str_none (fin_bl I q (by simp))
    | bl j => cases ry; exact PySem.EqMixed.ne_str_bool (fin_bl I q (by simp))
    | int j => obtain ⟨t', rfl⟩ := ry; exact PySem.EqMixed.ne_str_int (fin_bl I q (by simp))
    | str j => obtain ⟨t', rfl⟩ := ry; exact ne_str (fin_bl I q (congrArg not dec_str))
    | _ => exact absurd (show false = true from hs) Bool.false_ne_true
  | byt i =>
    obtain ⟨t, rfl⟩ := rx
    cases y with
    | byt j => obtain ⟨t', rfl⟩ := ry; exact PySem.W.ne_bytes (fin_bl I q (congrArg not dec_byt))
    | _ => exact absurd (show false = true from hs) Bool.false_ne_true
  | _ => cases y <;> exact absurd (show false = true from hs) Bool.false_ne_true

theorem op_lt : OpR X (compareOp .Lt) (rI0 fun i j => .bl (decide (i < j))) := opB0 fun _ _ _ _ _ _ _ q => lt_int q
theorem op_le : OpR X (compareOp .LtE) (rI0 fun i j => .bl (decide (i ≤ j))) := opB0 fun _ _ _ _ _ _ _ q => le_int q
theorem op_gt : OpR X (compareOp .Gt) (rI0 fun i j => .bl (decide (j < i))) := opB0 fun _ _ _ _ _ _ _ q => gt_int q
theorem op_ge : OpR X (compareOp .GtE) (rI0 fun i j => .bl (decide (j ≤ i))) := opB0 fun _ _ _ _ _ _ _ q => ge_int q
theorem nomark (b : Expr) {op : CmpOp} (h : op ≠ .In := by decide) (h2 : op ≠ .NotIn := by decide) : behindInMarks op b = false := by
  have e1 : (op == CmpOp.In) = false := by cases op <;> first | rfl | exact absurd rfl h
  have e2 : (op == CmpOp.NotIn) = false := by cases op <;> first | rfl | exact absurd rfl h2
  cases b <;> simp [behindInMarks, e1, e2]
theorem pe_cmpR {op : CmpOp} {r : R2} (ho : OpR X (compareOp op) r) (ha : PE X a ta) (hb : PE X b tb) (hm : behindInMarks op b = false) : PE X (.Compare a [op] [b] pos) (tOp r ta tb) := by
  intro pins s σ H Q I h
  exact wpAny_Compare1 (binT ha hb I h fun v u s2 x y H2 I2 rx ry q => ho pins s2 σ H2 x y v u Q I2 rx ry q) hm
def tTest (t : TE) : TT := fun σ H Q => t σ H fun x H' => ∃ k, x = .bl k ∧ Q k H'
theorem pt_cmpR {op : CmpOp} {r : R2} (ho : OpR X (compareOp op) r) (ha : PE X a ta) (hb : PE X b tb) (hm : behindInMarks op b = false) : PT X (.Compare a [op] [b] pos) (tTest (tOp r ta tb)) := by
  intro pins s σ H Q I h
  refine wpAny_isTrue_Compare1 (thn (ha pins s σ H _ I h) fun v s1 ⟨x, H1, I1, r1, q1⟩ => thn (hb pins s1 σ H1 _ I1 q1) fun u s2 ⟨y, H2, I2, r2, q2⟩ =>
    thn (ho pins s2 σ H2 x y v u _ I2 r1 r2 q2) fun c s3 ⟨z, H3, I3, r3, k, e, q3⟩ => ?_) hm
  subst e
  cases r3
  exact wpAny_truthy_bool ⟨H3, I3, q3⟩
theorem line63 : (sizeLine : Nat) < 2 ^ 63 := by rw [sizeLine_eq]; decide
theorem vals1 {x : V} {us : List Value} (r : Vals [x] us) : ∃ u, us = [u] ∧ RelV x u := by
  cases r with
  | cons r1 r2 => cases r2; exact ⟨_, rfl, r1⟩
theorem vals2 {x y : V} {us : List Value} (r : Vals [x, y] us) : ∃ u w', us = [u, w'] ∧ RelV x u ∧ RelV y w' := by
  cases r with
  | cons r1 r2 =>
    cases r2 with
    | cons r3 r4 => cases r4; exact ⟨_, _, rfl, r1, r3⟩
theorem call_max2 (hc : X.calm = true) : CallR X (.builtin "max") (fun xs H Q => ∃ i j, xs = [.int i, .int j] ∧ Q (.int (if j > i then j else i)) H) := by
  intro pins s σ H xs us Q I r h
  obtain ⟨i, j, rfl, q⟩ := h
  obtain ⟨u, w', rfl, ⟨t, rfl⟩, ⟨t', rfl⟩⟩ := vals2 r
  refine max_two_ints (I.ok.hd hc) fun h' tk k => ⟨_, H, I.kept k, ?_, q⟩
  by_cases hj : j > i
  · rw [if_pos hj, if_pos hj]; exact ⟨_, rfl⟩
  · rw [if_neg hj, if_neg hj]; exact ⟨_, rfl⟩
theorem call_min2 (hc : X.calm = true) : CallR X (.builtin "min") (fun xs H Q => ∃ i j, xs = [.int i, .int j] ∧ Q (.int (if j < i then j else i)) H) := by
  intro pins s σ H xs us Q I r h
  obtain ⟨i, j, rfl, q⟩ := h
  obtain ⟨u, w', rfl, ⟨t, rfl⟩, ⟨t', rfl⟩⟩ := vals2 r
  refine min_two_ints (I.ok.hd hc) fun h' tk k => ⟨_, H, I.kept k, ?_, q⟩
  by_cases hj : j < i
  · rw [if_pos hj, if_pos hj]; exact ⟨_, rfl⟩
  · rw [if_neg hj, if_neg hj]; exact ⟨_, rfl⟩
end
end L2

namespace L2
open PySem PySem.Spec PyProof.Rows

structure ObjM (h : Heap) (x dx C : Addr) (mA : Str → Option Value) : Prop where
  obj : h.get? x = some (PySem.W.instObj C dx)
  ns : h.Ns1 dx mA
  ne : dx ≠ x

theorem lookIn_ns {h : Heap} {dx : Addr} {mA : Str → Option Value} (n : h.Ns1 dx mA) : ∃ od, h.get? dx = some od ∧ ∀ name, PySem.W.lookIn name od = some (mA name) := by
  obtain ⟨o, es, ep, ho, hd, hk, _, hm⟩ := n
  refine ⟨o, ho, fun name => ?_⟩
  have e := hm name
  unfold nsFind findBy at e
  rw [← Array.find?_toList] at e
  unfold PySem.W.lookIn
  rw [hd]
  dsimp only
  split
  · rename_i y q
    rw [q] at e
    exact congrArg some e
  · rename_i q
    rw [q] at e
    have a : es.toList.any (·.refKey) = false := by
      rw [List.any_eq_false]
      intro y hy
      obtain ⟨z, t, hkey⟩ := hk y (Array.mem_toList_iff.mp hy)
      simp [DictEntry.refKey, hkey]
    have a' : ¬ es.toList.any (·.refKey) = true := by rw [a]; exact Bool.false_ne_true
    rw [if_neg a']
    exact congrArg some e

theorem ObjM.look {h : Heap} {x dx C : Addr} {mA : Str → Option Value} (I : ObjM h x dx C mA) : ∃ od, PySem.W.InstAt h x (PySem.W.instObj C dx) C (some od) ∧ ∀ name, PySem.W.lookIn name od = some (mA name) :=
  let ⟨od, ho, hl⟩ := lookIn_ns I.ns
  ⟨od, ⟨I.obj, rfl, rfl, ho⟩, hl⟩


theorem RelO.some_of {v : V} {o : Option Value} (r : RelO (some v) o) : ∃ u, o = some u ∧ RelV v u := by
  cases o with
  | none => exact (show False from r).elim
  | some u => exact ⟨u, rfl, r⟩
section
variable {P : Program} {w : World} {H H' : Hp} {h h' : Heap} {a C dx : Addr} {fs fs' : List (Str × V)}
theorem ins_get (hok : HOk P w H h) (e : H a = some (.ins C dx fs)) : ∃ mA, ObjM h a dx C mA ∧ (∀ f, RelO (fs.lookup f) (mA f)) ∧ PySem.Within mA (fs.map (·.1)) ∧ fs.length ≤ 1000 ∧ H dx = some (.own a) := by
  obtain ⟨d, z, ne, ob, mA, n, r, q⟩ := (show ObjOk P w H h a (.ins C dx fs) from hok a _ e)
  exact ⟨mA, ⟨ob, n, ne⟩, r, q, z, d⟩
end

structure Cls (K : PySem.W.Frag) (C : Addr) : Prop where
  pg : PySem.W.plainGet K C Str.empty = true
  hd : PySem.W.hasDictIn K C = true
  po : PySem.W.plainOver K C = true
  sa : PySem.W.findIn K (.ref C) "__setattr__" = some (some (.builtin "object.__setattr__"))
theorem Cls.get {K : PySem.W.Frag} {C : Addr} (c : Cls K C) (f : Str) : PySem.W.plainGet K C f = true := c.pg


section
variable {X : Cx} {pins : List (Addr × Obj)} {σ : St} {H : Hp} {s : Shared} {A : Around} {E : Value → Shared → Prop} {Q : Value → Shared → Prop} {c : Value} {b : Bool}
inductive TyOf (K : PySem.W.Frag) (H : Hp) : V → Value → Prop where
  | non : TyOf K H .non (.type "NoneType")
  | bl (x : Bool) : TyOf K H (.bl x) (.type "bool")
  | int (i : Int) : TyOf K H (.int i) (.type "int")
  | str (x : Str) : TyOf K H (.str x) (.type "str")
  | flt (x : UInt64) : TyOf K H (.flt x) (.type "float")
  | lst {a : Addr} {xs : List V} (e : H a = some (.lst xs)) : TyOf K H (.ref a) (.type "list")
  | frz {a : Addr} {o : Obj} {xs : List V} (e : H a = some (.frz o (.lst xs))) : TyOf K H (.ref a) (.type "list")
  | tup {a : Addr} {xs : List V} (e : H a = some (.tup xs)) : TyOf K H (.ref a) (.type "tuple")
  | dK {a : Addr} {kvs : List (Key × V)} (e : H a = some (.dK kvs)) : TyOf K H (.ref a) (.type "dict")
  | dT {a : Addr} {kvs : List (List Key × V)} (e : H a = some (.dT kvs)) : TyOf K H (.ref a) (.type "dict")
  | ins {a C dx : Addr} {fs : List (Str × V)} (e : H a = some (.ins C dx fs)) (cl : Cls K C) (ha : PySem.W.findIn K (.ref C) "__class__" = some (some (.builtin "object.__class__")))
      (hn : PySem.W.specialIn K (.builtin "object.__class__") "__get__" = some (some (.builtin "getset_descriptor.__get__"))) (htk : PySem.W.takesIn K (.builtin "object.__class__") = some true)
      (hm : PySem.W.mroIn K C (.type "object") = some true) : TyOf K H (.ref a) (.ref C)
theorem isinst_ok {x : V} {u t : Value} (I : Inv X pins σ H s) (rx : RelV x u) (ty : TyOf X.K H x t) (e : PySem.W.kitOne X.K t c = some b) (h : ∀ tk, Q (.bool b) { s with toks := tk }) :
    wpAny (model X.prog X.w) A (call (.builtin "isinstance") [u, c]) Q E s := by
  cases ty with
  | non => cases (show u = Value.none from rx); exact PySem.W.kia_one PySem.W.kitx_none I.kIn True.intro e (fun z => nomatch z) h
  | bl y => cases (show u = Value.bool y from rx); exact PySem.W.kia_one PySem.W.kitx_bool I.kIn True.intro e (fun z => nomatch z) h
  | int i => obtain ⟨t, q⟩ := (show ∃ t, u = Value.int i t from rx); cases q; exact PySem.W.kia_one PySem.W.kitx_int I.kIn True.intro e (fun z => nomatch z) h
  | str y => obtain ⟨t, q⟩ := (show ∃ t, u = Value.str y t from rx); cases q; exact PySem.W.kia_one PySem.W.kitx_str I.kIn True.intro e (fun z => nomatch z) h
  | flt y => obtain ⟨t, q⟩ := (show ∃ t, u = Value.float y t from rx); cases q; exact PySem.W.kia_one PySem.W.kitx_float I.kIn True.intro e (fun z => nomatch z) h
  | @lst a xs ea =>
    cases (show u = Value.ref a from rx)
    obtain ⟨_, _, n, _, h1⟩ := (show ObjOk X.prog X.w H s.heap a (.lst xs) from I.hok a _ ea)
    exact PySem.W.kia_one PySem.W.kitx_list I.kIn ⟨_, h1, rfl⟩ e (fun z => nomatch z) h
  | @frz a ob xs ea =>
    cases (show u = Value.ref a from rx)
    obtain ⟨_, _, _, n, _, h1⟩ := (show ObjOk X.prog X.w H s.heap a (.frz ob (.lst xs)) from I.hok a _ ea)
    exact PySem.W.kia_one PySem.W.kitx_list I.kIn ⟨_, h1, rfl⟩ e (fun z => nomatch z) h
  | @tup a xs ea =>
    cases (show u = Value.ref a from rx)
    obtain ⟨_, _, _, p⟩ := (show ObjOk X.prog X.w H s.heap a (.tup xs) from I.hok a _ ea)
    obtain ⟨o, h1, h2, _⟩ := p
    exact PySem.W.kia_one PySem.W.kitx_tuple I.kIn ⟨o, h1, h2⟩ e (fun z => nomatch z) h
  | @dK a kvs ea =>
    cases (show u = Value.ref a from rx)
    obtain ⟨_, _, vs, _, p⟩ := (show ObjOk X.prog X.w H s.heap a (.dK kvs) from I.hok a _ ea)
    obtain ⟨o, es, ep, h1, h2, _⟩ := p
    exact PySem.W.kia_one PySem.W.kitx_dict I.kIn ⟨o, h1, h2.1⟩ e (fun z => nomatch z) h
  | @dT a kvs ea =>
    cases (show u = Value.ref a from rx)
    obtain ⟨_, _, xs, _, o, es, ep, h1, h2, _⟩ := (show ObjOk X.prog X.w H s.heap a (.dT kvs) from I.hok a _ ea)
    exact PySem.W.kia_one PySem.W.kitx_dict I.kIn ⟨o, h1, h2.1⟩ e (fun z => nomatch z) h
  | @ins a C dx fs ea cl ha hn htk hm =>
    cases (show u = Value.ref a from rx)
    obtain ⟨mA, O, _⟩ := ins_get I.hok ea
    obtain ⟨od, J, _⟩ := O.look
    exact PySem.W.kia_one (PySem.W.kitx_own (cl.get _) cl.hd ha hn htk hm) I.kIn J e (fun z => nomatch z) h
end
end L2

namespace L2
open PySem PySem.Spec PyProof.Rows

structure Room (k : Nat) (A : Around) : Prop where
  hd : A.handled = none
  dp : A.depth + 3 * k + 5 < recursionLimit
  un : A.units + 16 * k + 200 < cLine
  gd : A.guards = some []
theorem Room.mono {j k : Nat} {A : Around} (r : Room k A) (h : j ≤ k) : Room j A := ⟨r.hd, by have := r.dp; omega, by have := r.un; omega, r.gd⟩
theorem Room.deeper {k : Nat} {A : Around} (r : Room (k + 1) A) (env : Env) : Room k (A.deeper env) :=
  ⟨r.hd, by have := r.dp; show A.depth + 1 + 3 * k + 5 < _; omega, by have := r.un; show A.units + 3 + 16 * k + 200 < _; omega, r.gd⟩
theorem Room.depth {k : Nat} {A : Around} (r : Room k A) : A.depth < recursionLimit := by have := r.dp; omega
theorem Room.units {k : Nat} {A : Around} (r : Room k A) : A.units + 64 < cLine := by have := r.un; omega
def tNil : TA := fun _ H Q => Q [] H
def tCons (ta : TE) (tr : TA) : TA := fun σ H Q => ta σ H fun x H1 => tr σ H1 fun xs H2 => Q (x :: xs) H2
section
variable {X : Cx} {e : Expr} {es : List Expr} {te : TE} {t : TA} {pos : Pos}
theorem pa_nil : PA X [] tNil := fun _ _ _ _ H Q I h => Calls.spliced_nil ⟨[], H, I, .nil, h⟩
theorem pa_cons (ha : PE X e te) (hr : PA X es t) (hs : starEach (e :: es) X.env = (false, eval e X.env) :: starEach es X.env := by rfl) : PA X (e :: es) (tCons te t) := by
  intro pos pins s σ H Q I h
  rw [hs]
  show wpAny _ _ (spliced ((false, eval e X.env) :: backTo pos (starEach es X.env))) _ _ s
  refine Calls.spliced_cons (thn (ha pins s σ H _ I h) fun u s1 ⟨x, H1, I1, r1, q1⟩ => ?_)
  exact thn (hr pos pins s1 σ H1 _ I1 q1) fun us s2 ⟨xs, H2, I2, r2, q2⟩ => ⟨x :: xs, H2, I2, .cons r1 r2, q2⟩

def tTup (t : TA) : TE := fun σ H Q => t σ H fun xs H1 => xs.length ≤ sizeLine ∧ ∀ p, H1 p = none → Q (.ref p) (upd H1 p (.tup xs))
def tLst (t : TA) : TE := fun σ H Q => t σ H fun xs H1 => xs.length ≤ sizeLine ∧ ∀ p, H1 p = none → Q (.ref p) (upd H1 p (.lst xs))
theorem pe_tup {x1} (h : PA X es t) : PE X (.Tuple es x1 pos) (tTup t) := by
  intro pins s σ H Q I hq
  refine wpAny_Tuple_spliced (thn (h pos pins s σ H _ I hq) fun us s1 ⟨xs, H1, I1, r, z, q⟩ => ⟨by rw [← r.length]; exact z, ?_⟩)
  have hf : H1 s1.heap.objs.size = none := I1.hok.fresh (Nat.le_refl _)
  refine ⟨.ref s1.heap.objs.size, upd H1 s1.heap.objs.size (.tup xs), I1.laid (t' := s1.toks) (fun b u e => Heap.get?_push_of_some _ e) (Nat.le_refl _) ?_, rfl, q _ hf⟩
  exact ⟨z, us, r, ⟨_, Heap.get?_push_size _ rfl, rfl, _, rfl⟩⟩
theorem pe_lst (h : PA X es t) : PE X (.List es pos) (tLst t) := by
  intro pins s σ H Q I hq
  refine wpAny_List_spliced (thn (h pos pins s σ H _ I hq) fun us s1 ⟨xs, H1, I1, r, z, q⟩ => ⟨by rw [← r.length]; exact z, ?_⟩)
  have hf : H1 s1.heap.objs.size = none := I1.hok.fresh (Nat.le_refl _)
  refine ⟨.ref s1.heap.objs.size, upd H1 s1.heap.objs.size (.lst xs), I1.laid (t' := s1.toks) (fun b u e => Heap.get?_push_of_some _ e) (Nat.le_refl _) ?_, rfl, q _ hf⟩
  exact ⟨z, us, 0, r, Heap.get?_push_size _ rfl⟩
end

abbrev Sp := List V → Hp → VK → XK → Prop
abbrev CXT := List Env → Hp → Shared → XK → Value → Shared → Prop

structure Env0 (P : Program) (w : World) (K : PySem.W.Frag) (mg : Str → Option Value) (base : Heap) (A : Around) (outer : List Env) (s : Shared) (H : Hp) : Prop where
  frames : A.frames = some outer
  mod : Mod K mg base
  bs : ∀ b o, base.get? b = some o → s.heap.get? b = some o ∧ H b = none
  bsz : base.objs.size ≤ s.heap.objs.size
  funs : s.heap.FunFrames base outer
  frf : ∀ b ∈ frs outer, H b = none
  hok : HOk P w H s.heap
  bare : AllBare s.gens
def CE (outer : List Env) (P : Program) (w : World) (H : Hp) (s : Shared) (Q : VK) (u : Value) (s' : Shared) : Prop :=
  ∃ v H', s'.os = s.os ∧ AllBare s'.gens ∧ Un (frs outer) [] H H' s.heap s'.heap ∧ HOk P w H' s'.heap ∧ RelV v u ∧ Q v H'
def CR (CX : CXT) (outer : List Env) (P : Program) (w : World) (H : Hp) (s : Shared) (Q : VK) (E : XK) (r : Result) (s' : Shared) : Prop :=
  match r with
  | .ok (.ret u) => CE outer P w H s Q u s'
  | .ok _ => False
  | .error e => CX outer H s E e s'
structure FnOk (P : Program) (w : World) (K : PySem.W.Frag) (mg : Str → Option Value) (base : Heap) (CX : CXT) (k : Nat) (f : Addr) (fd : FuncData) (ps : List Str) (sp : Sp) : Prop where
  len : ∀ vs H Q E, sp vs H Q E → vs.length = ps.length
  run : ∀ (A : Around) (outer : List Env) (s : Shared) (H : Hp) (args : Args) (us : List Value) (vs : List V) (Q : VK) (E : XK), Room k A → Env0 P w K mg base A outer s H → BindsTo s fd args (ps.zip us) → Vals vs us → sp vs H Q E →
    codeAny (model P w) A (.call (.ref f) args) (CR CX outer P w H s Q E) s
section
variable {X : Cx} {pins : List (Addr × Obj)} {σ : St} {H : Hp} {s s' : Shared}
theorem Inv.env0 (I : Inv X pins σ H s) : Env0 X.prog X.w X.K X.mg X.base X.A X.stack s H :=
  ⟨I.ok.frames, I.ok.mod, I.bs, Nat.le_trans I.ok.bsz I.sz, I.stack, I.stkFree, I.hok, I.bare⟩
theorem Inv.after {Q : VK} {u : Value} (I : Inv X pins σ H s) (h : CE X.stack X.prog X.w H s Q u s') : EP X pins σ Q u s' := by
  obtain ⟨v, H', os, bare, un, hok, r, q⟩ := h
  obtain ⟨hh, g, d, t, os'⟩ := s'
  obtain rfl : os' = s.os := os
  exact ⟨v, H', I.call (h' := hh) (g' := g) (d' := d) (t' := t) (ch := []) un hok bare (fun b z => absurd z (by simp)), r, q⟩
end

def tCall (sp : Sp) (dvs : List V) (E : XK) (t : TA) : TE := fun σ H Q => t σ H fun vs H1 => sp (vs ++ dvs) H1 Q E
def Binds (K : PySem.W.Frag) (fd : FuncData) (ps : List Str) (ds : List Value) : Prop :=
  ∀ (s : Shared) (us : List Value), K.In s.heap → (us ++ ds).length = ps.length → BindsTo s fd ⟨us, []⟩ (ps.zip (us ++ ds))
theorem Binds.all {K : PySem.W.Frag} {fd : FuncData} {ps : List Str} (h : ∀ us : List Value, us.length = ps.length → bindArgs fd ⟨us, []⟩ = pure (ps.zip us)) : Binds K fd ps [] := fun s us _ hl => by
  rw [List.append_nil] at hl ⊢
  exact .of_eq (h us hl)

def Passes (CX : CXT) (X : Cx) (E : XK) : Prop := ∀ (pins : List (Addr × Obj)) (σ : St) (H : Hp) (s : Shared) (e : Value) (s' : Shared), Inv X pins σ H s → CX X.stack H s E e s' → X.xe e s'

section
variable {X : Cx} {CX : CXT} {k : Nat} {f C : Addr} {fd : FuncData} {ps : List Str} {sp : Sp} {dvs : List V} {ds : List Value} {E : XK} {x m : Str} {p pos apos : Pos} {e o : Expr} {es : List Expr} {ta : TE} {t : TA}

theorem run_fn {pins : List (Addr × Obj)} {σ : St} {H : Hp} {s : Shared} {Q : VK} {us : List Value} {vs : List V} (F : FnOk X.prog X.w X.K X.mg X.base CX k f fd ps sp) (hr : Room k X.A) (hb : Binds X.K fd ps ds) (hd : Vals dvs ds) (hx : Passes CX X E)
    (I : Inv X pins σ H s) (r : Vals vs us) (h : sp (vs ++ dvs) H Q E) : wpAny (model X.prog X.w) X.A (call (.ref f) us) (EP X pins σ Q) X.xe s := by
  have r2 : Vals (vs ++ dvs) (us ++ ds) := r.append hd
  have hl : (us ++ ds).length = ps.length := by rw [← r2.length]; exact F.len _ _ _ _ h
  refine wpAny_call (codeAny_mono (F.run X.A X.stack s H ⟨us, []⟩ (us ++ ds) (vs ++ dvs) Q E hr I.env0 (hb s us I.kIn hl) r2 h) fun r s' hq => ?_)
  cases r with
  | error e => exact hx pins σ H s e s' I hq
  | ok fl =>
    cases fl with
    | ret u => exact I.after hq
    | next => exact False.elim hq
    | brk => exact False.elim hq
    | cont => exact False.elim hq

theorem pe_call (F : FnOk X.prog X.w X.K X.mg X.base CX k f fd ps sp) (hr : Room k X.A) (hg : Gl X x) (hm : X.mg x = some (.ref f)) (hk : PySem.W.keepIn X.K (.ref f) = true) (hb : Binds X.K fd ps ds) (hd : Vals dvs ds) (hx : Passes CX X E)
    (ha : PA X (e :: es) t) (hdb : (x == ("__debug__" : Str)) = false := by decide) (he : starEach (e :: es) X.env = (false, eval e X.env) :: starEach es X.env := by rfl) (hpl : (backTo pos (starEach es X.env)).any (·.1) = false := by rfl) :
    PE X (.Call (.Name x p) (e :: es) [] pos) (tCall sp dvs E t) := by
  intro pins s σ H Q I h
  refine wpAny_Call_Name_kw (ld_glob I hg hm ?_ hdb)
  refine PySem.W.callWith_K (h₀ := X.base) I.ok.mod.kin hk (thn (ha pos pins s σ H _ I h) fun us s1 ⟨vs, H1, I1, r, q⟩ => ⟨I1.kIn, ?_⟩) he hpl
  exact run_fn F hr hb hd hx I1 r q
end


structure FnScope (N P : List Str) (sc : Scope) : Prop where
  kind : sc.kind = .function
  co : sc.isCoroutine = false
  gen : sc.isGenerator = false
  nd : N.Nodup
  pre : N.take P.length = P
  par : ∀ x ∈ P, sc.names.lookup x = some .local ∨ sc.names.lookup x = some .cell
  nofree : ∀ y ∈ sc.names, y.2 ≠ .free

theorem bindL_out {kindOf : Str → Option NameKind} {x : Str} : ∀ {binds : List (Str × Value)} {m : Str → Option Value}, (∀ v, (x, v) ∉ binds) → bindL kindOf binds m x = m x
  | [], _, _ => rfl
  | (n, v) :: r, m, h => by
    unfold bindL
    rw [bindL_out fun w hw => h w (List.mem_cons_of_mem _ hw)]
    split
    · have : x ≠ n := by rintro rfl; exact h v List.mem_cons_self
      simp [this]
    · rfl
theorem bindC_out {kindOf : Str → Option NameKind} {x : Str} : ∀ {binds : List (Str × Value)} {m : Str → Option Value}, (∀ v, (x, v) ∉ binds) → bindC kindOf binds m x = m x
  | [], _, _ => rfl
  | (n, v) :: r, m, h => by
    unfold bindC
    rw [bindC_out fun w hw => h w (List.mem_cons_of_mem _ hw)]
    split
    · rfl
    · have : x ≠ n := by rintro rfl; exact h v List.mem_cons_self
      simp [this]
theorem bindL_get {kindOf : Str → Option NameKind} {x : Str} {v : Value} : ∀ {P : List Str} {vs : List Value} {i : Nat} {m : Str → Option Value}, P.Nodup → P[i]? = some x → vs[i]? = some v → kindOf x = some .local →
    bindL kindOf (P.zip vs) m x = some v
  | [], _, _, _, _, h, _, _ => by simp at h
  | _ :: _, [], _, _, _, _, h, _ => by simp at h
  | p :: P, w :: vs, 0, m, nd, h1, h2, hk => by
    simp at h1 h2; subst h1; subst h2
    show bindL kindOf ((p, w) :: P.zip vs) m p = _
    unfold bindL
    rw [bindL_out fun v hv => (List.nodup_cons.mp nd).1 (List.of_mem_zip hv).1, if_pos hk]
    simp
  | p :: P, w :: vs, i + 1, m, nd, h1, h2, hk => by
    show bindL kindOf ((p, w) :: P.zip vs) m x = _
    unfold bindL
    exact bindL_get (i := i) (List.nodup_cons.mp nd).2 (by simpa using h1) (by simpa using h2) hk
theorem bindC_get {kindOf : Str → Option NameKind} {x : Str} {v : Value} : ∀ {P : List Str} {vs : List Value} {i : Nat} {m : Str → Option Value}, P.Nodup → P[i]? = some x → vs[i]? = some v → kindOf x ≠ some .local →
    bindC kindOf (P.zip vs) m x = some v
  | [], _, _, _, _, h, _, _ => by simp at h
  | _ :: _, [], _, _, _, _, h, _ => by simp at h
  | p :: P, w :: vs, 0, m, nd, h1, h2, hk => by
    simp at h1 h2; subst h1; subst h2
    show bindC kindOf ((p, w) :: P.zip vs) m p = _
    unfold bindC
    rw [bindC_out fun v hv => (List.nodup_cons.mp nd).1 (List.of_mem_zip hv).1, if_neg hk]
    simp
  | p :: P, w :: vs, i + 1, m, nd, h1, h2, hk => by
    show bindC kindOf ((p, w) :: P.zip vs) m x = _
    unfold bindC
    exact bindC_get (i := i) (List.nodup_cons.mp nd).2 (by simpa using h1) (by simpa using h2) hk

def start (N : List Str) (vs : List V) : St := vs.map some ++ List.replicate (N.length - vs.length) none

def cxOf (CX : CXT) (P : Program) (w : World) (K : PySem.W.Frag) (mg : Str → Option Value) (base : Heap) (N : List Str) (qual : Str) (scope : Scope) (f : Addr) (cd : Value) (A : Around) (outer : List Env) (s : Shared) (H : Hp) (E : XK) : Cx where
  prog := P
  w := w
  K := K
  mg := mg
  base := base
  A := A.deeper (envOfC qual scope s.heap.objs.size f cd)
  N := N
  s₀ := s
  H₀ := H
  env := envOfC qual scope s.heap.objs.size f cd
  outer := outer
  stack := envOfC qual scope s.heap.objs.size f cd :: outer
  ex := []
  calm := true
  fn := fun _ => true
  pn := []
  xe := fun e s' => wpAny (model P w) (A.deeper (envOfC qual scope s.heap.objs.size f cd)) (leaving (envOfC qual scope s.heap.objs.size f cd) e) (fun _ s'' => CX outer H s E e s'') (fun e' s'' => CX outer H s E e' s'') s'

theorem cell_has {sc : Scope} {n : Nat} {x : Str} (h : sc.names.lookup x = some .cell) : ∃ c, (cellsFrom n sc.names []).lookup x = some c := by
  have q := PySem.W.cellsFrom_some sc.names n [] (.inl h)
  exact Option.isSome_iff_exists.mp q

theorem inv_start {CX : CXT} {P : Program} {w : World} {K : PySem.W.Frag} {mg : Str → Option Value} {base : Heap} {N ps : List Str} {qual : Str} {scope : Scope} {f : Addr} {cd : Value} {A : Around} {outer : List Env} {s s1 : Shared} {H : Hp} {E : XK} {us : List Value} {vs : List V}
    (S : FnScope N ps scope) (hd : A.handled = none) (e0 : Env0 P w K mg base A outer s H) (hl : vs.length = ps.length) (r : Vals vs us)
    (x : InCallC s s.heap.objs.size (bindL (envOfC qual scope s.heap.objs.size f cd).kindOf (ps.zip us) fun _ => none) (cellsFrom (s.heap.objs.size + 1) scope.names []) (bindC (envOfC qual scope s.heap.objs.size f cd).kindOf (ps.zip us) fun _ => none) s1) :
    Inv (cxOf CX P w K mg base N qual scope f cd A outer s H E) [] (start N vs) H s1 := by
  have hpl : ps.length ≤ N.length := by have := congrArg List.length S.pre; rw [List.length_take] at this; omega
  obtain ⟨h1, tk, rfl, hk⟩ := x.done
  have noA : ∀ b : Addr, b ∉ (cxOf CX P w K mg base N qual scope f cd A outer s H E).ex := fun b z => absurd (show b ∈ ([] : List Addr) from z) (by simp)
  refine ⟨⟨e0.mod, S.kind, rfl, rfl, Nat.le_refl _, fun y z c h1 h2 => ?_, fun y hy => ?_, fun y c _ h => ?_, fun _ => hd, Around.frames_deeper e0.frames, .inr ⟨rfl, rfl⟩, fun b z => absurd z (noA b), e0.bs, e0.bsz, fun b _ _ => noA b, fun b z => absurd z (noA b), e0.funs, e0.frf⟩,
    rfl, e0.bare, Un.kept hk, ⟨_, x.toInCall.ns, fun i y v h1 h2 h3 => ?_⟩, fun y c h => ⟨_, x.cell y c h⟩, e0.hok.fresh (Nat.le_refl _), fun y c h => ?_, fun p hp => absurd (show p ∈ ([] : List (Addr × Obj)) from hp) (by simp), e0.hok.kept hk, ?_⟩
  · exact name_of_addr x.apart (PySem.mem_of_lookup h1) (PySem.mem_of_lookup h2)
  · have hy : scope.names.lookup y = some .cell ∨ scope.names.lookup y = some .free := hy
    rcases hy with hy | hy
    · exact cell_has hy
    · exact absurd rfl (S.nofree _ (PySem.mem_of_lookup hy))
  · exact Nat.le_of_lt (x.above y c (PySem.mem_of_lookup h))
  · have hi : i < vs.length := by
      unfold start at h2
      by_cases hi : i < vs.length
      · exact hi
      · rw [List.getElem?_append_right (by simpa using hi)] at h2
        rw [List.getElem?_replicate] at h2
        split at h2 <;> cases h2
    have ha : vs[i]? = some v := by
      unfold start at h2
      rw [List.getElem?_append_left (by simpa using hi), List.getElem?_map] at h2
      cases e : vs[i]? with
      | none => rw [e] at h2; cases h2
      | some a => rw [e] at h2; cases h2; rfl
    obtain ⟨u, hu, rv⟩ := r.get ha
    have hp : ps[i]? = some y := by
      rw [← S.pre, List.getElem?_take_of_lt (by omega)]; exact h1
    have ndP : ps.Nodup := by rw [← S.pre]; exact S.nd.sublist (List.take_sublist _ _)
    refine ⟨u, rv, ?_⟩
    rcases S.par y (List.mem_of_getElem? hp) with k | k
    · exact .inl ⟨k, bindL_get ndP hp hu k⟩
    · obtain ⟨c, e⟩ := cell_has (n := s.heap.objs.size + 1) k
      refine .inr ⟨.inl k, c, e, ?_⟩
      have q := x.cell y c e
      rw [bindC_get ndP hp hu (by show scope.names.lookup y ≠ _; rw [k]; decide)] at q
      exact q
  · exact e0.hok.fresh (Nat.le_of_lt (x.above y c (PySem.mem_of_lookup h)))
  · unfold start
    show _ = N.length
    rw [List.length_append, List.length_map, List.length_replicate]
    omega

theorem fn_of {CX : CXT} {P : Program} {w : World} {K : PySem.W.Frag} {mg : Str → Option Value} {base : Heap} {k : Nat} {f : Addr} {name qual : Str} {params : Arguments} {body : List Stmt} {scope : Scope} {dV kV doc pm cdv ct oc : Value} {an od : Option Addr}
    {osl : Array (Option Value)} {N ps : List Str} {sp : Sp} (lk : K.lookup f = some ⟨oc, od, .func (PySem.W.fnOf name qual params body scope dV kV doc pm an cdv ct), osl⟩) (hcd : PySem.W.codeIn K cdv qual = true) (S : FnScope N ps scope)
    (len : ∀ vs H Q E, sp vs H Q E → vs.length = ps.length)
    (hbody : ∀ (A : Around) (outer : List Env) (s : Shared) (H : Hp) (vs : List V) (Q : VK) (E : XK), Room k (A.deeper (envOfC qual scope s.heap.objs.size f cdv)) → sp vs H Q E →
      ∃ t, PSs (cxOf CX P w K mg base N qual scope f cdv A outer s H E) body t ∧ t { nx := fun _ H' => Q .non H', rt := Q } (start N vs) H) :
    FnOk P w K mg base CX (k + 1) f (PySem.W.fnOf name qual params body scope dV kV doc pm an cdv ct) ps sp := by
  refine ⟨len, fun A outer s H args us vs Q E hr e0 hb r hsp => ?_⟩
  have hl := len _ _ _ _ hsp
  have KX : K.In s.heap := e0.mod.kin.keeps fun b o e => (e0.bs b o e).1
  have lim : s.heap.NoLimit := e0.mod.nolimit.keeps fun b o e => (e0.bs b o e).1
  have hkind : ∀ y ∈ ps.zip us, scope.names.lookup y.1 = some .local ∨ (scope.names.lookup y.1 = some .cell ∧ ((cellsFrom (s.heap.objs.size + 1) scope.names []).lookup y.1).isSome = true) := fun ⟨n, v⟩ hy => by
    rcases S.par n (List.of_mem_zip hy).1 with q | q
    · exact .inl q
    · exact .inr ⟨q, PySem.W.cellsFrom_some _ _ _ (.inl q)⟩
  refine codeAny_call_function hr.depth (KX _ _ lk) rfl S.co S.gen rfl (PySem.W.codeRec_of KX hcd) (hb _ _ _ _ ?_)
  refine wpAny_newFunctionEnv_cells S.kind hkind fun env he s1 x => ?_
  subst he
  refine ⟨lim.keeps x.toInCall.keep, codeAny_func ?_⟩
  obtain ⟨t, ht, hq⟩ := hbody A outer s H vs Q E (hr.deeper _) hsp
  have I : Inv (cxOf CX P w K mg base N qual scope f cdv A outer s H E) [] (start N vs) H s1 := inv_start S hr.hd e0 hl r x
  refine wpAny_mono (ht [] s1 (start N vs) H _ I hq) (fun fl s' hs => ?_) fun e s' hs => hs
  have fin : ∀ {σ' : St} {H' : Hp} {v : V} {u : Value}, Inv (cxOf CX P w K mg base N qual scope f cdv A outer s H E) [] σ' H' s' → RelV v u → Q v H' → CE outer P w H s Q u s' :=
    fun {σ' H' v u} J rv q => ⟨v, H', J.os, J.bare, J.base, J.hok, rv, q⟩
  cases fl with
  | ret u =>
    obtain ⟨v, σ', H', J, rv, q⟩ := hs
    exact fin J rv q
  | next =>
    obtain ⟨σ', H', J, q⟩ := hs
    exact fin (v := V.non) (u := Value.none) J rfl q
  | brk =>
    obtain ⟨_, _, _, q⟩ := hs
    exact False.elim q
  | cont =>
    obtain ⟨_, _, _, q⟩ := hs
    exact False.elim q
end L2

namespace L2
open PySem PySem.Spec PyProof.Rows
section
variable {X : Cx} {x : Str} {p pos : Pos} {e : Expr} {es : List Expr} {t : TA} {id T : String} {r : List V → Hp → VK → Prop}

def tCB (r : List V → Hp → VK → Prop) (t : TA) : TE := fun σ H Q => t σ H fun vs H1 => r vs H1 Q
theorem pe_callB (hc : CallR X (.builtin id) r) (hg : Gl X x) (hm : X.mg x = none) (hv : bootBuiltins x = some (.builtin id)) (ha : PA X (e :: es) t) (hn : x ≠ "__name__" := by decide) (hdb : (x == ("__debug__" : Str)) = false := by decide)
    (he : starEach (e :: es) X.env = (false, eval e X.env) :: starEach es X.env := by rfl) (hpl : (backTo pos (starEach es X.env)).any (·.1) = false := by rfl) : PE X (.Call (.Name x p) (e :: es) [] pos) (tCB r t) := by
  intro pins s σ H Q I h
  refine wpAny_Call_Name_kw (ld_blt I hg hm hv ?_ hn hdb)
  exact PyProof.Rows.callWith_builtin1 (thn (ha pos pins s σ H _ I h) fun us s1 ⟨vs, H1, I1, r1, q1⟩ => hc pins s1 σ H1 vs us Q I1 r1 q1) he hpl
theorem pe_callTy (hc : CallR X (.type T) r) (hg : Gl X x) (hm : X.mg x = none) (hv : bootBuiltins x = some (.type T)) (ha : PA X (e :: es) t) (hn : x ≠ "__name__" := by decide) (hdb : (x == ("__debug__" : Str)) = false := by decide)
    (he : starEach (e :: es) X.env = (false, eval e X.env) :: starEach es X.env := by rfl) (hpl : (backTo pos (starEach es X.env)).any (·.1) = false := by rfl) : PE X (.Call (.Name x p) (e :: es) [] pos) (tCB r t) := by
  intro pins s σ H Q I h
  refine wpAny_Call_Name_kw (ld_blt I hg hm hv ?_ hn hdb)
  exact PyProof.Rows.callWith_type1 (thn (ha pos pins s σ H _ I h) fun us s1 ⟨vs, H1, I1, r1, q1⟩ => hc pins s1 σ H1 vs us Q I1 r1 q1) he hpl
end
end L2

namespace L2
open PySem PySem.Spec PyProof.Rows

section
variable {κ : Type} [DecidableEq κ]
def valV (kvs : List (κ × V)) (k : κ) : Option V := (kvs.find? fun kv => decide (kv.1 = k)).map (·.2)
def putK (kvs : List (κ × V)) (k : κ) (v : V) : List (κ × V) :=
  if (kvs.any fun kv => decide (kv.1 = k)) = true then kvs.map (fun kv => if kv.1 = k then (kv.1, v) else kv) else kvs ++ [(k, v)]
theorem valV_pos {p : κ × V} {r : List (κ × V)} {k : κ} (e : p.1 = k) : valV (p :: r) k = some p.2 := by simp [valV, List.find?_cons, e]
theorem valV_neg {p : κ × V} {r : List (κ × V)} {k : κ} (e : ¬ p.1 = k) : valV (p :: r) k = valV r k := by simp [valV, List.find?_cons, e]
theorem valV_any (k : κ) : ∀ kvs : List (κ × V), (kvs.any fun kv => decide (kv.1 = k)) = (valV kvs k).isSome
  | [] => rfl
  | p :: r => by
    rw [List.any_cons]
    by_cases e : p.1 = k
    · simp only [valV_pos e, decide_eq_true e, Bool.true_or, Option.isSome_some]
    · rw [valV_neg e, decide_eq_false e, Bool.false_or]; exact valV_any k r
theorem valV_map (k j : κ) (y : V) : ∀ kvs : List (κ × V), valV (kvs.map fun kv => if kv.1 = k then (kv.1, y) else kv) j = (valV kvs j).map fun x => if j = k then y else x
  | [] => rfl
  | p :: r => by
    have ih := valV_map k j y r
    rw [List.map_cons]
    by_cases h : p.1 = k
    · rw [if_pos h]
      by_cases e : p.1 = j
      · rw [valV_pos (p := (p.1, y)) e, valV_pos e, Option.map_some, if_pos (e.symm.trans h)]
      · rw [valV_neg (p := (p.1, y)) e, valV_neg e, ih]
    · rw [if_neg h]
      by_cases e : p.1 = j
      · rw [valV_pos (p := p) e, valV_pos e, Option.map_some, if_neg (fun z => h (e.trans z))]
      · rw [valV_neg (p := p) e, valV_neg e, ih]
theorem valV_snoc (k j : κ) (y : V) : ∀ kvs : List (κ × V), valV kvs k = none → valV (kvs ++ [(k, y)]) j = if j = k then some y else valV kvs j
  | [], _ => by
    by_cases e : k = j
    · rw [if_pos e.symm]; exact valV_pos (p := (k, y)) e
    · rw [if_neg (fun z => e z.symm)]; exact valV_neg (p := (k, y)) e
  | p :: r, hn => by
    rw [List.cons_append]
    have hk : ¬ p.1 = k := fun z => by rw [valV_pos z] at hn; cases hn
    rw [valV_neg hk] at hn
    have ih := valV_snoc k j y r hn
    by_cases e : p.1 = j
    · rw [valV_pos e, valV_pos e, if_neg (fun z => hk (e.trans z))]
    · rw [valV_neg e, valV_neg e, ih]
theorem valV_put (kvs : List (κ × V)) (k j : κ) (y : V) : valV (putK kvs k y) j = if j = k then some y else valV kvs j := by
  unfold putK
  by_cases a : (kvs.any fun kv => decide (kv.1 = k)) = true
  · rw [if_pos a, valV_map]
    rw [valV_any] at a
    by_cases e : j = k
    · obtain ⟨x, hx⟩ := Option.isSome_iff_exists.mp a
      rw [if_pos e, e, hx, Option.map_some, if_pos rfl]
    · rw [if_neg e]
      cases valV kvs j with
      | none => rfl
      | some x => rw [Option.map_some, if_neg e]
  · rw [if_neg a]
    refine valV_snoc k j y kvs ?_
    rw [valV_any] at a
    cases q : valV kvs k with
    | none => rfl
    | some x => rw [q] at a; exact (a rfl).elim
theorem length_putK (kvs : List (κ × V)) (k : κ) (v : V) : (putK kvs k v).length ≤ kvs.length + 1 := by
  unfold putK
  split
  · rw [List.length_map]; omega
  · rw [List.length_append, List.length_cons, List.length_nil]; omega
theorem RelO.isSome_eq {o : Option V} {u : Option Value} (r : RelO o u) : o.isSome = u.isSome := by
  cases o with
  | none => cases u with
    | none => rfl
    | some _ => exact (show False from r).elim
  | some _ => cases u with
    | none => exact (show False from r).elim
    | some _ => rfl
theorem KV.val {kvs : List (κ × V)} {vs : List (κ × Value)} (r : KV kvs vs) (k : κ) : RelO (valV kvs k) (valueAt vs k) := by
  unfold KV at r
  induction r with
  | nil => exact True.intro
  | @cons p q ps qs h t ih =>
    obtain ⟨h1, h2⟩ := h
    by_cases e : p.1 = k
    · have e' : q.1 = k := h1.symm.trans e
      have b : valueAt (q :: qs) k = some q.2 := by simp [valueAt, List.find?_cons, e']
      rw [valV_pos e, b]; exact h2
    · have e' : ¬ q.1 = k := fun z => e (h1.trans z)
      have b : valueAt (q :: qs) k = valueAt qs k := by simp [valueAt, List.find?_cons, e']
      rw [valV_neg e, b]; exact ih
theorem KV.any {kvs : List (κ × V)} {vs : List (κ × Value)} (r : KV kvs vs) (k : κ) : (kvs.any fun kv => decide (kv.1 = k)) = vs.any fun kv => decide (kv.1 = k) := by
  unfold KV at r
  induction r with
  | nil => rfl
  | cons h t ih => rw [List.any_cons, List.any_cons, ih, h.1]
theorem KV.repl {kvs : List (κ × V)} {vs : List (κ × Value)} (r : KV kvs vs) (k : κ) {y : V} {u : Value} (ry : RelV y u) :
    KV (kvs.map fun kv => if kv.1 = k then (kv.1, y) else kv) (vs.map fun kv => if kv.1 = k then (kv.1, u) else kv) := by
  unfold KV at r ⊢
  induction r with
  | nil => exact .nil
  | @cons p q ps qs h t ih =>
    rw [List.map_cons, List.map_cons]
    refine .cons ?_ ih
    obtain ⟨h1, h2⟩ := h
    by_cases e : p.1 = k
    · rw [if_pos e, if_pos (h1.symm.trans e)]; exact ⟨h1, ry⟩
    · rw [if_neg e, if_neg (fun z => e (h1.trans z))]; exact ⟨h1, h2⟩
theorem KV.put {kvs : List (κ × V)} {vs : List (κ × Value)} (r : KV kvs vs) (k : κ) {y : V} {u : Value} (ry : RelV y u) : KV (putK kvs k y) (stored vs k u) := by
  unfold putK stored
  rw [r.any k]
  by_cases e : (vs.any fun kv => decide (kv.1 = k)) = true
  · rw [if_pos e, if_pos e]; exact r.repl k ry
  · rw [if_neg e, if_neg e]; exact Paired.snoc r ⟨rfl, ry⟩
theorem KV.length {kvs : List (κ × V)} {vs : List (κ × Value)} (r : KV kvs vs) : kvs.length = vs.length := Paired.length r
end


theorem kV_is {P : Program} {w : World} {k : Key} {u : Value} (r : RelV (kV k) u) : (mixKind P w).is k u = true := by
  cases k with
  | inl i => obtain ⟨t, e⟩ := (show ∃ t, u = Value.int i t from r); subst e; exact mixKind_int P w i t
  | inr x => obtain ⟨t, e⟩ := (show ∃ t, u = Value.str x t from r); subst e; exact mixKind_str P w x t
theorem items_are {P : Program} {w : World} : ∀ {ks : List Key} {us : List Value}, Vals (ks.map kV) us → ItemsAre (mixKind P w) ks us
  | [], _, r => by rw [List.map_nil] at r; cases r; exact .nil
  | k :: ks, _, r => by
    rw [List.map_cons] at r
    cases r with
    | cons h t => exact .cons (kV_is h) (items_are t)

abbrev KT (H : Hp) : List (List Key × V) → List (List Key × Addr × Value) → Prop := Paired fun p q => p.1 = q.1 ∧ H q.2.1 = some (.tup (p.1.map kV)) ∧ RelV p.2 q.2.2
theorem KT.val {H : Hp} {kvs : List (List Key × V)} {xs : List (List Key × Addr × Value)} (r : KT H kvs xs) (k : List Key) : RelO (valV kvs k) ((atKey xs k).map (·.2)) := by
  induction r with
  | nil => exact True.intro
  | @cons p q ps qs h t ih =>
    obtain ⟨h1, _, h2⟩ := h
    by_cases e : p.1 = k
    · have e' : q.1 = k := h1.symm.trans e
      have b : atKey (q :: qs) k = some q.2 := by simp [atKey, List.find?_cons, e']
      rw [valV_pos e, b]; exact h2
    · have e' : ¬ q.1 = k := fun z => e (h1.trans z)
      have b : atKey (q :: qs) k = atKey qs k := by simp [atKey, List.find?_cons, e']
      rw [valV_neg e, b]; exact ih
theorem KT.repl {H : Hp} {kvs : List (List Key × V)} {xs : List (List Key × Addr × Value)} (r : KT H kvs xs) (k : List Key) {y : V} {u : Value} (ry : RelV y u) :
    KT H (kvs.map fun kv => if kv.1 = k then (kv.1, y) else kv) (xs.map (putAt k u)) := by
  induction r with
  | nil => exact .nil
  | @cons p q ps qs h t ih =>
    rw [List.map_cons, List.map_cons]
    refine .cons ?_ ih
    obtain ⟨h1, h2, h3⟩ := h
    unfold putAt
    by_cases e : p.1 = k
    · rw [if_pos e, if_pos (h1.symm.trans e)]; exact ⟨h1, h2, ry⟩
    · rw [if_neg e, if_neg (fun z => e (h1.trans z))]; exact ⟨h1, h2, h3⟩
theorem KT.put {H : Hp} {kvs : List (List Key × V)} {xs : List (List Key × Addr × Value)} (r : KT H kvs xs) (k : List Key) {b : Addr} {y : V} {u : Value} (hb : H b = some (.tup (k.map kV))) (ry : RelV y u) :
    KT H (putK kvs k y) (storedH xs k b u) := by
  have e : (kvs.any fun kv => decide (kv.1 = k)) = (atKey xs k).isSome := by
    rw [valV_any, (r.val k).isSome_eq, Option.isSome_map]
  unfold putK storedH
  rw [e]
  by_cases q : (atKey xs k).isSome = true
  · rw [if_pos q, if_pos q]; exact r.repl k ry
  · rw [if_neg q, if_neg q]; exact Paired.snoc r ⟨rfl, hb, ry⟩
theorem KT.keeps {H H' : Hp} {kvs : List (List Key × V)} {xs : List (List Key × Addr × Value)} (r : KT H kvs xs) (ht : ∀ b ys, H b = some (.tup ys) → H' b = some (.tup ys)) : KT H' kvs xs :=
  Paired.mapP r fun _ _ z => ⟨z.1, ht _ _ z.2.1, z.2.2⟩

section
variable {P : Program} {w : World} {H : Hp} {h : Heap} {a : Addr}
theorem rd_of {u : HO} (ok : HOk P w H h) (e : Rd H a u) : ObjOk P w H h a u := e.ok ok
theorem dk_rd {kvs : List (Key × V)} (ok : HOk P w H h) (e : Rd H a (.dK kvs)) : kvs.length ≤ sizeLine ∧ (a == sysModules) = false ∧ ∃ vs, KV kvs vs ∧ h.DictOf (mixKind P w) a vs :=
  show ObjOk P w H h a (.dK kvs) from rd_of ok e
theorem dk_of {kvs : List (Key × V)} (ok : HOk P w H h) (e : H a = some (.dK kvs)) : kvs.length ≤ sizeLine ∧ (a == sysModules) = false ∧ ∃ vs, KV kvs vs ∧ h.DictOf (mixKind P w) a vs := dk_rd ok (.inl e)
theorem key_of {ks : List Key} (ok : HOk P w H h) (e : H a = some (.tup (ks.map kV))) : (tupleKind (mixKind P w)).is h ks a := by
  obtain ⟨_, its, r, o, h1, h2, n, h3⟩ := (show ObjOk P w H h a (.tup (ks.map kV)) from ok a _ e)
  exact ⟨o, its.toArray, n, h1, h2, h3, by simpa using items_are r⟩
theorem dt_rd {kvs : List (List Key × V)} (ok : HOk P w H h) (e : Rd H a (.dT kvs)) : kvs.length ≤ sizeLine ∧ (a == sysModules) = false ∧
    ∃ xs, KT H kvs xs ∧ h.DictOfH (tupleKind (mixKind P w)) a xs := by
  obtain ⟨z, y, xs, r, o, es, ep, h1, h2, h3, h4, h5⟩ := (show ObjOk P w H h a (.dT kvs) from rd_of ok e)
  refine ⟨z, y, xs, r, o, es, ep, h1, h2, h3, h4, fun x hx => ?_, h5⟩
  have all : ∀ {l : List (List Key × V)} {m : List (List Key × Addr × Value)}, KT H l m → ∀ x ∈ m, (tupleKind (mixKind P w)).is h x.1 x.2.1 := by
    intro l m q
    induction q with
    | nil => intro x hx; exact nomatch hx
    | @cons p q ps qs hq t ih =>
      intro x hx
      rcases List.mem_cons.mp hx with e | hx
      · subst e
        exact key_of ok (by rw [← hq.1]; exact hq.2.1)
      · exact ih x hx
  exact all r x hx
theorem dt_of {kvs : List (List Key × V)} (ok : HOk P w H h) (e : H a = some (.dT kvs)) : kvs.length ≤ sizeLine ∧ (a == sysModules) = false ∧
    ∃ xs, KT H kvs xs ∧ h.DictOfH (tupleKind (mixKind P w)) a xs := dt_rd ok (.inl e)
end

def DGet (H : Hp) (a : Addr) (y : V) (r : Option V) : Prop :=
  (∃ kvs k, Rd H a (.dK kvs) ∧ y = kV k ∧ r = valV kvs k) ∨ ∃ kvs k b, Rd H a (.dT kvs) ∧ y = .ref b ∧ H b = some (.tup (k.map kV)) ∧ r = valV kvs k
def DPut (H : Hp) (a : Addr) (y v : V) (H' : Hp) : Prop :=
  (∃ kvs k, H a = some (.dK kvs) ∧ y = kV k ∧ kvs.length < sizeLine ∧ H' = upd H a (.dK (putK kvs k v))) ∨
  ∃ kvs k b, H a = some (.dT kvs) ∧ y = .ref b ∧ H b = some (.tup (k.map kV)) ∧ kvs.length < sizeLine ∧ H' = upd H a (.dT (putK kvs k v))
theorem DGet.k {H : Hp} {a : Addr} {kvs : List (Key × V)} {k : Key} (e : H a = some (.dK kvs)) : DGet H a (kV k) (valV kvs k) := .inl ⟨kvs, k, .inl e, rfl, rfl⟩
theorem DPut.k {H : Hp} {a : Addr} {kvs : List (Key × V)} {k : Key} {v : V} (e : H a = some (.dK kvs)) (hl : kvs.length < sizeLine) : DPut H a (kV k) v (upd H a (.dK (putK kvs k v))) := .inl ⟨kvs, k, e, rfl, hl, rfl⟩
section
variable {X : Cx} {pins : List (Addr × Obj)} {σ : St} {H : Hp} {s : Shared} {a : Addr} {y v : V} {u r : Value} {o : Option V} {A : Around} {E : Value → Shared → Prop}

theorem Inv.big (I : Inv X pins σ H s) : sysModules < s.heap.objs.size := by
  have h : mainGlobals < s.heap.objs.size := (I.mod.glob.keeps I.bk).lt
  exact Nat.lt_trans (by decide) h

theorem d_getItem {Q : Value → Shared → Prop} (hu : A.units + 1 < cLine) (I : Inv X pins σ H s) (g : DGet H a y (some v)) (ry : RelV y u) (h : ∀ w' s', Inv X pins σ H s' → RelV v w' → Q w' s') :
    wpAny (model X.prog X.w) A (getItem (.ref a) u) Q E s := by
  rcases g with ⟨kvs, k, e, ey, l⟩ | ⟨kvs, k, b, e, ey, eb, l⟩
  · subst ey
    obtain ⟨z, hd, vs, rel, dd⟩ := dk_rd I.hok e
    obtain ⟨w', hw, rw'⟩ := RelO.some_of (v := v) (o := valueAt vs k) (by rw [l]; exact rel.val k)
    exact wpAny_getItem_of (kV_is ry) dd.mapOf hw (h w' _ (I.tok _) rw')
  · subst ey
    cases (show u = Value.ref b from ry)
    obtain ⟨z, hd, xs, rel, dd⟩ := dt_rd I.hok e
    obtain ⟨w', hw, rw'⟩ := RelO.some_of (v := v) (o := (atKey xs k).map (·.2)) (by rw [l]; exact rel.val k)
    obtain ⟨p, hp, hp2⟩ := Option.map_eq_some_iff.mp hw
    refine wpAny_getItem_heap (tupleKind_room_in1 hu) (key_of I.hok eb) dd hp ?_
    rw [hp2]
    exact h w' _ (I.tok _) rw'
theorem d_notIn {Q : Value → Shared → Prop} (hu : A.units + 1 < cLine) (I : Inv X pins σ H s) (g : DGet H a y o) (ry : RelV y u) (h : ∀ s', Inv X pins σ H s' → Q (.bool (!o.isSome)) s') :
    wpAny (model X.prog X.w) A (compareOp .NotIn u (.ref a)) Q E s := by
  rcases g with ⟨kvs, k, e, ey, l⟩ | ⟨kvs, k, b, e, ey, eb, l⟩
  · subst ey
    obtain ⟨z, hd, vs, rel, dd⟩ := dk_rd I.hok e
    refine wpAny_notIn_of (kV_is ry) hd dd.mapOf ?_
    rw [← (rel.val k).isSome_eq, ← l]
    exact h _ (I.tok _)
  · subst ey
    cases (show u = Value.ref b from ry)
    obtain ⟨z, hd, xs, rel, dd⟩ := dt_rd I.hok e
    refine wpAny_notIn_heap (tupleKind_room_in1 hu) (key_of I.hok eb) hd dd ?_
    have q := (rel.val k).isSome_eq
    rw [Option.isSome_map] at q
    rw [← q, ← l]
    exact h _ (I.tok _)
theorem d_write {h' : Heap} {t' : Nat} {ob : HO} (I : Inv X pins σ H s) (mu : Mut (H a)) (hs : Heap.SameBut a s.heap h') (he : ∃ q, h'.get? a = some q) (new : ObjOk X.prog X.w (upd H a ob) h' a ob) :
    Inv X pins σ (upd H a ob) { s with heap := h', toks := t' } :=
  I.write (x := a) (e := a) mu (.inl rfl) (fun b q hb z => (hs.2 b hb).trans z) he new
theorem dk_new {P : Program} {w : World} {H' : Hp} {h' : Heap} {kvs : List (Key × V)} {vs : List (Key × Value)} (z : kvs.length ≤ sizeLine) (hd : (a == sysModules) = false) (rel : KV kvs vs) (dd : h'.DictOf (mixKind P w) a vs) :
    ObjOk P w H' h' a (.dK kvs) := ⟨z, hd, vs, rel, dd⟩
theorem d_setItem {H' : Hp} {Q : Unit → Shared → Prop} (hu : A.units + 1 < cLine) (I : Inv X pins σ H s) (g : DPut H a y v H') (ry : RelV y u) (rv : RelV v r) (h : ∀ s', Inv X pins σ H' s' → Q () s') :
    wpAny (model X.prog X.w) A (setItem (.ref a) u r) Q E s := by
  rcases g with ⟨kvs, k, e, ey, l, eH⟩ | ⟨kvs, k, b, e, ey, eb, l, eH⟩
  · subst ey eH
    obtain ⟨z, hd, vs, rel, dd⟩ := dk_of I.hok e
    have hz : vs.length ≤ sizeLine := by rw [← rel.length]; exact z
    have hl : (putK kvs k v).length ≤ sizeLine := by have := length_putK kvs k v; omega
    refine wpAny_setItem_pairs (hsz := hz) (kV_is ry) dd fun h' dd' hs => h _ ?_
    have he : ∃ q, h'.get? a = some q := let ⟨q, _, _, hq, _⟩ := dd'; ⟨q, hq⟩
    exact d_write I (by rw [e]; exact True.intro) hs he (dk_new hl hd (rel.put k rv) dd')
  · subst ey eH
    cases (show u = Value.ref b from ry)
    obtain ⟨z, hd, xs, rel, dd⟩ := dt_of I.hok e
    have hz : xs.length ≤ sizeLine := by rw [← Paired.length rel]; exact z
    have hl : (putK kvs k v).length ≤ sizeLine := by have := length_putK kvs k v; omega
    refine wpAny_setItem_heap (hsz := hz) (tupleKind_room_in1 hu) (key_of I.hok eb) dd fun h' dd' hs => h _ ?_
    obtain ⟨q, es, ep, hq, h2, h3, h4, _, h5⟩ := dd'
    refine d_write I (by rw [e]; exact True.intro) hs ⟨q, hq⟩ ⟨hl, hd, _, (rel.put k eb rv).keeps fun c ys ec => ?_, q, es, ep, hq, h2, h3, h4, h5⟩
    rw [upd_ne (ne_of ec e (fun z => nomatch z))]
    exact ec
end



def NoSl (i : Expr) : Prop := ∀ ov iv, subscripted i false ov iv = operate [ov, iv] (getItem ov iv)
theorem subD_of {prog : Program} {w : World} {A : Around} {E : Value → Shared → Prop} {s : Shared} {env : Env} {value slice : Expr} {pos : Pos} {T id : String} {Q : Value → Shared → Prop}
    (hl : typeLookup (.type T) "__getitem__" = pure (some (.builtin id))) (hs : NoSl slice)
    (h : wpAny (model prog w) A (eval value env) (fun o s₁ => wpAny (model prog w) A (eval slice env) (fun i s₂ => s₂.TypeIs o T ∧ wpAny (model prog w) A (getItem o i) Q E s₂) E s₁) E s) :
    wpAny (model prog w) A (eval (.Subscript value slice pos) env) Q E s := by
  refine Subscript_ (wpAny_mono h (fun o s₁ h₁ => wpAny_mono h₁ (fun i s₂ h₂ => ?_) fun _ _ x => x) fun _ _ x => x)
  obtain ⟨hT, h₂⟩ := h₂
  unfold subscriptTail
  refine wpAny_bind ?_
  rw [getitemInPython_of_ne hT.not_modules]
  refine wpAny_bind (wpAny_specialOf hT hl ?_)
  have fin : wpAny (model prog w) A (subscripted slice false o i) (fun r s₃ => wpAny (model prog w) A (letTemporaryGo value o r >>= fun _ => pure r) Q E s₃) E s₂ := by
    rw [hs o i]
    exact wpAny_operating (wpAny_mono h₂ (fun r s₃ h₃ => wpAny_bind (wpAny_letTemporaryGo (wpAny_pure h₃))) fun _ _ x => x)
  first
    | exact wpAny_pure (wpAny_bind fin)
    | exact wpAny_bind (wpAny_pure (wpAny_bind fin))
    | exact wpAny_bind fin

theorem dict_typeIs {X : Cx} {pins : List (Addr × Obj)} {σ : St} {H : Hp} {s : Shared} {a : Addr} {y : V} {o : Option V} (I : Inv X pins σ H s) (g : DGet H a y o) : s.TypeIs (.ref a) "dict" := by
  rcases g with ⟨kvs, k, e, _, _⟩ | ⟨kvs, k, b, e, _, _, _⟩
  · obtain ⟨_, _, vs, _, dd⟩ := dk_rd I.hok e
    exact dd.typeIs
  · obtain ⟨_, _, xs, _, dd⟩ := dt_rd I.hok e
    exact dd.typeIs
def tDGet (td ty : TE) : TE := fun σ H Q => td σ H fun x H1 => ty σ H1 fun y H2 => ∃ a v, x = .ref a ∧ DGet H2 a y (some v) ∧ Q v H2
def tDNotIn (ty td : TE) : TE := fun σ H Q => ty σ H fun y H1 => td σ H1 fun x H2 => ∃ a o, x = .ref a ∧ DGet H2 a y o ∧ Q (.bl (!o.isSome)) H2
def sDPut (td ty tv : TE) : TS := fun D σ H => tv σ H fun v H1 => td σ H1 fun x H2 => ty σ H2 fun y H3 => ∃ a H4, x = .ref a ∧ DPut H3 a y v H4 ∧ D.nx σ H4
section
variable {X : Cx} {o i e value : Expr} {pos pos' tpos : Pos} {td ty tv : TE}
theorem pe_dget (hu : X.A.units + 1 < cLine) (ho : PE X o td) (hi : PE X i ty) (hs : NoSl i) : PE X (.Subscript o i pos) (tDGet td ty) := by
  intro pins s σ H Q I h
  refine subD_of PySem.F.slot_dict_getitem.lookup hs (thn (ho pins s σ H _ I h) fun u s1 ⟨x, H1, I1, rx, q1⟩ => thn (hi pins s1 σ H1 _ I1 q1) fun iv s2 ⟨y, H2, I2, ry, a, v, ex, g, q2⟩ => ?_)
  subst ex
  obtain rfl : u = Value.ref a := rx
  exact ⟨dict_typeIs I2 g, d_getItem hu I2 g ry fun w' s3 I3 rw' => ⟨v, H2, I3, rw', q2⟩⟩
theorem pc_dnotin (hu : X.A.units + 1 < cLine) (hi : PE X i ty) (ho : PE X o td) : PC X .NotIn i o (tDNotIn ty td) := by
  intro pins s σ H Q I h
  refine thn (hi pins s σ H _ I h) fun iv s1 ⟨y, H1, I1, ry, q1⟩ => thn (ho pins s1 σ H1 _ I1 q1) fun u s2 ⟨x, H2, I2, rx, a, ov, ex, g, q2⟩ => ?_
  subst ex
  obtain rfl : u = Value.ref a := rx
  exact d_notIn hu I2 g ry fun s3 I3 => ⟨.bl (!ov.isSome), H2, I3, rfl, q2⟩
theorem ps_dput (hu : X.A.units + 1 < cLine) (ho : PE X o td) (hi : PE X i ty) (hv : PE X value tv) (hs : swapsWith value (some (.Subscript o i pos')) pos.line X.env = pure false) :
    PS X (.Assign [.Subscript o i pos'] value pos) (sDPut td ty tv) := by
  intro pins s σ H D I h
  refine wpAny_Assign_Subscript (thn (hv pins s σ H _ I h) fun r s1 ⟨v, H1, I1, rv, q1⟩ => thn (ho pins s1 σ H1 _ I1 q1) fun u s2 ⟨x, H2, I2, rx, q2⟩ => thn (hi pins s2 σ H2 _ I2 q2) fun iv s3 ⟨y, H3, I3, ry, a, H4, ex, g, q3⟩ => ?_) hs
  subst ex
  obtain rfl : u = Value.ref a := rx
  exact d_setItem hu I3 g ry rv fun s4 I4 => ⟨σ, H4, I4, q3⟩
end


theorem dk_empty {P : Program} {w : World} {H : Hp} (h : Heap) (hb : sysModules < h.objs.size) : ObjOk P w H (h.push { cls := .type "dict", data := .dict #[] }) h.objs.size (.dK []) :=
  ⟨Nat.zero_le _, beq_eq_false_iff_ne.mpr (Ne.symm (Nat.ne_of_lt hb)), [], .nil, Heap.DictOf.new h⟩
def tDNewK : TE := fun _ H Q => ∀ p, H p = none → Q (.ref p) (upd H p (.dK []))
section
variable {X : Cx} {pos : Pos}
theorem pe_dnewK : PE X (.Dict [] [] pos) tDNewK := fun pins s σ H Q I h =>
  wpAny_Dict_empty ⟨.ref s.heap.objs.size, _, I.laid (a := s.heap.objs.size) (o := .dK []) (t' := s.toks) (fun _ _ q => Heap.get?_push_of_some _ q) (Nat.le_refl _) (dk_empty s.heap I.big), rfl, h _ (I.hok.fresh (Nat.le_refl _))⟩
end

def tPairs : List (TE × TE) → St → Hp → (List (V × V) → Hp → Prop) → Prop
  | [], _, H, Q => Q [] H
  | (tk, tv) :: r, σ, H, Q => tk σ H fun x H1 => tv σ H1 fun y H2 => tPairs r σ H2 fun ps H3 => Q ((x, y) :: ps) H3
abbrev VV : List (V × V) → List (Value × Value) → Prop := Paired fun p q => RelV p.1 q.1 ∧ RelV p.2 q.2
def PPs (X : Cx) (pos : Pos) (keys : List (Option Expr)) (values : List Expr) (trs : List (TE × TE)) : Prop :=
  ∀ (pins : List (Addr × Obj)) (s : Shared) (σ : St) (H : Hp) (Q : List (V × V) → Hp → Prop), Inv X pins σ H s → tPairs trs σ H Q →
    wpAny (model X.prog X.w) X.A (evalPairs (pairTrees keys values X.env pos)) (fun vs s' => ∃ ps H', Inv X pins σ H' s' ∧ VV ps vs ∧ Q ps H') X.xe s
theorem pps_nil {X : Cx} {pos : Pos} : PPs X pos [] [] [] := fun pins s σ H Q I h => pairTrees_nil_walk ⟨[], H, I, .nil, h⟩
theorem pps_cons {X : Cx} {pos : Pos} {k v : Expr} {ks : List (Option Expr)} {vs : List Expr} {tk tv : TE} {trs : List (TE × TE)} (hk : PE X k tk) (hv : PE X v tv) (hr : PPs X pos ks vs trs) :
    PPs X pos (some k :: ks) (v :: vs) ((tk, tv) :: trs) := fun pins s σ H Q I h =>
  pairTrees_cons_walk (thn (hk pins s σ H _ I h) fun u s1 ⟨x, H1, I1, rx, q1⟩ => thn (hv pins s1 σ H1 _ I1 q1) fun w2 s2 ⟨y, H2, I2, ry, q2⟩ =>
    thn (hr pins s2 σ H2 _ I2 q2) fun ws s3 ⟨ps, H3, I3, rel, q3⟩ => ⟨(x, y) :: ps, H3, I3, .cons ⟨rx, ry⟩ rel, q3⟩)

def mergeK (kvs more : List (Key × V)) : List (Key × V) := more.foldl (fun acc kv => putK acc kv.1 kv.2) kvs
theorem KV.merge : ∀ {more : List (Key × V)} {rs : List (Key × Value)} {kvs : List (Key × V)} {vs : List (Key × Value)}, KV more rs → KV kvs vs → KV (mergeK kvs more) (merged vs rs) := by
  intro more rs kvs vs r
  unfold KV at r
  induction r generalizing kvs vs with
  | nil => intro q; exact q
  | @cons p q ps qs h t ih =>
    intro r0
    have e : KV (putK kvs p.1 p.2) (stored vs q.1 q.2) := by
      have := r0.put p.1 h.2
      rw [← h.1]; exact this
    exact ih e
theorem length_mergeK : ∀ (more kvs : List (Key × V)), (mergeK kvs more).length ≤ kvs.length + more.length
  | [], kvs => by show kvs.length ≤ kvs.length + 0; omega
  | p :: r, kvs => by
    have h1 := length_mergeK r (putK kvs p.1 p.2)
    have h2 := length_putK kvs p.1 p.2
    show (mergeK (putK kvs p.1 p.2) r).length ≤ _
    rw [List.length_cons]; omega
theorem carries_of {P : Program} {w : World} : ∀ {kvs : List (Key × V)} {ws : List (Value × Value)}, VV (kvs.map fun kv => (kV kv.1, kv.2)) ws → ∃ rs, Carries (mixKind P w) ws rs ∧ KV kvs rs
  | [], _, r => by rw [List.map_nil] at r; cases r; exact ⟨[], True.intro, .nil⟩
  | p :: kvs, _, r => by
    rw [List.map_cons] at r
    cases r with
    | @cons a b as bs h t =>
      obtain ⟨rs, c, q⟩ := carries_of (P := P) (w := w) t
      obtain ⟨b1, b2⟩ := b
      exact ⟨(p.1, b2) :: rs, ⟨kV_is h.1, rfl, c⟩, .cons ⟨rfl, h.2⟩ q⟩
def tDisp (trs : List (TE × TE)) : TE := fun σ H Q => ∀ p, H p = none → tPairs trs σ (upd H p (.dK [])) fun ps H2 => H2 p = some (.dK []) ∧ ∃ kvs : List (Key × V), ps = kvs.map (fun kv => (kV kv.1, kv.2)) ∧ kvs.length ≤ 15 ∧ Q (.ref p) (upd H2 p (.dK (mergeK [] kvs)))
theorem pe_disp {X : Cx} {pos : Pos} {keys : List (Option Expr)} {values : List Expr} {trs : List (TE × TE)} (h : PPs X pos keys values trs) (hall : keys.all (·.isSome) = true) (hl : keys.length = values.length) (h0 : keys ≠ [])
    (h15 : keys.length ≤ 15) : PE X (.Dict keys values pos) (tDisp trs) := by
  intro pins s σ H Q I q
  have hn := I.hok.fresh (Nat.le_refl s.heap.objs.size)
  have I1 := I.laid (a := s.heap.objs.size) (o := .dK []) (h' := s.heap.push { cls := .type "dict", data := .dict #[] }) (t' := s.toks) (fun _ _ q => Heap.get?_push_of_some _ q) (Nat.le_refl _) (dk_empty s.heap I.big)
  refine wpAny_Dict_walk (knd := mixKind X.prog X.w) hall hl h0 h15 (thn (h pins _ σ _ _ I1 (q _ hn)) fun ws s2 ⟨ps, H2, I2, rel, e, kvs, ep, lk, q2⟩ => ?_)
  subst ep
  obtain ⟨rs, c, rk⟩ := carries_of (P := X.prog) (w := X.w) rel
  obtain ⟨z, hd, vs0, r0, dd⟩ := dk_of I2.hok e
  cases r0
  refine ⟨rs, c, dd, fun h' dd' hs => ⟨.ref s.heap.objs.size, _, ?_, rfl, q2⟩⟩
  have hz : (mergeK [] kvs).length ≤ sizeLine := by
    have h1 := length_mergeK kvs []
    rw [List.length_nil] at h1
    rw [sizeLine_eq]; omega
  have he : ∃ q, h'.get? s.heap.objs.size = some q := let ⟨q, _, _, hq, _⟩ := dd'; ⟨q, hq⟩
  exact d_write I2 (by rw [e]; exact True.intro) hs he (dk_new hz hd (rk.merge .nil) dd')






end L2


namespace HT
open PySem PyProof.Rows


section
variable {prog : Program} {w : World} {A : Around} {E : Value → Shared → Prop} {s : Shared}

def sIx (n d : Nat) : Option Int → Nat
  | none => d
  | some v => if v < 0 then (v + (n : Int)).toNat else min v.toNat n
theorem sIx_none (n d : Nat) : sIx n d none = d := rfl
theorem sIx_nat (n d k : Nat) : sIx n d (some (k : Int)) = min k n := by
  show (if (k : Int) < 0 then ((k : Int) + (n : Int)).toNat else min (k : Int).toNat n) = min k n
  rw [if_neg (by omega), Int.toNat_natCast]
end
end HT

namespace L2
open PySem PySem.Spec PyProof.Rows

abbrev TO := St → Hp → (Option Int → Hp → Prop) → Prop
def PO (X : Cx) (e : Option Expr) (t : TO) : Prop :=
  ∀ (pins : List (Addr × Obj)) (s : Shared) (σ : St) (H : Hp) (Q : Option Int → Hp → Prop), Inv X pins σ H s → t σ H Q →
    wpAny (model X.prog X.w) X.A (evalPart e X.env) (fun u s' => ∃ o H', Inv X pins σ H' s' ∧ IsPart u o ∧ Q o H') X.xe s
def tNoPart : TO := fun _ H Q => Q none H
def tPart (t : TE) : TO := fun σ H Q => t σ H fun x H1 => ∃ i, x = .int i ∧ Q (some i) H1

theorem intsAre_of {ns : List Int} : ∀ {us : List Value}, Vals (ns.map V.int) us → IntsAre us ns := by
  induction ns with
  | nil => intro us r; rw [List.map_nil] at r; cases r; exact .nil
  | cons n ns ih =>
    intro us r
    rw [List.map_cons] at r
    cases r with
    | cons r1 r2 =>
      obtain ⟨t, e⟩ := r1
      subst e
      exact .cons n t (ih r2)

section
variable {X : Cx} {e : Expr} {te : TE} {lo hi : Option Expr} {tl th : TO} {pos p2 : Pos}

theorem po_none : PO X none tNoPart := by
  intro pins s σ H Q I h
  rw [evalPart_none]
  exact wpAny_pure ⟨none, H, I, .none, h⟩
theorem po_some (h : PE X e te) : PO X (some e) (tPart te) := by
  intro pins s σ H Q I hw
  rw [evalPart_some]
  refine thn (h pins s σ H _ I hw) fun u s1 ⟨x, H1, I1, r1, q1⟩ => ?_
  obtain ⟨i, rfl, q⟩ := q1
  obtain ⟨t, rfl⟩ := r1
  exact ⟨some i, H1, I1, .int i t, q⟩

def SlR (X : Cx) (r : V → Option Int → Option Int → Hp → VK → Prop) : Prop :=
  ∀ (pins : List (Addr × Obj)) (s : Shared) (σ : St) (H : Hp) (x : V) (v vl vu : Value) (lo hi : Option Int) (sl : Addr) (Q : VK), Inv X pins σ H s → RelV x v → s.heap.IsSliceOf sl vl vu .none → IsPart vl lo → IsPart vu hi → r x lo hi H Q →
    ∃ T id, typeLookup (.type T) "__getitem__" = pure (some (.builtin id)) ∧ s.TypeIs v T ∧ wpAny (model X.prog X.w) X.A (getItem v (.ref sl)) (EP X pins σ Q) X.xe s
def tSl (r : V → Option Int → Option Int → Hp → VK → Prop) (te : TE) (tl th : TO) : TE := fun σ H Q => te σ H fun x H1 => tl σ H1 fun l H2 => th σ H2 fun u H3 => r x l u H3 Q
theorem pe_slice {r : V → Option Int → Option Int → Hp → VK → Prop} (hr : SlR X r) (he : PE X e te) (hl : PO X lo tl) (hu : PO X hi th) : PE X (.Subscript e (.Slice lo hi none p2) pos) (tSl r te tl th) := by
  intro pins s σ H Q I h
  refine Subscript_ (thn (he pins s σ H _ I h) fun v s1 ⟨x, H1, I1, r1, q1⟩ => ?_)
  refine wpAny_Slice (thn (hl pins s1 σ H1 _ I1 q1) fun vl s2 ⟨l, H2, I2, pl, q2⟩ => thn (hu pins s2 σ H2 _ I2 q2) fun vu s3 ⟨u, H3, I3, pu, q3⟩ => ?_)
  rw [evalPart_none]
  refine wpAny_pure ?_
  have I4 : Inv X pins σ H3 { s3 with heap := s3.heap.push { cls := .type "slice", data := .fields #[vl, vu, .none] } } := I3.kept (t' := s3.toks) fun b ob q => Heap.get?_push_of_some _ q
  obtain ⟨T, id, hT, ht, hg⟩ := hr pins { s3 with heap := s3.heap.push { cls := .type "slice", data := .fields #[vl, vu, .none] } } σ H3 x v vl vu l u s3.heap.objs.size Q I4 r1 (Heap.IsSliceOf.new ..) pl pu q3
  show wpAny (model X.prog X.w) X.A (subscriptTail e (.Slice lo hi none p2) v (.ref s3.heap.objs.size)) (EP X pins σ Q) X.xe { s3 with heap := s3.heap.push { cls := .type "slice", data := .fields #[vl, vu, .none] } }
  exact tail_any (ops := [.ref s3.heap.objs.size, v]) ht hT hg (by with_unfolding_all rfl)

def cutV (xs : List V) (lo hi : Option Int) : List V := (xs.drop (HT.sIx xs.length 0 lo)).take (HT.sIx xs.length xs.length hi - HT.sIx xs.length 0 lo)
theorem cutV_length (xs : List V) (lo hi : Option Int) : (cutV xs lo hi).length ≤ xs.length := by
  unfold cutV
  rw [List.length_take, List.length_drop]
  omega
end
end L2

namespace L2
open PySem PySem.Spec PyProof.Rows

def ixN (n : Nat) (i : Int) : Option Nat := if 0 ≤ i then (if i < n then some i.toNat else none) else if -(n : Int) ≤ i then some (i + n).toNat else none
def atI {α : Type} (xs : List α) (i : Int) : Option α := (ixN xs.length i).bind fun j => xs[j]?
theorem ixN_seq {n : Nat} {i : Int} {j : Nat} (h : ixN n i = some j) : seqIndex? i n = some j ∧ j < n ∧ -(n : Int) ≤ i ∧ i < n := by
  unfold ixN at h
  by_cases h0 : 0 ≤ i
  · rw [if_pos h0] at h
    by_cases h1 : i < n
    · rw [if_pos h1] at h
      have e : i.toNat = j := Option.some.inj h
      exact ⟨by rw [seqIndex_of h0 h1, e], by omega, by omega, h1⟩
    · rw [if_neg h1] at h; cases h
  · rw [if_neg h0] at h
    by_cases h1 : -(n : Int) ≤ i
    · rw [if_pos h1] at h
      have e : (i + n).toNat = j := Option.some.inj h
      exact ⟨by rw [seqIndex_neg (by omega) h1, e], by omega, h1, by omega⟩
    · rw [if_neg h1] at h; cases h
theorem atI_get {α : Type} {xs : List α} {i : Int} {v : α} (h : atI xs i = some v) : ∃ j, seqIndex? i xs.length = some j ∧ xs[j]? = some v ∧ j < xs.length ∧ -(xs.length : Int) ≤ i ∧ i < xs.length := by
  unfold atI at h
  cases e : ixN xs.length i with
  | none => rw [e] at h; cases h
  | some j =>
    rw [e] at h
    obtain ⟨h1, h2, h3, h4⟩ := ixN_seq e
    exact ⟨j, h1, h, h2, h3, h4⟩
theorem atI_nat {α : Type} {xs : List α} {j : Nat} {v : α} (h : xs[j]? = some v) : atI xs (j : Int) = some v := by
  have hj : j < xs.length := (List.getElem?_eq_some_iff.mp h).1
  have e : ixN xs.length (j : Int) = some j := by
    unfold ixN
    rw [if_pos (by omega), if_pos (by omega)]; simp
  unfold atI; rw [e]; exact h
theorem atI_last {α : Type} (xs : List α) (v : α) : atI (xs ++ [v]) (-1) = some v := by
  have hl : (xs ++ [v]).length = xs.length + 1 := by simp
  have e : ixN (xs ++ [v]).length (-1) = some xs.length := by
    unfold ixN
    rw [hl, if_neg (by decide), if_pos (by omega)]
    congr 1
    omega
  unfold atI
  rw [e]
  show (xs ++ [v])[xs.length]? = some v
  simp

def PlainIx (b : Expr) : Prop := ∀ o i, subscripted b false o i = operate [o, i] (getItem o i)
def IxR (X : Cx) (r : R2) : Prop :=
  ∀ (value slice : Expr) (pins : List (Addr × Obj)) (s : Shared) (σ : St) (H : Hp) (x y : V) (v u : Value) (Q : VK), Inv X pins σ H s → RelV x v → RelV y u → r x y H Q →
    subscripted slice false v u = operate [v, u] (getItem v u) → wpAny (model X.prog X.w) X.A (subscriptTail value slice v u) (EP X pins σ Q) X.xe s
def MtR (X : Cx) (id : String) (r : V → List V → Hp → VK → Prop) : Prop :=
  ∀ (pins : List (Addr × Obj)) (s : Shared) (σ : St) (H : Hp) (x : V) (xs : List V) (v : Value) (us : List Value) (Q : VK), Inv X pins σ H s → RelV x v → Vals xs us → r x xs H Q →
    wpAny (model X.prog X.w) X.A (call (.builtin id) (v :: us)) (EP X pins σ Q) X.xe s
section
variable {X : Cx} {a b : Expr} {ta tb : TE} {pos : Pos}
theorem pe_ix {r : R2} (hr : IxR X r) (ha : PE X a ta) (hb : PE X b tb) (hs : PlainIx b) : PE X (.Subscript a b pos) (tOp r ta tb) := by
  intro pins s σ H Q I h
  exact Subscript_ (binT ha hb I h fun v u s2 x y H2 I2 rx ry q => hr a b pins s2 σ H2 x y v u Q I2 rx ry q (hs _ _))

def rIxL (K : PySem.W.Frag) : R2 := fun x y H Q => ∃ p xs i v, x = .ref p ∧ y = .int i ∧ SqL K H p xs ∧ atI xs i = some v ∧ Q v H
def rIxT (K : PySem.W.Frag) : R2 := fun x y H Q => ∃ p xs i v, x = .ref p ∧ y = .int i ∧ SqT K H p xs ∧ atI xs i = some v ∧ Q v H
theorem ix_list : IxR X (rIxL X.K) := by
  intro value slice pins s σ H x y v u Q I rx ry h hs
  obtain ⟨p, xs, i, z, rfl, rfl, hq, he, q⟩ := h
  cases rx
  obtain ⟨t, rfl⟩ := ry
  obtain ⟨its, r, pl, hz⟩ := I.list hq
  obtain ⟨j, h1, h2, h3, h4, h5⟩ := atI_get he
  obtain ⟨w, ew, rw'⟩ := r.get h2
  have hl := r.length
  have hn := line63
  have fin : EP X pins σ Q w s := ⟨z, H, I, rw', q⟩
  by_cases h0 : 0 ≤ i
  · have hj : i.toNat = j := by
      rw [seqIndex_of h0 h5] at h1
      exact Option.some.inj h1
    exact item_listR pl.isList h0 (by omega) (by rw [hj]; simpa using ew) fin hs
  · have hj : (i + (its.toArray.size : Int)).toNat = j := by
      rw [seqIndex_neg (by omega) h4] at h1
      rw [List.size_toArray, ← hl]
      exact Option.some.inj h1
    exact subscriptTail_builtinR (x := w) pl.isList.typeIs slot_list_getitem.lookup
      (wpAny_getItem_list_neg (Q := fun r s' => r = w ∧ EP X pins σ Q r s') pl.isList (by omega) (by rw [List.size_toArray] <;> omega) (by omega) (by rw [hj]; simpa using ew) ⟨rfl, fin⟩) hs
theorem ix_tup : IxR X (rIxT X.K) := by
  intro value slice pins s σ H x y v u Q I rx ry h hs
  obtain ⟨p, xs, i, z, rfl, rfl, hq, he, q⟩ := h
  cases rx
  obtain ⟨t, rfl⟩ := ry
  obtain ⟨its, r, pl, hz⟩ := I.tuple hq
  obtain ⟨j, h1, h2, h3, h4, h5⟩ := atI_get he
  obtain ⟨w, ew, rw'⟩ := r.get h2
  have hl := r.length
  have hn := line63
  have fin : EP X pins σ Q w s := ⟨z, H, I, rw', q⟩
  exact subscriptTail_builtinR (x := w) pl.typeIs slot_tuple_getitem.lookup
    (getItem_tuple (j := j) (Q := fun r s' => r = w ∧ EP X pins σ Q r s') pl (by omega) (by omega) (by rw [List.size_toArray, ← hl]; exact h1) (by simpa using ew) ⟨rfl, fin⟩) hs
theorem mapSeq_set (its : List Value) (n j : Nat) (u : Value) : Obj.mapSeq (·.setIfInBounds j u) { cls := .type "list", data := .seq its.toArray n } = { cls := .type "list", data := .seq (its.set j u).toArray n } := by
  simp [Obj.mapSeq]
theorem Inv.lst {pins : List (Addr × Obj)} {σ : St} {H : Hp} {s : Shared} {p : Addr} {xs : List V} (I : Inv X pins σ H s) (h : H p = some (.lst xs)) :
    ∃ (its : List Value) (n : Nat), Vals xs its ∧ s.heap.get? p = some { cls := .type "list", data := .seq its.toArray n } ∧ xs.length ≤ sizeLine := by
  obtain ⟨z, its, n, r, e⟩ := I.hok p _ h
  exact ⟨its, n, r, e, z⟩
theorem Inv.lstUpd {pins : List (Addr × Obj)} {σ : St} {H : Hp} {s : Shared} {p : Addr} {xs ys : List V} {its its' : List Value} {n n' : Nat} {f : Obj → Obj} (I : Inv X pins σ H s) (h : H p = some (.lst xs))
    (ho : s.heap.get? p = some { cls := .type "list", data := .seq its.toArray n }) (hf : f { cls := .type "list", data := .seq its.toArray n } = { cls := .type "list", data := .seq its'.toArray n' }) (r : Vals ys its') (hz : ys.length ≤ sizeLine) (t : Nat) :
    Inv X pins σ (upd H p (.lst ys)) { s with heap := s.heap.update p f, toks := t } := by
  have e : (s.heap.update p f).get? p = some { cls := .type "list", data := .seq its'.toArray n' } := by
    rw [Heap.get?_update_self f ho (by rw [hf] <;> rfl), hf]
  refine I.write (x := p) (e := p) (by rw [h]; trivial) (.inl rfl) (fun b u hb q => (Heap.get?_update_other _ _ (Ne.symm hb)).trans q) ⟨_, e⟩ ?_
  exact ⟨hz, its', n', r, e⟩
def rSetL : V → V → V → Hp → (Hp → Prop) → Prop := fun o i v H Q => ∃ p xs k j, o = .ref p ∧ i = .int k ∧ H p = some (.lst xs) ∧ ixN xs.length k = some j ∧ Q (upd H p (.lst (xs.set j v)))
theorem set_list : PSet X rSetL := by
  intro pins s σ H o i v ov iv u Q I ro ri rv h
  obtain ⟨p, xs, k, j, rfl, rfl, hp, hj, q⟩ := h
  cases ro
  obtain ⟨t, rfl⟩ := ri
  obtain ⟨its, n, r, ho, hz⟩ := I.lst hp
  obtain ⟨h1, h2, h3, h4⟩ := ixN_seq hj
  have hl := r.length
  have hn := line63
  have I' : Inv X pins σ (upd H p (.lst (xs.set j v))) { s with heap := s.heap.update p (Obj.mapSeq (·.setIfInBounds j u)) } :=
    I.lstUpd hp ho (mapSeq_set its n j u) (r.set rv j) (by rw [List.length_set]; exact hz) s.toks
  by_cases h0 : 0 ≤ k
  · have hk : k.toNat = j := by
      rw [seqIndex_of h0 h4] at h1
      exact Option.some.inj h1
    exact PySem.W.ki_setAt ho h0 (by omega) (by rw [List.size_toArray, ← hl]; exact h4) (by rw [hk]; exact ⟨_, I', q⟩)
  · have hk : (k + (its.toArray.size : Int)).toNat = j := by
      rw [seqIndex_neg (by omega) h3] at h1
      rw [List.size_toArray, ← hl]
      exact Option.some.inj h1
    exact PySem.W.ki_setBack ho (by omega) (by rw [List.size_toArray, ← hl]; exact h3) (by omega) (by rw [hk]; exact ⟨_, I', q⟩)

theorem slice_bounds (lo hi : Option Int) (n : Nat) : (sliceBounds lo hi none n).1 = ((HT.sIx n 0 lo : Nat) : Int) ∧ (sliceBounds lo hi none n).2.1 = ((HT.sIx n n hi : Nat) : Int) ∧ (sliceBounds lo hi none n).2.2 = 1 := by
  refine ⟨?_, ?_, rfl⟩
  · cases lo with
    | none => simp [sliceBounds, HT.sIx]
    | some i =>
      simp only [sliceBounds, HT.sIx, Option.getD_none, show (1 : Int) > 0 by decide, if_true]
      by_cases h : i < 0
      · simp only [h, if_true] <;> omega
      · simp only [h, if_false] <;> omega
  · cases hi with
    | none => simp [sliceBounds, HT.sIx]
    | some i =>
      simp only [sliceBounds, HT.sIx, Option.getD_none, show (1 : Int) > 0 by decide, if_true]
      by_cases h : i < 0
      · simp only [h, if_true] <;> omega
      · simp only [h, if_false] <;> omega
theorem slicePick_cut (its : List Value) (lo hi : Option Int) : slicePick its.toArray lo hi none = ((its.drop (HT.sIx its.length 0 lo)).take (HT.sIx its.length its.length hi - HT.sIx its.length 0 lo)).toArray := by
  obtain ⟨h1, h2, h3⟩ := slice_bounds lo hi its.toArray.size
  unfold slicePick
  rw [h1, h2, h3]
  simp only [sliceRange_one, pick_run, List.size_toArray] <;> rfl
def rSlL (K : PySem.W.Frag) : V → Option Int → Option Int → Hp → VK → Prop := fun x lo hi H Q => ∃ a xs, x = .ref a ∧ SqL K H a xs ∧ ∀ p, H p = none → Q (.ref p) (upd H p (.lst (cutV xs lo hi)))
theorem sl_list : SlR X (rSlL X.K) := by
  intro pins s σ H x v vl vu lo hi sl Q I rx hs pl pu h
  obtain ⟨a, xs, rfl, hx, q⟩ := h
  cases rx
  obtain ⟨its, r, ht, hz⟩ := I.list hx
  have hlen := r.length
  refine ⟨"list", _, slot_list_getitem.lookup, ht.isList.typeIs, ?_⟩
  refine wpAny_getItem_list_slice ht.isList hs pl pu .none (by simp) ?_ (by rw [List.size_toArray] <;> omega)
  rw [slicePick_cut, ← hlen]
  refine ⟨.ref s.heap.objs.size, _, I.laid (t' := s.toks) (o := .lst (cutV xs lo hi)) (fun b ob q => Heap.get?_push_of_some _ q) (Nat.le_refl _) ?_, rfl, q _ (I.hok.fresh (Nat.le_refl _))⟩
  exact ⟨Nat.le_trans (cutV_length xs lo hi) hz, _, 0, (r.drop (HT.sIx xs.length 0 lo)).take (HT.sIx xs.length xs.length hi - HT.sIx xs.length 0 lo), Heap.get?_push_size _ rfl⟩

def flatV : V → Bool
  | .non => true
  | .bl _ => true
  | .int _ => true
  | .str _ => true
  | _ => false
def eqV : V → V → Bool
  | .non, .non => true
  | .bl a, .bl b => a == b
  | .bl a, .int b => (if a then 1 else 0) == b
  | .int a, .bl b => a == (if b then 1 else 0)
  | .int a, .int b => a == b
  | .str a, .str b => a == b
  | _, _ => false
theorem eqAt_V {A : Around} {s : Shared} {y x : V} {u v : Value} (ry : RelV y u) (rx : RelV x v) (fy : flatV y = true) (fx : flatV x = true) : SeqAt.EqAt A s u v (eqV y x) := by
  cases y with
  | non =>
    cases ry
    cases x with
    | non => cases rx; exact SeqAt.EqAt.same _
    | bl b => cases rx; exact SeqAt.EqAt.none_bool b
    | int b => obtain ⟨t, rfl⟩ := rx; exact SeqAt.EqAt.none_int b t
    | str b => obtain ⟨t, rfl⟩ := rx; exact SeqAt.EqAt.none_str b t
    | _ => exact absurd (show false = true from fx) Bool.false_ne_true
  | bl a =>
    cases ry
    cases x with
    | non => cases rx; exact SeqAt.EqAt.bool_none a
    | bl b => cases rx; exact SeqAt.EqAt.bool_bool a b
    | int b => obtain ⟨t, rfl⟩ := rx; exact SeqAt.EqAt.bool_int a b t
    | str b => obtain ⟨t, rfl⟩ := rx; exact SeqAt.EqAt.bool_str a b t
    | _ => exact absurd (show false = true from fx) Bool.false_ne_true
  | int a =>
    obtain ⟨t', rfl⟩ := ry
    cases x with
    | non => cases rx; exact SeqAt.EqAt.int_none a t'
    | bl b => cases rx; exact SeqAt.EqAt.int_bool a t' b
    | int b => obtain ⟨t, rfl⟩ := rx; exact SeqAt.EqAt.int_int a t' b t
    | str b => obtain ⟨t, rfl⟩ := rx; exact SeqAt.EqAt.int_str a t' b t
    | _ => exact absurd (show false = true from fx) Bool.false_ne_true
  | str a =>
    obtain ⟨t', rfl⟩ := ry
    cases x with
    | non => cases rx; exact SeqAt.EqAt.str_none a t'
    | bl b => cases rx; exact SeqAt.EqAt.str_bool a t' b
    | int b => obtain ⟨t, rfl⟩ := rx; exact SeqAt.EqAt.str_int a t' b t
    | str b => obtain ⟨t, rfl⟩ := rx; exact SeqAt.EqAt.str_str a t' b t
    | _ => exact absurd (show false = true from fx) Bool.false_ne_true
  | _ => exact absurd (show false = true from fy) Bool.false_ne_true
def eqU (x : V) (u : Value) : Bool := match u with
  | .none => eqV .non x
  | .bool b => eqV (.bl b) x
  | .int i _ => eqV (.int i) x
  | .str z _ => eqV (.str z) x
  | _ => false
theorem eqU_of {x y : V} {u : Value} (r : RelV y u) (f : flatV y = true) : eqU x u = eqV y x := by
  cases y with
  | non => cases r; rfl
  | bl b => cases r; rfl
  | int i => obtain ⟨t, rfl⟩ := r; rfl
  | str z => obtain ⟨t, rfl⟩ := r; rfl
  | _ => exact absurd (show false = true from f) Bool.false_ne_true
theorem any_eqU {x : V} : ∀ {xs : List V} {us : List Value}, Vals xs us → xs.all flatV = true → us.any (eqU x) = xs.any fun y => eqV y x
  | _, _, .nil, _ => rfl
  | y :: xs, u :: us, .cons r t, f => by
    rw [List.all_cons, Bool.and_eq_true] at f
    rw [List.any_cons, List.any_cons, eqU_of r f.1, any_eqU t f.2]
theorem mem_eqAt {A : Around} {s : Shared} {x : V} {v : Value} (rx : RelV x v) (fx : flatV x = true) : ∀ {xs : List V} {us : List Value}, Vals xs us → xs.all flatV = true → ∀ u ∈ us, SeqAt.EqAt A s u v (eqU x u)
  | _, _, .nil, _ => fun u hu => by cases hu
  | y :: xs, u :: us, .cons r t, f => fun u' hu => by
    rw [List.all_cons, Bool.and_eq_true] at f
    rcases List.mem_cons.mp hu with rfl | hu
    · rw [eqU_of r f.1]; exact eqAt_V r rx f.1 fx
    · exact mem_eqAt rx fx t f.2 u' hu
def inV (x : V) (xs : List V) : Bool := xs.any fun y => eqV y x
def rIn (K : PySem.W.Frag) (neg : Bool) : R2 := fun x y H Q => ∃ p xs, y = .ref p ∧ (SqL K H p xs ∨ SqT K H p xs) ∧ flatV x = true ∧ xs.all flatV = true ∧ Q (.bl (if neg then !inV x xs else inV x xs)) H
theorem op_in_seq : OpR X (compareOp .In) (rIn X.K false) := by
  intro pins s σ H x y v u Q I rx ry h
  obtain ⟨p, xs, rfl, hq, fx, fs, q⟩ := h
  cases ry
  rcases hq with hq | hq
  · obtain ⟨its, r, pl, hz⟩ := I.list hq
    refine SeqAt.in_listAt (eqU x) pl.isList (fun w hw => mem_eqAt rx fx r fs w (by simpa using hw)) ⟨.bl _, H, I, rfl, ?_⟩
    rw [show its.toArray.any (eqU x) = its.any (eqU x) by simp, any_eqU r fs]
    exact q
  · obtain ⟨its, r, pl, hz⟩ := I.tuple hq
    refine SeqAt.in_tupleAt (eqU x) pl (fun w hw => mem_eqAt rx fx r fs w (by simpa using hw)) ⟨.bl _, H, I, rfl, ?_⟩
    rw [show its.toArray.any (eqU x) = its.any (eqU x) by simp, any_eqU r fs]
    exact q
theorem op_notIn_seq : OpR X (compareOp .NotIn) (rIn X.K true) := by
  intro pins s σ H x y v u Q I rx ry h
  obtain ⟨p, xs, rfl, hq, fx, fs, q⟩ := h
  cases ry
  rcases hq with hq | hq
  · obtain ⟨its, r, pl, hz⟩ := I.list hq
    refine SeqAt.notIn_listAt (eqU x) pl.isList (fun w hw => mem_eqAt rx fx r fs w (by simpa using hw)) ⟨.bl _, H, I, rfl, ?_⟩
    rw [show its.toArray.any (eqU x) = its.any (eqU x) by simp, any_eqU r fs]
    exact q
  · obtain ⟨its, r, pl, hz⟩ := I.tuple hq
    refine SeqAt.notIn_tupleAt (eqU x) pl (fun w hw => mem_eqAt rx fx r fs w (by simpa using hw)) ⟨.bl _, H, I, rfl, ?_⟩
    rw [show its.toArray.any (eqU x) = its.any (eqU x) by simp, any_eqU r fs]
    exact q
theorem call_len_seq : CallR X (.builtin "len") (fun xs H Q => ∃ p ys, xs = [.ref p] ∧ (SqL X.K H p ys ∨ SqT X.K H p ys) ∧ Q (.int ys.length) H) := by
  intro pins s σ H xs us Q I r h
  obtain ⟨p, ys, rfl, hq, q⟩ := h
  obtain ⟨u, rfl, rx⟩ := vals1 r
  cases rx
  have hn := line63
  rcases hq with hq | hq
  · obtain ⟨its, r', pl, hz⟩ := I.list hq
    have hlen := r'.length
    exact Calls.call_len_list pl.isList (by simp only [List.size_toArray] <;> omega) ⟨.int ys.length, H, I.tok _, ⟨s.toks + 1, by rw [List.size_toArray, hlen]⟩, q⟩
  · obtain ⟨its, r', pl, hz⟩ := I.tuple hq
    have hlen := r'.length
    exact len_tuple pl (by simp only [List.size_toArray] <;> omega) ⟨.int ys.length, H, I.tok _, ⟨s.toks + 1, by rw [List.size_toArray, hlen]⟩, q⟩
theorem call_list_of : CallR X (.type "list") (fun xs H Q => ∃ p ys, xs = [.ref p] ∧ (SqL X.K H p ys ∨ SqT X.K H p ys) ∧ ∀ l, H l = none → Q (.ref l) (upd H l (.lst ys))) := by
  intro pins s σ H xs us Q I r h
  obtain ⟨p, ys, rfl, hq, q⟩ := h
  obtain ⟨u, rfl, rx⟩ := vals1 r
  cases rx
  have fin : ∀ (its : List Value), Vals ys its → ys.length ≤ sizeLine → ∀ (h' : Heap) (c' : Nat), (∀ b o', s.heap.get? b = some o' → h'.get? b = some o') →
      h'.get? s.heap.objs.size = some { cls := .type "list", dict := none, data := .seq its.toArray c', slots := #[] } → EP X pins σ Q (.ref s.heap.objs.size) { s with heap := h' } := fun its r' hz h' c' kp e =>
    ⟨.ref s.heap.objs.size, _, I.laid (t' := s.toks) kp (Nat.le_refl _) (show ObjOk X.prog X.w _ h' _ (.lst ys) from ⟨hz, its, c', r', e⟩), rfl, q _ (I.hok.fresh (Nat.le_refl _))⟩
  rcases hq with hq | hq
  · obtain ⟨its, r', pl, hz⟩ := I.list hq
    have hlen := r'.length
    obtain ⟨o, ho, hc, n, hd⟩ := pl.isList
    exact call_list_seq p (.inl rfl) ho hc hd (fun h' c' kp e => fin its r' hz h' c' kp e) (by simp only [List.size_toArray] <;> omega)
  · obtain ⟨its, r', pl, hz⟩ := I.tuple hq
    have hlen := r'.length
    obtain ⟨o, ho, hc, n, hd⟩ := pl
    exact call_list_seq p (.inr rfl) ho hc hd (fun h' c' kp e => fin its r' hz h' c' kp e) (by simp only [List.size_toArray] <;> omega)
theorem call_tuple_of : CallR X (.type "tuple") (fun xs H Q => ∃ p ys, xs = [.ref p] ∧ ((SqL X.K H p ys ∧ ∀ l, H l = none → Q (.ref l) (upd H l (.tup ys))) ∨ (SqT X.K H p ys ∧ Q (.ref p) H))) := by
  intro pins s σ H xs us Q I r h
  obtain ⟨p, ys, rfl, h⟩ := h
  obtain ⟨u, rfl, rx⟩ := vals1 r
  cases rx
  rcases h with ⟨hq, q⟩ | ⟨hq, q⟩
  · obtain ⟨its, r', pl, hz⟩ := I.list hq
    have hlen := r'.length
    refine call_tuple_list pl.isList (fun h' kp => ?_) (by simp only [List.size_toArray] <;> omega)
    have I1 : Inv X pins σ H { s with heap := h' } := I.kept (t' := s.toks) kp
    have I2 : Inv X pins σ (upd H h'.objs.size (.tup ys)) { s with heap := h'.push { cls := .type "tuple", data := .seq its.toArray } } :=
      I1.laid (t' := s.toks) (fun b o e => Heap.get?_push_of_some _ e) (Nat.le_refl _) (show ObjOk X.prog X.w _ _ _ (.tup ys) from ⟨hz, its, r', IsTup.new _ _⟩)
    exact ⟨.ref h'.objs.size, _, I2, rfl, q _ (I1.hok.fresh (Nat.le_refl _))⟩
  · obtain ⟨its, r', pl, hz⟩ := I.tuple hq
    exact call_tuple_same pl ⟨.ref p, H, I, rfl, q⟩

def tyV (K : PySem.W.Frag) (T : String) (x : V) (H : Hp) : Prop := match x with
  | .str _ => T = "str"
  | .int _ => T = "int"
  | .ref p => (T = "list" ∧ ∃ xs, SqL K H p xs) ∨ (T = "tuple" ∧ ∃ o, K.lookup p = some o ∧ o.cls = .type "tuple" ∧ o.dict = none) ∨
      (T = "dict" ∧ ((∃ kvs, H p = some (.dK kvs)) ∨ ∃ kvs, H p = some (.dT kvs))) ∨ (T = "set" ∧ ∃ S n, H p = some (.set S n))
  | _ => False
theorem tyV_is {pins : List (Addr × Obj)} {σ : St} {H : Hp} {s : Shared} {T : String} {x : V} {v : Value} (I : Inv X pins σ H s) (r : RelV x v) (ty : tyV X.K T x H) :
    s.TypeIs v T ∧ ∀ a, v = .ref a → ∃ ob, s.heap.get? a = some ob ∧ ob.dict = none := by
  cases x with
  | str z =>
    obtain ⟨t, rfl⟩ := r
    cases (show T = "str" from ty)
    exact ⟨typeIs_str s z t, fun _ e => nomatch e⟩
  | int i =>
    obtain ⟨t, rfl⟩ := r
    cases (show T = "int" from ty)
    exact ⟨typeIs_int s i t, fun _ e => nomatch e⟩
  | ref p =>
    cases r
    rcases ty with ⟨rfl, xs, hq⟩ | ⟨rfl, o, hk, hc, hd⟩ | ⟨rfl, hk⟩ | ⟨rfl, S, n, hk⟩
    · obtain ⟨its, _, pl, _⟩ := I.list hq
      refine ⟨pl.isList.typeIs, fun a e => ?_⟩
      cases e
      obtain ⟨o, n, e, c, hd, _⟩ := pl
      exact ⟨o, e, hd⟩
    · refine ⟨⟨o, I.kIn p o hk, hc⟩, fun a e => ?_⟩
      cases e
      exact ⟨o, I.kIn _ o hk, hd⟩
    · have z : ∃ o, s.heap.get? p = some o ∧ o.ExactDict := by
        rcases hk with ⟨kvs, hk⟩ | ⟨kvs, hk⟩
        · obtain ⟨_, _, _, _, o, _, _, e, ex, _⟩ := I.hok p _ hk
          exact ⟨o, e, ex⟩
        · obtain ⟨_, _, _, _, o, _, _, e, ex, _⟩ := I.hok p _ hk
          exact ⟨o, e, ex⟩
      obtain ⟨o, e, ex⟩ := z
      refine ⟨⟨o, e, ex.1⟩, fun a e2 => ?_⟩
      cases e2
      exact ⟨o, e, ex.2.1⟩
    · obtain ⟨o, _, _, _, e, ex, _⟩ := I.hok p _ hk
      refine ⟨⟨o, e, ex.1⟩, fun a e2 => ?_⟩
      cases e2
      exact ⟨o, e, ex.2.1⟩
  | _ => exact False.elim ty
def tBM (K : PySem.W.Frag) (T : String) (r : V → List V → Hp → VK → Prop) (to : TE) (t : TA) : TE := fun σ H Q => to σ H fun x H1 => tyV K T x H1 ∧ t σ H1 fun xs H2 => r x xs H2 Q
variable {o e : Expr} {es : List Expr} {to : TE} {t : TA} {name : Str} {apos cpos : Pos} {T id : String} {r : V → List V → Hp → VK → Prop}
theorem pe_bm (pa : PlainAttrs T) (slot : Slot T name id) (hty : typeOf (.builtin id) = pure (.type "method_descriptor")) (hm : MtR X id r) (ho : PE X o to) (ha : PA X (e :: es) t)
    (hbase : attributeBase o name X.env (eval o X.env) = eval o X.env := by rfl)
    (hfew : ((backTo cpos (starEach (e :: es) X.env)).all (fun x => !x.1) && (backToKw cpos (keywordEach [] X.env)).all (fun x => x.1.isSome)
      && decide ((e :: es).length + ([] : List Keyword).length + (if ([] : List Keyword).isEmpty then 0 else 1) < 30)) = true := by rfl)
    (hline : (apos.endLine == cpos.line) = true := by rfl) (hs : starEach (e :: es) X.env = (false, eval e X.env) :: starEach es X.env := by rfl) (hplain : (backTo cpos (starEach es X.env)).any (·.1) = false := by rfl) :
    PE X (.Call (.Attribute o name apos) (e :: es) [] cpos) (tBM X.K T r to t) := by
  intro pins s σ H Q I h
  refine wpAny_Call_method_late hbase hfew hline rfl (thn (ho pins s σ H _ I h) fun v s1 ⟨x, H1, I1, r1, ty, q1⟩ => ?_)
  obtain ⟨h1, h2⟩ := tyV_is I1 r1 ty
  refine ⟨T, id, pa, slot, hty, h1, h2, ?_⟩
  have hA := ha cpos pins s1 σ H1 _ I1 q1
  rw [hs] at hA ⊢
  refine Calls.callWith_builtin (by show (false || (backTo cpos (starEach es X.env)).any (·.1)) = false; rw [hplain] <;> rfl) (Calls.evalArgs_plain ?_)
  exact thn hA fun us s2 ⟨vs, H2, I2, r2, q2⟩ => hm pins s2 σ H2 x vs v us Q I2 r1 r2 q2
/- xs.append(e), list.index on a module's tuple .. are MtR facts of 06m -/
end
end L2

namespace L2
open PySem PySem.Spec PyProof.Rows

def MtM (X : Cx) (id : String) (r : V → List V → Hp → VK → Prop) : Prop :=
  ∀ (pins : List (Addr × Obj)) (s : Shared) (σ : St) (H : Hp) (x : V) (xs : List V) (v : Value) (us : List Value) (Q : VK), Inv X pins σ H s → RelV x v → Vals xs us → r x xs H Q →
    wpAny (model X.prog X.w) X.A (call (.builtin id) (v :: us)) (EP X pins σ Q) X.xe s

theorem Vals.one : ∀ {x : V} {us : List Value}, Vals [x] us → ∃ u, us = [u] ∧ RelV x u
  | _, _, .cons r .nil => ⟨_, rfl, r⟩
theorem Vals.two : ∀ {x y : V} {us : List Value}, Vals [x, y] us → ∃ u v, us = [u, v] ∧ RelV x u ∧ RelV y v
  | _, _, _, .cons r (.cons q .nil) => ⟨_, _, rfl, r, q⟩
theorem Vals.eraseIdx : ∀ {xs : List V} {us : List Value} (i : Nat), Vals xs us → Vals (xs.eraseIdx i) (us.eraseIdx i)
  | _, _, _, .nil => .nil
  | _, _, 0, .cons _ t => t
  | _, _, i + 1, .cons r t => .cons r (Vals.eraseIdx i t)
theorem len_erase {α : Type} : ∀ (l : List α) (i : Nat), (l.eraseIdx i).length ≤ l.length
  | [], _ => Nat.le_refl _
  | _ :: _, 0 => Nat.le_succ _
  | _ :: r, i + 1 => Nat.succ_le_succ (len_erase r i)
section
variable {X : Cx} {pins : List (Addr × Obj)} {σ : St} {H : Hp} {s : Shared} {l b : Addr} {xs ys zs : List V}

theorem Inv.lset {its its' : List Value} {n : Nat} {f : Array Value → Array Value} {t' : Nat} (I : Inv X pins σ H s) (hH : H l = some (.lst xs))
    (e : s.heap.get? l = some { cls := .type "list", data := .seq its.toArray n }) (hf : f its.toArray = its'.toArray) (hv : Vals ys its') (hz : ys.length ≤ sizeLine) :
    Inv X pins σ (upd H l (.lst ys)) { s with heap := s.heap.update l (Obj.mapSeq f), toks := t' } := by
  have q := PySem.IsL.update e f
  rw [hf] at q
  refine I.write (x := l) (e := l) (by rw [hH]; exact trivial) (.inl rfl) (fun b' u hb hu => (Heap.get?_update_other s.heap (Obj.mapSeq f) (Ne.symm hb)).trans hu) ⟨_, q⟩ ?_
  exact ⟨hz, its', _, hv, q⟩
theorem Inv.lnew {its : List Value} {t' : Nat} (I : Inv X pins σ H s) (hv : Vals ys its) (hz : ys.length ≤ sizeLine) :
    Inv X pins σ (upd H s.heap.objs.size (.lst ys)) { s with heap := s.heap.push { cls := .type "list", data := .seq its.toArray }, toks := t' } :=
  I.laid (fun _ _ q => Heap.get?_push_of_some _ q) (Nat.le_refl _) ⟨hz, its, 0, hv, Heap.get?_push_size _ rfl⟩
theorem Inv.fresh (I : Inv X pins σ H s) : H s.heap.objs.size = none := I.hok.fresh (Nat.le_refl _)
theorem Inv.lstM (I : Inv X pins σ H s) (hH : H l = some (.lst xs)) : xs.length ≤ sizeLine ∧ ∃ (its : List Value) (n : Nat), Vals xs its ∧ xs.length = its.length ∧ s.heap.get? l = some { cls := .type "list", data := .seq its.toArray n } := by
  obtain ⟨z, its, n, r, e⟩ := I.hok l _ hH
  exact ⟨z, its, n, r, r.length, e⟩

end

section
variable {X : Cx}

def rAppend : V → List V → Hp → VK → Prop := fun x vs H Q => ∃ l xs y, x = .ref l ∧ vs = [y] ∧ H l = some (.lst xs) ∧ xs.length < sizeLine ∧ Q .non (upd H l (.lst (xs ++ [y])))
theorem mt_append : MtM X "list.append" rAppend := by
  intro pins s σ H x vs v us Q I rx rv h
  obtain ⟨l, xs, y, rfl, rfl, hH, hz, q⟩ := h
  cases rx
  obtain ⟨u, rfl, ru⟩ := rv.one
  obtain ⟨z, its, n, r, hl, e⟩ := I.lstM hH
  refine call_meets F.slot_list_append ⟨_, e, rfl⟩ F.entry_list_append (F.args_list_append_2 _ _) (PySem.list_append l its.toArray n u (by rw [List.size_toArray]; omega)) ⟨e, ?_⟩
  refine ⟨.non, _, I.lset (its' := its ++ [u]) hH e (by simp) (r.append (.cons ru .nil)) ?_, rfl, q⟩
  rw [List.length_append, List.length_singleton]
  omega

def rPopAt : V → List V → Hp → VK → Prop := fun x vs H Q => ∃ l xs i k y, x = .ref l ∧ vs = [.int i] ∧ H l = some (.lst xs) ∧ -(2 ^ 63) ≤ i ∧ i < 2 ^ 63 ∧ seqIndex? i xs.length = some k ∧ xs[k]? = some y ∧ Q y (upd H l (.lst (xs.eraseIdx k)))
theorem mt_popAt : MtM X "list.pop" rPopAt := by
  intro pins s σ H x vs v us Q I rx rv h
  obtain ⟨l, xs, i, k, y, rfl, rfl, hH, h1, h2, hk, hy, q⟩ := h
  cases rx
  obtain ⟨u, rfl, ru⟩ := rv.one
  obtain ⟨t, rfl⟩ := ru
  obtain ⟨z, its, n, r, hl, e⟩ := I.lstM hH
  obtain ⟨w, hw, rw'⟩ := r.get hy
  refine call_meets F.slot_list_pop ⟨_, e, rfl⟩ F.entry_list_pop (F.args_list_pop_2 _ _)
    (MeetsSeq.list_pop_at l its.toArray n i t k w (fitsIndex_both h1 h2) (by rw [List.size_toArray, ← hl]; exact hk) (by rw [← Array.getElem?_toList]; exact hw) (by rw [List.size_toArray]; omega)) ⟨e, ?_⟩
  refine ⟨y, _, I.lset (its' := its.eraseIdx k) hH e ?_ (r.eraseIdx k) ?_, rw', q⟩
  · show its.toArray.eraseIdxIfInBounds k = (its.eraseIdx k).toArray
    rw [List.eraseIdxIfInBounds_toArray]
  · have := len_erase xs k
    omega

def rCat : R2 := fun x y H Q => ∃ l b xs zs, x = .ref l ∧ y = .ref b ∧ H l = some (.lst xs) ∧ H b = some (.lst zs) ∧ xs.length + zs.length ≤ sizeLine ∧ ∀ p, H p = none → Q (.ref p) (upd H p (.lst (xs ++ zs)))
theorem op_cat : OpR X (binaryOp .Add) rCat := by
  intro pins s σ H x y v u Q I rx ry h
  obtain ⟨l, b, xs, zs, rfl, rfl, hH, hB, hz, q⟩ := h
  cases rx
  cases ry
  obtain ⟨z, its, n, r, hl, e⟩ := I.lstM hH
  obtain ⟨z2, its2, n2, r2, hl2, e2⟩ := I.lstM hB
  refine PySem.P.add_list e e2 ?_ (by rw [List.size_toArray, List.size_toArray]; omega)
  have ea : its.toArray ++ its2.toArray = (its ++ its2).toArray := by simp
  rw [ea]
  exact ⟨.ref _, _, I.lnew (t' := s.toks) (r.append r2) (by rw [List.length_append]; omega), rfl, q _ I.fresh⟩
end


end L2

namespace Att
open PySem PySem.W PySem.Calls PyProof.Rows

theorem ints_of_wellAll {P : Params} {h : Heap} : ∀ (ns : List Int) (vs : List Value), WellAll P h vs (ns.map WData.int) → IntsAre vs ns := by
  intro ns
  induction ns with
  | nil =>
    intro vs w
    rw [List.map_nil] at w
    cases w
    exact .nil
  | cons n ns ih =>
    intro vs w
    rw [List.map_cons] at w
    cases w with
    | cons a b =>
      cases a
      exact .cons _ _ (ih _ b)

theorem script_of {l : OpenLaw} {n : Nat} (hn : l.most = some n) {P : Params} {h : Heap} {args : List WData} {vals : List Value}
    (hpre : l.row.toRowW.claim.pre args = true) (hwl : WellAll P h vals args) :
    ∃ a vs ns, vals = [Value.ref a] ∧ args = [WData.list (ns.map WData.int)] ∧ h.get? a = some { cls := .type "list", data := .seq vs.toArray } ∧ IntsAre vs ns ∧ ns.length ≤ n := by
  have hsh : WShape.hasAll [] args [.list .int] = true := (pre_splitW hpre).1
  have hc : l.pre.holds [] { args := args } = true := (pre_splitW hpre).2
  obtain ⟨d, r, rfl, h1, h2⟩ := hasAllW_cons hsh
  obtain rfl := hasAllW_nil h2
  obtain ⟨xs, rfl, h3⟩ := hasW_list h1
  obtain ⟨ns, rfl⟩ := items_int h3
  have hlen : ns.length ≤ n := by
    unfold OpenLaw.pre at hc
    have h4 : (WTm.not (.lt (.lit (.int (n : Int))) (.len (.arg 0)))).holds [] { args := [.list (ns.map .int)] } = true := by
      have h4 := (holds_andW hc).1
      rw [hn] at h4
      exact h4
    have h5 := condW_of h4 (w_not (w_lt w_lit (w_len_list (w_arg rfl))))
    rw [List.length_map] at h5
    refine Nat.le_of_not_lt fun q => ?_
    have q' : (n : Int) < ((ns.length : Nat) : Int) := by omega
    first
      | (rw [decide_eq_true q'] at h5; exact absurd h5 (by decide))
      | (simp at h5; omega)
  cases hwl with
  | cons w1 w2 =>
    cases w2
    cases w1 with
    | list ho hall => exact ⟨_, _, ns, rfl, rfl, ho, ints_of_wellAll ns _ hall, hlen⟩

theorem post_true (l : OpenLaw) (args : List WData) : l.row.toRowW.claim.post args (.bool true) args = true :=
  postW_of (r := l.row.toRowW) (X := (true == true))
    (show WShape.has [] (.bool true) .bool = true by first | rfl | decide | simp [WShape.has, WShape.arms, WShape.armsAll])
    (show (WTm.eq .res (.lit (.bool true))).value [] { args := args, res := some (.bool true), after := args } = some (.bool (true == true)) from w_eq_bool (w_res rfl) w_lit) rfl

theorem attach_call {l : OpenLaw} {n : Nat} {q : Program} {loose : List Str} {XP : (Str → Option Value) → Heap → Prop} {YP : World → Heap → Prop} {d : DefRec}
    (hn : l.most = some n) (hdf : d.params.defaults = [])
    (call : ∀ (w : World) (s₀ s₁ : Shared) (mg mb : Str → Option Value) (fa : Addr) (o : Obj) (pm cd doc : Value) (a : Addr) (vs : List Value) (ns : List Int),
      Ground q loose [] XP w s₀ mg mb s₁.heap → YP w s₁.heap →
      s₁.heap.get? fa = some o → o.data = .func (docDef d.name d.params d.body d.scope pm cd doc) → s₁.heap.CodeRec cd d.name → mg d.name = some (.ref fa) →
      s₁.heap.get? a = some { cls := .type "list", data := .seq vs.toArray } → IntsAre vs ns → ns.length ≤ n → s₁.gens = #[] →
      codeAny (model l.prog w) callerA (.call (.ref fa) ⟨[.ref a], []⟩) (fun r s' => r = .ok (.ret (.bool true)) ∧ OldK s₁.heap s'.heap ∧ s'.os = s₁.os ∧ AllBare s'.gens) s₁) :
    WalkO q loose XP YP l.row.toRowW d [] (fun f vs => PySem.call f vs) := by
  intro w s₀ s₁ mg mb G Y fa o pm cd doc dV kV ho hd hcd hD hmg hg args vals as hpre hlay hrd hwl hlo
  obtain rfl : dV = .none := Dflts.none hD hdf
  obtain rfl : kV = .none := Dflts.noKw hD
  obtain ⟨a, vs, ns, rfl, rfl, hobj, hints, hlen⟩ := script_of hn hpre hwl
  refine enter_call (codeAny_mono (call w s₀ s₁ mg mb fa o pm cd doc a vs ns G Y ho (fd_plain hd) hcd hmg hobj hints hlen hg) fun r s' hq => ?_)
  obtain ⟨rfl, h2, h3, h4⟩ := hq
  exact ⟨.inl ⟨.bool true, .bool true, [], rfl, fun _ => rfl, .bool true, post_true l _, fun _ => ⟨List.Pairwise.nil, fun _ hm => (nomatch hm)⟩⟩, h2, h3, h4⟩

end Att

namespace L2
open PySem PySem.Spec PyProof.Rows

theorem vals_ints : ∀ {vs : List Value} {ns : List Int}, IntsAre vs ns → Vals (ns.map V.int) vs
  | _, _, .nil => .nil
  | _, _, .cons n t h => .cons ⟨t, rfl⟩ (vals_ints h)

def Only (H : Hp) : Prop := ∀ b, H b = none ∨ ∃ o xs, H b = some (.frz o (.lst xs))

theorem law_call {P : Program} {w : World} {K : PySem.W.Frag} {mg mb : Str → Option Value} {CX : CXT} {k : Nat} {fa a : Addr} {fd : FuncData} {x : Str} {sp : Sp} {s₁ : Shared} {vs : List Value} {ns : List Int}
    (KX : K.In s₁.heap) (hns : s₁.heap.Ns mainGlobals mg) (hb : s₁.heap.Ns builtinsNs mb) (hbb : ∀ x : Str, x ≠ "__name__" → mb x = bootBuiltins x) (hlim : s₁.heap.NoLimit) (hg : s₁.gens = #[])
    (ha : s₁.heap.get? a = some { cls := .type "list", data := .seq vs.toArray }) (hi : IntsAre vs ns) (hl : ns.length ≤ sizeLine) (hr : Room k callerA)
    (F : ∀ base : Heap, K.In base → base.Ns mainGlobals mg → FnOk P w K mg base CX k fa fd [x] sp) (hbind : ∀ (s : Shared) (u : Value), BindsTo s fd ⟨[u], []⟩ [(x, u)])
    (hsp : ∀ H : Hp, Only H → SqL K H a (ns.map V.int) → sp [.ref a] H (fun v _ => v = .bl true) fun _ _ _ => False)
    (hCX : ∀ H e s', CX [] H s₁ (fun _ _ _ => False) e s' → False) :
    codeAny (model P w) callerA (.call (.ref fa) ⟨[.ref a], []⟩) (fun r s' => r = .ok (.ret (.bool true)) ∧ OldK s₁.heap s'.heap ∧ s'.os = s₁.os ∧ AllBare s'.gens) s₁ := by
  have rv := vals_ints hi
  have lenV := hi.length
  have core : ∀ H : Hp, Only H → SqL K H a (ns.map V.int) → HOk P w H s₁.heap → (∀ b, H b ≠ none → b = a) → (H a ≠ none → K.lookup a = none) →
      codeAny (model P w) callerA (.call (.ref fa) ⟨[.ref a], []⟩) (fun r s' => r = .ok (.ret (.bool true)) ∧ OldK s₁.heap s'.heap ∧ s'.os = s₁.os ∧ AllBare s'.gens) s₁ := by
    intro H hO hS hok hA hK
    have base_of : ∀ {b : Addr} {o : Obj}, s₁.heap.get? b = some o → H b = none → (hidT s₁.heap H).get? b = some o := fun e n => hidT_get e n
    have noA : ∀ {b : Addr} {o : Obj} {es : Array DictEntry} {ep : Nat}, s₁.heap.get? b = some o → o.data = .dict es ep → H b = none := fun {b o es ep} e d => by
      cases q : H b with
      | none => rfl
      | some u =>
        have e' : b = a := hA b (by rw [q]; simp)
        subst e'
        rw [ha] at e; cases e
        have d' : Data.seq vs.toArray _ = Data.dict es ep := d
        cases d'
    have nsK : ∀ {b : Addr} {m : Str → Option Value}, s₁.heap.Ns b m → (hidT s₁.heap H).Ns b m := fun {b m} ⟨o, es, ep, e, d, r⟩ => ⟨o, es, ep, base_of e (noA e d), d, r⟩
    have hKb : K.In (hidT s₁.heap H) := fun b o e => base_of (KX b o e) (by
      cases q : H b with
      | none => rfl
      | some u =>
        have e' : b = a := hA b (by rw [q]; simp)
        subst e'
        rw [hK (by rw [q]; simp)] at e; cases e)
    have hM : Mod K mg (hidT s₁.heap H) := ⟨hKb, nsK hns, ⟨mb, nsK hb, hbb⟩, let ⟨mc, h1, h2⟩ := hlim; ⟨mc, nsK h1, h2⟩⟩
    have e0 : Env0 P w K mg (hidT s₁.heap H) callerA [] s₁ H := ⟨rfl, hM, fun b o e => of_hidT e, Nat.le_of_eq (hidT_size _ _), trivial, fun b hb => absurd (show b ∈ ([] : List Addr) from hb) (by simp), hok, .of_eq hg⟩
    refine codeAny_mono ((F _ hKb (nsK hns)).run callerA [] s₁ H ⟨[.ref a], []⟩ [.ref a] [.ref a] _ _ hr e0 (hbind s₁ (.ref a)) (.cons rfl .nil) (hsp H hO hS)) fun r s' h => ?_
    cases r with
    | error e => exact (hCX H e s' h).elim
    | ok fl =>
      cases fl with
      | next => exact False.elim h
      | brk => exact False.elim h
      | cont => exact False.elim h
      | ret u =>
        obtain ⟨v, H', os, bare, un, hok', r', q⟩ := h
        have q' : v = .bl true := q
        subst q'
        obtain rfl : u = Value.bool true := r'
        refine ⟨rfl, OldK.of_keep fun b o e => ?_, os, bare⟩
        cases q : H b with
        | none => exact un.keep b o e q (by intro z; exact absurd (show b ∈ ([] : List Addr) from z) (by simp)) (by simp)
        | some u =>
          rcases hO b with z | ⟨ob, xs, z⟩
          · rw [q] at z; cases z
          · have z2 := un.frzs b ob _ z
            obtain ⟨e1, _⟩ := hok b _ z
            obtain ⟨e2, _⟩ := hok' b _ z2
            rw [e] at e1; cases e1
            exact e2
  cases hk : K.lookup a with
  | some o =>
    have e := KX a o hk
    rw [ha] at e
    cases e
    refine core (fun _ => none) (fun _ => .inl rfl) (.inr ⟨_, vs.toArray, _, hk, rfl, rfl, rfl, by rw [List.size_toArray, lenV]; exact hl, by simpa using rv⟩) (fun b u z => by have z' : (none : Option HO) = some u := z; cases z') (fun b z => absurd rfl z) fun z => absurd rfl z
  | none =>
    refine core (fun b => if b = a then some (.frz { cls := .type "list", data := .seq vs.toArray } (.lst (ns.map V.int))) else none) (fun b => ?_) (.inl (.inr ⟨{ cls := .type "list", data := .seq vs.toArray }, if_pos rfl⟩)) (fun b u z => ?_) (fun b z => ?_) fun _ => hk
    · by_cases hb : b = a
      · exact .inr ⟨_, _, if_pos hb⟩
      · exact .inl (if_neg hb)
    · by_cases hb : b = a
      · have z' := (if_pos hb).symm.trans z
        cases z'
        subst hb
        exact ⟨ha, by rw [List.length_map]; exact hl, vs, _, rv, ha⟩
      · have z' := (if_neg hb).symm.trans z
        cases z'
    · by_cases hb : b = a
      · exact hb
      · exact absurd (if_neg hb) z
end L2

namespace L2
open PySem PySem.Spec PyProof.Rows

theorem walk_of {l : PySem.W.OpenLaw} {n k : Nat} {q : Program} {loose : List Str} {XP : (Str → Option Value) → Heap → Prop} {YP : World → Heap → Prop} {d : DefRec} {K : Params → PySem.W.Frag} {CX : World → CXT} {sp : World → Sp} {x : Str}
    (hn : l.most = some n) (hn2 : n ≤ sizeLine) (hdf : d.params.defaults = []) (hr : Room k callerA)
    (hY : ∀ (w : World) (h : Heap), YP w h → (K w.params).In h)
    (F : ∀ (w : World) (mg : Str → Option Value) (fa : Addr) (h : Heap), (K w.params).In h → h.Ns mainGlobals mg → mg d.name = some (.ref fa) →
      ∃ fd : FuncData, (∀ (s : Shared) (u : Value), BindsTo s fd ⟨[u], []⟩ [(x, u)]) ∧
        ∀ base : Heap, (K w.params).In base → base.Ns mainGlobals mg → FnOk l.prog w (K w.params) mg base (CX w) k fa fd [x] (sp w))
    (hsp : ∀ (w : World) (H : Hp) (a : Addr) (ns : List Int), ns.length ≤ n → Only H → SqL (K w.params) H a (ns.map V.int) → sp w [.ref a] H (fun v _ => v = .bl true) fun _ _ _ => False)
    (hCX : ∀ (w : World) (H : Hp) (s : Shared) (e : Value) (s' : Shared), CX w [] H s (fun _ _ _ => False) e s' → False) :
    PySem.W.WalkO q loose XP YP l.row.toRowW d [] (fun f vs => PySem.call f vs) := by
  refine Att.attach_call hn hdf fun w s₀ s₁ mg mb fa o pm cd doc a vs ns G Y ho hd hcd hmg hobj hints hlen hg => ?_
  have KX := hY w _ Y
  obtain ⟨fd, hb, hF⟩ := F w mg fa _ KX G.T.g hmg
  exact law_call KX G.T.g G.T.b G.T.builtins G.T.nolimit hg hobj hints (Nat.le_trans hlen hn2) hr hF hb (fun H hO hS => hsp w H a ns hlen hO hS) fun H e s' => hCX w H s₁ e s'
end L2

/- THE LAST THEOREM (shape; LID, My.* are yours):
   My.Adr: a structure of the addresses that your layer names (classes, functions); My.Txt K t: a structure (Prop) of the equations over K;
   My.txt_mk : {K} {implicit addresses ..} (e1 : nsIn K mainGlobals "law" = some (some (.ref f))) (e2 : K.lookup f = some ⟨oc, od, .func (fnOf "law" "law" params body scope dV kV doc pm an cdv ct), sl⟩) (e3 : codeIn K cdv "law" = true) .. : ∃ t, My.Txt K t

set_option maxRecDepth 100000 in
set_option maxHeartbeats 0 in
theorem PySem.Challenge.cw_LID_holds : PySem.Challenge.rw_LID.Holds := by
  w_on; o_law; k_head; (case hw => w_witness2)
  k_fill
  refine L2.walk_of (l := PySem.Challenge.rw_LID) (n := 63) (k := 40) (x := "script") (CX := fun w => ..) (sp := fun _ => My.sp_law) rfl (by decide) rfl ⟨rfl, by decide, by decide⟩ (fun w h Y => PySem.W.kIn_of Y) ?F ?S ?C
  case F =>
    intro w mg fa h KX G hmg
    have T : ∃ t, My.Txt (L2.KOf KX) t := by
      dsimp only [L2.KOf]                          -- K must stand as «<heap const> w.params» for k_is
      refine' My.txt_mk ?e1 ?e2 ?e3 ..
      (case e1 => PySem.W.k_is)                    -- in the order: a name -> its address -> its object -> its parts
      (case e2 => PySem.W.k_is)
      ..
    obtain ⟨t, T⟩ := T
    have e0 := hmg.symm.trans (PySem.W.mg_of KX G T.law)
    cases e0                                       -- fa is the law's own address
    exact ⟨_, fun s u => .of_eq rfl, fun base kb nb => My.law_fn T kb nb⟩     -- if «.of_eq rfl» comes too early: refine' ⟨_, ?b, fun base kb nb => My.law_fn T kb nb⟩; exact fun s u => .of_eq rfl
  case S => exact fun w H a ns hl hO hS => ..
  case C => exact ..
(the tactic k_is has no namespace: write k_is) -/

namespace L2
open PySem PySem.Spec PyProof.Rows

def defArgs (s : Stmt) : Arguments := match s with
  | .FunctionDef _ a _ _ _ _ _ _ _ _ => a
  | _ => { posonlyargs := [], args := [], vararg := none, kwonlyargs := [], kw_defaults := [], kwarg := none, defaults := [] }
def defBody (s : Stmt) : List Stmt := match s with
  | .FunctionDef _ _ b _ _ _ _ _ _ _ => b
  | _ => []
def defScope (s : Stmt) : Scope := match s with
  | .FunctionDef _ _ _ _ _ _ sc _ _ _ => sc
  | _ => { kind := .function, names := [], isGenerator := false, isCoroutine := false }

abbrev CX0 : CXT := fun _ _ _ _ _ _ => False
abbrev E0 : XK := fun _ _ _ => False
theorem pass0 {X : Cx} : Passes CX0 X E0 := fun _ _ _ _ _ _ _ h => h.elim

structure Fun (K : PySem.W.Frag) (x qual : Str) (st : Stmt) (f : Addr) (fd : FuncData) : Prop where
  ex : ∃ (oc : Value) (od : Option Addr) (kV doc pm : Value) (an : Option Addr) (cdv ct : Value) (osl : Array (Option Value)),
    fd = PySem.W.fnOf x qual (defArgs st) (defBody st) (defScope st) .none kV doc pm an cdv ct ∧ K.lookup f = some ⟨oc, od, .func fd, osl⟩ ∧ PySem.W.codeIn K cdv qual = true
  kp : PySem.W.keepIn K (.ref f) = true
section
variable {P : Program} {w : World} {K : PySem.W.Frag} {mg : Str → Option Value} {base : Heap}
theorem Fun.ok {x qual : Str} {st : Stmt} {f : Addr} {fd : FuncData} {N ps : List Str} {k : Nat} {sp : Sp} (F : Fun K x qual st f fd) (S : FnScope N ps (defScope st)) (len : ∀ vs H Q E, sp vs H Q E → vs.length = ps.length)
    (hbody : ∀ (cdv : Value) (A : Around) (outer : List Env) (s : Shared) (H : Hp) (vs : List V) (Q : VK) (E : XK), Room k (A.deeper (envOfC qual (defScope st) s.heap.objs.size f cdv)) → sp vs H Q E →
      ∃ t, PSs (cxOf CX0 P w K mg base N qual (defScope st) f cdv A outer s H E).nox (defBody st) t ∧ t { nx := fun _ H' => Q .non H', rt := Q } (start N vs) H) : FnOk P w K mg base CX0 (k + 1) f fd ps sp := by
  obtain ⟨oc, od, kV, doc, pm, an, cdv, ct, osl, rfl, lk, hcd⟩ := F.ex
  refine fn_of lk hcd S len fun A outer s H vs Q E hr hsp => ?_
  obtain ⟨t, h, q⟩ := hbody cdv A outer s H vs Q E hr hsp
  exact ⟨t, h.nox, q⟩
theorem Fun.binds {x qual : Str} {st : Stmt} {f : Addr} {fd : FuncData} {ps : List Str} (F : Fun K x qual st f fd)
    (h : ∀ (kV doc pm : Value) (an : Option Addr) (cdv ct : Value) (us : List Value), us.length = ps.length → bindArgs (PySem.W.fnOf x qual (defArgs st) (defBody st) (defScope st) .none kV doc pm an cdv ct) ⟨us, []⟩ = pure (ps.zip us)) : Binds K fd ps [] := by
  obtain ⟨oc, od, kV, doc, pm, an, cdv, ct, osl, rfl, lk, hcd⟩ := F.ex
  exact .all (h kV doc pm an cdv ct)
theorem fun_mk {x qual : Str} {st : Stmt} {f : Addr} {oc : Value} {od an : Option Addr} {osl : Array (Option Value)} {kV doc pm cdv ct : Value} (l : K.lookup f = some ⟨oc, od, .func (PySem.W.fnOf x qual (defArgs st) (defBody st) (defScope st) .none kV doc pm an cdv ct), osl⟩)
    (c : PySem.W.codeIn K cdv qual = true) (k : PySem.W.keepIn K (.ref f) = true) : Fun K x qual st f (PySem.W.fnOf x qual (defArgs st) (defBody st) (defScope st) .none kV doc pm an cdv ct) := ⟨⟨oc, od, kV, doc, pm, an, cdv, ct, osl, rfl, l, c⟩, k⟩
end
theorem hu_of {A : Around} {k : Nat} (hr : Room k A) : A.units + 1 < cLine := Nat.lt_of_le_of_lt (Nat.add_le_add_left (by decide : 1 ≤ 64) _) hr.units
theorem small1000 {n : Nat} (h : n ≤ 1000) : n < sizeLine := Nat.lt_of_le_of_lt h (by decide)

section
variable {X : Cx}
theorem pv (i : Nat) {x : Str} {pos : Pos} (hN : X.N[i]? = some x := by rfl) (hv : Vis X.env.scope x := by first | exact Or.inl rfl | exact Or.inr (Or.inl rfl) | exact Or.inr (Or.inr rfl)) (hd : (x == ("__debug__" : Str)) = false := by decide)
    (hcd : (x == ("__classdict__" : Str)) = false := by decide) : PE X (.Name x pos) (tVar i) := pe_var hN hv hd hcd
end

theorem iteF {A B : Prop} (h : B) : if false = true then A else B := by
  rw [if_neg Bool.false_ne_true]
  exact h
theorem iteT {A B : Prop} (h : A) : if true = true then A else B := by
  rw [if_pos rfl]
  exact h
theorem ite2 {c A B : Prop} [Decidable c] (h1 : c → A) (h2 : ¬ c → B) : if c then A else B := by
  by_cases h : c
  · rw [if_pos h]
    exact h1 h
  · rw [if_neg h]
    exact h2 h
theorem iteNS {c A B : Prop} [Decidable c] (hc : c) (h : B) : if (!decide c) = true then A else B := by
  rw [decide_eq_true hc]
  exact iteF h

def Same (H H' : Hp) : Prop := ∀ b o, H b = some o → H' b = some o
theorem Same.refl (H : Hp) : Same H H := fun _ _ h => h
theorem Same.trans {H H1 H2 : Hp} (a : Same H H1) (b : Same H1 H2) : Same H H2 := fun c o h => b c o (a c o h)
theorem Same.free {H H' : Hp} (e : Same H H') {l : Addr} (h : H' l = Option.none) : H l = Option.none := by
  cases q : H l with
  | none => rfl
  | some o =>
    rw [e l o q] at h
    cases h
theorem Same.seq {K : PySem.W.Frag} {H H' : Hp} {a : Addr} {xs : List V} (e : Same H H') (h : SqL K H a xs) : SqL K H' a xs := by
  rcases h with (h | ⟨o, h⟩) | h
  · exact .inl (.inl (e _ _ h))
  · exact .inl (.inr ⟨o, e _ _ h⟩)
  · exact .inr h

end L2



namespace L2
open PySem PySem.Spec PyProof.Rows

theorem quietX {α : Type} {t : Sem α} {Q Q' : α → Shared → Prop} {M : Model} {A : Around} {E : Value → Shared → Prop} {s : Shared} (h : wpAny M A t Q (fun _ _ => False) s) (hQ : ∀ a s, Q a s → Q' a s) : wpAny M A t Q' E s :=
  wpAny_mono h hQ fun _ _ z => z.elim
theorem vals_of_get : ∀ {xs : List V} {us : List Value}, xs.length = us.length → (∀ (i : Nat) (x : V) (u : Value), xs[i]? = some x → us[i]? = some u → RelV x u) → Vals xs us
  | [], [], _, _ => .nil
  | [], _ :: _, h, _ => by simp at h
  | _ :: _, [], h, _ => by simp at h
  | x :: xs, u :: us, h, f => .cons (f 0 x u rfl rfl) (vals_of_get (by simpa using h) fun i y w e1 e2 => f (i + 1) y w (by simpa using e1) (by simpa using e2))

def cxComp (X : Cx) (scope : Scope) (cl : List (Str × Addr)) (NC : List Str) (fp : List Addr) (C : Addr) (s₀ : Shared) (H₀ : Hp) : Cx where
  prog := X.prog
  w := X.w
  K := X.K
  mg := X.mg
  base := X.base
  A := X.A
  N := NC
  s₀ := s₀
  H₀ := H₀
  env := compEnvC scope cl C X.env
  outer := X.stack
  stack := X.stack
  ex := fp
  fn := fun _ => false
  calm := X.calm
  pn := []
  xe := fun _ _ => False
structure CompOk (X : Cx) (scope : Scope) (cl : List (Str × Addr)) (NC : List Str) (ini : List (Option Nat)) : Prop where
  clos : closureFor scope X.env = pure cl
  cell : ∀ y ∈ scope.names, y.2 ≠ .cell
  kind : scope.kind = .function
  names : ∀ y ∈ scope.names, y.2 = .local → scope.names.lookup y.1 = some .local
  cls : ∀ x c, cl.lookup x = some c → X.env.cells.lookup x = some c
  has : ∀ x, ((relabel scope X.env).names.lookup x = some .cell ∨ (relabel scope X.env).names.lookup x = some .free) → ∃ c, cl.lookup x = some c
  len : ini.length = NC.length
  src : ∀ (i j : Nat) (x : Str), ini[i]? = some (some j) → NC[i]? = some x → X.N[j]? = some x ∧ (X.env.kindOf x = some .cell ∨ X.env.kindOf x = some .free) ∧
    ((relabel scope X.env).names.lookup x = some .cell ∨ (relabel scope X.env).names.lookup x = some .free)
def iniSt (ini : List (Option Nat)) (σ : St) : St := ini.map fun o => o.bind fun j => (σ[j]?).join
section
variable {X : Cx} {scope : Scope} {cl : List (Str × Addr)} {NC : List Str} {ini : List (Option Nat)} {pins : List (Addr × Obj)} {σ : St} {H : Hp} {s : Shared} {fp : List Addr}
theorem inv_comp {h₁ : Heap} {tk : Nat} {m : Str → Option Value} (O : CompOk X scope cl NC ini) (I : Inv X pins σ H s) (hf : ∀ b ∈ fp, FpOk X pins H b) (ho : ∀ b ∈ fp, ∃ o, s.heap.get? b = some o)
    (hn : h₁.Ns s.heap.objs.size m) (hk : ∀ b o, s.heap.get? b = some o → h₁.get? b = some o) :
    Inv (cxComp X scope cl NC fp s.heap.objs.size s H) [] (iniSt ini σ) H { s with heap := h₁, toks := tk } := by
  have lt : ∀ b ∈ fp, b < s.heap.objs.size := fun b hb => let ⟨o, e⟩ := ho b hb; Heap.lt_size e
  refine ⟨⟨I.ok.mod, O.kind, I.ok.glob, I.ok.blt, Nat.le_refl _, fun x y c h1 h2 => I.ok.inj x y c (O.cls x c h1) (O.cls y c h2), O.has, fun x c h => (Bool.false_ne_true h).elim, I.ok.hd, I.ok.frames, .inl rfl,
      fun b hb => ⟨Nat.ne_of_lt (lt b hb), fun x c h => (hf b hb).2.2.2.2.1 x c (O.cls x c h)⟩, I.bs, Nat.le_trans I.ok.bsz I.sz, fun b o e hb => ?_, fun b hb hs => ?_, I.stack, I.stkFree⟩,
    rfl, I.bare, Un.kept hk, ⟨m, hn, fun i x v e1 e2 e3 => ?_⟩, fun x c h => ?_, I.hok.fresh (Nat.le_refl _), fun x c h => I.freeC x c (O.cls x c h), fun p hp => absurd (show p ∈ ([] : List (Addr × Obj)) from hp) (by simp), I.hok.kept hk, ?_⟩
  · rcases (hf b hb).2.2.2.1 with z | z
    · exact I.ok.noex b o e z
    · exact absurd (Nat.lt_of_lt_of_le (Heap.lt_size e) (Nat.le_trans I.ok.bsz z)) (Nat.lt_irrefl _)
  · rcases List.mem_cons.mp (I.stkSub b hs) with e | e
    · exact (hf b hb).2.1 e
    · exact (hf b hb).2.2.1 e
  · have e2 : (ini.map fun o => o.bind fun j => (σ[j]?).join)[i]? = some (some v) := e2
    rw [List.getElem?_map] at e2
    cases q : ini[i]? with
    | none => rw [q] at e2; cases e2
    | some oj =>
      rw [q] at e2
      cases oj with
      | none => cases e2
      | some j =>
        have e4 : (σ[j]?).join = some v := Option.some.inj e2
        have e5 : σ[j]? = some (some v) := by
          cases z : σ[j]? with
          | none => rw [z] at e4; cases e4
          | some y =>
            rw [z] at e4
            have e4 : y = some v := e4
            rw [e4]
        obtain ⟨a1, a2, a3⟩ := O.src i j x q e1
        obtain ⟨m0, hn0, hl⟩ := I.loc
        obtain ⟨u, r, l⟩ := hl j x v a1 e5 (.inr a2)
        refine ⟨u, r, ?_⟩
        rcases l with ⟨k, _⟩ | ⟨_, c, e, z⟩
        · rcases a2 with a2 | a2
          · rw [k] at a2; cases a2
          · rw [k] at a2; cases a2
        · obtain ⟨c', e'⟩ := O.has x a3
          have e6 := O.cls x c' e'
          rw [e] at e6
          cases e6
          obtain ⟨oc, h1, h2⟩ := z
          exact .inr ⟨a3, c, e', oc, hk _ _ h1, h2⟩
  · obtain ⟨v, oc, h1, h2⟩ := I.cell x c (O.cls x c h)
    exact ⟨v, oc, hk _ _ h1, h2⟩
  · show (ini.map _).length = NC.length
    rw [List.length_map]
    exact O.len
theorem comp_back {pinsC : List (Addr × Obj)} {σ' : St} {H' : Hp} {s' : Shared} {h' : Heap} (I : Inv X pins σ H s) (hf : ∀ b ∈ fp, FpOk X pins H b) (J : Inv (cxComp X scope cl NC fp s.heap.objs.size s H) pinsC σ' H' s')
    (hs : Heap.SameBut s.heap.objs.size s'.heap h') : Inv X pins σ H' { s' with heap := h' } := by
  have ne : ∀ {b : Addr} {o : Obj}, s.heap.get? b = some o → b ≠ s.heap.objs.size := fun e => Nat.ne_of_lt (Heap.lt_size e)
  have hfree : H' s.heap.objs.size = none := J.free
  have B : Un (frs X.stack) fp H H' s.heap s'.heap := J.base
  refine I.call' (s' := { s' with heap := h' }) (ch := fp) J.os ⟨fun b o q n hb hx => (hs.2 b (ne q)).trans (B.keep b o q n hb hx), fun b o q n hb hx => ?_, B.free, fun b o q hx => ?_, B.tups, B.frzs, B.tbls⟩ (fun b u e => ?_) J.bare
    fun b hb => ⟨(hf b hb).2.2.2.1, (hf b hb).2.1, (hf b hb).2.2.2.2.1, (hf b hb).2.2.2.2.2⟩
  · obtain ⟨sl, e⟩ := B.slot b o q n hb hx
    exact ⟨sl, (hs.2 b (ne q)).trans e⟩
  · obtain ⟨o', e⟩ := B.there b o q hx
    exact ⟨o', (hs.2 b (ne q)).trans e⟩
  · refine (J.hok b u e).stay (fun c v hc q => (hs.2 c ?_).trans q) (fun _ q => q) fun _ _ q => q
    rintro rfl
    rcases hc with hc | hc
    · rw [← hc, hfree] at e; cases e
    · rw [hfree] at hc; cases hc
end

def PTs (X : Cx) (ifs : List Expr) (t : TT) : Prop :=
  ∀ (pins : List (Addr × Obj)) (s : Shared) (σ : St) (H : Hp) (Q : Bool → Hp → Prop), Inv X pins σ H s → t σ H Q →
    wpAny (model X.prog X.w) X.A (forIn ifs true fun c r => if r = true then do let ok ← isTrue c X.env (eval c X.env); pure (ForInStep.yield ok) else pure (ForInStep.yield r)) (TP X pins σ Q) X.xe s
def tYes : TT := fun _ H Q => Q true H
theorem gYes {i : Nat} {v : V} {σ : St} {H : Hp} {A B : St → Hp → Prop} (h : A (σ.set i (some v)) H) : gName i v σ H (fun σ3 H3 => tYes σ3 H3 fun b H4 => if b = true then A σ3 H4 else B σ3 H4) := h
theorem pts_nil {X : Cx} : PTs X [] tYes := fun _ _ _ H _ I h => wpAny_tests_nil ⟨H, I, h⟩
theorem pts_one {X : Cx} {c : Expr} {t : TT} (h : PT X c t) : PTs X [c] t := fun pins s σ H Q I hw => wpAny_tests_one (h pins s σ H Q I hw)

def CompW (J : It) (g : TG) (tt : TT) (te : TE) (D : Addr) (Q : VK) (σ₀ : St) (H₀ : Hp) : Prop :=
  ∃ W : Nat → Nat → St → Hp → Prop, (∃ m, W 0 m σ₀ H₀) ∧ ∀ i m σ' H', W i m σ' H' →
    (J.stop i H' ∧ Q (.ref D) H') ∨ (J.go i H' ∧ ∃ N : St → Hp → Prop, (∀ σ2 H2, N σ2 H2 → ∃ m', m' < m ∧ W (i + 1) m' σ2 H2) ∧
      ∀ x H2, J.yld i H' x H2 → g x σ' H2 fun σ3 H3 => tt σ3 H3 fun b H4 => if b = true then te σ3 H4 fun v H5 => ∃ ys, H5 D = some (.lst ys) ∧ ys.length < sizeLine ∧ N σ3 (upd H5 D (.lst (ys ++ [v]))) else N σ3 H4)
def tComp (wi : TI) (g : TG) (tt : TT) (te : TE) (ini : List (Option Nat)) : TE := fun σ H Q => wi σ H fun J H1 => ∀ D, H1 D = none → CompW J g tt te D Q (iniSt ini σ) (upd H1 D (.lst []))
theorem pe_comp {X : Cx} {elt iter tg : Expr} {ifs : List Expr} {scope : Scope} {pos : Pos} {cl : List (Str × Addr)} {NC : List Str} {ini : List (Option Nat)} {wi : TI} {g : TG} {tt : TT} {te : TE}
    (hc : X.calm = true) (O : CompOk X scope cl NC ini) (hi : PI X tg iter wi)
    (hg : ∀ fp C s₀ H₀, PG (cxComp X scope cl NC fp C s₀ H₀) tg g) (ht : ∀ fp C s₀ H₀, PTs (cxComp X scope cl NC fp C s₀ H₀) ifs tt) (he : ∀ fp C s₀ H₀, PE (cxComp X scope cl NC fp C s₀ H₀) elt te)
    (hs : ∀ x, foldedSetIterable iter X.env x = pure x := by intro _; rfl) : PE X (.ListComp elt [⟨tg, iter, ifs, 0⟩] scope pos) (tComp wi g tt te ini) := by
  intro pins s σ H Q I h
  rw [eval_ListComp]
  refine wpAny_comprehension_free (use := none) rfl hs O.clos O.kind O.names (thn (hi pins s σ H _ I h) fun v s1 h1 => thn h1 fun itv s2 h2 => ?_)
  obtain ⟨it, fp, tn, J, H2, e, I2, T, st2, f2, h2⟩ := h2
  subst e
  have hD : H2 s2.heap.objs.size = none := I2.hok.fresh (Nat.le_refl _)
  obtain ⟨W, ⟨m0, w0⟩, turn⟩ := h2 _ hD
  refine wpAny_newObj_type (wpAny_newFunctionEnv O.cell (by intro y hy; simp at hy) (fun h₁ hns₁ hsb₁ => ?_) O.kind)
  dsimp only at hns₁ hsb₁ ⊢
  have I3 : Inv X pins σ (upd H2 s2.heap.objs.size (.lst [])) { s2 with heap := s2.heap.push { cls := .type "list", dict := none, data := .seq ([] : List Value).toArray } } := I2.lnew (its := []) (t' := s2.toks) .nil (by decide)
  have ob2 : ∀ b ∈ fp, ∃ o, s2.heap.get? b = some o := fun b hb => let ⟨o, e, _⟩ := T.obj 0 _ st2 b hb; ⟨o, e⟩
  have neD : ∀ b ∈ fp, b ≠ s2.heap.objs.size := fun b hb => let ⟨o, e⟩ := ob2 b hb; Nat.ne_of_lt (Heap.lt_size e)
  have f3 : ∀ b ∈ fp, FpOk X pins (upd H2 s2.heap.objs.size (.lst [])) b := fun b hb => ⟨by rw [upd_ne (neD b hb)]; exact (f2 b hb).1, (f2 b hb).2⟩
  generalize hs3 : ({ s2 with heap := s2.heap.push { cls := .type "list", dict := none, data := .seq ([] : List Value).toArray } } : Shared) = s3 at I3
  have hh3 : s2.heap.push { cls := .type "list", dict := none, data := .seq ([] : List Value).toArray } = s3.heap := by rw [← hs3]
  have ob3 : ∀ b ∈ fp, ∃ o, s3.heap.get? b = some o := fun b hb => let ⟨o, e⟩ := ob2 b hb; ⟨o, by rw [← hh3]; exact Heap.get?_push_of_some _ e⟩
  rw [hh3] at hns₁ hsb₁ ⊢
  have old : ∀ b o, s3.heap.get? b = some o → h₁.get? b = some o := fun b o e => hsb₁.extBut b o (Nat.ne_of_lt (Heap.lt_size e)) (Heap.get?_push_of_some _ e)
  have st1 : tn 0 h₁ := T.keep 0 _ _ st2 fun b hb o e => old b o (by rw [← hh3]; exact Heap.get?_push_of_some _ e)
  have IC : ∀ tk, Inv (cxComp X scope cl NC fp s3.heap.objs.size s3 (upd H2 s2.heap.objs.size (.lst []))) [] (iniSt ini σ) (upd H2 s2.heap.objs.size (.lst [])) { s3 with heap := h₁, toks := tk } := fun tk => inv_comp O I3 f3 ob3 hns₁ old
  have stat : ∀ {H' : Hp}, (∀ b ∈ fp, H' b = none) → ∀ b ∈ fp, FpOk (cxComp X scope cl NC fp s3.heap.objs.size s3 (upd H2 s2.heap.objs.size (.lst []))) [] H' b := fun {H'} hn b hb => by
    obtain ⟨o, e⟩ := ob3 b hb
    refine ⟨hn b hb, Nat.ne_of_lt (Heap.lt_size e), fun z => ?_, .inl hb, fun x c hx => (f3 b hb).2.2.2.2.1 x c (O.cls x c hx), fun p hp => absurd (show p ∈ ([] : List (Addr × Obj)) from hp) (by simp)⟩
    rcases List.mem_cons.mp (I3.stkSub b z) with q | q
    · exact (f3 b hb).2.1 q
    · exact (f3 b hb).2.2.1 q
  have loop : ∀ s₃ : Shared, s₃ = { s2 with heap := h₁, toks := s2.toks + ([] : List (Str × Value)).length } →
      codeAny (model X.prog X.w) X.A (.compLoop (.ListComp elt [⟨tg, iter, ifs, 0⟩] scope pos) 0 (.ref it) (.ref s2.heap.objs.size) (compEnvC scope cl s3.heap.objs.size X.env))
        (compPost (model X.prog X.w) X.A X.xe none (EP X pins σ Q) (.ref s2.heap.objs.size) s3.heap.objs.size) s₃ := by
    rintro s₃ rfl
    refine codeAny_loop rfl (fun n s' => ∃ i σ' H', Inv (cxComp X scope cl NC fp s3.heap.objs.size s3 (upd H2 s2.heap.objs.size (.lst []))) [] σ' H' s' ∧ tn i s'.heap ∧ (∀ b ∈ fp, H' b = none) ∧ W i n σ' H') (fun n s' hI => ?_) m0
      ⟨0, _, _, by have z := IC (s2.toks + ([] : List (Str × Value)).length); rw [← hs3] at z ⊢; exact z, st1, fun b hb => (f3 b hb).1, w0⟩
    show wpAny _ X.A ((compTurn (.ListComp elt [⟨tg, iter, ifs, 0⟩] scope pos) 0 (.ref it) (.ref s2.heap.objs.size) (compEnvC scope cl s3.heap.objs.size X.env)).onRaise (fun x => do noteFrame x (compEnvC scope cl s3.heap.objs.size X.env); theTreesLotGoes x)) _ _ s'
    refine wpAny_noted ?_
    rw [compTurn_list]
    obtain ⟨i, σ3, H3, I3', st3, fr3, w3⟩ := hI
    rcases turn i n σ3 H3 w3 with ⟨stop, qn⟩ | ⟨go, N, hN, step⟩
    · refine wpAny_bind (wpAny_standAt (wpAny_bind (thn (T.done (cxComp X scope cl NC fp s3.heap.objs.size s3 (upd H2 s2.heap.objs.size (.lst []))) rfl rfl rfl hc i [] s' σ3 H3 _ I3' (stat fr3) st3 stop) fun r s4 ⟨hr, I4⟩ => ?_)))
      subst hr
      obtain ⟨m', hn', _⟩ := I4.loc
      exact wpAny_pure ⟨m', hn', fun h' hs' => ⟨.ref s2.heap.objs.size, H3, comp_back I3 f3 I4 hs', rfl, qn⟩⟩
    · refine wpAny_bind (wpAny_standAt (wpAny_bind (thn (T.item (cxComp X scope cl NC fp s3.heap.objs.size s3 (upd H2 s2.heap.objs.size (.lst []))) rfl rfl rfl hc i [] s' σ3 H3 _ I3' (stat fr3) st3 go) fun r s4 ⟨u, hr, h4⟩ => ?_)))
      subst hr
      refine wpAny_bind (thn h4 fun _ s5 ⟨x, H5, I5, r5, y5, st5, fr5⟩ => ?_)
      have I5' := I5.pinned (stat fr5) (T.obj _ _ st5)
      refine wpAny_bind (quietX (hg fp _ s3 _ _ s5 σ3 H5 x u _ I5' r5 (step x H5 y5)) fun _ s6 ⟨σ6, H6, I6, q6⟩ => ?_)
      have again : ∀ {s7 : Shared} {H7 : Hp}, Inv (cxComp X scope cl NC fp s3.heap.objs.size s3 (upd H2 s2.heap.objs.size (.lst []))) ([] ++ pinsAt fp s5.heap) σ6 H7 s7 → N σ6 H7 →
          ∃ m, m < n ∧ ∃ i σ' H', Inv (cxComp X scope cl NC fp s3.heap.objs.size s3 (upd H2 s2.heap.objs.size (.lst []))) [] σ' H' s7 ∧ tn i s7.heap ∧ (∀ b ∈ fp, H' b = none) ∧ W i m σ' H' := fun {s7 H7} I7 n7 => by
        obtain ⟨m', hm, w7⟩ := hN σ6 H7 n7
        refine ⟨m', hm, i + 1, σ6, H7, I7.unpinned, T.keep _ _ _ st5 fun b hb o e => (I7.pin (b, o) (List.mem_append_right _ (List.mem_append_right _ (mem_pinsAt hb e)))).1, fun b hb => ?_, w7⟩
        obtain ⟨o, e, d⟩ := T.obj _ _ st5 b hb
        exact (I7.pin (b, o) (List.mem_append_right _ (List.mem_append_right _ (mem_pinsAt hb e)))).2.1
      refine wpAny_bind (quietX (ht fp _ s3 _ _ s6 σ6 H6 _ I6 q6) fun ok s7 ⟨H7, I7, q7⟩ => ?_)
      cases ok with
      | false => exact wpAny_pure ⟨rfl, again I7 q7⟩
      | true =>
        refine wpAny_bind (wpAny_bind (quietX (he fp _ s3 _ _ s7 σ6 H7 _ I7 q7) fun u8 s8 ⟨v8, H8, I8, r8, ys, hy, hz, n8⟩ => ?_))
        refine wpAny_bind (quietX (mt_append _ s8 σ6 H8 (.ref s2.heap.objs.size) [v8] (.ref s2.heap.objs.size) [u8] (fun _ H9 => N σ6 H9) I8 rfl (.cons r8 .nil) ⟨_, ys, v8, rfl, rfl, hy, hz, n8⟩) fun _ s9 ⟨_, H9, I9, _, n9⟩ => ?_)
        exact wpAny_pure (wpAny_pure ⟨rfl, again I9 n9⟩)
  exact codeAny_compStart_list (loop _ rfl) (T.self _ 0 _ _ _ st1 (loop _ rfl))

theorem comp_list {K : PySem.W.Frag} {a : Addr} {xs : List V} {g : TG} {tt : TT} {te : TE} {D : Addr} {Q : VK} {σ₀ : St} {H₀ : Hp} (Pv : Nat → St → Hp → Prop) (h0 : Pv 0 σ₀ H₀) (hl : ∀ i σ H, i ≤ xs.length → Pv i σ H → SqL K H a xs)
    (hs : ∀ i x σ H, xs[i]? = some x → Pv i σ H → g x σ H fun σ3 H3 => tt σ3 H3 fun b H4 => if b = true then te σ3 H4 fun v H5 => ∃ ys, H5 D = some (.lst ys) ∧ ys.length < sizeLine ∧ Pv (i + 1) σ3 (upd H5 D (.lst (ys ++ [v]))) else Pv (i + 1) σ3 H4)
    (hd : ∀ σ H, Pv xs.length σ H → Q (.ref D) H) : CompW (Itl K a) g tt te D Q σ₀ H₀ := by
  refine ⟨fun i m σ H => m = xs.length - i ∧ i ≤ xs.length ∧ Pv i σ H, ⟨xs.length, by simp, Nat.zero_le _, h0⟩, ?_⟩
  rintro i m σ H ⟨rfl, hi, p⟩
  have q := hl i σ H hi p
  by_cases hlt : i < xs.length
  · refine .inr ⟨⟨xs, xs[i], q, by simp [hlt]⟩, Pv (i + 1), fun σ' H' p' => ⟨xs.length - (i + 1), by omega, rfl, hlt, p'⟩, fun x H' y => ?_⟩
    obtain ⟨e, y⟩ := y
    subst e
    exact hs i x σ _ (y xs q) p
  · have e : i = xs.length := by omega
    subst e
    exact .inl ⟨⟨xs, q, Nat.le_refl _⟩, hd σ H p⟩
theorem compOk0 {X : Cx} {scope : Scope} {NC : List Str} (hkind : scope.kind = .function) (h : ∀ y ∈ scope.names, y.2 ≠ .cell ∧ y.2 ≠ .free) (hn : ∀ y ∈ scope.names, y.2 = .local → scope.names.lookup y.1 = some .local) :
    CompOk X scope [] NC (List.replicate NC.length none) where
  clos := closureFor_none fun x hx => (h x hx).2
  cell := fun y hy => (h y hy).1
  kind := hkind
  names := hn
  cls := fun x c e => by cases e
  has := fun x e => by
    exfalso
    have key : ∀ k, (relabel scope X.env).names.lookup x = some k → k = .cell ∨ k = .free → False := fun k e hk => by
      have hm := PySem.mem_of_lookup e
      obtain ⟨⟨n, k'⟩, hy, ey⟩ := List.mem_map.mp hm
      have h1 := h _ hy
      have hb : (k' == NameKind.free) = false := by simpa using h1.2
      simp only [hb, Bool.false_and, Bool.false_eq_true, if_false, Prod.mk.injEq] at ey
      obtain ⟨_, rfl⟩ := ey
      rcases hk with hk | hk
      · exact h1.1 hk
      · exact h1.2 hk
    rcases e with e | e
    · exact key _ e (.inl rfl)
    · exact key _ e (.inr rfl)
  len := by simp
  src := fun i j x e _ => by
    rw [List.getElem?_replicate] at e
    split at e <;> cases e

section
variable {X : Cx}
theorem call_rng1 : CallR X (.type "range") (fun xs H Q => ∃ j, xs = [.int j] ∧ ∀ p, H p = none → Q (.ref p) (upd H p (.rng 0 j))) := by
  intro pins s σ H xs us Q I r h
  obtain ⟨j, rfl, q⟩ := h
  obtain ⟨u, rfl, ru⟩ := r.one
  obtain ⟨t, rfl⟩ := ru
  refine call_range_1 ⟨.ref s.heap.objs.size, _, I.laid (o := .rng 0 j) (fun b u e => Heap.get?_push_of_some _ e) (Nat.le_refl _) ?_, rfl, q _ (I.hok.fresh (Nat.le_refl _))⟩
  exact ⟨_, _, _, Heap.get?_push_size _ rfl⟩
def rngV (lo : Int) (n : Nat) : List V := (List.range n).map fun (i : Nat) => V.int (lo + i)
theorem rngV_len (lo : Int) (n : Nat) : (rngV lo n).length = n := by unfold rngV; rw [List.length_map, List.length_range]
theorem rngV_get {lo : Int} {n i : Nat} (h : i < n) : (rngV lo n)[i]? = some (.int (lo + i)) := by
  unfold rngV
  rw [List.getElem?_map, List.getElem?_range h]
  rfl
theorem call_list_rng (hc : X.calm = true) : CallR X (.type "list") (fun xs H Q => ∃ p lo hi, xs = [.ref p] ∧ H p = some (.rng lo hi) ∧ (-(2 ^ 62) ≤ lo ∧ lo < 2 ^ 62 ∧ -(2 ^ 62) ≤ hi ∧ hi < 2 ^ 62) ∧ (hi - lo).toNat ≤ 2 ^ 20 ∧
    ∀ l, H l = none → Q (.ref l) (upd H l (.lst (rngV lo (hi - lo).toNat)))) := by
  intro pins s σ H xs us Q I r h
  obtain ⟨p, lo, hi, rfl, hp, ⟨b1, b2, b3, b4⟩, hz, q⟩ := h
  obtain ⟨u, rfl, ru⟩ := r.one
  cases ru
  obtain ⟨t, u', v', e⟩ := I.hok p _ hp
  have hsz : (hi - lo).toNat ≤ sizeLine := Nat.le_trans hz (by decide)
  refine call_list_range (n := (hi - lo).toNat) (I.ok.hd hc) (show IsRange s.heap p lo hi 1 t u' v' from e) (small_one b1 b2 b3 b4) (by rw [rangeSize_one]; split <;> omega) (Nat.le_trans hz (by decide)) fun h' tk acc' c' hk hS' hacc => ?_
  refine ⟨.ref s.heap.objs.size, _, I.laid (o := .lst (rngV lo (hi - lo).toNat)) (t' := tk) hk (Nat.le_refl _) ⟨by rw [rngV_len]; exact hsz, acc'.toList, c', ?_, by simpa using hS'⟩, rfl, q _ (I.hok.fresh (Nat.le_refl _))⟩
  refine vals_of_get (by rw [rngV_len, Array.length_toList, hacc.1]) fun i x w e1 e2 => ?_
  have hi' : i < (hi - lo).toNat := by
    have z := (List.getElem?_eq_some_iff.mp e1).1
    rw [rngV_len] at z
    exact z
  rw [rngV_get hi'] at e1
  cases e1
  obtain ⟨t, rfl⟩ := hacc.2 i w (by simpa using e2)
  exact ⟨t, by rw [Int.mul_one]⟩
theorem call_isi : CallR X (.builtin "isinstance") (fun xs H Q => ∃ x n t b, xs = [x, .ty n] ∧ TyOf X.K H x t ∧ PySem.W.kitOne X.K t (.type n) = some b ∧ Q (.bl b) H) := by
  intro pins s σ H xs us Q I r h
  obtain ⟨x, n, t, b, rfl, ty, e, q⟩ := h
  obtain ⟨u, v, rfl, ru, rv⟩ := r.two
  cases rv
  exact isinst_ok I ru ty e fun tk => ⟨.bl b, H, I.tok tk, rfl, q⟩
end

structure Fn (K : PySem.W.Frag) (mg : Str → Option Value) (x : Str) (st : Stmt) (ps : List Str) (f : Addr) (fd : FuncData) : Prop where
  fn : Fun K x x st f fd
  b : Binds K fd ps []
  g : mg x = some (.ref f)
theorem Fn.mk' {K : PySem.W.Frag} {mg : Str → Option Value} {x : Str} {st : Stmt} {ps : List Str} {f : Addr} {fd : FuncData} (F : Fun K x x st f fd)
    (h : ∀ (kV doc pm : Value) (an : Option Addr) (cdv ct : Value) (us : List Value), us.length = ps.length → bindArgs (PySem.W.fnOf x x (defArgs st) (defBody st) (defScope st) .none kV doc pm an cdv ct) ⟨us, []⟩ = pure (ps.zip us))
    (g : mg x = some (.ref f)) : Fn K mg x st ps f fd := ⟨F, F.binds h, g⟩
theorem pe_fn {X : Cx} {x : Str} {st : Stmt} {ps : List Str} {f : Addr} {fd : FuncData} {k : Nat} {sp : Sp} {e : Expr} {es : List Expr} {t : TA} {p pos : Pos} (G : FnOk X.prog X.w X.K X.mg X.base CX0 k f fd ps sp) (F : Fn X.K X.mg x st ps f fd) (hr : Room k X.A) (ha : PA X (e :: es) t)
    (hg : Gl X x := by rfl) (hdb : (x == ("__debug__" : Str)) = false := by decide) (he : starEach (e :: es) X.env = (false, eval e X.env) :: starEach es X.env := by rfl) (hpl : (backTo pos (starEach es X.env)).any (·.1) = false := by rfl) :
    PE X (.Call (.Name x p) (e :: es) [] pos) (tCall sp [] E0 t) := pe_call G hr hg F.g F.fn.kp F.b .nil pass0 ha hdb he hpl
def spLaw (K : PySem.W.Frag) : Sp := fun vs H Q _ => ∃ (a : Addr) (ns : List Int), vs = [.ref a] ∧ SqL K H a (ns.map V.int) ∧ ns.length ≤ 63 ∧ ∀ H', Q (.bl true) H'

theorem same_upd {H : Hp} {p : Addr} {o : HO} (h : H p = none) : Same H (upd H p o) := fun b u e => by rw [upd_ne (ne_of_none e h)]; exact e
theorem Same.upd {H H' : Hp} {p : Addr} {o : HO} (s : Same H H') (h : H p = none) : Same H (upd H' p o) := fun b u e => by rw [upd_ne (ne_of_none e h)]; exact s b u e
theorem Same.tup {K : PySem.W.Frag} {H H' : Hp} {a : Addr} {xs : List V} (e : Same H H') (h : SqT K H a xs) : SqT K H' a xs := by
  rcases h with (h | ⟨o, h⟩) | h
  · exact .inl (.inl (e _ _ h))
  · exact .inl (.inr ⟨o, e _ _ h⟩)
  · exact .inr h
theorem ixN_of {n : Nat} {k : Int} (h0 : 0 ≤ k) (h1 : k < n) : ixN n k = some k.toNat := by unfold ixN; rw [if_pos h0, if_pos h1]
theorem bb_len : bootBuiltins "len" = some (.builtin "len") := by decide +kernel
theorem bb_isinstance : bootBuiltins "isinstance" = some (.builtin "isinstance") := by decide +kernel
theorem bb_list : bootBuiltins "list" = some (.type "list") := by decide +kernel
theorem bb_tuple : bootBuiltins "tuple" = some (.type "tuple") := by decide +kernel
theorem bb_range : bootBuiltins "range" = some (.type "range") := by decide +kernel
theorem bb_min : bootBuiltins "min" = some (.builtin "min") := by decide +kernel
theorem bb_enumerate : bootBuiltins "enumerate" = some (.type "enumerate") := by decide +kernel
end L2

namespace L2E
open PySem PySem.Spec PyProof.Rows
open Sem (wp)
open AutoSeq1 (wpAny_loadPart')
section
variable {prog : Program} {w : World} {A : Around} {E : Value → Shared → Prop} {s : Shared}
theorem nextOf_tup_item {it t : Addr} {i : Nat} {items : Array Value} {x : Value} {Q : Value → Shared → Prop} (hit : s.heap.IsTupleIter it t i) (ht : s.heap.IsTuple t items) (hx : items[i]? = some x)
    (hQ : ∀ h', h'.IsTupleIter it t (i + 1) → Heap.SameBut it s.heap h' → Q x { s with heap := h' }) : wpAny (model prog w) A (Builtin.SmallTypes.nextOf (.ref it)) Q E s := by
  obtain ⟨o, ho, hc, hd⟩ := id hit
  obtain ⟨ol, hol, _, nl, hdl⟩ := ht
  unfold Builtin.SmallTypes.nextOf
  refine wpAny_bind (wpAny_callSpecial?_slot (name := Str.ofString "__next__") hit.typeIs F.slot_tuple_iterator_next (wpAny_call_entry F.slot_tuple_iterator_next hit.typeIs F.entry_tuple_iterator_next ?_ (F.args_tuple_iterator_next_1 _)))
  show wpAny _ _ (field (.ref it) 0 >>= _) _ _ s
  refine wpAny_bind (wpAny_field ho hd (x := .ref t) rfl ?_)
  show wpAny _ _ (if (Value.ref t == Value.none) = true then _ else _) _ _ s
  rw [if_neg (show ¬ ((Value.ref t == Value.none) = true) from Bool.false_ne_true)]
  show wpAny _ _ (field (.ref it) 1 >>= _) _ _ s
  refine wpAny_bind (wpAny_field ho hd (x := .int i 0) rfl ?_)
  show wpAny _ _ (seqItems? (.ref t) >>= _) _ _ s
  refine wpAny_bind (wpAny_seqItems hol hdl ?_)
  simp only [Int.toNat_natCast, hx]
  refine wpAny_bind (wpAny_setField ho hd (by simp) (wpAny_pure ⟨x, rfl, wpAny_pure (hQ _ ?_ (Heap.SameBut.update ..))⟩))
  exact ⟨_, Heap.get?_update_self _ ho (Obj.isFreed_of_fields (Obj.data_mapFields hd _)), (Obj.cls_mapFields ..).trans hc, by
    rw [Obj.data_mapFields hd]; simp [rawInt]⟩
theorem nextOf_tup_end {it t : Addr} {i : Nat} {items : Array Value} {Q : Value → Shared → Prop} (hh : A.handled = none) (hit : s.heap.IsTupleIter it t i) (ht : s.heap.IsTuple t items) (hx : items[i]? = none)
    (hE : ∀ h' e, Heap.ExtBut it s.heap h' → (∃ o, h'.get? e = some o ∧ o.cls = .type "StopIteration") → E (.ref e) { s with heap := h' }) : wpAny (model prog w) A (Builtin.SmallTypes.nextOf (.ref it)) Q E s := by
  obtain ⟨o, ho, hc, hd⟩ := id hit
  obtain ⟨ol, hol, _, nl, hdl⟩ := ht
  unfold Builtin.SmallTypes.nextOf
  refine wpAny_bind (wpAny_callSpecial?_slot (name := Str.ofString "__next__") hit.typeIs F.slot_tuple_iterator_next (wpAny_call_entry F.slot_tuple_iterator_next hit.typeIs F.entry_tuple_iterator_next ?_ (F.args_tuple_iterator_next_1 _)))
  show wpAny _ _ (field (.ref it) 0 >>= _) _ _ s
  refine wpAny_bind (wpAny_field ho hd (x := .ref t) rfl ?_)
  show wpAny _ _ (if (Value.ref t == Value.none) = true then _ else _) _ _ s
  rw [if_neg (show ¬ ((Value.ref t == Value.none) = true) from Bool.false_ne_true)]
  show wpAny _ _ (field (.ref it) 1 >>= _) _ _ s
  refine wpAny_bind (wpAny_field ho hd (x := .int i 0) rfl ?_)
  show wpAny _ _ (seqItems? (.ref t) >>= _) _ _ s
  refine wpAny_bind (wpAny_seqItems hol hdl ?_)
  simp only [Int.toNat_natCast, hx]
  refine wpAny_bind (wpAny_rule (wpAny_bind (wpAny_setField ho hd (by simp) ?_)))
  show wpAny _ _ (newExc (.type "StopIteration") [] >>= _) _ _ _
  refine wpAny_bind ?_
  simp only [newExc, newTuple]
  refine wpAny_bind (wpAny_newObj_type ?_ (by size_fits))
  refine wpAny_bind (m := firstArgMember _ _) (wpAny_of_eq (a := Value.none) (by first | rfl | (simp only [firstArgMember]; rfl)) ?_)
  refine wpAny_newObj_type ?_ (by size_fits)
  simp only [raiseNew]
  refine wpAny_bind (wpAny_handled ?_)
  first | rw [show A.in1.handled = none from hh] | rw [hh]
  refine wpAny_bind (wpAny_pure (wpAny_throw ?_))
  exact hE _ _ (((Heap.SameBut.update ..).extBut.push _).push _) ⟨_, Heap.get?_push_size _ rfl, rfl⟩

theorem enum_tup_next {e it l : Addr} {i : Nat} {items : Array Value} {x old : Value} {Q : Value → Shared → Prop}
    (he : IsEnum s.heap e it i old) (hit : s.heap.IsTupleIter it l i) (hl : s.heap.IsTuple l items) (hx : items[i]? = some x) (hne : e ≠ it)
    (hQ : ∀ h', IsEnumOut h' e it ((i : Int) + 1) x s.heap.objs.size → h'.IsTupleIter it l (i + 1) → h'.get? s.heap.objs.size = some { cls := .type "tuple", data := .seq #[.int i s.toks, x] } → h'.objs.size = s.heap.objs.size + 1 →
      (∀ b o, b ≠ e → b ≠ it → s.heap.get? b = some o → h'.get? b = some o) → Q (.ref s.heap.objs.size) { s with heap := h', toks := s.toks + 1 }) :
    wpAny (model prog w) A (Builtin.«enumerate.__next__» ⟨[.ref e], []⟩) (fun fin s' => ∃ v, fin = .done (.ret v) ∧ Q v s') E s := by
  obtain ⟨hp, g, d, tk, os⟩ := s
  show wpAny _ _ (field (.ref e) 2 >>= _) _ _ _
  refine wpAny_bind (wpAny_field he rfl (x := .ref it) rfl ?_)
  refine wpAny_bind (nextOf_tup_item hit hl hx fun h₁ hit₁ hs₁ => ?_)
  replace hs₁ : Heap.SameBut it hp h₁ := hs₁
  have he₁ : IsEnum h₁ e it i old := (hs₁.2 e hne).trans he
  show wpAny _ _ (field (.ref e) 3 >>= _) _ _ ⟨h₁, g, d, tk, os⟩
  refine wpAny_bind (wpAny_field he₁ rfl (x := rawInt i) rfl ?_)
  show wpAny _ _ (field (.ref e) 4 >>= _) _ _ ⟨h₁, g, d, tk, os⟩
  refine wpAny_bind (wpAny_field he₁ rfl (x := .none) rfl ?_)
  show wpAny _ _ (mkInt i >>= _) _ _ ⟨h₁, g, d, tk, os⟩
  refine wpAny_bind (wpAny_mkInt ?_)
  show wpAny _ _ (setField (.ref e) 3 (rawInt ((i : Int) + 1)) >>= _) _ _ ⟨h₁, g, d, tk + 1, os⟩
  refine wpAny_bind (wpAny_setField_rec he₁ (by simp) fun h₂ he₂ hs₂ => ?_)
  replace hs₂ : Heap.SameBut e h₁ h₂ := hs₂
  replace he₂ : IsEnum h₂ e it ((i : Int) + 1) old := he₂
  show wpAny _ _ (setField (.ref e) 4 .none >>= _) _ _ ⟨h₂, g, d, tk + 1, os⟩
  refine wpAny_bind (wpAny_setField_rec he₂ (by simp) fun h₃ he₃ hs₃ => ?_)
  replace hs₃ : Heap.SameBut e h₂ h₃ := hs₃
  replace he₃ : IsEnum h₃ e it ((i : Int) + 1) old := he₃
  show wpAny _ _ (newTuple [.int i tk, x] >>= _) _ _ ⟨h₃, g, d, tk + 1, os⟩
  refine wpAny_bind (wpAny_newTuple ?_)
  have he₄ : IsEnum (h₃.push { cls := .type "tuple", data := .seq #[.int i tk, x] }) e it ((i : Int) + 1) old := Heap.get?_push_of_some _ he₃
  generalize hh₄ : h₃.push { cls := .type "tuple", data := .seq #[.int i tk, x] } = h₄ at he₄
  have hsz : h₃.objs.size = hp.objs.size := by rw [hs₃.1, hs₂.1, hs₁.1]
  have hel : e < hp.objs.size := Heap.lt_size he
  have ht₄ : h₄.get? hp.objs.size = some { cls := .type "tuple", data := .seq #[.int i tk, x] } := by rw [← hh₄, ← hsz]; exact Heap.get?_push_size _ rfl
  have hz₄ : h₄.objs.size = hp.objs.size + 1 := by rw [← hh₄, Heap.size_push, hsz]
  have hk₄ : ∀ b o, b ≠ e → b ≠ it → hp.get? b = some o → h₄.get? b = some o := fun b o hbe hbi hb => by
    rw [← hh₄]; exact Heap.get?_push_of_some _ (hs₃.extBut b o hbe (hs₂.extBut b o hbe (hs₁.extBut b o hbi hb)))
  have hit₄ : h₄.IsTupleIter it l (i + 1) := by
    rw [← hh₄]; obtain ⟨o, ho, r⟩ := (hit₁.extBut hs₂.extBut (Ne.symm hne)).extBut hs₃.extBut (Ne.symm hne); exact ⟨o, Heap.get?_push_of_some _ ho, r⟩
  show wpAny _ _ (Builtin.SmallTypes.ownedTupleIsFree (.ref e) >>= _) _ _ ⟨h₄, g, d, tk + 1, os⟩
  rw [hsz]
  clear hh₄ he₃ hs₃ he₂ hs₂ he₁ hs₁ hit₁ hsz h₃ h₂ h₁
  refine wpAny_bind ?_
  · unfold Builtin.SmallTypes.ownedTupleIsFree
    refine wpAny_bind (wpAny_field he₄ rfl (x := .none) rfl (wpAny_pure ?_))
    simp only [if_true]
    refine wpAny_bind (wpAny_rule ?_)
    refine wpAny_bind (wpAny_field he₄ rfl (x := old) rfl ?_)
    refine wpAny_bind (wpAny_setField_rec he₄ (by simp) fun h₅ he₅ hs₅ => ?_)
    replace hs₅ : Heap.SameBut e h₄ h₅ := hs₅
    replace he₅ : IsEnum h₅ e it ((i : Int) + 1) x := he₅
    show wpAny _ _ (Builtin.SmallTypes.ownedTupleHandOut (.ref e) (.ref hp.objs.size) >>= _) _ _ ⟨h₅, g, d, tk + 1, os⟩
    refine wpAny_bind ?_
    · unfold Builtin.SmallTypes.ownedTupleHandOut
      refine wpAny_bind (wpAny_setField_rec he₅ (by simp) fun h₆ he₆ hs₆ => ?_)
      replace hs₆ : Heap.SameBut e h₅ h₆ := hs₆
      replace he₆ : IsEnumOut h₆ e it ((i : Int) + 1) x hp.objs.size := he₆
      refine wpAny_setField_rec he₆ (by simp) fun h₇ he₇ hs₇ => ?_
      replace hs₇ : Heap.SameBut e h₆ h₇ := hs₇
      replace he₇ : IsEnumOut h₇ e it ((i : Int) + 1) x hp.objs.size := he₇
      refine wpAny_bind (wpAny_letGo (wpAny_pure ⟨_, rfl, hQ h₇ he₇ ?_ ?_ ?_ ?_⟩))
      · exact ((hit₄.extBut hs₅.extBut (Ne.symm hne)).extBut hs₆.extBut (Ne.symm hne)).extBut hs₇.extBut (Ne.symm hne)
      · exact hs₇.extBut _ _ (Nat.ne_of_gt hel) (hs₆.extBut _ _ (Nat.ne_of_gt hel) (hs₅.extBut _ _ (Nat.ne_of_gt hel) ht₄))
      · rw [hs₇.1, hs₆.1, hs₅.1, hz₄]
      · exact fun b o hbe hbi hb => hs₇.extBut b o hbe (hs₆.extBut b o hbe (hs₅.extBut b o hbe (hk₄ b o hbe hbi hb)))
theorem pyNext_enumT_item {e it l : Addr} {i : Nat} {items : Array Value} {x old : Value} {Q : Option Value → Shared → Prop}
    (he : IsEnum s.heap e it i old) (hit : s.heap.IsTupleIter it l i) (hl : s.heap.IsTuple l items) (hx : items[i]? = some x) (hne : e ≠ it)
    (hQ : ∀ h', IsEnumOut h' e it ((i : Int) + 1) x s.heap.objs.size → h'.IsTupleIter it l (i + 1) → h'.get? s.heap.objs.size = some { cls := .type "tuple", data := .seq #[.int i s.toks, x] } → h'.objs.size = s.heap.objs.size + 1 →
      (∀ b o, b ≠ e → b ≠ it → s.heap.get? b = some o → h'.get? b = some o) → Q (some (.ref s.heap.objs.size)) { s with heap := h', toks := s.toks + 1 }) :
    wpAny (model prog w) A (pyNext (.ref e)) Q E s := by
  have hT : s.TypeIs (.ref e) "enumerate" := ⟨_, he, rfl⟩
  unfold pyNext
  exact wpAny_bind (wpAny_attempt (wpAny_callSpecial?_slot (name := Str.ofString "__next__") hT F.slot_enumerate_next
    (wpAny_call_entry F.slot_enumerate_next hT F.entry_enumerate_next (enum_tup_next he hit hl hx hne fun h' a b c d k => wpAny_pure (hQ h' a b c d k)) (F.args_enumerate_next_1 _))))
theorem pyNext_enumT_end {e it l : Addr} {i : Nat} {items : Array Value} {old : Value} {Q : Option Value → Shared → Prop} (hh : A.handled = none)
    (he : IsEnum s.heap e it i old) (hit : s.heap.IsTupleIter it l i) (hl : s.heap.IsTuple l items) (hx : items[i]? = none)
    (hQ : ∀ h', Heap.ExtBut it s.heap h' → Q none { s with heap := h' }) : wpAny (model prog w) A (pyNext (.ref e)) Q E s := by
  have hT : s.TypeIs (.ref e) "enumerate" := ⟨_, he, rfl⟩
  unfold pyNext
  refine wpAny_bind (wpAny_attempt (wpAny_callSpecial?_slot (name := Str.ofString "__next__") hT F.slot_enumerate_next (wpAny_call_entry F.slot_enumerate_next hT F.entry_enumerate_next ?_ (F.args_enumerate_next_1 _))))
  show wpAny _ _ (field (.ref e) 2 >>= _) _ _ _
  refine wpAny_bind (wpAny_field he rfl (x := .ref it) rfl ?_)
  refine wpAny_bind (nextOf_tup_end hh hit hl hx fun h' x he' hx' => ?_)
  obtain ⟨o, ho, hc⟩ := hx'
  refine wpAny_bind (wpAny_isInstance (T := "StopIteration") (b := true) ⟨o, ho, hc⟩ isSubtype_stop ?_)
  exact wpAny_pure (hQ _ he')

theorem meets_enum_tup (l : Addr) (items : Array Value) (n : Nat) (dct : Option Addr) (sl : Array (Option Value)) :
    Meets (Builtin.«enumerate.__new__» ⟨[.type "enumerate", .ref l], []⟩) (fun _ R s => s.heap.get? l = some { cls := .type "tuple", dict := dct, data := .seq items n, slots := sl } ∧
      R (.ok (.ret (.ref (s.heap.push { cls := .type "tuple_iterator", data := .fields #[.ref l, .int 0 0] }).objs.size)))
        { s with heap := (s.heap.push { cls := .type "tuple_iterator", data := .fields #[.ref l, .int 0 0] }).push { cls := .type "enumerate", data := .fields #[.none, .bool false, .ref s.heap.objs.size, rawInt 0, .none, .none] } }) :=
  .of_wp fun prog w A R s h => by
    obtain ⟨hp, g, d, tk, os⟩ := s; obtain ⟨hl, h⟩ := h
    have hsub := sub_enumerate
    have hL : Heap.IsTuple (Shared.heap ⟨hp, g, d, tk, os⟩) l items := ⟨_, hl, rfl, n, rfl⟩
    wp_walk using wpAny_loadPart' hl
    refine wpAny_stack_any fun st => wpAny_pure ?_
    split
    · rename_i c _ _ _ _ _
      cases (c == Value.type "enumerate")
      · wp_walk using wpAny_loadPart' hl, wpAny_pyIter_tuple hL
        exact ⟨_, rfl, h⟩
      · wp_walk using wpAny_loadPart' hl, wpAny_pyIter_tuple hL
        exact ⟨_, rfl, h⟩
    · wp_walk using wpAny_loadPart' hl, wpAny_pyIter_tuple hL
      exact ⟨_, rfl, h⟩
theorem call_enum_tup {l : Addr} {items : Array Value} {Q : Value → Shared → Prop} (hL : s.heap.IsTuple l items)
    (h : ∀ h', IsEnum h' (s.heap.objs.size + 1) s.heap.objs.size 0 .none → h'.IsTupleIter s.heap.objs.size l 0 → h'.objs.size = s.heap.objs.size + 2 →
      (∀ b o, s.heap.get? b = some o → h'.get? b = some o) → Q (.ref (s.heap.objs.size + 1)) { s with heap := h' }) :
    wpAny (model prog w) A (call (.type "enumerate") [.ref l]) Q E s := by
  obtain ⟨⟨c, dct, dt, sl⟩, hl, hc, n, hd⟩ := hL
  replace hc : c = .type "tuple" := hc
  replace hd : dt = .seq items n := hd
  subst hc hd
  refine callType_new F.called_enumerate (by decide) (F.typeCall_enumerate_1 _) (F.newCall_enumerate_1 _) (fun obj => F.args_object_init_2 obj _) F.entry_enumerate_new
    (meets_enum_tup l items n dct sl) ⟨hl, ?_⟩
  have hz : (s.heap.push { cls := .type "tuple_iterator", data := .fields #[.ref l, .int 0 0] }).objs.size = s.heap.objs.size + 1 := Heap.size_push ..
  show _ ∧ _
  rw [hz]
  have he : IsEnum ((s.heap.push { cls := .type "tuple_iterator", data := .fields #[.ref l, .int 0 0] }).push
      { cls := .type "enumerate", data := .fields #[.none, .bool false, .ref s.heap.objs.size, rawInt 0, .none, .none] }) (s.heap.objs.size + 1) s.heap.objs.size 0 .none := by
    have := Heap.get?_push_size (s.heap.push { cls := .type "tuple_iterator", data := .fields #[.ref l, .int 0 0] })
      (o := { cls := .type "enumerate", data := .fields #[.none, .bool false, .ref s.heap.objs.size, rawInt 0, .none, .none] }) rfl
    rw [hz] at this; exact this
  refine ⟨⟨_, he, rfl⟩, h _ he ⟨_, Heap.get?_push_of_some _ (Heap.get?_push_size _ rfl), rfl, rfl⟩ (by rw [Heap.size_push, hz]) fun b o x => Heap.get?_push_of_some _ (Heap.get?_push_of_some _ x)⟩
end
end L2E

namespace L2
open PySem PySem.Spec PyProof.Rows
def Ite (K : PySem.W.Frag) (a : Addr) : It :=
  ⟨fun i H => ∃ xs x, SqT K H a xs ∧ xs[i]? = some x, fun i H y H' => ∃ t x, y = .ref t ∧ H t = none ∧ H' = upd H t (.tup [.int i, x]) ∧ ∀ xs, SqT K H a xs → xs[i]? = some x, fun i H => ∃ xs, SqT K H a xs ∧ xs.length ≤ i⟩
theorem turn_enumT {P : Program} {w : World} {K : PySem.W.Frag} {elts : List Expr} {x1 : Nat} {tp : Pos} (a e it : Addr) (hei : e ≠ it) :
    Turn P w K (.Tuple elts x1 tp) (Ite K a) [e, it] e (fun i h => (∃ old, IsEnum h e it i old) ∧ h.IsTupleIter it a i) where
  mem := by simp
  obj := fun i h st b hb => by
    obtain ⟨⟨old, he⟩, hit⟩ := st
    rcases List.mem_cons.mp hb with rfl | hb
    · exact ⟨_, he, fun v z => by
        have z' : Data.fields _ = Data.cell v := z
        cases z'⟩
    · have e1 : b = it := by simpa using hb
      subst e1
      obtain ⟨o, e, c, d⟩ := hit
      exact ⟨o, e, fun v z => by rw [d] at z; cases z⟩
  keep := fun i h h' st k => ⟨let ⟨old, he⟩ := st.1; ⟨old, k e (by simp) _ he⟩, let ⟨o, ho, r⟩ := st.2; ⟨o, k it (by simp) o ho, r⟩⟩
  item := by
    intro X hP hw hK hc i pins s σ H E I hf st hg
    subst hP hw hK
    obtain ⟨⟨old, he⟩, hit⟩ := st
    obtain ⟨xs, x, hq, hx⟩ := hg
    obtain ⟨its, rv, p, hz⟩ := I.tuple hq
    obtain ⟨u, hu, ru⟩ := rv.get hx
    obtain ⟨f0, f1, f2, f3, f4, f5⟩ := hf e (by simp)
    obtain ⟨g0, g1, g2, g3, g4, g5⟩ := hf it (by simp)
    refine L2E.pyNext_enumT_item he hit (show s.heap.IsTuple a its.toArray from p) (x := u) (by simpa using hu) hei fun h' ho' hit' hT hsz hk => ?_
    refine ⟨_, rfl, wpAny_letOwnedTupleGo_enum ho' fun h'' he'' hs'' => ?_⟩
    have hlt : e < s.heap.objs.size := Heap.lt_size he
    have k2 : ∀ b o, b ≠ e → b ≠ it → s.heap.get? b = some o → h''.get? b = some o := fun b o h1 h2 q => (hs''.2 b h1).trans (hk b o h1 h2 q)
    have hT2 : h''.get? s.heap.objs.size = some { cls := .type "tuple", data := .seq #[.int i s.toks, u] } := (hs''.2 _ (Nat.ne_of_gt hlt)).trans hT
    have hfr : H s.heap.objs.size = none := I.hok.fresh (Nat.le_refl _)
    have neT : ∀ {b : Addr} {o : Obj}, s.heap.get? b = some o → b ≠ s.heap.objs.size := fun q => Nat.ne_of_lt (Heap.lt_size q)
    have trk : ∀ {b : Addr} {o : HO}, H b = some o → b ≠ e ∧ b ≠ it := fun q => ⟨fun z => (by rw [z, f0] at q; cases q), fun z => (by rw [z, g0] at q; cases q)⟩
    have I2 : Inv X pins σ (upd H s.heap.objs.size (.tup [.int i, x])) { s with heap := h'', toks := s.toks + 1 } := by
      refine I.step (g' := s.gens) (d' := s.drawn) (ch := [e, it]) (fun b hb => ?_) (fun b o _ _ hch q _ => k2 b o (fun z => hch (by simp [z])) (fun z => hch (by simp [z])) q) (fun b o _ _ hch q _ => ⟨o.slots, k2 b o (fun z => hch (by simp [z])) (fun z => hch (by simp [z])) q⟩)
        (fun b o _ q n => by rw [upd_ne (neT q)]; exact n) (fun b o hch q => ⟨o, k2 b o (fun z => hch (by simp [z])) (fun z => hch (by simp [z])) q⟩) (fun b ys q => by rw [upd_ne (ne_of_none q hfr)]; exact q) (fun b o ys q => by rw [upd_ne (ne_of_none q hfr)]; exact q)
        (fun b ps q => ⟨#[], by rw [upd_ne (ne_of_none q hfr), q]; simp⟩) (fun m hm => ?_) (fun b v q => ?_) I.bare
      · rcases List.mem_cons.mp hb with rfl | hb
        · exact ⟨f3, f1, f4, f5⟩
        · have e1 : b = it := by simpa using hb
          subst e1
          exact ⟨g3, g1, g4, g5⟩
      · obtain ⟨o, es, ep, ho, r⟩ := hm
        exact ⟨o, es, ep, k2 _ o (Ne.symm f1) (Ne.symm g1) ho, r⟩
      · by_cases hb : b = s.heap.objs.size
        · subst hb
          rw [upd_same] at q
          cases q
          exact ⟨by show 2 ≤ sizeLine; decide, [.int i s.toks, u], .cons ⟨_, rfl⟩ (.cons ru .nil), _, hT2, rfl, _, rfl⟩
        · rw [upd_ne hb] at q
          refine (I.hok b v q).stay (fun c o hc z => ?_) (fun c z => by rw [upd_ne (ne_of_none z hfr)]; exact z) fun c ys z => by rw [upd_ne (ne_of_none z hfr)]; exact z
          rcases hc with rfl | hc
          · exact k2 c o (trk q).1 (trk q).2 z
          · exact k2 c o (trk hc).1 (trk hc).2 z
    refine ⟨.ref s.heap.objs.size, _, I2, rfl, ⟨_, x, rfl, hfr, rfl, fun ys hy => by rw [I.tuple_inj hy hq]; exact hx⟩, ⟨⟨u, by simpa using he''⟩, ?_⟩, fun b hb => ?_⟩
    · obtain ⟨o, q, r⟩ := hit'
      exact ⟨o, (hs''.2 it (Ne.symm hei)).trans q, r⟩
    · rcases List.mem_cons.mp hb with rfl | hb
      · rw [upd_ne (Nat.ne_of_lt hlt)]; exact f0
      · have e1 : b = it := by simpa using hb
        subst e1
        obtain ⟨o, q, _⟩ := hit
        rw [upd_ne (neT q)]
        exact g0
  done := by
    intro X hP hw hK hc i pins s σ H E I hf st hg
    subst hP hw hK
    obtain ⟨⟨old, he⟩, hit⟩ := st
    obtain ⟨xs, hq, hx⟩ := hg
    obtain ⟨its, rv, p, hz⟩ := I.tuple hq
    obtain ⟨g0, g1, g2, g3, g4, g5⟩ := hf it (by simp)
    have hl := rv.length
    exact L2E.pyNext_enumT_end (I.ok.hd hc) he hit (show s.heap.IsTuple a its.toArray from p) (by simp; omega) fun h' eb => ⟨rfl, I.turned (t' := s.toks) (fun b o hb q => eb b o hb q) g0 g1 g3 g4 g5⟩
  self := fun _ _ _ _ _ st h => let ⟨_, he⟩ := st.1; wpAny_pyIter_enum he h
section
variable {X : Cx}
def iEnum (K : PySem.W.Frag) (ta : TA) : TI := fun σ H R => ta σ H fun vs H1 => ∃ a, vs = [.ref a] ∧ (∃ xs, SqT K H1 a xs) ∧ R (Ite K a) H1
theorem pg_tupK {K : PySem.W.Frag} {es : List Expr} {k : Nat} {t : TGs} {n : Nat} {pos : Pos} (hK : X.K = K) (hc : X.calm = true) (h : PGs X es t)
    (hn : (assignEach es X.env).length = n := by rfl) (hst : (assignEach es X.env).findIdx? (·.1) = none := by rfl) : PG X (.Tuple es k pos) (gTup K n t) := hK ▸ pg_tup hc h hn hst
theorem pi_enumT {a : Expr} {ta : TA} {p pos : Pos} {elts : List Expr} {x1 : Nat} {tp : Pos} (hg : Gl X "enumerate") (hm : X.mg "enumerate" = none) (ha : PA X [a] ta) (hs : starEach [a] X.env = [(false, eval a X.env)] := by rfl) :
    PI X (.Tuple elts x1 tp) (.Call (.Name "enumerate" p) [a] [] pos) (iEnum X.K ta) := by
  intro pins s σ H R I h
  refine Call_ (ld_blt I hg hm bb_enumerate (PyProof.Rows.callWith_type1 (thn (ha pos pins s σ H _ I h) fun us s1 ⟨vs, H1, I1, r1, q1⟩ => ?_) hs rfl))
  obtain ⟨l, e, ⟨xs, hq⟩, q⟩ := q1
  subst e
  cases r1 with
  | cons r rr =>
    cases rr
    cases r
    obtain ⟨its, rv, ht, hz⟩ := I1.tuple hq
    refine L2E.call_enum_tup (show s1.heap.IsTuple l its.toArray from ht) fun h' he hit hsz hk => ?_
    have I2 : Inv X pins σ H1 { s1 with heap := h' } := I1.kept (t' := s1.toks) hk
    refine wpAny_pyIter_enum he ?_
    refine ⟨s1.heap.objs.size + 1, [s1.heap.objs.size + 1, s1.heap.objs.size], _, _, H1, rfl, I2, turn_enumT l _ _ (Nat.succ_ne_self _), ⟨⟨_, he⟩, hit⟩, fun b hb => ?_, q⟩
    rcases List.mem_cons.mp hb with rfl | hb
    · exact (I1.fpOk (Nat.le_succ _) (I1.hok.fresh (Nat.le_succ _)))
    · have e : b = s1.heap.objs.size := by simpa using hb
      subst e
      exact I1.fpOk (Nat.le_refl _) (I1.hok.fresh (Nat.le_refl _))
theorem comp_enum {K : PySem.W.Frag} {a : Addr} {xs : List V} {g : TG} {tt : TT} {te : TE} {D : Addr} {Q : VK} {σ₀ : St} {H₀ : Hp} (Pv : Nat → St → Hp → Prop) (h0 : Pv 0 σ₀ H₀) (hl : ∀ i σ H, i ≤ xs.length → Pv i σ H → SqT K H a xs)
    (hs : ∀ i x t σ H, xs[i]? = some x → Pv i σ H → H t = none → g (.ref t) σ (upd H t (.tup [.int i, x])) fun σ3 H3 => tt σ3 H3 fun b H4 => if b = true then te σ3 H4 fun v H5 => ∃ ys, H5 D = some (.lst ys) ∧ ys.length < sizeLine ∧ Pv (i + 1) σ3 (upd H5 D (.lst (ys ++ [v]))) else Pv (i + 1) σ3 H4)
    (hd : ∀ σ H, Pv xs.length σ H → Q (.ref D) H) : CompW (Ite K a) g tt te D Q σ₀ H₀ := by
  refine ⟨fun i m σ H => m = xs.length - i ∧ i ≤ xs.length ∧ Pv i σ H, ⟨xs.length, by simp, Nat.zero_le _, h0⟩, ?_⟩
  rintro i m σ H ⟨rfl, hi, p⟩
  have q := hl i σ H hi p
  by_cases hlt : i < xs.length
  · refine .inr ⟨⟨xs, xs[i], q, by simp [hlt]⟩, Pv (i + 1), fun σ' H' p' => ⟨xs.length - (i + 1), by omega, rfl, hlt, p'⟩, fun x H' y => ?_⟩
    obtain ⟨t, z, e, hn, e2, y⟩ := y
    subst e e2
    exact hs i z t σ _ (y xs q) p hn
  · have e : i = xs.length := by omega
    subst e
    exact .inl ⟨⟨xs, q, Nat.le_refl _⟩, hd σ H p⟩
theorem comp_tup {K : PySem.W.Frag} {a : Addr} {xs : List V} {g : TG} {tt : TT} {te : TE} {D : Addr} {Q : VK} {σ₀ : St} {H₀ : Hp} (Pv : Nat → St → Hp → Prop) (h0 : Pv 0 σ₀ H₀) (hl : ∀ i σ H, i ≤ xs.length → Pv i σ H → SqT K H a xs)
    (hs : ∀ i x σ H, xs[i]? = some x → Pv i σ H → g x σ H fun σ3 H3 => tt σ3 H3 fun b H4 => if b = true then te σ3 H4 fun v H5 => ∃ ys, H5 D = some (.lst ys) ∧ ys.length < sizeLine ∧ Pv (i + 1) σ3 (upd H5 D (.lst (ys ++ [v]))) else Pv (i + 1) σ3 H4)
    (hd : ∀ σ H, Pv xs.length σ H → Q (.ref D) H) : CompW (Itt K a) g tt te D Q σ₀ H₀ := by
  refine ⟨fun i m σ H => m = xs.length - i ∧ i ≤ xs.length ∧ Pv i σ H, ⟨xs.length, by simp, Nat.zero_le _, h0⟩, ?_⟩
  rintro i m σ H ⟨rfl, hi, p⟩
  have q := hl i σ H hi p
  by_cases hlt : i < xs.length
  · refine .inr ⟨⟨xs, xs[i], q, by simp [hlt]⟩, Pv (i + 1), fun σ' H' p' => ⟨xs.length - (i + 1), by omega, rfl, hlt, p'⟩, fun x H' y => ?_⟩
    obtain ⟨e, y⟩ := y
    subst e
    exact hs i x σ _ (y xs q) p
  · have e : i = xs.length := by omega
    subst e
    exact .inl ⟨⟨xs, q, Nat.le_refl _⟩, hd σ H p⟩

end
end L2

namespace L2
open PySem PySem.Spec PyProof.Rows

theorem ObjOk.obj {P : Program} {w : World} {H : Hp} {h : Heap} {a : Addr} : ∀ {o : HO}, ObjOk P w H h a o → ∃ u, h.get? a = some u := fun {o} x => by
  cases o with
  | lst xs => obtain ⟨_, _, _, _, e⟩ := x; exact ⟨_, e⟩
  | tup xs => obtain ⟨_, _, _, o, e, _⟩ := x; exact ⟨_, e⟩
  | dK kvs => obtain ⟨_, _, _, _, o, _, _, e, _⟩ := x; exact ⟨_, e⟩
  | dT kvs => obtain ⟨_, _, _, _, o, _, _, e, _⟩ := x; exact ⟨_, e⟩
  | set S n => obtain ⟨o, _, _, _, e, _⟩ := x; exact ⟨_, e⟩
  | ins C dx fs => obtain ⟨_, _, _, e, _⟩ := x; exact ⟨_, e⟩
  | own y => exact x
  | xd fs => obtain ⟨_, ⟨_, _, _, e, _⟩, _⟩ := x; exact ⟨_, e⟩
  | rng lo hi => obtain ⟨_, _, _, e⟩ := x; exact ⟨_, e⟩
  | frz ob u => obtain ⟨e, _⟩ := x; exact ⟨_, e⟩
  | tbl ps => exact ⟨_, (show h.get? a = some _ from x)⟩
  | met f y => exact ⟨_, (show h.get? a = some _ from x)⟩
  | ext φ => obtain ⟨_, e, _⟩ := x; exact e
def noFr (h : Heap) (l : List Env) : Heap := PySem.W.hideAll h (frs l)
theorem noFr_get {h : Heap} {l : List Env} {b : Addr} {o : Obj} (e : h.get? b = some o) (n : b ∉ frs l) : (noFr h l).get? b = some o := PySem.W.hideAll_get _ e n
theorem of_noFr {h : Heap} {l : List Env} {b : Addr} {o : Obj} (e : (noFr h l).get? b = some o) : h.get? b = some o := PySem.W.of_hideAll _ e
theorem noFr_frames {h base : Heap} {l : List Env} (x : h.FunFrames base l) : h.FunFrames (noFr h l) l := PySem.W.funFrames_hide x fun env he a hf => List.mem_filterMap.mpr ⟨env, he, hf⟩

def Sta (B : Heap) (l : List Env) (a : Addr) (cls : Value) (h : Heap) : Prop := ∃ a0,
  (B.StaysIn h ∧ B.get? a = none ∧ h.FunFrames B l ∧ ∃ oe vs, h.get? a = some oe ∧ oe.cls = cls ∧ oe.data = .fields vs ∧ vs[1]? = some .none ∧ vs[0]? = some a0) ∨
  Heap.FlyingW B l a cls a0 h ∨ ∃ L env outer, l = env :: outer ∧ env.frame = some L ∧ Heap.HeldW B l a cls a0 L h
theorem Sta.stays {B h : Heap} {l : List Env} {a : Addr} {cls : Value} (x : Sta B l a cls h) : B.StaysIn h := by
  obtain ⟨a0, x | x | ⟨_, _, _, _, _, x⟩⟩ := x
  · exact x.1
  · exact x.1
  · exact x.1
theorem Sta.frames {B h : Heap} {l : List Env} {a : Addr} {cls : Value} (x : Sta B l a cls h) : h.FunFrames B l := by
  obtain ⟨a0, x | x | ⟨_, _, _, _, _, x⟩⟩ := x
  · exact x.2.2.1
  · exact x.2.2.1
  · exact x.2.2.1
section
variable {M : Model} {A : Around} {E : Value → Shared → Prop} {s : Shared} {B : Heap} {env : Env} {outer : List Env} {L a : Addr} {cls : Value}
theorem sta_note {Q : Unit → Shared → Prop} (hfr : A.frames = some (env :: outer)) (hf : env.frame = some L) (x : Sta B (env :: outer) a cls s.heap)
    (hQ : ∀ h' a0, Heap.HeldW B (env :: outer) a cls a0 L h' → s.heap.UpToSlots h' → Q () { s with heap := h' }) : wpAny M A (noteFrame (.ref a) env) Q E s := by
  obtain ⟨a0, ⟨x1, x2, x3, oe, vs, he, hc, hd, h1, h0⟩ | x | ⟨L', env', outer', e1, e2, x⟩⟩ := x
  · unfold noteFrame
    simp only [hf]
    refine wpAny_bind (wpAny_field he hd h1 ?_)
    rw [if_neg (by decide)]
    refine wpAny_entryW hfr x3 hf he x1 x2 hd (Array.getElem?_eq_some_iff.mp h1).1 h0 fun h' hN => ?_
    obtain ⟨k1, k2, k3, k4⟩ := hN
    rw [hc] at k3
    exact hQ h' a0 ⟨k1, x2, k2, k3⟩ k4
  · exact wpAny_looks_onW hfr hf x fun h' k1 k2 => hQ h' a0 k1 k2
  · cases e1
    rw [hf] at e2
    cases e2
    exact wpAny_noteFrame_againW hf x.2.2.2 (hQ s.heap a0 x (Heap.UpToSlots.refl _))
theorem sta_leave {Q : Unit → Shared → Prop} (hfr : A.frames = some (env :: outer)) (hf : env.frame = some L) (x : Sta B (env :: outer) a cls s.heap)
    (hQ : ∀ h' a0, Heap.FlyingW B outer a cls a0 h' → s.heap.UpToSlots h' → Q () { s with heap := h' }) : wpAny M A (leaving env (.ref a)) Q E s := by
  unfold leaving
  refine wpAny_bind (sta_note hfr hf x fun h1 a0 k1 k2 => ?_)
  refine wpAny_landsW k1 fun h2 k3 k4 => ?_
  obtain ⟨c1, c2, ⟨_, _, c3⟩, c4⟩ := k3
  exact hQ h2 a0 ⟨c1, c2, c3, c4⟩ (k2.trans k4)
end

structure XAt (P : Program) (w : World) (l : List Env) (ex : List Addr) (H : Hp) (s : Shared) (B : Heap) (a : Addr) (cls : Value) (H' : Hp) (s' : Shared) : Prop where
  os : s'.os = s.os
  bare : AllBare s'.gens
  un : Un (frs l) ex H H' s.heap s'.heap
  hok : HOk P w H' s'.heap
  na : H' a = none
  sta : Sta B l a cls s'.heap
  old : ∀ b o, s.heap.get? b = some o → b ∉ frs l → b ∉ ex → ∃ o', s'.heap.get? b = some o' ∧ B.get? b = some o'
  trk : ∀ b, H' b ≠ none → ∃ o, s'.heap.get? b = some o ∧ B.get? b = some o
theorem XAt.move {P : Program} {w : World} {l l' : List Env} {ex : List Addr} {H H' : Hp} {s s' : Shared} {B h' : Heap} {a : Addr} {cls : Value} (x : XAt P w l ex H s B a cls H' s') (k : s'.heap.UpToSlots h') (st : Sta B l' a cls h')
    (hsub : ∀ b ∈ frs l', b ∈ frs l) (hin : ∀ b o, s.heap.get? b = some o → b ∈ frs l → b ∈ frs l') (hx : ∀ b ∈ frs l, b ∉ ex) : XAt P w l' ex H s B a cls H' { s' with heap := h' } := by
  have sB := st.stays
  have nf : ∀ b ∈ frs l, ∀ o, s'.heap.get? b = some o → ∀ vs, o.data ≠ .fields vs := fun b hb o e => by
    obtain ⟨_, o', e', d⟩ := x.sta.frames.mem hb
    rw [e] at e'; cases e'
    exact d
  have oldK : ∀ b o, s.heap.get? b = some o → b ∉ frs l' → b ∉ ex → ∃ o', s'.heap.get? b = some o' ∧ B.get? b = some o' := fun b o e hb he => x.old b o e (fun z => hb (hin b o e z)) he
  refine ⟨x.os, x.bare, ⟨fun b o e n hb he => ?_, fun b o e n hb he => ?_, x.un.free, fun b o e he => ?_, x.un.tups, x.un.frzs, x.un.tbls⟩, fun b u e => ?_, x.na, st, fun b o e hb he => ?_, fun b hb => ?_⟩
  · have e1 := x.un.keep b o e n (fun z => hb (hin b o e z)) he
    obtain ⟨o', e2, e3⟩ := oldK b o e hb he
    rw [e1] at e2; cases e2
    exact sB b _ e3
  · obtain ⟨sl, e1⟩ := x.un.slot b o e n (hsub b hb) he
    obtain ⟨sl', e2⟩ := k b _ e1 (nf b (hsub b hb) _ e1)
    exact ⟨sl', e2⟩
  · by_cases hb : b ∈ frs l
    · obtain ⟨_, o', e', d⟩ := x.sta.frames.mem hb
      obtain ⟨sl', e2⟩ := k b _ e' d
      exact ⟨_, e2⟩
    · obtain ⟨o', _, e3⟩ := x.old b o e hb he
      exact ⟨o', sB b _ e3⟩
  · refine (x.hok b u e).stay (fun c v hc q => ?_) (fun _ q => q) fun _ _ q => q
    have hn : H' c ≠ none := by
      rcases hc with rfl | hc
      · rw [e]; exact fun z => nomatch z
      · rw [hc]; exact fun z => nomatch z
    obtain ⟨o', e1, e2⟩ := x.trk c hn
    rw [q] at e1; cases e1
    exact sB c _ e2
  · obtain ⟨o', _, e3⟩ := oldK b o e hb he
    exact ⟨o', sB b _ e3, e3⟩
  · obtain ⟨o', _, e3⟩ := x.trk b hb
    exact ⟨o', sB b _ e3, e3⟩

def CXo (P : Program) (w : World) : CXT := fun outer H s E e s' => ∃ a cls H' B, e = .ref a ∧ XAt P w outer [] H s B a cls H' s' ∧ E cls none H'
def BodyX (X : Cx) (E : XK) (e : Value) (s' : Shared) : Prop := ∃ a cls H' B, e = .ref a ∧ XAt X.prog X.w X.stack X.ex X.H₀ X.s₀ B a cls H' s' ∧ E cls none H'
section
variable {X : Cx} {E : XK}
theorem passX {F : Value → Shared → Prop} : Passes (CXo X.prog X.w) (X.wish (BodyX X E)) E := fun pins σ H s e s' I h => by
  have I := I.unwish
  obtain ⟨a, cls, H', B, rfl, x, hE⟩ := h
  have U : Un (frs X.stack) X.ex X.H₀ H X.s₀.heap s.heap := I.base.mono (fun b hb => by
    rcases I.ok.stk with z | ⟨z, _⟩
    · rw [z]; exact hb
    · rw [z]; unfold frs; rw [List.filterMap_cons]; split
      · exact hb
      · exact List.mem_cons_of_mem _ hb) fun b hb => hb
  have U2 : Un (frs X.stack) X.ex H H' s.heap s'.heap := x.un.mono (fun b hb => hb) fun b hb => absurd hb (by simp)
  refine ⟨a, cls, H', B, rfl, ⟨x.os.trans I.os, x.bare, U.trans U2, x.hok, x.na, x.sta, fun b o q hb he => ?_, x.trk⟩, hE⟩
  obtain ⟨o1, e1⟩ := U.there b o q he
  exact x.old b o1 e1 hb (by simp)
end
structure Own (X : Cx) : Prop where
  ok : X.Ok
  top : X.stack = X.env :: X.outer
  fr : X.env.frame = some X.env.locals
  ex : X.ex = []
theorem Own.loc {X : Cx} (o : Own X) : ∀ b o', X.s₀.heap.get? b = some o' → b ∈ frs X.stack → b ∈ frs X.outer := fun b o' e hb => by
  rw [o.top] at hb
  unfold frs at hb
  rw [List.filterMap_cons, o.fr] at hb
  rcases List.mem_cons.mp hb with z | z
  · subst z
    exact absurd (Nat.lt_of_lt_of_le (Heap.lt_size e) o.ok.above) (Nat.lt_irrefl _)
  · exact z
structure ECls (K : PySem.W.Frag) (mg : Str → Option Value) (x : Str) (C : Addr) : Prop where
  g : mg x = some (.ref C)
  ex : ∃ bm newId B initId, PySem.W.excIn K C bm newId = true ∧ ExcBaseFacts B newId initId bm
def tRaise (C : Addr) (t : TA) (E : XK) : TS := fun _ σ H => t σ H fun vs H1 => vs.length ≤ sizeLine ∧ E (.ref C) none H1
theorem ecls_obj {K : PySem.W.Frag} {C : Addr} {bmB : List Value} {newId : String} {h : Heap} (X : K.In h) (q : PySem.W.excIn K C bmB newId = true) :
    ∃ bm ns nm qn bs hd sn sub ab col dd k0 k1 k2 k3 k5 mN, h.get? C = some (excClassObj nm qn C ns bs bm hd sn sub ab col dd k0 k1 k2 k3 k5 newId) ∧ h.Ns ns mN ∧ mN "__init__" = none ∧ OwnTail h bmB bm := by
  unfold PySem.W.excIn at q
  split at q
  · rename_i dd cd sl ho
    split at q
    · rename_i C' bm k0 k1 k2 k3 n k5 hm hs
      simp only [Bool.and_eq_true, beq_iff_eq, Bool.not_eq_true'] at q
      obtain ⟨⟨⟨⟨⟨rfl, rfl⟩, hdel⟩, ht⟩, hok⟩, hni⟩ := q
      obtain ⟨nm, bs, mro, ns, qn, hd, sn, sub, ab, col, del⟩ := cd
      dsimp only at hm hdel hok hni
      subst hm hdel
      have hsl : sl = #[k0, k1, k2, k3, some (.builtin n), k5] := by
        obtain ⟨l⟩ := sl
        simp only at hs
        rw [hs]
      subst hsl
      exact ⟨bm, ns, nm, qn, bs, hd, sn, sub, ab, col, dd, k0, k1, k2, k3, k5, _, X _ _ ho, .of_isNs (PySem.W.isNs_of_in X hok), PySem.W.nsMap_none_of_in X hok hni, PySem.W.tail_of_in X ht⟩
    · cases q
  · cases q
theorem ps_raise {X : Cx} {E : XK} {x : Str} {C : Addr} {np cpos pos : Pos} {e₀ : Expr} {rest : List Expr} {t : TA} (hc : X.calm = true) (Z : ECls X.K X.mg x C) (ha : PA (X.wish (BodyX X E)) (e₀ :: rest) t)
    (hg : Gl X x := by rfl) (hdb : (x == ("__debug__" : Str)) = false := by decide) (he : starEach (e₀ :: rest) X.env = (false, eval e₀ X.env) :: starEach rest X.env := by rfl) (hplain : (backTo cpos (starEach rest X.env)).any (·.1) = false := by rfl) :
    PS (X.wish (BodyX X E)) (.Raise (some (.Call (.Name x np) (e₀ :: rest) [] cpos)) none pos) (tRaise C t E) := by
  intro pins s σ H D I h
  obtain ⟨bmB, newId, Bn, initId, q, FB⟩ := Z.ex
  obtain ⟨bm, ns, nm, qn, bs, hd, sn, sub, ab, col, dd, k0, k1, k2, k3, k5, mN, hC, hN, hni, T⟩ := ecls_obj I.kIn q
  have hA := ha cpos pins s σ H _ I h
  rw [show starEach (e₀ :: rest) (X.wish (BodyX X E)).env = (false, eval e₀ X.env) :: starEach rest X.env from he] at hA
  refine wpAny_Raise_call_subT (C := C) (nm := nm) (q := qn) (N := ns) (bs := bs) (bm := bm) (hdct := hd) (sn := sn) (sub := sub) (ab := ab) (col := col) (dd := dd) (k0 := k0) (k1 := k1) (k2 := k2) (k3 := k3) (k5 := k5)
    FB (mN := mN) (T.hasType FB.hasBase) (I.ok.hd hc) (by show (backTo cpos (starEach (e₀ :: rest) X.env)).any (·.1) = false; rw [he]; show (false || (backTo cpos (starEach rest X.env)).any (·.1)) = false; rw [hplain]; rfl) hni (ld_glob I hg Z.g ⟨rfl, ?_⟩ hdb)
  show wpAny _ _ (evalArgs (.ref C) true (backTo cpos (starEach (e₀ :: rest) X.env)) []) _ _ s
  rw [he]
  refine Calls.evalArgs_plain (wpAny_mono hA (fun us s2 h2 => ?_) fun _ _ y => y)
  obtain ⟨vs, H2, I2, r2, hz, hE⟩ := h2
  obtain ⟨bm', ns', nm', qn', bs', hd', sn', sub', ab', col', dd', k0', k1', k2', k3', k5', mN', hC2, hN2, hni2, T2⟩ := ecls_obj I2.kIn q
  have J := I2.unwish
  have st : ∀ b o, X.base.get? b = some o → s2.heap.get? b = some o := J.bk
  have hC' : s2.heap.get? C = some (excClassObj nm qn C ns bs bm hd sn sub ab col dd k0 k1 k2 k3 k5 newId) := by
    obtain ⟨bm3, ns3, nm3, qn3, bs3, hd3, sn3, sub3, ab3, col3, dd3, k03, k13, k23, k33, k53, mN3, hC3, hN3, hni3, T3⟩ := ecls_obj J.ok.mod.kin q
    have e1 := (I.unwish.bk _ _ hC3).symm.trans hC
    cases e1
    exact st _ _ hC3
  have hN' : s2.heap.Ns ns mN := by
    obtain ⟨bm3, ns3, nm3, qn3, bs3, hd3, sn3, sub3, ab3, col3, dd3, k03, k13, k23, k33, k53, mN3, hC3, hN3, hni3, T3⟩ := ecls_obj J.ok.mod.kin q
    have e1 := (I.unwish.bk _ _ hC3).symm.trans hC
    injection e1 with e1
    injection e1 with _ _ e1 _
    injection e1 with e1
    injection e1 with _ _ _ e1 _ _ _ _ _ _ _
    subst e1
    have f1 := hN3.keeps I.unwish.bk
    have f2 := hN3.keeps st
    obtain ⟨o1, es1, ep1, g1, g2, g3, g4⟩ := f1
    obtain ⟨o2, es2, ep2, j1, j2, j3, j4⟩ := hN
    rw [g1] at j1; cases j1
    rw [g2] at j2; cases j2
    have em : mN3 = mN := by funext y; rw [← g4 y, ← j4 y]
    rw [← em]
    exact f2
  have T' : OwnTail s2.heap bmB bm := by
    obtain ⟨bm3, ns3, nm3, qn3, bs3, hd3, sn3, sub3, ab3, col3, dd3, k03, k13, k23, k33, k53, mN3, hC3, hN3, hni3, T3⟩ := ecls_obj J.ok.mod.kin q
    have e1 := (I.unwish.bk _ _ hC3).symm.trans hC
    injection e1 with e1
    injection e1 with _ _ e1 _
    injection e1 with e1
    injection e1 with _ _ e1 _ _ _ _ _ _ _ _
    injection e1 with _ e1
    rw [← e1]
    exact T3.keeps st
  refine ⟨rfl, by show us.length ≤ sizeLine; rw [← r2.length]; exact hz, hC', hN', T', fun h' a hx => ?_⟩
  have U : Un (frs X.stack) X.ex X.H₀ H2 X.s₀.heap s2.heap := J.base.mono (fun b hb => by
    rcases J.ok.stk with z | ⟨z, _⟩
    · rw [z]; exact hb
    · rw [z]; unfold frs; rw [List.filterMap_cons]; split
      · exact hb
      · exact List.mem_cons_of_mem _ hb) fun b hb => hb
  obtain ⟨t0, ht1, ht2, ht3⟩ := hx.there
  refine ⟨a, .ref C, H2, noFr s2.heap X.stack, rfl, ⟨J.os, J.bare, U.trans (Un.kept hx.keeps), J.hok.kept hx.keeps, ?_, ⟨_, .inl ⟨fun b o e => hx.keeps b o (of_noFr e), ?_, ?_, _, _, ht1, rfl, rfl, rfl, rfl⟩⟩, fun b o e hb he => ?_, fun b hb => ?_⟩, hE⟩
  · cases z : H2 a with
    | none => rfl
    | some u =>
      obtain ⟨o, e⟩ := (J.hok a u z).obj
      rw [hx.new] at e; cases e
  · cases z : (noFr s2.heap X.stack).get? a with
    | none => rfl
    | some o => have := of_noFr z; rw [hx.new] at this; cases this
  · exact (noFr_frames J.stack).of_keeps fun b o e _ => ⟨o, hx.keeps b o e, rfl⟩
  · obtain ⟨o1, e1⟩ := U.there b o e he
    exact ⟨o1, hx.keeps b o1 e1, noFr_get e1 hb⟩
  · obtain ⟨u, hu⟩ := Option.ne_none_iff_exists'.mp hb
    obtain ⟨o, e⟩ := (J.hok b u hu).obj
    exact ⟨o, hx.keeps b o e, noFr_get e fun z => hb (J.stkFree b z)⟩

theorem Fun.okX {P : Program} {w : World} {K : PySem.W.Frag} {mg : Str → Option Value} {base : Heap} {x qual : Str} {st : Stmt} {f : Addr} {fd : FuncData} {N ps : List Str} {k : Nat} {sp : Sp} (F : Fun K x qual st f fd) (S : FnScope N ps (defScope st)) (len : ∀ vs H Q E, sp vs H Q E → vs.length = ps.length)
    (hbody : ∀ (cdv : Value) (A : Around) (outer : List Env) (s : Shared) (H : Hp) (vs : List V) (Q : VK) (E : XK), Room k (A.deeper (envOfC qual (defScope st) s.heap.objs.size f cdv)) → sp vs H Q E → ∀ X : Cx, X = cxOf (CXo P w) P w K mg base N qual (defScope st) f cdv A outer s H E →
      ∃ t, PSs (X.wish (BodyX X E)) (defBody st) t ∧ t { nx := fun _ H' => Q .non H', rt := Q } (start N vs) H) : FnOk P w K mg base (CXo P w) (k + 1) f fd ps sp := by
  obtain ⟨oc, od, kV, doc, pm, an, cdv, ct, osl, rfl, lk, hcd⟩ := F.ex
  refine fn_of lk hcd S len fun A outer s H vs Q E hr hsp => ?_
  obtain ⟨t, h, q⟩ := hbody cdv A outer s H vs Q E hr hsp _ rfl
  refine ⟨t, fun pins s1 σ H1 D I hw => ?_, q⟩
  refine wpAny_mono (h pins s1 σ H1 D (I.wish _) hw) (fun _ _ q => q.unwish) fun e s' hx => ?_
  obtain ⟨a, cls, H', B, rfl, x, hE⟩ := hx
  have O : Own (cxOf (CXo P w) P w K mg base N qual (defScope st) f cdv A outer s H E) := ⟨I.ok, rfl, rfl, rfl⟩
  show wpAny (model P w) _ (leaving _ (.ref a)) _ _ s'
  refine sta_leave (outer := outer) I.ok.frames rfl x.sta fun h' a0 k1 k2 => ?_
  refine ⟨a, cls, H', B, rfl, x.move k2 ⟨a0, .inr (.inl k1)⟩ (fun b hb => List.mem_cons_of_mem _ hb) O.loc fun b _ => by simp [cxOf], hE⟩
end L2


namespace L2
open PySem PySem.Spec PyProof.Rows
section
variable {X : Cx}
theorem ps_sem {b : List Stmt} {R : TS} (h : ∀ D σ H, R D σ H → ∃ t, PSs X b t ∧ t D σ H) : PSs X b R := fun pins s σ H D I hw => by
  obtain ⟨t, ht, hq⟩ := h D σ H hw
  exact ht pins s σ H D I hq
theorem passF : Passes (CXo X.prog X.w) X E0 := fun _ _ _ _ _ _ _ h => by
  obtain ⟨_, _, _, _, _, _, z⟩ := h
  exact z.elim
theorem pe_fnF {x : Str} {st : Stmt} {ps : List Str} {f : Addr} {fd : FuncData} {k : Nat} {sp : Sp} {e : Expr} {es : List Expr} {t : TA} {p pos : Pos} (G : FnOk X.prog X.w X.K X.mg X.base (CXo X.prog X.w) k f fd ps sp) (F : Fn X.K X.mg x st ps f fd) (hr : Room k X.A) (ha : PA X (e :: es) t)
    (hg : Gl X x := by rfl) (hdb : (x == ("__debug__" : Str)) = false := by decide) (he : starEach (e :: es) X.env = (false, eval e X.env) :: starEach es X.env := by rfl) (hpl : (backTo pos (starEach es X.env)).any (·.1) = false := by rfl) :
    PE X (.Call (.Name x p) (e :: es) [] pos) (tCall sp [] E0 t) := pe_call G hr hg F.g F.fn.kp F.b .nil passF ha hdb he hpl
theorem pe_fnX {E : XK} {x : Str} {st : Stmt} {ps : List Str} {f : Addr} {fd : FuncData} {k : Nat} {sp : Sp} {e : Expr} {es : List Expr} {t : TA} {p pos : Pos} (G : FnOk X.prog X.w X.K X.mg X.base (CXo X.prog X.w) k f fd ps sp) (F : Fn X.K X.mg x st ps f fd) (hr : Room k X.A) (ha : PA (X.wish (BodyX X E)) (e :: es) t)
    (hg : Gl (X.wish (BodyX X E)) x := by rfl) (hdb : (x == ("__debug__" : Str)) = false := by decide) (he : starEach (e :: es) X.env = (false, eval e X.env) :: starEach es X.env := by rfl) (hpl : (backTo pos (starEach es X.env)).any (·.1) = false := by rfl) :
    PE (X.wish (BodyX X E)) (.Call (.Name x p) (e :: es) [] pos) (tCall sp [] E t) := pe_call (X := X.wish (BodyX X E)) G hr hg F.g F.fn.kp F.b .nil (passX (F := fun _ _ => True)) ha hdb he hpl

theorem Fun.okX2 {P : Program} {w : World} {K : PySem.W.Frag} {mg : Str → Option Value} {base : Heap} {x qual : Str} {st : Stmt} {f : Addr} {fd : FuncData} {N ps : List Str} {k : Nat} {sp : Sp} (F : Fun K x qual st f fd) (S : FnScope N ps (defScope st)) (len : ∀ vs H Q E, sp vs H Q E → vs.length = ps.length)
    (hbody : ∀ (cdv : Value) (A : Around) (outer : List Env) (s : Shared) (H : Hp) (vs : List V) (Q : VK) (E : XK), Room k (A.deeper (envOfC qual (defScope st) s.heap.objs.size f cdv)) → sp vs H Q E → Own (cxOf (CXo P w) P w K mg base N qual (defScope st) f cdv A outer s H E) →
      ∃ t, PSs ((cxOf (CXo P w) P w K mg base N qual (defScope st) f cdv A outer s H E).wish (BodyX (cxOf (CXo P w) P w K mg base N qual (defScope st) f cdv A outer s H E) E)) (defBody st) t ∧ t { nx := fun _ H' => Q .non H', rt := Q } (start N vs) H) : FnOk P w K mg base (CXo P w) (k + 1) f fd ps sp := by
  refine F.okX S len fun cdv A outer s H vs Q E hr h X hX => ?_
  subst hX
  by_cases ok : (cxOf (CXo P w) P w K mg base N qual (defScope st) f cdv A outer s H E).Ok
  · exact hbody cdv A outer s H vs Q E hr h ⟨ok, rfl, rfl, rfl⟩
  · exact ⟨fun _ _ _ => True, fun pins s σ H D I _ => absurd I.ok.unwish ok, trivial⟩
theorem Room.lt {k : Nat} {A : Around} (r : Room k A) (n : Nat) (h : n ≤ 62) : A.units + n + 1 < cLine := by have := r.units; omega

def PJ (X : Cx) (es : List Expr) (m : Nat) (t : St → Hp → Prop) : Prop :=
  ∀ (pins : List (Addr × Obj)) (s : Shared) (σ : St) (H : Hp) (out : Str) (Q : Value → Shared → Prop), Inv X pins σ H s → t σ H → out.length + m ≤ sizeLine → (∀ x tk s', Inv X pins σ H s' → Q (.str x tk) s') →
    wpAny (model X.prog X.w) X.A (joinParts out (evalEach es X.env)) Q X.xe s
def jNil : St → Hp → Prop := fun _ _ => True
theorem pj_nil : PJ X [] 0 jNil := fun pins s σ H out Q I _ hz q => joinParts_nil (q _ _ _ (I.tok _)) (by omega)
theorem pj_str {x : Str} {j} {pos : Pos} {es : List Expr} {m : Nat} {t : St → Hp → Prop} (h : PJ X es m t) : PJ X (.Constant (.str x) j pos :: es) (x.length + m) t := fun pins s σ H out Q I ht hz q => by
  show wpAny _ _ (joinParts out (eval (.Constant (.str x) j pos) X.env :: evalEach es X.env)) Q _ s
  have e : (out ++ x).length = out.length + x.length := strLen_append _ _
  refine joinParts_cons (Calls.Constant_str ?_)
  exact ⟨by rw [e]; omega, h pins _ σ H (out ++ x) Q (I.tok _) ht (by rw [e]; omega) q⟩
def tFs (t : St → Hp → Prop) : TE := fun σ H Q => t σ H ∧ ∀ x, Q (.str x) H
theorem pe_fs {a b : Expr} {es : List Expr} {pos : Pos} {m : Nat} {t : St → Hp → Prop} (h : PJ X (a :: b :: es) m t) (hm : m ≤ 1000000) : PE X (.JoinedStr (a :: b :: es) pos) (tFs t) := fun pins s σ H Q I hw => by
  have e : Str.empty.length = 0 := rfl
  have z : sizeLine = 16777216 := sizeLine_eq
  exact JoinedStr_many (h pins s σ H Str.empty _ I hw.1 (by rw [e, z]; omega) fun x tk s' I' => ⟨.str x, H, I', ⟨_, rfl⟩, hw.2 x⟩)
end

end L2

namespace L2
open PySem PySem.Spec PyProof.Rows
section
variable {X : Cx}
theorem vals_at {xs : List V} {its : List Value} {j : Nat} (r : Vals xs its) (hj : j < its.toArray.size) : ∃ x, xs[j]? = some x ∧ RelV x its.toArray[j] := by
  have hl := r.length
  have hx : j < xs.length := by rw [List.size_toArray] at hj; omega
  obtain ⟨u, hu, ru⟩ := r.get (List.getElem?_eq_getElem hx)
  refine ⟨_, List.getElem?_eq_getElem hx, ?_⟩
  have z : its.toArray[j]? = some u := by simpa using hu
  rw [(Array.getElem?_eq_some_iff.mp z).2]
  exact ru
end
end L2

namespace L2
open PySem PySem.Spec PyProof.Rows

theorem compOk1 {X : Cx} {scope : Scope} {pre : List Str} {y : Str} {c : Addr} {j : Nat} (hkind : scope.kind = .function) (h : ∀ z ∈ scope.names, z.2 ≠ .cell ∧ (z.2 = .free → z.1 = y)) (hn : ∀ z ∈ scope.names, z.2 = .local → scope.names.lookup z.1 = some .local)
    (hcl : closureFor scope X.env = pure [(y, c)]) (hc : X.env.cells.lookup y = some c) (hN : X.N[j]? = some y) (hk : X.env.kindOf y = some .cell) (hr : (relabel scope X.env).names.lookup y = some .cell) :
    CompOk X scope [(y, c)] (pre ++ [y]) (List.replicate pre.length none ++ [some j]) where
  clos := hcl
  cell := fun z hz => (h z hz).1
  kind := hkind
  names := hn
  cls := fun x c' e => by
    rw [List.lookup_cons] at e
    split at e
    · rename_i hx
      rw [eq_of_beq hx, ← e]
      exact hc
    · cases e
  has := fun x e => by
    have key : ∀ k, (relabel scope X.env).names.lookup x = some k → k = .cell ∨ k = .free → x = y := fun k e hk => by
      have hm := PySem.mem_of_lookup e
      obtain ⟨⟨n, k'⟩, hy, ey⟩ := List.mem_map.mp hm
      have h1 := h _ hy
      by_cases hf : k' = .free
      · have z := h1.2 hf
        dsimp only at ey
        split at ey
        · cases ey; exact z
        · cases ey; exact z
      · have hb : (k' == NameKind.free) = false := by simpa using hf
        simp only [hb, Bool.false_and, Bool.false_eq_true, if_false, Prod.mk.injEq] at ey
        obtain ⟨_, rfl⟩ := ey
        rcases hk with hk | hk
        · exact absurd hk h1.1
        · exact absurd hk hf
    have hxy : x = y := by
      rcases e with e | e
      · exact key _ e (.inl rfl)
      · exact key _ e (.inr rfl)
    exact ⟨c, by rw [hxy, List.lookup_cons, beq_self_eq_true]⟩
  len := by simp
  src := fun i k x e1 e2 => by
    by_cases hi : i < pre.length
    · rw [List.getElem?_append_left (by simpa using hi), List.getElem?_replicate, if_pos hi] at e1
      cases e1
    · have hl := (List.getElem?_eq_some_iff.mp e2).1
      rw [List.length_append, List.length_singleton] at hl
      have e : i = pre.length := by omega
      subst e
      rw [List.getElem?_append_right (by simp)] at e1
      rw [List.getElem?_append_right (Nat.le_refl _)] at e2
      simp at e1 e2
      subst e1 e2
      exact ⟨hN, .inl hk, .inl hr⟩

theorem compOk2 {X : Cx} {scope : Scope} {x y : Str} {c : Addr} {j : Nat} (hkind : scope.kind = .function) (h : ∀ z ∈ scope.names, z.2 ≠ .cell ∧ (z.2 = .free → z.1 = y)) (hn : ∀ z ∈ scope.names, z.2 = .local → scope.names.lookup z.1 = some .local)
    (hcl : closureFor scope X.env = pure [(y, c)]) (hc : X.env.cells.lookup y = some c) (hN : X.N[j]? = some y) (hk : X.env.kindOf y = some .cell) (hr : (relabel scope X.env).names.lookup y = some .cell) :
    CompOk X scope [(y, c)] [x, y] [none, some j] := compOk1 (pre := [x]) hkind h hn hcl hc hN hk hr
theorem bind_name {M : Model} {A : Around} {E : Value → Shared → Prop} {s : Shared} {env : Env} {x : Str} {v : Value} {Q : Unit → Shared → Prop} (h : wpAny M A (storeName env x v) Q E s) : wpAny M A (bindName env x v) Q E s := fun Γ p hΓ => by
  rw [Sem.wp_bindName]
  exact h Γ _ hΓ
theorem ps_comp {X : Cx} {elt iter tg : Expr} {ifs : List Expr} {scope : Scope} {pos pos' ps : Pos} {x : Str} {ix : Nat} {cl : List (Str × Addr)} {NC : List Str} {ini : List (Option Nat)} {wi : TI} {g : TG} {tt : TT} {te : TE}
    (hN : X.N.Nodup) (hix : X.N[ix]? = some x) (hx : Loc X.env.scope x) (hc : X.calm = true) (O : CompOk X scope cl NC ini) (hi : PI X tg iter wi)
    (hg : ∀ fp C s₀ H₀, PG (cxComp X scope cl NC fp C s₀ H₀) tg g) (ht : ∀ fp C s₀ H₀, PTs (cxComp X scope cl NC fp C s₀ H₀) ifs tt) (he : ∀ fp C s₀ H₀, PE (cxComp X scope cl NC fp C s₀ H₀) elt te)
    (hs : ∀ x, foldedSetIterable iter X.env x = pure x := by intro _; rfl) (hsw : swapsWith (.ListComp elt [⟨tg, iter, ifs, 0⟩] scope pos) (some (.Name x pos')) ps.line X.env = pure true := by rfl)
    (hf : X.fn x = true ∨ X.env.scope.names.lookup x = some .local := by first | exact .inl rfl | exact .inr rfl | assumption) : PS X (.Assign [.Name x pos'] (.ListComp elt [⟨tg, iter, ifs, 0⟩] scope pos) ps) (tAsg (tComp wi g tt te ini) (gName ix)) := by
  intro pins s σ H Dn I h
  rw [exec_Assign_Name_used _ _ _ _ hsw]
  refine wpAny_bind (wpAny_standAt (wpAny_bind ?_))
  show wpAny _ _ (comprehension (.ListComp elt [⟨tg, iter, ifs, 0⟩] scope pos) scope X.env _ (newList []) false (eval iter X.env) (some (assign (.Name x pos') X.env)) >>= fun _ => pure ()) _ _ s
  refine wpAny_bind ?_
  refine wpAny_comprehension_free (use := some (assign (.Name x pos') X.env)) rfl hs O.clos O.kind O.names (thn (hi pins s σ H _ I h) fun v s1 h1 => thn h1 fun itv s2 h2 => ?_)
  obtain ⟨it, fp, tn, J, H2, e, I2, T, st2, f2, h2⟩ := h2
  subst e
  have hD : H2 s2.heap.objs.size = none := I2.hok.fresh (Nat.le_refl _)
  obtain ⟨W, ⟨m0, w0⟩, turn⟩ := h2 _ hD
  refine wpAny_newObj_type (wpAny_newFunctionEnv O.cell (by intro y hy; simp at hy) (fun h₁ hns₁ hsb₁ => ?_) O.kind)
  dsimp only at hns₁ hsb₁ ⊢
  have I3 : Inv X pins σ (upd H2 s2.heap.objs.size (.lst [])) { s2 with heap := s2.heap.push { cls := .type "list", dict := none, data := .seq ([] : List Value).toArray } } := I2.lnew (its := []) (t' := s2.toks) .nil (by decide)
  have ob2 : ∀ b ∈ fp, ∃ o, s2.heap.get? b = some o := fun b hb => let ⟨o, e, _⟩ := T.obj 0 _ st2 b hb; ⟨o, e⟩
  have neD : ∀ b ∈ fp, b ≠ s2.heap.objs.size := fun b hb => let ⟨o, e⟩ := ob2 b hb; Nat.ne_of_lt (Heap.lt_size e)
  have f3 : ∀ b ∈ fp, FpOk X pins (upd H2 s2.heap.objs.size (.lst [])) b := fun b hb => ⟨by rw [upd_ne (neD b hb)]; exact (f2 b hb).1, (f2 b hb).2⟩
  generalize hs3 : ({ s2 with heap := s2.heap.push { cls := .type "list", dict := none, data := .seq ([] : List Value).toArray } } : Shared) = s3 at I3
  have hh3 : s2.heap.push { cls := .type "list", dict := none, data := .seq ([] : List Value).toArray } = s3.heap := by rw [← hs3]
  have ob3 : ∀ b ∈ fp, ∃ o, s3.heap.get? b = some o := fun b hb => let ⟨o, e⟩ := ob2 b hb; ⟨o, by rw [← hh3]; exact Heap.get?_push_of_some _ e⟩
  rw [hh3] at hns₁ hsb₁ ⊢
  have old : ∀ b o, s3.heap.get? b = some o → h₁.get? b = some o := fun b o e => hsb₁.extBut b o (Nat.ne_of_lt (Heap.lt_size e)) (Heap.get?_push_of_some _ e)
  have st1 : tn 0 h₁ := T.keep 0 _ _ st2 fun b hb o e => old b o (by rw [← hh3]; exact Heap.get?_push_of_some _ e)
  have IC : ∀ tk, Inv (cxComp X scope cl NC fp s3.heap.objs.size s3 (upd H2 s2.heap.objs.size (.lst []))) [] (iniSt ini σ) (upd H2 s2.heap.objs.size (.lst [])) { s3 with heap := h₁, toks := tk } := fun tk => inv_comp O I3 f3 ob3 hns₁ old
  have stat : ∀ {H' : Hp}, (∀ b ∈ fp, H' b = none) → ∀ b ∈ fp, FpOk (cxComp X scope cl NC fp s3.heap.objs.size s3 (upd H2 s2.heap.objs.size (.lst []))) [] H' b := fun {H'} hn b hb => by
    obtain ⟨o, e⟩ := ob3 b hb
    refine ⟨hn b hb, Nat.ne_of_lt (Heap.lt_size e), fun z => ?_, .inl hb, fun x c hx => (f3 b hb).2.2.2.2.1 x c (O.cls x c hx), fun p hp => absurd (show p ∈ ([] : List (Addr × Obj)) from hp) (by simp)⟩
    rcases List.mem_cons.mp (I3.stkSub b z) with q | q
    · exact (f3 b hb).2.1 q
    · exact (f3 b hb).2.2.1 q
  have loop : ∀ s₃ : Shared, s₃ = { s2 with heap := h₁, toks := s2.toks + ([] : List (Str × Value)).length } →
      codeAny (model X.prog X.w) X.A (.compLoop (.ListComp elt [⟨tg, iter, ifs, 0⟩] scope pos) 0 (.ref it) (.ref s2.heap.objs.size) (compEnvC scope cl s3.heap.objs.size X.env))
        (compPost (model X.prog X.w) X.A X.xe (some (assign (.Name x pos') X.env)) (fun _ sE => wpAny (model X.prog X.w) X.A (pure ()) (fun _ s₁ => wpAny (model X.prog X.w) X.A (pure Flow.next) (SP X pins Dn) X.xe s₁) X.xe sE) (.ref s2.heap.objs.size) s3.heap.objs.size) s₃ := by
    rintro s₃ rfl
    refine codeAny_loop rfl (fun n s' => ∃ i σ' H', Inv (cxComp X scope cl NC fp s3.heap.objs.size s3 (upd H2 s2.heap.objs.size (.lst []))) [] σ' H' s' ∧ tn i s'.heap ∧ (∀ b ∈ fp, H' b = none) ∧ W i n σ' H') (fun n s' hI => ?_) m0
      ⟨0, _, _, by have z := IC (s2.toks + ([] : List (Str × Value)).length); rw [← hs3] at z ⊢; exact z, st1, fun b hb => (f3 b hb).1, w0⟩
    show wpAny _ X.A ((compTurn (.ListComp elt [⟨tg, iter, ifs, 0⟩] scope pos) 0 (.ref it) (.ref s2.heap.objs.size) (compEnvC scope cl s3.heap.objs.size X.env)).onRaise (fun x => do noteFrame x (compEnvC scope cl s3.heap.objs.size X.env); theTreesLotGoes x)) _ _ s'
    refine wpAny_noted ?_
    rw [compTurn_list]
    obtain ⟨i, σ3, H3, I3', st3, fr3, w3⟩ := hI
    rcases turn i n σ3 H3 w3 with ⟨stop, qn⟩ | ⟨go, N, hN, step⟩
    · refine wpAny_bind (wpAny_standAt (wpAny_bind (thn (T.done (cxComp X scope cl NC fp s3.heap.objs.size s3 (upd H2 s2.heap.objs.size (.lst []))) rfl rfl rfl hc i [] s' σ3 H3 _ I3' (stat fr3) st3 stop) fun r s4 ⟨hr, I4⟩ => ?_)))
      subst hr
      obtain ⟨m', hn', _⟩ := I4.loc
      refine wpAny_pure ?_
      show wpAny _ _ (do standAt pos'; bindName X.env x (.ref s2.heap.objs.size)) _ _ s4
      refine wpAny_bind (wpAny_standAt ?_)
      have IX : Inv X pins σ H3 s4 := comp_back I3 f3 I4 (Heap.SameBut.refl _ _)
      have fC : FpOk X pins H3 s3.heap.objs.size := I3.fpOk (Nat.le_refl _) I4.free
      obtain ⟨c0, c1, c2, c3, c4, c5⟩ := fC
      refine bind_name (store_ok2 IX hN hix hx (v := .ref s2.heap.objs.size) rfl (fun s5 I5 sb => ?_) hf)
      obtain ⟨aa, sb1, sb2⟩ := sb
      have nA : s3.heap.objs.size ≠ aa := by
        rcases sb2 with z | z
        · rw [z]; exact c1
        · exact Ne.symm (c4 x aa z)
      obtain ⟨oo, es, ep, g1, g2⟩ := hn'
      refine ⟨m', ⟨oo, es, ep, (sb1.2 _ nA).trans g1, g2⟩, fun h' hs' => wpAny_pure (wpAny_pure ⟨_, H3, I5.turned (t' := s5.toks) (fun b o hb e => (hs'.2 b hb).trans e) c0 c1 c3 c4 c5, qn⟩)⟩
    · refine wpAny_bind (wpAny_standAt (wpAny_bind (thn (T.item (cxComp X scope cl NC fp s3.heap.objs.size s3 (upd H2 s2.heap.objs.size (.lst []))) rfl rfl rfl hc i [] s' σ3 H3 _ I3' (stat fr3) st3 go) fun r s4 ⟨u, hr, h4⟩ => ?_)))
      subst hr
      refine wpAny_bind (thn h4 fun _ s5 ⟨x, H5, I5, r5, y5, st5, fr5⟩ => ?_)
      have I5' := I5.pinned (stat fr5) (T.obj _ _ st5)
      refine wpAny_bind (quietX (hg fp _ s3 _ _ s5 σ3 H5 x u _ I5' r5 (step x H5 y5)) fun _ s6 ⟨σ6, H6, I6, q6⟩ => ?_)
      have again : ∀ {s7 : Shared} {H7 : Hp}, Inv (cxComp X scope cl NC fp s3.heap.objs.size s3 (upd H2 s2.heap.objs.size (.lst []))) ([] ++ pinsAt fp s5.heap) σ6 H7 s7 → N σ6 H7 →
          ∃ m, m < n ∧ ∃ i σ' H', Inv (cxComp X scope cl NC fp s3.heap.objs.size s3 (upd H2 s2.heap.objs.size (.lst []))) [] σ' H' s7 ∧ tn i s7.heap ∧ (∀ b ∈ fp, H' b = none) ∧ W i m σ' H' := fun {s7 H7} I7 n7 => by
        obtain ⟨m', hm, w7⟩ := hN σ6 H7 n7
        refine ⟨m', hm, i + 1, σ6, H7, I7.unpinned, T.keep _ _ _ st5 fun b hb o e => (I7.pin (b, o) (List.mem_append_right _ (List.mem_append_right _ (mem_pinsAt hb e)))).1, fun b hb => ?_, w7⟩
        obtain ⟨o, e, d⟩ := T.obj _ _ st5 b hb
        exact (I7.pin (b, o) (List.mem_append_right _ (List.mem_append_right _ (mem_pinsAt hb e)))).2.1
      refine wpAny_bind (quietX (ht fp _ s3 _ _ s6 σ6 H6 _ I6 q6) fun ok s7 ⟨H7, I7, q7⟩ => ?_)
      cases ok with
      | false => exact wpAny_pure ⟨rfl, again I7 q7⟩
      | true =>
        refine wpAny_bind (wpAny_bind (quietX (he fp _ s3 _ _ s7 σ6 H7 _ I7 q7) fun u8 s8 ⟨v8, H8, I8, r8, ys, hy, hz, n8⟩ => ?_))
        refine wpAny_bind (quietX (mt_append _ s8 σ6 H8 (.ref s2.heap.objs.size) [v8] (.ref s2.heap.objs.size) [u8] (fun _ H9 => N σ6 H9) I8 rfl (.cons r8 .nil) ⟨_, ys, v8, rfl, rfl, hy, hz, n8⟩) fun _ s9 ⟨_, H9, I9, _, n9⟩ => ?_)
        exact wpAny_pure (wpAny_pure ⟨rfl, again I9 n9⟩)
  exact codeAny_compStart_list (loop _ rfl) (T.self _ 0 _ _ _ st1 (loop _ rfl))

theorem ix_tupK {X : Cx} {K : PySem.W.Frag} (hK : X.K = K) : IxR X (rIxT K) := hK ▸ ix_tup

end L2

namespace L2
open PySem PySem.Spec PyProof.Rows
theorem reads_ints {h : Heap} : ∀ {ns : List Int} {its : List Value}, Vals (ns.map V.int) its → ReadsAll h its (ns.map PyData.int) []
  | [], _, .nil => .nil
  | n :: ns, _ :: _, .cons r t => by
    obtain ⟨tk, rfl⟩ := r
    exact ReadsAll.cons (as := []) (bs := []) (.int n tk) (reads_ints t)
theorem ints_showable : ∀ {ns : List Int}, (∀ n ∈ ns, n.natAbs.log2 < 1920) → PyData.showableAll (ns.map PyData.int) = true
  | [], _ => rfl
  | n :: ns, h => by
    show (decide (n.natAbs.log2 < 1920) && PyData.showableAll (ns.map PyData.int)) = true
    rw [decide_eq_true (h n List.mem_cons_self), ints_showable fun m hm => h m (List.mem_cons_of_mem _ hm)]
    rfl
theorem ints_noDict : ∀ ns : List Int, PyData.hasDictAll (ns.map PyData.int) = false
  | [] => rfl
  | n :: ns => by show (false || PyData.hasDictAll (ns.map PyData.int)) = false; rw [ints_noDict ns]; rfl
theorem ints_depth : ∀ ns : List Int, PyData.depthAll (ns.map PyData.int) = 0
  | [] => rfl
  | n :: ns => by show max 0 (PyData.depthAll (ns.map PyData.int)) = 0; rw [ints_depth ns]; rfl
theorem ints_shown : ∀ {ns : List Int}, (∀ n ∈ ns, n.natAbs.log2 < 1920) → (PyData.shownAll (ns.map PyData.int)).length = ns.length ∧ ((PyData.shownAll (ns.map PyData.int)).map (·.length)).sum ≤ 1921 * ns.length
  | [], _ => ⟨rfl, Nat.le_refl _⟩
  | n :: ns, h => by
    obtain ⟨e1, e2⟩ := ints_shown (ns := ns) fun m hm => h m (List.mem_cons_of_mem _ hm)
    have l1 := int_text_length_le (k := 1920) (by decide) (h n List.mem_cons_self)
    refine ⟨by show (PyData.shownAll (ns.map PyData.int)).length + 1 = ns.length + 1; rw [e1], ?_⟩
    show (Str.ofString (toString n)).length + ((PyData.shownAll (ns.map PyData.int)).map (·.length)).sum ≤ 1921 * (ns.length + 1)
    rw [PySem.ofString_length]
    omega
end L2

namespace L2
open PySem PySem.Spec PyProof.Rows
theorem bb_max : bootBuiltins "max" = some (.builtin "max") := by decide +kernel
section
variable {X : Cx}
def jTup (te : TE) (t : St → Hp → Prop) : St → Hp → Prop := fun σ H => te σ H fun v H' => H' = H ∧ (∃ (l : Addr) (ns : List Int), v = .ref l ∧ H l = some (.tup (ns.map V.int)) ∧ ns.length ≤ 100 ∧ ∀ n ∈ ns, n.natAbs.log2 < 1920) ∧ t σ H
theorem pj_tup {a : Expr} {pos : Pos} {es : List Expr} {m : Nat} {t : St → Hp → Prop} {te : TE} (hg : X.A.guards = some []) (hu : X.A.units + 3 < cLine) (ha : PE X a te) (h : PJ X es m t) : PJ X (.FormattedValue a (-1) none pos :: es) (200000 + m) (jTup te t) := fun pins s σ H out Q I ht hz q => by
  show wpAny _ _ (joinParts out (eval (.FormattedValue a (-1) none pos) X.env :: evalEach es X.env)) Q _ s
  refine joinParts_cons (FormattedValue_plain (thn (ha pins s σ H _ I ht) fun u s1 h1 => ?_))
  obtain ⟨v, H1, I1, r, rfl, ⟨l, ns, rfl, hl, hn, hsm⟩, ht1⟩ := h1
  cases r
  obtain ⟨z2, its, rv, ⟨o, e, hc, n, hd⟩⟩ := I1.hok l _ hl
  have rd : Reads s1.heap (.ref l) (.tuple (ns.map PyData.int)) [] := Reads.tuple (as := []) e hc hd (reads_ints rv)
  obtain ⟨e1, e2⟩ := ints_shown hsm
  have l1 := tupleText_len_le (PyData.shownAll (ns.map PyData.int))
  have l2 : (PyData.shown (.tuple (ns.map PyData.int))).length ≤ 200000 := by
    show (tupleText (PyData.shownAll (ns.map PyData.int))).length ≤ 200000
    omega
  have sz := sizeLine_eq
  have dep : (PyData.tuple (ns.map PyData.int)).depth = 1 := by
    show PyData.depthAll (ns.map PyData.int) + 1 = 1
    rw [ints_depth]
  refine formatField_of_reads rd (ints_showable hsm) (PyData.noDict_hsm (ints_noDict ns)) hg (by rw [dep]; exact hu) (fun _ _ e => e) (fun h' u tk hk => ?_) (by rw [sz]; omega)
  have e3 : (out ++ PyData.shown (.tuple (ns.map PyData.int))).length = out.length + (PyData.shown (.tuple (ns.map PyData.int))).length := strLen_append _ _
  exact ⟨by rw [e3]; omega, h pins _ σ H1 _ Q (I1.kept (t' := tk) hk) ht1 (by rw [e3]; omega) q⟩
end
end L2
namespace L2
open PySem PySem.Spec PyProof.Rows
section
variable {X : Cx} {a b c d : Expr} {ta tb tc td : TE} {pos : Pos}
def tChain3 (r r' r3 : R2) (ta tb tc td : TE) : TE := fun σ H Q => ta σ H fun x H1 => tb σ H1 fun y H2 => r x y H2 fun z H3 => ∃ k, z = .bl k ∧
  (if k = true then tc σ H3 fun y' H4 => r' y y' H4 fun z' H5 => ∃ k', z' = .bl k' ∧ (if k' = true then td σ H5 fun x' H6 => r3 y' x' H6 Q else Q (.bl false) H5) else Q (.bl false) H3)
theorem pt_chain3 {op op' op3 : CmpOp} {r r' r3 : R2} (ho : OpR X (compareOp op) r) (ho' : OpR X (compareOp op') r') (ho3 : OpR X (compareOp op3) r3) (ha : PE X a ta) (hb : PE X b tb) (hc : PE X c tc) (hd : PE X d td)
    (hm : lastMarks [op, op', op3] [b, c, d] = false := by with_unfolding_all rfl) : PT X (.Compare a [op, op', op3] [b, c, d] pos) (tTest (tChain3 r r' r3 ta tb tc td)) := by
  intro pins s σ H Q I h
  refine isTrue_chain (thn (ha pins s σ H _ I h) fun v s1 ⟨x, H1, I1, r1, q1⟩ => test_link (thn (hb pins s1 σ H1 _ I1 q1) fun u s2 ⟨y, H2, I2, r2, q2⟩ =>
    thn (ho pins s2 σ H2 x y v u _ I2 r1 r2 q2) fun d s3 ⟨z, H3, I3, r3, k, e, q3⟩ => ?_)) hm
  subst e
  cases r3
  refine wpAny_truthy_bool ?_
  cases k with
  | false =>
    obtain ⟨k', e', q'⟩ := q3
    cases e'
    exact ite_ff ⟨H3, I3, q'⟩
  | true =>
    refine ite_tt (test_link (thn (hc pins s3 σ H3 _ I3 q3) fun w' s4 ⟨z', H4, I4, r4, q4⟩ => thn (ho' pins s4 σ H4 y z' u w' _ I4 r2 r4 q4) fun d' s5 ⟨z2, H5, I5, r5, k2, e2, q5⟩ => ?_))
    subst e2
    cases r5
    refine wpAny_truthy_bool ?_
    cases k2 with
    | false =>
      obtain ⟨k', e', q'⟩ := q5
      cases e'
      exact ite_ff ⟨H5, I5, q'⟩
    | true =>
      refine ite_tt (test_last (thn (hd pins s5 σ H5 _ I5 q5) fun x5 s6 ⟨z5, H6, I6, r6, q6⟩ => thn (ho3 pins s6 σ H6 z' z5 w' x5 _ I6 r4 r6 q6) fun d3 s7 ⟨z7, H7, I7, r7, k7, e7, q7⟩ => ?_))
      subst e7
      cases r7
      exact wpAny_truthy_bool ⟨H7, I7, q7⟩
end
end L2

namespace L2
open PySem PySem.Spec PyProof.Rows
section
variable {X : Cx}
theorem tup_items {s : Shared} {A : Around} {ns ms : List Int} {i1 i2 : List Value} (r1 : Vals (ns.map V.int) i1) (r2 : Vals (ms.map V.int) i2) (j : Nat) (h1 : j < i1.toArray.size) (h2 : j < i2.toArray.size) :
    SeqAt.EqAt A.in1 s i1.toArray[j] i2.toArray[j] (ns.getD j 0 == ms.getD j 0) := by
  have l1 : ns.length = i1.length := by have z := r1.length; rwa [List.length_map] at z
  have l2 : ms.length = i2.length := by have z := r2.length; rwa [List.length_map] at z
  have hj : j < ns.length := by simp only [List.size_toArray] at h1; omega
  have hj2 : j < ms.length := by simp only [List.size_toArray] at h2; omega
  obtain ⟨x1, e1, t1⟩ := vals_at r1 h1
  obtain ⟨x2, e2, t2⟩ := vals_at r2 h2
  rw [List.getElem?_map, List.getElem?_eq_getElem hj] at e1
  rw [List.getElem?_map, List.getElem?_eq_getElem hj2] at e2
  obtain rfl := Option.some.inj e1
  obtain rfl := Option.some.inj e2
  obtain ⟨k1, q1⟩ := t1
  obtain ⟨k2, q2⟩ := t2
  rw [q1, q2]
  have g1 : ns.getD j 0 = ns[j] := by simp [List.getD, List.getElem?_eq_getElem hj]
  have g2 : ms.getD j 0 = ms[j] := by simp [List.getD, List.getElem?_eq_getElem hj2]
  rw [g1, g2]
  exact SeqAt.EqAt.int_int (A := A.in1) (s := s) ns[j] k1 ms[j] k2
theorem tup_answer {ns ms : List Int} {i1 i2 : List Value} (r1 : Vals (ns.map V.int) i1) (r2 : Vals (ms.map V.int) i2) :
    ((List.range (min i1.toArray.size i2.toArray.size)).all (fun j => ns.getD j 0 == ms.getD j 0) && i1.toArray.size == i2.toArray.size) = decide (ns = ms) := by
  have l1 : ns.length = i1.length := by have z := r1.length; rwa [List.length_map] at z
  have l2 : ms.length = i2.length := by have z := r2.length; rwa [List.length_map] at z
  by_cases c : ns = ms
  · subst c
    rw [decide_eq_true rfl, Bool.and_eq_true]
    exact ⟨List.all_eq_true.mpr fun _ _ => beq_self_eq_true _, by simp only [List.size_toArray, ← l1, ← l2]; exact beq_self_eq_true _⟩
  · rw [decide_eq_false c]
    refine Bool.eq_false_iff.mpr fun z => c ?_
    rw [Bool.and_eq_true] at z
    have hl : ns.length = ms.length := by have z2 := eq_of_beq z.2; simp only [List.size_toArray] at z2; omega
    refine List.ext_getElem hl fun j q1 q2 => ?_
    have z2 := List.all_eq_true.mp z.1 j (List.mem_range.mpr (by simp only [List.size_toArray]; omega))
    have g1 : ns.getD j 0 = ns[j] := by simp [List.getD, List.getElem?_eq_getElem q1]
    have g2 : ms.getD j 0 = ms[j] := by simp [List.getD, List.getElem?_eq_getElem q2]
    rw [← g1, ← g2]
    exact eq_of_beq z2
theorem eqAt_tupD {pins : List (Addr × Obj)} {σ : St} {H : Hp} {s : Shared} {A : Around} {t u : Addr} {ns ms : List Int} (I : Inv X pins σ H s) (hu : A.units < cLine) (ht : SqT X.K H t (ns.map V.int)) (hw : SqT X.K H u (ms.map V.int)) : SeqAt.EqAt A s (.ref t) (.ref u) (decide (ns = ms)) := by
  obtain ⟨i1, r1, p1, z1⟩ := I.tuple ht
  obtain ⟨i2, r2, p2, z2⟩ := I.tuple hw
  by_cases e : t = u
  · subst e
    have ee : i1 = i2 := by
      obtain ⟨o1, e1, d1, n1, f1⟩ := p1
      obtain ⟨o2, e2, d2, n2, f2⟩ := p2
      rw [e1] at e2; cases e2
      rw [f1] at f2
      injection f2 with f3 _
      simpa using congrArg Array.toList f3
    subst ee
    have en : ns = ms := by
      have l1 : ns.length = i1.length := by have z := r1.length; rwa [List.length_map] at z
      have l2 : ms.length = i1.length := by have z := r2.length; rwa [List.length_map] at z
      refine List.ext_getElem (by omega) fun j q1 q2 => ?_
      have a1 : (ns.map V.int)[j]? = some (.int ns[j]) := by rw [List.getElem?_map, List.getElem?_eq_getElem q1]; rfl
      have a2 : (ms.map V.int)[j]? = some (.int ms[j]) := by rw [List.getElem?_map, List.getElem?_eq_getElem q2]; rfl
      obtain ⟨u1, e1, t1, rfl⟩ := r1.get a1
      obtain ⟨u2, e2, t2, rfl⟩ := r2.get a2
      rw [e1] at e2
      injection e2 with e2
      injection e2
    rw [decide_eq_true en]
    exact SeqAt.EqAt.same _
  · have z := SeqAt.RcAt.tuples (e := fun j => ns.getD j 0 == ms.getD j 0) (show s.heap.IsTuple t i1.toArray from p1) (show s.heap.IsTuple u i2.toArray from p2) hu fun j h1 h2 => tup_items r1 r2 j h1 h2
    rw [tup_answer r1 r2] at z
    exact SeqAt.EqAt.of_refs e z
def rTupD (K : PySem.W.Frag) (neg : Bool) : R2 := fun x y H Q => ∃ (a b : Addr) (ns ms : List Int), x = .ref a ∧ y = .ref b ∧ SqT K H a (ns.map V.int) ∧ SqT K H b (ms.map V.int) ∧ Q (.bl (if neg then !decide (ns = ms) else decide (ns = ms))) H
theorem op_eq_tupD (hu : X.A.units < cLine) : OpR X (compareOp .Eq) (rTupD X.K false) := by
  intro pins s σ H x y v u Q I rx ry h
  obtain ⟨a, b, ns, ms, rfl, rfl, ha, hb, q⟩ := h
  cases rx
  cases ry
  obtain ⟨i1, r1, p1, z1⟩ := I.tuple ha
  obtain ⟨i2, r2, p2, z2⟩ := I.tuple hb
  refine SeqAt.eq_tupleAt (e := fun j => ns.getD j 0 == ms.getD j 0) (show s.heap.IsTuple a i1.toArray from p1) (show s.heap.IsTuple b i2.toArray from p2) hu (fun j h1 h2 => tup_items r1 r2 j h1 h2) ⟨.bl (decide (ns = ms)), H, I, ?_, q⟩
  show Value.bool _ = Value.bool _
  congr 1
  exact tup_answer r1 r2
theorem op_ne_tupD (hu : X.A.units < cLine) : OpR X (compareOp .NotEq) (rTupD X.K true) := by
  intro pins s σ H x y v u Q I rx ry h
  obtain ⟨a, b, ns, ms, rfl, rfl, ha, hb, q⟩ := h
  cases rx
  cases ry
  obtain ⟨i1, r1, p1, z1⟩ := I.tuple ha
  obtain ⟨i2, r2, p2, z2⟩ := I.tuple hb
  refine SeqAt.RcNeAt.tuples (A := X.A) (e := fun j => ns.getD j 0 == ms.getD j 0) (show s.heap.IsTuple a i1.toArray from p1) (show s.heap.IsTuple b i2.toArray from p2) hu (fun j h1 h2 => tup_items r1 r2 j h1 h2) X.prog X.w X.xe _ ⟨.bl (!decide (ns = ms)), H, I, ?_, q⟩
  show Value.bool _ = Value.bool _
  congr 1
  rw [tup_answer r1 r2]
end
end L2

namespace Mir
open PySem L2

def farI (e : Int) : Int := if e % 2 = 0 then e + 1 else e - 1
theorem and_one {e : Int} (h : 0 ≤ e) : Builtin.bitAnd e 1 = e % 2 := by
  unfold Builtin.bitAnd
  rw [decide_eq_true h, decide_eq_true (show (0 : Int) ≤ 1 by decide)]
  show ((e.toNat &&& (1 : Int).toNat : Nat) : Int) = e % 2
  have e1 : e.toNat &&& (1 : Int).toNat = e.toNat % 2 := Nat.and_one_is_mod _
  rw [e1]
  omega
theorem xor_one {e : Int} (h : 0 ≤ e) : Builtin.bitXor e 1 = farI e := by
  rw [PyProof.Rows.bitXor_and, and_one h]
  unfold farI
  split <;> omega

theorem take_snoc {α : Type} {l : List α} {i : Nat} {x : α} (h : l[i]? = some x) : l.take (i + 1) = l.take i ++ [x] := by
  rw [List.take_add_one, h]; rfl
def spFar : Sp := fun vs H Q _ => ∃ e : Int, vs = [.int e] ∧ 0 ≤ e ∧ Q (.int (farI e)) H
end Mir

namespace Ch
def far (x : Nat) : Nat := if x % 2 = 0 then x + 1 else x - 1
theorem far_far (x : Nat) : far (far x) = x := by unfold far; split <;> split <;> omega
theorem far_ne (x : Nat) : far x ≠ x := by unfold far; split <;> omega
theorem far_half (x : Nat) : far x / 2 = x / 2 := by unfold far; split <;> omega
theorem far_lt {x n : Nat} (h : x < 2 * n) : far x < 2 * n := by unfold far; split <;> omega
theorem far_inj {x y : Nat} (h : far x = far y) : x = y := by rw [← far_far x, ← far_far y, h]
theorem half_eq {x y : Nat} (h : x / 2 = y / 2) : x = y ∨ x = far y := by unfold far; split <;> omega
structure Work (n : Nat) (M : Nat → Nat) : Prop where
  lt : ∀ x, x < 2 * n → M x < 2 * n
  inv : ∀ x, x < 2 * n → M (M x) = x
section
variable {n : Nat} {M : Nat → Nat}
structure Steps (n : Nat) (M : Nat → Nat) (s : Nat) (xs : List Nat) : Prop where
  hd : xs[0]? = some s
  step : ∀ (i x y : Nat), xs[i]? = some x → xs[i + 1]? = some y → y = M (far x) ∧ y ≠ far x ∧ y ≠ s
  lt : ∀ x ∈ xs, x < 2 * n
theorem Steps.one {s : Nat} (h : s < 2 * n) : Steps n M s [s] := by
  refine ⟨rfl, fun i x y h1 h2 => ?_, fun x hx => ?_⟩
  · cases i <;> simp at h2
  · simp at hx; subst hx; exact h
theorem Steps.snoc {s x : Nat} {xs : List Nat} (W : Work n M) (S : Steps n M s (xs ++ [x])) (h1 : M (far x) ≠ far x) (h2 : M (far x) ≠ s) : Steps n M s (xs ++ [x] ++ [M (far x)]) := by
  refine ⟨?_, fun i a b ha hb => ?_, fun y hy => ?_⟩
  · rw [List.getElem?_append_left (by simp)]; exact S.hd
  · by_cases hi : i + 1 < (xs ++ [x]).length
    · rw [List.getElem?_append_left (by omega)] at ha
      rw [List.getElem?_append_left hi] at hb
      exact S.step i a b ha hb
    · have hl : (xs ++ [x] ++ [M (far x)]).length = xs.length + 2 := by simp
      have hlt : i + 1 < (xs ++ [x] ++ [M (far x)]).length := (List.getElem?_eq_some_iff.mp hb).1
      have hl2 : (xs ++ [x]).length = xs.length + 1 := by simp
      have e : i = xs.length := by omega
      subst e
      have e1 : a = x := by
        rw [List.getElem?_append_left (by omega), List.getElem?_append_right (by omega)] at ha
        simpa using ha.symm
      have e2 : b = M (far x) := by
        rw [List.getElem?_append_right (by omega)] at hb
        simpa using hb.symm
      subst e1 e2
      exact ⟨rfl, h1, h2⟩
  · rcases List.mem_append.mp hy with hy | hy
    · exact S.lt y hy
    · simp at hy
      subst hy
      exact W.lt _ (far_lt (S.lt x (by simp)))
theorem Steps.back {s : Nat} {xs : List Nat} (W : Work n M) (S : Steps n M s xs) {i x y : Nat} (h1 : xs[i]? = some x) (h2 : xs[i + 1]? = some y) : M y = far x := by
  obtain ⟨e, _, _⟩ := S.step i x y h1 h2
  rw [e]
  exact W.inv _ (far_lt (S.lt x (List.mem_of_getElem? h1)))
theorem Steps.apart {s : Nat} {xs : List Nat} (W : Work n M) (S : Steps n M s xs) : ∀ (i d x y : Nat), xs[i]? = some x → xs[i + d + 1]? = some y → x ≠ y
  | 0, d, x, y, h1, h2 => by
    rw [S.hd] at h1
    cases h1
    have hl : 0 + d + 1 < xs.length := (List.getElem?_eq_some_iff.mp h2).1
    obtain ⟨z, hz⟩ : ∃ z, xs[0 + d]? = some z := ⟨xs[0 + d]'(by omega), List.getElem?_eq_getElem (by omega)⟩
    exact fun e => (S.step (0 + d) z y hz h2).2.2 e.symm
  | i + 1, d, x, y, h1, h2 => by
    have hl : i + 1 + d + 1 < xs.length := (List.getElem?_eq_some_iff.mp h2).1
    obtain ⟨u, hu⟩ : ∃ z, xs[i]? = some z := ⟨xs[i]'(by omega), List.getElem?_eq_getElem (by omega)⟩
    obtain ⟨v, hv⟩ : ∃ z, xs[i + d + 1]? = some z := ⟨xs[i + d + 1]'(by omega), List.getElem?_eq_getElem (by omega)⟩
    have ih := Steps.apart W S i d u v hu hv
    intro e
    subst e
    have e1 := S.back W hu h1
    have e2 := S.back W hv (by rw [show i + d + 1 + 1 = i + 1 + d + 1 by omega]; exact h2)
    exact ih (far_inj (e1.symm.trans e2))
theorem Steps.apartF {s : Nat} {xs : List Nat} (W : Work n M) (S : Steps n M s xs) : ∀ (k d i x y : Nat), d ≤ k → xs[i]? = some x → xs[i + d]? = some y → x ≠ far y
  | 0, d, i, x, y, hd, h1, h2 => by
    have e : d = 0 := by omega
    subst e
    rw [Nat.add_zero, h1] at h2
    cases h2
    exact fun e => far_ne x e.symm
  | k + 1, d, i, x, y, hd, h1, h2 => by
    match d, hd, h2 with
    | 0, _, h2 =>
      rw [Nat.add_zero, h1] at h2
      cases h2
      exact fun e => far_ne x e.symm
    | 1, _, h2 =>
      obtain ⟨e, h3, _⟩ := S.step i x y h1 h2
      intro z
      exact h3 (by rw [z, far_far])
    | d + 2, hd, h2 =>
      have hl : i + (d + 2) < xs.length := (List.getElem?_eq_some_iff.mp h2).1
      obtain ⟨u, hu⟩ : ∃ z, xs[i + 1]? = some z := ⟨xs[i + 1]'(by omega), List.getElem?_eq_getElem (by omega)⟩
      obtain ⟨v, hv⟩ : ∃ z, xs[i + 1 + d]? = some z := ⟨xs[i + 1 + d]'(by omega), List.getElem?_eq_getElem (by omega)⟩
      have ih := Steps.apartF W S k d (i + 1) u v (by omega) hu hv
      intro z
      have e1 := (S.step i x u h1 hu).1
      have e2 := S.back W hv (by rw [show i + 1 + d + 1 = i + (d + 2) by omega]; exact h2)
      apply ih
      rw [e1, z, far_far, e2]
theorem Steps.nodup {s : Nat} {xs : List Nat} (W : Work n M) (S : Steps n M s xs) : (xs.map (· / 2)).Nodup := by
  rw [List.nodup_iff_pairwise_ne, List.pairwise_iff_getElem]
  intro i j hi hj hij e
  rw [List.length_map] at hi hj
  rw [List.getElem_map, List.getElem_map] at e
  have h1 : xs[i]? = some xs[i] := List.getElem?_eq_getElem hi
  have h2 : xs[j]? = some xs[j] := List.getElem?_eq_getElem hj
  rcases half_eq e with e | e
  · exact S.apart W i (j - i - 1) _ _ h1 (by rw [show i + (j - i - 1) + 1 = j by omega]; exact h2) e
  · exact S.apartF W (j - i) (j - i) i _ _ (Nat.le_refl _) h1 (by rw [show i + (j - i) = j by omega]; exact h2) e
theorem nodup_len : ∀ (m : Nat) {es : List Nat}, (∀ e ∈ es, e < m) → es.Nodup → es.length ≤ m
  | 0, es, h, _ => by
    cases es with
    | nil => exact Nat.le_refl _
    | cons a r => exact absurd (h a List.mem_cons_self) (by omega)
  | m + 1, es, h, nd => by
    by_cases hm : m ∈ es
    · have nd2 : (es.erase m).Nodup := nd.erase _
      have h2 : ∀ e ∈ es.erase m, e < m := fun e he => by
        obtain ⟨h1, h3⟩ := (List.Nodup.mem_erase_iff nd).mp he
        have := h e h3
        omega
      have z := nodup_len m h2 nd2
      rw [List.length_erase_of_mem hm] at z
      omega
    · have h2 : ∀ e ∈ es, e < m := fun e he => by
        have h1 := h e he
        have : e ≠ m := fun z => hm (z ▸ he)
        omega
      have z := nodup_len m h2 nd
      omega
theorem Steps.len {s : Nat} {xs : List Nat} (W : Work n M) (S : Steps n M s xs) : xs.length ≤ n := by
  have z := nodup_len n (es := xs.map (· / 2)) (fun e he => by
    obtain ⟨x, hx, rfl⟩ := List.mem_map.mp he
    have := S.lt x hx
    omega) (S.nodup W)
  rwa [List.length_map] at z

def goF (M : Nat → Nat) (s : Nat) : Nat → Nat → List Nat
  | 0, _ => []
  | k + 1, lv => if M lv ≠ lv ∧ M lv ≠ s then M lv :: goF M s k (far (M lv)) else []
def walk (n : Nat) (M : Nat → Nat) (s : Nat) : List Nat := s :: goF M s n (far s)
theorem goF_stop {s k lv : Nat} (h : ¬ (M lv ≠ lv ∧ M lv ≠ s)) : goF M s k lv = [] := by
  cases k with
  | zero => rfl
  | succ k => show (if M lv ≠ lv ∧ M lv ≠ s then _ else _) = _; rw [if_neg h]
structure Full (n : Nat) (M : Nat → Nat) (s : Nat) (xs : List Nat) : Prop where
  st : Steps n M s xs
  ne : xs ≠ []
  stop : ∀ x, xs.getLast? = some x → ¬ (M (far x) ≠ far x ∧ M (far x) ≠ s)
theorem goF_full {s : Nat} (W : Work n M) : ∀ (k : Nat) (xs : List Nat) (x : Nat), Steps n M s (xs ++ [x]) → n ≤ (xs ++ [x]).length + k → Full n M s (xs ++ [x] ++ goF M s k (far x))
  | 0, xs, x, S, h => by
    have e : goF M s 0 (far x) = [] := rfl
    rw [e, List.append_nil]
    refine ⟨S, by simp, fun y hy => ?_⟩
    have hy : x = y := by simpa using hy
    subst hy
    rintro ⟨h1, h2⟩
    have z := (S.snoc W h1 h2).len W
    rw [List.length_append] at z
    have : [M (far x)].length = 1 := rfl
    omega
  | k + 1, xs, x, S, h => by
    show Full n M s (xs ++ [x] ++ (if M (far x) ≠ far x ∧ M (far x) ≠ s then M (far x) :: goF M s k (far (M (far x))) else []))
    by_cases c : M (far x) ≠ far x ∧ M (far x) ≠ s
    · rw [if_pos c]
      have ih := goF_full W k (xs ++ [x]) (M (far x)) (S.snoc W c.1 c.2) (by simp at h ⊢; omega)
      rw [List.append_assoc (xs ++ [x]) [M (far x)]] at ih
      exact ih
    · rw [if_neg c, List.append_nil]
      refine ⟨S, by simp, fun y hy => ?_⟩
      have hy : x = y := by simpa using hy
      subst hy
      exact c
theorem walk_full (W : Work n M) {s : Nat} (h : s < 2 * n) : Full n M s (walk n M s) := goF_full (s := s) W n [] s (Steps.one h) (by simp)
def Ends (xs : List Nat) (e : Nat) : Prop := ∃ x ∈ xs, e = x ∨ e = far x
theorem ends_stave {xs : List Nat} {e : Nat} : Ends xs e ↔ e / 2 ∈ xs.map (· / 2) := by
  constructor
  · rintro ⟨x, hx, rfl | rfl⟩
    · exact List.mem_map.mpr ⟨e, hx, rfl⟩
    · exact List.mem_map.mpr ⟨x, hx, (far_half x).symm⟩
  · intro h
    obtain ⟨x, hx, e1⟩ := List.mem_map.mp h
    refine ⟨x, hx, ?_⟩
    rcases half_eq e1.symm with z | z
    · exact .inl z
    · exact .inr z
structure Shut (n : Nat) (M : Nat → Nat) (C : Nat → Prop) : Prop where
  far : ∀ e, C e → C (far e)
  mate : ∀ e, e < 2 * n → C e → C (M e)
theorem Ends.far {xs : List Nat} {e : Nat} (h : Ends xs e) : Ends xs (Ch.far e) := by
  obtain ⟨x, hx, rfl | rfl⟩ := h
  · exact ⟨e, hx, .inr rfl⟩
  · exact ⟨x, hx, .inl (far_far x)⟩
theorem Steps.all {s : Nat} {xs : List Nat} {C : Nat → Prop} (W : Work n M) (S : Steps n M s xs) (hC : Shut n M C) {z : Nat} (hz : Ends xs z) (cz : C z) : ∀ e, Ends xs e → C e := by
  have at' : ∀ (i x : Nat), xs[i]? = some x → (C x ↔ C s) := by
    intro i
    induction i with
    | zero => intro x h; rw [S.hd] at h; cases h; exact Iff.rfl
    | succ i ih =>
      intro x h
      have hl : i + 1 < xs.length := (List.getElem?_eq_some_iff.mp h).1
      obtain ⟨u, hu⟩ : ∃ z, xs[i]? = some z := ⟨xs[i]'(by omega), List.getElem?_eq_getElem (by omega)⟩
      rw [← ih u hu]
      constructor
      · intro c
        have := hC.mate x (S.lt x (List.mem_of_getElem? h)) c
        rw [S.back W hu h] at this
        have := hC.far _ this
        rwa [far_far] at this
      · intro c
        have := hC.mate _ (far_lt (S.lt u (List.mem_of_getElem? hu))) (hC.far _ c)
        rwa [← (S.step i u x hu h).1] at this
  have cs : C s := by
    obtain ⟨x, hx, e⟩ := hz
    obtain ⟨i, hi⟩ := List.mem_iff_getElem?.mp hx
    refine (at' i x hi).mp ?_
    rcases e with e | e
    · rw [← e]; exact cz
    · have := hC.far _ cz
      rwa [e, far_far] at this
  rintro e ⟨x, hx, he⟩
  obtain ⟨i, hi⟩ := List.mem_iff_getElem?.mp hx
  have cx := (at' i x hi).mpr cs
  rcases he with rfl | rfl
  · exact cx
  · exact hC.far _ cx
theorem Full.last {s : Nat} {xs : List Nat} (F : Full n M s xs) : ∃ x, xs.getLast? = some x ∧ xs[xs.length - 1]? = some x ∧ x ∈ xs := by
  obtain ⟨x, hx⟩ : ∃ x, xs.getLast? = some x := by
    cases h : xs.getLast? with
    | none => exact absurd (List.getLast?_eq_none_iff.mp h) F.ne
    | some x => exact ⟨x, rfl⟩
  refine ⟨x, hx, ?_, ?_⟩
  · rw [← List.getLast?_eq_getElem?]; exact hx
  · exact List.mem_of_getLast? hx
theorem Full.shut {s : Nat} {xs : List Nat} (W : Work n M) (F : Full n M s xs) (h : M s = s ∨ ∃ x, xs.getLast? = some x ∧ M (far x) = s) : Shut n M (Ends xs) := by
  refine ⟨fun e he => he.far, fun e hlt he => ?_⟩
  obtain ⟨x, hx, hx1, hx2⟩ := F.last
  have hne : 0 < xs.length := by
    have := F.ne
    cases xs with
    | nil => exact absurd rfl this
    | cons _ _ => simp
  have hs : s ∈ xs := List.mem_of_getElem? F.st.hd
  obtain ⟨y, hy, e1⟩ := he
  obtain ⟨i, hi⟩ := List.mem_iff_getElem?.mp hy
  have hil : i < xs.length := (List.getElem?_eq_some_iff.mp hi).1
  rcases e1 with rfl | rfl
  · -- the end by which the stave is come into
    cases i with
    | zero =>
      rw [F.st.hd] at hi
      cases hi
      rcases h with h | ⟨x', hx', h⟩
      · rw [h]; exact ⟨_, hs, .inl rfl⟩
      · rw [hx] at hx'; cases hx'
        have e2 : M (M (far x)) = far x := W.inv _ (far_lt (F.st.lt x hx2))
        rw [h] at e2
        rw [e2]
        exact ⟨x, hx2, .inr rfl⟩
    | succ i =>
      obtain ⟨u, hu⟩ : ∃ z, xs[i]? = some z := ⟨xs[i]'(by omega), List.getElem?_eq_getElem (by omega)⟩
      rw [F.st.back W hu hi]
      exact ⟨u, List.mem_of_getElem? hu, .inr rfl⟩
  · -- the other one
    by_cases hl : i + 1 < xs.length
    · obtain ⟨u, hu⟩ : ∃ z, xs[i + 1]? = some z := ⟨xs[i + 1]'hl, List.getElem?_eq_getElem hl⟩
      rw [← (F.st.step i y u hi hu).1]
      exact ⟨u, List.mem_of_getElem? hu, .inl rfl⟩
    · have e2 : i = xs.length - 1 := by omega
      rw [e2, hx1] at hi
      cases hi
      by_cases c : M (far x) = far x
      · rw [c]; exact ⟨x, hx2, .inr rfl⟩
      · by_cases c2 : M (far x) = s
        · rw [c2]; exact ⟨s, hs, .inl rfl⟩
        · exact absurd ⟨c, c2⟩ (F.stop x hx)
def lastFar (xs : List Nat) : Nat := far (xs.getLast?.getD 0)
theorem Full.lastFar_eq {s : Nat} {xs : List Nat} (F : Full n M s xs) : ∃ x, xs.getLast? = some x ∧ lastFar xs = far x ∧ x ∈ xs := by
  obtain ⟨x, hx, _, h2⟩ := F.last
  exact ⟨x, hx, by unfold lastFar; rw [hx]; rfl, h2⟩
theorem row_ends (W : Work n M) {s : Nat} {xs : List Nat} (F : Full n M s xs) (hs : M s = s) : M (lastFar xs) = lastFar xs ∧ lastFar xs ≠ s ∧ lastFar xs < 2 * n := by
  obtain ⟨x, hx, e, hm⟩ := F.lastFar_eq
  have hlt := far_lt (F.st.lt x hm)
  have hs0 : s ∈ xs := List.mem_of_getElem? F.st.hd
  have hne : far x ≠ s := by
    obtain ⟨_, hx', hx1, _⟩ := F.last
    rw [hx] at hx'; cases hx'
    have hpos : 0 < xs.length := by
      have := F.ne
      cases xs with
      | nil => exact absurd rfl this
      | cons _ _ => simp
    intro z
    exact F.st.apartF W (xs.length - 1) (xs.length - 1) 0 s x (Nat.le_refl _) F.st.hd (by rw [Nat.zero_add]; exact hx1) z.symm
  rw [e]
  refine ⟨?_, hne, hlt⟩
  by_cases c : M (far x) = far x
  · exact c
  · by_cases c2 : M (far x) = s
    · have z := W.inv _ hlt
      rw [c2, hs] at z
      exact absurd z.symm hne
    · exact absurd ⟨c, c2⟩ (F.stop x hx)
theorem row_loose (W : Work n M) {s : Nat} {xs : List Nat} (F : Full n M s xs) {e : Nat} (he : Ends xs e) (hl : M e = e) : e = s ∨ e = lastFar xs := by
  obtain ⟨x, hx, hx1, hx2⟩ := F.last
  have elf : lastFar xs = far x := by unfold lastFar; rw [hx]; rfl
  obtain ⟨y, hy, e1⟩ := he
  obtain ⟨i, hi⟩ := List.mem_iff_getElem?.mp hy
  have hil : i < xs.length := (List.getElem?_eq_some_iff.mp hi).1
  rcases e1 with rfl | rfl
  · cases i with
    | zero => rw [F.st.hd] at hi; cases hi; exact .inl rfl
    | succ i =>
      obtain ⟨u, hu⟩ : ∃ z, xs[i]? = some z := ⟨xs[i]'(by omega), List.getElem?_eq_getElem (by omega)⟩
      have e2 := F.st.back W hu hi
      exact absurd (hl.symm.trans e2) (F.st.step i u e hu hi).2.1
  · by_cases h1 : i + 1 < xs.length
    · obtain ⟨u, hu⟩ : ∃ z, xs[i + 1]? = some z := ⟨xs[i + 1]'h1, List.getElem?_eq_getElem h1⟩
      obtain ⟨e2, e3, _⟩ := F.st.step i y u hi hu
      exact absurd (e2.trans hl) e3
    · have e2 : i = xs.length - 1 := by omega
      rw [e2, hx1] at hi
      cases hi
      exact .inr elf.symm

def looseL (n : Nat) (M : Nat → Nat) : List Nat := (List.range (2 * n)).filter fun e => e == M e
def rowsL (n : Nat) (M : Nat → Nat) : List (List Nat) := ((looseL n M).map (walk n M)).filter fun xs => decide (xs.headD 0 < lastFar xs)
theorem mem_loose {e : Nat} : e ∈ looseL n M ↔ e < 2 * n ∧ M e = e := by
  unfold looseL
  rw [List.mem_filter, List.mem_range, beq_iff_eq]
  exact ⟨fun h => ⟨h.1, h.2.symm⟩, fun h => ⟨h.1, h.2.symm⟩⟩
theorem loose_sorted : (looseL n M).Pairwise (· < ·) := List.Pairwise.filter _ List.pairwise_lt_range
theorem mem_rows (W : Work n M) {xs : List Nat} : xs ∈ rowsL n M ↔ ∃ s, s < 2 * n ∧ M s = s ∧ xs = walk n M s ∧ s < lastFar xs := by
  unfold rowsL
  rw [List.mem_filter, List.mem_map]
  constructor
  · rintro ⟨⟨s, hs, rfl⟩, h⟩
    obtain ⟨h1, h2⟩ := mem_loose.mp hs
    exact ⟨s, h1, h2, rfl, of_decide_eq_true h⟩
  · rintro ⟨s, h1, h2, rfl, h⟩
    exact ⟨⟨s, mem_loose.mpr ⟨h1, h2⟩, rfl⟩, decide_eq_true h⟩
theorem row_full (W : Work n M) {xs : List Nat} (h : xs ∈ rowsL n M) : ∃ s, s < 2 * n ∧ M s = s ∧ Full n M s xs ∧ s < lastFar xs ∧ Shut n M (Ends xs) := by
  obtain ⟨s, h1, h2, rfl, h⟩ := (mem_rows W).mp h
  have F := walk_full W h1
  exact ⟨s, h1, h2, F, h, F.shut W (.inl h2)⟩
theorem shut_same (W : Work n M) {s t : Nat} {xs ys : List Nat} (S : Steps n M s xs) (T : Steps n M t ys) (hy : Shut n M (Ends ys)) {z : Nat} (h1 : Ends xs z) (h2 : Ends ys z) : ∀ e, Ends xs e → Ends ys e := S.all W hy h1 h2
theorem row_of_loose (W : Work n M) {e : Nat} (h1 : e < 2 * n) (h2 : M e = e) : ∃ xs ∈ rowsL n M, Ends xs e := by
  have F := walk_full W h1
  obtain ⟨l1, l2, l3⟩ := row_ends W F h2
  have he : Ends (walk n M e) e := ⟨e, List.mem_of_getElem? F.st.hd, .inl rfl⟩
  by_cases c : e < lastFar (walk n M e)
  · exact ⟨_, (mem_rows W).mpr ⟨e, h1, h2, rfl, c⟩, he⟩
  · have G := walk_full W l3
    have hp : Ends (walk n M (lastFar (walk n M e))) (lastFar (walk n M e)) := ⟨_, List.mem_of_getElem? G.st.hd, .inl rfl⟩
    have hp2 : Ends (walk n M e) (lastFar (walk n M e)) := by
      obtain ⟨x, _, e1, hx⟩ := F.lastFar_eq
      exact ⟨x, hx, .inr e1⟩
    have he2 : Ends (walk n M (lastFar (walk n M e))) e := shut_same W F.st G.st (G.shut W (.inl l1)) hp2 hp e he
    refine ⟨_, (mem_rows W).mpr ⟨_, l3, l1, rfl, ?_⟩, he2⟩
    rcases row_loose W G he2 h2 with z | z
    · exact absurd z.symm l2
    · rw [← z]; omega
theorem rows_apart (W : Work n M) {s t : Nat} (h1 : s < 2 * n) (h2 : M s = s) (c1 : s < lastFar (walk n M s)) (h3 : t < 2 * n) (h4 : M t = t) (c2 : t < lastFar (walk n M t)) {z : Nat} (hz : Ends (walk n M s) z) (hz2 : Ends (walk n M t) z) : s = t := by
  have F := walk_full W h1
  have G := walk_full W h3
  have a := shut_same W F.st G.st (G.shut W (.inl h4)) hz hz2
  have hs : Ends (walk n M t) s := a s ⟨s, List.mem_of_getElem? F.st.hd, .inl rfl⟩
  have hl : Ends (walk n M t) (lastFar (walk n M s)) := a _ (by
    obtain ⟨x, _, e1, hx⟩ := F.lastFar_eq
    exact ⟨x, hx, .inr e1⟩)
  rcases row_loose W G hs h2 with e | e
  · exact e
  · rcases row_loose W G hl (row_ends W F h2).1 with e' | e'
    · omega
    · omega

def ringStep (n : Nat) (M : Nat → Nat) (r : List (List Nat) × List Nat) (st : Nat) : List (List Nat) × List Nat :=
  if st ∈ r.2 then r else (r.1 ++ [walk n M (2 * st)], r.2 ++ (walk n M (2 * st)).map (· / 2))
def rowStaves (n : Nat) (M : Nat → Nat) : List Nat := (rowsL n M).flatMap fun xs => xs.map (· / 2)
def ringSt (n : Nat) (M : Nat → Nat) (k : Nat) : List (List Nat) × List Nat := (List.range k).foldl (ringStep n M) ([], rowStaves n M)
def ringsL (n : Nat) (M : Nat → Nat) : List (List Nat) := (ringSt n M n).1
theorem ringSt_succ (k : Nat) : ringSt n M (k + 1) = ringStep n M (ringSt n M k) k := by unfold ringSt; rw [List.range_succ, List.foldl_append]; rfl
structure RingInv (n : Nat) (M : Nat → Nat) (k : Nat) (rs : List (List Nat)) (seen : List Nat) : Prop where
  eq : seen = rowStaves n M ++ rs.flatMap fun xs => xs.map (· / 2)
  nd : seen.Nodup
  lt : ∀ e ∈ seen, e < n
  all : ∀ e, e < k → e ∈ seen
  ring : ∀ xs ∈ rs, ∃ st, st < k ∧ Full n M (2 * st) xs ∧ (∃ x, xs.getLast? = some x ∧ M (far x) = 2 * st ∧ M (far x) ≠ far x) ∧ ∀ x ∈ xs, 2 * st ≤ x
  rise : rs.Pairwise fun xs ys => xs.headD 0 < ys.headD 0
  shut : ∀ e, e < 2 * n → e / 2 ∈ seen → M e / 2 ∈ seen
theorem nodup_flat {α β : Type} {f : α → List β} : ∀ {l : List α}, (∀ x ∈ l, (f x).Nodup) → l.Pairwise (fun x y => ∀ a, a ∈ f x → a ∈ f y → False) → (l.flatMap f).Nodup
  | [], _, _ => by simp
  | x :: r, h, p => by
    rw [List.flatMap_cons]
    obtain ⟨p1, p2⟩ := List.pairwise_cons.mp p
    refine List.nodup_append.mpr ⟨h x List.mem_cons_self, nodup_flat (fun y hy => h y (List.mem_cons_of_mem _ hy)) p2, fun a ha b hb e => ?_⟩
    subst e
    obtain ⟨y, hy, hay⟩ := List.mem_flatMap.mp hb
    exact p1 y hy a ha hay
theorem rows_pairwise (W : Work n M) : (rowsL n M).Pairwise fun xs ys => ∀ a, a ∈ xs.map (· / 2) → a ∈ ys.map (· / 2) → False := by
  unfold rowsL
  rw [List.pairwise_filter, List.pairwise_map]
  have key : (looseL n M).Pairwise fun s t => s < 2 * n ∧ M s = s ∧ t < 2 * n ∧ M t = t ∧ s < t := by
    refine List.Pairwise.imp_of_mem (fun {a b} ha hb h => ?_) loose_sorted
    obtain ⟨a1, a2⟩ := mem_loose.mp ha
    obtain ⟨b1, b2⟩ := mem_loose.mp hb
    exact ⟨a1, a2, b1, b2, h⟩
  refine key.imp fun {s t} h hs ht a ha hb => ?_
  obtain ⟨h1, h2, h3, h4, h5⟩ := h
  have hs : s < lastFar (walk n M s) := of_decide_eq_true hs
  have ht : t < lastFar (walk n M t) := of_decide_eq_true ht
  have e1 : (2 * a) / 2 = a := by omega
  have za : Ends (walk n M s) (2 * a) := ends_stave.mpr (by rw [e1]; exact ha)
  have zb : Ends (walk n M t) (2 * a) := ends_stave.mpr (by rw [e1]; exact hb)
  have := rows_apart W h1 h2 hs h3 h4 ht za zb
  omega
theorem rows_nodup (W : Work n M) : (rowStaves n M).Nodup := nodup_flat (fun xs hx => by
    obtain ⟨s, _, _, F, _, _⟩ := row_full W hx
    exact F.st.nodup W) (rows_pairwise W)
theorem mem_rowStaves {e : Nat} : e ∈ rowStaves n M ↔ ∃ xs ∈ rowsL n M, e ∈ xs.map (· / 2) := List.mem_flatMap
theorem rows_shut (W : Work n M) {e : Nat} (he : e < 2 * n) (h : e / 2 ∈ rowStaves n M) : M e / 2 ∈ rowStaves n M := by
  obtain ⟨xs, hx, h⟩ := mem_rowStaves.mp h
  obtain ⟨s, _, _, F, _, S⟩ := row_full W hx
  exact mem_rowStaves.mpr ⟨xs, hx, ends_stave.mp (S.mate e he (ends_stave.mpr h))⟩
theorem ring_closes (W : Work n M) {st : Nat} (hst : st < n) {C : Nat → Prop} (hC : Shut n M C) (hrow : ∀ e, e < 2 * n → M e = e → C e) (hno : ¬ C (2 * st)) :
    ∃ x, (walk n M (2 * st)).getLast? = some x ∧ M (far x) = 2 * st ∧ M (far x) ≠ far x := by
  have F := walk_full W (show 2 * st < 2 * n by omega)
  obtain ⟨x, hx, hx1, hx2⟩ := F.last
  have hlt := far_lt (F.st.lt x hx2)
  have nl : M (far x) ≠ far x := fun c => by
    have cf := hrow _ hlt c
    have := F.st.all W hC (z := far x) ⟨x, hx2, .inr rfl⟩ cf (2 * st) ⟨_, List.mem_of_getElem? F.st.hd, .inl rfl⟩
    exact hno this
  refine ⟨x, hx, ?_, nl⟩
  by_cases c : M (far x) = 2 * st
  · exact c
  · exact absurd ⟨nl, c⟩ (F.stop x hx)
theorem ringInv (W : Work n M) : ∀ k, k ≤ n → RingInv n M k (ringSt n M k).1 (ringSt n M k).2
  | 0, _ => by
    refine ⟨?_, rows_nodup W, fun e he => ?_, fun e he => absurd he (Nat.not_lt_zero _), fun xs hx => ?_, ?_, fun e he h => rows_shut W he h⟩
    · show rowStaves n M = rowStaves n M ++ []
      rw [List.append_nil]
    · obtain ⟨xs, hx, h⟩ := mem_rowStaves.mp (show e ∈ rowStaves n M from he)
      obtain ⟨s, _, _, F, _, _⟩ := row_full W hx
      obtain ⟨x, hx, rfl⟩ := List.mem_map.mp h
      have := F.st.lt x hx
      omega
    · exact absurd (show xs ∈ ([] : List (List Nat)) from hx) (by simp)
    · exact List.Pairwise.nil
  | k + 1, hk => by
    have ih := ringInv W k (by omega)
    rw [ringSt_succ]
    generalize hr : ringSt n M k = r at ih
    obtain ⟨rs, seen⟩ := r
    unfold ringStep
    by_cases c : k ∈ seen
    · rw [if_pos c]
      refine ⟨ih.eq, ih.nd, ih.lt, fun e he => ?_, fun xs hx => ?_, ih.rise, ih.shut⟩
      · by_cases h : e = k
        · subst h; exact c
        · exact ih.all e (by omega)
      · obtain ⟨st, h, r⟩ := ih.ring xs hx
        exact ⟨st, by omega, r⟩
    · rw [if_neg c]
      have hkn : 2 * k < 2 * n := by omega
      have F := walk_full W hkn
      have hC : Shut n M (fun e => e / 2 ∈ seen) := ⟨fun e h => by show far e / 2 ∈ seen; rw [far_half]; exact h, fun e he h => ih.shut e he h⟩
      have hrow : ∀ e, e < 2 * n → M e = e → e / 2 ∈ seen := fun e he hl => by
        obtain ⟨xs, hx, hE⟩ := row_of_loose W he hl
        show e / 2 ∈ seen
        have heq : seen = _ := ih.eq
        rw [heq]
        exact List.mem_append_left _ (mem_rowStaves.mpr ⟨xs, hx, ends_stave.mp hE⟩)
      have e2 : 2 * k / 2 = k := by omega
      have hno : ¬ (2 * k) / 2 ∈ seen := by rw [e2]; exact c
      have hcl := ring_closes W (show k < n by omega) hC hrow hno
      have S : Shut n M (Ends (walk n M (2 * k))) := F.shut W (.inr (let ⟨x, h1, h2, _⟩ := hcl; ⟨x, h1, h2⟩))
      have hself : Ends (walk n M (2 * k)) (2 * k) := ⟨_, List.mem_of_getElem? F.st.hd, .inl rfl⟩
      have dis : ∀ a, a ∈ seen → a ∈ (walk n M (2 * k)).map (· / 2) → False := fun a ha hb => by
        have e1 : (2 * a) / 2 = a := by omega
        exact hno (F.st.all W hC (z := 2 * a) (ends_stave.mpr (by rw [e1]; exact hb)) (by show 2 * a / 2 ∈ seen; rw [e1]; exact ha) (2 * k) hself)
      refine ⟨?_, ?_, fun e he => ?_, fun e he => ?_, fun xs hx => ?_, ?_, fun e he h => ?_⟩
      · show seen ++ _ = _
        have heq : seen = _ := ih.eq
        rw [List.flatMap_append, ← List.append_assoc, ← heq]
        simp
      · exact List.nodup_append.mpr ⟨ih.nd, F.st.nodup W, fun a ha b hb e => dis a ha (e ▸ hb)⟩
      · rcases List.mem_append.mp he with h | h
        · exact ih.lt e h
        · obtain ⟨x, hx, rfl⟩ := List.mem_map.mp h
          have := F.st.lt x hx
          omega
      · by_cases h : e = k
        · subst h
          exact List.mem_append_right _ (List.mem_map.mpr ⟨_, List.mem_of_getElem? F.st.hd, e2⟩)
        · exact List.mem_append_left _ (ih.all e (by omega))
      · rcases List.mem_append.mp hx with h | h
        · obtain ⟨st, h, r⟩ := ih.ring xs h
          exact ⟨st, by omega, r⟩
        · have : xs = walk n M (2 * k) := by simpa using h
          subst this
          refine ⟨k, by omega, F, hcl, fun x hx => ?_⟩
          have : k ≤ x / 2 := by
            refine Nat.le_of_not_lt fun z => ?_
            exact dis (x / 2) (ih.all _ z) (List.mem_map.mpr ⟨x, hx, rfl⟩)
          omega
      · refine List.pairwise_append.mpr ⟨ih.rise, List.pairwise_singleton _ _, fun xs hx ys hy => ?_⟩
        have : ys = walk n M (2 * k) := by simpa using hy
        subst this
        obtain ⟨st, h, G, _⟩ := ih.ring xs hx
        have h0 := G.st.hd
        have : xs.headD 0 = 2 * st := by
          cases xs with
          | nil => simp at h0
          | cons a r => simpa using h0
        rw [this]
        show 2 * st < 2 * k
        omega
      · rcases List.mem_append.mp h with h | h
        · exact List.mem_append_left _ (ih.shut e he h)
        · exact List.mem_append_right _ (ends_stave.mp (S.mate e he (ends_stave.mpr h)))
end
end Ch

namespace Mir
open PySem L2 Ch
def nV (ms : List Nat) : List V := ms.map fun (m : Nat) => V.int m
def rowI (xs : List Nat) : List Int := xs.map fun (x : Nat) => (x : Int)
theorem rowI_V (xs : List Nat) : (rowI xs).map V.int = nV xs := by unfold rowI nV; rw [List.map_map]; rfl
theorem nV_len (ms : List Nat) : (nV ms).length = ms.length := by unfold nV; rw [List.length_map]
theorem nV_get {ms : List Nat} {i m : Nat} (h : ms[i]? = some m) : (nV ms)[i]? = some (.int m) := by unfold nV; rw [List.getElem?_map, h]; rfl
theorem nV_get' {ms : List Nat} {i : Nat} {x : V} (h : (nV ms)[i]? = some x) : ∃ m, ms[i]? = some m ∧ x = .int m := by
  unfold nV at h
  rw [List.getElem?_map] at h
  cases e : ms[i]? with
  | none => rw [e] at h; cases h
  | some m => rw [e] at h; exact ⟨m, rfl, (Option.some.inj h).symm⟩
theorem nV_snoc (xs : List Nat) (x : Nat) : nV (xs ++ [x]) = nV xs ++ [.int x] := by unfold nV; rw [List.map_append]; rfl
def at0 (ms : List Nat) (e : Nat) : Nat := ms.getD e 0
theorem at0_get {ms : List Nat} {e : Nat} (h : e < ms.length) : ms[e]? = some (at0 ms e) := by unfold at0; simp [List.getD, List.getElem?_eq_getElem h]
structure WorkL (n : Nat) (ms : List Nat) : Prop where
  small : n ≤ 40
  len : ms.length = 2 * n
  wk : Work n (at0 ms)
theorem WorkL.get {n : Nat} {ms : List Nat} (W : WorkL n ms) {e : Nat} (h : e < 2 * n) : (nV ms)[e]? = some (.int (at0 ms e)) := nV_get (at0_get (by rw [W.len]; exact h))
theorem WorkL.ix {n : Nat} {ms : List Nat} (W : WorkL n ms) {e : Nat} (h : e < 2 * n) : atI (nV ms) (e : Int) = some (.int (at0 ms e)) := atI_nat (W.get h)
theorem farI_nat (e : Nat) : farI (e : Int) = ((far e : Nat) : Int) := by unfold farI far; split <;> split <;> omega
theorem atI_nlast {xs : List Nat} {x : Nat} (h : xs.getLast? = some x) : atI (nV xs) (-1) = some (.int x) := by
  obtain ⟨ys, rfl⟩ := List.getLast?_eq_some_iff.mp h
  rw [nV_snoc]
  exact atI_last _ _
def RowsT (H : Hp) (l : Addr) (rs : List (List Nat)) : Prop :=
  ∃ ts : List Addr, H l = some (.lst (ts.map V.ref)) ∧ ts.length = rs.length ∧ ∀ (i : Nat) (t : Addr) (r : List Nat), ts[i]? = some t → rs[i]? = some r → H t = some (.tup (nV r))
theorem RowsT.same {H H' : Hp} {l : Addr} {rs : List (List Nat)} (h : RowsT H l rs) (s : Same H H') : RowsT H' l rs := by
  obtain ⟨ts, h1, h2, h3⟩ := h
  exact ⟨ts, s _ _ h1, h2, fun i t r e1 e2 => s _ _ (h3 i t r e1 e2)⟩
theorem RowsT.nil {H : Hp} {l : Addr} (h : H l = some (.lst [])) : RowsT H l [] := ⟨[], h, rfl, fun i t r e => by simp at e⟩
theorem RowsT.snoc {H : Hp} {l t : Addr} {rs : List (List Nat)} {r : List Nat} (h : RowsT H l rs) (ht : H t = some (.tup (nV r))) : ∃ xs, H l = some (.lst xs) ∧ xs.length = rs.length ∧ RowsT (upd H l (.lst (xs ++ [.ref t]))) l (rs ++ [r]) := by
  obtain ⟨ts, h1, h2, h3⟩ := h
  refine ⟨_, h1, by rw [List.length_map]; exact h2, ts ++ [t], by rw [upd_same, List.map_append]; rfl, by rw [List.length_append, List.length_append, h2]; rfl, fun i u q e1 e2 => ?_⟩
  have key : H u = some (.tup (nV q)) := by
    by_cases hi : i < ts.length
    · rw [List.getElem?_append_left hi] at e1
      rw [List.getElem?_append_left (by omega)] at e2
      exact h3 i u q e1 e2
    · have hil := (List.getElem?_eq_some_iff.mp e1).1
      rw [List.length_append, List.length_singleton] at hil
      have e : i = ts.length := by omega
      subst e
      rw [List.getElem?_append_right (Nat.le_refl _), Nat.sub_self] at e1
      rw [List.getElem?_append_right (by omega), h2, Nat.sub_self] at e2
      obtain rfl : t = u := Option.some.inj e1
      obtain rfl : r = q := Option.some.inj e2
      exact ht
  rw [upd_ne (fun e => by rw [e, h1] at key; cases key)]
  exact key

section
variable (K : PySem.W.Frag)
def spStaves : Sp := fun vs H Q _ => ∃ (a : Addr) (n : Nat) (ms : List Nat), vs = [.ref a] ∧ SqT K H a (nV ms) ∧ WorkL n ms ∧ Q (.int n) H
def spLoose : Sp := fun vs H Q _ => ∃ (a : Addr) (n : Nat) (ms : List Nat), vs = [.ref a] ∧ SqT K H a (nV ms) ∧ WorkL n ms ∧ ∀ (l : Addr) (H' : Hp), H l = none → Same H H' → H' l = some (.lst (nV (looseL n (at0 ms)))) → Q (.ref l) H'
def spWalked : Sp := fun vs H Q _ => ∃ (a : Addr) (n : Nat) (ms : List Nat) (s : Nat), vs = [.ref a, .int s] ∧ SqT K H a (nV ms) ∧ WorkL n ms ∧ s < 2 * n ∧
  ∀ (l : Addr) (H' : Hp), H l = none → Same H H' → H' l = some (.tup (nV (walk n (at0 ms) s))) → Q (.ref l) H'
def spRows : Sp := fun vs H Q _ => ∃ (a : Addr) (n : Nat) (ms : List Nat), vs = [.ref a] ∧ SqT K H a (nV ms) ∧ WorkL n ms ∧ ∀ (l : Addr) (H' : Hp), H l = none → Same H H' → RowsT H' l (rowsL n (at0 ms)) → Q (.ref l) H'
def spRings : Sp := fun vs H Q _ => ∃ (a : Addr) (n : Nat) (ms : List Nat), vs = [.ref a] ∧ SqT K H a (nV ms) ∧ WorkL n ms ∧ ∀ (l : Addr) (H' : Hp), H l = none → Same H H' → RowsT H' l (ringsL n (at0 ms)) → Q (.ref l) H'
def spMark : Sp := fun vs H Q _ => ∃ (d c : Addr) (kvs : List (Key × V)) (xs : List Nat), vs = [.ref d, .ref c] ∧ H d = some (.dK kvs) ∧ SqT K H c (nV xs) ∧ kvs.length + xs.length ≤ 100000 ∧
  ∀ (kvs' : List (Key × V)) (H' : Hp), H' d = some (.dK kvs') → (∀ b o, b ≠ d → H b = some o → H' b = some o) → kvs'.length ≤ kvs.length + xs.length →
    (∀ j : Nat, (valV kvs' (Sum.inl (j : Int) : Key)).isSome = true ↔ (valV kvs (Sum.inl (j : Int) : Key)).isSome = true ∨ j ∈ xs.map (· / 2)) → Q .non H'
end
def spCellAt (K : PySem.W.Frag) : Sp := fun vs H Q _ => ∃ (a : Addr) (ns : List Int) (k : Nat), vs = [.ref a, .int k] ∧ SqL K H a (ns.map V.int) ∧ ∀ i : Int, Q (.int i) H
def clasp (ms : List Nat) (p q : Nat) : List Nat := (ms.set p q).set q p
theorem at0_set {ms : List Nat} {i j v : Nat} (hi : i < ms.length) : at0 (ms.set i v) j = if j = i then v else at0 ms j := by
  unfold at0
  by_cases e : j = i
  · subst e; rw [if_pos rfl]; simp [List.getD, List.getElem?_set_self hi]
  · rw [if_neg e]; simp [List.getD, List.getElem?_set_ne (Ne.symm e)]
theorem clasp_work {n : Nat} {ms : List Nat} (W : WorkL n ms) {p q : Nat} (hp : p < 2 * n) (hq : q < 2 * n) (lp : at0 ms p = p) (lq : at0 ms q = q) : WorkL n (clasp ms p q) := by
  have key : ∀ j, at0 (clasp ms p q) j = if j = q then p else if j = p then q else at0 ms j := fun j => by
    unfold clasp
    rw [at0_set (by rw [List.length_set, W.len]; exact hq), at0_set (by rw [W.len]; exact hp)]
  refine ⟨W.small, by unfold clasp; rw [List.length_set, List.length_set]; exact W.len, fun x hx => ?_, fun x hx => ?_⟩
  · rw [key]
    split
    · exact hp
    · split
      · exact hq
      · exact W.wk.lt x hx
  · rw [key x]
    by_cases c1 : x = q
    · rw [if_pos c1, key]
      by_cases c2 : p = q
      · rw [if_pos c2, c1, c2]
      · rw [if_neg c2, if_pos rfl, c1]
    · rw [if_neg c1]
      by_cases c2 : x = p
      · rw [if_pos c2, key, if_pos rfl, c2]
      · rw [if_neg c2, key]
        have i1 := W.wk.inv x hx
        have c3 : at0 ms x ≠ q := fun z => c1 (by rw [← i1, z, lq])
        have c4 : at0 ms x ≠ p := fun z => c2 (by rw [← i1, z, lp])
        rw [if_neg c3, if_neg c4, i1]
theorem range_work {n : Nat} (h : n ≤ 40) : WorkL n (List.range (2 * n)) := by
  have key : ∀ x, x < 2 * n → at0 (List.range (2 * n)) x = x := fun x hx => by unfold at0; simp [List.getD, List.getElem?_range hx]
  exact ⟨h, List.length_range, fun x hx => by rw [key x hx]; exact hx, fun x hx => by rw [key x hx, key x hx]⟩
theorem rngV_nV (n : Nat) : rngV 0 n = nV (List.range n) := by
  unfold rngV nV
  refine List.map_congr_left fun a _ => ?_
  rw [Int.zero_add]
theorem nV_set (ms : List Nat) (i v : Nat) : (nV ms).set i (.int v) = nV (ms.set i v) := by unfold nV; rw [List.map_set]

end Mir

namespace Mt
open Ch

def up (xs : List Nat) : List Int := xs.map fun (x : Nat) => (x : Int)
theorem up_len (xs : List Nat) : (up xs).length = xs.length := by unfold up; rw [List.length_map]

end Mt

namespace Mt
open Ch
section
variable {n : Nat} {M : Nat → Nat}
def Lk (M : Nat → Nat) (x y : Nat) : Prop := M (far x) = y ∧ M y = far x
structure IsCh (n : Nat) (M : Nat → Nat) (xs : List Nat) : Prop where
  ne : 0 < xs.length
  lt : ∀ x ∈ xs, x < 2 * n
  lk : ∀ (i x y : Nat), xs[i]? = some x → xs[i + 1]? = some y → Lk M x y
structure IsRow (n : Nat) (M : Nat → Nat) (xs : List Nat) : Prop extends IsCh n M xs where
  fst : ∀ x, xs[0]? = some x → M x = x
  lst : ∀ x, xs[xs.length - 1]? = some x → M (far x) = far x
structure IsRing (n : Nat) (M : Nat → Nat) (xs : List Nat) : Prop extends IsCh n M xs where
  cl : ∀ x y, xs[0]? = some x → xs[xs.length - 1]? = some y → Lk M y x
def half (xs : List Nat) : List Nat := xs.map (· / 2)
structure Deco (n : Nat) (M : Nat → Nat) (rows rings : List (List Nat)) : Prop where
  row : ∀ r ∈ rows, IsRow n M r
  ring : ∀ r ∈ rings, IsRing n M r
  nd : ((rows ++ rings).flatMap half).Nodup
  all : ∀ s, s < n → s ∈ (rows ++ rings).flatMap half
theorem mem_half {xs : List Nat} {s : Nat} : s ∈ half xs ↔ ∃ x ∈ xs, x / 2 = s := by unfold half; rw [List.mem_map]
theorem Deco.ch {rows rings : List (List Nat)} (D : Deco n M rows rings) {r : List Nat} (h : r ∈ rows ++ rings) : IsCh n M r := by
  rcases List.mem_append.mp h with z | z
  · exact (D.row r z).toIsCh
  · exact (D.ring r z).toIsCh
theorem Deco.lt {rows rings : List (List Nat)} (D : Deco n M rows rings) : ∀ s ∈ (rows ++ rings).flatMap half, s < n := fun s hs => by
  obtain ⟨r, hr, h⟩ := List.mem_flatMap.mp hs
  obtain ⟨x, hx, rfl⟩ := mem_half.mp h
  have := (D.ch hr).lt x hx
  omega
theorem Deco.total {rows rings : List (List Nat)} (D : Deco n M rows rings) : ((rows ++ rings).flatMap half).Perm (List.range n) :=
  (List.perm_ext_iff_of_nodup D.nd List.nodup_range).mpr fun a => ⟨fun h => List.mem_range.mpr (D.lt a h), fun h => D.all a (List.mem_range.mp h)⟩

theorem half_flat (l : List (List Nat)) : l.flatMap half = half l.flatten := by
  unfold half
  rw [List.flatMap_def, List.map_flatten]
end

def halfI (es : List Int) : List Int := es.map (· / 2)
def Once (es : List Int) : Prop := (halfI es).Perm (up (List.range es.length))
theorem once_of {n : Nat} {xs : List Nat} (h : (half xs).Perm (List.range n)) : Once (up xs) := by
  have hl : xs.length = n := by have z := h.length_eq; unfold half at z; rw [List.length_map, List.length_range] at z; exact z
  unfold Once halfI
  rw [up_len, hl]
  have e : (up xs).map (· / 2) = up (half xs) := by
    unfold up half
    rw [List.map_map, List.map_map]
    refine List.map_congr_left fun a _ => ?_
    show (a : Int) / 2 = ((a / 2 : Nat) : Int)
    omega
  rw [e]
  unfold up
  exact h.map _
end Mt

namespace Mt
open Ch
section
variable {n : Nat} {M : Nat → Nat}
theorem Full.isCh {s : Nat} {xs : List Nat} (W : Work n M) (F : Full n M s xs) : IsCh n M xs := by
  refine ⟨?_, F.st.lt, fun i x y h1 h2 => ⟨(F.st.step i x y h1 h2).1.symm, F.st.back W h1 h2⟩⟩
  have := F.ne
  cases xs with
  | nil => exact absurd rfl this
  | cons _ _ => simp
theorem walk_row (W : Work n M) {s : Nat} (h : s < 2 * n) (hl : M s = s) : IsRow n M (walk n M s) := by
  have F := walk_full W h
  obtain ⟨l1, _, _⟩ := row_ends W F hl
  refine ⟨Full.isCh W F, fun x hx => ?_, fun x hx => ?_⟩
  · rw [F.st.hd] at hx
    obtain rfl := Option.some.inj hx
    exact hl
  · obtain ⟨y, hy, hy1, _⟩ := F.last
    rw [hy1] at hx
    obtain rfl := Option.some.inj hx
    unfold lastFar at l1
    rw [hy] at l1
    exact l1
theorem deco_own (W : Work n M) : Deco n M (rowsL n M) (ringsL n M) := by
  have R := ringInv W n (Nat.le_refl _)
  have e : (rowsL n M ++ ringsL n M).flatMap half = (ringSt n M n).2 := by
    rw [List.flatMap_append, R.eq]
    rfl
  refine ⟨fun r hr => ?_, fun r hr => ?_, by rw [e]; exact R.nd, fun s hs => by rw [e]; exact R.all s hs⟩
  · obtain ⟨s, h1, h2, rfl, _⟩ := (mem_rows W).mp hr
    exact walk_row W h1 h2
  · obtain ⟨st, h1, F, ⟨x, hx, hc, _⟩, _⟩ := R.ring r hr
    refine ⟨Full.isCh W F, fun a b ha hb => ?_⟩
    obtain ⟨y, hy, hy1, hy2⟩ := F.last
    rw [hx] at hy
    obtain rfl := Option.some.inj hy
    rw [F.st.hd] at ha
    rw [hy1] at hb
    obtain rfl := Option.some.inj ha
    obtain rfl := Option.some.inj hb
    exact ⟨hc, by rw [← hc]; exact W.inv _ (far_lt (F.st.lt _ hy2))⟩
end


structure GoodCh (cs : List (List Int)) : Prop where
  ne : ∀ c ∈ cs, c ≠ []
  le : cs.flatten.length ≤ 40
  once : Once cs.flatten
end Mt

namespace Mir
open PySem L2 Ch
theorem map_erase {α β : Type} (f : α → β) : ∀ (l : List α) (i : Nat), (l.map f).eraseIdx i = (l.eraseIdx i).map f
  | [], i => by simp
  | a :: r, 0 => rfl
  | a :: r, i + 1 => by show f a :: (r.map f).eraseIdx i = f a :: (r.eraseIdx i).map f; rw [map_erase f r i]
def iV (ns : List Int) : List V := ns.map V.int
theorem iV_len (ns : List Int) : (iV ns).length = ns.length := by unfold iV; rw [List.length_map]
theorem iV_get {ns : List Int} {i : Nat} {m : Int} (h : ns[i]? = some m) : (iV ns)[i]? = some (.int m) := by unfold iV; rw [List.getElem?_map, h]; rfl
theorem iV_get' {ns : List Int} {i : Nat} {x : V} (h : (iV ns)[i]? = some x) : ∃ m, ns[i]? = some m ∧ x = .int m := by
  unfold iV at h
  rw [List.getElem?_map] at h
  cases e : ns[i]? with
  | none => rw [e] at h; cases h
  | some m => rw [e] at h; exact ⟨m, rfl, (Option.some.inj h).symm⟩
def Sm (i : Int) : Prop := i.natAbs < 10 ^ 40
theorem Sm.log {i : Int} (h : Sm i) : i.natAbs.log2 < 1920 := by
  unfold Sm at h
  by_cases z : i.natAbs = 0
  · rw [z]; decide
  · exact (Nat.log2_lt z).mpr (Nat.lt_of_lt_of_le h (by decide +kernel))
theorem Sm.of {i : Int} (h1 : -(10 ^ 32 : Int) < i) (h2 : i < (10 ^ 32 : Int)) : Sm i := by
  unfold Sm
  have e : (10 : Nat) ^ 40 = 100000000 * 10 ^ 32 := by decide +kernel
  rw [e]
  omega
end Mir

namespace L2
open PySem PySem.Spec PyProof.Rows
def tupI (H : Hp) (t : Addr) : List Int := match H t with
  | some (.tup xs) => xs.map fun v => match v with
    | .int i => i
    | _ => 0
  | _ => []
theorem tupI_of {H : Hp} {t : Addr} {ns : List Int} (h : H t = some (.tup (ns.map V.int))) : tupI H t = ns := by
  unfold tupI
  rw [h]
  show (ns.map V.int).map _ = ns
  rw [List.map_map]
  exact List.map_id' ns
def eqT (H : Hp) (ns : List Int) : Value → Bool
  | .ref t => decide (tupI H t = ns)
  | _ => false
theorem vals_refsI : ∀ {ts : List Addr} {its : List Value}, Vals (ts.map V.ref) its → its = ts.map Value.ref
  | [], _, .nil => rfl
  | t :: ts, _, .cons h r => by rw [vals_refsI r]; cases h; rfl
def rInT : R2 := fun x y H Q => ∃ (t p : Addr) (ts : List Addr) (ns : List Int) (rows : List (List Int)), x = .ref t ∧ y = .ref p ∧ H t = some (.tup (ns.map V.int)) ∧ H p = some (.lst (ts.map V.ref)) ∧ ts.length = rows.length ∧ (∀ (i : Nat) (u : Addr) (r : List Int), ts[i]? = some u → rows[i]? = some r → H u = some (.tup (r.map V.int))) ∧ Q (.bl (decide (ns ∈ rows))) H
section
variable {X : Cx}
theorem op_in_tups {K : PySem.W.Frag} (hK : X.K = K) (hu : X.A.units + 1 < cLine) : OpR X (compareOp .In) rInT := by
  subst hK
  intro pins s σ H x y v u Q I rx ry h
  obtain ⟨t, p, ts, ns, rows, rfl, rfl, ht, hp, hl, hr, q⟩ := h
  cases rx
  cases ry
  obtain ⟨its, r, pl, hz⟩ := I.list (SqL.of hp)
  have er : its = ts.map Value.ref := vals_refsI r
  subst er
  have row : ∀ w ∈ ts, ∃ rr ∈ rows, H w = some (.tup (rr.map V.int)) := fun w hw => by
    obtain ⟨i, hi, rfl⟩ := List.getElem_of_mem hw
    exact ⟨rows[i]'(by omega), List.getElem_mem _, hr i _ _ (List.getElem?_eq_getElem hi) (List.getElem?_eq_getElem (by omega))⟩
  refine SeqAt.in_listAt (eqT H ns) pl.isList (fun w hw => ?_) ⟨.bl _, H, I, rfl, ?_⟩
  · obtain ⟨a, ha, rfl⟩ := List.mem_map.mp (show w ∈ ts.map Value.ref by simpa using hw)
    obtain ⟨rr, _, e⟩ := row a ha
    have z := eqAt_tupD (A := X.A.in1) (ns := rr) (ms := ns) I (by show X.A.units + 1 < cLine; exact hu) (SqT.of e) (SqT.of ht)
    show SeqAt.EqAt _ _ _ _ (decide (tupI H a = ns))
    rw [tupI_of e]
    exact z
  · have e : (ts.map Value.ref).toArray.any (eqT H ns) = decide (ns ∈ rows) := by
      rw [show (ts.map Value.ref).toArray.any (eqT H ns) = (ts.map Value.ref).any (eqT H ns) by simp, Bool.eq_iff_iff, List.any_eq_true, decide_eq_true_iff]
      constructor
      · rintro ⟨w, hw, hz⟩
        obtain ⟨a, ha, rfl⟩ := List.mem_map.mp hw
        obtain ⟨rr, hrr, e⟩ := row a ha
        have hz : tupI H a = ns := of_decide_eq_true hz
        rw [tupI_of e] at hz
        rw [← hz]
        exact hrr
      · intro hm
        obtain ⟨i, hi, e1⟩ := List.getElem_of_mem hm
        have hi2 : i < ts.length := by omega
        refine ⟨.ref ts[i], List.mem_map.mpr ⟨_, List.getElem_mem hi2, rfl⟩, ?_⟩
        show decide (tupI H ts[i] = ns) = true
        rw [tupI_of (hr i _ _ (List.getElem?_eq_getElem hi2) (List.getElem?_eq_getElem hi)), e1]
        exact decide_eq_true rfl
    rw [e]
    exact q
end
end L2

namespace Mir
open PySem L2 Ch
def behM (M : Nat → Nat) (p q e : Nat) : Nat :=
  if p = q then (if e = p ∨ e = M p then e else M e)
  else if e = p then q else if e = q then p
  else if e = M p then (if M q ≠ q then M q else e)
  else if e = M q then (if M p ≠ p then M p else e) else M e
def beh (ms : List Nat) (p q : Nat) : List Nat := (List.range ms.length).map (behM (at0 ms) p q)
theorem beh_len (ms : List Nat) (p q : Nat) : (beh ms p q).length = ms.length := by unfold beh; rw [List.length_map, List.length_range]
theorem beh_at {ms : List Nat} {p q e : Nat} (h : e < ms.length) : at0 (beh ms p q) e = behM (at0 ms) p q e := by
  unfold beh at0
  simp [List.getD, List.getElem?_map, List.getElem?_range h]
theorem ext_at {a b : List Nat} (h : a.length = b.length) (k : ∀ e, e < a.length → at0 a e = at0 b e) : a = b := by
  refine List.ext_getElem? fun i => ?_
  by_cases hi : i < a.length
  · rw [at0_get hi, at0_get (h ▸ hi), k i hi]
  · rw [List.getElem?_eq_none (by omega), List.getElem?_eq_none (by omega)]
theorem at0_set' (ms : List Nat) (i j v : Nat) : at0 (ms.set i v) j = if j = i ∧ i < ms.length then v else at0 ms j := by
  by_cases h : i < ms.length
  · rw [at0_set h]; simp [h]
  · rw [if_neg (by omega), List.set_eq_of_length_le (by omega)]
def Fits (n : Nat) (ms : List Nat) (p q : Int) : Prop := 0 ≤ p ∧ p ≤ q ∧ q < 2 * n ∧ ((at0 ms p.toNat : Nat) : Int) ≠ q
instance {n : Nat} {ms : List Nat} {p q : Int} : Decidable (Fits n ms p q) := by unfold Fits; infer_instance
theorem Fits.nat {n : Nat} {ms : List Nat} {p q : Int} (h : Fits n ms p q) : ∃ x y : Nat, p = x ∧ q = y ∧ x ≤ y ∧ y < 2 * n ∧ at0 ms x ≠ y := by
  obtain ⟨h0, h1, h2, h3⟩ := h
  exact ⟨p.toNat, q.toNat, by omega, by omega, by omega, by omega, by omega⟩
theorem beh_work {n : Nat} {ms : List Nat} (W : WorkL n ms) {p q : Nat} (hp : p < 2 * n) (hq : q < 2 * n) (hf : at0 ms p ≠ q) : WorkL n (beh ms p q) := by
  have hl := W.len
  have ip := W.wk.inv p hp
  have iq := W.wk.inv q hq
  have lp := W.wk.lt p hp
  have lq := W.wk.lt q hq
  refine ⟨W.small, by rw [beh_len]; exact hl, fun x hx => ?_, fun x hx => ?_⟩
  · rw [beh_at (by omega)]
    have lx := W.wk.lt x hx
    unfold behM
    grind
  · have lx := W.wk.lt x hx
    have ix := W.wk.inv x hx
    have b : behM (at0 ms) p q x < ms.length := by unfold behM; grind
    rw [beh_at (e := x) (by omega), beh_at b]
    unfold behM
    grind
def lawBeh (ms : List Nat) (p q : Nat) : List Nat :=
  let m4 := (((ms.set p p).set q q).set (at0 ms p) (at0 ms p)).set (at0 ms q) (at0 ms q)
  if p = q then m4 else
    let m5 := (m4.set p q).set q p
    if at0 ms p ≠ p ∧ at0 ms q ≠ q then (m5.set (at0 ms p) (at0 ms q)).set (at0 ms q) (at0 ms p) else m5
theorem lawBeh_eq {n : Nat} {ms : List Nat} (W : WorkL n ms) {p q : Nat} (hp : p < 2 * n) (hq : q < 2 * n) (hf : at0 ms p ≠ q) : lawBeh ms p q = beh ms p q := by
  have hl := W.len
  have ip := W.wk.inv p hp
  have iq := W.wk.inv q hq
  have lp := W.wk.lt p hp
  have lq := W.wk.lt q hq
  have ln : (lawBeh ms p q).length = ms.length := by unfold lawBeh; simp only; split; · simp only [List.length_set]
                                                     · split <;> simp only [List.length_set]
  refine ext_at (by rw [ln, beh_len]) fun e he => ?_
  rw [ln] at he
  rw [beh_at he]
  unfold lawBeh behM
  simp only
  by_cases c1 : p = q
  · rw [if_pos c1, if_pos c1]
    simp only [at0_set', List.length_set]
    grind
  · rw [if_neg c1, if_neg c1]
    by_cases c2 : at0 ms p ≠ p ∧ at0 ms q ≠ q
    · rw [if_pos c2]
      simp only [at0_set', List.length_set]
      grind
    · rw [if_neg c2]
      simp only [at0_set', List.length_set]
      grind
def frd (ms : List Nat) (p q : Nat) : List Nat := ([p, q].filter fun e => !decide (at0 ms e = e)).map (at0 ms)
def progBeh (ms : List Nat) (p q : Nat) : List Nat :=
  let fr := frd ms p q
  clasp (if 0 < fr.length then clasp ms (fr.getD 0 0) (fr.getD (fr.length - 1) 0) else ms) p q
theorem clasp_len (ms : List Nat) (p q : Nat) : (clasp ms p q).length = ms.length := by unfold clasp; simp only [List.length_set]
theorem frd_len (ms : List Nat) (p q : Nat) : (frd ms p q).length ≤ 2 := by
  unfold frd
  rw [List.length_map]
  exact List.length_filter_le _ _
theorem frd_cases (ms : List Nat) (p q : Nat) : frd ms p q = if at0 ms p = p then (if at0 ms q = q then [] else [at0 ms q]) else (if at0 ms q = q then [at0 ms p] else [at0 ms p, at0 ms q]) := by
  unfold frd
  by_cases a : at0 ms p = p <;> by_cases b : at0 ms q = q <;> simp [a, b]
theorem progBeh_eq {n : Nat} {ms : List Nat} (W : WorkL n ms) {p q : Nat} (hp : p < 2 * n) (hq : q < 2 * n) (hf : at0 ms p ≠ q) : progBeh ms p q = beh ms p q := by
  have hl := W.len
  have ip := W.wk.inv p hp
  have iq := W.wk.inv q hq
  have lp := W.wk.lt p hp
  have lq := W.wk.lt q hq
  have ln : (progBeh ms p q).length = ms.length := by unfold progBeh; simp only; rw [clasp_len]; split; · rw [clasp_len]
                                                      · rfl
  refine ext_at (by rw [ln, beh_len]) fun e he => ?_
  rw [ln] at he
  rw [beh_at he]
  unfold progBeh behM
  simp only
  rw [frd_cases]
  by_cases a : at0 ms p = p <;> by_cases b : at0 ms q = q
  · simp [a, b]
    unfold clasp
    simp only [at0_set', List.length_set]
    grind
  · simp [a, b]
    unfold clasp
    simp only [at0_set', List.length_set]
    grind
  · simp [a, b]
    unfold clasp
    simp only [at0_set', List.length_set]
    grind
  · simp [a, b]
    unfold clasp
    simp only [at0_set', List.length_set]
    grind
end Mir
namespace Mir
open PySem L2 Ch
theorem nodup_gone {r : List Nat} {g y : Nat} (nr : r.Nodup) (hg : g < r.length) (hy : r[g]? = some y) : y ∉ r.eraseIdx g := fun z => by
  obtain ⟨i, hi, e⟩ := List.mem_eraseIdx_iff_getElem?.mp z
  exact hi ((List.getElem?_inj hg nr).mp (hy.trans e.symm)).symm
section
variable (K : PySem.W.Frag)
def spFits : Sp := fun vs H Q _ => ∃ (a d : Addr) (n : Nat) (ms : List Nat) (p q : Int), vs = [.ref a, .ref d] ∧ SqT K H a (nV ms) ∧ WorkL n ms ∧ SqT K H d [.int p, .int q] ∧ Q (.bl (decide (Fits n ms p q))) H
def spMisfit (C : Addr) : Sp := fun vs H Q E => ∃ (a d : Addr) (n : Nat) (ms : List Nat) (p q : Int), vs = [.ref a, .ref d] ∧ SqT K H a (nV ms) ∧ WorkL n ms ∧ H d = some (.tup [.int p, .int q]) ∧ Sm p ∧ Sm q ∧ (Fits n ms p q → Q .non H) ∧ (¬ Fits n ms p q → E (.ref C) none H)
def spFreedE : Sp := fun vs H Q _ => ∃ (a d : Addr) (n : Nat) (ms : List Nat) (p q : Nat), vs = [.ref a, .ref d] ∧ SqT K H a (nV ms) ∧ WorkL n ms ∧ SqT K H d [.int p, .int q] ∧ p < 2 * n ∧ q < 2 * n ∧
  ∀ (l : Addr) (H' : Hp), H l = none → Same H H' → H' l = some (.lst (nV (frd ms p q))) → Q (.ref l) H'
def spClaspE : Sp := fun vs H Q _ => ∃ (l : Addr) (ms : List Nat) (p q : Nat), vs = [.ref l, .int p, .int q] ∧ H l = some (.lst (nV ms)) ∧ p < ms.length ∧ q < ms.length ∧
  ∀ H' : Hp, H' l = some (.lst (nV (clasp ms p q))) → (∀ b, b ≠ l → H' b = H b) → Q .non H'
def spRecl (C : Addr) : Sp := fun vs H Q E => ∃ (a d : Addr) (n : Nat) (ms : List Nat) (p q : Int), vs = [.ref a, .ref d] ∧ SqT K H a (nV ms) ∧ WorkL n ms ∧ H d = some (.tup [.int p, .int q]) ∧ Sm p ∧ Sm q ∧
  (Fits n ms p q → ∀ (l : Addr) (H' : Hp), H l = none → Same H H' → H' l = some (.tup (nV (beh ms p.toNat q.toNat))) → Q (.ref l) H') ∧ (¬ Fits n ms p q → E (.ref C) none H)
def spLawNumber : Sp := fun vs H Q _ => ∃ (a : Addr) (ns : List Int) (k : Nat), vs = [.ref a, .int k] ∧ SqL K H a (ns.map V.int) ∧ k ≤ 1000 ∧ ∀ i : Int, Q (.int i) H
def spLawWork : Sp := fun vs H Q _ => ∃ (a : Addr) (ns : List Int) (k n : Nat), vs = [.ref a, .int k, .int n] ∧ SqL K H a (ns.map V.int) ∧ k ≤ 900 ∧ n ≤ 40 ∧ ∀ (l : Addr) (H' : Hp) (ms : List Nat), H l = none → Same H H' → WorkL n ms → H' l = some (.tup (nV ms)) → Q (.ref l) H'
def spLawFits : Sp := fun vs H Q _ => ∃ (a : Addr) (n : Nat) (ms : List Nat) (p q : Int), vs = [.ref a, .int p, .int q] ∧ SqT K H a (nV ms) ∧ WorkL n ms ∧ Q (.bl (decide (Fits n ms p q))) H
def spLawBeh : Sp := fun vs H Q _ => ∃ (a : Addr) (n : Nat) (ms : List Nat) (p q : Nat), vs = [.ref a, .int p, .int q] ∧ SqT K H a (nV ms) ∧ WorkL n ms ∧ p < 2 * n ∧ q < 2 * n ∧ at0 ms p ≠ q ∧
  ∀ (l : Addr) (H' : Hp), H l = none → Same H H' → H' l = some (.tup (nV (beh ms p q))) → Q (.ref l) H'
end
end Mir

namespace Mir
open PySem L2 Ch
theorem WorkL.end_sm {n : Nat} {ms : List Nat} (W : WorkL n ms) {x : Nat} (h : x < 2 * n) : Sm (x : Int) := by
  have := W.small
  exact Sm.of (by omega) (by omega)
end Mir




namespace Mir
open PySem L2 Ch
theorem up_flat (l : List (List Nat)) : (l.map Mt.up).flatten = Mt.up l.flatten := by
  unfold Mt.up
  rw [List.map_flatten]
theorem deco_len {n : Nat} {M : Nat → Nat} {rows rings : List (List Nat)} (D : Mt.Deco n M rows rings) : (rows ++ rings).flatten.length = n := by
  have z := D.total.length_eq
  rw [Mt.half_flat, List.length_range] at z
  unfold Mt.half at z
  rw [List.length_map] at z
  exact z
theorem deco_good {n : Nat} {M : Nat → Nat} {rows rings : List (List Nat)} (hn : n ≤ 40) (D : Mt.Deco n M rows rings) : Mt.GoodCh (rows.map Mt.up ++ rings.map Mt.up) := by
  have e : (rows.map Mt.up ++ rings.map Mt.up).flatten = Mt.up (rows ++ rings).flatten := by rw [← List.map_append, up_flat]
  refine ⟨fun c hc => ?_, by rw [e, Mt.up_len, deco_len D]; exact hn, by rw [e]; refine Mt.once_of (n := n) ?_; rw [← Mt.half_flat]; exact D.total⟩
  rw [← List.map_append] at hc
  obtain ⟨r, hr, rfl⟩ := List.mem_map.mp hc
  have z := (D.ch hr).ne
  intro h
  have y : r.length = 0 := by rw [← Mt.up_len r, h]; rfl
  omega
theorem len_le_flat {α : Type} : ∀ {l : List (List α)}, (∀ r ∈ l, 0 < r.length) → l.length ≤ l.flatten.length
  | [], _ => Nat.le_refl _
  | a :: r, h => by
    have z := len_le_flat (l := r) fun x hx => h x (List.mem_cons_of_mem _ hx)
    have y := h a List.mem_cons_self
    rw [List.flatten_cons, List.length_append, List.length_cons]
    omega
end Mir

namespace Mir
open PySem L2 Ch
theorem deco_bounds {n : Nat} {M : Nat → Nat} {rows rings : List (List Nat)} (hn : n ≤ 40) (D : Mt.Deco n M rows rings) : (rows.map Mt.up ++ rings.map Mt.up).flatten.length ≤ 40 ∧ (rows.map Mt.up ++ rings.map Mt.up).length ≤ 40 := by
  have G := deco_good hn D
  exact ⟨G.le, Nat.le_trans (len_le_flat fun x hx => Nat.pos_of_ne_zero fun z => G.ne x hx (List.eq_nil_of_length_eq_zero z)) G.le⟩
end Mir

namespace L2
theorem op_in_seqK {X : Cx} {K : PySem.W.Frag} (hK : X.K = K) : OpR X (PySem.compareOp .In) (rIn K false) := hK ▸ op_in_seq
end L2
namespace Mir
open PySem L2
def hasS (e : Nat) (c : List Nat) : Bool := decide (2 * (e / 2) ∈ c) || decide (2 * (e / 2) + 1 ∈ c)
def chainF (rs : List (List Nat)) (e : Nat) : List Nat := (rs.find? (hasS e)).getD []
def allC (n : Nat) (ms : List Nat) : List (List Nat) := Ch.rowsL n (at0 ms) ++ Ch.ringsL n (at0 ms)
theorem inV_nats (x : Nat) : ∀ l : List Nat, inV (.int (x : Nat)) (nV l) = decide (x ∈ l)
  | [] => rfl
  | y :: r => by
    have ih := inV_nats x r
    unfold inV at ih ⊢
    show ((decide ((y : Int) = (x : Int))) || (nV r).any _) = _
    rw [ih]
    by_cases c : x = y
    · subst c
      rw [decide_eq_true (rfl : (x : Int) = x), Bool.true_or, decide_eq_true List.mem_cons_self]
    · rw [decide_eq_false (fun z => c (by omega)), Bool.false_or]
      exact decide_eq_decide.mpr ⟨fun z => List.mem_cons_of_mem _ z, fun z => (List.mem_cons.mp z).resolve_left c⟩
theorem flat_nats (l : List Nat) : (nV l).all flatV = true := List.all_eq_true.mpr fun v hv => by
  obtain ⟨x, _, rfl⟩ := List.mem_map.mp hv
  rfl
theorem chain_there {n : Nat} {ms : List Nat} (W : WorkL n ms) {e : Nat} (he : e < 2 * n) : ∃ c, (allC n ms).find? (hasS e) = some c := by
  have D := Mt.deco_own W.wk
  obtain ⟨c, hc, hh⟩ := List.mem_flatMap.mp (D.all (e / 2) (by omega))
  obtain ⟨x, hx, hx2⟩ := List.mem_map.mp hh
  have : hasS e c = true := by
    unfold hasS
    rw [Bool.or_eq_true, decide_eq_true_iff, decide_eq_true_iff]
    by_cases o : x % 2 = 0
    · exact .inl (by rw [show 2 * (e / 2) = x by omega]; exact hx)
    · exact .inr (by rw [show 2 * (e / 2) + 1 = x by omega]; exact hx)
  cases z : (allC n ms).find? (hasS e) with
  | some y => exact ⟨y, rfl⟩
  | none => exact absurd this (by simpa using List.find?_eq_none.mp z c hc)
theorem allC_len {n : Nat} {ms : List Nat} (W : WorkL n ms) : (allC n ms).length ≤ 40 := by
  have z := (deco_bounds W.small (Mt.deco_own W.wk)).2
  rw [List.length_append, List.length_map, List.length_map] at z
  unfold allC
  rw [List.length_append]
  exact z
theorem RowsT.app {H : Hp} {l r p : Addr} {rs qs : List (List Nat)} {ts us : List Addr} (h1 : RowsT H l rs) (h2 : RowsT H r qs) (e1 : H l = some (.lst (ts.map V.ref))) (e2 : H r = some (.lst (us.map V.ref))) (hp : H p = none) : RowsT (L2.upd H p (.lst (ts.map V.ref ++ us.map V.ref))) p (rs ++ qs) := by
  obtain ⟨ts', a1, a2, a3⟩ := h1
  obtain ⟨us', b1, b2, b3⟩ := h2
  have inj : ∀ {x y : List Addr}, x.map V.ref = y.map V.ref → x = y := fun {x y} z => (List.map_inj_right (f := V.ref) fun a b h => by injection h).mp z
  rw [e1] at a1
  rw [e2] at b1
  obtain rfl : ts = ts' := inj (by injection a1 with a1; injection a1)
  obtain rfl : us = us' := inj (by injection b1 with b1; injection b1)
  refine ⟨ts ++ us, by rw [upd_same, List.map_append], by rw [List.length_append, List.length_append, a2, b2], fun i t x c1 c2 => same_upd hp _ _ ?_⟩
  by_cases c : i < ts.length
  · rw [List.getElem?_append_left c] at c1
    rw [List.getElem?_append_left (by omega)] at c2
    exact a3 i t x c1 c2
  · rw [List.getElem?_append_right (by omega)] at c1
    rw [List.getElem?_append_right (by omega), ← a2] at c2
    exact b3 _ t x c1 c2
theorem rowI_mem {c : List Nat} {rs : List (List Nat)} : rowI c ∈ rs.map rowI ↔ c ∈ rs := by
  constructor
  · intro h
    obtain ⟨d, hd, e⟩ := List.mem_map.mp h
    unfold rowI at e
    have : d = c := (List.map_inj_right (f := fun (x : Nat) => (x : Int)) fun a b h => by omega).mp e
    rw [← this]
    exact hd
  · exact fun h => List.mem_map.mpr ⟨c, h, rfl⟩
theorem rowI_eq {c d : List Nat} : rowI c = rowI d ↔ c = d := ⟨fun e => (List.map_inj_right (f := fun (x : Nat) => (x : Int)) fun a b h => by omega).mp e, fun e => by rw [e]⟩
def kindF (n : Nat) (ms : List Nat) (p q : Nat) : Str :=
  let lo := chainF (allC n ms) p
  let hi := chainF (allC n ms) q
  if p = q then (if lo ∈ Ch.ringsL n (at0 ms) then "opened" else "cut")
  else if at0 ms p = p ∧ at0 ms q = q then (if lo = hi then "closed" else "joined")
  else if lo = hi then (if (allC n (beh ms p q)).length = (allC n ms).length then "turned" else "parted")
  else if lo ∈ Ch.ringsL n (at0 ms) ∨ hi ∈ Ch.ringsL n (at0 ms) then "taken" else "crossed"
variable (K : PySem.W.Frag)
def spChainW : Sp := fun vs H Q _ => ∃ (l : Addr) (rs : List (List Nat)) (e : Nat) (c : List Nat), vs = [.ref l, .int (e : Nat)] ∧ RowsT H l rs ∧ rs.length ≤ 200 ∧ rs.find? (hasS e) = some c ∧ ∀ (t : Addr) (H' : Hp), Same H H' → H' t = some (.tup (nV c)) → Q (.ref t) H'
def spKind (C : Addr) : Sp := fun vs H Q E => ∃ (a d : Addr) (n : Nat) (ms : List Nat) (p q : Int), vs = [.ref a, .ref d] ∧ SqT K H a (nV ms) ∧ WorkL n ms ∧ H d = some (.tup [.int p, .int q]) ∧ Sm p ∧ Sm q ∧
  (Fits n ms p q → ∀ H' : Hp, Same H H' → Q (.str (kindF n ms p.toNat q.toNat)) H') ∧ (¬ Fits n ms p q → E (.ref C) none H)
end Mir





namespace Mir
open PySem L2
def TsT {α : Type} (f : α → List V) (H : Hp) (l : Addr) (xs : List α) : Prop :=
  ∃ ts : List Addr, H l = some (.lst (ts.map V.ref)) ∧ ts.length = xs.length ∧ ∀ (i : Nat) (t : Addr) (x : α), ts[i]? = some t → xs[i]? = some x → H t = some (.tup (f x))
section
variable {α : Type} {f : α → List V} {H H' : Hp} {l r b t d : Addr} {xs ys : List α} {x : α}
theorem TsT.same (h : TsT f H l xs) (s : Same H H') : TsT f H' l xs := by
  obtain ⟨ts, h1, h2, h3⟩ := h
  exact ⟨ts, s _ _ h1, h2, fun i t p e1 e2 => s _ _ (h3 i t p e1 e2)⟩
theorem TsT.nil (h : H l = some (.lst [])) : TsT f H l ([] : List α) := ⟨[], h, rfl, fun i t r e => by simp at e⟩
theorem TsT.len (h : TsT f H l xs) : ∃ vs, H l = some (.lst vs) ∧ vs.length = xs.length := by
  obtain ⟨ts, h1, h2, _⟩ := h
  exact ⟨_, h1, by rw [List.length_map]; exact h2⟩
theorem TsT.get {i : Nat} (h : TsT f H l xs) (e : xs[i]? = some x) : ∃ vs t, H l = some (.lst vs) ∧ vs[i]? = some (.ref t) ∧ H t = some (.tup (f x)) := by
  obtain ⟨ts, h1, h2, h3⟩ := h
  have hi := (List.getElem?_eq_some_iff.mp e).1
  have et : ts[i]? = some (ts[i]'(by omega)) := List.getElem?_eq_getElem (by omega)
  exact ⟨_, _, h1, by rw [List.getElem?_map, et]; rfl, h3 i _ x et e⟩
def Tup (f : α → List V) (H : Hp) (ts : List Addr) (xs : List α) : Prop := ts.length = xs.length ∧ ∀ (i : Nat) (t : Addr) (x : α), ts[i]? = some t → xs[i]? = some x → H t = some (.tup (f x))
theorem TsT.tup (h : TsT f H l xs) : ∃ ts, H l = some (.lst (ts.map V.ref)) ∧ Tup f H ts xs := by
  obtain ⟨ts, h1, h2, h3⟩ := h
  exact ⟨ts, h1, h2, h3⟩
theorem Tup.tst {ts : List Addr} (h : Tup f H ts xs) (hl : H l = some (.lst (ts.map V.ref))) : TsT f H l xs := ⟨ts, hl, h.1, h.2⟩
theorem Tup.upd {ts : List Addr} {o : HO} {vs : List V} (h : Tup f H ts xs) (hl : H l = some (.lst vs)) : Tup f (upd H l o) ts xs := ⟨h.1, fun i t p e1 e2 => by
  have key := h.2 i t p e1 e2
  rw [upd_ne (fun e => by rw [e, hl] at key; cases key)]
  exact key⟩
theorem Tup.app {ts us : List Addr} (h : Tup f H ts xs) (k : Tup f H us ys) : Tup f H (ts ++ us) (xs ++ ys) := ⟨by rw [List.length_append, List.length_append, h.1, k.1], fun i t p e1 e2 => by
  by_cases hi : i < ts.length
  · rw [List.getElem?_append_left hi] at e1
    rw [List.getElem?_append_left (by have := h.1; omega)] at e2
    exact h.2 i t p e1 e2
  · rw [List.getElem?_append_right (by omega)] at e1
    rw [List.getElem?_append_right (by have := h.1; omega), ← h.1] at e2
    exact k.2 _ t p e1 e2⟩
theorem Tup.one (h : H t = some (.tup (f x))) : Tup f H [t] [x] := ⟨rfl, fun i u p e1 e2 => by
  cases i with
  | zero => cases e1; cases e2; exact h
  | succ i => cases e1⟩
theorem TsT.snoc (h : TsT f H l xs) (ht : H t = some (.tup (f x))) : ∃ vs, H l = some (.lst vs) ∧ vs.length = xs.length ∧ TsT f (L2.upd H l (.lst (vs ++ [.ref t]))) l (xs ++ [x]) := by
  obtain ⟨ts, h1, h2⟩ := h.tup
  refine ⟨_, h1, by rw [List.length_map]; exact h2.1, ?_⟩
  exact ((h2.app (Tup.one ht)).upd h1).tst (by rw [upd_same, List.map_append]; rfl)
end
def pr (p : Int × Int) : List V := [.int p.1, .int p.2]
theorem iV_flat (p : List Int) : ∀ v ∈ iV p, flatV v = true := fun v hv => by
  unfold iV at hv
  obtain ⟨x, _, rfl⟩ := List.mem_map.mp hv
  rfl

end Mir




namespace Mir
theorem list_snoc {α : Type} {P : List α → Prop} (h0 : P []) (h1 : ∀ l a, P l → P (l ++ [a])) : ∀ l, P l := fun l => by
  have : ∀ l : List α, P l.reverse := fun l => by
    induction l with
    | nil => exact h0
    | cons a r ih => rw [List.reverse_cons]; exact h1 _ _ ih
  have z := this l.reverse
  rwa [List.reverse_reverse] at z
end Mir

namespace Mir
inductive Cn (ps : List (Int × Int)) : Int → Int → Prop
  | base {p : Int × Int} (h : p ∈ ps) : Cn ps p.1 p.2
  | refl (x : Int) : Cn ps x x
  | symm {x y : Int} (h : Cn ps x y) : Cn ps y x
  | trans {x y z : Int} (h : Cn ps x y) (k : Cn ps y z) : Cn ps x z
theorem Cn.mono {ps qs : List (Int × Int)} {x y : Int} (h : Cn ps x y) (s : ∀ p ∈ ps, p ∈ qs) : Cn qs x y := by
  induction h with
  | base h => exact .base (s _ h)
  | refl x => exact .refl x
  | symm _ ih => exact ih.symm
  | trans _ _ ih1 ih2 => exact ih1.trans ih2
theorem nodup_subI : ∀ {l₁ l₂ : List Int}, l₁.Nodup → (∀ x ∈ l₁, x ∈ l₂) → l₁.length ≤ l₂.length
  | [], _, _, _ => Nat.zero_le _
  | a :: r, l₂, nd, h => by
    rw [List.nodup_cons] at nd
    have ha := h a List.mem_cons_self
    have z := nodup_subI (l₁ := r) (l₂ := l₂.erase a) nd.2 fun x hx => (List.mem_erase_of_ne (fun (e : x = a) => nd.1 (e ▸ hx))).mpr (h x (List.mem_cons_of_mem _ hx))
    rw [List.length_erase_of_mem ha] at z
    have : 0 < l₂.length := List.length_pos_of_mem ha
    show r.length + 1 ≤ _
    omega
structure One (R : Int → Int → Prop) (S : Int → Prop) (L : List Int) : Prop where
  nd : L.Nodup
  ins : ∀ a ∈ L, S a
  all : ∀ x, S x → ∃ a ∈ L, R a x
  inj : ∀ a ∈ L, ∀ b ∈ L, R a b → a = b
theorem One.le {R : Int → Int → Prop} {S : Int → Prop} {L M : List Int} (sy : ∀ {x y}, R x y → R y x) (tr : ∀ {x y z}, R x y → R y z → R x z) (h : One R S L) (k : One R S M) : L.length ≤ M.length := by
  have pick : ∀ a, ∃ b, a ∈ L → b ∈ M ∧ R b a := fun a => by
    by_cases c : a ∈ L
    · obtain ⟨b, hb, r⟩ := k.all a (h.ins a c)
      exact ⟨b, fun _ => ⟨hb, r⟩⟩
    · exact ⟨0, fun z => absurd z c⟩
  let f : Int → Int := fun a => Classical.choose (pick a)
  have hf : ∀ a, a ∈ L → f a ∈ M ∧ R (f a) a := fun a => Classical.choose_spec (pick a)
  have nd : (L.map f).Nodup := by
    refine List.pairwise_map.mpr (List.Pairwise.imp_of_mem (fun {a b} ha hb ne e => ne ?_) h.nd)
    have r1 := (hf a ha).2
    have r2 := (hf b hb).2
    rw [e] at r1
    exact h.inj a ha b hb (tr (sy r1) r2)
  have z := nodup_subI nd (l₂ := M) fun x hx => by
    obtain ⟨a, ha, rfl⟩ := List.mem_map.mp hx
    exact (hf a ha).1
  rwa [List.length_map] at z
theorem One.eq {R : Int → Int → Prop} {S : Int → Prop} {L M : List Int} (sy : ∀ {x y}, R x y → R y x) (tr : ∀ {x y z}, R x y → R y z → R x z) (h : One R S L) (k : One R S M) : L.length = M.length :=
  Nat.le_antisymm (One.le (R := R) (S := S) sy tr h k) (One.le (R := R) (S := S) sy tr k h)
theorem One.cn {ps : List (Int × Int)} {S : Int → Prop} {L M : List Int} (h : One (Cn ps) S L) (k : One (Cn ps) S M) : L.length = M.length := h.eq (fun z => z.symm) (fun a b => a.trans b) k
theorem cn_snoc {ps : List (Int × Int)} {p : Int × Int} {x y : Int} (h : Cn (ps ++ [p]) x y) : Cn ps x y ∨ (Cn ps x p.1 ∧ Cn ps p.2 y) ∨ (Cn ps x p.2 ∧ Cn ps p.1 y) := by
  induction h with
  | @base q hq =>
    rcases List.mem_append.mp hq with hq | hq
    · exact .inl (.base hq)
    · rw [List.mem_singleton.mp hq]
      exact .inr (.inl ⟨.refl _, .refl _⟩)
  | refl x => exact .inl (.refl x)
  | symm _ ih =>
    rcases ih with h | ⟨h1, h2⟩ | ⟨h1, h2⟩
    · exact .inl h.symm
    · exact .inr (.inr ⟨h2.symm, h1.symm⟩)
    · exact .inr (.inl ⟨h2.symm, h1.symm⟩)
  | trans _ _ ih1 ih2 =>
    rcases ih1 with h | ⟨h1, h2⟩ | ⟨h1, h2⟩
    · rcases ih2 with k | ⟨k1, k2⟩ | ⟨k1, k2⟩
      · exact .inl (h.trans k)
      · exact .inr (.inl ⟨h.trans k1, k2⟩)
      · exact .inr (.inr ⟨h.trans k1, k2⟩)
    · rcases ih2 with k | ⟨k1, k2⟩ | ⟨k1, k2⟩
      · exact .inr (.inl ⟨h1, h2.trans k⟩)
      · exact .inr (.inl ⟨h1, k2⟩)
      · exact .inl (h1.trans k2)
    · rcases ih2 with k | ⟨k1, k2⟩ | ⟨k1, k2⟩
      · exact .inr (.inr ⟨h1, h2.trans k⟩)
      · exact .inl (h1.trans k2)
      · exact .inr (.inr ⟨h1, k2⟩)
end Mir

namespace Mir
open Ch Mt
theorem Cn.sub {ps qs : List (Int × Int)} {x y : Int} (h : Cn ps x y) (s : ∀ p ∈ ps, Cn qs p.1 p.2) : Cn qs x y := by
  induction h with
  | base h => exact s _ h
  | refl x => exact .refl x
  | symm _ ih => exact ih.symm
  | trans _ _ ih1 ih2 => exact ih1.trans ih2
theorem Cn.keeps {ps : List (Int × Int)} {x y : Int} {P : Int → Prop} (h : Cn ps x y) (s : ∀ p ∈ ps, P p.1 ↔ P p.2) : P x ↔ P y := by
  induction h with
  | base h => exact s _ h
  | refl x => exact Iff.rfl
  | symm _ ih => exact ih.symm
  | trans _ _ ih1 ih2 => exact ih1.trans ih2
def st (e : Nat) : Int := ((e / 2 : Nat) : Int)
theorem st_eq {e f : Nat} (h : e / 2 = f / 2) : st e = st f := by unfold st; rw [h]
theorem st_inj {e f : Nat} (h : st e = st f) : e / 2 = f / 2 := by unfold st at h; omega
def edg (n : Nat) (M : Nat → Nat) : List (Int × Int) := (List.range (2 * n)).map fun e => (st e, st (M e))
def Ce (n : Nat) (M : Nat → Nat) (e f : Nat) : Prop := Cn (edg n M) (st e) (st f)
section
variable {n : Nat} {M : Nat → Nat}
theorem edg_mem {p : Int × Int} : p ∈ edg n M ↔ ∃ e, e < 2 * n ∧ p = (st e, st (M e)) := by
  unfold edg
  rw [List.mem_map]
  exact ⟨fun ⟨e, h, z⟩ => ⟨e, List.mem_range.mp h, z.symm⟩, fun ⟨e, h, z⟩ => ⟨e, List.mem_range.mpr h, z.symm⟩⟩
theorem Ce.edge {e : Nat} (h : e < 2 * n) : Ce n M e (M e) := Cn.base (p := (st e, st (M e))) (edg_mem.mpr ⟨e, h, rfl⟩)
theorem Ce.refl (e : Nat) : Ce n M e e := Cn.refl _
theorem Ce.symm {e f : Nat} (h : Ce n M e f) : Ce n M f e := Cn.symm h
theorem Ce.trans {e f g : Nat} (h : Ce n M e f) (k : Ce n M f g) : Ce n M e g := Cn.trans h k
theorem Ce.same {e f : Nat} (h : e / 2 = f / 2) : Ce n M e f := by unfold Ce; rw [st_eq h]; exact Cn.refl _
theorem half_cases {e x : Nat} (h : x / 2 = e / 2) : e = x ∨ e = far x := by
  unfold far
  split <;> omega
theorem ch_shut {c : List Nat} (hc : IsRow n M c ∨ IsRing n M c) {e : Nat} (h : e / 2 ∈ half c) : M e / 2 ∈ half c := by
  obtain ⟨x, hx, ex⟩ := mem_half.mp h
  obtain ⟨i, hi⟩ := List.getElem?_of_mem hx
  have ch : IsCh n M c := hc.elim (·.toIsCh) (·.toIsCh)
  have hl := (List.getElem?_eq_some_iff.mp hi).1
  have inn : ∀ {y : Nat}, y ∈ c → y / 2 ∈ half c := fun hy => mem_half.mpr ⟨_, hy, rfl⟩
  have inf : ∀ {y : Nat}, y ∈ c → far y / 2 ∈ half c := fun hy => by rw [far_half]; exact inn hy
  rcases half_cases ex with rfl | rfl
  · by_cases i0 : i = 0
    · subst i0
      rcases hc with r | r
      · rw [r.fst _ hi]; exact h
      · have hL : c.length - 1 < c.length := by omega
        rw [(r.cl _ _ hi (List.getElem?_eq_getElem hL)).2]
        exact inf (List.getElem_mem hL)
    · have hL : i - 1 < c.length := by omega
      have e1 : i = i - 1 + 1 := by omega
      rw [e1] at hi
      rw [(ch.lk _ _ _ (List.getElem?_eq_getElem hL) hi).2]
      exact inf (List.getElem_mem hL)
  · by_cases il : i + 1 < c.length
    · rw [(ch.lk _ _ _ hi (List.getElem?_eq_getElem il)).1]
      exact inn (List.getElem_mem il)
    · have e1 : i = c.length - 1 := by omega
      rw [e1] at hi
      rcases hc with r | r
      · rw [r.lst _ hi]; exact inf hx
      · have h0 : 0 < c.length := by omega
        rw [(r.cl _ _ (List.getElem?_eq_getElem h0) hi).1]
        exact inn (List.getElem_mem h0)
theorem half_idx {c : List Nat} (nd : (half c).Nodup) {i j x y : Nat} (hi : c[i]? = some x) (hj : c[j]? = some y) (e : x / 2 = y / 2) : i = j := by
  have h1 : (half c)[i]? = some (x / 2) := by unfold half; rw [List.getElem?_map, hi]; rfl
  have h2 : (half c)[j]? = some (x / 2) := by unfold half; rw [List.getElem?_map, hj, e]; rfl
  exact (List.getElem?_inj (List.getElem?_eq_some_iff.mp h1).1 nd).mp (h1.trans h2.symm)
theorem far_ne (x : Nat) : far x ≠ x := by unfold far; split <;> omega
theorem ring_tight {c : List Nat} (r : IsRing n M c) (nd : (half c).Nodup) {e : Nat} (h : e / 2 ∈ half c) : M e ≠ e := by
  obtain ⟨x, hx, ex⟩ := mem_half.mp h
  obtain ⟨i, hi⟩ := List.getElem?_of_mem hx
  have hl := (List.getElem?_eq_some_iff.mp hi).1
  intro le
  rcases half_cases ex with rfl | rfl
  · by_cases i0 : i = 0
    · subst i0
      obtain ⟨y, hy⟩ : ∃ y, c[c.length - 1]? = some y := ⟨_, List.getElem?_eq_getElem (by omega)⟩
      have z := (r.cl _ _ hi hy).2
      rw [le] at z
      have q := half_idx nd hi hy (by rw [z, far_half])
      rw [← q, hi] at hy
      rw [← Option.some.inj hy] at z
      exact far_ne _ z.symm
    · have hL : i - 1 < c.length := by omega
      have e1 : i = i - 1 + 1 := by omega
      have hi' := hi
      rw [e1] at hi'
      have z := (r.lk _ _ _ (List.getElem?_eq_getElem hL) hi').2
      rw [le] at z
      have q := half_idx nd hi (List.getElem?_eq_getElem hL) (by rw [z, far_half])
      omega
  · by_cases il : i + 1 < c.length
    · have z := (r.lk _ _ _ hi (List.getElem?_eq_getElem il)).1
      rw [le] at z
      have q := half_idx nd hi (List.getElem?_eq_getElem il) (by rw [← z, far_half])
      omega
    · have e1 : i = c.length - 1 := by omega
      obtain ⟨y, hy⟩ : ∃ y, c[0]? = some y := ⟨_, List.getElem?_eq_getElem (by omega)⟩
      have hi' := hi
      rw [e1] at hi'
      have z := (r.cl _ _ hy hi').1
      rw [le] at z
      have q := half_idx nd hi hy (by rw [← z, far_half])
      rw [← q, hi] at hy
      rw [← Option.some.inj hy] at z
      exact far_ne _ z
def hd0 (c : List Nat) : Nat := c.getD 0 0
def ls0 (c : List Nat) : Nat := far (c.getD (c.length - 1) 0)
theorem IsCh.hd {c : List Nat} (r : IsCh n M c) : c[0]? = some (hd0 c) := by
  unfold hd0; rw [List.getD_eq_getElem?_getD, List.getElem?_eq_getElem r.ne]; rfl
theorem IsCh.ls {c : List Nat} (r : IsCh n M c) : ∃ x, c[c.length - 1]? = some x ∧ ls0 c = far x := by
  have h := r.ne
  refine ⟨c[c.length - 1], List.getElem?_eq_getElem (by omega), ?_⟩
  unfold ls0
  rw [List.getD_eq_getElem?_getD, List.getElem?_eq_getElem (by omega)]
  rfl
theorem row_loose {c : List Nat} (r : IsRow n M c) (nd : (half c).Nodup) {e : Nat} (h : e / 2 ∈ half c) (le : M e = e) : e = hd0 c ∨ e = ls0 c := by
  obtain ⟨x, hx, ex⟩ := mem_half.mp h
  obtain ⟨i, hi⟩ := List.getElem?_of_mem hx
  have hl := (List.getElem?_eq_some_iff.mp hi).1
  rcases half_cases ex with rfl | rfl
  · by_cases i0 : i = 0
    · subst i0
      rw [IsCh.hd r.toIsCh] at hi
      exact .inl (Option.some.inj hi).symm
    · have hL : i - 1 < c.length := by omega
      have e1 : i = i - 1 + 1 := by omega
      have hi' := hi
      rw [e1] at hi'
      have z := (r.lk _ _ _ (List.getElem?_eq_getElem hL) hi').2
      rw [le] at z
      have q := half_idx nd hi (List.getElem?_eq_getElem hL) (by rw [z, far_half])
      omega
  · by_cases il : i + 1 < c.length
    · have z := (r.lk _ _ _ hi (List.getElem?_eq_getElem il)).1
      rw [le] at z
      have q := half_idx nd hi (List.getElem?_eq_getElem il) (by rw [← z, far_half])
      omega
    · have e1 : i = c.length - 1 := by omega
      obtain ⟨y, hy, ey⟩ := IsCh.ls r.toIsCh
      rw [← e1, hi] at hy
      rw [ey, Option.some.inj hy]
      exact .inr rfl
theorem row_ends {c : List Nat} (r : IsRow n M c) (nd : (half c).Nodup) : hd0 c < 2 * n ∧ ls0 c < 2 * n ∧ M (hd0 c) = hd0 c ∧ M (ls0 c) = ls0 c ∧ hd0 c / 2 ∈ half c ∧ ls0 c / 2 ∈ half c ∧ hd0 c ≠ ls0 c := by
  have h := IsCh.hd r.toIsCh
  obtain ⟨y, hy, ey⟩ := IsCh.ls r.toIsCh
  have m1 := List.mem_of_getElem? h
  have m2 := List.mem_of_getElem? hy
  rw [ey]
  refine ⟨r.lt _ m1, far_lt (r.lt _ m2), r.fst _ h, r.lst _ hy, mem_half.mpr ⟨_, m1, rfl⟩, by rw [far_half]; exact mem_half.mpr ⟨_, m2, rfl⟩, fun z => ?_⟩
  have q := half_idx nd h hy (by rw [z, far_half])
  rw [← q, h] at hy
  have w := Option.some.inj hy
  rw [w] at z
  exact far_ne _ z.symm
theorem ch_conn {c : List Nat} (r : IsCh n M c) : ∀ (i x : Nat), c[i]? = some x → Ce n M (hd0 c) x
  | 0, x, h => by
    rw [IsCh.hd r] at h
    rw [Option.some.inj h]
    exact Ce.refl _
  | i + 1, y, h => by
    have hl := (List.getElem?_eq_some_iff.mp h).1
    have hi := List.getElem?_eq_getElem (show i < c.length by omega)
    have k := ch_conn r i _ hi
    have z := (r.lk _ _ _ hi h).1
    have lt := r.lt _ (List.getElem_mem (show i < c.length by omega))
    have s := Ce.edge (M := M) (far_lt lt)
    rw [z] at s
    exact (k.trans (Ce.same (far_half _).symm)).trans s
theorem ch_conn' {c : List Nat} (r : IsCh n M c) {e : Nat} (h : e / 2 ∈ half c) : Ce n M (hd0 c) e := by
  obtain ⟨x, hx, ex⟩ := mem_half.mp h
  obtain ⟨i, hi⟩ := List.getElem?_of_mem hx
  exact (ch_conn r i x hi).trans (Ce.same ex)
theorem apart : ∀ {cs : List (List Nat)}, (cs.flatMap half).Nodup → cs.Pairwise fun c d => ∀ s ∈ half c, s ∉ half d
  | [], _ => List.Pairwise.nil
  | c :: r, h => by
    rw [List.flatMap_cons, List.nodup_append] at h
    exact List.pairwise_cons.mpr ⟨fun d hd s hs hs2 => h.2.2 s hs s (List.mem_flatMap.mpr ⟨d, hd, hs2⟩) rfl, apart h.2.1⟩
theorem half_nd : ∀ {cs : List (List Nat)}, (cs.flatMap half).Nodup → ∀ c ∈ cs, (half c).Nodup
  | [], _, c, hc => absurd hc List.not_mem_nil
  | d :: r, h, c, hc => by
    rw [List.flatMap_cons, List.nodup_append] at h
    rcases List.mem_cons.mp hc with rfl | hc
    · exact h.1
    · exact half_nd h.2.1 c hc
theorem apart_eq {cs : List (List Nat)} (h : (cs.flatMap half).Nodup) {c d : List Nat} (hc : c ∈ cs) (hd : d ∈ cs) {s : Nat} (h1 : s ∈ half c) (h2 : s ∈ half d) : c = d := by
  obtain ⟨i, hi, e1⟩ := List.getElem_of_mem hc
  obtain ⟨j, hj, e2⟩ := List.getElem_of_mem hd
  have z := List.pairwise_iff_getElem.mp (apart h)
  by_cases q : i = j
  · subst q; rw [← e1, ← e2]
  · exfalso
    rcases Nat.lt_or_gt_of_ne q with q | q
    · have := z i j hi hj q s (by rw [e1]; exact h1)
      rw [e2] at this
      exact this h2
    · have := z j i hj hi q s (by rw [e2]; exact h2)
      rw [e1] at this
      exact this h1
theorem ce_in {c : List Nat} (W : Work n M) (hc : IsRow n M c ∨ IsRing n M c) {e f : Nat} (h : Ce n M e f) (he : e / 2 ∈ half c) : f / 2 ∈ half c := by
  have k := Cn.keeps (P := fun x => ∃ s ∈ half c, x = ((s : Nat) : Int)) h (fun p hp => by
    obtain ⟨g, hg, rfl⟩ := edg_mem.mp hp
    constructor
    · rintro ⟨s, hs, es⟩
      have : g / 2 = s := by have es : ((g / 2 : Nat) : Int) = s := es; omega
      rw [← this] at hs
      exact ⟨_, ch_shut hc hs, rfl⟩
    · rintro ⟨s, hs, es⟩
      have : M g / 2 = s := by have es : ((M g / 2 : Nat) : Int) = s := es; omega
      rw [← this] at hs
      have z := ch_shut hc hs
      rw [W.inv g hg] at z
      exact ⟨_, z, rfl⟩)
  obtain ⟨s, hs, es⟩ := k.mp ⟨_, he, rfl⟩
  have : f / 2 = s := by have es : ((f / 2 : Nat) : Int) = s := es; omega
  rw [this]
  exact hs
variable {rows rings : List (List Nat)}
theorem Deco.kind (D : Deco n M rows rings) {c : List Nat} (h : c ∈ rows ++ rings) : IsRow n M c ∨ IsRing n M c := by
  rcases List.mem_append.mp h with z | z
  · exact .inl (D.row c z)
  · exact .inr (D.ring c z)
theorem Deco.at' (D : Deco n M rows rings) {e : Nat} (h : e < 2 * n) : ∃ c ∈ rows ++ rings, e / 2 ∈ half c := by
  obtain ⟨c, hc, z⟩ := List.mem_flatMap.mp (D.all (e / 2) (by omega))
  exact ⟨c, hc, z⟩
theorem Deco.rowOf (D : Deco n M rows rings) {e : Nat} (h : e < 2 * n) (le : M e = e) : ∃ c ∈ rows, e / 2 ∈ half c := by
  obtain ⟨c, hc, z⟩ := Mir.Deco.at' D h
  rcases List.mem_append.mp hc with q | q
  · exact ⟨c, q, z⟩
  · exact absurd le (ring_tight (D.ring c q) (half_nd D.nd c hc) z)
theorem Deco.two (W : Work n M) (D : Deco n M rows rings) {a b c : Nat} (ha : a < 2 * n) (la : M a = a) (lb : M b = b) (lc : M c = c) (ab : Ce n M a b) (ac : Ce n M a c) (n1 : a ≠ b) (n2 : a ≠ c) (n3 : b ≠ c) : False := by
  obtain ⟨r, hr, z⟩ := Mir.Deco.rowOf D ha la
  have R := D.row r hr
  have nd := half_nd D.nd r (List.mem_append_left _ hr)
  have z1 := row_loose R nd z la
  have z2 := row_loose R nd (ce_in W (.inl R) ab z) lb
  have z3 := row_loose R nd (ce_in W (.inl R) ac z) lc
  omega
theorem Deco.other (D : Deco n M rows rings) {a : Nat} (ha : a < 2 * n) (la : M a = a) : ∃ b, b ≠ a ∧ b < 2 * n ∧ M b = b ∧ Ce n M b a := by
  obtain ⟨r, hr, z⟩ := Mir.Deco.rowOf D ha la
  have R := D.row r hr
  have nd := half_nd D.nd r (List.mem_append_left _ hr)
  obtain ⟨h1, h2, h3, h4, h5, h6, h7⟩ := row_ends R nd
  have za := ch_conn' R.toIsCh z
  by_cases e : a = hd0 r
  · exact ⟨ls0 r, fun q => h7 (by rw [q, e]), h2, h4, (ch_conn' R.toIsCh h6).symm.trans za⟩
  · exact ⟨hd0 r, fun q => e q.symm, h1, h3, za⟩
theorem sub_flat {cs ds : List (List Nat)} (h : cs.Sublist ds) : (cs.flatMap half).Sublist (ds.flatMap half) := by
  induction h with
  | slnil => exact List.Sublist.refl _
  | cons a _ ih => rw [List.flatMap_cons]; exact ih.trans (List.sublist_append_right _ _)
  | cons_cons a _ ih => rw [List.flatMap_cons, List.flatMap_cons]; exact (List.Sublist.refl _).append ih
theorem deco_oneS (W : Work n M) (D : Deco n M rows rings) {cs : List (List Nat)} (sub : cs.Sublist (rows ++ rings)) {S : Int → Prop} (hS : ∀ x, S x ↔ ∃ c ∈ cs, ∃ s ∈ half c, x = ((s : Nat) : Int)) : One (Cn (edg n M)) S (cs.map fun c => st (hd0 c)) := by
  have hin : ∀ c ∈ cs, c ∈ rows ++ rings := fun c hc => sub.subset hc
  have nd : (cs.flatMap half).Nodup := (sub_flat sub).nodup D.nd
  have hh : ∀ c ∈ cs, hd0 c / 2 ∈ half c := fun c hc => mem_half.mpr ⟨_, List.mem_of_getElem? (IsCh.hd (D.ch (hin c hc))), rfl⟩
  refine ⟨?_, fun a ha => ?_, fun x hx => ?_, fun a ha b hb r => ?_⟩
  · refine List.pairwise_map.mpr (List.Pairwise.imp_of_mem (fun {c d} hc hd z e => ?_) (apart nd))
    have := st_inj e
    exact z _ (hh c hc) (by rw [this]; exact hh d hd)
  · obtain ⟨c, hc, rfl⟩ := List.mem_map.mp ha
    exact (hS _).mpr ⟨c, hc, _, hh c hc, rfl⟩
  · obtain ⟨c, hc, s, hs, rfl⟩ := (hS x).mp hx
    refine ⟨_, List.mem_map.mpr ⟨c, hc, rfl⟩, ?_⟩
    have e2 : s = 2 * s / 2 := by omega
    have z := ch_conn' (D.ch (hin c hc)) (e := 2 * s) (by rw [← e2]; exact hs)
    unfold Ce at z
    rw [show ((s : Nat) : Int) = st (2 * s) by unfold st; rw [← e2]]
    exact z
  · obtain ⟨c, hc, rfl⟩ := List.mem_map.mp ha
    obtain ⟨d, hd, rfl⟩ := List.mem_map.mp hb
    have z := ce_in W (Mir.Deco.kind D (hin c hc)) r (hh c hc)
    rw [apart_eq nd hc hd z (hh d hd)]
end
def NN (n : Nat) (M : Nat → Nat) : Nat := (rowsL n M ++ ringsL n M).length
def RR (n : Nat) (M : Nat → Nat) : Nat := (rowsL n M).length
def Lo (n : Nat) (M : Nat → Nat) (e : Nat) : Prop := e < 2 * n ∧ M e = e
def Gp (n : Nat) (x : Int) : Prop := 0 ≤ x ∧ x < (n : Int)
section
variable {n : Nat} {M : Nat → Nat}
theorem nn_one (W : Work n M) {L : List Int} (h : One (Cn (edg n M)) (Gp n) L) : L.length = NN n M := by
  have D := deco_own W
  have k := deco_oneS W D (List.Sublist.refl _) (S := Gp n) (fun x => ⟨fun hx => ?_, ?_⟩)
  · rw [h.cn k, List.length_map]
    rfl
  · obtain ⟨h0, h1⟩ := hx
    obtain ⟨c, hc, z⟩ := List.mem_flatMap.mp (D.all x.toNat (by omega))
    exact ⟨c, hc, _, z, by omega⟩
  · rintro ⟨c, hc, s, hs, rfl⟩
    have := D.lt s (List.mem_flatMap.mpr ⟨c, hc, hs⟩)
    exact ⟨by omega, by omega⟩
theorem nn_has (W : Work n M) : ∃ L, One (Cn (edg n M)) (Gp n) L ∧ L.length = NN n M := by
  have D := deco_own W
  have k := deco_oneS W D (List.Sublist.refl _) (S := Gp n) (fun x => ⟨fun hx => ?_, ?_⟩)
  · exact ⟨_, k, nn_one W k⟩
  · obtain ⟨h0, h1⟩ := hx
    obtain ⟨c, hc, z⟩ := List.mem_flatMap.mp (D.all x.toNat (by omega))
    exact ⟨c, hc, _, z, by omega⟩
  · rintro ⟨c, hc, s, hs, rfl⟩
    have := D.lt s (List.mem_flatMap.mpr ⟨c, hc, hs⟩)
    exact ⟨by omega, by omega⟩
def Gr (n : Nat) (M : Nat → Nat) (x : Int) : Prop := ∃ e, Lo n M e ∧ Cn (edg n M) (st e) x
theorem rr_one (W : Work n M) {L : List Int} (h : One (Cn (edg n M)) (fun x => Gp n x ∧ Gr n M x) L) : L.length = RR n M := by
  have D := deco_own W
  have k := deco_oneS W D (List.sublist_append_left _ _) (S := fun x => Gp n x ∧ Gr n M x) (fun x => ⟨fun hx => ?_, ?_⟩)
  · rw [h.cn k, List.length_map]
    rfl
  · obtain ⟨⟨h0, h1⟩, e, le, hc⟩ := hx
    obtain ⟨r, hr, z⟩ := Mir.Deco.rowOf D le.1 le.2
    have ex : x = st (2 * x.toNat) := by unfold st; omega
    rw [ex] at hc
    have q := ce_in W (.inl (D.row r hr)) hc z
    exact ⟨r, hr, _, q, by omega⟩
  · rintro ⟨c, hc, s, hs, rfl⟩
    have := D.lt s (List.mem_flatMap.mpr ⟨c, List.mem_append_left _ hc, hs⟩)
    have R := D.row c hc
    obtain ⟨h1, h2, h3, h4, h5, h6, h7⟩ := row_ends R (half_nd D.nd c (List.mem_append_left _ hc))
    refine ⟨⟨by omega, by omega⟩, hd0 c, ⟨h1, h3⟩, ?_⟩
    have e2 : s = 2 * s / 2 := by omega
    have z := ch_conn' R.toIsCh (e := 2 * s) (by rw [← e2]; exact hs)
    unfold Ce at z
    rw [show ((s : Nat) : Int) = st (2 * s) by unfold st; rw [← e2]]
    exact z
theorem flat2 {α : Type} (f g : α → Nat) : ∀ l : List α, (l.flatMap fun c => [f c, g c]).length = 2 * l.length
  | [] => rfl
  | c :: r => by rw [List.flatMap_cons, List.length_append, flat2 f g r]; show 2 + _ = 2 * (_ + 1); omega
theorem flat2_nd {α : Type} {f g : α → Nat} : ∀ {l : List α}, (∀ c ∈ l, f c ≠ g c) → (l.Pairwise fun c d => f c ≠ f d ∧ f c ≠ g d ∧ g c ≠ f d ∧ g c ≠ g d) → (l.flatMap fun c => [f c, g c]).Nodup
  | [], _, _ => List.nodup_nil
  | c :: r, h, k => by
    rw [List.flatMap_cons, List.nodup_append]
    rw [List.pairwise_cons] at k
    refine ⟨by have := h c List.mem_cons_self; simp [this], flat2_nd (fun d hd => h d (List.mem_cons_of_mem _ hd)) k.2, fun a ha b hb e => ?_⟩
    obtain ⟨d, hd, hb⟩ := List.mem_flatMap.mp hb
    have z := k.1 d hd
    simp only [List.mem_cons, List.not_mem_nil, or_false] at ha hb
    subst e
    rcases ha with ha | ha <;> rcases hb with hb | hb <;> rw [ha] at hb
    · exact z.1 hb
    · exact z.2.1 hb
    · exact z.2.2.1 hb
    · exact z.2.2.2 hb
theorem rr_two (W : Work n M) : (looseL n M).length = 2 * RR n M := by
  have D := deco_own W
  have nd : ((rowsL n M).flatMap half).Nodup := (sub_flat (List.sublist_append_left _ _)).nodup D.nd
  have en := fun c (hc : c ∈ rowsL n M) => row_ends (D.row c hc) (half_nd nd c hc)
  unfold RR
  rw [← flat2 hd0 ls0]
  refine List.Perm.length_eq ((List.perm_ext_iff_of_nodup (List.Pairwise.imp (fun h => Nat.ne_of_lt h) loose_sorted) (flat2_nd (fun c hc => (en c hc).2.2.2.2.2.2) ?_)).mpr fun e => ?_)
  · refine List.Pairwise.imp_of_mem (fun {c d} hc hd z => ?_) (apart nd)
    obtain ⟨_, _, _, _, c5, c6, _⟩ := en c hc
    obtain ⟨_, _, _, _, d5, d6, _⟩ := en d hd
    exact ⟨fun q => z _ c5 (by rw [q]; exact d5), fun q => z _ c5 (by rw [q]; exact d6), fun q => z _ c6 (by rw [q]; exact d5), fun q => z _ c6 (by rw [q]; exact d6)⟩
  · rw [mem_loose, List.mem_flatMap]
    constructor
    · rintro ⟨h1, h2⟩
      obtain ⟨r, hr, z⟩ := Mir.Deco.rowOf D h1 h2
      refine ⟨r, hr, ?_⟩
      rcases row_loose (D.row r hr) (half_nd nd r hr) z h2 with q | q <;> rw [q] <;> simp
    · rintro ⟨r, hr, z⟩
      obtain ⟨h1, h2, h3, h4, _⟩ := en r hr
      simp only [List.mem_cons, List.not_mem_nil, or_false] at z
      rcases z with rfl | rfl
      · exact ⟨h1, h3⟩
      · exact ⟨h2, h4⟩
theorem edg_agree {A B : Nat → Nat} (h : ∀ e, e < 2 * n → A e = B e) : edg n A = edg n B := List.map_congr_left fun e he => by rw [h e (List.mem_range.mp he)]
theorem loose_agree {A B : Nat → Nat} (h : ∀ e, e < 2 * n → A e = B e) : looseL n A = looseL n B := by
  unfold looseL
  refine List.filter_congr fun e he => ?_
  rw [h e (List.mem_range.mp he)]
theorem work_agree {A B : Nat → Nat} (h : ∀ e, e < 2 * n → A e = B e) (W : Work n B) : Work n A := ⟨fun x hx => by rw [h x hx]; exact W.lt x hx, fun x hx => by rw [h x hx, h _ (W.lt x hx)]; exact W.inv x hx⟩
theorem nn_agree {A B : Nat → Nat} (h : ∀ e, e < 2 * n → A e = B e) (W : Work n B) : NN n A = NN n B := by
  obtain ⟨L, h1, h2⟩ := nn_has W
  rw [← h2]
  rw [← edg_agree h] at h1
  exact (nn_one (work_agree h W) h1).symm
theorem rr_agree {A B : Nat → Nat} (h : ∀ e, e < 2 * n → A e = B e) (W : Work n B) : RR n A = RR n B := by
  have h1 := rr_two W
  have h2 := rr_two (work_agree h W)
  rw [loose_agree h] at h2
  omega
theorem ce_agree {A B : Nat → Nat} (h : ∀ e, e < 2 * n → A e = B e) {e f : Nat} : Ce n A e f ↔ Ce n B e f := by unfold Ce; rw [edg_agree h]
def clp (u : Nat → Nat) (p q e : Nat) : Nat := if e = p then q else if e = q then p else u e
theorem One.upto {R R' : Int → Int → Prop} {S : Int → Prop} {L : List Int} (h : One R S L) (e : ∀ x y, R x y ↔ R' x y) : One R' S L := ⟨h.nd, h.ins, fun x hx => let ⟨a, ha, r⟩ := h.all x hx; ⟨a, ha, (e _ _).mp r⟩, fun a ha b hb r => h.inj a ha b hb ((e _ _).mpr r)⟩
theorem One.same {ps : List (Int × Int)} {p : Int × Int} {S : Int → Prop} {L : List Int} (h : One (Cn ps) S L) (c : Cn ps p.1 p.2) : One (Cn (ps ++ [p])) S L := by
  have up : ∀ {x y}, Cn ps x y → Cn (ps ++ [p]) x y := fun h => h.mono fun q hq => List.mem_append_left _ hq
  refine ⟨h.nd, h.ins, fun x hx => let ⟨a, ha, r⟩ := h.all x hx; ⟨a, ha, up r⟩, fun a ha b hb r => ?_⟩
  rcases cn_snoc r with r | ⟨r1, r2⟩ | ⟨r1, r2⟩
  · exact h.inj a ha b hb r
  · exact h.inj a ha b hb ((r1.trans c).trans r2)
  · exact h.inj a ha b hb ((r1.trans c.symm).trans r2)
theorem One.less {ps : List (Int × Int)} {p : Int × Int} {S : Int → Prop} {L : List Int} (h : One (Cn ps) S L) (h1 : S p.1) (h2 : S p.2) (c : ¬ Cn ps p.1 p.2) : ∃ M, One (Cn (ps ++ [p])) S M ∧ M.length + 1 = L.length := by
  have up : ∀ {x y}, Cn ps x y → Cn (ps ++ [p]) x y := fun h => h.mono fun q hq => List.mem_append_left _ hq
  have bp : Cn (ps ++ [p]) p.1 p.2 := .base (List.mem_append_right _ (List.mem_singleton.mpr rfl))
  obtain ⟨u, hu, ru⟩ := h.all _ h1
  obtain ⟨v, hv, rv⟩ := h.all _ h2
  have ne : u ≠ v := fun e => c (ru.symm.trans (e ▸ rv))
  refine ⟨L.erase v, ⟨h.nd.erase v, fun a ha => h.ins a (List.mem_of_mem_erase ha), fun x hx => ?_, fun a ha b hb r => ?_⟩, ?_⟩
  · obtain ⟨a, ha, r⟩ := h.all x hx
    by_cases e : a = v
    · subst e
      exact ⟨u, (List.mem_erase_of_ne ne).mpr hu, ((up ru).trans bp).trans ((up rv).symm.trans (up r))⟩
    · exact ⟨a, (List.mem_erase_of_ne e).mpr ha, up r⟩
  · have na : a ≠ v := fun e => by rw [e] at ha; exact (h.nd.mem_erase_iff.mp ha).1 rfl
    have nb : b ≠ v := fun e => by rw [e] at hb; exact (h.nd.mem_erase_iff.mp hb).1 rfl
    have ha := List.mem_of_mem_erase ha
    have hb := List.mem_of_mem_erase hb
    rcases cn_snoc r with r | ⟨r1, r2⟩ | ⟨r1, r2⟩
    · exact h.inj a ha b hb r
    · exact absurd (h.inj v hv b hb (rv.trans r2)).symm nb
    · exact absurd (h.inj a ha v hv (r1.trans rv.symm)) na
  · rw [List.length_erase_of_mem hv]
    have : 0 < L.length := List.length_pos_of_mem hv
    omega
structure Op (n : Nat) (u : Nat → Nat) (p q : Nat) : Prop where
  W : Work n u
  lp : Lo n u p
  lq : Lo n u q
  ne : p ≠ q
variable {u : Nat → Nat} {p q : Nat}
theorem Op.work (o : Op n u p q) : Work n (clp u p q) := by
  have hp := o.lp
  have hq := o.lq
  refine ⟨fun x hx => ?_, fun x hx => ?_⟩
  · unfold clp
    have := o.W.lt x hx
    have := hp.1
    have := hq.1
    split
    · omega
    · split <;> omega
  · have ix := o.W.inv x hx
    have p2 := hp.2
    have q2 := hq.2
    have ne := o.ne
    unfold clp
    by_cases e1 : x = p
    · rw [if_pos e1, if_neg (Ne.symm ne), if_pos rfl, e1]
    · rw [if_neg e1]
      by_cases e2 : x = q
      · rw [if_pos e2, if_pos rfl, e2]
      · rw [if_neg e2, if_neg (fun z => e1 (by rw [z, p2] at ix; exact ix.symm)), if_neg (fun z => e2 (by rw [z, q2] at ix; exact ix.symm)), ix]
theorem Op.cn (o : Op n u p q) {x y : Int} : Cn (edg n (clp u p q)) x y ↔ Cn (edg n u ++ [(st p, st q)]) x y := by
  have hp := o.lp
  have hq := o.lq
  constructor
  · refine fun h => h.sub fun r hr => ?_
    obtain ⟨e, he, rfl⟩ := edg_mem.mp hr
    have nb : Cn (edg n u ++ [(st p, st q)]) (st p) (st q) := Cn.base (p := (st p, st q)) (List.mem_append_right _ (List.mem_singleton.mpr rfl))
    show Cn _ (st e) (st (clp u p q e))
    unfold clp
    by_cases e1 : e = p
    · rw [if_pos e1, e1]; exact nb
    · rw [if_neg e1]
      by_cases e2 : e = q
      · rw [if_pos e2, e2]; exact nb.symm
      · rw [if_neg e2]
        exact Cn.base (p := (st e, st (u e))) (List.mem_append_left _ (edg_mem.mpr ⟨e, he, rfl⟩))
  · refine fun h => h.sub fun r hr => ?_
    rcases List.mem_append.mp hr with hr | hr
    · obtain ⟨e, he, rfl⟩ := edg_mem.mp hr
      show Cn _ (st e) (st (u e))
      by_cases e1 : e = p
      · rw [e1, hp.2]; exact Cn.refl _
      · by_cases e2 : e = q
        · rw [e2, hq.2]; exact Cn.refl _
        · have z := Ce.edge (M := clp u p q) he
          unfold Ce clp at z
          rw [if_neg e1, if_neg e2] at z
          exact z
    · rw [List.mem_singleton.mp hr]
      have z := Ce.edge (M := clp u p q) hp.1
      unfold Ce clp at z
      rw [if_pos rfl] at z
      exact z
theorem Op.ce (o : Op n u p q) {e f : Nat} : Ce n (clp u p q) e f ↔ Ce n u e f ∨ (Ce n u e p ∧ Ce n u q f) ∨ (Ce n u e q ∧ Ce n u p f) := by
  constructor
  · intro h
    exact cn_snoc (o.cn.mp h)
  · have up : ∀ {e f}, Ce n u e f → Ce n (clp u p q) e f := fun h => o.cn.mpr (Cn.mono h fun r hr => List.mem_append_left _ hr)
    have pq : Ce n (clp u p q) p q := o.cn.mpr (Cn.base (p := (st p, st q)) (List.mem_append_right _ (List.mem_singleton.mpr rfl)))
    rintro (h | ⟨h1, h2⟩ | ⟨h1, h2⟩)
    · exact up h
    · exact ((up h1).trans pq).trans (up h2)
    · exact ((up h1).trans pq.symm).trans (up h2)
theorem st_gp {e : Nat} (h : e < 2 * n) : Gp n (st e) := by unfold Gp st; omega
theorem Op.nnS (o : Op n u p q) (c : Ce n u p q) : NN n (clp u p q) = NN n u := by
  obtain ⟨L, h1, h2⟩ := nn_has o.W
  rw [← h2, nn_one o.work ((One.same (p := (st p, st q)) h1 c).upto fun x y => o.cn.symm)]
theorem Op.nnL (o : Op n u p q) (c : ¬ Ce n u p q) : NN n (clp u p q) + 1 = NN n u := by
  obtain ⟨L, h1, h2⟩ := nn_has o.W
  obtain ⟨M, h3, h4⟩ := One.less (p := (st p, st q)) h1 (st_gp o.lp.1) (st_gp o.lq.1) c
  rw [← h2, ← h4, nn_one o.work (h3.upto fun x y => o.cn.symm)]
theorem Op.lo (o : Op n u p q) {e : Nat} : Lo n (clp u p q) e ↔ Lo n u e ∧ e ≠ p ∧ e ≠ q := by
  have hp := o.lp
  have hq := o.lq
  have ne := o.ne
  unfold Lo clp
  constructor
  · rintro ⟨h1, h2⟩
    by_cases e1 : e = p
    · rw [if_pos e1, e1] at h2; exact absurd h2.symm ne
    · rw [if_neg e1] at h2
      by_cases e2 : e = q
      · rw [if_pos e2, e2] at h2; exact absurd h2 ne
      · rw [if_neg e2] at h2
        exact ⟨⟨h1, h2⟩, e1, e2⟩
  · rintro ⟨⟨h1, h2⟩, h3, h4⟩
    exact ⟨h1, by rw [if_neg h3, if_neg h4]; exact h2⟩
theorem Op.rr (o : Op n u p q) : RR n (clp u p q) + 1 = RR n u := by
  have h1 := rr_two o.W
  have h2 := rr_two o.work
  have nd : ∀ A, (looseL n A).Nodup := fun A => List.Pairwise.imp (fun h => Nat.ne_of_lt h) loose_sorted
  have z : (looseL n u).Perm (p :: q :: looseL n (clp u p q)) := by
    have m : ∀ A e, e ∈ looseL n A ↔ Lo n A e := fun A e => mem_loose
    refine (List.perm_ext_iff_of_nodup (nd u) ?_).mpr fun e => ?_
    · rw [List.nodup_cons, List.nodup_cons, List.mem_cons, m, m, o.lo, o.lo]
      exact ⟨fun h => h.elim o.ne fun k => k.2.1 rfl, fun k => k.2.2 rfl, nd _⟩
    · rw [List.mem_cons, List.mem_cons, m, m, o.lo]
      constructor
      · intro h
        by_cases e1 : e = p
        · exact .inl e1
        · by_cases e2 : e = q
          · exact .inr (.inl e2)
          · exact .inr (.inr ⟨h, e1, e2⟩)
      · rintro (rfl | rfl | h)
        · exact o.lp
        · exact o.lq
        · exact h.1
  have z := z.length_eq
  rw [List.length_cons, List.length_cons] at z
  omega
theorem two3 (W : Work n u) {a b c : Nat} (la : Lo n u a) (lb : Lo n u b) (lc : Lo n u c) (ab : Ce n u a b) (ac : Ce n u a c) (n1 : a ≠ b) (n2 : a ≠ c) (n3 : b ≠ c) : False := Mir.Deco.two W (deco_own W) la.1 la.2 lb.2 lc.2 ab ac n1 n2 n3
theorem other1 (W : Work n u) {a : Nat} (la : Lo n u a) : ∃ b, b ≠ a ∧ Lo n u b ∧ Ce n u b a := by
  obtain ⟨b, h1, h2, h3, h4⟩ := Mir.Deco.other (deco_own W) la.1 la.2
  exact ⟨b, h1, ⟨h2, h3⟩, h4⟩
def InR (n : Nat) (M : Nat → Nat) (e : Nat) : Prop := ∃ a, Lo n M a ∧ Ce n M a e
end
end Mir

namespace Mir
open Ch Mt
section
variable {n : Nat} {u : Nat → Nat} {p q p' q' : Nat}
theorem kd_one (o : Op n u p p') : (InR n (clp u p p') p → NN n u = NN n (clp u p p') + 1) ∧ (¬ InR n (clp u p p') p → NN n u = NN n (clp u p p')) ∧ RR n u = RR n (clp u p p') + 1 := by
  refine ⟨fun ⟨a, la, ca⟩ => ?_, fun h => ?_, o.rr.symm⟩
  · refine (o.nnL fun c => ?_).symm
    obtain ⟨la, n1, n2⟩ := o.lo.mp la
    have z : Ce n u a p := by
      rcases o.ce.mp ca with h | ⟨h, _⟩ | ⟨h, _⟩
      · exact h
      · exact h
      · exact h.trans c.symm
    exact two3 o.W o.lp o.lq la c z.symm o.ne n1.symm n2.symm
  · refine (o.nnS (Classical.byContradiction fun c => h ?_)).symm
    obtain ⟨b, n1, lb, cb⟩ := other1 o.W o.lp
    exact ⟨b, o.lo.mpr ⟨lb, n1, fun e => c (by rw [← e]; exact cb.symm)⟩, o.ce.mpr (.inl cb)⟩
structure Moves (n : Nat) (A B : Nat → Nat) (p q : Nat) : Prop where
  rr : RR n B = RR n A
  same : Ce n A p q → NN n B = NN n A ∨ NN n B = NN n A + 1
  rows : ¬ Ce n A p q → InR n A p → InR n A q → NN n B = NN n A
  ring : ¬ Ce n A p q → ¬ (InR n A p ∧ InR n A q) → NN n B + 1 = NN n A
theorem Moves.sym {A B : Nat → Nat} (h : Moves n A B p q) : Moves n A B q p := ⟨h.rr, fun z => h.same z.symm, fun z a b => h.rows (fun k => z k.symm) b a, fun z k => h.ring (fun k => z k.symm) fun w => k ⟨w.2, w.1⟩⟩
theorem kd_three (oA : Op n u q q') (oB : Op n u p q) (ne : p ≠ q') : Moves n (clp u q q') (clp u p q) p q := by
  have W := oA.W
  have lp := oB.lp
  have lq := oB.lq
  have lq' := oA.lq
  have npq := oB.ne
  have nqq := oA.ne
  have e : Ce n (clp u q q') p q ↔ Ce n u p q ∨ Ce n u p q' := by
    rw [oA.ce]
    constructor
    · rintro (h | ⟨h, _⟩ | ⟨h, _⟩)
      · exact .inl h
      · exact .inl h
      · exact .inr h
    · rintro (h | h)
      · exact .inl h
      · exact .inr (.inr ⟨h, Ce.refl _⟩)
  have t1 : ¬ (Ce n u p q ∧ Ce n u q q') := fun ⟨a, b⟩ => two3 W lq lp lq' a.symm b npq.symm nqq ne
  have t2 : ¬ (Ce n u p q' ∧ Ce n u q q') := fun ⟨a, b⟩ => two3 W lq' lp lq a.symm b.symm (Ne.symm ne) nqq.symm npq
  have t3 : ¬ (Ce n u p q ∧ Ce n u p q') := fun ⟨a, b⟩ => two3 W lp lq lq' a b npq ne nqq
  have ip : InR n (clp u q q') p := ⟨p, oA.lo.mpr ⟨lp, npq, ne⟩, Ce.refl _⟩
  have iq : ¬ Ce n (clp u q q') p q → (InR n (clp u q q') q ↔ ¬ Ce n u q q') := fun ns => by
    constructor
    · rintro ⟨a, la, ca⟩ c
      obtain ⟨la, n1, n2⟩ := oA.lo.mp la
      have z : Ce n u a q := by
        rcases oA.ce.mp ca with h | ⟨h, _⟩ | ⟨h, _⟩
        · exact h
        · exact h
        · exact h.trans c.symm
      exact two3 W lq lq' la c z.symm nqq n1.symm n2.symm
    · intro c
      obtain ⟨b, n1, lb, cb⟩ := other1 W lq
      exact ⟨b, oA.lo.mpr ⟨lb, n1, fun e => c (by rw [← e]; exact cb.symm)⟩, oA.ce.mpr (.inl cb)⟩
  have a1 := oA.nnS
  have a2 := oA.nnL
  have b1 := oB.nnS
  have b2 := oB.nnL
  have r1 := oA.rr
  have r2 := oB.rr
  refine ⟨by omega, fun s => ?_, fun s _ i => ?_, fun s i => ?_⟩
  · rcases e.mp s with c | c
    · have := b1 c
      have := a2 fun z => t1 ⟨c, z⟩
      omega
    · have := b2 fun z => t3 ⟨z, c⟩
      have := a2 fun z => t2 ⟨c, z⟩
      omega
  · have := a2 ((iq s).mp i)
    have := b2 fun z => s (e.mpr (.inl z))
    omega
  · have c : Ce n u q q' := Classical.byContradiction fun c => i ⟨ip, (iq s).mpr c⟩
    have := a1 c
    have := b2 fun z => s (e.mpr (.inl z))
    omega
theorem kd_four (W : Work n u) (lp : Lo n u p) (lp' : Lo n u p') (lq : Lo n u q) (lq' : Lo n u q') (n1 : p ≠ p') (n2 : p ≠ q) (n3 : p ≠ q') (n4 : p' ≠ q) (n5 : p' ≠ q') (n6 : q ≠ q') :
    Moves n (clp (clp u p p') q q') (clp (clp u p q) p' q') p q ∧ Work n (clp (clp u p p') q q') ∧ Work n (clp (clp u p q) p' q') := by
  have o1 : Op n u p p' := ⟨W, lp, lp', n1⟩
  have o2 : Op n (clp u p p') q q' := ⟨o1.work, o1.lo.mpr ⟨lq, n2.symm, n4.symm⟩, o1.lo.mpr ⟨lq', n3.symm, n5.symm⟩, n6⟩
  have o3 : Op n u p q := ⟨W, lp, lq, n2⟩
  have o4 : Op n (clp u p q) p' q' := ⟨o3.work, o3.lo.mpr ⟨lp', n1.symm, n4⟩, o3.lo.mpr ⟨lq', n3.symm, n6.symm⟩, n5⟩
  refine ⟨?_, o2.work, o4.work⟩
  have t13 : Ce n u p p' → Ce n u p q → False := fun a b => two3 W lp lp' lq a b n1 n2 n4
  have t14 : Ce n u p p' → Ce n u p' q' → False := fun a b => two3 W lp' lp lq' a.symm b n1.symm n5 n3
  have t15 : Ce n u p p' → Ce n u p q' → False := fun a b => two3 W lp lp' lq' a b n1 n3 n5
  have t16 : Ce n u p p' → Ce n u p' q → False := fun a b => two3 W lp' lp lq a.symm b n1.symm n4 n2
  have t23 : Ce n u q q' → Ce n u p q → False := fun a b => two3 W lq lq' lp a b.symm n6 n2.symm n3.symm
  have t24 : Ce n u q q' → Ce n u p' q' → False := fun a b => two3 W lq' lq lp' a.symm b.symm n6.symm n5.symm n4.symm
  have t25 : Ce n u q q' → Ce n u p q' → False := fun a b => two3 W lq' lq lp a.symm b.symm n6.symm n3.symm n2.symm
  have t26 : Ce n u q q' → Ce n u p' q → False := fun a b => two3 W lq lq' lp' a b.symm n6 n4.symm n5.symm
  have t35 : Ce n u p q → Ce n u p q' → False := fun a b => two3 W lp lq lq' a b n2 n3 n6
  have t36 : Ce n u p q → Ce n u p' q → False := fun a b => two3 W lq lp lp' a.symm b.symm n2.symm n4.symm n1
  have t45 : Ce n u p' q' → Ce n u p q' → False := fun a b => two3 W lq' lp' lp a.symm b.symm n5.symm n3.symm n1.symm
  have t46 : Ce n u p' q' → Ce n u p' q → False := fun a b => two3 W lp' lq' lq a b n5 n4 n6.symm
  have e2 : Ce n (clp u p p') q q' ↔ Ce n u q q' ∨ (Ce n u p q ∧ Ce n u p' q') ∨ (Ce n u p' q ∧ Ce n u p q') := by
    rw [o1.ce]
    exact ⟨fun h => h.imp id (Or.imp (fun z => ⟨z.1.symm, z.2⟩) fun z => ⟨z.1.symm, z.2⟩), fun h => h.imp id (Or.imp (fun z => ⟨z.1.symm, z.2⟩) fun z => ⟨z.1.symm, z.2⟩)⟩
  have e4 : Ce n (clp u p q) p' q' ↔ Ce n u p' q' ∨ (Ce n u p p' ∧ Ce n u q q') ∨ (Ce n u p' q ∧ Ce n u p q') := by
    rw [o3.ce]
    exact ⟨fun h => h.imp id (Or.imp (fun z => ⟨z.1.symm, z.2⟩) fun z => z), fun h => h.imp id (Or.imp (fun z => ⟨z.1.symm, z.2⟩) fun z => z)⟩
  have v1 : Ce n (clp u p p') p q ↔ Ce n u p q ∨ Ce n u p' q := by
    rw [o1.ce]
    exact ⟨fun h => h.elim .inl fun k => k.elim (fun z => .inr z.2) fun z => .inl z.2, fun h => h.elim .inl fun z => .inr (.inl ⟨Ce.refl _, z⟩)⟩
  have v2 : Ce n (clp u p p') p q' ↔ Ce n u p q' ∨ Ce n u p' q' := by
    rw [o1.ce]
    exact ⟨fun h => h.elim .inl fun k => k.elim (fun z => .inr z.2) fun z => .inl z.2, fun h => h.elim .inl fun z => .inr (.inl ⟨Ce.refl _, z⟩)⟩
  have es : Ce n (clp (clp u p p') q q') p q ↔ (Ce n u p q ∨ Ce n u p' q) ∨ (Ce n u p q' ∨ Ce n u p' q') := by
    rw [o2.ce, ← v1, ← v2]
    exact ⟨fun h => h.elim .inl fun k => k.elim (fun z => .inl z.1) fun z => .inr z.1, fun h => h.elim .inl fun z => .inr (.inr ⟨z, Ce.refl _⟩)⟩
  have lo : ∀ {a}, Lo n (clp (clp u p p') q q') a ↔ Lo n u a ∧ a ≠ p ∧ a ≠ p' ∧ a ≠ q ∧ a ≠ q' := fun {a} => by
    rw [o2.lo, o1.lo]
    exact ⟨fun ⟨⟨h1, h2, h3⟩, h4, h5⟩ => ⟨h1, h2, h3, h4, h5⟩, fun ⟨h1, h2, h3, h4, h5⟩ => ⟨⟨h1, h2, h3⟩, h4, h5⟩⟩
  have ip : ¬ Ce n (clp (clp u p p') q q') p q → (InR n (clp (clp u p p') q q') p ↔ ¬ Ce n u p p') := fun ns => by
    have ns1 : ¬ Ce n (clp u p p') p q := fun z => ns (es.mpr (.inl (v1.mp z)))
    have ns2 : ¬ Ce n (clp u p p') p q' := fun z => ns (es.mpr (.inr (v2.mp z)))
    constructor
    · rintro ⟨a, la, ca⟩ c
      obtain ⟨la, m1, m2, _, _⟩ := lo.mp la
      have z1 : Ce n (clp u p p') a p := by
        rcases o2.ce.mp ca with h | ⟨_, h⟩ | ⟨_, h⟩
        · exact h
        · exact absurd h.symm ns2
        · exact absurd h.symm ns1
      have z : Ce n u a p := by
        rcases o1.ce.mp z1 with h | ⟨h, _⟩ | ⟨h, _⟩
        · exact h
        · exact h
        · exact h.trans c.symm
      exact two3 W lp lp' la c z.symm n1 m1.symm m2.symm
    · intro c
      obtain ⟨b, m1, lb, cb⟩ := other1 W lp
      refine ⟨b, lo.mpr ⟨lb, m1, fun e => c (by rw [← e]; exact cb.symm), fun e => ns (es.mpr (.inl (.inl (by rw [← e]; exact cb.symm)))), fun e => ns (es.mpr (.inr (.inl (by rw [← e]; exact cb.symm))))⟩, o2.ce.mpr (.inl (o1.ce.mpr (.inl cb)))⟩
  have iq : ¬ Ce n (clp (clp u p p') q q') p q → (InR n (clp (clp u p p') q q') q ↔ ¬ Ce n u q q') := fun ns => by
    have m1 : ¬ Ce n u p q := fun z => ns (es.mpr (.inl (.inl z)))
    have m2 : ¬ Ce n u p' q := fun z => ns (es.mpr (.inl (.inr z)))
    have m3 : ¬ Ce n u p q' := fun z => ns (es.mpr (.inr (.inl z)))
    have m4 : ¬ Ce n u p' q' := fun z => ns (es.mpr (.inr (.inr z)))
    constructor
    · rintro ⟨a, la, ca⟩ c
      obtain ⟨la, k1, k2, k3, k4⟩ := lo.mp la
      have down : ∀ {x}, x = q ∨ x = q' → Ce n (clp u p p') a x → Ce n u a x := fun {x} hx h => by
        rcases o1.ce.mp h with h | ⟨_, h⟩ | ⟨_, h⟩
        · exact h
        · rcases hx with rfl | rfl
          · exact absurd h m2
          · exact absurd h m4
        · rcases hx with rfl | rfl
          · exact absurd h m1
          · exact absurd h m3
      have z : Ce n u a q := by
        rcases o2.ce.mp ca with h | ⟨h, _⟩ | ⟨h, _⟩
        · exact down (.inl rfl) h
        · exact down (.inl rfl) h
        · exact (down (.inr rfl) h).trans c.symm
      exact two3 W lq lq' la c z.symm n6 k3.symm k4.symm
    · intro c
      obtain ⟨b, k1, lb, cb⟩ := other1 W lq
      exact ⟨b, lo.mpr ⟨lb, fun e => m1 (by rw [← e]; exact cb), fun e => m2 (by rw [← e]; exact cb), k1, fun e => c (by rw [← e]; exact cb.symm)⟩, o2.ce.mpr (.inl (o1.ce.mpr (.inl cb)))⟩
  have a1 := o1.nnS
  have a2 := o1.nnL
  have a3 := o2.nnS
  have a4 := o2.nnL
  have b1 := o3.nnS
  have b2 := o3.nnL
  have b3 := o4.nnS
  have b4 := o4.nnL
  have r1 := o1.rr
  have r2 := o2.rr
  have r3 := o3.rr
  have r4 := o4.rr
  rw [e2] at a3 a4
  rw [e4] at b3 b4
  refine ⟨by omega, fun s => ?_, fun s i j => ?_, fun s i => ?_⟩
  · rw [es] at s
    have x1 : ¬ Ce n u p p' := fun z => s.elim (fun h => h.elim (t13 z) (t16 z)) fun h => h.elim (t15 z) (t14 z)
    have x2 : ¬ Ce n u q q' := fun z => s.elim (fun h => h.elim (t23 z) (t26 z)) fun h => h.elim (t25 z) (t24 z)
    have y1 := a2 x1
    by_cases h3 : Ce n u p q
    · have y2 := b1 h3
      have x6 : ¬ Ce n u p' q := t36 h3
      by_cases h4 : Ce n u p' q'
      · have := a3 (.inr (.inl ⟨h3, h4⟩))
        have := b3 (.inl h4)
        omega
      · have := a4 fun h => h.elim x2 fun h => h.elim (fun z => h4 z.2) fun z => x6 z.1
        have := b4 fun h => h.elim h4 fun h => h.elim (fun z => x1 z.1) fun z => x6 z.1
        omega
    · have y2 := b2 h3
      by_cases h4 : Ce n u p' q'
      · have x6 : ¬ Ce n u p' q := t46 h4
        have := a4 fun h => h.elim x2 fun h => h.elim (fun z => h3 z.1) fun z => x6 z.1
        have := b3 (.inl h4)
        omega
      · by_cases h5 : Ce n u p' q ∧ Ce n u p q'
        · have := a3 (.inr (.inr h5))
          have := b3 (.inr (.inr h5))
          omega
        · have := a4 fun h => h.elim x2 fun h => h.elim (fun z => h3 z.1) h5
          have := b4 fun h => h.elim h4 fun h => h.elim (fun z => x1 z.1) h5
          omega
  · have c1 := (ip s).mp i
    have c2 := (iq s).mp j
    rw [es] at s
    have := a2 c1
    have := a4 fun h => h.elim c2 fun h => h.elim (fun z => s (.inl (.inl z.1))) fun z => s (.inl (.inr z.1))
    have := b2 fun z => s (.inl (.inl z))
    have := b4 fun h => h.elim (fun z => s (.inr (.inr z))) fun h => h.elim (fun z => c1 z.1) fun z => s (.inl (.inr z.1))
    omega
  · rw [ip s, iq s] at i
    rw [es] at s
    have := b2 fun z => s (.inl (.inl z))
    by_cases c1 : Ce n u p p'
    · have := a1 c1
      by_cases c2 : Ce n u q q'
      · have := a3 (.inl c2)
        have := b3 (.inr (.inl ⟨c1, c2⟩))
        omega
      · have := a4 fun h => h.elim c2 fun h => h.elim (fun z => s (.inl (.inl z.1))) fun z => s (.inl (.inr z.1))
        have := b4 fun h => h.elim (fun z => s (.inr (.inr z))) fun h => h.elim (fun z => c2 z.2) fun z => s (.inl (.inr z.1))
        omega
    · have := a2 c1
      by_cases c2 : Ce n u q q'
      · have := a3 (.inl c2)
        have := b4 fun h => h.elim (fun z => s (.inr (.inr z))) fun h => h.elim (fun z => c1 z.1) fun z => s (.inl (.inr z.1))
        omega
      · exact absurd ⟨c1, c2⟩ i
end
end Mir

namespace Mir
open Ch Mt
section
variable {n : Nat} {A A1 B B1 : Nat → Nat} {p q : Nat}
theorem lo_agree (h : ∀ e, e < 2 * n → A e = A1 e) {e : Nat} : Lo n A e ↔ Lo n A1 e := ⟨fun ⟨a, b⟩ => ⟨a, by rw [← h e a]; exact b⟩, fun ⟨a, b⟩ => ⟨a, by rw [h e a]; exact b⟩⟩
theorem inR_agree (h : ∀ e, e < 2 * n → A e = A1 e) {e : Nat} : InR n A e ↔ InR n A1 e := ⟨fun ⟨a, b, c⟩ => ⟨a, (lo_agree h).mp b, (ce_agree h).mp c⟩, fun ⟨a, b, c⟩ => ⟨a, (lo_agree h).mpr b, (ce_agree h).mpr c⟩⟩
theorem Moves.agree (h : ∀ e, e < 2 * n → A e = A1 e) (k : ∀ e, e < 2 * n → B e = B1 e) (WA : Work n A1) (WB : Work n B1) (m : Moves n A1 B1 p q) : Moves n A B p q := by
  have a1 := nn_agree h WA
  have a2 := nn_agree k WB
  have a3 := rr_agree h WA
  have a4 := rr_agree k WB
  refine ⟨by rw [a3, a4]; exact m.rr, fun s => ?_, fun s i j => ?_, fun s i => ?_⟩
  · rw [a1, a2]; exact m.same ((ce_agree h).mp s)
  · rw [a1, a2]; exact m.rows (fun z => s ((ce_agree h).mpr z)) ((inR_agree h).mp i) ((inR_agree h).mp j)
  · rw [a1, a2]; exact m.ring (fun z => s ((ce_agree h).mpr z)) fun z => i ⟨(inR_agree h).mpr z.1, (inR_agree h).mpr z.2⟩
def fr (M : Nat → Nat) (p q e : Nat) : Nat := if e = p ∨ e = q ∨ e = M p ∨ e = M q then e else M e
theorem fr_work (W : Work n A) (hp : p < 2 * n) (hq : q < 2 * n) : Work n (fr A p q) := by
  have ip := W.inv p hp
  have iq := W.inv q hq
  have lp := W.lt p hp
  have lq := W.lt q hq
  refine ⟨fun x hx => ?_, fun x hx => ?_⟩
  · have := W.lt x hx
    unfold fr
    split <;> omega
  · have ix := W.inv x hx
    unfold fr
    grind
theorem fr_lo (hx : q < 2 * n) {x : Nat} (h : x < 2 * n) (k : x = p ∨ x = q ∨ x = A p ∨ x = A q) : Lo n (fr A p q) x := ⟨h, by unfold fr; rw [if_pos k]⟩
theorem deed_one (W : Work n A) (hp : p < 2 * n) (hf : A p ≠ p) (hB : ∀ e, e < 2 * n → B e = behM A p p e) : (InR n A p → NN n B = NN n A + 1) ∧ (¬ InR n A p → NN n B = NN n A) ∧ RR n B = RR n A + 1 := by
  have lp := W.lt p hp
  have ip := W.inv p hp
  have WU := fr_work W hp hp
  have o : Op n (fr A p p) p (A p) := ⟨WU, fr_lo hp hp (.inl rfl), fr_lo hp lp (.inr (.inr (.inl rfl))), Ne.symm hf⟩
  have hA : ∀ e, e < 2 * n → A e = clp (fr A p p) p (A p) e := fun e he => by
    have ie := W.inv e he
    unfold clp fr
    grind
  have hB' : ∀ e, e < 2 * n → B e = fr A p p e := fun e he => by
    rw [hB e he]
    unfold behM fr
    grind
  have k := kd_one o
  rw [nn_agree hA o.work, rr_agree hA o.work, nn_agree hB' WU, rr_agree hB' WU, inR_agree hA]
  exact k
theorem deed_two (W : Work n A) (hp : p < 2 * n) (hq : q < 2 * n) (ne : p ≠ q) (lp : A p = p) (lq : A q = q) (hB : ∀ e, e < 2 * n → B e = behM A p q e) : (Ce n A p q → NN n B = NN n A) ∧ (¬ Ce n A p q → NN n B + 1 = NN n A) ∧ RR n B + 1 = RR n A := by
  have o : Op n A p q := ⟨W, ⟨hp, lp⟩, ⟨hq, lq⟩, ne⟩
  have hB' : ∀ e, e < 2 * n → B e = clp A p q e := fun e he => by
    rw [hB e he]
    unfold behM clp
    grind
  rw [nn_agree hB' o.work, rr_agree hB' o.work]
  exact ⟨o.nnS, o.nnL, o.rr⟩
theorem deed_else (W : Work n A) (hp : p < 2 * n) (hq : q < 2 * n) (ne : p ≠ q) (hf : A p ≠ q) (nl : ¬ (A p = p ∧ A q = q)) (hB : ∀ e, e < 2 * n → B e = behM A p q e) : Moves n A B p q := by
  have lp := W.lt p hp
  have ip := W.inv p hp
  have lq := W.lt q hq
  have iq := W.inv q hq
  have WU := fr_work W hp hq
  have Lp : Lo n (fr A p q) p := fr_lo hq hp (.inl rfl)
  have Lq : Lo n (fr A p q) q := fr_lo hq hq (.inr (.inl rfl))
  have Lp' : Lo n (fr A p q) (A p) := fr_lo hq lp (.inr (.inr (.inl rfl)))
  have Lq' : Lo n (fr A p q) (A q) := fr_lo hq lq (.inr (.inr (.inr rfl)))
  have hf2 : A q ≠ p := fun z => hf (by rw [z] at iq; exact iq)
  have hf3 : A p ≠ A q := fun z => ne (by rw [← ip, z, iq])
  by_cases c1 : A p = p
  · have c2 : A q ≠ q := fun z => nl ⟨c1, z⟩
    have oA : Op n (fr A p q) q (A q) := ⟨WU, Lq, Lq', Ne.symm c2⟩
    have oB : Op n (fr A p q) p q := ⟨WU, Lp, Lq, ne⟩
    refine Moves.agree (fun e he => ?_) (fun e he => ?_) oA.work oB.work (kd_three oA oB (Ne.symm hf2))
    · have ie := W.inv e he
      unfold clp fr
      grind
    · rw [hB e he]
      unfold behM clp fr
      grind
  · by_cases c2 : A q = q
    · have oA : Op n (fr A p q) p (A p) := ⟨WU, Lp, Lp', Ne.symm c1⟩
      have oB : Op n (fr A p q) q p := ⟨WU, Lq, Lp, Ne.symm ne⟩
      refine Moves.sym (Moves.agree (fun e he => ?_) (fun e he => ?_) oA.work oB.work (kd_three oA oB (Ne.symm hf)))
      · have ie := W.inv e he
        unfold clp fr
        grind
      · rw [hB e he]
        unfold behM clp fr
        grind
    · obtain ⟨m, w1, w2⟩ := kd_four WU Lp Lp' Lq Lq' (Ne.symm c1) ne (Ne.symm hf2) hf hf3 (Ne.symm c2)
      refine Moves.agree (fun e he => ?_) (fun e he => ?_) w1 w2 m
      · have ie := W.inv e he
        unfold clp fr
        grind
      · rw [hB e he]
        have ie := W.inv e he
        unfold behM clp fr
        grind
end
section
variable {n : Nat} {ms : List Nat}
theorem nn_len : (allC n ms).length = NN n (at0 ms) := rfl
theorem hasS_iff {e : Nat} {c : List Nat} : hasS e c = true ↔ e / 2 ∈ half c := by
  unfold hasS
  rw [Bool.or_eq_true, decide_eq_true_iff, decide_eq_true_iff, mem_half]
  constructor
  · rintro (h | h)
    · exact ⟨_, h, by omega⟩
    · exact ⟨_, h, by omega⟩
  · rintro ⟨x, hx, e1⟩
    by_cases o : x % 2 = 0
    · exact .inl (by rw [show 2 * (e / 2) = x by omega]; exact hx)
    · exact .inr (by rw [show 2 * (e / 2) + 1 = x by omega]; exact hx)
theorem chainF_at (W : WorkL n ms) {e : Nat} (he : e < 2 * n) : chainF (allC n ms) e ∈ allC n ms ∧ e / 2 ∈ half (chainF (allC n ms) e) := by
  obtain ⟨c, hc⟩ := chain_there W he
  have e1 : chainF (allC n ms) e = c := by unfold chainF; rw [hc]; rfl
  rw [e1]
  exact ⟨List.mem_of_find?_eq_some hc, hasS_iff.mp (List.find?_some hc)⟩
theorem chainF_eq (W : WorkL n ms) {e f : Nat} (he : e < 2 * n) (hf : f < 2 * n) : chainF (allC n ms) e = chainF (allC n ms) f ↔ Ce n (at0 ms) e f := by
  have D := deco_own W.wk
  obtain ⟨a1, a2⟩ := chainF_at W he
  obtain ⟨b1, b2⟩ := chainF_at W hf
  constructor
  · intro h
    rw [← h] at b2
    have r := D.ch a1
    exact (ch_conn' r a2).symm.trans (ch_conn' r b2)
  · intro h
    exact apart_eq D.nd a1 b1 (ce_in W.wk (Mir.Deco.kind D a1) h a2) b2
theorem chainF_ring (W : WorkL n ms) {e : Nat} (he : e < 2 * n) : chainF (allC n ms) e ∈ ringsL n (at0 ms) ↔ ¬ InR n (at0 ms) e := by
  have D := deco_own W.wk
  obtain ⟨a1, a2⟩ := chainF_at W he
  constructor
  · rintro h ⟨a, la, ca⟩
    have r := D.ring _ h
    exact ring_tight r (half_nd D.nd _ a1) (ce_in W.wk (.inr r) ca.symm a2) la.2
  · intro h
    rcases List.mem_append.mp a1 with z | z
    · have r := D.row _ z
      obtain ⟨h1, h2, h3, h4, h5, h6, h7⟩ := row_ends r (half_nd D.nd _ a1)
      exact absurd ⟨_, ⟨h1, h3⟩, ch_conn' r.toIsCh a2⟩ h
    · exact z
end
end Mir

namespace SetI
open PyProof.Rows
theorem first_ok (val : Nat → Int) : ∀ i, (firstMet val i).Nodup ∧ ∀ x, x ∈ firstMet val i ↔ ∃ j, j < i ∧ val j = x
  | 0 => ⟨List.nodup_nil, fun x => ⟨fun h => absurd h List.not_mem_nil, fun ⟨j, h, _⟩ => absurd h (Nat.not_lt_zero _)⟩⟩
  | i + 1 => by
    obtain ⟨h1, h2⟩ := first_ok val i
    rw [firstMet_succ]
    unfold step_dedup
    have ex : ((firstMet val i).any (· == val i) = true) ↔ val i ∈ firstMet val i := by
      rw [List.any_eq_true]
      exact ⟨fun ⟨x, hx, e⟩ => (eq_of_beq e) ▸ hx, fun h => ⟨_, h, beq_self_eq_true _⟩⟩
    split
    · rename_i c
      refine ⟨h1, fun x => ?_⟩
      rw [h2]
      constructor
      · rintro ⟨j, hj, e⟩
        exact ⟨j, by omega, e⟩
      · rintro ⟨j, hj, e⟩
        by_cases q : j = i
        · subst q
          exact (h2 x).mp (by rw [← e]; exact ex.mp c)
        · exact ⟨j, by omega, e⟩
    · rename_i c
      have c' : val i ∉ firstMet val i := fun z => c (ex.mpr z)
      refine ⟨?_, fun x => ?_⟩
      · rw [List.nodup_append]
        exact ⟨h1, by simp, fun a ha b hb e => c' (by rw [← List.mem_singleton.mp hb, ← e]; exact ha)⟩
      · rw [List.mem_append, h2, List.mem_singleton]
        constructor
        · rintro (⟨j, hj, e⟩ | e)
          · exact ⟨j, by omega, e⟩
          · exact ⟨i, by omega, e.symm⟩
        · rintro ⟨j, hj, e⟩
          by_cases q : j = i
          · subst q; exact .inr e.symm
          · exact .inl ⟨j, by omega, e⟩
end SetI
namespace L2
open PySem PySem.Spec PyProof.Rows
theorem bb_set : bootBuiltins "set" = some (.type "set") := by decide +kernel
section
variable {X : Cx}
theorem call_setI (hc : X.calm = true) : CallR X (.type "set") (fun xs H Q => ∃ (l : Addr) (ns : List Int), xs = [.ref l] ∧ H l = some (.lst (ns.map V.int)) ∧ ns.length ≤ 1000 ∧ ∀ (p : Addr) (S : Int → Bool) (fs : List Int), H p = none → fs.Nodup → (∀ x, x ∈ fs ↔ x ∈ ns) → Q (.ref p) (upd H p (.set S fs.length))) := by
  intro pins s σ H xs us Q I r h
  obtain ⟨l, ns, rfl, hq, h0, q⟩ := h
  obtain ⟨u, rfl, ru⟩ := r.one
  cases ru
  obtain ⟨its, rv, pl, hz⟩ := I.list (SqL.of hq)
  have hi := intsAre_of rv
  have len : its.length = ns.length := by have := Vals.length rv; rw [List.length_map] at this; exact this.symm
  have hfr : H s.heap.objs.size = none := I.hok.fresh (Nat.le_refl _)
  refine call_set_list (ns := ns) (I.ok.hd hc) pl.isList (by simpa using hi) (by rw [List.size_toArray, len]; unfold scanBound; omega) fun h' tk hS hk => ?_
  have es : its.toArray.size = ns.length := by rw [List.size_toArray, len]
  rw [es] at hS
  obtain ⟨n1, n2⟩ := SetI.first_ok (fun i => ns.getD i 0) ns.length
  refine ⟨.ref s.heap.objs.size, _, I.laid (a := s.heap.objs.size) (o := .set _ (firstMet (fun i => ns.getD i 0) ns.length).length) (t' := tk) (fun b o e => hk b o (Heap.lt_size e) e) (Nat.le_refl _) hS, rfl, q _ _ _ hfr n1 fun x => ?_⟩
  rw [n2]
  constructor
  · rintro ⟨j, hj, e⟩
    rw [List.getD_eq_getElem?_getD, List.getElem?_eq_getElem hj] at e
    rw [← e]
    exact List.getElem_mem hj
  · intro hx
    obtain ⟨j, hj, e⟩ := List.getElem_of_mem hx
    exact ⟨j, hj, by rw [List.getD_eq_getElem?_getD, List.getElem?_eq_getElem hj]; exact e⟩
theorem call_lenI : CallR X (.builtin "len") (fun xs H Q => ∃ (p : Addr) (S : Int → Bool) (n : Nat), xs = [.ref p] ∧ H p = some (.set S n) ∧ Q (.int n) H) := by
  intro pins s σ H xs us Q I r h
  obtain ⟨p, S, n, rfl, hp, q⟩ := h
  obtain ⟨u, rfl, ru⟩ := r.one
  cases ru
  obtain ⟨o, es, ep, t, e, hx, hd, h1, h2, h3, h4, h5⟩ := (show ObjOk X.prog X.w H s.heap p (.set S n) from I.hok p _ hp)
  refine call_len_set e hx hd h4 (by have : es.size < 4096 := h3; omega) ?_
  rw [h5]
  exact ⟨.int n, H, I.tok _, ⟨_, rfl⟩, q⟩
def rDUpd : V → List V → Hp → VK → Prop := fun x vs H Q => ∃ a b kvs more, x = .ref a ∧ vs = [.ref b] ∧ a ≠ b ∧ H a = some (.dK kvs) ∧ H b = some (.dK more) ∧ kvs.length + more.length ≤ 100 ∧ Q .non (upd H a (.dK (mergeK kvs more)))
theorem mt_dupd : MtM X "dict.update" rDUpd := by
  intro pins s σ H x vs v us Q I rx rv h
  obtain ⟨a, b, kvs, more, rfl, rfl, ne, ha, hb, hz, q⟩ := h
  cases rx
  obtain ⟨u, rfl, ru⟩ := Vals.one rv
  cases ru
  obtain ⟨za, hda, va, ra, da⟩ := dk_of I.hok ha
  obtain ⟨zb, hdb, vb, rb, db⟩ := dk_of I.hok hb
  have l1 := ra.length
  have l2 := rb.length
  have hl := length_mergeK more kvs
  refine call_meetsIn PySem.F.slot_dict_update da.typeIs PySem.F.entry_dict_update (PySem.F.args_dict_update_2 _ _) (meets_dict_update (mixKind X.prog X.w) a b ne hdb) ⟨va, vb, da, db, by have := sizeLine_eq; omega, fun h' da' db' hs => ?_⟩
  have he : ∃ q, h'.get? a = some q := let ⟨q, _, _, hq, _⟩ := da'; ⟨q, hq⟩
  exact ⟨.non, _, d_write (t' := s.toks) I (by rw [ha]; exact True.intro) hs he (dk_new (by have := sizeLine_eq; omega) hda (rb.merge ra) da'), rfl, q⟩
end
end L2

set_option maxHeartbeats 2000000
namespace SrtR
open PySem PyProof.Rows
class RkP where
  G : Keyed → Prop
  nm : Keyed → Int
  kd : SortKind
variable [RkP]
end SrtR



namespace L2
open PySem PySem.Spec
structure CapOk (X : Cx) (scope : Scope) (f : Str × Addr × Nat) : Prop where
  cell : X.env.cells.lookup f.1 = some f.2.1
  at' : X.N[f.2.2]? = some f.1
  kd : X.env.kindOf f.1 = some .cell
  rl : (relabel scope X.env).names.lookup f.1 = some .cell
theorem lookup_mem {β : Type} : ∀ {l : List (Str × β)} {x : Str} {c : β}, l.lookup x = some c → (x, c) ∈ l
  | [], _, _, h => by cases h
  | (y, d) :: r, x, c, h => by
    rw [List.lookup_cons] at h
    split at h
    · rename_i hx
      cases h
      rw [eq_of_beq hx]
      exact List.mem_cons_self ..
    · exact List.mem_cons_of_mem _ (lookup_mem h)
theorem lookup_has {β : Type} : ∀ {l : List (Str × β)} {x : Str}, x ∈ l.map Prod.fst → ∃ c, l.lookup x = some c
  | [], _, h => by cases h
  | (y, d) :: r, x, h => by
    rw [List.lookup_cons]
    by_cases e : (x == y) = true
    · rw [e]; exact ⟨d, rfl⟩
    · have e' : (x == y) = false := by simpa using e
      rw [e']
      refine lookup_has ?_
      rcases List.mem_cons.mp h with h | h
      · exact absurd (by rw [h]; exact beq_self_eq_true _) e
      · exact h
theorem compOkN {X : Cx} {scope : Scope} {pre : List Str} (fs : List (Str × Addr × Nat)) (ys : List Str) (hys : fs.map Prod.fst = ys) (hkind : scope.kind = .function) (h : ∀ w ∈ scope.names, w.2 ≠ .cell ∧ (w.2 = .free → w.1 ∈ ys)) (hn : ∀ w ∈ scope.names, w.2 = .local → scope.names.lookup w.1 = some .local)
    (hcl : closureFor scope X.env = pure (fs.map fun f => (f.1, f.2.1))) (hf : ∀ f ∈ fs, CapOk X scope f) :
    CompOk X scope (fs.map fun f => (f.1, f.2.1)) (pre ++ fs.map Prod.fst) (List.replicate pre.length none ++ fs.map fun f => some f.2.2) where
  clos := hcl
  cell := fun w hw => (h w hw).1
  kind := hkind
  names := hn
  cls := fun x c' q => by
    obtain ⟨f, hm, e⟩ := List.mem_map.mp (lookup_mem q)
    cases e
    exact (hf f hm).cell
  has := fun x q => by
    have key : ∀ k, (relabel scope X.env).names.lookup x = some k → k = .cell ∨ k = .free → x ∈ fs.map Prod.fst := fun k q hk => by
      have hm := PySem.mem_of_lookup q
      obtain ⟨⟨n, k'⟩, hy, ey⟩ := List.mem_map.mp hm
      have h1 := h _ hy
      by_cases hf : k' = .free
      · have w := h1.2 hf
        rw [← hys] at w
        dsimp only at ey
        split at ey
        · cases ey; exact w
        · cases ey; exact w
      · have hb : (k' == NameKind.free) = false := by simpa using hf
        simp only [hb, Bool.false_and, Bool.false_eq_true, if_false, Prod.mk.injEq] at ey
        obtain ⟨_, rfl⟩ := ey
        rcases hk with hk | hk
        · exact absurd hk h1.1
        · exact absurd hk hf
    have hx : x ∈ fs.map Prod.fst := by
      rcases q with q | q
      · exact key _ q (.inl rfl)
      · exact key _ q (.inr rfl)
    refine lookup_has ?_
    rw [List.map_map]
    exact hx
  len := by simp
  src := fun i q x e1 e2 => by
    by_cases hi : i < pre.length
    · rw [List.getElem?_append_left (by simpa using hi), List.getElem?_replicate, if_pos hi] at e1
      cases e1
    · rw [List.getElem?_append_right (by simp; omega), List.length_replicate, List.getElem?_map] at e1
      rw [List.getElem?_append_right (by omega), List.getElem?_map] at e2
      obtain ⟨f, e3, e4⟩ := Option.map_eq_some_iff.mp e1
      rw [e3] at e2
      cases e4
      obtain rfl := Option.some.inj e2
      have z := hf f (List.mem_of_getElem? e3)
      exact ⟨z.at', .inl z.kd, .inl z.rl⟩
theorem caps_nil {X : Cx} {scope : Scope} : ∀ f ∈ ([] : List (Str × Addr × Nat)), CapOk X scope f := fun f h => by cases h
theorem caps_cons {X : Cx} {scope : Scope} {f : Str × Addr × Nat} {fs : List (Str × Addr × Nat)} (h : CapOk X scope f) (k : ∀ g ∈ fs, CapOk X scope g) : ∀ g ∈ f :: fs, CapOk X scope g := fun g hg => by
  rcases List.mem_cons.mp hg with rfl | hg
  · exact h
  · exact k g hg
end L2

namespace Mir
open PySem L2
theorem inV_ints (x : Int) : ∀ l : List Int, inV (.int x) (iV l) = decide (x ∈ l)
  | [] => rfl
  | y :: r => by
    have ih := inV_ints x r
    unfold inV at ih ⊢
    show ((decide (y = x)) || (iV r).any _) = _
    rw [ih]
    by_cases c : x = y
    · subst c
      rw [decide_eq_true (rfl : x = x), Bool.true_or, decide_eq_true List.mem_cons_self]
    · rw [decide_eq_false (fun z => c z.symm), Bool.false_or]
      exact decide_eq_decide.mpr ⟨fun z => List.mem_cons_of_mem _ z, fun z => (List.mem_cons.mp z).resolve_left c⟩
theorem iV_allflat (l : List Int) : (iV l).all flatV = true := List.all_eq_true.mpr (iV_flat l)
end Mir


namespace Mir
open PySem L2 Ch Mt
def nmS (f : Int → Int) (p : Int × Int) : Int → Int := fun x => if f x = f p.1 ∨ f x = f p.2 then min (f p.1) (f p.2) else f x
def nm (ps : List (Int × Int)) : Int → Int := ps.foldl nmS id
theorem nm_snoc (ps : List (Int × Int)) (p : Int × Int) : nm (ps ++ [p]) = nmS (nm ps) p := by unfold nm; rw [List.foldl_append]; rfl
theorem nm_cn (ps : List (Int × Int)) : (∀ x, Cn ps x (nm ps x)) ∧ ∀ p ∈ ps, nm ps p.1 = nm ps p.2 := by
  refine list_snoc (P := fun ps => (∀ x, Cn ps x (nm ps x)) ∧ ∀ p ∈ ps, nm ps p.1 = nm ps p.2) ⟨fun x => .refl x, fun p hp => absurd hp List.not_mem_nil⟩ ?_ ps
  intro ps p ⟨h1, h2⟩
  rw [nm_snoc]
  have up : ∀ {x y}, Cn ps x y → Cn (ps ++ [p]) x y := fun h => h.mono fun q hq => List.mem_append_left _ hq
  have bp : Cn (ps ++ [p]) p.1 p.2 := .base (List.mem_append_right _ (List.mem_singleton.mpr rfl))
  have b2 : Cn (ps ++ [p]) (nm ps p.1) (nm ps p.2) := ((up (h1 p.1)).symm.trans bp).trans (up (h1 p.2))
  constructor
  · intro x
    unfold nmS
    by_cases c : nm ps x = nm ps p.1 ∨ nm ps x = nm ps p.2
    · rw [if_pos c]
      have a := up (h1 x)
      have m : min (nm ps p.1) (nm ps p.2) = nm ps p.1 ∨ min (nm ps p.1) (nm ps p.2) = nm ps p.2 := by omega
      rcases c with c | c <;> rcases m with m | m <;> rw [m] <;> rw [c] at a
      · exact a
      · exact a.trans b2
      · exact a.trans b2.symm
      · exact a
    · rw [if_neg c]
      exact up (h1 x)
  · intro q hq
    unfold nmS
    rcases List.mem_append.mp hq with hq | hq
    · rw [h2 q hq]
    · rw [List.mem_singleton.mp hq, if_pos (.inl rfl), if_pos (.inr rfl)]
theorem nm_iff {ps : List (Int × Int)} {x y : Int} : nm ps x = nm ps y ↔ Cn ps x y := by
  have f := nm_cn ps
  constructor
  · intro h
    have a := f.1 x
    rw [h] at a
    exact a.trans (f.1 y).symm
  · intro h
    induction h with
    | base h => exact f.2 _ h
    | refl x => rfl
    | symm _ ih => exact ih.symm
    | trans _ _ ih1 ih2 => exact ih1.trans ih2
theorem nm_gp {n : Nat} (ps : List (Int × Int)) : (∀ p ∈ ps, Gp n p.1 ∧ Gp n p.2) → ∀ x, Gp n x → Gp n (nm ps x) := by
  refine list_snoc (P := fun ps => (∀ p ∈ ps, Gp n p.1 ∧ Gp n p.2) → ∀ x, Gp n x → Gp n (nm ps x)) (fun _ x hx => hx) ?_ ps
  intro ps p ih h x hx
  have ih := ih fun q hq => h q (List.mem_append_left _ hq)
  have hp := h p (List.mem_append_right _ (List.mem_singleton.mpr rfl))
  rw [nm_snoc]
  unfold nmS
  split
  · have m : min (nm ps p.1) (nm ps p.2) = nm ps p.1 ∨ min (nm ps p.1) (nm ps p.2) = nm ps p.2 := by omega
    rcases m with m | m <;> rw [m]
    · exact ih _ hp.1
    · exact ih _ hp.2
  · exact ih x hx
def nmL (ps : List (Int × Int)) (n : Nat) : List Int := (List.range n).map fun (i : Nat) => nm ps i
theorem nmL_len (ps : List (Int × Int)) (n : Nat) : (nmL ps n).length = n := by unfold nmL; rw [List.length_map, List.length_range]
theorem nmL_get {ps : List (Int × Int)} {n j : Nat} (h : j < n) : (nmL ps n)[j]? = some (nm ps j) := by unfold nmL; rw [List.getElem?_map, List.getElem?_range h]; rfl
theorem nmL_nil (n : Nat) : rngV 0 n = iV (nmL [] n) := by
  unfold rngV iV nmL
  rw [List.map_map]
  refine List.map_congr_left fun i _ => ?_
  show V.int (0 + (i : Int)) = V.int (i : Int)
  rw [Int.zero_add]
theorem nmL_snoc (ps : List (Int × Int)) (p : Int × Int) (n : Nat) : nmL (ps ++ [p]) n = (nmL ps n).map fun x => if x = nm ps p.1 ∨ x = nm ps p.2 then min (nm ps p.1) (nm ps p.2) else x := by
  unfold nmL
  rw [List.map_map, nm_snoc]
  rfl
def edgK (M : Nat → Nat) (k : Nat) : List (Int × Int) := (List.range k).map fun e => (st e, st (M e))
theorem edgK_succ (M : Nat → Nat) (k : Nat) : edgK M (k + 1) = edgK M k ++ [(st k, st (M k))] := by unfold edgK; rw [List.range_succ, List.map_append]; rfl
theorem edgK_all (n : Nat) (M : Nat → Nat) : edgK M (2 * n) = edg n M := rfl
def nms (n : Nat) (ms : List Nat) : List Int := nmL (edg n (at0 ms)) n
section
variable {n : Nat} {ms : List Nat}
theorem nms_len : (nms n ms).length = n := nmL_len _ _
theorem nms_get {e : Nat} (h : e < 2 * n) : (nms n ms)[e / 2]? = some (nm (edg n (at0 ms)) (st e)) := nmL_get (by omega)
theorem nms_eq {e f : Nat} : nm (edg n (at0 ms)) (st e) = nm (edg n (at0 ms)) (st f) ↔ Ce n (at0 ms) e f := nm_iff
theorem edg_gp (W : WorkL n ms) : ∀ p ∈ edg n (at0 ms), Gp n p.1 ∧ Gp n p.2 := fun p hp => by
  obtain ⟨e, he, rfl⟩ := edg_mem.mp hp
  exact ⟨st_gp he, st_gp (W.wk.lt e he)⟩
theorem nms_count (W : WorkL n ms) {fs : List Int} (nd : fs.Nodup) (h : ∀ x, x ∈ fs ↔ x ∈ nms n ms) : fs.length = NN n (at0 ms) := by
  refine nn_one W.wk ⟨nd, fun a ha => ?_, fun x hx => ?_, fun a ha b hb r => ?_⟩
  · obtain ⟨i, hi, rfl⟩ := List.mem_map.mp ((h a).mp ha)
    exact nm_gp _ (edg_gp W) _ ⟨by omega, by have := List.mem_range.mp hi; omega⟩
  · refine ⟨nm (edg n (at0 ms)) x, (h _).mpr (List.mem_map.mpr ⟨x.toNat, List.mem_range.mpr (by unfold Gp at hx; omega), ?_⟩), ((nm_cn _).1 x).symm⟩
    rw [show ((x.toNat : Nat) : Int) = x by unfold Gp at hx; omega]
  · obtain ⟨i, hi, rfl⟩ := List.mem_map.mp ((h a).mp ha)
    obtain ⟨j, hj, rfl⟩ := List.mem_map.mp ((h b).mp hb)
    exact nm_iff.mpr ((((nm_cn _).1 _).trans r).trans ((nm_cn _).1 _).symm)
def Rn (n : Nat) (ms : List Nat) (k : Nat) (fs : List Int) : Prop := fs.Nodup ∧ ∀ x, x ∈ fs ↔ ∃ e, e < k ∧ at0 ms e = e ∧ nm (edg n (at0 ms)) (st e) = x
theorem Rn.count (W : WorkL n ms) {fs : List Int} (h : Rn n ms (2 * n) fs) : fs.length = RR n (at0 ms) := by
  refine rr_one W.wk ⟨h.1, fun a ha => ?_, fun x hx => ?_, fun a ha b hb r => ?_⟩
  · obtain ⟨e, h1, h2, rfl⟩ := (h.2 a).mp ha
    exact ⟨nm_gp _ (edg_gp W) _ (st_gp h1), e, ⟨h1, h2⟩, (nm_cn _).1 _⟩
  · obtain ⟨_, e, le, c⟩ := hx
    exact ⟨nm (edg n (at0 ms)) (st e), (h.2 _).mpr ⟨e, le.1, le.2, rfl⟩, ((nm_cn _).1 _).symm.trans c⟩
  · obtain ⟨e, h1, h2, rfl⟩ := (h.2 a).mp ha
    obtain ⟨f, h3, h4, rfl⟩ := (h.2 b).mp hb
    exact nm_iff.mpr ((((nm_cn _).1 _).trans r).trans ((nm_cn _).1 _).symm)
theorem Rn.mem {fs : List Int} (h : Rn n ms (2 * n) fs) {e : Nat} : nm (edg n (at0 ms)) (st e) ∈ fs ↔ InR n (at0 ms) e := by
  rw [h.2]
  exact ⟨fun ⟨f, h1, h2, h3⟩ => ⟨f, ⟨h1, h2⟩, nm_iff.mp h3⟩, fun ⟨f, h1, h2⟩ => ⟨f, h1.1, h1.2, nm_iff.mpr h2⟩⟩
theorem Rn.succ {k : Nat} {fs : List Int} (h : Rn n ms k fs) : Rn n ms (k + 1) (if at0 ms k = k ∧ nm (edg n (at0 ms)) (st k) ∉ fs then fs ++ [nm (edg n (at0 ms)) (st k)] else fs) := by
  obtain ⟨h1, h2⟩ := h
  by_cases c1 : at0 ms k = k
  · by_cases c2 : nm (edg n (at0 ms)) (st k) ∈ fs
    · rw [if_neg fun z => z.2 c2]
      refine ⟨h1, fun x => (h2 x).trans ⟨fun ⟨e, a, b⟩ => ⟨e, by omega, b⟩, fun ⟨e, a, b, c⟩ => ?_⟩⟩
      by_cases q : e = k
      · subst q; exact (h2 x).mp (c ▸ c2)
      · exact ⟨e, by omega, b, c⟩
    · rw [if_pos ⟨c1, c2⟩]
      refine ⟨?_, fun x => ?_⟩
      · rw [List.nodup_append]
        exact ⟨h1, by simp, fun a ha b hb e => c2 (by rw [← List.mem_singleton.mp hb, ← e]; exact ha)⟩
      · rw [List.mem_append, h2, List.mem_singleton]
        constructor
        · rintro (⟨e, a, b⟩ | e)
          · exact ⟨e, by omega, b⟩
          · exact ⟨k, by omega, c1, e.symm⟩
        · rintro ⟨e, a, b, c⟩
          by_cases q : e = k
          · subst q; exact .inr c.symm
          · exact .inl ⟨e, by omega, b, c⟩
  · rw [if_neg fun z => c1 z.1]
    refine ⟨h1, fun x => (h2 x).trans ⟨fun ⟨e, a, b⟩ => ⟨e, by omega, b⟩, fun ⟨e, a, b, c⟩ => ?_⟩⟩
    by_cases q : e = k
    · subst q; exact absurd b c1
    · exact ⟨e, by omega, b, c⟩
end
variable (K : PySem.W.Frag)
def spHang : Sp := fun vs H Q _ => ∃ (a : Addr) (n : Nat) (ms : List Nat), vs = [.ref a] ∧ SqT K H a (nV ms) ∧ WorkL n ms ∧ ∀ (l : Addr) (H' : Hp), H l = none → Same H H' → H' l = some (.lst (iV (nms n ms))) → Q (.ref l) H'
def spRowNames : Sp := fun vs H Q _ => ∃ (a l : Addr) (n : Nat) (ms : List Nat), vs = [.ref a, .ref l] ∧ SqT K H a (nV ms) ∧ WorkL n ms ∧ H l = some (.lst (iV (nms n ms))) ∧ ∀ (r : Addr) (H' : Hp) (fs : List Int), H r = none → Same H H' → Rn n ms (2 * n) fs → H' r = some (.lst (iV fs)) → Q (.ref r) H'
def spDue14 : Sp := fun vs H Q _ => ∃ (a b : Addr) (n : Nat) (ms : List Nat) (p q : Nat), vs = [.ref a, .int p, .int q, .ref b] ∧ SqT K H a (nV ms) ∧ WorkL n ms ∧ p < 2 * n ∧ q < 2 * n ∧ at0 ms p ≠ q ∧ SqT K H b (nV (beh ms p q)) ∧ ∀ H', Same H H' → Q (.str (kindF n ms p q)) H'
def chg14 (n : Nat) (ms ns : List Nat) : List Int := [(RR n (at0 ns) : Int) - RR n (at0 ms), ((NN n (at0 ns) : Int) - RR n (at0 ns)) - ((NN n (at0 ms) : Int) - RR n (at0 ms))]
def spChange : Sp := fun vs H Q _ => ∃ (a b : Addr) (n : Nat) (ms ns : List Nat), vs = [.ref a, .ref b] ∧ SqT K H a (nV ms) ∧ WorkL n ms ∧ SqT K H b (nV ns) ∧ WorkL n ns ∧ ∀ (t : Addr) (H' : Hp), Same H H' → H' t = some (.tup (iV (chg14 n ms ns))) → Q (.ref t) H'
end Mir




set_option maxHeartbeats 4000000





namespace L2
theorem iteY {b : Bool} {A B : Prop} (hb : b = true) (h : A) : if b = true then A else B := by rw [if_pos hb]; exact h
theorem iteN {b : Bool} {A B : Prop} (hb : b = false) (h : B) : if b = true then A else B := by rw [if_neg (by rw [hb]; decide)]; exact h
theorem dInt {i j : Int} (h : i = j) : decide (V.int i = V.int j) = true := decide_eq_true (by rw [h])
theorem dIntN {i j : Int} (h : i ≠ j) : decide (V.int i = V.int j) = false := decide_eq_false (fun z => h (by injection z))
end L2

namespace Mir
open PySem L2 Ch Mt
def tbl : List (Str × List Int) := [("cut", [1, 0]), ("opened", [1, -1]), ("joined", [-1, 0]), ("closed", [-1, 1]), ("turned", [0, 0]), ("parted", [0, 1]), ("crossed", [0, 0]), ("taken", [0, -1])]
open Classical in
theorem kind_chg {n : Nat} {ms : List Nat} (W : WorkL n ms) {p q : Nat} (hp : p < 2 * n) (hq : q < 2 * n) (hf : at0 ms p ≠ q) : (kindF n ms p q, chg14 n ms (beh ms p q)) ∈ tbl := by
  have cpq := chainF_eq W hp hq
  have cp := chainF_ring W hp
  have cq := chainF_ring W hq
  have hB : ∀ e, e < 2 * n → at0 (beh ms p q) e = behM (at0 ms) p q e := fun e he => beh_at (by rw [W.len]; exact he)
  have ch : ∀ {a b : Int}, (RR n (at0 (beh ms p q)) : Int) - RR n (at0 ms) = a → ((NN n (at0 (beh ms p q)) : Int) - RR n (at0 (beh ms p q))) - ((NN n (at0 ms) : Int) - RR n (at0 ms)) = b → chg14 n ms (beh ms p q) = [a, b] := fun h1 h2 => by unfold chg14; rw [h1, h2]
  unfold kindF
  by_cases c1 : p = q
  · subst c1
    obtain ⟨k1, k2, k3⟩ := deed_one W.wk hp hf hB
    rw [if_pos rfl]
    by_cases c : chainF (allC n ms) p ∈ ringsL n (at0 ms)
    · have := k2 (cp.mp c)
      rw [if_pos c, ch (a := 1) (b := -1) (by omega) (by omega)]
      exact .tail _ (.head _)
    · have := k1 (Classical.byContradiction fun z => c (cp.mpr z))
      rw [if_neg c, ch (a := 1) (b := 0) (by omega) (by omega)]
      exact .head _
  · rw [if_neg c1]
    by_cases c2 : at0 ms p = p ∧ at0 ms q = q
    · obtain ⟨k1, k2, k3⟩ := deed_two W.wk hp hq c1 c2.1 c2.2 hB
      rw [if_pos c2]
      by_cases c : chainF (allC n ms) p = chainF (allC n ms) q
      · have := k1 (cpq.mp c)
        rw [if_pos c, ch (a := -1) (b := 1) (by omega) (by omega)]
        exact .tail _ (.tail _ (.tail _ (.head _)))
      · have := k2 fun z => c (cpq.mpr z)
        rw [if_neg c, ch (a := -1) (b := 0) (by omega) (by omega)]
        exact .tail _ (.tail _ (.head _))
    · have m := deed_else W.wk hp hq c1 hf c2 hB
      have mr := m.rr
      rw [if_neg c2]
      by_cases c : chainF (allC n ms) p = chainF (allC n ms) q
      · rw [if_pos c, nn_len, nn_len]
        by_cases d : NN n (at0 (beh ms p q)) = NN n (at0 ms)
        · rw [if_pos d, ch (a := 0) (b := 0) (by omega) (by omega)]
          exact .tail _ (.tail _ (.tail _ (.tail _ (.head _))))
        · have := (m.same (cpq.mp c)).resolve_left d
          rw [if_neg d, ch (a := 0) (b := 1) (by omega) (by omega)]
          exact .tail _ (.tail _ (.tail _ (.tail _ (.tail _ (.head _)))))
      · rw [if_neg c]
        have ns : ¬ Ce n (at0 ms) p q := fun z => c (cpq.mpr z)
        by_cases d : chainF (allC n ms) p ∈ ringsL n (at0 ms) ∨ chainF (allC n ms) q ∈ ringsL n (at0 ms)
        · have := m.ring ns fun z => d.elim (fun w => cp.mp w z.1) fun w => cq.mp w z.2
          rw [if_pos d, ch (a := 0) (b := -1) (by omega) (by omega)]
          exact .tail _ (.tail _ (.tail _ (.tail _ (.tail _ (.tail _ (.tail _ (.head _)))))))
        · have := m.rows ns (Classical.byContradiction fun z => d (.inl (cp.mpr z))) (Classical.byContradiction fun z => d (.inr (cq.mpr z)))
          rw [if_neg d, ch (a := 0) (b := 0) (by omega) (by omega)]
          exact .tail _ (.tail _ (.tail _ (.tail _ (.tail _ (.tail _ (.head _))))))
def Tbl (H : Hp) (d : Addr) : Prop := ∃ kvs : List (Key × V), H d = some (.dK kvs) ∧ ∀ r ∈ tbl, ∃ t, valV kvs (Sum.inr r.1 : Key) = some (.ref t) ∧ H t = some (.tup (iV r.2))
theorem Tbl.same {H H' : Hp} {d : Addr} (h : Tbl H d) (s : Same H H') : Tbl H' d := let ⟨kvs, h1, h2⟩ := h; ⟨kvs, s _ _ h1, fun r hr => let ⟨t, a, b⟩ := h2 r hr; ⟨t, a, s _ _ b⟩⟩
theorem kit_str_str (K : PySem.W.Frag) : PySem.W.kitOne K (.type "str") (.type "str") = some true := by unfold PySem.W.kitOne; rw [if_pos (by decide +kernel)]
theorem cut_any (xs : List V) (k : Nat) : cutV xs none (some (k : Int)) = xs.take k := by
  unfold cutV
  rw [HT.sIx_nat, HT.sIx_none, Nat.sub_zero, List.drop_zero]
  by_cases c : k ≤ xs.length
  · rw [Nat.min_eq_left c]
  · rw [Nat.min_eq_right (by omega), List.take_length, List.take_of_length_le (by omega)]
theorem bb_str : bootBuiltins "str" = some (.type "str") := by decide +kernel
end Mir

set_option maxHeartbeats 2000000
namespace Law
open PySem L2
def top (i : Nat) : Stmt := PySem.Challenge.pw_claspwork_k14_what_deeds_do.main.body.getD i (.Pass ⟨0, 0, 0, 0⟩)
abbrev s_staves_in : Stmt := top 4
abbrev s_far_end : Stmt := top 5
abbrev s_loose_ends : Stmt := top 6
abbrev s_rows_in : Stmt := top 8
abbrev s_rings_in : Stmt := top 9
abbrev s_walked_from : Stmt := top 10
abbrev s_mark_staves : Stmt := top 11
abbrev s_fits_work : Stmt := top 13
abbrev s_refuse_misfit : Stmt := top 14
abbrev s_reclasped : Stmt := top 15
abbrev s_freed_ends : Stmt := top 16
abbrev s_clasp_ends : Stmt := top 17
abbrev s_deed_kind : Stmt := top 18
abbrev s_chain_with : Stmt := top 19
abbrev s_law_cell : Stmt := top 21
abbrev s_law_number : Stmt := top 22
abbrev s_law_work : Stmt := top 23
abbrev s_law_fits : Stmt := top 24
abbrev s_law_behind : Stmt := top 25
abbrev s_law_hang_together : Stmt := top 26
abbrev s_law_row_names : Stmt := top 27
abbrev s_law_due : Stmt := top 28
abbrev s_law_change : Stmt := top 29
abbrev s_law : Stmt := top 30
theorem sc_staves_in : FnScope ["work"] ["work"] (defScope s_staves_in) := ⟨rfl, rfl, rfl, by decide +kernel, rfl, by decide +kernel, by decide +kernel⟩
theorem sc_far_end : FnScope ["end"] ["end"] (defScope s_far_end) := ⟨rfl, rfl, rfl, by decide +kernel, rfl, by decide +kernel, by decide +kernel⟩
theorem sc_loose_ends : FnScope ["work"] ["work"] (defScope s_loose_ends) := ⟨rfl, rfl, rfl, by decide +kernel, rfl, by decide +kernel, by decide +kernel⟩
theorem sc_rows_in : FnScope ["work", "rows", "end", "row"] ["work"] (defScope s_rows_in) := ⟨rfl, rfl, rfl, by decide +kernel, rfl, by decide +kernel, by decide +kernel⟩
theorem sc_rings_in : FnScope ["work", "seen", "row", "rings", "stave", "ring"] ["work"] (defScope s_rings_in) := ⟨rfl, rfl, rfl, by decide +kernel, rfl, by decide +kernel, by decide +kernel⟩
theorem sc_walked_from : FnScope ["work", "start", "entered", "leaving"] ["work", "start"] (defScope s_walked_from) := ⟨rfl, rfl, rfl, by decide +kernel, rfl, by decide +kernel, by decide +kernel⟩
theorem sc_mark_staves : FnScope ["seen", "chain", "end"] ["seen", "chain"] (defScope s_mark_staves) := ⟨rfl, rfl, rfl, by decide +kernel, rfl, by decide +kernel, by decide +kernel⟩
theorem sc_fits_work : FnScope ["work", "deed", "low", "high"] ["work", "deed"] (defScope s_fits_work) := ⟨rfl, rfl, rfl, by decide +kernel, rfl, by decide +kernel, by decide +kernel⟩
theorem sc_refuse_misfit : FnScope ["work", "deed"] ["work", "deed"] (defScope s_refuse_misfit) := ⟨rfl, rfl, rfl, by decide +kernel, rfl, by decide +kernel, by decide +kernel⟩
theorem sc_reclasped : FnScope ["work", "deed", "mates", "freed"] ["work", "deed"] (defScope s_reclasped) := ⟨rfl, rfl, rfl, by decide +kernel, rfl, by decide +kernel, by decide +kernel⟩
theorem sc_freed_ends : FnScope ["work", "deed"] ["work", "deed"] (defScope s_freed_ends) := ⟨rfl, rfl, rfl, by decide +kernel, rfl, by decide +kernel, by decide +kernel⟩
theorem sc_clasp_ends : FnScope ["mates", "one", "other"] ["mates", "one", "other"] (defScope s_clasp_ends) := ⟨rfl, rfl, rfl, by decide +kernel, rfl, by decide +kernel, by decide +kernel⟩
theorem sc_deed_kind : FnScope ["work", "deed", "behind", "low", "high", "rings", "chains", "low_chain", "high_chain"] ["work", "deed"] (defScope s_deed_kind) := ⟨rfl, rfl, rfl, by decide +kernel, rfl, by decide +kernel, by decide +kernel⟩
theorem sc_chain_with : FnScope ["chains", "end", "stave", "found"] ["chains", "end"] (defScope s_chain_with) := ⟨rfl, rfl, rfl, by decide +kernel, rfl, by decide +kernel, by decide +kernel⟩
theorem sc_law_cell : FnScope ["script", "k"] ["script", "k"] (defScope s_law_cell) := ⟨rfl, rfl, rfl, by decide +kernel, rfl, by decide +kernel, by decide +kernel⟩
theorem sc_law_number : FnScope ["script", "k", "cell"] ["script", "k"] (defScope s_law_number) := ⟨rfl, rfl, rfl, by decide +kernel, rfl, by decide +kernel, by decide +kernel⟩
theorem sc_law_work : FnScope ["script", "at", "staves", "left", "mates", "one", "pick", "other"] ["script", "at", "staves"] (defScope s_law_work) := ⟨rfl, rfl, rfl, by decide +kernel, rfl, by decide +kernel, by decide +kernel⟩
theorem sc_law_fits : FnScope ["work", "one", "two"] ["work", "one", "two"] (defScope s_law_fits) := ⟨rfl, rfl, rfl, by decide +kernel, rfl, by decide +kernel, by decide +kernel⟩
theorem sc_law_behind : FnScope ["work", "one", "two", "mates", "first", "second", "end"] ["work", "one", "two"] (defScope s_law_behind) := ⟨rfl, rfl, rfl, by decide +kernel, rfl, by decide +kernel, by decide +kernel⟩
theorem sc_law_hang_together : FnScope ["work", "names", "end", "elder", "other"] ["work"] (defScope s_law_hang_together) := ⟨rfl, rfl, rfl, by decide +kernel, rfl, by decide +kernel, by decide +kernel⟩
theorem sc_law_row_names : FnScope ["work", "names", "found", "end"] ["work", "names"] (defScope s_law_row_names) := ⟨rfl, rfl, rfl, by decide +kernel, rfl, by decide +kernel, by decide +kernel⟩
theorem sc_law_due : FnScope ["work", "one", "two", "behind", "names", "rows", "mine", "theirs", "more"] ["work", "one", "two", "behind"] (defScope s_law_due) := ⟨rfl, rfl, rfl, by decide +kernel, rfl, by decide +kernel, by decide +kernel⟩
theorem sc_law_change : FnScope ["work", "behind", "counts", "each", "names", "rows"] ["work", "behind"] (defScope s_law_change) := ⟨rfl, rfl, rfl, by decide +kernel, rfl, by decide +kernel, by decide +kernel⟩
theorem sc_law : FnScope ["script", "work", "cells", "told", "cell", "one", "two", "behind", "found"] ["script"] (defScope s_law) := ⟨rfl, rfl, rfl, by decide +kernel, rfl, by decide +kernel, by decide +kernel⟩
structure Bl (mg : Str → Option Value) : Prop where
  «enumerate» : mg "enumerate" = none
  «isinstance» : mg "isinstance" = none
  «len» : mg "len" = none
  «list» : mg "list" = none
  «max» : mg "max" = none
  «min» : mg "min" = none
  «range» : mg "range" = none
  «set» : mg "set" = none
  «str» : mg "str" = none
  «tuple» : mg "tuple" = none
section
variable {P : Program} {w : World} {K : PySem.W.Frag} {mg : Str → Option Value} {base : Heap}
theorem ok_staves_in {f : Addr} {fd : FuncData} (B : Bl mg) (F : Fn K mg "staves_in" s_staves_in ["work"] f fd) : FnOk P w K mg base CX0 1 f fd ["work"] (Mir.spStaves K) := by
  refine F.fn.ok sc_staves_in (fun vs H Q E h => ?_) (fun cdv A outer s H vs Q E hr h => ?_)
  · obtain ⟨a, n, ms, rfl, _⟩ := h
    rfl
  · obtain ⟨a, n, ms, rfl, hS, W, q⟩ := h
    refine ⟨_, pss_one (ps_ret (pe_op op_fdiv (pe_callB call_len_seq rfl B.len bb_len (pa_cons (pv 0) pa_nil)) pe_int)), ?_⟩
    refine ⟨_, rfl, a, _, rfl, .inr hS, _, _, rfl, rfl, ⟨by decide, by decide⟩, ?_⟩
    have e : (((Mir.nV ms).length : Nat) : Int) / 2 = n := by rw [Mir.nV_len, W.len]; omega
    show Q (.int ((((Mir.nV ms).length : Nat) : Int) / 2)) H
    rw [e]
    exact q
end
section
variable {P : Program} {w : World} {K : PySem.W.Frag} {mg : Str → Option Value} {base : Heap}
theorem ok_far_end {f : Addr} {fd : FuncData} (F : Fn K mg "far_end" s_far_end ["end"] f fd) : FnOk P w K mg base CX0 1 f fd ["end"] Mir.spFar := by
  refine F.fn.ok sc_far_end (fun vs H Q E h => ?_) (fun cdv A outer s H vs Q E hr h => ?_)
  · obtain ⟨e, rfl, _⟩ := h
    rfl
  · obtain ⟨e, rfl, h0, q⟩ := h
    refine ⟨_, pss_one (ps_ret (pe_op op_xor (pv 0) pe_int)), ?_⟩
    refine ⟨_, rfl, _, _, rfl, rfl, ?_⟩
    rw [← Mir.xor_one h0] at q
    exact q
end
section
variable {P : Program} {w : World} {K : PySem.W.Frag} {mg : Str → Option Value} {base : Heap}
theorem ok_loose_ends {f : Addr} {fd : FuncData} (B : Bl mg) (F : Fn K mg "loose_ends" s_loose_ends ["work"] f fd) : FnOk P w K mg base CX0 1 f fd ["work"] (Mir.spLoose K) := by
  refine F.fn.ok sc_loose_ends (fun vs H Q E h => ?_) (fun cdv A outer s H vs Q E hr h => ?_)
  · obtain ⟨a, n, ms, rfl, _⟩ := h
    rfl
  · obtain ⟨a, n, ms, rfl, hS, W, k⟩ := h
    have nd2 : (["end", "mate"] : List Str).Nodup := by decide +kernel
    refine ⟨_, pss_one (ps_ret (pe_comp (NC := ["end", "mate"]) rfl (compOk0 rfl (by decide +kernel) (by decide +kernel)) (pi_enumT rfl B.enumerate (pa_cons (pv 0) pa_nil))
      (fun _ _ _ _ => pg_tupK (K := K) (n := 2) rfl rfl (pgs_cons (pg_name (i := 0) nd2 rfl (Or.inl rfl)) (pgs_cons (pg_name (i := 1) nd2 rfl (Or.inl rfl)) pgs_nil))) (fun _ _ _ _ => pts_one (pt_cmpR op_eq (pv 0) (pv 1) (nomark _))) (fun _ _ _ _ => pv 0))), ?_⟩
    refine ⟨_, rfl, a, rfl, ⟨_, hS⟩, fun D hD => ?_⟩
    refine comp_enum (K := K) (a := a) (xs := Mir.nV ms) (fun i σ H2 => ∃ v0 v1 : Option V, σ = [v0, v1] ∧ Same H H2 ∧ H2 D = some (.lst (Mir.nV ((List.range i).filter fun e => e == Mir.at0 ms e))))
      ⟨none, none, rfl, same_upd hD, upd_same⟩ (fun i σ H2 _ ⟨_, _, _, s2, _⟩ => s2.tup hS) ?_ ?_
    · rintro i x t σ H2 hx ⟨v0, v1, rfl, s2, hD2⟩ ht
      obtain ⟨m, hm, rfl⟩ := Mir.nV_get' hx
      have hi : i < 2 * n := by have z := (List.getElem?_eq_some_iff.mp hm).1; rw [W.len] at z; exact z
      have em : m = Mir.at0 ms i := by have z := Mir.at0_get (ms := ms) (e := i) (by rw [W.len]; exact hi); rw [hm] at z; exact Option.some.inj z
      have nDt : D ≠ t := ne_of_none hD2 ht
      refine ⟨t, _, rfl, SqT.of upd_same, rfl, _, _, rfl, _, _, rfl, rfl, ?_⟩
      refine ⟨_, rfl, _, rfl, rfl, _, rfl, ?_⟩
      refine ite2 (fun h1 => ?_) (fun h1 => ?_)
      · have h1 := of_decide_eq_true h1
        injection h1 with h1
        refine ⟨_, rfl, _, by rw [upd_ne nDt]; exact hD2, small1000 ?_, _, _, rfl, (s2.upd (s2.free ht)).upd hD, ?_⟩
        · rw [Mir.nV_len]
          have z := List.length_filter_le (fun e => e == Mir.at0 ms e) (List.range i)
          rw [List.length_range] at z
          have := W.small
          omega
        · have e : (i == Mir.at0 ms i) = true := by rw [beq_iff_eq, ← em]; omega
          rw [upd_same, List.range_succ, List.filter_append, List.filter_cons_of_pos (by exact e), List.filter_nil, Mir.nV_snoc]
      · refine ⟨_, _, rfl, s2.upd (s2.free ht), ?_⟩
        have e : ¬ (i == Mir.at0 ms i) = true := fun z => h1 (decide_eq_true (by rw [beq_iff_eq, ← em] at z; rw [z]))
        rw [upd_ne nDt, hD2, List.range_succ, List.filter_append, List.filter_cons_of_neg (by exact e), List.filter_nil, List.append_nil]
    · rintro σ H2 ⟨v0, v1, rfl, s2, hD2⟩
      rw [Mir.nV_len, W.len] at hD2
      exact k D H2 hD s2 hD2
end
section
variable {P : Program} {w : World} {K : PySem.W.Frag} {mg : Str → Option Value} {base : Heap}
theorem ok_walked_from {f fF : Addr} {fd fdF : FuncData} (B : Bl mg) (F : Fn K mg "walked_from" s_walked_from ["work", "start"] f fd) (FF : Fn K mg "far_end" s_far_end ["end"] fF fdF) : FnOk P w K mg base CX0 2 f fd ["work", "start"] (Mir.spWalked K) := by
  have GF : FnOk P w K mg base CX0 1 fF fdF ["end"] Mir.spFar := ok_far_end FF
  refine F.fn.ok sc_walked_from (fun vs H Q E h => ?_) (fun cdv A outer s H vs Q E hr h => ?_)
  · obtain ⟨a, n, ms, s, rfl, _⟩ := h
    rfl
  · obtain ⟨a, n, ms, st, rfl, hS, W, hst, k⟩ := h
    have hsm := W.small
    refine ⟨_, pss_cons (ps_set (i := 2) sc_walked_from.nd rfl (Or.inl rfl) (pe_lst (pa_cons (pv 1) pa_nil)))
      (pss_cons (ps_set (i := 3) sc_walked_from.nd rfl (Or.inl rfl) (pe_fn GF FF hr (pa_cons (pv 1) pa_nil)))
      (pss_cons (ps_while PassesOwn.never (PW.pt (pw_and (pt_cmpR op_ne (pe_ix ix_tup (pv 0) (pv 3) (fun _ _ => rfl)) (pv 3) (nomark _)) (pw_and1 (pt_cmpR op_ne (pe_ix ix_tup (pv 0) (pv 3) (fun _ _ => rfl)) (pv 1) (nomark _)))))
        (pss_cons (ps_expr (pe_bm PySem.F.plainAttrs_list PySem.F.slot_list_append PySem.F.type_list_append mt_append (pv 2) (pa_cons (pe_ix ix_tup (pv 0) (pv 3) (fun _ _ => rfl)) pa_nil)))
        (pss_one (ps_set (i := 3) sc_walked_from.nd rfl (Or.inl rfl) (pe_fn GF FF hr (pa_cons (pe_ix ix_tup (pv 0) (pv 3) (fun _ _ => rfl)) pa_nil))))))
      (pss_one (ps_ret (pe_callTy call_tuple_of rfl B.tuple bb_tuple (pa_cons (pv 2) pa_nil)))))), ?_⟩
    refine ⟨_, rfl, by show 1 ≤ sizeLine; decide, fun l hl => ?_⟩
    refine ⟨_, rfl, _, rfl, Int.natCast_nonneg _, ?_⟩
    rw [Mir.farI_nat]
    refine while_by (fun σ H2 => ∃ (xs : List Nat) (x j : Nat), σ = [some (.ref a), some (.int st), some (.ref l), some (.int (Ch.far x : Nat))] ∧ Same H H2 ∧ H2 l = some (.lst (Mir.nV (xs ++ [x]))) ∧
        Ch.Steps n (Mir.at0 ms) st (xs ++ [x]) ∧ (xs ++ [x]).length + j = n + 1 ∧ xs ++ [x] ++ Ch.goF (Mir.at0 ms) st j (Ch.far x) = Ch.walk n (Mir.at0 ms) st)
      (fun σ H2 => match H2 l with | some (.lst ys) => n + 1 - ys.length | _ => 0)
      ⟨[], st, n, rfl, same_upd hl, upd_same, Ch.Steps.one hst, by simp; omega, rfl⟩ ?_ ?_
    · rintro σ H2 ⟨xs, x, j, rfl, s2, hl2, S, hj, hw⟩
      have hx : x < 2 * n := S.lt x (by simp)
      have hfx := Ch.far_lt hx
      have hix := W.ix hfx
      have hlen := S.len W.wk
      have out : ∀ D : Ends, (∀ H3, Same H H3 → H3 l = some (.lst (Mir.nV (Ch.walk n (Mir.at0 ms) st))) → D.nx [some (.ref a), some (.int st), some (.ref l), some (.int (Ch.far x : Nat))] H3) →
          ¬ (Mir.at0 ms (Ch.far x) ≠ Ch.far x ∧ Mir.at0 ms (Ch.far x) ≠ st) → D.nx [some (.ref a), some (.int st), some (.ref l), some (.int (Ch.far x : Nat))] H2 := fun D hD hc => by
        refine hD H2 s2 ?_
        rw [hl2, ← hw, Ch.goF_stop hc, List.append_nil]
      refine ⟨_, rfl, _, rfl, a, _, _, _, rfl, rfl, s2.tup hS, hix, _, rfl, rfl, _, rfl, ?_⟩
      refine ite2 (fun h1 => ?_) (fun h1 => ?_)
      · have c1 : Mir.at0 ms (Ch.far x) ≠ Ch.far x := fun z => by
          rw [z] at h1
          simp at h1
        refine ⟨_, rfl, _, rfl, a, _, _, _, rfl, rfl, s2.tup hS, hix, _, rfl, rfl, _, rfl, ?_⟩
        refine ite2 (fun h2 => ?_) (fun h2 => ?_)
        · have c2 : Mir.at0 ms (Ch.far x) ≠ st := fun z => by
            rw [z] at h2
            simp at h2
          have S2 := S.snoc W.wk c1 c2
          have hlen2 := S2.len W.wk
          have hll : (xs ++ [x] ++ [Mir.at0 ms (Ch.far x)]).length = (xs ++ [x]).length + 1 := by simp
          obtain ⟨j', rfl⟩ : ∃ j', j = j' + 1 := ⟨j - 1, by omega⟩
          refine ⟨_, rfl, .inl ⟨rfl, _, SqL.of hl2⟩, _, rfl, _, rfl, a, _, _, _, rfl, rfl, s2.tup hS, hix, l, _, _, rfl, rfl, hl2, small1000 (by rw [Mir.nV_len]; omega), ?_⟩
          have s3 : Same H (upd H2 l (.lst (Mir.nV (xs ++ [x]) ++ [V.int (Mir.at0 ms (Ch.far x) : Nat)]))) := s2.upd hl
          refine ⟨_, rfl, _, rfl, a, _, _, _, rfl, rfl, s3.tup hS, hix, _, rfl, Int.natCast_nonneg _, ?_⟩
          rw [Mir.farI_nat]
          refine ⟨⟨xs ++ [x], Mir.at0 ms (Ch.far x), j', rfl, s3, by rw [upd_same, ← Mir.nV_snoc], S2, by omega, ?_⟩, ?_⟩
          · rw [← hw, List.append_assoc (xs ++ [x])]
            congr 1
            show _ = (if Mir.at0 ms (Ch.far x) ≠ Ch.far x ∧ Mir.at0 ms (Ch.far x) ≠ st then _ else _)
            rw [if_pos ⟨c1, c2⟩]
            rfl
          · show (match (upd H2 l (.lst (Mir.nV (xs ++ [x]) ++ [V.int (Mir.at0 ms (Ch.far x) : Nat)]))) l with | some (.lst ys) => n + 1 - ys.length | _ => 0) < (match H2 l with | some (.lst ys) => n + 1 - ys.length | _ => 0)
            rw [upd_same, hl2]
            show n + 1 - (Mir.nV (xs ++ [x]) ++ [V.int (Mir.at0 ms (Ch.far x) : Nat)]).length < n + 1 - (Mir.nV (xs ++ [x])).length
            rw [List.length_append, Mir.nV_len, List.length_singleton]
            omega
        · refine out _ (fun H3 s3 h3 => ?_) (fun z => h2 ?_)
          · refine ⟨_, rfl, l, _, rfl, .inl ⟨SqL.of h3, fun r hr' => k r _ (s3.free hr') (s3.upd (s3.free hr')) upd_same⟩⟩
          · have z2 := z.2
            simp only [Bool.not_eq_true', decide_eq_false_iff_not]
            intro e
            injection e with e
            exact z2 (by omega)
      · refine out _ (fun H3 s3 h3 => ?_) (fun z => h1 ?_)
        · refine ⟨_, rfl, l, _, rfl, .inl ⟨SqL.of h3, fun r hr' => k r _ (s3.free hr') (s3.upd (s3.free hr')) upd_same⟩⟩
        · have z1 := z.1
          simp only [Bool.not_eq_true', decide_eq_false_iff_not]
          intro e
          injection e with e
          exact z1 (by omega)
    · rintro σ H2 R R' hR ⟨a1, e1, a2, e2, p, ys, i, z, e3, e4, e5, e6, a3, e7, sc, c, ec, h⟩
      refine ⟨a1, e1, a2, e2, p, ys, i, z, e3, e4, e5, e6, a3, e7, sc, c, ec, ?_⟩
      cases c with
      | false => exact hR _ _ h
      | true =>
        obtain ⟨b1, d1, b2, d2, p', ys', i', z', d3, d4, d5, d6, b3, d7, sc', c', ec', h⟩ := h
        exact ⟨b1, d1, b2, d2, p', ys', i', z', d3, d4, d5, d6, b3, d7, sc', c', ec', hR _ _ h⟩
end
section
variable {P : Program} {w : World} {K : PySem.W.Frag} {mg : Str → Option Value} {base : Heap}
theorem ok_mark_staves {f : Addr} {fd : FuncData} (F : Fn K mg "mark_staves" s_mark_staves ["seen", "chain"] f fd) : FnOk P w K mg base CX0 1 f fd ["seen", "chain"] (Mir.spMark K) := by
  refine F.fn.ok sc_mark_staves (fun vs H Q E h => ?_) (fun cdv A outer s H vs Q E hr h => ?_)
  · obtain ⟨d, c, kvs, xs, rfl, _⟩ := h
    rfl
  · obtain ⟨d, c, kvs, xs, rfl, hd, hS, hlen, k⟩ := h
    have hu := hu_of hr
    refine ⟨_, pss_one (ps_for PassesOwn.never rfl (pi_tup (pv 1)) (pg_name (i := 2) sc_mark_staves.nd rfl (Or.inl rfl)) (pss_one (ps_dput hu (pv 0) (pe_op op_fdiv (pv 2) pe_int) pe_bl rfl))), ?_⟩
    have hcd : ∀ {o : HO}, (H d = some (.dK kvs)) → Rd H c o → (∀ z, o ≠ .dK z) → c ≠ d := fun h r ne e => by
      subst e
      rcases r with r | ⟨ob, r⟩
      · rw [h] at r; exact ne _ (Option.some.inj r).symm
      · rw [h] at r; cases r
    have stay : ∀ H2 : Hp, (∀ b o, b ≠ d → H b = some o → H2 b = some o) → SqT K H2 c (Mir.nV xs) := fun H2 s2 => by
      rcases hS with r | r
      · have ne := hcd hd r (by intro z; intro e; cases e)
        rcases r with r | ⟨ob, r⟩
        · exact .inl (.inl (s2 c _ ne r))
        · exact .inl (.inr ⟨ob, s2 c _ ne r⟩)
      · exact .inr r
    refine ⟨_, rfl, c, rfl, ⟨_, hS⟩, for_tup (K := K) (a := c) (xs := Mir.nV xs) (fun i σ H2 => ∃ (v : Option V) (kv2 : List (Key × V)), σ = [some (.ref d), some (.ref c), v] ∧ (∀ b o, b ≠ d → H b = some o → H2 b = some o) ∧ H2 d = some (.dK kv2) ∧
        kv2.length ≤ kvs.length + i ∧ ∀ j : Nat, (valV kv2 (Sum.inl (j : Int) : Key)).isSome = true ↔ (valV kvs (Sum.inl (j : Int) : Key)).isSome = true ∨ j ∈ (xs.take i).map (· / 2))
      ⟨none, kvs, rfl, fun b o _ e => e, hd, Nat.le_refl _, fun j => by simp⟩ (fun i σ H2 _ ⟨_, _, _, s2, _⟩ => stay H2 s2) ?_ ?_⟩
    · rintro i y σ H2 hy ⟨v, kv2, rfl, s2, hd2, hl2, hk2⟩
      obtain ⟨x, hx, rfl⟩ := Mir.nV_get' hy
      have hil : i < xs.length := (List.getElem?_eq_some_iff.mp hx).1
      refine ⟨_, rfl, _, rfl, _, _, rfl, rfl, ⟨by decide, by decide⟩, d, _, rfl, DPut.k (k := Sum.inl ((x : Int) / 2)) hd2 (Nat.lt_of_le_of_lt (show kv2.length ≤ 200000 by omega) (by decide)), ?_⟩
      refine ⟨_, _, rfl, fun b o hb e => by rw [upd_ne hb]; exact s2 b o hb e, upd_same, ?_, fun j => ?_⟩
      · have z := length_putK kv2 (Sum.inl ((x : Int) / 2) : Key) (V.bl true)
        omega
      · rw [valV_put, Mir.take_snoc hx, List.map_append, List.mem_append]
        by_cases e : (Sum.inl (j : Int) : Key) = Sum.inl ((x : Int) / 2)
        · rw [if_pos e]
          have e2 : j = x / 2 := by injection e with e; omega
          constructor
          · intro _; exact .inr (.inr (by simp [e2]))
          · intro _; rfl
        · rw [if_neg e, hk2 j]
          have e2 : j ≠ x / 2 := fun z => e (by congr 1; omega)
          constructor
          · rintro (h | h)
            · exact .inl h
            · exact .inr (.inl h)
          · rintro (h | h | h)
            · exact .inl h
            · exact .inr h
            · simp at h; exact absurd h e2
    · rintro σ H2 ⟨v, kv2, rfl, s2, hd2, hl2, hk2⟩
      rw [Mir.nV_len] at hl2 hk2
      rw [List.take_length] at hk2
      exact k kv2 H2 hd2 s2 hl2 hk2
end
section
variable {P : Program} {w : World} {K : PySem.W.Frag} {mg : Str → Option Value} {base : Heap}
theorem ok_rows_in {f fF fL fW : Addr} {fd fdF fdL fdW : FuncData} (B : Bl mg) (F : Fn K mg "rows_in" s_rows_in ["work"] f fd) (FF : Fn K mg "far_end" s_far_end ["end"] fF fdF) (FL : Fn K mg "loose_ends" s_loose_ends ["work"] fL fdL)
    (FW : Fn K mg "walked_from" s_walked_from ["work", "start"] fW fdW) : FnOk P w K mg base CX0 3 f fd ["work"] (Mir.spRows K) := by
  have GF : FnOk P w K mg base CX0 1 fF fdF ["end"] Mir.spFar := ok_far_end FF
  have GL : FnOk P w K mg base CX0 1 fL fdL ["work"] (Mir.spLoose K) := ok_loose_ends B FL
  have GW : FnOk P w K mg base CX0 2 fW fdW ["work", "start"] (Mir.spWalked K) := ok_walked_from B FW FF
  refine F.fn.ok sc_rows_in (fun vs H Q E h => ?_) (fun cdv A outer s H vs Q E hr h => ?_)
  · obtain ⟨a, n, ms, rfl, _⟩ := h
    rfl
  · obtain ⟨a, n, ms, rfl, hS, W, k⟩ := h
    have hr1 : Room 1 _ := hr.mono (by decide)
    have hsm := W.small
    refine ⟨_, pss_cons (ps_set (i := 1) sc_rows_in.nd rfl (Or.inl rfl) (pe_lst pa_nil))
      (pss_cons (ps_for PassesOwn.never rfl (pi_list (pe_fn GL FL hr1 (pa_cons (pv 0) pa_nil))) (pg_name (i := 2) sc_rows_in.nd rfl (Or.inl rfl))
        (pss_cons (ps_set (i := 3) sc_rows_in.nd rfl (Or.inl rfl) (pe_fn GW FW hr (pa_cons (pv 0) (pa_cons (pv 2) pa_nil))))
        (pss_one (ps_if (pt_cmpR op_lt (pv 2) (pe_fn GF FF hr1 (pa_cons (pe_ix ix_tup (pv 3) (pe_un un_neg pe_int) (fun _ _ => rfl)) pa_nil)) (nomark _))
          (pss_one (ps_expr (pe_bm PySem.F.plainAttrs_list PySem.F.slot_list_append PySem.F.type_list_append mt_append (pv 1) (pa_cons (pv 3) pa_nil)))) pss_nil))))
      (pss_one (ps_ret (pv 1)))), ?_⟩
    refine ⟨by show 0 ≤ sizeLine; decide, fun l hl => ?_⟩
    have s1 : Same H (upd H l (.lst [])) := same_upd hl
    refine ⟨_, rfl, a, n, ms, rfl, s1.tup hS, W, fun ll H1 hll s2 hl1 => ?_⟩
    have sA : Same H H1 := s1.trans s2
    have hlr : H1 l = some (.lst []) := s2 l _ upd_same
    refine ⟨ll, rfl, ⟨_, SqL.of hl1⟩, for_list (K := K) (a := ll) (xs := Mir.nV (Ch.looseL n (Mir.at0 ms))) (fun i σ H2 => ∃ v2 v3 : Option V, σ = [some (.ref a), some (.ref l), v2, v3] ∧ Same H H2 ∧ H2 ll = some (.lst (Mir.nV (Ch.looseL n (Mir.at0 ms)))) ∧
        Mir.RowsT H2 l ((((Ch.looseL n (Mir.at0 ms)).take i).map (Ch.walk n (Mir.at0 ms))).filter fun xs => decide (xs.headD 0 < Ch.lastFar xs)))
      ⟨none, none, rfl, sA, hl1, .nil hlr⟩ (fun i σ H2 _ ⟨_, _, _, _, e, _⟩ => SqL.of e) ?_ ?_⟩
    · rintro i x σ H2 hx ⟨v2, v3, rfl, s3, hll2, R⟩
      obtain ⟨e, he, rfl⟩ := Mir.nV_get' hx
      obtain ⟨he1, he2⟩ := Ch.mem_loose.mp (List.mem_of_getElem? he)
      refine ⟨_, rfl, _, rfl, a, n, ms, e, rfl, s3.tup hS, W, he1, fun t H3 ht s4 ht3 => ?_⟩
      have Fu := Ch.walk_full W.wk he1
      obtain ⟨x, hx1, hx2, hx3⟩ := Fu.lastFar_eq
      have hst : (Ch.walk n (Mir.at0 ms) e).headD 0 = e := rfl
      have htk : ((Ch.looseL n (Mir.at0 ms)).take (i + 1)).map (Ch.walk n (Mir.at0 ms)) = ((Ch.looseL n (Mir.at0 ms)).take i).map (Ch.walk n (Mir.at0 ms)) ++ [Ch.walk n (Mir.at0 ms) e] := by
        rw [Mir.take_snoc he, List.map_append]; rfl
      have R3 := R.same s4
      have hll3 := s4 ll _ hll2
      refine ⟨_, rfl, _, rfl, _, rfl, t, _, _, _, rfl, rfl, SqT.of ht3, Mir.atI_nlast hx1, _, rfl, Int.natCast_nonneg _, _, _, rfl, rfl, _, rfl, ?_⟩
      rw [Mir.farI_nat, ← hx2]
      refine ite2 (fun h1 => ?_) (fun h1 => ?_)
      · have h1 : e < Ch.lastFar (Ch.walk n (Mir.at0 ms) e) := by have z := of_decide_eq_true h1; omega
        obtain ⟨ys, hy, hyl, R4⟩ := R3.snoc ht3
        refine ⟨_, rfl, .inl ⟨rfl, _, SqL.of hy⟩, _, rfl, l, _, _, rfl, rfl, hy, small1000 ?_, ?_⟩
        · rw [hyl]
          have z1 := List.length_filter_le (fun xs => decide (xs.headD 0 < Ch.lastFar xs)) (((Ch.looseL n (Mir.at0 ms)).take i).map (Ch.walk n (Mir.at0 ms)))
          rw [List.length_map, List.length_take] at z1
          have z2 : (Ch.looseL n (Mir.at0 ms)).length ≤ 2 * n := by
            have z := List.length_filter_le (fun e => e == Mir.at0 ms e) (List.range (2 * n))
            rw [List.length_range] at z
            exact z
          omega
        · refine ⟨_, _, rfl, (s3.trans s4).upd hl, ?_, ?_⟩
          · rw [upd_ne (fun z => by rw [z] at hll; rw [upd_same] at hll; cases hll)]; exact hll3
          · rw [htk, List.filter_append, List.filter_cons_of_pos (by rw [hst]; exact decide_eq_true h1), List.filter_nil]
            exact R4
      · have h1 : ¬ e < Ch.lastFar (Ch.walk n (Mir.at0 ms) e) := fun z => h1 (decide_eq_true (by omega))
        refine ⟨_, _, rfl, s3.trans s4, hll3, ?_⟩
        rw [htk, List.filter_append, List.filter_cons_of_neg (by rw [hst]; simpa using h1), List.filter_nil, List.append_nil]
        exact R3
    · rintro σ H2 ⟨v2, v3, rfl, s3, hll2, R⟩
      rw [Mir.nV_len, List.take_length] at R
      exact ⟨_, rfl, k l H2 hl s3 R⟩
end
section
variable {P : Program} {w : World} {K : PySem.W.Frag} {mg : Str → Option Value} {base : Heap}
theorem ok_rings_in {f fS fF fL fR fW fM : Addr} {fd fdS fdF fdL fdR fdW fdM : FuncData} (B : Bl mg) (F : Fn K mg "rings_in" s_rings_in ["work"] f fd) (FS : Fn K mg "staves_in" s_staves_in ["work"] fS fdS) (FF : Fn K mg "far_end" s_far_end ["end"] fF fdF)
    (FL : Fn K mg "loose_ends" s_loose_ends ["work"] fL fdL) (FR : Fn K mg "rows_in" s_rows_in ["work"] fR fdR) (FW : Fn K mg "walked_from" s_walked_from ["work", "start"] fW fdW) (FM : Fn K mg "mark_staves" s_mark_staves ["seen", "chain"] fM fdM) :
    FnOk P w K mg base CX0 4 f fd ["work"] (Mir.spRings K) := by
  have GS : FnOk P w K mg base CX0 1 fS fdS ["work"] (Mir.spStaves K) := ok_staves_in B FS
  have GR : FnOk P w K mg base CX0 3 fR fdR ["work"] (Mir.spRows K) := ok_rows_in B FR FF FL FW
  have GW : FnOk P w K mg base CX0 2 fW fdW ["work", "start"] (Mir.spWalked K) := ok_walked_from B FW FF
  have GM : FnOk P w K mg base CX0 1 fM fdM ["seen", "chain"] (Mir.spMark K) := ok_mark_staves FM
  refine F.fn.ok sc_rings_in (fun vs H Q E h => ?_) (fun cdv A outer s H vs Q E hr h => ?_)
  · obtain ⟨a, n, ms, rfl, _⟩ := h
    rfl
  · obtain ⟨a, n, ms, rfl, hS, W, k⟩ := h
    have hr1 : Room 1 _ := hr.mono (by decide)
    have hr2 : Room 2 _ := hr.mono (by decide)
    have hu := hu_of hr
    have hsm := W.small
    refine ⟨_, pss_cons (ps_set (i := 1) sc_rings_in.nd rfl (Or.inl rfl) pe_dnewK)
      (pss_cons (ps_for PassesOwn.never rfl (pi_list (pe_fn GR FR hr (pa_cons (pv 0) pa_nil))) (pg_name (i := 2) sc_rings_in.nd rfl (Or.inl rfl)) (pss_one (ps_expr (pe_fn GM FM hr1 (pa_cons (pv 1) (pa_cons (pv 2) pa_nil))))))
      (pss_cons (ps_set (i := 3) sc_rings_in.nd rfl (Or.inl rfl) (pe_lst pa_nil))
      (pss_cons (ps_for PassesOwn.never rfl (pi_range1 rfl B.range (pa_cons (pe_fn GS FS hr1 (pa_cons (pv 0) pa_nil)) pa_nil)) (pg_name (i := 4) sc_rings_in.nd rfl (Or.inl rfl))
        (pss_one (ps_if (pt_cmp (pc_dnotin hu (pv 4) (pv 1)))
          (pss_cons (ps_set (i := 5) sc_rings_in.nd rfl (Or.inl rfl) (pe_fn GW FW hr2 (pa_cons (pv 0) (pa_cons (pe_op op_mul pe_int (pv 4)) pa_nil))))
          (pss_cons (ps_expr (pe_fn GM FM hr1 (pa_cons (pv 1) (pa_cons (pv 5) pa_nil))))
          (pss_one (ps_expr (pe_bm PySem.F.plainAttrs_list PySem.F.slot_list_append PySem.F.type_list_append mt_append (pv 3) (pa_cons (pv 5) pa_nil)))))) pss_nil)))
      (pss_one (ps_ret (pv 3)))))), ?_⟩
    intro d hd
    have s1 : Same H (upd H d (.dK [])) := same_upd hd
    refine ⟨_, rfl, a, n, ms, rfl, s1.tup hS, W, fun lr H1 hlr s2 R1 => ?_⟩
    obtain ⟨ts, ht1, ht2, ht3⟩ := R1
    have hd1 : H1 d = some (.dK []) := s2 d _ upd_same
    have nlr : lr ≠ d := fun z => by rw [z, upd_same] at hlr; cases hlr
    have rowlen : ∀ (i : Nat) (r : List Nat), (Ch.rowsL n (Mir.at0 ms))[i]? = some r → r.length ≤ n := fun i r e => by
      obtain ⟨s, _, _, Fu, _, _⟩ := Ch.row_full W.wk (List.mem_of_getElem? e)
      exact Fu.st.len W.wk
    refine ⟨lr, rfl, ⟨_, SqL.of ht1⟩, for_list (K := K) (a := lr) (xs := ts.map V.ref) (fun i σ H2 => ∃ (v : Option V) (kv : List (Key × V)), σ = [some (.ref a), some (.ref d), v, none, none, none] ∧ (∀ b o, b ≠ d → H1 b = some o → H2 b = some o) ∧ H2 d = some (.dK kv) ∧
        kv.length ≤ 40 * i ∧ ∀ j : Nat, (valV kv (Sum.inl (j : Int) : Key)).isSome = true ↔ j ∈ ((Ch.rowsL n (Mir.at0 ms)).take i).flatMap fun xs => xs.map (· / 2))
      ⟨none, [], rfl, fun b o _ e => e, hd1, Nat.le_refl _, fun j => by simp [valV]⟩ (fun i σ H2 _ ⟨_, _, _, s3, _⟩ => SqL.of (s3 lr _ nlr ht1)) ?_ ?_⟩
    · rintro i x σ H2 hx ⟨v, kv, rfl, s3, hd2, hl2, hk2⟩
      have hit : i < ts.length := by have z := (List.getElem?_eq_some_iff.mp hx).1; rw [List.length_map] at z; exact z
      have ht : ts[i]? = some ts[i] := List.getElem?_eq_getElem hit
      rw [List.getElem?_map, ht] at hx
      obtain rfl : V.ref ts[i] = x := Option.some.inj hx
      have hri : (Ch.rowsL n (Mir.at0 ms))[i]? = some ((Ch.rowsL n (Mir.at0 ms))[i]'(by omega)) := List.getElem?_eq_getElem (by omega)
      generalize (Ch.rowsL n (Mir.at0 ms))[i]'(by omega) = r at hri
      have hrl := rowlen i r hri
      have htr := ht3 i _ r ht hri
      have ntd : ts[i] ≠ d := fun z => by rw [z, hd1] at htr; cases htr
      have hil : i < 1000 := by
        have z1 : (Ch.rowsL n (Mir.at0 ms)).length ≤ 2 * n := by
          have z1 := List.length_filter_le (fun xs => decide (xs.headD 0 < Ch.lastFar xs)) ((Ch.looseL n (Mir.at0 ms)).map (Ch.walk n (Mir.at0 ms)))
          rw [List.length_map] at z1
          have z2 := List.length_filter_le (fun e => e == Mir.at0 ms e) (List.range (2 * n))
          rw [List.length_range] at z2
          exact Nat.le_trans z1 z2
        omega
      refine ⟨_, rfl, _, rfl, d, ts[i], kv, r, rfl, hd2, SqT.of (s3 _ _ ntd htr), by omega, fun kv' H3 hd3 s4 hl3 hk3 => ?_⟩
      refine ⟨_, kv', rfl, fun b o hb e => s4 b o hb (s3 b o hb e), hd3, by omega, fun j => ?_⟩
      rw [hk3 j, hk2 j, Mir.take_snoc hri, List.flatMap_append, List.mem_append]
      simp
    · rintro σ H2 ⟨v, kv, rfl, s3, hd2, hl2, hk2⟩
      rw [List.length_map, ht2, List.take_length] at hk2
      rw [List.length_map] at hl2
      have hsame2 : ∀ b o, H b = some o → H2 b = some o := fun b o e => s3 b o (ne_of_none e hd) (s2 b o (s1 b o e))
      refine ⟨by show 0 ≤ sizeLine; decide, fun l hl => ?_⟩
      have nld : l ≠ d := fun z => by rw [z, hd2] at hl; cases hl
      have sB : Same H (upd H2 l (.lst [])) := fun b o e => by rw [upd_ne (ne_of_none (hsame2 b o e) hl)]; exact hsame2 b o e
      have hlH : H l = none := Same.free hsame2 hl
      have tl : ts.length ≤ 80 := by
        have z1 : (Ch.rowsL n (Mir.at0 ms)).length ≤ 2 * n := by
          have z1 := List.length_filter_le (fun xs => decide (xs.headD 0 < Ch.lastFar xs)) ((Ch.looseL n (Mir.at0 ms)).map (Ch.walk n (Mir.at0 ms)))
          rw [List.length_map] at z1
          have z2 := List.length_filter_le (fun e => e == Mir.at0 ms e) (List.range (2 * n))
          rw [List.length_range] at z2
          exact Nat.le_trans z1 z2
        omega
      refine ⟨_, rfl, a, n, ms, rfl, sB.tup hS, W, _, rfl, by omega, by omega, for_range (lo := 0) (n := ((n : Nat) : Int).toNat) (fun i σ H3 => ∃ (v4 v5 : Option V) (kv : List (Key × V)), σ = [some (.ref a), some (.ref d), v, some (.ref l), v4, v5] ∧ Same H H3 ∧
          H3 d = some (.dK kv) ∧ kv.length ≤ 3200 + 40 * i ∧ (∀ j : Nat, (valV kv (Sum.inl (j : Int) : Key)).isSome = true ↔ j ∈ (Ch.ringSt n (Mir.at0 ms) i).2) ∧ Mir.RowsT H3 l (Ch.ringSt n (Mir.at0 ms) i).1)
        ⟨none, none, kv, rfl, sB, by rw [upd_ne nld.symm]; exact hd2, by omega, hk2, .nil upd_same⟩ ?_ ?_⟩
      · rintro i σ H3 hi ⟨v4, v5, kv3, rfl, s5, hd3, hl3, hk3, R3⟩
        have hin : i < n := by omega
        have ez : (0 : Int) + (i : Nat) = ((i : Nat) : Int) := by omega
        have rl : (Ch.ringSt n (Mir.at0 ms) i).1.length ≤ i := by
          have key : ∀ m, (Ch.ringSt n (Mir.at0 ms) m).1.length ≤ m := by
            intro m
            induction m with
            | zero => exact Nat.le_refl _
            | succ m ih =>
              rw [Ch.ringSt_succ]
              unfold Ch.ringStep
              split
              · omega
              · show ((Ch.ringSt n (Mir.at0 ms) m).1 ++ [_]).length ≤ m + 1
                rw [List.length_append, List.length_singleton]
                omega
          exact key i
        refine ⟨_, rfl, _, rfl, d, _, rfl, DGet.k (k := Sum.inl ((0 : Int) + (i : Nat))) hd3, _, rfl, ?_⟩
        rw [ez]
        by_cases c : i ∈ (Ch.ringSt n (Mir.at0 ms) i).2
        · have e1 : (valV kv3 (Sum.inl ((i : Nat) : Int) : Key)).isSome = true := (hk3 i).mpr c
          rw [e1]
          refine iteF ?_
          have e2 : Ch.ringSt n (Mir.at0 ms) (i + 1) = Ch.ringSt n (Mir.at0 ms) i := by rw [Ch.ringSt_succ]; unfold Ch.ringStep; rw [if_pos c]
          refine ⟨_, _, kv3, rfl, s5, hd3, by omega, ?_, ?_⟩
          · rw [e2]; exact hk3
          · rw [e2]; exact R3
        · have e1 : (valV kv3 (Sum.inl ((i : Nat) : Int) : Key)).isSome = false := by
            cases q : (valV kv3 (Sum.inl ((i : Nat) : Int) : Key)).isSome with
            | false => rfl
            | true => exact absurd ((hk3 i).mp q) c
          rw [e1]
          refine iteT ?_
          have e2 : Ch.ringSt n (Mir.at0 ms) (i + 1) = ((Ch.ringSt n (Mir.at0 ms) i).1 ++ [Ch.walk n (Mir.at0 ms) (2 * i)], (Ch.ringSt n (Mir.at0 ms) i).2 ++ (Ch.walk n (Mir.at0 ms) (2 * i)).map (· / 2)) := by
            rw [Ch.ringSt_succ]; unfold Ch.ringStep; rw [if_neg c]
          have Fu := Ch.walk_full W.wk (show 2 * i < 2 * n by omega)
          have wl := Fu.st.len W.wk
          refine ⟨_, rfl, _, rfl, _, _, rfl, rfl, .inl ⟨by decide, by decide⟩, a, n, ms, 2 * i, by congr 2, s5.tup hS, W, by omega, fun t H4 ht s6 ht4 => ?_⟩
          have hd4 := s6 d _ hd3
          have ntd : t ≠ d := fun z => by rw [z, hd4] at ht4; cases ht4
          refine ⟨_, rfl, _, rfl, d, t, kv3, _, rfl, hd4, SqT.of ht4, by omega, fun kv5 H5 hd5 s7 hl5 hk5 => ?_⟩
          have nld4 : l ≠ d := nld
          have R5 : Mir.RowsT H5 l (Ch.ringSt n (Mir.at0 ms) i).1 := by
            obtain ⟨us, u1, u2, u3⟩ := R3.same s6
            refine ⟨us, s7 l _ nld u1, u2, fun j u r q1 q2 => ?_⟩
            have z := u3 j u r q1 q2
            exact s7 u _ (fun q => by rw [q, hd4] at z; cases z) z
          obtain ⟨ys, hy, hyl, R6⟩ := R5.snoc (s7 t _ ntd ht4)
          refine ⟨_, rfl, .inl ⟨rfl, _, SqL.of hy⟩, _, rfl, l, _, _, rfl, rfl, hy, small1000 (by omega), ?_⟩
          refine ⟨_, _, kv5, rfl, fun b o e => ?_, by rw [upd_ne nld.symm]; exact hd5, by omega, fun j => ?_, ?_⟩
          · rw [upd_ne (ne_of_none e hlH)]
            exact s7 b o (ne_of_none e hd) (s6 b o (s5 b o e))
          · rw [hk5 j, hk3 j, e2, List.mem_append]
          · rw [e2]; exact R6
      · rintro σ H3 ⟨v4, v5, kv3, rfl, s5, hd3, hl3, hk3, R3⟩
        have e : ((n : Nat) : Int).toNat = n := by omega
        rw [e] at R3
        exact ⟨_, rfl, k l H3 hlH s5 R3⟩
end
section
variable {P : Program} {w : World} {K : PySem.W.Frag} {mg : Str → Option Value} {base : Heap}
theorem ok_fits_work {f : Addr} {fd : FuncData} (B : Bl mg) (F : Fn K mg "fits_work" s_fits_work ["work", "deed"] f fd) : FnOk P w K mg base CX0 1 f fd ["work", "deed"] (Mir.spFits K) := by
  refine F.fn.ok sc_fits_work (fun vs H Q E h => ?_) (fun cdv A outer s H vs Q E hr h => ?_)
  · obtain ⟨a, d, n, ms, p, q, rfl, _⟩ := h
    rfl
  · obtain ⟨a, d, n, ms, p, q, rfl, hS, W, hD, k⟩ := h
    refine ⟨_, pss_cons (ps_set (i := 2) sc_fits_work.nd rfl (Or.inl rfl) (pe_ix ix_tup (pv 1) pe_int (fun _ _ => rfl)))
      (pss_cons (ps_set (i := 3) sc_fits_work.nd rfl (Or.inl rfl) (pe_ix ix_tup (pv 1) pe_int (fun _ _ => rfl)))
      (pss_cons (ps_if (pt_not (pt_chain3 op_le op_le op_lt pe_int (pv 2) (pv 3) (pe_callB call_len_seq rfl B.len bb_len (pa_cons (pv 0) pa_nil)))) (pss_one (ps_ret pe_bl)) pss_nil)
      (pss_one (ps_ret (pe_cmpR op_ne (pe_ix ix_tup (pv 0) (pv 2) (fun _ _ => rfl)) (pv 3) (nomark _)))))), ?_⟩
    refine ⟨_, rfl, d, _, _, _, rfl, rfl, hD, rfl, ?_⟩
    refine ⟨_, rfl, d, _, _, _, rfl, rfl, hD, rfl, ?_⟩
    have no : ¬ Mir.Fits n ms p q → Q (.bl false) H := fun z => by rw [decide_eq_false z] at k; exact k
    refine ⟨_, rfl, _, _, rfl, rfl, _, rfl, ite2 (fun h1 => ?_) (fun h1 => ?_)⟩
    · have h1 : 0 ≤ p := of_decide_eq_true h1
      refine ⟨_, rfl, _, _, rfl, rfl, _, rfl, ite2 (fun h2 => ?_) (fun h2 => ?_)⟩
      · have h2 : p ≤ q := of_decide_eq_true h2
        refine ⟨_, rfl, a, _, rfl, .inr hS, _, _, rfl, rfl, _, rfl, ite2 (fun h3 => ?_) (fun h3 => ?_)⟩
        · have h3 : ¬ q < ((Mir.nV ms).length : Nat) := by simpa using h3
          rw [Mir.nV_len, W.len] at h3
          exact no fun z => h3 (by have := z.2.2.1; omega)
        · have h3 : q < ((Mir.nV ms).length : Nat) := by simpa using h3
          rw [Mir.nV_len, W.len] at h3
          have hx : p = ((p.toNat : Nat) : Int) := by omega
          have hix := W.ix (e := p.toNat) (by omega)
          rw [← hx] at hix
          refine ⟨_, rfl, _, rfl, a, _, _, _, rfl, rfl, hS, hix, _, rfl, rfl, ?_⟩
          have e : decide (Mir.Fits n ms p q) = !decide (V.int ((Mir.at0 ms p.toNat : Nat) : Int) = V.int q) := by
            by_cases c : ((Mir.at0 ms p.toNat : Nat) : Int) = q
            · rw [decide_eq_false (fun z : Mir.Fits n ms p q => z.2.2.2 c), decide_eq_true (congrArg V.int c)]; rfl
            · rw [decide_eq_true (show Mir.Fits n ms p q from ⟨h1, h2, by omega, c⟩), decide_eq_false (fun z => c (by injection z))]; rfl
          rw [e] at k
          exact k
      · have h2 : ¬ p ≤ q := fun z => h2 (decide_eq_true z)
        exact ⟨_, rfl, iteT (no fun z => h2 z.2.1)⟩
    · have h1 : ¬ 0 ≤ p := fun z => h1 (decide_eq_true z)
      exact ⟨_, rfl, iteT (no fun z => h1 z.1)⟩
end
section
variable {P : Program} {w : World} {K : PySem.W.Frag} {mg : Str → Option Value} {base : Heap}
theorem ok_refuse_misfit {f fF C : Addr} {fd fdF : FuncData} (B : Bl mg) (Z : ECls K mg "BadDeed" C) (F : Fn K mg "refuse_misfit" s_refuse_misfit ["work", "deed"] f fd) (FF : Fn K mg "fits_work" s_fits_work ["work", "deed"] fF fdF) : FnOk P w K mg base (CXo P w) 2 f fd ["work", "deed"] (Mir.spMisfit K C) := by
  have GF : FnOk P w K mg base CX0 1 fF fdF ["work", "deed"] (Mir.spFits K) := ok_fits_work B FF
  refine F.fn.okX2 sc_refuse_misfit (fun vs H Q E h => ?_) (fun cdv A outer s H vs Q E hr h own => ?_)
  · obtain ⟨a, d, n, ms, p, q, rfl, _⟩ := h
    rfl
  · obtain ⟨a, d, n, ms, p, q, rfl, hS, W, hD, sp, sq, kg, kb⟩ := h
    refine ⟨_, pss_one (ps_if (pt_not (pt_val (pe_fn GF FF hr (pa_cons (pv 0) (pa_cons (pv 1) pa_nil))))) (pss_one (ps_raise rfl Z (pa_cons (pe_fs (pj_str (pj_tup hr.gd (hr.lt 2 (by decide)) (pv 1) (pj_str pj_nil))) (by decide)) pa_nil))) pss_nil), ?_⟩
    refine ⟨_, rfl, _, rfl, a, d, n, ms, p, q, rfl, hS, W, SqT.of hD, _, rfl, ?_⟩
    by_cases c : Mir.Fits n ms p q
    · rw [decide_eq_true c]
      exact iteF (kg c)
    · rw [decide_eq_false c]
      refine iteT ⟨⟨_, rfl, rfl, ⟨d, [p, q], rfl, hD, by show 2 ≤ 100; decide, fun m hm => ?_⟩, trivial⟩, fun x => ⟨by show 1 ≤ sizeLine; decide, kb c⟩⟩
      rcases List.mem_cons.mp hm with rfl | hm
      · exact sp.log
      · rw [List.mem_singleton.mp hm]; exact sq.log
end
section
variable {P : Program} {w : World} {K : PySem.W.Frag} {mg : Str → Option Value} {base : Heap}
theorem ok_freed_ends {f : Addr} {fd : FuncData} (F : Fn K mg "freed_ends" s_freed_ends ["work", "deed"] f fd) : FnOk P w K mg base CX0 1 f fd ["work", "deed"] (Mir.spFreedE K) := by
  refine F.fn.ok sc_freed_ends (fun vs H Q E h => ?_) (fun cdv A outer s H vs Q E hr h => ?_)
  · obtain ⟨a, d, n, ms, p, q, rfl, _⟩ := h
    rfl
  · obtain ⟨a, d, n, ms, p, q, rfl, hS, W, hD, hp, hq, k⟩ := h
    have nd2 : (["end", "work"] : List Str).Nodup := by decide +kernel
    refine ⟨_, pss_one (ps_ret (pe_comp (NC := ["end", "work"]) rfl (compOk2 (c := s.heap.objs.size + 1) (j := 0) rfl (by decide +kernel) (by decide +kernel) rfl rfl rfl rfl rfl) (pi_tup (pv 1))
      (fun _ _ _ _ => pg_name (i := 0) nd2 rfl (Or.inl rfl)) (fun _ _ _ _ => pts_one (pt_cmpR op_ne (pe_ix (ix_tupK (K := K) rfl) (pv 1) (pv 0) (fun _ _ => rfl)) (pv 0) (nomark _))) (fun _ _ _ _ => pe_ix (ix_tupK (K := K) rfl) (pv 1) (pv 0) (fun _ _ => rfl)))), ?_⟩
    refine ⟨_, rfl, d, rfl, ⟨_, hD⟩, fun D hDn => ?_⟩
    refine comp_tup (K := K) (a := d) (xs := Mir.nV [p, q]) (fun i σ H2 => ∃ v0 : Option V, σ = [v0, some (.ref a)] ∧ Same H H2 ∧ H2 D = some (.lst (Mir.nV ((([p, q].take i).filter fun e => !decide (Mir.at0 ms e = e)).map (Mir.at0 ms)))))
      ⟨none, rfl, same_upd hDn, upd_same⟩ (fun i σ H2 _ ⟨_, _, s2, _⟩ => s2.tup hD) ?_ ?_
    · rintro i x σ H2 hx ⟨v0, rfl, s2, h2⟩
      obtain ⟨e, he, rfl⟩ := Mir.nV_get' hx
      have hi : i < 2 := (List.getElem?_eq_some_iff.mp he).1
      have he2 : e < 2 * n := by
        rcases List.mem_cons.mp (List.mem_of_getElem? he) with rfl | z
        · exact hp
        · rw [List.mem_singleton.mp z]; exact hq
      have hlen : ((([p, q].take i).filter fun e => !decide (Mir.at0 ms e = e)).map (Mir.at0 ms)).length ≤ 2 := by
        rw [List.length_map]
        refine Nat.le_trans (List.length_filter_le _ _) ?_
        rw [List.length_take]
        exact Nat.min_le_right _ _
      refine ⟨_, rfl, _, rfl, a, _, _, _, rfl, rfl, s2.tup hS, W.ix he2, _, rfl, rfl, _, rfl, ?_⟩
      rw [Mir.take_snoc he, List.filter_append, List.map_append]
      refine ite2 (fun h1 => ?_) (fun h1 => ?_)
      · have h1 : Mir.at0 ms e ≠ e := fun z => by rw [z] at h1; simp at h1
        refine ⟨_, rfl, _, rfl, a, _, _, _, rfl, rfl, s2.tup hS, W.ix he2, _, h2, small1000 (by rw [Mir.nV_len]; omega), _, rfl, s2.upd hDn, ?_⟩
        rw [upd_same]
        simp [h1, Mir.nV]
      · have h1 : Mir.at0 ms e = e := by
          by_cases z : Mir.at0 ms e = e
          · exact z
          · exact absurd (by simp; omega) h1
        refine ⟨_, rfl, s2, ?_⟩
        rw [h2]
        simp [h1]
    · rintro σ H2 ⟨v0, rfl, s2, h2⟩
      exact k D H2 hDn s2 h2
theorem ok_clasp_ends {f : Addr} {fd : FuncData} (F : Fn K mg "clasp_ends" s_clasp_ends ["mates", "one", "other"] f fd) : FnOk P w K mg base CX0 1 f fd ["mates", "one", "other"] Mir.spClaspE := by
  refine F.fn.ok sc_clasp_ends (fun vs H Q E h => ?_) (fun cdv A outer s H vs Q E hr h => ?_)
  · obtain ⟨l, ms, p, q, rfl, _⟩ := h
    rfl
  · obtain ⟨l, ms, p, q, rfl, hl, hp, hq, k⟩ := h
    refine ⟨_, pss_cons (ps_asg (pv 2) (pg_sub (pv 0) (pv 1) set_list)) (pss_one (ps_asg (pv 1) (pg_sub (pv 0) (pv 2) set_list))), ?_⟩
    refine ⟨_, rfl, _, rfl, _, rfl, l, _, _, _, rfl, rfl, hl, ixN_of (Int.natCast_nonneg _) (by rw [Mir.nV_len]; omega), ?_⟩
    rw [Int.toNat_natCast, Mir.nV_set]
    refine ⟨_, rfl, _, rfl, _, rfl, l, _, _, _, rfl, rfl, upd_same, ixN_of (Int.natCast_nonneg _) (by rw [Mir.nV_len, List.length_set]; omega), ?_⟩
    rw [Int.toNat_natCast, Mir.nV_set]
    exact k _ upd_same fun b hb => by rw [upd_ne hb, upd_ne hb]
end
section
variable {P : Program} {w : World} {K : PySem.W.Frag} {mg : Str → Option Value} {base : Heap}
theorem ok_reclasped {f fM fR fC C fF : Addr} {fd fdM fdR fdC fdF : FuncData} (B : Bl mg) (Z : ECls K mg "BadDeed" C) (F : Fn K mg "reclasped" s_reclasped ["work", "deed"] f fd) (FF : Fn K mg "fits_work" s_fits_work ["work", "deed"] fF fdF) (FM : Fn K mg "refuse_misfit" s_refuse_misfit ["work", "deed"] fM fdM)
    (FR : Fn K mg "freed_ends" s_freed_ends ["work", "deed"] fR fdR) (FC : Fn K mg "clasp_ends" s_clasp_ends ["mates", "one", "other"] fC fdC) : FnOk P w K mg base (CXo P w) 3 f fd ["work", "deed"] (Mir.spRecl K C) := by
  have GM : FnOk P w K mg base (CXo P w) 2 fM fdM ["work", "deed"] (Mir.spMisfit K C) := ok_refuse_misfit B Z FM FF
  have GR : FnOk P w K mg base CX0 1 fR fdR ["work", "deed"] (Mir.spFreedE K) := ok_freed_ends FR
  have GC : FnOk P w K mg base CX0 1 fC fdC ["mates", "one", "other"] Mir.spClaspE := ok_clasp_ends FC
  refine F.fn.okX2 sc_reclasped (fun vs H Q E h => ?_) (fun cdv A outer s H vs Q E hr h own => ?_)
  · obtain ⟨a, d, n, ms, p, q, rfl, _⟩ := h
    rfl
  · obtain ⟨a, d, n, ms, p, q, rfl, hS, W, hD, sp, sq, kg, kb⟩ := h
    have hr1 : Room 1 _ := hr.mono (by decide)
    refine ⟨_, pss_cons (ps_expr (pe_fnX GM FM hr (pa_cons (pv 0) (pa_cons (pv 1) pa_nil))))
      (pss_cons (ps_set (i := 2) sc_reclasped.nd rfl (Or.inl rfl) (pe_callTy call_list_of rfl B.list bb_list (pa_cons (pv 0) pa_nil)))
      (pss_cons (ps_set (i := 3) sc_reclasped.nd rfl (Or.inl rfl) (pe_fn GR FR hr1 (pa_cons (pv 0) (pa_cons (pv 1) pa_nil))))
      (pss_cons (ps_if (pt_cmpR op_gt (pe_callB call_len_seq rfl B.len bb_len (pa_cons (pv 3) pa_nil)) pe_int (nomark _)) (pss_one (ps_expr (pe_fn GC FC hr1 (pa_cons (pv 2) (pa_cons (pe_ix ix_list (pv 3) pe_int (fun _ _ => rfl)) (pa_cons (pe_ix ix_list (pv 3) (pe_un un_neg pe_int) (fun _ _ => rfl)) pa_nil)))))) pss_nil)
      (pss_cons (ps_expr (pe_fn GC FC hr1 (pa_cons (pv 2) (pa_cons (pe_ix ix_tup (pv 1) pe_int (fun _ _ => rfl)) (pa_cons (pe_ix ix_tup (pv 1) pe_int (fun _ _ => rfl)) pa_nil)))))
      (pss_one (ps_ret (pe_callTy call_tuple_of rfl B.tuple bb_tuple (pa_cons (pv 2) pa_nil)))))))), ?_⟩
    refine ⟨_, rfl, _, rfl, a, d, n, ms, p, q, rfl, hS, W, hD, sp, sq, fun hf => ?_, kb⟩
    obtain ⟨x, y, rfl, rfl, hxy, hy, hne⟩ := hf.nat
    have k := kg hf
    rw [Int.toNat_natCast, Int.toNat_natCast] at k
    have hx : x < 2 * n := by omega
    refine ⟨_, rfl, a, _, rfl, .inr hS, fun l hl => ?_⟩
    have s1 : Same H (upd H l (.lst (Mir.nV ms))) := same_upd hl
    refine ⟨_, rfl, _, rfl, a, d, n, ms, x, y, rfl, s1.tup hS, W, SqT.of (s1 _ _ hD), hx, hy, fun lf H2 hlf s2 h2 => ?_⟩
    have hl2 := s2 _ _ (show upd H l (.lst (Mir.nV ms)) l = some (.lst (Mir.nV ms)) from upd_same)
    have nll : l ≠ lf := ne_of_none upd_same hlf
    have s12 := s1.trans s2
    have fin : ∀ (H3 : Hp) (m1 : List Nat), Same H H3 → H3 l = some (.lst (Mir.nV m1)) → m1.length = 2 * n → Mir.clasp m1 x y = Mir.beh ms x y →
        ((tSeq (tDrop (tCall Mir.spClaspE [] E0 (tCons (tVar 2) (tCons (tOp (rIxT K) (tVar 1) (tC (.int 0))) (tCons (tOp (rIxT K) (tVar 1) (tC (.int 1))) tNil))))) (tRet (fun σ H Q => ∃ v, σ[2]? = some (some v) ∧ ∃ p ys, [v] = [V.ref p] ∧ ((SqL K H p ys ∧ ∀ l, H l = none → Q (.ref l) (upd H l (.tup ys))) ∨ (SqT K H p ys ∧ Q (.ref p) H)))))
          { nx := fun _ H' => Q .non H', rt := Q } [some (.ref a), some (.ref d), some (.ref l), some (.ref lf)] H3) := fun H3 m1 s3 h3 hlen hbe => by
      refine ⟨_, rfl, _, rfl, d, _, _, _, rfl, rfl, SqT.of (s3 _ _ hD), rfl, _, rfl, d, _, _, _, rfl, rfl, SqT.of (s3 _ _ hD), rfl, l, m1, x, y, rfl, h3, by omega, by omega, fun H4 h4 o4 => ?_⟩
      rw [hbe] at h4
      refine ⟨_, rfl, l, _, rfl, .inl ⟨SqL.of h4, fun r hr' => ?_⟩⟩
      have s4 : Same H H4 := fun b o e => by
        rw [o4 b (ne_of_none e hl)]
        exact s3 b o e
      exact k r _ (s4.free hr') (s4.upd (s4.free hr')) upd_same
    have hcm := Mir.progBeh_eq W hx hy hne
    have hfl := Mir.frd_len ms x y
    unfold Mir.progBeh at hcm
    refine ⟨_, rfl, lf, _, rfl, .inl (SqL.of h2), _, _, rfl, rfl, _, rfl, ?_⟩
    rw [Mir.nV_len]
    refine ite2 (fun h1 => ?_) (fun h1 => ?_)
    · have h1 : 0 < (Mir.frd ms x y).length := by have z := of_decide_eq_true h1; omega
      simp only [h1, if_true] at hcm
      have mem : ∀ e ∈ Mir.frd ms x y, e < 2 * n := fun e he => by
        have lx := W.wk.lt x hx
        have ly := W.wk.lt y hy
        rw [Mir.frd_cases] at he
        split at he <;> split at he <;> simp at he <;> omega
      have hg : ∀ i, i < (Mir.frd ms x y).length → (Mir.frd ms x y).getD i 0 < 2 * n := fun i hi => mem _ (List.mem_of_getElem? (Mir.at0_get hi))
      have a0 : atI (Mir.nV (Mir.frd ms x y)) 0 = some (.int ((Mir.frd ms x y).getD 0 0 : Nat)) := atI_nat (j := 0) (Mir.nV_get (Mir.at0_get h1))
      have a1 : atI (Mir.nV (Mir.frd ms x y)) (-1) = some (.int ((Mir.frd ms x y).getD ((Mir.frd ms x y).length - 1) 0 : Nat)) := Mir.atI_nlast (by rw [List.getLast?_eq_getElem?]; exact Mir.at0_get (by omega))
      refine ⟨_, rfl, _, rfl, lf, _, _, _, rfl, rfl, SqL.of h2, a0, _, rfl, _, rfl, lf, _, _, _, rfl, rfl, SqL.of h2, a1, l, ms, _, _, rfl, hl2, by have := hg 0 h1; rw [W.len]; exact this, by have := hg ((Mir.frd ms x y).length - 1) (by omega); rw [W.len]; exact this, fun H3 h3 o3 => ?_⟩
      refine fin H3 _ (fun b o e => ?_) h3 (by rw [Mir.clasp_len, W.len]) hcm
      rw [o3 b (ne_of_none e hl)]
      exact s12 b o e
    · have h1 : ¬ 0 < (Mir.frd ms x y).length := fun z => h1 (decide_eq_true (by omega))
      simp only [h1, if_false] at hcm
      exact fin H2 ms s12 hl2 W.len hcm
end
section
variable {P : Program} {w : World} {K : PySem.W.Frag} {mg : Str → Option Value} {base : Heap}
theorem ok_chain_with {f : Addr} {fd : FuncData} (F : Fn K mg "chain_with" s_chain_with ["chains", "end"] f fd) : FnOk P w K mg base CX0 1 f fd ["chains", "end"] Mir.spChainW := by
  refine F.fn.ok sc_chain_with (fun vs H Q E h => ?_) (fun cdv A outer s H vs Q E hr h => ?_)
  · obtain ⟨l, rs, e, c, rfl, _⟩ := h
    rfl
  · obtain ⟨l, rs, e, c, rfl, hR, hn, hc, k⟩ := h
    refine ⟨_, (pss_cons (ps_set (i := 2) sc_chain_with.nd rfl (Or.inr rfl) (pe_op op_fdiv (pv 1) pe_int))
      (pss_cons (ps_comp (ix := 3) (NC := ["chain", "stave"]) sc_chain_with.nd rfl (Or.inl rfl) rfl (compOk2 (c := s.heap.objs.size + 1) (j := 2) rfl (by decide +kernel) (by decide +kernel) rfl rfl rfl rfl rfl) (pi_list (pv 0)) (fun _ _ _ _ => (pg_name (i := 0) (show (["chain", "stave"] : List Str).Nodup by decide +kernel) rfl (Or.inl rfl))) (fun _ _ _ _ => (pts_one (PW.pt (pw_or (pt_cmpR (op_in_seqK (K := K) rfl) (pe_op op_mul pe_int (pv 1)) (pv 0) (by with_unfolding_all rfl)) (pw_or1 (pt_cmpR (op_in_seqK (K := K) rfl) (pe_op op_add (pe_op op_mul pe_int (pv 1)) pe_int) (pv 0) (by with_unfolding_all rfl))))))) (fun _ _ _ _ => (pv 0)))
      (pss_one (ps_ret (pe_ix ix_list (pv 3) pe_int (fun _ _ => rfl)))))), ?_⟩
    refine ⟨_, rfl, _, _, rfl, rfl, ⟨by decide, by decide⟩, ?_⟩
    dsimp only
    rw [show (e : Int) / 2 = ((e / 2 : Nat) : Int) by omega]
    obtain ⟨ts, h1, h2, h3⟩ := id hR
    refine ⟨_, rfl, l, rfl, ⟨_, SqL.of h1⟩, fun D hD => comp_list (K := K) (a := l) (xs := ts.map V.ref) (fun i σ H2 => ∃ v : Option V, σ = [v, some (.int ((e / 2 : Nat) : Int))] ∧ Same H H2 ∧ Mir.RowsT H2 D ((rs.take i).filter (Mir.hasS e)))
      ⟨none, rfl, same_upd hD, Mir.RowsT.nil upd_same⟩ (fun i σ H2 _ h => by obtain ⟨_, _, s2, _⟩ := h; exact SqL.of (s2 _ _ h1)) ?_ ?_⟩
    · rintro i x σ H2 hx ⟨v, rfl, s2, hD2⟩
      obtain ⟨t, hti, rfl⟩ : ∃ t, ts[i]? = some t ∧ x = .ref t := by
        rw [List.getElem?_map] at hx
        obtain ⟨t, e1, e2⟩ := Option.map_eq_some_iff.mp hx
        exact ⟨t, e1, e2.symm⟩
      have hi : i < rs.length := by rw [← h2]; exact (List.getElem?_eq_some_iff.mp hti).1
      have hri := List.getElem?_eq_getElem hi
      have htt := s2 _ _ (h3 i t _ hti hri)
      generalize rs[i] = r at hri htt
      have fl : ((rs.take i).filter (Mir.hasS e)).length ≤ 200 := Nat.le_trans (List.length_filter_le _ _) (by rw [List.length_take]; omega)
      have e1 : (2 : Int) * ((e / 2 : Nat) : Int) = ((2 * (e / 2) : Nat) : Int) := by omega
      have e2 : (2 : Int) * ((e / 2 : Nat) : Int) + 1 = ((2 * (e / 2) + 1 : Nat) : Int) := by omega
      have fin : ∀ b : Bool, Mir.hasS e r = b → (if b = true then ∃ ys, H2 D = some (.lst ys) ∧ ys.length < sizeLine ∧ ∃ v : Option V, [some (.ref t), some (.int ((e / 2 : Nat) : Int))] = [v, some (.int ((e / 2 : Nat) : Int))] ∧ Same H (upd H2 D (.lst (ys ++ [.ref t]))) ∧ Mir.RowsT (upd H2 D (.lst (ys ++ [.ref t]))) D ((rs.take (i + 1)).filter (Mir.hasS e)) else ∃ v : Option V, [some (.ref t), some (.int ((e / 2 : Nat) : Int))] = [v, some (.int ((e / 2 : Nat) : Int))] ∧ Same H H2 ∧ Mir.RowsT H2 D ((rs.take (i + 1)).filter (Mir.hasS e))) := by
        intro b hb
        rw [Mir.take_snoc hri, List.filter_append]
        cases b with
        | true =>
          rw [if_pos rfl, List.filter_cons_of_pos hb, List.filter_nil]
          obtain ⟨xs, y1, y2, y3⟩ := hD2.snoc htt
          exact ⟨xs, y1, small1000 (by rw [y2]; omega), _, rfl, s2.upd hD, y3⟩
        | false =>
          rw [if_neg (by decide), List.filter_cons_of_neg (by rw [hb]; decide), List.filter_nil, List.append_nil]
          exact ⟨_, rfl, s2, hD2⟩
      refine ⟨_, rfl, _, _, rfl, rfl, .inl ⟨by decide, by decide⟩, _, rfl, t, Mir.nV r, rfl, .inr (SqT.of htt), rfl, Mir.flat_nats r, _, rfl, ?_⟩
      have i1 : inV (.int ((2 : Int) * ((e / 2 : Nat) : Int))) (Mir.nV r) = decide (2 * (e / 2) ∈ r) := by rw [e1]; exact Mir.inV_nats _ r
      have i2 : inV (.int ((2 : Int) * ((e / 2 : Nat) : Int) + 1)) (Mir.nV r) = decide (2 * (e / 2) + 1 ∈ r) := by rw [e2]; exact Mir.inV_nats _ r
      show (if inV (.int ((2 : Int) * ((e / 2 : Nat) : Int))) (Mir.nV r) = true then _ else _)
      rw [i1]
      by_cases c1 : 2 * (e / 2) ∈ r
      · rw [decide_eq_true c1]
        refine iteT ?_
        have z := fin true (by unfold Mir.hasS; rw [decide_eq_true c1]; rfl)
        exact iteT ⟨_, rfl, by rw [if_pos rfl] at z; exact z⟩
      · rw [decide_eq_false c1]
        refine iteF ?_
        refine ⟨_, rfl, _, _, rfl, rfl, .inl ⟨by decide, by decide⟩, _, _, rfl, rfl, _, rfl, t, Mir.nV r, rfl, .inr (SqT.of htt), rfl, Mir.flat_nats r, _, rfl, ?_⟩
        show (if inV (.int ((2 : Int) * ((e / 2 : Nat) : Int) + 1)) (Mir.nV r) = true then _ else _)
        rw [i2]
        by_cases c2 : 2 * (e / 2) + 1 ∈ r
        · rw [decide_eq_true c2]
          have z := fin true (by unfold Mir.hasS; rw [decide_eq_true c2, Bool.or_true])
          exact iteT ⟨_, rfl, by rw [if_pos rfl] at z; exact z⟩
        · rw [decide_eq_false c2]
          have z := fin false (by unfold Mir.hasS; rw [decide_eq_false c1, decide_eq_false c2]; rfl)
          exact iteF (by rw [if_neg (by decide)] at z; exact z)
    · rintro σ H2 ⟨v, rfl, s2, hD2⟩
      rw [List.length_map, h2, List.take_length] at hD2
      have hf : (rs.filter (Mir.hasS e))[0]? = some c := by rw [← List.head?_eq_getElem?, List.head?_filter]; exact hc
      obtain ⟨us, u1, u2, u3⟩ := hD2
      have ul : 0 < us.length := by rw [u2]; exact (List.getElem?_eq_some_iff.mp hf).1
      have hu0 := List.getElem?_eq_getElem ul
      refine ⟨_, rfl, D, _, _, _, rfl, rfl, SqL.of u1, atI_nat (j := 0) (show (us.map V.ref)[0]? = some (.ref us[0]) by rw [List.getElem?_map, hu0]; rfl), k _ _ s2 (u3 0 _ _ hu0 hf)⟩
end
section
seal L2.PSs L2.PS L2.PE L2.PT L2.PA
variable {P : Program} {w : World} {K : PySem.W.Frag} {mg : Str → Option Value} {base : Heap}
theorem ok_deed_kind {f f1 f2 f3 f4 C : Addr} {fd fd1 fd2 fd3 fd4 : FuncData} (B : Bl mg) (F : Fn K mg "deed_kind" s_deed_kind ["work", "deed"] f fd) (F_reclasped : Fn K mg "reclasped" s_reclasped ["work", "deed"] f1 fd1) (G_reclasped : FnOk P w K mg base (CXo P w) 3 f1 fd1 ["work", "deed"] (Mir.spRecl K C)) (F_rings_in : Fn K mg "rings_in" s_rings_in ["work"] f2 fd2) (G_rings_in : FnOk P w K mg base CX0 4 f2 fd2 ["work"] (Mir.spRings K))
    (F_rows_in : Fn K mg "rows_in" s_rows_in ["work"] f3 fd3) (G_rows_in : FnOk P w K mg base CX0 3 f3 fd3 ["work"] (Mir.spRows K)) (F_chain_with : Fn K mg "chain_with" s_chain_with ["chains", "end"] f4 fd4) : FnOk P w K mg base (CXo P w) 5 f fd ["work", "deed"] (Mir.spKind K C) := by
  have G_chain_with : FnOk P w K mg base CX0 1 f4 fd4 ["chains", "end"] Mir.spChainW := ok_chain_with F_chain_with
  refine F.fn.okX2 sc_deed_kind (fun vs H Q E h => ?_) (fun cdv A outer s H vs Q E hr h own => ?_)
  · obtain ⟨a, d, n, ms, p, q, rfl, _⟩ := h
    rfl
  · obtain ⟨a, d, n, ms, p, q, rfl, hS, W, hD, sp, sq, kg, kb⟩ := h
    have hu := hu_of hr
    refine ⟨_, (pss_cons (ps_set (i := 2) sc_deed_kind.nd rfl (Or.inl rfl) (pe_fnX G_reclasped F_reclasped (hr.mono (by decide)) (pa_cons (pv 0) (pa_cons (pv 1) pa_nil))))
      (pss_cons (ps_set (i := 3) sc_deed_kind.nd rfl (Or.inl rfl) (pe_ix ix_tup (pv 1) pe_int (fun _ _ => rfl)))
      (pss_cons (ps_set (i := 4) sc_deed_kind.nd rfl (Or.inl rfl) (pe_ix ix_tup (pv 1) pe_int (fun _ _ => rfl)))
      (pss_cons (ps_set (i := 5) sc_deed_kind.nd rfl (Or.inl rfl) (pe_fn G_rings_in F_rings_in (hr.mono (by decide)) (pa_cons (pv 0) pa_nil)))
      (pss_cons (ps_set (i := 6) sc_deed_kind.nd rfl (Or.inl rfl) (pe_op op_cat (pe_fn G_rows_in F_rows_in (hr.mono (by decide)) (pa_cons (pv 0) pa_nil)) (pv 5)))
      (pss_cons (ps_set (i := 7) sc_deed_kind.nd rfl (Or.inl rfl) (pe_fn G_chain_with F_chain_with (hr.mono (by decide)) (pa_cons (pv 6) (pa_cons (pv 3) pa_nil))))
      (pss_cons (ps_set (i := 8) sc_deed_kind.nd rfl (Or.inl rfl) (pe_fn G_chain_with F_chain_with (hr.mono (by decide)) (pa_cons (pv 6) (pa_cons (pv 4) pa_nil))))
      (pss_cons (ps_if (pt_cmpR op_eq (pv 3) (pv 4) (nomark _)) (pss_one (ps_ret (pe_ifExp (pt_cmpR (op_in_tups (K := K) rfl hu) (pv 7) (pv 5) (by with_unfolding_all rfl)) pe_str pe_str))) pss_nil)
      (pss_cons (ps_if (PW.pt (pw_and (pt_cmpR op_eq (pe_ix ix_tup (pv 0) (pv 3) (fun _ _ => rfl)) (pv 3) (nomark _)) (pw_and1 (pt_cmpR op_eq (pe_ix ix_tup (pv 0) (pv 4) (fun _ _ => rfl)) (pv 4) (nomark _))))) (pss_one (ps_ret (pe_ifExp (pt_cmpR (op_eq_tupD (Nat.lt_of_succ_lt hu)) (pv 7) (pv 8) (nomark _)) pe_str pe_str))) pss_nil)
      (ps_sem (R := fun D σ H7 => ∃ (x y : Nat) (b lg lc tl th : Addr) (cl ch : List Nat), σ = [some (.ref a), some (.ref d), some (.ref b), some (.int (x : Nat)), some (.int (y : Nat)), some (.ref lg), some (.ref lc), some (.ref tl), some (.ref th)] ∧ H7 b = some (.tup (Mir.nV (Mir.beh ms x y))) ∧ Mir.WorkL n (Mir.beh ms x y) ∧ Mir.RowsT H7 lg (Ch.ringsL n (Mir.at0 ms)) ∧ Mir.RowsT H7 lc (Mir.allC n ms) ∧ H7 tl = some (.tup (Mir.nV cl)) ∧ H7 th = some (.tup (Mir.nV ch)) ∧ ∀ (z : Str) (H8 : Hp), Same H7 H8 → z = (if cl = ch then (if (Mir.allC n (Mir.beh ms x y)).length = (Mir.allC n ms).length then ("turned" : Str) else "parted") else if cl ∈ Ch.ringsL n (Mir.at0 ms) ∨ ch ∈ Ch.ringsL n (Mir.at0 ms) then "taken" else "crossed") → D.rt (.str z) H8) fun D σ H7 hR => ?rest)))))))))), ?_⟩
    case rest =>
      obtain ⟨x, y, b, lg, lc, tl, th, cl, ch, rfl, hb, WB, rg, rc, hl, hh, kx⟩ := hR
      refine ⟨_, (pss_cons (ps_if (pt_cmpR (op_eq_tupD (Nat.lt_of_succ_lt hu)) (pv 7) (pv 8) (nomark _)) (pss_one (ps_ret (pe_ifExp (pt_cmpR op_eq (pe_callB call_len_seq rfl B.len bb_len (pa_cons (pe_op op_cat (pe_fn G_rows_in F_rows_in (hr.mono (by decide)) (pa_cons (pv 2) pa_nil)) (pe_fn G_rings_in F_rings_in (hr.mono (by decide)) (pa_cons (pv 2) pa_nil))) pa_nil)) (pe_callB call_len_seq rfl B.len bb_len (pa_cons (pv 6) pa_nil)) (nomark _)) pe_str pe_str))) pss_nil)
      (pss_one (ps_ret (pe_ifExp (PW.pt (pw_or (pt_cmpR (op_in_tups (K := K) rfl hu) (pv 7) (pv 5) (by with_unfolding_all rfl)) (pw_or1 (pt_cmpR (op_in_tups (K := K) rfl hu) (pv 8) (pv 5) (by with_unfolding_all rfl))))) pe_str pe_str)))), ?_⟩
      refine ⟨_, rfl, _, rfl, tl, th, Mir.rowI cl, Mir.rowI ch, rfl, rfl, by rw [Mir.rowI_V]; exact SqT.of hl, by rw [Mir.rowI_V]; exact SqT.of hh, _, rfl, ?_⟩
      show (if decide (Mir.rowI cl = Mir.rowI ch) = true then _ else _)
      rw [show decide (Mir.rowI cl = Mir.rowI ch) = decide (cl = ch) from decide_eq_decide.mpr Mir.rowI_eq]
      by_cases c3 : cl = ch
      · rw [decide_eq_true c3]
        refine iteT ⟨_, rfl, b, n, _, rfl, SqT.of hb, WB, fun lr H8 hlr s8 rr => ?_⟩
        refine ⟨_, rfl, b, n, _, rfl, SqT.of (s8 _ _ hb), WB, fun lg2 H9 hlg s9 rg2 => ?_⟩
        have rr9 := rr.same s9
        obtain ⟨ts, t1, t2, t3⟩ := id rr9
        obtain ⟨us, u1, u2, u3⟩ := id rg2
        have al := Mir.allC_len WB
        have al2 : ts.length + us.length = (Mir.allC n (Mir.beh ms x y)).length := by rw [t2, u2]; unfold Mir.allC; rw [List.length_append]
        refine ⟨lr, lg2, _, _, rfl, rfl, t1, u1, by rw [List.length_map, List.length_map]; exact Nat.le_trans (show ts.length + us.length ≤ 40 by omega) (by decide), fun lq hlq => ?_⟩
        have s10 : Same H9 (upd H9 lq (.lst (ts.map V.ref ++ us.map V.ref))) := same_upd hlq
        have h10 : upd H9 lq (.lst (ts.map V.ref ++ us.map V.ref)) lq = some (.lst (ts.map V.ref ++ us.map V.ref)) := upd_same
        generalize upd H9 lq (.lst (ts.map V.ref ++ us.map V.ref)) = H10 at s10 h10
        have s7 := (s8.trans s9).trans s10
        obtain ⟨vs, w1, w2, w3⟩ := rc.same s7
        refine ⟨lq, _, rfl, .inl (SqL.of h10), _, rfl, lc, _, rfl, .inl (SqL.of w1), rfl, _, rfl, ?_⟩
        have el : (((ts.map V.ref ++ us.map V.ref).length : Nat) : Int) = ((Mir.allC n (Mir.beh ms x y)).length : Nat) := by rw [List.length_append, List.length_map, List.length_map, al2]
        have er : (((vs.map V.ref).length : Nat) : Int) = ((Mir.allC n ms).length : Nat) := by rw [List.length_map, w2]
        rw [el, er]
        by_cases c4 : (Mir.allC n (Mir.beh ms x y)).length = (Mir.allC n ms).length
        · exact iteY (dInt (by rw [c4])) (kx _ _ s7 (by rw [if_pos c3, if_pos c4]))
        · exact iteN (dIntN (by omega)) (kx _ _ s7 (by rw [if_pos c3, if_neg c4]))
      · rw [decide_eq_false c3]
        refine iteF ?_
        have inR : ∀ {tt : Addr} {cc : List Nat} {Q' : VK}, H7 tt = some (.tup (Mir.nV cc)) → Q' (.bl (decide (cc ∈ Ch.ringsL n (Mir.at0 ms)))) H7 → rInT (.ref tt) (.ref lg) H7 Q' := fun {tt cc Q'} h7 q => by
          obtain ⟨us, u1, u2, u3⟩ := id rg
          refine ⟨tt, lg, us, Mir.rowI cc, (Ch.ringsL n (Mir.at0 ms)).map Mir.rowI, rfl, rfl, by rw [Mir.rowI_V]; exact h7, u1, by rw [List.length_map]; exact u2, fun i u r c1 c2 => ?_, ?_⟩
          · rw [List.getElem?_map] at c2
            obtain ⟨r2, c3, rfl⟩ := Option.map_eq_some_iff.mp c2
            rw [Mir.rowI_V]
            exact u3 i u r2 c1 c3
          · rw [show decide (Mir.rowI cc ∈ (Ch.ringsL n (Mir.at0 ms)).map Mir.rowI) = decide (cc ∈ Ch.ringsL n (Mir.at0 ms)) from decide_eq_decide.mpr Mir.rowI_mem]
            exact q
        refine ⟨_, rfl, _, rfl, inR hl ?_⟩
        refine ⟨_, rfl, ?_⟩
        by_cases c5 : cl ∈ Ch.ringsL n (Mir.at0 ms)
        · rw [decide_eq_true c5]
          exact iteT (iteT (kx _ _ (Same.refl _) (by rw [if_neg c3, if_pos (.inl c5)])))
        · rw [decide_eq_false c5]
          refine iteF ⟨_, rfl, _, rfl, inR hh ?_⟩
          refine ⟨_, rfl, ?_⟩
          by_cases c6 : ch ∈ Ch.ringsL n (Mir.at0 ms)
          · rw [decide_eq_true c6]
            exact iteT (kx _ _ (Same.refl _) (by rw [if_neg c3, if_pos (.inr c6)]))
          · rw [decide_eq_false c6]
            exact iteF (kx _ _ (Same.refl _) (by rw [if_neg c3, if_neg (fun z => z.elim c5 c6)]))
    refine ⟨_, rfl, _, rfl, a, d, n, ms, p, q, rfl, hS, W, hD, sp, sq, fun hf b H1 hb s1 h1 => ?_, kb⟩
    obtain ⟨x, y, rfl, rfl, hxy, hy, hne⟩ := hf.nat
    have k := kg hf
    rw [Int.toNat_natCast, Int.toNat_natCast] at k h1
    have hx : x < 2 * n := by omega
    have hD1 := s1 _ _ hD
    refine ⟨_, rfl, d, _, _, _, rfl, rfl, SqT.of hD1, rfl, ?_⟩
    refine ⟨_, rfl, d, _, _, _, rfl, rfl, SqT.of hD1, rfl, ?_⟩
    refine ⟨_, rfl, a, n, ms, rfl, s1.tup hS, W, fun lg H2 hlg s2 rg => ?_⟩
    have s12 := s1.trans s2
    refine ⟨_, rfl, a, n, ms, rfl, s12.tup hS, W, fun lr H3 hlr s3 rr => ?_⟩
    have s13 := s12.trans s3
    have rg3 := rg.same s3
    obtain ⟨ts, t1, t2, t3⟩ := id rr
    obtain ⟨us, u1, u2, u3⟩ := id rg3
    have al := Mir.allC_len W
    have al2 : ts.length + us.length ≤ 40 := by rw [t2, u2]; unfold Mir.allC at al; rwa [List.length_append] at al
    refine ⟨_, rfl, lr, lg, _, _, rfl, rfl, t1, u1, by rw [List.length_map, List.length_map]; exact Nat.le_trans al2 (by decide), fun lc hlc => ?_⟩
    have rc := rr.app rg3 t1 u1 hlc
    have s4 : Same H3 (upd H3 lc (.lst (ts.map V.ref ++ us.map V.ref))) := same_upd hlc
    generalize upd H3 lc (.lst (ts.map V.ref ++ us.map V.ref)) = H4 at rc s4
    have rc : Mir.RowsT H4 lc (Mir.allC n ms) := rc
    obtain ⟨cl, hcl⟩ := Mir.chain_there W hx
    obtain ⟨ch, hch⟩ := Mir.chain_there W hy
    refine ⟨_, rfl, _, rfl, lc, _, x, cl, rfl, rc, by omega, hcl, fun tl H5 s5 h5 => ?_⟩
    refine ⟨_, rfl, _, rfl, lc, _, y, ch, rfl, rc.same s5, by omega, hch, fun th H6 s6 h6 => ?_⟩
    have s16 := ((s13.trans s4).trans s5).trans s6
    have s36 := (s4.trans s5).trans s6
    have h5' := s6 _ _ h5
    have ecl : Mir.chainF (Mir.allC n ms) x = cl := by unfold Mir.chainF; rw [hcl]; rfl
    have ech : Mir.chainF (Mir.allC n ms) y = ch := by unfold Mir.chainF; rw [hch]; rfl
    have inR : ∀ {H7 : Hp} {tt : Addr} {cc : List Nat} {Q' : VK}, Same H6 H7 → H7 tt = some (.tup (Mir.nV cc)) → Q' (.bl (decide (cc ∈ Ch.ringsL n (Mir.at0 ms)))) H7 → rInT (.ref tt) (.ref lg) H7 Q' := fun {H7 tt cc Q'} s7 h7 q => by
      refine ⟨tt, lg, us, Mir.rowI cc, (Ch.ringsL n (Mir.at0 ms)).map Mir.rowI, rfl, rfl, by rw [Mir.rowI_V]; exact h7, s7 _ _ (s36 _ _ u1), by rw [List.length_map]; exact u2, fun i u r c1 c2 => ?_, ?_⟩
      · rw [List.getElem?_map] at c2
        obtain ⟨r2, c3, rfl⟩ := Option.map_eq_some_iff.mp c2
        rw [Mir.rowI_V]
        exact s7 _ _ (s36 _ _ (u3 i u r2 c1 c3))
      · rw [show decide (Mir.rowI cc ∈ (Ch.ringsL n (Mir.at0 ms)).map Mir.rowI) = decide (cc ∈ Ch.ringsL n (Mir.at0 ms)) from decide_eq_decide.mpr Mir.rowI_mem]
        exact q
    have kk : ∀ {H7 : Hp} {z : Str}, Same H6 H7 → Mir.kindF n ms x y = z → Q (.str z) H7 := fun s7 e => by rw [← e]; exact k _ (s16.trans s7)
    refine ⟨_, rfl, _, rfl, rfl, _, rfl, ?_⟩
    by_cases c1 : x = y
    · refine iteY (dInt (by rw [c1])) ?_
      refine ⟨_, rfl, _, rfl, inR (Same.refl _) h5' ?_⟩
      refine ⟨_, rfl, ?_⟩
      by_cases c2 : cl ∈ Ch.ringsL n (Mir.at0 ms)
      · rw [decide_eq_true c2]
        exact iteT (kk (Same.refl _) (by unfold Mir.kindF; rw [if_pos c1, ecl, if_pos c2]))
      · rw [decide_eq_false c2]
        exact iteF (kk (Same.refl _) (by unfold Mir.kindF; rw [if_pos c1, ecl, if_neg c2]))
    · refine iteN (dIntN (by omega)) ?_
      have eqc : ∀ {H7 : Hp} {Q' : VK}, Same H6 H7 → Q' (.bl (decide (cl = ch))) H7 → rTupD K false (.ref tl) (.ref th) H7 Q' := fun {H7 Q'} s7 q => by
        refine ⟨tl, th, Mir.rowI cl, Mir.rowI ch, rfl, rfl, by rw [Mir.rowI_V]; exact SqT.of (s7 _ _ h5'), by rw [Mir.rowI_V]; exact SqT.of (s7 _ _ h6), ?_⟩
        show Q' (.bl (decide (Mir.rowI cl = Mir.rowI ch))) H7
        rw [show decide (Mir.rowI cl = Mir.rowI ch) = decide (cl = ch) from decide_eq_decide.mpr Mir.rowI_eq]
        exact q
      have hS6 := s16.tup hS
      refine ⟨_, rfl, _, rfl, a, _, _, _, rfl, rfl, hS6, W.ix hx, _, rfl, rfl, _, rfl, ?_⟩
      by_cases c2 : Mir.at0 ms x = x ∧ Mir.at0 ms y = y
      · refine iteY (dInt (by rw [c2.1])) ?_
        refine ⟨_, rfl, _, rfl, a, _, _, _, rfl, rfl, hS6, W.ix hy, _, rfl, rfl, _, rfl, iteY (dInt (by rw [c2.2])) ?_⟩
        refine ⟨_, rfl, _, rfl, eqc (Same.refl _) ?_⟩
        refine ⟨_, rfl, ?_⟩
        by_cases c3 : cl = ch
        · rw [decide_eq_true c3]
          exact iteT (kk (Same.refl _) (by unfold Mir.kindF; rw [if_neg c1, if_pos c2, ecl, ech, if_pos c3]))
        · rw [decide_eq_false c3]
          exact iteF (kk (Same.refl _) (by unfold Mir.kindF; rw [if_neg c1, if_pos c2, ecl, ech, if_neg c3]))
      · have WBx := Mir.beh_work W (p := x) (q := y) hx hy hne
        have rest : ∀ (z : Str) (H8 : Hp), Same H6 H8 → z = (if cl = ch then (if (Mir.allC n (Mir.beh ms x y)).length = (Mir.allC n ms).length then ("turned" : Str) else "parted") else if cl ∈ Ch.ringsL n (Mir.at0 ms) ∨ ch ∈ Ch.ringsL n (Mir.at0 ms) then "taken" else "crossed") → Q (.str z) H8 := fun z H8 s8 e => kk s8 (by unfold Mir.kindF; rw [if_neg c1, if_neg c2, ecl, ech, e])
        have sm := (s2.trans s3).trans s36
        by_cases c2a : Mir.at0 ms x = x
        · refine iteY (dInt (by rw [c2a])) ?_
          refine ⟨_, rfl, _, rfl, a, _, _, _, rfl, rfl, hS6, W.ix hy, _, rfl, rfl, _, rfl, iteN (dIntN (fun z => c2 ⟨c2a, by omega⟩)) ?_⟩
          exact ⟨x, y, b, lg, lc, tl, th, cl, ch, rfl, sm _ _ h1, WBx, rg3.same s36, rc.same (s5.trans s6), h5', h6, rest⟩
        · refine iteN (dIntN (by omega)) (iteF ?_)
          exact ⟨x, y, b, lg, lc, tl, th, cl, ch, rfl, sm _ _ h1, WBx, rg3.same s36, rc.same (s5.trans s6), h5', h6, rest⟩
end
section
variable {P : Program} {w : World} {K : PySem.W.Frag} {mg : Str → Option Value} {base : Heap}
theorem ok_law_cell {f : Addr} {fd : FuncData} (B : Bl mg) (F : Fn K mg "_law_cell" s_law_cell ["script", "k"] f fd) : FnOk P w K mg base CX0 1 f fd ["script", "k"] (Mir.spCellAt K) := by
  refine F.fn.ok sc_law_cell (fun vs H Q E h => ?_) (fun cdv A outer s H vs Q E hr h => ?_)
  · obtain ⟨a, ns, k, rfl, _⟩ := h
    rfl
  · obtain ⟨a, ns, k, rfl, hS, q⟩ := h
    refine ⟨_, pss_cons (ps_if (pt_cmpR op_lt (pv 1) (pe_callB call_len_seq rfl B.len bb_len (pa_cons (pv 0) pa_nil)) (nomark _)) (pss_one (ps_ret (pe_ix ix_list (pv 0) (pv 1) (fun _ _ => rfl)))) pss_nil) (pss_one (ps_ret pe_int)), ?_⟩
    refine ⟨_, rfl, _, rfl, a, _, rfl, .inl hS, _, _, rfl, rfl, _, rfl, ?_⟩
    refine ite2 (fun h1 => ?_) (fun h1 => ?_)
    · have h1 := of_decide_eq_true h1
      rw [List.length_map] at h1
      have hk : k < ns.length := by omega
      have e : (ns.map V.int)[k]? = some (.int ns[k]) := by rw [List.getElem?_map, List.getElem?_eq_getElem hk]; rfl
      exact ⟨_, rfl, _, rfl, a, _, _, _, rfl, rfl, hS, atI_nat e, q _⟩
    · exact q 0
end
section
variable {P : Program} {w : World} {K : PySem.W.Frag} {mg : Str → Option Value} {base : Heap}
theorem ok_law_number {f fC : Addr} {fd fdC : FuncData} (B : Bl mg) (F : Fn K mg "_law_number" s_law_number ["script", "k"] f fd) (FC : Fn K mg "_law_cell" s_law_cell ["script", "k"] fC fdC) : FnOk P w K mg base CX0 2 f fd ["script", "k"] (Mir.spLawNumber K) := by
  have GC : FnOk P w K mg base CX0 1 fC fdC ["script", "k"] (Mir.spCellAt K) := ok_law_cell B FC
  refine F.fn.ok sc_law_number (fun vs H Q E h => ?_) (fun cdv A outer s H vs Q E hr h => ?_)
  · obtain ⟨a, ns, k, rfl, _⟩ := h
    rfl
  · obtain ⟨a, ns, k, rfl, hS, hk, q⟩ := h
    refine ⟨_, pss_cons (ps_if (pt_cmpR op_lt (pv 1) (pe_callB call_len_seq rfl B.len bb_len (pa_cons (pv 0) pa_nil)) (nomark _)) (pss_one (ps_ret (pe_ix ix_list (pv 0) (pv 1) (fun _ _ => rfl)))) pss_nil)
      (pss_cons (ps_set (i := 2) sc_law_number.nd rfl (Or.inl rfl) (pe_op op_mod (pe_fn GC FC hr (pa_cons (pv 0) (pa_cons (pe_op op_mod (pv 1) (pe_callB (call_max2 rfl) rfl B.max bb_max (pa_cons pe_int (pa_cons (pe_callB call_len_seq rfl B.len bb_len (pa_cons (pv 0) pa_nil)) pa_nil)))) pa_nil))) pe_int))
      (pss_one (ps_ret (pe_op op_mod (pe_op op_mul (pe_op op_add (pe_op op_add (pe_op op_add (pe_op op_mul (pv 2) pe_int) (pe_op op_mul (pe_op op_mul (pv 1) (pv 1)) pe_int)) (pe_op op_mul pe_int (pv 1))) pe_int) (pe_op op_add (pe_op op_mul (pv 1) (pv 1)) pe_int)) pe_int)))), ?_⟩
    refine ⟨_, rfl, _, rfl, a, _, rfl, .inl hS, _, _, rfl, rfl, _, rfl, ?_⟩
    refine ite2 (fun h1 => ?_) (fun h1 => ?_)
    · have h1 := of_decide_eq_true h1
      rw [List.length_map] at h1
      have hk : k < ns.length := by omega
      have e : (ns.map V.int)[k]? = some (.int ns[k]) := by rw [List.getElem?_map, List.getElem?_eq_getElem hk]; rfl
      exact ⟨_, rfl, _, rfl, a, _, _, _, rfl, rfl, hS, atI_nat e, q _⟩
    · refine ⟨_, rfl, _, rfl, _, rfl, a, _, rfl, .inl hS, _, _, rfl, ?_⟩
      generalize hm : (if (((ns.map V.int).length : Nat) : Int) > 1 then (((ns.map V.int).length : Nat) : Int) else 1) = m
      have hm0 : 0 < m := by rw [← hm]; split <;> omega
      refine ⟨_, _, rfl, rfl, hm0, ?_⟩
      have z0 := Int.emod_nonneg (k : Int) (show m ≠ 0 by omega)
      obtain ⟨r, hr'⟩ : ∃ r : Nat, (k : Int) % m = r := ⟨((k : Int) % m).toNat, by omega⟩
      dsimp only
      rw [hr']
      refine ⟨a, ns, r, rfl, hS, fun c => ?_⟩
      have c0 := Int.emod_nonneg c (show (1000000007 : Int) ≠ 0 by decide)
      have c1 := Int.emod_lt_of_pos c (show (0 : Int) < 1000000007 by decide)
      have k0 : (0 : Int) ≤ (k : Int) * k := by exact_mod_cast Nat.zero_le (k * k)
      have k1 : (k : Int) * k ≤ 1000000 := by
        have z : k * k ≤ 1000 * 1000 := Nat.mul_le_mul hk hk
        have z2 : ((k * k : Nat) : Int) ≤ 1000000 := by omega
        rw [Int.natCast_mul] at z2
        exact z2
      refine ⟨_, _, rfl, rfl, (by show (0 : Int) < 1000000007; decide), ?_⟩
      refine ⟨_, rfl, _, _, rfl, rfl, .inr ⟨by decide, by decide⟩, _, rfl, _, rfl, _, _, rfl, rfl, .inl ⟨by omega, by omega⟩, _, _, rfl, rfl, .inr ⟨by decide, by decide⟩, _, _, rfl, rfl, _, rfl, _, _, rfl, rfl, .inl ⟨by decide, by decide⟩, _, _, rfl, rfl, _, _, rfl, rfl, ?_⟩
      refine ⟨_, rfl, _, rfl, _, _, rfl, rfl, .inl ⟨by omega, by omega⟩, _, _, rfl, rfl, _, _, rfl, rfl, .inr ⟨?_, ?_⟩, _, _, rfl, rfl, (by show (0 : Int) < 2147483647; decide), q _⟩
      · omega
      · omega
end
section
variable {P : Program} {w : World} {K : PySem.W.Frag} {mg : Str → Option Value} {base : Heap}
theorem ok_law_work {f fC fN : Addr} {fd fdC fdN : FuncData} (B : Bl mg) (F : Fn K mg "_law_work" s_law_work ["script", "at", "staves"] f fd) (FC : Fn K mg "_law_cell" s_law_cell ["script", "k"] fC fdC) (FN : Fn K mg "_law_number" s_law_number ["script", "k"] fN fdN) : FnOk P w K mg base CX0 3 f fd ["script", "at", "staves"] (Mir.spLawWork K) := by
  have GN : FnOk P w K mg base CX0 2 fN fdN ["script", "k"] (Mir.spLawNumber K) := ok_law_number B FN FC
  refine F.fn.ok sc_law_work (fun vs H Q E h => ?_) (fun cdv A outer s H vs Q E hr h => ?_)
  · obtain ⟨a, ns, k, n, rfl, _⟩ := h
    rfl
  · obtain ⟨a, ns, at', n, rfl, hS, hat, hn, k⟩ := h
    refine ⟨_, pss_cons (ps_set (i := 3) sc_law_work.nd rfl (Or.inl rfl) (pe_callTy (call_list_rng rfl) rfl B.list bb_list (pa_cons (pe_callTy call_rng1 rfl B.range bb_range (pa_cons (pe_op op_mul pe_int (pv 2)) pa_nil)) pa_nil)))
      (pss_cons (ps_set (i := 4) sc_law_work.nd rfl (Or.inl rfl) (pe_callTy (call_list_rng rfl) rfl B.list bb_list (pa_cons (pe_callTy call_rng1 rfl B.range bb_range (pa_cons (pe_op op_mul pe_int (pv 2)) pa_nil)) pa_nil)))
      (pss_cons (ps_while PassesOwn.never (pt_cmpR op_gt (pe_callB call_len_seq rfl B.len bb_len (pa_cons (pv 3) pa_nil)) pe_int (nomark _))
        (pss_cons (ps_set (i := 5) sc_law_work.nd rfl (Or.inl rfl) (pe_bm PySem.F.plainAttrs_list PySem.F.slot_list_pop PySem.F.type_list_pop mt_popAt (pv 3) (pa_cons pe_int pa_nil)))
        (pss_cons (ps_set (i := 6) sc_law_work.nd rfl (Or.inl rfl) (pe_op op_mod (pe_fn GN FN hr (pa_cons (pv 0) (pa_cons (pv 1) pa_nil))) (pe_op op_add (pe_callB call_len_seq rfl B.len bb_len (pa_cons (pv 3) pa_nil)) pe_int)))
        (pss_cons (ps_set (i := 1) sc_law_work.nd rfl (Or.inl rfl) (pe_op op_add (pv 1) pe_int))
        (pss_one (ps_if (pt_cmpR op_lt (pv 6) (pe_callB call_len_seq rfl B.len bb_len (pa_cons (pv 3) pa_nil)) (nomark _))
          (pss_cons (ps_set (i := 7) sc_law_work.nd rfl (Or.inl rfl) (pe_bm PySem.F.plainAttrs_list PySem.F.slot_list_pop PySem.F.type_list_pop mt_popAt (pv 3) (pa_cons (pv 6) pa_nil)))
          (pss_cons (ps_asg (pv 7) (pg_sub (pv 4) (pv 5) set_list))
          (pss_one (ps_asg (pv 5) (pg_sub (pv 4) (pv 7) set_list))))) pss_nil))))))
      (pss_one (ps_ret (pe_callTy call_tuple_of rfl B.tuple bb_tuple (pa_cons (pv 4) pa_nil)))))), ?_⟩
    have e0 : rngV 0 (2 * (n : Int) - 0).toNat = Mir.nV (List.range (2 * n)) := by
      rw [show (2 * (n : Int) - 0).toNat = 2 * n by omega]
      exact Mir.rngV_nV _
    refine ⟨_, rfl, _, _, rfl, rfl, .inl ⟨by decide, by decide⟩, _, rfl, fun p hp => ⟨p, 0, _, rfl, upd_same, ⟨by omega, by omega, by omega, by omega⟩, by omega, fun ll hll => ?_⟩⟩
    rw [e0]
    have s1 : Same H (upd (upd H p (.rng 0 (2 * (n : Int)))) ll (.lst (Mir.nV (List.range (2 * n))))) := (same_upd hp).trans (same_upd hll)
    have g1 : upd (upd H p (.rng 0 (2 * (n : Int)))) ll (.lst (Mir.nV (List.range (2 * n)))) ll = some (.lst (Mir.nV (List.range (2 * n)))) := upd_same
    have nl : H ll = none := (same_upd hp).free hll
    generalize upd (upd H p (.rng 0 (2 * (n : Int)))) ll (.lst (Mir.nV (List.range (2 * n)))) = H1 at s1 g1
    refine ⟨_, rfl, _, _, rfl, rfl, .inl ⟨by decide, by decide⟩, _, rfl, fun p2 hp2 => ⟨p2, 0, _, rfl, upd_same, ⟨by omega, by omega, by omega, by omega⟩, by omega, fun lm hlm => ?_⟩⟩
    rw [e0]
    have s2 : Same H1 (upd (upd H1 p2 (.rng 0 (2 * (n : Int)))) lm (.lst (Mir.nV (List.range (2 * n))))) := (same_upd hp2).trans (same_upd hlm)
    have g2 : upd (upd H1 p2 (.rng 0 (2 * (n : Int)))) lm (.lst (Mir.nV (List.range (2 * n)))) lm = some (.lst (Mir.nV (List.range (2 * n)))) := upd_same
    have nm1 : H1 lm = none := (same_upd hp2).free hlm
    generalize upd (upd H1 p2 (.rng 0 (2 * (n : Int)))) lm (.lst (Mir.nV (List.range (2 * n)))) = H2 at s2 g2
    have nm : H lm = none := s1.free nm1
    have nlm : ll ≠ lm := ne_of_none g1 nm1
    have g3 := s2 _ _ g1
    refine while_by (fun σ H3 => ∃ (v5 v6 v7 : Option V) (lf ms : List Nat) (j : Nat), σ = [some (.ref a), some (.int j), some (.int n), some (.ref ll), some (.ref lm), v5, v6, v7] ∧ Same H H3 ∧ H3 ll = some (.lst (Mir.nV lf)) ∧ H3 lm = some (.lst (Mir.nV ms)) ∧
        Mir.WorkL n ms ∧ lf.Nodup ∧ (∀ x ∈ lf, x < 2 * n ∧ Mir.at0 ms x = x) ∧ lf.length ≤ 2 * n ∧ j + lf.length ≤ at' + 2 * n)
      (fun σ H3 => match H3 ll with | some (.lst ys) => ys.length | _ => 0)
      ⟨none, none, none, List.range (2 * n), List.range (2 * n), at', rfl, s1.trans s2, g3, g2, Mir.range_work hn, List.nodup_range, fun x hx => ?_, by rw [List.length_range]; omega, by rw [List.length_range]; omega⟩ ?_ ?_
    · have hx := List.mem_range.mp hx
      exact ⟨hx, by unfold Mir.at0; simp [List.getD, List.getElem?_range hx]⟩
    · rintro σ H3 ⟨v5, v6, v7, lf, ms, j, rfl, s3, h1, h2, W, nd, hm, hl1, hl2⟩
      refine ⟨_, rfl, ll, _, rfl, .inl (SqL.of h1), _, _, rfl, rfl, _, rfl, ?_⟩
      rw [Mir.nV_len]
      refine ite2 (fun c1 => ?_) (fun c1 => ?_)
      · have c1 := of_decide_eq_true c1
        obtain ⟨x, r, rfl⟩ : ∃ x r, lf = x :: r := by
          cases lf with
          | nil => exact absurd c1 (by simp)
          | cons x r => exact ⟨x, r, rfl⟩
        obtain ⟨hx, hxl⟩ := hm x List.mem_cons_self
        rw [List.length_cons] at hl1 hl2
        refine ⟨_, rfl, .inl ⟨rfl, _, SqL.of h1⟩, ll, _, _, 0, _, rfl, rfl, h1, by decide, by decide, (ixN_seq (ixN_of (by decide) (by rw [Mir.nV_len]; simp))).1, rfl, ?_⟩
        have e1 : (Mir.nV (x :: r)).eraseIdx 0 = Mir.nV r := rfl
        rw [e1]
        have s4 : Same H (upd H3 ll (.lst (Mir.nV r))) := s3.upd nl
        have k1 : upd H3 ll (.lst (Mir.nV r)) ll = some (.lst (Mir.nV r)) := upd_same
        have k2 : upd H3 ll (.lst (Mir.nV r)) lm = some (.lst (Mir.nV ms)) := by rw [upd_ne nlm.symm]; exact h2
        generalize upd H3 ll (.lst (Mir.nV r)) = H4 at s4 k1 k2
        refine ⟨_, rfl, _, rfl, a, ns, j, rfl, s4.seq hS, by omega, fun c => ?_⟩
        have lpos : (0 : Int) < ((Mir.nV r).length : Nat) + 2 := by omega
        refine ⟨_, rfl, ll, _, rfl, .inl (SqL.of k1), _, _, rfl, rfl, _, _, rfl, rfl, lpos, ?_⟩
        have q0 := Int.emod_nonneg c (show (((Mir.nV r).length : Nat) : Int) + 2 ≠ 0 by omega)
        have q1 := Int.emod_lt_of_pos c lpos
        obtain ⟨g, hg⟩ : ∃ g : Nat, c % ((((Mir.nV r).length : Nat) : Int) + 2) = g := ⟨(c % ((((Mir.nV r).length : Nat) : Int) + 2)).toNat, by omega⟩
        dsimp only
        rw [hg]
        refine ⟨_, rfl, _, _, rfl, rfl, ?_⟩
        have ej : ((j : Nat) : Int) + 1 = ((j + 1 : Nat) : Int) := by omega
        dsimp only
        rw [ej]
        have mu : (match H3 ll with | some (.lst ys) => ys.length | _ => 0) = r.length + 1 := by rw [h1]; show (Mir.nV (x :: r)).length = _; rw [Mir.nV_len]; rfl
        obtain ⟨nx, nr⟩ := List.nodup_cons.mp nd
        refine ⟨_, rfl, _, rfl, ll, _, rfl, .inl (SqL.of k1), _, _, rfl, rfl, _, rfl, ?_⟩
        refine ite2 (fun c2 => ?_) (fun c2 => ?_)
        · have c2 := of_decide_eq_true c2
          rw [Mir.nV_len] at c2
          have hgl : g < r.length := by omega
          have hy : r[g]? = some r[g] := List.getElem?_eq_getElem hgl
          have hym : r[g] ∈ r := List.getElem_mem hgl
          generalize r[g] = y at hy hym
          obtain ⟨hyl, hyy⟩ := hm y (List.mem_cons_of_mem _ hym)
          refine ⟨_, rfl, .inl ⟨rfl, _, SqL.of k1⟩, _, rfl, ll, _, _, g, _, rfl, rfl, k1, by omega, by omega, (ixN_seq (ixN_of (Int.natCast_nonneg _) (by rw [Mir.nV_len]; omega))).1, Mir.nV_get hy, ?_⟩
          have e2 : (Mir.nV r).eraseIdx g = Mir.nV (r.eraseIdx g) := Mir.map_erase _ _ _
          rw [e2]
          have k3 : upd H4 ll (.lst (Mir.nV (r.eraseIdx g))) lm = some (.lst (Mir.nV ms)) := by rw [upd_ne nlm.symm]; exact k2
          refine ⟨_, rfl, _, rfl, _, rfl, lm, _, _, _, rfl, rfl, k3, ixN_of (Int.natCast_nonneg _) (by rw [Mir.nV_len, W.len]; omega), ?_⟩
          rw [Int.toNat_natCast, Mir.nV_set]
          refine ⟨_, rfl, _, rfl, _, rfl, lm, _, _, _, rfl, rfl, upd_same, ixN_of (Int.natCast_nonneg _) (by rw [Mir.nV_len, List.length_set, W.len]; omega), ?_⟩
          rw [Int.toNat_natCast, Mir.nV_set]
          have lr : (r.eraseIdx g).length = r.length - 1 := List.length_eraseIdx_of_lt hgl
          have sub : ∀ z ∈ r.eraseIdx g, z ∈ r := fun z hz => List.mem_of_mem_eraseIdx hz
          have nyr : y ∉ r.eraseIdx g := Mir.nodup_gone nr hgl hy
          refine ⟨⟨_, _, _, r.eraseIdx g, Mir.clasp ms x y, j + 1, rfl, ((s4.upd nl).upd nm).upd nm, ?_, upd_same, Mir.clasp_work W hx hyl hxl hyy, nr.eraseIdx g, fun z hz => ?_, by omega, by omega⟩, ?_⟩
          · rw [upd_ne nlm, upd_ne nlm, upd_same]
          · obtain ⟨z1, z2⟩ := hm z (List.mem_cons_of_mem _ (sub z hz))
            refine ⟨z1, ?_⟩
            unfold Mir.clasp
            have zx : z ≠ x := fun e => nx (e ▸ sub z hz)
            have zy : z ≠ y := fun e => nyr (e ▸ hz)
            rw [Mir.at0_set', Mir.at0_set', if_neg (by omega), if_neg (by omega)]
            exact z2
          · show (match (upd _ lm _) ll with | some (.lst ys) => ys.length | _ => 0) < (match H3 ll with | some (.lst ys) => ys.length | _ => 0)
            rw [mu, upd_ne nlm, upd_ne nlm, upd_same]
            show (Mir.nV (r.eraseIdx g)).length < _
            rw [Mir.nV_len]
            omega
        · refine ⟨⟨_, _, _, r, ms, j + 1, rfl, s4, k1, k2, W, nr, fun z hz => hm z (List.mem_cons_of_mem _ hz), by omega, by omega⟩, ?_⟩
          show (match H4 ll with | some (.lst ys) => ys.length | _ => 0) < (match H3 ll with | some (.lst ys) => ys.length | _ => 0)
          rw [mu, k1]
          show (Mir.nV r).length < _
          rw [Mir.nV_len]
          omega
      · refine ⟨_, rfl, lm, _, rfl, .inl ⟨SqL.of h2, fun t ht => k t _ ms (s3.free ht) (s3.upd (s3.free ht)) W upd_same⟩⟩
    · rintro σ H3 R R' hR ⟨v, e1, p, ys, e2, e3, i, j, e4, e5, b, e6, h⟩
      exact ⟨v, e1, p, ys, e2, e3, i, j, e4, e5, b, e6, hR _ _ h⟩
end
section
variable {P : Program} {w : World} {K : PySem.W.Frag} {mg : Str → Option Value} {base : Heap}
theorem ok_law_fits {f : Addr} {fd : FuncData} (B : Bl mg) (F : Fn K mg "_law_fits" s_law_fits ["work", "one", "two"] f fd) : FnOk P w K mg base CX0 1 f fd ["work", "one", "two"] (Mir.spLawFits K) := by
  refine F.fn.ok sc_law_fits (fun vs H Q E h => ?_) (fun cdv A outer s H vs Q E hr h => ?_)
  · obtain ⟨a, n, ms, p, q, rfl, _⟩ := h
    rfl
  · obtain ⟨a, n, ms, p, q, rfl, hS, W, k⟩ := h
    refine ⟨_, pss_cons (ps_if (PW.pt (pw_or (pt_cmpR op_lt (pv 1) pe_int (nomark _)) (pw_or (pt_cmpR op_gt (pv 1) (pv 2) (nomark _)) (pw_or1 (pt_cmpR op_ge (pv 2) (pe_callB call_len_seq rfl B.len bb_len (pa_cons (pv 0) pa_nil)) (nomark _)))))) (pss_one (ps_ret pe_bl)) pss_nil)
      (pss_one (ps_ret (pe_cmpR op_ne (pe_ix ix_tup (pv 0) (pv 1) (fun _ _ => rfl)) (pv 2) (nomark _)))), ?_⟩
    have no : ¬ Mir.Fits n ms p q → Q (.bl false) H := fun z => by rw [decide_eq_false z] at k; exact k
    refine ⟨_, rfl, _, _, rfl, rfl, _, rfl, ite2 (fun h1 => ?_) (fun h1 => ?_)⟩
    · have h1 : p < 0 := of_decide_eq_true h1
      exact no fun z => by have := z.1; omega
    · have h1 : ¬ p < 0 := fun z => h1 (decide_eq_true z)
      refine ⟨_, rfl, _, rfl, _, _, rfl, rfl, _, rfl, ite2 (fun h2 => ?_) (fun h2 => ?_)⟩
      · have h2 : q < p := of_decide_eq_true h2
        exact no fun z => by have := z.2.1; omega
      · have h2 : ¬ q < p := fun z => h2 (decide_eq_true z)
        refine ⟨_, rfl, _, rfl, a, _, rfl, .inr hS, _, _, rfl, rfl, _, rfl, ite2 (fun h3 => ?_) (fun h3 => ?_)⟩
        · have h3 : ((Mir.nV ms).length : Nat) ≤ q := of_decide_eq_true h3
          rw [Mir.nV_len, W.len] at h3
          exact no fun z => by have := z.2.2.1; omega
        · have h3 : ¬ ((Mir.nV ms).length : Nat) ≤ q := fun z => h3 (decide_eq_true z)
          rw [Mir.nV_len, W.len] at h3
          have hx : p = ((p.toNat : Nat) : Int) := by omega
          have hix := W.ix (e := p.toNat) (by omega)
          rw [← hx] at hix
          refine ⟨_, rfl, _, rfl, a, _, _, _, rfl, rfl, hS, hix, _, rfl, rfl, ?_⟩
          have e : decide (Mir.Fits n ms p q) = !decide (V.int ((Mir.at0 ms p.toNat : Nat) : Int) = V.int q) := by
            by_cases c : ((Mir.at0 ms p.toNat : Nat) : Int) = q
            · rw [decide_eq_false (fun z : Mir.Fits n ms p q => z.2.2.2 c), decide_eq_true (congrArg V.int c)]; rfl
            · rw [decide_eq_true (show Mir.Fits n ms p q from ⟨by omega, by omega, by omega, c⟩), decide_eq_false (fun z => c (by injection z))]; rfl
          rw [e] at k
          exact k
end
section
variable {P : Program} {w : World} {K : PySem.W.Frag} {mg : Str → Option Value} {base : Heap}
theorem ok_law_behind {f : Addr} {fd : FuncData} (B : Bl mg) (F : Fn K mg "_law_behind" s_law_behind ["work", "one", "two"] f fd) : FnOk P w K mg base CX0 1 f fd ["work", "one", "two"] (Mir.spLawBeh K) := by
  refine F.fn.ok sc_law_behind (fun vs H Q E h => ?_) (fun cdv A outer s H vs Q E hr h => ?_)
  · obtain ⟨a, n, ms, p, q, rfl, _⟩ := h
    rfl
  · obtain ⟨a, n, ms, p, q, rfl, hS, W, hp, hq, hne, k⟩ := h
    refine ⟨_, pss_cons (ps_set (i := 3) sc_law_behind.nd rfl (Or.inl rfl) (pe_callTy call_list_of rfl B.list bb_list (pa_cons (pv 0) pa_nil)))
      (pss_cons (ps_set (i := 4) sc_law_behind.nd rfl (Or.inl rfl) (pe_ix ix_tup (pv 0) (pv 1) (fun _ _ => rfl)))
      (pss_cons (ps_set (i := 5) sc_law_behind.nd rfl (Or.inl rfl) (pe_ix ix_tup (pv 0) (pv 2) (fun _ _ => rfl)))
      (pss_cons (ps_for PassesOwn.never rfl (pi_list (pe_lst (pa_cons (pv 1) (pa_cons (pv 2) (pa_cons (pv 4) (pa_cons (pv 5) pa_nil)))))) (pg_name (i := 6) sc_law_behind.nd rfl (Or.inl rfl))
        (pss_one (ps_asg (pv 6) (pg_sub (pv 3) (pv 6) set_list))))
      (pss_cons (ps_if (pt_cmpR op_ne (pv 1) (pv 2) (nomark _))
        (pss_cons (ps_asg (pv 2) (pg_sub (pv 3) (pv 1) set_list))
        (pss_cons (ps_asg (pv 1) (pg_sub (pv 3) (pv 2) set_list))
        (pss_one (ps_if (PW.pt (pw_and (pt_cmpR op_ne (pv 4) (pv 1) (nomark _)) (pw_and1 (pt_cmpR op_ne (pv 5) (pv 2) (nomark _)))))
          (pss_cons (ps_asg (pv 5) (pg_sub (pv 3) (pv 4) set_list)) (pss_one (ps_asg (pv 4) (pg_sub (pv 3) (pv 5) set_list)))) pss_nil)))) pss_nil)
      (pss_one (ps_ret (pe_callTy call_tuple_of rfl B.tuple bb_tuple (pa_cons (pv 3) pa_nil)))))))), ?_⟩
    have lp := W.wk.lt p hp
    have lq := W.wk.lt q hq
    have hbe := Mir.lawBeh_eq W hp hq hne
    refine ⟨_, rfl, a, _, rfl, .inr hS, fun l hl => ?_⟩
    have s1 : Same H (upd H l (.lst (Mir.nV ms))) := same_upd hl
    have h1 : upd H l (.lst (Mir.nV ms)) l = some (.lst (Mir.nV ms)) := upd_same
    generalize upd H l (.lst (Mir.nV ms)) = H1 at s1 h1
    refine ⟨_, rfl, _, rfl, a, _, _, _, rfl, rfl, s1.tup hS, W.ix hp, ?_⟩
    refine ⟨_, rfl, _, rfl, a, _, _, _, rfl, rfl, s1.tup hS, W.ix hq, ?_⟩
    have setl : ∀ (H3 : Hp) (m : List Nat) (i v : Nat), Same H H3 → H3 l = some (.lst (Mir.nV m)) → Same H (upd H3 l (.lst (Mir.nV (m.set i v)))) ∧ upd H3 l (.lst (Mir.nV (m.set i v))) l = some (.lst (Mir.nV (m.set i v))) := fun H3 m i v s3 h3 => ⟨s3.upd hl, upd_same⟩
    have fin : ∀ (H3 : Hp) (v6 : Option V), Same H H3 → H3 l = some (.lst (Mir.nV (Mir.lawBeh ms p q))) → (tRet (fun σ H Q => ∃ v, σ[3]? = some (some v) ∧ ∃ p ys, [v] = [V.ref p] ∧ ((SqL K H p ys ∧ ∀ l, H l = none → Q (.ref l) (upd H l (.tup ys))) ∨ (SqT K H p ys ∧ Q (.ref p) H))))
          { nx := fun _ H' => Q .non H', rt := Q } [some (.ref a), some (.int p), some (.int q), some (.ref l), some (.int (Mir.at0 ms p : Nat)), some (.int (Mir.at0 ms q : Nat)), v6] H3 := fun H3 v6 s3 h3 => by
      rw [hbe] at h3
      exact ⟨_, rfl, l, _, rfl, .inl ⟨SqL.of h3, fun r hr' => k r _ (s3.free hr') (s3.upd (s3.free hr')) upd_same⟩⟩
    refine ⟨_, rfl, _, rfl, _, rfl, _, rfl, by show 4 ≤ sizeLine; decide, fun le hle => ⟨le, rfl, ⟨_, SqL.of upd_same⟩, for_list (K := K) (a := le) (xs := Mir.nV [p, q, Mir.at0 ms p, Mir.at0 ms q])
      (fun j σ H3 => ∃ v : Option V, σ = [some (.ref a), some (.int p), some (.int q), some (.ref l), some (.int (Mir.at0 ms p : Nat)), some (.int (Mir.at0 ms q : Nat)), v] ∧ Same H H3 ∧ H3 le = some (.lst (Mir.nV [p, q, Mir.at0 ms p, Mir.at0 ms q])) ∧ H3 l = some (.lst (Mir.nV (([p, q, Mir.at0 ms p, Mir.at0 ms q].take j).foldl (fun m e => m.set e e) ms))))
      ⟨none, rfl, s1.upd (s1.free hle), upd_same, by rw [upd_ne (ne_of_none h1 hle)]; exact h1⟩ (fun j σ H3 _ ⟨_, _, _, e, _⟩ => SqL.of e) ?_ ?_⟩⟩
    · rintro j y σ H3 hj ⟨v, rfl, s3, hle3, hl3⟩
      obtain ⟨e, he, rfl⟩ := Mir.nV_get' hj
      have he2 : e < 2 * n := by
        have z := List.mem_of_getElem? he
        simp at z
        rcases z with rfl | rfl | rfl | rfl <;> assumption
      have hlen : (([p, q, Mir.at0 ms p, Mir.at0 ms q].take j).foldl (fun m e => m.set e e) ms).length = 2 * n := by
        rw [← W.len]
        generalize [p, q, Mir.at0 ms p, Mir.at0 ms q].take j = es
        clear k hbe hS W hne lp lq fin setl s1 h1 hl3 hle3 s3 hj he
        induction es generalizing ms with
        | nil => rfl
        | cons a r ih => rw [List.foldl_cons, ih, List.length_set]
      have nll : l ≠ le := ne_of_none h1 hle
      refine ⟨_, rfl, _, rfl, _, rfl, l, _, _, _, rfl, rfl, hl3, ixN_of (Int.natCast_nonneg _) (by rw [Mir.nV_len, hlen]; omega), ?_⟩
      rw [Int.toNat_natCast, Mir.nV_set]
      refine ⟨_, rfl, s3.upd hl, by rw [upd_ne nll.symm]; exact hle3, ?_⟩
      rw [upd_same, Mir.take_snoc he, List.foldl_append]
      rfl
    · rintro σ H3 ⟨v, rfl, s3, hle3, hl3⟩
      have e4 : ([p, q, Mir.at0 ms p, Mir.at0 ms q].take (Mir.nV [p, q, Mir.at0 ms p, Mir.at0 ms q]).length).foldl (fun m e => m.set e e) ms = (((ms.set p p).set q q).set (Mir.at0 ms p) (Mir.at0 ms p)).set (Mir.at0 ms q) (Mir.at0 ms q) := rfl
      rw [e4] at hl3
      have l4 : ((((ms.set p p).set q q).set (Mir.at0 ms p) (Mir.at0 ms p)).set (Mir.at0 ms q) (Mir.at0 ms q)).length = 2 * n := by simp only [List.length_set]; exact W.len
      unfold Mir.lawBeh at fin
      simp only at fin
      generalize (((ms.set p p).set q q).set (Mir.at0 ms p) (Mir.at0 ms p)).set (Mir.at0 ms q) (Mir.at0 ms q) = m4 at hl3 l4 fin
      refine ⟨_, rfl, _, rfl, rfl, _, rfl, ite2 (fun c1 => ?_) (fun c1 => ?_)⟩
      · have c1 : p ≠ q := fun z => by rw [z] at c1; simp at c1
        rw [if_neg c1] at fin
        refine ⟨_, rfl, _, rfl, _, rfl, l, _, _, _, rfl, rfl, hl3, ixN_of (Int.natCast_nonneg _) (by rw [Mir.nV_len, l4]; omega), ?_⟩
        rw [Int.toNat_natCast, Mir.nV_set]
        obtain ⟨s5, h5⟩ := setl H3 m4 p q s3 hl3
        refine ⟨_, rfl, _, rfl, _, rfl, l, _, _, _, rfl, rfl, h5, ixN_of (Int.natCast_nonneg _) (by rw [Mir.nV_len, List.length_set, l4]; omega), ?_⟩
        rw [Int.toNat_natCast, Mir.nV_set]
        obtain ⟨s6, h6⟩ := setl _ _ q p s5 h5
        refine ⟨_, rfl, _, rfl, rfl, _, rfl, ite2 (fun c2 => ?_) (fun c2 => ?_)⟩
        · have c2 : Mir.at0 ms p ≠ p := fun z => by rw [z] at c2; simp at c2
          refine ⟨_, rfl, _, rfl, rfl, _, rfl, ite2 (fun c3 => ?_) (fun c3 => ?_)⟩
          · have c3 : Mir.at0 ms q ≠ q := fun z => by rw [z] at c3; simp at c3
            rw [if_pos ⟨c2, c3⟩] at fin
            refine ⟨_, rfl, _, rfl, _, rfl, l, _, _, _, rfl, rfl, h6, ixN_of (Int.natCast_nonneg _) (by simp only [Mir.nV_len, List.length_set, l4]; omega), ?_⟩
            rw [Int.toNat_natCast, Mir.nV_set]
            obtain ⟨s7, h7⟩ := setl _ _ (Mir.at0 ms p) (Mir.at0 ms q) s6 h6
            refine ⟨_, rfl, _, rfl, _, rfl, l, _, _, _, rfl, rfl, h7, ixN_of (Int.natCast_nonneg _) (by simp only [Mir.nV_len, List.length_set, l4]; omega), ?_⟩
            rw [Int.toNat_natCast, Mir.nV_set]
            obtain ⟨s8, h8⟩ := setl _ _ (Mir.at0 ms q) (Mir.at0 ms p) s7 h7
            exact fin _ _ s8 h8
          · have c3 : Mir.at0 ms q = q := by
              by_cases z : Mir.at0 ms q = q
              · exact z
              · exact absurd (by simp; omega) c3
            rw [if_neg (fun z => z.2 c3)] at fin
            exact fin _ _ s6 h6
        · have c2 : Mir.at0 ms p = p := by
            by_cases z : Mir.at0 ms p = p
            · exact z
            · exact absurd (by simp; omega) c2
          rw [if_neg (fun z => z.1 c2)] at fin
          exact fin _ _ s6 h6
      · have c1 : p = q := by
          by_cases z : p = q
          · exact z
          · exact absurd (by simp; omega) c1
        rw [if_pos c1] at fin
        exact fin _ _ s3 hl3
end
section
variable {P : Program} {w : World} {K : PySem.W.Frag} {mg : Str → Option Value} {base : Heap}
theorem ok_law_hang_together {f : Addr} {fd : FuncData} (B : Bl mg) (F : Fn K mg "_law_hang_together" s_law_hang_together ["work"] f fd) : FnOk P w K mg base CX0 1 f fd ["work"] (Mir.spHang K) := by
  refine F.fn.ok sc_law_hang_together (fun vs H Q E h => ?_) (fun cdv A outer s H vs Q E hr h => ?_)
  · obtain ⟨a, n, ms, rfl, _⟩ := h
    rfl
  · obtain ⟨a, n, ms, rfl, hS, W, k⟩ := h
    refine ⟨_, (pss_cons (ps_set (i := 1) sc_law_hang_together.nd rfl (Or.inl rfl) (pe_callTy (call_list_rng rfl) rfl B.list bb_list (pa_cons (pe_callTy call_rng1 rfl B.range bb_range (pa_cons (pe_op op_fdiv (pe_callB call_len_seq rfl B.len bb_len (pa_cons (pv 0) pa_nil)) pe_int) pa_nil)) pa_nil)))
      (pss_cons (ps_for PassesOwn.never rfl (pi_range1 rfl B.range (pa_cons (pe_callB call_len_seq rfl B.len bb_len (pa_cons (pv 0) pa_nil)) pa_nil)) (pg_name (i := 2) sc_law_hang_together.nd rfl (Or.inl rfl)) (pss_cons (ps_set (i := 3) sc_law_hang_together.nd rfl (Or.inr rfl) (pe_ix ix_list (pv 1) (pe_op op_fdiv (pv 2) pe_int) (fun _ _ => rfl)))
      (pss_cons (ps_set (i := 4) sc_law_hang_together.nd rfl (Or.inr rfl) (pe_ix ix_list (pv 1) (pe_op op_fdiv (pe_ix ix_tup (pv 0) (pv 2) (fun _ _ => rfl)) pe_int) (fun _ _ => rfl)))
      (pss_one (ps_if (pt_cmpR op_ne (pv 3) (pv 4) (nomark _)) (pss_one (ps_comp (ix := 1) (NC := ["name", "other", "elder"]) sc_law_hang_together.nd rfl (Or.inl rfl) rfl (compOkN (pre := ["name"]) [("other", s.heap.objs.size + 2, 4), ("elder", s.heap.objs.size + 1, 3)] ["other", "elder"] rfl rfl (by decide +kernel) (by decide +kernel) rfl (caps_cons ⟨rfl, rfl, rfl, rfl⟩ (caps_cons ⟨rfl, rfl, rfl, rfl⟩ caps_nil))) (pi_list (pv 1)) (fun _ _ _ _ => (pg_name (i := 0) (show (["name", "other", "elder"] : List Str).Nodup by decide +kernel) rfl (Or.inl rfl))) (fun _ _ _ _ => pts_nil) (fun _ _ _ _ => (pe_ifExp (PW.pt (pw_or (pt_cmpR op_eq (pv 0) (pv 2) (nomark _)) (pw_or1 (pt_cmpR op_eq (pv 0) (pv 1) (nomark _))))) (pe_callB (call_min2 rfl) rfl B.min bb_min (pa_cons (pv 2) (pa_cons (pv 1) pa_nil))) (pv 0))))) pss_nil)))))
      (pss_one (ps_ret (pv 1))))), ?_⟩
    have nl : (Mir.nV ms).length = 2 * n := by rw [Mir.nV_len]; exact W.len
    have hn := W.small
    have ev : (((Mir.nV ms).length : Nat) : Int) / 2 = (n : Int) := by rw [nl]; omega
    refine ⟨_, rfl, a, _, rfl, .inr hS, _, _, rfl, rfl, ⟨by decide, by decide⟩, (n : Int), (by show [V.int ((((Mir.nV ms).length : Nat) : Int) / 2)] = [V.int (n : Int)]; rw [ev]), fun p hp => ⟨p, _, _, rfl, upd_same, ⟨by omega, by omega, by omega, by omega⟩, by omega, fun lm hlm => ?_⟩⟩
    have e0 : rngV 0 ((n : Int) - 0).toNat = Mir.iV (Mir.nmL [] n) := by rw [show ((n : Int) - 0).toNat = n by omega, Mir.nmL_nil]
    rw [e0]
    have s2 : Same H (upd (upd H p (.rng 0 (n : Nat))) lm (.lst (Mir.iV (Mir.nmL [] n)))) := (same_upd hp).trans (same_upd hlm)
    have hm2 : upd (upd H p (.rng 0 (n : Nat))) lm (.lst (Mir.iV (Mir.nmL [] n))) lm = some (.lst (Mir.iV (Mir.nmL [] n))) := upd_same
    have hl0 : H lm = none := (same_upd hp).free hlm
    generalize upd (upd H p (.rng 0 (n : Nat))) lm (.lst (Mir.iV (Mir.nmL [] n))) = H2 at s2 hm2 ⊢
    let M := Mir.at0 ms
    refine ⟨_, rfl, a, _, rfl, .inr (s2.tup hS), _, rfl, by rw [nl]; omega, by rw [nl]; omega, for_range (lo := 0) (n := (((Mir.nV ms).length : Nat) : Int).toNat) (fun i σ H3 => ∃ (lm : Addr) (v2 v3 v4 : Option V), σ = [some (.ref a), some (.ref lm), v2, v3, v4] ∧ Same H H3 ∧ H lm = none ∧ H3 lm = some (.lst (Mir.iV (Mir.nmL (Mir.edgK M i) n))))
      ⟨lm, none, none, none, rfl, s2, hl0, hm2⟩ ?_ ?_⟩
    · rintro i σ H3 hi ⟨lm, v2, v3, v4, rfl, s3, hl3, hm3⟩
      rw [nl] at hi
      have hi : i < 2 * n := by omega
      have lM : M i < 2 * n := W.wk.lt i hi
      rw [Int.zero_add]
      have e1 : (i : Int) / 2 = ((i / 2 : Nat) : Int) := by omega
      have e2 : ((M i : Nat) : Int) / 2 = ((M i / 2 : Nat) : Int) := by omega
      have es := Mir.edgK_succ M i
      let ps := Mir.edgK M i
      let L := Mir.nmL ps n
      let p1 := Mir.nm ps (Mir.st i)
      let p2 := Mir.nm ps (Mir.st (M i))
      have gA : (Mir.iV L)[i / 2]? = some (.int p1) := Mir.iV_get (Mir.nmL_get (by omega))
      have gB : (Mir.iV L)[M i / 2]? = some (.int p2) := Mir.iV_get (Mir.nmL_get (by omega))
      have lL : L.length = n := Mir.nmL_len _ _
      have esn : Mir.nmL (Mir.edgK M (i + 1)) n = L.map fun x => if x = p1 ∨ x = p2 then min p1 p2 else x := by rw [es, Mir.nmL_snoc]
      refine ⟨_, rfl, _, rfl, _, _, rfl, rfl, ⟨by decide, by decide⟩, lm, _, _, _, rfl, rfl, SqL.of hm3, (by rw [e1]; exact atI_nat gA), ?_⟩
      refine ⟨_, rfl, _, rfl, _, rfl, a, _, _, _, rfl, rfl, s3.tup hS, W.ix hi, _, _, rfl, rfl, ⟨by decide, by decide⟩, lm, _, _, _, rfl, rfl, SqL.of hm3, (by rw [e2]; exact atI_nat gB), ?_⟩
      refine ⟨_, rfl, _, rfl, rfl, _, rfl, ?_⟩
      refine ite2 (fun h1 => ?_) (fun h1 => ?_)
      · refine ⟨_, rfl, lm, rfl, ⟨_, SqL.of hm3⟩, fun D hD => comp_list (K := K) (a := lm) (xs := Mir.iV L) (fun j σ H4 => ∃ v : Option V, σ = [v, some (.int p2), some (.int p1)] ∧ Same H3 H4 ∧ H4 D = some (.lst (Mir.iV ((L.take j).map fun x => if x = p1 ∨ x = p2 then min p1 p2 else x)))) ⟨none, rfl, same_upd hD, upd_same⟩ (fun j σ H4 _ ⟨_, _, s4, _⟩ => SqL.of (s4 _ _ hm3)) ?_ ?_⟩
        · rintro j y σ H4 hy ⟨v, rfl, s4, hD4⟩
          obtain ⟨x, hx, rfl⟩ := Mir.iV_get' hy
          have hj : j < n := by rw [← lL]; exact (List.getElem?_eq_some_iff.mp hx).1
          have fin : ∀ z : Int, z = (if x = p1 ∨ x = p2 then min p1 p2 else x) → Mir.iV ((L.take j).map fun x => if x = p1 ∨ x = p2 then min p1 p2 else x) ++ [V.int z] = Mir.iV ((L.take (j + 1)).map fun x => if x = p1 ∨ x = p2 then min p1 p2 else x) := fun z hz => by
            rw [Mir.take_snoc hx, List.map_append, hz]
            unfold Mir.iV
            rw [List.map_append (f := V.int)]
            rfl
          refine gYes ?_
          refine ⟨_, rfl, _, rfl, rfl, _, rfl, ?_⟩
          have yes : x = p1 ∨ x = p2 → (if p2 < p1 then p2 else p1) = (if x = p1 ∨ x = p2 then min p1 p2 else x) := fun c => by
            rw [if_pos c]
            split <;> omega
          have sl : (Mir.iV ((L.take j).map fun x => if x = p1 ∨ x = p2 then min p1 p2 else x)).length < sizeLine := small1000 (by rw [Mir.iV_len, List.length_map, List.length_take]; omega)
          refine ite2 (fun h2 => ?_) (fun h2 => ?_)
          · have h2 : x = p1 := by have z := of_decide_eq_true h2; injection z
            dsimp only
            rw [if_pos rfl]
            refine ⟨_, rfl, _, rfl, _, _, rfl, _, hD4, sl, _, rfl, s4.upd hD, ?_⟩
            rw [upd_same, fin _ (yes (.inl h2))]
          · have h2 : ¬ x = p1 := fun z => h2 (decide_eq_true (by rw [z]))
            refine ⟨_, rfl, _, rfl, rfl, _, rfl, ?_⟩
            refine ite2 (fun h3 => ?_) (fun h3 => ?_)
            · have h3 : x = p2 := by have z := of_decide_eq_true h3; injection z
              refine ⟨_, rfl, _, rfl, _, _, rfl, _, hD4, sl, _, rfl, s4.upd hD, ?_⟩
              rw [upd_same, fin _ (yes (.inr h3))]
            · have h3 : ¬ x = p2 := fun z => h3 (decide_eq_true (by rw [z]))
              refine ⟨_, rfl, _, hD4, sl, _, rfl, s4.upd hD, ?_⟩
              rw [upd_same, fin _ (if_neg fun z => z.elim h2 h3).symm]
        · rintro σ H4 ⟨v, rfl, s4, hD4⟩
          rw [Mir.iV_len, List.take_length] at hD4
          exact ⟨D, _, _, _, rfl, s3.trans s4, s3.free hD, by rw [hD4, esn]⟩
      · have h1 : p1 = p2 := by
          have z : ¬ (!decide (V.int p1 = V.int p2)) = true := h1
          rw [Bool.not_eq_true', decide_eq_false_iff_not, Classical.not_not] at z
          injection z
        refine ⟨lm, _, _, _, rfl, s3, hl3, ?_⟩
        rw [hm3, esn, ← h1]
        have : (L.map fun x => if x = p1 ∨ x = p1 then min p1 p1 else x) = L := by
          refine (List.map_congr_left fun x _ => ?_).trans (List.map_id L)
          show _ = x
          split
          · rename_i c
            rcases c with c | c <;> rw [c] <;> omega
          · rfl
        rw [this]
    · rintro σ H3 ⟨lm, v2, v3, v4, rfl, s3, hl3, hm3⟩
      have e : (((Mir.nV ms).length : Nat) : Int).toNat = 2 * n := by rw [nl]; omega
      rw [e, Mir.edgK_all] at hm3
      exact ⟨_, rfl, k lm H3 hl3 s3 hm3⟩
end
section
variable {P : Program} {w : World} {K : PySem.W.Frag} {mg : Str → Option Value} {base : Heap}
open Classical in
theorem ok_law_row_names {f : Addr} {fd : FuncData} (B : Bl mg) (F : Fn K mg "_law_row_names" s_law_row_names ["work", "names"] f fd) : FnOk P w K mg base CX0 1 f fd ["work", "names"] (Mir.spRowNames K) := by
  refine F.fn.ok sc_law_row_names (fun vs H Q E h => ?_) (fun cdv A outer s H vs Q E hr h => ?_)
  · obtain ⟨a, l, n, ms, rfl, _⟩ := h
    rfl
  · obtain ⟨a, l, n, ms, rfl, hS, W, hN, k⟩ := h
    refine ⟨_, (pss_cons (ps_set (i := 2) sc_law_row_names.nd rfl (Or.inl rfl) (pe_lst pa_nil))
      (pss_cons (ps_for PassesOwn.never rfl (pi_range1 rfl B.range (pa_cons (pe_callB call_len_seq rfl B.len bb_len (pa_cons (pv 0) pa_nil)) pa_nil)) (pg_name (i := 3) sc_law_row_names.nd rfl (Or.inl rfl)) (pss_one (ps_if (PW.pt (pw_and (pt_cmpR op_eq (pe_ix ix_tup (pv 0) (pv 3) (fun _ _ => rfl)) (pv 3) (nomark _)) (pw_and1 (pt_cmpR op_notIn_seq (pe_ix ix_list (pv 1) (pe_op op_fdiv (pv 3) pe_int) (fun _ _ => rfl)) (pv 2) (by with_unfolding_all rfl))))) (pss_one (ps_expr (pe_bm PySem.F.plainAttrs_list PySem.F.slot_list_append PySem.F.type_list_append mt_append (pv 2) (pa_cons (pe_ix ix_list (pv 1) (pe_op op_fdiv (pv 3) pe_int) (fun _ _ => rfl)) pa_nil)))) pss_nil)))
      (pss_one (ps_ret (pv 2))))), ?_⟩
    have nl : (Mir.nV ms).length = 2 * n := by rw [Mir.nV_len]; exact W.len
    have hn := W.small
    refine ⟨by show 0 ≤ sizeLine; decide, fun lF hlF => ?_⟩
    have s1 : Same H (upd H lF (.lst [])) := same_upd hlF
    refine ⟨_, rfl, a, _, rfl, .inr (s1.tup hS), _, rfl, by rw [nl]; omega, by rw [nl]; omega, for_range (lo := 0) (n := (((Mir.nV ms).length : Nat) : Int).toNat) (fun i σ H3 => ∃ (v3 : Option V) (fs : List Int), σ = [some (.ref a), some (.ref l), some (.ref lF), v3] ∧ Same H H3 ∧ H3 lF = some (.lst (Mir.iV fs)) ∧ Mir.Rn n ms i fs ∧ fs.length ≤ i)
      ⟨none, [], rfl, s1, upd_same, ⟨List.nodup_nil, fun x => ⟨fun z => absurd z List.not_mem_nil, fun ⟨e, z, _⟩ => absurd z (Nat.not_lt_zero _)⟩⟩, Nat.le_refl _⟩ ?_ ?_⟩
    · rintro i σ H3 hi ⟨v3, fs, rfl, s3, hF3, rn, fl⟩
      rw [nl] at hi
      have hi : i < 2 * n := by omega
      rw [Int.zero_add]
      have e1 : (i : Int) / 2 = ((i / 2 : Nat) : Int) := by omega
      have gA := Mir.iV_get (Mir.nms_get (ms := ms) hi)
      have hN3 := s3 _ _ hN
      have rs := rn.succ
      refine ⟨_, rfl, _, rfl, a, _, _, _, rfl, rfl, s3.tup hS, W.ix hi, _, rfl, rfl, _, rfl, ?_⟩
      refine ite2 (fun h1 => ?_) (fun h1 => ?_)
      · have h1 : Mir.at0 ms i = i := by have z := of_decide_eq_true h1; injection z with z; omega
        refine ⟨_, rfl, _, rfl, _, _, rfl, rfl, ⟨by decide, by decide⟩, l, _, _, _, rfl, rfl, SqL.of hN3, (by rw [e1]; exact atI_nat gA), _, rfl, lF, _, rfl, .inl (SqL.of hF3), rfl, Mir.iV_allflat _, _, rfl, ?_⟩
        rw [Mir.inV_ints]
        refine ite2 (fun h2 => ?_) (fun h2 => ?_)
        · have h2 : Mir.nm (Mir.edg n (Mir.at0 ms)) (Mir.st i) ∉ fs := by simpa using h2
          rw [if_pos ⟨h1, h2⟩] at rs
          refine ⟨_, rfl, .inl ⟨rfl, _, SqL.of hF3⟩, _, rfl, _, rfl, _, _, rfl, rfl, ⟨by decide, by decide⟩, l, _, _, _, rfl, rfl, SqL.of hN3, (by rw [e1]; exact atI_nat gA), lF, _, _, rfl, rfl, hF3, small1000 (by rw [Mir.iV_len]; omega), _, _, rfl, s3.upd hlF, (by rw [upd_same]; unfold Mir.iV; rw [List.map_append (f := V.int)]; rfl), rs, by rw [List.length_append]; show _ + 1 ≤ _; omega⟩
        · have h2 : Mir.nm (Mir.edg n (Mir.at0 ms)) (Mir.st i) ∈ fs := by simpa using h2
          rw [if_neg fun z => z.2 h2] at rs
          exact ⟨_, fs, rfl, s3, hF3, rs, by omega⟩
      · have h1 : ¬ Mir.at0 ms i = i := fun z => h1 (decide_eq_true (by rw [z]))
        rw [if_neg fun z => h1 z.1] at rs
        exact iteF ⟨_, fs, rfl, s3, hF3, rs, by omega⟩
    · rintro σ H3 ⟨v3, fs, rfl, s3, hF3, rn, fl⟩
      have e : (((Mir.nV ms).length : Nat) : Int).toNat = 2 * n := by rw [nl]; omega
      rw [e] at rn
      exact ⟨_, rfl, k lF H3 fs hlF s3 rn hF3⟩
end
section
variable {P : Program} {w : World} {K : PySem.W.Frag} {mg : Str → Option Value} {base : Heap}
open Classical in
theorem ok_law_due {f f1 f2 : Addr} {fd fd1 fd2 : FuncData} (B : Bl mg) (F : Fn K mg "_law_due" s_law_due ["work", "one", "two", "behind"] f fd) (F_law_hang_together : Fn K mg "_law_hang_together" s_law_hang_together ["work"] f1 fd1) (F_law_row_names : Fn K mg "_law_row_names" s_law_row_names ["work", "names"] f2 fd2) : FnOk P w K mg base CX0 2 f fd ["work", "one", "two", "behind"] (Mir.spDue14 K) := by
  have G_law_hang_together : FnOk P w K mg base CX0 1 f1 fd1 ["work"] (Mir.spHang K) := ok_law_hang_together B F_law_hang_together
  have G_law_row_names : FnOk P w K mg base CX0 1 f2 fd2 ["work", "names"] (Mir.spRowNames K) := ok_law_row_names B F_law_row_names
  refine F.fn.ok sc_law_due (fun vs H Q E h => ?_) (fun cdv A outer s H vs Q E hr h => ?_)
  · obtain ⟨a, b, n, ms, p, q, rfl, _⟩ := h
    rfl
  · obtain ⟨a, b, n, ms, p, q, rfl, hA, W, hp, hq, hf, hB, k⟩ := h
    have hn := W.small
    have WB := Mir.beh_work W hp hq hf
    have cpq := Mir.chainF_eq W hp hq
    have cp := Mir.chainF_ring W hp
    have cq := Mir.chainF_ring W hq
    refine ⟨_, (pss_cons (ps_set (i := 4) sc_law_due.nd rfl (Or.inl rfl) (pe_fn G_law_hang_together F_law_hang_together (hr.mono (by decide)) (pa_cons (pv 0) pa_nil)))
      (pss_cons (ps_set (i := 5) sc_law_due.nd rfl (Or.inl rfl) (pe_fn G_law_row_names F_law_row_names (hr.mono (by decide)) (pa_cons (pv 0) (pa_cons (pv 4) pa_nil))))
      (pss_cons (ps_set (i := 6) sc_law_due.nd rfl (Or.inl rfl) (pe_ix ix_list (pv 4) (pe_op op_fdiv (pv 1) pe_int) (fun _ _ => rfl)))
      (pss_cons (ps_set (i := 7) sc_law_due.nd rfl (Or.inl rfl) (pe_ix ix_list (pv 4) (pe_op op_fdiv (pv 2) pe_int) (fun _ _ => rfl)))
      (pss_cons (ps_if (pt_cmpR op_eq (pv 1) (pv 2) (nomark _)) (pss_one (ps_ret (pe_ifExp (pt_cmpR op_in_seq (pv 6) (pv 5) (by with_unfolding_all rfl)) pe_str pe_str))) pss_nil)
      (pss_cons (ps_if (PW.pt (pw_and (pt_cmpR op_eq (pe_ix ix_tup (pv 0) (pv 1) (fun _ _ => rfl)) (pv 1) (nomark _)) (pw_and1 (pt_cmpR op_eq (pe_ix ix_tup (pv 0) (pv 2) (fun _ _ => rfl)) (pv 2) (nomark _))))) (pss_one (ps_ret (pe_ifExp (pt_cmpR op_eq (pv 6) (pv 7) (nomark _)) pe_str pe_str))) pss_nil)
      (ps_sem (R := fun D σ H2 => ∃ (lN lR : Addr) (fs : List Int) (x y : Int), σ = [some (.ref a), some (.int p), some (.int q), some (.ref b), some (.ref lN), some (.ref lR), some (.int x), some (.int y), none] ∧ Same H H2 ∧ H2 lN = some (.lst (Mir.iV (Mir.nms n ms))) ∧ H2 lR = some (.lst (Mir.iV fs)) ∧ (x ∈ fs ↔ Mir.InR n (Mir.at0 ms) p) ∧ (y ∈ fs ↔ Mir.InR n (Mir.at0 ms) q) ∧ (x = y ↔ Mir.Ce n (Mir.at0 ms) p q) ∧ p ≠ q ∧ ¬ (Mir.at0 ms p = p ∧ Mir.at0 ms q = q) ∧ D.rt = Q) fun D σ H2 hR => ?rest))))))), ?_⟩
    case rest =>
      obtain ⟨lN, lR, fs, x, y, rfl, s12, hN, hR, mp, mq, mpq, ne, nl, hD⟩ := hR
      refine ⟨_, (pss_cons (ps_if (pt_cmpR op_ne (pv 6) (pv 7) (nomark _)) (pss_one (ps_ret (pe_ifExp (PW.pt (pw_and (pt_cmpR op_in_seq (pv 6) (pv 5) (by with_unfolding_all rfl)) (pw_and1 (pt_cmpR op_in_seq (pv 7) (pv 5) (by with_unfolding_all rfl))))) pe_str pe_str))) pss_nil)
      (pss_cons (ps_set (i := 8) sc_law_due.nd rfl (Or.inl rfl) (pe_op op_sub (pe_callB call_lenI rfl B.len bb_len (pa_cons (pe_callTy (call_setI rfl) rfl B.set bb_set (pa_cons (pe_fn G_law_hang_together F_law_hang_together (hr.mono (by decide)) (pa_cons (pv 3) pa_nil)) pa_nil)) pa_nil)) (pe_callB call_lenI rfl B.len bb_len (pa_cons (pe_callTy (call_setI rfl) rfl B.set bb_set (pa_cons (pv 4) pa_nil)) pa_nil))))
      (pss_one (ps_ret (pe_ix ix_list (pe_lst (pa_cons pe_str (pa_cons pe_str pa_nil))) (pv 8) (fun _ _ => rfl)))))), ?_⟩
      have kk : ∀ {H7 : Hp} {z : Str}, Same H2 H7 → Mir.kindF n ms p q = z → Q (.str z) H7 := fun s7 e => by rw [← e]; exact k _ (s12.trans s7)
      have rf := Same.refl H2
      have inn : ∀ v : Int, inV (.int v) (Mir.iV fs) = decide (v ∈ fs) := fun v => Mir.inV_ints v fs
      refine ⟨_, rfl, _, rfl, rfl, _, rfl, ?_⟩
      by_cases c3 : x = y
      · refine iteN (by rw [c3]; rw [decide_eq_true rfl]; rfl) ?_
        have same := mpq.mp c3
        have e3 := cpq.mpr same
        have mv := (Mir.deed_else W.wk hp hq ne hf nl (B := Mir.at0 (Mir.beh ms p q)) fun e he => Mir.beh_at (by rw [W.len]; exact he)).same same
        have kz : ∀ {H7 : Hp} {z : Str}, Same H2 H7 → (if Mir.NN n (Mir.at0 (Mir.beh ms p q)) = Mir.NN n (Mir.at0 ms) then ("turned" : Str) else "parted") = z → Q (.str z) H7 := fun s7 e => kk s7 (by unfold Mir.kindF; rw [if_neg ne, if_neg nl, if_pos e3, Mir.nn_len, Mir.nn_len]; exact e)
        refine ⟨_, rfl, b, n, _, rfl, s12.tup hB, WB, fun lM H3 hlM s3 hM => ?_⟩
        refine ⟨lM, _, rfl, hM, by rw [Mir.nms_len]; omega, fun sp S gs hsp nd mem => ?_⟩
        have e1 : gs.length = Mir.NN n (Mir.at0 (Mir.beh ms p q)) := Mir.nms_count WB nd mem
        rw [e1]
        have s4 : Same H3 (upd H3 sp (.set S (Mir.NN n (Mir.at0 (Mir.beh ms p q))))) := same_upd hsp
        have h4 : upd H3 sp (.set S (Mir.NN n (Mir.at0 (Mir.beh ms p q)))) sp = some (.set S (Mir.NN n (Mir.at0 (Mir.beh ms p q)))) := upd_same
        generalize upd H3 sp (.set S (Mir.NN n (Mir.at0 (Mir.beh ms p q)))) = H4 at s4 h4
        refine ⟨sp, S, _, rfl, h4, _, rfl, lN, _, rfl, s4 _ _ (s3 _ _ hN), by rw [Mir.nms_len]; omega, fun sp2 S2 gs2 hsp2 nd2 mem2 => ?_⟩
        have e2 : gs2.length = Mir.NN n (Mir.at0 ms) := Mir.nms_count W nd2 mem2
        rw [e2]
        have s5 : Same H4 (upd H4 sp2 (.set S2 (Mir.NN n (Mir.at0 ms)))) := same_upd hsp2
        have h5 : upd H4 sp2 (.set S2 (Mir.NN n (Mir.at0 ms))) sp2 = some (.set S2 (Mir.NN n (Mir.at0 ms))) := upd_same
        generalize upd H4 sp2 (.set S2 (Mir.NN n (Mir.at0 ms))) = H5 at s5 h5
        refine ⟨sp2, S2, _, rfl, h5, _, _, rfl, rfl, ?_⟩
        refine ⟨by show 2 ≤ sizeLine; decide, fun lT hlT => ?_⟩
        have s6 : Same H5 (upd H5 lT (.lst [.str "turned", .str "parted"])) := same_upd hlT
        have s26 := ((s3.trans s4).trans s5).trans s6
        rcases mv with mv | mv
        · refine ⟨_, rfl, lT, _, _, _, rfl, rfl, SqL.of upd_same, (by rw [mv, Int.sub_self]; rfl), ?_⟩
          show D.rt _ _
          rw [hD]
          exact kz s26 (if_pos mv)
        · refine ⟨_, rfl, lT, _, _, _, rfl, rfl, SqL.of upd_same, (by rw [show ((Mir.NN n (Mir.at0 (Mir.beh ms p q)) : Nat) : Int) - (Mir.NN n (Mir.at0 ms) : Nat) = 1 by omega]; rfl), ?_⟩
          show D.rt _ _
          rw [hD]
          exact kz s26 (if_neg (by omega))
      · refine iteY (by rw [decide_eq_false (fun z => c3 (by injection z))]; rfl) ?_
        have e3 : ¬ Mir.chainF (Mir.allC n ms) p = Mir.chainF (Mir.allC n ms) q := fun z => c3 (mpq.mpr (cpq.mp z))
        refine ⟨_, rfl, _, rfl, lR, _, rfl, .inl (SqL.of hR), rfl, Mir.iV_allflat _, _, rfl, ?_⟩
        rw [inn]
        by_cases c4 : x ∈ fs
        · refine iteY (decide_eq_true c4) ?_
          refine ⟨_, rfl, _, rfl, lR, _, rfl, .inl (SqL.of hR), rfl, Mir.iV_allflat _, _, rfl, ?_⟩
          rw [inn]
          by_cases c5 : y ∈ fs
          · refine iteY (decide_eq_true c5) ?_
            show D.rt _ _
            rw [hD]
            exact kk rf (by unfold Mir.kindF; rw [if_neg ne, if_neg nl, if_neg e3, if_neg fun z => z.elim (fun w => cp.mp w (mp.mp c4)) fun w => cq.mp w (mq.mp c5)])
          · refine iteN (decide_eq_false c5) ?_
            show D.rt _ _
            rw [hD]
            exact kk rf (by unfold Mir.kindF; rw [if_neg ne, if_neg nl, if_neg e3, if_pos (.inr (cq.mpr fun z => c5 (mq.mpr z)))])
        · refine iteN (decide_eq_false c4) ?_
          dsimp only
          rw [if_neg (by decide)]
          show D.rt _ _
          rw [hD]
          exact kk rf (by unfold Mir.kindF; rw [if_neg ne, if_neg nl, if_neg e3, if_pos (.inl (cp.mpr fun z => c4 (mp.mpr z)))])
    refine ⟨_, rfl, a, n, ms, rfl, hA, W, fun lN H1 hlN s1 hN => ?_⟩
    refine ⟨_, rfl, _, rfl, a, lN, n, ms, rfl, s1.tup hA, W, hN, fun lR H2 fs hlR s2 rn hR => ?_⟩
    have hN2 := s2 _ _ hN
    have s12 := s1.trans s2
    have hA2 := s12.tup hA
    have e1 : (p : Int) / 2 = ((p / 2 : Nat) : Int) := by omega
    have e2 : (q : Int) / 2 = ((q / 2 : Nat) : Int) := by omega
    have gp := Mir.iV_get (Mir.nms_get (ms := ms) hp)
    have gq := Mir.iV_get (Mir.nms_get (ms := ms) hq)
    refine ⟨_, rfl, _, rfl, _, _, rfl, rfl, ⟨by decide, by decide⟩, lN, _, _, _, rfl, rfl, SqL.of hN2, (by rw [e1]; exact atI_nat gp), ?_⟩
    refine ⟨_, rfl, _, rfl, _, _, rfl, rfl, ⟨by decide, by decide⟩, lN, _, _, _, rfl, rfl, SqL.of hN2, (by rw [e2]; exact atI_nat gq), ?_⟩
    have mp := rn.mem (e := p)
    have mq := rn.mem (e := q)
    have mpq : Mir.nm (Mir.edg n (Mir.at0 ms)) (Mir.st p) = Mir.nm (Mir.edg n (Mir.at0 ms)) (Mir.st q) ↔ Mir.Ce n (Mir.at0 ms) p q := Mir.nms_eq
    generalize Mir.nm (Mir.edg n (Mir.at0 ms)) (Mir.st p) = x at mp mpq
    generalize Mir.nm (Mir.edg n (Mir.at0 ms)) (Mir.st q) = y at mq mpq
    have kk : ∀ {H7 : Hp} {z : Str}, Same H2 H7 → Mir.kindF n ms p q = z → Q (.str z) H7 := fun s7 e => by rw [← e]; exact k _ (s12.trans s7)
    have rf := Same.refl H2
    have inn : ∀ v : Int, inV (.int v) (Mir.iV fs) = decide (v ∈ fs) := fun v => Mir.inV_ints v fs
    refine ⟨_, rfl, _, rfl, rfl, _, rfl, ?_⟩
    by_cases c1 : p = q
    · refine iteY (dInt (by rw [c1])) ?_
      refine ⟨_, rfl, _, rfl, lR, _, rfl, .inl (SqL.of hR), rfl, Mir.iV_allflat _, _, rfl, ?_⟩
      rw [inn]
      refine ite2 (fun h => ?_) (fun h => ?_)
      · exact kk rf (by unfold Mir.kindF; rw [if_pos c1, if_neg (fun z => cp.mp z (mp.mp (of_decide_eq_true h)))])
      · exact kk rf (by unfold Mir.kindF; rw [if_pos c1, if_pos (cp.mpr fun z => h (decide_eq_true (mp.mpr z)))])
    · refine iteN (dIntN (by omega)) ?_
      refine ⟨_, rfl, _, rfl, a, _, _, _, rfl, rfl, hA2, W.ix hp, _, rfl, rfl, _, rfl, ?_⟩
      by_cases c2 : Mir.at0 ms p = p
      · refine iteY (dInt (by rw [c2])) ?_
        refine ⟨_, rfl, _, rfl, a, _, _, _, rfl, rfl, hA2, W.ix hq, _, rfl, rfl, _, rfl, ?_⟩
        by_cases c3 : Mir.at0 ms q = q
        · refine iteY (dInt (by rw [c3])) ?_
          refine ⟨_, rfl, _, rfl, rfl, _, rfl, ?_⟩
          by_cases c4 : x = y
          · exact iteY (dInt c4) (kk rf (by unfold Mir.kindF; rw [if_neg c1, if_pos ⟨c2, c3⟩, if_pos (cpq.mpr (mpq.mp c4))]))
          · exact iteN (dIntN c4) (kk rf (by unfold Mir.kindF; rw [if_neg c1, if_pos ⟨c2, c3⟩, if_neg fun z => c4 (mpq.mpr (cpq.mp z))]))
        · refine iteN (dIntN (by omega)) ?_
          exact ⟨lN, lR, fs, x, y, rfl, s12, hN2, hR, mp, mq, mpq, c1, fun z => c3 z.2, rfl⟩
      · refine iteN (dIntN (by omega)) (iteF ?_)
        exact ⟨lN, lR, fs, x, y, rfl, s12, hN2, hR, mp, mq, mpq, c1, fun z => c2 z.1, rfl⟩
end
section
variable {P : Program} {w : World} {K : PySem.W.Frag} {mg : Str → Option Value} {base : Heap}
theorem ok_law_change {f f1 f2 : Addr} {fd fd1 fd2 : FuncData} (B : Bl mg) (F : Fn K mg "_law_change" s_law_change ["work", "behind"] f fd) (F_law_hang_together : Fn K mg "_law_hang_together" s_law_hang_together ["work"] f1 fd1) (F_law_row_names : Fn K mg "_law_row_names" s_law_row_names ["work", "names"] f2 fd2) : FnOk P w K mg base CX0 2 f fd ["work", "behind"] (Mir.spChange K) := by
  have G_law_hang_together : FnOk P w K mg base CX0 1 f1 fd1 ["work"] (Mir.spHang K) := ok_law_hang_together B F_law_hang_together
  have G_law_row_names : FnOk P w K mg base CX0 1 f2 fd2 ["work", "names"] (Mir.spRowNames K) := ok_law_row_names B F_law_row_names
  refine F.fn.ok sc_law_change (fun vs H Q E h => ?_) (fun cdv A outer s H vs Q E hr h => ?_)
  · obtain ⟨a, b, n, ms, ns, rfl, _⟩ := h
    rfl
  · obtain ⟨a, b, n, ms, ns, rfl, hA, WA, hB, WB, k⟩ := h
    refine ⟨_, (pss_cons (ps_set (i := 2) sc_law_change.nd rfl (Or.inl rfl) (pe_lst pa_nil))
      (pss_cons (ps_for PassesOwn.never rfl (pi_list (pe_lst (pa_cons (pv 0) (pa_cons (pv 1) pa_nil)))) (pg_name (i := 3) sc_law_change.nd rfl (Or.inl rfl)) (pss_cons (ps_set (i := 4) sc_law_change.nd rfl (Or.inl rfl) (pe_fn G_law_hang_together F_law_hang_together (hr.mono (by decide)) (pa_cons (pv 3) pa_nil)))
      (pss_cons (ps_set (i := 5) sc_law_change.nd rfl (Or.inl rfl) (pe_callB call_len_seq rfl B.len bb_len (pa_cons (pe_fn G_law_row_names F_law_row_names (hr.mono (by decide)) (pa_cons (pv 3) (pa_cons (pv 4) pa_nil))) pa_nil)))
      (pss_one (ps_expr (pe_bm PySem.F.plainAttrs_list PySem.F.slot_list_append PySem.F.type_list_append mt_append (pv 2) (pa_cons (pe_tup (pa_cons (pv 5) (pa_cons (pe_op op_sub (pe_callB call_lenI rfl B.len bb_len (pa_cons (pe_callTy (call_setI rfl) rfl B.set bb_set (pa_cons (pv 4) pa_nil)) pa_nil)) (pv 5)) pa_nil))) pa_nil)))))))
      (pss_one (ps_ret (pe_tup (pa_cons (pe_op op_sub (pe_ix ix_tup (pe_ix ix_list (pv 2) pe_int (fun _ _ => rfl)) pe_int (fun _ _ => rfl)) (pe_ix ix_tup (pe_ix ix_list (pv 2) pe_int (fun _ _ => rfl)) pe_int (fun _ _ => rfl))) (pa_cons (pe_op op_sub (pe_ix ix_tup (pe_ix ix_list (pv 2) pe_int (fun _ _ => rfl)) pe_int (fun _ _ => rfl)) (pe_ix ix_tup (pe_ix ix_list (pv 2) pe_int (fun _ _ => rfl)) pe_int (fun _ _ => rfl))) pa_nil))))))), ?_⟩
    have hn := WA.small
    refine ⟨by show 0 ≤ sizeLine; decide, fun lC hlC => ?_⟩
    have s1 : Same H (upd H lC (.lst [])) := same_upd hlC
    have hC1 : upd H lC (.lst []) lC = some (.lst []) := upd_same
    generalize upd H lC (.lst []) = H1 at s1 hC1
    refine ⟨_, rfl, _, rfl, by show 2 ≤ sizeLine; decide, fun lE hlE => ?_⟩
    have s2 : Same H1 (upd H1 lE (.lst [.ref a, .ref b])) := same_upd hlE
    have hE2 : upd H1 lE (.lst [.ref a, .ref b]) lE = some (.lst [.ref a, .ref b]) := upd_same
    have hC2 := s2 _ _ hC1
    have nCE : lE ≠ lC := fun z => by rw [z, hC1] at hlE; cases hlE
    have s12 := s1.trans s2
    generalize upd H1 lE (.lst [.ref a, .ref b]) = H2 at s2 hE2 hC2 s12
    refine ⟨lE, rfl, ⟨_, SqL.of hE2⟩, for_list (K := K) (a := lE) (xs := [.ref a, .ref b]) (fun i σ H3 => ∃ (v3 v4 v5 : Option V), σ = [some (.ref a), some (.ref b), some (.ref lC), v3, v4, v5] ∧ Same H H3 ∧ H3 lE = some (.lst [.ref a, .ref b]) ∧ Mir.TsT Mir.pr H3 lC (([ms, ns].take i).map fun x => ((Mir.RR n (Mir.at0 x) : Int), (Mir.NN n (Mir.at0 x) : Int) - Mir.RR n (Mir.at0 x))))
      ⟨none, none, none, rfl, s12, hE2, Mir.TsT.nil hC2⟩ (fun i σ H3 _ ⟨_, _, _, _, _, h, _⟩ => SqL.of h) ?_ ?_⟩
    · rintro i y σ H3 hy ⟨v3, v4, v5, rfl, s3, hE3, hT⟩
      obtain ⟨c, ws, rfl, hc, W, hw⟩ : ∃ (c : Addr) (ws : List Nat), y = .ref c ∧ SqT K H c (Mir.nV ws) ∧ Mir.WorkL n ws ∧ [ms, ns][i]? = some ws := by
        match i, hy with
        | 0, hy => cases hy; exact ⟨a, ms, rfl, hA, WA, rfl⟩
        | 1, hy => cases hy; exact ⟨b, ns, rfl, hB, WB, rfl⟩
        | i + 2, hy => simp at hy
      refine ⟨_, rfl, c, n, ws, rfl, s3.tup hc, W, fun lN H4 hlN s4 hN => ?_⟩
      have s34 := s3.trans s4
      refine ⟨_, rfl, _, rfl, c, lN, n, ws, rfl, s34.tup hc, W, hN, fun lR H5 fs hlR s5 rn hR => ?_⟩
      have s35 := s34.trans s5
      have hT5 := (hT.same s4).same s5
      have hN5 := s5 _ _ hN
      have hE5 := s5 _ _ (s4 _ _ hE3)
      obtain ⟨vs, hv1, hv2⟩ := hT5.len
      refine ⟨lR, _, rfl, .inl (SqL.of hR), ?_⟩
      have e1 : (Mir.iV fs).length = Mir.RR n (Mir.at0 ws) := by rw [Mir.iV_len]; exact rn.count W
      rw [e1]
      refine ⟨_, rfl, .inl ⟨rfl, _, SqL.of hv1⟩, _, rfl, _, rfl, lN, _, rfl, hN5, by rw [Mir.nms_len]; omega, fun sp S gs hsp nd mem => ?_⟩
      have e2 : gs.length = Mir.NN n (Mir.at0 ws) := Mir.nms_count W nd mem
      rw [e2]
      have s6 : Same H5 (upd H5 sp (.set S (Mir.NN n (Mir.at0 ws)))) := same_upd hsp
      have h6 : upd H5 sp (.set S (Mir.NN n (Mir.at0 ws))) sp = some (.set S (Mir.NN n (Mir.at0 ws))) := upd_same
      generalize upd H5 sp (.set S (Mir.NN n (Mir.at0 ws))) = H6 at s6 h6
      refine ⟨sp, S, _, rfl, h6, _, rfl, _, _, rfl, rfl, by show 2 ≤ sizeLine; decide, fun tp htp => ?_⟩
      have s7 : Same H6 (upd H6 tp (.tup [.int (Mir.RR n (Mir.at0 ws)), .int ((Mir.NN n (Mir.at0 ws) : Int) - Mir.RR n (Mir.at0 ws))])) := same_upd htp
      obtain ⟨ys, y1, y2, y3⟩ := ((hT5.same s6).same s7).snoc (t := tp) (x := ((Mir.RR n (Mir.at0 ws) : Int), (Mir.NN n (Mir.at0 ws) : Int) - Mir.RR n (Mir.at0 ws))) upd_same
      refine ⟨lC, _, _, rfl, rfl, y1, small1000 (by rw [y2, List.length_map, List.length_take]; show min i 2 ≤ 1000; omega), _, _, _, rfl, ((s35.trans s6).trans s7).upd hlC, by rw [upd_ne nCE]; exact s7 _ _ (s6 _ _ hE5), ?_⟩
      rw [Mir.take_snoc hw, List.map_append]
      exact y3
    · rintro σ H3 ⟨v3, v4, v5, rfl, s3, hE3, hT⟩
      have hT : Mir.TsT Mir.pr H3 lC [((Mir.RR n (Mir.at0 ms) : Int), (Mir.NN n (Mir.at0 ms) : Int) - Mir.RR n (Mir.at0 ms)), ((Mir.RR n (Mir.at0 ns) : Int), (Mir.NN n (Mir.at0 ns) : Int) - Mir.RR n (Mir.at0 ns))] := hT
      obtain ⟨ys, t0, a1, a2, a3⟩ := hT.get (i := 0) rfl
      obtain ⟨zs, t1, b1, b2, b3⟩ := hT.get (i := 1) rfl
      rw [b1] at a1
      injection a1 with a1
      injection a1 with a1
      subst a1
      have i1 : atI zs 1 = some (.ref t1) := atI_nat (j := 1) b2
      have i0 : atI zs 0 = some (.ref t0) := atI_nat (j := 0) a2
      refine ⟨_, rfl, lC, _, _, _, rfl, rfl, SqL.of b1, i1, t1, _, _, _, rfl, rfl, SqT.of b3, rfl, _, rfl, lC, _, _, _, rfl, rfl, SqL.of b1, i0, t0, _, _, _, rfl, rfl, SqT.of a3, rfl, _, _, rfl, rfl, _, rfl, lC, _, _, _, rfl, rfl, SqL.of b1, i1, t1, _, _, _, rfl, rfl, SqT.of b3, rfl, _, rfl, lC, _, _, _, rfl, rfl, SqL.of b1, i0, t0, _, _, _, rfl, rfl, SqT.of a3, rfl, _, _, rfl, rfl, by show 2 ≤ sizeLine; decide, fun tp htp => ?_⟩
      exact k tp _ (s3.trans (same_upd htp)) upd_same
end
section
variable {P : Program} {w : World} {K : PySem.W.Frag} {mg : Str → Option Value} {base : Heap}
open Mir (bb_str)
seal L2.PSs L2.PS L2.PE L2.PT L2.PA
theorem ok_law {C_BadDeed : Addr} (B : Bl mg) (Z : ECls K mg "BadDeed" C_BadDeed) {f0 f1 f2 f3 f4 f5 f6 f7 f8 f9 f10 f11 f12 f13 f14 f15 f16 f17 f18 f19 f20 f21 f22 f23 : Addr} {fd0 fd1 fd2 fd3 fd4 fd5 fd6 fd7 fd8 fd9 fd10 fd11 fd12 fd13 fd14 fd15 fd16 fd17 fd18 fd19 fd20 fd21 fd22 fd23 : FuncData} (F_staves_in : Fn K mg "staves_in" s_staves_in ["work"] f0 fd0) (F_far_end : Fn K mg "far_end" s_far_end ["end"] f1 fd1) (F_loose_ends : Fn K mg "loose_ends" s_loose_ends ["work"] f2 fd2) (F_rows_in : Fn K mg "rows_in" s_rows_in ["work"] f3 fd3) (F_rings_in : Fn K mg "rings_in" s_rings_in ["work"] f4 fd4) (F_walked_from : Fn K mg "walked_from" s_walked_from ["work", "start"] f5 fd5) (F_mark_staves : Fn K mg "mark_staves" s_mark_staves ["seen", "chain"] f6 fd6) (F_fits_work : Fn K mg "fits_work" s_fits_work ["work", "deed"] f7 fd7) (F_refuse_misfit : Fn K mg "refuse_misfit" s_refuse_misfit ["work", "deed"] f8 fd8) (F_reclasped : Fn K mg "reclasped" s_reclasped ["work", "deed"] f9 fd9) (F_freed_ends : Fn K mg "freed_ends" s_freed_ends ["work", "deed"] f10 fd10) (F_clasp_ends : Fn K mg "clasp_ends" s_clasp_ends ["mates", "one", "other"] f11 fd11) (F_deed_kind : Fn K mg "deed_kind" s_deed_kind ["work", "deed"] f12 fd12) (F_chain_with : Fn K mg "chain_with" s_chain_with ["chains", "end"] f13 fd13) (F_law_cell : Fn K mg "_law_cell" s_law_cell ["script", "k"] f14 fd14) (F_law_number : Fn K mg "_law_number" s_law_number ["script", "k"] f15 fd15) (F_law_work : Fn K mg "_law_work" s_law_work ["script", "at", "staves"] f16 fd16) (F_law_fits : Fn K mg "_law_fits" s_law_fits ["work", "one", "two"] f17 fd17) (F_law_behind : Fn K mg "_law_behind" s_law_behind ["work", "one", "two"] f18 fd18) (F_law_hang_together : Fn K mg "_law_hang_together" s_law_hang_together ["work"] f19 fd19) (F_law_row_names : Fn K mg "_law_row_names" s_law_row_names ["work", "names"] f20 fd20) (F_law_due : Fn K mg "_law_due" s_law_due ["work", "one", "two", "behind"] f21 fd21) (F_law_change : Fn K mg "_law_change" s_law_change ["work", "behind"] f22 fd22) (F_law : Fn K mg "law" s_law ["script"] f23 fd23) : FnOk P w K mg base CX0 6 f23 fd23 ["script"] (spLaw K) := by
  have G_law_cell : FnOk P w K mg base CX0 1 _ _ ["script", "k"] (Mir.spCellAt K) := ok_law_cell B F_law_cell
  have G_law_work : FnOk P w K mg base CX0 3 _ _ ["script", "at", "staves"] (Mir.spLawWork K) := ok_law_work B F_law_work F_law_cell F_law_number
  have G_law_fits : FnOk P w K mg base CX0 1 _ _ ["work", "one", "two"] (Mir.spLawFits K) := ok_law_fits B F_law_fits
  have G_law_behind : FnOk P w K mg base CX0 1 _ _ ["work", "one", "two"] (Mir.spLawBeh K) := ok_law_behind B F_law_behind
  have G_law_due : FnOk P w K mg base CX0 2 _ _ ["work", "one", "two", "behind"] (Mir.spDue14 K) := ok_law_due B F_law_due F_law_hang_together F_law_row_names
  have G_law_change : FnOk P w K mg base CX0 2 _ _ ["work", "behind"] (Mir.spChange K) := ok_law_change B F_law_change F_law_hang_together F_law_row_names
  have GR : FnOk P w K mg base (CXo P w) 3 _ _ ["work", "deed"] (Mir.spRecl K C_BadDeed) := ok_reclasped B Z F_reclasped F_fits_work F_refuse_misfit F_freed_ends F_clasp_ends
  have GO : FnOk P w K mg base CX0 3 _ _ ["work"] (Mir.spRows K) := ok_rows_in B F_rows_in F_far_end F_loose_ends F_walked_from
  have GI : FnOk P w K mg base CX0 4 _ _ ["work"] (Mir.spRings K) := ok_rings_in B F_rings_in F_staves_in F_far_end F_loose_ends F_rows_in F_walked_from F_mark_staves
  have G_deed_kind : FnOk P w K mg base (CXo P w) 5 _ _ ["work", "deed"] (Mir.spKind K C_BadDeed) := ok_deed_kind B F_deed_kind F_reclasped GR F_rings_in GI F_rows_in GO F_chain_with
  refine F_law.fn.ok sc_law (fun vs H Q E h => ?_) (fun cdv A outer s H vs Q E hr h => ?_)
  · obtain ⟨a, ns, rfl, _⟩ := h
    rfl
  · obtain ⟨a, ns, rfl, hS, hlen, k⟩ := h
    have hu := hu_of hr
    refine ⟨_, (pss_cons (ps_set (i := 1) sc_law.nd rfl (Or.inl rfl) (pe_fn G_law_work F_law_work (hr.mono (by decide)) (pa_cons (pv 0) (pa_cons pe_int (pa_cons (pe_op op_add pe_int (pe_op op_mod (pe_fn G_law_cell F_law_cell (hr.mono (by decide)) (pa_cons (pv 0) (pa_cons pe_int pa_nil))) pe_int)) pa_nil)))))
      (pss_cons (ps_set (i := 2) sc_law.nd rfl (Or.inl rfl) (pe_op op_cat (pe_lst (pa_cons pe_int pa_nil)) (pe_callTy call_list_of rfl B.list bb_list (pa_cons (pv 0) pa_nil))))
      (pss_cons (ps_if (pt_cmpR op_eq (pe_op op_mod (pe_op op_fdiv (pe_fn G_law_cell F_law_cell (hr.mono (by decide)) (pa_cons (pv 0) (pa_cons pe_int pa_nil))) pe_int) pe_int) pe_int (nomark _)) (pss_cons (ps_set (i := 1) sc_law.nd rfl (Or.inl rfl) (pe_fn G_law_work F_law_work (hr.mono (by decide)) (pa_cons (pv 0) (pa_cons pe_int (pa_cons (pe_op op_add pe_int (pe_op op_mod (pe_op op_fdiv (pe_fn G_law_cell F_law_cell (hr.mono (by decide)) (pa_cons (pv 0) (pa_cons pe_int pa_nil))) pe_int) pe_int)) pa_nil)))))
      (pss_one (ps_set (i := 2) sc_law.nd rfl (Or.inl rfl) (pe_slice sl_list (pv 2) po_none (po_some pe_int))))) pss_nil)
      (ps_sem (R := fun D σ H2 => ∃ (n : Nat) (ms : List Nat) (t lc : Addr) (cs : List Int), σ = [some (.ref a), some (.ref t), some (.ref lc), none, none, none, none, none, none] ∧ 0 < n ∧ Mir.WorkL n ms ∧ H2 t = some (.tup (Mir.nV ms)) ∧ H2 lc = some (.lst (cs.map V.int)) ∧ cs.length ≤ 64 ∧ D.rt = Q) fun D σ H2 hR => ?rest)))), ?_⟩
    case rest =>
      obtain ⟨n, ms, t, lc, cs, rfl, n0, W, ht, hc, cl, hD⟩ := hR
      have lim : ∀ x : Nat, x ≤ 1000 → x < sizeLine := fun x hx => small1000 hx
      refine ⟨_, (pss_cons (ps_set (i := 3) sc_law.nd rfl (Or.inl rfl) (pe_disp (pps_cons pe_str (pe_tup (pa_cons pe_int (pa_cons pe_int pa_nil))) (pps_cons pe_str (pe_tup (pa_cons pe_int (pa_cons (pe_un un_neg pe_int) pa_nil))) (pps_cons pe_str (pe_tup (pa_cons (pe_un un_neg pe_int) (pa_cons pe_int pa_nil))) (pps_cons pe_str (pe_tup (pa_cons (pe_un un_neg pe_int) (pa_cons pe_int pa_nil))) pps_nil)))) rfl rfl (List.cons_ne_nil _ _) (by decide)))
      (pss_cons (ps_expr (pe_bm PySem.F.plainAttrs_dict PySem.F.slot_dict_update PySem.F.type_dict_update mt_dupd (pv 3) (pa_cons (pe_disp (pps_cons pe_str (pe_tup (pa_cons pe_int (pa_cons pe_int pa_nil))) (pps_cons pe_str (pe_tup (pa_cons pe_int (pa_cons pe_int pa_nil))) (pps_cons pe_str (pe_tup (pa_cons pe_int (pa_cons pe_int pa_nil))) (pps_cons pe_str (pe_tup (pa_cons pe_int (pa_cons (pe_un un_neg pe_int) pa_nil))) pps_nil)))) rfl rfl (List.cons_ne_nil _ _) (by decide)) pa_nil)))
      (pss_cons (ps_for PassesOwn.never rfl (pi_list (pv 2)) (pg_name (i := 4) sc_law.nd rfl (Or.inl rfl)) (pss_cons (ps_set (i := 5) sc_law.nd rfl (Or.inl rfl) (pe_op op_mod (pv 4) (pe_callB call_len_seq rfl B.len bb_len (pa_cons (pv 1) pa_nil))))
      (pss_cons (ps_set (i := 6) sc_law.nd rfl (Or.inl rfl) (pe_op op_mod (pe_op op_add (pe_op op_add (pe_op op_fdiv (pv 4) (pe_callB call_len_seq rfl B.len bb_len (pa_cons (pv 1) pa_nil))) (pe_op op_mul pe_int (pv 4))) pe_int) (pe_callB call_len_seq rfl B.len bb_len (pa_cons (pv 1) pa_nil))))
      (pss_cons (ps_if (pt_cmpR op_gt (pv 5) (pv 6) (nomark _)) (pss_one (ps_par (i := 5) (j := 6) rfl sc_law.nd rfl rfl (by decide) rfl rfl (pa_cons (pv 6) (pa_cons (pv 5) pa_nil)) rfl)) pss_nil)
      (ps_sem (R := fun D σ H3 => ∃ (ms' : List Nat) (t' d : Addr) (p q : Nat) (v4 v7 v8 : Option V), σ = [some (.ref a), some (.ref t'), some (.ref lc), some (.ref d), v4, some (.int p), some (.int q), v7, v8] ∧ Mir.WorkL n ms' ∧ H3 t' = some (.tup (Mir.nV ms')) ∧ H3 lc = some (.lst (cs.map V.int)) ∧ Mir.Tbl H3 d ∧ p < 2 * n ∧ q < 2 * n ∧ (∀ σ H4, (∃ (ms' : List Nat) (t' : Addr) (v4 v5 v6 v7 v8 : Option V), σ = [some (.ref a), some (.ref t'), some (.ref lc), some (.ref d), v4, v5, v6, v7, v8] ∧ Mir.WorkL n ms' ∧ H4 t' = some (.tup (Mir.nV ms')) ∧ H4 lc = some (.lst (cs.map V.int)) ∧ Mir.Tbl H4 d) → D.nx σ H4)) fun D σ H3 hR => ?fit)))))
      (pss_one (ps_ret pe_bl))))), ?_⟩
      case fit =>
        obtain ⟨ms', t', d, p, q, v4, v7, v8, rfl, W', ht', hc', hT, hp, hq, nx⟩ := hR
        refine ⟨_, (pss_one (ps_if (pt_val (pe_fn G_law_fits F_law_fits (hr.mono (by decide)) (pa_cons (pv 1) (pa_cons (pv 5) (pa_cons (pv 6) pa_nil))))) (pss_cons (ps_set (i := 7) sc_law.nd rfl (Or.inl rfl) (pe_fn G_law_behind F_law_behind (hr.mono (by decide)) (pa_cons (pv 1) (pa_cons (pv 5) (pa_cons (pv 6) pa_nil)))))
      (pss_cons (ps_set (i := 8) sc_law.nd rfl (Or.inl rfl) (pe_fnF G_deed_kind F_deed_kind (hr.mono (by decide)) (pa_cons (pv 1) (pa_cons (pe_tup (pa_cons (pv 5) (pa_cons (pv 6) pa_nil))) pa_nil))))
      (pss_cons (ps_if (PW.pt (pw_or (pt_not (pt_val (pe_callB call_isi rfl B.isinstance bb_isinstance (pa_cons (pv 8) (pa_cons (pe_bltn (v := .ty "str") rfl B.str bb_str rfl) pa_nil))))) (pw_or1 (pt_cmpR op_ne (pv 8) (pe_fn G_law_due F_law_due (hr.mono (by decide)) (pa_cons (pv 1) (pa_cons (pv 5) (pa_cons (pv 6) (pa_cons (pv 7) pa_nil))))) (nomark _))))) (pss_one (ps_ret pe_bl)) pss_nil)
      (pss_cons (ps_if (pt_cmpR (op_ne_tupD (Nat.lt_of_succ_lt hu)) (pe_fn G_law_change F_law_change (hr.mono (by decide)) (pa_cons (pv 1) (pa_cons (pv 7) pa_nil))) (pe_dget hu (pv 3) (pv 8) (fun _ _ => rfl)) (nomark _)) (pss_one (ps_ret pe_bl)) pss_nil)
      (pss_one (ps_set (i := 1) sc_law.nd rfl (Or.inl rfl) (pv 7))))))) pss_nil)), ?_⟩
        refine ⟨_, rfl, _, rfl, _, rfl, t', n, ms', p, q, rfl, SqT.of ht', W', _, rfl, ?_⟩
        refine ite2 (fun h1 => ?_) (fun h1 => ?_)
        · have fit : Mir.Fits n ms' p q := of_decide_eq_true h1
          obtain ⟨x, y, e1, e2, f1, f2, f3⟩ := fit.nat
          have e1 : p = x := by omega
          have e2 : q = y := by omega
          subst e1 e2
          have kc := Mir.kind_chg W' hp hq f3
          have WB := Mir.beh_work W' hp hq f3
          refine ⟨_, rfl, _, rfl, _, rfl, t', n, ms', p, q, rfl, SqT.of ht', W', hp, hq, f3, fun tb H4 htb s4 hb => ?_⟩
          refine ⟨_, rfl, _, rfl, _, rfl, by show 2 ≤ sizeLine; decide, fun tp htp => ?_⟩
          have s5 : Same H4 (upd H4 tp (.tup [.int p, .int q])) := same_upd htp
          have h5 : upd H4 tp (.tup [.int p, .int q]) tp = some (.tup [.int p, .int q]) := upd_same
          generalize upd H4 tp (.tup [.int p, .int q]) = H5 at s5 h5
          have s45 := s4.trans s5
          refine ⟨t', tp, n, ms', p, q, rfl, SqT.of (s45 _ _ ht'), W', h5, W'.end_sm hp, W'.end_sm hq, fun _ H6 s6 => ?_, fun z => absurd fit z⟩
          rw [Int.toNat_natCast, Int.toNat_natCast]
          have s56 := s45.trans s6
          have hb6 := s6 _ _ (s5 _ _ hb)
          refine ⟨_, rfl, _, _, _, _, rfl, .str _, Mir.kit_str_str _, _, rfl, iteF ?_⟩
          refine ⟨_, rfl, _, rfl, _, rfl, _, rfl, _, rfl, t', tb, n, ms', p, q, rfl, SqT.of (s56 _ _ ht'), W', hp, hq, f3, SqT.of hb6, fun H7 s7 => ?_⟩
          refine ⟨rfl, _, rfl, iteNS rfl ?_⟩
          have s57 := s56.trans s7
          refine ⟨_, rfl, _, rfl, t', tb, n, ms', _, rfl, SqT.of (s57 _ _ ht'), W', SqT.of (s7 _ _ hb6), WB, fun tc H8 s8 hc8 => ?_⟩
          have s58 := s57.trans s8
          obtain ⟨kvs, g1, g2⟩ := hT.same s58
          obtain ⟨tk, g3, g4⟩ := g2 _ kc
          have dg := DGet.k (k := Sum.inr (Mir.kindF n ms' p q)) g1
          rw [g3] at dg
          refine ⟨_, rfl, _, rfl, d, _, rfl, dg, tc, tk, _, _, rfl, rfl, SqT.of hc8, SqT.of g4, _, rfl, iteNS rfl ?_⟩
          refine ⟨_, rfl, nx _ _ ⟨_, tb, _, _, _, _, _, rfl, WB, s8 _ _ (s7 _ _ hb6), s58 _ _ hc', hT.same s58⟩⟩
        · exact nx _ _ ⟨ms', t', _, _, _, _, _, rfl, W', ht', hc', hT⟩
      intro d hd
      have nd0 : ∀ {G : Hp} {x : Addr}, G d = some (.dK []) → G x = none → x ≠ d := fun {G x} g1 g2 z => by rw [z, g1] at g2; cases g2
      have s0 : Same H2 (upd H2 d (.dK [])) := same_upd hd
      have d0 : upd H2 d (.dK []) d = some (.dK []) := upd_same
      generalize upd H2 d (.dK []) = G0 at s0 d0
      refine ⟨by show 2 ≤ sizeLine; decide, fun t1 ht1 => ?_⟩
      have n1 := nd0 d0 ht1
      have s1 : Same G0 (upd G0 t1 (.tup [.int 1, .int 0])) := same_upd ht1
      have h1 : upd G0 t1 (.tup [.int 1, .int 0]) t1 = some (.tup [.int 1, .int 0]) := upd_same
      generalize upd G0 t1 (.tup [.int 1, .int 0]) = G1 at s1 h1
      refine ⟨_, rfl, by show 2 ≤ sizeLine; decide, fun t2 ht2 => ?_⟩
      have n2 := nd0 (s1 _ _ d0) ht2
      have s2 : Same G1 (upd G1 t2 (.tup [.int 1, .int (-1)])) := same_upd ht2
      have h2 : upd G1 t2 (.tup [.int 1, .int (-1)]) t2 = some (.tup [.int 1, .int (-1)]) := upd_same
      generalize upd G1 t2 (.tup [.int 1, .int (-1)]) = G2 at s2 h2
      refine ⟨_, rfl, by show 2 ≤ sizeLine; decide, fun t3 ht3 => ?_⟩
      have n3 := nd0 (s2 _ _ (s1 _ _ d0)) ht3
      have s3 : Same G2 (upd G2 t3 (.tup [.int (-1), .int 0])) := same_upd ht3
      have h3 : upd G2 t3 (.tup [.int (-1), .int 0]) t3 = some (.tup [.int (-1), .int 0]) := upd_same
      generalize upd G2 t3 (.tup [.int (-1), .int 0]) = G3 at s3 h3
      refine ⟨_, rfl, by show 2 ≤ sizeLine; decide, fun t4 ht4 => ?_⟩
      have n4 := nd0 (s3 _ _ (s2 _ _ (s1 _ _ d0))) ht4
      have s4 : Same G3 (upd G3 t4 (.tup [.int (-1), .int 1])) := same_upd ht4
      have h4 : upd G3 t4 (.tup [.int (-1), .int 1]) t4 = some (.tup [.int (-1), .int 1]) := upd_same
      generalize upd G3 t4 (.tup [.int (-1), .int 1]) = G4 at s4 h4
      have d4 := s4 _ _ (s3 _ _ (s2 _ _ (s1 _ _ d0)))
      refine ⟨d4, [(Sum.inr "cut", .ref t1), (Sum.inr "opened", .ref t2), (Sum.inr "joined", .ref t3), (Sum.inr "closed", .ref t4)], rfl, (by show 4 ≤ 15; decide), ?_⟩
      generalize ek1 : mergeK [] ([(Sum.inr "cut", .ref t1), (Sum.inr "opened", .ref t2), (Sum.inr "joined", .ref t3), (Sum.inr "closed", .ref t4)] : List (Key × V)) = kv1
      have a1 := s4 _ _ (s3 _ _ (s2 _ _ h1))
      have a2 := s4 _ _ (s3 _ _ h2)
      have a3 := s4 _ _ h3
      have s5 : Same H2 (upd G4 d (.dK kv1)) := ((((s0.trans s1).trans s2).trans s3).trans s4).upd hd
      have d5 : upd G4 d (.dK kv1) d = some (.dK kv1) := upd_same
      have b1 : upd G4 d (.dK kv1) t1 = some (.tup [.int 1, .int 0]) := by rw [upd_ne n1]; exact a1
      have b2 : upd G4 d (.dK kv1) t2 = some (.tup [.int 1, .int (-1)]) := by rw [upd_ne n2]; exact a2
      have b3 : upd G4 d (.dK kv1) t3 = some (.tup [.int (-1), .int 0]) := by rw [upd_ne n3]; exact a3
      have b4 : upd G4 d (.dK kv1) t4 = some (.tup [.int (-1), .int 1]) := by rw [upd_ne n4]; exact h4
      generalize upd G4 d (.dK kv1) = G5 at s5 d5 b1 b2 b3 b4 ⊢
      refine ⟨_, rfl, .inr (.inr (.inl ⟨rfl, .inl ⟨_, d5⟩⟩)), fun e he => ?_⟩
      have s6 : Same G5 (upd G5 e (.dK [])) := same_upd he
      have e6 : upd G5 e (.dK []) e = some (.dK []) := upd_same
      have ned : d ≠ e := fun z => by rw [← z, d5] at he; cases he
      generalize upd G5 e (.dK []) = G6 at s6 e6
      have nd1 : ∀ {G : Hp} {x : Addr}, G e = some (.dK []) → G x = none → x ≠ e := fun {G x} g1 g2 z => by rw [z, g1] at g2; cases g2
      refine ⟨by show 2 ≤ sizeLine; decide, fun t7 ht7 => ?_⟩
      have n7 := nd1 (e6) ht7
      have s7 : Same G6 (upd G6 t7 (.tup [.int 0, .int 0])) := same_upd ht7
      have h7 : upd G6 t7 (.tup [.int 0, .int 0]) t7 = some (.tup [.int 0, .int 0]) := upd_same
      generalize upd G6 t7 (.tup [.int 0, .int 0]) = G7 at s7 h7
      refine ⟨by show 2 ≤ sizeLine; decide, fun t8 ht8 => ?_⟩
      have n8 := nd1 (s7 _ _ e6) ht8
      have s8 : Same G7 (upd G7 t8 (.tup [.int 0, .int 1])) := same_upd ht8
      have h8 : upd G7 t8 (.tup [.int 0, .int 1]) t8 = some (.tup [.int 0, .int 1]) := upd_same
      generalize upd G7 t8 (.tup [.int 0, .int 1]) = G8 at s8 h8
      refine ⟨by show 2 ≤ sizeLine; decide, fun t9 ht9 => ?_⟩
      have n9 := nd1 (s8 _ _ (s7 _ _ e6)) ht9
      have s9 : Same G8 (upd G8 t9 (.tup [.int 0, .int 0])) := same_upd ht9
      have h9 : upd G8 t9 (.tup [.int 0, .int 0]) t9 = some (.tup [.int 0, .int 0]) := upd_same
      generalize upd G8 t9 (.tup [.int 0, .int 0]) = G9 at s9 h9
      refine ⟨_, rfl, by show 2 ≤ sizeLine; decide, fun t10 ht10 => ?_⟩
      have n10 := nd1 (s9 _ _ (s8 _ _ (s7 _ _ e6))) ht10
      have s10 : Same G9 (upd G9 t10 (.tup [.int 0, .int (-1)])) := same_upd ht10
      have h10 : upd G9 t10 (.tup [.int 0, .int (-1)]) t10 = some (.tup [.int 0, .int (-1)]) := upd_same
      generalize upd G9 t10 (.tup [.int 0, .int (-1)]) = G10 at s10 h10
      have e10 := s10 _ _ (s9 _ _ (s8 _ _ (s7 _ _ e6)))
      refine ⟨e10, [(Sum.inr "turned", .ref t7), (Sum.inr "parted", .ref t8), (Sum.inr "crossed", .ref t9), (Sum.inr "taken", .ref t10)], rfl, (by show 4 ≤ 15; decide), ?_⟩
      generalize ek2 : mergeK [] ([(Sum.inr "turned", .ref t7), (Sum.inr "parted", .ref t8), (Sum.inr "crossed", .ref t9), (Sum.inr "taken", .ref t10)] : List (Key × V)) = kv2
      have a7 := s10 _ _ (s9 _ _ (s8 _ _ h7))
      have a8 := s10 _ _ (s9 _ _ h8)
      have a9 := s10 _ _ h9
      have s11 : Same G5 (upd G10 e (.dK kv2)) := ((((s6.trans s7).trans s8).trans s9).trans s10).upd he
      have e11 : upd G10 e (.dK kv2) e = some (.dK kv2) := upd_same
      have b7 : upd G10 e (.dK kv2) t7 = some (.tup [.int 0, .int 0]) := by rw [upd_ne n7]; exact a7
      have b8 : upd G10 e (.dK kv2) t8 = some (.tup [.int 0, .int 1]) := by rw [upd_ne n8]; exact a8
      have b9 : upd G10 e (.dK kv2) t9 = some (.tup [.int 0, .int 0]) := by rw [upd_ne n9]; exact a9
      have b10 : upd G10 e (.dK kv2) t10 = some (.tup [.int 0, .int (-1)]) := by rw [upd_ne n10]; exact h10
      generalize upd G10 e (.dK kv2) = G11 at s11 e11 b7 b8 b9 b10 ⊢
      refine ⟨d, e, kv1, kv2, rfl, rfl, ned, s11 _ _ d5, e11, (by rw [← ek1, ← ek2]; show 4 + 4 ≤ 100; decide), ?_⟩
      have nt : ∀ {x : Addr} {xs : List V}, G11 x = some (.tup xs) → upd G11 d (.dK (mergeK kv1 kv2)) x = some (.tup xs) := fun {x xs} h => by
        rw [upd_ne fun z => by rw [z, s11 _ _ d5] at h; cases h]
        exact h
      have T12 : Mir.Tbl (upd G11 d (.dK (mergeK kv1 kv2))) d := by
        refine ⟨_, upd_same, fun r hr => ?_⟩
        rw [← ek1, ← ek2] at nt ⊢
        unfold Mir.tbl at hr
        simp only [List.mem_cons, List.not_mem_nil, or_false] at hr
        rcases hr with rfl | rfl | rfl | rfl | rfl | rfl | rfl | rfl
        · exact ⟨t1, rfl, nt (s11 _ _ b1)⟩
        · exact ⟨t2, rfl, nt (s11 _ _ b2)⟩
        · exact ⟨t3, rfl, nt (s11 _ _ b3)⟩
        · exact ⟨t4, rfl, nt (s11 _ _ b4)⟩
        · exact ⟨t7, rfl, nt b7⟩
        · exact ⟨t8, rfl, nt b8⟩
        · exact ⟨t9, rfl, nt b9⟩
        · exact ⟨t10, rfl, nt b10⟩
      have s12 : Same H2 (upd G11 d (.dK (mergeK kv1 kv2))) := (s5.trans s11).upd hd
      generalize upd G11 d (.dK (mergeK kv1 kv2)) = G12 at T12 s12 ⊢
      refine ⟨_, rfl, lc, rfl, ⟨_, SqL.of (s12 _ _ hc)⟩, for_list (K := K) (a := lc) (xs := cs.map V.int) (fun i σ H3 => ∃ (ms' : List Nat) (t' : Addr) (v4 v5 v6 v7 v8 : Option V), σ = [some (.ref a), some (.ref t'), some (.ref lc), some (.ref d), v4, v5, v6, v7, v8] ∧ Mir.WorkL n ms' ∧ H3 t' = some (.tup (Mir.nV ms')) ∧ H3 lc = some (.lst (cs.map V.int)) ∧ Mir.Tbl H3 d)
        ⟨ms, t, none, none, none, none, none, rfl, W, s12 _ _ ht, s12 _ _ hc, T12⟩ (fun i σ H3 _ ⟨_, _, _, _, _, _, _, _, _, _, h, _⟩ => SqL.of h) ?_ ?_⟩
      · rintro i z σ H3 hz ⟨ms', t', v4, v5, v6, v7, v8, rfl, W', ht', hc', hT⟩
        obtain ⟨c, rfl⟩ : ∃ c, z = V.int c := by
          obtain ⟨c, _, e⟩ := List.mem_map.mp (List.mem_of_getElem? hz)
          exact ⟨c, e.symm⟩
        have hl : (((Mir.nV ms').length : Nat) : Int) = 2 * n := by rw [Mir.nV_len, W'.len]; omega
        have lpos : 0 < (((Mir.nV ms').length : Nat) : Int) := by rw [hl]; omega
        have hn := W'.small
        have hu5 : SqT K H3 t' (Mir.nV ms') := SqT.of ht'
        refine ⟨_, rfl, _, rfl, t', _, rfl, .inr hu5, _, _, rfl, rfl, lpos, ?_⟩
        refine ⟨_, rfl, _, rfl, t', _, rfl, .inr hu5, _, _, rfl, rfl, ⟨lpos, by rw [hl]; omega⟩, _, rfl, _, _, rfl, rfl, .inl ⟨by decide, by decide⟩, _, _, rfl, rfl, _, _, rfl, rfl, _, rfl, t', _, rfl, .inr hu5, _, _, rfl, rfl, lpos, ?_⟩
        dsimp only
        have mk : ∀ z : Int, ∃ x : Nat, z % (((Mir.nV ms').length : Nat) : Int) = x ∧ x < 2 * n := fun z => by
          have z0 := Int.emod_nonneg z (show (((Mir.nV ms').length : Nat) : Int) ≠ 0 by omega)
          have z1 := Int.emod_lt_of_pos z lpos
          exact ⟨(z % (((Mir.nV ms').length : Nat) : Int)).toNat, by omega, by omega⟩
        obtain ⟨x, ex, hx⟩ := mk c
        obtain ⟨y, ey, hy⟩ := mk (c / (((Mir.nV ms').length : Nat) : Int) + 3 * c + 1)
        rw [ex, ey]
        refine ⟨_, rfl, _, rfl, _, _, rfl, rfl, _, rfl, ?_⟩
        refine ite2 (fun g => ?_) (fun g => ?_)
        · exact ⟨_, rfl, _, rfl, _, _, rfl, ms', t', d, y, x, _, _, _, rfl, W', ht', hc', hT, hy, hx, fun σ H4 h => h⟩
        · exact ⟨ms', t', d, x, y, _, _, _, rfl, W', ht', hc', hT, hx, hy, fun σ H4 h => h⟩
      · rintro σ H3 _
        show D.rt _ _
        rw [hD]
        exact k _
    refine ⟨_, rfl, _, rfl, a, ns, 0, rfl, hS, fun c0 => ?_⟩
    refine ⟨_, _, rfl, rfl, (by show (0 : Int) < 9; decide), _, _, rfl, rfl, ?_⟩
    dsimp only
    obtain ⟨n, hn⟩ : ∃ n : Nat, 1 + c0 % 9 = n := ⟨(1 + c0 % 9).toNat, by omega⟩
    rw [hn]
    refine ⟨a, ns, 1, n, rfl, hS, by omega, by omega, fun t H1 ms ht s1 W h1 => ?_⟩
    refine ⟨by show 1 ≤ sizeLine; decide, fun l1 hl1 => ?_⟩
    have s2 : Same H1 (upd H1 l1 (.lst [.int 1])) := same_upd hl1
    refine ⟨_, rfl, a, _, rfl, .inl ((s1.trans s2).seq hS), fun l2 hl2 => ?_⟩
    have s3 : Same (upd H1 l1 (.lst [.int 1])) (upd (upd H1 l1 (.lst [.int 1])) l2 (.lst (ns.map V.int))) := same_upd hl2
    refine ⟨l1, l2, _, _, rfl, rfl, s3 _ _ upd_same, upd_same, Nat.le_of_lt (small1000 (by rw [List.length_map]; show 1 + _ ≤ _; omega)), fun lc hlc => ?_⟩
    have s4 := ((s2.trans s3).trans (same_upd hlc : Same _ (upd (upd (upd H1 l1 (.lst [.int 1])) l2 (.lst (ns.map V.int))) lc (.lst ([.int 1] ++ ns.map V.int)))))
    have h4 : upd (upd (upd H1 l1 (.lst [.int 1])) l2 (.lst (ns.map V.int))) lc (.lst ([.int 1] ++ ns.map V.int)) lc = some (.lst ((1 :: ns).map V.int)) := upd_same
    have s14 := s1.trans s4
    have ht4 := s4 _ _ h1
    generalize upd (upd (upd H1 l1 (.lst [.int 1])) l2 (.lst (ns.map V.int))) lc (.lst ([.int 1] ++ ns.map V.int)) = H4 at s4 h4 s14 ht4
    refine ⟨_, rfl, a, ns, 0, rfl, s14.seq hS, fun c1 => ?_⟩
    refine ⟨_, _, rfl, rfl, ⟨by decide, by decide⟩, _, _, rfl, rfl, (by show (0 : Int) < 8; decide), rfl, _, rfl, ?_⟩
    refine ite2 (fun g1 => ?_) (fun g1 => ?_)
    · refine ⟨_, rfl, _, rfl, a, ns, 0, rfl, s14.seq hS, fun c2 => ?_⟩
      refine ⟨_, _, rfl, rfl, ⟨by decide, by decide⟩, _, _, rfl, rfl, (by show (0 : Int) < 31; decide), _, _, rfl, rfl, ?_⟩
      dsimp only
      have g0 : 0 ≤ c2 / 72 % 31 := Int.emod_nonneg _ (by decide)
      have g1 : c2 / 72 % 31 < 31 := Int.emod_lt_of_pos _ (by decide)
      obtain ⟨n2, hn2⟩ : ∃ n : Nat, 10 + c2 / 72 % 31 = n := ⟨(10 + c2 / 72 % 31).toNat, by omega⟩
      rw [hn2]
      refine ⟨a, ns, 1, n2, rfl, s14.seq hS, by omega, by omega, fun t2 H5 ms2 ht2 s5 W2 h5 => ?_⟩
      refine ⟨_, rfl, _, rfl, lc, _, rfl, SqL.of (s5 _ _ h4), fun l9 hl9 => ?_⟩
      have e9 : cutV ((1 :: ns).map V.int) none (some 9) = ((1 :: ns).take 9).map V.int := by rw [List.map_take]; exact Mir.cut_any _ 9
      rw [e9]
      exact ⟨n2, ms2, t2, l9, _, rfl, by omega, W2, same_upd hl9 _ _ h5, upd_same, by rw [List.length_take]; omega, rfl⟩
    · exact ⟨n, ms, t, lc, _, rfl, by omega, W, ht4, h4, by show ns.length + 1 ≤ 64; omega, rfl⟩
end
theorem us0 {R : List Value → Prop} (h : ∀ _ : Unit, R []) (us : List Value) (e : us.length = 0) : R us := (List.length_eq_zero_iff.mp e) ▸ h ()
theorem us1 {R : List Value → Prop} (h : ∀ x0 : Value, R [x0]) (us : List Value) (e : us.length = 1) : R us := by
  obtain ⟨a, r, rfl⟩ := List.exists_cons_of_length_eq_add_one e
  exact us0 (R := fun r => R (a :: r)) (fun _ => h a) r (Nat.succ.inj e)
theorem us2 {R : List Value → Prop} (h : ∀ x0 x1 : Value, R [x0, x1]) (us : List Value) (e : us.length = 2) : R us := by
  obtain ⟨a, r, rfl⟩ := List.exists_cons_of_length_eq_add_one e
  exact us1 (R := fun r => R (a :: r)) (h a) r (Nat.succ.inj e)
theorem us3 {R : List Value → Prop} (h : ∀ x0 x1 x2 : Value, R [x0, x1, x2]) (us : List Value) (e : us.length = 3) : R us := by
  obtain ⟨a, r, rfl⟩ := List.exists_cons_of_length_eq_add_one e
  exact us2 (R := fun r => R (a :: r)) (h a) r (Nat.succ.inj e)
theorem us4 {R : List Value → Prop} (h : ∀ x0 x1 x2 x3 : Value, R [x0, x1, x2, x3]) (us : List Value) (e : us.length = 4) : R us := by
  obtain ⟨a, r, rfl⟩ := List.exists_cons_of_length_eq_add_one e
  exact us3 (R := fun r => R (a :: r)) (h a) r (Nat.succ.inj e)
theorem all_mk {l : PySem.W.OpenLaw} {w : World} {K : PySem.W.Frag} {h : Heap} {mg : Str → Option Value} {fa : Addr} (X : K.In h) (G : h.Ns mainGlobals mg) (hfa : mg "law" = some (.ref fa))
    {f0 : Addr} {od0 an0 : Option Addr} {sl0 : Array (Option Value)} {oc0 kV0 dc0 pm0 cd0 ct0 : Value}
    {f1 : Addr} {od1 an1 : Option Addr} {sl1 : Array (Option Value)} {oc1 kV1 dc1 pm1 cd1 ct1 : Value}
    {f2 : Addr} {od2 an2 : Option Addr} {sl2 : Array (Option Value)} {oc2 kV2 dc2 pm2 cd2 ct2 : Value}
    {f3 : Addr} {od3 an3 : Option Addr} {sl3 : Array (Option Value)} {oc3 kV3 dc3 pm3 cd3 ct3 : Value}
    {f4 : Addr} {od4 an4 : Option Addr} {sl4 : Array (Option Value)} {oc4 kV4 dc4 pm4 cd4 ct4 : Value}
    {f5 : Addr} {od5 an5 : Option Addr} {sl5 : Array (Option Value)} {oc5 kV5 dc5 pm5 cd5 ct5 : Value}
    {f6 : Addr} {od6 an6 : Option Addr} {sl6 : Array (Option Value)} {oc6 kV6 dc6 pm6 cd6 ct6 : Value}
    {f7 : Addr} {od7 an7 : Option Addr} {sl7 : Array (Option Value)} {oc7 kV7 dc7 pm7 cd7 ct7 : Value}
    {f8 : Addr} {od8 an8 : Option Addr} {sl8 : Array (Option Value)} {oc8 kV8 dc8 pm8 cd8 ct8 : Value}
    {f9 : Addr} {od9 an9 : Option Addr} {sl9 : Array (Option Value)} {oc9 kV9 dc9 pm9 cd9 ct9 : Value}
    {f10 : Addr} {od10 an10 : Option Addr} {sl10 : Array (Option Value)} {oc10 kV10 dc10 pm10 cd10 ct10 : Value}
    {f11 : Addr} {od11 an11 : Option Addr} {sl11 : Array (Option Value)} {oc11 kV11 dc11 pm11 cd11 ct11 : Value}
    {f12 : Addr} {od12 an12 : Option Addr} {sl12 : Array (Option Value)} {oc12 kV12 dc12 pm12 cd12 ct12 : Value}
    {f13 : Addr} {od13 an13 : Option Addr} {sl13 : Array (Option Value)} {oc13 kV13 dc13 pm13 cd13 ct13 : Value}
    {f14 : Addr} {od14 an14 : Option Addr} {sl14 : Array (Option Value)} {oc14 kV14 dc14 pm14 cd14 ct14 : Value}
    {f15 : Addr} {od15 an15 : Option Addr} {sl15 : Array (Option Value)} {oc15 kV15 dc15 pm15 cd15 ct15 : Value}
    {f16 : Addr} {od16 an16 : Option Addr} {sl16 : Array (Option Value)} {oc16 kV16 dc16 pm16 cd16 ct16 : Value}
    {f17 : Addr} {od17 an17 : Option Addr} {sl17 : Array (Option Value)} {oc17 kV17 dc17 pm17 cd17 ct17 : Value}
    {f18 : Addr} {od18 an18 : Option Addr} {sl18 : Array (Option Value)} {oc18 kV18 dc18 pm18 cd18 ct18 : Value}
    {f19 : Addr} {od19 an19 : Option Addr} {sl19 : Array (Option Value)} {oc19 kV19 dc19 pm19 cd19 ct19 : Value}
    {f20 : Addr} {od20 an20 : Option Addr} {sl20 : Array (Option Value)} {oc20 kV20 dc20 pm20 cd20 ct20 : Value}
    {f21 : Addr} {od21 an21 : Option Addr} {sl21 : Array (Option Value)} {oc21 kV21 dc21 pm21 cd21 ct21 : Value}
    {f22 : Addr} {od22 an22 : Option Addr} {sl22 : Array (Option Value)} {oc22 kV22 dc22 pm22 cd22 ct22 : Value}
    {f23 : Addr} {od23 an23 : Option Addr} {sl23 : Array (Option Value)} {oc23 kV23 dc23 pm23 cd23 ct23 : Value}
    (a0 : PySem.W.nsIn K mainGlobals "staves_in" = some (some (.ref f0))) (l0 : K.lookup f0 = some ⟨oc0, od0, .func (PySem.W.fnOf "staves_in" "staves_in" (defArgs s_staves_in) (defBody s_staves_in) (defScope s_staves_in) .none kV0 dc0 pm0 an0 cd0 ct0), sl0⟩) (c0 : PySem.W.codeIn K cd0 "staves_in" = true) (k0 : PySem.W.keepIn K (.ref f0) = true)
    (a1 : PySem.W.nsIn K mainGlobals "far_end" = some (some (.ref f1))) (l1 : K.lookup f1 = some ⟨oc1, od1, .func (PySem.W.fnOf "far_end" "far_end" (defArgs s_far_end) (defBody s_far_end) (defScope s_far_end) .none kV1 dc1 pm1 an1 cd1 ct1), sl1⟩) (c1 : PySem.W.codeIn K cd1 "far_end" = true) (k1 : PySem.W.keepIn K (.ref f1) = true)
    (a2 : PySem.W.nsIn K mainGlobals "loose_ends" = some (some (.ref f2))) (l2 : K.lookup f2 = some ⟨oc2, od2, .func (PySem.W.fnOf "loose_ends" "loose_ends" (defArgs s_loose_ends) (defBody s_loose_ends) (defScope s_loose_ends) .none kV2 dc2 pm2 an2 cd2 ct2), sl2⟩) (c2 : PySem.W.codeIn K cd2 "loose_ends" = true) (k2 : PySem.W.keepIn K (.ref f2) = true)
    (a3 : PySem.W.nsIn K mainGlobals "rows_in" = some (some (.ref f3))) (l3 : K.lookup f3 = some ⟨oc3, od3, .func (PySem.W.fnOf "rows_in" "rows_in" (defArgs s_rows_in) (defBody s_rows_in) (defScope s_rows_in) .none kV3 dc3 pm3 an3 cd3 ct3), sl3⟩) (c3 : PySem.W.codeIn K cd3 "rows_in" = true) (k3 : PySem.W.keepIn K (.ref f3) = true)
    (a4 : PySem.W.nsIn K mainGlobals "rings_in" = some (some (.ref f4))) (l4 : K.lookup f4 = some ⟨oc4, od4, .func (PySem.W.fnOf "rings_in" "rings_in" (defArgs s_rings_in) (defBody s_rings_in) (defScope s_rings_in) .none kV4 dc4 pm4 an4 cd4 ct4), sl4⟩) (c4 : PySem.W.codeIn K cd4 "rings_in" = true) (k4 : PySem.W.keepIn K (.ref f4) = true)
    (a5 : PySem.W.nsIn K mainGlobals "walked_from" = some (some (.ref f5))) (l5 : K.lookup f5 = some ⟨oc5, od5, .func (PySem.W.fnOf "walked_from" "walked_from" (defArgs s_walked_from) (defBody s_walked_from) (defScope s_walked_from) .none kV5 dc5 pm5 an5 cd5 ct5), sl5⟩) (c5 : PySem.W.codeIn K cd5 "walked_from" = true) (k5 : PySem.W.keepIn K (.ref f5) = true)
    (a6 : PySem.W.nsIn K mainGlobals "mark_staves" = some (some (.ref f6))) (l6 : K.lookup f6 = some ⟨oc6, od6, .func (PySem.W.fnOf "mark_staves" "mark_staves" (defArgs s_mark_staves) (defBody s_mark_staves) (defScope s_mark_staves) .none kV6 dc6 pm6 an6 cd6 ct6), sl6⟩) (c6 : PySem.W.codeIn K cd6 "mark_staves" = true) (k6 : PySem.W.keepIn K (.ref f6) = true)
    (a7 : PySem.W.nsIn K mainGlobals "fits_work" = some (some (.ref f7))) (l7 : K.lookup f7 = some ⟨oc7, od7, .func (PySem.W.fnOf "fits_work" "fits_work" (defArgs s_fits_work) (defBody s_fits_work) (defScope s_fits_work) .none kV7 dc7 pm7 an7 cd7 ct7), sl7⟩) (c7 : PySem.W.codeIn K cd7 "fits_work" = true) (k7 : PySem.W.keepIn K (.ref f7) = true)
    (a8 : PySem.W.nsIn K mainGlobals "refuse_misfit" = some (some (.ref f8))) (l8 : K.lookup f8 = some ⟨oc8, od8, .func (PySem.W.fnOf "refuse_misfit" "refuse_misfit" (defArgs s_refuse_misfit) (defBody s_refuse_misfit) (defScope s_refuse_misfit) .none kV8 dc8 pm8 an8 cd8 ct8), sl8⟩) (c8 : PySem.W.codeIn K cd8 "refuse_misfit" = true) (k8 : PySem.W.keepIn K (.ref f8) = true)
    (a9 : PySem.W.nsIn K mainGlobals "reclasped" = some (some (.ref f9))) (l9 : K.lookup f9 = some ⟨oc9, od9, .func (PySem.W.fnOf "reclasped" "reclasped" (defArgs s_reclasped) (defBody s_reclasped) (defScope s_reclasped) .none kV9 dc9 pm9 an9 cd9 ct9), sl9⟩) (c9 : PySem.W.codeIn K cd9 "reclasped" = true) (k9 : PySem.W.keepIn K (.ref f9) = true)
    (a10 : PySem.W.nsIn K mainGlobals "freed_ends" = some (some (.ref f10))) (l10 : K.lookup f10 = some ⟨oc10, od10, .func (PySem.W.fnOf "freed_ends" "freed_ends" (defArgs s_freed_ends) (defBody s_freed_ends) (defScope s_freed_ends) .none kV10 dc10 pm10 an10 cd10 ct10), sl10⟩) (c10 : PySem.W.codeIn K cd10 "freed_ends" = true) (k10 : PySem.W.keepIn K (.ref f10) = true)
    (a11 : PySem.W.nsIn K mainGlobals "clasp_ends" = some (some (.ref f11))) (l11 : K.lookup f11 = some ⟨oc11, od11, .func (PySem.W.fnOf "clasp_ends" "clasp_ends" (defArgs s_clasp_ends) (defBody s_clasp_ends) (defScope s_clasp_ends) .none kV11 dc11 pm11 an11 cd11 ct11), sl11⟩) (c11 : PySem.W.codeIn K cd11 "clasp_ends" = true) (k11 : PySem.W.keepIn K (.ref f11) = true)
    (a12 : PySem.W.nsIn K mainGlobals "deed_kind" = some (some (.ref f12))) (l12 : K.lookup f12 = some ⟨oc12, od12, .func (PySem.W.fnOf "deed_kind" "deed_kind" (defArgs s_deed_kind) (defBody s_deed_kind) (defScope s_deed_kind) .none kV12 dc12 pm12 an12 cd12 ct12), sl12⟩) (c12 : PySem.W.codeIn K cd12 "deed_kind" = true) (k12 : PySem.W.keepIn K (.ref f12) = true)
    (a13 : PySem.W.nsIn K mainGlobals "chain_with" = some (some (.ref f13))) (l13 : K.lookup f13 = some ⟨oc13, od13, .func (PySem.W.fnOf "chain_with" "chain_with" (defArgs s_chain_with) (defBody s_chain_with) (defScope s_chain_with) .none kV13 dc13 pm13 an13 cd13 ct13), sl13⟩) (c13 : PySem.W.codeIn K cd13 "chain_with" = true) (k13 : PySem.W.keepIn K (.ref f13) = true)
    (a14 : PySem.W.nsIn K mainGlobals "_law_cell" = some (some (.ref f14))) (l14 : K.lookup f14 = some ⟨oc14, od14, .func (PySem.W.fnOf "_law_cell" "_law_cell" (defArgs s_law_cell) (defBody s_law_cell) (defScope s_law_cell) .none kV14 dc14 pm14 an14 cd14 ct14), sl14⟩) (c14 : PySem.W.codeIn K cd14 "_law_cell" = true) (k14 : PySem.W.keepIn K (.ref f14) = true)
    (a15 : PySem.W.nsIn K mainGlobals "_law_number" = some (some (.ref f15))) (l15 : K.lookup f15 = some ⟨oc15, od15, .func (PySem.W.fnOf "_law_number" "_law_number" (defArgs s_law_number) (defBody s_law_number) (defScope s_law_number) .none kV15 dc15 pm15 an15 cd15 ct15), sl15⟩) (c15 : PySem.W.codeIn K cd15 "_law_number" = true) (k15 : PySem.W.keepIn K (.ref f15) = true)
    (a16 : PySem.W.nsIn K mainGlobals "_law_work" = some (some (.ref f16))) (l16 : K.lookup f16 = some ⟨oc16, od16, .func (PySem.W.fnOf "_law_work" "_law_work" (defArgs s_law_work) (defBody s_law_work) (defScope s_law_work) .none kV16 dc16 pm16 an16 cd16 ct16), sl16⟩) (c16 : PySem.W.codeIn K cd16 "_law_work" = true) (k16 : PySem.W.keepIn K (.ref f16) = true)
    (a17 : PySem.W.nsIn K mainGlobals "_law_fits" = some (some (.ref f17))) (l17 : K.lookup f17 = some ⟨oc17, od17, .func (PySem.W.fnOf "_law_fits" "_law_fits" (defArgs s_law_fits) (defBody s_law_fits) (defScope s_law_fits) .none kV17 dc17 pm17 an17 cd17 ct17), sl17⟩) (c17 : PySem.W.codeIn K cd17 "_law_fits" = true) (k17 : PySem.W.keepIn K (.ref f17) = true)
    (a18 : PySem.W.nsIn K mainGlobals "_law_behind" = some (some (.ref f18))) (l18 : K.lookup f18 = some ⟨oc18, od18, .func (PySem.W.fnOf "_law_behind" "_law_behind" (defArgs s_law_behind) (defBody s_law_behind) (defScope s_law_behind) .none kV18 dc18 pm18 an18 cd18 ct18), sl18⟩) (c18 : PySem.W.codeIn K cd18 "_law_behind" = true) (k18 : PySem.W.keepIn K (.ref f18) = true)
    (a19 : PySem.W.nsIn K mainGlobals "_law_hang_together" = some (some (.ref f19))) (l19 : K.lookup f19 = some ⟨oc19, od19, .func (PySem.W.fnOf "_law_hang_together" "_law_hang_together" (defArgs s_law_hang_together) (defBody s_law_hang_together) (defScope s_law_hang_together) .none kV19 dc19 pm19 an19 cd19 ct19), sl19⟩) (c19 : PySem.W.codeIn K cd19 "_law_hang_together" = true) (k19 : PySem.W.keepIn K (.ref f19) = true)
    (a20 : PySem.W.nsIn K mainGlobals "_law_row_names" = some (some (.ref f20))) (l20 : K.lookup f20 = some ⟨oc20, od20, .func (PySem.W.fnOf "_law_row_names" "_law_row_names" (defArgs s_law_row_names) (defBody s_law_row_names) (defScope s_law_row_names) .none kV20 dc20 pm20 an20 cd20 ct20), sl20⟩) (c20 : PySem.W.codeIn K cd20 "_law_row_names" = true) (k20 : PySem.W.keepIn K (.ref f20) = true)
    (a21 : PySem.W.nsIn K mainGlobals "_law_due" = some (some (.ref f21))) (l21 : K.lookup f21 = some ⟨oc21, od21, .func (PySem.W.fnOf "_law_due" "_law_due" (defArgs s_law_due) (defBody s_law_due) (defScope s_law_due) .none kV21 dc21 pm21 an21 cd21 ct21), sl21⟩) (c21 : PySem.W.codeIn K cd21 "_law_due" = true) (k21 : PySem.W.keepIn K (.ref f21) = true)
    (a22 : PySem.W.nsIn K mainGlobals "_law_change" = some (some (.ref f22))) (l22 : K.lookup f22 = some ⟨oc22, od22, .func (PySem.W.fnOf "_law_change" "_law_change" (defArgs s_law_change) (defBody s_law_change) (defScope s_law_change) .none kV22 dc22 pm22 an22 cd22 ct22), sl22⟩) (c22 : PySem.W.codeIn K cd22 "_law_change" = true) (k22 : PySem.W.keepIn K (.ref f22) = true)
    (a23 : PySem.W.nsIn K mainGlobals "law" = some (some (.ref f23))) (l23 : K.lookup f23 = some ⟨oc23, od23, .func (PySem.W.fnOf "law" "law" (defArgs s_law) (defBody s_law) (defScope s_law) .none kV23 dc23 pm23 an23 cd23 ct23), sl23⟩) (c23 : PySem.W.codeIn K cd23 "law" = true) (k23 : PySem.W.keepIn K (.ref f23) = true)
    (z0 : PySem.W.nsIn K mainGlobals "enumerate" = some none)
    (z1 : PySem.W.nsIn K mainGlobals "isinstance" = some none)
    (z2 : PySem.W.nsIn K mainGlobals "len" = some none)
    (z3 : PySem.W.nsIn K mainGlobals "list" = some none)
    (z4 : PySem.W.nsIn K mainGlobals "max" = some none)
    (z5 : PySem.W.nsIn K mainGlobals "min" = some none)
    (z6 : PySem.W.nsIn K mainGlobals "range" = some none)
    (z7 : PySem.W.nsIn K mainGlobals "set" = some none)
    (z8 : PySem.W.nsIn K mainGlobals "str" = some none)
    (z9 : PySem.W.nsIn K mainGlobals "tuple" = some none)
    {C_BadDeed : Addr}
    (g_BadDeed : PySem.W.nsIn K mainGlobals "BadDeed" = some (some (.ref C_BadDeed)))
    (x_BadDeed : PySem.W.excIn K C_BadDeed [.type "ValueError", .type "Exception", .type "BaseException", .type "object"] "ValueError.__new__" = true)
    : ∃ fd : FuncData, (∀ (s : Shared) (v : Value), BindsTo s fd ⟨[v], []⟩ [("script", v)]) ∧ ∀ base : Heap, K.In base → base.Ns mainGlobals mg → FnOk l.prog w K mg base CX0 6 fa fd ["script"] (spLaw K) := by
  have e := hfa.symm.trans (PySem.W.mg_of X G a23)
  cases e
  have B : Bl mg := ⟨PySem.W.mg_none_of X G z0, PySem.W.mg_none_of X G z1, PySem.W.mg_none_of X G z2, PySem.W.mg_none_of X G z3, PySem.W.mg_none_of X G z4, PySem.W.mg_none_of X G z5, PySem.W.mg_none_of X G z6, PySem.W.mg_none_of X G z7, PySem.W.mg_none_of X G z8, PySem.W.mg_none_of X G z9⟩
  have F0 : Fn K mg "staves_in" s_staves_in ["work"] _ _ := Fn.mk' (fun_mk (st := s_staves_in) l0 c0 k0) (fun _ _ _ _ _ _ us hl => us1 (R := fun us => bindArgs _ ⟨us, []⟩ = pure (List.zip _ us)) (fun _ => rfl) us hl) (PySem.W.mg_of X G a0)
  have F1 : Fn K mg "far_end" s_far_end ["end"] _ _ := Fn.mk' (fun_mk (st := s_far_end) l1 c1 k1) (fun _ _ _ _ _ _ us hl => us1 (R := fun us => bindArgs _ ⟨us, []⟩ = pure (List.zip _ us)) (fun _ => rfl) us hl) (PySem.W.mg_of X G a1)
  have F2 : Fn K mg "loose_ends" s_loose_ends ["work"] _ _ := Fn.mk' (fun_mk (st := s_loose_ends) l2 c2 k2) (fun _ _ _ _ _ _ us hl => us1 (R := fun us => bindArgs _ ⟨us, []⟩ = pure (List.zip _ us)) (fun _ => rfl) us hl) (PySem.W.mg_of X G a2)
  have F3 : Fn K mg "rows_in" s_rows_in ["work"] _ _ := Fn.mk' (fun_mk (st := s_rows_in) l3 c3 k3) (fun _ _ _ _ _ _ us hl => us1 (R := fun us => bindArgs _ ⟨us, []⟩ = pure (List.zip _ us)) (fun _ => rfl) us hl) (PySem.W.mg_of X G a3)
  have F4 : Fn K mg "rings_in" s_rings_in ["work"] _ _ := Fn.mk' (fun_mk (st := s_rings_in) l4 c4 k4) (fun _ _ _ _ _ _ us hl => us1 (R := fun us => bindArgs _ ⟨us, []⟩ = pure (List.zip _ us)) (fun _ => rfl) us hl) (PySem.W.mg_of X G a4)
  have F5 : Fn K mg "walked_from" s_walked_from ["work", "start"] _ _ := Fn.mk' (fun_mk (st := s_walked_from) l5 c5 k5) (fun _ _ _ _ _ _ us hl => us2 (R := fun us => bindArgs _ ⟨us, []⟩ = pure (List.zip _ us)) (fun _ _ => rfl) us hl) (PySem.W.mg_of X G a5)
  have F6 : Fn K mg "mark_staves" s_mark_staves ["seen", "chain"] _ _ := Fn.mk' (fun_mk (st := s_mark_staves) l6 c6 k6) (fun _ _ _ _ _ _ us hl => us2 (R := fun us => bindArgs _ ⟨us, []⟩ = pure (List.zip _ us)) (fun _ _ => rfl) us hl) (PySem.W.mg_of X G a6)
  have F7 : Fn K mg "fits_work" s_fits_work ["work", "deed"] _ _ := Fn.mk' (fun_mk (st := s_fits_work) l7 c7 k7) (fun _ _ _ _ _ _ us hl => us2 (R := fun us => bindArgs _ ⟨us, []⟩ = pure (List.zip _ us)) (fun _ _ => rfl) us hl) (PySem.W.mg_of X G a7)
  have F8 : Fn K mg "refuse_misfit" s_refuse_misfit ["work", "deed"] _ _ := Fn.mk' (fun_mk (st := s_refuse_misfit) l8 c8 k8) (fun _ _ _ _ _ _ us hl => us2 (R := fun us => bindArgs _ ⟨us, []⟩ = pure (List.zip _ us)) (fun _ _ => rfl) us hl) (PySem.W.mg_of X G a8)
  have F9 : Fn K mg "reclasped" s_reclasped ["work", "deed"] _ _ := Fn.mk' (fun_mk (st := s_reclasped) l9 c9 k9) (fun _ _ _ _ _ _ us hl => us2 (R := fun us => bindArgs _ ⟨us, []⟩ = pure (List.zip _ us)) (fun _ _ => rfl) us hl) (PySem.W.mg_of X G a9)
  have F10 : Fn K mg "freed_ends" s_freed_ends ["work", "deed"] _ _ := Fn.mk' (fun_mk (st := s_freed_ends) l10 c10 k10) (fun _ _ _ _ _ _ us hl => us2 (R := fun us => bindArgs _ ⟨us, []⟩ = pure (List.zip _ us)) (fun _ _ => rfl) us hl) (PySem.W.mg_of X G a10)
  have F11 : Fn K mg "clasp_ends" s_clasp_ends ["mates", "one", "other"] _ _ := Fn.mk' (fun_mk (st := s_clasp_ends) l11 c11 k11) (fun _ _ _ _ _ _ us hl => us3 (R := fun us => bindArgs _ ⟨us, []⟩ = pure (List.zip _ us)) (fun _ _ _ => rfl) us hl) (PySem.W.mg_of X G a11)
  have F12 : Fn K mg "deed_kind" s_deed_kind ["work", "deed"] _ _ := Fn.mk' (fun_mk (st := s_deed_kind) l12 c12 k12) (fun _ _ _ _ _ _ us hl => us2 (R := fun us => bindArgs _ ⟨us, []⟩ = pure (List.zip _ us)) (fun _ _ => rfl) us hl) (PySem.W.mg_of X G a12)
  have F13 : Fn K mg "chain_with" s_chain_with ["chains", "end"] _ _ := Fn.mk' (fun_mk (st := s_chain_with) l13 c13 k13) (fun _ _ _ _ _ _ us hl => us2 (R := fun us => bindArgs _ ⟨us, []⟩ = pure (List.zip _ us)) (fun _ _ => rfl) us hl) (PySem.W.mg_of X G a13)
  have F14 : Fn K mg "_law_cell" s_law_cell ["script", "k"] _ _ := Fn.mk' (fun_mk (st := s_law_cell) l14 c14 k14) (fun _ _ _ _ _ _ us hl => us2 (R := fun us => bindArgs _ ⟨us, []⟩ = pure (List.zip _ us)) (fun _ _ => rfl) us hl) (PySem.W.mg_of X G a14)
  have F15 : Fn K mg "_law_number" s_law_number ["script", "k"] _ _ := Fn.mk' (fun_mk (st := s_law_number) l15 c15 k15) (fun _ _ _ _ _ _ us hl => us2 (R := fun us => bindArgs _ ⟨us, []⟩ = pure (List.zip _ us)) (fun _ _ => rfl) us hl) (PySem.W.mg_of X G a15)
  have F16 : Fn K mg "_law_work" s_law_work ["script", "at", "staves"] _ _ := Fn.mk' (fun_mk (st := s_law_work) l16 c16 k16) (fun _ _ _ _ _ _ us hl => us3 (R := fun us => bindArgs _ ⟨us, []⟩ = pure (List.zip _ us)) (fun _ _ _ => rfl) us hl) (PySem.W.mg_of X G a16)
  have F17 : Fn K mg "_law_fits" s_law_fits ["work", "one", "two"] _ _ := Fn.mk' (fun_mk (st := s_law_fits) l17 c17 k17) (fun _ _ _ _ _ _ us hl => us3 (R := fun us => bindArgs _ ⟨us, []⟩ = pure (List.zip _ us)) (fun _ _ _ => rfl) us hl) (PySem.W.mg_of X G a17)
  have F18 : Fn K mg "_law_behind" s_law_behind ["work", "one", "two"] _ _ := Fn.mk' (fun_mk (st := s_law_behind) l18 c18 k18) (fun _ _ _ _ _ _ us hl => us3 (R := fun us => bindArgs _ ⟨us, []⟩ = pure (List.zip _ us)) (fun _ _ _ => rfl) us hl) (PySem.W.mg_of X G a18)
  have F19 : Fn K mg "_law_hang_together" s_law_hang_together ["work"] _ _ := Fn.mk' (fun_mk (st := s_law_hang_together) l19 c19 k19) (fun _ _ _ _ _ _ us hl => us1 (R := fun us => bindArgs _ ⟨us, []⟩ = pure (List.zip _ us)) (fun _ => rfl) us hl) (PySem.W.mg_of X G a19)
  have F20 : Fn K mg "_law_row_names" s_law_row_names ["work", "names"] _ _ := Fn.mk' (fun_mk (st := s_law_row_names) l20 c20 k20) (fun _ _ _ _ _ _ us hl => us2 (R := fun us => bindArgs _ ⟨us, []⟩ = pure (List.zip _ us)) (fun _ _ => rfl) us hl) (PySem.W.mg_of X G a20)
  have F21 : Fn K mg "_law_due" s_law_due ["work", "one", "two", "behind"] _ _ := Fn.mk' (fun_mk (st := s_law_due) l21 c21 k21) (fun _ _ _ _ _ _ us hl => us4 (R := fun us => bindArgs _ ⟨us, []⟩ = pure (List.zip _ us)) (fun _ _ _ _ => rfl) us hl) (PySem.W.mg_of X G a21)
  have F22 : Fn K mg "_law_change" s_law_change ["work", "behind"] _ _ := Fn.mk' (fun_mk (st := s_law_change) l22 c22 k22) (fun _ _ _ _ _ _ us hl => us2 (R := fun us => bindArgs _ ⟨us, []⟩ = pure (List.zip _ us)) (fun _ _ => rfl) us hl) (PySem.W.mg_of X G a22)
  have F23 : Fn K mg "law" s_law ["script"] _ _ := Fn.mk' (fun_mk (st := s_law) l23 c23 k23) (fun _ _ _ _ _ _ us hl => us1 (R := fun us => bindArgs _ ⟨us, []⟩ = pure (List.zip _ us)) (fun _ => rfl) us hl) (PySem.W.mg_of X G a23)
  have Z_BadDeed : ECls K mg "BadDeed" C_BadDeed := ⟨PySem.W.mg_of X G g_BadDeed, ⟨_, _, _, _, x_BadDeed, PySem.F.excBase_ValueError⟩⟩
  exact ⟨_, fun s v => .of_eq rfl, fun base _ _ => ok_law B Z_BadDeed F0 F1 F2 F3 F4 F5 F6 F7 F8 F9 F10 F11 F12 F13 F14 F15 F16 F17 F18 F19 F20 F21 F22 F23⟩
theorem walk {l : PySem.W.OpenLaw} {q : Program} {loose : List Str} {XP : (Str → Option Value) → Heap → Prop} {YP : World → Heap → Prop} {d : DefRec} {K : Params → PySem.W.Frag} (hn : l.most = some 63) (hdf : d.params.defaults = [])
    (hY : ∀ (w : World) (h : Heap), YP w h → (K w.params).In h)
    (F : ∀ (w : World) (mg : Str → Option Value) (fa : Addr) (h : Heap), (K w.params).In h → h.Ns mainGlobals mg → mg d.name = some (.ref fa) →
      ∃ fd : FuncData, (∀ (s : Shared) (u : Value), BindsTo s fd ⟨[u], []⟩ [("script", u)]) ∧ ∀ base : Heap, (K w.params).In base → base.Ns mainGlobals mg → FnOk l.prog w (K w.params) mg base CX0 6 fa fd ["script"] (spLaw (K w.params))) :
    PySem.W.WalkO q loose XP YP l.row.toRowW d [] (fun f vs => PySem.call f vs) :=
  L2.walk_of (n := 63) (k := 6) (x := "script") (CX := fun _ => CX0) (sp := fun w => spLaw (K w.params)) hn (by decide) hdf ⟨rfl, by decide, by decide, rfl⟩ hY F (fun _ _ a ns hl _ hS => ⟨a, ns, rfl, hS, hl, fun _ => rfl⟩) fun _ _ _ _ _ z => z
end Law
open PySem PySem.W PyProof.Rows
set_option maxRecDepth 100000 in
set_option maxHeartbeats 0 in
theorem PySem.Challenge.cw_claspwork_k14_what_deeds_do_holds : PySem.Challenge.rw_claspwork_k14_what_deeds_do.Holds := by
  w_on; o_law; k_head; (case hw => w_witness2)
  k_fill
  refine Law.walk (l := PySem.Challenge.rw_claspwork_k14_what_deeds_do) rfl rfl (fun w h Y => PySem.W.kIn_of Y) ?F
  case F =>
    intro w mg fa h KX G hmg
    refine' Law.all_mk KX G hmg ?a0 ?l0 ?c0 ?k0 ?a1 ?l1 ?c1 ?k1 ?a2 ?l2 ?c2 ?k2 ?a3 ?l3 ?c3 ?k3 ?a4 ?l4 ?c4 ?k4 ?a5 ?l5 ?c5 ?k5 ?a6 ?l6 ?c6 ?k6 ?a7 ?l7 ?c7 ?k7 ?a8 ?l8 ?c8 ?k8 ?a9 ?l9 ?c9 ?k9 ?a10 ?l10 ?c10 ?k10 ?a11 ?l11 ?c11 ?k11 ?a12 ?l12 ?c12 ?k12 ?a13 ?l13 ?c13 ?k13 ?a14 ?l14 ?c14 ?k14 ?a15 ?l15 ?c15 ?k15 ?a16 ?l16 ?c16 ?k16 ?a17 ?l17 ?c17 ?k17 ?a18 ?l18 ?c18 ?k18 ?a19 ?l19 ?c19 ?k19 ?a20 ?l20 ?c20 ?k20 ?a21 ?l21 ?c21 ?k21 ?a22 ?l22 ?c22 ?k22 ?a23 ?l23 ?c23 ?k23 ?z0 ?z1 ?z2 ?z3 ?z4 ?z5 ?z6 ?z7 ?z8 ?z9 ?g_BadDeed ?x_BadDeed
    (case a0 => k_is)
    (case l0 => k_is)
    (case c0 => k_is)
    (case k0 => k_is)
    (case a1 => k_is)
    (case l1 => k_is)
    (case c1 => k_is)
    (case k1 => k_is)
    (case a2 => k_is)
    (case l2 => k_is)
    (case c2 => k_is)
    (case k2 => k_is)
    (case a3 => k_is)
    (case l3 => k_is)
    (case c3 => k_is)
    (case k3 => k_is)
    (case a4 => k_is)
    (case l4 => k_is)
    (case c4 => k_is)
    (case k4 => k_is)
    (case a5 => k_is)
    (case l5 => k_is)
    (case c5 => k_is)
    (case k5 => k_is)
    (case a6 => k_is)
    (case l6 => k_is)
    (case c6 => k_is)
    (case k6 => k_is)
    (case a7 => k_is)
    (case l7 => k_is)
    (case c7 => k_is)
    (case k7 => k_is)
    (case a8 => k_is)
    (case l8 => k_is)
    (case c8 => k_is)
    (case k8 => k_is)
    (case a9 => k_is)
    (case l9 => k_is)
    (case c9 => k_is)
    (case k9 => k_is)
    (case a10 => k_is)
    (case l10 => k_is)
    (case c10 => k_is)
    (case k10 => k_is)
    (case a11 => k_is)
    (case l11 => k_is)
    (case c11 => k_is)
    (case k11 => k_is)
    (case a12 => k_is)
    (case l12 => k_is)
    (case c12 => k_is)
    (case k12 => k_is)
    (case a13 => k_is)
    (case l13 => k_is)
    (case c13 => k_is)
    (case k13 => k_is)
    (case a14 => k_is)
    (case l14 => k_is)
    (case c14 => k_is)
    (case k14 => k_is)
    (case a15 => k_is)
    (case l15 => k_is)
    (case c15 => k_is)
    (case k15 => k_is)
    (case a16 => k_is)
    (case l16 => k_is)
    (case c16 => k_is)
    (case k16 => k_is)
    (case a17 => k_is)
    (case l17 => k_is)
    (case c17 => k_is)
    (case k17 => k_is)
    (case a18 => k_is)
    (case l18 => k_is)
    (case c18 => k_is)
    (case k18 => k_is)
    (case a19 => k_is)
    (case l19 => k_is)
    (case c19 => k_is)
    (case k19 => k_is)
    (case a20 => k_is)
    (case l20 => k_is)
    (case c20 => k_is)
    (case k20 => k_is)
    (case a21 => k_is)
    (case l21 => k_is)
    (case c21 => k_is)
    (case k21 => k_is)
    (case a22 => k_is)
    (case l22 => k_is)
    (case c22 => k_is)
    (case k22 => k_is)
    (case a23 => k_is)
    (case l23 => k_is)
    (case c23 => k_is)
    (case k23 => k_is)
    (case z0 => k_is)
    (case z1 => k_is)
    (case z2 => k_is)
    (case z3 => k_is)
    (case z4 => k_is)
    (case z5 => k_is)
    (case z6 => k_is)
    (case z7 => k_is)
    (case z8 => k_is)
    (case z9 => k_is)
    (case g_BadDeed => k_is)
    (case x_BadDeed => kernel_rfl)


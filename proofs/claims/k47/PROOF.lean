import PyProof.Rows.All
import Wide.All
import OpenK.AllK
import Wide.FinOn
import Lean
import PyProof.EqAt
import PyProof.EqKinds
import PyProof.TupleCall
import PyProof.SumWalkG
import KE.KTryMore
import PyProof.NeKinds
import PyProof.ExcAttrAll.ValueError
import KE.KRevIter
import PyProof.ReprRoads
import PyProof.ReprLen
import PyProof.TupleOfSeq
import KE.BitLaws
import PyProof.Rows.SortRuns
import PyProof.Rows.SortShell
import PyProof.DictValues
import KE.KSortTup
import KE.KSortKey
import PyProof.Rows.SetFrom
import PyProof.DictItems
import PyProof.WalkInts
import KE.KIntText
import PyProof.StrLoop
import PyProof.StrWalks
import PyProof.StrCalls2
import PyProof.ConsumeWalk
import PyProof.StrLawsRepr
import PySem.Challenge.RW_claspwork_k47_knots_by_their_gaps
set_option Elab.async false
set_option linter.all false
set_option maxRecDepth 100000
namespace L2
open PySem PySem.Spec PyProof.Rows

abbrev Key := Sum Int Str
def keyIs : Key → Value → Bool
  | .inl k, v => Value.isInt k v
  | .inr x, v => Value.isStrOf x v
def keyH (w : World) : Key → Int
  | .inl k => hashInt k
  | .inr x => hashStr w x
theorem keyIs_shape : ∀ {k : Key} {v : Value}, keyIs k v = true → (∃ i t, k = Sum.inl i ∧ v = Value.int i t) ∨ (∃ x t, k = Sum.inr x ∧ v = Value.str x t)
  | .inl i, v, h => by
    obtain ⟨t, e⟩ := Value.isInt_shape (k := i) (v := v) h
    exact .inl ⟨i, t, rfl, e⟩
  | .inr x, v, h => by
    obtain ⟨t, e⟩ := Value.isStrOf_shape (x := x) (v := v) h
    exact .inr ⟨x, t, rfl, e⟩
theorem keyIs_int (i : Int) (t : Tok) : keyIs (.inl i) (.int i t) = true := by simp [keyIs, Value.isInt]
theorem keyIs_str (x : Str) (t : Tok) : keyIs (.inr x) (.str x t) = true := by simp [keyIs, Value.isStrOf]
theorem key_ll (a b : Int) : decide ((Sum.inl a : Key) = Sum.inl b) = (a == b) := by
  by_cases e : a = b
  · subst e; simp
  · have h : ¬ (Sum.inl a : Key) = Sum.inl b := fun q => e (Sum.inl.inj q)
    rw [decide_eq_false h]
    exact (beq_eq_false_iff_ne.mpr e).symm
theorem key_rr (a b : Str) : decide ((Sum.inr a : Key) = Sum.inr b) = decide (a = b) := by
  by_cases e : a = b
  · subst e; simp
  · have h : ¬ (Sum.inr a : Key) = Sum.inr b := fun q => e (Sum.inr.inj q)
    rw [decide_eq_false h, decide_eq_false e]
theorem key_lr (a : Int) (b : Str) : decide ((Sum.inl a : Key) = Sum.inr b) = false := decide_eq_false (fun q => nomatch q)
theorem key_rl (a : Str) (b : Int) : decide ((Sum.inr a : Key) = Sum.inl b) = false := decide_eq_false (fun q => nomatch q)

def mixKind (prog : Program) (w : World) : PySem.KeyKind prog w Key where
  is := keyIs
  hash := keyH w
  inj := fun v a b ha hb => by
    rcases keyIs_shape ha with ⟨i, t, rfl, rfl⟩ | ⟨x, t, rfl, rfl⟩
    · rcases keyIs_shape hb with ⟨j, u, rfl, e⟩ | ⟨y, u, rfl, e⟩
      · injection e with e1 _; rw [e1]
      · exact nomatch e
    · rcases keyIs_shape hb with ⟨j, u, rfl, e⟩ | ⟨y, u, rfl, e⟩
      · exact nomatch e
      · injection e with e1 _; rw [e1]
  byValue := fun k v h => by
    rcases keyIs_shape h with ⟨i, t, rfl, rfl⟩ | ⟨x, t, rfl, rfl⟩ <;> rfl
  pyHash := fun hv h => by
    rcases keyIs_shape hv with ⟨i, t, rfl, rfl⟩ | ⟨x, t, rfl, rfl⟩
    · exact wpAny_pyHash_int h
    · exact wpAny_pyHash_str h
  eqBool := fun hu hv h => by
    rcases keyIs_shape hu with ⟨i, t, rfl, rfl⟩ | ⟨x, t, rfl, rfl⟩
    · rcases keyIs_shape hv with ⟨j, u, rfl, rfl⟩ | ⟨y, u, rfl, rfl⟩
      · rw [key_ll] at h; exact wpAny_eqBool_int h
      · rw [key_lr] at h; exact SeqAt.EqAt.int_str i t y u _ _ _ _ h
    · rcases keyIs_shape hv with ⟨j, u, rfl, rfl⟩ | ⟨y, u, rfl, rfl⟩
      · rw [key_rl] at h; exact SeqAt.EqAt.str_int x t j u _ _ _ _ h
      · rw [key_rr] at h; exact wpAny_eqBool_str h
  «strs» := fun k x t v h => by
    rcases keyIs_shape h with ⟨i, u, rfl, e⟩ | ⟨y, u, rfl, e⟩
    · exact nomatch e
    · injection e with e1 _
      subst e1
      cases v <;> rfl

theorem mixKind_int (prog : Program) (w : World) (i : Int) (t : Tok) : (mixKind prog w).is (.inl i) (.int i t) = true := keyIs_int i t
theorem mixKind_str (prog : Program) (w : World) (x : Str) (t : Tok) : (mixKind prog w).is (.inr x) (.str x t) = true := keyIs_str x t
end L2

namespace L2
open PySem PySem.Spec PyProof.Rows

inductive V where
  | non | bl (b : Bool) | int (i : Int) | str (x : Str) | byt (b : Array UInt8) | flt (b : UInt64) | ref (a : Addr) | ty (n : String)
  deriving DecidableEq

def RelV : V → Value → Prop
  | .non, u => u = Value.none
  | .bl b, u => u = Value.bool b
  | .int i, u => ∃ t, u = Value.int i t
  | .str x, u => ∃ t, u = Value.str x t
  | .byt b, u => ∃ t, u = Value.bytes b t
  | .flt b, u => ∃ t, u = Value.float b t
  | .ref a, u => u = Value.ref a
  | .ty n, u => u = Value.type n

abbrev Vals : List V → List Value → Prop := Paired RelV
theorem Vals.length {xs : List V} {us : List Value} (r : Vals xs us) : xs.length = us.length := Paired.length r
theorem Vals.get : ∀ {xs : List V} {us : List Value} {i : Nat} {x : V}, Vals xs us → xs[i]? = some x → ∃ u, us[i]? = some u ∧ RelV x u
  | _, _, _, _, .nil, e => by simp at e
  | _, _, 0, _, .cons r _, e => by simp at e; subst e; exact ⟨_, rfl, r⟩
  | _, _, i + 1, x, .cons _ t, e => by
    obtain ⟨u, h1, h2⟩ := Vals.get (i := i) (x := x) t (by simpa using e)
    exact ⟨u, by simpa using h1, h2⟩
theorem Vals.append : ∀ {xs ys : List V} {us ws : List Value}, Vals xs us → Vals ys ws → Vals (xs ++ ys) (us ++ ws)
  | _, _, _, _, .nil, s => s
  | _, _, _, _, .cons r t, s => .cons r (Vals.append t s)
theorem Vals.take : ∀ {xs : List V} {us : List Value} (n : Nat), Vals xs us → Vals (xs.take n) (us.take n)
  | _, _, 0, _ => .nil
  | _, _, _ + 1, .nil => .nil
  | _, _, n + 1, .cons r t => .cons r (Vals.take n t)
theorem Vals.drop : ∀ {xs : List V} {us : List Value} (n : Nat), Vals xs us → Vals (xs.drop n) (us.drop n)
  | _, _, 0, r => r
  | _, _, _ + 1, .nil => .nil
  | _, _, n + 1, .cons _ t => Vals.drop n t
def RelO : Option V → Option Value → Prop
  | some v, some u => RelV v u
  | none, none => True
  | _, _ => False
def KV {κ : Type} : List (κ × V) → List (κ × Value) → Prop := Paired fun (p : κ × V) (q : κ × Value) => p.1 = q.1 ∧ RelV p.2 q.2

def kV : Key → V
  | .inl i => .int i
  | .inr x => .str x

inductive HO where
  | lst (xs : List V)
  | tup (xs : List V)
  | dK (kvs : List (Key × V)) | dT (kvs : List (List Key × V))
  | set (S : Int → Bool) (n : Nat)
  | ins (C dx : Addr) (fs : List (Str × V))
  | own (x : Addr)
  | xd (fs : List (Str × V))
  | met (f x : Addr)
  | rng (lo hi : Int)
  | frz (o : Obj) (u : HO)
  | tbl (ps : Array Value)
  | ext (φ : Heap → Prop)

abbrev Hp := Addr → Option HO
def upd (H : Hp) (a : Addr) (o : HO) : Hp := fun b => if b = a then some o else H b
theorem upd_same {H : Hp} {a : Addr} {o : HO} : upd H a o a = some o := by unfold upd; rw [if_pos rfl]
theorem upd_ne {H : Hp} {a b : Addr} {o : HO} (h : b ≠ a) : upd H a o b = H b := by unfold upd; rw [if_neg h]
theorem ne_of {H : Hp} {a b : Addr} {o u : HO} (h : H a = some o) (h' : H b = some u) (d : o ≠ u) : a ≠ b := by
  intro e; subst e; rw [h] at h'; exact d (Option.some.inj h')
theorem ne_of_none {H : Hp} {a b : Addr} {o : HO} (h : H a = some o) (h' : H b = none) : a ≠ b := by
  intro e; subst e; rw [h] at h'; cases h'

section
variable (P : Program) (w : World)
def ObjOk (H : Hp) (h : Heap) (a : Addr) : HO → Prop
  | .lst xs => xs.length ≤ sizeLine ∧ ∃ (its : List Value) (n : Nat), Vals xs its ∧ h.get? a = some { cls := .type "list", data := .seq its.toArray n }
  | .tup xs => xs.length ≤ sizeLine ∧ ∃ its : List Value, Vals xs its ∧ IsTup h a its.toArray
  | .dK kvs => kvs.length ≤ sizeLine ∧ (a == sysModules) = false ∧ ∃ vs, KV kvs vs ∧ h.DictOf (mixKind P w) a vs
  | .dT kvs => kvs.length ≤ sizeLine ∧ (a == sysModules) = false ∧ ∃ xs : List (List Key × Addr × Value),
      Paired (fun (p : List Key × V) (q : List Key × Addr × Value) => p.1 = q.1 ∧ H q.2.1 = some (.tup (p.1.map kV)) ∧ RelV p.2 q.2.2) kvs xs ∧
      ∃ o es ep, h.get? a = some o ∧ o.ExactDict ∧ o.data = .dict es ep ∧ es.toList = xs.map (entryOfKey (tupleKind (mixKind P w))) ∧ (xs.map (·.1)).Nodup
  | .set S n => h.SetOf (intKind P w) a S n
  | .ins C dx fs => H dx = some (.own a) ∧ fs.length ≤ 1000 ∧ dx ≠ a ∧ h.get? a = some (PySem.W.instObj C dx) ∧
      ∃ mA, h.Ns1 dx mA ∧ (∀ f, RelO (fs.lookup f) (mA f)) ∧ PySem.Within mA (fs.map (·.1))
  | .own _ => ∃ o, h.get? a = some o
  | .xd fs => ∃ mA, h.Ns1 a mA ∧ ∀ f, RelO (fs.lookup f) (mA f)
  | .rng lo hi => ∃ t u v, h.get? a = some { cls := .type "range", data := .fields #[.int lo t, .int hi u, .int 1 v] }
  | .frz o u => h.get? a = some o ∧ ObjOk H h a u
  | .tbl ps => h.get? a = some { cls := .none, data := .fields ps }
  | .met f x => h.get? a = some (PySem.W.methodObj (.ref f) (.ref x))
  | .ext φ => φ h ∧ (∃ o, h.get? a = some o) ∧ ∀ h1 h2 : Heap, φ h1 → (∀ o, h1.get? a = some o → h2.get? a = some o) → φ h2
def HOk (H : Hp) (h : Heap) : Prop := ∀ a o, H a = some o → ObjOk P w H h a o
end

section
variable {P : Program} {w : World} {H H' : Hp} {h h' : Heap} {a : Addr} {o : HO}
theorem ObjOk.lt (x : ObjOk P w H h a o) : a < h.objs.size := by
  cases o with
  | lst xs => obtain ⟨_, _, _, _, e⟩ := x; exact Heap.lt_size e
  | tup xs => obtain ⟨_, _, _, p⟩ := x; exact p.lt
  | dK kvs => obtain ⟨_, _, _, _, o, _, _, e, _⟩ := x; exact Heap.lt_size e
  | dT kvs => obtain ⟨_, _, _, _, o, _, _, e, _⟩ := x; exact Heap.lt_size e
  | set S n => obtain ⟨o, _, _, _, e, _⟩ := x; exact Heap.lt_size e
  | ins C dx fs => obtain ⟨_, _, _, e, _⟩ := x; exact Heap.lt_size e
  | own y => obtain ⟨_, e⟩ := x; exact Heap.lt_size e
  | xd fs => obtain ⟨_, ⟨_, _, _, e, _⟩, _⟩ := x; exact Heap.lt_size e
  | rng lo hi => obtain ⟨_, _, _, e⟩ := x; exact Heap.lt_size e
  | frz ob u => obtain ⟨e, _⟩ := x; exact Heap.lt_size e
  | tbl ps => exact Heap.lt_size (show h.get? a = some _ from x)
  | met f y => exact Heap.lt_size (show h.get? a = some _ from x)
  | ext φ => obtain ⟨_, ⟨_, e⟩, _⟩ := x; exact Heap.lt_size e
theorem Paired.mapP {α β : Type} {F G : α → β → Prop} : ∀ {l₁ : List α} {l₂ : List β}, Paired F l₁ l₂ → (∀ a b, F a b → G a b) → Paired G l₁ l₂
  | _, _, .nil, _ => .nil
  | _, _, .cons r t, f => .cons (f _ _ r) (Paired.mapP t f)
theorem ObjOk.stay (x : ObjOk P w H h a o) (k : ∀ b u, (b = a ∨ H b = some (.own a)) → h.get? b = some u → h'.get? b = some u)
    (ho : ∀ b, H b = some (.own a) → H' b = some (.own a)) (ht : ∀ b xs, H b = some (.tup xs) → H' b = some (.tup xs)) : ObjOk P w H' h' a o := by
  induction o with
  | lst xs => obtain ⟨z, its, n, r, e⟩ := x; exact ⟨z, its, n, r, k _ _ (.inl rfl) e⟩
  | tup xs => obtain ⟨z, its, r, ob, e, c⟩ := x; exact ⟨z, its, r, ob, k _ _ (.inl rfl) e, c⟩
  | dK kvs => obtain ⟨z, y, vs, r, ob, es, ep, e, c⟩ := x; exact ⟨z, y, vs, r, ob, es, ep, k _ _ (.inl rfl) e, c⟩
  | dT kvs =>
    obtain ⟨z, y, xs, r, ob, es, ep, e, c⟩ := x
    exact ⟨z, y, xs, Paired.mapP r fun p q z => ⟨z.1, ht _ _ z.2.1, z.2.2⟩, ob, es, ep, k _ _ (.inl rfl) e, c⟩
  | set S n => obtain ⟨ob, es, ep, t, e, c⟩ := x; exact ⟨ob, es, ep, t, k _ _ (.inl rfl) e, c⟩
  | ins C dx fs =>
    obtain ⟨d, z, ne, e, mA, ⟨od, es, ep, e2, c⟩, r⟩ := x
    exact ⟨ho _ d, z, ne, k _ _ (.inl rfl) e, mA, ⟨od, es, ep, k _ _ (.inr d) e2, c⟩, r⟩
  | own y => obtain ⟨ob, e⟩ := x; exact ⟨ob, k _ _ (.inl rfl) e⟩
  | xd fs => obtain ⟨mA, ⟨od, es, ep, e, c⟩, r⟩ := x; exact ⟨mA, ⟨od, es, ep, k _ _ (.inl rfl) e, c⟩, r⟩
  | rng lo hi => obtain ⟨t, u, v, e⟩ := x; exact ⟨t, u, v, k _ _ (.inl rfl) e⟩
  | frz ob u ih => obtain ⟨e, q⟩ := x; exact ⟨k _ _ (.inl rfl) e, ih q⟩
  | tbl ps =>
    have e : h.get? a = some { cls := .none, data := .fields ps } := x
    show h'.get? a = some { cls := .none, data := .fields ps }
    exact k a _ (.inl rfl) e
  | met f y =>
    have e : h.get? a = some (PySem.W.methodObj (.ref f) (.ref y)) := x
    show h'.get? a = some (PySem.W.methodObj (.ref f) (.ref y))
    exact k a _ (.inl rfl) e
  | ext φ => obtain ⟨p, ⟨o, e⟩, st⟩ := x; exact ⟨st _ _ p fun o q => k _ _ (.inl rfl) q, ⟨o, k _ _ (.inl rfl) e⟩, st⟩
theorem HOk.lt (x : HOk P w H h) (e : H a = some o) : a < h.objs.size := (x a o e).lt
theorem HOk.fresh (x : HOk P w H h) (e : h.objs.size ≤ a) : H a = none := by
  cases q : H a with
  | none => rfl
  | some u => exact absurd (Nat.lt_of_lt_of_le (x.lt q) e) (Nat.lt_irrefl _)
theorem HOk.kept (x : HOk P w H h) (k : ∀ b u, h.get? b = some u → h'.get? b = some u) : HOk P w H h' := fun a o e =>
  (x a o e).stay (fun b u _ q => k b u q) (fun _ q => q) fun _ _ q => q
theorem HOk.laid (x : HOk P w H h) (k : ∀ b u, h.get? b = some u → h'.get? b = some u) (hp : h.objs.size ≤ a) (new : ObjOk P w (upd H a o) h' a o) : HOk P w (upd H a o) h' := fun b u e => by
  have hn := x.fresh hp
  by_cases hb : b = a
  · subst hb; rw [upd_same] at e; cases e; exact new
  · rw [upd_ne hb] at e
    exact (x b u e).stay (fun c v _ q => k c v q) (fun c q => by rw [upd_ne (ne_of_none q hn)]; exact q) fun c xs q => by rw [upd_ne (ne_of_none q hn)]; exact q
end

def Rd (H : Hp) (a : Addr) (u : HO) : Prop := H a = some u ∨ ∃ o, H a = some (.frz o u)
theorem Rd.ok {P : Program} {w : World} {H : Hp} {h : Heap} {a : Addr} {u : HO} (r : Rd H a u) (x : HOk P w H h) : ObjOk P w H h a u := by
  rcases r with r | ⟨o, r⟩
  · exact x a u r
  · obtain ⟨_, q⟩ := x a _ r
    exact q
def Mut : Option HO → Prop
  | some (.lst _) => True
  | some (.dK _) => True
  | some (.dT _) => True
  | some (.set _ _) => True
  | some (.ins _ _ _) => True
  | some (.ext _) => True
  | _ => False
section
variable {P : Program} {w : World} {H : Hp} {h h' : Heap} {x e : Addr} {o' : HO}
theorem HOk.write (ok : HOk P w H h) (mu : Mut (H x)) (he : e = x ∨ H e = some (.own x)) (k : ∀ b u, b ≠ e → h.get? b = some u → h'.get? b = some u) (heo : ∃ u, h'.get? e = some u)
    (new : ObjOk P w (upd H x o') h' x o') : HOk P w (upd H x o') h' := fun b u q => by
  have nown : ∀ c y, H c = some (.own y) → c ≠ x := fun c y r z => by subst z; rw [r] at mu; exact mu
  have ntup : ∀ c xs, H c = some (.tup xs) → c ≠ x := fun c xs r z => by subst z; rw [r] at mu; exact mu
  by_cases hb : b = x
  · subst hb; rw [upd_same] at q; cases q; exact new
  · rw [upd_ne hb] at q
    by_cases hbe : b = e
    · have q' : H b = some (.own x) := by
        rcases he with z | z
        · exact absurd (hbe.trans z) hb
        · rw [hbe]; exact z
      rw [q] at q'; cases q'
      obtain ⟨v, hv⟩ := heo
      exact ⟨v, by rw [hbe]; exact hv⟩
    · refine (ok b u q).stay (fun c v hc r => k c v ?_ r) (fun c r => by rw [upd_ne (nown c b r)]; exact r) fun c xs r => by rw [upd_ne (ntup c xs r)]; exact r
      rcases hc with rfl | hc
      · exact hbe
      · rintro rfl
        rcases he with z | z
        · exact nown c b hc z
        · rw [hc] at z; cases z; exact hb rfl
end

structure Un (fs ex : List Addr) (H H' : Hp) (h h' : Heap) : Prop where
  keep : ∀ b o, h.get? b = some o → H b = none → b ∉ fs → b ∉ ex → h'.get? b = some o
  slot : ∀ b o, h.get? b = some o → H b = none → b ∈ fs → b ∉ ex → ∃ sl, h'.get? b = some { o with slots := sl }
  free : ∀ b o, h.get? b = some o → H b = none → b ∉ ex → H' b = none
  there : ∀ b o, h.get? b = some o → b ∉ ex → ∃ o', h'.get? b = some o'
  tups : ∀ b xs, H b = some (.tup xs) → H' b = some (.tup xs)
  frzs : ∀ b o u, H b = some (.frz o u) → H' b = some (.frz o u)
  tbls : ∀ b ps, H b = some (.tbl ps) → ∃ more, H' b = some (.tbl (ps ++ more))
section
variable {fs fs' ex ex' : List Addr} {H H1 H2 : Hp} {h h1 h2 h' : Heap} {a x e : Addr} {o : HO}
theorem Un.any (u : Un fs ex H H1 h h1) {b : Addr} {ob : Obj} (q : h.get? b = some ob) (n : H b = none) (hx : b ∉ ex) : ∃ sl, h1.get? b = some { ob with slots := sl } := by
  by_cases hb : b ∈ fs
  · exact u.slot b ob q n hb hx
  · exact ⟨ob.slots, u.keep b ob q n hb hx⟩
theorem Un.kept (k : ∀ b u, h.get? b = some u → h'.get? b = some u) : Un fs ex H H h h' :=
  ⟨fun b ob q _ _ _ => k b ob q, fun b ob q _ _ _ => ⟨ob.slots, k b ob q⟩, fun _ _ _ n _ => n, fun b ob q _ => ⟨ob, k b ob q⟩, fun _ _ q => q, fun _ _ _ q => q, fun _ ps q => ⟨#[], by rw [q]; simp⟩⟩
theorem Un.refl : Un fs ex H H h h := Un.kept fun _ _ q => q
theorem Un.laid (k : ∀ b u, h.get? b = some u → h'.get? b = some u) (hp : h.objs.size ≤ a) (hn : H a = none) : Un fs ex H (upd H a o) h h' where
  keep := fun b u q _ _ _ => k b u q
  slot := fun b u q _ _ _ => ⟨u.slots, k b u q⟩
  free := fun b u q n _ => by rw [upd_ne (Nat.ne_of_lt (Nat.lt_of_lt_of_le (Heap.lt_size q) hp))]; exact n
  there := fun b u q _ => ⟨u, k b u q⟩
  tups := fun b xs q => by rw [upd_ne (ne_of_none q hn)]; exact q
  frzs := fun b u xs q => by rw [upd_ne (ne_of_none q hn)]; exact q
  tbls := fun b ps q => ⟨#[], by rw [upd_ne (ne_of_none q hn), q]; simp⟩
theorem Un.write (mu : Mut (H x)) (he : e = x ∨ H e = some (.own x)) (k : ∀ b u, b ≠ e → h.get? b = some u → h'.get? b = some u) (heo : ∃ u, h'.get? e = some u) : Un fs ex H (upd H x o) h h' := by
  have hx : ∀ b, H b = none → b ≠ x := fun b n z => by subst z; rw [n] at mu; exact mu
  have hb : ∀ b, H b = none → b ≠ e := fun b n z => by
    subst z
    rcases he with r | r
    · exact hx b n r
    · rw [n] at r; cases r
  have hm : ∀ b u, H b = some u → ¬ Mut (some u) → b ≠ x := fun b u q nm z => by subst z; rw [q] at mu; exact nm mu
  refine ⟨fun b u q n _ _ => k b u (hb b n) q, fun b u q n _ _ => ⟨u.slots, k b u (hb b n) q⟩, fun b u q n _ => by rw [upd_ne (hx b n)]; exact n, fun b u q _ => ?_,
    fun b xs q => by rw [upd_ne (hm b _ q fun z => z)]; exact q, fun b u xs q => by rw [upd_ne (hm b _ q fun z => z)]; exact q, fun b ps q => ⟨#[], by rw [upd_ne (hm b _ q fun z => z), q]; simp⟩⟩
  by_cases hbe : b = e
  · subst hbe; exact heo
  · exact ⟨u, k b u hbe q⟩
end

def trk (h : Heap) (H : Hp) : List Addr := (List.range h.objs.size).filter fun a => (H a).isSome
def hidT (h : Heap) (H : Hp) : Heap := PySem.W.hideAll h (trk h H)
theorem hidT_size (h : Heap) (H : Hp) : (hidT h H).objs.size = h.objs.size := PySem.W.hideAll_size _ _
theorem hidT_get {h : Heap} {H : Hp} {b : Addr} {o : Obj} (e : h.get? b = some o) (n : H b = none) : (hidT h H).get? b = some o :=
  PySem.W.hideAll_get _ e fun hm => by
    have q : (H b).isSome = true := (List.mem_filter.mp hm).2
    rw [n] at q; simp at q
theorem of_hidT {h : Heap} {H : Hp} {b : Addr} {o : Obj} (e : (hidT h H).get? b = some o) : h.get? b = some o ∧ H b = none := by
  have e' : h.get? b = some o := PySem.W.of_hideAll (trk h H) e
  refine ⟨e', ?_⟩
  cases q : H b with
  | none => rfl
  | some x =>
    have hm : b ∈ trk h H := List.mem_filter.mpr ⟨List.mem_range.mpr (Heap.lt_size e'), by simp [q]⟩
    have z : (hidT h H).get? b = none := PySem.W.hideAll_none (trk h H) hm
    rw [z] at e; cases e

end L2

namespace L2
open PySem PySem.Spec PyProof.Rows

structure Mod (K : PySem.W.Frag) (mg : Str → Option Value) (base : Heap) : Prop where
  kin : K.In base
  glob : base.Ns mainGlobals mg
  blt : ∃ mb, base.Ns builtinsNs mb ∧ ∀ x : Str, x ≠ "__name__" → mb x = bootBuiltins x
  nolimit : base.NoLimit

/-- the context: a def's body (or a comprehension's block) running. base: fixed through the whole law; s₀, H₀: the entry; outer: the frames whose slots others may change (a def's callers); stack: all frames that run;
   ex: iterators that were made ahead of the entry and are walked here (a comprehension's); fn: the names whose cells were made at the entry (a def: all; a comprehension's block: its own); calm: not within an except suite; pn: pins that every state bears; xe: what is wanted of an exception that leaves the code -/
structure Cx where
  prog : Program
  w : World
  K : PySem.W.Frag
  mg : Str → Option Value
  base : Heap
  A : Around
  N : List Str
  s₀ : Shared
  H₀ : Hp
  env : Env
  outer : List Env
  stack : List Env
  ex : List Addr
  fn : Str → Bool
  calm : Bool
  pn : List (Addr × Obj)
  xe : Value → Shared → Prop
def frs (l : List Env) : List Addr := l.filterMap (·.frame)
abbrev Cx.fs (X : Cx) : List Addr := frs X.outer

def Vis (sc : Scope) (x : Str) : Prop := sc.names.lookup x = some .local ∨ sc.names.lookup x = some .cell ∨ sc.names.lookup x = some .free
def Loc (sc : Scope) (x : Str) : Prop := sc.names.lookup x = some .local ∨ sc.names.lookup x = some .cell
def Look (env : Env) (h : Heap) (m : Str → Option Value) (x : Str) (u : Value) : Prop :=
  (env.kindOf x = some .local ∧ m x = some u) ∨ ((env.kindOf x = some .cell ∨ env.kindOf x = some .free) ∧ ∃ c, env.cells.lookup x = some c ∧ h.IsCell c (some u))

structure Cx.Ok (X : Cx) : Prop where
  mod : Mod X.K X.mg X.base
  kind : X.env.scope.kind = .function
  glob : X.env.globals = mainGlobals
  blt : X.env.builtins = builtinsNs
  above : X.s₀.heap.objs.size ≤ X.env.locals
  inj : ∀ x y c, X.env.cells.lookup x = some c → X.env.cells.lookup y = some c → x = y
  has : ∀ x, (X.env.kindOf x = some .cell ∨ X.env.kindOf x = some .free) → ∃ c, X.env.cells.lookup x = some c
  cab : ∀ x c, X.fn x = true → X.env.cells.lookup x = some c → X.s₀.heap.objs.size ≤ c
  hd : X.calm = true → X.A.handled = none
  frames : X.A.frames = some X.stack
  stk : X.stack = X.outer ∨ (X.stack = X.env :: X.outer ∧ X.env.frame = some X.env.locals)
  exf : ∀ b ∈ X.ex, b ≠ X.env.locals ∧ ∀ x c, X.env.cells.lookup x = some c → c ≠ b
  bs : ∀ b o, X.base.get? b = some o → X.s₀.heap.get? b = some o ∧ X.H₀ b = none
  bsz : X.base.objs.size ≤ X.s₀.heap.objs.size
  noex : ∀ b o, X.base.get? b = some o → b ∉ X.ex
  exfs : ∀ b ∈ X.ex, b ∉ X.fs
  funs : X.s₀.heap.FunFrames X.base X.outer
  frf : ∀ b ∈ X.fs, X.H₀ b = none

structure Inv (X : Cx) (pins : List (Addr × Obj)) (σ : List (Option V)) (H : Hp) (s : Shared) : Prop where
  ok : X.Ok
  os : s.os = X.s₀.os
  bare : AllBare s.gens
  base : Un X.fs X.ex X.H₀ H X.s₀.heap s.heap
  loc : ∃ m, s.heap.Ns X.env.locals m ∧ ∀ (i : Nat) (x : Str) (v : V), X.N[i]? = some x → σ[i]? = some (some v) → Vis X.env.scope x → ∃ u, RelV v u ∧ Look X.env s.heap m x u
  cell : ∀ x c, X.env.cells.lookup x = some c → ∃ v, s.heap.IsCell c v
  free : H X.env.locals = none
  freeC : ∀ x c, X.env.cells.lookup x = some c → H c = none
  pin : ∀ p ∈ X.pn ++ pins, s.heap.get? p.1 = some p.2 ∧ H p.1 = none ∧ p.1 ≠ X.env.locals ∧ p.1 ∉ X.fs ∧ ∀ v, p.2.data ≠ .cell v
  hok : HOk X.prog X.w H s.heap
  len : σ.length = X.N.length

section
variable {X : Cx} {pins : List (Addr × Obj)} {σ : List (Option V)} {H H' : Hp} {s : Shared} {h' : Heap}

theorem Cx.Ok.nofr (ok : X.Ok) {b : Addr} {o : Obj} (e : X.base.get? b = some o) : b ∉ X.fs := fun hb => by
  have := (ok.funs.mem hb).1
  rw [e] at this; cases this
theorem Inv.bs (I : Inv X pins σ H s) : ∀ b o, X.base.get? b = some o → s.heap.get? b = some o ∧ H b = none := fun b o e =>
  ⟨I.base.keep b o (I.ok.bs b o e).1 (I.ok.bs b o e).2 (I.ok.nofr e) (I.ok.noex b o e), I.base.free b o (I.ok.bs b o e).1 (I.ok.bs b o e).2 (I.ok.noex b o e)⟩
theorem Inv.bk (I : Inv X pins σ H s) : ∀ b o, X.base.get? b = some o → s.heap.get? b = some o := fun b o e => (I.bs b o e).1
theorem Inv.mod (I : Inv X pins σ H s) : Mod X.K X.mg X.base := I.ok.mod
theorem Inv.kIn (I : Inv X pins σ H s) : X.K.In s.heap := I.ok.mod.kin.keeps I.bk
theorem Inv.lt (I : Inv X pins σ H s) : X.env.locals < s.heap.objs.size := let ⟨_, hn, _⟩ := I.loc; hn.lt
theorem Inv.sz (I : Inv X pins σ H s) : X.s₀.heap.objs.size ≤ s.heap.objs.size := Nat.le_trans I.ok.above (Nat.le_of_lt I.lt)
theorem Inv.nofs (I : Inv X pins σ H s) {a : Addr} (h : s.heap.objs.size ≤ a) : a ∉ X.fs := fun hb => by
  obtain ⟨_, o, ho, _⟩ := I.ok.funs.mem hb
  exact absurd (Nat.lt_of_lt_of_le (Heap.lt_size ho) (Nat.le_trans I.sz h)) (Nat.lt_irrefl _)
theorem Inv.cne (I : Inv X pins σ H s) : ∀ x c, X.env.cells.lookup x = some c → c ≠ X.env.locals := fun x c e z => by
  obtain ⟨v, o, ho, hd⟩ := I.cell x c e
  obtain ⟨m, ⟨o', es, ep, ho', hd', _⟩, _⟩ := I.loc
  rw [z, ho'] at ho; cases ho; rw [hd'] at hd; cases hd
theorem Inv.funs (I : Inv X pins σ H s) : s.heap.FunFrames X.base X.outer := by
  have all : ∀ (l : List Env), (∀ b ∈ frs l, b ∈ X.fs) → X.s₀.heap.FunFrames X.base l → s.heap.FunFrames X.base l := by
    intro l
    induction l with
    | nil => intro _ _; trivial
    | cons env r ih =>
      intro hs hl
      obtain ⟨hk, ⟨L, o, hf, hn, ho, hd⟩, hr⟩ := hl
      have hL : L ∈ X.fs := hs L (by unfold frs; rw [List.filterMap_cons, hf]; exact List.mem_cons_self)
      obtain ⟨sl, e⟩ := I.base.slot L o ho (I.ok.frf L hL) hL fun z => I.ok.exfs L z hL
      exact ⟨hk, ⟨L, _, hf, hn, e, hd⟩, ih (fun b hb => hs b (by unfold frs; rw [List.filterMap_cons, hf]; exact List.mem_cons_of_mem _ hb)) hr⟩
  exact all X.outer (fun _ hb => hb) I.ok.funs

theorem Inv.stack (I : Inv X pins σ H s) : s.heap.FunFrames X.base X.stack := by
  rcases I.ok.stk with e | ⟨e, hf⟩
  · rw [e]; exact I.funs
  · rw [e]
    obtain ⟨m, hn, _⟩ := I.loc
    refine .cons (by rw [I.ok.kind]; decide) hf hn ?_ I.funs
    exact Heap.get?_none_of_le (Nat.le_trans I.ok.bsz I.ok.above)
theorem Inv.stkSub (I : Inv X pins σ H s) : ∀ b ∈ frs X.stack, b ∈ X.env.locals :: X.fs := fun b hb => by
  rcases I.ok.stk with e | ⟨e, hf⟩
  · rw [e] at hb; exact List.mem_cons_of_mem _ hb
  · rw [e] at hb
    unfold frs at hb
    rw [List.filterMap_cons, hf] at hb
    exact hb
theorem Inv.stkFree (I : Inv X pins σ H s) : ∀ b ∈ frs X.stack, H b = none := fun b hb => by
  rcases List.mem_cons.mp (I.stkSub b hb) with e | hb
  · rw [e]; exact I.free
  · obtain ⟨_, o, ho, _⟩ := I.ok.funs.mem hb
    exact I.base.free b o ho (I.ok.frf b hb) fun z => I.ok.exfs b z hb

theorem Inv.step {g' : Array GenState} {t' : Nat} {d' : Drawn} {ch : List Addr} (I : Inv X pins σ H s)
    (hch : ∀ b ∈ ch, (b ∈ X.ex ∨ X.s₀.heap.objs.size ≤ b) ∧ b ≠ X.env.locals ∧ (∀ x c, X.env.cells.lookup x = some c → c ≠ b) ∧ ∀ p ∈ X.pn ++ pins, p.1 ≠ b)
    (keep : ∀ b o, b ≠ X.env.locals → b ∉ X.fs → b ∉ ch → s.heap.get? b = some o → H b = none → h'.get? b = some o)
    (slot : ∀ b o, b ≠ X.env.locals → b ∈ X.fs → b ∉ ch → s.heap.get? b = some o → H b = none → ∃ sl, h'.get? b = some { o with slots := sl }) (free : ∀ b o, b ∉ ch → s.heap.get? b = some o → H b = none → H' b = none)
    (there : ∀ b o, b ∉ ch → s.heap.get? b = some o → ∃ o', h'.get? b = some o')
    (tups : ∀ b xs, H b = some (.tup xs) → H' b = some (.tup xs)) (frzs : ∀ b o u, H b = some (.frz o u) → H' b = some (.frz o u)) (tbls : ∀ b ps, H b = some (.tbl ps) → ∃ more, H' b = some (.tbl (ps ++ more)))
    (ns : ∀ m, s.heap.Ns X.env.locals m → h'.Ns X.env.locals m) (hok : HOk X.prog X.w H' h') (hg : AllBare g') :
    Inv X pins σ H' { s with heap := h', gens := g', drawn := d', toks := t' } := by
  have neL : ∀ b o, X.s₀.heap.get? b = some o → b ≠ X.env.locals := fun b o e => Nat.ne_of_lt (Nat.lt_of_lt_of_le (Heap.lt_size e) I.ok.above)
  have neC : ∀ b o, X.s₀.heap.get? b = some o → b ∉ X.ex → b ∉ ch := fun b o e hx hb => by
    rcases (hch b hb).1 with z | z
    · exact hx z
    · exact absurd (Nat.lt_of_lt_of_le (Heap.lt_size e) z) (Nat.lt_irrefl _)
  have cellK : ∀ x c, X.env.cells.lookup x = some c → ∀ v, s.heap.IsCell c v → h'.IsCell c v := fun x c e v ⟨o, ho, hd⟩ => by
    have nch : c ∉ ch := fun z => (hch c z).2.2.1 x c e rfl
    by_cases hc : c ∈ X.fs
    · obtain ⟨sl, q⟩ := slot c o (I.cne x c e) hc nch ho (I.freeC x c e)
      exact ⟨_, q, hd⟩
    · exact ⟨o, keep c o (I.cne x c e) hc nch ho (I.freeC x c e), hd⟩
  refine ⟨I.ok, I.os, hg, ⟨fun b o e n hb hx => ?_, fun b o e n hb hx => ?_, fun b o e n hx => ?_, fun b o e hx => ?_, fun b xs e => tups b xs (I.base.tups b xs e), fun b o xs e => frzs b o xs (I.base.frzs b o xs e), fun b ps e => ?_⟩, ?_, fun x c e => ?_, ?_, fun x c e => ?_, fun p hp => ?_, hok, I.len⟩
  · exact keep b o (neL b o e) hb (neC b o e hx) (I.base.keep b o e n hb hx) (I.base.free b o e n hx)
  · obtain ⟨sl, e1⟩ := I.base.slot b o e n hb hx
    obtain ⟨sl', e2⟩ := slot b _ (neL b o e) hb (neC b o e hx) e1 (I.base.free b o e n hx)
    exact ⟨sl', e2⟩
  · obtain ⟨o', e1⟩ := I.base.there b o e hx
    exact free b o' (neC b o e hx) e1 (I.base.free b o e n hx)
  · obtain ⟨o', e1⟩ := I.base.there b o e hx
    exact there b o' (neC b o e hx) e1
  · obtain ⟨m1, e1⟩ := I.base.tbls b ps e
    obtain ⟨m2, e2⟩ := tbls b _ e1
    exact ⟨m1 ++ m2, by rw [e2, Array.append_assoc]⟩
  · obtain ⟨m, hn, hl⟩ := I.loc
    refine ⟨m, ns m hn, fun i x v e1 e2 e3 => ?_⟩
    obtain ⟨u, r, l⟩ := hl i x v e1 e2 e3
    refine ⟨u, r, ?_⟩
    rcases l with l | ⟨k, c, e, z⟩
    · exact .inl l
    · exact .inr ⟨k, c, e, cellK x c e _ z⟩
  · obtain ⟨v, z⟩ := I.cell x c e
    exact ⟨v, cellK x c e v z⟩
  · obtain ⟨m, ⟨o, _, _, ho, _⟩, _⟩ := I.loc
    exact free _ o (fun z => (hch _ z).2.1 rfl) ho I.free
  · obtain ⟨v, o, ho, hd⟩ := I.cell x c e
    exact free c o (fun z => (hch c z).2.2.1 x c e rfl) ho (I.freeC x c e)
  · obtain ⟨e, n, ne, nf, d⟩ := I.pin p hp
    have nch : p.1 ∉ ch := fun z => (hch p.1 z).2.2.2 p hp rfl
    exact ⟨keep p.1 p.2 ne nf nch e n, free p.1 p.2 nch e n, ne, nf, d⟩
theorem Inv.un {t' : Nat} (I : Inv X pins σ H s) (u : Un X.fs [] H H' s.heap h') (hok : HOk X.prog X.w H' h') : Inv X pins σ H' { s with heap := h', toks := t' } := by
  obtain ⟨m, ⟨o, es, ep, ho, r⟩, _⟩ := id I.loc
  obtain ⟨sl, hL⟩ := u.any ho I.free (by simp)
  exact I.step (g' := s.gens) (d' := s.drawn) (ch := []) (fun _ z => nomatch z) (fun b o _ hb _ e n => u.keep b o e n hb (by simp)) (fun b o _ hb _ e n => u.slot b o e n hb (by simp)) (fun b o _ e n => u.free b o e n (by simp)) (fun b o _ e => u.there b o e (by simp)) u.tups u.frzs u.tbls (fun m' hm => by
    obtain ⟨o', es', ep', ho', r'⟩ := hm
    rw [ho] at ho'; cases ho'
    exact ⟨_, es', ep', hL, r'⟩) hok I.bare
theorem Inv.call {g' : Array GenState} {t' : Nat} {d' : Drawn} {ch : List Addr} (I : Inv X pins σ H s) (u : Un (frs X.stack) ch H H' s.heap h') (hok : HOk X.prog X.w H' h') (hg : AllBare g')
    (hch : ∀ b ∈ ch, (b ∈ X.ex ∨ X.s₀.heap.objs.size ≤ b) ∧ b ≠ X.env.locals ∧ (∀ x c, X.env.cells.lookup x = some c → c ≠ b) ∧ ∀ p ∈ X.pn ++ pins, p.1 ≠ b) :
    Inv X pins σ H' { s with heap := h', gens := g', drawn := d', toks := t' } := by
  obtain ⟨m, ⟨o, es, ep, ho, r⟩, _⟩ := id I.loc
  obtain ⟨sl, hL⟩ := u.any ho I.free fun z => (hch _ z).2.1 rfl
  exact I.step (ch := ch) hch (fun b o hL hb hc e n => u.keep b o e n (fun z => (List.mem_cons.mp (I.stkSub b z)).elim hL hb) hc) (fun b o _ _ hc e n => u.any e n hc) (fun b o hc e n => u.free b o e n hc) (fun b o hc e => u.there b o e hc) u.tups u.frzs u.tbls (fun m' hm => by
    obtain ⟨o', es', ep', ho', r'⟩ := hm
    rw [ho] at ho'; cases ho'
    exact ⟨_, es', ep', hL, r'⟩) hok hg
theorem Inv.turned {t' : Nat} {it : Addr} (I : Inv X pins σ H s) (k : ∀ b o, b ≠ it → s.heap.get? b = some o → h'.get? b = some o) (hn : H it = none) (hL : it ≠ X.env.locals)
    (h1 : it ∈ X.ex ∨ X.s₀.heap.objs.size ≤ it) (h2 : ∀ x c, X.env.cells.lookup x = some c → c ≠ it) (h3 : ∀ p ∈ X.pn ++ pins, p.1 ≠ it) : Inv X pins σ H { s with heap := h', toks := t' } := by
  have nit : ∀ b u, H b = some u → b ≠ it := fun b u e z => by rw [z, hn] at e; cases e
  refine I.step (g' := s.gens) (d' := s.drawn) (ch := [it]) (fun b hb => ?_) (fun b o _ _ hc e _ => k b o (fun z => hc (by simp [z])) e) (fun b o _ _ hc e _ => ⟨o.slots, k b o (fun z => hc (by simp [z])) e⟩) (fun _ _ _ _ n => n)
    (fun b o hc e => ⟨o, k b o (fun z => hc (by simp [z])) e⟩) (fun _ _ e => e) (fun _ _ _ e => e) (fun b ps e => ⟨#[], by rw [e]; simp⟩) (fun m hm => ?_) (fun b u e => ?_) I.bare
  · have e : b = it := by simpa using hb
    subst e
    exact ⟨h1, hL, h2, h3⟩
  · obtain ⟨o, es, ep, ho, r⟩ := hm
    exact ⟨o, es, ep, k _ o (Ne.symm hL) ho, r⟩
  · refine (I.hok b u e).stay (fun c v hc q => k c v ?_ q) (fun _ q => q) fun _ _ q => q
    rcases hc with z | z
    · rw [z]; exact nit b u e
    · exact nit c _ z
theorem Inv.tok (I : Inv X pins σ H s) (t : Nat) : Inv X pins σ H { s with toks := t } := I.un (h' := s.heap) (t' := t) Un.refl I.hok
theorem Inv.kept {t' : Nat} (I : Inv X pins σ H s) (k : ∀ b u, s.heap.get? b = some u → h'.get? b = some u) : Inv X pins σ H { s with heap := h', toks := t' } := I.un (Un.kept k) (I.hok.kept k)
theorem Inv.laid {a : Addr} {o : HO} {t' : Nat} (I : Inv X pins σ H s) (k : ∀ b u, s.heap.get? b = some u → h'.get? b = some u) (hp : s.heap.objs.size ≤ a) (new : ObjOk X.prog X.w (upd H a o) h' a o) :
    Inv X pins σ (upd H a o) { s with heap := h', toks := t' } := I.un (Un.laid k hp (I.hok.fresh hp)) (I.hok.laid k hp new)
theorem Inv.write {x e : Addr} {o : HO} {t' : Nat} (I : Inv X pins σ H s) (mu : Mut (H x)) (he : e = x ∨ H e = some (.own x)) (k : ∀ b u, b ≠ e → s.heap.get? b = some u → h'.get? b = some u) (heo : ∃ u, h'.get? e = some u)
    (new : ObjOk X.prog X.w (upd H x o) h' x o) : Inv X pins σ (upd H x o) { s with heap := h', toks := t' } := I.un (Un.write mu he k heo) (I.hok.write mu he k heo new)
theorem Inv.pins_of {pins' : List (Addr × Obj)} (I : Inv X pins σ H s) (h : ∀ p ∈ pins', s.heap.get? p.1 = some p.2 ∧ H p.1 = none ∧ p.1 ≠ X.env.locals ∧ p.1 ∉ X.fs ∧ ∀ v, p.2.data ≠ .cell v) : Inv X pins' σ H s :=
  ⟨I.ok, I.os, I.bare, I.base, I.loc, I.cell, I.free, I.freeC, fun p hp => (List.mem_append.mp hp).elim (fun z => I.pin p (List.mem_append_left _ z)) (h p), I.hok, I.len⟩

theorem nodup_ix {N : List Str} (hN : N.Nodup) {i j : Nat} {x : Str} (a : N[i]? = some x) (b : N[j]? = some x) : i = j := by
  obtain ⟨h1, e1⟩ := List.getElem?_eq_some_iff.mp a
  obtain ⟨h2, e2⟩ := List.getElem?_eq_some_iff.mp b
  exact (List.getElem_inj hN).mp (e1.trans e2.symm)

theorem store_ok2 {M : Model} {A : Around} {E : Value → Shared → Prop} {i : Nat} {x : Str} {v : V} {u : Value} {Q : Unit → Shared → Prop} (I : Inv X pins σ H s) (hN : X.N.Nodup) (hi : X.N[i]? = some x) (hx : Loc X.env.scope x) (r : RelV v u)
    (h : ∀ s', Inv X pins (σ.set i (some v)) H s' → (∃ a, Heap.SameBut a s.heap s'.heap ∧ (a = X.env.locals ∨ X.env.cells.lookup x = some a)) → Q () s') (hf : X.fn x = true ∨ X.env.scope.names.lookup x = some .local := by first | exact .inl rfl | exact .inr rfl | assumption) : wpAny M A (storeName X.env x u) Q E s := by
  obtain ⟨m, hn, hl⟩ := id I.loc
  have hcls : (X.env.scope.kind == .class || (X.env.scope.kind == .module && X.env.locals != X.env.globals)) = false := by rw [I.ok.kind]; rfl
  have hiσ : i < σ.length := by rw [I.len]; exact (List.getElem?_eq_some_iff.mp hi).1
  have cne := I.cne
  have tracked : ∀ {a : Addr} {h' : Heap}, (∃ o, s.heap.get? a = some o ∧ H a = none) → Heap.SameBut a s.heap h' → HOk X.prog X.w H h' := fun {a h'} ha hs b ob e => by
    obtain ⟨_, _, hfree⟩ := ha
    refine (I.hok b ob e).stay (fun c w' hc q => (hs.2 c ?_).trans q) (fun _ q => q) fun _ _ q => q
    rintro rfl
    rcases hc with rfl | hc
    · rw [hfree] at e; cases e
    · rw [hfree] at hc; cases hc
  rcases hx with hk | hk
  · refine wpAny_storeName_local hk hn (fun h' hn' hs => ?_) hcls
    obtain ⟨oL, _, _, hoL, _⟩ := id hn
    refine h _ ⟨I.ok, I.os, I.bare, ⟨fun b o e n hb hx => ?_, fun b o e n hb hx => ?_, I.base.free, fun b o e hx => ?_, I.base.tups, I.base.frzs, I.base.tbls⟩, ⟨_, hn', fun j y v' e1 e2 e3 => ?_⟩, fun y c e => ?_, I.free, I.freeC, fun p hp => ?_, tracked ⟨oL, hoL, I.free⟩ hs, by simpa using I.len⟩ ⟨_, hs, .inl rfl⟩
    · exact (hs.2 b (Nat.ne_of_lt (Nat.lt_of_lt_of_le (Heap.lt_size e) I.ok.above))).trans (I.base.keep b o e n hb hx)
    · obtain ⟨sl, e1⟩ := I.base.slot b o e n hb hx
      exact ⟨sl, (hs.2 b (Nat.ne_of_lt (Nat.lt_of_lt_of_le (Heap.lt_size e) I.ok.above))).trans e1⟩
    · obtain ⟨o', e1⟩ := I.base.there b o e hx
      exact ⟨o', (hs.2 b (Nat.ne_of_lt (Nat.lt_of_lt_of_le (Heap.lt_size e) I.ok.above))).trans e1⟩
    · by_cases hj : j = i
      · subst hj
        rw [hi] at e1; cases e1
        rw [List.getElem?_set_self hiσ] at e2
        cases e2
        exact ⟨u, r, .inl ⟨hk, by simp⟩⟩
      · rw [List.getElem?_set_ne (Ne.symm hj)] at e2
        obtain ⟨u', r', q⟩ := hl j y v' e1 e2 e3
        refine ⟨u', r', ?_⟩
        rcases q with ⟨k, e⟩ | ⟨k, c, e, z⟩
        · refine .inl ⟨k, ?_⟩
          have : y ≠ x := fun e => hj (nodup_ix hN e1 (e ▸ hi))
          simp [this, e]
        · exact .inr ⟨k, c, e, z.sameBut hs (cne y c e)⟩
    · obtain ⟨w', z⟩ := I.cell y c e
      exact ⟨w', z.sameBut hs (cne y c e)⟩
    · obtain ⟨e, n, ne, nf, d⟩ := I.pin p hp
      exact ⟨(hs.2 p.1 ne).trans e, n, ne, nf, d⟩
  · have hfn : X.fn x = true := by
      rcases hf with z | z
      · exact z
      · rw [z] at hk; cases hk
    obtain ⟨c, hc⟩ := I.ok.has x (.inl hk)
    obtain ⟨w', z⟩ := I.cell x c hc
    refine wpAny_storeName_cell I.ok.kind hk hc z (fun h' hc' hs => ?_)
    obtain ⟨oc, hoc, hocd⟩ := id z
    refine h { s with heap := h' } ⟨I.ok, I.os, I.bare, ⟨fun b o e n hb hx => ?_, fun b o e n hb hx => ?_, I.base.free, fun b o e hx => ?_, I.base.tups, I.base.frzs, I.base.tbls⟩, ⟨m, hn.sameBut hs (Ne.symm (cne x c hc)), fun j y v' e1 e2 e3 => ?_⟩, fun y c' e => ?_, I.free, I.freeC, fun p hp => ?_, tracked ⟨oc, hoc, I.freeC x c hc⟩ hs, by simpa using I.len⟩ ⟨c, hs, .inr hc⟩
    · exact (hs.2 b (Nat.ne_of_lt (Nat.lt_of_lt_of_le (Heap.lt_size e) (I.ok.cab x c hfn hc)))).trans (I.base.keep b o e n hb hx)
    · obtain ⟨sl, e1⟩ := I.base.slot b o e n hb hx
      exact ⟨sl, (hs.2 b (Nat.ne_of_lt (Nat.lt_of_lt_of_le (Heap.lt_size e) (I.ok.cab x c hfn hc)))).trans e1⟩
    · obtain ⟨o', e1⟩ := I.base.there b o e hx
      exact ⟨o', (hs.2 b (Nat.ne_of_lt (Nat.lt_of_lt_of_le (Heap.lt_size e) (I.ok.cab x c hfn hc)))).trans e1⟩
    · by_cases hj : j = i
      · subst hj
        rw [hi] at e1; cases e1
        rw [List.getElem?_set_self hiσ] at e2
        cases e2
        exact ⟨u, r, .inr ⟨.inl hk, c, hc, hc'⟩⟩
      · rw [List.getElem?_set_ne (Ne.symm hj)] at e2
        obtain ⟨u', r', q⟩ := hl j y v' e1 e2 e3
        refine ⟨u', r', ?_⟩
        rcases q with q | ⟨k, c', e, z'⟩
        · exact .inl q
        · refine .inr ⟨k, c', e, z'.sameBut hs ?_⟩
          rintro rfl
          exact hj (nodup_ix hN e1 (I.ok.inj _ _ _ e hc ▸ hi))
    · by_cases hcc : c' = c
      · subst hcc; exact ⟨_, hc'⟩
      · obtain ⟨w2, z2⟩ := I.cell y c' e
        exact ⟨w2, z2.sameBut hs hcc⟩
    · obtain ⟨e, n, ne, nf, d⟩ := I.pin p hp
      refine ⟨(hs.2 p.1 ?_).trans e, n, ne, nf, d⟩
      intro q
      rw [q, hoc] at e
      have q' : oc = p.2 := Option.some.inj e
      exact d w' (by rw [← q']; exact hocd)
theorem store_ok {M : Model} {A : Around} {E : Value → Shared → Prop} {i : Nat} {x : Str} {v : V} {u : Value} {Q : Unit → Shared → Prop} (I : Inv X pins σ H s) (hN : X.N.Nodup) (hi : X.N[i]? = some x) (hx : Loc X.env.scope x) (r : RelV v u)
    (h : ∀ s', Inv X pins (σ.set i (some v)) H s' → Q () s') (hf : X.fn x = true ∨ X.env.scope.names.lookup x = some .local := by first | exact .inl rfl | exact .inr rfl | assumption) : wpAny M A (storeName X.env x u) Q E s :=
  store_ok2 I hN hi hx r (fun s' I' _ => h s' I') hf
theorem Inv.call' {s' : Shared} {ch : List Addr} (I : Inv X pins σ H s) (ho : s'.os = s.os) (u : Un (frs X.stack) ch H H' s.heap s'.heap) (hok : HOk X.prog X.w H' s'.heap) (hg : AllBare s'.gens)
    (hch : ∀ b ∈ ch, (b ∈ X.ex ∨ X.s₀.heap.objs.size ≤ b) ∧ b ≠ X.env.locals ∧ (∀ x c, X.env.cells.lookup x = some c → c ≠ b) ∧ ∀ p ∈ X.pn ++ pins, p.1 ≠ b) : Inv X pins σ H' s' := by
  obtain ⟨h', g', d', t', o'⟩ := s'
  have e : o' = s.os := ho
  subst e
  exact I.call (g' := g') (t' := t') (d' := d') u hok hg hch
end

abbrev XK := Value → Option Addr → Hp → Prop
abbrev St := List (Option V)
abbrev VK := V → Hp → Prop
abbrev TE := St → Hp → VK → Prop
abbrev TT := St → Hp → (Bool → Hp → Prop) → Prop
abbrev TA := St → Hp → (List V → Hp → Prop) → Prop
structure Ends where
  nx : St → Hp → Prop
  rt : VK
  bk : St → Hp → Prop := fun _ _ => False
  ct : St → Hp → Prop := fun _ _ => False
abbrev TS := Ends → St → Hp → Prop

def EP (X : Cx) (pins : List (Addr × Obj)) (σ : St) (Q : VK) (u : Value) (s' : Shared) : Prop := ∃ v H', Inv X pins σ H' s' ∧ RelV v u ∧ Q v H'
def TP (X : Cx) (pins : List (Addr × Obj)) (σ : St) (Q : Bool → Hp → Prop) (b : Bool) (s' : Shared) : Prop := ∃ H', Inv X pins σ H' s' ∧ Q b H'
def AP (X : Cx) (pins : List (Addr × Obj)) (σ : St) (Q : List V → Hp → Prop) (us : List Value) (s' : Shared) : Prop := ∃ vs H', Inv X pins σ H' s' ∧ Vals vs us ∧ Q vs H'
def SP (X : Cx) (pins : List (Addr × Obj)) (D : Ends) (f : Flow) (s' : Shared) : Prop :=
  match f with
  | .next => ∃ σ' H', Inv X pins σ' H' s' ∧ D.nx σ' H'
  | .brk => ∃ σ' H', Inv X pins σ' H' s' ∧ D.bk σ' H'
  | .cont => ∃ σ' H', Inv X pins σ' H' s' ∧ D.ct σ' H'
  | .ret u => ∃ v σ' H', Inv X pins σ' H' s' ∧ RelV v u ∧ D.rt v H'

def PE (X : Cx) (e : Expr) (t : TE) : Prop :=
  ∀ (pins : List (Addr × Obj)) (s : Shared) (σ : St) (H : Hp) (Q : VK), Inv X pins σ H s → t σ H Q → wpAny (model X.prog X.w) X.A (eval e X.env) (EP X pins σ Q) X.xe s
def PT (X : Cx) (e : Expr) (t : TT) : Prop :=
  ∀ (pins : List (Addr × Obj)) (s : Shared) (σ : St) (H : Hp) (Q : Bool → Hp → Prop), Inv X pins σ H s → t σ H Q → wpAny (model X.prog X.w) X.A (isTrue e X.env (eval e X.env)) (TP X pins σ Q) X.xe s
def PW (X : Cx) (e : Expr) (t : TT) : Prop :=
  ∀ (whole : Sem Value) (pins : List (Addr × Obj)) (s : Shared) (σ : St) (H : Hp) (Q : Bool → Hp → Prop), Inv X pins σ H s → t σ H Q → wpAny (model X.prog X.w) X.A (isTrue e X.env whole) (TP X pins σ Q) X.xe s
theorem PW.pt {X : Cx} {e : Expr} {t : TT} (h : PW X e t) : PT X e t := h _
def PA (X : Cx) (es : List Expr) (t : TA) : Prop :=
  ∀ (pos : Pos) (pins : List (Addr × Obj)) (s : Shared) (σ : St) (H : Hp) (Q : List V → Hp → Prop), Inv X pins σ H s → t σ H Q → wpAny (model X.prog X.w) X.A (spliced (backTo pos (starEach es X.env))) (AP X pins σ Q) X.xe s
def PS (X : Cx) (st : Stmt) (t : TS) : Prop :=
  ∀ (pins : List (Addr × Obj)) (s : Shared) (σ : St) (H : Hp) (D : Ends), Inv X pins σ H s → t D σ H → wpAny (model X.prog X.w) X.A (exec st X.env) (SP X pins D) X.xe s
def PSs (X : Cx) (st : List Stmt) (t : TS) : Prop :=
  ∀ (pins : List (Addr × Obj)) (s : Shared) (σ : St) (H : Hp) (D : Ends), Inv X pins σ H s → t D σ H → wpAny (model X.prog X.w) X.A (execs st X.env) (SP X pins D) X.xe s
theorem thn {α : Type} {t : Sem α} {Q Q' : α → Shared → Prop} {M : Model} {A : Around} {E : Value → Shared → Prop} {s : Shared} (h : wpAny M A t Q E s) (hQ : ∀ a s, Q a s → Q' a s) : wpAny M A t Q' E s := wpAny_mono h hQ fun _ _ x => x
end L2

namespace L2
open PySem PySem.Spec PyProof.Rows
section
variable {X : Cx}

def tVar (i : Nat) : TE := fun σ H Q => ∃ v, σ[i]? = some (some v) ∧ Q v H
def tC (v : V) : TE := fun _ H Q => Q v H
theorem pe_var {i : Nat} {x : Str} {pos : Pos} (hN : X.N[i]? = some x) (hv : Vis X.env.scope x) (hd : (x == ("__debug__" : Str)) = false := by decide) (hcd : (x == ("__classdict__" : Str)) = false := by decide) : PE X (.Name x pos) (tVar i) := by
  intro pins s σ H Q I h
  obtain ⟨v, e, h⟩ := h
  obtain ⟨m, hn, hl⟩ := I.loc
  obtain ⟨u, r, l⟩ := hl i x v hN e hv
  have fin : EP X pins σ Q u s := ⟨v, H, I, r, h⟩
  rcases l with ⟨hk, hm⟩ | ⟨hk, c, hc, hcell⟩
  · exact wpAny_Name (wpAny_loadName_local I.ok.kind hk hn hm fin) hd
  · rcases hk with hk | hk
    · exact wpAny_Name (wpAny_loadName_cell I.ok.kind hk hc hcell fin) hd
    · exact wpAny_Name (wpAny_loadName_free I.ok.kind hk hc hcell fin hcd) hd
theorem pe_int {i j pos} : PE X (.Constant (.int i) j pos) (tC (.int i)) := fun _ _ _ H _ I h => wpAny_Constant_int ⟨.int i, H, I.tok _, ⟨_, rfl⟩, h⟩
theorem pe_bl {b j pos} : PE X (.Constant (.bool b) j pos) (tC (.bl b)) := fun _ _ _ H _ I h => Constant_bool ⟨.bl b, H, I, rfl, h⟩
theorem pe_non {j pos} : PE X (.Constant .none j pos) (tC .non) := fun _ _ _ H _ I h => Constant_none ⟨.non, H, I, rfl, h⟩
def Gl (X : Cx) (x : Str) : Prop := X.env.kindOf x = some .globalImplicit
theorem ld_glob {E : Value → Shared → Prop} {pins : List (Addr × Obj)} {s : Shared} {σ : St} {H : Hp} {x : Str} {u : Value} {pos : Pos} {Q : Value → Shared → Prop} (I : Inv X pins σ H s) (hg : Gl X x) (hm : X.mg x = some u) (h : Q u s)
    (hd : (x == ("__debug__" : Str)) = false := by decide) : wpAny (model X.prog X.w) X.A (eval (.Name x pos) X.env) Q E s :=
  Calls.Name_function_global I.ok.kind hg (Calls.loadGlobal_global (by rw [I.ok.glob]; exact I.mod.glob.keeps I.bk) hm h) hd
theorem ld_blt {E : Value → Shared → Prop} {pins : List (Addr × Obj)} {s : Shared} {σ : St} {H : Hp} {x : Str} {u : Value} {pos : Pos} {Q : Value → Shared → Prop} (I : Inv X pins σ H s) (hg : Gl X x) (hm : X.mg x = none) (hv : bootBuiltins x = some u) (h : Q u s)
    (hn : x ≠ "__name__" := by decide) (hd : (x == ("__debug__" : Str)) = false := by decide) : wpAny (model X.prog X.w) X.A (eval (.Name x pos) X.env) Q E s := by
  obtain ⟨mb, h1, h2⟩ := I.mod.blt
  exact Calls.Name_function_global I.ok.kind hg (Calls.loadGlobal_builtin (by rw [I.ok.glob]; exact I.mod.glob.keeps I.bk) hm (by rw [I.ok.blt]; exact h1.keeps I.bk) ((h2 x hn).trans hv) h) hd
theorem pe_bltn {x : Str} {v : V} {u : Value} {pos : Pos} (hg : Gl X x) (hm : X.mg x = none) (hv : bootBuiltins x = some u) (r : RelV v u) (hn : x ≠ "__name__" := by decide) (hd : (x == ("__debug__" : Str)) = false := by decide) : PE X (.Name x pos) (tC v) :=
  fun _ _ _ H _ I h => ld_blt I hg hm hv ⟨v, H, I, r, h⟩ hn hd

variable {a b : Expr} {ta tb : TE} {pos : Pos}
def PC (X : Cx) (op : CmpOp) (a b : Expr) (t : TE) : Prop :=
  ∀ (pins : List (Addr × Obj)) (s : Shared) (σ : St) (H : Hp) (Q : VK), Inv X pins σ H s → t σ H Q →
    wpAny (model X.prog X.w) X.A (eval a X.env) (fun v s₁ => wpAny (model X.prog X.w) X.A (eval b X.env) (fun u s₂ => wpAny (model X.prog X.w) X.A (compareOp op v u) (EP X pins σ Q) X.xe s₂) X.xe s₁) X.xe s
def tB (t : TE) : TT := fun σ H Q => t σ H fun x H1 => ∃ c, x = .bl c ∧ Q c H1
theorem pt_cmp {op : CmpOp} {t : TE} (h : PC X op a b t) (h1 : behindInMarks op b = false := by first | exact nobehind _ (by decide) (by decide) | rfl) : PT X (.Compare a [op] [b] pos) (tB t) := by
  intro pins s σ H Q I hw
  refine wpAny_isTrue_Compare1 (thn (h pins s σ H _ I hw) fun v s1 h1 => thn h1 fun u s2 h2 => thn h2 fun c s3 ⟨x, H1, I1, r1, q1⟩ => ?_) h1
  obtain ⟨d, rfl, q⟩ := q1
  cases r1
  exact wpAny_truthy_bool ⟨H1, I1, q⟩
theorem pt_val {e : Expr} {t : TE} (h : PE X e t) (he : ∀ whole, isTrue e X.env whole = (do let v ← whole; standAt e.pos; holding [v] (truthy v)) := by intro _; rfl) : PT X e (tB t) := by
  intro pins s σ H Q I hw
  refine isTrue_plain (thn (h pins s σ H _ I hw) fun v s1 ⟨x, H1, I1, r1, q1⟩ => ?_) (he _)
  obtain ⟨d, rfl, q⟩ := q1
  cases r1
  exact wpAny_truthy_bool ⟨H1, I1, q⟩

variable {tA tB' : TT} {rest : List Expr}
def tAnd (t u : TT) : TT := fun σ H Q => t σ H fun c H1 => if c = true then u σ H1 Q else Q false H1
def tOr (t u : TT) : TT := fun σ H Q => t σ H fun c H1 => if c = true then Q true H1 else u σ H1 Q
def tNot (t : TT) : TT := fun σ H Q => t σ H fun c H1 => Q (!c) H1
theorem pw_and1 (ha : PT X a tA) : PW X (.BoolOp .And [a] pos) tA := by
  intro wh pins s σ H Q I h
  refine isTrue_and (thn (ha pins s σ H Q I h) fun c s1 e => ?_)
  cases c with
  | true => exact isTrue_and_nil e
  | false => exact e
theorem pw_or1 (ha : PT X a tA) : PW X (.BoolOp .Or [a] pos) tA := by
  intro wh pins s σ H Q I h
  refine isTrue_or (thn (ha pins s σ H Q I h) fun c s1 e => ?_)
  cases c with
  | false => exact isTrue_or_nil e
  | true => exact e
theorem pw_and (ha : PT X a tA) (hb : PW X (.BoolOp .And (b :: rest) pos) tB') : PW X (.BoolOp .And (a :: b :: rest) pos) (tAnd tA tB') := by
  intro wh pins s σ H Q I h
  refine isTrue_and (thn (ha pins s σ H _ I h) fun c s1 ⟨H1, I1, q1⟩ => ?_)
  cases c with
  | true => exact hb wh pins s1 σ H1 Q I1 q1
  | false => exact ⟨H1, I1, q1⟩
theorem pw_or (ha : PT X a tA) (hb : PW X (.BoolOp .Or (b :: rest) pos) tB') : PW X (.BoolOp .Or (a :: b :: rest) pos) (tOr tA tB') := by
  intro wh pins s σ H Q I h
  refine isTrue_or (thn (ha pins s σ H _ I h) fun c s1 ⟨H1, I1, q1⟩ => ?_)
  cases c with
  | true => exact ⟨H1, I1, q1⟩
  | false => exact hb wh pins s1 σ H1 Q I1 q1
theorem pt_not (ha : PT X a tA) : PT X (.UnaryOp .Not a pos) (tNot tA) := by
  intro pins s σ H Q I h
  exact isTrue_not (ha pins s σ H (fun c H1 => Q (!c) H1) I h)
def tAndV (ta tb : TE) : TE := fun σ H Q => ta σ H fun x H1 => ∃ c, x = .bl c ∧ if c = true then tb σ H1 Q else Q (.bl false) H1
def tNotV (ta : TE) : TE := fun σ H Q => ta σ H fun x H1 => ∃ c, x = .bl c ∧ Q (.bl (!c)) H1
theorem pe_one {op} {t : TE} (h : PE X a t) : PE X (.BoolOp op [a] pos) t := fun pins s σ H Q I hw => BoolOp_one (h pins s σ H Q I hw)
theorem pe_and (ha : PE X a ta) (hb : PE X (.BoolOp .And (b :: rest) pos) tb) : PE X (.BoolOp .And (a :: b :: rest) pos) (tAndV ta tb) := by
  intro pins s σ H Q I h
  refine BoolOp_and (thn (ha pins s σ H _ I h) fun v s1 ⟨x, H1, I1, r1, q1⟩ => ?_)
  obtain ⟨c, rfl, q1⟩ := q1
  cases r1
  refine wpAny_truthy_bool ?_
  cases c with
  | true => exact hb pins s1 σ H1 Q I1 q1
  | false => exact ⟨.bl false, H1, I1, rfl, q1⟩
theorem pe_not (ha : PE X a ta) : PE X (.UnaryOp .Not a pos) (tNotV ta) := by
  intro pins s σ H Q I h
  refine UnaryOp_ (thn (ha pins s σ H _ I h) fun v s1 ⟨x, H1, I1, r1, q1⟩ => ?_)
  obtain ⟨c, rfl, q1⟩ := q1
  cases r1
  exact not_of (wpAny_truthy_bool ⟨.bl (!c), H1, I1, rfl, q1⟩)
def tIf (t : TT) (ta tb : TE) : TE := fun σ H Q => t σ H fun c H1 => if c = true then ta σ H1 Q else tb σ H1 Q
theorem pe_ifExp {c : Expr} (hc : PT X c tA) (ha : PE X a ta) (hb : PE X b tb) : PE X (.IfExp c a b pos) (tIf tA ta tb) := by
  intro pins s σ H Q I h
  refine wpAny_IfExp (thn (hc pins s σ H _ I h) fun d s1 ⟨H1, I1, q1⟩ => ?_)
  cases d with
  | true => exact ha pins s1 σ H1 Q I1 q1
  | false => exact hb pins s1 σ H1 Q I1 q1
end
end L2

namespace L2
open PySem PySem.Spec PyProof.Rows

def SqL (K : PySem.W.Frag) (H : Hp) (a : Addr) (xs : List V) : Prop :=
  Rd H a (.lst xs) ∨
    ∃ (o : Obj) (its : Array Value) (n : Nat), K.lookup a = some o ∧ o.cls = .type "list" ∧ o.dict = none ∧ o.data = .seq its n ∧ its.size ≤ sizeLine ∧ Vals xs its.toList
def SqT (K : PySem.W.Frag) (H : Hp) (a : Addr) (xs : List V) : Prop :=
  Rd H a (.tup xs) ∨
    ∃ (o : Obj) (its : Array Value) (n : Nat), K.lookup a = some o ∧ o.cls = .type "tuple" ∧ o.data = .seq its n ∧ its.size ≤ sizeLine ∧ Vals xs its.toList
def absV : Value → Option V
  | .none => some .non
  | .bool b => some (.bl b)
  | .int i _ => some (.int i)
  | .str x _ => some (.str x)
  | .bytes b _ => some (.byt b)
  | .float b _ => some (.flt b)
  | .ref a => some (.ref a)
  | .type n => some (.ty n)
  | _ => none
theorem RelV.abs {x : V} {u : Value} (r : RelV x u) : absV u = some x := by
  cases x with
  | non => cases r; rfl
  | bl _ => cases r; rfl
  | int _ => obtain ⟨t, rfl⟩ := r; rfl
  | str _ => obtain ⟨t, rfl⟩ := r; rfl
  | byt _ => obtain ⟨t, rfl⟩ := r; rfl
  | flt _ => obtain ⟨t, rfl⟩ := r; rfl
  | ref _ => cases r; rfl
  | ty _ => cases r; rfl
theorem RelV.inj {x y : V} {u : Value} (r : RelV x u) (q : RelV y u) : x = y := Option.some.inj (r.abs.symm.trans q.abs)
theorem Vals.inj : ∀ {xs ys : List V} {us : List Value}, Vals xs us → Vals ys us → xs = ys
  | _, _, _, .nil, .nil => rfl
  | _, _, _, .cons r t, .cons r' t' => by rw [r.inj r', Vals.inj t t']
section
variable {X : Cx} {pins : List (Addr × Obj)} {σ : St} {H : Hp} {s : Shared} {a : Addr} {xs ys : List V}
theorem SqL.of {K : PySem.W.Frag} (h : H a = some (.lst xs)) : SqL K H a xs := .inl (.inl h)
theorem SqT.of {K : PySem.W.Frag} (h : H a = some (.tup xs)) : SqT K H a xs := .inl (.inl h)
theorem Inv.list (I : Inv X pins σ H s) (h : SqL X.K H a xs) : ∃ its : List Value, Vals xs its ∧ PlainL s.heap a its.toArray ∧ xs.length ≤ sizeLine := by
  rcases h with h | ⟨o, its, n, hk, hc, hd, hs, hz, r⟩
  · obtain ⟨z, its, n, r, e⟩ := h.ok I.hok
    exact ⟨its, r, ⟨_, n, e, rfl, rfl, rfl⟩, z⟩
  · refine ⟨its.toList, r, ⟨o, n, I.kIn a o hk, hc, hd, by simpa using hs⟩, ?_⟩
    have e := r.length
    simp only [Array.length_toList] at e
    omega
theorem Inv.tuple (I : Inv X pins σ H s) (h : SqT X.K H a xs) : ∃ its : List Value, Vals xs its ∧ IsTup s.heap a its.toArray ∧ xs.length ≤ sizeLine := by
  rcases h with h | ⟨o, its, n, hk, hc, hs, hz, r⟩
  · obtain ⟨z, its, r, p⟩ := h.ok I.hok
    exact ⟨its, r, p, z⟩
  · refine ⟨its.toList, r, ⟨o, I.kIn a o hk, hc, n, by simpa using hs⟩, ?_⟩
    have e := r.length
    simp only [Array.length_toList] at e
    omega
theorem Inv.list_inj (I : Inv X pins σ H s) (h : SqL X.K H a xs) (h' : SqL X.K H a ys) : xs = ys := by
  obtain ⟨its, r, ⟨o, n, e, _, _, d⟩, _⟩ := I.list h
  obtain ⟨its', r', ⟨o', n', e', _, _, d'⟩, _⟩ := I.list h'
  rw [e] at e'; cases e'
  rw [d] at d'
  injection d' with d1 _
  have : its = its' := by simpa using congrArg Array.toList d1
  subst this
  exact r.inj r'
end

abbrev Cx.wish (X : Cx) (E : Value → Shared → Prop) : Cx := { X with xe := E }
abbrev Cx.nox (X : Cx) : Cx := X.wish fun _ _ => False
theorem Cx.Ok.wish {X : Cx} (ok : X.Ok) (E : Value → Shared → Prop) : (X.wish E).Ok :=
  ⟨ok.mod, ok.kind, ok.glob, ok.blt, ok.above, ok.inj, ok.has, ok.cab, ok.hd, ok.frames, ok.stk, ok.exf, ok.bs, ok.bsz, ok.noex, ok.exfs, ok.funs, ok.frf⟩
theorem Cx.Ok.unwish {X : Cx} {E : Value → Shared → Prop} (ok : (X.wish E).Ok) : X.Ok :=
  ⟨ok.mod, ok.kind, ok.glob, ok.blt, ok.above, ok.inj, ok.has, ok.cab, ok.hd, ok.frames, ok.stk, ok.exf, ok.bs, ok.bsz, ok.noex, ok.exfs, ok.funs, ok.frf⟩
section
variable {X : Cx} {pins : List (Addr × Obj)} {σ : St} {H : Hp} {s : Shared} {E : Value → Shared → Prop}
theorem Inv.wish (I : Inv X pins σ H s) (E : Value → Shared → Prop) : Inv (X.wish E) pins σ H s := ⟨I.ok.wish E, I.os, I.bare, I.base, I.loc, I.cell, I.free, I.freeC, I.pin, I.hok, I.len⟩
theorem Inv.unwish (I : Inv (X.wish E) pins σ H s) : Inv X pins σ H s := ⟨I.ok.unwish, I.os, I.bare, I.base, I.loc, I.cell, I.free, I.freeC, I.pin, I.hok, I.len⟩
theorem SP.unwish {D : Ends} {f : Flow} {s' : Shared} (h : SP (X.wish E) pins D f s') : SP X pins D f s' := by
  cases f with
  | next => obtain ⟨σ', H', I, q⟩ := h; exact ⟨σ', H', I.unwish, q⟩
  | brk => obtain ⟨σ', H', I, q⟩ := h; exact ⟨σ', H', I.unwish, q⟩
  | cont => obtain ⟨σ', H', I, q⟩ := h; exact ⟨σ', H', I.unwish, q⟩
  | ret u => obtain ⟨v, σ', H', I, r, q⟩ := h; exact ⟨v, σ', H', I.unwish, r, q⟩
theorem PSs.nox {st : List Stmt} {t : TS} (h : PSs X.nox st t) : PSs X st t := fun pins s σ H D I hw =>
  wpAny_mono (h pins s σ H D (I.wish _) hw) (fun _ _ q => q.unwish) fun _ _ z => False.elim z
end

section
variable {X : Cx} {st : Stmt} {rest : List Stmt} {t u : TS} {e : Expr} {te : TE} {pos : Pos}
def tNext : TS := fun D σ H => D.nx σ H
def tSeq (t u : TS) : TS := fun D σ H => t { D with nx := u D } σ H
theorem pss_nil : PSs X [] tNext := fun _ _ σ H _ I h => wpAny_execs_nil ⟨σ, H, I, h⟩
theorem pss_cons (h1 : PS X st t) (h2 : PSs X rest u) : PSs X (st :: rest) (tSeq t u) := by
  intro pins s σ H D I h
  refine wpAny_execs_cons (thn (h1 pins s σ H { D with nx := u D } I h) fun f s1 q => ?_)
  cases f with
  | next =>
    obtain ⟨σ', H', I', q⟩ := q
    exact h2 pins s1 σ' H' D I' q
  | ret v => exact q
  | brk => exact q
  | cont => exact q
theorem pss_one (h1 : PS X st t) : PSs X [st] t := by
  intro pins s σ H D I h
  refine wpAny_execs_cons (thn (h1 pins s σ H D I h) fun f s1 q => ?_)
  cases f with
  | next => exact wpAny_execs_nil q
  | ret v => exact q
  | brk => exact q
  | cont => exact q
theorem Inv.quiet {pins : List (Addr × Obj)} {σ : St} {H : Hp} {s : Shared} (I : Inv X pins σ H s) : interactive X.env = false := by simp [interactive, I.ok.kind]
def tDrop (te : TE) : TS := fun D σ H => te σ H fun _ H1 => D.nx σ H1
theorem ps_expr (he : PE X e te) (hs : swapsWith e none pos.line X.env = pure false := by rfl) : PS X (.Expr e pos) (tDrop te) := by
  intro pins s σ H D I h
  exact wpAny_Expr_any (thn (he pins s σ H _ I h) fun v s1 ⟨x, H1, I1, r1, q1⟩ => ⟨σ, H1, I1, q1⟩) I.quiet hs
def tRet (te : TE) : TS := fun D σ H => te σ H D.rt
theorem ps_ret (he : PE X e te) : PS X (.Return (some e) pos) (tRet te) := by
  intro pins s σ H D I h
  exact wpAny_Return_some (thn (he pins s σ H _ I h) fun v s1 ⟨x, H1, I1, r1, q1⟩ => ⟨x, σ, H1, I1, r1, q1⟩)
def tIfS (c : TT) (t u : TS) : TS := fun D σ H => c σ H fun b H1 => if b = true then t D σ H1 else u D σ H1
theorem ps_if {c : Expr} {a b : List Stmt} {tc : TT} (hc : PT X c tc) (ha : PSs X a t) (hb : PSs X b u) : PS X (.If c a b pos) (tIfS tc t u) := by
  intro pins s σ H D I h
  refine wpAny_If (thn (hc pins s σ H _ I h) fun d s1 ⟨H1, I1, q1⟩ => ?_)
  cases d with
  | true => exact ha pins s1 σ H1 D I1 q1
  | false => exact hb pins s1 σ H1 D I1 q1
end

abbrev TG := V → St → Hp → (St → Hp → Prop) → Prop
abbrev TGs := List V → St → Hp → (St → Hp → Prop) → Prop
def PG (X : Cx) (target : Expr) (t : TG) : Prop :=
  ∀ (pins : List (Addr × Obj)) (s : Shared) (σ : St) (H : Hp) (v : V) (u : Value) (Q : St → Hp → Prop), Inv X pins σ H s → RelV v u → t v σ H Q →
    wpAny (model X.prog X.w) X.A (assign target X.env u) (fun _ s' => ∃ σ' H', Inv X pins σ' H' s' ∧ Q σ' H') X.xe s
def PGs (X : Cx) (ts : List Expr) (t : TGs) : Prop :=
  ∀ (pins : List (Addr × Obj)) (s : Shared) (σ : St) (H : Hp) (vs : List V) (us : List Value) (Q : St → Hp → Prop), Inv X pins σ H s → Vals vs us → t vs σ H Q →
    wpAny (model X.prog X.w) X.A (assignInOrder ((assignEach ts X.env).map (·.2)) us) (fun _ s' => ∃ σ' H', Inv X pins σ' H' s' ∧ Q σ' H') X.xe s
section
variable {X : Cx} {pos : Pos}
def gName (i : Nat) : TG := fun v σ H Q => Q (σ.set i (some v)) H
theorem pg_name {i : Nat} {x : Str} (hN : X.N.Nodup) (hi : X.N[i]? = some x) (hx : Loc X.env.scope x) (hf : X.fn x = true ∨ X.env.scope.names.lookup x = some .local := by first | exact .inl rfl | exact .inr rfl | assumption) : PG X (.Name x pos) (gName i) := by
  intro pins s σ H v u Q I r h
  exact wpAny_assign_Name (store_ok I hN hi hx r (fun s' I' => ⟨_, H, I', h⟩) hf)
def gNil : TGs := fun vs σ H Q => vs = [] ∧ Q σ H
def gCons (t : TG) (u : TGs) : TGs := fun vs σ H Q => ∃ v r, vs = v :: r ∧ t v σ H fun σ' H' => u r σ' H' Q
theorem pgs_nil : PGs X [] gNil := by
  intro pins s σ H vs us Q I r h
  obtain ⟨e, h⟩ := h
  subst e
  cases r
  exact assignInOrder_nil ⟨σ, H, I, h⟩
theorem pgs_cons {e : Expr} {es : List Expr} {t : TG} {u : TGs} (h1 : PG X e t) (h2 : PGs X es u)
    (hs : (assignEach (e :: es) X.env).map (·.2) = assign e X.env :: (assignEach es X.env).map (·.2) := by rfl) : PGs X (e :: es) (gCons t u) := by
  intro pins s σ H vs us Q I r h
  obtain ⟨v, vr, e1, h⟩ := h
  subst e1
  cases r with
  | cons r rr =>
    rw [hs]
    refine assignInOrder_cons (thn (h1 pins s σ H _ _ _ I r h) fun _ s1 ⟨σ1, H1, I1, q1⟩ => ?_)
    exact h2 pins s1 σ1 H1 _ _ Q I1 rr q1
def gTup (K : PySem.W.Frag) (n : Nat) (t : TGs) : TG := fun v σ H Q => ∃ a xs, v = .ref a ∧ SqT K H a xs ∧ xs.length = n ∧ t xs σ H Q
theorem pg_tup {es : List Expr} {k : Nat} {t : TGs} {n : Nat} (hc : X.calm = true) (h : PGs X es t)
    (hn : (assignEach es X.env).length = n := by rfl) (hst : (assignEach es X.env).findIdx? (·.1) = none := by rfl) : PG X (.Tuple es k pos) (gTup X.K n t) := by
  intro pins s σ H v u Q I r hw
  obtain ⟨a, xs, e1, hq, hl, hw⟩ := hw
  subst e1
  cases r
  obtain ⟨its, rv, ht, hz⟩ := I.tuple hq
  refine assign_Tuple_tuple (I.ok.hd hc) ht (by simp [hn, ← hl, rv.length]) hst fun h' hx => ?_
  have I1 : Inv X pins σ H { s with heap := h' } := I.kept (t' := s.toks) fun b o e => hx b o (Nat.ne_of_lt (Heap.lt_size e)) e
  exact h pins _ σ H xs _ Q I1 (by simpa using rv) hw
def tAsg (te : TE) (g : TG) : TS := fun D σ H => te σ H fun x H1 => g x σ H1 D.nx
theorem ps_set {i : Nat} {x : Str} {e : Expr} {te : TE} {pos' : Pos} (hN : X.N.Nodup) (hi : X.N[i]? = some x) (hx : Loc X.env.scope x) (he : PE X e te) (hs : swapsWith e (some (.Name x pos')) pos.line X.env = pure false := by rfl) (hf : X.fn x = true ∨ X.env.scope.names.lookup x = some .local := by first | exact .inl rfl | exact .inr rfl | assumption) :
    PS X (.Assign [.Name x pos'] e pos) (tAsg te (gName i)) := by
  intro pins s σ H D I h
  refine wpAny_Assign_Name (thn (he pins s σ H _ I h) fun v s1 ⟨y, H1, I1, r1, q1⟩ => ?_) hs
  exact store_ok I1 hN hi hx r1 (fun s2 I2 => ⟨_, H1, I2, q1⟩) hf
end


structure It where
  go : Nat → Hp → Prop
  yld : Nat → Hp → V → Hp → Prop
  stop : Nat → Hp → Prop
def FpOk (X : Cx) (pins : List (Addr × Obj)) (H : Hp) (b : Addr) : Prop :=
  H b = none ∧ b ≠ X.env.locals ∧ b ∉ X.fs ∧ (b ∈ X.ex ∨ X.s₀.heap.objs.size ≤ b) ∧ (∀ x c, X.env.cells.lookup x = some c → c ≠ b) ∧ ∀ p ∈ X.pn ++ pins, p.1 ≠ b
theorem Inv.fpOk {X : Cx} {pins : List (Addr × Obj)} {σ : St} {H H' : Hp} {s : Shared} {b : Addr} (I : Inv X pins σ H s) (hb : s.heap.objs.size ≤ b) (hn : H' b = none) : FpOk X pins H' b := by
  refine ⟨hn, Nat.ne_of_gt (Nat.lt_of_lt_of_le I.lt hb), I.nofs hb, .inr (Nat.le_trans I.sz hb), fun x c e z => ?_, fun p hp z => ?_⟩
  · obtain ⟨v, q⟩ := I.cell x c e
    exact absurd (Nat.lt_of_lt_of_le q.lt (by rw [z]; exact hb)) (Nat.lt_irrefl _)
  · exact absurd (Nat.lt_of_lt_of_le (Heap.lt_size (I.pin p hp).1) (by rw [z]; exact hb)) (Nat.lt_irrefl _)
structure Turn (P : Program) (w : World) (K : PySem.W.Frag) (tg : Expr) (J : It) (fp : List Addr) (it : Addr) (tn : Nat → Heap → Prop) : Prop where
  mem : it ∈ fp
  obj : ∀ i h, tn i h → ∀ b ∈ fp, ∃ o, h.get? b = some o ∧ ∀ v, o.data ≠ .cell v
  keep : ∀ i h h', tn i h → (∀ b ∈ fp, ∀ o, h.get? b = some o → h'.get? b = some o) → tn i h'
  item : ∀ (X : Cx), X.prog = P → X.w = w → X.K = K → X.calm = true → ∀ (i : Nat) (pins : List (Addr × Obj)) (s : Shared) (σ : St) (H : Hp) (E : Value → Shared → Prop), Inv X pins σ H s → (∀ b ∈ fp, FpOk X pins H b) → tn i s.heap → J.go i H →
    wpAny (model P w) X.A (pyNext (.ref it)) (fun r s1 => ∃ u, r = some u ∧
      wpAny (model P w) X.A (letOwnedTupleGo tg (.ref it) u) (fun _ s2 => ∃ x H', Inv X pins σ H' s2 ∧ RelV x u ∧ J.yld i H x H' ∧ tn (i + 1) s2.heap ∧ ∀ b ∈ fp, H' b = none) E s1) E s
  done : ∀ (X : Cx), X.prog = P → X.w = w → X.K = K → X.calm = true → ∀ (i : Nat) (pins : List (Addr × Obj)) (s : Shared) (σ : St) (H : Hp) (E : Value → Shared → Prop), Inv X pins σ H s → (∀ b ∈ fp, FpOk X pins H b) → tn i s.heap → J.stop i H →
    wpAny (model P w) X.A (pyNext (.ref it)) (fun r s1 => r = none ∧ Inv X pins σ H s1) E s
  self : ∀ (A : Around) (i : Nat) (s : Shared) (Q : Value → Shared → Prop) (E : Value → Shared → Prop), tn i s.heap → Q (.ref it) s → wpAny (model P w) A (pyIter (.ref it)) Q E s
abbrev TI := St → Hp → (It → Hp → Prop) → Prop
def PIE (X : Cx) (pins : List (Addr × Obj)) (σ : St) (tg : Expr) (R : It → Hp → Prop) (itv : Value) (s2 : Shared) : Prop :=
  ∃ (it : Addr) (fp : List Addr) (tn : Nat → Heap → Prop) (J : It) (H' : Hp), itv = .ref it ∧ Inv X pins σ H' s2 ∧ Turn X.prog X.w X.K tg J fp it tn ∧ tn 0 s2.heap ∧ (∀ b ∈ fp, FpOk X pins H' b) ∧ R J H'
def PI (X : Cx) (tg iter : Expr) (wi : TI) : Prop :=
  ∀ (pins : List (Addr × Obj)) (s : Shared) (σ : St) (H : Hp) (R : It → Hp → Prop), Inv X pins σ H s → wi σ H R →
    wpAny (model X.prog X.w) X.A (eval iter X.env) (fun v s1 => wpAny (model X.prog X.w) X.A (pyIter v) (PIE X pins σ tg R) X.xe s1) X.xe s

theorem go_of {M : Model} {A : Around} {E : Value → Shared → Prop} {s : Shared} {tg : Expr} {it : Addr} {u : Value} {o : Obj} {n : String} {vs : Array Value} {Q : Unit → Shared → Prop} (ho : s.heap.get? it = some o) (hc : o.cls = .type n) (hd : o.data = .fields vs)
    (hn : ["enumerate", "zip", "dict_itemiterator", "dict_reverseitemiterator", "odict_iterator", "itertools.zip_longest", "itertools.pairwise"].contains n = false) (hQ : Q () s) : wpAny M A (letOwnedTupleGo tg (.ref it) u) Q E s := by
  unfold letOwnedTupleGo
  cases tg <;> first
    | exact wpAny_pure hQ
    | (cases u <;> first
        | exact wpAny_pure hQ
        | (refine wpAny_bind (wpAny_load ho ?_)
           rw [hc, hd]
           show wpAny M A (if (["enumerate", "zip", "dict_itemiterator", "dict_reverseitemiterator", "odict_iterator", "itertools.zip_longest", "itertools.pairwise"].contains n && vs[0]? == some (rawInt _)) = true then _ else _) Q E s
           rw [if_neg (by intro h; rw [hn, Bool.false_and] at h; cases h)]
           exact wpAny_pure hQ))

def Itl (K : PySem.W.Frag) (a : Addr) : It :=
  ⟨fun i H => ∃ xs x, SqL K H a xs ∧ xs[i]? = some x, fun i H x H' => H' = H ∧ ∀ xs, SqL K H a xs → xs[i]? = some x, fun i H => ∃ xs, SqL K H a xs ∧ xs.length ≤ i⟩
def Itr (lo : Int) (n : Nat) : It := ⟨fun i _ => i < n, fun i H x H' => H' = H ∧ x = .int (lo + i), fun i _ => n ≤ i⟩
theorem turn_list {P : Program} {w : World} {K : PySem.W.Frag} {tg : Expr} (a it : Addr) : Turn P w K tg (Itl K a) [it] it (fun i h => h.IsListIter it a i) where
  mem := by simp
  obj := fun i h st b hb => by
    have e : b = it := by simpa using hb
    subst e
    obtain ⟨o, e, c, d⟩ := st
    exact ⟨o, e, fun v z => by rw [d] at z; cases z⟩
  keep := fun i h h' st k => st.at fun o e => k it (by simp) o e
  item := by
    intro X hP hw hK hc i pins s σ H E I hf st hg
    subst hP hw hK
    obtain ⟨xs, x, hq, hx⟩ := hg
    obtain ⟨its, rv, p, hz⟩ := I.list hq
    obtain ⟨u, hu, ru⟩ := rv.get hx
    obtain ⟨f0, f1, f2, f3, f4, f5⟩ := hf it (by simp)
    refine wpAny_pyNext_list_item st p.isList (x := u) (by simpa using hu) fun h' st' sb => ?_
    have I1 : Inv X pins σ H { s with heap := h' } := I.turned (t' := s.toks) (fun b o hb e => (sb.2 b hb).trans e) f0 f1 f3 f4 f5
    obtain ⟨o, e, c, d⟩ := id st'
    exact ⟨u, rfl, go_of (s := { s with heap := h' }) e c d (by decide) ⟨x, H, I1, ru, ⟨rfl, fun ys hy => by rw [I.list_inj hy hq]; exact hx⟩, st', fun b hb => (hf b hb).1⟩⟩
  done := by
    intro X hP hw hK hc i pins s σ H E I hf st hg
    subst hP hw hK
    obtain ⟨xs, hq, hx⟩ := hg
    obtain ⟨its, rv, p, hz⟩ := I.list hq
    obtain ⟨f0, f1, f2, f3, f4, f5⟩ := hf it (by simp)
    have hl := rv.length
    exact wpAny_pyNext_list_end (I.ok.hd hc) st p.isList (by simp; omega) fun h' eb => ⟨rfl, I.turned (t' := s.toks) (fun b o hb e => eb b o hb e) f0 f1 f3 f4 f5⟩
  self := fun _ _ _ _ _ st h => wpAny_pyIter_listiter st h
theorem turn_range {P : Program} {w : World} {K : PySem.W.Frag} {tg : Expr} (it : Addr) (lo : Int) (n : Nat) : Turn P w K tg (Itr lo n) [it] it (fun i h => IsRangeIter h it (lo + (i : Nat) * 1) ((n : Int) - (i : Nat)) 1) where
  mem := by simp
  obj := fun i h st b hb => by
    have e : b = it := by simpa using hb
    subst e
    exact ⟨_, st, fun v z => by
      have z' : Data.fields _ = Data.cell v := z
      cases z'⟩
  keep := fun i h h' st k => k it (by simp) _ st
  item := by
    intro X hP hw hK hc i pins s σ H E I hf st hg
    subst hP hw hK
    obtain ⟨f0, f1, f2, f3, f4, f5⟩ := hf it (by simp)
    have W := Walks.range (prog := X.prog) (w := X.w) (I.ok.hd hc) it lo 1 n
    refine W.item i s _ _ hg st fun v h' tk hv st' kk => ?_
    obtain ⟨t, rfl⟩ := hv
    have I1 : Inv X pins σ H { s with heap := h', toks := tk } := I.turned (fun b o hb e => kk b o (by simpa using hb) e) f0 f1 f3 f4 f5
    refine ⟨_, rfl, go_of (s := { s with heap := h', toks := tk }) (n := "range_iterator") st' rfl rfl (by decide) ⟨.int (lo + i), H, I1, ⟨t, ?_⟩, ⟨rfl, rfl⟩, st', fun b hb => (hf b hb).1⟩⟩
    rw [Int.mul_one]
  done := by
    intro X hP hw hK hc i pins s σ H E I hf st hg
    subst hP hw hK
    obtain ⟨f0, f1, f2, f3, f4, f5⟩ := hf it (by simp)
    exact wpAny_pyNext_range_end (I.ok.hd hc) st (by have : n ≤ i := hg; omega) fun h' eb => ⟨rfl, I.turned (t' := s.toks) (fun b o hb e => eb b o hb e) f0 f1 f3 f4 f5⟩
  self := fun _ _ _ _ _ st h => wpAny_pyIter_rangeiter st h
end L2

namespace L2
open PySem PySem.Spec PyProof.Rows
section
variable {X : Cx} {tg : Expr}
def iList (K : PySem.W.Frag) (tl : TE) : TI := fun σ H R => tl σ H fun x H1 => ∃ a, x = .ref a ∧ (∃ xs, SqL K H1 a xs) ∧ R (Itl K a) H1
theorem pi_list {l : Expr} {tl : TE} (hl : PE X l tl) : PI X tg l (iList X.K tl) := by
  intro pins s σ H R I h
  refine thn (hl pins s σ H _ I h) fun v s1 ⟨x, H1, I1, r1, q1⟩ => ?_
  obtain ⟨a, e, ⟨xs, hq⟩, q⟩ := q1
  subst e
  cases r1
  obtain ⟨its, rv, p, hz⟩ := I1.list hq
  refine wpAny_pyIter_list p.isList ?_
  refine ⟨s1.heap.objs.size, [s1.heap.objs.size], _, _, H1, rfl, I1.kept (t' := s1.toks) fun b o e => Heap.get?_push_of_some _ e, turn_list a _, ⟨_, Heap.get?_push_size _ rfl, rfl, rfl⟩, fun b hb => ?_, q⟩
  have e : b = s1.heap.objs.size := by simpa using hb
  subst e
  exact I1.fpOk (Nat.le_refl _) (I1.hok.fresh (Nat.le_refl _))
theorem range_it {pins : List (Addr × Obj)} {σ : St} {H : Hp} {s : Shared} {R : It → Hp → Prop} {E : Value → Shared → Prop} {lo hi : Int} {t u v : Tok} {tk : Nat} (I : Inv X pins σ H s) (h1 : -(2 ^ 62) ≤ lo) (h2 : lo < 2 ^ 62) (h3 : -(2 ^ 62) ≤ hi) (h4 : hi < 2 ^ 62)
    (q : R (Itr lo (hi - lo).toNat) H) : wpAny (model X.prog X.w) X.A (pyIter (.ref s.heap.objs.size)) (PIE X pins σ tg R) E { s with heap := s.heap.push { cls := .type "range", data := .fields #[.int lo t, .int hi u, .int 1 v] }, toks := tk } := by
  refine wpAny_pyIter_range (IsRange.new ..) (small_one h1 h2 h3 h4) ?_
  have I1 : Inv X pins σ H { s with heap := s.heap.push { cls := .type "range", data := .fields #[.int lo t, .int hi u, .int 1 v] }, toks := tk } := I.kept fun b o e => Heap.get?_push_of_some _ e
  refine ⟨(s.heap.push { cls := .type "range", data := .fields #[.int lo t, .int hi u, .int 1 v] }).objs.size, [(s.heap.push { cls := .type "range", data := .fields #[.int lo t, .int hi u, .int 1 v] }).objs.size], _, _, H, rfl,
    I1.kept (t' := tk) fun b o e => Heap.get?_push_of_some _ e, turn_range _ lo (hi - lo).toNat, ?_, fun b hb => ?_, q⟩
  · have e1 : lo + ((0 : Nat) : Int) * 1 = lo := by simp
    have e2 : (((hi - lo).toNat : Nat) : Int) - ((0 : Nat) : Int) = Builtin.Range.rangeSize lo hi 1 := by rw [rangeSize_one]; split <;> omega
    show IsRangeIter _ _ (lo + ((0 : Nat) : Int) * 1) ((((hi - lo).toNat : Nat) : Int) - ((0 : Nat) : Int)) 1
    rw [e1, e2]
    exact Heap.get?_push_size _ rfl
  · have e : b = (s.heap.push { cls := .type "range", data := .fields #[.int lo t, .int hi u, .int 1 v] }).objs.size := by simpa using hb
    subst e
    exact I1.fpOk (Nat.le_refl _) (I1.hok.fresh (Nat.le_refl _))
def iRng1 (ta : TA) : TI := fun σ H R => ta σ H fun vs H1 => ∃ j : Int, vs = [.int j] ∧ -(2 ^ 62) ≤ j ∧ j < 2 ^ 62 ∧ R (Itr 0 j.toNat) H1
def iRng2 (ta : TA) : TI := fun σ H R => ta σ H fun vs H1 => ∃ i j : Int, vs = [.int i, .int j] ∧ (-(2 ^ 62) ≤ i ∧ i < 2 ^ 62 ∧ -(2 ^ 62) ≤ j ∧ j < 2 ^ 62) ∧ R (Itr i (j - i).toNat) H1
theorem pi_range1 {a : Expr} {ta : TA} {p pos : Pos} (hg : Gl X "range") (hm : X.mg "range" = none) (ha : PA X [a] ta) (hs : starEach [a] X.env = [(false, eval a X.env)] := by rfl) : PI X tg (.Call (.Name "range" p) [a] [] pos) (iRng1 ta) := by
  intro pins s σ H R I h
  refine Call_ (ld_blt I hg hm boot_range (PyProof.Rows.callWith_type1 (thn (ha pos pins s σ H _ I h) fun us s1 ⟨vs, H1, I1, r1, q1⟩ => ?_) hs rfl))
  obtain ⟨j, e, q1, q2, q⟩ := q1
  subst e
  cases r1 with
  | cons r rr =>
    cases rr
    obtain ⟨t, rfl⟩ := r
    exact call_range_1 (range_it I1 (by omega) (by omega) q1 q2 (by simpa using q))
theorem pi_range2 {a b : Expr} {ta : TA} {p pos : Pos} (hg : Gl X "range") (hm : X.mg "range" = none) (ha : PA X [a, b] ta) (hs : starEach [a, b] X.env = [(false, eval a X.env), (false, eval b X.env)] := by rfl) (hs2 : starEach [b] X.env = [(false, eval b X.env)] := by rfl) :
    PI X tg (.Call (.Name "range" p) [a, b] [] pos) (iRng2 ta) := by
  intro pins s σ H R I h
  refine Call_ (ld_blt I hg hm boot_range (PyProof.Rows.callWith_type1 (thn (ha pos pins s σ H _ I h) fun us s1 ⟨vs, H1, I1, r1, q1⟩ => ?_) (by rw [hs, hs2]) (by rw [hs2]; rfl)))
  obtain ⟨i, j, e, ⟨q1, q2, q3, q4⟩, q⟩ := q1
  subst e
  cases r1 with
  | cons r rr =>
    cases rr with
    | cons r' rr =>
      cases rr
      obtain ⟨t, rfl⟩ := r
      obtain ⟨t', rfl⟩ := r'
      exact call_range_2 (range_it I1 q1 q2 q3 q4 q)

def tFor (wi : TI) (g : TG) (tb : TS) : TS := fun D σ H => wi σ H fun J H1 => ∃ W : Nat → Nat → St → Hp → Prop, (∃ m, W 0 m σ H1) ∧ ∀ i m σ H, W i m σ H →
  (J.stop i H ∧ D.nx σ H) ∨ (J.go i H ∧ ∃ N : St → Hp → Prop, (∀ σ' H', N σ' H' → ∃ m', m' < m ∧ W (i + 1) m' σ' H') ∧ ∀ x H', J.yld i H x H' → g x σ H' fun σ2 H2 => tb { D with nx := N, ct := N, bk := D.nx } σ2 H2)
def pinsAt (fp : List Addr) (h : Heap) : List (Addr × Obj) := fp.filterMap fun b => (h.get? b).map fun o => (b, o)
theorem mem_pinsAt {fp : List Addr} {h : Heap} {b : Addr} {o : Obj} (hb : b ∈ fp) (e : h.get? b = some o) : (b, o) ∈ pinsAt fp h := List.mem_filterMap.mpr ⟨b, hb, by rw [e]; rfl⟩
theorem of_pinsAt {fp : List Addr} {h : Heap} {p : Addr × Obj} (hp : p ∈ pinsAt fp h) : p.1 ∈ fp ∧ h.get? p.1 = some p.2 := by
  obtain ⟨b, hb, e⟩ := List.mem_filterMap.mp hp
  cases q : h.get? b with
  | none => rw [q] at e; cases e
  | some o =>
    rw [q] at e
    have e' : (b, o) = p := Option.some.inj e
    subst e'
    exact ⟨hb, q⟩
theorem Inv.pinned {pins : List (Addr × Obj)} {σ : St} {H : Hp} {s : Shared} {fp : List Addr} (I : Inv X pins σ H s) (hf : ∀ b ∈ fp, FpOk X pins H b) (ho : ∀ b ∈ fp, ∃ o, s.heap.get? b = some o ∧ ∀ v, o.data ≠ .cell v) : Inv X (pins ++ pinsAt fp s.heap) σ H s :=
  I.pins_of fun p hp => (List.mem_append.mp hp).elim (fun z => I.pin p (List.mem_append_right _ z)) fun z => by
    obtain ⟨hb, e⟩ := of_pinsAt z
    obtain ⟨f0, f1, f2, _⟩ := hf p.1 hb
    obtain ⟨o, e', d⟩ := ho p.1 hb
    rw [e] at e'; cases e'
    exact ⟨e, f0, f1, f2, d⟩
theorem Inv.unpinned {pins pl : List (Addr × Obj)} {σ : St} {H : Hp} {s : Shared} (I : Inv X (pins ++ pl) σ H s) : Inv X pins σ H s := I.pins_of fun p hp => I.pin p (List.mem_append_right _ (List.mem_append_left _ hp))
theorem ps_for {iter : Expr} {body : List Stmt} {wi : TI} {g : TG} {tb : TS} {pos : Pos} (hp : PassesOwn (model X.prog X.w) X.A X.env X.xe) (hc : X.calm = true) (hi : PI X tg iter wi) (hg : PG X tg g) (hb : PSs X body tb)
    (hs : ∀ x, foldedSetIterable iter X.env x = pure x := by intro _; rfl) : PS X (.For tg iter body [] pos) (tFor wi g tb) := by
  intro pins s σ H D I h
  refine wpAny_For (thn (hi pins s σ H _ I h) fun v s1 h1 => thn h1 fun itv s2 h2 => ?_) hs
  obtain ⟨it, fp, tn, J, H2, e, I2, T, st2, f2, W, ⟨m0, w0⟩, turn⟩ := h2
  subst e
  have stat : ∀ {H' : Hp}, (∀ b ∈ fp, H' b = none) → ∀ b ∈ fp, FpOk X pins H' b := fun hn b hb => ⟨hn b hb, (f2 b hb).2⟩
  refine codeAny_forLoop_any (fun n s' => ∃ i σ' H', Inv X pins σ' H' s' ∧ tn i s'.heap ∧ (∀ b ∈ fp, H' b = none) ∧ W i n σ' H') ?_ m0 ⟨0, σ, H2, I2, st2, fun b hb => (f2 b hb).1, w0⟩
  rintro n s3 ⟨i, σ3, H3, I3, st3, fr3, w3⟩
  rcases turn i n σ3 H3 w3 with ⟨stop, qn⟩ | ⟨go, N, hN, step⟩
  · refine wpAny_passesOwn hp (thn (T.done X rfl rfl rfl hc i pins s3 σ3 H3 X.xe I3 (stat fr3) st3 stop) fun r s4 ⟨hr, I4⟩ => ?_)
    subst hr
    exact wpAny_execs_nil ⟨σ3, H3, I4, qn⟩
  · refine wpAny_passesOwn hp (thn (T.item X rfl rfl rfl hc i pins s3 σ3 H3 X.xe I3 (stat fr3) st3 go) fun r s4 ⟨u, hr, h4⟩ => ?_)
    subst hr
    refine wpAny_passesOwn hp (thn h4 fun _ s5 ⟨x, H5, I5, r5, y5, st5, fr5⟩ => ?_)
    have I5' := I5.pinned (stat fr5) (T.obj _ _ st5)
    refine wpAny_passesOwn hp (thn (hg _ s5 σ3 H5 x u _ I5' r5 (step x H5 y5)) fun _ s6 ⟨σ6, H6, I6, q6⟩ => ?_)
    refine wpAny_passesOwn hp (thn (hb _ s6 σ6 H6 _ I6 q6) fun f s7 q7 => ?_)
    have again : ∀ {σ7 : St} {H7 : Hp}, Inv X (pins ++ pinsAt fp s5.heap) σ7 H7 s7 → N σ7 H7 → ∃ m, m < n ∧ ∃ i σ' H', Inv X pins σ' H' s7 ∧ tn i s7.heap ∧ (∀ b ∈ fp, H' b = none) ∧ W i m σ' H' := fun {σ7 H7} I7 n7 => by
      obtain ⟨m', hm, w7⟩ := hN σ7 H7 n7
      refine ⟨m', hm, i + 1, σ7, H7, I7.unpinned, T.keep _ _ _ st5 fun b hb o e => (I7.pin (b, o) (List.mem_append_right _ (List.mem_append_right _ (mem_pinsAt hb e)))).1, fun b hb => ?_, w7⟩
      obtain ⟨o, e, d⟩ := T.obj _ _ st5 b hb
      exact (I7.pin (b, o) (List.mem_append_right _ (List.mem_append_right _ (mem_pinsAt hb e)))).2.1
    cases f with
    | next => obtain ⟨σ7, H7, I7, n7⟩ := q7; exact again I7 n7
    | cont => obtain ⟨σ7, H7, I7, n7⟩ := q7; exact again I7 n7
    | brk => obtain ⟨σ7, H7, I7, q7⟩ := q7; exact ⟨σ7, H7, I7.unpinned, q7⟩
    | ret v => obtain ⟨x7, σ7, H7, I7, r7, q7⟩ := q7; exact ⟨x7, σ7, H7, I7.unpinned, r7, q7⟩
end

theorem for_list {K : PySem.W.Frag} {a : Addr} {xs : List V} {g : TG} {tb : TS} {D : Ends} {σ : St} {H : Hp} (Pv : Nat → St → Hp → Prop) (h0 : Pv 0 σ H) (hl : ∀ i σ H, i ≤ xs.length → Pv i σ H → SqL K H a xs)
    (hs : ∀ i x σ H, xs[i]? = some x → Pv i σ H → g x σ H fun σ2 H2 => tb { D with nx := Pv (i + 1), ct := Pv (i + 1), bk := D.nx } σ2 H2) (hd : ∀ σ H, Pv xs.length σ H → D.nx σ H) :
    ∃ W : Nat → Nat → St → Hp → Prop, (∃ m, W 0 m σ H) ∧ ∀ i m σ H, W i m σ H →
      ((Itl K a).stop i H ∧ D.nx σ H) ∨ ((Itl K a).go i H ∧ ∃ N : St → Hp → Prop, (∀ σ' H', N σ' H' → ∃ m', m' < m ∧ W (i + 1) m' σ' H') ∧ ∀ x H', (Itl K a).yld i H x H' → g x σ H' fun σ2 H2 => tb { D with nx := N, ct := N, bk := D.nx } σ2 H2) := by
  refine ⟨fun i m σ H => m = xs.length - i ∧ i ≤ xs.length ∧ Pv i σ H, ⟨xs.length, by simp, Nat.zero_le _, h0⟩, ?_⟩
  rintro i m σ H ⟨rfl, hi, p⟩
  have q := hl i σ H hi p
  by_cases hlt : i < xs.length
  · refine .inr ⟨⟨xs, xs[i], q, by simp [hlt]⟩, Pv (i + 1), fun σ' H' p' => ⟨xs.length - (i + 1), by omega, rfl, hlt, p'⟩, fun x H' y => ?_⟩
    obtain ⟨e, y⟩ := y
    subst e
    exact hs i x σ _ (y xs q) p
  · have e : i = xs.length := by omega
    subst e
    exact .inl ⟨⟨xs, q, Nat.le_refl _⟩, hd σ H p⟩
theorem for_range {lo : Int} {n : Nat} {g : TG} {tb : TS} {D : Ends} {σ : St} {H : Hp} (Pv : Nat → St → Hp → Prop) (h0 : Pv 0 σ H)
    (hs : ∀ i σ H, i < n → Pv i σ H → g (.int (lo + i)) σ H fun σ2 H2 => tb { D with nx := Pv (i + 1), ct := Pv (i + 1), bk := D.nx } σ2 H2) (hd : ∀ σ H, Pv n σ H → D.nx σ H) :
    ∃ W : Nat → Nat → St → Hp → Prop, (∃ m, W 0 m σ H) ∧ ∀ i m σ H, W i m σ H →
      ((Itr lo n).stop i H ∧ D.nx σ H) ∨ ((Itr lo n).go i H ∧ ∃ N : St → Hp → Prop, (∀ σ' H', N σ' H' → ∃ m', m' < m ∧ W (i + 1) m' σ' H') ∧ ∀ x H', (Itr lo n).yld i H x H' → g x σ H' fun σ2 H2 => tb { D with nx := N, ct := N, bk := D.nx } σ2 H2) := by
  refine ⟨fun i m σ H => m = n - i ∧ i ≤ n ∧ Pv i σ H, ⟨n, by simp, Nat.zero_le _, h0⟩, ?_⟩
  rintro i m σ H ⟨rfl, hi, p⟩
  by_cases hlt : i < n
  · refine .inr ⟨hlt, Pv (i + 1), fun σ' H' p' => ⟨n - (i + 1), by omega, rfl, hlt, p'⟩, fun x H' y => ?_⟩
    obtain ⟨e, y⟩ := y
    subst e y
    exact hs i σ _ hlt p
  · have e : i = n := by omega
    subst e
    exact .inl ⟨Nat.le_refl _, hd σ H p⟩
end L2

namespace L2
open PySem PySem.Spec PyProof.Rows

abbrev R2 := V → V → Hp → VK → Prop
def OpR (X : Cx) (f : Value → Value → Sem Value) (r : R2) : Prop :=
  ∀ (pins : List (Addr × Obj)) (s : Shared) (σ : St) (H : Hp) (x y : V) (v u : Value) (Q : VK), Inv X pins σ H s → RelV x v → RelV y u → r x y H Q →
    wpAny (model X.prog X.w) X.A (f v u) (EP X pins σ Q) X.xe s
def UnR (X : Cx) (f : Value → Sem Value) (r : V → Hp → VK → Prop) : Prop :=
  ∀ (pins : List (Addr × Obj)) (s : Shared) (σ : St) (H : Hp) (x : V) (v : Value) (Q : VK), Inv X pins σ H s → RelV x v → r x H Q →
    wpAny (model X.prog X.w) X.A (f v) (EP X pins σ Q) X.xe s
def CallR (X : Cx) (f : Value) (r : List V → Hp → VK → Prop) : Prop :=
  ∀ (pins : List (Addr × Obj)) (s : Shared) (σ : St) (H : Hp) (xs : List V) (us : List Value) (Q : VK), Inv X pins σ H s → Vals xs us → r xs H Q →
    wpAny (model X.prog X.w) X.A (call f us) (EP X pins σ Q) X.xe s
def tOp (r : R2) (ta tb : TE) : TE := fun σ H Q => ta σ H fun x H1 => tb σ H1 fun y H2 => r x y H2 Q
def tUn (r : V → Hp → VK → Prop) (ta : TE) : TE := fun σ H Q => ta σ H fun x H1 => r x H1 Q
def rI (C : Int → Int → Prop) (g : Int → Int → V) : R2 := fun x y H Q => ∃ i j, x = .int i ∧ y = .int j ∧ C i j ∧ Q (g i j) H
def rI0 (g : Int → Int → V) : R2 := fun x y H Q => ∃ i j, x = .int i ∧ y = .int j ∧ Q (g i j) H
def rU (g : Int → V) : V → Hp → VK → Prop := fun x H Q => ∃ i, x = .int i ∧ Q (g i) H

section
variable {X : Cx} {a b c : Expr} {ta tb tc : TE} {pos : Pos}

theorem binT (ha : PE X a ta) (hb : PE X b tb) {pins : List (Addr × Obj)} {s : Shared} {σ : St} {H : Hp} {R : V → V → Hp → Prop} (I : Inv X pins σ H s)
    (h : ta σ H fun x H1 => tb σ H1 fun y H2 => R x y H2) {Q : Value → Shared → Prop} {f : Value → Value → Sem Value}
    (hf : ∀ v u s2 x y H2, Inv X pins σ H2 s2 → RelV x v → RelV y u → R x y H2 → wpAny (model X.prog X.w) X.A (f v u) Q X.xe s2) :
    wpAny (model X.prog X.w) X.A (eval a X.env) (fun v s₁ => wpAny (model X.prog X.w) X.A (eval b X.env) (fun u s₂ => wpAny (model X.prog X.w) X.A (f v u) Q X.xe s₂) X.xe s₁) X.xe s := by
  refine thn (ha pins s σ H _ I h) fun v s1 ⟨x, H1, I1, r1, q1⟩ => ?_
  refine thn (hb pins s1 σ H1 _ I1 q1) fun u s2 ⟨y, H2, I2, r2, q2⟩ => ?_
  exact hf v u s2 x y H2 I2 r1 r2 q2

theorem pe_op {op : Operator} {r : R2} (ho : OpR X (binaryOp op) r) (ha : PE X a ta) (hb : PE X b tb) : PE X (.BinOp a op b pos) (tOp r ta tb) := by
  intro pins s σ H Q I h
  exact wpAny_BinOp (binT ha hb I h fun v u s2 x y H2 I2 rx ry q => ho pins s2 σ H2 x y v u Q I2 rx ry q)
theorem pe_un {op : UnaryOp} {r : V → Hp → VK → Prop} (ho : UnR X (unaryOp op) r) (ha : PE X a ta) : PE X (.UnaryOp op a pos) (tUn r ta) := by
  intro pins s σ H Q I h
  exact UnaryOp_ (thn (ha pins s σ H _ I h) fun v s1 ⟨x, H1, I1, r1, q1⟩ => ho pins s1 σ H1 x v Q I1 r1 q1)
theorem opI {f : Value → Value → Sem Value} {C : Int → Int → Prop} {g : Int → Int → Int}
    (rule : ∀ (i j : Int) (t u : Tok) (s : Shared) (Q : Value → Shared → Prop) (E : Value → Shared → Prop), C i j → Q (.int (g i j) s.toks) { s with toks := s.toks + 1 } → wpAny (model X.prog X.w) X.A (f (.int i t) (.int j u)) Q E s) :
    OpR X f (rI C fun i j => .int (g i j)) := by
  intro pins s σ H x y v u Q I rx ry h
  obtain ⟨i, j, rfl, rfl, hc, q⟩ := h
  obtain ⟨t, rfl⟩ := rx
  obtain ⟨t', rfl⟩ := ry
  exact rule i j t t' s _ _ hc ⟨.int (g i j), H, I.tok _, ⟨_, rfl⟩, q⟩
theorem opI0 {f : Value → Value → Sem Value} {g : Int → Int → Int}
    (rule : ∀ (i j : Int) (t u : Tok) (s : Shared) (Q : Value → Shared → Prop) (E : Value → Shared → Prop), Q (.int (g i j) s.toks) { s with toks := s.toks + 1 } → wpAny (model X.prog X.w) X.A (f (.int i t) (.int j u)) Q E s) :
    OpR X f (rI0 fun i j => .int (g i j)) := by
  intro pins s σ H x y v u Q I rx ry h
  obtain ⟨i, j, rfl, rfl, q⟩ := h
  obtain ⟨t, rfl⟩ := rx
  obtain ⟨t', rfl⟩ := ry
  exact rule i j t t' s _ _ ⟨.int (g i j), H, I.tok _, ⟨_, rfl⟩, q⟩
theorem opB0 {f : Value → Value → Sem Value} {g : Int → Int → Bool}
    (rule : ∀ (i j : Int) (t u : Tok) (s : Shared) (Q : Value → Shared → Prop) (E : Value → Shared → Prop), Q (.bool (g i j)) s → wpAny (model X.prog X.w) X.A (f (.int i t) (.int j u)) Q E s) :
    OpR X f (rI0 fun i j => .bl (g i j)) := by
  intro pins s σ H x y v u Q I rx ry h
  obtain ⟨i, j, rfl, rfl, q⟩ := h
  obtain ⟨t, rfl⟩ := rx
  obtain ⟨t', rfl⟩ := ry
  exact rule i j t t' s _ _ ⟨.bl (g i j), H, I, rfl, q⟩

def CDiv (i j : Int) : Prop := 0 < j ∧ j < 1073741824
def CPow (i j : Int) : Prop := 0 ≤ j ∧ j ≤ 1000000 ∧ i.natAbs < 2 ^ 64
def CMul (i j : Int) : Prop := (-(2 ^ 64) < i ∧ i < 2 ^ 64) ∨ (-(2 ^ 64) < j ∧ j < 2 ^ 64)
theorem CMul.ok {i j : Int} (h : CMul i j) : IntMulOk i j := by
  rcases h with ⟨h1, h2⟩ | ⟨h1, h2⟩
  · exact .of_left (intBits_le_64 h1 h2)
  · exact .of_right (intBits_le_64 h1 h2)
theorem op_add : OpR X (binaryOp .Add) (rI0 fun i j => .int (i + j)) := opI0 fun _ _ _ _ _ _ _ q => add_int q
theorem op_sub : OpR X (binaryOp .Sub) (rI0 fun i j => .int (i - j)) := opI0 fun _ _ _ _ _ _ _ q => sub_int q
theorem op_mul : OpR X (binaryOp .Mult) (rI CMul fun i j => .int (i * j)) := opI fun _ _ _ _ _ _ _ hc q => mul_int q hc.ok
theorem op_fdiv : OpR X (binaryOp .FloorDiv) (rI CDiv fun i j => .int (i / j)) := opI fun i j _ _ _ _ _ hc q => by
  have h1 : (0 : Int) < j := hc.1
  have h2 : j < 1073741824 := hc.2
  exact floordiv_int (by omega) (by rw [Int.fdiv_eq_ediv_of_nonneg i (by omega)]; exact q) (.inl (PyProof.noPylong_small (by omega)))
theorem op_mod : OpR X (binaryOp .Mod) (rI (fun _ j => 0 < j) fun i j => .int (i % j)) := opI fun i j _ _ _ _ _ hc q => by
  have h1 : (0 : Int) < j := hc
  exact mod_int' (by omega) (by rw [Int.fmod_eq_emod_of_nonneg i (by omega)]; exact q)
theorem op_pow : OpR X (binaryOp .Pow) (rI CPow fun i j => .int (i ^ j.toNat)) := opI fun _ _ _ _ _ _ _ hc q => pow_int_small hc.1 hc.2.1 hc.2.2 q
theorem unI {f : Value → Sem Value} {g : Int → Int}
    (rule : ∀ (i : Int) (t : Tok) (s : Shared) (Q : Value → Shared → Prop) (E : Value → Shared → Prop), Q (.int (g i) s.toks) { s with toks := s.toks + 1 } → wpAny (model X.prog X.w) X.A (f (.int i t)) Q E s) :
    UnR X f (rU fun i => .int (g i)) := by
  intro pins s σ H x v Q I rx h
  obtain ⟨i, rfl, q⟩ := h
  obtain ⟨t, rfl⟩ := rx
  exact rule i t s _ _ ⟨.int (g i), H, I.tok _, ⟨_, rfl⟩, q⟩
theorem un_neg : UnR X (unaryOp .USub) (rU fun i => .int (-i)) := unI fun _ _ _ _ _ q => neg_int q
end

def scal : V → V → Bool
  | .non, .non => true | .non, .int _ => true | .int _, .non => true | .non, .bl _ => true | .bl _, .non => true | .non, .str _ => true | .str _, .non => true
  | .int _, .int _ => true | .bl _, .bl _ => true | .str _, .str _ => true | .byt _, .byt _ => true
  | .int _, .str _ => true | .str _, .int _ => true | .bl _, .str _ => true | .str _, .bl _ => true
  | _, _ => false
def rEq : R2 := fun x y H Q => scal x y = true ∧ Q (.bl (decide (x = y))) H
def rNe : R2 := fun x y H Q => scal x y = true ∧ Q (.bl (!decide (x = y))) H

theorem dec_int {i j : Int} : decide (V.int i = V.int j) = (i == j) := by
  rw [Bool.eq_iff_iff]
  simp
theorem dec_bl {i j : Bool} : decide (V.bl i = V.bl j) = (i == j) := by
  rw [Bool.eq_iff_iff]
  simp
theorem dec_str {i j : Str} : decide (V.str i = V.str j) = (i == j) := by
  rw [Bool.eq_iff_iff]
  simp
theorem dec_byt {i j : Array UInt8} : decide (V.byt i = V.byt j) = (i.toList == j.toList) := by
  rw [Bool.eq_iff_iff]
  cases i
  cases j
  simp

section
variable {X : Cx} {a b c : Expr} {ta tb tc : TE} {pos : Pos}
theorem fin_bl {pins : List (Addr × Obj)} {σ : St} {H : Hp} {s : Shared} {Q : VK} {k k' : Bool} (I : Inv X pins σ H s) (q : Q (.bl k) H) (e : k = k') : EP X pins σ Q (.bool k') s := by
  subst e
  exact ⟨.bl k, H, I, rfl, q⟩
theorem op_eq : OpR X (compareOp .Eq) rEq := by
  intro pins s σ H x y v u Q I rx ry h
  obtain ⟨hs, q⟩ := h
  cases x with
  | non =>
    cases rx
    cases y with
    | non => cases ry; exact PySem.EqNone.eq_none_none (fin_bl I q (by simp))
    | bl j => cases ry; exact PySem.EqNone.eq_none_bool (fin_bl I q (by simp))
    | int j => obtain ⟨t', rfl⟩ := ry; exact PySem.EqNone.eq_none_int (fin_bl I q (by simp))
    | str j => obtain ⟨t', rfl⟩ := ry; exact PySem.EqNone.eq_none_str (fin_bl I q (by simp))
    | _ => exact absurd (show false = true from hs) Bool.false_ne_true
  | bl i =>
    cases rx
    cases y with
    | non => cases ry; exact PySem.EqNone.eq_bool_none (fin_bl I q (by simp))
    | bl j => cases ry; exact eq_bool (fin_bl I q dec_bl)
    | str j => obtain ⟨t', rfl⟩ := ry; exact PySem.EqMixed.eq_bool_str (fin_bl I q (by simp))
    | _ => exact absurd (show false = true from hs) Bool.false_ne_true
  | int i =>
    obtain ⟨t, rfl⟩ := rx
    cases y with
    | non => cases ry; exact PySem.EqNone.eq_int_none (fin_bl I q (by simp))
    | int j => obtain ⟨t', rfl⟩ := ry; exact eq_int (fin_bl I q dec_int)
    | str j => obtain ⟨t', rfl⟩ := ry; exact PySem.EqMixed.eq_int_str (fin_bl I q (by simp))
    | _ => exact absurd (show false = true from hs) Bool.false_ne_true
  | str i =>
    obtain ⟨t, rfl⟩ := rx
    cases y with
    | non => cases ry; exact PySem.EqNone.eq_str_none (fin_bl I q (by simp))
    | bl j => cases ry; exact PySem.EqMixed.eq_str_bool (fin_bl I q (by simp))
    | int j => obtain ⟨t', rfl⟩ := ry; exact PySem.EqMixed.eq_str_int (fin_bl I q (by simp))
    | str j => obtain ⟨t', rfl⟩ := ry; exact eq_str (fin_bl I q dec_str)
    | _ => exact absurd (show false = true from hs) Bool.false_ne_true
  | byt i =>
    obtain ⟨t, rfl⟩ := rx
    cases y with
    | byt j => obtain ⟨t', rfl⟩ := ry; exact PySem.W.eq_bytes (fin_bl I q dec_byt)
    | _ => exact absurd (show false = true from hs) Bool.false_ne_true
  | _ => cases y <;> exact absurd (show false = true from hs) Bool.false_ne_true
theorem op_ne : OpR X (compareOp .NotEq) rNe := by
  intro pins s σ H x y v u Q I rx ry h
  obtain ⟨hs, q⟩ := h
  cases x with
  | non =>
    cases rx
    cases y with
    | non => cases ry; exact PySem.EqNone.ne_none_none (fin_bl I q (by simp))
    | bl j => cases ry; exact PySem.EqNone.ne_none_bool (fin_bl I q (by simp))
    | int j => obtain ⟨t', rfl⟩ := ry; exact PySem.EqNone.ne_none_int (fin_bl I q (by simp))
    | str j => obtain ⟨t', rfl⟩ := ry; exact PySem.EqNone.ne_none_str (fin_bl I q (by simp))
    | _ => exact absurd (show false = true from hs) Bool.false_ne_true
  | bl i =>
    cases rx
    cases y with
    | non => cases ry; exact PySem.EqNone.ne_bool_none (fin_bl I q (by simp))
    | bl j => cases ry; exact ne_bool (fin_bl I q (congrArg not dec_bl))
    | str j => obtain ⟨t', rfl⟩ := ry; exact PySem.EqMixed.ne_bool_str (fin_bl I q (by simp))
    | _ => exact absurd (show false = true from hs) Bool.false_ne_true
  | int i =>
    obtain ⟨t, rfl⟩ := rx
    cases y with
    | non => cases ry; exact PySem.EqNone.ne_int_none (fin_bl I q (by simp))
    | int j => obtain ⟨t', rfl⟩ := ry; exact ne_int (fin_bl I q (congrArg not dec_int))
    | str j => obtain ⟨t', rfl⟩ := ry; exact PySem.EqMixed.ne_int_str (fin_bl I q (by simp))
    | _ => exact absurd (show false = true from hs) Bool.false_ne_true
  | str i =>
    obtain ⟨t, rfl⟩ := rx
    cases y with
    | non => cases ry; exact PySem.EqNone.ne_str_none (fin_bl I q (by simp))
    | bl j => cases ry; exact PySem.EqMixed.ne_str_bool (fin_bl I q (by simp))
    | int j => obtain ⟨t', rfl⟩ := ry; exact PySem.EqMixed.ne_str_int (fin_bl I q (by simp))
    | str j => obtain ⟨t', rfl⟩ := ry; exact ne_str (fin_bl I q (congrArg not dec_str))
    | _ => exact absurd (show false = true from hs) Bool.false_ne_true
  | byt i =>
    obtain ⟨t, rfl⟩ := rx
    cases y with
    | byt j => obtain ⟨t', rfl⟩ := ry; exact PySem.W.ne_bytes (fin_bl I q (congrArg not dec_byt))
    | _ => exact absurd (show false = true from hs) Bool.false_ne_true
  | _ => cases y <;> exact absurd (show false = true from hs) Bool.false_ne_true

theorem op_lt : OpR X (compareOp .Lt) (rI0 fun i j => .bl (decide (i < j))) := opB0 fun _ _ _ _ _ _ _ q => lt_int q
theorem op_le : OpR X (compareOp .LtE) (rI0 fun i j => .bl (decide (i ≤ j))) := opB0 fun _ _ _ _ _ _ _ q => le_int q
theorem op_gt : OpR X (compareOp .Gt) (rI0 fun i j => .bl (decide (j < i))) := opB0 fun _ _ _ _ _ _ _ q => gt_int q
theorem op_notN : OpR X (compareOp .IsNot) (fun x y H Q => y = .non ∧ Q (.bl (!decide (x = .non))) H) := by
  intro pins s σ H x y v u Q I rx ry h
  obtain ⟨rfl, q⟩ := h
  cases ry
  refine isnot_none_gen (fin_bl I q ?_)
  cases x <;> first
    | (cases rx; rfl)
    | (obtain ⟨t, rfl⟩ := rx; rfl)

theorem nomark (b : Expr) {op : CmpOp} (h : op ≠ .In := by decide) (h2 : op ≠ .NotIn := by decide) : behindInMarks op b = false := by
  have e1 : (op == CmpOp.In) = false := by cases op <;> first | rfl | exact absurd rfl h
  have e2 : (op == CmpOp.NotIn) = false := by cases op <;> first | rfl | exact absurd rfl h2
  cases b <;> simp [behindInMarks, e1, e2]
theorem pe_cmpR {op : CmpOp} {r : R2} (ho : OpR X (compareOp op) r) (ha : PE X a ta) (hb : PE X b tb) (hm : behindInMarks op b = false) : PE X (.Compare a [op] [b] pos) (tOp r ta tb) := by
  intro pins s σ H Q I h
  exact wpAny_Compare1 (binT ha hb I h fun v u s2 x y H2 I2 rx ry q => ho pins s2 σ H2 x y v u Q I2 rx ry q) hm
def tTest (t : TE) : TT := fun σ H Q => t σ H fun x H' => ∃ k, x = .bl k ∧ Q k H'
theorem pt_cmpR {op : CmpOp} {r : R2} (ho : OpR X (compareOp op) r) (ha : PE X a ta) (hb : PE X b tb) (hm : behindInMarks op b = false) : PT X (.Compare a [op] [b] pos) (tTest (tOp r ta tb)) := by
  intro pins s σ H Q I h
  refine wpAny_isTrue_Compare1 (thn (ha pins s σ H _ I h) fun v s1 ⟨x, H1, I1, r1, q1⟩ => thn (hb pins s1 σ H1 _ I1 q1) fun u s2 ⟨y, H2, I2, r2, q2⟩ =>
    thn (ho pins s2 σ H2 x y v u _ I2 r1 r2 q2) fun c s3 ⟨z, H3, I3, r3, k, e, q3⟩ => ?_) hm
  subst e
  cases r3
  exact wpAny_truthy_bool ⟨H3, I3, q3⟩
def tChain (r r' : R2) (ta tb tc : TE) : TE := fun σ H Q => ta σ H fun x H1 => tb σ H1 fun y H2 => r x y H2 fun z H3 => ∃ k, z = .bl k ∧
  (if k = true then tc σ H3 fun w' H4 => r' y w' H4 Q else Q (.bl false) H3)
theorem pt_chain {op op' : CmpOp} {r r' : R2} (ho : OpR X (compareOp op) r) (ho' : OpR X (compareOp op') r') (ha : PE X a ta) (hb : PE X b tb) (hc : PE X c tc)
    (hm : lastMarks [op, op'] [b, c] = false := by with_unfolding_all rfl) : PT X (.Compare a [op, op'] [b, c] pos) (tTest (tChain r r' ta tb tc)) := by
  intro pins s σ H Q I h
  refine isTrue_chain (thn (ha pins s σ H _ I h) fun v s1 ⟨x, H1, I1, r1, q1⟩ => test_link (thn (hb pins s1 σ H1 _ I1 q1) fun u s2 ⟨y, H2, I2, r2, q2⟩ =>
    thn (ho pins s2 σ H2 x y v u _ I2 r1 r2 q2) fun d s3 ⟨z, H3, I3, r3, k, e, q3⟩ => ?_)) hm
  subst e
  cases r3
  refine wpAny_truthy_bool ?_
  cases k with
  | false =>
    obtain ⟨k', e', q'⟩ := q3
    cases e'
    exact ite_ff ⟨H3, I3, q'⟩
  | true =>
    refine ite_tt (test_last (thn (hc pins s3 σ H3 _ I3 q3) fun w' s4 ⟨z', H4, I4, r4, q4⟩ => thn (ho' pins s4 σ H4 y z' u w' _ I4 r2 r4 q4) fun d' s5 ⟨z2, H5, I5, r5, k2, e2, q5⟩ => ?_))
    subst e2
    cases r5
    exact wpAny_truthy_bool ⟨H5, I5, q5⟩

theorem line63 : (sizeLine : Nat) < 2 ^ 63 := by rw [sizeLine_eq]; decide
theorem vals1 {x : V} {us : List Value} (r : Vals [x] us) : ∃ u, us = [u] ∧ RelV x u := by
  cases r with
  | cons r1 r2 => cases r2; exact ⟨_, rfl, r1⟩
theorem vals2 {x y : V} {us : List Value} (r : Vals [x, y] us) : ∃ u w', us = [u, w'] ∧ RelV x u ∧ RelV y w' := by
  cases r with
  | cons r1 r2 =>
    cases r2 with
    | cons r3 r4 => cases r4; exact ⟨_, _, rfl, r1, r3⟩
theorem call_abs : CallR X (.builtin "abs") (fun xs H Q => ∃ i, xs = [.int i] ∧ Q (.int (if i < 0 then -i else i)) H) := by
  intro pins s σ H xs us Q I r h
  obtain ⟨i, rfl, q⟩ := h
  obtain ⟨u, rfl, t, rfl⟩ := vals1 r
  exact call_abs_int fun u tk => ⟨.int (if i < 0 then -i else i), H, I.tok _, ⟨_, rfl⟩, q⟩
theorem call_max2 (hc : X.calm = true) : CallR X (.builtin "max") (fun xs H Q => ∃ i j, xs = [.int i, .int j] ∧ Q (.int (if j > i then j else i)) H) := by
  intro pins s σ H xs us Q I r h
  obtain ⟨i, j, rfl, q⟩ := h
  obtain ⟨u, w', rfl, ⟨t, rfl⟩, ⟨t', rfl⟩⟩ := vals2 r
  refine max_two_ints (I.ok.hd hc) fun h' tk k => ⟨_, H, I.kept k, ?_, q⟩
  by_cases hj : j > i
  · rw [if_pos hj, if_pos hj]; exact ⟨_, rfl⟩
  · rw [if_neg hj, if_neg hj]; exact ⟨_, rfl⟩
end
end L2

namespace L2
open PySem PySem.Spec PyProof.Rows

structure ObjM (h : Heap) (x dx C : Addr) (mA : Str → Option Value) : Prop where
  obj : h.get? x = some (PySem.W.instObj C dx)
  ns : h.Ns1 dx mA
  ne : dx ≠ x

theorem lookIn_ns {h : Heap} {dx : Addr} {mA : Str → Option Value} (n : h.Ns1 dx mA) : ∃ od, h.get? dx = some od ∧ ∀ name, PySem.W.lookIn name od = some (mA name) := by
  obtain ⟨o, es, ep, ho, hd, hk, _, hm⟩ := n
  refine ⟨o, ho, fun name => ?_⟩
  have e := hm name
  unfold nsFind findBy at e
  rw [← Array.find?_toList] at e
  unfold PySem.W.lookIn
  rw [hd]
  dsimp only
  split
  · rename_i y q
    rw [q] at e
    exact congrArg some e
  · rename_i q
    rw [q] at e
    have a : es.toList.any (·.refKey) = false := by
      rw [List.any_eq_false]
      intro y hy
      obtain ⟨z, t, hkey⟩ := hk y (Array.mem_toList_iff.mp hy)
      simp [DictEntry.refKey, hkey]
    have a' : ¬ es.toList.any (·.refKey) = true := by rw [a]; exact Bool.false_ne_true
    rw [if_neg a']
    exact congrArg some e

theorem ObjM.look {h : Heap} {x dx C : Addr} {mA : Str → Option Value} (I : ObjM h x dx C mA) : ∃ od, PySem.W.InstAt h x (PySem.W.instObj C dx) C (some od) ∧ ∀ name, PySem.W.lookIn name od = some (mA name) :=
  let ⟨od, ho, hl⟩ := lookIn_ns I.ns
  ⟨od, ⟨I.obj, rfl, rfl, ho⟩, hl⟩


theorem RelO.some_of {v : V} {o : Option Value} (r : RelO (some v) o) : ∃ u, o = some u ∧ RelV v u := by
  cases o with
  | none => exact (show False from r).elim
  | some u => exact ⟨u, rfl, r⟩
section
variable {P : Program} {w : World} {H H' : Hp} {h h' : Heap} {a C dx : Addr} {fs fs' : List (Str × V)}
theorem ins_get (hok : HOk P w H h) (e : H a = some (.ins C dx fs)) : ∃ mA, ObjM h a dx C mA ∧ (∀ f, RelO (fs.lookup f) (mA f)) ∧ PySem.Within mA (fs.map (·.1)) ∧ fs.length ≤ 1000 ∧ H dx = some (.own a) := by
  obtain ⟨d, z, ne, ob, mA, n, r, q⟩ := (show ObjOk P w H h a (.ins C dx fs) from hok a _ e)
  exact ⟨mA, ⟨ob, n, ne⟩, r, q, z, d⟩
end

structure Cls (K : PySem.W.Frag) (C : Addr) : Prop where
  pg : PySem.W.plainGet K C Str.empty = true
  hd : PySem.W.hasDictIn K C = true
  po : PySem.W.plainOver K C = true
  sa : PySem.W.findIn K (.ref C) "__setattr__" = some (some (.builtin "object.__setattr__"))
theorem Cls.get {K : PySem.W.Frag} {C : Addr} (c : Cls K C) (f : Str) : PySem.W.plainGet K C f = true := c.pg


section
variable {X : Cx} {pins : List (Addr × Obj)} {σ : St} {H : Hp} {s : Shared} {A : Around} {E : Value → Shared → Prop} {Q : Value → Shared → Prop} {c : Value} {b : Bool}
inductive TyOf (K : PySem.W.Frag) (H : Hp) : V → Value → Prop where
  | non : TyOf K H .non (.type "NoneType")
  | bl (x : Bool) : TyOf K H (.bl x) (.type "bool")
  | int (i : Int) : TyOf K H (.int i) (.type "int")
  | str (x : Str) : TyOf K H (.str x) (.type "str")
  | flt (x : UInt64) : TyOf K H (.flt x) (.type "float")
  | lst {a : Addr} {xs : List V} (e : H a = some (.lst xs)) : TyOf K H (.ref a) (.type "list")
  | frz {a : Addr} {o : Obj} {xs : List V} (e : H a = some (.frz o (.lst xs))) : TyOf K H (.ref a) (.type "list")
  | tup {a : Addr} {xs : List V} (e : H a = some (.tup xs)) : TyOf K H (.ref a) (.type "tuple")
  | dK {a : Addr} {kvs : List (Key × V)} (e : H a = some (.dK kvs)) : TyOf K H (.ref a) (.type "dict")
  | dT {a : Addr} {kvs : List (List Key × V)} (e : H a = some (.dT kvs)) : TyOf K H (.ref a) (.type "dict")
  | ins {a C dx : Addr} {fs : List (Str × V)} (e : H a = some (.ins C dx fs)) (cl : Cls K C) (ha : PySem.W.findIn K (.ref C) "__class__" = some (some (.builtin "object.__class__")))
      (hn : PySem.W.specialIn K (.builtin "object.__class__") "__get__" = some (some (.builtin "getset_descriptor.__get__"))) (htk : PySem.W.takesIn K (.builtin "object.__class__") = some true)
      (hm : PySem.W.mroIn K C (.type "object") = some true) : TyOf K H (.ref a) (.ref C)
theorem isinst_ok {x : V} {u t : Value} (I : Inv X pins σ H s) (rx : RelV x u) (ty : TyOf X.K H x t) (e : PySem.W.kitOne X.K t c = some b) (h : ∀ tk, Q (.bool b) { s with toks := tk }) :
    wpAny (model X.prog X.w) A (call (.builtin "isinstance") [u, c]) Q E s := by
  cases ty with
  | non => cases (show u = Value.none from rx); exact PySem.W.kia_one PySem.W.kitx_none I.kIn True.intro e (fun z => nomatch z) h
  | bl y => cases (show u = Value.bool y from rx); exact PySem.W.kia_one PySem.W.kitx_bool I.kIn True.intro e (fun z => nomatch z) h
  | int i => obtain ⟨t, q⟩ := (show ∃ t, u = Value.int i t from rx); cases q; exact PySem.W.kia_one PySem.W.kitx_int I.kIn True.intro e (fun z => nomatch z) h
  | str y => obtain ⟨t, q⟩ := (show ∃ t, u = Value.str y t from rx); cases q; exact PySem.W.kia_one PySem.W.kitx_str I.kIn True.intro e (fun z => nomatch z) h
  | flt y => obtain ⟨t, q⟩ := (show ∃ t, u = Value.float y t from rx); cases q; exact PySem.W.kia_one PySem.W.kitx_float I.kIn True.intro e (fun z => nomatch z) h
  | @lst a xs ea =>
    cases (show u = Value.ref a from rx)
    obtain ⟨_, _, n, _, h1⟩ := (show ObjOk X.prog X.w H s.heap a (.lst xs) from I.hok a _ ea)
    exact PySem.W.kia_one PySem.W.kitx_list I.kIn ⟨_, h1, rfl⟩ e (fun z => nomatch z) h
  | @frz a ob xs ea =>
    cases (show u = Value.ref a from rx)
    obtain ⟨_, _, _, n, _, h1⟩ := (show ObjOk X.prog X.w H s.heap a (.frz ob (.lst xs)) from I.hok a _ ea)
    exact PySem.W.kia_one PySem.W.kitx_list I.kIn ⟨_, h1, rfl⟩ e (fun z => nomatch z) h
  | @tup a xs ea =>
    cases (show u = Value.ref a from rx)
    obtain ⟨_, _, _, p⟩ := (show ObjOk X.prog X.w H s.heap a (.tup xs) from I.hok a _ ea)
    obtain ⟨o, h1, h2, _⟩ := p
    exact PySem.W.kia_one PySem.W.kitx_tuple I.kIn ⟨o, h1, h2⟩ e (fun z => nomatch z) h
  | @dK a kvs ea =>
    cases (show u = Value.ref a from rx)
    obtain ⟨_, _, vs, _, p⟩ := (show ObjOk X.prog X.w H s.heap a (.dK kvs) from I.hok a _ ea)
    obtain ⟨o, es, ep, h1, h2, _⟩ := p
    exact PySem.W.kia_one PySem.W.kitx_dict I.kIn ⟨o, h1, h2.1⟩ e (fun z => nomatch z) h
  | @dT a kvs ea =>
    cases (show u = Value.ref a from rx)
    obtain ⟨_, _, xs, _, o, es, ep, h1, h2, _⟩ := (show ObjOk X.prog X.w H s.heap a (.dT kvs) from I.hok a _ ea)
    exact PySem.W.kia_one PySem.W.kitx_dict I.kIn ⟨o, h1, h2.1⟩ e (fun z => nomatch z) h
  | @ins a C dx fs ea cl ha hn htk hm =>
    cases (show u = Value.ref a from rx)
    obtain ⟨mA, O, _⟩ := ins_get I.hok ea
    obtain ⟨od, J, _⟩ := O.look
    exact PySem.W.kia_one (PySem.W.kitx_own (cl.get _) cl.hd ha hn htk hm) I.kIn J e (fun z => nomatch z) h
end
end L2

namespace L2
open PySem PySem.Spec PyProof.Rows

structure Room (k : Nat) (A : Around) : Prop where
  hd : A.handled = none
  dp : A.depth + 3 * k + 5 < recursionLimit
  un : A.units + 16 * k + 200 < cLine
  gd : A.guards = some []
theorem Room.mono {j k : Nat} {A : Around} (r : Room k A) (h : j ≤ k) : Room j A := ⟨r.hd, by have := r.dp; omega, by have := r.un; omega, r.gd⟩
theorem Room.deeper {k : Nat} {A : Around} (r : Room (k + 1) A) (env : Env) : Room k (A.deeper env) :=
  ⟨r.hd, by have := r.dp; show A.depth + 1 + 3 * k + 5 < _; omega, by have := r.un; show A.units + 3 + 16 * k + 200 < _; omega, r.gd⟩
theorem Room.depth {k : Nat} {A : Around} (r : Room k A) : A.depth < recursionLimit := by have := r.dp; omega
theorem Room.units {k : Nat} {A : Around} (r : Room k A) : A.units + 64 < cLine := by have := r.un; omega
def tNil : TA := fun _ H Q => Q [] H
def tCons (ta : TE) (tr : TA) : TA := fun σ H Q => ta σ H fun x H1 => tr σ H1 fun xs H2 => Q (x :: xs) H2
section
variable {X : Cx} {e : Expr} {es : List Expr} {te : TE} {t : TA} {pos : Pos}
theorem pa_nil : PA X [] tNil := fun _ _ _ _ H Q I h => Calls.spliced_nil ⟨[], H, I, .nil, h⟩
theorem pa_cons (ha : PE X e te) (hr : PA X es t) (hs : starEach (e :: es) X.env = (false, eval e X.env) :: starEach es X.env := by rfl) : PA X (e :: es) (tCons te t) := by
  intro pos pins s σ H Q I h
  rw [hs]
  show wpAny _ _ (spliced ((false, eval e X.env) :: backTo pos (starEach es X.env))) _ _ s
  refine Calls.spliced_cons (thn (ha pins s σ H _ I h) fun u s1 ⟨x, H1, I1, r1, q1⟩ => ?_)
  exact thn (hr pos pins s1 σ H1 _ I1 q1) fun us s2 ⟨xs, H2, I2, r2, q2⟩ => ⟨x :: xs, H2, I2, .cons r1 r2, q2⟩

def tTup (t : TA) : TE := fun σ H Q => t σ H fun xs H1 => xs.length ≤ sizeLine ∧ ∀ p, H1 p = none → Q (.ref p) (upd H1 p (.tup xs))
def tLst (t : TA) : TE := fun σ H Q => t σ H fun xs H1 => xs.length ≤ sizeLine ∧ ∀ p, H1 p = none → Q (.ref p) (upd H1 p (.lst xs))
theorem pe_tup {x1} (h : PA X es t) : PE X (.Tuple es x1 pos) (tTup t) := by
  intro pins s σ H Q I hq
  refine wpAny_Tuple_spliced (thn (h pos pins s σ H _ I hq) fun us s1 ⟨xs, H1, I1, r, z, q⟩ => ⟨by rw [← r.length]; exact z, ?_⟩)
  have hf : H1 s1.heap.objs.size = none := I1.hok.fresh (Nat.le_refl _)
  refine ⟨.ref s1.heap.objs.size, upd H1 s1.heap.objs.size (.tup xs), I1.laid (t' := s1.toks) (fun b u e => Heap.get?_push_of_some _ e) (Nat.le_refl _) ?_, rfl, q _ hf⟩
  exact ⟨z, us, r, ⟨_, Heap.get?_push_size _ rfl, rfl, _, rfl⟩⟩
theorem pe_lst (h : PA X es t) : PE X (.List es pos) (tLst t) := by
  intro pins s σ H Q I hq
  refine wpAny_List_spliced (thn (h pos pins s σ H _ I hq) fun us s1 ⟨xs, H1, I1, r, z, q⟩ => ⟨by rw [← r.length]; exact z, ?_⟩)
  have hf : H1 s1.heap.objs.size = none := I1.hok.fresh (Nat.le_refl _)
  refine ⟨.ref s1.heap.objs.size, upd H1 s1.heap.objs.size (.lst xs), I1.laid (t' := s1.toks) (fun b u e => Heap.get?_push_of_some _ e) (Nat.le_refl _) ?_, rfl, q _ hf⟩
  exact ⟨z, us, 0, r, Heap.get?_push_size _ rfl⟩
end

abbrev Sp := List V → Hp → VK → XK → Prop
abbrev CXT := List Env → Hp → Shared → XK → Value → Shared → Prop

structure Env0 (P : Program) (w : World) (K : PySem.W.Frag) (mg : Str → Option Value) (base : Heap) (A : Around) (outer : List Env) (s : Shared) (H : Hp) : Prop where
  frames : A.frames = some outer
  mod : Mod K mg base
  bs : ∀ b o, base.get? b = some o → s.heap.get? b = some o ∧ H b = none
  bsz : base.objs.size ≤ s.heap.objs.size
  funs : s.heap.FunFrames base outer
  frf : ∀ b ∈ frs outer, H b = none
  hok : HOk P w H s.heap
  bare : AllBare s.gens
def CE (outer : List Env) (P : Program) (w : World) (H : Hp) (s : Shared) (Q : VK) (u : Value) (s' : Shared) : Prop :=
  ∃ v H', s'.os = s.os ∧ AllBare s'.gens ∧ Un (frs outer) [] H H' s.heap s'.heap ∧ HOk P w H' s'.heap ∧ RelV v u ∧ Q v H'
def CR (CX : CXT) (outer : List Env) (P : Program) (w : World) (H : Hp) (s : Shared) (Q : VK) (E : XK) (r : Result) (s' : Shared) : Prop :=
  match r with
  | .ok (.ret u) => CE outer P w H s Q u s'
  | .ok _ => False
  | .error e => CX outer H s E e s'
structure FnOk (P : Program) (w : World) (K : PySem.W.Frag) (mg : Str → Option Value) (base : Heap) (CX : CXT) (k : Nat) (f : Addr) (fd : FuncData) (ps : List Str) (sp : Sp) : Prop where
  len : ∀ vs H Q E, sp vs H Q E → vs.length = ps.length
  run : ∀ (A : Around) (outer : List Env) (s : Shared) (H : Hp) (args : Args) (us : List Value) (vs : List V) (Q : VK) (E : XK), Room k A → Env0 P w K mg base A outer s H → BindsTo s fd args (ps.zip us) → Vals vs us → sp vs H Q E →
    codeAny (model P w) A (.call (.ref f) args) (CR CX outer P w H s Q E) s
section
variable {X : Cx} {pins : List (Addr × Obj)} {σ : St} {H : Hp} {s s' : Shared}
theorem Inv.env0 (I : Inv X pins σ H s) : Env0 X.prog X.w X.K X.mg X.base X.A X.stack s H :=
  ⟨I.ok.frames, I.ok.mod, I.bs, Nat.le_trans I.ok.bsz I.sz, I.stack, I.stkFree, I.hok, I.bare⟩
theorem Inv.after {Q : VK} {u : Value} (I : Inv X pins σ H s) (h : CE X.stack X.prog X.w H s Q u s') : EP X pins σ Q u s' := by
  obtain ⟨v, H', os, bare, un, hok, r, q⟩ := h
  obtain ⟨hh, g, d, t, os'⟩ := s'
  obtain rfl : os' = s.os := os
  exact ⟨v, H', I.call (h' := hh) (g' := g) (d' := d) (t' := t) (ch := []) un hok bare (fun b z => absurd z (by simp)), r, q⟩
end

def tCall (sp : Sp) (dvs : List V) (E : XK) (t : TA) : TE := fun σ H Q => t σ H fun vs H1 => sp (vs ++ dvs) H1 Q E
def Binds (K : PySem.W.Frag) (fd : FuncData) (ps : List Str) (ds : List Value) : Prop :=
  ∀ (s : Shared) (us : List Value), K.In s.heap → (us ++ ds).length = ps.length → BindsTo s fd ⟨us, []⟩ (ps.zip (us ++ ds))
theorem Binds.all {K : PySem.W.Frag} {fd : FuncData} {ps : List Str} (h : ∀ us : List Value, us.length = ps.length → bindArgs fd ⟨us, []⟩ = pure (ps.zip us)) : Binds K fd ps [] := fun s us _ hl => by
  rw [List.append_nil] at hl ⊢
  exact .of_eq (h us hl)

def Passes (CX : CXT) (X : Cx) (E : XK) : Prop := ∀ (pins : List (Addr × Obj)) (σ : St) (H : Hp) (s : Shared) (e : Value) (s' : Shared), Inv X pins σ H s → CX X.stack H s E e s' → X.xe e s'

section
variable {X : Cx} {CX : CXT} {k : Nat} {f C : Addr} {fd : FuncData} {ps : List Str} {sp : Sp} {dvs : List V} {ds : List Value} {E : XK} {x m : Str} {p pos apos : Pos} {e o : Expr} {es : List Expr} {ta : TE} {t : TA}

theorem run_fn {pins : List (Addr × Obj)} {σ : St} {H : Hp} {s : Shared} {Q : VK} {us : List Value} {vs : List V} (F : FnOk X.prog X.w X.K X.mg X.base CX k f fd ps sp) (hr : Room k X.A) (hb : Binds X.K fd ps ds) (hd : Vals dvs ds) (hx : Passes CX X E)
    (I : Inv X pins σ H s) (r : Vals vs us) (h : sp (vs ++ dvs) H Q E) : wpAny (model X.prog X.w) X.A (call (.ref f) us) (EP X pins σ Q) X.xe s := by
  have r2 : Vals (vs ++ dvs) (us ++ ds) := r.append hd
  have hl : (us ++ ds).length = ps.length := by rw [← r2.length]; exact F.len _ _ _ _ h
  refine wpAny_call (codeAny_mono (F.run X.A X.stack s H ⟨us, []⟩ (us ++ ds) (vs ++ dvs) Q E hr I.env0 (hb s us I.kIn hl) r2 h) fun r s' hq => ?_)
  cases r with
  | error e => exact hx pins σ H s e s' I hq
  | ok fl =>
    cases fl with
    | ret u => exact I.after hq
    | next => exact False.elim hq
    | brk => exact False.elim hq
    | cont => exact False.elim hq

theorem pe_call (F : FnOk X.prog X.w X.K X.mg X.base CX k f fd ps sp) (hr : Room k X.A) (hg : Gl X x) (hm : X.mg x = some (.ref f)) (hk : PySem.W.keepIn X.K (.ref f) = true) (hb : Binds X.K fd ps ds) (hd : Vals dvs ds) (hx : Passes CX X E)
    (ha : PA X (e :: es) t) (hdb : (x == ("__debug__" : Str)) = false := by decide) (he : starEach (e :: es) X.env = (false, eval e X.env) :: starEach es X.env := by rfl) (hpl : (backTo pos (starEach es X.env)).any (·.1) = false := by rfl) :
    PE X (.Call (.Name x p) (e :: es) [] pos) (tCall sp dvs E t) := by
  intro pins s σ H Q I h
  refine wpAny_Call_Name_kw (ld_glob I hg hm ?_ hdb)
  refine PySem.W.callWith_K (h₀ := X.base) I.ok.mod.kin hk (thn (ha pos pins s σ H _ I h) fun us s1 ⟨vs, H1, I1, r, q⟩ => ⟨I1.kIn, ?_⟩) he hpl
  exact run_fn F hr hb hd hx I1 r q
end


structure FnScope (N P : List Str) (sc : Scope) : Prop where
  kind : sc.kind = .function
  co : sc.isCoroutine = false
  gen : sc.isGenerator = false
  nd : N.Nodup
  pre : N.take P.length = P
  par : ∀ x ∈ P, sc.names.lookup x = some .local ∨ sc.names.lookup x = some .cell
  nofree : ∀ y ∈ sc.names, y.2 ≠ .free

theorem bindL_out {kindOf : Str → Option NameKind} {x : Str} : ∀ {binds : List (Str × Value)} {m : Str → Option Value}, (∀ v, (x, v) ∉ binds) → bindL kindOf binds m x = m x
  | [], _, _ => rfl
  | (n, v) :: r, m, h => by
    unfold bindL
    rw [bindL_out fun w hw => h w (List.mem_cons_of_mem _ hw)]
    split
    · have : x ≠ n := by rintro rfl; exact h v List.mem_cons_self
      simp [this]
    · rfl
theorem bindC_out {kindOf : Str → Option NameKind} {x : Str} : ∀ {binds : List (Str × Value)} {m : Str → Option Value}, (∀ v, (x, v) ∉ binds) → bindC kindOf binds m x = m x
  | [], _, _ => rfl
  | (n, v) :: r, m, h => by
    unfold bindC
    rw [bindC_out fun w hw => h w (List.mem_cons_of_mem _ hw)]
    split
    · rfl
    · have : x ≠ n := by rintro rfl; exact h v List.mem_cons_self
      simp [this]
theorem bindL_get {kindOf : Str → Option NameKind} {x : Str} {v : Value} : ∀ {P : List Str} {vs : List Value} {i : Nat} {m : Str → Option Value}, P.Nodup → P[i]? = some x → vs[i]? = some v → kindOf x = some .local →
    bindL kindOf (P.zip vs) m x = some v
  | [], _, _, _, _, h, _, _ => by simp at h
  | _ :: _, [], _, _, _, _, h, _ => by simp at h
  | p :: P, w :: vs, 0, m, nd, h1, h2, hk => by
    simp at h1 h2; subst h1; subst h2
    show bindL kindOf ((p, w) :: P.zip vs) m p = _
    unfold bindL
    rw [bindL_out fun v hv => (List.nodup_cons.mp nd).1 (List.of_mem_zip hv).1, if_pos hk]
    simp
  | p :: P, w :: vs, i + 1, m, nd, h1, h2, hk => by
    show bindL kindOf ((p, w) :: P.zip vs) m x = _
    unfold bindL
    exact bindL_get (i := i) (List.nodup_cons.mp nd).2 (by simpa using h1) (by simpa using h2) hk
theorem bindC_get {kindOf : Str → Option NameKind} {x : Str} {v : Value} : ∀ {P : List Str} {vs : List Value} {i : Nat} {m : Str → Option Value}, P.Nodup → P[i]? = some x → vs[i]? = some v → kindOf x ≠ some .local →
    bindC kindOf (P.zip vs) m x = some v
  | [], _, _, _, _, h, _, _ => by simp at h
  | _ :: _, [], _, _, _, _, h, _ => by simp at h
  | p :: P, w :: vs, 0, m, nd, h1, h2, hk => by
    simp at h1 h2; subst h1; subst h2
    show bindC kindOf ((p, w) :: P.zip vs) m p = _
    unfold bindC
    rw [bindC_out fun v hv => (List.nodup_cons.mp nd).1 (List.of_mem_zip hv).1, if_neg hk]
    simp
  | p :: P, w :: vs, i + 1, m, nd, h1, h2, hk => by
    show bindC kindOf ((p, w) :: P.zip vs) m x = _
    unfold bindC
    exact bindC_get (i := i) (List.nodup_cons.mp nd).2 (by simpa using h1) (by simpa using h2) hk

def start (N : List Str) (vs : List V) : St := vs.map some ++ List.replicate (N.length - vs.length) none

def cxOf (CX : CXT) (P : Program) (w : World) (K : PySem.W.Frag) (mg : Str → Option Value) (base : Heap) (N : List Str) (qual : Str) (scope : Scope) (f : Addr) (cd : Value) (A : Around) (outer : List Env) (s : Shared) (H : Hp) (E : XK) : Cx where
  prog := P
  w := w
  K := K
  mg := mg
  base := base
  A := A.deeper (envOfC qual scope s.heap.objs.size f cd)
  N := N
  s₀ := s
  H₀ := H
  env := envOfC qual scope s.heap.objs.size f cd
  outer := outer
  stack := envOfC qual scope s.heap.objs.size f cd :: outer
  ex := []
  calm := true
  fn := fun _ => true
  pn := []
  xe := fun e s' => wpAny (model P w) (A.deeper (envOfC qual scope s.heap.objs.size f cd)) (leaving (envOfC qual scope s.heap.objs.size f cd) e) (fun _ s'' => CX outer H s E e s'') (fun e' s'' => CX outer H s E e' s'') s'

theorem cell_has {sc : Scope} {n : Nat} {x : Str} (h : sc.names.lookup x = some .cell) : ∃ c, (cellsFrom n sc.names []).lookup x = some c := by
  have q := PySem.W.cellsFrom_some sc.names n [] (.inl h)
  exact Option.isSome_iff_exists.mp q

theorem inv_start {CX : CXT} {P : Program} {w : World} {K : PySem.W.Frag} {mg : Str → Option Value} {base : Heap} {N ps : List Str} {qual : Str} {scope : Scope} {f : Addr} {cd : Value} {A : Around} {outer : List Env} {s s1 : Shared} {H : Hp} {E : XK} {us : List Value} {vs : List V}
    (S : FnScope N ps scope) (hd : A.handled = none) (e0 : Env0 P w K mg base A outer s H) (hl : vs.length = ps.length) (r : Vals vs us)
    (x : InCallC s s.heap.objs.size (bindL (envOfC qual scope s.heap.objs.size f cd).kindOf (ps.zip us) fun _ => none) (cellsFrom (s.heap.objs.size + 1) scope.names []) (bindC (envOfC qual scope s.heap.objs.size f cd).kindOf (ps.zip us) fun _ => none) s1) :
    Inv (cxOf CX P w K mg base N qual scope f cd A outer s H E) [] (start N vs) H s1 := by
  have hpl : ps.length ≤ N.length := by have := congrArg List.length S.pre; rw [List.length_take] at this; omega
  obtain ⟨h1, tk, rfl, hk⟩ := x.done
  have noA : ∀ b : Addr, b ∉ (cxOf CX P w K mg base N qual scope f cd A outer s H E).ex := fun b z => absurd (show b ∈ ([] : List Addr) from z) (by simp)
  refine ⟨⟨e0.mod, S.kind, rfl, rfl, Nat.le_refl _, fun y z c h1 h2 => ?_, fun y hy => ?_, fun y c _ h => ?_, fun _ => hd, Around.frames_deeper e0.frames, .inr ⟨rfl, rfl⟩, fun b z => absurd z (noA b), e0.bs, e0.bsz, fun b _ _ => noA b, fun b z => absurd z (noA b), e0.funs, e0.frf⟩,
    rfl, e0.bare, Un.kept hk, ⟨_, x.toInCall.ns, fun i y v h1 h2 h3 => ?_⟩, fun y c h => ⟨_, x.cell y c h⟩, e0.hok.fresh (Nat.le_refl _), fun y c h => ?_, fun p hp => absurd (show p ∈ ([] : List (Addr × Obj)) from hp) (by simp), e0.hok.kept hk, ?_⟩
  · exact name_of_addr x.apart (PySem.mem_of_lookup h1) (PySem.mem_of_lookup h2)
  · have hy : scope.names.lookup y = some .cell ∨ scope.names.lookup y = some .free := hy
    rcases hy with hy | hy
    · exact cell_has hy
    · exact absurd rfl (S.nofree _ (PySem.mem_of_lookup hy))
  · exact Nat.le_of_lt (x.above y c (PySem.mem_of_lookup h))
  · have hi : i < vs.length := by
      unfold start at h2
      by_cases hi : i < vs.length
      · exact hi
      · rw [List.getElem?_append_right (by simpa using hi)] at h2
        rw [List.getElem?_replicate] at h2
        split at h2 <;> cases h2
    have ha : vs[i]? = some v := by
      unfold start at h2
      rw [List.getElem?_append_left (by simpa using hi), List.getElem?_map] at h2
      cases e : vs[i]? with
      | none => rw [e] at h2; cases h2
      | some a => rw [e] at h2; cases h2; rfl
    obtain ⟨u, hu, rv⟩ := r.get ha
    have hp : ps[i]? = some y := by
      rw [← S.pre, List.getElem?_take_of_lt (by omega)]; exact h1
    have ndP : ps.Nodup := by rw [← S.pre]; exact S.nd.sublist (List.take_sublist _ _)
    refine ⟨u, rv, ?_⟩
    rcases S.par y (List.mem_of_getElem? hp) with k | k
    · exact .inl ⟨k, bindL_get ndP hp hu k⟩
    · obtain ⟨c, e⟩ := cell_has (n := s.heap.objs.size + 1) k
      refine .inr ⟨.inl k, c, e, ?_⟩
      have q := x.cell y c e
      rw [bindC_get ndP hp hu (by show scope.names.lookup y ≠ _; rw [k]; decide)] at q
      exact q
  · exact e0.hok.fresh (Nat.le_of_lt (x.above y c (PySem.mem_of_lookup h)))
  · unfold start
    show _ = N.length
    rw [List.length_append, List.length_map, List.length_replicate]
    omega

theorem fn_of {CX : CXT} {P : Program} {w : World} {K : PySem.W.Frag} {mg : Str → Option Value} {base : Heap} {k : Nat} {f : Addr} {name qual : Str} {params : Arguments} {body : List Stmt} {scope : Scope} {dV kV doc pm cdv ct oc : Value} {an od : Option Addr}
    {osl : Array (Option Value)} {N ps : List Str} {sp : Sp} (lk : K.lookup f = some ⟨oc, od, .func (PySem.W.fnOf name qual params body scope dV kV doc pm an cdv ct), osl⟩) (hcd : PySem.W.codeIn K cdv qual = true) (S : FnScope N ps scope)
    (len : ∀ vs H Q E, sp vs H Q E → vs.length = ps.length)
    (hbody : ∀ (A : Around) (outer : List Env) (s : Shared) (H : Hp) (vs : List V) (Q : VK) (E : XK), Room k (A.deeper (envOfC qual scope s.heap.objs.size f cdv)) → sp vs H Q E →
      ∃ t, PSs (cxOf CX P w K mg base N qual scope f cdv A outer s H E) body t ∧ t { nx := fun _ H' => Q .non H', rt := Q } (start N vs) H) :
    FnOk P w K mg base CX (k + 1) f (PySem.W.fnOf name qual params body scope dV kV doc pm an cdv ct) ps sp := by
  refine ⟨len, fun A outer s H args us vs Q E hr e0 hb r hsp => ?_⟩
  have hl := len _ _ _ _ hsp
  have KX : K.In s.heap := e0.mod.kin.keeps fun b o e => (e0.bs b o e).1
  have lim : s.heap.NoLimit := e0.mod.nolimit.keeps fun b o e => (e0.bs b o e).1
  have hkind : ∀ y ∈ ps.zip us, scope.names.lookup y.1 = some .local ∨ (scope.names.lookup y.1 = some .cell ∧ ((cellsFrom (s.heap.objs.size + 1) scope.names []).lookup y.1).isSome = true) := fun ⟨n, v⟩ hy => by
    rcases S.par n (List.of_mem_zip hy).1 with q | q
    · exact .inl q
    · exact .inr ⟨q, PySem.W.cellsFrom_some _ _ _ (.inl q)⟩
  refine codeAny_call_function hr.depth (KX _ _ lk) rfl S.co S.gen rfl (PySem.W.codeRec_of KX hcd) (hb _ _ _ _ ?_)
  refine wpAny_newFunctionEnv_cells S.kind hkind fun env he s1 x => ?_
  subst he
  refine ⟨lim.keeps x.toInCall.keep, codeAny_func ?_⟩
  obtain ⟨t, ht, hq⟩ := hbody A outer s H vs Q E (hr.deeper _) hsp
  have I : Inv (cxOf CX P w K mg base N qual scope f cdv A outer s H E) [] (start N vs) H s1 := inv_start S hr.hd e0 hl r x
  refine wpAny_mono (ht [] s1 (start N vs) H _ I hq) (fun fl s' hs => ?_) fun e s' hs => hs
  have fin : ∀ {σ' : St} {H' : Hp} {v : V} {u : Value}, Inv (cxOf CX P w K mg base N qual scope f cdv A outer s H E) [] σ' H' s' → RelV v u → Q v H' → CE outer P w H s Q u s' :=
    fun {σ' H' v u} J rv q => ⟨v, H', J.os, J.bare, J.base, J.hok, rv, q⟩
  cases fl with
  | ret u =>
    obtain ⟨v, σ', H', J, rv, q⟩ := hs
    exact fin J rv q
  | next =>
    obtain ⟨σ', H', J, q⟩ := hs
    exact fin (v := V.non) (u := Value.none) J rfl q
  | brk =>
    obtain ⟨_, _, _, q⟩ := hs
    exact False.elim q
  | cont =>
    obtain ⟨_, _, _, q⟩ := hs
    exact False.elim q
end L2

namespace L2
open PySem PySem.Spec PyProof.Rows
section
variable {X : Cx} {x : Str} {p pos : Pos} {e : Expr} {es : List Expr} {t : TA} {id T : String} {r : List V → Hp → VK → Prop}

def tCB (r : List V → Hp → VK → Prop) (t : TA) : TE := fun σ H Q => t σ H fun vs H1 => r vs H1 Q
theorem pe_callB (hc : CallR X (.builtin id) r) (hg : Gl X x) (hm : X.mg x = none) (hv : bootBuiltins x = some (.builtin id)) (ha : PA X (e :: es) t) (hn : x ≠ "__name__" := by decide) (hdb : (x == ("__debug__" : Str)) = false := by decide)
    (he : starEach (e :: es) X.env = (false, eval e X.env) :: starEach es X.env := by rfl) (hpl : (backTo pos (starEach es X.env)).any (·.1) = false := by rfl) : PE X (.Call (.Name x p) (e :: es) [] pos) (tCB r t) := by
  intro pins s σ H Q I h
  refine wpAny_Call_Name_kw (ld_blt I hg hm hv ?_ hn hdb)
  exact PyProof.Rows.callWith_builtin1 (thn (ha pos pins s σ H _ I h) fun us s1 ⟨vs, H1, I1, r1, q1⟩ => hc pins s1 σ H1 vs us Q I1 r1 q1) he hpl
theorem pe_callTy (hc : CallR X (.type T) r) (hg : Gl X x) (hm : X.mg x = none) (hv : bootBuiltins x = some (.type T)) (ha : PA X (e :: es) t) (hn : x ≠ "__name__" := by decide) (hdb : (x == ("__debug__" : Str)) = false := by decide)
    (he : starEach (e :: es) X.env = (false, eval e X.env) :: starEach es X.env := by rfl) (hpl : (backTo pos (starEach es X.env)).any (·.1) = false := by rfl) : PE X (.Call (.Name x p) (e :: es) [] pos) (tCB r t) := by
  intro pins s σ H Q I h
  refine wpAny_Call_Name_kw (ld_blt I hg hm hv ?_ hn hdb)
  exact PyProof.Rows.callWith_type1 (thn (ha pos pins s σ H _ I h) fun us s1 ⟨vs, H1, I1, r1, q1⟩ => hc pins s1 σ H1 vs us Q I1 r1 q1) he hpl
end
end L2

namespace L2
open PySem PySem.Spec PyProof.Rows

section
variable {κ : Type} [DecidableEq κ]
def valV (kvs : List (κ × V)) (k : κ) : Option V := (kvs.find? fun kv => decide (kv.1 = k)).map (·.2)
def putK (kvs : List (κ × V)) (k : κ) (v : V) : List (κ × V) :=
  if (kvs.any fun kv => decide (kv.1 = k)) = true then kvs.map (fun kv => if kv.1 = k then (kv.1, v) else kv) else kvs ++ [(k, v)]
theorem valV_pos {p : κ × V} {r : List (κ × V)} {k : κ} (e : p.1 = k) : valV (p :: r) k = some p.2 := by simp [valV, List.find?_cons, e]
theorem valV_neg {p : κ × V} {r : List (κ × V)} {k : κ} (e : ¬ p.1 = k) : valV (p :: r) k = valV r k := by simp [valV, List.find?_cons, e]
theorem valV_any (k : κ) : ∀ kvs : List (κ × V), (kvs.any fun kv => decide (kv.1 = k)) = (valV kvs k).isSome
  | [] => rfl
  | p :: r => by
    rw [List.any_cons]
    by_cases e : p.1 = k
    · simp only [valV_pos e, decide_eq_true e, Bool.true_or, Option.isSome_some]
    · rw [valV_neg e, decide_eq_false e, Bool.false_or]; exact valV_any k r
theorem valV_map (k j : κ) (y : V) : ∀ kvs : List (κ × V), valV (kvs.map fun kv => if kv.1 = k then (kv.1, y) else kv) j = (valV kvs j).map fun x => if j = k then y else x
  | [] => rfl
  | p :: r => by
    have ih := valV_map k j y r
    rw [List.map_cons]
    by_cases h : p.1 = k
    · rw [if_pos h]
      by_cases e : p.1 = j
      · rw [valV_pos (p := (p.1, y)) e, valV_pos e, Option.map_some, if_pos (e.symm.trans h)]
      · rw [valV_neg (p := (p.1, y)) e, valV_neg e, ih]
    · rw [if_neg h]
      by_cases e : p.1 = j
      · rw [valV_pos (p := p) e, valV_pos e, Option.map_some, if_neg (fun z => h (e.trans z))]
      · rw [valV_neg (p := p) e, valV_neg e, ih]
theorem valV_snoc (k j : κ) (y : V) : ∀ kvs : List (κ × V), valV kvs k = none → valV (kvs ++ [(k, y)]) j = if j = k then some y else valV kvs j
  | [], _ => by
    by_cases e : k = j
    · rw [if_pos e.symm]; exact valV_pos (p := (k, y)) e
    · rw [if_neg (fun z => e z.symm)]; exact valV_neg (p := (k, y)) e
  | p :: r, hn => by
    rw [List.cons_append]
    have hk : ¬ p.1 = k := fun z => by rw [valV_pos z] at hn; cases hn
    rw [valV_neg hk] at hn
    have ih := valV_snoc k j y r hn
    by_cases e : p.1 = j
    · rw [valV_pos e, valV_pos e, if_neg (fun z => hk (e.trans z))]
    · rw [valV_neg e, valV_neg e, ih]
theorem valV_put (kvs : List (κ × V)) (k j : κ) (y : V) : valV (putK kvs k y) j = if j = k then some y else valV kvs j := by
  unfold putK
  by_cases a : (kvs.any fun kv => decide (kv.1 = k)) = true
  · rw [if_pos a, valV_map]
    rw [valV_any] at a
    by_cases e : j = k
    · obtain ⟨x, hx⟩ := Option.isSome_iff_exists.mp a
      rw [if_pos e, e, hx, Option.map_some, if_pos rfl]
    · rw [if_neg e]
      cases valV kvs j with
      | none => rfl
      | some x => rw [Option.map_some, if_neg e]
  · rw [if_neg a]
    refine valV_snoc k j y kvs ?_
    rw [valV_any] at a
    cases q : valV kvs k with
    | none => rfl
    | some x => rw [q] at a; exact (a rfl).elim
theorem length_putK (kvs : List (κ × V)) (k : κ) (v : V) : (putK kvs k v).length ≤ kvs.length + 1 := by
  unfold putK
  split
  · rw [List.length_map]; omega
  · rw [List.length_append, List.length_cons, List.length_nil]; omega
theorem putK_new {kvs : List (κ × V)} {k : κ} (v : V) (h : valV kvs k = none) : putK kvs k v = kvs ++ [(k, v)] := by
  unfold putK
  rw [valV_any, h]
  exact if_neg (by decide)

theorem RelO.isSome_eq {o : Option V} {u : Option Value} (r : RelO o u) : o.isSome = u.isSome := by
  cases o with
  | none => cases u with
    | none => rfl
    | some _ => exact (show False from r).elim
  | some _ => cases u with
    | none => exact (show False from r).elim
    | some _ => rfl
theorem RelO.getD {o : Option V} {u : Option Value} {d : V} {d' : Value} (r : RelO o u) (rd : RelV d d') : RelV (o.getD d) (u.getD d') := by
  cases o with
  | none => cases u with
    | none => exact rd
    | some _ => exact (show False from r).elim
  | some _ => cases u with
    | none => exact (show False from r).elim
    | some _ => exact r

theorem KV.val {kvs : List (κ × V)} {vs : List (κ × Value)} (r : KV kvs vs) (k : κ) : RelO (valV kvs k) (valueAt vs k) := by
  unfold KV at r
  induction r with
  | nil => exact True.intro
  | @cons p q ps qs h t ih =>
    obtain ⟨h1, h2⟩ := h
    by_cases e : p.1 = k
    · have e' : q.1 = k := h1.symm.trans e
      have b : valueAt (q :: qs) k = some q.2 := by simp [valueAt, List.find?_cons, e']
      rw [valV_pos e, b]; exact h2
    · have e' : ¬ q.1 = k := fun z => e (h1.trans z)
      have b : valueAt (q :: qs) k = valueAt qs k := by simp [valueAt, List.find?_cons, e']
      rw [valV_neg e, b]; exact ih
theorem KV.any {kvs : List (κ × V)} {vs : List (κ × Value)} (r : KV kvs vs) (k : κ) : (kvs.any fun kv => decide (kv.1 = k)) = vs.any fun kv => decide (kv.1 = k) := by
  unfold KV at r
  induction r with
  | nil => rfl
  | cons h t ih => rw [List.any_cons, List.any_cons, ih, h.1]
theorem KV.repl {kvs : List (κ × V)} {vs : List (κ × Value)} (r : KV kvs vs) (k : κ) {y : V} {u : Value} (ry : RelV y u) :
    KV (kvs.map fun kv => if kv.1 = k then (kv.1, y) else kv) (vs.map fun kv => if kv.1 = k then (kv.1, u) else kv) := by
  unfold KV at r ⊢
  induction r with
  | nil => exact .nil
  | @cons p q ps qs h t ih =>
    rw [List.map_cons, List.map_cons]
    refine .cons ?_ ih
    obtain ⟨h1, h2⟩ := h
    by_cases e : p.1 = k
    · rw [if_pos e, if_pos (h1.symm.trans e)]; exact ⟨h1, ry⟩
    · rw [if_neg e, if_neg (fun z => e (h1.trans z))]; exact ⟨h1, h2⟩
theorem KV.put {kvs : List (κ × V)} {vs : List (κ × Value)} (r : KV kvs vs) (k : κ) {y : V} {u : Value} (ry : RelV y u) : KV (putK kvs k y) (stored vs k u) := by
  unfold putK stored
  rw [r.any k]
  by_cases e : (vs.any fun kv => decide (kv.1 = k)) = true
  · rw [if_pos e, if_pos e]; exact r.repl k ry
  · rw [if_neg e, if_neg e]; exact Paired.snoc r ⟨rfl, ry⟩
theorem KV.length {kvs : List (κ × V)} {vs : List (κ × Value)} (r : KV kvs vs) : kvs.length = vs.length := Paired.length r
end


theorem kV_is {P : Program} {w : World} {k : Key} {u : Value} (r : RelV (kV k) u) : (mixKind P w).is k u = true := by
  cases k with
  | inl i => obtain ⟨t, e⟩ := (show ∃ t, u = Value.int i t from r); subst e; exact mixKind_int P w i t
  | inr x => obtain ⟨t, e⟩ := (show ∃ t, u = Value.str x t from r); subst e; exact mixKind_str P w x t
theorem items_are {P : Program} {w : World} : ∀ {ks : List Key} {us : List Value}, Vals (ks.map kV) us → ItemsAre (mixKind P w) ks us
  | [], _, r => by rw [List.map_nil] at r; cases r; exact .nil
  | k :: ks, _, r => by
    rw [List.map_cons] at r
    cases r with
    | cons h t => exact .cons (kV_is h) (items_are t)

abbrev KT (H : Hp) : List (List Key × V) → List (List Key × Addr × Value) → Prop := Paired fun p q => p.1 = q.1 ∧ H q.2.1 = some (.tup (p.1.map kV)) ∧ RelV p.2 q.2.2
theorem KT.val {H : Hp} {kvs : List (List Key × V)} {xs : List (List Key × Addr × Value)} (r : KT H kvs xs) (k : List Key) : RelO (valV kvs k) ((atKey xs k).map (·.2)) := by
  induction r with
  | nil => exact True.intro
  | @cons p q ps qs h t ih =>
    obtain ⟨h1, _, h2⟩ := h
    by_cases e : p.1 = k
    · have e' : q.1 = k := h1.symm.trans e
      have b : atKey (q :: qs) k = some q.2 := by simp [atKey, List.find?_cons, e']
      rw [valV_pos e, b]; exact h2
    · have e' : ¬ q.1 = k := fun z => e (h1.trans z)
      have b : atKey (q :: qs) k = atKey qs k := by simp [atKey, List.find?_cons, e']
      rw [valV_neg e, b]; exact ih
theorem KT.repl {H : Hp} {kvs : List (List Key × V)} {xs : List (List Key × Addr × Value)} (r : KT H kvs xs) (k : List Key) {y : V} {u : Value} (ry : RelV y u) :
    KT H (kvs.map fun kv => if kv.1 = k then (kv.1, y) else kv) (xs.map (putAt k u)) := by
  induction r with
  | nil => exact .nil
  | @cons p q ps qs h t ih =>
    rw [List.map_cons, List.map_cons]
    refine .cons ?_ ih
    obtain ⟨h1, h2, h3⟩ := h
    unfold putAt
    by_cases e : p.1 = k
    · rw [if_pos e, if_pos (h1.symm.trans e)]; exact ⟨h1, h2, ry⟩
    · rw [if_neg e, if_neg (fun z => e (h1.trans z))]; exact ⟨h1, h2, h3⟩
theorem KT.put {H : Hp} {kvs : List (List Key × V)} {xs : List (List Key × Addr × Value)} (r : KT H kvs xs) (k : List Key) {b : Addr} {y : V} {u : Value} (hb : H b = some (.tup (k.map kV))) (ry : RelV y u) :
    KT H (putK kvs k y) (storedH xs k b u) := by
  have e : (kvs.any fun kv => decide (kv.1 = k)) = (atKey xs k).isSome := by
    rw [valV_any, (r.val k).isSome_eq, Option.isSome_map]
  unfold putK storedH
  rw [e]
  by_cases q : (atKey xs k).isSome = true
  · rw [if_pos q, if_pos q]; exact r.repl k ry
  · rw [if_neg q, if_neg q]; exact Paired.snoc r ⟨rfl, hb, ry⟩
theorem KT.keeps {H H' : Hp} {kvs : List (List Key × V)} {xs : List (List Key × Addr × Value)} (r : KT H kvs xs) (ht : ∀ b ys, H b = some (.tup ys) → H' b = some (.tup ys)) : KT H' kvs xs :=
  Paired.mapP r fun _ _ z => ⟨z.1, ht _ _ z.2.1, z.2.2⟩

section
variable {P : Program} {w : World} {H : Hp} {h : Heap} {a : Addr}
theorem rd_of {u : HO} (ok : HOk P w H h) (e : Rd H a u) : ObjOk P w H h a u := e.ok ok
theorem dk_rd {kvs : List (Key × V)} (ok : HOk P w H h) (e : Rd H a (.dK kvs)) : kvs.length ≤ sizeLine ∧ (a == sysModules) = false ∧ ∃ vs, KV kvs vs ∧ h.DictOf (mixKind P w) a vs :=
  show ObjOk P w H h a (.dK kvs) from rd_of ok e
theorem dk_of {kvs : List (Key × V)} (ok : HOk P w H h) (e : H a = some (.dK kvs)) : kvs.length ≤ sizeLine ∧ (a == sysModules) = false ∧ ∃ vs, KV kvs vs ∧ h.DictOf (mixKind P w) a vs := dk_rd ok (.inl e)
theorem key_of {ks : List Key} (ok : HOk P w H h) (e : H a = some (.tup (ks.map kV))) : (tupleKind (mixKind P w)).is h ks a := by
  obtain ⟨_, its, r, o, h1, h2, n, h3⟩ := (show ObjOk P w H h a (.tup (ks.map kV)) from ok a _ e)
  exact ⟨o, its.toArray, n, h1, h2, h3, by simpa using items_are r⟩
theorem dt_rd {kvs : List (List Key × V)} (ok : HOk P w H h) (e : Rd H a (.dT kvs)) : kvs.length ≤ sizeLine ∧ (a == sysModules) = false ∧
    ∃ xs, KT H kvs xs ∧ h.DictOfH (tupleKind (mixKind P w)) a xs := by
  obtain ⟨z, y, xs, r, o, es, ep, h1, h2, h3, h4, h5⟩ := (show ObjOk P w H h a (.dT kvs) from rd_of ok e)
  refine ⟨z, y, xs, r, o, es, ep, h1, h2, h3, h4, fun x hx => ?_, h5⟩
  have all : ∀ {l : List (List Key × V)} {m : List (List Key × Addr × Value)}, KT H l m → ∀ x ∈ m, (tupleKind (mixKind P w)).is h x.1 x.2.1 := by
    intro l m q
    induction q with
    | nil => intro x hx; exact nomatch hx
    | @cons p q ps qs hq t ih =>
      intro x hx
      rcases List.mem_cons.mp hx with e | hx
      · subst e
        exact key_of ok (by rw [← hq.1]; exact hq.2.1)
      · exact ih x hx
  exact all r x hx
theorem dt_of {kvs : List (List Key × V)} (ok : HOk P w H h) (e : H a = some (.dT kvs)) : kvs.length ≤ sizeLine ∧ (a == sysModules) = false ∧
    ∃ xs, KT H kvs xs ∧ h.DictOfH (tupleKind (mixKind P w)) a xs := dt_rd ok (.inl e)
end

def DGet (H : Hp) (a : Addr) (y : V) (r : Option V) : Prop :=
  (∃ kvs k, Rd H a (.dK kvs) ∧ y = kV k ∧ r = valV kvs k) ∨ ∃ kvs k b, Rd H a (.dT kvs) ∧ y = .ref b ∧ H b = some (.tup (k.map kV)) ∧ r = valV kvs k
def DPut (H : Hp) (a : Addr) (y v : V) (H' : Hp) : Prop :=
  (∃ kvs k, H a = some (.dK kvs) ∧ y = kV k ∧ kvs.length < sizeLine ∧ H' = upd H a (.dK (putK kvs k v))) ∨
  ∃ kvs k b, H a = some (.dT kvs) ∧ y = .ref b ∧ H b = some (.tup (k.map kV)) ∧ kvs.length < sizeLine ∧ H' = upd H a (.dT (putK kvs k v))
theorem DGet.k {H : Hp} {a : Addr} {kvs : List (Key × V)} {k : Key} (e : H a = some (.dK kvs)) : DGet H a (kV k) (valV kvs k) := .inl ⟨kvs, k, .inl e, rfl, rfl⟩
theorem DGet.t {H : Hp} {a b : Addr} {kvs : List (List Key × V)} {k : List Key} (e : H a = some (.dT kvs)) (eb : H b = some (.tup (k.map kV))) : DGet H a (.ref b) (valV kvs k) := .inr ⟨kvs, k, b, .inl e, rfl, eb, rfl⟩
theorem DPut.k {H : Hp} {a : Addr} {kvs : List (Key × V)} {k : Key} {v : V} (e : H a = some (.dK kvs)) (hl : kvs.length < sizeLine) : DPut H a (kV k) v (upd H a (.dK (putK kvs k v))) := .inl ⟨kvs, k, e, rfl, hl, rfl⟩
theorem DPut.t {H : Hp} {a b : Addr} {kvs : List (List Key × V)} {k : List Key} {v : V} (e : H a = some (.dT kvs)) (eb : H b = some (.tup (k.map kV))) (hl : kvs.length < sizeLine) :
    DPut H a (.ref b) v (upd H a (.dT (putK kvs k v))) := .inr ⟨kvs, k, b, e, rfl, eb, hl, rfl⟩


section
variable {X : Cx} {pins : List (Addr × Obj)} {σ : St} {H : Hp} {s : Shared} {a : Addr} {y v : V} {u r : Value} {o : Option V} {A : Around} {E : Value → Shared → Prop}

theorem Inv.big (I : Inv X pins σ H s) : sysModules < s.heap.objs.size := by
  have h : mainGlobals < s.heap.objs.size := (I.mod.glob.keeps I.bk).lt
  exact Nat.lt_trans (by decide) h

theorem d_getItem {Q : Value → Shared → Prop} (hu : A.units + 1 < cLine) (I : Inv X pins σ H s) (g : DGet H a y (some v)) (ry : RelV y u) (h : ∀ w' s', Inv X pins σ H s' → RelV v w' → Q w' s') :
    wpAny (model X.prog X.w) A (getItem (.ref a) u) Q E s := by
  rcases g with ⟨kvs, k, e, ey, l⟩ | ⟨kvs, k, b, e, ey, eb, l⟩
  · subst ey
    obtain ⟨z, hd, vs, rel, dd⟩ := dk_rd I.hok e
    obtain ⟨w', hw, rw'⟩ := RelO.some_of (v := v) (o := valueAt vs k) (by rw [l]; exact rel.val k)
    exact wpAny_getItem_of (kV_is ry) dd.mapOf hw (h w' _ (I.tok _) rw')
  · subst ey
    cases (show u = Value.ref b from ry)
    obtain ⟨z, hd, xs, rel, dd⟩ := dt_rd I.hok e
    obtain ⟨w', hw, rw'⟩ := RelO.some_of (v := v) (o := (atKey xs k).map (·.2)) (by rw [l]; exact rel.val k)
    obtain ⟨p, hp, hp2⟩ := Option.map_eq_some_iff.mp hw
    refine wpAny_getItem_heap (tupleKind_room_in1 hu) (key_of I.hok eb) dd hp ?_
    rw [hp2]
    exact h w' _ (I.tok _) rw'
theorem d_in {Q : Value → Shared → Prop} (hu : A.units + 1 < cLine) (I : Inv X pins σ H s) (g : DGet H a y o) (ry : RelV y u) (h : ∀ s', Inv X pins σ H s' → Q (.bool o.isSome) s') :
    wpAny (model X.prog X.w) A (compareOp .In u (.ref a)) Q E s := by
  rcases g with ⟨kvs, k, e, ey, l⟩ | ⟨kvs, k, b, e, ey, eb, l⟩
  · subst ey
    obtain ⟨z, hd, vs, rel, dd⟩ := dk_rd I.hok e
    refine wpAny_in_of (kV_is ry) hd dd.mapOf ?_
    rw [← (rel.val k).isSome_eq, ← l]
    exact h _ (I.tok _)
  · subst ey
    cases (show u = Value.ref b from ry)
    obtain ⟨z, hd, xs, rel, dd⟩ := dt_rd I.hok e
    refine wpAny_in_heap (tupleKind_room_in1 hu) (key_of I.hok eb) hd dd ?_
    have q := (rel.val k).isSome_eq
    rw [Option.isSome_map] at q
    rw [← q, ← l]
    exact h _ (I.tok _)
theorem d_write {h' : Heap} {t' : Nat} {ob : HO} (I : Inv X pins σ H s) (mu : Mut (H a)) (hs : Heap.SameBut a s.heap h') (he : ∃ q, h'.get? a = some q) (new : ObjOk X.prog X.w (upd H a ob) h' a ob) :
    Inv X pins σ (upd H a ob) { s with heap := h', toks := t' } :=
  I.write (x := a) (e := a) mu (.inl rfl) (fun b q hb z => (hs.2 b hb).trans z) he new
theorem dk_new {P : Program} {w : World} {H' : Hp} {h' : Heap} {kvs : List (Key × V)} {vs : List (Key × Value)} (z : kvs.length ≤ sizeLine) (hd : (a == sysModules) = false) (rel : KV kvs vs) (dd : h'.DictOf (mixKind P w) a vs) :
    ObjOk P w H' h' a (.dK kvs) := ⟨z, hd, vs, rel, dd⟩
theorem d_setItem {H' : Hp} {Q : Unit → Shared → Prop} (hu : A.units + 1 < cLine) (I : Inv X pins σ H s) (g : DPut H a y v H') (ry : RelV y u) (rv : RelV v r) (h : ∀ s', Inv X pins σ H' s' → Q () s') :
    wpAny (model X.prog X.w) A (setItem (.ref a) u r) Q E s := by
  rcases g with ⟨kvs, k, e, ey, l, eH⟩ | ⟨kvs, k, b, e, ey, eb, l, eH⟩
  · subst ey eH
    obtain ⟨z, hd, vs, rel, dd⟩ := dk_of I.hok e
    have hz : vs.length ≤ sizeLine := by rw [← rel.length]; exact z
    have hl : (putK kvs k v).length ≤ sizeLine := by have := length_putK kvs k v; omega
    refine wpAny_setItem_pairs (hsz := hz) (kV_is ry) dd fun h' dd' hs => h _ ?_
    have he : ∃ q, h'.get? a = some q := let ⟨q, _, _, hq, _⟩ := dd'; ⟨q, hq⟩
    exact d_write I (by rw [e]; exact True.intro) hs he (dk_new hl hd (rel.put k rv) dd')
  · subst ey eH
    cases (show u = Value.ref b from ry)
    obtain ⟨z, hd, xs, rel, dd⟩ := dt_of I.hok e
    have hz : xs.length ≤ sizeLine := by rw [← Paired.length rel]; exact z
    have hl : (putK kvs k v).length ≤ sizeLine := by have := length_putK kvs k v; omega
    refine wpAny_setItem_heap (hsz := hz) (tupleKind_room_in1 hu) (key_of I.hok eb) dd fun h' dd' hs => h _ ?_
    obtain ⟨q, es, ep, hq, h2, h3, h4, _, h5⟩ := dd'
    refine d_write I (by rw [e]; exact True.intro) hs ⟨q, hq⟩ ⟨hl, hd, _, (rel.put k eb rv).keeps fun c ys ec => ?_, q, es, ep, hq, h2, h3, h4, h5⟩
    rw [upd_ne (ne_of ec e (fun z => nomatch z))]
    exact ec
end



def NoSl (i : Expr) : Prop := ∀ ov iv, subscripted i false ov iv = operate [ov, iv] (getItem ov iv)
theorem subD_of {prog : Program} {w : World} {A : Around} {E : Value → Shared → Prop} {s : Shared} {env : Env} {value slice : Expr} {pos : Pos} {T id : String} {Q : Value → Shared → Prop}
    (hl : typeLookup (.type T) "__getitem__" = pure (some (.builtin id))) (hs : NoSl slice)
    (h : wpAny (model prog w) A (eval value env) (fun o s₁ => wpAny (model prog w) A (eval slice env) (fun i s₂ => s₂.TypeIs o T ∧ wpAny (model prog w) A (getItem o i) Q E s₂) E s₁) E s) :
    wpAny (model prog w) A (eval (.Subscript value slice pos) env) Q E s := by
  refine Subscript_ (wpAny_mono h (fun o s₁ h₁ => wpAny_mono h₁ (fun i s₂ h₂ => ?_) fun _ _ x => x) fun _ _ x => x)
  obtain ⟨hT, h₂⟩ := h₂
  unfold subscriptTail
  refine wpAny_bind ?_
  rw [getitemInPython_of_ne hT.not_modules]
  refine wpAny_bind (wpAny_specialOf hT hl ?_)
  have fin : wpAny (model prog w) A (subscripted slice false o i) (fun r s₃ => wpAny (model prog w) A (letTemporaryGo value o r >>= fun _ => pure r) Q E s₃) E s₂ := by
    rw [hs o i]
    exact wpAny_operating (wpAny_mono h₂ (fun r s₃ h₃ => wpAny_bind (wpAny_letTemporaryGo (wpAny_pure h₃))) fun _ _ x => x)
  first
    | exact wpAny_pure (wpAny_bind fin)
    | exact wpAny_bind (wpAny_pure (wpAny_bind fin))
    | exact wpAny_bind fin

theorem dict_typeIs {X : Cx} {pins : List (Addr × Obj)} {σ : St} {H : Hp} {s : Shared} {a : Addr} {y : V} {o : Option V} (I : Inv X pins σ H s) (g : DGet H a y o) : s.TypeIs (.ref a) "dict" := by
  rcases g with ⟨kvs, k, e, _, _⟩ | ⟨kvs, k, b, e, _, _, _⟩
  · obtain ⟨_, _, vs, _, dd⟩ := dk_rd I.hok e
    exact dd.typeIs
  · obtain ⟨_, _, xs, _, dd⟩ := dt_rd I.hok e
    exact dd.typeIs
def tDGet (td ty : TE) : TE := fun σ H Q => td σ H fun x H1 => ty σ H1 fun y H2 => ∃ a v, x = .ref a ∧ DGet H2 a y (some v) ∧ Q v H2
def tDIn (ty td : TE) : TE := fun σ H Q => ty σ H fun y H1 => td σ H1 fun x H2 => ∃ a o, x = .ref a ∧ DGet H2 a y o ∧ Q (.bl o.isSome) H2
def sDPut (td ty tv : TE) : TS := fun D σ H => tv σ H fun v H1 => td σ H1 fun x H2 => ty σ H2 fun y H3 => ∃ a H4, x = .ref a ∧ DPut H3 a y v H4 ∧ D.nx σ H4
section
variable {X : Cx} {o i e value : Expr} {pos pos' tpos : Pos} {td ty tv : TE}
theorem pe_dget (hu : X.A.units + 1 < cLine) (ho : PE X o td) (hi : PE X i ty) (hs : NoSl i) : PE X (.Subscript o i pos) (tDGet td ty) := by
  intro pins s σ H Q I h
  refine subD_of PySem.F.slot_dict_getitem.lookup hs (thn (ho pins s σ H _ I h) fun u s1 ⟨x, H1, I1, rx, q1⟩ => thn (hi pins s1 σ H1 _ I1 q1) fun iv s2 ⟨y, H2, I2, ry, a, v, ex, g, q2⟩ => ?_)
  subst ex
  obtain rfl : u = Value.ref a := rx
  exact ⟨dict_typeIs I2 g, d_getItem hu I2 g ry fun w' s3 I3 rw' => ⟨v, H2, I3, rw', q2⟩⟩
theorem pc_din (hu : X.A.units + 1 < cLine) (hi : PE X i ty) (ho : PE X o td) : PC X .In i o (tDIn ty td) := by
  intro pins s σ H Q I h
  refine thn (hi pins s σ H _ I h) fun iv s1 ⟨y, H1, I1, ry, q1⟩ => thn (ho pins s1 σ H1 _ I1 q1) fun u s2 ⟨x, H2, I2, rx, a, ov, ex, g, q2⟩ => ?_
  subst ex
  obtain rfl : u = Value.ref a := rx
  exact d_in hu I2 g ry fun s3 I3 => ⟨.bl ov.isSome, H2, I3, rfl, q2⟩
theorem ps_dput (hu : X.A.units + 1 < cLine) (ho : PE X o td) (hi : PE X i ty) (hv : PE X value tv) (hs : swapsWith value (some (.Subscript o i pos')) pos.line X.env = pure false) :
    PS X (.Assign [.Subscript o i pos'] value pos) (sDPut td ty tv) := by
  intro pins s σ H D I h
  refine wpAny_Assign_Subscript (thn (hv pins s σ H _ I h) fun r s1 ⟨v, H1, I1, rv, q1⟩ => thn (ho pins s1 σ H1 _ I1 q1) fun u s2 ⟨x, H2, I2, rx, q2⟩ => thn (hi pins s2 σ H2 _ I2 q2) fun iv s3 ⟨y, H3, I3, ry, a, H4, ex, g, q3⟩ => ?_) hs
  subst ex
  obtain rfl : u = Value.ref a := rx
  exact d_setItem hu I3 g ry rv fun s4 I4 => ⟨σ, H4, I4, q3⟩
end


theorem dk_empty {P : Program} {w : World} {H : Hp} (h : Heap) (hb : sysModules < h.objs.size) : ObjOk P w H (h.push { cls := .type "dict", data := .dict #[] }) h.objs.size (.dK []) :=
  ⟨Nat.zero_le _, beq_eq_false_iff_ne.mpr (Ne.symm (Nat.ne_of_lt hb)), [], .nil, Heap.DictOf.new h⟩
theorem dt_empty {P : Program} {w : World} {H : Hp} (h : Heap) (hb : sysModules < h.objs.size) : ObjOk P w H (h.push { cls := .type "dict", data := .dict #[] }) h.objs.size (.dT []) :=
  ⟨Nat.zero_le _, beq_eq_false_iff_ne.mpr (Ne.symm (Nat.ne_of_lt hb)), [], .nil, _, #[], 0, Heap.get?_push_size _ rfl, ⟨rfl, rfl, rfl⟩, rfl, rfl, List.nodup_nil⟩
def tDNewK : TE := fun _ H Q => ∀ p, H p = none → Q (.ref p) (upd H p (.dK []))
def tDNewT : TE := fun _ H Q => ∀ p, H p = none → Q (.ref p) (upd H p (.dT []))
section
variable {X : Cx} {pos : Pos}
theorem pe_dnewK : PE X (.Dict [] [] pos) tDNewK := fun pins s σ H Q I h =>
  wpAny_Dict_empty ⟨.ref s.heap.objs.size, _, I.laid (a := s.heap.objs.size) (o := .dK []) (t' := s.toks) (fun _ _ q => Heap.get?_push_of_some _ q) (Nat.le_refl _) (dk_empty s.heap I.big), rfl, h _ (I.hok.fresh (Nat.le_refl _))⟩
theorem pe_dnewT : PE X (.Dict [] [] pos) tDNewT := fun pins s σ H Q I h =>
  wpAny_Dict_empty ⟨.ref s.heap.objs.size, _, I.laid (a := s.heap.objs.size) (o := .dT []) (t' := s.toks) (fun _ _ q => Heap.get?_push_of_some _ q) (Nat.le_refl _) (dt_empty s.heap I.big), rfl, h _ (I.hok.fresh (Nat.le_refl _))⟩
end

structure M2 (X : Cx) (o : Expr) (m : Str) (apos : Pos) (e f : Expr) (cpos : Pos) : Prop where
  base : attributeBase o m X.env (eval o X.env) = eval o X.env
  few : ((backTo cpos (starEach [e, f] X.env)).all (fun x => !x.1) && (backToKw cpos (keywordEach [] X.env)).all (fun x => x.1.isSome)
    && decide (([e, f] : List Expr).length + ([] : List Keyword).length + (if ([] : List Keyword).isEmpty then 0 else 1) < 30)) = true
  line : (apos.endLine == cpos.line) = true
  trees : backTo cpos (starEach [e, f] X.env) = [(false, eval e X.env), (false, eval f X.env)]

def IsD (H : Hp) (a : Addr) : Prop := (∃ kvs, Rd H a (.dK kvs)) ∨ ∃ kvs, Rd H a (.dT kvs)
theorem isD_at {X : Cx} {pins : List (Addr × Obj)} {σ : St} {H : Hp} {s : Shared} {a : Addr} (I : Inv X pins σ H s) (d : IsD H a) :
    s.TypeIs (.ref a) "dict" ∧ (∀ b, Value.ref a = .ref b → ∃ ob, s.heap.get? b = some ob ∧ ob.dict = none) ∧ (a == sysModules) = false := by
  rcases d with ⟨kvs, e⟩ | ⟨kvs, e⟩
  · obtain ⟨_, hd, vs, _, dd⟩ := dk_rd I.hok e
    refine ⟨dd.typeIs, fun b q => ?_, hd⟩
    cases q
    obtain ⟨ob, _, _, h1, h2, _⟩ := dd
    exact ⟨ob, h1, h2.2.1⟩
  · obtain ⟨_, hd, xs, _, dd⟩ := dt_rd I.hok e
    refine ⟨dd.typeIs, fun b q => ?_, hd⟩
    cases q
    obtain ⟨ob, _, _, h1, h2, _⟩ := dd
    exact ⟨ob, h1, h2.2.1⟩

section
variable {X : Cx} {pins : List (Addr × Obj)} {σ : St} {H : Hp} {s : Shared} {a : Addr} {y d : V} {u r : Value} {o : Option V} {A : Around} {E : Value → Shared → Prop}
theorem d_get2 {Q : Value → Shared → Prop} (hu : A.units + 1 < cLine) (I : Inv X pins σ H s) (g : DGet H a y o) (ry : RelV y u) (rd : RelV d r) (h : ∀ w' s', Inv X pins σ H s' → RelV (o.getD d) w' → Q w' s') :
    wpAny (model X.prog X.w) A (call (.builtin "dict.get") [.ref a, u, r]) Q E s := by
  rcases g with ⟨kvs, k, e, ey, l⟩ | ⟨kvs, k, b, e, ey, eb, l⟩
  · subst ey
    obtain ⟨z, hd, vs, rel, dd⟩ := dk_rd I.hok e
    refine call_meetsIn PySem.F.slot_dict_get dd.typeIs PySem.F.entry_dict_get (PySem.F.args_dict_get_3 _ _ _) (meets_dict_get_default (mixKind X.prog X.w) a (kV_is ry) hd r) ⟨_, dd.mapOf, h _ _ (I.tok _) ?_⟩
    rw [l]
    exact (rel.val k).getD rd
  · subst ey
    cases (show u = Value.ref b from ry)
    obtain ⟨z, hd, xs, rel, dd⟩ := dt_rd I.hok e
    refine call_meetsIn PySem.F.slot_dict_get dd.typeIs PySem.F.entry_dict_get (PySem.F.args_dict_get_3 _ _ _) (meetsH_dict_get_default (tupleKind (mixKind X.prog X.w)) a b hd r) ⟨tupleKind_room_in1 hu, k, xs, key_of I.hok eb, dd, h _ _ (I.tok _) ?_⟩
    rw [l]
    exact (rel.val k).getD rd
end

def tDGet2 (td ty tx : TE) : TE := fun σ H Q => td σ H fun x H1 => ∃ a, x = .ref a ∧ IsD H1 a ∧ ty σ H1 fun y H2 => tx σ H2 fun z H3 => ∃ o, DGet H3 a y o ∧ Q (o.getD z) H3
section
variable {X : Cx} {o e f : Expr} {apos cpos : Pos} {td ty tx : TE}
theorem pe_dget2 (hu : X.A.units + 1 < cLine) (ho : PE X o td) (he : PE X e ty) (hf : PE X f tx) (m : M2 X o "get" apos e f cpos) : PE X (.Call (.Attribute o "get" apos) [e, f] [] cpos) (tDGet2 td ty tx) := by
  intro pins s σ H Q I h
  refine wpAny_Call_method m.base m.few m.line PySem.F.plainAttrs_dict PySem.F.slot_dict_get PySem.F.type_dict_get (thn (ho pins s σ H _ I h) fun u s1 ⟨x, H1, I1, rx, a, ex, d, q1⟩ => ?_)
  subst ex
  obtain rfl : u = Value.ref a := rx
  obtain ⟨t1, t2, _⟩ := isD_at I1 d
  refine ⟨t1, t2, ?_⟩
  rw [m.trees]
  refine Calls.callWith_builtin rfl (Calls.evalArgs_plain (Calls.spliced_cons (thn (he pins s1 σ H1 _ I1 q1) fun iv s2 ⟨y, H2, I2, ry, q2⟩ =>
    Calls.spliced_cons (thn (hf pins s2 σ H2 _ I2 q2) fun fv s3 ⟨z, H3, I3, rz, ov, g, q3⟩ => Calls.spliced_nil ?_))))
  exact d_get2 hu I3 g ry rz fun w' s4 I4 rw' => ⟨_, H3, I4, rw', q3⟩
end



end L2


namespace HT
open PySem PyProof.Rows


section
variable {prog : Program} {w : World} {A : Around} {E : Value → Shared → Prop} {s : Shared}

theorem cat_tup {t b : Addr} {vs ws : List Value} {Q : Value → Shared → Prop} (ht : IsTup s.heap t vs.toArray) (hb : IsTup s.heap b ws.toArray) (hv : vs ≠ [])
    (h1 : ws = [] → Q (.ref t) s) (h2 : ws ≠ [] → Q (.ref s.heap.objs.size) { s with heap := s.heap.push { cls := .type "tuple", data := .seq (vs ++ ws).toArray } })
    (hsz : vs.length + ws.length ≤ sizeLine) : wpAny (model prog w) A (binaryOp .Add (.ref t) (.ref b)) Q E s := by
  obtain ⟨⟨cls, dd, data, sl⟩, ho, hc, n, hd⟩ := id ht
  obtain ⟨⟨cls2, dd2, data2, sl2⟩, ho2, hc2, n2, hd2⟩ := id hb
  simp only at hc hd hc2 hd2
  subst hc hd hc2 hd2
  have e : vs.toArray ++ ws.toArray = (vs ++ ws).toArray := by simp
  by_cases hw : ws = []
  · exact concat_meets ⟨_, ho, rfl⟩ ⟨_, ho2, rfl⟩ noFill_tuple_add seq_tuple_add PySem.F.slot_tuple_add PySem.F.entry_tuple_add (PySem.F.args_tuple_add_2 _ _)
      (tuple_addW1 t b vs.toArray ws.toArray n n2 dd dd2 sl sl2 (by simpa using hv) (by simp [hw])) ⟨ho, ho2, h1 hw⟩
  · refine concat_meets ⟨_, ho, rfl⟩ ⟨_, ho2, rfl⟩ noFill_tuple_add seq_tuple_add PySem.F.slot_tuple_add PySem.F.entry_tuple_add (PySem.F.args_tuple_add_2 _ _)
      (tuple_addW2 t b vs.toArray ws.toArray n n2 dd dd2 sl sl2 (by simpa using hv) (by simpa using hw) (by rw [List.size_toArray, List.size_toArray]; exact hsz)) ⟨ho, ho2, ?_⟩
    rw [e]
    exact h2 hw

def sIx (n d : Nat) : Option Int → Nat
  | none => d
  | some v => if v < 0 then (v + (n : Int)).toNat else min v.toNat n
theorem sIx_le (n d : Nat) (hd : d ≤ n) (o : Option Int) : sIx n d o ≤ n := by
  cases o with
  | none => exact hd
  | some v =>
    show (if v < 0 then (v + (n : Int)).toNat else min v.toNat n) ≤ n
    by_cases hv : v < 0
    · rw [if_pos hv]; omega
    · rw [if_neg hv]; exact Nat.min_le_right _ _
theorem clip_eq (v : Int) (n d : Nat) : (if v < 0 then max (v + (n : Int)) 0 else min v (n : Int)) = ((sIx n d (some v) : Nat) : Int) := by
  show (if v < 0 then max (v + (n : Int)) 0 else min v (n : Int)) = (((if v < 0 then (v + (n : Int)).toNat else min v.toNat n) : Nat) : Int)
  by_cases hv : v < 0
  · simp only [if_pos hv]; omega
  · simp only [if_neg hv]; omega
theorem adjust_gen (lo hi : Option Int) (n : Nat) : Builtin.Slice.sliceAdjust lo hi 1 (n : Int) = (((sIx n 0 lo : Nat) : Int), ((sIx n n hi : Nat) : Int)) := by
  have h1 : ¬ ((1 : Int) < 0) := by omega
  unfold Builtin.Slice.sliceAdjust
  simp only [h1, if_false]
  refine Prod.ext ?_ ?_
  · cases lo with
    | none => rfl
    | some v => exact clip_eq v n 0
  · cases hi with
    | none => rfl
    | some v => exact clip_eq v n n
theorem places_gen (i j : Nat) : Builtin.Slice.slicePlaces (i : Int) (j : Int) 1 = j - i := by
  unfold Builtin.Slice.slicePlaces
  have h1 : (1 : Int) > 0 := by omega
  simp only [h1, if_true, Int.ediv_one]
  split <;> omega
theorem slicePart_ {v : Value} {o : Option Int} {Q : Option Int → Shared → Prop} (p : IsPart v o) (h : Q o s) : wpAny (model prog w) A (Builtin.Slice.slicePartIndex v) Q E s := by
  cases p with
  | none => exact slicePart_none h
  | int i t => exact slicePart_int h
theorem sliceApplied_gen {sl : Addr} {vl vu : Value} {lo hi : Option Int} {n : Nat} {Q : Int × Int × Nat → Shared → Prop} (hs : s.heap.IsSliceOf sl vl vu .none) (pl : IsPart vl lo) (pu : IsPart vu hi)
    (h : Q (((sIx n 0 lo : Nat) : Int), 1, sIx n n hi - sIx n 0 lo) s) : wpAny (model prog w) A (Builtin.Slice.sliceApplied (.ref sl) (pure (n : Int))) Q E s := by
  obtain ⟨os, hos, hcs, hds⟩ := id hs
  unfold Builtin.Slice.sliceApplied Builtin.Slice.sliceFields
  refine wpAny_bind (wpAny_bind (wpAny_field hos hds (x := vl) rfl (wpAny_bind (wpAny_field hos hds (x := vu) rfl (wpAny_bind (wpAny_field hos hds (x := .none) rfl (wpAny_pure ?_)))))))
  refine wpAny_bind (slicePart_none ?_)
  show wpAny _ _ (if ((1 : Int) == 0) = true then _ else _) _ _ s
  rw [if_neg (by decide)]
  refine wpAny_bind (slicePart_ pl (wpAny_bind (slicePart_ pu (wpAny_bind (wpAny_pure ?_)))))
  show wpAny _ _ (match Builtin.Slice.sliceAdjust lo hi 1 (n : Int) with | (lo, hi) => pure (lo, (1 : Int), Builtin.Slice.slicePlaces lo hi 1)) _ _ s
  rw [adjust_gen lo hi n]
  show wpAny _ _ (pure (((sIx n 0 lo : Nat) : Int), (1 : Int), Builtin.Slice.slicePlaces ((sIx n 0 lo : Nat) : Int) ((sIx n n hi : Nat) : Int) 1)) _ _ s
  rw [places_gen]
  exact wpAny_pure h
theorem pick_gen (xs : Array Value) (i k : Nat) : ((List.range k).filterMap fun (m : Nat) => xs[((i : Int) + (m : Int) * 1).toNat]?).toArray = ((xs.toList.drop i).take k).toArray := by
  have e : (fun (m : Nat) => xs[((i : Int) + (m : Int) * 1).toNat]?) = fun m => xs[i + m]? := by
    funext m
    have : ((i : Int) + (m : Int) * 1).toNat = i + m := by omega
    rw [this]
  rw [e]
  have := pick_run xs i k
  rw [List.filterMap_map] at this
  have e2 : ((fun x => xs[x]?) ∘ fun x => i + x) = fun m => xs[i + m]? := rfl
  rw [e2] at this
  rw [this]

theorem getItem_tuple_cut {t sl : Addr} {items : Array Value} {vl vu : Value} {lo hi : Option Int} {Q : Value → Shared → Prop} (ht : IsTup s.heap t items) (hs : s.heap.IsSliceOf sl vl vu .none) (pl : IsPart vl lo) (pu : IsPart vu hi)
    (hw : ¬ (sIx items.size 0 lo = 0 ∧ sIx items.size items.size hi = items.size))
    (h : Q (.ref s.heap.objs.size) { s with heap := s.heap.push { cls := .type "tuple", data := .seq ((items.toList.drop (sIx items.size 0 lo)).take (sIx items.size items.size hi - sIx items.size 0 lo)).toArray } })
    (hsz : items.size ≤ sizeLine) : wpAny (model prog w) A (getItem (.ref t) (.ref sl)) Q E s := by
  have htake : sizeOk (.seq ((items.toList.drop (sIx items.size 0 lo)).take (sIx items.size items.size hi - sIx items.size 0 lo)).toArray) := by
    show ((items.toList.drop (sIx items.size 0 lo)).take (sIx items.size items.size hi - sIx items.size 0 lo)).toArray.size ≤ sizeLine
    rw [List.size_toArray, List.length_take, List.length_drop, Array.length_toList]
    omega
  have hj : sIx items.size items.size hi ≤ items.size := sIx_le _ _ (Nat.le_refl _) hi
  obtain ⟨os, hos, hcs, hds⟩ := id hs
  have hTs : s.TypeIs (.ref sl) "slice" := ⟨os, hos, hcs⟩
  unfold getItem
  try with_reducible refine wpAny_holding ?_
  first | refine wpAny_bind (wpAny_pure ?_) | skip
  refine wpAny_bind (wpAny_sequenceKey ht.typeIs (by decide) ?_)
  refine wpAny_bind (wpAny_callSpecial?_slot (name := Str.ofString "__getitem__") ht.typeIs PyProof.Rows.slot_tuple_getitem
    (wpAny_call_entry PyProof.Rows.slot_tuple_getitem ht.typeIs entry_tuple_getitem ?_ (args_tuple_getitem _ _)))
  show wpAny _ _ (Builtin.Tuple.tupleItemsOf (.ref t) >>= _) _ _ s
  refine wpAny_bind (tupleItemsOf_ ht ?_)
  refine wpAny_bind (wpAny_typeOf hTs ?_)
  rw [if_pos (by decide)]
  refine wpAny_bind (sliceApplied_gen hs pl pu ?_)
  have hno : ¬ ((((sIx items.size 0 lo : Nat) : Int) == 0 && (1 : Int) == 1 && (sIx items.size items.size hi - sIx items.size 0 lo) == items.size) = true) := by
    intro q
    rw [Bool.and_eq_true, Bool.and_eq_true] at q
    have q1 : ((sIx items.size 0 lo : Nat) : Int) = 0 := eq_of_beq q.1.1
    have q2 : sIx items.size items.size hi - sIx items.size 0 lo = items.size := eq_of_beq q.2
    exact hw ⟨by omega, by omega⟩
  show wpAny _ _ (if (((sIx items.size 0 lo : Nat) : Int) == 0 && (1 : Int) == 1 && (sIx items.size items.size hi - sIx items.size 0 lo) == items.size) = true then _ else _) _ _ s
  rw [if_neg hno, pick_gen]
  first
    | exact wpAny_bind (m := Builtin.Tuple.tupleExact _) (wpAny_newObj_type (wpAny_pure ⟨_, rfl, wpAny_pure h⟩) htake)
    | exact wpAny_bind (m := Builtin.Tuple.tupleExact _) (wpAny_newObj_type (wpAny_bind (wpAny_pure (wpAny_pure ⟨_, rfl, wpAny_pure h⟩))) htake)
    | exact wpAny_bind (wpAny_bind (m := Builtin.Tuple.tupleExact _) (wpAny_newObj_type (wpAny_pure (wpAny_pure ⟨_, rfl, wpAny_pure h⟩)) htake))
    | exact wpAny_bind (wpAny_bind (m := Builtin.Tuple.tupleExact _) (wpAny_newObj_type (wpAny_pure ⟨_, rfl, wpAny_pure h⟩) htake))
end
end HT

namespace L2
open PySem PySem.Spec PyProof.Rows

abbrev TO := St → Hp → (Option Int → Hp → Prop) → Prop
def PO (X : Cx) (e : Option Expr) (t : TO) : Prop :=
  ∀ (pins : List (Addr × Obj)) (s : Shared) (σ : St) (H : Hp) (Q : Option Int → Hp → Prop), Inv X pins σ H s → t σ H Q →
    wpAny (model X.prog X.w) X.A (evalPart e X.env) (fun u s' => ∃ o H', Inv X pins σ H' s' ∧ IsPart u o ∧ Q o H') X.xe s
def tNoPart : TO := fun _ H Q => Q none H
def tPart (t : TE) : TO := fun σ H Q => t σ H fun x H1 => ∃ i, x = .int i ∧ Q (some i) H1

theorem intsAre_of {ns : List Int} : ∀ {us : List Value}, Vals (ns.map V.int) us → IntsAre us ns := by
  induction ns with
  | nil => intro us r; rw [List.map_nil] at r; cases r; exact .nil
  | cons n ns ih =>
    intro us r
    rw [List.map_cons] at r
    cases r with
    | cons r1 r2 =>
      obtain ⟨t, e⟩ := r1
      subst e
      exact .cons n t (ih r2)

section
variable {X : Cx} {e : Expr} {te : TE} {lo hi : Option Expr} {tl th : TO} {pos p2 : Pos}

theorem po_none : PO X none tNoPart := by
  intro pins s σ H Q I h
  rw [evalPart_none]
  exact wpAny_pure ⟨none, H, I, .none, h⟩
theorem po_some (h : PE X e te) : PO X (some e) (tPart te) := by
  intro pins s σ H Q I hw
  rw [evalPart_some]
  refine thn (h pins s σ H _ I hw) fun u s1 ⟨x, H1, I1, r1, q1⟩ => ?_
  obtain ⟨i, rfl, q⟩ := q1
  obtain ⟨t, rfl⟩ := r1
  exact ⟨some i, H1, I1, .int i t, q⟩

def SlR (X : Cx) (r : V → Option Int → Option Int → Hp → VK → Prop) : Prop :=
  ∀ (pins : List (Addr × Obj)) (s : Shared) (σ : St) (H : Hp) (x : V) (v vl vu : Value) (lo hi : Option Int) (sl : Addr) (Q : VK), Inv X pins σ H s → RelV x v → s.heap.IsSliceOf sl vl vu .none → IsPart vl lo → IsPart vu hi → r x lo hi H Q →
    ∃ T id, typeLookup (.type T) "__getitem__" = pure (some (.builtin id)) ∧ s.TypeIs v T ∧ wpAny (model X.prog X.w) X.A (getItem v (.ref sl)) (EP X pins σ Q) X.xe s
def tSl (r : V → Option Int → Option Int → Hp → VK → Prop) (te : TE) (tl th : TO) : TE := fun σ H Q => te σ H fun x H1 => tl σ H1 fun l H2 => th σ H2 fun u H3 => r x l u H3 Q
theorem pe_slice {r : V → Option Int → Option Int → Hp → VK → Prop} (hr : SlR X r) (he : PE X e te) (hl : PO X lo tl) (hu : PO X hi th) : PE X (.Subscript e (.Slice lo hi none p2) pos) (tSl r te tl th) := by
  intro pins s σ H Q I h
  refine Subscript_ (thn (he pins s σ H _ I h) fun v s1 ⟨x, H1, I1, r1, q1⟩ => ?_)
  refine wpAny_Slice (thn (hl pins s1 σ H1 _ I1 q1) fun vl s2 ⟨l, H2, I2, pl, q2⟩ => thn (hu pins s2 σ H2 _ I2 q2) fun vu s3 ⟨u, H3, I3, pu, q3⟩ => ?_)
  rw [evalPart_none]
  refine wpAny_pure ?_
  have I4 : Inv X pins σ H3 { s3 with heap := s3.heap.push { cls := .type "slice", data := .fields #[vl, vu, .none] } } := I3.kept (t' := s3.toks) fun b ob q => Heap.get?_push_of_some _ q
  obtain ⟨T, id, hT, ht, hg⟩ := hr pins { s3 with heap := s3.heap.push { cls := .type "slice", data := .fields #[vl, vu, .none] } } σ H3 x v vl vu l u s3.heap.objs.size Q I4 r1 (Heap.IsSliceOf.new ..) pl pu q3
  show wpAny (model X.prog X.w) X.A (subscriptTail e (.Slice lo hi none p2) v (.ref s3.heap.objs.size)) (EP X pins σ Q) X.xe { s3 with heap := s3.heap.push { cls := .type "slice", data := .fields #[vl, vu, .none] } }
  exact tail_any (ops := [.ref s3.heap.objs.size, v]) ht hT hg (by with_unfolding_all rfl)

def cutV (xs : List V) (lo hi : Option Int) : List V := (xs.drop (HT.sIx xs.length 0 lo)).take (HT.sIx xs.length xs.length hi - HT.sIx xs.length 0 lo)
theorem cutV_length (xs : List V) (lo hi : Option Int) : (cutV xs lo hi).length ≤ xs.length := by
  unfold cutV
  rw [List.length_take, List.length_drop]
  omega
def rSlT (K : PySem.W.Frag) : V → Option Int → Option Int → Hp → VK → Prop := fun x lo hi H Q => ∃ a xs, x = .ref a ∧ SqT K H a xs ∧
  ¬ (HT.sIx xs.length 0 lo = 0 ∧ HT.sIx xs.length xs.length hi = xs.length) ∧ ∀ p, H p = none → Q (.ref p) (upd H p (.tup (cutV xs lo hi)))
theorem sl_tup : SlR X (rSlT X.K) := by
  intro pins s σ H x v vl vu lo hi sl Q I rx hs pl pu h
  obtain ⟨a, xs, rfl, hx, hw, q⟩ := h
  cases rx
  obtain ⟨its, r, ht, hz⟩ := I.tuple hx
  have hlen : its.toArray.size = xs.length := by rw [List.size_toArray]; exact r.length.symm
  refine ⟨"tuple", _, PyProof.Rows.slot_tuple_getitem.lookup, ht.typeIs, ?_⟩
  refine HT.getItem_tuple_cut ht hs pl pu (by rw [hlen]; exact hw) ?_ (by rw [hlen]; exact hz)
  rw [hlen]
  refine ⟨.ref s.heap.objs.size, _, I.laid (t' := s.toks) (o := .tup (cutV xs lo hi)) (fun b ob q => Heap.get?_push_of_some _ q) (Nat.le_refl _) ?_, rfl, q _ (I.hok.fresh (Nat.le_refl _))⟩
  exact ⟨Nat.le_trans (cutV_length xs lo hi) hz, _, (r.drop (HT.sIx xs.length 0 lo)).take (HT.sIx xs.length xs.length hi - HT.sIx xs.length 0 lo), IsTup.new _ _⟩

def rCatT (K : PySem.W.Frag) : R2 := fun x y H Q => ∃ a b xs ys, x = .ref a ∧ y = .ref b ∧ SqT K H a xs ∧ SqT K H b ys ∧ xs ≠ [] ∧ xs.length + ys.length ≤ sizeLine ∧
  (ys = [] → Q (.ref a) H) ∧ (ys ≠ [] → ∀ p, H p = none → Q (.ref p) (upd H p (.tup (xs ++ ys))))
theorem Vals.nil_iff {xs : List V} {us : List Value} (r : Vals xs us) : us = [] ↔ xs = [] := by
  cases r with
  | nil => simp
  | cons _ _ => simp
theorem op_catT : OpR X (binaryOp .Add) (rCatT X.K) := by
  intro pins s σ H x y v u Q I rx ry h
  obtain ⟨a, b, xs, ys, rfl, rfl, ha, hb, hx, hz, q1, q2⟩ := h
  cases rx
  cases ry
  obtain ⟨its, r1, p1, _⟩ := I.tuple ha
  obtain ⟨its2, r2, p2, _⟩ := I.tuple hb
  refine HT.cat_tup p1 p2 (fun z => hx (r1.nil_iff.mp z)) (fun z => ⟨.ref a, H, I, rfl, q1 (r2.nil_iff.mp z)⟩) (fun z => ?_) (by rw [← r1.length, ← r2.length]; exact hz)
  refine ⟨.ref s.heap.objs.size, _, I.laid (t' := s.toks) (o := .tup (xs ++ ys)) (fun b ob q => Heap.get?_push_of_some _ q) (Nat.le_refl _) ?_, rfl, q2 (fun w => z (r2.nil_iff.mpr w)) _ (I.hok.fresh (Nat.le_refl _))⟩
  exact ⟨by rw [List.length_append]; exact hz, _, r1.append r2, IsTup.new _ _⟩
end
end L2

namespace L2
open PySem PySem.Spec PyProof.Rows

def ixN (n : Nat) (i : Int) : Option Nat := if 0 ≤ i then (if i < n then some i.toNat else none) else if -(n : Int) ≤ i then some (i + n).toNat else none
def atI {α : Type} (xs : List α) (i : Int) : Option α := (ixN xs.length i).bind fun j => xs[j]?
theorem ixN_seq {n : Nat} {i : Int} {j : Nat} (h : ixN n i = some j) : seqIndex? i n = some j ∧ j < n ∧ -(n : Int) ≤ i ∧ i < n := by
  unfold ixN at h
  by_cases h0 : 0 ≤ i
  · rw [if_pos h0] at h
    by_cases h1 : i < n
    · rw [if_pos h1] at h
      have e : i.toNat = j := Option.some.inj h
      exact ⟨by rw [seqIndex_of h0 h1, e], by omega, by omega, h1⟩
    · rw [if_neg h1] at h; cases h
  · rw [if_neg h0] at h
    by_cases h1 : -(n : Int) ≤ i
    · rw [if_pos h1] at h
      have e : (i + n).toNat = j := Option.some.inj h
      exact ⟨by rw [seqIndex_neg (by omega) h1, e], by omega, h1, by omega⟩
    · rw [if_neg h1] at h; cases h
theorem atI_get {α : Type} {xs : List α} {i : Int} {v : α} (h : atI xs i = some v) : ∃ j, seqIndex? i xs.length = some j ∧ xs[j]? = some v ∧ j < xs.length ∧ -(xs.length : Int) ≤ i ∧ i < xs.length := by
  unfold atI at h
  cases e : ixN xs.length i with
  | none => rw [e] at h; cases h
  | some j =>
    rw [e] at h
    obtain ⟨h1, h2, h3, h4⟩ := ixN_seq e
    exact ⟨j, h1, h, h2, h3, h4⟩
theorem atI_nat {α : Type} {xs : List α} {j : Nat} {v : α} (h : xs[j]? = some v) : atI xs (j : Int) = some v := by
  have hj : j < xs.length := (List.getElem?_eq_some_iff.mp h).1
  have e : ixN xs.length (j : Int) = some j := by
    unfold ixN
    rw [if_pos (by omega), if_pos (by omega)]; simp
  unfold atI; rw [e]; exact h
def PlainIx (b : Expr) : Prop := ∀ o i, subscripted b false o i = operate [o, i] (getItem o i)
def IxR (X : Cx) (r : R2) : Prop :=
  ∀ (value slice : Expr) (pins : List (Addr × Obj)) (s : Shared) (σ : St) (H : Hp) (x y : V) (v u : Value) (Q : VK), Inv X pins σ H s → RelV x v → RelV y u → r x y H Q →
    subscripted slice false v u = operate [v, u] (getItem v u) → wpAny (model X.prog X.w) X.A (subscriptTail value slice v u) (EP X pins σ Q) X.xe s
def MtR (X : Cx) (id : String) (r : V → List V → Hp → VK → Prop) : Prop :=
  ∀ (pins : List (Addr × Obj)) (s : Shared) (σ : St) (H : Hp) (x : V) (xs : List V) (v : Value) (us : List Value) (Q : VK), Inv X pins σ H s → RelV x v → Vals xs us → r x xs H Q →
    wpAny (model X.prog X.w) X.A (call (.builtin id) (v :: us)) (EP X pins σ Q) X.xe s
section
variable {X : Cx} {a b : Expr} {ta tb : TE} {pos : Pos}
theorem pe_ix {r : R2} (hr : IxR X r) (ha : PE X a ta) (hb : PE X b tb) (hs : PlainIx b) : PE X (.Subscript a b pos) (tOp r ta tb) := by
  intro pins s σ H Q I h
  exact Subscript_ (binT ha hb I h fun v u s2 x y H2 I2 rx ry q => hr a b pins s2 σ H2 x y v u Q I2 rx ry q (hs _ _))

def rIxL (K : PySem.W.Frag) : R2 := fun x y H Q => ∃ p xs i v, x = .ref p ∧ y = .int i ∧ SqL K H p xs ∧ atI xs i = some v ∧ Q v H
def rIxT (K : PySem.W.Frag) : R2 := fun x y H Q => ∃ p xs i v, x = .ref p ∧ y = .int i ∧ SqT K H p xs ∧ atI xs i = some v ∧ Q v H
theorem ix_list : IxR X (rIxL X.K) := by
  intro value slice pins s σ H x y v u Q I rx ry h hs
  obtain ⟨p, xs, i, z, rfl, rfl, hq, he, q⟩ := h
  cases rx
  obtain ⟨t, rfl⟩ := ry
  obtain ⟨its, r, pl, hz⟩ := I.list hq
  obtain ⟨j, h1, h2, h3, h4, h5⟩ := atI_get he
  obtain ⟨w, ew, rw'⟩ := r.get h2
  have hl := r.length
  have hn := line63
  have fin : EP X pins σ Q w s := ⟨z, H, I, rw', q⟩
  by_cases h0 : 0 ≤ i
  · have hj : i.toNat = j := by
      rw [seqIndex_of h0 h5] at h1
      exact Option.some.inj h1
    exact item_listR pl.isList h0 (by omega) (by rw [hj]; simpa using ew) fin hs
  · have hj : (i + (its.toArray.size : Int)).toNat = j := by
      rw [seqIndex_neg (by omega) h4] at h1
      rw [List.size_toArray, ← hl]
      exact Option.some.inj h1
    exact subscriptTail_builtinR (x := w) pl.isList.typeIs slot_list_getitem.lookup
      (wpAny_getItem_list_neg (Q := fun r s' => r = w ∧ EP X pins σ Q r s') pl.isList (by omega) (by rw [List.size_toArray] <;> omega) (by omega) (by rw [hj]; simpa using ew) ⟨rfl, fin⟩) hs
theorem ix_tup : IxR X (rIxT X.K) := by
  intro value slice pins s σ H x y v u Q I rx ry h hs
  obtain ⟨p, xs, i, z, rfl, rfl, hq, he, q⟩ := h
  cases rx
  obtain ⟨t, rfl⟩ := ry
  obtain ⟨its, r, pl, hz⟩ := I.tuple hq
  obtain ⟨j, h1, h2, h3, h4, h5⟩ := atI_get he
  obtain ⟨w, ew, rw'⟩ := r.get h2
  have hl := r.length
  have hn := line63
  have fin : EP X pins σ Q w s := ⟨z, H, I, rw', q⟩
  exact subscriptTail_builtinR (x := w) pl.typeIs slot_tuple_getitem.lookup
    (getItem_tuple (j := j) (Q := fun r s' => r = w ∧ EP X pins σ Q r s') pl (by omega) (by omega) (by rw [List.size_toArray, ← hl]; exact h1) (by simpa using ew) ⟨rfl, fin⟩) hs
theorem slice_bounds (lo hi : Option Int) (n : Nat) : (sliceBounds lo hi none n).1 = ((HT.sIx n 0 lo : Nat) : Int) ∧ (sliceBounds lo hi none n).2.1 = ((HT.sIx n n hi : Nat) : Int) ∧ (sliceBounds lo hi none n).2.2 = 1 := by
  refine ⟨?_, ?_, rfl⟩
  · cases lo with
    | none => simp [sliceBounds, HT.sIx]
    | some i =>
      simp only [sliceBounds, HT.sIx, Option.getD_none, show (1 : Int) > 0 by decide, if_true]
      by_cases h : i < 0
      · simp only [h, if_true] <;> omega
      · simp only [h, if_false] <;> omega
  · cases hi with
    | none => simp [sliceBounds, HT.sIx]
    | some i =>
      simp only [sliceBounds, HT.sIx, Option.getD_none, show (1 : Int) > 0 by decide, if_true]
      by_cases h : i < 0
      · simp only [h, if_true] <;> omega
      · simp only [h, if_false] <;> omega
theorem slicePick_cut (its : List Value) (lo hi : Option Int) : slicePick its.toArray lo hi none = ((its.drop (HT.sIx its.length 0 lo)).take (HT.sIx its.length its.length hi - HT.sIx its.length 0 lo)).toArray := by
  obtain ⟨h1, h2, h3⟩ := slice_bounds lo hi its.toArray.size
  unfold slicePick
  rw [h1, h2, h3]
  simp only [sliceRange_one, pick_run, List.size_toArray] <;> rfl
def rSlL (K : PySem.W.Frag) : V → Option Int → Option Int → Hp → VK → Prop := fun x lo hi H Q => ∃ a xs, x = .ref a ∧ SqL K H a xs ∧ ∀ p, H p = none → Q (.ref p) (upd H p (.lst (cutV xs lo hi)))
theorem sl_list : SlR X (rSlL X.K) := by
  intro pins s σ H x v vl vu lo hi sl Q I rx hs pl pu h
  obtain ⟨a, xs, rfl, hx, q⟩ := h
  cases rx
  obtain ⟨its, r, ht, hz⟩ := I.list hx
  have hlen := r.length
  refine ⟨"list", _, slot_list_getitem.lookup, ht.isList.typeIs, ?_⟩
  refine wpAny_getItem_list_slice ht.isList hs pl pu .none (by simp) ?_ (by rw [List.size_toArray] <;> omega)
  rw [slicePick_cut, ← hlen]
  refine ⟨.ref s.heap.objs.size, _, I.laid (t' := s.toks) (o := .lst (cutV xs lo hi)) (fun b ob q => Heap.get?_push_of_some _ q) (Nat.le_refl _) ?_, rfl, q _ (I.hok.fresh (Nat.le_refl _))⟩
  exact ⟨Nat.le_trans (cutV_length xs lo hi) hz, _, 0, (r.drop (HT.sIx xs.length 0 lo)).take (HT.sIx xs.length xs.length hi - HT.sIx xs.length 0 lo), Heap.get?_push_size _ rfl⟩

theorem call_len_seq : CallR X (.builtin "len") (fun xs H Q => ∃ p ys, xs = [.ref p] ∧ (SqL X.K H p ys ∨ SqT X.K H p ys) ∧ Q (.int ys.length) H) := by
  intro pins s σ H xs us Q I r h
  obtain ⟨p, ys, rfl, hq, q⟩ := h
  obtain ⟨u, rfl, rx⟩ := vals1 r
  cases rx
  have hn := line63
  rcases hq with hq | hq
  · obtain ⟨its, r', pl, hz⟩ := I.list hq
    have hlen := r'.length
    exact Calls.call_len_list pl.isList (by simp only [List.size_toArray] <;> omega) ⟨.int ys.length, H, I.tok _, ⟨s.toks + 1, by rw [List.size_toArray, hlen]⟩, q⟩
  · obtain ⟨its, r', pl, hz⟩ := I.tuple hq
    have hlen := r'.length
    exact len_tuple pl (by simp only [List.size_toArray] <;> omega) ⟨.int ys.length, H, I.tok _, ⟨s.toks + 1, by rw [List.size_toArray, hlen]⟩, q⟩
theorem call_list_of : CallR X (.type "list") (fun xs H Q => ∃ p ys, xs = [.ref p] ∧ (SqL X.K H p ys ∨ SqT X.K H p ys) ∧ ∀ l, H l = none → Q (.ref l) (upd H l (.lst ys))) := by
  intro pins s σ H xs us Q I r h
  obtain ⟨p, ys, rfl, hq, q⟩ := h
  obtain ⟨u, rfl, rx⟩ := vals1 r
  cases rx
  have fin : ∀ (its : List Value), Vals ys its → ys.length ≤ sizeLine → ∀ (h' : Heap) (c' : Nat), (∀ b o', s.heap.get? b = some o' → h'.get? b = some o') →
      h'.get? s.heap.objs.size = some { cls := .type "list", dict := none, data := .seq its.toArray c', slots := #[] } → EP X pins σ Q (.ref s.heap.objs.size) { s with heap := h' } := fun its r' hz h' c' kp e =>
    ⟨.ref s.heap.objs.size, _, I.laid (t' := s.toks) kp (Nat.le_refl _) (show ObjOk X.prog X.w _ h' _ (.lst ys) from ⟨hz, its, c', r', e⟩), rfl, q _ (I.hok.fresh (Nat.le_refl _))⟩
  rcases hq with hq | hq
  · obtain ⟨its, r', pl, hz⟩ := I.list hq
    have hlen := r'.length
    obtain ⟨o, ho, hc, n, hd⟩ := pl.isList
    exact call_list_seq p (.inl rfl) ho hc hd (fun h' c' kp e => fin its r' hz h' c' kp e) (by simp only [List.size_toArray] <;> omega)
  · obtain ⟨its, r', pl, hz⟩ := I.tuple hq
    have hlen := r'.length
    obtain ⟨o, ho, hc, n, hd⟩ := pl
    exact call_list_seq p (.inr rfl) ho hc hd (fun h' c' kp e => fin its r' hz h' c' kp e) (by simp only [List.size_toArray] <;> omega)
theorem call_tuple_of : CallR X (.type "tuple") (fun xs H Q => ∃ p ys, xs = [.ref p] ∧ ((SqL X.K H p ys ∧ ∀ l, H l = none → Q (.ref l) (upd H l (.tup ys))) ∨ (SqT X.K H p ys ∧ Q (.ref p) H))) := by
  intro pins s σ H xs us Q I r h
  obtain ⟨p, ys, rfl, h⟩ := h
  obtain ⟨u, rfl, rx⟩ := vals1 r
  cases rx
  rcases h with ⟨hq, q⟩ | ⟨hq, q⟩
  · obtain ⟨its, r', pl, hz⟩ := I.list hq
    have hlen := r'.length
    refine call_tuple_list pl.isList (fun h' kp => ?_) (by simp only [List.size_toArray] <;> omega)
    have I1 : Inv X pins σ H { s with heap := h' } := I.kept (t' := s.toks) kp
    have I2 : Inv X pins σ (upd H h'.objs.size (.tup ys)) { s with heap := h'.push { cls := .type "tuple", data := .seq its.toArray } } :=
      I1.laid (t' := s.toks) (fun b o e => Heap.get?_push_of_some _ e) (Nat.le_refl _) (show ObjOk X.prog X.w _ _ _ (.tup ys) from ⟨hz, its, r', IsTup.new _ _⟩)
    exact ⟨.ref h'.objs.size, _, I2, rfl, q _ (I1.hok.fresh (Nat.le_refl _))⟩
  · obtain ⟨its, r', pl, hz⟩ := I.tuple hq
    exact call_tuple_same pl ⟨.ref p, H, I, rfl, q⟩

def tyV (K : PySem.W.Frag) (T : String) (x : V) (H : Hp) : Prop := match x with
  | .str _ => T = "str"
  | .int _ => T = "int"
  | .ref p => (T = "list" ∧ ∃ xs, SqL K H p xs) ∨ (T = "tuple" ∧ ∃ o, K.lookup p = some o ∧ o.cls = .type "tuple" ∧ o.dict = none) ∨
      (T = "dict" ∧ ((∃ kvs, H p = some (.dK kvs)) ∨ ∃ kvs, H p = some (.dT kvs))) ∨ (T = "set" ∧ ∃ S n, H p = some (.set S n))
  | _ => False
theorem tyV_is {pins : List (Addr × Obj)} {σ : St} {H : Hp} {s : Shared} {T : String} {x : V} {v : Value} (I : Inv X pins σ H s) (r : RelV x v) (ty : tyV X.K T x H) :
    s.TypeIs v T ∧ ∀ a, v = .ref a → ∃ ob, s.heap.get? a = some ob ∧ ob.dict = none := by
  cases x with
  | str z =>
    obtain ⟨t, rfl⟩ := r
    cases (show T = "str" from ty)
    exact ⟨typeIs_str s z t, fun _ e => nomatch e⟩
  | int i =>
    obtain ⟨t, rfl⟩ := r
    cases (show T = "int" from ty)
    exact ⟨typeIs_int s i t, fun _ e => nomatch e⟩
  | ref p =>
    cases r
    rcases ty with ⟨rfl, xs, hq⟩ | ⟨rfl, o, hk, hc, hd⟩ | ⟨rfl, hk⟩ | ⟨rfl, S, n, hk⟩
    · obtain ⟨its, _, pl, _⟩ := I.list hq
      refine ⟨pl.isList.typeIs, fun a e => ?_⟩
      cases e
      obtain ⟨o, n, e, c, hd, _⟩ := pl
      exact ⟨o, e, hd⟩
    · refine ⟨⟨o, I.kIn p o hk, hc⟩, fun a e => ?_⟩
      cases e
      exact ⟨o, I.kIn _ o hk, hd⟩
    · have z : ∃ o, s.heap.get? p = some o ∧ o.ExactDict := by
        rcases hk with ⟨kvs, hk⟩ | ⟨kvs, hk⟩
        · obtain ⟨_, _, _, _, o, _, _, e, ex, _⟩ := I.hok p _ hk
          exact ⟨o, e, ex⟩
        · obtain ⟨_, _, _, _, o, _, _, e, ex, _⟩ := I.hok p _ hk
          exact ⟨o, e, ex⟩
      obtain ⟨o, e, ex⟩ := z
      refine ⟨⟨o, e, ex.1⟩, fun a e2 => ?_⟩
      cases e2
      exact ⟨o, e, ex.2.1⟩
    · obtain ⟨o, _, _, _, e, ex, _⟩ := I.hok p _ hk
      refine ⟨⟨o, e, ex.1⟩, fun a e2 => ?_⟩
      cases e2
      exact ⟨o, e, ex.2.1⟩
  | _ => exact False.elim ty
def tBM (K : PySem.W.Frag) (T : String) (r : V → List V → Hp → VK → Prop) (to : TE) (t : TA) : TE := fun σ H Q => to σ H fun x H1 => tyV K T x H1 ∧ t σ H1 fun xs H2 => r x xs H2 Q
variable {o e : Expr} {es : List Expr} {to : TE} {t : TA} {name : Str} {apos cpos : Pos} {T id : String} {r : V → List V → Hp → VK → Prop}
theorem pe_bm (pa : PlainAttrs T) (slot : Slot T name id) (hty : typeOf (.builtin id) = pure (.type "method_descriptor")) (hm : MtR X id r) (ho : PE X o to) (ha : PA X (e :: es) t)
    (hbase : attributeBase o name X.env (eval o X.env) = eval o X.env := by rfl)
    (hfew : ((backTo cpos (starEach (e :: es) X.env)).all (fun x => !x.1) && (backToKw cpos (keywordEach [] X.env)).all (fun x => x.1.isSome)
      && decide ((e :: es).length + ([] : List Keyword).length + (if ([] : List Keyword).isEmpty then 0 else 1) < 30)) = true := by rfl)
    (hline : (apos.endLine == cpos.line) = true := by rfl) (hs : starEach (e :: es) X.env = (false, eval e X.env) :: starEach es X.env := by rfl) (hplain : (backTo cpos (starEach es X.env)).any (·.1) = false := by rfl) :
    PE X (.Call (.Attribute o name apos) (e :: es) [] cpos) (tBM X.K T r to t) := by
  intro pins s σ H Q I h
  refine wpAny_Call_method_late hbase hfew hline rfl (thn (ho pins s σ H _ I h) fun v s1 ⟨x, H1, I1, r1, ty, q1⟩ => ?_)
  obtain ⟨h1, h2⟩ := tyV_is I1 r1 ty
  refine ⟨T, id, pa, slot, hty, h1, h2, ?_⟩
  have hA := ha cpos pins s1 σ H1 _ I1 q1
  rw [hs] at hA ⊢
  refine Calls.callWith_builtin (by show (false || (backTo cpos (starEach es X.env)).any (·.1)) = false; rw [hplain] <;> rfl) (Calls.evalArgs_plain ?_)
  exact thn hA fun us s2 ⟨vs, H2, I2, r2, q2⟩ => hm pins s2 σ H2 x vs v us Q I2 r1 r2 q2
/- xs.append(e), list.index on a module's tuple .. are MtR facts of 06m -/
end
end L2

namespace L2
open PySem PySem.Spec PyProof.Rows

def MtM (X : Cx) (id : String) (r : V → List V → Hp → VK → Prop) : Prop :=
  ∀ (pins : List (Addr × Obj)) (s : Shared) (σ : St) (H : Hp) (x : V) (xs : List V) (v : Value) (us : List Value) (Q : VK), Inv X pins σ H s → RelV x v → Vals xs us → r x xs H Q →
    wpAny (model X.prog X.w) X.A (call (.builtin id) (v :: us)) (EP X pins σ Q) X.xe s

theorem Vals.one : ∀ {x : V} {us : List Value}, Vals [x] us → ∃ u, us = [u] ∧ RelV x u
  | _, _, .cons r .nil => ⟨_, rfl, r⟩
theorem Vals.two : ∀ {x y : V} {us : List Value}, Vals [x, y] us → ∃ u v, us = [u, v] ∧ RelV x u ∧ RelV y v
  | _, _, _, .cons r (.cons q .nil) => ⟨_, _, rfl, r, q⟩
section
variable {X : Cx} {pins : List (Addr × Obj)} {σ : St} {H : Hp} {s : Shared} {l b : Addr} {xs ys zs : List V}

theorem Inv.lset {its its' : List Value} {n : Nat} {f : Array Value → Array Value} {t' : Nat} (I : Inv X pins σ H s) (hH : H l = some (.lst xs))
    (e : s.heap.get? l = some { cls := .type "list", data := .seq its.toArray n }) (hf : f its.toArray = its'.toArray) (hv : Vals ys its') (hz : ys.length ≤ sizeLine) :
    Inv X pins σ (upd H l (.lst ys)) { s with heap := s.heap.update l (Obj.mapSeq f), toks := t' } := by
  have q := PySem.IsL.update e f
  rw [hf] at q
  refine I.write (x := l) (e := l) (by rw [hH]; exact trivial) (.inl rfl) (fun b' u hb hu => (Heap.get?_update_other s.heap (Obj.mapSeq f) (Ne.symm hb)).trans hu) ⟨_, q⟩ ?_
  exact ⟨hz, its', _, hv, q⟩
theorem Inv.lnew {its : List Value} {t' : Nat} (I : Inv X pins σ H s) (hv : Vals ys its) (hz : ys.length ≤ sizeLine) :
    Inv X pins σ (upd H s.heap.objs.size (.lst ys)) { s with heap := s.heap.push { cls := .type "list", data := .seq its.toArray }, toks := t' } :=
  I.laid (fun _ _ q => Heap.get?_push_of_some _ q) (Nat.le_refl _) ⟨hz, its, 0, hv, Heap.get?_push_size _ rfl⟩
theorem Inv.fresh (I : Inv X pins σ H s) : H s.heap.objs.size = none := I.hok.fresh (Nat.le_refl _)
theorem Inv.lstM (I : Inv X pins σ H s) (hH : H l = some (.lst xs)) : xs.length ≤ sizeLine ∧ ∃ (its : List Value) (n : Nat), Vals xs its ∧ xs.length = its.length ∧ s.heap.get? l = some { cls := .type "list", data := .seq its.toArray n } := by
  obtain ⟨z, its, n, r, e⟩ := I.hok l _ hH
  exact ⟨z, its, n, r, r.length, e⟩

theorem notLongL {n : Nat} (h : n ≤ sizeLine) : Builtin.List.listTooLong n = false := by
  unfold Builtin.List.listTooLong
  exact decide_eq_false (by omega)
end

section
variable {X : Cx}

def rAppend : V → List V → Hp → VK → Prop := fun x vs H Q => ∃ l xs y, x = .ref l ∧ vs = [y] ∧ H l = some (.lst xs) ∧ xs.length < sizeLine ∧ Q .non (upd H l (.lst (xs ++ [y])))
theorem mt_append : MtM X "list.append" rAppend := by
  intro pins s σ H x vs v us Q I rx rv h
  obtain ⟨l, xs, y, rfl, rfl, hH, hz, q⟩ := h
  cases rx
  obtain ⟨u, rfl, ru⟩ := rv.one
  obtain ⟨z, its, n, r, hl, e⟩ := I.lstM hH
  refine call_meets F.slot_list_append ⟨_, e, rfl⟩ F.entry_list_append (F.args_list_append_2 _ _) (PySem.list_append l its.toArray n u (by rw [List.size_toArray]; omega)) ⟨e, ?_⟩
  refine ⟨.non, _, I.lset (its' := its ++ [u]) hH e (by simp) (r.append (.cons ru .nil)) ?_, rfl, q⟩
  rw [List.length_append, List.length_singleton]
  omega

def rExtend : V → List V → Hp → VK → Prop := fun x vs H Q => ∃ l b xs zs, x = .ref l ∧ vs = [.ref b] ∧ H l = some (.lst xs) ∧ H b = some (.lst zs) ∧ xs.length + zs.length ≤ sizeLine ∧ Q .non (upd H l (.lst (xs ++ zs)))
theorem mt_extend : MtM X "list.extend" rExtend := by
  intro pins s σ H x vs v us Q I rx rv h
  obtain ⟨l, b, xs, zs, rfl, rfl, hH, hB, hz, q⟩ := h
  cases rx
  obtain ⟨u, rfl, ru⟩ := rv.one
  cases ru
  obtain ⟨z, its, n, r, hl, e⟩ := I.lstM hH
  obtain ⟨z2, its2, n2, r2, hl2, e2⟩ := I.lstM hB
  have hsz : its.toArray.size + its2.toArray.size ≤ sizeLine := by rw [List.size_toArray, List.size_toArray]; omega
  have hlong : ¬ (!its.toArray.isEmpty && Builtin.List.listTooLong (its.toArray.size + its2.toArray.size)) = true := by
    rw [notLongL hsz, Bool.and_false]
    exact Bool.false_ne_true
  refine call_meets F.slot_list_extend ⟨_, e, rfl⟩ F.entry_list_extend (F.args_list_extend_2 _ _)
    (AutoSeq1.list_extend_list_list_0 l its.toArray n b its2.toArray n2 hlong (by rw [List.size_toArray]; omega) (by omega)) ⟨e, e2, ?_⟩
  refine ⟨.non, _, I.lset (its' := its ++ its2) hH e (by simp) (r.append r2) ?_, rfl, q⟩
  rw [List.length_append]
  omega

def rCat : R2 := fun x y H Q => ∃ l b xs zs, x = .ref l ∧ y = .ref b ∧ H l = some (.lst xs) ∧ H b = some (.lst zs) ∧ xs.length + zs.length ≤ sizeLine ∧ ∀ p, H p = none → Q (.ref p) (upd H p (.lst (xs ++ zs)))
theorem op_cat : OpR X (binaryOp .Add) rCat := by
  intro pins s σ H x y v u Q I rx ry h
  obtain ⟨l, b, xs, zs, rfl, rfl, hH, hB, hz, q⟩ := h
  cases rx
  cases ry
  obtain ⟨z, its, n, r, hl, e⟩ := I.lstM hH
  obtain ⟨z2, its2, n2, r2, hl2, e2⟩ := I.lstM hB
  refine PySem.P.add_list e e2 ?_ (by rw [List.size_toArray, List.size_toArray]; omega)
  have ea : its.toArray ++ its2.toArray = (its ++ its2).toArray := by simp
  rw [ea]
  exact ⟨.ref _, _, I.lnew (t' := s.toks) (r.append r2) (by rw [List.length_append]; omega), rfl, q _ I.fresh⟩
end


end L2

namespace Att
open PySem PySem.W PySem.Calls PyProof.Rows

theorem ints_of_wellAll {P : Params} {h : Heap} : ∀ (ns : List Int) (vs : List Value), WellAll P h vs (ns.map WData.int) → IntsAre vs ns := by
  intro ns
  induction ns with
  | nil =>
    intro vs w
    rw [List.map_nil] at w
    cases w
    exact .nil
  | cons n ns ih =>
    intro vs w
    rw [List.map_cons] at w
    cases w with
    | cons a b =>
      cases a
      exact .cons _ _ (ih _ b)

theorem script_of {l : OpenLaw} {n : Nat} (hn : l.most = some n) {P : Params} {h : Heap} {args : List WData} {vals : List Value}
    (hpre : l.row.toRowW.claim.pre args = true) (hwl : WellAll P h vals args) :
    ∃ a vs ns, vals = [Value.ref a] ∧ args = [WData.list (ns.map WData.int)] ∧ h.get? a = some { cls := .type "list", data := .seq vs.toArray } ∧ IntsAre vs ns ∧ ns.length ≤ n := by
  have hsh : WShape.hasAll [] args [.list .int] = true := (pre_splitW hpre).1
  have hc : l.pre.holds [] { args := args } = true := (pre_splitW hpre).2
  obtain ⟨d, r, rfl, h1, h2⟩ := hasAllW_cons hsh
  obtain rfl := hasAllW_nil h2
  obtain ⟨xs, rfl, h3⟩ := hasW_list h1
  obtain ⟨ns, rfl⟩ := items_int h3
  have hlen : ns.length ≤ n := by
    unfold OpenLaw.pre at hc
    have h4 : (WTm.not (.lt (.lit (.int (n : Int))) (.len (.arg 0)))).holds [] { args := [.list (ns.map .int)] } = true := by
      have h4 := (holds_andW hc).1
      rw [hn] at h4
      exact h4
    have h5 := condW_of h4 (w_not (w_lt w_lit (w_len_list (w_arg rfl))))
    rw [List.length_map] at h5
    refine Nat.le_of_not_lt fun q => ?_
    have q' : (n : Int) < ((ns.length : Nat) : Int) := by omega
    first
      | (rw [decide_eq_true q'] at h5; exact absurd h5 (by decide))
      | (simp at h5; omega)
  cases hwl with
  | cons w1 w2 =>
    cases w2
    cases w1 with
    | list ho hall => exact ⟨_, _, ns, rfl, rfl, ho, ints_of_wellAll ns _ hall, hlen⟩

theorem post_true (l : OpenLaw) (args : List WData) : l.row.toRowW.claim.post args (.bool true) args = true :=
  postW_of (r := l.row.toRowW) (X := (true == true))
    (show WShape.has [] (.bool true) .bool = true by first | rfl | decide | simp [WShape.has, WShape.arms, WShape.armsAll])
    (show (WTm.eq .res (.lit (.bool true))).value [] { args := args, res := some (.bool true), after := args } = some (.bool (true == true)) from w_eq_bool (w_res rfl) w_lit) rfl

theorem attach_call {l : OpenLaw} {n : Nat} {q : Program} {loose : List Str} {XP : (Str → Option Value) → Heap → Prop} {YP : World → Heap → Prop} {d : DefRec}
    (hn : l.most = some n) (hdf : d.params.defaults = [])
    (call : ∀ (w : World) (s₀ s₁ : Shared) (mg mb : Str → Option Value) (fa : Addr) (o : Obj) (pm cd doc : Value) (a : Addr) (vs : List Value) (ns : List Int),
      Ground q loose [] XP w s₀ mg mb s₁.heap → YP w s₁.heap →
      s₁.heap.get? fa = some o → o.data = .func (docDef d.name d.params d.body d.scope pm cd doc) → s₁.heap.CodeRec cd d.name → mg d.name = some (.ref fa) →
      s₁.heap.get? a = some { cls := .type "list", data := .seq vs.toArray } → IntsAre vs ns → ns.length ≤ n → s₁.gens = #[] →
      codeAny (model l.prog w) callerA (.call (.ref fa) ⟨[.ref a], []⟩) (fun r s' => r = .ok (.ret (.bool true)) ∧ OldK s₁.heap s'.heap ∧ s'.os = s₁.os ∧ AllBare s'.gens) s₁) :
    WalkO q loose XP YP l.row.toRowW d [] (fun f vs => PySem.call f vs) := by
  intro w s₀ s₁ mg mb G Y fa o pm cd doc dV kV ho hd hcd hD hmg hg args vals as hpre hlay hrd hwl hlo
  obtain rfl : dV = .none := Dflts.none hD hdf
  obtain rfl : kV = .none := Dflts.noKw hD
  obtain ⟨a, vs, ns, rfl, rfl, hobj, hints, hlen⟩ := script_of hn hpre hwl
  refine enter_call (codeAny_mono (call w s₀ s₁ mg mb fa o pm cd doc a vs ns G Y ho (fd_plain hd) hcd hmg hobj hints hlen hg) fun r s' hq => ?_)
  obtain ⟨rfl, h2, h3, h4⟩ := hq
  exact ⟨.inl ⟨.bool true, .bool true, [], rfl, fun _ => rfl, .bool true, post_true l _, fun _ => ⟨List.Pairwise.nil, fun _ hm => (nomatch hm)⟩⟩, h2, h3, h4⟩

end Att

namespace L2
open PySem PySem.Spec PyProof.Rows

theorem vals_ints : ∀ {vs : List Value} {ns : List Int}, IntsAre vs ns → Vals (ns.map V.int) vs
  | _, _, .nil => .nil
  | _, _, .cons n t h => .cons ⟨t, rfl⟩ (vals_ints h)

def Only (H : Hp) : Prop := ∀ b, H b = none ∨ ∃ o xs, H b = some (.frz o (.lst xs))

theorem law_call {P : Program} {w : World} {K : PySem.W.Frag} {mg mb : Str → Option Value} {CX : CXT} {k : Nat} {fa a : Addr} {fd : FuncData} {x : Str} {sp : Sp} {s₁ : Shared} {vs : List Value} {ns : List Int}
    (KX : K.In s₁.heap) (hns : s₁.heap.Ns mainGlobals mg) (hb : s₁.heap.Ns builtinsNs mb) (hbb : ∀ x : Str, x ≠ "__name__" → mb x = bootBuiltins x) (hlim : s₁.heap.NoLimit) (hg : s₁.gens = #[])
    (ha : s₁.heap.get? a = some { cls := .type "list", data := .seq vs.toArray }) (hi : IntsAre vs ns) (hl : ns.length ≤ sizeLine) (hr : Room k callerA)
    (F : ∀ base : Heap, K.In base → base.Ns mainGlobals mg → FnOk P w K mg base CX k fa fd [x] sp) (hbind : ∀ (s : Shared) (u : Value), BindsTo s fd ⟨[u], []⟩ [(x, u)])
    (hsp : ∀ H : Hp, Only H → SqL K H a (ns.map V.int) → sp [.ref a] H (fun v _ => v = .bl true) fun _ _ _ => False)
    (hCX : ∀ H e s', CX [] H s₁ (fun _ _ _ => False) e s' → False) :
    codeAny (model P w) callerA (.call (.ref fa) ⟨[.ref a], []⟩) (fun r s' => r = .ok (.ret (.bool true)) ∧ OldK s₁.heap s'.heap ∧ s'.os = s₁.os ∧ AllBare s'.gens) s₁ := by
  have rv := vals_ints hi
  have lenV := hi.length
  have core : ∀ H : Hp, Only H → SqL K H a (ns.map V.int) → HOk P w H s₁.heap → (∀ b, H b ≠ none → b = a) → (H a ≠ none → K.lookup a = none) →
      codeAny (model P w) callerA (.call (.ref fa) ⟨[.ref a], []⟩) (fun r s' => r = .ok (.ret (.bool true)) ∧ OldK s₁.heap s'.heap ∧ s'.os = s₁.os ∧ AllBare s'.gens) s₁ := by
    intro H hO hS hok hA hK
    have base_of : ∀ {b : Addr} {o : Obj}, s₁.heap.get? b = some o → H b = none → (hidT s₁.heap H).get? b = some o := fun e n => hidT_get e n
    have noA : ∀ {b : Addr} {o : Obj} {es : Array DictEntry} {ep : Nat}, s₁.heap.get? b = some o → o.data = .dict es ep → H b = none := fun {b o es ep} e d => by
      cases q : H b with
      | none => rfl
      | some u =>
        have e' : b = a := hA b (by rw [q]; simp)
        subst e'
        rw [ha] at e; cases e
        have d' : Data.seq vs.toArray _ = Data.dict es ep := d
        cases d'
    have nsK : ∀ {b : Addr} {m : Str → Option Value}, s₁.heap.Ns b m → (hidT s₁.heap H).Ns b m := fun {b m} ⟨o, es, ep, e, d, r⟩ => ⟨o, es, ep, base_of e (noA e d), d, r⟩
    have hKb : K.In (hidT s₁.heap H) := fun b o e => base_of (KX b o e) (by
      cases q : H b with
      | none => rfl
      | some u =>
        have e' : b = a := hA b (by rw [q]; simp)
        subst e'
        rw [hK (by rw [q]; simp)] at e; cases e)
    have hM : Mod K mg (hidT s₁.heap H) := ⟨hKb, nsK hns, ⟨mb, nsK hb, hbb⟩, let ⟨mc, h1, h2⟩ := hlim; ⟨mc, nsK h1, h2⟩⟩
    have e0 : Env0 P w K mg (hidT s₁.heap H) callerA [] s₁ H := ⟨rfl, hM, fun b o e => of_hidT e, Nat.le_of_eq (hidT_size _ _), trivial, fun b hb => absurd (show b ∈ ([] : List Addr) from hb) (by simp), hok, .of_eq hg⟩
    refine codeAny_mono ((F _ hKb (nsK hns)).run callerA [] s₁ H ⟨[.ref a], []⟩ [.ref a] [.ref a] _ _ hr e0 (hbind s₁ (.ref a)) (.cons rfl .nil) (hsp H hO hS)) fun r s' h => ?_
    cases r with
    | error e => exact (hCX H e s' h).elim
    | ok fl =>
      cases fl with
      | next => exact False.elim h
      | brk => exact False.elim h
      | cont => exact False.elim h
      | ret u =>
        obtain ⟨v, H', os, bare, un, hok', r', q⟩ := h
        have q' : v = .bl true := q
        subst q'
        obtain rfl : u = Value.bool true := r'
        refine ⟨rfl, OldK.of_keep fun b o e => ?_, os, bare⟩
        cases q : H b with
        | none => exact un.keep b o e q (by intro z; exact absurd (show b ∈ ([] : List Addr) from z) (by simp)) (by simp)
        | some u =>
          rcases hO b with z | ⟨ob, xs, z⟩
          · rw [q] at z; cases z
          · have z2 := un.frzs b ob _ z
            obtain ⟨e1, _⟩ := hok b _ z
            obtain ⟨e2, _⟩ := hok' b _ z2
            rw [e] at e1; cases e1
            exact e2
  cases hk : K.lookup a with
  | some o =>
    have e := KX a o hk
    rw [ha] at e
    cases e
    refine core (fun _ => none) (fun _ => .inl rfl) (.inr ⟨_, vs.toArray, _, hk, rfl, rfl, rfl, by rw [List.size_toArray, lenV]; exact hl, by simpa using rv⟩) (fun b u z => by have z' : (none : Option HO) = some u := z; cases z') (fun b z => absurd rfl z) fun z => absurd rfl z
  | none =>
    refine core (fun b => if b = a then some (.frz { cls := .type "list", data := .seq vs.toArray } (.lst (ns.map V.int))) else none) (fun b => ?_) (.inl (.inr ⟨{ cls := .type "list", data := .seq vs.toArray }, if_pos rfl⟩)) (fun b u z => ?_) (fun b z => ?_) fun _ => hk
    · by_cases hb : b = a
      · exact .inr ⟨_, _, if_pos hb⟩
      · exact .inl (if_neg hb)
    · by_cases hb : b = a
      · have z' := (if_pos hb).symm.trans z
        cases z'
        subst hb
        exact ⟨ha, by rw [List.length_map]; exact hl, vs, _, rv, ha⟩
      · have z' := (if_neg hb).symm.trans z
        cases z'
    · by_cases hb : b = a
      · exact hb
      · exact absurd (if_neg hb) z
end L2

namespace L2
open PySem PySem.Spec PyProof.Rows

theorem walk_of {l : PySem.W.OpenLaw} {n k : Nat} {q : Program} {loose : List Str} {XP : (Str → Option Value) → Heap → Prop} {YP : World → Heap → Prop} {d : DefRec} {K : Params → PySem.W.Frag} {CX : World → CXT} {sp : World → Sp} {x : Str}
    (hn : l.most = some n) (hn2 : n ≤ sizeLine) (hdf : d.params.defaults = []) (hr : Room k callerA)
    (hY : ∀ (w : World) (h : Heap), YP w h → (K w.params).In h)
    (F : ∀ (w : World) (mg : Str → Option Value) (fa : Addr) (h : Heap), (K w.params).In h → h.Ns mainGlobals mg → mg d.name = some (.ref fa) →
      ∃ fd : FuncData, (∀ (s : Shared) (u : Value), BindsTo s fd ⟨[u], []⟩ [(x, u)]) ∧
        ∀ base : Heap, (K w.params).In base → base.Ns mainGlobals mg → FnOk l.prog w (K w.params) mg base (CX w) k fa fd [x] (sp w))
    (hsp : ∀ (w : World) (H : Hp) (a : Addr) (ns : List Int), ns.length ≤ n → Only H → SqL (K w.params) H a (ns.map V.int) → sp w [.ref a] H (fun v _ => v = .bl true) fun _ _ _ => False)
    (hCX : ∀ (w : World) (H : Hp) (s : Shared) (e : Value) (s' : Shared), CX w [] H s (fun _ _ _ => False) e s' → False) :
    PySem.W.WalkO q loose XP YP l.row.toRowW d [] (fun f vs => PySem.call f vs) := by
  refine Att.attach_call hn hdf fun w s₀ s₁ mg mb fa o pm cd doc a vs ns G Y ho hd hcd hmg hobj hints hlen hg => ?_
  have KX := hY w _ Y
  obtain ⟨fd, hb, hF⟩ := F w mg fa _ KX G.T.g hmg
  exact law_call KX G.T.g G.T.b G.T.builtins G.T.nolimit hg hobj hints (Nat.le_trans hlen hn2) hr hF hb (fun H hO hS => hsp w H a ns hlen hO hS) fun H e s' => hCX w H s₁ e s'
end L2

/- THE LAST THEOREM (shape; LID, My.* are yours):
   My.Adr: a structure of the addresses that your layer names (classes, functions); My.Txt K t: a structure (Prop) of the equations over K;
   My.txt_mk : {K} {implicit addresses ..} (e1 : nsIn K mainGlobals "law" = some (some (.ref f))) (e2 : K.lookup f = some ⟨oc, od, .func (fnOf "law" "law" params body scope dV kV doc pm an cdv ct), sl⟩) (e3 : codeIn K cdv "law" = true) .. : ∃ t, My.Txt K t

set_option maxRecDepth 100000 in
set_option maxHeartbeats 0 in
theorem PySem.Challenge.cw_LID_holds : PySem.Challenge.rw_LID.Holds := by
  w_on; o_law; k_head; (case hw => w_witness2)
  k_fill
  refine L2.walk_of (l := PySem.Challenge.rw_LID) (n := 63) (k := 40) (x := "script") (CX := fun w => ..) (sp := fun _ => My.sp_law) rfl (by decide) rfl ⟨rfl, by decide, by decide⟩ (fun w h Y => PySem.W.kIn_of Y) ?F ?S ?C
  case F =>
    intro w mg fa h KX G hmg
    have T : ∃ t, My.Txt (L2.KOf KX) t := by
      dsimp only [L2.KOf]                          -- K must stand as «<heap const> w.params» for k_is
      refine' My.txt_mk ?e1 ?e2 ?e3 ..
      (case e1 => PySem.W.k_is)                    -- in the order: a name -> its address -> its object -> its parts
      (case e2 => PySem.W.k_is)
      ..
    obtain ⟨t, T⟩ := T
    have e0 := hmg.symm.trans (PySem.W.mg_of KX G T.law)
    cases e0                                       -- fa is the law's own address
    exact ⟨_, fun s u => .of_eq rfl, fun base kb nb => My.law_fn T kb nb⟩     -- if «.of_eq rfl» comes too early: refine' ⟨_, ?b, fun base kb nb => My.law_fn T kb nb⟩; exact fun s u => .of_eq rfl
  case S => exact fun w H a ns hl hO hS => ..
  case C => exact ..
(the tactic k_is has no namespace: write k_is) -/

namespace L2
open PySem PySem.Spec PyProof.Rows

def defArgs (s : Stmt) : Arguments := match s with
  | .FunctionDef _ a _ _ _ _ _ _ _ _ => a
  | _ => { posonlyargs := [], args := [], vararg := none, kwonlyargs := [], kw_defaults := [], kwarg := none, defaults := [] }
def defBody (s : Stmt) : List Stmt := match s with
  | .FunctionDef _ _ b _ _ _ _ _ _ _ => b
  | _ => []
def defScope (s : Stmt) : Scope := match s with
  | .FunctionDef _ _ _ _ _ _ sc _ _ _ => sc
  | _ => { kind := .function, names := [], isGenerator := false, isCoroutine := false }

abbrev CX0 : CXT := fun _ _ _ _ _ _ => False
abbrev E0 : XK := fun _ _ _ => False
theorem pass0 {X : Cx} : Passes CX0 X E0 := fun _ _ _ _ _ _ _ h => h.elim

structure Fun (K : PySem.W.Frag) (x qual : Str) (st : Stmt) (f : Addr) (fd : FuncData) : Prop where
  ex : ∃ (oc : Value) (od : Option Addr) (kV doc pm : Value) (an : Option Addr) (cdv ct : Value) (osl : Array (Option Value)),
    fd = PySem.W.fnOf x qual (defArgs st) (defBody st) (defScope st) .none kV doc pm an cdv ct ∧ K.lookup f = some ⟨oc, od, .func fd, osl⟩ ∧ PySem.W.codeIn K cdv qual = true
  kp : PySem.W.keepIn K (.ref f) = true
section
variable {P : Program} {w : World} {K : PySem.W.Frag} {mg : Str → Option Value} {base : Heap}
theorem Fun.ok {x qual : Str} {st : Stmt} {f : Addr} {fd : FuncData} {N ps : List Str} {k : Nat} {sp : Sp} (F : Fun K x qual st f fd) (S : FnScope N ps (defScope st)) (len : ∀ vs H Q E, sp vs H Q E → vs.length = ps.length)
    (hbody : ∀ (cdv : Value) (A : Around) (outer : List Env) (s : Shared) (H : Hp) (vs : List V) (Q : VK) (E : XK), Room k (A.deeper (envOfC qual (defScope st) s.heap.objs.size f cdv)) → sp vs H Q E →
      ∃ t, PSs (cxOf CX0 P w K mg base N qual (defScope st) f cdv A outer s H E).nox (defBody st) t ∧ t { nx := fun _ H' => Q .non H', rt := Q } (start N vs) H) : FnOk P w K mg base CX0 (k + 1) f fd ps sp := by
  obtain ⟨oc, od, kV, doc, pm, an, cdv, ct, osl, rfl, lk, hcd⟩ := F.ex
  refine fn_of lk hcd S len fun A outer s H vs Q E hr hsp => ?_
  obtain ⟨t, h, q⟩ := hbody cdv A outer s H vs Q E hr hsp
  exact ⟨t, h.nox, q⟩
theorem Fun.binds {x qual : Str} {st : Stmt} {f : Addr} {fd : FuncData} {ps : List Str} (F : Fun K x qual st f fd)
    (h : ∀ (kV doc pm : Value) (an : Option Addr) (cdv ct : Value) (us : List Value), us.length = ps.length → bindArgs (PySem.W.fnOf x qual (defArgs st) (defBody st) (defScope st) .none kV doc pm an cdv ct) ⟨us, []⟩ = pure (ps.zip us)) : Binds K fd ps [] := by
  obtain ⟨oc, od, kV, doc, pm, an, cdv, ct, osl, rfl, lk, hcd⟩ := F.ex
  exact .all (h kV doc pm an cdv ct)
theorem fun_mk {x qual : Str} {st : Stmt} {f : Addr} {oc : Value} {od an : Option Addr} {osl : Array (Option Value)} {kV doc pm cdv ct : Value} (l : K.lookup f = some ⟨oc, od, .func (PySem.W.fnOf x qual (defArgs st) (defBody st) (defScope st) .none kV doc pm an cdv ct), osl⟩)
    (c : PySem.W.codeIn K cdv qual = true) (k : PySem.W.keepIn K (.ref f) = true) : Fun K x qual st f (PySem.W.fnOf x qual (defArgs st) (defBody st) (defScope st) .none kV doc pm an cdv ct) := ⟨⟨oc, od, kV, doc, pm, an, cdv, ct, osl, rfl, l, c⟩, k⟩
end
theorem hu_of {A : Around} {k : Nat} (hr : Room k A) : A.units + 1 < cLine := Nat.lt_of_le_of_lt (Nat.add_le_add_left (by decide : 1 ≤ 64) _) hr.units
theorem small1000 {n : Nat} (h : n ≤ 1000) : n < sizeLine := Nat.lt_of_le_of_lt h (by decide)

section
variable {X : Cx}
theorem pv (i : Nat) {x : Str} {pos : Pos} (hN : X.N[i]? = some x := by rfl) (hv : Vis X.env.scope x := by first | exact Or.inl rfl | exact Or.inr (Or.inl rfl) | exact Or.inr (Or.inr rfl)) (hd : (x == ("__debug__" : Str)) = false := by decide)
    (hcd : (x == ("__classdict__" : Str)) = false := by decide) : PE X (.Name x pos) (tVar i) := pe_var hN hv hd hcd
end

theorem iteF {A B : Prop} (h : B) : if false = true then A else B := by
  rw [if_neg Bool.false_ne_true]
  exact h
theorem iteT {A B : Prop} (h : A) : if true = true then A else B := by
  rw [if_pos rfl]
  exact h
theorem ite2 {c A B : Prop} [Decidable c] (h1 : c → A) (h2 : ¬ c → B) : if c then A else B := by
  by_cases h : c
  · rw [if_pos h]
    exact h1 h
  · rw [if_neg h]
    exact h2 h
theorem iteNS {c A B : Prop} [Decidable c] (hc : c) (h : B) : if (!decide c) = true then A else B := by
  rw [decide_eq_true hc]
  exact iteF h

def Same (H H' : Hp) : Prop := ∀ b o, H b = some o → H' b = some o
theorem Same.refl (H : Hp) : Same H H := fun _ _ h => h
theorem Same.trans {H H1 H2 : Hp} (a : Same H H1) (b : Same H1 H2) : Same H H2 := fun c o h => b c o (a c o h)
theorem Same.free {H H' : Hp} (e : Same H H') {l : Addr} (h : H' l = Option.none) : H l = Option.none := by
  cases q : H l with
  | none => rfl
  | some o =>
    rw [e l o q] at h
    cases h
theorem Same.seq {K : PySem.W.Frag} {H H' : Hp} {a : Addr} {xs : List V} (e : Same H H') (h : SqL K H a xs) : SqL K H' a xs := by
  rcases h with (h | ⟨o, h⟩) | h
  · exact .inl (.inl (e _ _ h))
  · exact .inl (.inr ⟨o, e _ _ h⟩)
  · exact .inr h

end L2


namespace L2
open PySem PySem.Spec PyProof.Rows
section
variable {κ : Type} [DecidableEq κ]
theorem valV_in {kvs : List (κ × V)} {k : κ} {v : V} (h : valV kvs k = some v) : k ∈ kvs.map (·.1) := by
  have q : (kvs.any fun kv => decide (kv.1 = k)) = true := by
    rw [valV_any, h]
    all_goals rfl
  obtain ⟨p, hp, e⟩ := List.any_eq_true.mp q
  exact List.mem_map.mpr ⟨p, hp, of_decide_eq_true e⟩
end
end L2

namespace L2
open PySem PySem.Spec PyProof.Rows

theorem quietX {α : Type} {t : Sem α} {Q Q' : α → Shared → Prop} {M : Model} {A : Around} {E : Value → Shared → Prop} {s : Shared} (h : wpAny M A t Q (fun _ _ => False) s) (hQ : ∀ a s, Q a s → Q' a s) : wpAny M A t Q' E s :=
  wpAny_mono h hQ fun _ _ z => z.elim
theorem vals_of_get : ∀ {xs : List V} {us : List Value}, xs.length = us.length → (∀ (i : Nat) (x : V) (u : Value), xs[i]? = some x → us[i]? = some u → RelV x u) → Vals xs us
  | [], [], _, _ => .nil
  | [], _ :: _, h, _ => by simp at h
  | _ :: _, [], h, _ => by simp at h
  | x :: xs, u :: us, h, f => .cons (f 0 x u rfl rfl) (vals_of_get (by simpa using h) fun i y w e1 e2 => f (i + 1) y w (by simpa using e1) (by simpa using e2))

def cxComp (X : Cx) (scope : Scope) (cl : List (Str × Addr)) (NC : List Str) (fp : List Addr) (C : Addr) (s₀ : Shared) (H₀ : Hp) : Cx where
  prog := X.prog
  w := X.w
  K := X.K
  mg := X.mg
  base := X.base
  A := X.A
  N := NC
  s₀ := s₀
  H₀ := H₀
  env := compEnvC scope cl C X.env
  outer := X.stack
  stack := X.stack
  ex := fp
  fn := fun _ => false
  calm := X.calm
  pn := []
  xe := fun _ _ => False
structure CompOk (X : Cx) (scope : Scope) (cl : List (Str × Addr)) (NC : List Str) (ini : List (Option Nat)) : Prop where
  clos : closureFor scope X.env = pure cl
  cell : ∀ y ∈ scope.names, y.2 ≠ .cell
  kind : scope.kind = .function
  names : ∀ y ∈ scope.names, y.2 = .local → scope.names.lookup y.1 = some .local
  cls : ∀ x c, cl.lookup x = some c → X.env.cells.lookup x = some c
  has : ∀ x, ((relabel scope X.env).names.lookup x = some .cell ∨ (relabel scope X.env).names.lookup x = some .free) → ∃ c, cl.lookup x = some c
  len : ini.length = NC.length
  src : ∀ (i j : Nat) (x : Str), ini[i]? = some (some j) → NC[i]? = some x → X.N[j]? = some x ∧ (X.env.kindOf x = some .cell ∨ X.env.kindOf x = some .free) ∧
    ((relabel scope X.env).names.lookup x = some .cell ∨ (relabel scope X.env).names.lookup x = some .free)
def iniSt (ini : List (Option Nat)) (σ : St) : St := ini.map fun o => o.bind fun j => (σ[j]?).join
section
variable {X : Cx} {scope : Scope} {cl : List (Str × Addr)} {NC : List Str} {ini : List (Option Nat)} {pins : List (Addr × Obj)} {σ : St} {H : Hp} {s : Shared} {fp : List Addr}
theorem inv_comp {h₁ : Heap} {tk : Nat} {m : Str → Option Value} (O : CompOk X scope cl NC ini) (I : Inv X pins σ H s) (hf : ∀ b ∈ fp, FpOk X pins H b) (ho : ∀ b ∈ fp, ∃ o, s.heap.get? b = some o)
    (hn : h₁.Ns s.heap.objs.size m) (hk : ∀ b o, s.heap.get? b = some o → h₁.get? b = some o) :
    Inv (cxComp X scope cl NC fp s.heap.objs.size s H) [] (iniSt ini σ) H { s with heap := h₁, toks := tk } := by
  have lt : ∀ b ∈ fp, b < s.heap.objs.size := fun b hb => let ⟨o, e⟩ := ho b hb; Heap.lt_size e
  refine ⟨⟨I.ok.mod, O.kind, I.ok.glob, I.ok.blt, Nat.le_refl _, fun x y c h1 h2 => I.ok.inj x y c (O.cls x c h1) (O.cls y c h2), O.has, fun x c h => (Bool.false_ne_true h).elim, I.ok.hd, I.ok.frames, .inl rfl,
      fun b hb => ⟨Nat.ne_of_lt (lt b hb), fun x c h => (hf b hb).2.2.2.2.1 x c (O.cls x c h)⟩, I.bs, Nat.le_trans I.ok.bsz I.sz, fun b o e hb => ?_, fun b hb hs => ?_, I.stack, I.stkFree⟩,
    rfl, I.bare, Un.kept hk, ⟨m, hn, fun i x v e1 e2 e3 => ?_⟩, fun x c h => ?_, I.hok.fresh (Nat.le_refl _), fun x c h => I.freeC x c (O.cls x c h), fun p hp => absurd (show p ∈ ([] : List (Addr × Obj)) from hp) (by simp), I.hok.kept hk, ?_⟩
  · rcases (hf b hb).2.2.2.1 with z | z
    · exact I.ok.noex b o e z
    · exact absurd (Nat.lt_of_lt_of_le (Heap.lt_size e) (Nat.le_trans I.ok.bsz z)) (Nat.lt_irrefl _)
  · rcases List.mem_cons.mp (I.stkSub b hs) with e | e
    · exact (hf b hb).2.1 e
    · exact (hf b hb).2.2.1 e
  · have e2 : (ini.map fun o => o.bind fun j => (σ[j]?).join)[i]? = some (some v) := e2
    rw [List.getElem?_map] at e2
    cases q : ini[i]? with
    | none => rw [q] at e2; cases e2
    | some oj =>
      rw [q] at e2
      cases oj with
      | none => cases e2
      | some j =>
        have e4 : (σ[j]?).join = some v := Option.some.inj e2
        have e5 : σ[j]? = some (some v) := by
          cases z : σ[j]? with
          | none => rw [z] at e4; cases e4
          | some y =>
            rw [z] at e4
            have e4 : y = some v := e4
            rw [e4]
        obtain ⟨a1, a2, a3⟩ := O.src i j x q e1
        obtain ⟨m0, hn0, hl⟩ := I.loc
        obtain ⟨u, r, l⟩ := hl j x v a1 e5 (.inr a2)
        refine ⟨u, r, ?_⟩
        rcases l with ⟨k, _⟩ | ⟨_, c, e, z⟩
        · rcases a2 with a2 | a2
          · rw [k] at a2; cases a2
          · rw [k] at a2; cases a2
        · obtain ⟨c', e'⟩ := O.has x a3
          have e6 := O.cls x c' e'
          rw [e] at e6
          cases e6
          obtain ⟨oc, h1, h2⟩ := z
          exact .inr ⟨a3, c, e', oc, hk _ _ h1, h2⟩
  · obtain ⟨v, oc, h1, h2⟩ := I.cell x c (O.cls x c h)
    exact ⟨v, oc, hk _ _ h1, h2⟩
  · show (ini.map _).length = NC.length
    rw [List.length_map]
    exact O.len
theorem comp_back {pinsC : List (Addr × Obj)} {σ' : St} {H' : Hp} {s' : Shared} {h' : Heap} (I : Inv X pins σ H s) (hf : ∀ b ∈ fp, FpOk X pins H b) (J : Inv (cxComp X scope cl NC fp s.heap.objs.size s H) pinsC σ' H' s')
    (hs : Heap.SameBut s.heap.objs.size s'.heap h') : Inv X pins σ H' { s' with heap := h' } := by
  have ne : ∀ {b : Addr} {o : Obj}, s.heap.get? b = some o → b ≠ s.heap.objs.size := fun e => Nat.ne_of_lt (Heap.lt_size e)
  have hfree : H' s.heap.objs.size = none := J.free
  have B : Un (frs X.stack) fp H H' s.heap s'.heap := J.base
  refine I.call' (s' := { s' with heap := h' }) (ch := fp) J.os ⟨fun b o q n hb hx => (hs.2 b (ne q)).trans (B.keep b o q n hb hx), fun b o q n hb hx => ?_, B.free, fun b o q hx => ?_, B.tups, B.frzs, B.tbls⟩ (fun b u e => ?_) J.bare
    fun b hb => ⟨(hf b hb).2.2.2.1, (hf b hb).2.1, (hf b hb).2.2.2.2.1, (hf b hb).2.2.2.2.2⟩
  · obtain ⟨sl, e⟩ := B.slot b o q n hb hx
    exact ⟨sl, (hs.2 b (ne q)).trans e⟩
  · obtain ⟨o', e⟩ := B.there b o q hx
    exact ⟨o', (hs.2 b (ne q)).trans e⟩
  · refine (J.hok b u e).stay (fun c v hc q => (hs.2 c ?_).trans q) (fun _ q => q) fun _ _ q => q
    rintro rfl
    rcases hc with hc | hc
    · rw [← hc, hfree] at e; cases e
    · rw [hfree] at hc; cases hc
end

def PTs (X : Cx) (ifs : List Expr) (t : TT) : Prop :=
  ∀ (pins : List (Addr × Obj)) (s : Shared) (σ : St) (H : Hp) (Q : Bool → Hp → Prop), Inv X pins σ H s → t σ H Q →
    wpAny (model X.prog X.w) X.A (forIn ifs true fun c r => if r = true then do let ok ← isTrue c X.env (eval c X.env); pure (ForInStep.yield ok) else pure (ForInStep.yield r)) (TP X pins σ Q) X.xe s
def tYes : TT := fun _ H Q => Q true H
theorem gYes {i : Nat} {v : V} {σ : St} {H : Hp} {A B : St → Hp → Prop} (h : A (σ.set i (some v)) H) : gName i v σ H (fun σ3 H3 => tYes σ3 H3 fun b H4 => if b = true then A σ3 H4 else B σ3 H4) := h
theorem pts_nil {X : Cx} : PTs X [] tYes := fun _ _ _ H _ I h => wpAny_tests_nil ⟨H, I, h⟩
theorem pts_one {X : Cx} {c : Expr} {t : TT} (h : PT X c t) : PTs X [c] t := fun pins s σ H Q I hw => wpAny_tests_one (h pins s σ H Q I hw)

def CompW (J : It) (g : TG) (tt : TT) (te : TE) (D : Addr) (Q : VK) (σ₀ : St) (H₀ : Hp) : Prop :=
  ∃ W : Nat → Nat → St → Hp → Prop, (∃ m, W 0 m σ₀ H₀) ∧ ∀ i m σ' H', W i m σ' H' →
    (J.stop i H' ∧ Q (.ref D) H') ∨ (J.go i H' ∧ ∃ N : St → Hp → Prop, (∀ σ2 H2, N σ2 H2 → ∃ m', m' < m ∧ W (i + 1) m' σ2 H2) ∧
      ∀ x H2, J.yld i H' x H2 → g x σ' H2 fun σ3 H3 => tt σ3 H3 fun b H4 => if b = true then te σ3 H4 fun v H5 => ∃ ys, H5 D = some (.lst ys) ∧ ys.length < sizeLine ∧ N σ3 (upd H5 D (.lst (ys ++ [v]))) else N σ3 H4)
def tComp (wi : TI) (g : TG) (tt : TT) (te : TE) (ini : List (Option Nat)) : TE := fun σ H Q => wi σ H fun J H1 => ∀ D, H1 D = none → CompW J g tt te D Q (iniSt ini σ) (upd H1 D (.lst []))
theorem pe_comp {X : Cx} {elt iter tg : Expr} {ifs : List Expr} {scope : Scope} {pos : Pos} {cl : List (Str × Addr)} {NC : List Str} {ini : List (Option Nat)} {wi : TI} {g : TG} {tt : TT} {te : TE}
    (hc : X.calm = true) (O : CompOk X scope cl NC ini) (hi : PI X tg iter wi)
    (hg : ∀ fp C s₀ H₀, PG (cxComp X scope cl NC fp C s₀ H₀) tg g) (ht : ∀ fp C s₀ H₀, PTs (cxComp X scope cl NC fp C s₀ H₀) ifs tt) (he : ∀ fp C s₀ H₀, PE (cxComp X scope cl NC fp C s₀ H₀) elt te)
    (hs : ∀ x, foldedSetIterable iter X.env x = pure x := by intro _; rfl) : PE X (.ListComp elt [⟨tg, iter, ifs, 0⟩] scope pos) (tComp wi g tt te ini) := by
  intro pins s σ H Q I h
  rw [eval_ListComp]
  refine wpAny_comprehension_free (use := none) rfl hs O.clos O.kind O.names (thn (hi pins s σ H _ I h) fun v s1 h1 => thn h1 fun itv s2 h2 => ?_)
  obtain ⟨it, fp, tn, J, H2, e, I2, T, st2, f2, h2⟩ := h2
  subst e
  have hD : H2 s2.heap.objs.size = none := I2.hok.fresh (Nat.le_refl _)
  obtain ⟨W, ⟨m0, w0⟩, turn⟩ := h2 _ hD
  refine wpAny_newObj_type (wpAny_newFunctionEnv O.cell (by intro y hy; simp at hy) (fun h₁ hns₁ hsb₁ => ?_) O.kind)
  dsimp only at hns₁ hsb₁ ⊢
  have I3 : Inv X pins σ (upd H2 s2.heap.objs.size (.lst [])) { s2 with heap := s2.heap.push { cls := .type "list", dict := none, data := .seq ([] : List Value).toArray } } := I2.lnew (its := []) (t' := s2.toks) .nil (by decide)
  have ob2 : ∀ b ∈ fp, ∃ o, s2.heap.get? b = some o := fun b hb => let ⟨o, e, _⟩ := T.obj 0 _ st2 b hb; ⟨o, e⟩
  have neD : ∀ b ∈ fp, b ≠ s2.heap.objs.size := fun b hb => let ⟨o, e⟩ := ob2 b hb; Nat.ne_of_lt (Heap.lt_size e)
  have f3 : ∀ b ∈ fp, FpOk X pins (upd H2 s2.heap.objs.size (.lst [])) b := fun b hb => ⟨by rw [upd_ne (neD b hb)]; exact (f2 b hb).1, (f2 b hb).2⟩
  generalize hs3 : ({ s2 with heap := s2.heap.push { cls := .type "list", dict := none, data := .seq ([] : List Value).toArray } } : Shared) = s3 at I3
  have hh3 : s2.heap.push { cls := .type "list", dict := none, data := .seq ([] : List Value).toArray } = s3.heap := by rw [← hs3]
  have ob3 : ∀ b ∈ fp, ∃ o, s3.heap.get? b = some o := fun b hb => let ⟨o, e⟩ := ob2 b hb; ⟨o, by rw [← hh3]; exact Heap.get?_push_of_some _ e⟩
  rw [hh3] at hns₁ hsb₁ ⊢
  have old : ∀ b o, s3.heap.get? b = some o → h₁.get? b = some o := fun b o e => hsb₁.extBut b o (Nat.ne_of_lt (Heap.lt_size e)) (Heap.get?_push_of_some _ e)
  have st1 : tn 0 h₁ := T.keep 0 _ _ st2 fun b hb o e => old b o (by rw [← hh3]; exact Heap.get?_push_of_some _ e)
  have IC : ∀ tk, Inv (cxComp X scope cl NC fp s3.heap.objs.size s3 (upd H2 s2.heap.objs.size (.lst []))) [] (iniSt ini σ) (upd H2 s2.heap.objs.size (.lst [])) { s3 with heap := h₁, toks := tk } := fun tk => inv_comp O I3 f3 ob3 hns₁ old
  have stat : ∀ {H' : Hp}, (∀ b ∈ fp, H' b = none) → ∀ b ∈ fp, FpOk (cxComp X scope cl NC fp s3.heap.objs.size s3 (upd H2 s2.heap.objs.size (.lst []))) [] H' b := fun {H'} hn b hb => by
    obtain ⟨o, e⟩ := ob3 b hb
    refine ⟨hn b hb, Nat.ne_of_lt (Heap.lt_size e), fun z => ?_, .inl hb, fun x c hx => (f3 b hb).2.2.2.2.1 x c (O.cls x c hx), fun p hp => absurd (show p ∈ ([] : List (Addr × Obj)) from hp) (by simp)⟩
    rcases List.mem_cons.mp (I3.stkSub b z) with q | q
    · exact (f3 b hb).2.1 q
    · exact (f3 b hb).2.2.1 q
  have loop : ∀ s₃ : Shared, s₃ = { s2 with heap := h₁, toks := s2.toks + ([] : List (Str × Value)).length } →
      codeAny (model X.prog X.w) X.A (.compLoop (.ListComp elt [⟨tg, iter, ifs, 0⟩] scope pos) 0 (.ref it) (.ref s2.heap.objs.size) (compEnvC scope cl s3.heap.objs.size X.env))
        (compPost (model X.prog X.w) X.A X.xe none (EP X pins σ Q) (.ref s2.heap.objs.size) s3.heap.objs.size) s₃ := by
    rintro s₃ rfl
    refine codeAny_loop rfl (fun n s' => ∃ i σ' H', Inv (cxComp X scope cl NC fp s3.heap.objs.size s3 (upd H2 s2.heap.objs.size (.lst []))) [] σ' H' s' ∧ tn i s'.heap ∧ (∀ b ∈ fp, H' b = none) ∧ W i n σ' H') (fun n s' hI => ?_) m0
      ⟨0, _, _, by have z := IC (s2.toks + ([] : List (Str × Value)).length); rw [← hs3] at z ⊢; exact z, st1, fun b hb => (f3 b hb).1, w0⟩
    show wpAny _ X.A ((compTurn (.ListComp elt [⟨tg, iter, ifs, 0⟩] scope pos) 0 (.ref it) (.ref s2.heap.objs.size) (compEnvC scope cl s3.heap.objs.size X.env)).onRaise (fun x => do noteFrame x (compEnvC scope cl s3.heap.objs.size X.env); theTreesLotGoes x)) _ _ s'
    refine wpAny_noted ?_
    rw [compTurn_list]
    obtain ⟨i, σ3, H3, I3', st3, fr3, w3⟩ := hI
    rcases turn i n σ3 H3 w3 with ⟨stop, qn⟩ | ⟨go, N, hN, step⟩
    · refine wpAny_bind (wpAny_standAt (wpAny_bind (thn (T.done (cxComp X scope cl NC fp s3.heap.objs.size s3 (upd H2 s2.heap.objs.size (.lst []))) rfl rfl rfl hc i [] s' σ3 H3 _ I3' (stat fr3) st3 stop) fun r s4 ⟨hr, I4⟩ => ?_)))
      subst hr
      obtain ⟨m', hn', _⟩ := I4.loc
      exact wpAny_pure ⟨m', hn', fun h' hs' => ⟨.ref s2.heap.objs.size, H3, comp_back I3 f3 I4 hs', rfl, qn⟩⟩
    · refine wpAny_bind (wpAny_standAt (wpAny_bind (thn (T.item (cxComp X scope cl NC fp s3.heap.objs.size s3 (upd H2 s2.heap.objs.size (.lst []))) rfl rfl rfl hc i [] s' σ3 H3 _ I3' (stat fr3) st3 go) fun r s4 ⟨u, hr, h4⟩ => ?_)))
      subst hr
      refine wpAny_bind (thn h4 fun _ s5 ⟨x, H5, I5, r5, y5, st5, fr5⟩ => ?_)
      have I5' := I5.pinned (stat fr5) (T.obj _ _ st5)
      refine wpAny_bind (quietX (hg fp _ s3 _ _ s5 σ3 H5 x u _ I5' r5 (step x H5 y5)) fun _ s6 ⟨σ6, H6, I6, q6⟩ => ?_)
      have again : ∀ {s7 : Shared} {H7 : Hp}, Inv (cxComp X scope cl NC fp s3.heap.objs.size s3 (upd H2 s2.heap.objs.size (.lst []))) ([] ++ pinsAt fp s5.heap) σ6 H7 s7 → N σ6 H7 →
          ∃ m, m < n ∧ ∃ i σ' H', Inv (cxComp X scope cl NC fp s3.heap.objs.size s3 (upd H2 s2.heap.objs.size (.lst []))) [] σ' H' s7 ∧ tn i s7.heap ∧ (∀ b ∈ fp, H' b = none) ∧ W i m σ' H' := fun {s7 H7} I7 n7 => by
        obtain ⟨m', hm, w7⟩ := hN σ6 H7 n7
        refine ⟨m', hm, i + 1, σ6, H7, I7.unpinned, T.keep _ _ _ st5 fun b hb o e => (I7.pin (b, o) (List.mem_append_right _ (List.mem_append_right _ (mem_pinsAt hb e)))).1, fun b hb => ?_, w7⟩
        obtain ⟨o, e, d⟩ := T.obj _ _ st5 b hb
        exact (I7.pin (b, o) (List.mem_append_right _ (List.mem_append_right _ (mem_pinsAt hb e)))).2.1
      refine wpAny_bind (quietX (ht fp _ s3 _ _ s6 σ6 H6 _ I6 q6) fun ok s7 ⟨H7, I7, q7⟩ => ?_)
      cases ok with
      | false => exact wpAny_pure ⟨rfl, again I7 q7⟩
      | true =>
        refine wpAny_bind (wpAny_bind (quietX (he fp _ s3 _ _ s7 σ6 H7 _ I7 q7) fun u8 s8 ⟨v8, H8, I8, r8, ys, hy, hz, n8⟩ => ?_))
        refine wpAny_bind (quietX (mt_append _ s8 σ6 H8 (.ref s2.heap.objs.size) [v8] (.ref s2.heap.objs.size) [u8] (fun _ H9 => N σ6 H9) I8 rfl (.cons r8 .nil) ⟨_, ys, v8, rfl, rfl, hy, hz, n8⟩) fun _ s9 ⟨_, H9, I9, _, n9⟩ => ?_)
        exact wpAny_pure (wpAny_pure ⟨rfl, again I9 n9⟩)
  exact codeAny_compStart_list (loop _ rfl) (T.self _ 0 _ _ _ st1 (loop _ rfl))

theorem comp_range {lo : Int} {n : Nat} {g : TG} {tt : TT} {te : TE} {D : Addr} {Q : VK} {σ₀ : St} {H₀ : Hp} (Pv : Nat → St → Hp → Prop) (h0 : Pv 0 σ₀ H₀)
    (hs : ∀ i σ H, i < n → Pv i σ H → g (.int (lo + i)) σ H fun σ3 H3 => tt σ3 H3 fun b H4 => if b = true then te σ3 H4 fun v H5 => ∃ ys, H5 D = some (.lst ys) ∧ ys.length < sizeLine ∧ Pv (i + 1) σ3 (upd H5 D (.lst (ys ++ [v]))) else Pv (i + 1) σ3 H4)
    (hd : ∀ σ H, Pv n σ H → Q (.ref D) H) : CompW (Itr lo n) g tt te D Q σ₀ H₀ := by
  refine ⟨fun i m σ H => m = n - i ∧ i ≤ n ∧ Pv i σ H, ⟨n, by simp, Nat.zero_le _, h0⟩, ?_⟩
  rintro i m σ H ⟨rfl, hi, p⟩
  by_cases hlt : i < n
  · refine .inr ⟨hlt, Pv (i + 1), fun σ' H' p' => ⟨n - (i + 1), by omega, rfl, hlt, p'⟩, fun x H' y => ?_⟩
    obtain ⟨e, y⟩ := y
    subst e y
    exact hs i σ _ hlt p
  · have e : i = n := by omega
    subst e
    exact .inl ⟨Nat.le_refl _, hd σ H p⟩
theorem comp_list {K : PySem.W.Frag} {a : Addr} {xs : List V} {g : TG} {tt : TT} {te : TE} {D : Addr} {Q : VK} {σ₀ : St} {H₀ : Hp} (Pv : Nat → St → Hp → Prop) (h0 : Pv 0 σ₀ H₀) (hl : ∀ i σ H, i ≤ xs.length → Pv i σ H → SqL K H a xs)
    (hs : ∀ i x σ H, xs[i]? = some x → Pv i σ H → g x σ H fun σ3 H3 => tt σ3 H3 fun b H4 => if b = true then te σ3 H4 fun v H5 => ∃ ys, H5 D = some (.lst ys) ∧ ys.length < sizeLine ∧ Pv (i + 1) σ3 (upd H5 D (.lst (ys ++ [v]))) else Pv (i + 1) σ3 H4)
    (hd : ∀ σ H, Pv xs.length σ H → Q (.ref D) H) : CompW (Itl K a) g tt te D Q σ₀ H₀ := by
  refine ⟨fun i m σ H => m = xs.length - i ∧ i ≤ xs.length ∧ Pv i σ H, ⟨xs.length, by simp, Nat.zero_le _, h0⟩, ?_⟩
  rintro i m σ H ⟨rfl, hi, p⟩
  have q := hl i σ H hi p
  by_cases hlt : i < xs.length
  · refine .inr ⟨⟨xs, xs[i], q, by simp [hlt]⟩, Pv (i + 1), fun σ' H' p' => ⟨xs.length - (i + 1), by omega, rfl, hlt, p'⟩, fun x H' y => ?_⟩
    obtain ⟨e, y⟩ := y
    subst e
    exact hs i x σ _ (y xs q) p
  · have e : i = xs.length := by omega
    subst e
    exact .inl ⟨⟨xs, q, Nat.le_refl _⟩, hd σ H p⟩
theorem compOk0 {X : Cx} {scope : Scope} {NC : List Str} (hkind : scope.kind = .function) (h : ∀ y ∈ scope.names, y.2 ≠ .cell ∧ y.2 ≠ .free) (hn : ∀ y ∈ scope.names, y.2 = .local → scope.names.lookup y.1 = some .local) :
    CompOk X scope [] NC (List.replicate NC.length none) where
  clos := closureFor_none fun x hx => (h x hx).2
  cell := fun y hy => (h y hy).1
  kind := hkind
  names := hn
  cls := fun x c e => by cases e
  has := fun x e => by
    exfalso
    have key : ∀ k, (relabel scope X.env).names.lookup x = some k → k = .cell ∨ k = .free → False := fun k e hk => by
      have hm := PySem.mem_of_lookup e
      obtain ⟨⟨n, k'⟩, hy, ey⟩ := List.mem_map.mp hm
      have h1 := h _ hy
      have hb : (k' == NameKind.free) = false := by simpa using h1.2
      simp only [hb, Bool.false_and, Bool.false_eq_true, if_false, Prod.mk.injEq] at ey
      obtain ⟨_, rfl⟩ := ey
      rcases hk with hk | hk
      · exact h1.1 hk
      · exact h1.2 hk
    rcases e with e | e
    · exact key _ e (.inl rfl)
    · exact key _ e (.inr rfl)
  len := by simp
  src := fun i j x e _ => by
    rw [List.getElem?_replicate] at e
    split at e <;> cases e

section
variable {X : Cx}
theorem call_rng2 : CallR X (.type "range") (fun xs H Q => ∃ i j, xs = [.int i, .int j] ∧ ∀ p, H p = none → Q (.ref p) (upd H p (.rng i j))) := by
  intro pins s σ H xs us Q I r h
  obtain ⟨i, j, rfl, q⟩ := h
  obtain ⟨u, v, rfl, ru, rv⟩ := r.two
  obtain ⟨t, rfl⟩ := ru
  obtain ⟨t', rfl⟩ := rv
  refine call_range_2 ⟨.ref s.heap.objs.size, _, I.laid (o := .rng i j) (fun b u e => Heap.get?_push_of_some _ e) (Nat.le_refl _) ?_, rfl, q _ (I.hok.fresh (Nat.le_refl _))⟩
  exact ⟨_, _, _, Heap.get?_push_size _ rfl⟩
def rngV (lo : Int) (n : Nat) : List V := (List.range n).map fun (i : Nat) => V.int (lo + i)
theorem rngV_len (lo : Int) (n : Nat) : (rngV lo n).length = n := by unfold rngV; rw [List.length_map, List.length_range]
theorem rngV_get {lo : Int} {n i : Nat} (h : i < n) : (rngV lo n)[i]? = some (.int (lo + i)) := by
  unfold rngV
  rw [List.getElem?_map, List.getElem?_range h]
  rfl
theorem call_list_rng (hc : X.calm = true) : CallR X (.type "list") (fun xs H Q => ∃ p lo hi, xs = [.ref p] ∧ H p = some (.rng lo hi) ∧ (-(2 ^ 62) ≤ lo ∧ lo < 2 ^ 62 ∧ -(2 ^ 62) ≤ hi ∧ hi < 2 ^ 62) ∧ (hi - lo).toNat ≤ 2 ^ 20 ∧
    ∀ l, H l = none → Q (.ref l) (upd H l (.lst (rngV lo (hi - lo).toNat)))) := by
  intro pins s σ H xs us Q I r h
  obtain ⟨p, lo, hi, rfl, hp, ⟨b1, b2, b3, b4⟩, hz, q⟩ := h
  obtain ⟨u, rfl, ru⟩ := r.one
  cases ru
  obtain ⟨t, u', v', e⟩ := I.hok p _ hp
  have hsz : (hi - lo).toNat ≤ sizeLine := Nat.le_trans hz (by decide)
  refine call_list_range (n := (hi - lo).toNat) (I.ok.hd hc) (show IsRange s.heap p lo hi 1 t u' v' from e) (small_one b1 b2 b3 b4) (by rw [rangeSize_one]; split <;> omega) (Nat.le_trans hz (by decide)) fun h' tk acc' c' hk hS' hacc => ?_
  refine ⟨.ref s.heap.objs.size, _, I.laid (o := .lst (rngV lo (hi - lo).toNat)) (t' := tk) hk (Nat.le_refl _) ⟨by rw [rngV_len]; exact hsz, acc'.toList, c', ?_, by simpa using hS'⟩, rfl, q _ (I.hok.fresh (Nat.le_refl _))⟩
  refine vals_of_get (by rw [rngV_len, Array.length_toList, hacc.1]) fun i x w e1 e2 => ?_
  have hi' : i < (hi - lo).toNat := by
    have z := (List.getElem?_eq_some_iff.mp e1).1
    rw [rngV_len] at z
    exact z
  rw [rngV_get hi'] at e1
  cases e1
  obtain ⟨t, rfl⟩ := hacc.2 i w (by simpa using e2)
  exact ⟨t, by rw [Int.mul_one]⟩
theorem call_isi : CallR X (.builtin "isinstance") (fun xs H Q => ∃ x n t b, xs = [x, .ty n] ∧ TyOf X.K H x t ∧ PySem.W.kitOne X.K t (.type n) = some b ∧ Q (.bl b) H) := by
  intro pins s σ H xs us Q I r h
  obtain ⟨x, n, t, b, rfl, ty, e, q⟩ := h
  obtain ⟨u, v, rfl, ru, rv⟩ := r.two
  cases rv
  exact isinst_ok I ru ty e fun tk => ⟨.bl b, H, I.tok tk, rfl, q⟩
theorem kit_int_int (K : PySem.W.Frag) : PySem.W.kitOne K (.type "int") (.type "int") = some true := by unfold PySem.W.kitOne; rw [if_pos (by decide +kernel)]
theorem kit_tup_tup (K : PySem.W.Frag) : PySem.W.kitOne K (.type "tuple") (.type "tuple") = some true := by unfold PySem.W.kitOne; rw [if_pos (by decide +kernel)]
theorem kit_lst_lst (K : PySem.W.Frag) : PySem.W.kitOne K (.type "list") (.type "list") = some true := by unfold PySem.W.kitOne; rw [if_pos (by decide +kernel)]
theorem kit_int_bool (K : PySem.W.Frag) : PySem.W.kitOne K (.type "int") (.type "bool") = some false := by
  unfold PySem.W.kitOne
  rw [if_neg (by decide +kernel)]
  show (if PySem.W.kitMeta "bool" = true then (fastBuiltinMro "int").map (·.contains (Value.type "bool")) else none) = some false
  decide +kernel
end

structure Fn (K : PySem.W.Frag) (mg : Str → Option Value) (x : Str) (st : Stmt) (ps : List Str) (f : Addr) (fd : FuncData) : Prop where
  fn : Fun K x x st f fd
  b : Binds K fd ps []
  g : mg x = some (.ref f)
theorem Fn.mk' {K : PySem.W.Frag} {mg : Str → Option Value} {x : Str} {st : Stmt} {ps : List Str} {f : Addr} {fd : FuncData} (F : Fun K x x st f fd)
    (h : ∀ (kV doc pm : Value) (an : Option Addr) (cdv ct : Value) (us : List Value), us.length = ps.length → bindArgs (PySem.W.fnOf x x (defArgs st) (defBody st) (defScope st) .none kV doc pm an cdv ct) ⟨us, []⟩ = pure (ps.zip us))
    (g : mg x = some (.ref f)) : Fn K mg x st ps f fd := ⟨F, F.binds h, g⟩
theorem pe_fn {X : Cx} {x : Str} {st : Stmt} {ps : List Str} {f : Addr} {fd : FuncData} {k : Nat} {sp : Sp} {e : Expr} {es : List Expr} {t : TA} {p pos : Pos} (G : FnOk X.prog X.w X.K X.mg X.base CX0 k f fd ps sp) (F : Fn X.K X.mg x st ps f fd) (hr : Room k X.A) (ha : PA X (e :: es) t)
    (hg : Gl X x := by rfl) (hdb : (x == ("__debug__" : Str)) = false := by decide) (he : starEach (e :: es) X.env = (false, eval e X.env) :: starEach es X.env := by rfl) (hpl : (backTo pos (starEach es X.env)).any (·.1) = false := by rfl) :
    PE X (.Call (.Name x p) (e :: es) [] pos) (tCall sp [] E0 t) := pe_call G hr hg F.g F.fn.kp F.b .nil pass0 ha hdb he hpl
def spLaw (K : PySem.W.Frag) : Sp := fun vs H Q _ => ∃ (a : Addr) (ns : List Int), vs = [.ref a] ∧ SqL K H a (ns.map V.int) ∧ ns.length ≤ 63 ∧ ∀ H', Q (.bl true) H'

theorem same_upd {H : Hp} {p : Addr} {o : HO} (h : H p = none) : Same H (upd H p o) := fun b u e => by rw [upd_ne (ne_of_none e h)]; exact e
theorem Same.upd {H H' : Hp} {p : Addr} {o : HO} (s : Same H H') (h : H p = none) : Same H (upd H' p o) := fun b u e => by rw [upd_ne (ne_of_none e h)]; exact s b u e
theorem bb_len : bootBuiltins "len" = some (.builtin "len") := by decide +kernel
theorem bb_isinstance : bootBuiltins "isinstance" = some (.builtin "isinstance") := by decide +kernel
theorem bb_sorted : bootBuiltins "sorted" = some (.builtin "sorted") := by decide +kernel
theorem bb_int : bootBuiltins "int" = some (.type "int") := by decide +kernel
theorem bb_bool : bootBuiltins "bool" = some (.type "bool") := by decide +kernel
theorem bb_list : bootBuiltins "list" = some (.type "list") := by decide +kernel
theorem bb_tuple : bootBuiltins "tuple" = some (.type "tuple") := by decide +kernel
theorem bb_range : bootBuiltins "range" = some (.type "range") := by decide +kernel
theorem bb_min : bootBuiltins "min" = some (.builtin "min") := by decide +kernel
end L2


namespace L2
open PySem PySem.Spec PyProof.Rows
section
variable {X : Cx}
theorem pg_tupK {K : PySem.W.Frag} {es : List Expr} {k : Nat} {t : TGs} {n : Nat} {pos : Pos} (hK : X.K = K) (hc : X.calm = true) (h : PGs X es t)
    (hn : (assignEach es X.env).length = n := by rfl) (hst : (assignEach es X.env).findIdx? (·.1) = none := by rfl) : PG X (.Tuple es k pos) (gTup K n t) := hK ▸ pg_tup hc h hn hst
theorem call_sorted : CallR X (.builtin "sorted") (fun xs H Q => ∃ (p : Addr) (ns : List Int), xs = [.ref p] ∧ SqL X.K H p (ns.map V.int) ∧ ns.length < 64 ∧ ∀ (ns' : List Int) (l : Addr), ns'.Perm ns → ns'.Pairwise (· ≤ ·) → H l = none → Q (.ref l) (upd H l (.lst (ns'.map V.int)))) := by
  intro pins s σ H xs us Q I r h
  obtain ⟨p, ns, rfl, hq, h64, q⟩ := h
  obtain ⟨u, rfl, ru⟩ := r.one
  cases ru
  obtain ⟨its, rv, pl, hz⟩ := I.list hq
  have hlen : ns.length = its.length := by have z := rv.length; rwa [List.length_map] at z
  refine sorted_ints pl.isList (intsAre_of rv) (by omega) fun out ns' a1 a2 a3 => ?_
  obtain ⟨e, he⟩ := sortedAll_at s.heap its out
  have hfr : H (s.heap.objs.size + 1) = none := I.hok.fresh (Nat.le_succ _)
  refine ⟨.ref (s.heap.objs.size + 1), _, I.laid (a := s.heap.objs.size + 1) (o := .lst (ns'.map V.int)) (t' := s.toks) (fun b o => sortedAll_old) (Nat.le_succ _) ⟨?_, out.toList, e, vals_ints a1, by simpa [seqObj] using he⟩, rfl, q ns' _ a2 a3 hfr⟩
  rw [List.length_map, a2.length_eq]
  exact Nat.le_trans (Nat.le_of_lt h64) (by decide)
end
end L2



namespace L2
open PySem PySem.Spec PyProof.Rows
section
variable {X : Cx}
theorem ps_sem {b : List Stmt} {R : TS} (h : ∀ D σ H, R D σ H → ∃ t, PSs X b t ∧ t D σ H) : PSs X b R := fun pins s σ H D I hw => by
  obtain ⟨t, ht, hq⟩ := h D σ H hw
  exact ht pins s σ H D I hq
theorem call_tuple_any : CallR X (.type "tuple") (fun xs H Q => ∃ p ys, xs = [.ref p] ∧ (H p = some (.lst ys) ∨ H p = some (.tup ys)) ∧ ∀ t H1, Same H H1 → H1 t = some (.tup ys) → Q (.ref t) H1) := by
  intro pins s σ H xs us Q I r h
  obtain ⟨p, ys, rfl, hp, q⟩ := h
  refine call_tuple_of pins s σ H [.ref p] us Q I r ⟨p, ys, rfl, ?_⟩
  rcases hp with hp | hp
  · exact .inl ⟨SqL.of hp, fun l hl => q l _ (same_upd hl) upd_same⟩
  · exact .inr ⟨SqT.of hp, q p H (Same.refl H) hp⟩
end

end L2

namespace L2
open PySem PySem.Spec PyProof.Rows
section
variable {X : Cx}
theorem vals_at {xs : List V} {its : List Value} {j : Nat} (r : Vals xs its) (hj : j < its.toArray.size) : ∃ x, xs[j]? = some x ∧ RelV x its.toArray[j] := by
  have hl := r.length
  have hx : j < xs.length := by rw [List.size_toArray] at hj; omega
  obtain ⟨u, hu, ru⟩ := r.get (List.getElem?_eq_getElem hx)
  refine ⟨_, List.getElem?_eq_getElem hx, ?_⟩
  have z : its.toArray[j]? = some u := by simpa using hu
  rw [(Array.getElem?_eq_some_iff.mp z).2]
  exact ru
end
end L2

namespace L2
open PySem PySem.Spec PyProof.Rows

theorem compOk1 {X : Cx} {scope : Scope} {pre : List Str} {y : Str} {c : Addr} {j : Nat} (hkind : scope.kind = .function) (h : ∀ z ∈ scope.names, z.2 ≠ .cell ∧ (z.2 = .free → z.1 = y)) (hn : ∀ z ∈ scope.names, z.2 = .local → scope.names.lookup z.1 = some .local)
    (hcl : closureFor scope X.env = pure [(y, c)]) (hc : X.env.cells.lookup y = some c) (hN : X.N[j]? = some y) (hk : X.env.kindOf y = some .cell) (hr : (relabel scope X.env).names.lookup y = some .cell) :
    CompOk X scope [(y, c)] (pre ++ [y]) (List.replicate pre.length none ++ [some j]) where
  clos := hcl
  cell := fun z hz => (h z hz).1
  kind := hkind
  names := hn
  cls := fun x c' e => by
    rw [List.lookup_cons] at e
    split at e
    · rename_i hx
      rw [eq_of_beq hx, ← e]
      exact hc
    · cases e
  has := fun x e => by
    have key : ∀ k, (relabel scope X.env).names.lookup x = some k → k = .cell ∨ k = .free → x = y := fun k e hk => by
      have hm := PySem.mem_of_lookup e
      obtain ⟨⟨n, k'⟩, hy, ey⟩ := List.mem_map.mp hm
      have h1 := h _ hy
      by_cases hf : k' = .free
      · have z := h1.2 hf
        dsimp only at ey
        split at ey
        · cases ey; exact z
        · cases ey; exact z
      · have hb : (k' == NameKind.free) = false := by simpa using hf
        simp only [hb, Bool.false_and, Bool.false_eq_true, if_false, Prod.mk.injEq] at ey
        obtain ⟨_, rfl⟩ := ey
        rcases hk with hk | hk
        · exact absurd hk h1.1
        · exact absurd hk hf
    have hxy : x = y := by
      rcases e with e | e
      · exact key _ e (.inl rfl)
      · exact key _ e (.inr rfl)
    exact ⟨c, by rw [hxy, List.lookup_cons, beq_self_eq_true]⟩
  len := by simp
  src := fun i k x e1 e2 => by
    by_cases hi : i < pre.length
    · rw [List.getElem?_append_left (by simpa using hi), List.getElem?_replicate, if_pos hi] at e1
      cases e1
    · have hl := (List.getElem?_eq_some_iff.mp e2).1
      rw [List.length_append, List.length_singleton] at hl
      have e : i = pre.length := by omega
      subst e
      rw [List.getElem?_append_right (by simp)] at e1
      rw [List.getElem?_append_right (Nat.le_refl _)] at e2
      simp at e1 e2
      subst e1 e2
      exact ⟨hN, .inl hk, .inl hr⟩

theorem compOk2 {X : Cx} {scope : Scope} {x y : Str} {c : Addr} {j : Nat} (hkind : scope.kind = .function) (h : ∀ z ∈ scope.names, z.2 ≠ .cell ∧ (z.2 = .free → z.1 = y)) (hn : ∀ z ∈ scope.names, z.2 = .local → scope.names.lookup z.1 = some .local)
    (hcl : closureFor scope X.env = pure [(y, c)]) (hc : X.env.cells.lookup y = some c) (hN : X.N[j]? = some y) (hk : X.env.kindOf y = some .cell) (hr : (relabel scope X.env).names.lookup y = some .cell) :
    CompOk X scope [(y, c)] [x, y] [none, some j] := compOk1 (pre := [x]) hkind h hn hcl hc hN hk hr
theorem bind_name {M : Model} {A : Around} {E : Value → Shared → Prop} {s : Shared} {env : Env} {x : Str} {v : Value} {Q : Unit → Shared → Prop} (h : wpAny M A (storeName env x v) Q E s) : wpAny M A (bindName env x v) Q E s := fun Γ p hΓ => by
  rw [Sem.wp_bindName]
  exact h Γ _ hΓ
theorem ps_comp {X : Cx} {elt iter tg : Expr} {ifs : List Expr} {scope : Scope} {pos pos' ps : Pos} {x : Str} {ix : Nat} {cl : List (Str × Addr)} {NC : List Str} {ini : List (Option Nat)} {wi : TI} {g : TG} {tt : TT} {te : TE}
    (hN : X.N.Nodup) (hix : X.N[ix]? = some x) (hx : Loc X.env.scope x) (hc : X.calm = true) (O : CompOk X scope cl NC ini) (hi : PI X tg iter wi)
    (hg : ∀ fp C s₀ H₀, PG (cxComp X scope cl NC fp C s₀ H₀) tg g) (ht : ∀ fp C s₀ H₀, PTs (cxComp X scope cl NC fp C s₀ H₀) ifs tt) (he : ∀ fp C s₀ H₀, PE (cxComp X scope cl NC fp C s₀ H₀) elt te)
    (hs : ∀ x, foldedSetIterable iter X.env x = pure x := by intro _; rfl) (hsw : swapsWith (.ListComp elt [⟨tg, iter, ifs, 0⟩] scope pos) (some (.Name x pos')) ps.line X.env = pure true := by rfl)
    (hf : X.fn x = true ∨ X.env.scope.names.lookup x = some .local := by first | exact .inl rfl | exact .inr rfl | assumption) : PS X (.Assign [.Name x pos'] (.ListComp elt [⟨tg, iter, ifs, 0⟩] scope pos) ps) (tAsg (tComp wi g tt te ini) (gName ix)) := by
  intro pins s σ H Dn I h
  rw [exec_Assign_Name_used _ _ _ _ hsw]
  refine wpAny_bind (wpAny_standAt (wpAny_bind ?_))
  show wpAny _ _ (comprehension (.ListComp elt [⟨tg, iter, ifs, 0⟩] scope pos) scope X.env _ (newList []) false (eval iter X.env) (some (assign (.Name x pos') X.env)) >>= fun _ => pure ()) _ _ s
  refine wpAny_bind ?_
  refine wpAny_comprehension_free (use := some (assign (.Name x pos') X.env)) rfl hs O.clos O.kind O.names (thn (hi pins s σ H _ I h) fun v s1 h1 => thn h1 fun itv s2 h2 => ?_)
  obtain ⟨it, fp, tn, J, H2, e, I2, T, st2, f2, h2⟩ := h2
  subst e
  have hD : H2 s2.heap.objs.size = none := I2.hok.fresh (Nat.le_refl _)
  obtain ⟨W, ⟨m0, w0⟩, turn⟩ := h2 _ hD
  refine wpAny_newObj_type (wpAny_newFunctionEnv O.cell (by intro y hy; simp at hy) (fun h₁ hns₁ hsb₁ => ?_) O.kind)
  dsimp only at hns₁ hsb₁ ⊢
  have I3 : Inv X pins σ (upd H2 s2.heap.objs.size (.lst [])) { s2 with heap := s2.heap.push { cls := .type "list", dict := none, data := .seq ([] : List Value).toArray } } := I2.lnew (its := []) (t' := s2.toks) .nil (by decide)
  have ob2 : ∀ b ∈ fp, ∃ o, s2.heap.get? b = some o := fun b hb => let ⟨o, e, _⟩ := T.obj 0 _ st2 b hb; ⟨o, e⟩
  have neD : ∀ b ∈ fp, b ≠ s2.heap.objs.size := fun b hb => let ⟨o, e⟩ := ob2 b hb; Nat.ne_of_lt (Heap.lt_size e)
  have f3 : ∀ b ∈ fp, FpOk X pins (upd H2 s2.heap.objs.size (.lst [])) b := fun b hb => ⟨by rw [upd_ne (neD b hb)]; exact (f2 b hb).1, (f2 b hb).2⟩
  generalize hs3 : ({ s2 with heap := s2.heap.push { cls := .type "list", dict := none, data := .seq ([] : List Value).toArray } } : Shared) = s3 at I3
  have hh3 : s2.heap.push { cls := .type "list", dict := none, data := .seq ([] : List Value).toArray } = s3.heap := by rw [← hs3]
  have ob3 : ∀ b ∈ fp, ∃ o, s3.heap.get? b = some o := fun b hb => let ⟨o, e⟩ := ob2 b hb; ⟨o, by rw [← hh3]; exact Heap.get?_push_of_some _ e⟩
  rw [hh3] at hns₁ hsb₁ ⊢
  have old : ∀ b o, s3.heap.get? b = some o → h₁.get? b = some o := fun b o e => hsb₁.extBut b o (Nat.ne_of_lt (Heap.lt_size e)) (Heap.get?_push_of_some _ e)
  have st1 : tn 0 h₁ := T.keep 0 _ _ st2 fun b hb o e => old b o (by rw [← hh3]; exact Heap.get?_push_of_some _ e)
  have IC : ∀ tk, Inv (cxComp X scope cl NC fp s3.heap.objs.size s3 (upd H2 s2.heap.objs.size (.lst []))) [] (iniSt ini σ) (upd H2 s2.heap.objs.size (.lst [])) { s3 with heap := h₁, toks := tk } := fun tk => inv_comp O I3 f3 ob3 hns₁ old
  have stat : ∀ {H' : Hp}, (∀ b ∈ fp, H' b = none) → ∀ b ∈ fp, FpOk (cxComp X scope cl NC fp s3.heap.objs.size s3 (upd H2 s2.heap.objs.size (.lst []))) [] H' b := fun {H'} hn b hb => by
    obtain ⟨o, e⟩ := ob3 b hb
    refine ⟨hn b hb, Nat.ne_of_lt (Heap.lt_size e), fun z => ?_, .inl hb, fun x c hx => (f3 b hb).2.2.2.2.1 x c (O.cls x c hx), fun p hp => absurd (show p ∈ ([] : List (Addr × Obj)) from hp) (by simp)⟩
    rcases List.mem_cons.mp (I3.stkSub b z) with q | q
    · exact (f3 b hb).2.1 q
    · exact (f3 b hb).2.2.1 q
  have loop : ∀ s₃ : Shared, s₃ = { s2 with heap := h₁, toks := s2.toks + ([] : List (Str × Value)).length } →
      codeAny (model X.prog X.w) X.A (.compLoop (.ListComp elt [⟨tg, iter, ifs, 0⟩] scope pos) 0 (.ref it) (.ref s2.heap.objs.size) (compEnvC scope cl s3.heap.objs.size X.env))
        (compPost (model X.prog X.w) X.A X.xe (some (assign (.Name x pos') X.env)) (fun _ sE => wpAny (model X.prog X.w) X.A (pure ()) (fun _ s₁ => wpAny (model X.prog X.w) X.A (pure Flow.next) (SP X pins Dn) X.xe s₁) X.xe sE) (.ref s2.heap.objs.size) s3.heap.objs.size) s₃ := by
    rintro s₃ rfl
    refine codeAny_loop rfl (fun n s' => ∃ i σ' H', Inv (cxComp X scope cl NC fp s3.heap.objs.size s3 (upd H2 s2.heap.objs.size (.lst []))) [] σ' H' s' ∧ tn i s'.heap ∧ (∀ b ∈ fp, H' b = none) ∧ W i n σ' H') (fun n s' hI => ?_) m0
      ⟨0, _, _, by have z := IC (s2.toks + ([] : List (Str × Value)).length); rw [← hs3] at z ⊢; exact z, st1, fun b hb => (f3 b hb).1, w0⟩
    show wpAny _ X.A ((compTurn (.ListComp elt [⟨tg, iter, ifs, 0⟩] scope pos) 0 (.ref it) (.ref s2.heap.objs.size) (compEnvC scope cl s3.heap.objs.size X.env)).onRaise (fun x => do noteFrame x (compEnvC scope cl s3.heap.objs.size X.env); theTreesLotGoes x)) _ _ s'
    refine wpAny_noted ?_
    rw [compTurn_list]
    obtain ⟨i, σ3, H3, I3', st3, fr3, w3⟩ := hI
    rcases turn i n σ3 H3 w3 with ⟨stop, qn⟩ | ⟨go, N, hN, step⟩
    · refine wpAny_bind (wpAny_standAt (wpAny_bind (thn (T.done (cxComp X scope cl NC fp s3.heap.objs.size s3 (upd H2 s2.heap.objs.size (.lst []))) rfl rfl rfl hc i [] s' σ3 H3 _ I3' (stat fr3) st3 stop) fun r s4 ⟨hr, I4⟩ => ?_)))
      subst hr
      obtain ⟨m', hn', _⟩ := I4.loc
      refine wpAny_pure ?_
      show wpAny _ _ (do standAt pos'; bindName X.env x (.ref s2.heap.objs.size)) _ _ s4
      refine wpAny_bind (wpAny_standAt ?_)
      have IX : Inv X pins σ H3 s4 := comp_back I3 f3 I4 (Heap.SameBut.refl _ _)
      have fC : FpOk X pins H3 s3.heap.objs.size := I3.fpOk (Nat.le_refl _) I4.free
      obtain ⟨c0, c1, c2, c3, c4, c5⟩ := fC
      refine bind_name (store_ok2 IX hN hix hx (v := .ref s2.heap.objs.size) rfl (fun s5 I5 sb => ?_) hf)
      obtain ⟨aa, sb1, sb2⟩ := sb
      have nA : s3.heap.objs.size ≠ aa := by
        rcases sb2 with z | z
        · rw [z]; exact c1
        · exact Ne.symm (c4 x aa z)
      obtain ⟨oo, es, ep, g1, g2⟩ := hn'
      refine ⟨m', ⟨oo, es, ep, (sb1.2 _ nA).trans g1, g2⟩, fun h' hs' => wpAny_pure (wpAny_pure ⟨_, H3, I5.turned (t' := s5.toks) (fun b o hb e => (hs'.2 b hb).trans e) c0 c1 c3 c4 c5, qn⟩)⟩
    · refine wpAny_bind (wpAny_standAt (wpAny_bind (thn (T.item (cxComp X scope cl NC fp s3.heap.objs.size s3 (upd H2 s2.heap.objs.size (.lst []))) rfl rfl rfl hc i [] s' σ3 H3 _ I3' (stat fr3) st3 go) fun r s4 ⟨u, hr, h4⟩ => ?_)))
      subst hr
      refine wpAny_bind (thn h4 fun _ s5 ⟨x, H5, I5, r5, y5, st5, fr5⟩ => ?_)
      have I5' := I5.pinned (stat fr5) (T.obj _ _ st5)
      refine wpAny_bind (quietX (hg fp _ s3 _ _ s5 σ3 H5 x u _ I5' r5 (step x H5 y5)) fun _ s6 ⟨σ6, H6, I6, q6⟩ => ?_)
      have again : ∀ {s7 : Shared} {H7 : Hp}, Inv (cxComp X scope cl NC fp s3.heap.objs.size s3 (upd H2 s2.heap.objs.size (.lst []))) ([] ++ pinsAt fp s5.heap) σ6 H7 s7 → N σ6 H7 →
          ∃ m, m < n ∧ ∃ i σ' H', Inv (cxComp X scope cl NC fp s3.heap.objs.size s3 (upd H2 s2.heap.objs.size (.lst []))) [] σ' H' s7 ∧ tn i s7.heap ∧ (∀ b ∈ fp, H' b = none) ∧ W i m σ' H' := fun {s7 H7} I7 n7 => by
        obtain ⟨m', hm, w7⟩ := hN σ6 H7 n7
        refine ⟨m', hm, i + 1, σ6, H7, I7.unpinned, T.keep _ _ _ st5 fun b hb o e => (I7.pin (b, o) (List.mem_append_right _ (List.mem_append_right _ (mem_pinsAt hb e)))).1, fun b hb => ?_, w7⟩
        obtain ⟨o, e, d⟩ := T.obj _ _ st5 b hb
        exact (I7.pin (b, o) (List.mem_append_right _ (List.mem_append_right _ (mem_pinsAt hb e)))).2.1
      refine wpAny_bind (quietX (ht fp _ s3 _ _ s6 σ6 H6 _ I6 q6) fun ok s7 ⟨H7, I7, q7⟩ => ?_)
      cases ok with
      | false => exact wpAny_pure ⟨rfl, again I7 q7⟩
      | true =>
        refine wpAny_bind (wpAny_bind (quietX (he fp _ s3 _ _ s7 σ6 H7 _ I7 q7) fun u8 s8 ⟨v8, H8, I8, r8, ys, hy, hz, n8⟩ => ?_))
        refine wpAny_bind (quietX (mt_append _ s8 σ6 H8 (.ref s2.heap.objs.size) [v8] (.ref s2.heap.objs.size) [u8] (fun _ H9 => N σ6 H9) I8 rfl (.cons r8 .nil) ⟨_, ys, v8, rfl, rfl, hy, hz, n8⟩) fun _ s9 ⟨_, H9, I9, _, n9⟩ => ?_)
        exact wpAny_pure (wpAny_pure ⟨rfl, again I9 n9⟩)
  exact codeAny_compStart_list (loop _ rfl) (T.self _ 0 _ _ _ st1 (loop _ rfl))

theorem ix_listK {X : Cx} {K : PySem.W.Frag} (hK : X.K = K) : IxR X (rIxL K) := hK ▸ ix_list
theorem ix_tupK {X : Cx} {K : PySem.W.Frag} (hK : X.K = K) : IxR X (rIxT K) := hK ▸ ix_tup
def Itv (K : PySem.W.Frag) (a : Addr) (xs : List V) : It := ⟨fun i H => i < xs.length ∧ SqL K H a xs, fun i H y H' => H' = H ∧ xs[xs.length - 1 - i]? = some y, fun i _ => xs.length ≤ i⟩
theorem turn_rev {P : Program} {w : World} {K : PySem.W.Frag} {tg : Expr} (a it : Addr) (xs : List V) : Turn P w K tg (Itv K a xs) [it] it (fun i h => i ≤ xs.length ∧ h.IsRevIter it a ((xs.length : Int) - 1 - (i : Nat))) where
  mem := by simp
  obj := fun i h st b hb => by
    have e : b = it := by simpa using hb
    subst e
    obtain ⟨_, o, e, c, d⟩ := st
    exact ⟨o, e, fun v z => by rw [d] at z; cases z⟩
  keep := fun i h h' st k => ⟨st.1, st.2.at fun o e => k it (by simp) o e⟩
  item := by
    intro X hP hw hK hc i pins s σ H E I hf st hg
    subst hP hw hK
    obtain ⟨hi, hq⟩ := hg
    obtain ⟨its, rv, p, hz⟩ := I.list hq
    have hl := rv.length
    have hx : xs[xs.length - 1 - i]? = some (xs[xs.length - 1 - i]'(by omega)) := List.getElem?_eq_getElem (by omega)
    obtain ⟨u, hu, ru⟩ := rv.get hx
    obtain ⟨f0, f1, f2, f3, f4, f5⟩ := hf it (by simp)
    have e1 : (xs.length : Int) - 1 - (i : Nat) = ((xs.length - 1 - i : Nat) : Int) := by omega
    have st2 := st.2
    rw [e1] at st2
    refine wpAny_pyNext_rev_item st2 p.isList (x := u) (by simpa using hu) fun h' st' sb => ?_
    have I1 : Inv X pins σ H { s with heap := h' } := I.turned (t' := s.toks) (fun b o hb e => (sb.2 b hb).trans e) f0 f1 f3 f4 f5
    have e2 : ((xs.length - 1 - i : Nat) : Int) - 1 = (xs.length : Int) - 1 - ((i + 1 : Nat) : Int) := by omega
    rw [e2] at st'
    obtain ⟨o, e, c, d⟩ := id st'
    exact ⟨u, rfl, go_of (s := { s with heap := h' }) e c d (by decide) ⟨_, H, I1, ru, ⟨rfl, hx⟩, ⟨hi, st'⟩, fun b hb => (hf b hb).1⟩⟩
  done := by
    intro X hP hw hK hc i pins s σ H E I hf st hg
    subst hP hw hK
    obtain ⟨f0, f1, f2, f3, f4, f5⟩ := hf it (by simp)
    have hg : xs.length ≤ i := hg
    have e1 : (xs.length : Int) - 1 - (i : Nat) = -1 := by have := st.1; omega
    have st2 := st.2
    rw [e1] at st2
    exact wpAny_pyNext_rev_end (I.ok.hd hc) st2 fun h' eb => ⟨rfl, I.turned (t' := s.toks) (fun b o hb e => eb b o hb e) f0 f1 f3 f4 f5⟩
  self := fun _ _ _ _ _ st h => wpAny_pyIter_revIter st.2 h
section
variable {X : Cx}
theorem bb_reversed : bootBuiltins "reversed" = some (.type "reversed") := by decide +kernel
def iRev (K : PySem.W.Frag) (ta : TA) : TI := fun σ H R => ta σ H fun vs H1 => ∃ a xs, vs = [.ref a] ∧ SqL K H1 a xs ∧ R (Itv K a xs) H1
theorem pi_rev {a : Expr} {ta : TA} {p pos : Pos} {tg : Expr} (hg : Gl X "reversed") (hm : X.mg "reversed" = none) (ha : PA X [a] ta) (hs : starEach [a] X.env = [(false, eval a X.env)] := by rfl) :
    PI X tg (.Call (.Name "reversed" p) [a] [] pos) (iRev X.K ta) := by
  intro pins s σ H R I h
  refine Call_ (ld_blt I hg hm bb_reversed (PyProof.Rows.callWith_type1 (thn (ha pos pins s σ H _ I h) fun us s1 ⟨vs, H1, I1, r1, q1⟩ => ?_) hs rfl))
  obtain ⟨l, xs, e, hq, q⟩ := q1
  subst e
  cases r1 with
  | cons r rr =>
    cases rr
    cases r
    obtain ⟨its, rv, ht, hz⟩ := I1.list hq
    have hl := rv.length
    refine call_reversed_list ht.isList ?_
    have st0 : (s1.heap.push (revObj l ((its.toArray.size : Int) - 1))).IsRevIter s1.heap.objs.size l ((xs.length : Int) - 1 - ((0 : Nat) : Int)) := by
      have e1 : (xs.length : Int) - 1 - ((0 : Nat) : Int) = (its.toArray.size : Int) - 1 := by rw [List.size_toArray]; omega
      rw [e1]
      exact ⟨_, Heap.get?_push_size _ rfl, rfl, rfl⟩
    refine wpAny_pyIter_revIter (s := { s1 with heap := s1.heap.push (revObj l ((its.toArray.size : Int) - 1)) }) st0 ?_
    refine ⟨s1.heap.objs.size, [s1.heap.objs.size], _, _, H1, rfl, I1.kept (t' := s1.toks) fun b o e => Heap.get?_push_of_some _ e, turn_rev l _ xs, ⟨Nat.zero_le _, st0⟩, fun b hb => ?_, q⟩
    have e : b = s1.heap.objs.size := by simpa using hb
    subst e
    exact I1.fpOk (Nat.le_refl _) (I1.hok.fresh (Nat.le_refl _))
theorem comp_rev {K : PySem.W.Frag} {a : Addr} {xs : List V} {g : TG} {tt : TT} {te : TE} {D : Addr} {Q : VK} {σ₀ : St} {H₀ : Hp} (Pv : Nat → St → Hp → Prop) (h0 : Pv 0 σ₀ H₀) (hl : ∀ i σ H, i ≤ xs.length → Pv i σ H → SqL K H a xs)
    (hs : ∀ i x σ H, xs.reverse[i]? = some x → Pv i σ H → g x σ H fun σ3 H3 => tt σ3 H3 fun b H4 => if b = true then te σ3 H4 fun v H5 => ∃ ys, H5 D = some (.lst ys) ∧ ys.length < sizeLine ∧ Pv (i + 1) σ3 (upd H5 D (.lst (ys ++ [v]))) else Pv (i + 1) σ3 H4)
    (hd : ∀ σ H, Pv xs.length σ H → Q (.ref D) H) : CompW (Itv K a xs) g tt te D Q σ₀ H₀ := by
  refine ⟨fun i m σ H => m = xs.length - i ∧ i ≤ xs.length ∧ Pv i σ H, ⟨xs.length, by simp, Nat.zero_le _, h0⟩, ?_⟩
  rintro i m σ H ⟨rfl, hi, p⟩
  have q := hl i σ H hi p
  by_cases hlt : i < xs.length
  · refine .inr ⟨⟨hlt, q⟩, Pv (i + 1), fun σ' H' p' => ⟨xs.length - (i + 1), by omega, rfl, hlt, p'⟩, fun x H' y => ?_⟩
    obtain ⟨e, y⟩ := y
    subst e
    exact hs i x σ _ (by rw [List.getElem?_reverse hlt]; exact y) p
  · have e : i = xs.length := by omega
    subst e
    exact .inl ⟨Nat.le_refl _, hd σ H p⟩
end

theorem rev_len : typeLookup (.type "list_reverseiterator") "__len__" = pure none := by rw [typeLookup_type, builtinLookup_eq_fast]; kernel_rfl
theorem rev_hint : typeLookup (.type "list_reverseiterator") "__length_hint__" = pure (some (.builtin "list_reverseiterator.__length_hint__")) := by rw [typeLookup_type, builtinLookup_eq_fast]; kernel_rfl
theorem rev_sub : isSubtype (.type "list_reverseiterator") (.type "list_reverseiterator") = pure true := by rw [isSubtype_type]; kernel_rfl
theorem rev_split : splitId "list_reverseiterator.__length_hint__" = some ("list_reverseiterator", "__length_hint__") := by decide +kernel
section
variable {prog : Program} {w : World} {A : Around} {E : Value → Shared → Prop} {s : Shared} {R : Result → Shared → Prop} {I l S : Addr} {items : Array Value}
theorem hint_rev {M : Model} {Q : Bool → Shared → Prop} (hT : s.TypeIs (.ref I) "list_reverseiterator") (h : Q false s) : wpAny M A (Builtin.List.listLengthHint (.ref I)) Q E s := by
  unfold Builtin.List.listLengthHint
  refine wpAny_bind (wpAny_specialOf hT rev_len ?_)
  show wpAny _ _ (specialOf (Value.ref I) (Str.ofString "__length_hint__") >>= _) _ _ _
  refine wpAny_bind (wpAny_specialOf hT rev_hint ?_)
  simp only [rev_split]
  refine wpAny_bind (wpAny_isInstance hT rev_sub ?_)
  exact wpAny_pure h
theorem extend_rev (hh : A.handled = none) (hI : s.heap.IsRevIter I l ((items.size : Int) - 1)) (hl : s.heap.IsList l items) (hne : l ≠ I) (hz : items.size ≤ sizeLine) (hSI : S ≠ I) (hSl : S ≠ l) (res : Value) (c₀ : Nat) (hS : s.heap.get? S = some { cls := .type "list", data := .seq #[] c₀ })
    (hR : ∀ h' tk acc' c', (∀ b o, b ≠ S → b ≠ I → s.heap.get? b = some o → h'.get? b = some o) → h'.get? S = some { cls := .type "list", dict := none, data := .seq acc' c', slots := #[] } → ItemsOf (fun i v => items[items.size - 1 - i]? = some v) acc' items.size → R (.ok (.ret res)) { s with heap := h', toks := tk }) :
    wpAny (model prog w) A.in1 (Builtin.List.listExtendWith (.ref S) (.ref I) res)
      (fun fin s' => match fin with | .done f => R (.ok f) s' | .again c' => c'.quiet = true ∧ codeAny (model prog w) A c' R s') (fun e s' => R (.error e) s') s := by
  have W := (Walks.listRev (prog := prog) (w := w) (A := A.in1) hh I l hne items).toS
  have hT := hI.typeIs
  unfold Builtin.List.listExtendWith
  refine wpAny_bind (wpAny_typeOf hT ?_)
  have h1 : Builtin.List.listSameRef (.ref S) (.ref I) = false := by simp [Builtin.List.listSameRef, hSI]
  have h2 : (Value.type "list_reverseiterator" == Value.type "list") = false := by decide
  have h3 : (Value.type "list_reverseiterator" == Value.type "tuple") = false := by decide
  simp only [h1, h2, h3, Bool.or_false, Bool.false_eq_true, if_false]
  refine wpAny_bind (wpAny_pyIter_revIter hI ?_)
  refine wpAny_bind (wpAny_holding (hint_rev hT ?_))
  show wpAny _ _ (again (.builtin "list.extend.loop" ⟨[.ref S, .ref I, res], []⟩)) _ _ _
  refine wpAny_pure ⟨plainId_quiet F.plain_extend_loop _, ?_⟩
  refine codeAny_extend_loopS W hz S (by simp [hSI, hSl]) res items.size 0 s #[] c₀ rfl (Nat.zero_le _) ⟨Nat.zero_le _, by simpa using hI, hl⟩ hS (ItemsOf.nil _) fun s' acc' c' hm hS' hacc => ?_
  rw [Moved.eq_with hm]
  exact hR s'.heap s'.toks acc' c' (fun b o b1 b2 e => hm.heap b o (by simp [b1, b2]) e) hS' hacc
theorem call_list_rev {Q : Value → Shared → Prop} (hh : A.handled = none) (hI : s.heap.IsRevIter I l ((items.size : Int) - 1)) (hl : s.heap.IsList l items) (hne : l ≠ I) (hz : items.size ≤ sizeLine)
    (hQ : ∀ h' tk acc' c', (∀ b o, b ≠ I → s.heap.get? b = some o → h'.get? b = some o) → h'.get? s.heap.objs.size = some { cls := .type "list", dict := none, data := .seq acc' c', slots := #[] } → ItemsOf (fun i v => items[items.size - 1 - i]? = some v) acc' items.size → Q (.ref s.heap.objs.size) { s with heap := h', toks := tk }) :
    wpAny (model prog w) A (call (.type "list") [.ref I]) Q E s := by
  have ltI : I < s.heap.objs.size := let ⟨_, e, _⟩ := hI; Heap.lt_size e
  have ltl : l < s.heap.objs.size := let ⟨_, e, _⟩ := hl; Heap.lt_size e
  refine callType_codes (Q₁ := fun obj s₁ => obj = .ref s.heap.objs.size ∧ s₁ = { s with heap := s.heap.push { cls := .type "list", data := .seq #[] } }) F.called_list (F.typeCall_list_1 _) F.entry_list_init
    (code_list_new _ ⟨rfl, rfl⟩) fun obj s₁ h₁ => ?_
  obtain ⟨rfl, rfl⟩ := h₁
  have hS : (s.heap.push { cls := .type "list", data := .seq #[] }).get? s.heap.objs.size = some { cls := .type "list", data := .seq #[] } := Heap.get?_push_size _ rfl
  refine ⟨⟨_, hS, rfl⟩, F.args_list_init_2 _ _, ?_⟩
  show wpAny _ _ (do let old ← Builtin.List.listItems (.ref s.heap.objs.size); Builtin.List.listUpdate (.ref s.heap.objs.size) (fun _ => #[]); letGo old.toList.reverse; Builtin.List.listExtendWith (.ref s.heap.objs.size) (.ref I) .none) _ _ _
  refine wpAny_bind ?_
  unfold Builtin.List.listItems
  refine wpAny_bind (wpAny_seqItems hS rfl (wpAny_pure ?_))
  show wpAny _ _ (updateSeq s.heap.objs.size (fun _ => #[]) >>= fun _ => letGo (#[] : Array Value).toList.reverse >>= fun _ => Builtin.List.listExtendWith (.ref s.heap.objs.size) (.ref I) .none) _ _ _
  refine wpAny_bind (wpAny_updateSeq hS rfl ?_)
  have hS2 := Heap.get?_update_self (Obj.mapSeq (fun _ => (#[] : Array Value))) hS rfl
  have oth : ∀ b o, s.heap.get? b = some o → ((s.heap.push { cls := .type "list", data := .seq #[] }).update s.heap.objs.size (Obj.mapSeq (fun _ => (#[] : Array Value)))).get? b = some o :=
    fun b o e => (Heap.get?_update_other _ _ (Ne.symm (Nat.ne_of_lt (Heap.lt_size e)))).trans (Heap.get?_push_of_some _ e)
  refine wpAny_bind (wpAny_letGo ?_)
  refine extend_rev (A := A.in1) (s := { s with heap := (s.heap.push { cls := .type "list", data := .seq #[] }).update s.heap.objs.size (Obj.mapSeq (fun _ => (#[] : Array Value))) }) hh (hI.at fun o e => oth I o e) (hl.at fun o e => oth l o e) hne hz (Nat.ne_of_gt ltI) (Nat.ne_of_gt ltl) .none _ hS2 fun h' tk acc' c' hk hS' hacc => ?_
  exact ⟨rfl, hQ h' tk acc' c' (fun b o b1 e => hk b o (Nat.ne_of_lt (Heap.lt_size e)) b1 (oth b o e)) hS' hacc⟩
end
section
variable {X : Cx}
def tLRev (K : PySem.W.Frag) (ta : TA) : TE := fun σ H Q => ta σ H fun vs H1 => ∃ l xs, vs = [.ref l] ∧ SqL K H1 l xs ∧ ∀ r, H1 r = none → Q (.ref r) (upd H1 r (.lst xs.reverse))
theorem pe_lrev {a : Expr} {ta : TA} {p q pos pos' : Pos} (hc : X.calm = true) (hgl : Gl X "list") (hml : X.mg "list" = none) (hgr : Gl X "reversed") (hmr : X.mg "reversed" = none) (ha : PA X [a] ta) (hs : starEach [a] X.env = [(false, eval a X.env)] := by rfl)
    (hs2 : starEach [.Call (.Name "reversed" q) [a] [] pos'] X.env = [(false, eval (.Call (.Name "reversed" q) [a] [] pos') X.env)] := by rfl) :
    PE X (.Call (.Name "list" p) [.Call (.Name "reversed" q) [a] [] pos'] [] pos) (tLRev X.K ta) := by
  intro pins s σ H Q I h
  refine Call_ (ld_blt I hgl hml bb_list (PyProof.Rows.callWith_type1 ?_ hs2 rfl))
  rw [hs2]
  show wpAny _ _ (spliced [(false, eval (.Call (.Name "reversed" q) [a] [] pos') X.env)]) _ _ s
  refine Calls.spliced_cons ?_
  refine Call_ (ld_blt I hgr hmr bb_reversed (PyProof.Rows.callWith_type1 (thn (ha pos' pins s σ H _ I h) fun us s1 ⟨vs, H1, I1, r1, q1⟩ => ?_) hs rfl))
  obtain ⟨l, xs, e, hq, q⟩ := q1
  subst e
  cases r1 with
  | cons r rr =>
    cases rr
    cases r
    obtain ⟨its, rv, ht, hz⟩ := I1.list hq
    have hlen := rv.length
    have ltl : l < s1.heap.objs.size := let ⟨_, e, _⟩ := ht.isList; Heap.lt_size e
    refine call_reversed_list ht.isList ?_
    refine Calls.spliced_nil ?_
    have hI : (s1.heap.push (revObj l ((its.toArray.size : Int) - 1))).IsRevIter s1.heap.objs.size l ((its.toArray.size : Int) - 1) := ⟨_, Heap.get?_push_size _ rfl, rfl, rfl⟩
    have hl2 : (s1.heap.push (revObj l ((its.toArray.size : Int) - 1))).IsList l its.toArray := ht.isList.at fun o e => Heap.get?_push_of_some _ e
    refine call_list_rev (s := { s1 with heap := s1.heap.push (revObj l ((its.toArray.size : Int) - 1)) }) (I1.ok.hd hc) hI hl2 (Nat.ne_of_lt ltl) (by rw [List.size_toArray]; omega) fun h' tk acc' c' hk hS' hacc => ?_
    have hz2 : (s1.heap.push (revObj l ((its.toArray.size : Int) - 1))).objs.size = s1.heap.objs.size + 1 := Heap.size_push ..
    have hk2 : ∀ b o, s1.heap.get? b = some o → h'.get? b = some o := fun b o e => hk b o (Nat.ne_of_lt (Heap.lt_size e)) (Heap.get?_push_of_some _ e)
    have hfr : H1 (s1.heap.push (revObj l ((its.toArray.size : Int) - 1))).objs.size = none := I1.hok.fresh (by rw [hz2]; exact Nat.le_succ _)
    refine ⟨.ref _, _, I1.laid (a := (s1.heap.push (revObj l ((its.toArray.size : Int) - 1))).objs.size) (o := .lst xs.reverse) (t' := tk) hk2 (by rw [hz2]; exact Nat.le_succ _) ⟨by rw [List.length_reverse]; exact hz, acc'.toList, c', ?_, by simpa using hS'⟩, rfl, q _ hfr⟩
    have al : acc'.toList.length = its.length := by have z := hacc.1; rw [List.size_toArray] at z; rw [Array.length_toList]; exact z
    refine vals_of_get (by rw [List.length_reverse, al]; exact hlen) fun i x v e1 e2 => ?_
    have hi : i < xs.length := by have z := (List.getElem?_eq_some_iff.mp e1).1; rw [List.length_reverse] at z; exact z
    rw [List.getElem?_reverse hi] at e1
    have z := hacc.2 i v (by simpa using e2)
    obtain ⟨u, hu, ru⟩ := rv.get e1
    rw [List.size_toArray, ← hlen] at z
    have z2 : its[xs.length - 1 - i]? = some v := by simpa using z
    rw [hu] at z2
    cases z2
    exact ru
end
end L2


namespace L2
open PySem PySem.Spec PyProof.Rows
theorem bb_max : bootBuiltins "max" = some (.builtin "max") := by decide +kernel
end L2

namespace L2
open PySem PySem.Spec PyProof.Rows
section
variable {X : Cx}
theorem tup_items {s : Shared} {A : Around} {ns ms : List Int} {i1 i2 : List Value} (r1 : Vals (ns.map V.int) i1) (r2 : Vals (ms.map V.int) i2) (j : Nat) (h1 : j < i1.toArray.size) (h2 : j < i2.toArray.size) :
    SeqAt.EqAt A.in1 s i1.toArray[j] i2.toArray[j] (ns.getD j 0 == ms.getD j 0) := by
  have l1 : ns.length = i1.length := by have z := r1.length; rwa [List.length_map] at z
  have l2 : ms.length = i2.length := by have z := r2.length; rwa [List.length_map] at z
  have hj : j < ns.length := by simp only [List.size_toArray] at h1; omega
  have hj2 : j < ms.length := by simp only [List.size_toArray] at h2; omega
  obtain ⟨x1, e1, t1⟩ := vals_at r1 h1
  obtain ⟨x2, e2, t2⟩ := vals_at r2 h2
  rw [List.getElem?_map, List.getElem?_eq_getElem hj] at e1
  rw [List.getElem?_map, List.getElem?_eq_getElem hj2] at e2
  obtain rfl := Option.some.inj e1
  obtain rfl := Option.some.inj e2
  obtain ⟨k1, q1⟩ := t1
  obtain ⟨k2, q2⟩ := t2
  rw [q1, q2]
  have g1 : ns.getD j 0 = ns[j] := by simp [List.getD, List.getElem?_eq_getElem hj]
  have g2 : ms.getD j 0 = ms[j] := by simp [List.getD, List.getElem?_eq_getElem hj2]
  rw [g1, g2]
  exact SeqAt.EqAt.int_int (A := A.in1) (s := s) ns[j] k1 ms[j] k2
theorem tup_answer {ns ms : List Int} {i1 i2 : List Value} (r1 : Vals (ns.map V.int) i1) (r2 : Vals (ms.map V.int) i2) :
    ((List.range (min i1.toArray.size i2.toArray.size)).all (fun j => ns.getD j 0 == ms.getD j 0) && i1.toArray.size == i2.toArray.size) = decide (ns = ms) := by
  have l1 : ns.length = i1.length := by have z := r1.length; rwa [List.length_map] at z
  have l2 : ms.length = i2.length := by have z := r2.length; rwa [List.length_map] at z
  by_cases c : ns = ms
  · subst c
    rw [decide_eq_true rfl, Bool.and_eq_true]
    exact ⟨List.all_eq_true.mpr fun _ _ => beq_self_eq_true _, by simp only [List.size_toArray, ← l1, ← l2]; exact beq_self_eq_true _⟩
  · rw [decide_eq_false c]
    refine Bool.eq_false_iff.mpr fun z => c ?_
    rw [Bool.and_eq_true] at z
    have hl : ns.length = ms.length := by have z2 := eq_of_beq z.2; simp only [List.size_toArray] at z2; omega
    refine List.ext_getElem hl fun j q1 q2 => ?_
    have z2 := List.all_eq_true.mp z.1 j (List.mem_range.mpr (by simp only [List.size_toArray]; omega))
    have g1 : ns.getD j 0 = ns[j] := by simp [List.getD, List.getElem?_eq_getElem q1]
    have g2 : ms.getD j 0 = ms[j] := by simp [List.getD, List.getElem?_eq_getElem q2]
    rw [← g1, ← g2]
    exact eq_of_beq z2
theorem eqAt_tupD {pins : List (Addr × Obj)} {σ : St} {H : Hp} {s : Shared} {A : Around} {t u : Addr} {ns ms : List Int} (I : Inv X pins σ H s) (hu : A.units < cLine) (ht : SqT X.K H t (ns.map V.int)) (hw : SqT X.K H u (ms.map V.int)) : SeqAt.EqAt A s (.ref t) (.ref u) (decide (ns = ms)) := by
  obtain ⟨i1, r1, p1, z1⟩ := I.tuple ht
  obtain ⟨i2, r2, p2, z2⟩ := I.tuple hw
  by_cases e : t = u
  · subst e
    have ee : i1 = i2 := by
      obtain ⟨o1, e1, d1, n1, f1⟩ := p1
      obtain ⟨o2, e2, d2, n2, f2⟩ := p2
      rw [e1] at e2; cases e2
      rw [f1] at f2
      injection f2 with f3 _
      simpa using congrArg Array.toList f3
    subst ee
    have en : ns = ms := by
      have l1 : ns.length = i1.length := by have z := r1.length; rwa [List.length_map] at z
      have l2 : ms.length = i1.length := by have z := r2.length; rwa [List.length_map] at z
      refine List.ext_getElem (by omega) fun j q1 q2 => ?_
      have a1 : (ns.map V.int)[j]? = some (.int ns[j]) := by rw [List.getElem?_map, List.getElem?_eq_getElem q1]; rfl
      have a2 : (ms.map V.int)[j]? = some (.int ms[j]) := by rw [List.getElem?_map, List.getElem?_eq_getElem q2]; rfl
      obtain ⟨u1, e1, t1, rfl⟩ := r1.get a1
      obtain ⟨u2, e2, t2, rfl⟩ := r2.get a2
      rw [e1] at e2
      injection e2 with e2
      injection e2
    rw [decide_eq_true en]
    exact SeqAt.EqAt.same _
  · have z := SeqAt.RcAt.tuples (e := fun j => ns.getD j 0 == ms.getD j 0) (show s.heap.IsTuple t i1.toArray from p1) (show s.heap.IsTuple u i2.toArray from p2) hu fun j h1 h2 => tup_items r1 r2 j h1 h2
    rw [tup_answer r1 r2] at z
    exact SeqAt.EqAt.of_refs e z
end
end L2
namespace L2E
open PySem AutoSeq1 MeetsSeq
theorem tuple_addW0 (l b : Addr) (items items2 : Array Value) (n n2 : Nat) (dd dd2 : Option Addr) (sl sl2 : Array (Option Value)) (hc0 : items.isEmpty = true) :
    Meets (Builtin.«tuple.__add__» ⟨[.ref l, .ref b], []⟩) (fun _ R s => s.heap.get? l = some { cls := .type "tuple", dict := dd, data := .seq items n, slots := sl } ∧ s.heap.get? b = some { cls := .type "tuple", dict := dd2, data := .seq items2 n2, slots := sl2 } ∧ R (.ok (.ret (Value.ref b))) s) :=
  .of_wp fun prog w A R s h => by obtain ⟨hp, g, d, tk, os⟩ := s; obtain ⟨hl, hb, h⟩ := h; have f1 := idx_int; have f2 := sub_tuple_tuple; have f3 := sub_list_list; have f4 := sub_tuple_list; have f5 := sub_list_tuple; wp_walk using wpAny_loadPart' hl, wpAny_loadPart' hb; exact ⟨_, rfl, h⟩
end L2E
namespace L2
open PySem PySem.Spec PyProof.Rows
section
variable {X : Cx}
def rCatT2 (K : PySem.W.Frag) : R2 := fun x y H Q => ∃ a b xs ys, x = .ref a ∧ y = .ref b ∧ SqT K H a xs ∧ SqT K H b ys ∧ ys ≠ [] ∧ xs.length + ys.length ≤ sizeLine ∧
  (xs = [] → Q (.ref b) H) ∧ (xs ≠ [] → ∀ p, H p = none → Q (.ref p) (upd H p (.tup (xs ++ ys))))
theorem op_catT2 : OpR X (binaryOp .Add) (rCatT2 X.K) := by
  intro pins s σ H x y v u Q I rx ry h
  obtain ⟨a, b, xs, ys, ex, ey, ha, hb, hy, hz, q1, q2⟩ := h
  by_cases hx : xs = []
  · subst ex ey
    cases rx
    cases ry
    obtain ⟨its, r1, p1, _⟩ := I.tuple ha
    obtain ⟨its2, r2, p2, _⟩ := I.tuple hb
    obtain ⟨⟨cls, dd, data, sl⟩, ho, hc, n, hd⟩ := id p1
    obtain ⟨⟨cls2, dd2, data2, sl2⟩, ho2, hc2, n2, hd2⟩ := id p2
    simp only at hc hd hc2 hd2
    subst hc hd hc2 hd2
    have e : its = [] := r1.nil_iff.mpr hx
    exact concat_meets ⟨_, ho, rfl⟩ ⟨_, ho2, rfl⟩ noFill_tuple_add seq_tuple_add PySem.F.slot_tuple_add PySem.F.entry_tuple_add (PySem.F.args_tuple_add_2 _ _)
      (L2E.tuple_addW0 a b its.toArray its2.toArray n n2 dd dd2 sl sl2 (by rw [e]; rfl)) ⟨ho, ho2, ⟨.ref b, H, I, rfl, q1 hx⟩⟩
  · exact op_catT pins s σ H x y v u Q I rx ry ⟨a, b, xs, ys, ex, ey, ha, hb, hx, hz, fun z => absurd z hy, fun _ => q2 hx⟩
end
end L2


namespace L2
open PySem PySem.Spec PyProof.Rows
section
variable {X : Cx}
def LT (H : Hp) (a : Addr) (xs : List V) : Prop := H a = some (.lst xs) ∨ H a = some (.tup xs)
def rIxA (K : PySem.W.Frag) : R2 := fun x y H Q => ∃ p xs i v, x = .ref p ∧ y = .int i ∧ LT H p xs ∧ atI xs i = some v ∧ Q v H
theorem ix_any {K : PySem.W.Frag} (hK : X.K = K) : IxR X (rIxA K) := by
  intro value slice pins s σ H x y v u Q I rx ry h hs
  obtain ⟨p, xs, i, z, e1, e2, hq, he, q⟩ := h
  rcases hq with hq | hq
  · exact ix_listK hK value slice pins s σ H x y v u Q I rx ry ⟨p, xs, i, z, e1, e2, SqL.of hq, he, q⟩ hs
  · exact ix_tupK hK value slice pins s σ H x y v u Q I rx ry ⟨p, xs, i, z, e1, e2, SqT.of hq, he, q⟩ hs
end
end L2

namespace L2
open PySem PySem.Spec PyProof.Rows
section
variable {X : Cx}
theorem op_ne_intsD (hu : X.A.units < cLine) : OpR X (compareOp .NotEq) (fun x y H Q => ∃ (a b : Addr) (ns ms : List Int), x = .ref a ∧ y = .ref b ∧ SqL X.K H a (ns.map V.int) ∧ SqL X.K H b (ms.map V.int) ∧ ns.length = ms.length ∧ Q (.bl (!decide (ns = ms))) H) := by
  intro pins s σ H x y v u Q I rx ry h
  obtain ⟨a, b, ns, ms, rfl, rfl, ha, hb, hl, q⟩ := h
  cases rx
  cases ry
  obtain ⟨i1, r1, p1, z1⟩ := I.list ha
  obtain ⟨i2, r2, p2, z2⟩ := I.list hb
  have l1 : ns.length = i1.length := by have z := r1.length; rwa [List.length_map] at z
  have l2 : ms.length = i2.length := by have z := r2.length; rwa [List.length_map] at z
  refine SeqAt.RcNeAt.lists (A := X.A) (e := fun j => ns.getD j 0 == ms.getD j 0) p1.isList p2.isList (by simp only [List.size_toArray]; omega) (by omega) (fun j q1 q2 => tup_items r1 r2 j q1 q2) X.prog X.w X.xe _ ⟨.bl (!decide (ns = ms)), H, I, ?_, q⟩
  show Value.bool _ = Value.bool _
  congr 1
  have z := tup_answer r1 r2
  have e : (i1.toArray.size == i2.toArray.size) = true := by simp only [List.size_toArray, beq_iff_eq]; omega
  have e2 : min i1.toArray.size i2.toArray.size = i1.toArray.size := by simp only [List.size_toArray]; omega
  rw [e, Bool.and_true, e2] at z
  rw [z]
end
end L2

namespace Mir
open PySem L2

theorem take_snoc {α : Type} {l : List α} {i : Nat} {x : α} (h : l[i]? = some x) : l.take (i + 1) = l.take i ++ [x] := by
  rw [List.take_add_one, h]; rfl
def spWhole : Sp := fun vs H Q _ => ∃ e : Int, vs = [.int e] ∧ Q (.bl true) H
end Mir


namespace Mir
open PySem L2
def spCellAt (K : PySem.W.Frag) : Sp := fun vs H Q _ => ∃ (a : Addr) (ns : List Int) (k : Nat), vs = [.ref a, .int k] ∧ SqL K H a (ns.map V.int) ∧ ∀ i : Int, Q (.int i) H
end Mir




namespace Mir
open PySem L2
def iV (ns : List Int) : List V := ns.map V.int
theorem iV_len (ns : List Int) : (iV ns).length = ns.length := by unfold iV; rw [List.length_map]
theorem iV_get {ns : List Int} {i : Nat} {m : Int} (h : ns[i]? = some m) : (iV ns)[i]? = some (.int m) := by unfold iV; rw [List.getElem?_map, h]; rfl
theorem iV_get' {ns : List Int} {i : Nat} {x : V} (h : (iV ns)[i]? = some x) : ∃ m, ns[i]? = some m ∧ x = .int m := by
  unfold iV at h
  rw [List.getElem?_map] at h
  cases e : ns[i]? with
  | none => rw [e] at h; cases h
  | some m => rw [e] at h; exact ⟨m, rfl, (Option.some.inj h).symm⟩
theorem cut_from {xs : List V} {k : Nat} (h : k ≤ xs.length) : cutV xs (some (k : Int)) none = xs.drop k := by
  unfold cutV
  have e1 : HT.sIx xs.length 0 (some (k : Int)) = k := by unfold HT.sIx; simp only; rw [if_neg (by omega), Int.toNat_natCast]; omega
  have e2 : HT.sIx xs.length xs.length none = xs.length := rfl
  rw [e1, e2]
  exact List.take_of_length_le (by rw [List.length_drop]; omega)
theorem cut_to {xs : List V} {k : Nat} (h : k ≤ xs.length) : cutV xs none (some (k : Int)) = xs.take k := by
  unfold cutV
  have e1 : HT.sIx xs.length xs.length (some (k : Int)) = k := by unfold HT.sIx; simp only; rw [if_neg (by omega), Int.toNat_natCast]; omega
  have e2 : HT.sIx xs.length 0 none = 0 := rfl
  rw [e1, e2]
  rfl
end Mir

namespace L2
open PySem PySem.Spec
theorem bb_abs : bootBuiltins "abs" = some (.builtin "abs") := by decide +kernel
end L2
namespace Mir
open PySem L2
def absI (i : Int) : Int := if i < 0 then -i else i
def absL (ns : List Int) : List Int := ns.map absI
def from1 (n : Nat) : List Int := (List.range n).map fun (i : Nat) => 1 + (i : Int)
structure Fit (ns : List Int) : Prop where
  small : ns.length ≤ 40
  perm : (absL ns).Perm (from1 ns.length)
theorem absL_len (ns : List Int) : (absL ns).length = ns.length := by unfold absL; rw [List.length_map]
theorem from1_succ (n : Nat) : from1 (n + 1) = from1 n ++ [(n : Int) + 1] := by
  unfold from1
  rw [List.range_succ, List.map_append]
  show _ ++ [1 + (n : Int)] = _
  rw [Int.add_comm]
def spRowIs : Sp := fun vs H Q _ => ∃ (a b : Addr) (ns : List Int), vs = [.ref a, .ref b] ∧ H a = some (.tup (iV ns)) ∧ LT H b (iV ns) ∧ ns.length ≤ 1000 ∧ Q (.bl true) H
end Mir

namespace L2E
open PySem PySem.Spec PyProof.Rows
section
variable {prog : Program} {w : World} {A : Around} {E : Value → Shared → Prop} {s : Shared}
open HT in
theorem getItem_tuple_all {t sl : Addr} {items : Array Value} {vl vu : Value} {lo hi : Option Int} {Q : Value → Shared → Prop} (ht : IsTup s.heap t items) (hs : s.heap.IsSliceOf sl vl vu .none) (pl : IsPart vl lo) (pu : IsPart vu hi)
    (hw : HT.sIx items.size 0 lo = 0 ∧ HT.sIx items.size items.size hi = items.size) (h : Q (.ref t) s) (hsz : items.size ≤ sizeLine) : wpAny (model prog w) A (getItem (.ref t) (.ref sl)) Q E s := by
  obtain ⟨os, hos, hcs, hds⟩ := id hs
  have hTs : s.TypeIs (.ref sl) "slice" := ⟨os, hos, hcs⟩
  unfold getItem
  try with_reducible refine wpAny_holding ?_
  first | refine wpAny_bind (wpAny_pure ?_) | skip
  refine wpAny_bind (wpAny_sequenceKey ht.typeIs (by decide) ?_)
  refine wpAny_bind (wpAny_callSpecial?_slot (name := Str.ofString "__getitem__") ht.typeIs PyProof.Rows.slot_tuple_getitem
    (wpAny_call_entry PyProof.Rows.slot_tuple_getitem ht.typeIs entry_tuple_getitem ?_ (args_tuple_getitem _ _)))
  show wpAny _ _ (Builtin.Tuple.tupleItemsOf (.ref t) >>= _) _ _ s
  refine wpAny_bind (tupleItemsOf_ ht ?_)
  refine wpAny_bind (wpAny_typeOf hTs ?_)
  rw [if_pos (by decide)]
  refine wpAny_bind (sliceApplied_gen hs pl pu ?_)
  have hyes : ((((HT.sIx items.size 0 lo : Nat) : Int) == 0 && (1 : Int) == 1 && (HT.sIx items.size items.size hi - HT.sIx items.size 0 lo) == items.size) = true) := by
    rw [hw.1, hw.2]; simp
  show wpAny _ _ (if (((HT.sIx items.size 0 lo : Nat) : Int) == 0 && (1 : Int) == 1 && (HT.sIx items.size items.size hi - HT.sIx items.size 0 lo) == items.size) = true then _ else _) _ _ s
  rw [if_pos hyes]
  refine wpAny_bind ?_
  refine wpAny_bind (wpAny_typeOf ht.typeIs ?_)
  refine wpAny_pure ?_
  refine wpAny_ite_split (fun _ => ?_) (fun hab => absurd (by decide) hab)
  exact wpAny_bind (wpAny_rule (wpAny_pure ⟨_, rfl, wpAny_pure h⟩))
end
end L2E
namespace L2
open PySem PySem.Spec PyProof.Rows
section
variable {X : Cx}
def rCatA : R2 := fun x y H Q => ∃ a b xs ys, x = .ref a ∧ y = .ref b ∧ H a = some (.tup xs) ∧ H b = some (.tup ys) ∧ xs.length + ys.length ≤ sizeLine ∧ ∀ p H1, Same H H1 → H1 p = some (.tup (xs ++ ys)) → Q (.ref p) H1
theorem op_catA : OpR X (binaryOp .Add) rCatA := by
  intro pins s σ H x y v u Q I rx ry h
  obtain ⟨a, b, xs, ys, ex, ey, ha, hb, hz, q⟩ := h
  by_cases hy : ys = []
  · subst hy
    by_cases hx : xs = []
    · subst hx ex ey
      cases rx
      cases ry
      obtain ⟨its, r1, p1, _⟩ := I.tuple (SqT.of ha)
      obtain ⟨its2, r2, p2, _⟩ := I.tuple (SqT.of hb)
      obtain ⟨⟨cls, dd, data, sl⟩, ho, hc, n, hd⟩ := id p1
      obtain ⟨⟨cls2, dd2, data2, sl2⟩, ho2, hc2, n2, hd2⟩ := id p2
      simp only at hc hd hc2 hd2
      subst hc hd hc2 hd2
      have e : its = [] := r1.nil_iff.mpr rfl
      exact concat_meets ⟨_, ho, rfl⟩ ⟨_, ho2, rfl⟩ noFill_tuple_add seq_tuple_add PySem.F.slot_tuple_add PySem.F.entry_tuple_add (PySem.F.args_tuple_add_2 _ _)
        (L2E.tuple_addW0 a b its.toArray its2.toArray n n2 dd dd2 sl sl2 (by rw [e]; rfl)) ⟨ho, ho2, ⟨.ref b, H, I, rfl, q b H (Same.refl _) hb⟩⟩
    · exact op_catT pins s σ H x y v u Q I rx ry ⟨a, b, xs, [], ex, ey, SqT.of ha, SqT.of hb, hx, hz, fun _ => q a H (Same.refl _) (by rw [List.append_nil]; exact ha), fun z => absurd rfl z⟩
  · exact op_catT2 pins s σ H x y v u Q I rx ry ⟨a, b, xs, ys, ex, ey, SqT.of ha, SqT.of hb, hy, hz, fun z => q b H (Same.refl _) (by rw [z]; exact hb), fun _ p hp => q p _ (same_upd hp) upd_same⟩
def rSlA : V → Option Int → Option Int → Hp → VK → Prop := fun x lo hi H Q => ∃ a xs, x = .ref a ∧ H a = some (.tup xs) ∧ ∀ p H1, Same H H1 → H1 p = some (.tup (cutV xs lo hi)) → Q (.ref p) H1
theorem sl_tupA : SlR X rSlA := by
  intro pins s σ H x v vl vu lo hi sl Q I rx hs pl pu h
  obtain ⟨a, xs, rfl, hx, q⟩ := h
  by_cases hw : HT.sIx xs.length 0 lo = 0 ∧ HT.sIx xs.length xs.length hi = xs.length
  · cases rx
    obtain ⟨its, r, ht, hz⟩ := I.tuple (SqT.of hx)
    have hlen : its.toArray.size = xs.length := by rw [List.size_toArray]; exact r.length.symm
    refine ⟨"tuple", _, PyProof.Rows.slot_tuple_getitem.lookup, ht.typeIs, ?_⟩
    refine L2E.getItem_tuple_all ht hs pl pu (by rw [hlen]; exact hw) ?_ (by rw [hlen]; exact hz)
    refine ⟨.ref a, H, I, rfl, q a H (Same.refl _) ?_⟩
    have e : cutV xs lo hi = xs := by
      unfold cutV
      rw [hw.1, hw.2, List.drop_zero, Nat.sub_zero, List.take_length]
    rw [e]
    exact hx
  · exact sl_tup pins s σ H _ v vl vu lo hi sl Q I rx hs pl pu ⟨a, xs, rfl, SqT.of hx, hw, fun p hp => q p _ (same_upd hp) upd_same⟩
end
end L2

namespace Mir
open PySem L2
def TsT {α : Type} (f : α → List V) (H : Hp) (l : Addr) (xs : List α) : Prop :=
  ∃ ts : List Addr, H l = some (.lst (ts.map V.ref)) ∧ ts.length = xs.length ∧ ∀ (i : Nat) (t : Addr) (x : α), ts[i]? = some t → xs[i]? = some x → H t = some (.tup (f x))
section
variable {α : Type} {f : α → List V} {H H' : Hp} {l r b t d : Addr} {xs ys : List α} {x : α}
theorem TsT.same (h : TsT f H l xs) (s : Same H H') : TsT f H' l xs := by
  obtain ⟨ts, h1, h2, h3⟩ := h
  exact ⟨ts, s _ _ h1, h2, fun i t p e1 e2 => s _ _ (h3 i t p e1 e2)⟩
theorem TsT.nil (h : H l = some (.lst [])) : TsT f H l ([] : List α) := ⟨[], h, rfl, fun i t r e => by simp at e⟩
theorem TsT.len (h : TsT f H l xs) : ∃ vs, H l = some (.lst vs) ∧ vs.length = xs.length := by
  obtain ⟨ts, h1, h2, _⟩ := h
  exact ⟨_, h1, by rw [List.length_map]; exact h2⟩
theorem TsT.get {i : Nat} (h : TsT f H l xs) (e : xs[i]? = some x) : ∃ vs t, H l = some (.lst vs) ∧ vs[i]? = some (.ref t) ∧ H t = some (.tup (f x)) := by
  obtain ⟨ts, h1, h2, h3⟩ := h
  have hi := (List.getElem?_eq_some_iff.mp e).1
  have et : ts[i]? = some (ts[i]'(by omega)) := List.getElem?_eq_getElem (by omega)
  exact ⟨_, _, h1, by rw [List.getElem?_map, et]; rfl, h3 i _ x et e⟩
def Tup (f : α → List V) (H : Hp) (ts : List Addr) (xs : List α) : Prop := ts.length = xs.length ∧ ∀ (i : Nat) (t : Addr) (x : α), ts[i]? = some t → xs[i]? = some x → H t = some (.tup (f x))
theorem TsT.tup (h : TsT f H l xs) : ∃ ts, H l = some (.lst (ts.map V.ref)) ∧ Tup f H ts xs := by
  obtain ⟨ts, h1, h2, h3⟩ := h
  exact ⟨ts, h1, h2, h3⟩
theorem Tup.tst {ts : List Addr} (h : Tup f H ts xs) (hl : H l = some (.lst (ts.map V.ref))) : TsT f H l xs := ⟨ts, hl, h.1, h.2⟩
theorem Tup.upd {ts : List Addr} {o : HO} {vs : List V} (h : Tup f H ts xs) (hl : H l = some (.lst vs)) : Tup f (upd H l o) ts xs := ⟨h.1, fun i t p e1 e2 => by
  have key := h.2 i t p e1 e2
  rw [upd_ne (fun e => by rw [e, hl] at key; cases key)]
  exact key⟩
theorem Tup.app {ts us : List Addr} (h : Tup f H ts xs) (k : Tup f H us ys) : Tup f H (ts ++ us) (xs ++ ys) := ⟨by rw [List.length_append, List.length_append, h.1, k.1], fun i t p e1 e2 => by
  by_cases hi : i < ts.length
  · rw [List.getElem?_append_left hi] at e1
    rw [List.getElem?_append_left (by have := h.1; omega)] at e2
    exact h.2 i t p e1 e2
  · rw [List.getElem?_append_right (by omega)] at e1
    rw [List.getElem?_append_right (by have := h.1; omega), ← h.1] at e2
    exact k.2 _ t p e1 e2⟩
theorem Tup.one (h : H t = some (.tup (f x))) : Tup f H [t] [x] := ⟨rfl, fun i u p e1 e2 => by
  cases i with
  | zero => cases e1; cases e2; exact h
  | succ i => cases e1⟩
theorem TsT.snoc (h : TsT f H l xs) (ht : H t = some (.tup (f x))) : ∃ vs, H l = some (.lst vs) ∧ vs.length = xs.length ∧ TsT f (L2.upd H l (.lst (vs ++ [.ref t]))) l (xs ++ [x]) := by
  obtain ⟨ts, h1, h2⟩ := h.tup
  refine ⟨_, h1, by rw [List.length_map]; exact h2.1, ?_⟩
  exact ((h2.app (Tup.one ht)).upd h1).tst (by rw [upd_same, List.map_append]; rfl)
end
def pr (p : Int × Int) : List V := [.int p.1, .int p.2]
theorem getD_get {rs : List Int} {j : Nat} (h : j < rs.length) : rs[j]? = some (rs.getD j 0) := by
  rw [List.getD, List.getElem?_eq_getElem h]
  rfl
theorem cut_mid {xs : List V} {f l : Nat} (h1 : f ≤ l) (h2 : l ≤ xs.length) : cutV xs (some (f : Int)) (some (l : Int)) = (xs.drop f).take (l - f) := by
  unfold cutV
  have e1 : HT.sIx xs.length 0 (some (f : Int)) = f := by unfold HT.sIx; simp only; rw [if_neg (by omega), Int.toNat_natCast]; omega
  have e2 : HT.sIx xs.length xs.length (some (l : Int)) = l := by unfold HT.sIx; simp only; rw [if_neg (by omega), Int.toNat_natCast]; omega
  rw [e1, e2]
end Mir


namespace Mir
open PySem L2
def idx (os : List Int) (a : Int) : Nat := (absL os).idxOf a
theorem absL_get {os : List Int} {j : Nat} (h : j < os.length) : (absL os)[j]? = some (absI (os.getD j 0)) := by
  unfold absL
  rw [List.getElem?_map, getD_get h]
  rfl
theorem idx_at {os : List Int} (nd : (absL os).Nodup) {j : Nat} {a : Int} (h : (absL os)[j]? = some a) : idx os a = j := by
  have hj := (List.getElem?_eq_some_iff.mp h).1
  have ha : a ∈ absL os := List.mem_of_getElem? h
  have h1 : (absL os).idxOf a < (absL os).length := List.idxOf_lt_length_iff.mpr ha
  have h2 : (absL os)[(absL os).idxOf a] = a := List.getElem_idxOf h1
  have h3 : (absL os)[(absL os).idxOf a]? = (absL os)[j]? := by rw [List.getElem?_eq_getElem h1, h2, h]
  exact (List.getElem?_inj h1 nd).mp h3
theorem absI_neg (x : Int) : absI (-x) = absI x := by unfold absI; split <;> split <;> omega
theorem absI_pos (x : Int) : 0 ≤ absI x := by unfold absI; split <;> omega
end Mir

namespace Mir
def frm (rs : List Int) : List Int := 0 :: (rs ++ [(rs.length : Int) + 1])
theorem frm_len (rs : List Int) : (frm rs).length = rs.length + 2 := by unfold frm; simp
theorem frm_zero (rs : List Int) : (frm rs).getD 0 0 = 0 := rfl
theorem frm_mid {rs : List Int} {j : Nat} (h : j < rs.length) : (frm rs).getD (j + 1) 0 = rs.getD j 0 := by
  unfold frm
  rw [List.getD, List.getD, List.getElem?_cons_succ, List.getElem?_append_left h]
theorem frm_last (rs : List Int) : (frm rs).getD (rs.length + 1) 0 = (rs.length : Int) + 1 := by
  unfold frm
  rw [List.getD, List.getElem?_cons_succ, List.getElem?_append_right (Nat.le_refl _), Nat.sub_self]
  rfl
def from0 (n : Nat) : List Int := (List.range n).map fun (i : Nat) => (i : Int)
theorem from0_mem {n : Nat} {a : Int} : a ∈ from0 n ↔ 0 ≤ a ∧ a < n := by
  unfold from0
  rw [List.mem_map]
  constructor
  · rintro ⟨i, hi, rfl⟩
    have := List.mem_range.mp hi
    omega
  · rintro ⟨h1, h2⟩
    exact ⟨a.toNat, List.mem_range.mpr (by omega), by omega⟩
theorem from0_nodup (n : Nat) : (from0 n).Nodup := by
  unfold from0
  rw [List.nodup_iff_pairwise_ne, List.pairwise_map]
  exact List.pairwise_lt_range.imp fun h => by omega
theorem from0_cons (n : Nat) : from0 (n + 1) = 0 :: from1 n := by
  unfold from0 from1
  rw [List.range_succ_eq_map, List.map_cons, List.map_map]
  congr 1
  refine List.map_congr_left fun i _ => ?_
  show ((i + 1 : Nat) : Int) = 1 + (i : Int)
  omega
theorem frm_perm {rs : List Int} (h : Fit rs) : (absL (frm rs)).Perm (from0 (rs.length + 2)) := by
  have e : absL (frm rs) = 0 :: (absL rs ++ [(rs.length : Int) + 1]) := by
    unfold absL frm
    rw [List.map_cons, List.map_append]
    have e1 : absI ((rs.length : Int) + 1) = (rs.length : Int) + 1 := by unfold absI; rw [if_neg (by omega)]
    show 0 :: (_ ++ [absI ((rs.length : Int) + 1)]) = _
    rw [e1]
  rw [e, from0_cons, from1_succ]
  exact (h.perm.append_right _).cons _
theorem frm_nodup {rs : List Int} (h : Fit rs) : (absL (frm rs)).Nodup := (frm_perm h).nodup_iff.mpr (from0_nodup _)
theorem frm_mem {rs : List Int} (h : Fit rs) {a : Int} : a ∈ absL (frm rs) ↔ 0 ≤ a ∧ a < rs.length + 2 := by rw [(frm_perm h).mem_iff, from0_mem]; omega
theorem frm_abs {rs : List Int} (h : Fit rs) {j : Nat} (hj : j < rs.length + 2) : 0 ≤ absI ((frm rs).getD j 0) ∧ absI ((frm rs).getD j 0) < rs.length + 2 :=
  (frm_mem h).mp (List.mem_of_getElem? (absL_get (by rw [frm_len]; exact hj)))
theorem frm_inj {rs : List Int} (h : Fit rs) {i j : Nat} (hi : i < rs.length + 2) (hj : j < rs.length + 2) (e : absI ((frm rs).getD i 0) = absI ((frm rs).getD j 0)) : i = j := by
  have a1 := absL_get (os := frm rs) (j := i) (by rw [frm_len]; exact hi)
  have a2 := absL_get (os := frm rs) (j := j) (by rw [frm_len]; exact hj)
  rw [e] at a1
  exact (List.getElem?_inj (by rw [absL_len, frm_len]; exact hi) (frm_nodup h)).mp (a1.trans a2.symm)
abbrev plF (rs : List Int) (k : Nat) : Nat := idx (frm rs) (k : Int)
theorem plF_at {rs : List Int} (h : Fit rs) {j : Nat} (hj : j < rs.length + 2) {k : Nat} (e : absI ((frm rs).getD j 0) = k) : plF rs k = j :=
  idx_at (frm_nodup h) (by rw [absL_get (by rw [frm_len]; exact hj), e])
theorem plF_zero {rs : List Int} (h : Fit rs) : plF rs 0 = 0 := plF_at h (by omega) rfl
def isOpen (fs : List Int) (g : Nat) : Bool := decide (fs.getD (g + 1) 0 ≠ fs.getD g 0 + 1)
def openL (fs : List Int) (m : Nat) : List Int := ((List.range m).filter (isOpen fs)).map fun (g : Nat) => (g : Int)
theorem neg_inside {rs : List Int} {p : Nat} (hp : p < rs.length + 2) (h : (frm rs).getD p 0 < 0) : 1 ≤ p ∧ p ≤ rs.length := by
  constructor
  · cases p with
    | zero => rw [frm_zero] at h; omega
    | succ p => omega
  · refine Classical.byContradiction fun z => ?_
    have e : p = rs.length + 1 := by omega
    rw [e, frm_last] at h
    omega
end Mir

namespace Mir
def amA (fs : List Int) (a j : Nat) : Int := if fs.getD a 0 < 0 then - absI (fs.getD j 0) else absI (fs.getD j 0)
structure Wh (fs : List Int) (a b : Nat) : Prop where
  lt : a < b
  lb : b < fs.length
  mid : ∀ j, a < j → j ≤ b → fs.getD a 0 ≤ amA fs a j ∧ amA fs a j ≤ fs.getD b 0
  own : fs.getD b 0 = amA fs a b
  far : fs.getD b 0 = fs.getD a 0 + ((b : Int) - (a : Int))
theorem amA_self (fs : List Int) (a : Nat) : amA fs a a = fs.getD a 0 := by
  unfold amA absI
  split <;> omega
theorem amA_inj {fs : List Int} (nd : (absL fs).Nodup) {a i j : Nat} (hi : i < fs.length) (hj : j < fs.length) (e : amA fs a i = amA fs a j) : i = j := by
  have e : absI (fs.getD i 0) = absI (fs.getD j 0) := by
    unfold amA at e
    split at e <;> omega
  have a1 := absL_get (os := fs) hi
  have a2 := absL_get (os := fs) hj
  rw [e] at a1
  exact (List.getElem?_inj (by rw [absL_len]; exact hi) nd).mp (a1.trans a2.symm)
structure Seek (fs : List Int) (a c : Nat) (hi : Int) : Prop where
  lo : ∀ j, a < j → j < c → fs.getD a 0 ≤ amA fs a j
  up : ∀ j, a ≤ j → j < c → amA fs a j ≤ hi
  is : ∃ j, a ≤ j ∧ j < c ∧ hi = amA fs a j
theorem Seek.first (fs : List Int) (a : Nat) : Seek fs a (a + 1) (fs.getD a 0) := by
  refine ⟨fun j h1 h2 => by omega, fun j h1 h2 => ?_, ⟨a, by omega, by omega, by rw [amA_self]⟩⟩
  have e : j = a := by omega
  rw [e, amA_self]
  exact Int.le_refl _
theorem Seek.next {fs : List Int} {a c : Nat} {hi : Int} (h : Seek fs a c hi) (hac : a < c) (hlo : fs.getD a 0 ≤ amA fs a c) : Seek fs a (c + 1) (if amA fs a c > hi then amA fs a c else hi) := by
  refine ⟨fun j h1 h2 => ?_, fun j h1 h2 => ?_, ?_⟩
  · by_cases e : j = c
    · rw [e]; exact hlo
    · exact h.lo j h1 (by omega)
  · by_cases e : j = c
    · rw [e]; split <;> omega
    · have := h.up j h1 (by omega)
      split <;> omega
  · by_cases c' : amA fs a c > hi
    · rw [if_pos c']; exact ⟨c, by omega, by omega, rfl⟩
    · rw [if_neg c']
      obtain ⟨j, h1, h2, h3⟩ := h.is
      exact ⟨j, h1, by omega, h3⟩
theorem Seek.wh {fs : List Int} (nd : (absL fs).Nodup) {a c : Nat} {hi : Int} (h : Seek fs a (c + 1) hi) (hac : a < c) (hc : c < fs.length) : (fs.getD c 0 = hi ∧ hi = fs.getD a 0 + (c : Int) - (a : Int)) ↔ Wh fs a c := by
  constructor
  · rintro ⟨e1, e2⟩
    obtain ⟨j, h1, h2, h3⟩ := h.is
    have ej : j = c := by
      by_cases ja : j = a
      · rw [ja, amA_self] at h3
        omega
      · have hj : absI (fs.getD j 0) = absI (fs.getD c 0) := by
          have aa : ∀ x : Int, absI (absI x) = absI x := fun x => by
            have := absI_pos x
            generalize absI x = y at this
            unfold absI
            rw [if_neg (by omega)]
          rw [e1, h3]
          unfold amA
          split
          · rw [absI_neg, aa]
          · rw [aa]
        have a1 := absL_get (os := fs) (j := j) (by omega)
        have a2 := absL_get (os := fs) hc
        rw [hj] at a1
        exact (List.getElem?_inj (by rw [absL_len]; omega) nd).mp (a1.trans a2.symm)
    refine ⟨hac, hc, fun i h1 h2 => ⟨h.lo i h1 (by omega), ?_⟩, ?_, by omega⟩
    · rw [e1]; exact h.up i (by omega) (by omega)
    · rw [e1, h3, ej]
  · intro W
    have e1 : hi = fs.getD c 0 := by
      have u := h.up c (by omega) (by omega)
      rw [← W.own] at u
      obtain ⟨j, h1, h2, h3⟩ := h.is
      have v : amA fs a j ≤ fs.getD c 0 := by
        by_cases ja : j = a
        · rw [ja, amA_self]; have := W.far; omega
        · exact (W.mid j (by omega) (by omega)).2
      omega
    exact ⟨e1.symm, by rw [e1, W.far]; omega⟩
theorem Wh.stop {fs : List Int} {a c b : Nat} (hac : a < c) (h : amA fs a c < fs.getD a 0) (hb : c ≤ b) : ¬ Wh fs a b := fun W => by
  have := (W.mid c hac hb).1
  omega
theorem Wh.rest {fs : List Int} (nd : (absL fs).Nodup) {a c b : Nat} (h1 : Wh fs a c) (h2 : Wh fs a b) (hcb : c < b) : Wh fs c b := by
  have hac := h1.lt
  have sg : ∀ j, amA fs c j = amA fs a j := fun j => by
    have e := h1.own
    unfold amA at e ⊢
    by_cases s : fs.getD a 0 < 0
    · rw [if_pos s] at e
      by_cases t : fs.getD c 0 < 0
      · rw [if_pos s, if_pos t]
      · exfalso
        have z := absI_pos (fs.getD c 0)
        have z0 : fs.getD c 0 = 0 := by omega
        have hm := (h2.mid b (by omega) (Nat.le_refl _))
        have hb := h2.far
        have hc := h1.far
        have ob := h2.own
        unfold amA at ob
        rw [if_pos s] at ob
        have zb := absI_pos (fs.getD b 0)
        omega
    · rw [if_neg s] at e
      have z := absI_pos (fs.getD c 0)
      rw [if_neg s, if_neg (by omega)]
  have above : ∀ j, c < j → j ≤ b → fs.getD c 0 < amA fs a j := fun j hj hjb => by
    refine Classical.byContradiction fun z => ?_
    have z : amA fs a j ≤ fs.getD c 0 := by omega
    have lo := (h2.mid j (by omega) hjb).1
    have key : ∀ (m : Nat), ∀ (S : List Nat), S.Nodup → (∀ i ∈ S, i < fs.length ∧ fs.getD a 0 ≤ amA fs a i ∧ amA fs a i < fs.getD a 0 + m) → S.length ≤ m := by
      intro m
      induction m with
      | zero =>
        intro S _ hS
        cases S with
        | nil => exact Nat.le_refl _
        | cons i r => have := hS i (List.mem_cons_self ..); omega
      | succ m ih =>
        intro S hn hS
        by_cases c0 : ∃ i ∈ S, amA fs a i = fs.getD a 0 + m
        · obtain ⟨i, hi, ei⟩ := c0
          have l1 : (S.erase i).length = S.length - 1 := List.length_erase_of_mem hi
          have l2 := ih (S.erase i) (hn.erase i) fun k hk => by
            have hk' := (List.Nodup.mem_erase_iff hn).mp hk
            have q := hS k hk'.2
            refine ⟨q.1, q.2.1, ?_⟩
            have ne : amA fs a k ≠ fs.getD a 0 + m := fun e => hk'.1 (amA_inj nd q.1 (hS i hi).1 (e.trans ei.symm))
            omega
          have := List.length_pos_of_mem hi
          omega
        · have := ih S hn fun k hk => by
            have q := hS k hk
            refine ⟨q.1, q.2.1, ?_⟩
            have ne : amA fs a k ≠ fs.getD a 0 + m := fun e => c0 ⟨k, hk, e⟩
            omega
          omega
    have S := key (c - a + 1) (j :: (List.range (c - a + 1)).map (· + a)) (by
      rw [List.nodup_cons]
      refine ⟨fun hm => ?_, ?_⟩
      · obtain ⟨i, hi, e⟩ := List.mem_map.mp hm
        have := List.mem_range.mp hi
        omega
      · rw [List.nodup_iff_pairwise_ne, List.pairwise_map]
        exact List.pairwise_lt_range.imp fun h => by omega) (fun i hi => by
      have hf := h1.far
      have hlb := h2.lb
      rcases List.mem_cons.mp hi with rfl | hi
      · exact ⟨by omega, lo, by omega⟩
      · obtain ⟨k, hk, rfl⟩ := List.mem_map.mp hi
        have hk := List.mem_range.mp hk
        by_cases k0 : k = 0
        · rw [k0, Nat.zero_add, amA_self]
          exact ⟨by omega, Int.le_refl _, by omega⟩
        · have q := h1.mid (k + a) (by omega) (by omega)
          exact ⟨by omega, q.1, by omega⟩)
    rw [List.length_cons, List.length_map, List.length_range] at S
    omega
  refine ⟨hcb, h2.lb, fun j k1 k2 => ?_, ?_, ?_⟩
  · rw [sg]
    exact ⟨Int.le_of_lt (above j k1 k2), (h2.mid j (by omega) k2).2⟩
  · rw [sg]; exact h2.own
  · have := h1.far
    have := h2.far
    omega
def Kn (fs : List Int) (a b : Nat) : Prop := Wh fs a b ∧ ∀ c, c < b → ¬ Wh fs a c
theorem kn_iff {fs : List Int} (nd : (absL fs).Nodup) {a b : Nat} : Kn fs a b ↔ Wh fs a b ∧ ¬ ∃ c, Wh fs a c ∧ Wh fs c b := by
  constructor
  · rintro ⟨h1, h2⟩
    exact ⟨h1, fun ⟨c, k1, k2⟩ => h2 c k2.lt k1⟩
  · rintro ⟨h1, h2⟩
    refine ⟨h1, fun c hc hw => h2 ⟨c, hw, hw.rest nd h1 hc⟩⟩
theorem strict_gap {L : List Int} (hs : L.Pairwise (· < ·)) : ∀ (d i : Nat), i + d < L.length → L.getD i 0 + d ≤ L.getD (i + d) 0
  | 0, i, h => by simp
  | d + 1, i, h => by
    have ih := strict_gap hs d i (by omega)
    have z := List.pairwise_iff_getElem.mp hs (i + d) (i + (d + 1)) (by omega) h (by omega)
    have e1 : L.getD (i + d) 0 = L[i + d] := by rw [List.getD, List.getElem?_eq_getElem (by omega)]; rfl
    have e2 : L.getD (i + (d + 1)) 0 = L[i + (d + 1)] := by rw [List.getD, List.getElem?_eq_getElem h]; rfl
    rw [e2]
    rw [e1] at ih
    omega
def run (m : Int) (n : Nat) : List Int := (List.range n).map fun (i : Nat) => m + (i : Int)
theorem run_len (m : Int) (n : Nat) : (run m n).length = n := by unfold run; rw [List.length_map, List.length_range]
theorem run_get {m : Int} {n i : Nat} (h : i < n) : (run m n)[i]? = some (m + i) := by unfold run; rw [List.getElem?_map, List.getElem?_range h]; rfl
theorem run_getD {m : Int} {n i : Nat} (h : i < n) : (run m n).getD i 0 = m + i := by rw [List.getD, run_get h]; rfl
theorem is_run {L : List Int} {m : Int} (hs : L.Pairwise (· ≤ ·)) (nd : L.Nodup) (h : ∀ x ∈ L, m ≤ x ∧ x < m + L.length) : L = run m L.length := by
  have st : L.Pairwise (· < ·) := by
    have z := hs.and (List.nodup_iff_pairwise_ne.mp nd)
    exact z.imp fun ⟨h1, h2⟩ => by omega
  refine List.ext_getElem? fun i => ?_
  by_cases hi : i < L.length
  · rw [run_get hi, List.getElem?_eq_getElem hi]
    congr 1
    have e : L.getD i 0 = L[i] := by rw [List.getD, List.getElem?_eq_getElem hi]; rfl
    have g1 := strict_gap st i 0 (by omega)
    have g2 := strict_gap st (L.length - 1 - i) i (by omega)
    rw [Nat.zero_add] at g1
    have e2 : i + (L.length - 1 - i) = L.length - 1 := by omega
    rw [e2] at g2
    have m0 : m ≤ L.getD 0 0 := by
      have : L.getD 0 0 = L[0]'(by omega) := by rw [List.getD, List.getElem?_eq_getElem (by omega)]; rfl
      rw [this]
      exact (h _ (List.getElem_mem _)).1
    have m1 : L.getD (L.length - 1) 0 < m + L.length := by
      have : L.getD (L.length - 1) 0 = L[L.length - 1]'(by omega) := by rw [List.getD, List.getElem?_eq_getElem (by omega)]; rfl
      rw [this]
      exact (h _ (List.getElem_mem _)).2
    omega
  · rw [List.getElem?_eq_none (by omega), List.getElem?_eq_none (by rw [run_len]; omega)]
def str (fs : List Int) (a b : Nat) : List Int := (fs.drop a).take (b + 1 - a)
theorem str_len {fs : List Int} {a b : Nat} (h1 : a ≤ b) (h2 : b < fs.length) : (str fs a b).length = b + 1 - a := by unfold str; rw [List.length_take, List.length_drop]; omega
theorem str_get {fs : List Int} {a b i : Nat} (h : i < b + 1 - a) : (str fs a b)[i]? = fs[a + i]? := by unfold str; rw [List.getElem?_take, if_pos h, List.getElem?_drop]
theorem str_mem {fs : List Int} {a b : Nat} (h1 : a ≤ b) (h2 : b < fs.length) {x : Int} : x ∈ str fs a b ↔ ∃ j, a ≤ j ∧ j ≤ b ∧ fs.getD j 0 = x := by
  constructor
  · intro hx
    obtain ⟨i, hi⟩ := List.mem_iff_getElem?.mp hx
    have hl := (List.getElem?_eq_some_iff.mp hi).1
    rw [str_len h1 h2] at hl
    rw [str_get hl, getD_get (by omega)] at hi
    exact ⟨a + i, by omega, by omega, Option.some.inj hi⟩
  · rintro ⟨j, k1, k2, rfl⟩
    refine List.mem_iff_getElem?.mpr ⟨j - a, ?_⟩
    rw [str_get (by omega), getD_get (by omega)]
    congr 2
    omega
theorem str_nodup {fs : List Int} (nd : (absL fs).Nodup) (a b : Nat) : (absL (str fs a b)).Nodup := by
  have e : absL (str fs a b) = ((absL fs).drop a).take (b + 1 - a) := by unfold absL str; rw [List.map_take, List.map_drop]
  rw [e]
  exact (List.take_sublist _ _).nodup ((List.drop_sublist _ _).nodup nd)
theorem whole_law {fs : List Int} (nd : (absL fs).Nodup) {a b : Nat} (hab : a < b) (hb : b < fs.length) {L : List Int} (hp : L.Perm (absL (str fs a b))) (hs : L.Pairwise (· ≤ ·)) :
    (L = run (L.getD 0 0) (b + 1 - a) ∧ ((fs.getD a 0 = L.getD 0 0 ∧ fs.getD b 0 = L.getD (b - a) 0) ∨ (fs.getD a 0 = 0 - L.getD (b - a) 0 ∧ fs.getD b 0 = 0 - L.getD 0 0))) ↔ Wh fs a b := by
  have hl : L.length = b + 1 - a := by rw [hp.length_eq, absL_len, str_len (by omega) hb]
  have mem : ∀ j, a ≤ j → j ≤ b → absI (fs.getD j 0) ∈ L := fun j h1 h2 => hp.mem_iff.mpr (List.mem_map.mpr ⟨_, (str_mem (by omega) hb).mpr ⟨j, h1, h2, rfl⟩, rfl⟩)
  constructor
  · rintro ⟨e, c⟩
    generalize hm : L.getD 0 0 = m at e c
    have bd : ∀ x ∈ L, m ≤ x ∧ x ≤ m + ((b : Int) - a) := fun x hx => by
      rw [e] at hx
      obtain ⟨i, hi, rfl⟩ := List.mem_map.mp hx
      have := List.mem_range.mp hi
      omega
    have el : L.getD (b - a) 0 = m + ((b : Int) - a) := by rw [e, run_getD (by omega)]; omega
    rw [el] at c
    have m0 : 0 ≤ m := by
      have hx : m ∈ absL (str fs a b) := hp.mem_iff.mp (by rw [e]; exact List.mem_of_getElem? (show (run m (b + 1 - a))[0]? = some m by rw [run_get (by omega)]; congr 1; omega))
      obtain ⟨y, _, rfl⟩ := List.mem_map.mp hx
      exact absI_pos y
    rcases c with ⟨c1, c2⟩ | ⟨c1, c2⟩
    · have am : ∀ j, amA fs a j = absI (fs.getD j 0) := fun j => by unfold amA; rw [if_neg (by omega)]
      refine ⟨hab, hb, fun j h1 h2 => ?_, ?_, by omega⟩
      · have := bd _ (mem j (by omega) h2)
        rw [am]
        omega
      · rw [am]; unfold absI; rw [if_neg (by omega)]
    · have am : ∀ j, amA fs a j = - absI (fs.getD j 0) := fun j => by unfold amA; rw [if_pos (by omega)]
      refine ⟨hab, hb, fun j h1 h2 => ?_, ?_, by omega⟩
      · have := bd _ (mem j (by omega) h2)
        rw [am]
        omega
      · rw [am]; unfold absI; split <;> omega
  · intro W
    have far := W.far
    have own := W.own
    have all : ∀ j, a ≤ j → j ≤ b → fs.getD a 0 ≤ amA fs a j ∧ amA fs a j ≤ fs.getD b 0 := fun j h1 h2 => by
      by_cases e : j = a
      · rw [e, amA_self]; omega
      · exact W.mid j (by omega) h2
    have el : ∀ x ∈ L, ∃ j, a ≤ j ∧ j ≤ b ∧ absI (fs.getD j 0) = x := fun x hx => by
      obtain ⟨y, hy, rfl⟩ := List.mem_map.mp (hp.mem_iff.mp hx)
      obtain ⟨j, h1, h2, rfl⟩ := (str_mem (by omega) hb).mp hy
      exact ⟨j, h1, h2, rfl⟩
    by_cases s : fs.getD a 0 < 0
    · have am : ∀ j, amA fs a j = - absI (fs.getD j 0) := fun j => by unfold amA; rw [if_pos s]
      have r := is_run (m := - fs.getD b 0) hs (hp.nodup_iff.mpr (str_nodup nd a b)) fun x hx => by
        obtain ⟨j, h1, h2, rfl⟩ := el x hx
        have z := all j h1 h2
        rw [am] at z
        omega
      rw [hl] at r
      have e0 : L.getD 0 0 = - fs.getD b 0 := by rw [r, run_getD (by omega)]; omega
      have e1 : L.getD (b - a) 0 = - fs.getD a 0 := by rw [r, run_getD (by omega)]; omega
      rw [e0, e1]
      exact ⟨r, .inr ⟨by omega, by omega⟩⟩
    · have am : ∀ j, amA fs a j = absI (fs.getD j 0) := fun j => by unfold amA; rw [if_neg s]
      have r := is_run (m := fs.getD a 0) hs (hp.nodup_iff.mpr (str_nodup nd a b)) fun x hx => by
        obtain ⟨j, h1, h2, rfl⟩ := el x hx
        have z := all j h1 h2
        rw [am] at z
        omega
      rw [hl] at r
      have e0 : L.getD 0 0 = fs.getD a 0 := by rw [r, run_getD (by omega)]; omega
      have e1 : L.getD (b - a) 0 = fs.getD b 0 := by rw [r, run_getD (by omega)]; omega
      rw [e0, e1]
      exact ⟨r, .inl ⟨rfl, rfl⟩⟩
end Mir

namespace Mir
def Rw (rs : List Int) : Prop := (absL rs).Perm (from1 rs.length)
theorem Rw.of {rs ss : List Int} (h : Rw rs) (p : (absL ss).Perm (absL rs)) : Rw ss := by
  unfold Rw at *
  have e : ss.length = rs.length := by have := p.length_eq; rwa [absL_len, absL_len] at this
  rw [e]
  exact p.trans h
theorem absL_app (a b : List Int) : absL (a ++ b) = absL a ++ absL b := by unfold absL; rw [List.map_append]
theorem Rw.rot {rs : List Int} {x : Int} (h : Rw rs) (hx : rs[0]? = some x) : Rw (rs.drop 1 ++ [x]) := by
  refine h.of ?_
  cases rs with
  | nil => cases hx
  | cons y r =>
    obtain rfl : y = x := Option.some.inj hx
    show (absL (r ++ [y])).Perm (absL ([y] ++ r))
    rw [absL_app, absL_app]
    exact List.perm_append_comm
theorem Rw.snoc {rs : List Int} (h : Rw rs) : Rw (rs ++ [(rs.length : Int) + 1]) := by
  unfold Rw at *
  rw [absL_app, List.length_append, List.length_singleton, from1_succ]
  refine List.Perm.append h ?_
  have : absI ((rs.length : Int) + 1) = (rs.length : Int) + 1 := by unfold absI; rw [if_neg (by omega)]
  show ([absI ((rs.length : Int) + 1)]).Perm _
  rw [this]
theorem Rw.tail {rs ss : List Int} (f : Nat) (h : Rw rs) (p : (absL ss).Perm (absL (rs.drop f))) : Rw (rs.take f ++ ss) := by
  refine h.of ?_
  have e : absL rs = absL (rs.take f) ++ absL (rs.drop f) := by rw [← absL_app, List.take_append_drop]
  rw [e, absL_app]
  exact List.Perm.append_left _ p
theorem absL_rev (rs : List Int) : (absL rs.reverse).Perm (absL rs) := by
  unfold absL
  rw [List.map_reverse]
  exact List.reverse_perm _
theorem absL_negrev (rs : List Int) : (absL (rs.reverse.map fun x => 0 - x)).Perm (absL rs) := by
  have e : absL (rs.reverse.map fun x => 0 - x) = absL rs.reverse := by
    unfold absL
    rw [List.map_map]
    refine List.map_congr_left fun x _ => ?_
    show absI (0 - x) = absI x
    rw [Int.zero_sub, absI_neg]
  rw [e]
  exact absL_rev rs
theorem Rw.fit {rs : List Int} (h : Rw rs) (hl : rs.length ≤ 40) : Fit rs := ⟨hl, h⟩
end Mir

set_option maxHeartbeats 2000000
namespace SrtR
open PySem PyProof.Rows
class RkP where
  G : Keyed → Prop
  nm : Keyed → Int
  kd : SortKind
variable [RkP]
def num (p : Keyed) : Int := RkP.nm p
def K (xs : Array Keyed) (i : Nat) : Int := match xs[i]? with
  | some p => num p
  | none => 0
def IntKeys (xs : Array Keyed) : Prop := ∀ p ∈ xs.toList, RkP.G p
def SortedTo (xs : Array Keyed) (k : Nat) : Prop := ∀ i j, i ≤ j → j < k → K xs i ≤ K xs j
abbrev oneType' : SortKind := RkP.kd
def Asks (prog : Program) (w : World) (A : Around) (s : Shared) : Prop := ∀ x y : Keyed, RkP.G x → RkP.G y → ∀ (E : Value → Shared → Prop) (Q : Bool → Shared → Prop), Q (decide (num x < num y)) s → wpAny (model prog w) A (keyLt' oneType' x.1 y.1) Q E s
structure IKA (prog : Program) (w : World) (A : Around) (s : Shared) (xs : Array Keyed) : Prop where
  ik : IntKeys xs
  as : Asks prog w A s
theorem K_congr {xs ys : Array Keyed} {i j : Nat} (h : xs[i]? = ys[j]?) : K xs i = K ys j := by unfold K; rw [h]
theorem K_bubble {xs : Array Keyed} {src d : Nat} (hs : src < xs.size) (hd : d ≤ src) (k : Nat) : K (bubble xs src d) k = if k = src - d then K xs src else if src - d < k ∧ k ≤ src then K xs (k - 1) else K xs k := by
  have e := getElem?_bubble hs d hd k
  split at e
  · rw [if_pos (by assumption)]; exact K_congr e
  · rw [if_neg (by assumption)]
    split at e
    · rw [if_pos (by assumption)]; exact K_congr e
    · rw [if_neg (by assumption)]; exact K_congr e
theorem K_mirror {xs : Array Keyed} {i j : Nat} (hj : j ≤ xs.size) (k : Nat) : K (mirror xs i j ((j - i) / 2)) k = if i ≤ k ∧ k < j then K xs (i + j - 1 - k) else K xs k := by
  have e := getElem?_mirror_all (i := i) hj k
  split at e
  · rw [if_pos (by assumption)]; exact K_congr e
  · rw [if_neg (by assumption)]; exact K_congr e
theorem K_mirror_equal {xs : Array Keyed} {i j : Nat} (hj : j ≤ xs.size) (heq : ∀ k, i ≤ k → k < j → K xs k = K xs (j - 1)) (k : Nat) : K (mirror xs i j ((j - i) / 2)) k = K xs k := by
  rw [K_mirror hj]
  by_cases c : i ≤ k ∧ k < j
  · rw [if_pos c, heq k c.1 c.2]
    exact heq _ (by omega) (by omega)
  · rw [if_neg c]
section
variable {prog : Program} {w : World} {A : Around} {E : Value → Shared → Prop} {s : Shared}
theorem wpS_lt {st : SortSt} {x y : Keyed} {i j : Int} {Q : Option Bool → SortSt → Prop} (as : Asks prog w A s) (hk : kindOf st = oneType') (hx : RkP.G x ∧ num x = i) (hy : RkP.G y ∧ num y = j) (h : Q (some (decide (i < j))) st) : wpS (model prog w) A E s (lt' x y) Q st := by
  rw [lt'_eq]
  refine wpS_bind (wpS_get ?_)
  rw [hk]
  refine wpS_bind (wpS_lift (wpAny_attempt (as x y hx.1 hy.1 _ _ ⟨rfl, ?_⟩)))
  rw [hx.2, hy.2]
  exact wpS_pure h
theorem wpS_elem {st : SortSt} {arr : Array Keyed} {i : Nat} {Q : Keyed → SortSt → Prop} {p : Keyed} (hp : arr[i]? = some p) (h : Q p st) : wpS (model prog w) A E s (elem' arr i) Q st := by
  rw [elem'_eq, hp]
  exact wpS_pure h
theorem wpS_ite {α : Type} {c : Prop} [Decidable c] {m m' : StateT SortSt Sem α} {Q : α → SortSt → Prop} {st : SortSt} (h1 : c → wpS (model prog w) A E s m Q st) (h2 : ¬ c → wpS (model prog w) A E s m' Q st) : wpS (model prog w) A E s (if c then m else m') Q st := by
  by_cases h : c
  · rw [if_pos h]; exact h1 h
  · rw [if_neg h]; exact h2 h
end
section
variable {a b out : Array Keyed} {ia ib k : Nat}
theorem num_K {xs : Array Keyed} {i : Nat} {p : Keyed} (h : xs[i]? = some p) : K xs i = num p := by unfold K; rw [h]
end
structure SB (a₀ : Array Keyed) (pd : Array (Nat × Nat × Nat)) (lo : Nat) (f : Nat → Int) (st : SortSt) : Prop where
  perm : (arrOf st).Perm a₀
  kd : kindOf st = oneType'
  fl : failedOf st = none
  pd : pendingOf st = pd
  pre : ∀ i, i < lo → K (arrOf st) i = f i
section
variable {a₀ : Array Keyed} {pd : Array (Nat × Nat × Nat)} {lo : Nat} {f : Nat → Int} {st : SortSt}
theorem SB.sz (h : SB a₀ pd lo f st) : (arrOf st).size = a₀.size := h.perm.size_eq
theorem SB.put (h : SB a₀ pd lo f st) {xs : Array Keyed} (hp : xs.Perm (arrOf st)) (hk : ∀ i, i < lo → K xs i = K (arrOf st) i) : SB a₀ pd lo f (setArr st xs) := ⟨hp.trans h.perm, h.kd, h.fl, h.pd, fun i hi => (hk i hi).trans (h.pre i hi)⟩
theorem SB.item (h : SB a₀ pd lo f st) (h0 : IntKeys a₀) {i : Nat} (hi : i < a₀.size) : ∃ p, (arrOf st)[i]? = some p ∧ RkP.G p ∧ num p = K (arrOf st) i := by
  have hi' : i < (arrOf st).size := h.sz.symm ▸ hi
  have e : (arrOf st)[i]? = some (arrOf st)[i] := getElem?_pos _ i hi'
  exact ⟨(arrOf st)[i], e, h0 _ ((Array.perm_iff_toList_perm.mp h.perm).mem_iff.mp (Array.getElem_mem_toList hi')), (num_K e).symm⟩
end
def AscL (lo : Nat) (xs : Array Keyed) (n : Nat) : Prop := ∀ i j, i ≤ j → j < n → K xs (lo + i) ≤ K xs (lo + j)
def DscL (lo : Nat) (xs : Array Keyed) (n : Nat) : Prop := ∀ i j, i ≤ j → j < n → K xs (lo + j) ≤ K xs (lo + i)
theorem AscL.more {lo n : Nat} {xs : Array Keyed} (h : AscL lo xs n) (hn : 1 ≤ n) (k : K xs (lo + n - 1) ≤ K xs (lo + n)) : AscL lo xs (n + 1) := fun i j hij hj => by
  by_cases c : j < n
  · exact h i j hij c
  · obtain rfl : j = n := by omega
    by_cases d : i = j
    · rw [d]; exact Int.le_refl _
    · have z := h i (j - 1) (by omega) (by omega)
      rw [show lo + (j - 1) = lo + j - 1 by omega] at z
      exact Int.le_trans z k
theorem DscL.more {lo n : Nat} {xs : Array Keyed} (h : DscL lo xs n) (hn : 1 ≤ n) (k : K xs (lo + n) ≤ K xs (lo + n - 1)) : DscL lo xs (n + 1) := fun i j hij hj => by
  by_cases c : j < n
  · exact h i j hij c
  · obtain rfl : j = n := by omega
    by_cases d : i = j
    · rw [d]; exact Int.le_refl _
    · have z := h i (j - 1) (by omega) (by omega)
      rw [show lo + (j - 1) = lo + j - 1 by omega] at z
      exact Int.le_trans k z
theorem AscL.one {lo : Nat} {xs : Array Keyed} : AscL lo xs 1 := fun i j hij hj => by
  obtain rfl : i = j := by omega
  exact Int.le_refl _
theorem DscL.one {lo : Nat} {xs : Array Keyed} : DscL lo xs 1 := fun i j hij hj => by
  obtain rfl : i = j := by omega
  exact Int.le_refl _
theorem DscL.congr {lo n : Nat} {xs ys : Array Keyed} (h : DscL lo xs n) (e : ∀ k, K ys k = K xs k) : DscL lo ys n := fun i j hij hj => by rw [e, e]; exact h i j hij hj
def upL (lo a m : Nat) : StateT SortSt Sem AscSt :=
  forIn [a:m] ((none, a) : AscSt) fun _ c => do
    let x ← ltAt' (lo + c.2) (lo + c.2 - 1)
    match x with
    | some b => if b = true then pure (ForInStep.done (none, c.2)) else pure (ForInStep.yield (none, c.2 + 1))
    | _ => pure (ForInStep.done (some none, c.2))
def endL (lo n m : Nat) : StateT SortSt Sem (Option Nat) := do
  reverseSlice' lo (lo + n)
  let c ← upL lo n m
  match c.1 with
  | some r => pure r
  | none => pure (some c.2)
def downL (lo n m : Nat) : StateT SortSt Sem DescSt :=
  forIn [n:m] ((none, n, 0) : DescSt) fun _ c => do
    let x ← ltAt' (lo + c.2.1) (lo + c.2.1 - 1)
    match x with
    | some b =>
      if b = true then
        if c.2.2 > 0 then do
          reverseSlice' (lo + c.2.1 - (c.2.2 + 1)) (lo + c.2.1)
          pure (ForInStep.yield (none, c.2.1 + 1, 0))
        else pure (ForInStep.yield (none, c.2.1 + 1, 0))
      else do
        let y ← ltAt' (lo + c.2.1 - 1) (lo + c.2.1)
        match y with
        | some g => if g = true then pure (ForInStep.done (none, c.2.1, c.2.2)) else pure (ForInStep.yield (none, c.2.1 + 1, c.2.2 + 1))
        | _ => pure (ForInStep.done (some none, c.2.1, c.2.2))
    | _ => pure (ForInStep.done (some none, c.2.1, c.2.2))
def downP (lo n m : Nat) : StateT SortSt Sem (Option Nat) := do
  liftM (rule "list.sort.descending-run")
  let c ← downL lo (n + 1) m
  match c.1 with
  | some r => pure r
  | none =>
    if c.2.2 > 0 then do
      reverseSlice' (lo + c.2.1 - (c.2.2 + 1)) (lo + c.2.1)
      endL lo c.2.1 m
    else endL lo c.2.1 m
theorem countL_eq (lo m : Nat) : countRun' lo m = (do
    let c ← upL lo 1 m
    match c.1 with
    | some r => pure r
    | none =>
      if (c.2 == m) = true then pure (some c.2)
      else if c.2 > 1 then do
        let x ← ltAt' lo (lo + c.2 - 1)
        match x with
        | some b => if b = true then pure (some c.2) else do
            reverseSlice' lo (lo + c.2)
            downP lo c.2 m
        | _ => pure none
      else downP lo c.2 m) := by
  rw [countRun'_eq]
  dsimp only
  unfold downP endL downL upL
  congr 1
  funext c
  obtain ⟨r, n⟩ := c
  cases r with
  | some r => rfl
  | none =>
    dsimp only
    split
    · rfl
    · split
      · congr 1; funext x
        cases x with
        | none => rfl
        | some b =>
          dsimp only
          split
          · rfl
          · congr 1; funext _r
            congr 1; funext _u
            congr 1; congr 1; funext s2
            obtain ⟨r2, n2, q2⟩ := s2
            cases r2 with
            | some r2 => rfl
            | none =>
              dsimp only
              split
              · congr 1; funext _v; congr 1; funext _w; congr 1; funext s3; obtain ⟨r3, n3⟩ := s3; cases r3 <;> rfl
              · congr 1; funext _w; congr 1; funext s3; obtain ⟨r3, n3⟩ := s3; cases r3 <;> rfl
      · congr 1; funext _u
        congr 1; congr 1; funext s2
        obtain ⟨r2, n2, q2⟩ := s2
        cases r2 with
        | some r2 => rfl
        | none =>
          dsimp only
          split
          · congr 1; funext _v; congr 1; funext _w; congr 1; funext s3; obtain ⟨r3, n3⟩ := s3; cases r3 <;> rfl
          · congr 1; funext _w; congr 1; funext s3; obtain ⟨r3, n3⟩ := s3; cases r3 <;> rfl
theorem bub_if {f : Nat → Int} {lo l k i : Nat} (hi : i ≤ k) : (if lo + i = lo + l then f (lo + k) else if lo + l < lo + i ∧ lo + i ≤ lo + k then f (lo + i - 1) else f (lo + i)) = if i = l then f (lo + k) else if i < l then f (lo + i) else f (lo + (i - 1)) := by
  by_cases c : i = l
  · rw [if_pos (congrArg _ c), if_pos c]
  · rw [if_neg (fun z => c (Nat.add_left_cancel z)), if_neg c]
    by_cases d : i < l
    · rw [if_neg (fun z => Nat.lt_asymm d (Nat.lt_of_add_lt_add_left z.1)), if_pos d]
    · rw [if_pos ⟨Nat.add_lt_add_left (Nat.lt_of_le_of_ne (Nat.le_of_not_lt d) (Ne.symm c)) lo, Nat.add_le_add_left hi lo⟩, if_neg d, Nat.add_sub_assoc (by omega)]
theorem bub_asc {X Y : Nat → Int} {l k : Nat} (hY : ∀ i, i ≤ k → Y i = if i = l then X k else if i < l then X i else X (i - 1)) (up : ∀ i j, i ≤ j → j < k → X i ≤ X j) (p4 : ∀ i, i < l → X i ≤ X k) (p5 : ∀ i, l ≤ i → i < k → X k < X i) (i j : Nat) (hij : i ≤ j) (hj : j ≤ k) : Y i ≤ Y j := by
  rw [hY i (Nat.le_trans hij hj), hY j hj]
  by_cases ci : i = l
  · rw [if_pos ci]
    by_cases cj : j = l
    · rw [if_pos cj]; exact Int.le_refl _
    · rw [if_neg cj, if_neg (by omega)]; exact Int.le_of_lt (p5 _ (by omega) (by omega))
  · rw [if_neg ci]
    by_cases ci2 : i < l
    · rw [if_pos ci2]
      by_cases cj : j = l
      · rw [if_pos cj]; exact p4 i ci2
      · rw [if_neg cj]
        by_cases cj2 : j < l
        · rw [if_pos cj2]
          by_cases cl : l ≤ k
          · exact up i j hij (Nat.lt_of_lt_of_le cj2 cl)
          · by_cases ck : j = k
            · rw [ck]; exact p4 i ci2
            · exact up i j hij (Nat.lt_of_le_of_ne hj ck)
        · rw [if_neg cj2]; exact up i (j - 1) (by omega) (by omega)
    · rw [if_neg ci2, if_neg (by omega), if_neg (by omega)]; exact up _ _ (Nat.sub_le_sub_right hij 1) (by omega)
section
variable {prog : Program} {w : World} {A : Around} {E : Value → Shared → Prop} {s : Shared} {a₀ : Array Keyed} {pd : Array (Nat × Nat × Nat)} {lo : Nat} {f : Nat → Int}
theorem wpS_askL {st : SortSt} {i j : Nat} {Q : Option Bool → SortSt → Prop} (hB : SB a₀ pd lo f st) (h0 : IKA prog w A s a₀) (hi : i < a₀.size) (hj : j < a₀.size) (h : Q (some (decide (K (arrOf st) i < K (arrOf st) j))) st) : wpS (model prog w) A E s (ltAt' i j) Q st := by
  obtain ⟨p, e1, g1⟩ := hB.item h0.ik hi
  obtain ⟨q, e2, g2⟩ := hB.item h0.ik hj
  rw [ltAt'_eq]
  refine wpS_bind (wpS_get ?_)
  refine wpS_bind (wpS_elem e1 (wpS_bind (wpS_elem e2 ?_)))
  exact wpS_lt h0.as hB.kd g1 g2 h
theorem SB.turn {st : SortSt} (hB : SB a₀ pd lo f st) {i j : Nat} (hi : lo ≤ i) (hj : j ≤ a₀.size) : SB a₀ pd lo f (setArr st (mirror (arrOf st) i j ((j - i) / 2))) :=
  hB.put (mirror_perm _ _ _ _) fun k hk => by rw [K_mirror (by rw [hB.sz]; exact hj), if_neg (by omega)]
theorem wpS_upL {st : SortSt} {a m : Nat} {Q : AscSt → SortSt → Prop} (h0 : IKA prog w A s a₀) (hn : lo + m ≤ a₀.size) (ha : 1 ≤ a) (han : a ≤ m) (hB : SB a₀ pd lo f st) (hs : AscL lo (arrOf st) a)
    (h : ∀ n, a ≤ n → n ≤ m → AscL lo (arrOf st) n → (n = m ∨ K (arrOf st) (lo + n) < K (arrOf st) (lo + n - 1)) → Q (none, n) st) : wpS (model prog w) A E s (upL lo a m) Q st := by
  unfold upL
  refine wpS_forRange (I := fun x c st' => st' = st ∧ c = (none, x) ∧ AscL lo (arrOf st) x) ?step ?fin ⟨rfl, rfl, hs⟩
  case fin =>
    rintro c st' ⟨e1, e2, g⟩
    subst e1 e2
    have e : max a m = m := Nat.max_eq_right han
    rw [e] at g ⊢
    exact h m han (Nat.le_refl _) g (.inl rfl)
  case step =>
    rintro x c st' hax hxm ⟨e1, e2, g⟩
    subst e1 e2
    dsimp only
    refine wpS_bind (wpS_askL hB h0 (by omega) (by omega) ?_)
    dsimp only
    refine wpS_ite (fun z => ?_) (fun z => ?_)
    · exact wpS_pure (h x hax (by omega) g (.inr (of_decide_eq_true z)))
    · exact wpS_pure ⟨rfl, rfl, g.more (by omega) (Int.not_lt.mp fun y => z (decide_eq_true y))⟩
theorem wpS_endL {st : SortSt} {n m : Nat} {Q : Option Nat → SortSt → Prop} (h0 : IKA prog w A s a₀) (hn : lo + m ≤ a₀.size) (h1 : 1 ≤ n) (hnn : n ≤ m) (hB : SB a₀ pd lo f st) (hs : DscL lo (arrOf st) n)
    (h : ∀ k st', SB a₀ pd lo f st' → 1 ≤ k → k ≤ m → AscL lo (arrOf st') k → Q (some k) st') : wpS (model prog w) A E s (endL lo n m) Q st := by
  unfold endL
  have hz : lo + n ≤ (arrOf st).size := by rw [hB.sz]; omega
  have hB' := hB.turn (i := lo) (j := lo + n) (Nat.le_refl _) (by omega)
  refine wpS_bind (wpS_reverse (wpS_bind (wpS_upL h0 hn h1 hnn hB' (fun i j hij hj => ?_) fun k k1 k2 g _ => wpS_pure (h k _ hB' (by omega) k2 g))))
  show K (mirror (arrOf st) lo (lo + n) _) (lo + i) ≤ K (mirror (arrOf st) lo (lo + n) _) (lo + j)
  rw [K_mirror hz, K_mirror hz, if_pos (by omega), if_pos (by omega)]
  have z := hs (n - 1 - j) (n - 1 - i) (by omega) (by omega)
  rw [show lo + (n - 1 - j) = lo + (lo + n) - 1 - (lo + j) by omega, show lo + (n - 1 - i) = lo + (lo + n) - 1 - (lo + i) by omega] at z
  exact z
theorem wpS_downL {st : SortSt} {n m : Nat} {Q : DescSt → SortSt → Prop} (h0 : IKA prog w A s a₀) (hn : lo + m ≤ a₀.size) (h1 : 1 ≤ n) (hnn : n ≤ m) (hB : SB a₀ pd lo f st) (hs : DscL lo (arrOf st) n)
    (h : ∀ k q st', SB a₀ pd lo f st' → n ≤ k → k ≤ m → DscL lo (arrOf st') k → q + 1 ≤ k → (∀ i, lo + k - (q + 1) ≤ i → i < lo + k → K (arrOf st') i = K (arrOf st') (lo + k - 1)) → Q (none, k, q) st') : wpS (model prog w) A E s (downL lo n m) Q st := by
  unfold downL
  refine wpS_forRange (I := fun x c st' => ∃ q, c = (none, x, q) ∧ SB a₀ pd lo f st' ∧ DscL lo (arrOf st') x ∧ q + 1 ≤ x ∧ (∀ i, lo + x - (q + 1) ≤ i → i < lo + x → K (arrOf st') i = K (arrOf st') (lo + x - 1))) ?step ?fin
    ⟨0, rfl, hB, hs, by omega, fun i z1 z2 => congrArg _ (by omega)⟩
  case fin =>
    rintro c st' ⟨q, e, g1, g2, g3, g4⟩
    subst e
    have e : max n m = m := Nat.max_eq_right hnn
    rw [e] at g2 g3 g4 ⊢
    exact h m q st' g1 hnn (Nat.le_refl _) g2 g3 g4
  case step =>
    rintro x c st' hax hxm ⟨q, e, g1, g2, g3, g4⟩
    subst e
    dsimp only
    refine wpS_bind (wpS_askL g1 h0 (by omega) (by omega) ?_)
    dsimp only
    refine wpS_ite (fun z => ?_) (fun z => ?_)
    · have z := Int.le_of_lt (of_decide_eq_true z)
      refine wpS_ite (fun y => ?_) (fun y => ?_)
      · have hz : lo + x ≤ (arrOf st').size := by rw [g1.sz]; omega
        have ke := K_mirror_equal (i := lo + x - (q + 1)) hz g4
        refine wpS_bind (wpS_reverse (wpS_pure ⟨0, rfl, g1.turn (by omega) (by omega), (g2.congr ke).more (by omega) ?_, by omega, fun i z1 z2 => congrArg _ (by omega)⟩))
        show K (mirror (arrOf st') _ _ _) _ ≤ K (mirror (arrOf st') _ _ _) _
        rw [ke, ke]
        exact z
      · exact wpS_pure ⟨0, rfl, g1, g2.more (by omega) z, by omega, fun i z1 z2 => congrArg _ (by omega)⟩
    · have z : K (arrOf st') (lo + x - 1) ≤ K (arrOf st') (lo + x) := Int.not_lt.mp fun y => z (decide_eq_true y)
      refine wpS_bind (wpS_askL g1 h0 (by omega) (by omega) ?_)
      dsimp only
      refine wpS_ite (fun y => ?_) (fun y => ?_)
      · exact wpS_pure (h x q st' g1 hax (by omega) g2 g3 g4)
      · have y : K (arrOf st') (lo + x) ≤ K (arrOf st') (lo + x - 1) := Int.not_lt.mp fun u => y (decide_eq_true u)
        have ee : K (arrOf st') (lo + x) = K (arrOf st') (lo + x - 1) := Int.le_antisymm y z
        refine wpS_pure ⟨q + 1, rfl, g1, g2.more (by omega) y, by omega, fun i z1 z2 => ?_⟩
        rw [show lo + (x + 1) - 1 = lo + x by omega]
        by_cases c : i = lo + x
        · rw [c]
        · rw [ee]; exact g4 i (by omega) (by omega)
theorem wpS_downP {st : SortSt} {n m : Nat} {Q : Option Nat → SortSt → Prop} (h0 : IKA prog w A s a₀) (hn : lo + m ≤ a₀.size) (hnn : n + 1 ≤ m) (hB : SB a₀ pd lo f st) (hs : DscL lo (arrOf st) (n + 1))
    (h : ∀ k st', SB a₀ pd lo f st' → 1 ≤ k → k ≤ m → AscL lo (arrOf st') k → Q (some k) st') : wpS (model prog w) A E s (downP lo n m) Q st := by
  unfold downP
  refine wpS_bind (wpS_lift (wpAny_rule ⟨rfl, wpS_bind (wpS_downL h0 hn (by omega) hnn hB hs fun k q st' g1 k1 k2 g2 g3 g4 => ?_)⟩))
  dsimp only
  have hz : lo + k ≤ (arrOf st').size := by rw [g1.sz]; omega
  refine wpS_ite (fun y => ?_) (fun y => ?_)
  · exact wpS_bind (wpS_reverse (wpS_endL h0 hn (by omega) k2 (g1.turn (by omega) (by omega)) (g2.congr (K_mirror_equal (i := lo + k - (q + 1)) hz g4)) h))
  · exact wpS_endL h0 hn (by omega) k2 g1 g2 h
theorem wpS_countL {st : SortSt} {m : Nat} {Q : Option Nat → SortSt → Prop} (h0 : IKA prog w A s a₀) (hn : lo + m ≤ a₀.size) (h1 : 1 ≤ m) (hB : SB a₀ pd lo f st)
    (h : ∀ k st', SB a₀ pd lo f st' → 1 ≤ k → k ≤ m → AscL lo (arrOf st') k → Q (some k) st') : wpS (model prog w) A E s (countRun' lo m) Q st := by
  rw [countL_eq]
  refine wpS_bind (wpS_upL h0 hn (Nat.le_refl 1) h1 hB AscL.one fun n n1 n2 g hor => ?_)
  dsimp only
  refine wpS_ite (fun c => ?_) (fun c => ?_)
  · exact wpS_pure (h n st hB n1 n2 g)
  · have c : n ≠ m := fun z => c (by rw [z]; exact beq_self_eq_true _)
    have hlt := Int.le_of_lt (hor.resolve_left c)
    refine wpS_ite (fun d => ?_) (fun d => ?_)
    · refine wpS_bind (wpS_askL hB h0 (by omega) (by omega) ?_)
      dsimp only
      refine wpS_ite (fun y => ?_) (fun y => ?_)
      · exact wpS_pure (h n st hB n1 n2 g)
      · have y : K (arrOf st) (lo + n - 1) ≤ K (arrOf st) lo := Int.not_lt.mp fun u => y (decide_eq_true u)
        have hz : lo + n ≤ (arrOf st).size := by rw [hB.sz]; omega
        have all : ∀ k, lo ≤ k → k < lo + n → K (arrOf st) k = K (arrOf st) (lo + n - 1) := fun k z1 z2 => by
          have a1 := g 0 (k - lo) (by omega) (by omega)
          have a2 := g (k - lo) (n - 1) (by omega) (by omega)
          rw [show lo + (k - lo) = k by omega] at a1 a2
          rw [show lo + (n - 1) = lo + n - 1 by omega] at a2
          rw [Nat.add_zero] at a1
          omega
        have ke := K_mirror_equal (i := lo) hz all
        have dn : DscL lo (arrOf st) n := fun i j hij hj => by rw [all (lo + i) (by omega) (by omega), all (lo + j) (by omega) (by omega)]; exact Int.le_refl _
        exact wpS_bind (wpS_reverse (wpS_downP h0 hn (by omega) (hB.turn (Nat.le_refl _) (by omega)) ((dn.more (by omega) hlt).congr ke) h))
    · obtain rfl : n = 1 := by omega
      exact wpS_downP h0 hn (by omega) hB (DscL.one.more (Nat.le_refl _) hlt) h
theorem wpS_binL {st : SortSt} {n ok : Nat} {Q : Bool → SortSt → Prop} (h0 : IKA prog w A s a₀) (hn : lo + n ≤ a₀.size) (hok1 : 1 ≤ ok) (hok : ok ≤ n) (hB : SB a₀ pd lo f st) (hs : AscL lo (arrOf st) ok)
    (h : ∀ st', SB a₀ pd lo f st' → AscL lo (arrOf st') n → Q true st') : wpS (model prog w) A E s (binarySort' lo n ok) Q st := by
  rw [binarySort'_eq]
  have em : max ok 1 = ok := Nat.max_eq_left hok1
  rw [em]
  refine wpS_bind (wpS_mono (wpS_forRange (I := fun k c st' => c = (none, ()) ∧ SB a₀ pd lo f st' ∧ AscL lo (arrOf st') k) (Q := fun c st' => c = (none, ()) ∧ SB a₀ pd lo f st' ∧ AscL lo (arrOf st') n) ?step ?fin ⟨rfl, hB, hs⟩) ?post)
  case post =>
    rintro c st' ⟨e, g1, g2⟩
    subst e
    exact wpS_pure (h st' g1 g2)
  case fin =>
    rintro c st' ⟨e, g1, g2⟩
    have e2 : max ok n = n := Nat.max_eq_right hok
    rw [e2] at g2
    exact ⟨e, g1, g2⟩
  case step =>
    rintro k c st' hak hkn ⟨e, g1, g2⟩
    subst e
    have hk : lo + k < a₀.size := by omega
    refine wpS_bind (wpS_mono (wpS_forRange (I := fun x c st'' => st'' = st' ∧ ∃ l r, c = (none, l, r) ∧ l ≤ r ∧ r ≤ k ∧ r - l ≤ k - x ∧ (∀ i, i < l → K (arrOf st') (lo + i) ≤ K (arrOf st') (lo + k)) ∧ (∀ i, r ≤ i → i < k → K (arrOf st') (lo + k) < K (arrOf st') (lo + i)))
      (Q := fun c st'' => st'' = st' ∧ ∃ l r, c = (none, l, r) ∧ l ≤ k ∧ (∀ i, i < l → K (arrOf st') (lo + i) ≤ K (arrOf st') (lo + k)) ∧ (∀ i, l ≤ i → i < k → K (arrOf st') (lo + k) < K (arrOf st') (lo + i))) ?istep ?ifin
      ⟨rfl, 0, k, rfl, Nat.zero_le _, Nat.le_refl _, Nat.le_refl _, fun i z => absurd z (Nat.not_lt_zero _), fun i z1 z2 => absurd z1 (by omega)⟩) ?ipost)
    case ifin =>
      rintro c st'' ⟨e1, l, r, e2, p1, p2, p3, p4, p5⟩
      obtain rfl : l = r := by omega
      exact ⟨e1, l, l, e2, p2, p4, p5⟩
    case istep =>
      rintro x c st'' _ hxk ⟨e1, l, r, e2, p1, p2, p3, p4, p5⟩
      subst e1 e2
      dsimp only
      refine wpS_ite (fun y => ?_) (fun y => ?_)
      · obtain rfl : l = r := by omega
        exact wpS_pure ⟨rfl, l, l, rfl, p2, p4, p5⟩
      · refine wpS_bind (wpS_askL g1 h0 hk (by omega) ?_)
        dsimp only
        refine wpS_ite (fun z => ?_) (fun z => ?_)
        · have z := of_decide_eq_true z
          exact wpS_pure ⟨rfl, l, (l + r) / 2, rfl, by omega, by omega, by omega, p4, fun i z1 z2 => Int.lt_of_lt_of_le z (g2 _ _ z1 z2)⟩
        · have z := Int.not_lt.mp fun u => z (decide_eq_true u)
          exact wpS_pure ⟨rfl, (l + r) / 2 + 1, r, rfl, by omega, by omega, by omega, fun i z1 => Int.le_trans (g2 i ((l + r) / 2) (by omega) (by omega)) z, p5⟩
    case ipost =>
      rintro c st'' ⟨e1, l, r, e2, p2, p4, p5⟩
      subst e1 e2
      show wpS _ _ _ _ (do moveDown' (lo + k) (lo + l); pure (ForInStep.yield (none, ()))) _ _
      rw [moveDown'_eq]
      have hz : lo + k < (arrOf st'').size := by rw [g1.sz]; exact hk
      have dl : lo + k - (lo + l) = k - l := Nat.add_sub_add_left lo k l
      rw [dl]
      have pk : lo + k - (k - l) = lo + l := by omega
      have kb := fun i => K_bubble (d := k - l) hz (Nat.le_trans (Nat.sub_le k l) (Nat.le_add_left k lo)) i
      rw [pk] at kb
      refine wpS_bind (wpS_modify (wpS_pure ⟨rfl, g1.put (bubble_perm _ _ _) fun i hi => ?_, fun i j hij hj => ?_⟩))
      · rw [kb, if_neg (by omega), if_neg (by omega)]
      · refine bub_asc (X := fun i => K (arrOf st'') (lo + i)) (Y := fun i => K (bubble (arrOf st'') (lo + k) (k - l)) (lo + i)) (l := l) (k := k) (fun i hi => ?_) (fun a b => g2 a b) p4 p5 i j hij (Nat.le_of_lt_succ hj)
        show K (bubble (arrOf st'') (lo + k) (k - l)) (lo + i) = _
        rw [kb]
        exact bub_if (f := fun i => K (arrOf st'') i) hi
end
section
variable {prog : Program} {w : World} {A : Around} {E : Value → Shared → Prop} {s : Shared} {a₀ : Array Keyed}
theorem sortedTo_asc {xs : Array Keyed} {n : Nat} (h : AscL 0 xs n) : SortedTo xs n := fun i j hij hj => by
  have z := h i j hij hj
  rw [Nat.zero_add, Nat.zero_add] at z
  exact z
end
end SrtR



namespace L2
open PySem PySem.Spec
structure CapOk (X : Cx) (scope : Scope) (f : Str × Addr × Nat) : Prop where
  cell : X.env.cells.lookup f.1 = some f.2.1
  at' : X.N[f.2.2]? = some f.1
  kd : X.env.kindOf f.1 = some .cell
  rl : (relabel scope X.env).names.lookup f.1 = some .cell
theorem lookup_mem {β : Type} : ∀ {l : List (Str × β)} {x : Str} {c : β}, l.lookup x = some c → (x, c) ∈ l
  | [], _, _, h => by cases h
  | (y, d) :: r, x, c, h => by
    rw [List.lookup_cons] at h
    split at h
    · rename_i hx
      cases h
      rw [eq_of_beq hx]
      exact List.mem_cons_self ..
    · exact List.mem_cons_of_mem _ (lookup_mem h)
theorem lookup_has {β : Type} : ∀ {l : List (Str × β)} {x : Str}, x ∈ l.map Prod.fst → ∃ c, l.lookup x = some c
  | [], _, h => by cases h
  | (y, d) :: r, x, h => by
    rw [List.lookup_cons]
    by_cases e : (x == y) = true
    · rw [e]; exact ⟨d, rfl⟩
    · have e' : (x == y) = false := by simpa using e
      rw [e']
      refine lookup_has ?_
      rcases List.mem_cons.mp h with h | h
      · exact absurd (by rw [h]; exact beq_self_eq_true _) e
      · exact h
theorem compOkN {X : Cx} {scope : Scope} {pre : List Str} (fs : List (Str × Addr × Nat)) (ys : List Str) (hys : fs.map Prod.fst = ys) (hkind : scope.kind = .function) (h : ∀ w ∈ scope.names, w.2 ≠ .cell ∧ (w.2 = .free → w.1 ∈ ys)) (hn : ∀ w ∈ scope.names, w.2 = .local → scope.names.lookup w.1 = some .local)
    (hcl : closureFor scope X.env = pure (fs.map fun f => (f.1, f.2.1))) (hf : ∀ f ∈ fs, CapOk X scope f) :
    CompOk X scope (fs.map fun f => (f.1, f.2.1)) (pre ++ fs.map Prod.fst) (List.replicate pre.length none ++ fs.map fun f => some f.2.2) where
  clos := hcl
  cell := fun w hw => (h w hw).1
  kind := hkind
  names := hn
  cls := fun x c' q => by
    obtain ⟨f, hm, e⟩ := List.mem_map.mp (lookup_mem q)
    cases e
    exact (hf f hm).cell
  has := fun x q => by
    have key : ∀ k, (relabel scope X.env).names.lookup x = some k → k = .cell ∨ k = .free → x ∈ fs.map Prod.fst := fun k q hk => by
      have hm := PySem.mem_of_lookup q
      obtain ⟨⟨n, k'⟩, hy, ey⟩ := List.mem_map.mp hm
      have h1 := h _ hy
      by_cases hf : k' = .free
      · have w := h1.2 hf
        rw [← hys] at w
        dsimp only at ey
        split at ey
        · cases ey; exact w
        · cases ey; exact w
      · have hb : (k' == NameKind.free) = false := by simpa using hf
        simp only [hb, Bool.false_and, Bool.false_eq_true, if_false, Prod.mk.injEq] at ey
        obtain ⟨_, rfl⟩ := ey
        rcases hk with hk | hk
        · exact absurd hk h1.1
        · exact absurd hk hf
    have hx : x ∈ fs.map Prod.fst := by
      rcases q with q | q
      · exact key _ q (.inl rfl)
      · exact key _ q (.inr rfl)
    refine lookup_has ?_
    rw [List.map_map]
    exact hx
  len := by simp
  src := fun i q x e1 e2 => by
    by_cases hi : i < pre.length
    · rw [List.getElem?_append_left (by simpa using hi), List.getElem?_replicate, if_pos hi] at e1
      cases e1
    · rw [List.getElem?_append_right (by simp; omega), List.length_replicate, List.getElem?_map] at e1
      rw [List.getElem?_append_right (by omega), List.getElem?_map] at e2
      obtain ⟨f, e3, e4⟩ := Option.map_eq_some_iff.mp e1
      rw [e3] at e2
      cases e4
      obtain rfl := Option.some.inj e2
      have z := hf f (List.mem_of_getElem? e3)
      exact ⟨z.at', .inl z.kd, .inl z.rl⟩
theorem caps_nil {X : Cx} {scope : Scope} : ∀ f ∈ ([] : List (Str × Addr × Nat)), CapOk X scope f := fun f h => by cases h
theorem caps_cons {X : Cx} {scope : Scope} {f : Str × Addr × Nat} {fs : List (Str × Addr × Nat)} (h : CapOk X scope f) (k : ∀ g ∈ fs, CapOk X scope g) : ∀ g ∈ f :: fs, CapOk X scope g := fun g hg => by
  rcases List.mem_cons.mp hg with rfl | hg
  · exact h
  · exact k g hg
end L2

namespace L2
theorem iteYes {b : Bool} {A B : Prop} (hb : b = true) (h : A) : if b = true then A else B := by rw [if_pos hb]; exact h
theorem iteNo {b : Bool} {A B : Prop} (hb : b = false) (h : B) : if b = true then A else B := by rw [if_neg (by rw [hb]; decide)]; exact h
end L2
namespace Mir
open PySem L2
def spFramed : Sp := fun vs H Q _ => ∃ (t : Addr) (rs : List Int), vs = [.ref t] ∧ H t = some (.tup (iV rs)) ∧ rs.length ≤ 100 ∧ ∀ (t' : Addr) (H' : Hp), Same H H' → H' t' = some (.tup (iV (frm rs))) → Q (.ref t') H'
def spOpenGaps : Sp := fun vs H Q _ => ∃ (t : Addr) (rs : List Int), vs = [.ref t] ∧ H t = some (.tup (iV rs)) ∧ rs.length ≤ 100 ∧ ∀ (l : Addr) (H' : Hp), H l = none → Same H H' → H' l = some (.lst (iV (openL (frm rs) (rs.length + 1)))) → Q (.ref l) H'
def spLawFramed : Sp := fun vs H Q _ => ∃ (t : Addr) (rs : List Int), vs = [.ref t] ∧ H t = some (.tup (iV rs)) ∧ rs.length ≤ 100 ∧ ∀ (l : Addr) (H' : Hp), H l = none → Same H H' → H' l = some (.lst (iV (frm rs))) → Q (.ref l) H'
def two (p : Int × Int) : List Int := [p.1, p.2]
theorem iV_ap (a b : List Int) : iV (a ++ b) = iV a ++ iV b := by unfold iV; rw [List.map_append]
theorem iV_get0 {rs : List Int} {j : Nat} (h : j < rs.length) : (iV rs)[j]? = some (.int (rs.getD j 0)) := iV_get (getD_get h)
theorem atI_minus {L : List Int} {n : Nat} (h : L.length = n + 1) : atI (iV L) (-1) = some (.int (L.getD n 0)) := by
  unfold atI ixN
  rw [iV_len, h, if_neg (by decide), if_pos (by omega)]
  have e : ((-1 : Int) + ((n + 1 : Nat) : Int)).toNat = n := by omega
  rw [e]
  exact iV_get0 (by omega)
theorem absI_eq (x : Int) : (if x < 0 then -x else x) = absI x := rfl
end Mir

namespace L2
open PySem PySem.Spec PyProof.Rows
def tupI (H : Hp) (t : Addr) : List Int := match H t with
  | some (.tup xs) => xs.map fun v => match v with
    | .int i => i
    | _ => 0
  | _ => []
theorem tupI_of {H : Hp} {t : Addr} {ns : List Int} (h : H t = some (.tup (ns.map V.int))) : tupI H t = ns := by
  unfold tupI
  rw [h]
  show (ns.map V.int).map _ = ns
  rw [List.map_map]
  exact List.map_id' ns
def eqT (H : Hp) (ns : List Int) : Value → Bool
  | .ref t => decide (tupI H t = ns)
  | _ => false
theorem vals_refsI : ∀ {ts : List Addr} {its : List Value}, Vals (ts.map V.ref) its → its = ts.map Value.ref
  | [], _, .nil => rfl
  | t :: ts, _, .cons h r => by rw [vals_refsI r]; cases h; rfl
def rInT : R2 := fun x y H Q => ∃ (t p : Addr) (ts : List Addr) (ns : List Int) (rows : List (List Int)), x = .ref t ∧ y = .ref p ∧ H t = some (.tup (ns.map V.int)) ∧ H p = some (.lst (ts.map V.ref)) ∧ ts.length = rows.length ∧ (∀ (i : Nat) (u : Addr) (r : List Int), ts[i]? = some u → rows[i]? = some r → H u = some (.tup (r.map V.int))) ∧ Q (.bl (decide (ns ∈ rows))) H
section
variable {X : Cx}
theorem op_in_tups {K : PySem.W.Frag} (hK : X.K = K) (hu : X.A.units + 1 < cLine) : OpR X (compareOp .In) rInT := by
  subst hK
  intro pins s σ H x y v u Q I rx ry h
  obtain ⟨t, p, ts, ns, rows, rfl, rfl, ht, hp, hl, hr, q⟩ := h
  cases rx
  cases ry
  obtain ⟨its, r, pl, hz⟩ := I.list (SqL.of hp)
  have er : its = ts.map Value.ref := vals_refsI r
  subst er
  have row : ∀ w ∈ ts, ∃ rr ∈ rows, H w = some (.tup (rr.map V.int)) := fun w hw => by
    obtain ⟨i, hi, rfl⟩ := List.getElem_of_mem hw
    exact ⟨rows[i]'(by omega), List.getElem_mem _, hr i _ _ (List.getElem?_eq_getElem hi) (List.getElem?_eq_getElem (by omega))⟩
  refine SeqAt.in_listAt (eqT H ns) pl.isList (fun w hw => ?_) ⟨.bl _, H, I, rfl, ?_⟩
  · obtain ⟨a, ha, rfl⟩ := List.mem_map.mp (show w ∈ ts.map Value.ref by simpa using hw)
    obtain ⟨rr, _, e⟩ := row a ha
    have z := eqAt_tupD (A := X.A.in1) (ns := rr) (ms := ns) I (by show X.A.units + 1 < cLine; exact hu) (SqT.of e) (SqT.of ht)
    show SeqAt.EqAt _ _ _ _ (decide (tupI H a = ns))
    rw [tupI_of e]
    exact z
  · have e : (ts.map Value.ref).toArray.any (eqT H ns) = decide (ns ∈ rows) := by
      rw [show (ts.map Value.ref).toArray.any (eqT H ns) = (ts.map Value.ref).any (eqT H ns) by simp, Bool.eq_iff_iff, List.any_eq_true, decide_eq_true_iff]
      constructor
      · rintro ⟨w, hw, hz⟩
        obtain ⟨a, ha, rfl⟩ := List.mem_map.mp hw
        obtain ⟨rr, hrr, e⟩ := row a ha
        have hz : tupI H a = ns := of_decide_eq_true hz
        rw [tupI_of e] at hz
        rw [← hz]
        exact hrr
      · intro hm
        obtain ⟨i, hi, e1⟩ := List.getElem_of_mem hm
        have hi2 : i < ts.length := by omega
        refine ⟨.ref ts[i], List.mem_map.mpr ⟨_, List.getElem_mem hi2, rfl⟩, ?_⟩
        show decide (tupI H ts[i] = ns) = true
        rw [tupI_of (hr i _ _ (List.getElem?_eq_getElem hi2) (List.getElem?_eq_getElem hi)), e1]
        exact decide_eq_true rfl
    rw [e]
    exact q
end
end L2

namespace L2
open PySem PySem.Spec PyProof.Rows
theorem op_eq_nilK {X : Cx} {K : PySem.W.Frag} (hK : X.K = K) (hu : X.A.units < cLine) : OpR X (compareOp .Eq) (fun x y H Q => ∃ (a b : Addr) (xs : List V), x = .ref a ∧ y = .ref b ∧ SqL K H a xs ∧ SqL K H b [] ∧ Q (.bl (decide (xs.length = 0))) H) := by
  subst hK
  intro pins s σ H x y v u Q I rx ry h
  obtain ⟨a, b, xs, rfl, rfl, ha, hb, q⟩ := h
  cases rx
  cases ry
  obtain ⟨i1, r1, p1, z1⟩ := I.list ha
  obtain ⟨i2, r2, p2, z2⟩ := I.list hb
  have l1 : xs.length = i1.length := r1.length
  have l2 : 0 = i2.length := r2.length
  by_cases c : xs.length = 0
  · refine SeqAt.eq_listAt (e := fun j => true) p1.isList p2.isList (by simp only [List.size_toArray]; omega) hu (fun j h1 h2 => ?_) ⟨.bl (decide (xs.length = 0)), H, I, ?_, q⟩
    · exfalso
      simp only [List.size_toArray] at h1
      omega
    · show Value.bool _ = Value.bool _
      congr 1
      rw [decide_eq_true c]
      exact List.all_eq_true.mpr fun _ _ => rfl
  · refine SeqAt.eq_list_lengthsAt p1.isList p2.isList (by simp only [List.size_toArray, bne_iff_ne]; omega) hu ⟨.bl (decide (xs.length = 0)), H, I, ?_, q⟩
    show Value.bool _ = Value.bool _
    rw [decide_eq_false c]
end L2

namespace Mir
open PySem L2
open Classical
noncomputable def whRow (fs : List Int) (a m : Nat) : List (Int × Int) := ((List.range m).filter fun b => decide (Wh fs a b)).map fun (b : Nat) => ((a : Int), (b : Int))
noncomputable def whL (fs : List Int) (i : Nat) : List (Int × Int) := (List.range i).flatMap fun a => whRow fs a fs.length
noncomputable def isKn (fs : List Int) (p : Int × Int) : Bool := decide (Kn fs p.1.toNat p.2.toNat)
noncomputable def kinL (fs : List Int) : List (Int × Int) := (whL fs fs.length).filter (isKn fs)
theorem whRow_succ (fs : List Int) (a m : Nat) : whRow fs a (m + 1) = whRow fs a m ++ (if Wh fs a m then [((a : Int), (m : Int))] else []) := by
  unfold whRow
  rw [List.range_succ, List.filter_append, List.map_append, List.filter_cons, List.filter_nil]
  congr 1
  by_cases c : Wh fs a m
  · rw [if_pos (decide_eq_true c), if_pos c]; rfl
  · rw [if_neg (by rw [decide_eq_false c]; decide), if_neg c]; rfl
theorem whRow_start (fs : List Int) (a : Nat) : ∀ m, m ≤ a + 1 → whRow fs a m = []
  | 0, _ => rfl
  | m + 1, h => by
    rw [whRow_succ, whRow_start fs a m (by omega), if_neg (fun W => by have := W.lt; omega)]
    rfl
theorem whL_succ (fs : List Int) (i : Nat) : whL fs (i + 1) = whL fs i ++ whRow fs i fs.length := by unfold whL; rw [List.range_succ, List.flatMap_append]; simp
theorem whRow_len (fs : List Int) (a m : Nat) : (whRow fs a m).length ≤ m := by
  unfold whRow
  rw [List.length_map]
  exact Nat.le_trans (List.length_filter_le _ _) (by rw [List.length_range]; exact Nat.le_refl _)
theorem whL_len (fs : List Int) : ∀ i, (whL fs i).length ≤ i * fs.length
  | 0 => by unfold whL; simp
  | i + 1 => by
    rw [whL_succ, List.length_append, Nat.succ_mul]
    have := whL_len fs i
    have := whRow_len fs i fs.length
    omega
theorem whRow_mem {fs : List Int} {a m : Nat} {p : Int × Int} : p ∈ whRow fs a m ↔ ∃ b : Nat, b < m ∧ Wh fs a b ∧ p = ((a : Int), (b : Int)) := by
  unfold whRow
  rw [List.mem_map]
  constructor
  · rintro ⟨b, hb, rfl⟩
    obtain ⟨h1, h2⟩ := List.mem_filter.mp hb
    exact ⟨b, List.mem_range.mp h1, of_decide_eq_true h2, rfl⟩
  · rintro ⟨b, h1, h2, rfl⟩
    exact ⟨b, List.mem_filter.mpr ⟨List.mem_range.mpr h1, decide_eq_true h2⟩, rfl⟩
theorem whL_mem {fs : List Int} {p : Int × Int} : p ∈ whL fs fs.length ↔ ∃ a b : Nat, Wh fs a b ∧ p = ((a : Int), (b : Int)) := by
  unfold whL
  rw [List.mem_flatMap]
  constructor
  · rintro ⟨a, ha, h⟩
    obtain ⟨b, _, h2, rfl⟩ := whRow_mem.mp h
    exact ⟨a, b, h2, rfl⟩
  · rintro ⟨a, b, W, rfl⟩
    exact ⟨a, List.mem_range.mpr (Nat.lt_trans W.lt W.lb), whRow_mem.mpr ⟨b, W.lb, W, rfl⟩⟩
theorem kn_uniq {fs : List Int} {a b c : Nat} (h1 : Kn fs a b) (h2 : Kn fs a c) : b = c := by
  by_cases x : b < c
  · exact absurd h1.1 (h2.2 b x)
  · by_cases y : c < b
    · exact absurd h2.1 (h1.2 c y)
    · omega
theorem kn_least {fs : List Int} {a : Nat} : ∀ b, Wh fs a b → ∃ c, Kn fs a c := fun b => by
  induction b using Nat.strongRecOn with
  | _ b ih =>
    intro W
    by_cases h : ∃ c, c < b ∧ Wh fs a c
    · obtain ⟨c, h1, h2⟩ := h
      exact ih c h1 h2
    · exact ⟨b, W, fun c hc hw => h ⟨c, hc, hw⟩⟩
theorem knRow {fs : List Int} {a : Nat} : (∀ b, ¬ Wh fs a b) ∧ (whRow fs a fs.length).filter (isKn fs) = [] ∨ ∃ b, Kn fs a b ∧ (whRow fs a fs.length).filter (isKn fs) = [((a : Int), (b : Int))] := by
  by_cases h : ∃ b, Wh fs a b
  · right
    obtain ⟨b0, W⟩ := h
    obtain ⟨b, hk⟩ := kn_least b0 W
    refine ⟨b, hk, ?_⟩
    have key : ∀ m, (whRow fs a m).filter (isKn fs) = if b < m then [((a : Int), (b : Int))] else [] := fun m => by
      induction m with
      | zero => rw [if_neg (by omega)]; rfl
      | succ m ih =>
        rw [whRow_succ, List.filter_append, ih]
        by_cases e : b = m
        · subst e
          rw [if_neg (by omega), if_pos hk.1, if_pos (by omega), List.filter_cons, List.filter_nil, if_pos]
          · rfl
          · unfold isKn; exact decide_eq_true (by simpa using hk)
        · by_cases w : Wh fs a m
          · have nk : ¬ isKn fs ((a : Int), (m : Int)) = true := fun z => by
              have z : Kn fs a m := by have := of_decide_eq_true (show decide (Kn fs ((a : Int)).toNat ((m : Int)).toNat) = true from z); simpa using this
              exact e (kn_uniq hk z)
            rw [if_pos w, List.filter_cons, List.filter_nil, if_neg nk, List.append_nil]
            by_cases lt : b < m
            · rw [if_pos lt, if_pos (by omega)]
            · rw [if_neg lt, if_neg (by omega)]
          · rw [if_neg w, List.filter_nil, List.append_nil]
            by_cases lt : b < m
            · rw [if_pos lt, if_pos (by omega)]
            · rw [if_neg lt, if_neg (by omega)]
    rw [key, if_pos hk.1.lb]
  · left
    refine ⟨fun b W => h ⟨b, W⟩, ?_⟩
    have : whRow fs a fs.length = [] := List.eq_nil_iff_forall_not_mem.mpr fun p hp => by
      obtain ⟨b, _, W, _⟩ := whRow_mem.mp hp
      exact h ⟨b, W⟩
    rw [this]
    rfl
theorem kinL_pre (fs : List Int) : ∀ i, ((whL fs i).filter (isKn fs)).length ≤ i
  | 0 => Nat.le_refl _
  | i + 1 => by
    have ih := kinL_pre fs i
    rw [whL_succ, List.filter_append, List.length_append]
    rcases knRow (fs := fs) (a := i) with ⟨_, e⟩ | ⟨b, _, e⟩
    · rw [e]; show _ + 0 ≤ _; omega
    · rw [e]; show _ + 1 ≤ _; omega
theorem kinL_len (fs : List Int) : (kinL fs).length ≤ fs.length := kinL_pre fs _
def spKinEnd : Sp := fun vs H Q _ => ∃ (t : Addr) (fs : List Int) (a : Nat), vs = [.ref t, .int a] ∧ H t = some (.tup (iV fs)) ∧ (absL fs).Nodup ∧ a < fs.length ∧ fs.length ≤ 100 ∧
  (∀ b : Nat, Kn fs a b → Q (.int b) H) ∧ ((∀ b, ¬ Wh fs a b) → Q .non H)
def spKinSpans : Sp := fun vs H Q _ => ∃ (t : Addr) (rs : List Int), vs = [.ref t] ∧ H t = some (.tup (iV rs)) ∧ Fit rs ∧ ∀ (l : Addr) (H' : Hp), H l = none → Same H H' → TsT pr H' l (kinL (frm rs)) → Q (.ref l) H'
def spIsWhole : Sp := fun vs H Q _ => ∃ (l : Addr) (fs : List Int) (a b : Nat), vs = [.ref l, .int a, .int b] ∧ H l = some (.lst (iV fs)) ∧ (absL fs).Nodup ∧ (∀ x ∈ absL fs, x ≤ 1000) ∧ a < b ∧ b < fs.length ∧ fs.length ≤ 60 ∧
  ∀ (r : Bool) (H' : Hp), (r = true ↔ Wh fs a b) → Same H H' → Q (.bl r) H'
def spRowOfKins (K : PySem.W.Frag) : Sp := fun vs H Q _ => ∃ (a : Addr) (ns : List Int) (at' many : Nat), vs = [.ref a, .int at', .int many] ∧ SqL K H a (ns.map V.int) ∧ many ≤ 40 ∧
  ∀ (t : Addr) (H' : Hp) (rs : List Int), Same H H' → H' t = some (.tup (iV rs)) → rs.length = many → Fit rs → Q (.ref t) H'
end Mir

namespace Mir
theorem list_snoc {α : Type} {P : List α → Prop} (h0 : P []) (h1 : ∀ l a, P l → P (l ++ [a])) : ∀ l, P l := fun l => by
  have : ∀ l : List α, P l.reverse := fun l => by
    induction l with
    | nil => exact h0
    | cons a r ih => rw [List.reverse_cons]; exact h1 _ _ ih
  have z := this l.reverse
  rwa [List.reverse_reverse] at z
end Mir

namespace Mir
theorem frm_pos {rs : List Int} (fit : Fit rs) {p : Nat} (h0 : 0 < p) (hp : p < rs.length + 2) : (frm rs).getD p 0 ≠ 0 := fun e => by
  have z : absI ((frm rs).getD p 0) = ((0 : Nat) : Int) := by rw [e]; rfl
  have := plF_at fit hp z
  rw [plF_zero fit] at this
  omega
end Mir

namespace Mir
theorem pigA {fs : List Int} (nd : (absL fs).Nodup) {a : Nat} (lo : Int) : ∀ (m : Nat) (S : List Nat), S.Nodup → (∀ i ∈ S, i < fs.length ∧ lo ≤ amA fs a i ∧ amA fs a i < lo + m) → S.length ≤ m := by
  intro m
  induction m with
  | zero =>
    intro S _ hS
    cases S with
    | nil => exact Nat.le_refl _
    | cons i r => have := hS i List.mem_cons_self; omega
  | succ m ih =>
    intro S hn hS
    by_cases c0 : ∃ i ∈ S, amA fs a i = lo + m
    · obtain ⟨i, hi, ei⟩ := c0
      have l1 : (S.erase i).length = S.length - 1 := List.length_erase_of_mem hi
      have l2 := ih (S.erase i) (hn.erase i) fun k hk => by
        have hk' := (List.Nodup.mem_erase_iff hn).mp hk
        have q := hS k hk'.2
        refine ⟨q.1, q.2.1, ?_⟩
        have ne : amA fs a k ≠ lo + m := fun e => hk'.1 (amA_inj nd q.1 (hS i hi).1 (e.trans ei.symm))
        omega
      have := List.length_pos_of_mem hi
      omega
    · have := ih S hn fun k hk => by
        have q := hS k hk
        refine ⟨q.1, q.2.1, ?_⟩
        have ne : amA fs a k ≠ lo + m := fun e => c0 ⟨k, hk, e⟩
        omega
      omega
theorem pls_nodup (a m : Nat) : ((List.range m).map (· + a)).Nodup := by
  rw [List.nodup_iff_pairwise_ne, List.pairwise_map]
  exact List.pairwise_lt_range.imp fun h => by omega
theorem pls_mem {a m i : Nat} (h : i ∈ (List.range m).map (· + a)) : a ≤ i ∧ i < a + m := by
  obtain ⟨k, hk, rfl⟩ := List.mem_map.mp h
  have := List.mem_range.mp hk
  omega
theorem Wh.at' {fs : List Int} {a b j : Nat} (W : Wh fs a b) (h1 : a ≤ j) (h2 : j ≤ b) : fs.getD a 0 ≤ amA fs a j ∧ amA fs a j ≤ fs.getD b 0 := by
  by_cases e : j = a
  · rw [e, amA_self]; have := W.far; have := W.lt; omega
  · exact W.mid j (by omega) h2
theorem Wh.inside {fs : List Int} (nd : (absL fs).Nodup) {a b j : Nat} (W : Wh fs a b) (hj : j < fs.length) (h1 : fs.getD a 0 ≤ amA fs a j) (h2 : amA fs a j ≤ fs.getD b 0) : a ≤ j ∧ j ≤ b := by
  refine Classical.byContradiction fun c => ?_
  have lt := W.lt
  have lb := W.lb
  have far := W.far
  have S := pigA nd (a := a) (fs.getD a 0) (b - a + 1) (j :: (List.range (b - a + 1)).map (· + a)) (List.nodup_cons.mpr ⟨fun hm => by have := pls_mem hm; omega, pls_nodup a _⟩) (fun i hi => by
    rcases List.mem_cons.mp hi with rfl | hi
    · exact ⟨hj, h1, by omega⟩
    · have q := pls_mem hi
      have z := W.at' (j := i) (by omega) (by omega)
      exact ⟨by omega, z.1, by omega⟩)
  rw [List.length_cons, List.length_map, List.length_range] at S
  omega
theorem kn_nest {fs : List Int} (nd : (absL fs).Nodup) {a b c d : Nat} (h : Kn fs a b) (k : Wh fs c d) (h1 : a < c) (h2 : c < b) : d ≤ b := by
  refine Classical.byContradiction fun hd => ?_
  have hd : b < d := by omega
  obtain ⟨W, no⟩ := h
  have f1 := W.far
  have f2 := k.far
  have lb := k.lb
  have mc := W.mid c h1 (by omega)
  have mb := k.mid b h2 (by omega)
  have ob := W.own
  have inj : absI (fs.getD b 0) = absI (fs.getD c 0) → False := fun e => by
    have : b = c := amA_inj nd (a := a) (by omega) (by omega) (by unfold amA; rw [e])
    omega
  by_cases s : (fs.getD a 0 < 0) ↔ (fs.getD c 0 < 0)
  · have sg : ∀ j, amA fs c j = amA fs a j := fun j => by
      unfold amA
      by_cases t : fs.getD a 0 < 0
      · rw [if_pos t, if_pos (s.mp t)]
      · rw [if_neg t, if_neg fun z => t (s.mpr z)]
    have ec : fs.getD c 0 = amA fs a c := by rw [← sg, amA_self]
    rw [sg] at mb
    have below : ∀ j, a ≤ j → j < c → amA fs a j < fs.getD c 0 := fun j j1 j2 => by
      refine Classical.byContradiction fun z => ?_
      have u := (W.at' (j := j) j1 (by omega)).2
      have := k.inside nd (j := j) (by omega) (by rw [sg]; omega) (by rw [sg]; omega)
      omega
    have S1 := pigA nd (a := a) (fs.getD a 0) (fs.getD c 0 - fs.getD a 0).toNat ((List.range (c - a)).map (· + a)) (pls_nodup a _) (fun i hi => by
      have q := pls_mem hi
      have z := W.at' (j := i) (by omega) (by omega)
      have y := below i (by omega) (by omega)
      exact ⟨by omega, z.1, by omega⟩)
    have S2 := pigA nd (a := a) (fs.getD c 0) (fs.getD b 0 + 1 - fs.getD c 0).toNat ((List.range (b + 1 - c)).map (· + c)) (pls_nodup c _) (fun i hi => by
      have q := pls_mem hi
      have z := W.at' (j := i) (by omega) (by omega)
      have y := k.at' (j := i) (by omega) (by omega)
      rw [sg] at y
      exact ⟨by omega, y.1, by omega⟩)
    rw [List.length_map, List.length_range] at S1 S2
    refine no c h2 ⟨h1, by omega, fun j j1 j2 => ⟨(W.mid j j1 (by omega)).1, ?_⟩, ec, by omega⟩
    by_cases e : j = c
    · rw [e, ← ec]; exact Int.le_refl _
    · exact Int.le_of_lt (below j (by omega) (by omega))
  · have p1 := absI_pos (fs.getD b 0)
    have p2 := absI_pos (fs.getD c 0)
    unfold amA at mc mb ob
    by_cases t : fs.getD a 0 < 0
    · have u : ¬ fs.getD c 0 < 0 := fun z => s ⟨fun _ => z, fun _ => t⟩
      rw [if_pos t] at mc ob
      rw [if_neg u] at mb
      have e : absI (fs.getD c 0) = fs.getD c 0 := by unfold absI; rw [if_neg u]
      exact inj (by omega)
    · have u : fs.getD c 0 < 0 := Classical.byContradiction fun z => s ⟨fun y => absurd y t, fun y => absurd y z⟩
      rw [if_neg t] at mc ob
      rw [if_pos u] at mb
      have e : absI (fs.getD c 0) = - fs.getD c 0 := by unfold absI; rw [if_pos u]
      exact inj (by omega)
theorem kn_has {fs : List Int} (nd : (absL fs).Nodup) {b g : Nat} : ∀ m a, b - a = m → Wh fs a b → a ≤ g → g < b → ∃ c d, Kn fs c d ∧ c ≤ g ∧ g < d := by
  intro m
  induction m using Nat.strongRecOn with
  | _ m ih =>
    intro a hm W h1 h2
    obtain ⟨c, hc⟩ := kn_least b W
    by_cases e : g < c
    · exact ⟨a, c, hc, h1, e⟩
    · have lt := hc.1.lt
      exact ih (b - c) (by omega) c rfl (hc.1.rest nd W (by omega)) (by omega) h2
theorem frm_whole {rs : List Int} (fit : Fit rs) : Wh (frm rs) 0 (rs.length + 1) := by
  have l := frm_len rs
  have e0 : amA (frm rs) 0 = fun j => absI ((frm rs).getD j 0) := by funext j; unfold amA; rw [frm_zero, if_neg (by decide)]
  refine ⟨by omega, by omega, fun j h1 h2 => ?_, ?_, ?_⟩
  · have := frm_abs fit (j := j) (by omega)
    rw [e0, frm_zero, frm_last]
    dsimp only
    omega
  · rw [e0, frm_last]
    dsimp only
    rw [frm_last]
    unfold absI
    rw [if_neg (by omega)]
  · rw [frm_zero, frm_last]; omega
structure Own (fs : List Int) (g c d : Nat) : Prop where
  kn : Kn fs c d
  le : c ≤ g
  lt : g < d
  top : ∀ c' d', Kn fs c' d' → c' ≤ g → g < d' → c' ≤ c
theorem Own.uniq {fs : List Int} {g c d c' d' : Nat} (h : Own fs g c d) (k : Own fs g c' d') : c = c' ∧ d = d' := by
  have e : c = c' := Nat.le_antisymm (k.top c d h.kn h.le h.lt) (h.top c' d' k.kn k.le k.lt)
  subst e
  exact ⟨rfl, kn_uniq h.kn k.kn⟩
theorem own_of {fs : List Int} {g : Nat} : ∀ m c d, g - c = m → Kn fs c d → c ≤ g → g < d → ∃ c d, Own fs g c d := by
  intro m
  induction m using Nat.strongRecOn with
  | _ m ih =>
    intro c d hm k h1 h2
    by_cases e : ∃ c' d', Kn fs c' d' ∧ c' ≤ g ∧ g < d' ∧ c < c'
    · obtain ⟨c', d', k', h1', h2', lt⟩ := e
      exact ih (g - c') (by omega) c' d' rfl k' h1' h2'
    · exact ⟨c, d, k, h1, h2, fun c' d' k' h1' h2' => Classical.byContradiction fun z => e ⟨c', d', k', h1', h2', by omega⟩⟩
theorem own_ex {rs : List Int} (fit : Fit rs) {g : Nat} (hg : g < rs.length + 1) : ∃ c d, Own (frm rs) g c d := by
  obtain ⟨c, d, k, h1, h2⟩ := kn_has (frm_nodup fit) (rs.length + 1 - 0) 0 rfl (frm_whole fit) (Nat.zero_le g) hg
  exact own_of _ c d rfl k h1 h2
open Classical in
noncomputable def ow (fs : List Int) (g : Nat) : Int × Int := if h : ∃ p : Nat × Nat, Own fs g p.1 p.2 then (((choose h).1 : Int), ((choose h).2 : Int)) else (0, 0)
theorem ow_eq {fs : List Int} {g c d : Nat} (h : Own fs g c d) : ow fs g = ((c : Int), (d : Int)) := by
  have e : ∃ p : Nat × Nat, Own fs g p.1 p.2 := ⟨(c, d), h⟩
  unfold ow
  rw [dif_pos e]
  have z := (Classical.choose_spec e).uniq h
  rw [z.1, z.2]
noncomputable def gapL (rs : List Int) : List (Int × Int) := (List.range (rs.length + 1)).map (ow (frm rs))
open Classical in
theorem kinL_mem {fs : List Int} {p : Int × Int} : p ∈ kinL fs ↔ ∃ a b : Nat, Kn fs a b ∧ p = ((a : Int), (b : Int)) := by
  unfold kinL
  rw [List.mem_filter, whL_mem]
  constructor
  · rintro ⟨⟨a, b, W, rfl⟩, h⟩
    refine ⟨a, b, ?_, rfl⟩
    have := of_decide_eq_true (show decide (Kn fs ((a : Int)).toNat ((b : Int)).toNat) = true from h)
    simpa using this
  · rintro ⟨a, b, k, rfl⟩
    refine ⟨⟨a, b, k.1, rfl⟩, ?_⟩
    show decide (Kn fs ((a : Int)).toNat ((b : Int)).toNat) = true
    exact decide_eq_true (by simpa using k)
theorem kinL_asc (fs : List Int) : (kinL fs).Pairwise fun p q => p.1 < q.1 := by
  have key : ∀ i, (((whL fs i).filter (isKn fs)).Pairwise fun p q => p.1 < q.1) ∧ ∀ p ∈ (whL fs i).filter (isKn fs), p.1 < (i : Int) := fun i => by
    induction i with
    | zero => exact ⟨List.Pairwise.nil, fun p hp => absurd hp List.not_mem_nil⟩
    | succ i ih =>
      rw [whL_succ, List.filter_append]
      rcases knRow (fs := fs) (a := i) with ⟨_, e⟩ | ⟨b, _, e⟩
      · rw [e, List.append_nil]
        exact ⟨ih.1, fun p hp => by have := ih.2 p hp; omega⟩
      · rw [e]
        refine ⟨List.pairwise_append.mpr ⟨ih.1, List.pairwise_singleton .., fun p hp q hq => ?_⟩, fun p hp => ?_⟩
        · rw [List.mem_singleton.mp hq]
          exact ih.2 p hp
        · rcases List.mem_append.mp hp with hp | hp
          · have := ih.2 p hp; omega
          · rw [List.mem_singleton.mp hp]
            show (i : Int) < _
            omega
  exact (key fs.length).1
def mv (n : Nat) (x : Int) : Int := if x < 0 then - ((n : Int) + 1) - x else (n : Int) + 1 - x
def mir (rs : List Int) : List Int := rs.reverse.map (mv rs.length)
theorem mir_len (rs : List Int) : (mir rs).length = rs.length := by unfold mir; rw [List.length_map, List.length_reverse]
theorem fit_in {rs : List Int} (fit : Fit rs) {x : Int} (h : x ∈ rs) : 1 ≤ absI x ∧ absI x ≤ rs.length := by
  have z := fit.perm.mem_iff.mp (show absI x ∈ absL rs from List.mem_map.mpr ⟨x, h, rfl⟩)
  unfold from1 at z
  obtain ⟨i, hi, e⟩ := List.mem_map.mp z
  have := List.mem_range.mp hi
  omega
theorem mv_abs {n : Nat} {x : Int} (h1 : 1 ≤ absI x) (h2 : absI x ≤ n) : absI (mv n x) = (n : Int) + 1 - absI x ∧ (mv n x < 0 ↔ x < 0) ∧ mv n (mv n x) = x := by
  unfold mv absI at *
  by_cases s : x < 0
  · rw [if_pos s] at *
    rw [if_pos (by omega), if_pos (by omega)]
    omega
  · rw [if_neg s] at *
    rw [if_neg (by omega), if_neg (by omega)]
    omega
theorem mir_fit {rs : List Int} (fit : Fit rs) : Fit (mir rs) := by
  refine ⟨by rw [mir_len]; exact fit.small, ?_⟩
  rw [mir_len]
  have e : absL (mir rs) = (absL rs).reverse.map fun y => (rs.length : Int) + 1 - y := by
    unfold mir absL
    rw [List.map_map, ← List.map_reverse, List.map_map]
    refine List.map_congr_left fun x hx => ?_
    have z := fit_in fit (List.mem_reverse.mp hx)
    exact (mv_abs z.1 z.2).1
  have nd : (from1 rs.length).Nodup := by
    unfold from1
    rw [List.nodup_iff_pairwise_ne, List.pairwise_map]
    exact List.pairwise_lt_range.imp fun h => by omega
  have nd1 : (absL rs).Nodup := fit.perm.nodup_iff.mpr nd
  rw [e]
  refine (List.perm_ext_iff_of_nodup ?_ nd).mpr fun y => ?_
  · rw [List.nodup_iff_pairwise_ne, List.pairwise_map]
    exact List.pairwise_reverse.mpr (List.Pairwise.imp (fun h => by omega) nd1)
  · have f1 : ∀ y, y ∈ from1 rs.length ↔ 1 ≤ y ∧ y ≤ rs.length := fun y => by
      unfold from1
      rw [List.mem_map]
      constructor
      · rintro ⟨i, hi, rfl⟩
        have := List.mem_range.mp hi
        omega
      · intro h
        exact ⟨(y - 1).toNat, List.mem_range.mpr (by omega), by omega⟩
    rw [List.mem_map, f1]
    constructor
    · rintro ⟨z, hz, rfl⟩
      have := (f1 z).mp (fit.perm.mem_iff.mp (List.mem_reverse.mp hz))
      omega
    · intro h
      exact ⟨(rs.length : Int) + 1 - y, List.mem_reverse.mpr (fit.perm.mem_iff.mpr ((f1 _).mpr (by omega))), by omega⟩
theorem mir_mir {rs : List Int} (fit : Fit rs) : mir (mir rs) = rs := by
  unfold mir
  rw [List.length_map, List.length_reverse, ← List.map_reverse, List.reverse_reverse, List.map_map]
  refine (List.map_congr_left fun x hx => ?_).trans (List.map_id rs)
  have z := fit_in fit hx
  exact (mv_abs z.1 z.2).2.2
theorem frm_mir {rs : List Int} {p : Nat} (hp : p < rs.length + 2) : (frm (mir rs)).getD p 0 = mv rs.length ((frm rs).getD (rs.length + 1 - p) 0) := by
  cases p with
  | zero =>
    rw [Nat.sub_zero, frm_last, frm_zero]
    unfold mv
    rw [if_neg (by omega)]
    omega
  | succ p =>
    by_cases c : p < rs.length
    · rw [frm_mid (by rw [mir_len]; exact c), show rs.length + 1 - (p + 1) = (rs.length - 1 - p) + 1 by omega, frm_mid (by omega)]
      have e : (mir rs)[p]? = some (mv rs.length (rs.getD (rs.length - 1 - p) 0)) := by
        unfold mir
        rw [List.getElem?_map, List.getElem?_reverse c, getD_get (by omega)]
        rfl
      rw [List.getD, e]
      rfl
    · have e : p = rs.length := by omega
      have z := frm_last (mir rs)
      rw [mir_len] at z
      rw [e, z, Nat.sub_self, frm_zero]
      unfold mv
      rw [if_neg (by omega)]
      omega
theorem frm_known {rs : List Int} (fit : Fit rs) {j : Nat} (hj : j < rs.length + 2) : absI (mv rs.length ((frm rs).getD j 0)) = (rs.length : Int) + 1 - absI ((frm rs).getD j 0) ∧ (mv rs.length ((frm rs).getD j 0) < 0 ↔ (frm rs).getD j 0 < 0) ∧ ((frm rs).getD j 0 < 0 → 1 ≤ j ∧ j ≤ rs.length) := by
  have a := frm_abs fit hj
  have nn : (frm rs).getD j 0 < 0 → 1 ≤ j ∧ j ≤ rs.length ∧ - (rs.length : Int) ≤ (frm rs).getD j 0 := fun h => by
    have z := neg_inside hj h
    refine ⟨z.1, z.2, Classical.byContradiction fun c => ?_⟩
    have e : absI ((frm rs).getD j 0) = absI ((frm rs).getD (rs.length + 1) 0) := by
      rw [frm_last]
      unfold absI at *
      rw [if_pos h] at *
      rw [if_neg (by omega)]
      omega
    have := frm_inj fit hj (by omega) e
    omega
  refine ⟨?_, ?_, fun h => ⟨(nn h).1, (nn h).2.1⟩⟩
  · unfold mv absI at *
    by_cases s : (frm rs).getD j 0 < 0
    · have := nn s
      rw [if_pos s] at *
      rw [if_pos (by omega)]
      omega
    · rw [if_neg s] at *
      rw [if_neg (by omega), if_neg s]
  · unfold mv
    by_cases s : (frm rs).getD j 0 < 0
    · have := nn s
      rw [if_pos s]
      omega
    · unfold absI at a
      rw [if_neg s] at *
      omega
theorem Wh.mirror {rs : List Int} (fit : Fit rs) {a b : Nat} (W : Wh (frm rs) a b) : Wh (frm (mir rs)) (rs.length + 1 - b) (rs.length + 1 - a) := by
  have lt := W.lt
  have lb := W.lb
  rw [frm_len] at lb
  have far := W.far
  have own := W.own
  have eA : (frm (mir rs)).getD (rs.length + 1 - b) 0 = mv rs.length ((frm rs).getD b 0) := by rw [frm_mir (by omega), show rs.length + 1 - (rs.length + 1 - b) = b by omega]
  have eB : (frm (mir rs)).getD (rs.length + 1 - a) 0 = mv rs.length ((frm rs).getD a 0) := by rw [frm_mir (by omega), show rs.length + 1 - (rs.length + 1 - a) = a by omega]
  have nz := frm_pos fit (p := b) (by omega) (by omega)
  have ka := frm_known fit (j := a) (by omega)
  have kb := frm_known fit (j := b) (by omega)
  have pb := absI_pos ((frm rs).getD b 0)
  have sb : (frm rs).getD b 0 < 0 ↔ (frm rs).getD a 0 < 0 := by
    unfold amA at own
    by_cases s : (frm rs).getD a 0 < 0
    · rw [if_pos s] at own
      exact ⟨fun _ => s, fun _ => by omega⟩
    · rw [if_neg s] at own
      exact ⟨fun z => by omega, fun z => absurd z s⟩
  have am : ∀ j, j < rs.length + 2 → amA (frm (mir rs)) (rs.length + 1 - b) (rs.length + 1 - j) = if (frm rs).getD a 0 < 0 then - ((rs.length : Int) + 1 - absI ((frm rs).getD j 0)) else (rs.length : Int) + 1 - absI ((frm rs).getD j 0) := fun j hj => by
    have kj := frm_known fit hj
    unfold amA
    rw [eA, frm_mir (by omega), show rs.length + 1 - (rs.length + 1 - j) = j by omega, kj.1]
    by_cases s : (frm rs).getD a 0 < 0
    · rw [if_pos (kb.2.1.mpr (sb.mpr s)), if_pos s]
    · rw [if_neg fun z => s (sb.mp (kb.2.1.mp z)), if_neg s]
  have mvA : mv rs.length ((frm rs).getD a 0) = if (frm rs).getD a 0 < 0 then - ((rs.length : Int) + 1) - (frm rs).getD a 0 else (rs.length : Int) + 1 - (frm rs).getD a 0 := rfl
  have mvB : mv rs.length ((frm rs).getD b 0) = if (frm rs).getD a 0 < 0 then - ((rs.length : Int) + 1) - (frm rs).getD b 0 else (rs.length : Int) + 1 - (frm rs).getD b 0 := by
    unfold mv
    by_cases s : (frm rs).getD a 0 < 0
    · rw [if_pos (sb.mpr s), if_pos s]
    · rw [if_neg fun z => s (sb.mp z), if_neg s]
  refine ⟨by omega, by rw [frm_len, mir_len]; omega, fun j h1 h2 => ?_, ?_, ?_⟩
  · have e : j = rs.length + 1 - (rs.length + 1 - j) := by omega
    have z := W.at' (j := rs.length + 1 - j) (by omega) (by omega)
    rw [e, am _ (by omega), eA, eB, mvA, mvB]
    unfold amA at z
    by_cases s : (frm rs).getD a 0 < 0
    · rw [if_pos s] at z ⊢
      rw [if_pos s, if_pos s]
      omega
    · rw [if_neg s] at z ⊢
      rw [if_neg s, if_neg s]
      omega
  · rw [am a (by omega), eB, mvA]
    by_cases s : (frm rs).getD a 0 < 0
    · rw [if_pos s, if_pos s]
      unfold absI
      rw [if_pos s]
      omega
    · rw [if_neg s, if_neg s]
      unfold absI
      rw [if_neg s]
  · rw [eA, eB, mvA, mvB]
    by_cases s : (frm rs).getD a 0 < 0
    · rw [if_pos s, if_pos s]; omega
    · rw [if_neg s, if_neg s]; omega
theorem Wh.mirror' {rs : List Int} (fit : Fit rs) {a b : Nat} (ha : a ≤ rs.length + 1) (hb : b ≤ rs.length + 1) (W : Wh (frm (mir rs)) (rs.length + 1 - b) (rs.length + 1 - a)) : Wh (frm rs) a b := by
  have z := W.mirror (mir_fit fit)
  rw [mir_mir fit, mir_len] at z
  rwa [show rs.length + 1 - (rs.length + 1 - a) = a by omega, show rs.length + 1 - (rs.length + 1 - b) = b by omega] at z
theorem Kn.mirror {rs : List Int} (fit : Fit rs) {a b : Nat} (k : Kn (frm rs) a b) : Kn (frm (mir rs)) (rs.length + 1 - b) (rs.length + 1 - a) := by
  have lb := k.1.lb
  have lt := k.1.lt
  rw [frm_len] at lb
  have k' := (kn_iff (frm_nodup fit)).mp k
  refine (kn_iff (frm_nodup (mir_fit fit))).mpr ⟨k'.1.mirror fit, fun ⟨c, h1, h2⟩ => k'.2 ⟨rs.length + 1 - c, ?_, ?_⟩⟩
  · have lc := h1.lb
    rw [frm_len, mir_len] at lc
    refine Wh.mirror' fit (by omega) (by omega) ?_
    rw [show rs.length + 1 - (rs.length + 1 - c) = c by omega]
    exact h2
  · have lc := h1.lb
    rw [frm_len, mir_len] at lc
    refine Wh.mirror' fit (by omega) (by omega) ?_
    rw [show rs.length + 1 - (rs.length + 1 - c) = c by omega]
    exact h1
end Mir


namespace L2V
open PySem PySem.Spec PyProof.Rows
section
variable {prog : Program} {w : World} {A : Around} {E : Value → Shared → Prop} {s : Shared} {R : Result → Shared → Prop}
def DE (h : Heap) (d : Addr) (es : Array DictEntry) (ep : Nat) : Prop := ∃ o, h.get? d = some o ∧ o.data = .dict es ep
end
end L2V
namespace L2
open PySem PySem.Spec PyProof.Rows L2V
section
variable {X : Cx}
theorem paired_get {α β : Type} {F : α → β → Prop} : ∀ {l : List α} {m : List β} {i : Nat} {a : α} {b : β}, Paired F l m → l[i]? = some a → m[i]? = some b → F a b
  | _, _, 0, _, _, .cons h _, e1, e2 => by cases e1; cases e2; exact h
  | _, _, i + 1, _, _, .cons _ r, e1, e2 => paired_get r (i := i) (by simpa using e1) (by simpa using e2)
end
end L2


namespace SrtR
open PySem PyProof.Rows PySem.W
section
variable {prog : Program} {w : World} {A : Around} {E : Value → Shared → Prop} {s : Shared}
theorem sorted_outR [RkP] {vs : List Value} {rk : Value → Int} (hr : ∀ p : Keyed, num p = rk p.1) {xs : Array Keyed} (hp : xs.Perm (pairsOf vs)) (hs : SortedTo xs (pairsOf vs).size) : (xs.map (·.2)).toList.Perm vs ∧ (xs.map (·.2)).toList.Pairwise fun u v => rk u ≤ rk v := by
  have hl := Array.perm_iff_toList_perm.mp hp
  have ez : (pairsOf vs).toList = vs.zip vs := by unfold pairsOf; simp
  have same : ∀ p ∈ xs.toList, p.1 = p.2 := fun p hpm => by
    have z := hl.mem_iff.mp hpm
    rw [ez] at z
    obtain ⟨i, hi, e⟩ := List.getElem_of_mem z
    rw [List.getElem_zip] at e
    rw [← e]
  rw [Array.toList_map]
  constructor
  · have z := hl.map (·.2)
    rw [ez] at z
    have e2 : (vs.zip vs).map (·.2) = vs := by rw [List.map_snd_zip]; exact Nat.le_refl _
    rw [e2] at z
    exact z
  · rw [List.pairwise_map]
    refine List.pairwise_iff_getElem.mpr fun i j hi hj hij => ?_
    have hsz : xs.size = (pairsOf vs).size := hp.size_eq
    have hi' : i < xs.size := by simpa using hi
    have hj' : j < xs.size := by simpa using hj
    have z := hs i j (by omega) (by omega)
    rw [num_K (getElem?_pos xs i hi'), num_K (getElem?_pos xs j hj'), hr, hr] at z
    have e1 := same _ (List.getElem_mem hi)
    have e2 := same _ (List.getElem_mem hj)
    rw [← e1, ← e2]
    simpa using z
theorem sort_few {a : Addr} {vs : List Value} {n : Nat} {P : PySem.Fin → Shared → Prop} (ho : s.heap.get? a = some (seqObj "list" vs.toArray n)) (h2 : vs.length < 2)
    (h : P (.done (.ret .none)) { s with heap := sortedHeap s.heap a vs vs.toArray }) : wpAny (model prog w) A (Builtin.«list.sort» ⟨[.ref a], []⟩) P E s := by
  rw [list_sort_plain]
  obtain ⟨k, hk⟩ : ∃ k, (s.heap.update a (Obj.mapSeq fun _ => #[])).get? a = some (seqObj "list" #[] k) := ⟨_, get?_update_seq ho (fun _ => #[])⟩
  have hk2 : (((s.heap.update a (Obj.mapSeq fun _ => #[])).push (seqObj "tuple" vs.toArray 0)).push (seqObj "list" #[] 0)).get? a = some (seqObj "list" #[] k) :=
    Heap.get?_push_of_some _ (Heap.get?_push_of_some _ hk)
  have hz1 : vs.toArray.size ≤ sizeLine := by rw [List.size_toArray, sizeLine_eq]; omega
  have hz2 : vs.toArray.toList.length ≤ sizeLine := by rw [sizeLine_eq]; simp; omega
  refine wpAny_bind (listItems_at ho rfl (wpAny_bind (listUpdate_at ho rfl (wpAny_bind (seqEpoch_at hk rfl ?_)) hz1 (Nat.zero_le _))))
  refine wpAny_bind (wpAny_newTuple (wpAny_bind (wpAny_newList (wpAny_holding ?_) (Nat.zero_le _))) hz2)
  show wpAny (model prog w) A _ P E { s with heap := ((s.heap.update a (Obj.mapSeq fun _ => #[])).push (seqObj "tuple" vs.toArray 0)).push (seqObj "list" #[] 0) }
  dsimp only
  have z2 : vs.toArray.size < 2 := by rw [List.size_toArray]; omega
  rw [if_pos z2, if_pos z2]
  refine wpAny_bind (wpAny_pure (wpAny_bind (wpAny_pure ?_)))
  dsimp only
  have e : (arrOf (SortSt.mk' general' (vs.toArray.zip vs.toArray) #[] 7 none)).map (·.2) = vs.toArray := by
    apply Array.toList_inj.mp
    show ((vs.toArray.zip vs.toArray).map (·.2)).toList = vs
    have e2 : (vs.zip vs).map (·.2) = vs := by rw [List.map_snd_zip]; exact Nat.le_refl _
    simpa using e2
  rw [e]
  refine wpAny_bind (seqEpoch_at hk2 rfl (wpAny_bind (listUpdate_at hk2 rfl ?_ (hsz2 := by rw [List.size_toArray, sizeLine_eq]; omega))))
  dsimp only
  rw [bne_self_eq_false]
  exact wpAny_pure h
theorem sorted_few {l : Addr} {vs : List Value} {Q : Value → Shared → Prop} (hl : s.heap.IsList l vs.toArray) (h2 : vs.length < 2)
    (h : Q (.ref (s.heap.objs.size + 1)) { s with heap := sortedAll s.heap vs vs.toArray }) : wpAny (model prog w) A (call (.builtin "sorted") [.ref l]) Q E s := by
  have z : ((s.heap.push (seqObj "list" #[] 0)).update s.heap.objs.size (Obj.mapSeq (· ++ vs.toArray))).objs.size = s.heap.objs.size + 1 := (Heap.size_update _ _ _).trans (size_push' _ _)
  have hL : (((s.heap.push (seqObj "list" #[] 0)).update s.heap.objs.size (Obj.mapSeq (· ++ vs.toArray))).push (seqObj "list" vs.toArray 0)).get? (s.heap.objs.size + 1) = some (seqObj "list" vs.toArray 0) := z ▸ Heap.get?_push_size _ rfl
  refine Calls.call_function_entry kind_sorted plain_sorted entry_sorted (args_sorted1 _) ?_
  unfold Builtin.«sorted»
  refine wpAny_bind (m := checkCount "sorted" 1 1 _) (wpAny_pure (wpAny_bind (collect_list hl (wpAny_bind (wpAny_newList ?_ (by rw [sizeLine_eq]; omega))) (hsz := by rw [sizeLine_eq]; omega))))
  show wpAny _ _ _ _ _ { s with heap := ((s.heap.push (seqObj "list" #[] 0)).update s.heap.objs.size (Obj.mapSeq (· ++ vs.toArray))).push (seqObj "list" vs.toArray 0) }
  rw [z]
  exact wpAny_bind (wpAny_holding (wpAny_call_entry slot_list_sort ⟨_, hL, rfl⟩ entry_list_sort (sort_few hL h2 ⟨_, rfl, wpAny_pure ⟨_, rfl, h⟩⟩) (args_list_sort _)))
end
end SrtR



namespace Th
open Classical
section
variable {N : Nat} {a b : Nat → Nat}
inductive Kd | ring | odd | bare | tied
deriving DecidableEq
end
end Th

set_option maxHeartbeats 4000000




namespace Mir
open PySem L2
def ks : Th.Kd → Str
  | .ring => "ring"
  | .odd => "odd"
  | .bare => "bare"
  | .tied => "tied"
variable (K : PySem.W.Frag)
end Mir

namespace Mir
open PySem L2
theorem ks_inj : ∀ a b : Th.Kd, ks a = ks b → a = b := by
  intro a b h
  cases a <;> cases b <;> first | rfl | exact absurd h (by decide)
end Mir

namespace SrtR
open PySem PySem.Spec PyProof.Rows PySem.W L2
def kx : Th.Kd → Int
  | .bare => 0
  | .odd => 1
  | .ring => 2
  | .tied => 3
theorem kx_inj : ∀ a b : Th.Kd, kx a = kx b → a = b := by intro a b h; cases a <;> cases b <;> first | rfl | exact absurd h (by decide)
theorem kx_lt : ∀ a b : Th.Kd, decide ((Mir.ks a).cps.toList < (Mir.ks b).cps.toList) = decide (kx a < kx b) := by intro a b; cases a <;> cases b <;> decide +kernel
def Pr (h : Heap) (str : Bool) (v : Value) (r : Int) : Prop := ∃ (t : Addr) (o : Obj) (n : Nat) (x : Value) (y a : Int) (u1 u2 : Tok), v = .ref t ∧ h.get? t = some o ∧ o.cls = .type "tuple" ∧ o.data = .seq #[x, .int y u2] n ∧ 0 ≤ y ∧ y < 1000 ∧ r = 1000 * a + y ∧
  ((str = false ∧ x = .int a u1) ∨ (str = true ∧ ∃ k : Th.Kd, x = .str (Mir.ks k) u1 ∧ a = kx k))
theorem Pr.uniq {h : Heap} {str : Bool} {v : Value} {r r' : Int} (p : Pr h str v r) (q : Pr h str v r') : r = r' := by
  obtain ⟨t, o, n, x, y, a, u1, u2, rfl, e1, e2, e3, e4, e5, e6, e7⟩ := p
  obtain ⟨t', o', n', x', y', a', u1', u2', f0, f1, f2, f3, f4, f5, f6, f7⟩ := q
  injection f0 with f0
  subst f0
  rw [e1] at f1
  obtain rfl := Option.some.inj f1
  rw [e3] at f3
  injection f3 with f3 _
  have f3 := congrArg Array.toList f3
  injection f3 with g1 g2
  injection g2 with g2 _
  injection g2 with g2 _
  subst g2
  rcases e7 with ⟨s1, e7⟩ | ⟨e8, k, e7, e9⟩
  · rcases f7 with ⟨_, f7⟩ | ⟨f8, _⟩
    · rw [e7, f7] at g1
      injection g1 with g1 _
      rw [e6, f6, g1]
    · rw [s1] at f8; cases f8
  · rcases f7 with ⟨f8, f7⟩ | ⟨_, k', f7, f9⟩
    · rw [e8] at f8; cases f8
    · rw [e7, f7] at g1
      injection g1 with g1 _
      have := Mir.ks_inj _ _ g1
      rw [e6, f6, e9, f9, this]
open Classical in
noncomputable def rkO (h : Heap) (str : Bool) (v : Value) : Int := if e : ∃ r, Pr h str v r then choose e else 0
theorem rk_of {h : Heap} {str : Bool} {v : Value} {r : Int} (p : Pr h str v r) : rkO h str v = r := by
  unfold rkO
  have e : ∃ r, Pr h str v r := ⟨r, p⟩
  rw [dif_pos e]
  exact (Classical.choose_spec e).uniq p
@[reducible] noncomputable def prRk (h : Heap) (str : Bool) : RkP := ⟨fun p => ∃ r, Pr h str p.1 r, fun p => rkO h str p.1, tuples' true⟩
def tyP (str : Bool) : Value := if str = true then .type "str" else .type "int"
theorem pr_asks {prog : Program} {w : World} {A : Around} {s : Shared} {h : Heap} {str : Bool} (k : ∀ b o, h.get? b = some o → s.heap.get? b = some o) : @Asks (prRk h str) prog w A s := by
  letI := prRk h str
  intro x y ⟨r, px⟩ ⟨r', py⟩ E Q q0
  have q : Q (decide (r < r')) s := by
    have e1 : num x = r := rk_of px
    have e2 : num y = r' := rk_of py
    rw [e1, e2] at q0
    exact q0
  clear q0
  obtain ⟨x1, x2⟩ := x
  obtain ⟨y1, y2⟩ := y
  obtain ⟨t, o, n, x, y, a, u1, u2, rfl, e1, e2, e3, e4, e5, e6, e7⟩ := px
  obtain ⟨t', o', n', x', y', a', u1', u2', rfl, f1, f2, f3, f4, f5, f6, f7⟩ := py
  show wpAny _ _ (keyLt' (tuples' true) (.ref t) (.ref t')) _ _ _
  refine kat_lt (k _ _ e1) e3 (k _ _ f1) f3 ?_
  show KatLex prog w A true (decide (2 < 2)) _ [(x, x'), (.int y u2, .int y' u2')] 0 s
  have second : a = a' → KatLex prog w A true (decide (2 < 2)) Q [(.int y u2, .int y' u2')] 1 s := fun ea => by
    refine kat_cons (wpAny_eqBool_int ?_)
    by_cases c : y = y'
    · rw [show (y == y') = true from beq_iff_eq.mpr c]
      refine kat_yes (kat_nil ?_)
      rw [show decide (2 < 2) = decide (r < r') from decide_eq_decide.mpr (by omega)]
      exact q
    · rw [show (y == y') = false from beq_eq_false_iff_ne.mpr c]
      refine kat_no (kat_one _ _ (lt_int ?_))
      show Q _ s
      rw [show decide (y < y') = decide (r < r') from decide_eq_decide.mpr (by omega)]
      exact q
  rcases e7 with ⟨s1, rfl⟩ | ⟨s1, k1, rfl, ek⟩
  · rcases f7 with ⟨_, rfl⟩ | ⟨s2, _⟩
    · refine kat_cons (wpAny_eqBool_int ?_)
      by_cases c : a = a'
      · rw [show (a == a') = true from beq_iff_eq.mpr c]
        exact kat_yes (second c)
      · rw [show (a == a') = false from beq_eq_false_iff_ne.mpr c]
        refine kat_no (oneLt_int ?_)
        rw [show decide (a < a') = decide (r < r') from decide_eq_decide.mpr (by omega)]
        exact q
    · rw [s1] at s2; cases s2
  · rcases f7 with ⟨s2, _⟩ | ⟨_, k2, rfl, fk⟩
    · rw [s1] at s2; cases s2
    · refine kat_cons (eqBool_str ?_)
      by_cases c : k1 = k2
      · subst c
        rw [beq_self_eq_true]
        exact kat_yes (second (by rw [ek, fk]))
      · rw [show (Mir.ks k1 == Mir.ks k2) = false from beq_eq_false_iff_ne.mpr fun z => c (Mir.ks_inj _ _ z)]
        refine kat_no (oneLt_str ?_)
        have ne : a ≠ a' := fun z => c (kx_inj _ _ (by rw [← ek, ← fk, z]))
        rw [kx_lt, ← ek, ← fk, show decide (a < a') = decide (r < r') from decide_eq_decide.mpr (by omega)]
        exact q
end SrtR
namespace L2
open PySem PySem.Spec PyProof.Rows SrtR
section
variable {X : Cx}
def PrV (str : Bool) (vs : List V) (r : Int) : Prop := ∃ (x : V) (y a : Int), vs = [x, .int y] ∧ 0 ≤ y ∧ y < 1000 ∧ r = 1000 * a + y ∧ ((str = false ∧ x = .int a) ∨ (str = true ∧ ∃ k : Th.Kd, x = .str (Mir.ks k) ∧ a = kx k))
theorem pr_of {pins : List (Addr × Obj)} {s : Shared} {σ : L2.St} {H : Hp} {t : Addr} {vs : List V} {r : Int} {str : Bool} (I : Inv X pins σ H s) (h : H t = some (.tup vs)) (p : PrV str vs r) : Pr s.heap str (.ref t) r := by
  obtain ⟨x, y, a, rfl, h1, h2, h3, h4⟩ := p
  obtain ⟨its, rv, ⟨o, e1, e2, n, e3⟩, _⟩ := I.tuple (SqT.of h)
  cases rv with
  | cons r1 rr =>
    cases rr with
    | cons r2 rr =>
      cases rr
      obtain ⟨u2, rfl⟩ := r2
      rcases h4 with ⟨s1, rfl⟩ | ⟨s1, k, rfl, ek⟩
      · obtain ⟨u1, rfl⟩ := r1
        exact ⟨t, o, n, _, y, a, u1, u2, rfl, e1, e2, e3, h1, h2, h3, .inl ⟨s1, rfl⟩⟩
      · obtain ⟨u1, rfl⟩ := r1
        exact ⟨t, o, n, _, y, a, u1, u2, rfl, e1, e2, e3, h1, h2, h3, .inr ⟨s1, k, rfl, ek⟩⟩
theorem kat_mono {h h' : Heap} (k : ∀ b o, h.get? b = some o → h'.get? b = some o) : ∀ {vs fs : List Value}, PySem.W.KatTups h vs fs → PySem.W.KatTups h' vs fs
  | [], [], _ => trivial
  | [], _ :: _, z => z.elim
  | _ :: _, [], z => z.elim
  | _ :: _, _ :: _, ⟨⟨a, o, xs, n, e0, e1, e2⟩, r⟩ => ⟨⟨a, o, xs, n, e0, k _ _ e1, e2⟩, kat_mono k r⟩
theorem kat_tups {h : Heap} {str : Bool} : ∀ ts : List Addr, (∀ t ∈ ts, ∃ r, Pr h str (.ref t) r) → ∃ fs : List Value, PySem.W.KatTups h (ts.map Value.ref) fs ∧ ∀ v ∈ fs, (str = false ∧ ∃ i u, v = .int i u) ∨ (str = true ∧ ∃ z u, v = .str z u)
  | [], _ => ⟨[], PySem.W.KatTups.nil, fun v hv => absurd hv List.not_mem_nil⟩
  | t :: ts, hp => by
    obtain ⟨fs, h1, h2⟩ := kat_tups ts fun t ht => hp t (List.mem_cons_of_mem _ ht)
    obtain ⟨r, t', o, n, x, y, a, u1, u2, e0, e1, e2, e3, e4, e5, e6, e7⟩ := hp t List.mem_cons_self
    injection e0 with e0
    subst e0
    refine ⟨x :: fs, PySem.W.KatTups.cons e1 e2 e3 rfl h1, fun v hv => ?_⟩
    rcases List.mem_cons.mp hv with rfl | hv
    · rcases e7 with ⟨s1, e7⟩ | ⟨s1, k, e7, _⟩
      · exact .inl ⟨s1, _, _, e7⟩
      · exact .inr ⟨s1, _, _, e7⟩
    · exact h2 v hv
theorem vals_refs : ∀ {ts : List Addr} {its : List Value}, Vals (ts.map V.ref) its → its = ts.map Value.ref
  | [], _, .nil => rfl
  | t :: ts, _, .cons r rr => by cases r; rw [vals_refs rr]; rfl
theorem vals_refs' : ∀ ts : List Addr, Vals (ts.map V.ref) (ts.map Value.ref)
  | [] => .nil
  | t :: ts => .cons rfl (vals_refs' ts)
theorem refs_perm {us : List Value} {ts : List Addr} (h : us.Perm (ts.map Value.ref)) : ∃ ws : List Addr, us = ws.map Value.ref ∧ ws.Perm ts := by
  let g : Value → Addr := fun v => match v with
    | .ref a => a
    | _ => 0
  have e : ∀ v ∈ us, Value.ref (g v) = v := fun v hv => by
    obtain ⟨t, _, rfl⟩ := List.mem_map.mp (h.mem_iff.mp hv)
    rfl
  refine ⟨us.map g, ?_, ?_⟩
  · rw [List.map_map]
    exact (List.map_id' us).symm.trans (List.map_congr_left fun v hv => (e v hv).symm)
  · have z := h.map g
    rw [List.map_map] at z
    have e2 : ts.map (g ∘ Value.ref) = ts := List.map_id' ts
    rw [e2] at z
    exact z
end
end L2

namespace SrtR
open PySem PySem.Spec PyProof.Rows PySem.W
section
variable [RkP] {prog : Program} {w : World} {A : Around} {E : Value → Shared → Prop} {s : Shared} {a₀ : Array Keyed}
def Laid1 (a₀ : Array Keyed) (st : SortSt) : Prop := (arrOf st).Perm a₀ ∧ failedOf st = none ∧ ∃ p, pendingOf st = #[p] ∧ AscL 0 (arrOf st) a₀.size
theorem wpS_runs64 {st : SortSt} {Q : Unit → SortSt → Prop} (h0 : IKA prog w A s a₀) (hp : (arrOf st).Perm a₀) (hk : kindOf st = oneType') (hf : failedOf st = none) (hd : pendingOf st = #[]) (h2 : 2 ≤ a₀.size) (h64 : a₀.size < 64)
    (h : ∀ st', (arrOf st').Perm a₀ → failedOf st' = none → SortedTo (arrOf st') a₀.size → Q () st') : wpS (model prog w) A E s sortRuns' Q st := by
  rw [sortRuns'_eq]
  refine wpS_bind (wpS_get ?_)
  dsimp only
  have hsz : (arrOf st).size = a₀.size := hp.size_eq
  rw [hsz]
  have em : minRun' a₀.size a₀.size 0 = a₀.size := by
    obtain ⟨g, e⟩ : ∃ g, a₀.size = g + 1 := ⟨a₀.size - 1, by omega⟩
    rw [e, minRun'_succ, if_pos (by omega)]
  rw [em]
  refine wpS_bind (wpS_mono (wpS_forRange
    (I := fun x c st' => (x = 0 ∧ c = (none, 0) ∧ SB a₀ #[] 0 (fun _ => 0) st') ∨ (1 ≤ x ∧ c = (none, a₀.size) ∧ Laid1 a₀ st'))
    (Q := fun c st' => c = (none, a₀.size) ∧ Laid1 a₀ st') ?step ?fin (.inl ⟨rfl, rfl, ⟨hp, hk, hf, hd, fun i hi => absurd hi (Nat.not_lt_zero _)⟩⟩)) ?post)
  case fin =>
    rintro c st' (⟨hx, _⟩ | ⟨_, e, L⟩)
    · have : max 0 a₀.size = a₀.size := Nat.max_eq_right (Nat.zero_le _)
      omega
    · exact ⟨e, L⟩
  case step =>
    rintro x c st' _ hx (⟨rfl, rfl, hB⟩ | ⟨hx2, rfl, L⟩)
    · dsimp only
      refine wpS_ite (fun z => absurd z (by omega)) (fun _ => ?_)
      refine wpS_bind (wpS_countL h0 (by omega) (by omega) hB fun k st2 hB2 k1 k2 g2 => ?_)
      dsimp only
      rw [Nat.sub_zero] at k2
      have push : ∀ (st3 : SortSt), SB a₀ #[] 0 (fun _ => 0) st3 → AscL 0 (arrOf st3) a₀.size → Laid1 a₀ (setPending st3 ((pendingOf st3).push (0, a₀.size, 0))) := fun st3 b g =>
        ⟨b.perm, b.fl, ⟨_, by show (pendingOf st3).push _ = _; rw [b.pd]; rfl, g⟩⟩
      refine wpS_ite (fun z => ?_) (fun z => ?_)
      · have ef : min (a₀.size - 0) a₀.size = a₀.size := by omega
        rw [ef]
        refine wpS_bind (wpS_lift (wpAny_rule ⟨rfl, wpS_bind (wpS_binL h0 (by omega) k1 (by omega) hB2 g2 fun st3 hB3 g3 => ?_)⟩))
        refine wpS_ite (fun z => absurd z (by simp)) (fun _ => ?_)
        refine wpS_bind (wpS_get ?_)
        have hb : (pendingOf st3).back? = none := by rw [hB3.pd]; rfl
        rw [hb]
        dsimp only
        refine wpS_bind (wpS_modify (wpS_pure (.inr ⟨Nat.le_refl _, by rw [Nat.zero_add], push st3 hB3 g3⟩)))
      · have hka : k = a₀.size := by omega
        rw [hka] at g2 ⊢
        refine wpS_bind (wpS_get ?_)
        have hb : (pendingOf st2).back? = none := by rw [hB2.pd]; rfl
        rw [hb]
        dsimp only
        refine wpS_bind (wpS_modify (wpS_pure (.inr ⟨Nat.le_refl _, by rw [Nat.zero_add], push st2 hB2 g2⟩)))
    · dsimp only
      refine wpS_ite (fun _ => wpS_pure ⟨rfl, L⟩) (fun z => absurd (Nat.le_refl _) z)
  case post =>
    rintro c st' ⟨rfl, L⟩
    dsimp only
    obtain ⟨lp, lf, p, e1, asc⟩ := L
    refine wpS_bind (wpS_mono (wpS_forRange (I := fun x c st'' => c = (none, ()) ∧ st'' = st') (Q := fun c st'' => c = (none, ()) ∧ st'' = st') ?fs ?ff ⟨rfl, rfl⟩) ?fp)
    case ff =>
      rintro c st'' ⟨e, e2⟩
      exact ⟨e, e2⟩
    case fp =>
      rintro c st'' ⟨e, e2⟩
      subst e e2
      exact wpS_pure (h _ lp lf (sortedTo_asc asc))
    case fs =>
      rintro x c st'' _ _ ⟨e, e2⟩
      subst e e2
      refine wpS_bind (wpS_get ?_)
      exact wpS_ite (fun _ => wpS_pure ⟨rfl, rfl⟩) (fun z => absurd (by rw [e1]; exact Nat.le_refl 1) z)
end
end SrtR
namespace SrtR
open PySem PyProof.Rows PySem.W
section
variable {prog : Program} {w : World} {A : Around} {E : Value → Shared → Prop} {s : Shared}
theorem sort_tups64 [RkP] {a : Addr} {vs fs : List Value} {rk : Value → Int} {T : Value} {n : Nat} {P : PySem.Fin → Shared → Prop} (hr : ∀ p : Keyed, num p = rk p.1) (hkd : RkP.kd = tuples' (T != Value.type "tuple")) (hT2 : (T == T) = true) (ho : s.heap.get? a = some (seqObj "list" vs.toArray n)) (h2 : 2 ≤ vs.length) (h128 : vs.length < 64)
    (hT : ∀ h' : Heap, (∀ b o, b ≠ a → s.heap.get? b = some o → h'.get? b = some o) → KatTups h' vs fs ∧ (∀ v ∈ fs, Looks (model prog w) h' (typeOf v) T) ∧ IKA prog w A { s with heap := h' } (pairsOf vs))
    (h : ∀ out : Array Value, out.toList.Perm vs → (out.toList.Pairwise fun u v => rk u ≤ rk v) → P (.done (.ret .none)) { s with heap := sortedHeap s.heap a vs out }) : wpAny (model prog w) A (Builtin.«list.sort» ⟨[.ref a], []⟩) P E s := by
  rw [list_sort_plain]
  have la : a < s.heap.objs.size := Heap.lt_size ho
  obtain ⟨k, hk⟩ : ∃ k, (s.heap.update a (Obj.mapSeq fun _ => #[])).get? a = some (seqObj "list" #[] k) := ⟨_, get?_update_seq ho (fun _ => #[])⟩
  have hk2 : (((s.heap.update a (Obj.mapSeq fun _ => #[])).push (seqObj "tuple" vs.toArray 0)).push (seqObj "list" #[] 0)).get? a = some (seqObj "list" #[] k) :=
    Heap.get?_push_of_some _ (Heap.get?_push_of_some _ hk)
  have keep : ∀ b o, b ≠ a → s.heap.get? b = some o → (((s.heap.update a (Obj.mapSeq fun _ => #[])).push (seqObj "tuple" vs.toArray 0)).push (seqObj "list" #[] 0)).get? b = some o := fun b o hb e =>
    Heap.get?_push_of_some _ (Heap.get?_push_of_some _ (by rw [Heap.get?_update_ne _ _ _ _ hb]; exact e))
  obtain ⟨t1, t2, t3⟩ := hT _ keep
  have hz1 : vs.toArray.size ≤ sizeLine := by rw [List.size_toArray, sizeLine_eq]; omega
  have hz2 : vs.toArray.toList.length ≤ sizeLine := by rw [sizeLine_eq]; simp; omega
  refine wpAny_bind (listItems_at ho rfl (wpAny_bind (listUpdate_at ho rfl (wpAny_bind (seqEpoch_at hk rfl ?_)) hz1 (Nat.zero_le _))))
  refine wpAny_bind (wpAny_newTuple (wpAny_bind (wpAny_newList (wpAny_holding ?_) (Nat.zero_le _))) hz2)
  show wpAny (model prog w) A _ P E { s with heap := ((s.heap.update a (Obj.mapSeq fun _ => #[])).push (seqObj "tuple" vs.toArray 0)).push (seqObj "list" #[] 0) }
  dsimp only
  have z2 : ¬ vs.toArray.size < 2 := by rw [List.size_toArray]; omega
  rw [if_neg z2, if_neg z2]
  have hne : 0 < fs.length := by
    cases fs with
    | nil => cases vs with
      | nil => exact absurd h2 (by decide)
      | cons v r => exact t1.elim
    | cons f r => exact Nat.succ_pos _
  refine wpAny_bind (kat_kind t1 hne t2 hT2 ?_)
  refine wpAny_bind (wpAny_mono (wpS_runs64 (a₀ := pairsOf vs) (st := SortSt.mk' (tuples' (T != Value.type "tuple")) (vs.toArray.zip vs.toArray) #[] 7 none) (Q := fun _ z => (arrOf z).Perm (pairsOf vs) ∧ failedOf z = none ∧ SortedTo (arrOf z) (pairsOf vs).size)
    t3 (Array.Perm.refl _) hkd.symm rfl rfl (by rw [pairsOf_size]; exact h2) (by rw [pairsOf_size]; exact h128) fun z a1 a2 a3 => ⟨a1, a2, a3⟩) ?_ fun _ _ e => e)
  rintro ⟨⟨⟩, z⟩ s2 ⟨rfl, hp, hf, hs⟩
  dsimp only
  have zs : ((arrOf z).map (·.2)).size ≤ sizeLine + 1 := by
    rw [Array.size_map, hp.size_eq, pairsOf_size, sizeLine_eq]
    omega
  refine wpAny_bind (seqEpoch_at hk2 rfl (wpAny_bind (listUpdate_at hk2 rfl ?_ (hsz2 := zs))))
  rw [hf]
  dsimp only
  rw [bne_self_eq_false]
  obtain ⟨b1, b2⟩ := sorted_outR hr hp hs
  exact wpAny_pure (h _ b1 b2)
theorem sorted_tups64 [RkP] {l : Addr} {vs fs : List Value} {rk : Value → Int} {T : Value} {Q : Value → Shared → Prop} (hr : ∀ p : Keyed, num p = rk p.1) (hkd : RkP.kd = tuples' (T != Value.type "tuple")) (hT2 : (T == T) = true) (hl : s.heap.IsList l vs.toArray) (h2 : 2 ≤ vs.length) (h128 : vs.length < 64)
    (hT : ∀ (A' : Around) (h' : Heap), (∀ b o, s.heap.get? b = some o → h'.get? b = some o) → KatTups h' vs fs ∧ (∀ v ∈ fs, Looks (model prog w) h' (typeOf v) T) ∧ IKA prog w A' { s with heap := h' } (pairsOf vs))
    (h : ∀ out : Array Value, out.toList.Perm vs → (out.toList.Pairwise fun u v => rk u ≤ rk v) → Q (.ref (s.heap.objs.size + 1)) { s with heap := sortedAll s.heap vs out }) : wpAny (model prog w) A (call (.builtin "sorted") [.ref l]) Q E s := by
  have z : ((s.heap.push (seqObj "list" #[] 0)).update s.heap.objs.size (Obj.mapSeq (· ++ vs.toArray))).objs.size = s.heap.objs.size + 1 := (Heap.size_update _ _ _).trans (size_push' _ _)
  have hL : (((s.heap.push (seqObj "list" #[] 0)).update s.heap.objs.size (Obj.mapSeq (· ++ vs.toArray))).push (seqObj "list" vs.toArray 0)).get? (s.heap.objs.size + 1) = some (seqObj "list" vs.toArray 0) := z ▸ Heap.get?_push_size _ rfl
  have keep : ∀ b o, s.heap.get? b = some o → b ≠ s.heap.objs.size + 1 ∧ (((s.heap.push (seqObj "list" #[] 0)).update s.heap.objs.size (Obj.mapSeq (· ++ vs.toArray))).push (seqObj "list" vs.toArray 0)).get? b = some o := fun b o q => by
    have hlt : b < s.heap.objs.size := Heap.lt_size q
    have hne : b ≠ s.heap.objs.size := Nat.ne_of_lt hlt
    have hne2 : b ≠ s.heap.objs.size + 1 := Nat.ne_of_lt (Nat.lt_succ_of_lt hlt)
    refine ⟨hne2, ?_⟩
    rw [Heap.get?_push_ne _ _ _ (by rw [z]; exact hne2), Heap.get?_update_ne _ _ _ _ hne, Heap.get?_push_ne _ _ _ hne]
    exact q
  refine Calls.call_function_entry kind_sorted plain_sorted entry_sorted (args_sorted1 _) ?_
  unfold Builtin.«sorted»
  refine wpAny_bind (m := checkCount "sorted" 1 1 _) (wpAny_pure (wpAny_bind (collect_list hl (wpAny_bind (wpAny_newList ?_ (by rw [sizeLine_eq]; omega))) (hsz := by rw [sizeLine_eq]; omega))))
  show wpAny _ _ _ _ _ { s with heap := ((s.heap.push (seqObj "list" #[] 0)).update s.heap.objs.size (Obj.mapSeq (· ++ vs.toArray))).push (seqObj "list" vs.toArray 0) }
  rw [z]
  refine wpAny_bind (wpAny_holding (wpAny_call_entry slot_list_sort ⟨_, hL, rfl⟩ entry_list_sort (sort_tups64 (fs := fs) hr hkd hT2 hL h2 h128 (fun h' hk => ?_) fun out a1 a2 => ⟨_, rfl, wpAny_pure ⟨_, rfl, h out a1 a2⟩⟩) (args_list_sort _)))
  exact hT _ h' fun b o q => hk b o (keep b o q).1 (keep b o q).2
end
end SrtR
namespace L2
open PySem PySem.Spec PyProof.Rows SrtR
section
variable {X : Cx}
theorem call_sortedP64 (str : Bool) : CallR X (.builtin "sorted") (fun xs H Q => ∃ (p : Addr) (ts : List Addr) (g : Addr → Int), xs = [.ref p] ∧ SqL X.K H p (ts.map V.ref) ∧ ts.length < 64 ∧ (∀ t ∈ ts, ∃ vs, H t = some (.tup vs) ∧ PrV str vs (g t)) ∧
    ∀ (us : List Addr) (l : Addr), us.Perm ts → (us.Pairwise fun t u => g t ≤ g u) → H l = none → Q (.ref l) (upd H l (.lst (us.map V.ref)))) := by
  intro pins s σ H xs us Q I r h
  obtain ⟨p, ts, g, rfl, hq, h128, ht, q⟩ := h
  obtain ⟨u, rfl, ru⟩ := r.one
  cases ru
  obtain ⟨its, rv, pl, hz⟩ := I.list hq
  obtain rfl := vals_refs rv
  have hpr : ∀ t ∈ ts, Pr s.heap str (.ref t) (g t) := fun t hm => by
    obtain ⟨vs, e1, e2⟩ := ht t hm
    exact pr_of I e1 e2
  have hfr : H (s.heap.objs.size + 1) = none := I.hok.fresh (Nat.le_succ _)
  have fin : ∀ (out : Array Value), out.toList.Perm (ts.map Value.ref) → (out.toList.Pairwise fun u v => rkO s.heap str u ≤ rkO s.heap str v) → EP X pins σ Q (.ref (s.heap.objs.size + 1)) { s with heap := sortedAll s.heap (ts.map Value.ref) out } := fun out a1 a2 => by
    obtain ⟨ws, e, hw⟩ := refs_perm a1
    obtain ⟨c, he⟩ := sortedAll_at s.heap (ts.map Value.ref) out
    have hg : ∀ t ∈ ws, rkO s.heap str (.ref t) = g t := fun t hm => rk_of (hpr t (hw.mem_iff.mp hm))
    have a3 : ws.Pairwise fun t u => g t ≤ g u := by
      rw [e, List.pairwise_map] at a2
      refine List.Pairwise.imp_of_mem (fun {x y} hx hy z => ?_) a2
      rw [hg x hx, hg y hy] at z
      exact z
    refine ⟨.ref (s.heap.objs.size + 1), _, I.laid (a := s.heap.objs.size + 1) (o := .lst (ws.map V.ref)) (t' := s.toks) (fun b o => sortedAll_old) (Nat.le_succ _) ⟨?_, out.toList, c, by rw [e]; exact vals_refs' ws, by simpa [seqObj] using he⟩, rfl, q ws _ hw a3 hfr⟩
    rw [List.length_map, hw.length_eq]
    have := sizeLine_eq
    omega
  by_cases c : 2 ≤ ts.length
  · letI := prRk s.heap str
    obtain ⟨fs, k1, k2⟩ := kat_tups (h := s.heap) (str := str) ts fun t hm => ⟨_, hpr t hm⟩
    refine sorted_tups64 (fs := fs) (rk := rkO s.heap str) (T := tyP str) (fun p => rfl) (by cases str <;> rfl) (by cases str <;> rfl) pl.isList (by rw [List.length_map]; exact c) (by rw [List.length_map]; exact h128) (fun A' h' hk => ?_) fun out a1 a2 => fin out a1 a2
    refine ⟨kat_mono hk k1, fun v hv => ?_, fun p hp => ?_, pr_asks hk⟩
    · rcases k2 v hv with ⟨s1, i, u, rfl⟩ | ⟨s1, z, u, rfl⟩
      · subst s1
        exact .now
      · subst s1
        exact .now
    · have ez : (pairsOf (ts.map Value.ref)).toList = (ts.map Value.ref).zip (ts.map Value.ref) := by unfold pairsOf; simp
      rw [ez] at hp
      obtain ⟨t, hm, e⟩ := List.mem_map.mp (List.of_mem_zip hp).1
      exact ⟨g t, by rw [← e]; exact hpr t hm⟩
  · refine sorted_few pl.isList (by rw [List.length_map]; omega) (fin _ (by simp) ?_)
    match ts, c with
    | [], _ => exact List.Pairwise.nil
    | [t], _ => exact List.pairwise_singleton _ _
    | _ :: _ :: _, c => exact absurd (by simp) c
end
end L2



namespace Mir
open PySem L2
section
variable {H0 H H' : Hp} {d : Addr} {kv : List (Key × V)} {g : List (Int × List Int)} {as : List Addr}
theorem val_at {κ : Type} [DecidableEq κ] : ∀ {kv : List (κ × V)} {j : Nat} {k : κ} {v : V}, (kv.map Prod.fst).Nodup → kv[j]? = some (k, v) → valV kv k = some v
  | [], j, k, v, _, h => by simp at h
  | p :: r, 0, k, v, _, h => by
    rw [List.getElem?_cons_zero] at h
    rw [Option.some.inj h]
    exact valV_pos rfl
  | p :: r, j + 1, k, v, nd, h => by
    rw [List.getElem?_cons_succ] at h
    rw [List.map_cons, List.nodup_cons] at nd
    rw [valV_neg fun z => nd.1 (by rw [z]; exact List.mem_map.mpr ⟨_, List.mem_of_getElem? h, rfl⟩)]
    exact val_at nd.2 h
end
end Mir



namespace Mir
open PySem L2
def spGapKins : Sp := fun vs H Q _ => ∃ (t : Addr) (rs : List Int), vs = [.ref t] ∧ H t = some (.tup (iV rs)) ∧ Fit rs ∧ ∀ (l : Addr) (H' : Hp), H l = none → Same H H' → TsT pr H' l (gapL rs) → Q (.ref l) H'
structure GK (H : Hp) (d : Addr) (kv : List (Key × V)) (S : List (Int × Int)) : Prop where
  at' : H d = some (.dK kv)
  val : ∀ (g : Nat) (q : Int × Int), q ∈ S → q.1 ≤ g → (g : Int) < q.2 → ∃ p ∈ S, p.1 ≤ g ∧ (g : Int) < p.2 ∧ (∀ q' ∈ S, q'.1 ≤ g → (g : Int) < q'.2 → q'.1 ≤ p.1) ∧ ∃ t, valV kv (Sum.inl (g : Int) : Key) = some (.ref t) ∧ H t = some (.tup (pr p))
structure GI (H : Hp) (d : Addr) (kv0 kv : List (Key × V)) (p : Int × Int) (m : Nat) : Prop where
  at' : H d = some (.dK kv)
  new : ∀ g : Nat, p.1 ≤ g → (g : Int) < p.1 + m → ∃ t, valV kv (Sum.inl (g : Int) : Key) = some (.ref t) ∧ H t = some (.tup (pr p))
  old : ∀ g : Nat, ¬ (p.1 ≤ g ∧ (g : Int) < p.1 + m) → valV kv (Sum.inl (g : Int) : Key) = valV kv0 (Sum.inl (g : Int) : Key)
theorem GI.put {H : Hp} {d t : Addr} {kv0 kv : List (Key × V)} {p : Int × Int} {m : Nat} (h : GI H d kv0 kv p m) (hp : 0 ≤ p.1) (ht : H t = some (.tup (pr p))) : GI (upd H d (.dK (putK kv (Sum.inl (p.1 + m) : Key) (.ref t)))) d kv0 (putK kv (Sum.inl (p.1 + m) : Key) (.ref t)) p (m + 1) := by
  have keep : ∀ a ys, H a = some (.tup ys) → upd H d (.dK (putK kv (Sum.inl (p.1 + m) : Key) (.ref t))) a = some (.tup ys) := fun a ys e => by
    rw [upd_ne fun z => by have := h.at'; rw [← z, e] at this; cases this]
    exact e
  refine ⟨upd_same, fun g h1 h2 => ?_, fun g hg => ?_⟩
  · rw [valV_put]
    by_cases c : (g : Int) = p.1 + m
    · rw [c, if_pos rfl]
      exact ⟨t, rfl, keep _ _ ht⟩
    · rw [if_neg fun z => c (by injection z)]
      obtain ⟨t', e1, e2⟩ := h.new g h1 (by omega)
      exact ⟨t', e1, keep _ _ e2⟩
  · rw [valV_put, if_neg fun z => hg (by injection z with z; omega)]
    exact h.old g fun z => hg ⟨z.1, by omega⟩
theorem GK.next {H H' : Hp} {d : Addr} {kv0 kv : List (Key × V)} {S : List (Int × Int)} {p : Int × Int} {m : Nat} (h : GK H d kv0 S) (k : GI H' d kv0 kv p m) (em : p.2 = p.1 + m) (lt : ∀ q ∈ S, q.1 < p.1) (keep : ∀ a ys, H a = some (.tup ys) → H' a = some (.tup ys)) : GK H' d kv (S ++ [p]) := by
  refine ⟨k.at', fun g q hq h1 h2 => ?_⟩
  by_cases c : p.1 ≤ g ∧ (g : Int) < p.1 + m
  · obtain ⟨t, e1, e2⟩ := k.new g c.1 c.2
    refine ⟨p, List.mem_append_right _ (List.mem_singleton.mpr rfl), c.1, by omega, fun q' hq' _ _ => ?_, t, e1, e2⟩
    rcases List.mem_append.mp hq' with hq' | hq'
    · exact Int.le_of_lt (lt q' hq')
    · rw [List.mem_singleton.mp hq']; exact Int.le_refl _
  · rcases List.mem_append.mp hq with hq | hq
    · obtain ⟨r, hr, r1, r2, r3, t, e1, e2⟩ := h.val g q hq h1 h2
      refine ⟨r, List.mem_append_left _ hr, r1, r2, fun q' hq' a1 a2 => ?_, t, by rw [k.old g c, e1], keep _ _ e2⟩
      rcases List.mem_append.mp hq' with hq' | hq'
      · exact r3 q' hq' a1 a2
      · rw [List.mem_singleton.mp hq'] at a1 a2
        exact absurd ⟨a1, by omega⟩ c
    · rw [List.mem_singleton.mp hq] at h1 h2
      exact absurd ⟨h1, by omega⟩ c
theorem own_from {rs : List Int} {g : Nat} {p : Int × Int} (hp : p ∈ kinL (frm rs)) (h1 : p.1 ≤ g) (h2 : (g : Int) < p.2) (mx : ∀ q ∈ kinL (frm rs), q.1 ≤ g → (g : Int) < q.2 → q.1 ≤ p.1) : ow (frm rs) g = p := by
  obtain ⟨a, b, k, rfl⟩ := kinL_mem.mp hp
  dsimp only at h1 h2
  refine ow_eq ⟨k, by omega, by omega, fun c d k' l1 l2 => ?_⟩
  have := mx _ (kinL_mem.mpr ⟨c, d, k', rfl⟩) (by dsimp only; omega) (by dsimp only; omega)
  dsimp only at this
  omega
theorem gk_all {rs : List Int} (fit : Fit rs) {H : Hp} {d : Addr} {kv : List (Key × V)} (h : GK H d kv (kinL (frm rs))) {g : Nat} (hg : g < rs.length + 1) : ∃ t, valV kv (Sum.inl (g : Int) : Key) = some (.ref t) ∧ H t = some (.tup (pr (ow (frm rs) g))) := by
  obtain ⟨c, e, o⟩ := own_ex fit hg
  have l := o.le
  have lt := o.lt
  obtain ⟨p, hp, h1, h2, h3, t, e1, e2⟩ := h.val g ((c : Int), (e : Int)) (kinL_mem.mpr ⟨c, e, o.kn, rfl⟩) (by dsimp only; omega) (by dsimp only; omega)
  refine ⟨t, e1, ?_⟩
  rw [own_from hp h1 h2 h3]
  exact e2
theorem sorted_pairs {H : Hp} {D : Addr} {ps : List (Int × Int)} (hT : TsT pr H D ps) (rng : ∀ p ∈ ps, 0 ≤ p.2 ∧ p.2 < 1000) : ∃ (ts : List Addr) (g : Addr → Int), H D = some (.lst (ts.map V.ref)) ∧ ts.length = ps.length ∧ (∀ t ∈ ts, ∃ vs, H t = some (.tup vs) ∧ PrV false vs (g t)) ∧
    ∀ us : List Addr, us.Perm ts → (us.Pairwise fun t u => g t ≤ g u) → ∃ M : List (Int × Int), M.Perm ps ∧ (M.Pairwise fun p q => p.1 ≤ q.1) ∧ ∀ (H' : Hp) (l : Addr), Same H H' → H' l = some (.lst (us.map V.ref)) → TsT pr H' l M := by
  obtain ⟨ts, h1, h2, h3⟩ := hT
  let ct : Addr → Int × Int := fun a => match H a with
    | some (.tup [.int x, .int y]) => (x, y)
    | _ => (0, 0)
  have hct : ∀ (i : Nat) (t : Addr) (p : Int × Int), ts[i]? = some t → ps[i]? = some p → ct t = p := fun i t p e1 e2 => by
    have z := h3 i t p e1 e2
    show (match H t with
      | some (.tup [.int x, .int y]) => (x, y)
      | _ => (0, 0)) = p
    rw [z]
    rfl
  have mem : ∀ t ∈ ts, ct t ∈ ps ∧ H t = some (.tup (pr (ct t))) := fun t ht => by
    obtain ⟨i, hi⟩ := List.getElem?_of_mem ht
    have hi2 : i < ps.length := by rw [← h2]; exact (List.getElem?_eq_some_iff.mp hi).1
    have e := List.getElem?_eq_getElem hi2
    rw [hct i t _ hi e]
    exact ⟨List.getElem_mem hi2, h3 i t _ hi e⟩
  have eps : ts.map ct = ps := List.ext_getElem? fun i => by
    rw [List.getElem?_map]
    by_cases c : i < ts.length
    · have e1 := List.getElem?_eq_getElem c
      have e2 := List.getElem?_eq_getElem (l := ps) (show i < ps.length by omega)
      rw [e1, e2, ← hct i _ _ e1 e2]
      rfl
    · rw [List.getElem?_eq_none (by omega), List.getElem?_eq_none (by omega)]
      rfl
  refine ⟨ts, fun a => 1000 * (ct a).1 + (ct a).2, h1, h2, fun t ht => ?_, fun us hp hs => ⟨us.map ct, ?_, ?_, fun H' l s hl => ⟨us, hl, by rw [List.length_map], fun i t x e1 e2 => ?_⟩⟩⟩
  · obtain ⟨m1, m2⟩ := mem t ht
    have r := rng _ m1
    exact ⟨_, m2, .int (ct t).1, (ct t).2, (ct t).1, rfl, r.1, r.2, rfl, .inl ⟨rfl, rfl⟩⟩
  · have := hp.map ct
    rwa [eps] at this
  · rw [List.pairwise_map]
    refine List.Pairwise.imp_of_mem (fun {x y} hx hy z => ?_) hs
    have r1 := rng _ (mem x (hp.mem_iff.mp hx)).1
    have r2 := rng _ (mem y (hp.mem_iff.mp hy)).1
    have z : 1000 * (ct x).1 + (ct x).2 ≤ 1000 * (ct y).1 + (ct y).2 := z
    omega
  · rw [List.getElem?_map, e1] at e2
    have e2 := Option.some.inj e2
    rw [← e2]
    exact s _ _ (mem t (hp.mem_iff.mp (List.mem_of_getElem? e1))).2
end Mir

namespace Mir
theorem kn_two {rs : List Int} (fit : Fit rs) {a b c d : Nat} (h : Kn (frm rs) a b) (k : Kn (frm rs) c d) (lt : a < c) : b ≤ c ∨ d < b := by
  by_cases e : c < b
  · right
    have le := kn_nest (frm_nodup fit) h k.1 lt e
    have l1 := h.1.lb
    have l2 := k.1.lt
    rw [frm_len] at l1
    refine Nat.lt_of_le_of_ne le fun z => ?_
    subst z
    have := kn_uniq (h.mirror fit) (k.mirror fit)
    omega
  · left; omega
end Mir

namespace SetB
open PySem PySem.Spec PyProof.Rows
def isB (k : Bool) : Value → Bool
  | .bool b => b == k
  | _ => false
theorem isB_shape {k : Bool} {v : Value} (h : isB k v = true) : v = .bool k := by
  cases v with
  | bool b => have e : b = k := by simpa [isB] using h
              rw [e]
  | _ => simp [isB] at h
section
variable {prog : Program} {w : World} {A : Around} {E : Value → Shared → Prop} {s : Shared}
theorem hashB {b : Bool} {Q : Int → Shared → Prop} (h : Q (if b = true then 1 else 0) { s with toks := s.toks + 1 }) : wpAny (model prog w) A (pyHash (.bool b)) Q E s := by
  have hT : s.TypeIs (.bool b) "bool" := rfl
  have hv : [Value.bool b].any Value.onHeap = false := rfl
  show wpAny _ _ (pyHashByItsType (.bool b)) _ _ s
  unfold pyHashByItsType; refine wpAny_bind ?_
  rw [cRoomFor, if_neg (by rw [hv]; decide)]; refine wpAny_pure (wpAny_bind (wpAny_specialOf hT PySem.F.slot_bool_hash.lookup ?_))
  show wpAny _ _ (if (some (Value.builtin "int.__hash__") == some Value.none) = true then _ else _) _ _ s
  rw [if_neg (by rw [beq_builtin_none]; decide)]; refine wpAny_bind (wpAny_specialOf hT PySem.F.slot_bool_hash.lookup ?_)
  show wpAny _ _ (callSpecialIfBoundUnlessNone? (.bool b) "__hash__" _ >>= _) _ _ s
  refine wpAny_bind (wpAny_callSpecialIfBoundUnlessNone?_slot hT PySem.F.slot_bool_hash (wpAny_call_entry PySem.F.slot_bool_hash hT entry_int_hash ?_ (args_int_hash _)))
  cases b
  · show wpAny _ _ (do ret (← mkInt 0)) _ _ s
    refine wpAny_ret_mkInt ?_
    exact wpAny_pure h
  · show wpAny _ _ (do ret (← mkInt 1)) _ _ s
    refine wpAny_ret_mkInt ?_
    exact wpAny_pure h
def bKind (prog : Program) (w : World) : PySem.KeyKind prog w Bool where
  is := isB
  hash := fun k => if k = true then 1 else 0
  inj := fun v a b h1 h2 => by have e := (isB_shape h1).symm.trans (isB_shape h2); injection e
  byValue := fun k v h => by rw [isB_shape h]; rfl
  pyHash := fun hv h => by rw [isB_shape hv]; exact hashB h
  eqBool := fun {A E s a b u v Q} hu hv h => by
    rw [isB_shape hu, isB_shape hv]
    refine SeqAt.EqAt.bool_bool a b prog w E Q ?_
    have e : (a == b) = decide (a = b) := by cases a <;> cases b <;> rfl
    rw [e]; exact h
  «strs» := fun k x t v h => by simp [isB] at h
end
def cnt (bs : List Bool) : Nat := (if bs.any (· == true) = true then 1 else 0) + (if bs.any (· == false) = true then 1 else 0)
theorem cnt_snoc (bs : List Bool) (b : Bool) : cnt (bs ++ [b]) = if bs.any (· == b) = true then cnt bs else cnt bs + 1 := by
  unfold cnt
  rw [List.any_append, List.any_append]
  cases b
  · simp only [List.any_cons, List.any_nil]
    generalize bs.any (· == true) = x
    generalize bs.any (· == false) = y
    cases x <;> cases y <;> rfl
  · simp only [List.any_cons, List.any_nil]
    generalize bs.any (· == true) = x
    generalize bs.any (· == false) = y
    cases x <;> cases y <;> rfl
theorem cnt_le (bs : List Bool) : cnt bs ≤ 2 := by
  unfold cnt
  split <;> split <;> omega
section
variable {prog : Program} {w : World} {A : Around} {R : Result → Shared → Prop} {I : Addr} {fp wr : List Addr} {G : Array GenState → Array GenState → Prop} {n : Nat} {P : Nat → Value → Prop} {St : Nat → Shared → Prop}
theorem upd_loopB (W : WalksS prog w A.in1 I fp wr G n P St) (S : Addr) (hSf : S ∉ fp) (bs : List Bool) (hn : n = bs.length) (hb : bs.length ≤ 1000) (hval : ∀ i v, P i v → ∃ b, bs[i]? = some b ∧ v = .bool b) :
    ∀ (k i : Nat) (s : Shared), n - i = k → i ≤ n → St i s → s.heap.SetOf (bKind prog w) S (fun k' => (bs.take i).any (· == k')) (cnt (bs.take i)) →
      (∀ s', Moved (S :: wr) G s s' → s'.heap.SetOf (bKind prog w) S (fun k' => bs.any (· == k')) (cnt bs) → R (.ok (.ret .none)) s') →
      codeAny (model prog w) A (.builtin "set.update.loop" ⟨[.ref S, .ref I], []⟩) R s := by
  have hSw : S ∉ wr := fun h => hSf (W.sub _ h)
  have hsub : ∀ b ∈ wr, b ∈ S :: wr := fun b hb => List.mem_cons_of_mem _ hb
  intro k; induction k with
  | zero =>
    intro i s hk hi hst hS hR
    have hin : i = bs.length := by omega
    rw [hin, List.take_length] at hS
    refine codeAny_builtin F.entry_set_update_loop ?_
    rw [Around.under_plainId F.plain_set_update_loop _]; show wpAny _ A.in1 (pyNext (.ref I) >>= _) _ _ s
    have hst2 : St n s := by rw [hn, ← hin]; exact hst
    refine wpAny_bind (W.done s _ _ hst2 fun s' hm => ?_); show wpAny _ A.in1 (ret Value.none) _ _ s'
    refine wpAny_pure (hR s' (hm.mono hsub) ?_)
    obtain ⟨o, es, ep, t, ho, r⟩ := hS; exact ⟨o, es, ep, t, hm.heap S _ hSw ho, r⟩
  | succ k ih =>
    intro i s hk hi hst hS hR
    have hlt : i < n := by omega
    refine codeAny_builtin F.entry_set_update_loop ?_
    rw [Around.under_plainId F.plain_set_update_loop _]; show wpAny _ A.in1 (pyNext (.ref I) >>= _) _ _ s
    refine wpAny_bind (W.item i s _ _ hlt hst fun v s' hP hst' hm => ?_)
    obtain ⟨b, eb, rfl⟩ := hval i v hP
    have hS' : s'.heap.SetOf (bKind prog w) S (fun k' => (bs.take i).any (· == k')) (cnt (bs.take i)) := by obtain ⟨o, es, ep, t, ho, r⟩ := hS; exact ⟨o, es, ep, t, hm.heap S _ hSw ho, r⟩
    show wpAny _ A.in1 (holding [Value.bool b] (setAdd S (.bool b)) >>= _) _ _ s'
    refine wpAny_bind (wpAny_holding ?_)
    unfold setAdd
    have hk1 : (bKind prog w).is b (.bool b) = true := by show isB b (.bool b) = true; unfold isB; exact beq_self_eq_true b
    refine wpAny_holding (wpAny_bind ((bKind prog w).pyHash (k := b) hk1 ?_))
    refine wpAny_setAddHashed_of (knd := bKind prog w) (s := { s' with toks := s'.toks + 1 }) hk1 rfl hS' (by have := cnt_le (bs.take i); unfold scanBound; omega) fun h' hsb hS2 => ?_
    have et : bs.take (i + 1) = bs.take i ++ [b] := by rw [List.take_succ, eb]; rfl
    have hSi : h'.SetOf (bKind prog w) S (fun k' => (bs.take (i + 1)).any (· == k')) (cnt (bs.take (i + 1))) :=
      PyProof.Rows.SetOf_congr hS2 (fun k' => by rw [et, List.any_append]; simp only [List.any_cons, List.any_nil, Bool.or_false]; congr 1; cases b <;> cases k' <;> rfl) (by rw [et, cnt_snoc])
    refine wpAny_pure ⟨plainId_quiet F.plain_set_update_loop _, ih (i + 1) _ (by omega) hlt (W.frame _ s' _ _ hst' (Nat.le_succ _) fun b hb o e => ?_) hSi fun s'' hm'' hS'' => ?_⟩
    · rw [hsb.2 b (fun h : b = S => hSf (by rw [← h]; exact hb))]; exact e
    · refine hR s'' (Moved.trans W.gtrans ((hm.mono hsub).then_heap (Nat.le_succ _) fun b o hb e => ?_) hm'') hS''
      rw [hsb.2 b (fun h : b = S => hb (by rw [h]; exact List.mem_cons_self))]; exact e
end
section
variable {prog : Program} {w : World} {A : Around} {E : Value → Shared → Prop} {s : Shared}
abbrev newS (led : Bool) : Obj := { cls := .type "set", dict := none, data := .set #[] 0 (.fresh 0 0 led) }
set_option maxHeartbeats 3200000 in
theorem call_setB {l : Addr} {bs : List Bool} {Q : Value → Shared → Prop} (hh : A.handled = none) (hl : s.heap.IsList l (bs.map Value.bool).toArray) (hb0 : bs.length ≤ 1000)
    (h : ∀ (h' : Heap) (tk : Nat), h'.SetOf (bKind prog w) s.heap.objs.size (fun k => bs.any (· == k)) (cnt bs) → (∀ b o, s.heap.get? b = some o → h'.get? b = some o) → Q (.ref s.heap.objs.size) { s with heap := h', toks := tk }) :
    wpAny (model prog w) A (call (.type "set") [.ref l]) Q E s := by
  obtain ⟨c, tl, hmro⟩ := PySem.F.called_set.mro
  have hmade := PySem.F.called_set.made
  have hsub := PySem.F.called_set.sub
  refine wpAny_call (codeAny_of_tree ?_); show wpAny _ _ (callAny (.type "set") _) _ _ _
  refine wpAny_pure ⟨Code.quiet_builtin _ (by decide +kernel), codeAny_builtin PySem.F.entry_type_call ?_⟩
  rw [Around.under_plain (weight_type_call_type "set" [.ref l] []) rfl]
  have h1 := PySem.F.called_set.notType
  have h2 := PySem.F.called_set.canCreate
  have hct := PySem.F.typeCall_set_1 (.ref l)
  repeat (any_goals (first | assumption | wp_step))
  refine codeAny_mono (code_set_new_1 (.ref l) (E := E) (Q₁ := fun obj s₁ => ∃ led : Bool, obj = .ref s.heap.objs.size ∧ s₁ = { s with heap := s.heap.push (newS led) }) fun led => ⟨led, rfl, rfl⟩) fun r s₁ hr => ?_
  cases r with
  | error e => exact hr
  | ok fl =>
    cases fl with
    | ret obj =>
      obtain ⟨led, rfl, rfl⟩ := hr
      have hS : (s.heap.push (newS led)).get? s.heap.objs.size = some (newS led) := Heap.get?_push_size _ rfl
      have hT : Shared.TypeIs { s with heap := s.heap.push (newS led) } (.ref s.heap.objs.size) "set" := ⟨_, hS, rfl⟩
      have hli := PySem.F.called_set.init.lookup
      have hbi := PySem.F.called_set.init.bind (.ref s.heap.objs.size)
      repeat (any_goals (first | assumption | wp_step))
      refine codeAny_mono (codeAny_call_builtin (R := wants (fun r s₂ => r = .none ∧ ∃ h' tk, s₂ = { s with heap := h', toks := tk } ∧ h'.SetOf (bKind prog w) s.heap.objs.size (fun k => bs.any (· == k)) (cnt bs) ∧ (∀ b o, s.heap.get? b = some o → h'.get? b = some o)) E) PySem.F.called_set.init.plain PySem.F.entry_set_init (check_set_init_1 hT ?_)) fun r₂ s₂ hr₂ => ?_
      · obtain ⟨ol, hol, hcl, nl, hdl⟩ := hl
        obtain ⟨ocls, odict, odata, oslots⟩ := ol
        simp only at hcl hdl
        subst hcl hdl
        have hol' : (s.heap.push (newS led)).get? l = some { cls := .type "list", dict := odict, data := .seq (bs.map Value.bool).toArray nl, slots := oslots } := Heap.get?_push_of_some _ hol
        have hsls := PySem.F.sub_list_set
        have hslf := PySem.F.sub_list_frozenset
        have hne : (Value.type "list" == Value.type "dict") = false := by decide
        have hl1 : (s.heap.push (newS led)).IsList l (bs.map Value.bool).toArray := ⟨_, hol', rfl, nl, rfl⟩
        unfold Builtin.«set.__init__» noKeywords Builtin.Frozenset.updateFrom
        generalize hPI : pyIter = PI
        wp_walk
        subst hPI
        refine wpAny_pyIter_list hl1 (wpAny_bind (wpAny_runValue ?_))
        have hlS : l < s.heap.objs.size := Heap.lt_size hol
        have hh3 : A.in1.in1.in1.handled = none := by simp [hh]
        have hz : (s.heap.push (newS led)).objs.size = s.heap.objs.size + 1 := Heap.size_push ..
        refine upd_loopB ((Walks.list hh3 _ l (by rw [hz]; exact Nat.ne_of_lt (Nat.lt_succ_of_lt hlS)) (bs.map Value.bool).toArray).toS) s.heap.objs.size (by rw [hz]; simp only [List.mem_cons, List.not_mem_nil, or_false, not_or]; exact ⟨Nat.ne_of_lt (Nat.lt_succ_self _), Nat.ne_of_gt hlS⟩) bs (by rw [List.size_toArray, List.length_map]) hb0
          (fun i v hv => by
            have hv : (bs.map Value.bool).toArray[i]? = some v := hv
            rw [List.getElem?_toArray, List.getElem?_map] at hv
            obtain ⟨t, e1, e2⟩ := Option.map_eq_some_iff.mp hv
            exact ⟨t, e1, e2.symm⟩)
          _ 0 _ (Nat.sub_zero _) (Nat.zero_le _) ⟨⟨_, Heap.get?_push_size _ rfl, rfl, rfl⟩, hl1.push _⟩ (PyProof.Rows.SetOf_congr ((PyProof.Rows.setObjOf_fresh (knd := bKind prog w) led).setOf (Heap.get?_push_of_some _ hS) (by unfold scanBound; omega)) (fun _ => rfl) rfl) ?_
        intro s' hm hS'
        obtain ⟨h', g', d', tk', os'⟩ := s'
        have eg : g' = s.gens := hm.gens
        have ed : d' = s.drawn := hm.drawn
        have eo : os' = s.os := hm.os
        subst eg ed eo
        show wpAny _ _ _ _ _ _
        refine wpAny_pure ?_; show wpAny _ _ (ret Value.none) _ _ _
        refine wpAny_pure ⟨rfl, h', tk', rfl, hS', fun b o e => ?_⟩
        have hb := Heap.lt_size e
        exact hm.heap b o (by rw [hz]; simp only [List.mem_cons, List.not_mem_nil, or_false, not_or]; exact ⟨Nat.ne_of_lt hb, Nat.ne_of_lt (Nat.lt_succ_of_lt hb)⟩) (Heap.get?_push_of_some _ (Heap.get?_push_of_some _ e))
      · cases r₂ with
        | error e => exact hr₂
        | ok fl₂ =>
          cases fl₂ with
          | ret r =>
            obtain ⟨rfl, h', tk, rfl, hS', hk'⟩ := hr₂
            repeat (any_goals (first | assumption | wp_step))
            exact h _ _ hS' hk'
          | next => exact hr₂.elim
          | brk => exact hr₂.elim
          | cont => exact hr₂.elim
    | next => exact hr.elim
    | brk => exact hr.elim
    | cont => exact hr.elim
end
end SetB
namespace L2
open PySem PySem.Spec PyProof.Rows SetB
section
variable {X : Cx}
def SetBO (P : Program) (w : World) (a : Addr) (n : Nat) : HO := .ext fun h => ∃ S, h.SetOf (bKind P w) a S n
theorem vals_bools : ∀ {bs : List Bool} {its : List Value}, Vals (bs.map V.bl) its → its = bs.map Value.bool
  | [], _, .nil => rfl
  | b :: bs, _, .cons r rr => by cases r; rw [vals_bools rr]; rfl
theorem call_setB (hc : X.calm = true) : CallR X (.type "set") (fun xs H Q => ∃ (l : Addr) (bs : List Bool), xs = [.ref l] ∧ H l = some (.lst (bs.map V.bl)) ∧ bs.length ≤ 1000 ∧ ∀ p, H p = none → Q (.ref p) (upd H p (SetBO X.prog X.w p (cnt bs)))) := by
  intro pins s σ H xs us Q I r h
  obtain ⟨l, bs, rfl, hq, h0, q⟩ := h
  obtain ⟨u, rfl, ru⟩ := r.one
  cases ru
  obtain ⟨its, rv, pl, hz⟩ := I.list (SqL.of hq)
  obtain rfl := vals_bools rv
  refine SetB.call_setB (I.ok.hd hc) pl.isList h0 fun h' tk hS hk => ?_
  have hfr : H s.heap.objs.size = none := I.hok.fresh (Nat.le_refl _)
  refine ⟨.ref s.heap.objs.size, _, I.laid (a := s.heap.objs.size) (o := SetBO X.prog X.w s.heap.objs.size (cnt bs)) (t' := tk) hk (Nat.le_refl _) ⟨⟨_, hS⟩, (let ⟨o, _, _, _, e, _⟩ := hS; ⟨o, e⟩), fun h1 h2 ⟨S, o, es, ep, t, e, r⟩ k => ⟨S, o, es, ep, t, k _ e, r⟩⟩, rfl, q _ hfr⟩
theorem call_lenB : CallR X (.builtin "len") (fun xs H Q => ∃ (p : Addr) (n : Nat), xs = [.ref p] ∧ H p = some (SetBO X.prog X.w p n) ∧ Q (.int n) H) := by
  intro pins s σ H xs us Q I r h
  obtain ⟨p, n, rfl, hp, q⟩ := h
  obtain ⟨u, rfl, ru⟩ := r.one
  cases ru
  obtain ⟨⟨S, o, es, ep, t, e, hx, hd, h1, h2, h3, h4, h5⟩, _⟩ := (show ObjOk X.prog X.w H s.heap p (SetBO X.prog X.w p n) from I.hok p _ hp)
  refine call_len_set e hx hd h4 (by have : es.size < 4096 := h3; omega) ?_
  rw [h5]
  exact ⟨.int n, H, I.tok _, ⟨_, rfl⟩, q⟩
end
end L2

namespace L2V
open PySem PySem.Spec PyProof.Rows
section
variable {prog : Program} {w : World} {K : Type} [DecidableEq K] {knd : HeapKind prog w K} {A : Around} {E : Value → Shared → Prop} {s : Shared}
theorem setdefH {d a : Addr} {xs : List (K × Addr × Value)} {k : K} {x : Value} {Q : Value → Shared → Prop} (hu : knd.room A) (hkey : knd.is s.heap k a) (hm : s.heap.DictOfH knd d xs)
    (h1 : ∀ p, atKey xs k = some p → Q p.2 { s with toks := s.toks + knd.draws k })
    (h2 : atKey xs k = none → ∀ h', h'.DictOfH knd d (storedH xs k a x) → Heap.SameBut d s.heap h' → Q x { s with heap := h', toks := s.toks + knd.draws k })
    (hsz : xs.length ≤ sizeLine) : wpAny (model prog w) A (dictSetDefault d (.ref a) x) Q E s := by
  obtain ⟨o, es, ep, ho, hc, hd, he, his, hn⟩ := hm
  unfold dictSetDefault
  try with_reducible refine wpAny_holding ?_
  refine wpAny_bind (knd.pyHash hu hkey (wpAny_bind (wpAny_dictFind_heap (s := { s with toks := s.toks + knd.draws k }) hu hkey ho hd he his hn ?_ ?_)))
  · intro hno
    have hat := atKey_none_of_get hno
    have hnot := not_mem_keys_of_get hno
    refine wpAny_bind (wpAny_rule (wpAny_bind (wpAny_updateDictKeys (hz := by have e := size_of_entries he; omega) (s := { s with toks := s.toks + knd.draws k }) ho hd (wpAny_pure (h2 hat _ ⟨_, _, ep + 1, Heap.get?_update_self _ ho (Obj.isFreed_of_dict (Obj.data_mapDictKeys hd _)), hc.mapDictKeys _, Obj.data_mapDictKeys hd _, ?_, ?_, ?_⟩ (Heap.SameBut.update ..))))))
    · rw [storedH_new hat]; simp [he, entryOfKey]
    · rw [storedH_new hat]; intro y hy
      rcases List.mem_append.mp hy with hy | hy
      · exact knd.keeps (his y hy) ho hd (Heap.SameBut.update ..)
      · rw [List.mem_singleton.mp hy]; exact knd.keeps hkey ho hd (Heap.SameBut.update ..)
    · rw [storedH_new hat, List.map_append, List.nodup_append]
      refine ⟨hn, by simp, fun y hy z hz e => hnot ?_⟩
      rw [e, List.mem_singleton.mp hz] at hy; exact hy
  · intro j p hj
    refine wpAny_bind (wpAny_dictEntries (s := { s with toks := s.toks + knd.draws k }) ho hd ?_)
    have e := entry_at he j
    rw [hj] at e
    rw [e]
    exact wpAny_bind (wpAny_rule (wpAny_pure (h1 p (atKey_of_get hn hj))))
theorem meets_setdefH (d a : Addr) (hd : (d == sysModules) = false) (x : Value) : MeetsIn prog w (Builtin.«dict.setdefault» ⟨[.ref d, .ref a, x], []⟩) (fun A R s => knd.room A.in1 ∧ ∃ k xs, knd.is s.heap k a ∧ s.heap.DictOfH knd d xs ∧ xs.length ≤ sizeLine ∧
    (∀ p, atKey xs k = some p → R (.ok (.ret p.2)) { s with toks := s.toks + knd.draws k }) ∧ (atKey xs k = none → ∀ h', h'.DictOfH knd d (storedH xs k a x) → Heap.SameBut d s.heap h' → R (.ok (.ret x)) { s with heap := h', toks := s.toks + knd.draws k })) :=
  .of_wp fun A R s ⟨hu, k, xs, hkey, hm, hz, h1, h2⟩ => by
    unfold Builtin.«dict.setdefault»; refine wpAny_bind ?_; unfold Builtin.Dict.keyAndDefault
    refine wpAny_bind (wpAny_notOrdered_dict hm.typeIs ?_); show wpAny _ _ (pure (d, Value.ref a, some x)) _ _ s
    refine wpAny_pure ?_; show wpAny _ _ (if (d == sysModules) = true then _ else (dictSetDefault d (.ref a) x >>= _)) _ _ s
    rw [if_neg (by rw [hd]; decide)]
    exact wpAny_bind (setdefH hu hkey hm (fun p hp => wpAny_pure ⟨_, rfl, h1 p hp⟩) (fun hn h' hm' hs' => wpAny_pure ⟨_, rfl, h2 hn h' hm' hs'⟩) hz)
end
section
variable {prog : Program} {w : World} {A : Around} {E : Value → Shared → Prop} {s : Shared}
theorem meets_its (d : Addr) (hd : (d == sysModules) = false) : MeetsIn prog w (Builtin.«dict.items» ⟨[.ref d], []⟩) (fun _ R s => s.TypeIs (.ref d) "dict" ∧ R (.ok (.ret (.ref s.heap.objs.size))) { s with heap := s.heap.push { cls := .type "dict_items", data := .fields #[.ref d] } }) :=
  .of_wp fun A R s ⟨hm, h⟩ => by
    unfold Builtin.«dict.items»; refine wpAny_bind ?_; unfold Builtin.Dict.noArgs; refine wpAny_bind (wpAny_notOrdered_dict hm ?_); show wpAny _ _ (pure d) _ _ s; refine wpAny_pure ?_
    show wpAny _ _ (Builtin.Dict.showsAll d >>= _) _ _ s; unfold Builtin.Dict.showsAll; rw [if_neg (by rw [hd]; exact Bool.false_ne_true)]
    exact wpAny_bind (wpAny_pure (wpAny_bind (wpAny_newObj_type (wpAny_pure ⟨_, rfl, h⟩))))
theorem iter_its {v d : Addr} {es : Array DictEntry} {ep : Nat} {Q : Value → Shared → Prop} (hv : s.heap.IsItemsView v d) (hm : DE s.heap d es ep)
    (hQ : Q (.ref s.heap.objs.size) { s with heap := s.heap.push { cls := .type "dict_itemiterator", data := .fields #[.none, .bool false, .ref d, .int 0 0, .int es.size 0, .int ep 0, .none, .none] } }) : wpAny (model prog w) A (pyIter (.ref v)) Q E s := by
  obtain ⟨ov, hov, hcv, hdv⟩ := id hv; obtain ⟨o, ho, hdat⟩ := id hm
  refine wpAny_pyIter_slot hv.typeIs F.slot_dict_items_iter (wpAny_call_entry F.slot_dict_items_iter hv.typeIs F.entry_dict_items_iter ?_ (F.args_dict_items_iter_1 _))
  unfold Builtin.«dict_items.__iter__»; refine wpAny_bind (wpAny_pure (wpAny_bind ?_)); unfold Builtin.Dict_items.dictOf
  refine wpAny_bind (wpAny_field hov hdv (x := .ref d) rfl (wpAny_pure (wpAny_bind ?_))); unfold Builtin.Dict_items.newIterator
  refine wpAny_bind (wpAny_dictEntries ho hdat (wpAny_bind (wpAny_dictEpoch ho hdat ?_)))
  have hown : Builtin.Dict_items.ownsTuple "dict_itemiterator" = true := by decide
  simp only [hown, if_true]; refine wpAny_newObj_type (wpAny_pure ⟨_, rfl, "dict_itemiterator", _, ⟨_, Heap.get?_push_size _ rfl, rfl⟩, F.slot_dict_itemiterator_next.lookup, ?_⟩) (by simp only [sizeOk, Builtin.Dict_items.ownedTupleFields, List.size_toArray, List.length_append, List.length_cons, List.length_nil, sizeLine_eq]; omega)
  simpa [rawInt, Builtin.Dict_items.ownedTupleFields] using hQ
theorem next_its {it d : Addr} {i ep : Nat} {es : Array DictEntry} {ok ov : Value} {Q : Option Value → Shared → Prop} (hit : IsItemIter s.heap it d i es.size ep ok ov) (hm : DE s.heap d es ep) (hlt : i < es.size)
    (hQ : ∀ h', IsItemIterOut h' it d (i + 1) es.size ep es[i].key es[i].val s.heap.objs.size → h'.get? s.heap.objs.size = some { cls := .type "tuple", data := .seq #[es[i].key, es[i].val] } → h'.objs.size = s.heap.objs.size + 1 →
      (∀ b o, b ≠ it → s.heap.get? b = some o → h'.get? b = some o) → Q (some (.ref s.heap.objs.size)) { s with heap := h' }) : wpAny (model prog w) A (pyNext (.ref it)) Q E s := by
  obtain ⟨hp, g, dr, tk, os⟩ := s; obtain ⟨od, hod, hdd⟩ := id hm
  have hT : Shared.TypeIs ⟨hp, g, dr, tk, os⟩ (.ref it) "dict_itemiterator" := ⟨_, hit, rfl⟩
  unfold pyNext; refine wpAny_bind (wpAny_attempt (wpAny_callSpecial?_slot (name := Str.ofString "__next__") hT F.slot_dict_itemiterator_next (wpAny_call_entry F.slot_dict_itemiterator_next hT F.entry_dict_itemiterator_next ?_ (F.args_dict_itemiterator_next_1 _))))
  refine wpAny_bind (wpAny_pure (wpAny_bind (wpAny_bind ?_)))
  (first | refine wpAny_bind (wpAny_typeNameOfWhole_itemiter hT (wpAny_pure ?_)) | refine wpAny_bind (wpAny_typeNameOf_itemiter hT (wpAny_pure ?_))); refine wpAny_bind (wpAny_fieldsOf hit rfl ?_)
  have hown : Builtin.Dict_items.ownsTuple "dict_itemiterator" = true := by decide
  simp only [hown, if_true]; show wpAny _ _ (if (Value.ref d == Value.none) = true then _ else _) _ _ _
  rw [if_neg (show ¬ ((Value.ref d == Value.none) = true) from Bool.false_ne_true)]; refine wpAny_bind (wpAny_pure (wpAny_bind (wpAny_dictEntries hod hdd ?_)))
  rw [if_neg (by simp)]; refine wpAny_bind (wpAny_pure (wpAny_bind (wpAny_dictEpoch hod hdd ?_))); rw [if_neg (by simp)]; refine wpAny_pure ?_
  simp only [show ¬ ((i : Int) < 0) from by omega, if_false, Int.toNat_natCast, Array.getElem?_eq_getElem hlt]; refine wpAny_bind ?_
  (first | refine wpAny_bind (wpAny_typeNameOfWhole_itemiter hT (wpAny_pure ?_)) | refine wpAny_bind (wpAny_typeNameOf_itemiter hT (wpAny_pure ?_))); refine wpAny_bind (wpAny_isOneOf_itemiter hT ?_)
  show wpAny _ _ (setField (.ref it) 3 (rawInt ((i : Int) + 1)) >>= _) _ _ ⟨hp, g, dr, tk, os⟩; refine wpAny_bind (wpAny_setField_rec hit (by simp) fun h₁ he₁ hs₁ => ?_)
  replace hs₁ : Heap.SameBut it hp h₁ := hs₁; replace he₁ : IsItemIter h₁ it d (i + 1) es.size ep ok ov := by
    have e : ((i + 1 : Nat) : Int) = (i : Int) + 1 := by omega
    unfold IsItemIter; rw [e]; simpa [rawInt] using he₁
  have hT₁ : Shared.TypeIs ⟨h₁, g, dr, tk, os⟩ (.ref it) "dict_itemiterator" := ⟨_, he₁, rfl⟩
  refine wpAny_bind (wpAny_holding (wpAny_bind (wpAny_isOneOf_itemiter hT₁ (wpAny_bind (wpAny_isOneOf_itemiter hT₁ ?_)))))
  show wpAny _ _ (Builtin.Dict_items.pairFromOwner (.ref it) 6 es[i].key es[i].val) _ _ ⟨h₁, g, dr, tk, os⟩; unfold Builtin.Dict_items.pairFromOwner; refine wpAny_bind (wpAny_newTuple ?_)
  have he₂ : IsItemIter (h₁.push { cls := .type "tuple", data := .seq #[es[i].key, es[i].val] }) it d (i + 1) es.size ep ok ov := Heap.get?_push_of_some _ he₁
  generalize hh₂ : h₁.push { cls := .type "tuple", data := .seq #[es[i].key, es[i].val] } = h₂ at he₂
  have hz₁ : h₁.objs.size = hp.objs.size := hs₁.1; have hil : it < hp.objs.size := Heap.lt_size hit
  have ht₂ : h₂.get? hp.objs.size = some { cls := .type "tuple", data := .seq #[es[i].key, es[i].val] } := by rw [← hh₂, ← hz₁]; exact Heap.get?_push_size _ rfl
  have hz₂ : h₂.objs.size = hp.objs.size + 1 := by rw [← hh₂, Heap.size_push, hz₁]
  have hk₂ : ∀ b o, b ≠ it → hp.get? b = some o → h₂.get? b = some o := fun b o hb e => by rw [← hh₂]; exact Heap.get?_push_of_some _ (hs₁.extBut b o hb e)
  show wpAny _ _ (Builtin.Dict_items.ownedTupleIsFree (.ref it) >>= _) _ _ ⟨h₂, g, dr, tk, os⟩; rw [hz₁]; clear hh₂ he₁ hs₁ hT₁ hz₁ h₁
  refine wpAny_bind ?_; unfold Builtin.Dict_items.ownedTupleIsFree; refine wpAny_bind (wpAny_field he₂ rfl (x := .none) rfl (wpAny_pure ?_))
  simp only [if_true]; refine wpAny_bind (wpAny_field he₂ rfl (x := ok) rfl (wpAny_bind (wpAny_field he₂ rfl (x := ov) rfl (wpAny_bind (wpAny_setField_rec he₂ (by simp) fun h₃ he₃ hs₃ => ?_)))))
  replace hs₃ : Heap.SameBut it h₂ h₃ := hs₃; replace he₃ : IsItemIter h₃ it d (i + 1) es.size ep es[i].key ov := he₃
  refine wpAny_bind (wpAny_setField_rec he₃ (by simp) fun h₄ he₄ hs₄ => ?_); replace hs₄ : Heap.SameBut it h₃ h₄ := hs₄; replace he₄ : IsItemIter h₄ it d (i + 1) es.size ep es[i].key es[i].val := he₄
  refine wpAny_bind (wpAny_setField_rec he₄ (by simp) fun h₅ he₅ hs₅ => ?_); replace hs₅ : Heap.SameBut it h₄ h₅ := hs₅; replace he₅ : IsItemIterOut h₅ it d (i + 1) es.size ep es[i].key es[i].val hp.objs.size := he₅
  refine wpAny_bind (wpAny_setField_rec he₅ (by simp) fun h₆ he₆ hs₆ => ?_); replace hs₆ : Heap.SameBut it h₅ h₆ := hs₆; replace he₆ : IsItemIterOut h₆ it d (i + 1) es.size ep es[i].key es[i].val hp.objs.size := he₆
  refine wpAny_bind (wpAny_letGo (wpAny_pure (wpAny_pure ⟨_, rfl, wpAny_pure (hQ h₆ he₆ ?_ ?_ ?_)⟩)))
  · have n := Nat.ne_of_gt hil; exact hs₆.extBut _ _ n (hs₅.extBut _ _ n (hs₄.extBut _ _ n (hs₃.extBut _ _ n ht₂)))
  · show h₆.objs.size = _; rw [hs₆.1, hs₅.1, hs₄.1, hs₃.1, hz₂]
  · exact fun b o n e => hs₆.extBut b o n (hs₅.extBut b o n (hs₄.extBut b o n (hs₃.extBut b o n (hk₂ b o n e))))
theorem end_its {it d : Addr} {ep : Nat} {es : Array DictEntry} {ok ov : Value} {Q : Option Value → Shared → Prop} (hh : A.handled = none) (hit : IsItemIter s.heap it d es.size es.size ep ok ov) (hm : DE s.heap d es ep)
    (hQ : ∀ h', Heap.ExtBut it s.heap h' → Q none { s with heap := h' }) : wpAny (model prog w) A (pyNext (.ref it)) Q E s := by
  obtain ⟨od, hod, hdd⟩ := id hm; have hT : s.TypeIs (.ref it) "dict_itemiterator" := ⟨_, hit, rfl⟩
  unfold pyNext; refine wpAny_bind (wpAny_attempt (wpAny_callSpecial?_slot (name := Str.ofString "__next__") hT F.slot_dict_itemiterator_next (wpAny_call_entry F.slot_dict_itemiterator_next hT F.entry_dict_itemiterator_next ?_ (F.args_dict_itemiterator_next_1 _))))
  refine wpAny_bind (wpAny_pure (wpAny_bind (wpAny_bind ?_)))
  (first | refine wpAny_bind (wpAny_typeNameOfWhole_itemiter hT (wpAny_pure ?_)) | refine wpAny_bind (wpAny_typeNameOf_itemiter hT (wpAny_pure ?_))); refine wpAny_bind (wpAny_fieldsOf hit rfl ?_)
  have hown : Builtin.Dict_items.ownsTuple "dict_itemiterator" = true := by decide
  simp only [hown, if_true]; show wpAny _ _ (if (Value.ref d == Value.none) = true then _ else _) _ _ s
  rw [if_neg (show ¬ ((Value.ref d == Value.none) = true) from Bool.false_ne_true)]; refine wpAny_bind (wpAny_pure (wpAny_bind (wpAny_dictEntries hod hdd ?_)))
  rw [if_neg (by simp)]; refine wpAny_bind (wpAny_pure (wpAny_bind (wpAny_dictEpoch hod hdd ?_))); rw [if_neg (by simp)]; refine wpAny_pure ?_
  simp only [show ¬ ((es.size : Int) < 0) from by omega, if_false, Int.toNat_natCast, Array.getElem?_eq_none (Nat.le_refl es.size)]; refine wpAny_bind ?_
  (first | refine wpAny_bind (wpAny_typeNameOfWhole_itemiter hT (wpAny_pure ?_)) | refine wpAny_bind (wpAny_typeNameOf_itemiter hT (wpAny_pure ?_))); show wpAny _ _ (setField (.ref it) 2 .none >>= _) _ _ s
  refine wpAny_bind (wpAny_setField hit rfl (by simp) ?_); show wpAny _ _ (newExc (.type "StopIteration") [] >>= _) _ _ _; refine wpAny_bind ?_; simp only [newExc, newTuple]
  refine wpAny_bind (wpAny_newObj_type ?_ (by size_fits)); refine wpAny_bind (m := firstArgMember _ _) (wpAny_of_eq (a := Value.none) (by first | rfl | (simp only [firstArgMember]; rfl)) ?_); refine wpAny_newObj_type ?_ (by size_fits)
  simp only [raiseNew]; refine wpAny_bind (wpAny_handled ?_); rw [show A.in1.handled = none from hh]; refine wpAny_bind (wpAny_pure (wpAny_throw ?_))
  refine wpAny_bind (wpAny_isInstance (T := "StopIteration") (b := true) ⟨_, Heap.get?_push_size _ rfl, rfl⟩ isSubtype_stop ?_); exact wpAny_pure (hQ _ (((Heap.SameBut.update ..).extBut.push _).push _))
end
end L2V
namespace L2
open PySem PySem.Spec PyProof.Rows L2V
section
variable {X : Cx} {pins : List (Addr × Obj)} {σ : St} {H : Hp} {s : Shared} {a b : Addr} {kvs : List (List Key × V)} {k : List Key} {r : Value} {A : Around} {E : Value → Shared → Prop}
theorem d_setdefT {x : V} {Q : Value → Shared → Prop} (hu : A.units + 1 < cLine) (I : Inv X pins σ H s) (e : H a = some (.dT kvs)) (eb : H b = some (.tup (k.map kV))) (rv : RelV x r) (l : kvs.length < sizeLine)
    (h1 : ∀ y w' s', valV kvs k = some y → Inv X pins σ H s' → RelV y w' → Q w' s')
    (h2 : ∀ s', valV kvs k = none → Inv X pins σ (upd H a (.dT (putK kvs k x))) s' → Q r s') : wpAny (model X.prog X.w) A (call (.builtin "dict.setdefault") [.ref a, .ref b, r]) Q E s := by
  obtain ⟨z, hd, xs, rel, dd⟩ := dt_of I.hok e
  have hz : xs.length ≤ sizeLine := by rw [← Paired.length rel]; exact z
  have hl : (putK kvs k x).length ≤ sizeLine := by have := length_putK kvs k x; omega
  have rv0 := rel.val k
  refine call_meetsIn PySem.F.slot_dict_setdefault dd.typeIs PySem.F.entry_dict_setdefault (PySem.F.args_dict_setdefault_3 _ _ _) (meets_setdefH (knd := tupleKind (mixKind X.prog X.w)) a b hd r)
    ⟨tupleKind_room_in1 hu, k, xs, key_of I.hok eb, dd, hz, fun p hp => ?_, fun hn h' dd' hs => h2 _ ?_ ?_⟩
  · cases q : valV kvs k with
    | none => rw [q, hp] at rv0; exact absurd rv0 (fun z => nomatch z)
    | some y => rw [q, hp] at rv0; exact h1 y p.2 _ q (I.tok _) rv0
  · cases q : valV kvs k with
    | none => rfl
    | some y => rw [q, hn] at rv0; exact absurd rv0 (fun z => nomatch z)
  · obtain ⟨q, es, ep, hq, g2, g3, g4, _, g5⟩ := dd'
    refine d_write I (by rw [e]; exact True.intro) hs ⟨q, hq⟩ ⟨hl, hd, _, (rel.put k eb rv).keeps fun c ys ec => ?_, q, es, ep, hq, g2, g3, g4, g5⟩
    rw [upd_ne (ne_of ec e (fun z => nomatch z))]; exact ec
end
def tDSetT (td ty tx : TE) : TE := fun σ H Q => td σ H fun x H1 => ∃ a, x = .ref a ∧ IsD H1 a ∧ ty σ H1 fun y H2 => tx σ H2 fun z H3 => ∃ kvs k b, H3 a = some (.dT kvs) ∧ y = .ref b ∧ H3 b = some (.tup (k.map kV)) ∧ kvs.length < sizeLine ∧
  (∀ v, valV kvs k = some v → Q v H3) ∧ (valV kvs k = none → Q z (upd H3 a (.dT (putK kvs k z))))
section
variable {X : Cx} {o e f : Expr} {apos cpos : Pos} {td ty tx : TE}
theorem pe_dsetT (hu : X.A.units + 1 < cLine) (ho : PE X o td) (he : PE X e ty) (hf : PE X f tx) (m : M2 X o "setdefault" apos e f cpos) : PE X (.Call (.Attribute o "setdefault" apos) [e, f] [] cpos) (tDSetT td ty tx) := by
  intro pins s σ H Q I h
  refine wpAny_Call_method m.base m.few m.line PySem.F.plainAttrs_dict PySem.F.slot_dict_setdefault PySem.F.type_dict_setdefault (thn (ho pins s σ H _ I h) fun u s1 ⟨x, H1, I1, rx, a, ex, d, q1⟩ => ?_)
  subst ex
  obtain rfl : u = Value.ref a := rx
  obtain ⟨t1, t2, _⟩ := isD_at I1 d
  refine ⟨t1, t2, ?_⟩
  rw [m.trees]
  refine Calls.callWith_builtin rfl (Calls.evalArgs_plain (Calls.spliced_cons (thn (he pins s1 σ H1 _ I1 q1) fun iv s2 ⟨y, H2, I2, ry, q2⟩ =>
    Calls.spliced_cons (thn (hf pins s2 σ H2 _ I2 q2) fun fv s3 ⟨z, H3, I3, rz, kvs, k, b, ea, ey, eb, el, q3, q4⟩ => Calls.spliced_nil ?_))))
  subst ey
  obtain rfl : iv = Value.ref b := ry
  exact d_setdefT hu I3 ea eb rz el (fun y w' s4 hy I4 rw' => ⟨y, H3, I4, rw', q3 y hy⟩) fun s4 hn I4 => ⟨z, _, I4, rz, q4 hn⟩
end
end L2
namespace L2V
open PySem PySem.Spec PyProof.Rows
theorem entry_ii : entryFor table "dict_itemiterator.__iter__" = some Builtin.«dict_keyiterator.__iter__» :=
  entryFor_alias (id' := "dict_keyiterator.__iter__") (by kernel_rfl) rfl (by decide +kernel) (by kernel_rfl)
theorem self_its {prog : Program} {w : World} {A : Around} {E : Value → Shared → Prop} {s : Shared} {it d : Addr} {i n ep : Nat} {ok ov : Value} {Q : Value → Shared → Prop} (hit : IsItemIter s.heap it d i n ep ok ov) (h : Q (.ref it) s) : wpAny (model prog w) A (pyIter (.ref it)) Q E s := by
  have hT : s.TypeIs (.ref it) "dict_itemiterator" := ⟨_, hit, rfl⟩
  refine wpAny_pyIter_slot hT F.slot_dict_itemiterator_iter (wpAny_call_entry F.slot_dict_itemiterator_iter hT entry_ii ?_ (F.args_dict_itemiterator_iter_1 _))
  show wpAny _ _ (ret (.ref it)) _ _ s; exact wpAny_pure ⟨_, rfl, "dict_itemiterator", _, hT, F.slot_dict_itemiterator_next.lookup, h⟩
end L2V
namespace L2
open PySem PySem.Spec PyProof.Rows L2V
section
variable {X : Cx} {pins : List (Addr × Obj)} {σ : St} {H : Hp} {s : Shared} {a : Addr}
theorem Inv.frostT (I : Inv X pins σ H s) {kvs : List (List Key × V)} (e : H a = some (.dT kvs)) : ∃ o es ep, s.heap.get? a = some o ∧ o.data = .dict es ep ∧ es.size = kvs.length ∧ Inv X pins σ (upd H a (.frz o (.dT kvs))) s := by
  have mu : Mut (H a) := by rw [e]; exact True.intro
  obtain ⟨z, lo, xs, rel, o, es, ep, h1, h2, h3, h4, h5⟩ := (show ObjOk X.prog X.w H s.heap a (.dT kvs) from I.hok a _ e)
  have hsz : es.size = kvs.length := by
    rw [rel.length]
    have := congrArg List.length h4
    rwa [Array.length_toList, List.length_map] at this
  have keep : ∀ c ys, H c = some (.tup ys) → upd H a (.frz o (.dT kvs)) c = some (.tup ys) := fun c ys ec => by
    rw [upd_ne (ne_of ec e (fun z => nomatch z))]; exact ec
  refine ⟨o, es, ep, h1, h3, hsz, I.write (x := a) (e := a) (t' := s.toks) mu (.inl rfl) (fun b q hb z => z) ⟨o, h1⟩ ⟨h1, z, lo, xs, Paired.mapP rel fun p q y => ⟨y.1, keep _ _ y.2.1, y.2.2⟩, o, es, ep, h1, h2, h3, h4, h5⟩⟩
def Iti (d : Addr) (o : Obj) (kvs : List (List Key × V)) : It :=
  ⟨fun i H => i < kvs.length ∧ H d = some (.frz o (.dT kvs)), fun i H y H' => ∃ t b k v, y = .ref t ∧ H t = none ∧ kvs[i]? = some (k, v) ∧ H b = some (.tup (k.map kV)) ∧ H' = upd H t (.tup [.ref b, v]), fun i H => kvs.length ≤ i ∧ H d = some (.frz o (.dT kvs))⟩
theorem turn_its {P : Program} {w : World} {K : PySem.W.Frag} {elts : List Expr} {x1 : Nat} {tp : Pos} (d it : Addr) (o : Obj) (kvs : List (List Key × V)) (es : Array DictEntry) (ep : Nat) (hep : o.data = .dict es ep) (hsz : es.size = kvs.length) :
    Turn P w K (.Tuple elts x1 tp) (Iti d o kvs) [it] it (fun i h => i ≤ kvs.length ∧ ∃ ok ov, IsItemIter h it d i kvs.length ep ok ov) where
  mem := by simp
  obj := fun i h st b hb => by
    have e : b = it := by simpa using hb
    subst e
    obtain ⟨_, ok, ov, e⟩ := st
    exact ⟨_, e, fun v z => by have z' : Data.fields _ = Data.cell v := z; cases z'⟩
  keep := fun i h h' st k => ⟨st.1, let ⟨ok, ov, e⟩ := st.2; ⟨ok, ov, k it (by simp) _ e⟩⟩
  item := by
    intro X hP hw hK hc i pins s σ H E I hf st hg
    subst hP hw hK
    obtain ⟨hi, hd⟩ := hg
    obtain ⟨_, ok, ov, hit⟩ := st
    obtain ⟨ho, z, lo, xs, rel, od, es', ep', h1, h2, h3, h4, h5⟩ := (show ObjOk X.prog X.w H s.heap d (.frz o (.dT kvs)) from I.hok d _ hd)
    obtain ⟨f0, f1, f2, f3, f4, f5⟩ := hf it (by simp)
    have e1 : od = o := by rw [ho] at h1; exact (Option.some.inj h1).symm
    have e2 : es' = es ∧ ep' = ep := by rw [e1, hep] at h3; cases h3; exact ⟨rfl, rfl⟩
    obtain ⟨rfl, rfl⟩ := e2
    have hi2 : i < es'.size := by omega
    have hx : kvs[i]? = some kvs[i] := List.getElem?_eq_getElem hi
    have hxs : xs[i]? = some (xs[i]'(by rw [← rel.length]; exact hi)) := List.getElem?_eq_getElem _
    have pr := paired_get rel hx hxs
    have ee : es'[i] = entryOfKey (tupleKind (mixKind X.prog X.w)) (xs[i]'(by rw [← rel.length]; exact hi)) := by
      have e := entry_at h4 i
      rw [hxs, Array.getElem?_eq_getElem hi2] at e
      exact Option.some.inj e
    rw [← hsz] at hit
    refine next_its hit ⟨od, h1, h3⟩ hi2 fun h' ho' hT hsz' hk => ?_
    refine ⟨_, rfl, wpAny_letOwnedTupleGo_items (s := { s with heap := h' }) ho' fun h'' he'' hs'' => ?_⟩
    have hlt : it < s.heap.objs.size := Heap.lt_size hit
    have k2 : ∀ b o, b ≠ it → s.heap.get? b = some o → h''.get? b = some o := fun b o h1 q => (hs''.2 b h1).trans (hk b o h1 q)
    have hT2 : h''.get? s.heap.objs.size = some { cls := .type "tuple", data := .seq #[es'[i].key, es'[i].val] } := (hs''.2 _ (Nat.ne_of_gt hlt)).trans hT
    have hfr : H s.heap.objs.size = none := I.hok.fresh (Nat.le_refl _)
    have neT : ∀ {b : Addr} {o : Obj}, s.heap.get? b = some o → b ≠ s.heap.objs.size := fun q => Nat.ne_of_lt (Heap.lt_size q)
    have trk : ∀ {b : Addr} {o : HO}, H b = some o → b ≠ it := fun q z => by rw [z, f0] at q; cases q
    have I2 : Inv X pins σ (upd H s.heap.objs.size (.tup [.ref (xs[i]'(by rw [← rel.length]; exact hi)).2.1, kvs[i].2])) { s with heap := h'' } := by
      refine I.step (g' := s.gens) (d' := s.drawn) (t' := s.toks) (ch := [it]) (fun b hb => ?_) (fun b o _ _ hch q _ => k2 b o (fun z => hch (by simp [z])) q) (fun b o _ _ hch q _ => ⟨o.slots, k2 b o (fun z => hch (by simp [z])) q⟩)
        (fun b o _ q n => by rw [upd_ne (neT q)]; exact n) (fun b o hch q => ⟨o, k2 b o (fun z => hch (by simp [z])) q⟩) (fun b ys q => by rw [upd_ne (ne_of_none q hfr)]; exact q) (fun b o ys q => by rw [upd_ne (ne_of_none q hfr)]; exact q)
        (fun b ps q => ⟨#[], by rw [upd_ne (ne_of_none q hfr), q]; simp⟩) (fun m hm => ?_) (fun b v q => ?_) I.bare
      · have e1 : b = it := by simpa using hb
        subst e1; exact ⟨f3, f1, f4, f5⟩
      · obtain ⟨o, es, ep, ho, r⟩ := hm
        exact ⟨o, es, ep, k2 _ o (Ne.symm f1) ho, r⟩
      · by_cases hb : b = s.heap.objs.size
        · subst hb
          rw [upd_same] at q
          cases q
          refine ⟨by show 2 ≤ sizeLine; decide, [es'[i].key, es'[i].val], .cons ?_ (.cons ?_ .nil), _, hT2, rfl, _, rfl⟩
          · rw [ee]; rfl
          · rw [ee]; exact pr.2.2
        · rw [upd_ne hb] at q
          refine (I.hok b v q).stay (fun c o hc z => ?_) (fun c z => by rw [upd_ne (ne_of_none z hfr)]; exact z) fun c ys z => by rw [upd_ne (ne_of_none z hfr)]; exact z
          rcases hc with rfl | hc
          · exact k2 c o (trk q) z
          · exact k2 c o (trk hc) z
    refine ⟨.ref s.heap.objs.size, _, I2, rfl, ⟨_, _, kvs[i].1, kvs[i].2, rfl, hfr, hx, ?_, rfl⟩, ⟨hi, ?_⟩, fun b hb => ?_⟩
    · exact pr.2.1
    · rw [← hsz]; exact ⟨_, _, he''⟩
    · have e1 : b = it := by simpa using hb
      subst e1
      rw [upd_ne (Nat.ne_of_lt hlt)]; exact f0
  done := by
    intro X hP hw hK hc i pins s σ H E I hf st hg
    subst hP hw hK
    obtain ⟨hi, hd⟩ := hg
    obtain ⟨hle, ok, ov, hit⟩ := st
    obtain ⟨ho, _⟩ := (show ObjOk X.prog X.w H s.heap d (.frz o (.dT kvs)) from I.hok d _ hd)
    obtain ⟨f0, f1, f2, f3, f4, f5⟩ := hf it (by simp)
    have e3 : i = es.size := by omega
    rw [← hsz, e3] at hit
    exact end_its (I.ok.hd hc) hit ⟨o, ho, hep⟩ fun h' eb => ⟨rfl, I.turned (t' := s.toks) (fun b o hb e => eb b o hb e) f0 f1 f3 f4 f5⟩
  self := fun _ _ _ _ _ st h => let ⟨_, _, e⟩ := st.2; self_its e h
end
section
variable {X : Cx}
def iIts (to : TE) : TI := fun σ H R => to σ H fun v H1 => ∃ d kvs, v = .ref d ∧ H1 d = some (.dT kvs) ∧ ∀ o, R (Iti d o kvs) (upd H1 d (.frz o (.dT kvs)))
theorem pi_its {o : Expr} {elts : List Expr} {x1 : Nat} {tp : Pos} {to : TE} {pos' ap : Pos} (ho : PE X o to) (hbase : attributeBase o "items" X.env (eval o X.env) = eval o X.env := by rfl) (hline : (ap.endLine == pos'.line) = true := by rfl) :
    PI X (.Tuple elts x1 tp) (.Call (.Attribute o "items" ap) [] [] pos') (iIts to) := by
  intro pins s σ H R I h
  refine wpAny_Call_method0_late hbase hline (thn (ho pins s σ H _ I h) fun v s1 ⟨x, H1, I1, r1, d, kvs, ex, hd, q⟩ => ?_)
  subst ex
  obtain ⟨h1, h2⟩ := tyV_is (T := "dict") I1 r1 (.inr (.inr (.inl ⟨rfl, .inr ⟨kvs, hd⟩⟩)))
  cases (show v = Value.ref d from r1)
  obtain ⟨ob, es, ep, hob, hdat, hsz, I2⟩ := I1.frostT hd
  obtain ⟨z, lo, _⟩ := dt_of I1.hok hd
  refine ⟨"dict", "dict.items", PySem.F.plainAttrs_dict, PySem.F.slot_dict_items, PySem.F.type_dict_items, h1, h2, Calls.callWith_builtin rfl (PySem.evalArgs_none ?_)⟩
  refine call_meetsIn PySem.F.slot_dict_items h1 PySem.F.entry_dict_items (PySem.F.args_dict_items_1 _) (meets_its d lo) ⟨h1, ?_⟩
  have hv : (s1.heap.push { cls := .type "dict_items", data := .fields #[.ref d] }).IsItemsView s1.heap.objs.size d := ⟨_, Heap.get?_push_size _ rfl, rfl, rfl⟩
  refine iter_its (s := { s1 with heap := s1.heap.push { cls := .type "dict_items", data := .fields #[.ref d] } }) hv ⟨ob, Heap.get?_push_of_some _ hob, hdat⟩ ?_
  have I3 : Inv X pins σ (upd H1 d (.frz ob (.dT kvs))) { s1 with heap := s1.heap.push { cls := .type "dict_items", data := .fields #[.ref d] } } := I2.kept (t' := s1.toks) fun b o e => Heap.get?_push_of_some _ e
  refine ⟨_, [_], _, _, _, rfl, I3.kept (t' := s1.toks) fun b o e => Heap.get?_push_of_some _ e, turn_its d _ ob kvs es ep hdat hsz, ⟨Nat.zero_le _, ?_⟩, fun b hb => ?_, q ob⟩
  · rw [← hsz]
    exact ⟨_, _, Heap.get?_push_size _ rfl⟩
  · have e := List.mem_singleton.mp hb
    subst e
    exact I3.fpOk (Nat.le_refl _) (I3.hok.fresh (Nat.le_refl _))
theorem comp_its {d : Addr} {o : Obj} {kvs : List (List Key × V)} {g : TG} {tt : TT} {te : TE} {D : Addr} {Q : VK} {σ₀ : St} {H₀ : Hp} (Pv : Nat → St → Hp → Prop) (h0 : Pv 0 σ₀ H₀) (hl : ∀ i σ H, i ≤ kvs.length → Pv i σ H → H d = some (.frz o (.dT kvs)))
    (hs : ∀ i t b k v σ H, kvs[i]? = some (k, v) → Pv i σ H → H t = none → H b = some (.tup (k.map kV)) → g (.ref t) σ (upd H t (.tup [.ref b, v])) fun σ3 H3 => tt σ3 H3 fun b H4 => if b = true then te σ3 H4 fun v H5 => ∃ ys, H5 D = some (.lst ys) ∧ ys.length < sizeLine ∧ Pv (i + 1) σ3 (upd H5 D (.lst (ys ++ [v]))) else Pv (i + 1) σ3 H4)
    (hd : ∀ σ H, Pv kvs.length σ H → Q (.ref D) H) : CompW (Iti d o kvs) g tt te D Q σ₀ H₀ := by
  refine ⟨fun i m σ H => m = kvs.length - i ∧ i ≤ kvs.length ∧ Pv i σ H, ⟨kvs.length, by simp, Nat.zero_le _, h0⟩, ?_⟩
  rintro i m σ H ⟨rfl, hi, p⟩
  have q := hl i σ H hi p
  by_cases hlt : i < kvs.length
  · refine .inr ⟨⟨hlt, q⟩, Pv (i + 1), fun σ' H' p' => ⟨kvs.length - (i + 1), by omega, rfl, hlt, p'⟩, fun x H' y => ?_⟩
    obtain ⟨t, b, k, v, e, hn, hx, hb, e2⟩ := y
    subst e e2
    exact hs i t b k v σ _ hx p hn hb
  · have e : i = kvs.length := by omega
    subst e
    exact .inl ⟨⟨Nat.le_refl _, q⟩, hd σ H p⟩
end
end L2

set_option maxHeartbeats 1000000

set_option maxHeartbeats 1000000

set_option maxHeartbeats 1000000
namespace PySem.SeqAt
open AutoSeq1 (wpAny_loadPart')
open MeetsSeq MeetsSeq2 MeetsSeq3 SeqRoads2
theorem tuple_lt3 (l m : Addr) (a b c d e f : Int) (t1 t2 t3 t4 t5 t6 : Tok) (n n2 : Nat) (dd dd2 : Option Addr) (sl sl2 : Array (Option Value)) (ne : a ≠ d) :
    Meets (Builtin.«tuple.__lt__» ⟨[.ref l, .ref m], []⟩)
      (fun A R s => s.heap.get? l = some { cls := .type "tuple", dict := dd, data := .seq #[.int a t1, .int b t2, .int c t3] n, slots := sl } ∧ s.heap.get? m = some { cls := .type "tuple", dict := dd2, data := .seq #[.int d t4, .int e t5, .int f t6] n2, slots := sl2 } ∧
        R (.ok (.ret (.bool (decide (a < d))))) s) :=
  .of_wp fun prog w A R s h => by
    obtain ⟨hp, g, dr, tk, os⟩ := s
    obtain ⟨hl, hb, h⟩ := h
    have f2 := AutoSeq1.sub_tuple_tuple
    have rc : ∀ (x y : Int) (u v : Tok) (Q' : Value → Shared → Prop) (E' : Value → Shared → Prop) (s' : Shared), Q' (.bool (decide (x < y))) s' → wpAny (model prog w) A.in1 (richCompare .Lt (.int x u) (.int y v)) Q' E' s' := fun x y u v Q' E' s' q => wpAny_lt_int q
    have g1 : (a == d) = false := beq_eq_false_iff_ne.mpr ne
    wp_walk using wpAny_loadPart' hl, wpAny_loadPart' hb, wpAny_eqBool_int, rc
    exact ⟨_, rfl, h⟩
theorem rc_lt3 {prog : Program} {w : World} {A : Around} {s : Shared} {E : Value → Shared → Prop} {Q : Value → Shared → Prop} {l m : Addr} {a b c d e f : Int} {t1 t2 t3 t4 t5 t6 : Tok} (hl : s.heap.IsTuple l #[.int a t1, .int b t2, .int c t3]) (hb : s.heap.IsTuple m #[.int d t4, .int e t5, .int f t6]) (hu : A.units < cLine) (ne : a ≠ d)
    (h : Q (.bool (decide (a < d))) s) : wpAny (model prog w) A (richCompare .Lt (.ref l) (.ref m)) Q E s := by
  obtain ⟨⟨cl, d1, da, sl⟩, ho, rfl, n, rfl⟩ := id hl
  obtain ⟨⟨cl2, d2, da2, sl2⟩, ho2, rfl, n2, rfl⟩ := id hb
  exact richCompare_meets_room (op := .Lt) ⟨_, ho, rfl⟩ ⟨_, ho2, rfl⟩ F.slot_tuple_lt F.entry_tuple_lt (F.args_tuple_lt_2 _ _) (tuple_lt3 l m a b c d e f t1 t2 t3 t4 t5 t6 n n2 d1 d2 sl sl2 ne)
    ⟨ho, ho2, show Value.bool (decide (a < d)) ≠ Value.notImplemented ∧ Q (.bool (decide (a < d))) s from ⟨(fun x => nomatch x), h⟩⟩ hu
end PySem.SeqAt
namespace PySem
section
variable {prog : Program} {w : World} {A : Around} {E : Value → Shared → Prop} {s : Shared}
theorem min_loopN {I L : Addr} {fp wr : List Addr} {St : Nat → Heap → Prop} {vs : List Value} {g : Value → Int} {R : Result → Shared → Prop} {z : Shared} {c : Nat} (W : Walks prog w A.in1 I fp wr vs.length (fun i v => vs[i]? = some v) St) (nL : L ∉ fp) (st : St 0 z.heap) (h0 : 0 < vs.length)
    (hL : z.heap.get? L = some { cls := .type "list", dict := none, data := .seq #[] c, slots := #[] })
    (hcmp : ∀ (i j : Nat) (u v : Value) (h' : Heap) (tk : Nat) (E' : Value → Shared → Prop) (Q' : Value → Shared → Prop), i < j → vs[i]? = some v → vs[j]? = some u → (∀ q o, q ∉ wr → q ≠ L → z.heap.get? q = some o → h'.get? q = some o) → Q' (.bool (decide (g u < g v))) { z with heap := h', toks := tk } → wpAny (model prog w) A.in1 (richCompare .Lt u v) Q' E' { z with heap := h', toks := tk })
    (hR : ∀ h' tk m, m ∈ vs → (∀ v ∈ vs, g m ≤ g v) → (∀ q o, q ∉ wr → q ≠ L → z.heap.get? q = some o → h'.get? q = some o) → R (.ok (.ret m)) { z with heap := h', toks := tk }) :
    codeAny (model prog w) A (.builtin "min.loop" ⟨[.ref I, .none, .ref L], []⟩) R z := by
  have nm : (toString "min" ++ toString ".loop" : String) = "min.loop" := by decide
  have nw : L ∉ wr := fun q => nL (W.sub _ q)
  have loop : ∀ (k i : Nat) (m : Value) (j : Nat) (h1 : Heap) (k1 c1 : Nat), vs.length - i = k → i ≤ vs.length → j < i → vs[j]? = some m → (∀ a v, a < i → vs[a]? = some v → g m ≤ g v) → St i h1 →
      h1.get? L = some { cls := .type "list", dict := none, data := .seq #[m, m] c1, slots := #[] } → (∀ q o, q ∉ wr → q ≠ L → z.heap.get? q = some o → h1.get? q = some o) →
      codeAny (model prog w) A (.builtin "min.loop" ⟨[.ref I, .none, .ref L], []⟩) R { z with heap := h1, toks := k1 } := by
    intro k; induction k with
    | zero =>
      intro i m j h1 k1 c1 hk hi hj hm mn s1 l1 kp
      have ei : i = vs.length := by omega
      rw [ei] at s1
      refine codeAny_builtin F.entry_min_loop ?_; rw [Around.under_plainId F.plain_min_loop _]
      show wpAny _ A.in1 (seqItems? (.ref L) >>= _) _ _ { z with heap := h1, toks := k1 }
      refine wpAny_bind (wpAny_seqItems l1 rfl ?_); show wpAny _ A.in1 (tryCatch (pyNext (.ref I)) _ >>= _) _ _ { z with heap := h1, toks := k1 }
      refine wpAny_bind (wpAny_tryCatch (W.done _ _ _ s1 fun h2 k2 kq => ?_))
      have l2 := kq L _ nw l1
      show wpAny _ A.in1 (updateSeq L (fun _ => #[]) >>= _) _ _ _
      refine wpAny_bind (wpAny_updateSeq l2 rfl (wpAny_bind (wpAny_letGo (wpAny_pure ?_))))
      refine hR _ k2 m (List.mem_of_getElem? hm) (fun v hv => ?_) fun q o q1 q2 e => (Heap.get?_update_other _ _ (Ne.symm q2)).trans (kq q o q1 (kp q o q1 q2 e))
      obtain ⟨a, ha⟩ := List.getElem?_of_mem hv
      exact mn a v (by rw [ei]; exact (List.getElem?_eq_some_iff.mp ha).1) ha
    | succ k ih =>
      intro i m j h1 k1 c1 hk hi hj hm mn s1 l1 kp
      refine codeAny_builtin F.entry_min_loop ?_; rw [Around.under_plainId F.plain_min_loop _]
      show wpAny _ A.in1 (seqItems? (.ref L) >>= _) _ _ { z with heap := h1, toks := k1 }
      refine wpAny_bind (wpAny_seqItems l1 rfl ?_); show wpAny _ A.in1 (tryCatch (pyNext (.ref I)) _ >>= _) _ _ { z with heap := h1, toks := k1 }
      refine wpAny_bind (wpAny_tryCatch (W.item i _ _ _ (by omega) s1 fun u h3 k3 pu s3 kr => ?_))
      have l3 := kr L _ nw l1
      have kp3 : ∀ q o, q ∉ wr → q ≠ L → z.heap.get? q = some o → h3.get? q = some o := fun q o q1 q2 e => kr q o q1 (kp q o q1 q2 e)
      show wpAny _ A.in1 (tryCatch (holding [u, u] (richCompare .Lt u m >>= _)) _ >>= _) _ _ { z with heap := h3, toks := k3 }
      refine wpAny_bind (wpAny_tryCatch (wpAny_holding (wpAny_bind (hcmp j i u m h3 k3 _ _ hj hm pu kp3 ?_))))
      refine wpAny_bind (wpAny_holding (wpAny_truthy_bool (wpAny_bind (wpAny_letGo (wpAny_pure ?_)))))
      by_cases lt : g u < g m
      · rw [decide_eq_true lt]; simp only [if_true]
        refine wpAny_bind (wpAny_updateSeq l3 rfl (wpAny_bind (wpAny_letGo ?_))); rw [nm]
        obtain ⟨c4, l4⟩ : ∃ c4, (h3.update L (Obj.mapSeq fun _ => #[u, u])).get? L = some { cls := .type "list", dict := none, data := .seq #[u, u] c4, slots := #[] } := ⟨_, PyProof.Rows.get?_update_seq l3 fun _ => #[u, u]⟩
        refine wpAny_pure ⟨plainId_quiet F.plain_min_loop _, ih (i + 1) u i _ k3 c4 (by omega) (by omega) (by omega) pu (fun a v ha hv => ?_) (W.frame (i + 1) h3 _ s3 fun q hq o e => (Heap.get?_update_other _ _ (fun g : L = q => nL (by rw [g]; exact hq))).trans e) l4 fun q o q1 q2 e => (Heap.get?_update_other _ _ (Ne.symm q2)).trans (kp3 q o q1 q2 e)⟩
        by_cases c : a = i
        · subst c; have hv2 := hv.symm.trans pu; rw [Option.some.inj hv2]; exact Int.le_refl _
        · have := mn a v (by omega) hv; omega
      · rw [decide_eq_false lt]; simp only [Bool.false_eq_true, if_false]
        refine wpAny_bind (wpAny_letGo ?_); rw [nm]
        refine wpAny_pure ⟨plainId_quiet F.plain_min_loop _, ih (i + 1) m j h3 k3 c1 (by omega) (by omega) (by omega) hm (fun a v ha hv => ?_) s3 l3 kp3⟩
        by_cases c : a = i
        · subst c; have hv2 := hv.symm.trans pu; rw [Option.some.inj hv2]; omega
        · exact mn a v (by omega) hv
  refine codeAny_builtin F.entry_min_loop ?_; rw [Around.under_plainId F.plain_min_loop _]
  show wpAny _ A.in1 (seqItems? (.ref L) >>= _) _ _ z
  refine wpAny_bind (wpAny_seqItems hL rfl ?_); show wpAny _ A.in1 (tryCatch (pyNext (.ref I)) _ >>= _) _ _ z
  refine wpAny_bind (wpAny_tryCatch (W.item 0 z _ _ h0 st fun v h1 k1 pv s1 kq => ?_))
  have l1 := kq L _ nw hL
  show wpAny _ A.in1 (updateSeq L (fun _ => #[v, v]) >>= _) _ _ _
  refine wpAny_bind (wpAny_updateSeq l1 rfl ?_); rw [nm]
  obtain ⟨c2, l2⟩ : ∃ c2, (h1.update L (Obj.mapSeq fun _ => #[v, v])).get? L = some { cls := .type "list", dict := none, data := .seq #[v, v] c2, slots := #[] } := ⟨_, PyProof.Rows.get?_update_seq l1 fun _ => #[v, v]⟩
  refine wpAny_pure ⟨plainId_quiet F.plain_min_loop _, loop _ 1 v 0 _ k1 c2 rfl (by omega) (by omega) pv (fun a u ha hu => ?_) (W.frame 1 h1 _ s1 fun q hq o e => (Heap.get?_update_other _ _ (fun u : L = q => nL (by rw [u]; exact hq))).trans e) l2 fun q o q1 q2 e => (Heap.get?_update_other _ _ (Ne.symm q2)).trans (kq q o q1 e)⟩
  have ea : a = 0 := by omega
  subst ea; have hv2 := hu.symm.trans pv; rw [Option.some.inj hv2]; exact Int.le_refl _
end
end PySem
namespace PySem
section
variable {prog : Program} {w : World} {A : Around} {E : Value → Shared → Prop} {s : Shared}
theorem min_listN {l : Addr} {vs : List Value} {g : Value → Int} {Q : Value → Shared → Prop} (hh : A.handled = none) (hl : s.heap.IsList l vs.toArray) (h0 : 0 < vs.length)
    (hcmp : ∀ (i j : Nat) (u v : Value) (h' : Heap) (tk : Nat) (E' : Value → Shared → Prop) (Q' : Value → Shared → Prop), i < j → vs[i]? = some v → vs[j]? = some u → (∀ c o, s.heap.get? c = some o → h'.get? c = some o) → Q' (.bool (decide (g u < g v))) { s with heap := h', toks := tk } → wpAny (model prog w) A.in1 (richCompare .Lt u v) Q' E' { s with heap := h', toks := tk })
    (h : ∀ h' tk m, m ∈ vs → (∀ v ∈ vs, g m ≤ g v) → (∀ c o, s.heap.get? c = some o → h'.get? c = some o) → Q m { s with heap := h', toks := tk }) : wpAny (model prog w) A (call (.builtin "min") [.ref l]) Q E s := by
  have nm : (toString "min" ++ toString ".loop" : String) = "min.loop" := by decide
  have hlt : l < s.heap.objs.size := let ⟨_, e, _⟩ := hl; Heap.lt_size e
  refine call_function_tree F.kind_min F.plain_min F.entry_min (F.args_min1 _) ?_
  show wpAny _ A.in1 (Builtin.Builtins.bindParams "min" ["key", "default"] 0 ⟨[], []⟩ >>= _) _ _ s; refine wpAny_bind (wpAny_of_eq (show Builtin.Builtins.bindParams "min" ["key", "default"] 0 ⟨[], []⟩ = pure [none, none] from rfl) (wpAny_bind (wpAny_pure (wpAny_bind (wpAny_pyIter_list hl ?_)))))
  have z1 : (s.heap.push { cls := .type "list_iterator", data := .fields #[.ref l, .int 0 0] }).objs.size = s.heap.objs.size + 1 := Heap.size_push ..
  have W0 := Walks.list (prog := prog) (w := w) (A := A.in1) hh s.heap.objs.size l (Nat.ne_of_lt hlt) vs.toArray
  have W : Walks prog w A.in1 s.heap.objs.size [s.heap.objs.size, l] [s.heap.objs.size] vs.length (fun i v => vs[i]? = some v) (fun i h => h.IsListIter s.heap.objs.size l i ∧ h.IsList l vs.toArray) := by
    rw [List.size_toArray] at W0
    exact W0.weaken fun i v hv => by simpa using hv
  refine wpAny_bind (wpAny_newObj_type ?_); rw [nm]
  have up : ∀ q o, s.heap.get? q = some o → ((s.heap.push { cls := .type "list_iterator", data := .fields #[.ref l, .int 0 0] }).push { cls := .type "list", data := .seq #[] }).get? q = some o ∧ q ∉ [s.heap.objs.size] ∧ q ≠ (s.heap.push { cls := .type "list_iterator", data := .fields #[.ref l, .int 0 0] }).objs.size := fun q o e => by
    have lt : q < s.heap.objs.size := Heap.lt_size e
    refine ⟨Heap.get?_push_of_some _ (Heap.get?_push_of_some _ e), fun y => absurd (List.mem_singleton.mp y) (Nat.ne_of_lt lt), ?_⟩
    rw [z1]; exact Nat.ne_of_lt (Nat.lt_succ_of_lt lt)
  refine wpAny_pure ⟨plainId_quiet F.plain_min_loop _, min_loopN (g := g) W (fun y => ?_) ⟨⟨_, Heap.get?_push_of_some _ (Heap.get?_push_size _ rfl), rfl, rfl⟩, (hl.push _).push _⟩ h0 (c := 0) (Heap.get?_push_size _ rfl) (fun i j u v h' tk E' Q' hij hv hu kp q => ?_) fun h' tk m hm mn kp => ?_⟩
  · rw [z1] at y
    rcases List.mem_cons.mp y with y | y
    · exact absurd y (Nat.ne_of_gt (Nat.lt_succ_self _))
    · exact absurd (List.mem_singleton.mp y) (Nat.ne_of_gt (Nat.lt_succ_of_lt hlt))
  · exact hcmp i j u v h' tk E' Q' hij hv hu (fun q o e => kp q o (up q o e).2.1 (up q o e).2.2 (up q o e).1) q
  · exact h h' tk m hm mn fun q o e => kp q o (up q o e).2.1 (up q o e).2.2 (up q o e).1
end
end PySem
namespace L2
open PySem PySem.Spec PyProof.Rows
section
variable {X : Cx}
theorem lst3 {its : List Value} {x y z : Int} (r : Vals [.int x, .int y, .int z] its) : ∃ t u v, its = [.int x t, .int y u, .int z v] := by
  cases r with
  | cons r1 rr => cases rr with
    | cons r2 rr => cases rr with
      | cons r3 rr =>
        cases rr
        obtain ⟨t, rfl⟩ := r1
        obtain ⟨u, rfl⟩ := r2
        obtain ⟨v, rfl⟩ := r3
        exact ⟨t, u, v, rfl⟩
theorem refs_of : ∀ {ts : List Addr} {its : List Value}, Vals (ts.map V.ref) its → its = ts.map Value.ref
  | [], _, .nil => rfl
  | t :: ts, _, .cons r rr => by cases r; rw [refs_of rr]; rfl
theorem call_minT3 (hc : X.calm = true) (hu : X.A.units + 1 < cLine) : CallR X (.builtin "min") (fun xs H Q => ∃ (p : Addr) (ts : List Addr) (f : Addr → Int × Int × Int), xs = [.ref p] ∧ SqL X.K H p (ts.map V.ref) ∧ 0 < ts.length ∧ (ts.Pairwise fun t u => (f t).1 ≠ (f u).1) ∧ (∀ t ∈ ts, H t = some (.tup [.int (f t).1, .int (f t).2.1, .int (f t).2.2])) ∧
    ∀ m ∈ ts, (∀ t ∈ ts, (f m).1 ≤ (f t).1) → Q (.ref m) H) := by
  intro pins s σ H xs us Q I r h
  obtain ⟨p, ts, f, rfl, hq, h0, ne, ht, q⟩ := h
  obtain ⟨u, rfl, ru⟩ := r.one
  cases ru
  obtain ⟨its, rv, pl, hz⟩ := I.list hq
  have ei : its = ts.map Value.ref := refs_of rv
  subst ei
  let g : Value → Int := fun v => match v with
    | .ref a => (f a).1
    | _ => 0
  have tup : ∀ t ∈ ts, ∃ t1 t2 t3, s.heap.IsTuple t #[.int (f t).1 t1, .int (f t).2.1 t2, .int (f t).2.2 t3] := fun t hm => by
    obtain ⟨its, rv, ht, _⟩ := I.tuple (SqT.of (ht t hm))
    obtain ⟨t1, t2, t3, rfl⟩ := lst3 rv
    exact ⟨t1, t2, t3, ht⟩
  refine min_listN (g := g) (I.ok.hd hc) pl.isList (by rw [List.length_map]; exact h0) (fun i j u v h' tk E' Q' hij hv hu' kp q => ?_) fun h' tk m hm mn kp => ?_
  · rw [List.getElem?_map] at hv hu'
    obtain ⟨a, ha, rfl⟩ := Option.map_eq_some_iff.mp hv
    obtain ⟨b, hb, rfl⟩ := Option.map_eq_some_iff.mp hu'
    obtain ⟨_, _, _, ta⟩ := tup a (List.mem_of_getElem? ha)
    obtain ⟨_, _, _, tb⟩ := tup b (List.mem_of_getElem? hb)
    have dif : (f b).1 ≠ (f a).1 := by
      obtain ⟨hi, ea⟩ := List.getElem?_eq_some_iff.mp ha
      obtain ⟨hj, eb⟩ := List.getElem?_eq_some_iff.mp hb
      have z := List.pairwise_iff_getElem.mp ne i j hi hj hij
      rw [ea, eb] at z
      exact fun e => z e.symm
    exact SeqAt.rc_lt3 (s := { s with heap := h', toks := tk }) (tb.at fun o e => kp _ _ e) (ta.at fun o e => kp _ _ e) (by show X.A.in1.units < cLine; exact hu) dif q
  · obtain ⟨a, ha, rfl⟩ := List.mem_map.mp hm
    exact ⟨.ref a, H, I.kept kp, rfl, q a ha fun t htm => mn (.ref t) (List.mem_map.mpr ⟨t, htm, rfl⟩)⟩
theorem call_any_bl (hc : X.calm = true) : CallR X (.builtin "any") (fun xs H Q => ∃ (p : Addr) (bs : List Bool), xs = [.ref p] ∧ H p = some (.lst (bs.map V.bl)) ∧ Q (.bl (bs.any id)) H) := by
  intro pins s σ H xs us Q I r h
  obtain ⟨p, bs, rfl, hp, q⟩ := h
  obtain ⟨u, rfl, ru⟩ := r.one
  cases ru
  obtain ⟨its, rv, pl, hz⟩ := I.list (SqL.of hp)
  have hl := pl.isList
  have hlt : p < s.heap.objs.size := let ⟨_, e, _⟩ := hl; Heap.lt_size e
  have hbl : bs.length = its.length := by have z := rv.length; rwa [List.length_map] at z
  refine call_any_walk (wpAny_pyIter_list hl ⟨s.heap.objs.size, [s.heap.objs.size, p], [s.heap.objs.size], its.toArray.size, _, _, fun i => (bs[i]?).getD false, rfl, Walks.list (A := X.A.in1) (I.ok.hd hc) _ p (Nat.ne_of_lt hlt) its.toArray,
    ⟨⟨_, Heap.get?_push_size _ rfl, rfl, rfl⟩, hl.push _⟩, fun i v s' Q' E' hP hQ => ?_, fun h' tk hk => ?_⟩)
  · have hP : its[i]? = some v := by simpa using hP
    have hi : i < bs.length := by rw [hbl]; exact (List.getElem?_eq_some_iff.mp hP).1
    have eb : (bs.map V.bl)[i]? = some (.bl bs[i]) := by rw [List.getElem?_map, List.getElem?_eq_getElem hi]; rfl
    obtain ⟨u, e1, r1⟩ := rv.get eb
    rw [hP] at e1
    obtain rfl := Option.some.inj e1
    cases r1
    dsimp only at hQ
    rw [List.getElem?_eq_getElem hi] at hQ
    exact wpAny_truthy_bool hQ
  · have e2 : ((List.range its.toArray.size).any fun i => (bs[i]?).getD false) = bs.any id := by
      rw [List.size_toArray, ← hbl, Bool.eq_iff_iff, List.any_eq_true, List.any_eq_true]
      constructor
      · rintro ⟨i, hi, h⟩
        have hi := List.mem_range.mp hi
        rw [List.getElem?_eq_getElem hi] at h
        exact ⟨_, List.getElem_mem hi, h⟩
      · rintro ⟨b, hb, h⟩
        obtain ⟨i, hi, rfl⟩ := List.mem_iff_getElem.mp hb
        exact ⟨i, List.mem_range.mpr hi, by rw [List.getElem?_eq_getElem hi]; exact h⟩
    rw [e2]
    exact ⟨.bl _, H, I.kept (t' := tk) fun b o eb => hk b o (fun hm => by rw [List.mem_singleton.mp hm] at eb; exact Nat.lt_irrefl _ (Heap.lt_size eb)) (Heap.get?_push_of_some _ eb), rfl, q⟩
end
end L2

namespace L2
open PySem PySem.Spec PyProof.Rows
section
variable {X : Cx}
theorem range_alls (bs : List Bool) : ((List.range bs.length).all fun i => (bs[i]?).getD true) = bs.all id := by
  rw [Bool.eq_iff_iff, List.all_eq_true, List.all_eq_true]
  constructor
  · intro h b hb
    obtain ⟨i, hi, rfl⟩ := List.mem_iff_getElem.mp hb
    have z := h i (List.mem_range.mpr hi)
    rw [List.getElem?_eq_getElem hi] at z
    exact z
  · intro h i hi
    have hi := List.mem_range.mp hi
    rw [List.getElem?_eq_getElem hi]
    exact h _ (List.getElem_mem hi)
theorem call_all_bl (hc : X.calm = true) : CallR X (.builtin "all") (fun xs H Q => ∃ (p : Addr) (bs : List Bool), xs = [.ref p] ∧ H p = some (.lst (bs.map V.bl)) ∧ Q (.bl (bs.all id)) H) := by
  intro pins s σ H xs us Q I r h
  obtain ⟨p, bs, rfl, hp, q⟩ := h
  obtain ⟨u, rfl, ru⟩ := r.one
  cases ru
  obtain ⟨z, its, n, rv, hlen, e⟩ := I.lstM hp
  have hl : s.heap.IsList p its.toArray := ⟨_, e, rfl, n, rfl⟩
  have hlt : p < s.heap.objs.size := Heap.lt_size e
  have hbl : bs.length = its.length := by rw [← hlen, List.length_map]
  refine call_all_walk (wpAny_pyIter_list hl ⟨s.heap.objs.size, [s.heap.objs.size, p], [s.heap.objs.size], its.toArray.size, _, _, fun i => (bs[i]?).getD true, rfl, Walks.list (A := X.A.in1) (I.ok.hd hc) _ p (Nat.ne_of_lt hlt) its.toArray,
    ⟨⟨_, Heap.get?_push_size _ rfl, rfl, rfl⟩, hl.push _⟩, fun i v s' Q' E' hP hQ => ?_, fun h' tk hk => ?_⟩)
  · have hP : its[i]? = some v := by simpa using hP
    have hi : i < bs.length := by rw [hbl]; exact (List.getElem?_eq_some_iff.mp hP).1
    have eb : (bs.map V.bl)[i]? = some (.bl bs[i]) := by rw [List.getElem?_map, List.getElem?_eq_getElem hi]; rfl
    obtain ⟨u, e1, r1⟩ := rv.get eb
    rw [hP] at e1
    obtain rfl := Option.some.inj e1
    cases r1
    dsimp only at hQ
    rw [List.getElem?_eq_getElem hi] at hQ
    exact wpAny_truthy_bool hQ
  · have e2 : ((List.range its.toArray.size).all fun i => (bs[i]?).getD true) = bs.all id := by rw [List.size_toArray, ← hbl]; exact range_alls bs
    rw [e2]
    exact ⟨.bl _, H, I.kept (t' := tk) fun b o eb => hk b o (fun hm => by rw [List.mem_singleton.mp hm] at eb; exact Nat.lt_irrefl _ (Heap.lt_size eb)) (Heap.get?_push_of_some _ eb), rfl, q⟩
end
end L2

namespace Mir
open PySem L2
noncomputable def sgl (fs : List Int) (L : List Nat) (p : Int × Int) : List Bool := (L.filter fun g => decide (ow fs g = p)).flatMap fun g => [decide (fs.getD g 0 < 0), decide (fs.getD (g + 1) 0 < 0)]
theorem sgl_snoc (fs : List Int) (L : List Nat) (g : Nat) (p : Int × Int) : sgl fs (L ++ [g]) p = if ow fs g = p then sgl fs L p ++ [decide (fs.getD g 0 < 0), decide (fs.getD (g + 1) 0 < 0)] else sgl fs L p := by
  unfold sgl
  rw [List.filter_append, List.flatMap_append, List.filter_cons, List.filter_nil]
  by_cases c : ow fs g = p
  · rw [if_pos (decide_eq_true c), if_pos c]; rfl
  · rw [if_neg (by rw [decide_eq_false c]; decide), if_neg c]; simp
theorem sgl_len (fs : List Int) (L : List Nat) (p : Int × Int) : (sgl fs L p).length ≤ 2 * L.length := by
  refine list_snoc (P := fun L => (sgl fs L p).length ≤ 2 * L.length) (Nat.le_refl _) (fun L g ih => ?_) L
  rw [sgl_snoc, List.length_append]
  split
  · rw [List.length_append]; show _ + 2 ≤ 2 * (_ + 1); omega
  · show _ ≤ 2 * (_ + 1); omega
theorem sgl_ne {fs : List Int} {L : List Nat} {p : Int × Int} (h : sgl fs L p ≠ []) : ∃ g ∈ L, ow fs g = p := by
  refine Classical.byContradiction fun c => h ?_
  unfold sgl
  have e : L.filter (fun g => decide (ow fs g = p)) = [] := List.filter_eq_nil_iff.mpr fun g hg z => c ⟨g, hg, of_decide_eq_true z⟩
  rw [e]
  rfl
def opn (fs : List Int) (m : Nat) : List Nat := (List.range m).filter (isOpen fs)
theorem opn_succ (fs : List Int) (m : Nat) : opn fs (m + 1) = opn fs m ++ (if isOpen fs m = true then [m] else []) := by
  unfold opn
  rw [List.range_succ, List.filter_append, List.filter_cons, List.filter_nil]
theorem opn_len (fs : List Int) (m : Nat) : (opn fs m).length ≤ m := by
  unfold opn
  exact Nat.le_trans (List.length_filter_le _ _) (by rw [List.length_range]; exact Nat.le_refl _)
theorem opn_mem {fs : List Int} {m g : Nat} (h : g ∈ opn fs m) : g < m := List.mem_range.mp (List.mem_filter.mp h).1
theorem openL_opn (fs : List Int) (m : Nat) : openL fs m = (opn fs m).map fun (g : Nat) => (g : Int) := rfl
noncomputable def isKnot (fs : List Int) (L : List Nat) (p : Int × Int) : Bool := decide (sgl fs L p ≠ []) && decide (SetB.cnt (sgl fs L p) = 1)
noncomputable def knotL (fs : List Int) (L : List Nat) : List (Int × Int) := (kinL fs).filter (isKnot fs L)
theorem cnt_one {bs : List Bool} (h : bs ≠ []) : (bs.all id || !bs.any id) = decide (SetB.cnt bs = 1) := by
  have e1 : bs.all id = !bs.any (· == false) := by
    rw [Bool.eq_iff_iff, List.all_eq_true, Bool.not_eq_true', ← Bool.not_eq_true, List.any_eq_true]
    constructor
    · rintro h ⟨x, hx, e⟩
      have := h x hx
      cases x <;> simp_all
    · intro h x hx
      cases x
      · exact absurd ⟨false, hx, rfl⟩ h
      · rfl
  have e2 : bs.any id = bs.any (· == true) := by
    congr 1
    funext b
    cases b <;> rfl
  have e3 : bs.any (· == true) = true ∨ bs.any (· == false) = true := by
    cases bs with
    | nil => exact absurd rfl h
    | cons b r =>
      cases b
      · right; rfl
      · left; rfl
  unfold SetB.cnt
  rw [e1, e2]
  revert e3
  generalize bs.any (· == true) = x
  generalize bs.any (· == false) = y
  cases x <;> cases y <;> simp
def kp (p : Int × Int) : List Key := [Sum.inl p.1, Sum.inl p.2]
theorem kp_inj {p q : Int × Int} (h : kp p = kp q) : p = q := by
  unfold kp at h
  injection h with h1 h2
  injection h2 with h2
  injection h1 with h1
  injection h2 with h2
  obtain ⟨a, b⟩ := p
  obtain ⟨c, d⟩ := q
  dsimp only at h1 h2
  rw [h1, h2]
structure LD (H : Hp) (d : Addr) (kvs : List (List Key × V)) (F : Int × Int → List Bool) : Prop where
  at' : H d = some (.dT kvs)
  no : ∀ p, F p = [] → valV kvs (kp p) = none
  yes : ∀ p, F p ≠ [] → ∃ a, valV kvs (kp p) = some (.ref a) ∧ H a = some (.lst ((F p).map V.bl))
theorem LD.same {H H' : Hp} {d : Addr} {kvs : List (List Key × V)} {F : Int × Int → List Bool} (h : LD H d kvs F) (s : Same H H') : LD H' d kvs F := ⟨s _ _ h.at', h.no, fun p hp => let ⟨a, e1, e2⟩ := h.yes p hp; ⟨a, e1, s _ _ e2⟩⟩
theorem LD.put {H : Hp} {d n : Addr} {kvs : List (List Key × V)} {F F' : Int × Int → List Bool} {p : Int × Int} (h : LD H d kvs F) (hn : H n = some (.lst ((F' p).map V.bl))) (hp : F' p ≠ []) (hq : ∀ q, q ≠ p → F' q = F q) : LD (upd H d (.dT (putK kvs (kp p) (.ref n)))) d (putK kvs (kp p) (.ref n)) F' := by
  have keep : ∀ a xs, H a = some (.lst xs) → upd H d (.dT (putK kvs (kp p) (.ref n))) a = some (.lst xs) := fun a xs e => by
    rw [upd_ne fun z => by have := h.at'; rw [← z, e] at this; cases this]; exact e
  refine ⟨upd_same, fun q h0 => ?_, fun q h0 => ?_⟩
  · have ne : q ≠ p := fun e => hp (by rw [← e]; exact h0)
    rw [valV_put, if_neg fun z => ne (kp_inj z)]
    exact h.no q (by rw [← hq q ne]; exact h0)
  · by_cases c : q = p
    · subst c
      rw [valV_put, if_pos rfl]
      exact ⟨n, rfl, keep _ _ hn⟩
    · rw [valV_put, if_neg fun z => c (kp_inj z), hq q c]
      rw [hq q c] at h0
      obtain ⟨a, e1, e2⟩ := h.yes q h0
      exact ⟨a, e1, keep _ _ e2⟩
structure KD (H0 H : Hp) (d : Addr) (kvs : List (List Key × V)) (ps : List (Int × Int)) (as : List Addr) (F : Int × Int → List Bool) : Prop where
  at' : H d = some (.dT kvs)
  ks : kvs.map Prod.fst = ps.map kp
  vs : kvs.map Prod.snd = as.map V.ref
  np : ps.Nodup
  nd : as.Nodup
  lst : ∀ (j : Nat) (a : Addr) (p : Int × Int), as[j]? = some a → ps[j]? = some p → H a = some (.lst ((F p).map V.bl))
  new : ∀ a ∈ as, H0 a = none
  mem : ∀ p, p ∈ ps ↔ F p ≠ []
section
variable {H0 H H' : Hp} {d : Addr} {kvs : List (List Key × V)} {ps : List (Int × Int)} {as : List Addr} {F F' : Int × Int → List Bool}
theorem KD.len (h : KD H0 H d kvs ps as F) : kvs.length = ps.length ∧ as.length = ps.length := by
  have h1 := congrArg List.length h.ks
  have h2 := congrArg List.length h.vs
  rw [List.length_map, List.length_map] at h1 h2
  exact ⟨h1, by omega⟩
theorem KD.same (h : KD H0 H d kvs ps as F) (s : Same H H') : KD H0 H' d kvs ps as F := ⟨s _ _ h.at', h.ks, h.vs, h.np, h.nd, fun j a p h1 h2 => s _ _ (h.lst j a p h1 h2), h.new, h.mem⟩
theorem KD.key (h : KD H0 H d kvs ps as F) {j : Nat} {a : Addr} {p : Int × Int} (h1 : as[j]? = some a) (h2 : ps[j]? = some p) : kvs[j]? = some (kp p, V.ref a) := by
  have k1 := congrArg (·[j]?) h.ks
  have k2 := congrArg (·[j]?) h.vs
  simp only [List.getElem?_map, h1, h2, Option.map_some] at k1 k2
  obtain ⟨q, e1, e2⟩ := Option.map_eq_some_iff.mp k1
  obtain ⟨q', e3, e4⟩ := Option.map_eq_some_iff.mp k2
  rw [e1] at e3
  cases e3
  rw [e1, ← e2, ← e4]
theorem KD.nk (h : KD H0 H d kvs ps as F) : (kvs.map Prod.fst).Nodup := by
  rw [h.ks]
  exact List.pairwise_map.mpr (List.Pairwise.imp (fun z e => z (kp_inj e)) h.np)
theorem KD.old (h : KD H0 H d kvs ps as F) {p : Int × Int} {xs : List Bool} {v : V} (hv : valV kvs (kp p) = some v) (hF : F' p = F p ++ xs) (hq : ∀ q, q ≠ p → F' q = F q) :
    ∃ a, v = .ref a ∧ H a = some (.lst ((F p).map V.bl)) ∧ H0 a = none ∧ KD H0 (upd H a (.lst ((F p).map V.bl ++ xs.map V.bl))) d kvs ps as F' := by
  have hm := valV_in hv
  have hm : kp p ∈ kvs.map Prod.fst := hm
  rw [h.ks] at hm
  obtain ⟨p', hp', ep⟩ := List.mem_map.mp hm
  obtain rfl := kp_inj ep
  obtain ⟨j, hj⟩ := List.getElem?_of_mem hp'
  have hl := h.len
  have hj2 : j < as.length := by rw [hl.2]; exact (List.getElem?_eq_some_iff.mp hj).1
  have ha : as[j]? = some as[j] := List.getElem?_eq_getElem hj2
  have z := val_at h.nk (h.key ha hj)
  rw [hv] at z
  obtain rfl := Option.some.inj z
  have hL := h.lst j _ _ ha hj
  refine ⟨as[j], rfl, hL, h.new _ (List.getElem_mem hj2), ?_⟩
  have hd : d ≠ as[j] := fun z => by have := h.at'; rw [z, hL] at this; cases this
  refine ⟨by rw [upd_ne hd]; exact h.at', h.ks, h.vs, h.np, h.nd, fun i a q h1 h2 => ?_, h.new, fun q => ?_⟩
  · by_cases c : i = j
    · subst c
      rw [hj] at h2
      cases h2
      rw [ha] at h1
      cases h1
      rw [upd_same, hF, List.map_append]
    · have na : a ≠ as[j] := fun z => c ((List.getElem?_inj (List.getElem?_eq_some_iff.mp h1).1 h.nd).mp (by rw [h1, ha, z]))
      have nq : q ≠ p' := fun z => c ((List.getElem?_inj (List.getElem?_eq_some_iff.mp h2).1 h.np).mp (by rw [h2, hj, z]))
      rw [upd_ne na, hq q nq]
      exact h.lst i a q h1 h2
  · rw [h.mem]
    by_cases c : q = p'
    · subst c
      rw [hF]
      have := (h.mem q).mp hp'
      exact ⟨fun z e => z (List.append_eq_nil_iff.mp e).1, fun _ => this⟩
    · rw [hq q c]
theorem KD.fresh (h : KD H0 H d kvs ps as F) {p : Int × Int} {xs : List Bool} {n : Addr} (hv : valV kvs (kp p) = none) (hn : H n = some (.lst [])) (hn0 : H0 n = none) (hna : n ∉ as) (hF0 : F p = []) (hF : F' p = xs) (hx : xs ≠ []) (hq : ∀ q, q ≠ p → F' q = F q) :
    KD H0 (upd (upd H d (.dT (putK kvs (kp p) (.ref n)))) n (.lst ([] ++ xs.map V.bl))) d (putK kvs (kp p) (.ref n)) (ps ++ [p]) (as ++ [n]) F' := by
  have hd : d ≠ n := fun z => by have := h.at'; rw [z, hn] at this; cases this
  have hl := h.len
  have np : p ∉ ps := fun z => (h.mem p).mp z hF0
  refine ⟨by rw [upd_ne hd, upd_same], ?_, ?_, ?_, ?_, fun j a q h1 h2 => ?_, fun a ha => ?_, fun q => ?_⟩
  · rw [putK_new _ hv, List.map_append, h.ks, List.map_append]; rfl
  · rw [putK_new _ hv, List.map_append, h.vs, List.map_append]; rfl
  · rw [List.nodup_append]
    exact ⟨h.np, by simp, fun a ha b hb e => np (by rw [← List.mem_singleton.mp hb, ← e]; exact ha)⟩
  · rw [List.nodup_append]
    exact ⟨h.nd, by simp, fun a ha b hb e => hna (by rw [← List.mem_singleton.mp hb, ← e]; exact ha)⟩
  · by_cases c : j < as.length
    · rw [List.getElem?_append_left c] at h1
      rw [List.getElem?_append_left (by omega)] at h2
      have na : a ≠ n := fun z => hna (z ▸ List.mem_of_getElem? h1)
      have nq : q ≠ p := fun z => np (z ▸ List.mem_of_getElem? h2)
      have h3 := h.lst j a q h1 h2
      have nd : a ≠ d := fun z => by have := h.at'; rw [← z, h3] at this; cases this
      rw [upd_ne na, upd_ne nd, hq q nq]
      exact h3
    · rw [List.getElem?_append_right (by omega)] at h1 h2
      have ej : j - as.length = 0 := by
        have := (List.getElem?_eq_some_iff.mp h1).1
        simp at this
        omega
      have ej2 : j - ps.length = 0 := by omega
      rw [ej] at h1
      rw [ej2] at h2
      cases h1
      cases h2
      rw [upd_same, hF]
      rfl
  · rcases List.mem_append.mp ha with ha | ha
    · exact h.new a ha
    · rw [List.mem_singleton.mp ha]; exact hn0
  · rw [List.mem_append, h.mem, List.mem_singleton]
    by_cases c : q = p
    · subst c
      rw [hF]
      exact ⟨fun _ => hx, fun _ => .inr rfl⟩
    · rw [hq q c]
      exact ⟨fun z => z.resolve_right c, .inl⟩
end
def spKinsN : Sp := fun vs H Q _ => ∃ (l : Addr) (fs : List Int), vs = [.ref l] ∧ H l = some (.lst (iV fs)) ∧ (absL fs).Nodup ∧ (∀ x ∈ absL fs, x ≤ 1000) ∧ fs.length ≤ 42 ∧ ∀ (l' : Addr) (H' : Hp), H l' = none → Same H H' → TsT pr H' l' (kinL fs) → Q (.ref l') H'
def spKnots : Sp := fun vs H Q _ => ∃ (t : Addr) (rs : List Int), vs = [.ref t] ∧ H t = some (.tup (iV rs)) ∧ Fit rs ∧ ∀ (l : Addr) (H' : Hp), H l = none → Same H H' → TsT pr H' l (knotL (frm rs) (opn (frm rs) (rs.length + 1))) → Q (.ref l) H'
def spLawKnots : Sp := fun vs H Q _ => ∃ (l : Addr) (rs : List Int), vs = [.ref l] ∧ H l = some (.lst (iV (frm rs))) ∧ Fit rs ∧ ∀ (l' : Addr) (H' : Hp), H l' = none → Same H H' → TsT pr H' l' (knotL (frm rs) (opn (frm rs) (rs.length + 1))) → Q (.ref l') H'
end Mir

namespace L2
open PySem
theorem bb_all : PySem.bootBuiltins "all" = some (.builtin "all") := by decide +kernel
theorem bb_any : PySem.bootBuiltins "any" = some (.builtin "any") := by decide +kernel
theorem bb_set : PySem.bootBuiltins "set" = some (.type "set") := by decide +kernel
section
variable {X : Cx} {P : PySem.Program} {w : PySem.World}
theorem call_setBK (hc : X.calm = true) (hP : X.prog = P) (hw : X.w = w) : CallR X (.type "set") (fun xs H Q => ∃ (l : Addr) (bs : List Bool), xs = [.ref l] ∧ H l = some (.lst (bs.map V.bl)) ∧ bs.length ≤ 1000 ∧ ∀ p, H p = none → Q (.ref p) (upd H p (SetBO P w p (SetB.cnt bs)))) := by
  subst hP hw
  exact call_setB hc
theorem call_lenBK (hP : X.prog = P) (hw : X.w = w) : CallR X (.builtin "len") (fun xs H Q => ∃ (p : Addr) (n : Nat), xs = [.ref p] ∧ H p = some (SetBO P w p n) ∧ Q (.int n) H) := by
  subst hP hw
  exact call_lenB
end
end L2
namespace Mir
open PySem L2
def wo (H : Hp) (d : Addr) : Hp := fun b => if b = d then none else H b
theorem wo_ne {H : Hp} {d b : Addr} (h : b ≠ d) : wo H d b = H b := if_neg h
theorem wo_at {H : Hp} {d : Addr} : wo H d d = none := if_pos rfl
theorem wo_same {H : Hp} {d : Addr} : Same (wo H d) H := fun b o e => by
  by_cases c : b = d
  · rw [c, wo_at] at e; cases e
  · rw [wo_ne c] at e; exact e
theorem same_wo {H H' : Hp} {d : Addr} (s : Same H H') (h : H d = none) : Same H (wo H' d) := fun b o e => by
  rw [wo_ne fun z => by rw [z, h] at e; cases e]
  exact s b o e
theorem upd_swap {H : Hp} {a b : Addr} {o u : HO} (h : a ≠ b) : upd (upd H a o) b u = upd (upd H b u) a o := by
  funext c
  by_cases h1 : c = a
  · subst h1
    rw [upd_ne h, upd_same, upd_same]
  · by_cases h2 : c = b
    · subst h2
      rw [upd_same, upd_ne h1, upd_same]
    · rw [upd_ne h2, upd_ne h1, upd_ne h1, upd_ne h2]
theorem prs_srt {fs : List Int} {f : Int × Int → Bool} {M : List (Int × Int)} (nd : M.Nodup) (hm : ∀ p, p ∈ M ↔ p ∈ (kinL fs).filter f) (hs : M.Pairwise fun p q => p.1 ≤ q.1) : M = (kinL fs).filter f := by
  have aT : ((kinL fs).filter f).Pairwise fun p q => p.1 < q.1 := List.Pairwise.filter _ (kinL_asc fs)
  have nT : ((kinL fs).filter f).Nodup := List.Pairwise.imp (fun z e => by rw [e] at z; omega) aT
  have fst : ∀ p ∈ M, ∀ q ∈ M, p.1 = q.1 → p = q := fun p h1 q h2 e => by
    obtain ⟨a, b, k, rfl⟩ := kinL_mem.mp (List.mem_filter.mp ((hm p).mp h1)).1
    obtain ⟨a', b', k', rfl⟩ := kinL_mem.mp (List.mem_filter.mp ((hm q).mp h2)).1
    have ea : a = a' := by dsimp only at e; omega
    subst ea
    rw [kn_uniq k k']
  have hs2 : M.Pairwise fun p q => p.1 < q.1 := by
    refine List.Pairwise.imp_of_mem (R := fun p q => p.1 ≤ q.1 ∧ p ≠ q) (fun {p q} h1 h2 z => ?_) (List.Pairwise.and hs nd)
    have := fst p h1 q h2
    exact Int.lt_iff_le_and_ne.mpr ⟨z.1, fun e => z.2 (this e)⟩
  exact List.Perm.eq_of_pairwise (le := fun a b => a.1 < b.1) (fun a b _ _ h1 h2 => by omega) hs2 aT ((List.perm_ext_iff_of_nodup nd nT).mpr hm)
theorem ow_kin {rs : List Int} (fit : Fit rs) {g : Nat} (hg : g < rs.length + 1) : ow (frm rs) g ∈ kinL (frm rs) := by
  obtain ⟨c, d, o⟩ := own_ex fit hg
  rw [ow_eq o]
  exact kinL_mem.mpr ⟨c, d, o.kn, rfl⟩
theorem sgl_kin {rs : List Int} (fit : Fit rs) {L : List Nat} (hL : ∀ g ∈ L, g < rs.length + 1) {p : Int × Int} (h : sgl (frm rs) L p ≠ []) : p ∈ kinL (frm rs) := by
  obtain ⟨g, hg, rfl⟩ := sgl_ne h
  exact ow_kin fit (hL g hg)
noncomputable def bySigns (fs : List Int) (L : List Nat) (p : Int × Int) : Bool := (sgl fs L p).all id || !(sgl fs L p).any id
theorem knot_srt {rs : List Int} (fit : Fit rs) {L : List Nat} (hL : ∀ g ∈ L, g < rs.length + 1) {ps M : List (Int × Int)} (np : ps.Nodup) (mem : ∀ p, p ∈ ps ↔ sgl (frm rs) L p ≠ []) (hp : M.Perm (ps.filter (bySigns (frm rs) L))) (hs : M.Pairwise fun p q => p.1 ≤ q.1) : M = knotL (frm rs) L := by
  refine prs_srt (hp.nodup_iff.mpr (np.filter _)) (fun p => ?_) hs
  rw [hp.mem_iff, List.mem_filter, List.mem_filter, mem]
  constructor
  · rintro ⟨h1, h2⟩
    refine ⟨sgl_kin fit hL h1, ?_⟩
    unfold isKnot
    rw [decide_eq_true h1, Bool.true_and, ← cnt_one h1]
    exact h2
  · rintro ⟨_, h2⟩
    unfold isKnot at h2
    rw [Bool.and_eq_true] at h2
    have h1 := of_decide_eq_true h2.1
    refine ⟨h1, ?_⟩
    unfold bySigns
    rw [cnt_one h1]
    exact h2.2
theorem kin_rng {rs : List Int} (fit : Fit rs) {p : Int × Int} (hp : p ∈ kinL (frm rs)) : 0 ≤ p.2 ∧ p.2 < 1000 := by
  obtain ⟨a, b, k, rfl⟩ := kinL_mem.mp hp
  have h1 := k.1.lb
  rw [frm_len] at h1
  have := fit.small
  exact ⟨by dsimp only; omega, by dsimp only; omega⟩
def tri (p : Int × Int) : List V := [.int (p.2 - p.1), .int p.1, .int p.2]
def arn (g : Nat) (p : Int × Int) : Bool := decide (p.1 ≤ (g : Int)) && decide ((g : Int) < p.2)
theorem arn_iff {g : Nat} {p : Int × Int} : arn g p = true ↔ p.1 ≤ (g : Int) ∧ (g : Int) < p.2 := by
  unfold arn
  rw [Bool.and_eq_true, decide_eq_true_iff, decide_eq_true_iff]
theorem min_own {rs : List Int} (fit : Fit rs) {g : Nat} (hg : g < rs.length + 1) {H : Hp} {D : Addr} (hT : TsT tri H D ((kinL (frm rs)).filter (arn g))) : ∃ (ts : List Addr) (f : Addr → Int × Int × Int), H D = some (.lst (ts.map V.ref)) ∧ 0 < ts.length ∧ (ts.Pairwise fun t u => (f t).1 ≠ (f u).1) ∧ (∀ t ∈ ts, H t = some (.tup [.int (f t).1, .int (f t).2.1, .int (f t).2.2])) ∧
    ∀ m ∈ ts, (∀ t ∈ ts, (f m).1 ≤ (f t).1) → H m = some (.tup (tri (ow (frm rs) g))) := by
  obtain ⟨c, d, o⟩ := own_ex fit hg
  have ole := o.le
  have olt := o.lt
  have long : ∀ a b, Kn (frm rs) a b → a ≤ g → g < b → ∀ a' b', Kn (frm rs) a' b' → a' ≤ g → g < b' → a < a' → b' < b := fun a b k h1 h2 a' b' k' h3 h4 lt => by
    rcases kn_two fit k k' lt with z | z <;> omega
  have asc := List.Pairwise.filter (arn g) (kinL_asc (frm rs))
  have mem : ∀ p, p ∈ (kinL (frm rs)).filter (arn g) ↔ ∃ a b : Nat, Kn (frm rs) a b ∧ a ≤ g ∧ g < b ∧ p = ((a : Int), (b : Int)) := fun p => by
    rw [List.mem_filter, kinL_mem, arn_iff]
    constructor
    · rintro ⟨⟨a, b, k, rfl⟩, h1, h2⟩
      exact ⟨a, b, k, by dsimp only at h1; omega, by dsimp only at h2; omega, rfl⟩
    · rintro ⟨a, b, k, h1, h2, rfl⟩
      exact ⟨⟨a, b, k, rfl⟩, by dsimp only; omega, by dsimp only; omega⟩
  obtain ⟨ts, h1, h2, h3⟩ := hT
  let ct : Addr → Int × Int × Int := fun a => match H a with
    | some (.tup [.int z, .int x, .int y]) => (z, x, y)
    | _ => (0, 0, 0)
  have hct : ∀ (i : Nat) (t : Addr) (p : Int × Int), ts[i]? = some t → ((kinL (frm rs)).filter (arn g))[i]? = some p → ct t = (p.2 - p.1, p.1, p.2) := fun i t p e1 e2 => by
    have z := h3 i t p e1 e2
    show (match H t with
      | some (.tup [.int z, .int x, .int y]) => (z, x, y)
      | _ => (0, 0, 0)) = _
    rw [z]
    rfl
  generalize (kinL (frm rs)).filter (arn g) = ps at h2 h3 hct mem asc
  have at' : ∀ t ∈ ts, ∃ p ∈ ps, ct t = (p.2 - p.1, p.1, p.2) ∧ H t = some (.tup (tri p)) := fun t ht => by
    obtain ⟨i, hi⟩ := List.getElem?_of_mem ht
    have hi2 : i < ps.length := by rw [← h2]; exact (List.getElem?_eq_some_iff.mp hi).1
    have e := List.getElem?_eq_getElem hi2
    exact ⟨ps[i], List.getElem_mem hi2, hct i t _ hi e, h3 i t _ hi e⟩
  refine ⟨ts, ct, h1, ?_, ?_, fun t ht => ?_, fun m hm mn => ?_⟩
  · rw [h2]
    exact List.length_pos_of_mem ((mem _).mpr ⟨c, d, o.kn, ole, olt, rfl⟩)
  · rw [List.pairwise_iff_getElem]
    intro i j hi hj lt
    have hi2 : i < ps.length := by omega
    have hj2 : j < ps.length := by omega
    have z := List.pairwise_iff_getElem.mp asc i j hi2 hj2 lt
    rw [hct i _ _ (List.getElem?_eq_getElem hi) (List.getElem?_eq_getElem hi2), hct j _ _ (List.getElem?_eq_getElem hj) (List.getElem?_eq_getElem hj2)]
    obtain ⟨a, b, k, l1, l2, e1⟩ := (mem _).mp (List.getElem_mem hi2)
    obtain ⟨a', b', k', l3, l4, e2⟩ := (mem _).mp (List.getElem_mem hj2)
    rw [e1, e2] at z ⊢
    dsimp only at z ⊢
    have := long a b k l1 l2 a' b' k' l3 l4 (by omega)
    omega
  · obtain ⟨p, hp, e1, e2⟩ := at' t ht
    rw [e1]
    exact e2
  · obtain ⟨p, hp, e1, e2⟩ := at' m hm
    obtain ⟨a, b, k, l1, l2, rfl⟩ := (mem _).mp hp
    rw [ow_eq o]
    obtain ⟨j, hj⟩ := List.getElem?_of_mem ((mem _).mpr ⟨c, d, o.kn, ole, olt, rfl⟩)
    have hj2 : j < ts.length := by rw [h2]; exact (List.getElem?_eq_some_iff.mp hj).1
    have z := mn ts[j] (List.getElem_mem hj2)
    rw [e1, hct j _ _ (List.getElem?_eq_getElem hj2) hj] at z
    dsimp only at z
    have top := o.top a b k l1 l2
    by_cases ea : a = c
    · subst ea
      rw [← kn_uniq k o.kn]
      exact e2
    · have := long a b k l1 l2 c d o.kn ole olt (by omega)
      omega
theorem LD.getD {H : Hp} {d n : Addr} {kvs : List (List Key × V)} {F : Int × Int → List Bool} (h : LD H d kvs F) (hn : H n = some (.lst [])) (p : Int × Int) : ∃ a, (valV kvs (kp p)).getD (.ref n) = .ref a ∧ H a = some (.lst ((F p).map V.bl)) := by
  by_cases c : F p = []
  · rw [h.no p c, c]
    exact ⟨n, rfl, hn⟩
  · obtain ⟨a, e1, e2⟩ := h.yes p c
    rw [e1]
    exact ⟨a, rfl, e2⟩
end Mir

set_option maxHeartbeats 2000000
namespace Law
open PySem L2
def top (i : Nat) : Stmt := PySem.Challenge.pw_claspwork_k47_knots_by_their_gaps.main.body.getD i (.Pass ⟨0, 0, 0, 0⟩)
abbrev s_framed : Stmt := top 1
abbrev s_open_gaps : Stmt := top 2
abbrev s_kin_spans : Stmt := top 3
abbrev s_kin_end : Stmt := top 4
abbrev s_gap_kins : Stmt := top 5
abbrev s_knots_in : Stmt := top 7
abbrev s_law_cell_at : Stmt := top 9
abbrev s_law_row_of_kins : Stmt := top 10
abbrev s_law_whole_number : Stmt := top 11
abbrev s_law_row_is : Stmt := top 12
abbrev s_law_framed : Stmt := top 13
abbrev s_law_is_whole : Stmt := top 14
abbrev s_law_kins : Stmt := top 15
abbrev s_law_knots : Stmt := top 16
abbrev s_law : Stmt := top 17
theorem sc_framed : FnScope ["row"] ["row"] (defScope s_framed) := ⟨rfl, rfl, rfl, by decide +kernel, rfl, by decide +kernel, by decide +kernel⟩
theorem sc_open_gaps : FnScope ["row", "numbers"] ["row"] (defScope s_open_gaps) := ⟨rfl, rfl, rfl, by decide +kernel, rfl, by decide +kernel, by decide +kernel⟩
theorem sc_kin_spans : FnScope ["row", "numbers", "spans"] ["row"] (defScope s_kin_spans) := ⟨rfl, rfl, rfl, by decide +kernel, rfl, by decide +kernel, by decide +kernel⟩
theorem sc_kin_end : FnScope ["numbers", "first", "begin", "sign", "highest", "last", "amount"] ["numbers", "first"] (defScope s_kin_end) := ⟨rfl, rfl, rfl, by decide +kernel, rfl, by decide +kernel, by decide +kernel⟩
theorem sc_gap_kins : FnScope ["row", "told", "first", "last", "gap"] ["row"] (defScope s_gap_kins) := ⟨rfl, rfl, rfl, by decide +kernel, rfl, by decide +kernel, by decide +kernel⟩
theorem sc_knots_in : FnScope ["row", "numbers", "belongs", "minuses", "gap", "beside"] ["row"] (defScope s_knots_in) := ⟨rfl, rfl, rfl, by decide +kernel, rfl, by decide +kernel, by decide +kernel⟩
theorem sc_law_cell_at : FnScope ["script", "k"] ["script", "k"] (defScope s_law_cell_at) := ⟨rfl, rfl, rfl, by decide +kernel, rfl, by decide +kernel, by decide +kernel⟩
theorem sc_law_row_of_kins : FnScope ["script", "at", "many", "row", "k", "cell", "first", "stretch"] ["script", "at", "many"] (defScope s_law_row_of_kins) := ⟨rfl, rfl, rfl, by decide +kernel, rfl, by decide +kernel, by decide +kernel⟩
theorem sc_law_whole_number : FnScope ["found"] ["found"] (defScope s_law_whole_number) := ⟨rfl, rfl, rfl, by decide +kernel, rfl, by decide +kernel, by decide +kernel⟩
theorem sc_law_row_is : FnScope ["found", "due", "k"] ["found", "due"] (defScope s_law_row_is) := ⟨rfl, rfl, rfl, by decide +kernel, rfl, by decide +kernel, by decide +kernel⟩
theorem sc_law_framed : FnScope ["row"] ["row"] (defScope s_law_framed) := ⟨rfl, rfl, rfl, by decide +kernel, rfl, by decide +kernel, by decide +kernel⟩
theorem sc_law_is_whole : FnScope ["numbers", "first", "last", "amounts"] ["numbers", "first", "last"] (defScope s_law_is_whole) := ⟨rfl, rfl, rfl, by decide +kernel, rfl, by decide +kernel, by decide +kernel⟩
theorem sc_law_kins : FnScope ["numbers", "stretches", "first", "last", "due", "behind"] ["numbers"] (defScope s_law_kins) := ⟨rfl, rfl, rfl, by decide +kernel, rfl, by decide +kernel, by decide +kernel⟩
theorem sc_law_knots : FnScope ["numbers", "kins", "signs", "gap", "around", "mine"] ["numbers"] (defScope s_law_knots) := ⟨rfl, rfl, rfl, by decide +kernel, rfl, by decide +kernel, by decide +kernel⟩
theorem sc_law : FnScope ["script", "row", "due", "found", "k"] ["script"] (defScope s_law) := ⟨rfl, rfl, rfl, by decide +kernel, rfl, by decide +kernel, by decide +kernel⟩
structure Bl (mg : Str → Option Value) : Prop where
  «abs» : mg "abs" = none
  «all» : mg "all" = none
  «any» : mg "any" = none
  «bool» : mg "bool" = none
  «int» : mg "int" = none
  «isinstance» : mg "isinstance" = none
  «len» : mg "len" = none
  «list» : mg "list" = none
  «max» : mg "max" = none
  «min» : mg "min" = none
  «range» : mg "range" = none
  «reversed» : mg "reversed" = none
  «set» : mg "set" = none
  «sorted» : mg "sorted" = none
  «tuple» : mg "tuple" = none
section
variable {P : Program} {w : World} {K : PySem.W.Frag} {mg : Str → Option Value} {base : Heap}
theorem ok_framed {f : Addr} {fd : FuncData} (B : Bl mg) (F : Fn K mg "framed" s_framed ["row"] f fd) : FnOk P w K mg base CX0 1 f fd ["row"] Mir.spFramed := by
  refine F.fn.ok sc_framed (fun vs H Q E h => ?_) (fun cdv A outer s H vs Q E hr h => ?_)
  · obtain ⟨t, rs, rfl, _⟩ := h
    rfl
  · obtain ⟨t, rs, rfl, ht, hn, k⟩ := h
    refine ⟨_, (pss_one (ps_ret (pe_op op_catA (pe_op op_catA (pe_tup (pa_cons pe_int pa_nil)) (pv 0)) (pe_tup (pa_cons (pe_op op_add (pe_callB call_len_seq rfl B.len bb_len (pa_cons (pv 0) pa_nil)) pe_int) pa_nil))))), ?_⟩
    have ivl : (Mir.iV rs).length = rs.length := Mir.iV_len rs
    refine ⟨by show 1 ≤ sizeLine; decide, fun p hp => ?_⟩
    have s1 : Same H (upd H p (.tup [.int 0])) := same_upd hp
    refine ⟨_, rfl, p, t, _, _, rfl, rfl, upd_same, s1 _ _ ht, Nat.le_of_lt (small1000 (by show 1 + _ ≤ 1000; omega)), fun q H1 s2 hq => ?_⟩
    have s12 := s1.trans s2
    refine ⟨_, rfl, t, _, rfl, .inr (SqT.of (s12 _ _ ht)), _, _, rfl, rfl, by show 1 ≤ sizeLine; decide, fun r hr' => ?_⟩
    have s3 : Same H1 (upd H1 r (.tup [.int (((Mir.iV rs).length : Nat) + 1)])) := same_upd hr'
    refine ⟨q, r, _, _, rfl, rfl, s3 _ _ hq, upd_same, Nat.le_of_lt (small1000 (by rw [List.length_append, ivl]; show 1 + _ + 1 ≤ 1000; omega)), fun t' H2 s4 ht' => ?_⟩
    refine k t' H2 ((s12.trans s3).trans s4) ?_
    rw [ht', ivl]
    unfold Mir.frm Mir.iV
    rw [List.map_cons, List.map_append]
    rfl
end
section
variable {P : Program} {w : World} {K : PySem.W.Frag} {mg : Str → Option Value} {base : Heap}
theorem ok_open_gaps {f f1 : Addr} {fd fd1 : FuncData} (B : Bl mg) (F : Fn K mg "open_gaps" s_open_gaps ["row"] f fd) (F_framed : Fn K mg "framed" s_framed ["row"] f1 fd1) : FnOk P w K mg base CX0 2 f fd ["row"] Mir.spOpenGaps := by
  have G_framed : FnOk P w K mg base CX0 1 f1 fd1 ["row"] Mir.spFramed := ok_framed B F_framed
  refine F.fn.ok sc_open_gaps (fun vs H Q E h => ?_) (fun cdv A outer s H vs Q E hr h => ?_)
  · obtain ⟨t, rs, rfl, _⟩ := h
    rfl
  · obtain ⟨t, rs, rfl, ht, hn, k⟩ := h
    refine ⟨_, (pss_cons (ps_set (i := 1) sc_open_gaps.nd rfl (Or.inr rfl) (pe_fn G_framed F_framed (hr.mono (by decide)) (pa_cons (pv 0) pa_nil)))
      (pss_one (ps_ret (pe_comp (NC := ["gap", "numbers"]) rfl (compOk2 (c := s.heap.objs.size + 1) (j := 1) rfl (by decide +kernel) (by decide +kernel) rfl rfl rfl rfl rfl) (pi_range1 rfl B.range (pa_cons (pe_op op_add (pe_callB call_len_seq rfl B.len bb_len (pa_cons (pv 0) pa_nil)) pe_int) pa_nil)) (fun _ _ _ _ => (pg_name (i := 0) (show (["gap", "numbers"] : List Str).Nodup by decide +kernel) rfl (Or.inl rfl))) (fun _ _ _ _ => (pts_one (pt_cmpR op_ne (pe_ix (ix_tupK (K := K) rfl) (pv 1) (pe_op op_add (pv 0) pe_int) (fun _ _ => rfl)) (pe_op op_add (pe_ix (ix_tupK (K := K) rfl) (pv 1) (pv 0) (fun _ _ => rfl)) pe_int) (nomark _)))) (fun _ _ _ _ => (pv 0)))))), ?_⟩
    have ivl : (Mir.iV rs).length = rs.length := Mir.iV_len rs
    refine ⟨_, rfl, t, rs, rfl, ht, hn, fun t1 H1 s1 ht1 => ?_⟩
    refine ⟨_, rfl, t, _, rfl, .inr (SqT.of (s1 _ _ ht)), _, _, rfl, rfl, _, rfl, by rw [ivl]; omega, by rw [ivl]; omega, fun D hD => ?_⟩
    refine comp_range (fun i σ H2 => ∃ v : Option V, σ = [v, some (.ref t1)] ∧ Same H1 H2 ∧ H2 D = some (.lst (Mir.iV (Mir.openL (Mir.frm rs) i)))) ⟨none, rfl, same_upd hD, upd_same⟩ ?_ ?_
    · rintro i σ H2 hi ⟨v, rfl, s2, h2⟩
      rw [ivl] at hi
      have hi : i < rs.length + 1 := by omega
      rw [Int.zero_add]
      have e1 : (i : Int) + 1 = ((i + 1 : Nat) : Int) := by omega
      have fl := Mir.frm_len rs
      have hl : (Mir.openL (Mir.frm rs) i).length ≤ i := by
        unfold Mir.openL
        rw [List.length_map]
        exact Nat.le_trans (List.length_filter_le _ _) (by rw [List.length_range]; exact Nat.le_refl _)
      refine ⟨_, rfl, _, rfl, _, _, rfl, rfl, t1, _, _, _, rfl, rfl, SqT.of (s2 _ _ ht1), (by rw [e1]; exact atI_nat (Mir.iV_get0 (by omega))), _, rfl, _, rfl, t1, _, _, _, rfl, rfl, SqT.of (s2 _ _ ht1), atI_nat (Mir.iV_get0 (by omega)), _, _, rfl, rfl, rfl, _, rfl, ?_⟩
      have es : Mir.openL (Mir.frm rs) (i + 1) = Mir.openL (Mir.frm rs) i ++ (if Mir.isOpen (Mir.frm rs) i = true then [(i : Int)] else []) := by
        unfold Mir.openL
        rw [List.range_succ, List.filter_append, List.map_append, List.filter_cons, List.filter_nil]
        split <;> rfl
      refine ite2 (fun h1 => ?_) (fun h1 => ?_)
      · refine ⟨_, rfl, _, h2, small1000 (by rw [Mir.iV_len]; omega), _, rfl, s2.upd hD, ?_⟩
        have : Mir.isOpen (Mir.frm rs) i = true := by unfold Mir.isOpen; simpa using h1
        rw [upd_same, es, if_pos this, Mir.iV_ap]
        rfl
      · refine ⟨_, rfl, s2, ?_⟩
        have : ¬ Mir.isOpen (Mir.frm rs) i = true := fun z => h1 (by unfold Mir.isOpen at z; simpa using z)
        rw [es, if_neg this, List.append_nil]
        exact h2
    · rintro σ H2 ⟨v, rfl, s2, h2⟩
      have e : (((Mir.iV rs).length : Nat) + 1 : Int).toNat = rs.length + 1 := by rw [ivl]; omega
      rw [e] at h2
      exact k D H2 (s1.free hD) (s1.trans s2) h2
end
section
variable {P : Program} {w : World} {K : PySem.W.Frag} {mg : Str → Option Value} {base : Heap}
theorem ok_kin_end {f : Addr} {fd : FuncData} (B : Bl mg) (F : Fn K mg "kin_end" s_kin_end ["numbers", "first"] f fd) : FnOk P w K mg base CX0 1 f fd ["numbers", "first"] Mir.spKinEnd := by
  refine F.fn.ok sc_kin_end (fun vs H Q E h => ?_) (fun cdv A outer s H vs Q E hr h => ?_)
  · obtain ⟨t, fs, a, rfl, _⟩ := h
    rfl
  · obtain ⟨t, fs, a, rfl, ht, nd, ha, hn, kS, kN⟩ := h
    refine ⟨_, (pss_cons (ps_set (i := 2) sc_kin_end.nd rfl (Or.inl rfl) (pe_ix ix_tup (pv 0) (pv 1) (fun _ _ => rfl)))
      (pss_cons (ps_set (i := 3) sc_kin_end.nd rfl (Or.inl rfl) (pe_ifExp (pt_cmpR op_lt (pv 2) pe_int (nomark _)) (pe_un un_neg pe_int) pe_int))
      (ps_sem (R := fun D σ H2 => H2 = H ∧ σ = [some (.ref t), some (.int a), some (.int (fs.getD a 0)), some (.int (if fs.getD a 0 < 0 then -1 else 1)), none, none, none] ∧ D.rt = Q) fun D σ H2 hR => ?rest))), ?_⟩
    case rest =>
      obtain ⟨rfl, rfl, hD⟩ := hR
      refine ⟨_, (pss_cons (ps_set (i := 4) sc_kin_end.nd rfl (Or.inl rfl) (pv 2))
      (pss_cons (ps_for PassesOwn.never rfl (pi_range2 rfl B.range (pa_cons (pe_op op_add (pv 1) pe_int) (pa_cons (pe_callB call_len_seq rfl B.len bb_len (pa_cons (pv 0) pa_nil)) pa_nil))) (pg_name (i := 5) sc_kin_end.nd rfl (Or.inl rfl)) (pss_cons (ps_set (i := 6) sc_kin_end.nd rfl (Or.inl rfl) (pe_op op_mul (pv 3) (pe_callB call_abs rfl B.abs bb_abs (pa_cons (pe_ix ix_tup (pv 0) (pv 5) (fun _ _ => rfl)) pa_nil))))
      (pss_cons (ps_if (pt_cmpR op_lt (pv 6) (pv 2) (nomark _)) (pss_one (ps_ret pe_non)) pss_nil)
      (pss_cons (ps_set (i := 4) sc_kin_end.nd rfl (Or.inl rfl) (pe_callB (call_max2 rfl) rfl B.max bb_max (pa_cons (pv 4) (pa_cons (pv 6) pa_nil))))
      (pss_one (ps_if (pt_chain op_eq op_eq (pe_ix ix_tup (pv 0) (pv 5) (fun _ _ => rfl)) (pv 4) (pe_op op_sub (pe_op op_add (pv 2) (pv 5)) (pv 1))) (pss_one (ps_ret (pv 5))) pss_nil))))))
      (pss_one (ps_ret pe_non)))), ?_⟩
      have ivl : (Mir.iV fs).length = fs.length := Mir.iV_len fs
      have sgA : ∀ x, (if fs.getD a 0 < 0 then -1 else 1) * Mir.absI (fs.getD x 0) = Mir.amA fs a x := fun x => by unfold Mir.amA; split <;> omega
      have sgC : ∀ j, CMul (if fs.getD a 0 < 0 then (-1 : Int) else 1) j := fun j => .inl (by split <;> exact ⟨by decide, by decide⟩)
      generalize (if fs.getD a 0 < 0 then (-1 : Int) else 1) = sg at sgA sgC ⊢
      refine ⟨_, rfl, _, rfl, _, _, rfl, rfl, _, rfl, t, _, rfl, .inr (SqT.of ht), _, _, rfl, ⟨by omega, by omega, by rw [ivl]; omega, by rw [ivl]; omega⟩,
        for_range (lo := (a : Int) + 1) (n := (((Mir.iV fs).length : Nat) - ((a : Int) + 1) : Int).toNat) (fun i σ H3 => ∃ (hi : Int) (v5 v6 : Option V), σ = [some (.ref t), some (.int a), some (.int (fs.getD a 0)), some (.int sg), some (.int hi), v5, v6] ∧ H3 = H2 ∧ Mir.Seek fs a (a + 1 + i) hi ∧ ∀ c, c < a + 1 + i → ¬ Mir.Wh fs a c)
          ⟨_, none, none, rfl, rfl, Mir.Seek.first fs a, fun c hc W => by have := W.lt; omega⟩ ?_ ?_⟩
      · rintro i σ H3 hi ⟨hi', v5, v6, rfl, rfl, S, no⟩
        rw [ivl] at hi
        have hc : a + 1 + i < fs.length := by omega
        have ec : (a : Int) + 1 + (i : Int) = ((a + 1 + i : Nat) : Int) := by omega
        rw [ec]
        refine ⟨_, rfl, _, rfl, _, rfl, t, _, _, _, rfl, rfl, SqT.of ht, atI_nat (Mir.iV_get0 hc), _, rfl, _, _, rfl, rfl, sgC _, ?_⟩
        dsimp only
        rw [Mir.absI_eq, sgA]
        refine ⟨_, rfl, _, rfl, _, _, rfl, rfl, _, rfl, ?_⟩
        refine ite2 (fun h1 => ?_) (fun h1 => ?_)
        · have h1 := of_decide_eq_true h1
          show D.rt V.non _
          rw [hD]
          refine kN fun b W => ?_
          by_cases hb : b < a + 1 + i
          · exact no b hb W
          · exact Mir.Wh.stop (by omega) h1 (by omega) W
        have h1 : fs.getD a 0 ≤ Mir.amA fs a (a + 1 + i) := by
          have : ¬ Mir.amA fs a (a + 1 + i) < fs.getD a 0 := fun z => h1 (decide_eq_true z)
          omega
        have S2 := S.next (by omega) h1
        refine ⟨_, rfl, _, rfl, _, _, rfl, ?_⟩
        dsimp only
        generalize (if Mir.amA fs a (a + 1 + i) > hi' then Mir.amA fs a (a + 1 + i) else hi') = hi2 at S2 ⊢
        have iff := S2.wh nd (by omega) hc
        have e2 : ((a + 1 + i : Nat) : Int) = (a : Int) + 1 + i := by omega
        have stop : ∀ W : Mir.Wh fs a (a + 1 + i), Mir.Kn fs a (a + 1 + i) := fun W => ⟨W, fun c hc => no c hc⟩
        have go : ¬ Mir.Wh fs a (a + 1 + i) → ∀ c, c < a + 1 + (i + 1) → ¬ Mir.Wh fs a c := fun nw c hc => by
          by_cases e : c = a + 1 + i
          · rw [e]; exact nw
          · exact no c (by omega)
        refine ⟨_, rfl, _, rfl, t, _, _, _, rfl, rfl, SqT.of ht, atI_nat (Mir.iV_get0 hc), _, rfl, rfl, _, rfl, ?_⟩
        refine ite2 (fun h2 => ?_) (fun h2 => ?_)
        · have h2 : fs.getD (a + 1 + i) 0 = hi2 := by injection of_decide_eq_true h2
          refine ⟨_, rfl, _, rfl, _, _, rfl, rfl, _, rfl, _, _, rfl, rfl, rfl, _, rfl, ?_⟩
          refine ite2 (fun h3 => ?_) (fun h3 => ?_)
          · have h3 : hi2 = fs.getD a 0 + ((a + 1 + i : Nat) : Int) - (a : Int) := by injection of_decide_eq_true h3
            refine ⟨_, rfl, ?_⟩
            show D.rt _ _
            rw [hD]
            exact kS _ (stop (iff.mp ⟨h2, h3⟩))
          · have h3 : ¬ hi2 = fs.getD a 0 + ((a + 1 + i : Nat) : Int) - (a : Int) := fun z => h3 (decide_eq_true (congrArg V.int z))
            exact ⟨_, _, _, rfl, rfl, S2, go fun W => h3 (iff.mpr W).2⟩
        · have h2 : ¬ fs.getD (a + 1 + i) 0 = hi2 := fun z => h2 (decide_eq_true (congrArg V.int z))
          exact ⟨_, rfl, iteF ⟨_, _, _, rfl, rfl, S2, go fun W => h2 (iff.mpr W).1⟩⟩
      · rintro σ H3 ⟨hi', v5, v6, rfl, rfl, S, no⟩
        rw [ivl] at no
        show D.rt V.non _
        rw [hD]
        refine kN fun b W => ?_
        have := W.lb
        exact no b (by omega) W
    refine ⟨_, rfl, _, rfl, t, _, _, _, rfl, rfl, SqT.of ht, atI_nat (Mir.iV_get0 ha), ?_⟩
    refine ⟨_, rfl, _, _, rfl, rfl, _, rfl, ?_⟩
    refine ite2 (fun h1 => ?_) (fun h1 => ?_)
    · have h1 := of_decide_eq_true h1
      exact ⟨_, rfl, rfl, by rw [if_pos h1]; rfl, rfl⟩
    · have h1 : ¬ fs.getD a 0 < 0 := fun z => h1 (decide_eq_true z)
      exact ⟨rfl, by rw [if_neg h1]; rfl, rfl⟩
end
section
variable {P : Program} {w : World} {K : PySem.W.Frag} {mg : Str → Option Value} {base : Heap}
theorem ok_kin_spans {f f1 f2 : Addr} {fd fd1 fd2 : FuncData} (B : Bl mg) (F : Fn K mg "kin_spans" s_kin_spans ["row"] f fd) (F_framed : Fn K mg "framed" s_framed ["row"] f1 fd1) (F_kin_end : Fn K mg "kin_end" s_kin_end ["numbers", "first"] f2 fd2) : FnOk P w K mg base CX0 2 f fd ["row"] Mir.spKinSpans := by
  have G_framed : FnOk P w K mg base CX0 1 f1 fd1 ["row"] Mir.spFramed := ok_framed B F_framed
  have G_kin_end : FnOk P w K mg base CX0 1 f2 fd2 ["numbers", "first"] Mir.spKinEnd := ok_kin_end B F_kin_end
  refine F.fn.ok sc_kin_spans (fun vs H Q E h => ?_) (fun cdv A outer s H vs Q E hr h => ?_)
  · obtain ⟨t, rs, rfl, _⟩ := h
    rfl
  · obtain ⟨t, rs, rfl, ht, fit, k⟩ := h
    have hn := fit.small
    refine ⟨_, (pss_cons (ps_set (i := 1) sc_kin_spans.nd rfl (Or.inr rfl) (pe_fn G_framed F_framed (hr.mono (by decide)) (pa_cons (pv 0) pa_nil)))
      (pss_cons (ps_comp (ix := 2) (NC := ["first", "numbers"]) sc_kin_spans.nd rfl (Or.inl rfl) rfl (compOk2 (c := s.heap.objs.size + 1) (j := 1) rfl (by decide +kernel) (by decide +kernel) rfl rfl rfl rfl rfl) (pi_range1 rfl B.range (pa_cons (pe_callB call_len_seq rfl B.len bb_len (pa_cons (pv 1) pa_nil)) pa_nil)) (fun _ _ _ _ => (pg_name (i := 0) (show (["first", "numbers"] : List Str).Nodup by decide +kernel) rfl (Or.inl rfl))) (fun _ _ _ _ => pts_nil) (fun _ _ _ _ => (pe_tup (pa_cons (pv 0) (pa_cons (pe_fn G_kin_end F_kin_end (hr.mono (by decide)) (pa_cons (pv 1) (pa_cons (pv 0) pa_nil))) pa_nil)))))
      (pss_one (ps_ret (pe_comp (NC := ["span"]) rfl (compOk0 rfl (by decide +kernel) (by decide +kernel)) (pi_list (pv 2)) (fun _ _ _ _ => (pg_name (i := 0) (show (["span"] : List Str).Nodup by decide +kernel) rfl (Or.inl rfl))) (fun _ _ _ _ => (pts_one (pt_cmpR op_notN (pe_ix (ix_tupK (K := K) rfl) (pv 0) pe_int (fun _ _ => rfl)) pe_non (nomark _)))) (fun _ _ _ _ => (pv 0))))))), ?_⟩
    have nd := Mir.frm_nodup fit
    have fl := Mir.frm_len rs
    refine ⟨_, rfl, t, rs, rfl, ht, by omega, fun t1 H1 s1 ht1 => ?_⟩
    generalize Mir.frm rs = fs at nd fl ht1 k
    have ivl : (Mir.iV fs).length = fs.length := Mir.iV_len fs
    let ok : Nat → V → Prop := fun a v => (∃ b : Nat, Mir.Kn fs a b ∧ v = .int b) ∨ ((∀ b, ¬ Mir.Wh fs a b) ∧ v = .non)
    refine ⟨_, rfl, t1, _, rfl, .inr (SqT.of ht1), _, rfl, by rw [ivl]; omega, by rw [ivl]; omega, fun D hD => ?_⟩
    refine comp_range (fun i σ H2 => ∃ (v : Option V) (es : List V), σ = [v, some (.ref t1)] ∧ Same H1 H2 ∧ es.length = i ∧ (∀ a e, es[a]? = some e → ok a e) ∧ ∃ ts : List Addr, H2 D = some (.lst (ts.map V.ref)) ∧ ts.length = i ∧ ∀ a t' e, ts[a]? = some t' → es[a]? = some e → H2 t' = some (.tup [.int (a : Nat), e]))
      ⟨none, [], rfl, same_upd hD, rfl, fun a e h => (nomatch h), [], upd_same, rfl, fun a t' e h => (nomatch h)⟩ ?_ ?_
    · rintro i σ H2 hi ⟨v, es, rfl, s2, hel, hes, ts, hts, htl, hall⟩
      rw [ivl] at hi
      have hi : i < fs.length := by omega
      rw [Int.zero_add]
      refine gYes ?_
      have fin : ∀ e : V, ok i e → 2 ≤ sizeLine ∧ ∀ tp, H2 tp = none → ∃ ys, upd H2 tp (.tup [.int (i : Nat), e]) D = some (.lst ys) ∧ ys.length < sizeLine ∧ ∃ (v : Option V) (es : List V), ([some (.int (i : Nat)), some (.ref t1)] : St) = [v, some (.ref t1)] ∧ Same H1 (upd (upd H2 tp (.tup [.int (i : Nat), e])) D (.lst (ys ++ [.ref tp]))) ∧ es.length = i + 1 ∧ (∀ a e, es[a]? = some e → ok a e) ∧ ∃ ts : List Addr, upd (upd H2 tp (.tup [.int (i : Nat), e])) D (.lst (ys ++ [.ref tp])) D = some (.lst (ts.map V.ref)) ∧ ts.length = i + 1 ∧ ∀ a t' e', ts[a]? = some t' → es[a]? = some e' → upd (upd H2 tp (.tup [.int (i : Nat), e])) D (.lst (ys ++ [.ref tp])) t' = some (.tup [.int (a : Nat), e']) := fun e he => by
        refine ⟨by decide, fun tp htp => ?_⟩
        have ne : D ≠ tp := fun z => by rw [← z, hts] at htp; cases htp
        have sp : Same H2 (upd H2 tp (.tup [.int (i : Nat), e])) := same_upd htp
        refine ⟨_, sp _ _ hts, small1000 (by rw [List.length_map]; omega), _, es ++ [e], rfl, (s2.trans sp).upd hD, by rw [List.length_append, hel]; rfl, fun a x hx => ?_, ts ++ [tp], by rw [upd_same, List.map_append]; rfl, by rw [List.length_append, htl]; rfl, fun a t' x h1 h2 => ?_⟩
        · by_cases c : a < es.length
          · rw [List.getElem?_append_left c] at hx
            exact hes a x hx
          · rw [List.getElem?_append_right (by omega)] at hx
            have ea : a = i := by have := (List.getElem?_eq_some_iff.mp hx).1; simp at this; omega
            rw [ea, hel, Nat.sub_self] at hx
            rw [ea, ← Option.some.inj hx]
            exact he
        · by_cases c : a < i
          · rw [List.getElem?_append_left (by omega)] at h1 h2
            have q := hall a t' x h1 h2
            have n1 : t' ≠ D := fun z => by rw [z, hts] at q; cases q
            rw [upd_ne n1]
            exact sp _ _ q
          · have ea : a = i := by have := (List.getElem?_eq_some_iff.mp h1).1; simp at this; omega
            rw [List.getElem?_append_right (by omega), ea, htl, Nat.sub_self] at h1
            rw [List.getElem?_append_right (by omega), ea, hel, Nat.sub_self] at h2
            rw [← Option.some.inj h1, ← Option.some.inj h2, upd_ne (Ne.symm ne), upd_same, ea]
      refine ⟨_, rfl, _, rfl, _, rfl, t1, fs, i, rfl, s2 _ _ ht1, nd, hi, by omega, fun b hb => ?_, fun hb => ?_⟩
      · exact fin _ (.inl ⟨b, hb, rfl⟩)
      · exact fin _ (.inr ⟨hb, rfl⟩)
    · rintro σ H2 ⟨v, es, rfl, s2, hel, hes, ts, hts, htl, hall⟩
      rw [ivl] at hel htl
      have hel : es.length = fs.length := by omega
      have htl : ts.length = fs.length := by omega
      refine ⟨_, rfl, D, rfl, ⟨_, SqL.of hts⟩, fun D2 hD2 => comp_list (K := K) (a := D) (xs := ts.map V.ref) (fun i σ H3 => ∃ v : Option V, σ = [v] ∧ Same H2 H3 ∧ Mir.TsT Mir.pr H3 D2 ((Mir.whL fs i).filter (Mir.isKn fs))) ⟨none, rfl, same_upd hD2, Mir.TsT.nil upd_same⟩ (fun i σ H3 _ ⟨_, _, s3, _⟩ => SqL.of (s3 _ _ hts)) ?_ ?_⟩
      · rintro i y σ H3 hy ⟨v, rfl, s3, hT⟩
        have hi : i < fs.length := by have := (List.getElem?_eq_some_iff.mp hy).1; rw [List.length_map] at this; omega
        rw [List.getElem?_map, List.getElem?_eq_getElem (by omega)] at hy
        obtain rfl := Option.some.inj hy
        have et : ts[i]? = some ts[i] := List.getElem?_eq_getElem (by omega)
        have ee : es[i]? = some es[i] := List.getElem?_eq_getElem (by omega)
        have q := s3 _ _ (hall i _ _ et ee)
        have hok := hes i _ ee
        generalize ts[i] = t' at q
        generalize es[i] = e at q hok
        have ll : ((Mir.whL fs i).filter (Mir.isKn fs)).length ≤ fs.length := by
          have := Mir.kinL_pre fs i
          omega
        refine ⟨_, rfl, t', _, _, _, rfl, rfl, SqT.of q, (show atI [V.int (i : Nat), e] 1 = some e from rfl), rfl, _, rfl, ?_⟩
        rcases hok with ⟨b, hb, rfl⟩ | ⟨hb, rfl⟩
        · rcases Mir.knRow (fs := fs) (a := i) with ⟨hno, _⟩ | ⟨b', hb', er⟩
          · exact absurd hb.1 (hno b)
          have eb := Mir.kn_uniq hb' hb
          subst eb
          refine iteYes (show (!decide (V.int (b' : Nat) = V.non)) = true by rw [decide_eq_false (fun z => by cases z)]; rfl) ?_
          obtain ⟨ys, y1, y2, y3⟩ := hT.snoc (t := t') (x := ((i : Int), (b' : Int))) q
          refine ⟨_, rfl, _, y1, small1000 (by rw [y2]; omega), _, rfl, s3.upd hD2, ?_⟩
          rw [Mir.whL_succ, List.filter_append, er]
          exact y3
        · refine iteNo (by decide) ?_
          refine ⟨_, rfl, s3, ?_⟩
          rcases Mir.knRow (fs := fs) (a := i) with ⟨_, er⟩ | ⟨b', hb', _⟩
          · rw [Mir.whL_succ, List.filter_append, er, List.append_nil]
            exact hT
          · exact absurd hb'.1 (hb b')
      · rintro σ H3 ⟨v, rfl, s3, hT⟩
        rw [List.length_map, htl] at hT
        exact k D2 H3 ((s1.trans s2).free hD2) ((s1.trans s2).trans s3) hT
end
section
variable {P : Program} {w : World} {K : PySem.W.Frag} {mg : Str → Option Value} {base : Heap}
theorem ok_gap_kins {f f1 f2 f3 : Addr} {fd fd1 fd2 fd3 : FuncData} (B : Bl mg) (F : Fn K mg "gap_kins" s_gap_kins ["row"] f fd) (F_framed : Fn K mg "framed" s_framed ["row"] f1 fd1) (F_kin_end : Fn K mg "kin_end" s_kin_end ["numbers", "first"] f2 fd2) (F_kin_spans : Fn K mg "kin_spans" s_kin_spans ["row"] f3 fd3) : FnOk P w K mg base CX0 3 f fd ["row"] Mir.spGapKins := by
  have G_kin_spans : FnOk P w K mg base CX0 2 f3 fd3 ["row"] Mir.spKinSpans := ok_kin_spans B F_kin_spans F_framed F_kin_end
  refine F.fn.ok sc_gap_kins (fun vs H Q E h => ?_) (fun cdv A outer s H vs Q E hr h => ?_)
  · obtain ⟨t, rs, rfl, _⟩ := h
    rfl
  · obtain ⟨t, rs, rfl, ht, fit, k⟩ := h
    have hu := hu_of hr
    have hn := fit.small
    refine ⟨_, (pss_cons (ps_set (i := 1) sc_gap_kins.nd rfl (Or.inr rfl) pe_dnewK)
      (pss_cons (ps_for PassesOwn.never rfl (pi_list (pe_fn G_kin_spans F_kin_spans (hr.mono (by decide)) (pa_cons (pv 0) pa_nil))) (pg_tup rfl (pgs_cons (pg_name (i := 2) sc_gap_kins.nd rfl (Or.inl rfl)) (pgs_cons (pg_name (i := 3) sc_gap_kins.nd rfl (Or.inl rfl)) pgs_nil))) (pss_one (ps_for PassesOwn.never rfl (pi_range2 rfl B.range (pa_cons (pv 2) (pa_cons (pv 3) pa_nil))) (pg_name (i := 4) sc_gap_kins.nd rfl (Or.inl rfl)) (pss_one (ps_dput hu (pv 1) (pv 4) (pe_tup (pa_cons (pv 2) (pa_cons (pv 3) pa_nil))) rfl)))))
      (pss_one (ps_ret (pe_comp (NC := ["gap", "told"]) rfl (compOk2 (c := s.heap.objs.size + 1) (j := 1) rfl (by decide +kernel) (by decide +kernel) rfl rfl rfl rfl rfl) (pi_range1 rfl B.range (pa_cons (pe_op op_add (pe_callB call_len_seq rfl B.len bb_len (pa_cons (pv 0) pa_nil)) pe_int) pa_nil)) (fun _ _ _ _ => (pg_name (i := 0) (show (["gap", "told"] : List Str).Nodup by decide +kernel) rfl (Or.inl rfl))) (fun _ _ _ _ => pts_nil) (fun _ _ _ _ => (pe_dget hu (pv 1) (pv 0) (fun _ _ => rfl)))))))), ?_⟩
    have ivl : (Mir.iV rs).length = rs.length := Mir.iV_len rs
    have lim : ∀ x : Nat, x ≤ 5000 → x < sizeLine := fun x hx => Nat.lt_of_le_of_lt hx (by decide)
    intro dG hdG
    have s1 : Same H (upd H dG (.dK [])) := same_upd hdG
    have hG1 : upd H dG (.dK []) dG = some (.dK []) := upd_same
    generalize upd H dG (.dK []) = H1 at s1 hG1 ⊢
    refine ⟨_, rfl, t, rs, rfl, s1 _ _ ht, fit, fun l H2 hl s2 hT => ?_⟩
    obtain ⟨ts, hts, hlen, htp⟩ := id hT
    have kl := Mir.kinL_len (Mir.frm rs)
    rw [Mir.frm_len] at kl
    have asc := Mir.kinL_asc (Mir.frm rs)
    have knm : ∀ p ∈ Mir.kinL (Mir.frm rs), ∃ a b : Nat, p = ((a : Int), (b : Int)) ∧ a < b ∧ b < rs.length + 2 := fun p hp => by
      obtain ⟨a, b, kn, rfl⟩ := Mir.kinL_mem.mp hp
      have := kn.1.lb
      rw [Mir.frm_len] at this
      exact ⟨a, b, rfl, kn.1.lt, this⟩
    have all := fun (H : Hp) (d : Addr) (kv : List (Key × V)) (h : Mir.GK H d kv (Mir.kinL (Mir.frm rs))) (g : Nat) (hg : g < rs.length + 1) => Mir.gk_all fit h hg
    have fin : (List.range (rs.length + 1)).map (Mir.ow (Mir.frm rs)) = Mir.gapL rs := rfl
    generalize Mir.kinL (Mir.frm rs) = ps at hT htp hlen kl asc knm all
    have ltl : (ts.map V.ref).length = ps.length := by rw [List.length_map, hlen]
    refine ⟨l, rfl, ⟨_, SqL.of hts⟩, for_list (K := K) (a := l) (xs := ts.map V.ref) (fun i σ H3 => ∃ (v2 v3 v4 : Option V) (kv : List (Key × V)), σ = [some (.ref t), some (.ref dG), v2, v3, v4] ∧ Same H H3 ∧ H3 l = some (.lst (ts.map V.ref)) ∧ (∀ a ys, H2 a = some (.tup ys) → H3 a = some (.tup ys)) ∧ kv.length ≤ 42 * i ∧ Mir.GK H3 dG kv (ps.take i))
      ⟨none, none, none, [], rfl, s1.trans s2, hts, fun a ys e => e, Nat.le_refl _, s2 _ _ hG1, fun g q hq => absurd hq List.not_mem_nil⟩ (fun i σ H3 _ ⟨_, _, _, _, _, _, h, _⟩ => SqL.of h) ?_ ?_⟩
    · rintro i y σ H3 hy ⟨v2, v3, v4, kv, rfl, s3, hl3, kt3, lk, gk⟩
      have hi : i < ps.length := by rw [← ltl]; exact (List.getElem?_eq_some_iff.mp hy).1
      have hpi : ps[i]? = some ps[i] := List.getElem?_eq_getElem hi
      obtain ⟨t', ht', rfl⟩ : ∃ t, ts[i]? = some t ∧ y = .ref t := by
        rw [List.getElem?_map] at hy
        obtain ⟨t, e1, e2⟩ := Option.map_eq_some_iff.mp hy
        exact ⟨t, e1, e2.symm⟩
      have htt := kt3 _ _ (htp i t' _ ht' hpi)
      have etk : ps.take (i + 1) = ps.take i ++ [ps[i]] := Mir.take_snoc hpi
      have lts : ∀ q ∈ ps.take i, q.1 < ps[i].1 := fun q hq => by
        obtain ⟨j, hj⟩ := List.getElem?_of_mem hq
        rw [List.getElem?_take] at hj
        split at hj
        · rename_i h
          have hj2 := List.getElem?_eq_some_iff.mp hj
          have z := List.pairwise_iff_getElem.mp asc j i hj2.1 hi h
          rw [hj2.2] at z
          exact z
        · cases hj
      obtain ⟨a, b, ep, hab, hb⟩ := knm _ (List.getElem_mem hi)
      rw [ep] at htt etk lts
      refine ⟨t', _, rfl, SqT.of htt, rfl, _, _, rfl, _, _, rfl, rfl, ?_⟩
      refine ⟨_, rfl, _, rfl, _, _, rfl, ⟨by omega, by omega, by omega, by omega⟩, for_range (lo := (a : Int)) (n := ((b : Int) - (a : Int)).toNat) (fun j σ H4 => ∃ (v4 : Option V) (kv4 : List (Key × V)), σ = [some (.ref t), some (.ref dG), some (.int a), some (.int b), v4] ∧ Same H H4 ∧ H4 l = some (.lst (ts.map V.ref)) ∧ (∀ a ys, H3 a = some (.tup ys) → H4 a = some (.tup ys)) ∧ kv4.length ≤ 42 * i + j ∧ Mir.GI H4 dG kv kv4 ((a : Int), (b : Int)) j)
        ⟨v4, kv, rfl, s3, hl3, fun a ys e => e, by omega, gk.at', fun g h1 h2 => by dsimp only at h1 h2; omega, fun g _ => rfl⟩ ?_ ?_⟩
      · rintro j σ H4 hj ⟨v4, kv4, rfl, s4, hl4, kt4, lk4, gi⟩
        refine ⟨_, rfl, _, rfl, by show 2 ≤ sizeLine; decide, fun tp htp4 => ?_⟩
        have s5 : Same H4 (upd H4 tp (.tup [.int a, .int b])) := same_upd htp4
        have h5 : upd H4 tp (.tup [.int a, .int b]) tp = some (.tup (Mir.pr ((a : Int), (b : Int)))) := upd_same
        have gi5 : Mir.GI (upd H4 tp (.tup [.int a, .int b])) dG kv kv4 ((a : Int), (b : Int)) j := ⟨s5 _ _ gi.at', fun g h1 h2 => let ⟨t, e1, e2⟩ := gi.new g h1 h2; ⟨t, e1, s5 _ _ e2⟩, gi.old⟩
        have gi6 := gi5.put (by dsimp only; omega) h5
        have zl := length_putK kv4 (Sum.inl ((a : Int) + (j : Int)) : Key) (V.ref tp)
        have hdG4 : H dG = none := hdG
        have nl : l ≠ dG := fun z => by rw [z, gi.at'] at hl4; cases hl4
        refine ⟨_, rfl, _, rfl, dG, _, rfl, DPut.k (k := Sum.inl ((a : Int) + (j : Int))) gi5.at' (lim _ (by omega)), _, putK kv4 (Sum.inl ((a : Int) + (j : Int)) : Key) (V.ref tp), rfl, (s4.trans s5).upd hdG, by rw [upd_ne nl]; exact s5 _ _ hl4, fun x ys e => ?_, by omega, gi6⟩
        rw [upd_ne fun z => by have := gi.at'; rw [← z, kt4 _ _ e] at this; cases this]
        exact s5 _ _ (kt4 _ _ e)
      · rintro σ H4 ⟨v4, kv4, rfl, s4, hl4, kt4, lk4, gi⟩
        refine ⟨_, _, _, kv4, rfl, s4, hl4, fun x ys e => kt4 _ _ (kt3 _ _ e), by omega, ?_⟩
        rw [etk]
        exact gk.next gi (by dsimp only; omega) lts kt4
    · rintro σ H3 ⟨v2, v3, v4, kv, rfl, s3, hl3, kt3, lk, gk⟩
      rw [ltl, List.take_length] at gk
      refine ⟨_, rfl, t, _, rfl, .inr (SqT.of (s3 _ _ ht)), _, _, rfl, rfl, _, rfl, by rw [ivl]; omega, by rw [ivl]; omega, fun D hD => ?_⟩
      refine comp_range (fun i σ H4 => ∃ v : Option V, σ = [v, some (.ref dG)] ∧ Same H3 H4 ∧ Mir.TsT Mir.pr H4 D ((List.range i).map (Mir.ow (Mir.frm rs)))) ⟨none, rfl, same_upd hD, Mir.TsT.nil upd_same⟩ ?_ ?_
      · rintro i σ H4 hi ⟨v, rfl, s4, hT4⟩
        rw [ivl] at hi
        have hi : i < rs.length + 1 := by omega
        rw [Int.zero_add]
        obtain ⟨tp, e1, e2⟩ := all H3 dG kv gk i hi
        have g4 := DGet.k (k := Sum.inl (i : Int)) (s4 _ _ gk.at')
        rw [e1] at g4
        refine gYes ?_
        obtain ⟨ys, y1, y2, y3⟩ := hT4.snoc (t := tp) (x := Mir.ow (Mir.frm rs) i) (s4 _ _ e2)
        refine ⟨_, rfl, _, rfl, dG, _, rfl, g4, _, y1, small1000 (by rw [y2, List.length_map, List.length_range]; omega), _, rfl, s4.upd hD, ?_⟩
        rw [List.range_succ, List.map_append]
        exact y3
      · rintro σ H4 ⟨v, rfl, s4, hT4⟩
        have e : (((Mir.iV rs).length : Nat) + 1 : Int).toNat = rs.length + 1 := by rw [ivl]; omega
        rw [e, fin] at hT4
        exact k D H4 (s3.free hD) (s3.trans s4) hT4
end
section
variable {P : Program} {w : World} {K : PySem.W.Frag} {mg : Str → Option Value} {base : Heap}
theorem ok_knots_in {f f1 f2 f3 f4 f5 : Addr} {fd fd1 fd2 fd3 fd4 fd5 : FuncData} (B : Bl mg) (F : Fn K mg "knots_in" s_knots_in ["row"] f fd) (F_framed : Fn K mg "framed" s_framed ["row"] f1 fd1) (F_kin_end : Fn K mg "kin_end" s_kin_end ["numbers", "first"] f2 fd2) (F_kin_spans : Fn K mg "kin_spans" s_kin_spans ["row"] f3 fd3) (F_gap_kins : Fn K mg "gap_kins" s_gap_kins ["row"] f4 fd4) (F_open_gaps : Fn K mg "open_gaps" s_open_gaps ["row"] f5 fd5) : FnOk P w K mg base CX0 4 f fd ["row"] Mir.spKnots := by
  have G_framed : FnOk P w K mg base CX0 1 f1 fd1 ["row"] Mir.spFramed := ok_framed B F_framed
  have G_gap_kins : FnOk P w K mg base CX0 3 f4 fd4 ["row"] Mir.spGapKins := ok_gap_kins B F_gap_kins F_framed F_kin_end F_kin_spans
  have G_open_gaps : FnOk P w K mg base CX0 2 f5 fd5 ["row"] Mir.spOpenGaps := ok_open_gaps B F_open_gaps F_framed
  refine F.fn.ok sc_knots_in (fun vs H Q E h => ?_) (fun cdv A outer s H vs Q E hr h => ?_)
  · obtain ⟨t, rs, rfl, _⟩ := h
    rfl
  · obtain ⟨t, rs, rfl, ht, fit, k⟩ := h
    have hu := hu_of hr
    have hn := fit.small
    refine ⟨_, (pss_cons (ps_set (i := 1) sc_knots_in.nd rfl (Or.inl rfl) (pe_fn G_framed F_framed (hr.mono (by decide)) (pa_cons (pv 0) pa_nil)))
      (pss_cons (ps_set (i := 2) sc_knots_in.nd rfl (Or.inl rfl) (pe_fn G_gap_kins F_gap_kins (hr.mono (by decide)) (pa_cons (pv 0) pa_nil)))
      (pss_cons (ps_set (i := 3) sc_knots_in.nd rfl (Or.inl rfl) pe_dnewT)
      (pss_cons (ps_for PassesOwn.never rfl (pi_list (pe_fn G_open_gaps F_open_gaps (hr.mono (by decide)) (pa_cons (pv 0) pa_nil))) (pg_name (i := 4) sc_knots_in.nd rfl (Or.inl rfl)) (pss_cons (ps_set (i := 5) sc_knots_in.nd rfl (Or.inl rfl) (pe_dsetT hu (pv 3) (pe_ix ix_list (pv 2) (pv 4) (fun _ _ => rfl)) (pe_lst pa_nil) ⟨rfl, rfl, rfl, rfl⟩))
      (pss_one (ps_expr (pe_bm PySem.F.plainAttrs_list PySem.F.slot_list_extend PySem.F.type_list_extend mt_extend (pv 5) (pa_cons (pe_lst (pa_cons (pe_cmpR op_lt (pe_ix ix_tup (pv 1) (pv 4) (fun _ _ => rfl)) pe_int (nomark _)) (pa_cons (pe_cmpR op_lt (pe_ix ix_tup (pv 1) (pe_op op_add (pv 4) pe_int) (fun _ _ => rfl)) pe_int (nomark _)) pa_nil))) pa_nil))))))
      (pss_one (ps_ret (pe_callB (call_sortedP64 false) rfl B.sorted bb_sorted (pa_cons (pe_comp (NC := ["kin", "beside"]) rfl (compOk0 rfl (by decide +kernel) (by decide +kernel)) (pi_its (pv 3)) (fun _ _ _ _ => (pg_tupK (K := K) (n := 2) rfl rfl (pgs_cons (pg_name (i := 0) (show (["kin", "beside"] : List Str).Nodup by decide +kernel) rfl (Or.inl rfl)) (pgs_cons (pg_name (i := 1) (show (["kin", "beside"] : List Str).Nodup by decide +kernel) rfl (Or.inl rfl)) pgs_nil)))) (fun _ _ _ _ => (pts_one (PW.pt (pw_or (pt_val (pe_callB (call_all_bl rfl) rfl B.all bb_all (pa_cons (pv 1) pa_nil))) (pw_or1 (pt_not (pt_val (pe_callB (call_any_bl rfl) rfl B.any bb_any (pa_cons (pv 1) pa_nil))))))))) (fun _ _ _ _ => (pv 0))) pa_nil)))))))), ?_⟩
    have fl := Mir.frm_len rs
    have lim : ∀ x : Nat, x ≤ 5000 → x < sizeLine := fun x hx => Nat.lt_of_le_of_lt hx (by decide)
    refine ⟨_, rfl, t, rs, rfl, ht, by omega, fun tN H1 s1 hN => ?_⟩
    refine ⟨_, rfl, t, rs, rfl, s1 _ _ ht, fit, fun lB H2 hlB s2 hB => ?_⟩
    intro d hd
    have s3 : Same H2 (upd H2 d (.dT [])) := same_upd hd
    refine ⟨_, rfl, t, rs, rfl, s3 _ _ (s2 _ _ (s1 _ _ ht)), by omega, fun lO H4 hlO s4 hO => ?_⟩
    have hd4 : H4 d = some (.dT []) := s4 _ _ upd_same
    have s24 : Same H2 (Mir.wo H4 d) := Mir.same_wo (s3.trans s4) hd
    have nOd : lO ≠ d := fun z => by rw [z, upd_same] at hlO; cases hlO
    have hO0 : Mir.wo H4 d lO = some (.lst (Mir.iV (Mir.openL (Mir.frm rs) (rs.length + 1)))) := by rw [Mir.wo_ne nOd]; exact hO
    have sH : Same H (Mir.wo H4 d) := (s1.trans s2).trans s24
    have hN0 := s24 _ _ (s2 _ _ hN)
    have hB0 := hB.same s24
    have hd0 : Mir.wo H4 d d = none := Mir.wo_at
    have s04 : Same (Mir.wo H4 d) H4 := Mir.wo_same
    generalize Mir.wo H4 d = H0 at s24 hO0 sH hN0 hB0 hd0 s04
    rw [Mir.openL_opn] at hO0 hO
    have hL : ∀ g ∈ Mir.opn (Mir.frm rs) (rs.length + 1), g < rs.length + 1 := fun g hg => Mir.opn_mem hg
    have lL := Mir.opn_len (Mir.frm rs) (rs.length + 1)
    generalize Mir.opn (Mir.frm rs) (rs.length + 1) = L at hO0 hO hL lL k
    have eL : ∀ (i : Nat) (g : Nat), L[i]? = some g → (Mir.iV (L.map fun (g : Nat) => (g : Int)))[i]? = some (.int (g : Int)) := fun i g e => by
      unfold Mir.iV
      rw [List.getElem?_map, List.getElem?_map, e]
      rfl
    have lenL : (Mir.iV (L.map fun (g : Nat) => (g : Int))).length = L.length := by rw [Mir.iV_len, List.length_map]
    refine ⟨lO, rfl, ⟨_, SqL.of hO⟩, for_list (K := K) (a := lO) (xs := Mir.iV (L.map fun (g : Nat) => (g : Int))) (fun i σ H5 => ∃ (v4 v5 : Option V) (kvs : List (List Key × V)) (ps : List (Int × Int)) (as : List Addr), σ = [some (.ref t), some (.ref tN), some (.ref lB), some (.ref d), v4, v5] ∧ Same H0 H5 ∧ Mir.KD H0 H5 d kvs ps as (Mir.sgl (Mir.frm rs) (L.take i)) ∧ kvs.length ≤ i)
      ⟨none, none, [], [], [], rfl, s04, ⟨hd4, rfl, rfl, List.nodup_nil, List.nodup_nil, fun j a p e => (nomatch e), fun a ha => absurd ha List.not_mem_nil, fun p => ⟨fun z => absurd z List.not_mem_nil, fun z => absurd rfl z⟩⟩, Nat.le_refl _⟩ (fun i σ H5 _ ⟨_, _, _, _, _, _, s5, _⟩ => SqL.of (s5 _ _ hO0)) ?_ ?_⟩
    · rintro i y σ H5 hy ⟨v4, v5, kvs, ps, as, rfl, s5, kd, lk⟩
      have hi : i < L.length := by have := (List.getElem?_eq_some_iff.mp hy).1; rw [lenL] at this; exact this
      have ei : L[i]? = some L[i] := List.getElem?_eq_getElem hi
      rw [eL i _ ei] at hy
      obtain rfl := Option.some.inj hy
      have hg := hL _ (List.getElem_mem hi)
      have etk : L.take (i + 1) = L.take i ++ [L[i]] := Mir.take_snoc ei
      generalize L[i] = g at ei hg etk
      have egl : (Mir.gapL rs)[g]? = some (Mir.ow (Mir.frm rs) g) := by
        unfold Mir.gapL
        rw [List.getElem?_map, List.getElem?_range hg]
        rfl
      obtain ⟨vB, tB, b1, b2, b3⟩ := hB0.get egl
      have fNext : ∀ q, q ≠ Mir.ow (Mir.frm rs) g → Mir.sgl (Mir.frm rs) (L.take (i + 1)) q = Mir.sgl (Mir.frm rs) (L.take i) q := fun q hq => by
        rw [etk, Mir.sgl_snoc, if_neg fun z => hq z.symm]
      have fThis : Mir.sgl (Mir.frm rs) (L.take (i + 1)) (Mir.ow (Mir.frm rs) g) = Mir.sgl (Mir.frm rs) (L.take i) (Mir.ow (Mir.frm rs) g) ++ [decide ((Mir.frm rs).getD g 0 < 0), decide ((Mir.frm rs).getD (g + 1) 0 < 0)] := by
        rw [etk, Mir.sgl_snoc, if_pos rfl]
      have sl : (Mir.sgl (Mir.frm rs) (L.take i) (Mir.ow (Mir.frm rs) g)).length ≤ 100 := Nat.le_trans (Mir.sgl_len _ _ _) (by rw [List.length_take]; omega)
      generalize Mir.sgl (Mir.frm rs) (L.take (i + 1)) = F' at fNext fThis
      generalize Mir.sgl (Mir.frm rs) (L.take i) = F at fNext fThis sl kd
      generalize Mir.ow (Mir.frm rs) g = p at b3 fNext fThis sl
      have e1 : (g : Int) + 1 = ((g + 1 : Nat) : Int) := by omega
      have gN1 := Mir.iV_get0 (rs := Mir.frm rs) (j := g) (by omega)
      have gN2 := Mir.iV_get0 (rs := Mir.frm rs) (j := g + 1) (by omega)
      refine ⟨_, rfl, d, rfl, .inr ⟨_, .inl kd.at'⟩, _, rfl, _, rfl, lB, _, _, _, rfl, rfl, SqL.of (s5 _ _ b1), atI_nat b2, by show 0 ≤ sizeLine; decide, fun n hnn => ?_⟩
      have s6 : Same H5 (upd H5 n (.lst [])) := same_upd hnn
      have kd6 := kd.same s6
      have hn6 : upd H5 n (.lst []) n = some (.lst []) := upd_same
      have hn0 : H0 n = none := s5.free hnn
      have nas : n ∉ as := fun z => by
        obtain ⟨j, hj⟩ := List.getElem?_of_mem z
        have hl := kd.len
        have hj2 : j < ps.length := by rw [← hl.2]; exact (List.getElem?_eq_some_iff.mp hj).1
        have := kd.lst j n _ hj (List.getElem?_eq_getElem hj2)
        rw [hnn] at this
        cases this
      have s06 := s5.trans s6
      generalize upd H5 n (.lst []) = H6 at s6 kd6 hn6 s06
      refine ⟨kvs, Mir.kp p, tB, kd6.at', rfl, s06 _ _ b3, lim _ (by omega), fun v hv => ?_, fun hv => ?_⟩
      · obtain ⟨a, ev, ha, ha0, _⟩ := kd6.old (F' := F') hv fThis fNext
        subst ev
        refine ⟨_, rfl, .inl ⟨rfl, _, SqL.of ha⟩, _, rfl, _, rfl, tN, _, _, _, rfl, rfl, SqT.of (s06 _ _ hN0), atI_nat gN1, _, _, rfl, rfl, _, rfl, _, rfl, _, _, rfl, rfl, tN, _, _, _, rfl, rfl, SqT.of (s06 _ _ hN0), (by rw [e1]; exact atI_nat gN2), _, _, rfl, rfl, by show 2 ≤ sizeLine; decide, fun l2 hl2 => ?_⟩
        have s7 : Same H6 (upd H6 l2 (.lst [.bl (decide ((Mir.frm rs).getD g 0 < 0)), .bl (decide ((Mir.frm rs).getD (g + 1) 0 < 0))])) := same_upd hl2
        have h27 : upd H6 l2 (.lst [.bl (decide ((Mir.frm rs).getD g 0 < 0)), .bl (decide ((Mir.frm rs).getD (g + 1) 0 < 0))]) l2 = some (.lst [.bl (decide ((Mir.frm rs).getD g 0 < 0)), .bl (decide ((Mir.frm rs).getD (g + 1) 0 < 0))]) := upd_same
        generalize upd H6 l2 (.lst [.bl (decide ((Mir.frm rs).getD g 0 < 0)), .bl (decide ((Mir.frm rs).getD (g + 1) 0 < 0))]) = H7 at s7 h27
        obtain ⟨a', ev, ha', _, kd8⟩ := (kd6.same s7).old (F' := F') hv fThis fNext
        injection ev with ev
        subst ev
        exact ⟨a, l2, _, _, rfl, rfl, ha', h27, Nat.le_of_lt (lim _ (by rw [List.length_map]; show _ + 2 ≤ _; omega)), _, _, kvs, ps, as, rfl, (s06.trans s7).upd ha0, kd8, by omega⟩
      · have ndn : d ≠ n := fun z => by have := kd6.at'; rw [z, hn6] at this; cases this
        have F0 : F p = [] := Classical.byContradiction fun c => by
          have hp := (kd6.mem p).mpr c
          obtain ⟨j, hj⟩ := List.getElem?_of_mem hp
          have hl := kd6.len
          have hj2 : j < as.length := by rw [hl.2]; exact (List.getElem?_eq_some_iff.mp hj).1
          have := Mir.val_at kd6.nk (kd6.key (List.getElem?_eq_getElem hj2) hj)
          rw [hv] at this
          cases this
        have hn7 : upd H6 d (.dT (putK kvs (Mir.kp p) (.ref n))) n = some (.lst []) := by rw [upd_ne (Ne.symm ndn)]; exact hn6
        have s07 : Same H0 (upd H6 d (.dT (putK kvs (Mir.kp p) (.ref n)))) := s06.upd hd0
        refine ⟨_, rfl, .inl ⟨rfl, _, SqL.of hn7⟩, _, rfl, _, rfl, tN, _, _, _, rfl, rfl, SqT.of (s07 _ _ hN0), atI_nat gN1, _, _, rfl, rfl, _, rfl, _, rfl, _, _, rfl, rfl, tN, _, _, _, rfl, rfl, SqT.of (s07 _ _ hN0), (by rw [e1]; exact atI_nat gN2), _, _, rfl, rfl, by show 2 ≤ sizeLine; decide, fun l2 hl2 => ?_⟩
        have n2d : l2 ≠ d := fun z => by rw [z, upd_same] at hl2; cases hl2
        have hl26 : H6 l2 = none := by rw [upd_ne n2d] at hl2; exact hl2
        have n2n : n ≠ l2 := fun z => by rw [← z, hn6] at hl26; cases hl26
        have s8 : Same H6 (upd H6 l2 (.lst [.bl (decide ((Mir.frm rs).getD g 0 < 0)), .bl (decide ((Mir.frm rs).getD (g + 1) 0 < 0))])) := same_upd hl26
        have kd8 := (kd6.same s8).fresh (F' := F') (xs := [decide ((Mir.frm rs).getD g 0 < 0), decide ((Mir.frm rs).getD (g + 1) 0 < 0)]) hv (s8 _ _ hn6) hn0 nas F0 (by rw [fThis, F0]; rfl) (List.cons_ne_nil _ _) fNext
        rw [Mir.upd_swap n2d] at kd8
        have lk' := length_putK kvs (Mir.kp p) (V.ref n)
        exact ⟨n, l2, _, _, rfl, rfl, by rw [upd_ne n2n]; exact hn7, upd_same, by show 2 ≤ sizeLine; decide, _, _, _, _, _, rfl, ((s07.upd (s06.free hl26)).upd hn0), kd8, by omega⟩
    · rintro σ H5 ⟨v4, v5, kvs, ps, as, rfl, s5, kd, lk⟩
      rw [lenL, List.take_length] at kd
      rw [lenL] at lk
      have hl := kd.len
      refine ⟨_, rfl, d, kvs, rfl, kd.at', fun ob D hD => ?_⟩
      have hD5 : H5 D = none := by
        by_cases e : D = d
        · rw [e, upd_same] at hD; cases hD
        · rwa [upd_ne e] at hD
      have hd6 : upd H5 d (.frz ob (.dT kvs)) d = some (.frz ob (.dT kvs)) := upd_same
      have s6 : Same H0 (upd H5 d (.frz ob (.dT kvs))) := s5.upd hd0
      have ls6 : ∀ (j : Nat) (a : Addr) (p : Int × Int), as[j]? = some a → ps[j]? = some p → upd H5 d (.frz ob (.dT kvs)) a = some (.lst ((Mir.sgl (Mir.frm rs) L p).map V.bl)) := fun j a p h1 h2 => by
        have z := kd.lst j a p h1 h2
        rw [upd_ne fun q => by have := kd.at'; rw [← q, z] at this; cases this]
        exact z
      generalize upd H5 d (.frz ob (.dT kvs)) = H6 at hD hd6 s6 ls6 ⊢
      refine comp_its (fun i σ H7 => ∃ v v' : Option V, σ = [v, v'] ∧ Same H6 H7 ∧ Mir.TsT Mir.pr H7 D ((ps.take i).filter (Mir.bySigns (Mir.frm rs) L))) ⟨none, none, rfl, same_upd hD, Mir.TsT.nil upd_same⟩ (fun i σ H7 _ ⟨_, _, _, s7, _⟩ => s7 _ _ hd6) ?_ ?_
      · rintro i tp b kk v σ H7 hy ⟨v, v', rfl, s7, hT7⟩ htp hb
        have hi : i < ps.length := by rw [← hl.1]; exact (List.getElem?_eq_some_iff.mp hy).1
        have hia : i < as.length := by omega
        have ep := List.getElem?_eq_getElem hi
        have ea := List.getElem?_eq_getElem hia
        rw [kd.key ea ep] at hy
        injection hy with hy
        injection hy with hy1 hy2
        subst hy1 hy2
        have s8 : Same H7 (upd H7 tp (.tup [.ref b, .ref as[i]])) := same_upd htp
        have ha := s8 _ _ (s7 _ _ (ls6 i _ _ ea ep))
        refine ⟨tp, _, rfl, SqT.of upd_same, rfl, _, _, rfl, _, _, rfl, rfl, ?_⟩
        refine ⟨_, rfl, as[i], _, rfl, ha, _, rfl, ?_⟩
        have es : (ps.take (i + 1)).filter (Mir.bySigns (Mir.frm rs) L) = (ps.take i).filter (Mir.bySigns (Mir.frm rs) L) ++ (if Mir.bySigns (Mir.frm rs) L ps[i] = true then [ps[i]] else []) := by
          rw [Mir.take_snoc ep, List.filter_append, List.filter_cons, List.filter_nil]
        obtain ⟨ys, y1, y2, y3⟩ := (hT7.same s8).snoc (t := b) (x := ps[i]) (s8 _ _ hb)
        have yl : ys.length < sizeLine := lim _ (by rw [y2]; exact Nat.le_trans (List.length_filter_le _ _) (by rw [List.length_take]; omega))
        have hs8 : Same H6 (upd (upd H7 tp (.tup [.ref b, .ref as[i]])) D (.lst (ys ++ [.ref b]))) := (s7.trans s8).upd hD
        refine ite2 (fun h1 => ?_) (fun h1 => ?_)
        · have bt : Mir.bySigns (Mir.frm rs) L ps[i] = true := by unfold Mir.bySigns; rw [h1]; rfl
          rw [if_pos bt] at es
          dsimp only
          rw [if_pos rfl]
          exact ⟨_, rfl, ys, y1, yl, _, _, rfl, hs8, by rw [es]; exact y3⟩
        · refine ⟨_, rfl, as[i], _, rfl, ha, _, rfl, ?_⟩
          refine ite2 (fun h2 => ?_) (fun h2 => ?_)
          · have bt : Mir.bySigns (Mir.frm rs) L ps[i] = true := by unfold Mir.bySigns; rw [h2]; exact Bool.or_true _
            rw [if_pos bt] at es
            exact ⟨_, rfl, ys, y1, yl, _, _, rfl, hs8, by rw [es]; exact y3⟩
          · have bt : ¬ Mir.bySigns (Mir.frm rs) L ps[i] = true := by
              unfold Mir.bySigns
              rw [Bool.or_eq_true]
              exact fun z => z.elim h1 h2
            rw [if_neg bt, List.append_nil] at es
            exact ⟨_, _, rfl, s7.trans s8, by rw [es]; exact hT7.same s8⟩
      · rintro σ H7 ⟨v, v', rfl, s7, hT7⟩
        rw [hl.1, List.take_length] at hT7
        obtain ⟨ts, g, c1, c2, c3, c4⟩ := Mir.sorted_pairs hT7 (fun p hp => Mir.kin_rng fit (Mir.sgl_kin fit hL ((kd.mem p).mp (List.mem_filter.mp hp).1)))
        have tl : ts.length < 64 := by
          rw [c2]
          exact Nat.lt_of_le_of_lt (List.length_filter_le _ _) (by omega)
        refine ⟨D, ts, g, rfl, SqL.of c1, tl, c3, fun us l hp hs hl7 => ?_⟩
        obtain ⟨M, m1, m2, m3⟩ := c4 us hp hs
        have eM := Mir.knot_srt fit hL kd.np kd.mem m1 m2
        have s8 : Same H7 (upd H7 l (.lst (us.map V.ref))) := same_upd hl7
        have hT8 := m3 _ l s8 upd_same
        rw [eM] at hT8
        exact k l _ (((sH.trans s6).trans s7).free hl7) (((sH.trans s6).trans s7).trans s8) hT8
end
section
variable {P : Program} {w : World} {K : PySem.W.Frag} {mg : Str → Option Value} {base : Heap}
theorem ok_law_cell_at {f : Addr} {fd : FuncData} (B : Bl mg) (F : Fn K mg "_law_cell_at" s_law_cell_at ["script", "k"] f fd) : FnOk P w K mg base CX0 1 f fd ["script", "k"] (Mir.spCellAt K) := by
  refine F.fn.ok sc_law_cell_at (fun vs H Q E h => ?_) (fun cdv A outer s H vs Q E hr h => ?_)
  · obtain ⟨a, ns, k, rfl, _⟩ := h
    rfl
  · obtain ⟨a, ns, k, rfl, hS, q⟩ := h
    refine ⟨_, pss_cons (ps_if (pt_cmpR op_lt (pv 1) (pe_callB call_len_seq rfl B.len bb_len (pa_cons (pv 0) pa_nil)) (nomark _)) (pss_one (ps_ret (pe_ix ix_list (pv 0) (pv 1) (fun _ _ => rfl)))) pss_nil) (pss_one (ps_ret pe_int)), ?_⟩
    refine ⟨_, rfl, _, rfl, a, _, rfl, .inl hS, _, _, rfl, rfl, _, rfl, ?_⟩
    refine ite2 (fun h1 => ?_) (fun h1 => ?_)
    · have h1 := of_decide_eq_true h1
      rw [List.length_map] at h1
      have hk : k < ns.length := by omega
      have e : (ns.map V.int)[k]? = some (.int ns[k]) := by rw [List.getElem?_map, List.getElem?_eq_getElem hk]; rfl
      exact ⟨_, rfl, _, rfl, a, _, _, _, rfl, rfl, hS, atI_nat e, q _⟩
    · exact q 0
end
section
variable {P : Program} {w : World} {K : PySem.W.Frag} {mg : Str → Option Value} {base : Heap}
theorem ok_law_row_of_kins {f fC : Addr} {fd fdC : FuncData} (B : Bl mg) (F : Fn K mg "_law_row_of_kins" s_law_row_of_kins ["script", "at", "many"] f fd) (F_law_cell_at : Fn K mg "_law_cell_at" s_law_cell_at ["script", "k"] fC fdC) : FnOk P w K mg base CX0 2 f fd ["script", "at", "many"] (Mir.spRowOfKins K) := by
  have G_law_cell_at : FnOk P w K mg base CX0 1 fC fdC ["script", "k"] (Mir.spCellAt K) := ok_law_cell_at B F_law_cell_at
  refine F.fn.ok sc_law_row_of_kins (fun vs H Q E h => ?_) (fun cdv A outer s H vs Q E hr h => ?_)
  · obtain ⟨a, ns, at', many, rfl, _⟩ := h
    rfl
  · obtain ⟨a, ns, at', many, rfl, hS, hm, k⟩ := h
    let Pv : Nat → St → Hp → Prop := fun i σ H2 => ∃ (l : Addr) (rs : List Int) (v4 v5 v6 v7 : Option V), σ = [some (.ref a), some (.int at'), some (.int many), some (.ref l), v4, v5, v6, v7] ∧ Same H H2 ∧ H l = none ∧ H2 l = some (.lst (Mir.iV rs)) ∧ rs.length = i ∧ Mir.Rw rs
    let R1 : TS := fun D σ H2 => ∃ (i : Nat) (l : Addr) (rs : List Int) (c : Int) (v6 v7 : Option V), σ = [some (.ref a), some (.int at'), some (.int many), some (.ref l), some (.int i), some (.int c), v6, v7] ∧ i < many ∧ Same H H2 ∧ H l = none ∧ H2 l = some (.lst (Mir.iV rs)) ∧ rs.length = i ∧ Mir.Rw rs ∧ ∀ σ' H', Pv (i + 1) σ' H' → D.nx σ' H'
    let R2 : TS := fun D σ H2 => ∃ (i f : Nat) (l q : Addr) (rs ss : List Int) (c : Int), σ = [some (.ref a), some (.int at'), some (.int many), some (.ref l), some (.int i), some (.int c), some (.int f), some (.ref q)] ∧ i < many ∧ Same H H2 ∧ H2 l = some (.lst (Mir.iV rs)) ∧ H2 q = some (.lst (Mir.iV ss)) ∧ rs.length = i + 1 ∧ f ≤ i + 1 ∧ (Mir.absL ss).Perm (Mir.absL (rs.drop f)) ∧ Mir.Rw rs ∧ ∀ σ' H', Pv (i + 1) σ' H' → D.nx σ' H'
    have inj : ∀ {x y : Int}, decide (V.int x = V.int y) = true → x = y := fun h => by injection of_decide_eq_true h
    refine ⟨_, (pss_cons (ps_set (i := 3) sc_law_row_of_kins.nd rfl (Or.inl rfl) (pe_lst pa_nil))
      (pss_cons (ps_for PassesOwn.never rfl (pi_range1 rfl B.range (pa_cons (pv 2) pa_nil)) (pg_name (i := 4) sc_law_row_of_kins.nd rfl (Or.inl rfl)) (pss_cons (ps_set (i := 5) sc_law_row_of_kins.nd rfl (Or.inl rfl) (pe_op op_mod (pe_fn G_law_cell_at F_law_cell_at (hr.mono (by decide)) (pa_cons (pv 0) (pa_cons (pe_op op_add (pv 1) (pv 4)) pa_nil))) (pe_op op_pow pe_int pe_int)))
      (pss_cons (ps_if (PW.pt (pw_and (pt_cmpR op_eq (pe_op op_mod (pe_op op_fdiv (pv 5) pe_int) pe_int) pe_int (nomark _)) (pw_and1 (pt_cmpR op_gt (pe_callB call_len_seq rfl B.len bb_len (pa_cons (pv 3) pa_nil)) pe_int (nomark _))))) (pss_one (ps_set (i := 3) sc_law_row_of_kins.nd rfl (Or.inl rfl) (pe_op op_cat (pe_slice sl_list (pv 3) (po_some pe_int) po_none) (pe_lst (pa_cons (pe_ix ix_list (pv 3) pe_int (fun _ _ => rfl)) pa_nil))))) pss_nil)
      (ps_sem (R := R1) fun D σ H2 hR => ?rest))))
      (pss_one (ps_ret (pe_callTy call_tuple_any rfl B.tuple bb_tuple (pa_cons (pv 3) pa_nil)))))), ?_⟩
    case rest =>
      obtain ⟨i, l, rs, c, v6, v7, rfl, hi, s2, hln, hl, hrl, hw, hD⟩ := hR
      refine ⟨_, (pss_cons (ps_expr (pe_bm PySem.F.plainAttrs_list PySem.F.slot_list_append PySem.F.type_list_append mt_append (pv 3) (pa_cons (pe_op op_add (pv 4) pe_int) pa_nil)))
      (pss_one (ps_if (pt_cmpR op_gt (pe_op op_mod (pv 5) pe_int) pe_int (nomark _)) (pss_cons (ps_set (i := 6) sc_law_row_of_kins.nd rfl (Or.inl rfl) (pe_callB (call_max2 rfl) rfl B.max bb_max (pa_cons pe_int (pa_cons (pe_op op_sub (pe_op op_sub (pe_callB call_len_seq rfl B.len bb_len (pa_cons (pv 3) pa_nil)) pe_int) (pe_op op_mod (pe_op op_fdiv (pv 5) pe_int) pe_int)) pa_nil))))
      (pss_cons (ps_set (i := 7) sc_law_row_of_kins.nd rfl (Or.inl rfl) (pe_slice sl_list (pv 3) (po_some (pv 6)) po_none))
      (ps_sem (R := R2) fun D σ H2 hR => ?rest2))) pss_nil))), ?_⟩
      case rest2 =>
        obtain ⟨i, f, l, q, rs, ss, c, rfl, hi, s2, hl, hq, hrl, hf, hp, hw, hD⟩ := hR
        refine ⟨_, (pss_cons (ps_if (pt_cmpR op_eq (pe_op op_mod (pv 5) pe_int) pe_int (nomark _)) (pss_one (ps_set (i := 7) sc_law_row_of_kins.nd rfl (Or.inl rfl) (pe_lrev rfl rfl B.list rfl B.reversed (pa_cons (pv 7) pa_nil)))) pss_nil)
      (ps_sem (R := R2) fun D σ H2 hR => ?rest3)), ?_⟩
        case rest3 =>
          obtain ⟨i, f, l, q, rs, ss, c, rfl, hi, s2, hl, hq, hrl, hf, hp, hw, hD⟩ := hR
          refine ⟨_, (pss_cons (ps_if (pt_cmpR op_eq (pe_op op_mod (pv 5) pe_int) pe_int (nomark _)) (pss_one (ps_comp (ix := 7) (NC := ["number"]) sc_law_row_of_kins.nd rfl (Or.inl rfl) rfl (compOk0 rfl (by decide +kernel) (by decide +kernel)) (pi_rev rfl B.reversed (pa_cons (pv 7) pa_nil)) (fun _ _ _ _ => (pg_name (i := 0) (show (["number"] : List Str).Nodup by decide +kernel) rfl (Or.inl rfl))) (fun _ _ _ _ => pts_nil) (fun _ _ _ _ => (pe_op op_sub pe_int (pv 0))))) pss_nil)
      (ps_sem (R := R2) fun D σ H2 hR => ?rest4)), ?_⟩
          case rest4 =>
            obtain ⟨i, f, l, q, rs, ss, c, rfl, hi, s2, hl, hq, hrl, hf, hp, hw, hD⟩ := hR
            refine ⟨_, (pss_one (ps_set (i := 3) sc_law_row_of_kins.nd rfl (Or.inl rfl) (pe_op op_cat (pe_slice sl_list (pv 3) po_none (po_some (pv 6))) (pv 7)))), ?_⟩
            have ivl : (Mir.iV rs).length = rs.length := Mir.iV_len rs
            refine ⟨_, rfl, _, rfl, _, rfl, l, _, rfl, SqL.of hl, fun p hp1 => ?_⟩
            rw [Mir.cut_to (by rw [ivl]; omega)]
            have s3 : Same H2 (upd H2 p (.lst ((Mir.iV rs).take f))) := same_upd hp1
            have hlen : ss.length = i + 1 - f := by
              have := hp.length_eq
              rw [Mir.absL_len, Mir.absL_len, List.length_drop] at this
              omega
            refine ⟨_, rfl, p, q, _, _, rfl, rfl, upd_same, s3 _ _ hq, Nat.le_of_lt (small1000 (by rw [List.length_take, Mir.iV_len, Mir.iV_len]; omega)), fun p2 hp2 => ?_⟩
            have e : (Mir.iV rs).take f ++ Mir.iV ss = Mir.iV (rs.take f ++ ss) := by rw [Mir.iV_ap]; unfold Mir.iV; rw [List.map_take]
            refine hD _ _ ⟨p2, rs.take f ++ ss, _, _, _, _, rfl, (s2.trans s3).trans (same_upd hp2), (s2.trans s3).free hp2, by rw [upd_same, e], ?_, hw.tail f hp⟩
            rw [List.length_append, List.length_take, hlen]
            omega
          refine ⟨_, rfl, _, _, rfl, rfl, (by show (0 : Int) < 4; decide), rfl, _, rfl, ?_⟩
          refine ite2 (fun h1 => ?_) (fun h1 => ?_)
          · refine ⟨_, rfl, q, _, rfl, SqL.of hq, fun D2 hD2 => comp_rev (K := K) (a := q) (xs := Mir.iV ss) (fun j σ H3 => ∃ v : Option V, σ = [v] ∧ Same H2 H3 ∧ H3 D2 = some (.lst (Mir.iV ((ss.reverse.take j).map fun x => 0 - x)))) ⟨none, rfl, same_upd hD2, upd_same⟩ (fun j σ H3 _ ⟨_, _, s3, _⟩ => SqL.of (s3 _ _ hq)) ?_ ?_⟩
            · rintro j y σ H3 hy ⟨v, rfl, s3, h3⟩
              have e : (Mir.iV ss).reverse = Mir.iV ss.reverse := by unfold Mir.iV; rw [List.map_reverse]
              rw [e] at hy
              obtain ⟨x, hx, rfl⟩ := Mir.iV_get' hy
              have hlen : ss.length = i + 1 - f := by
                have := hp.length_eq
                rw [Mir.absL_len, Mir.absL_len, List.length_drop] at this
                omega
              refine gYes ?_
              refine ⟨_, rfl, _, _, rfl, rfl, _, h3, small1000 (by rw [Mir.iV_len, List.length_map, List.length_take, List.length_reverse]; omega), _, rfl, s3.upd hD2, ?_⟩
              rw [upd_same, Mir.take_snoc hx, List.map_append, Mir.iV_ap]
              rfl
            · rintro σ H3 ⟨v, rfl, s3, h3⟩
              have e : ss.reverse.take (Mir.iV ss).length = ss.reverse := List.take_of_length_le (by rw [Mir.iV_len, List.length_reverse]; exact Nat.le_refl _)
              rw [e] at h3
              exact ⟨i, f, l, D2, rs, _, c, rfl, hi, s2.trans s3, s3 _ _ hl, h3, hrl, hf, (Mir.absL_negrev ss).trans hp, hw, hD⟩
          · exact ⟨i, f, l, q, rs, ss, c, rfl, hi, s2, hl, hq, hrl, hf, hp, hw, hD⟩
        refine ⟨_, rfl, _, _, rfl, rfl, (by show (0 : Int) < 4; decide), rfl, _, rfl, ?_⟩
        refine ite2 (fun h1 => ?_) (fun h1 => ?_)
        · refine ⟨_, rfl, q, _, rfl, SqL.of hq, fun r hr2 => ?_⟩
          have s3 : Same H2 (upd H2 r (.lst (Mir.iV ss).reverse)) := same_upd hr2
          refine ⟨i, f, l, r, rs, ss.reverse, c, rfl, hi, s2.trans s3, s3 _ _ hl, by rw [upd_same]; unfold Mir.iV; rw [List.map_reverse], hrl, hf, (Mir.absL_rev ss).trans hp, hw, hD⟩
        · exact ⟨i, f, l, q, rs, ss, c, rfl, hi, s2, hl, hq, hrl, hf, hp, hw, hD⟩
      have hw2 := hw.snoc
      rw [hrl] at hw2
      have e1 : Mir.iV rs ++ [V.int ((i : Int) + 1)] = Mir.iV (rs ++ [(i : Int) + 1]) := by rw [Mir.iV_ap]; rfl
      refine ⟨_, rfl, .inl ⟨rfl, _, SqL.of hl⟩, _, rfl, _, _, rfl, rfl, l, _, _, rfl, rfl, hl, small1000 (by rw [Mir.iV_len]; omega), ?_⟩
      rw [e1]
      have s3 : Same H (upd H2 l (.lst (Mir.iV (rs ++ [(i : Int) + 1])))) := s2.upd hln
      have hl3 : upd H2 l (.lst (Mir.iV (rs ++ [(i : Int) + 1]))) l = some (.lst (Mir.iV (rs ++ [(i : Int) + 1]))) := upd_same
      generalize upd H2 l (.lst (Mir.iV (rs ++ [(i : Int) + 1]))) = H3 at s3 hl3 ⊢
      have rl : (rs ++ [(i : Int) + 1]).length = i + 1 := by rw [List.length_append, hrl]; rfl
      generalize rs ++ [(i : Int) + 1] = rs2 at hw2 hl3 rl
      have ivl : (((Mir.iV rs2).length : Nat) : Int) = (i : Int) + 1 := by rw [Mir.iV_len, rl]; omega
      refine ⟨_, rfl, _, _, rfl, rfl, (by show (0 : Int) < 4; decide), _, _, rfl, rfl, _, rfl, ?_⟩
      refine ite2 (fun h1 => ?_) (fun h1 => ?_)
      · have g0 : 0 ≤ c / 12 % 4 := Int.emod_nonneg _ (by decide)
        obtain ⟨f, hf, hf2⟩ : ∃ f : Nat, (if ((Mir.iV rs2).length : Int) - 1 - c / 12 % 4 > 0 then ((Mir.iV rs2).length : Int) - 1 - c / 12 % 4 else 0) = f ∧ f ≤ i + 1 := by
          refine ⟨(if ((Mir.iV rs2).length : Int) - 1 - c / 12 % 4 > 0 then ((Mir.iV rs2).length : Int) - 1 - c / 12 % 4 else 0).toNat, ?_, ?_⟩ <;> rw [ivl] <;> split <;> omega
        refine ⟨_, rfl, l, _, rfl, .inl (SqL.of hl3), _, _, rfl, rfl, _, rfl, _, _, rfl, rfl, ⟨by decide, by decide⟩, _, _, rfl, rfl, (by show (0 : Int) < 4; decide), _, _, rfl, rfl, _, _, rfl, ?_⟩
        dsimp only
        rw [hf]
        refine ⟨_, rfl, _, rfl, _, rfl, l, _, rfl, SqL.of hl3, fun q hq => ?_⟩
        rw [Mir.cut_from (by rw [Mir.iV_len]; omega)]
        have s4 : Same H3 (upd H3 q (.lst ((Mir.iV rs2).drop f))) := same_upd hq
        exact ⟨i, f, l, q, rs2, rs2.drop f, c, rfl, hi, s3.trans s4, s4 _ _ hl3, by rw [upd_same]; unfold Mir.iV; rw [List.map_drop], rl, hf2, List.Perm.refl _, hw2, hD⟩
      · exact hD _ _ ⟨l, rs2, _, _, _, _, rfl, s3, hln, hl3, rl, hw2⟩
    refine ⟨by show 0 ≤ sizeLine; decide, fun l0 hl0 => ?_⟩
    have s0 : Same H (upd H l0 (.lst [])) := same_upd hl0
    refine ⟨_, rfl, _, rfl, by omega, by omega, for_range (lo := 0) (n := ((many : Nat) : Int).toNat) Pv ⟨l0, [], none, none, none, none, rfl, s0, hl0, upd_same, rfl, List.Perm.refl _⟩ ?_ ?_⟩
    · rintro i σ H2 hi ⟨l, rs, v4, v5, v6, v7, rfl, s2, hln, hl, hrl, hw⟩
      have hi' : i < many := by omega
      rw [Int.zero_add]
      have p12 : (0 : Int) < 10 ^ (12 : Int).toNat := by decide +kernel
      have hrl2 : (((Mir.iV rs).length : Nat) : Int) = i := by rw [Mir.iV_len, hrl]
      have ea : (at' : Int) + (i : Int) = ((at' + i : Nat) : Int) := by omega
      refine ⟨_, rfl, _, rfl, _, rfl, _, _, rfl, rfl, a, ns, at' + i, (by show [V.ref a, V.int ((at' : Int) + (i : Int))] = _; rw [ea]), s2.seq hS, fun c => ?_⟩
      refine ⟨_, _, rfl, rfl, ⟨by decide, by decide, by decide⟩, _, _, rfl, rfl, p12, ?_⟩
      dsimp only
      generalize c % 10 ^ (12 : Int).toNat = d
      refine ⟨_, rfl, _, _, rfl, rfl, ⟨by decide, by decide⟩, _, _, rfl, rfl, (by show (0 : Int) < 3; decide), rfl, _, rfl, ?_⟩
      refine ite2 (fun h1 => ?_) (fun h1 => ?_)
      · refine ⟨_, rfl, l, _, rfl, .inl (SqL.of hl), _, _, rfl, rfl, _, rfl, ?_⟩
        refine ite2 (fun h2 => ?_) (fun h2 => ?_)
        · have h2 := of_decide_eq_true h2
          rw [hrl2] at h2
          have r0 : rs[0]? = some (rs.getD 0 0) := Mir.getD_get (by omega)
          refine ⟨_, rfl, _, rfl, l, _, rfl, SqL.of hl, fun p hp => ?_⟩
          have ec : cutV (Mir.iV rs) (some 1) none = (Mir.iV rs).drop 1 := Mir.cut_from (k := 1) (by rw [Mir.iV_len]; omega)
          rw [ec]
          have s3 : Same H2 (upd H2 p (.lst ((Mir.iV rs).drop 1))) := same_upd hp
          have hp3 : upd H2 p (.lst ((Mir.iV rs).drop 1)) p = some (.lst ((Mir.iV rs).drop 1)) := upd_same
          generalize upd H2 p (.lst ((Mir.iV rs).drop 1)) = H3 at s3 hp3 ⊢
          refine ⟨_, rfl, l, _, _, _, rfl, rfl, SqL.of (s3 _ _ hl), (show atI (Mir.iV rs) 0 = some (.int (rs.getD 0 0)) from atI_nat (j := 0) (Mir.iV_get0 (by omega))), by show 1 ≤ sizeLine; decide, fun q hq => ?_⟩
          have s4 : Same H3 (upd H3 q (.lst [.int (rs.getD 0 0)])) := same_upd hq
          refine ⟨p, q, _, _, rfl, rfl, s4 _ _ hp3, upd_same, Nat.le_of_lt (small1000 (by rw [List.length_drop, Mir.iV_len]; show _ + 1 ≤ 1000; omega)), fun r hr2 => ?_⟩
          have e : (Mir.iV rs).drop 1 ++ [V.int (rs.getD 0 0)] = Mir.iV (rs.drop 1 ++ [rs.getD 0 0]) := by rw [Mir.iV_ap]; unfold Mir.iV; rw [List.map_drop]; rfl
          have s24 := (s2.trans s3).trans s4
          refine ⟨i, r, rs.drop 1 ++ [rs.getD 0 0], d, _, _, rfl, hi', s24.trans (same_upd hr2), s24.free hr2, by rw [upd_same, e], ?_, hw.rot r0, fun σ' H' h => h⟩
          rw [List.length_append, List.length_drop]
          show _ + 1 = _
          omega
        · exact ⟨i, l, rs, d, _, _, rfl, hi', s2, hln, hl, hrl, hw, fun σ' H' h => h⟩
      · exact iteF ⟨i, l, rs, d, _, _, rfl, hi', s2, hln, hl, hrl, hw, fun σ' H' h => h⟩
    · rintro σ H2 ⟨l, rs, v4, v5, v6, v7, rfl, s2, hln, hl, hrl, hw⟩
      have hrl : rs.length = many := by omega
      exact ⟨_, rfl, l, _, rfl, .inl hl, fun t H3 s3 ht => k t H3 rs (s2.trans s3) ht hrl (hw.fit (by omega))⟩
end
section
variable {P : Program} {w : World} {K : PySem.W.Frag} {mg : Str → Option Value} {base : Heap}
theorem ok_law_whole_number {f : Addr} {fd : FuncData} (B : Bl mg) (F : Fn K mg "_law_whole_number" s_law_whole_number ["found"] f fd) : FnOk P w K mg base CX0 1 f fd ["found"] Mir.spWhole := by
  refine F.fn.ok sc_law_whole_number (fun vs H Q E h => ?_) (fun cdv A outer s H vs Q E hr h => ?_)
  · obtain ⟨e, rfl, _⟩ := h
    rfl
  · obtain ⟨e, rfl, q⟩ := h
    refine ⟨_, pss_one (ps_ret (pe_and (pe_callB call_isi rfl B.isinstance bb_isinstance (pa_cons (pv 0) (pa_cons (pe_bltn (v := .ty "int") rfl B.int bb_int rfl) pa_nil)))
      (pe_one (pe_not (pe_callB call_isi rfl B.isinstance bb_isinstance (pa_cons (pv 0) (pa_cons (pe_bltn (v := .ty "bool") rfl B.bool bb_bool rfl) pa_nil))))))), ?_⟩
    refine ⟨_, rfl, _, _, _, _, rfl, .int e, kit_int_int _, _, rfl, iteT ?_⟩
    exact ⟨_, rfl, _, _, _, _, rfl, .int e, kit_int_bool _, _, rfl, q⟩
end
section
variable {P : Program} {w : World} {K : PySem.W.Frag} {mg : Str → Option Value} {base : Heap}
theorem ok_law_row_is {f fH : Addr} {fd fdH : FuncData} (B : Bl mg) (F : Fn K mg "_law_row_is" s_law_row_is ["found", "due"] f fd) (FH : Fn K mg "_law_whole_number" s_law_whole_number ["found"] fH fdH) : FnOk P w K mg base CX0 2 f fd ["found", "due"] Mir.spRowIs := by
  have GH : FnOk P w K mg base CX0 1 fH fdH ["found"] Mir.spWhole := ok_law_whole_number B FH
  refine F.fn.ok sc_law_row_is (fun vs H Q E h => ?_) (fun cdv A outer s H vs Q E hr h => ?_)
  · obtain ⟨a, b, ns, rfl, _⟩ := h
    rfl
  · obtain ⟨a, b, ns, rfl, ha, hb, hn, k⟩ := h
    have hbq : SqL K H b (Mir.iV ns) ∨ SqT K H b (Mir.iV ns) := hb.imp SqL.of SqT.of
    refine ⟨_, pss_cons (ps_if (PW.pt (pw_or (pt_not (pt_val (pe_callB call_isi rfl B.isinstance bb_isinstance (pa_cons (pv 0) (pa_cons (pe_bltn (v := .ty "tuple") rfl B.tuple bb_tuple rfl) pa_nil)))))
          (pw_or1 (pt_cmpR op_ne (pe_callB call_len_seq rfl B.len bb_len (pa_cons (pv 0) pa_nil)) (pe_callB call_len_seq rfl B.len bb_len (pa_cons (pv 1) pa_nil)) (nomark _))))) (pss_one (ps_ret pe_bl)) pss_nil)
      (pss_cons (ps_for PassesOwn.never rfl (pi_range1 rfl B.range (pa_cons (pe_callB call_len_seq rfl B.len bb_len (pa_cons (pv 1) pa_nil)) pa_nil)) (pg_name (i := 2) sc_law_row_is.nd rfl (Or.inl rfl))
        (pss_one (ps_if (PW.pt (pw_or (pt_not (pt_val (pe_fn GH FH hr (pa_cons (pe_ix ix_tup (pv 0) (pv 2) (fun _ _ => rfl)) pa_nil)))) (pw_or1 (pt_cmpR op_ne (pe_ix ix_tup (pv 0) (pv 2) (fun _ _ => rfl)) (pe_ix (ix_any rfl) (pv 1) (pv 2) (fun _ _ => rfl)) (nomark _))))) (pss_one (ps_ret pe_bl)) pss_nil)))
      (pss_one (ps_ret pe_bl))), ?_⟩
    refine ⟨_, rfl, _, _, _, _, rfl, .tup ha, kit_tup_tup _, _, rfl, iteF ?_⟩
    refine ⟨_, rfl, a, _, rfl, .inr (SqT.of ha), _, rfl, b, _, rfl, hbq, rfl, _, rfl, iteNS rfl ?_⟩
    have hlen : (((Mir.iV ns).length : Nat) : Int) = ns.length := by rw [Mir.iV_len]
    refine ⟨_, rfl, b, _, rfl, hbq, _, rfl, by rw [hlen]; omega, by rw [hlen]; omega, for_range (lo := 0) (n := (((Mir.iV ns).length : Nat) : Int).toNat) (fun i σ H2 => ∃ v2 : Option V, σ = [some (.ref a), some (.ref b), v2] ∧ H2 = H) ⟨none, rfl, rfl⟩ ?_ ?_⟩
    · rintro i σ H2 hi ⟨v2, rfl, rfl⟩
      have hi' : i < ns.length := by rw [hlen] at hi; omega
      have e : (Mir.iV ns)[i]? = some (.int ns[i]) := by unfold Mir.iV; rw [List.getElem?_map, List.getElem?_eq_getElem hi']; rfl
      rw [Int.zero_add]
      refine ⟨_, rfl, _, rfl, a, _, _, _, rfl, rfl, SqT.of ha, atI_nat e, _, rfl, _, rfl, iteF ?_⟩
      refine ⟨_, rfl, _, rfl, a, _, _, _, rfl, rfl, SqT.of ha, atI_nat e, _, rfl, _, rfl, b, _, _, _, rfl, rfl, hb, atI_nat e, rfl, _, rfl, iteNS rfl ?_⟩
      exact ⟨_, rfl, rfl⟩
    · rintro σ H2 ⟨v2, rfl, rfl⟩
      exact k
end
section
variable {P : Program} {w : World} {K : PySem.W.Frag} {mg : Str → Option Value} {base : Heap}
theorem ok_law_framed {f : Addr} {fd : FuncData} (B : Bl mg) (F : Fn K mg "_law_framed" s_law_framed ["row"] f fd) : FnOk P w K mg base CX0 1 f fd ["row"] Mir.spLawFramed := by
  refine F.fn.ok sc_law_framed (fun vs H Q E h => ?_) (fun cdv A outer s H vs Q E hr h => ?_)
  · obtain ⟨t, rs, rfl, _⟩ := h
    rfl
  · obtain ⟨t, rs, rfl, ht, hn, k⟩ := h
    refine ⟨_, (pss_one (ps_ret (pe_op op_cat (pe_op op_cat (pe_lst (pa_cons pe_int pa_nil)) (pe_callTy call_list_of rfl B.list bb_list (pa_cons (pv 0) pa_nil))) (pe_lst (pa_cons (pe_op op_add (pe_callB call_len_seq rfl B.len bb_len (pa_cons (pv 0) pa_nil)) pe_int) pa_nil))))), ?_⟩
    have ivl : (Mir.iV rs).length = rs.length := Mir.iV_len rs
    refine ⟨by show 1 ≤ sizeLine; decide, fun p hp => ?_⟩
    have s1 : Same H (upd H p (.lst [.int 0])) := same_upd hp
    have hp1 : upd H p (.lst [.int 0]) p = some (.lst [.int 0]) := upd_same
    generalize upd H p (.lst [.int 0]) = H1 at s1 hp1 ⊢
    refine ⟨_, rfl, t, _, rfl, .inr (SqT.of (s1 _ _ ht)), fun l hl => ?_⟩
    have s2 : Same H1 (upd H1 l (.lst (Mir.iV rs))) := same_upd hl
    have hl2 : upd H1 l (.lst (Mir.iV rs)) l = some (.lst (Mir.iV rs)) := upd_same
    generalize upd H1 l (.lst (Mir.iV rs)) = H2 at s2 hl2 ⊢
    refine ⟨p, l, _, _, rfl, rfl, s2 _ _ hp1, hl2, Nat.le_of_lt (small1000 (by rw [ivl]; show 1 + _ ≤ 1000; omega)), fun q hq => ?_⟩
    have s3 : Same H2 (upd H2 q (.lst ([.int 0] ++ Mir.iV rs))) := same_upd hq
    have hq3 : upd H2 q (.lst ([.int 0] ++ Mir.iV rs)) q = some (.lst ([.int 0] ++ Mir.iV rs)) := upd_same
    generalize upd H2 q (.lst ([.int 0] ++ Mir.iV rs)) = H3 at s3 hq3 ⊢
    have s13 := (s1.trans s2).trans s3
    refine ⟨_, rfl, t, _, rfl, .inr (SqT.of (s13 _ _ ht)), _, _, rfl, rfl, by show 1 ≤ sizeLine; decide, fun r hr' => ?_⟩
    have s4 : Same H3 (upd H3 r (.lst [.int (((Mir.iV rs).length : Nat) + 1)])) := same_upd hr'
    have hr4 : upd H3 r (.lst [.int (((Mir.iV rs).length : Nat) + 1)]) r = some (.lst [.int (((Mir.iV rs).length : Nat) + 1)]) := upd_same
    generalize upd H3 r (.lst [.int (((Mir.iV rs).length : Nat) + 1)]) = H4 at s4 hr4 ⊢
    refine ⟨q, r, _, _, rfl, rfl, s4 _ _ hq3, hr4, Nat.le_of_lt (small1000 (by rw [List.length_append, ivl]; show 1 + _ + 1 ≤ 1000; omega)), fun l' hl' => ?_⟩
    have s14 := s13.trans s4
    refine k l' _ (s14.free hl') (s14.trans (same_upd hl')) ?_
    rw [upd_same, ivl]
    unfold Mir.frm Mir.iV
    rw [List.map_cons, List.map_append]
    rfl
end
section
variable {P : Program} {w : World} {K : PySem.W.Frag} {mg : Str → Option Value} {base : Heap}
theorem ok_law_is_whole {f : Addr} {fd : FuncData} (B : Bl mg) (F : Fn K mg "_law_is_whole" s_law_is_whole ["numbers", "first", "last"] f fd) : FnOk P w K mg base CX0 1 f fd ["numbers", "first", "last"] Mir.spIsWhole := by
  refine F.fn.ok sc_law_is_whole (fun vs H Q E h => ?_) (fun cdv A outer s H vs Q E hr h => ?_)
  · obtain ⟨l, fs, a, b, rfl, _⟩ := h
    rfl
  · obtain ⟨l, fs, a, b, rfl, hl, nd, hbd, hab, hb, hn, k⟩ := h
    have hu := hu_of hr
    have inj : ∀ {x y : Int}, decide (V.int x = V.int y) = true → x = y := fun h => by injection of_decide_eq_true h
    have no : ∀ {x y : Int}, ¬ decide (V.int x = V.int y) = true → x ≠ y := fun h e => h (decide_eq_true (congrArg V.int e))
    refine ⟨_, (pss_cons (ps_set (i := 3) sc_law_is_whole.nd rfl (Or.inl rfl) (pe_callB call_sorted rfl B.sorted bb_sorted (pa_cons (pe_comp (NC := ["number"]) rfl (compOk0 rfl (by decide +kernel) (by decide +kernel)) (pi_list (pe_slice sl_list (pv 0) (po_some (pv 1)) (po_some (pe_op op_add (pv 2) pe_int)))) (fun _ _ _ _ => (pg_name (i := 0) (show (["number"] : List Str).Nodup by decide +kernel) rfl (Or.inl rfl))) (fun _ _ _ _ => pts_nil) (fun _ _ _ _ => (pe_callB call_abs rfl B.abs bb_abs (pa_cons (pv 0) pa_nil)))) pa_nil)))
      (pss_cons (ps_if (pt_cmpR (op_ne_intsD (Nat.lt_of_succ_lt hu)) (pv 3) (pe_callTy (call_list_rng rfl) rfl B.list bb_list (pa_cons (pe_callTy call_rng2 rfl B.range bb_range (pa_cons (pe_ix ix_list (pv 3) pe_int (fun _ _ => rfl)) (pa_cons (pe_op op_add (pe_op op_sub (pe_op op_add (pe_ix ix_list (pv 3) pe_int (fun _ _ => rfl)) (pv 2)) (pv 1)) pe_int) pa_nil))) pa_nil)) (nomark _)) (pss_one (ps_ret pe_bl)) pss_nil)
      (pss_cons (ps_if (PW.pt (pw_and (pt_cmpR op_eq (pe_ix ix_list (pv 0) (pv 1) (fun _ _ => rfl)) (pe_ix ix_list (pv 3) pe_int (fun _ _ => rfl)) (nomark _)) (pw_and1 (pt_cmpR op_eq (pe_ix ix_list (pv 0) (pv 2) (fun _ _ => rfl)) (pe_ix ix_list (pv 3) (pe_un un_neg pe_int) (fun _ _ => rfl)) (nomark _))))) (pss_one (ps_ret pe_bl)) pss_nil)
      (ps_sem (R := fun D σ H2 => ∃ (lS : Addr) (L : List Int), σ = [some (.ref l), some (.int a), some (.int b), some (.ref lS)] ∧ H2 l = some (.lst (Mir.iV fs)) ∧ H2 lS = some (.lst (Mir.iV L)) ∧ L.Perm (Mir.absL (Mir.str fs a b)) ∧ L.Pairwise (· ≤ ·) ∧ Same H H2 ∧ L = Mir.run (L.getD 0 0) (b + 1 - a) ∧ ¬ (fs.getD a 0 = L.getD 0 0 ∧ fs.getD b 0 = L.getD (b - a) 0) ∧ D.rt = Q) fun D σ H2 hR => ?rest)))), ?_⟩
    case rest =>
      obtain ⟨lS, L, rfl, hl4, hS4, pS, sS, s14, h1, hno, hD⟩ := hR
      refine ⟨_, (pss_one (ps_ret (pe_and (pe_cmpR op_eq (pe_ix ix_list (pv 0) (pv 1) (fun _ _ => rfl)) (pe_op op_sub pe_int (pe_ix ix_list (pv 3) (pe_un un_neg pe_int) (fun _ _ => rfl))) (nomark _)) (pe_one (pe_cmpR op_eq (pe_ix ix_list (pv 0) (pv 2) (fun _ _ => rfl)) (pe_op op_sub pe_int (pe_ix ix_list (pv 3) pe_int (fun _ _ => rfl))) (nomark _)))))), ?_⟩
      have hLl : L.length = b - a + 1 := by rw [pS.length_eq, Mir.absL_len, Mir.str_len (Nat.le_of_lt hab) hb]; omega
      have iff := Mir.whole_law nd hab hb pS sS
      have i0 : atI (Mir.iV L) 0 = some (.int (L.getD 0 0)) := atI_nat (j := 0) (Mir.iV_get0 (by omega))
      have i1 : atI (Mir.iV L) (-1) = some (.int (L.getD (b - a) 0)) := Mir.atI_minus hLl
      have ga : atI (Mir.iV fs) (a : Int) = some (.int (fs.getD a 0)) := atI_nat (Mir.iV_get0 (by omega))
      have gb : atI (Mir.iV fs) (b : Int) = some (.int (fs.getD b 0)) := atI_nat (Mir.iV_get0 hb)
      refine ⟨_, rfl, _, rfl, l, _, _, _, rfl, rfl, SqL.of hl4, ga, _, rfl, _, rfl, lS, _, _, _, rfl, rfl, SqL.of hS4, i1, _, _, rfl, rfl, rfl, _, rfl, ?_⟩
      refine ite2 (fun h2 => ?_) (fun h2 => ?_)
      · have h2 := inj h2
        refine ⟨_, rfl, _, rfl, l, _, _, _, rfl, rfl, SqL.of hl4, gb, _, rfl, lS, _, _, _, rfl, rfl, SqL.of hS4, i0, _, _, rfl, rfl, rfl, ?_⟩
        rw [hD]
        refine k _ _ ⟨fun h3 => iff.mp ⟨h1, .inr ⟨h2, inj h3⟩⟩, fun W => ?_⟩ s14
        rcases (iff.mpr W).2 with z | z
        · exact absurd z hno
        · exact decide_eq_true (congrArg V.int z.2)
      · have h2 := no h2
        rw [hD]
        refine k _ _ ⟨fun h3 => (nomatch h3), fun W => ?_⟩ s14
        rcases (iff.mpr W).2 with z | z
        · exact absurd z hno
        · exact absurd z.1 h2
    have ivl : (Mir.iV fs).length = fs.length := Mir.iV_len fs
    have sl := Mir.str_len (Nat.le_of_lt hab) hb
    refine ⟨_, rfl, _, rfl, _, rfl, _, rfl, _, _, rfl, rfl, _, rfl, l, _, rfl, SqL.of hl, fun q hq => ?_⟩
    have ec : cutV (Mir.iV fs) (some (a : Int)) (some ((b : Int) + 1)) = Mir.iV (Mir.str fs a b) := by
      have e1 : (b : Int) + 1 = ((b + 1 : Nat) : Int) := by omega
      rw [e1, Mir.cut_mid (by omega) (by rw [ivl]; omega)]
      unfold Mir.str Mir.iV
      rw [List.map_take, List.map_drop]
    rw [ec]
    have s1 : Same H (upd H q (.lst (Mir.iV (Mir.str fs a b)))) := same_upd hq
    have hq1 : upd H q (.lst (Mir.iV (Mir.str fs a b))) q = some (.lst (Mir.iV (Mir.str fs a b))) := upd_same
    generalize upd H q (.lst (Mir.iV (Mir.str fs a b))) = H1 at s1 hq1 ⊢
    refine ⟨q, rfl, ⟨_, SqL.of hq1⟩, fun D hD => comp_list (K := K) (a := q) (xs := Mir.iV (Mir.str fs a b)) (fun i σ H2 => ∃ v : Option V, σ = [v] ∧ Same H1 H2 ∧ H2 D = some (.lst (Mir.iV (Mir.absL ((Mir.str fs a b).take i))))) ⟨none, rfl, same_upd hD, upd_same⟩ (fun i σ H2 _ ⟨_, _, s2, _⟩ => SqL.of (s2 _ _ hq1)) ?_ ?_⟩
    · rintro i y σ H2 hy ⟨v, rfl, s2, h2⟩
      obtain ⟨x, hx, rfl⟩ := Mir.iV_get' hy
      refine gYes ?_
      refine ⟨_, rfl, _, rfl, _, h2, small1000 (by rw [Mir.iV_len, Mir.absL_len, List.length_take]; omega), _, rfl, s2.upd hD, ?_⟩
      rw [upd_same, Mir.take_snoc hx]
      unfold Mir.absL Mir.iV
      rw [List.map_append, List.map_append]
      rfl
    rintro σ H2 ⟨v, rfl, s2, h2⟩
    rw [Mir.iV_len, List.take_length] at h2
    have al := Mir.absL_len (Mir.str fs a b)
    refine ⟨D, _, rfl, SqL.of h2, by omega, fun L lS pS sS hlS => ?_⟩
    have s3 : Same H2 (upd H2 lS (.lst (Mir.iV L))) := same_upd hlS
    have h3 : upd H2 lS (.lst (Mir.iV L)) lS = some (.lst (Mir.iV L)) := upd_same
    have s13 := (s1.trans s2).trans s3
    generalize hH3 : upd H2 lS (.lst (Mir.iV L)) = H3 at s3 h3 s13
    have h3' := h3
    have hLl : L.length = b - a + 1 := by rw [pS.length_eq, al, sl]; omega
    have iff := Mir.whole_law nd hab hb pS sS
    have er : rngV (L.getD 0 0) (L.getD 0 0 + (b : Int) - (a : Int) + 1 - L.getD 0 0).toNat = Mir.iV (Mir.run (L.getD 0 0) (b + 1 - a)) := by
      have e : (L.getD 0 0 + (b : Int) - (a : Int) + 1 - L.getD 0 0).toNat = b + 1 - a := by omega
      rw [e]
      unfold rngV Mir.run Mir.iV
      rw [List.map_map]
      rfl
    have bd : ∀ x ∈ L, 0 ≤ x ∧ x ≤ 1000 := fun x hx => by
      obtain ⟨y, hy, rfl⟩ := List.mem_map.mp (pS.mem_iff.mp hx)
      obtain ⟨j, _, hj, rfl⟩ := (Mir.str_mem (Nat.le_of_lt hab) hb).mp hy
      exact ⟨Mir.absI_pos _, hbd _ (List.mem_of_getElem? (Mir.absL_get (by omega)))⟩
    have h0 := bd _ (List.mem_of_getElem? (Mir.getD_get (rs := L) (j := 0) (by omega)))
    have hS3 : (upd H2 lS (.lst (L.map V.int))) = H3 := hH3
    rw [hS3]
    have g0 : ∀ {H4 : Hp}, Same H3 H4 → SqL K H4 lS (Mir.iV L) := fun s => SqL.of (s _ _ h3)
    have i0 : atI (Mir.iV L) 0 = some (.int (L.getD 0 0)) := atI_nat (j := 0) (Mir.iV_get0 (by omega))
    have i1 : atI (Mir.iV L) (-1) = some (.int (L.getD (b - a) 0)) := Mir.atI_minus hLl
    refine ⟨_, rfl, _, rfl, lS, _, _, _, rfl, rfl, g0 (Same.refl _), i0, _, rfl, lS, _, _, _, rfl, rfl, g0 (Same.refl _), i0, _, rfl, _, _, rfl, rfl, _, rfl, _, _, rfl, rfl, _, _, rfl, rfl, ?_⟩
    refine ⟨_, _, rfl, fun p hp => ⟨p, _, _, rfl, upd_same, ⟨by omega, by omega, by omega, by omega⟩, by omega, fun lr hlr => ?_⟩⟩
    dsimp only
    rw [er]
    have s4 : Same H3 (upd (upd H3 p (.rng (L.getD 0 0) (L.getD 0 0 + (b : Int) - (a : Int) + 1))) lr (.lst (Mir.iV (Mir.run (L.getD 0 0) (b + 1 - a))))) := (same_upd hp).trans (same_upd hlr)
    have h4 : upd (upd H3 p (.rng (L.getD 0 0) (L.getD 0 0 + (b : Int) - (a : Int) + 1))) lr (.lst (Mir.iV (Mir.run (L.getD 0 0) (b + 1 - a)))) lr = some (.lst (Mir.iV (Mir.run (L.getD 0 0) (b + 1 - a)))) := upd_same
    generalize upd (upd H3 p (.rng (L.getD 0 0) (L.getD 0 0 + (b : Int) - (a : Int) + 1))) lr (.lst (Mir.iV (Mir.run (L.getD 0 0) (b + 1 - a)))) = H4 at s4 h4 ⊢
    have s14 := s13.trans s4
    have hl4 := s14 _ _ hl
    have ga : atI (Mir.iV fs) (a : Int) = some (.int (fs.getD a 0)) := atI_nat (Mir.iV_get0 (by omega))
    have gb : atI (Mir.iV fs) (b : Int) = some (.int (fs.getD b 0)) := atI_nat (Mir.iV_get0 hb)
    refine ⟨lS, lr, _, _, rfl, rfl, g0 s4, SqL.of h4, by rw [hLl, Mir.run_len]; omega, _, rfl, ?_⟩
    refine ite2 (fun h1 => ?_) (fun h1 => ?_)
    · refine k false H4 ⟨fun z => (nomatch z), fun W => ?_⟩ s14
      rw [decide_eq_true (iff.mpr W).1] at h1
      cases h1
    have h1 : L = Mir.run (L.getD 0 0) (b + 1 - a) := Classical.byContradiction fun z => h1 (by rw [decide_eq_false z]; rfl)
    refine ⟨_, rfl, _, rfl, l, _, _, _, rfl, rfl, SqL.of hl4, ga, _, rfl, lS, _, _, _, rfl, rfl, g0 s4, i0, rfl, _, rfl, ?_⟩
    refine ite2 (fun h2 => ?_) (fun h2 => ?_)
    · have h2 := inj h2
      refine ⟨_, rfl, _, rfl, l, _, _, _, rfl, rfl, SqL.of hl4, gb, _, rfl, _, rfl, lS, _, _, _, rfl, rfl, g0 s4, i1, rfl, _, rfl, ?_⟩
      refine ite2 (fun h3 => ?_) (fun h3 => ?_)
      · exact k true H4 ⟨fun _ => iff.mp ⟨h1, .inl ⟨h2, inj h3⟩⟩, fun _ => rfl⟩ s14
      · exact ⟨lS, L, rfl, hl4, s4 _ _ h3', pS, sS, s14, h1, fun z => no h3 z.2, rfl⟩
    · exact iteF ⟨lS, L, rfl, hl4, s4 _ _ h3', pS, sS, s14, h1, fun z => no h2 z.1, rfl⟩
end
section
variable {P : Program} {w : World} {K : PySem.W.Frag} {mg : Str → Option Value} {base : Heap}
open Classical in
theorem ok_law_kins {f f2 : Addr} {fd fd2 : FuncData} (B : Bl mg) (F : Fn K mg "_law_kins" s_law_kins ["numbers"] f fd) (F_law_is_whole : Fn K mg "_law_is_whole" s_law_is_whole ["numbers", "first", "last"] f2 fd2) : FnOk P w K mg base CX0 2 f fd ["numbers"] Mir.spKinsN := by
  have G_law_is_whole : FnOk P w K mg base CX0 1 f2 fd2 ["numbers", "first", "last"] Mir.spIsWhole := ok_law_is_whole B F_law_is_whole
  refine F.fn.ok sc_law_kins (fun vs H Q E h => ?_) (fun cdv A outer s H vs Q E hr h => ?_)
  · obtain ⟨lN, fs, rfl, _⟩ := h
    rfl
  · obtain ⟨lN, fs, rfl, hN, nd, bd, fl, k⟩ := h
    have hu := hu_of hr
    refine ⟨_, (pss_cons (ps_set (i := 1) sc_law_kins.nd rfl (Or.inr rfl) (pe_lst pa_nil))
      (pss_cons (ps_for PassesOwn.never rfl (pi_range1 rfl B.range (pa_cons (pe_callB call_len_seq rfl B.len bb_len (pa_cons (pv 0) pa_nil)) pa_nil)) (pg_name (i := 2) sc_law_kins.nd rfl (Or.inr rfl)) (pss_one (ps_for PassesOwn.never rfl (pi_range2 rfl B.range (pa_cons (pe_op op_add (pv 2) pe_int) (pa_cons (pe_callB call_len_seq rfl B.len bb_len (pa_cons (pv 0) pa_nil)) pa_nil))) (pg_name (i := 3) sc_law_kins.nd rfl (Or.inr rfl)) (pss_one (ps_if (pt_val (pe_fn G_law_is_whole F_law_is_whole (hr.mono (by decide)) (pa_cons (pv 0) (pa_cons (pv 2) (pa_cons (pv 3) pa_nil))))) (pss_one (ps_expr (pe_bm PySem.F.plainAttrs_list PySem.F.slot_list_append PySem.F.type_list_append mt_append (pv 1) (pa_cons (pe_tup (pa_cons (pv 2) (pa_cons (pv 3) pa_nil))) pa_nil)))) pss_nil)))))
      (pss_cons (ps_set (i := 4) sc_law_kins.nd rfl (Or.inl rfl) (pe_lst pa_nil))
      (pss_cons (ps_for PassesOwn.never rfl (pi_list (pv 1)) (pg_tup rfl (pgs_cons (pg_name (i := 2) sc_law_kins.nd rfl (Or.inr rfl)) (pgs_cons (pg_name (i := 3) sc_law_kins.nd rfl (Or.inr rfl)) pgs_nil))) (pss_cons (ps_comp (ix := 5) (NC := ["begin", "spot", "stretches", "last", "first"]) sc_law_kins.nd rfl (Or.inl rfl) rfl (compOkN (pre := ["begin", "spot"]) [("stretches", s.heap.objs.size + 1, 1), ("last", s.heap.objs.size + 3, 3), ("first", s.heap.objs.size + 2, 2)] ["stretches", "last", "first"] rfl rfl (by decide +kernel) (by decide +kernel) rfl (caps_cons ⟨rfl, rfl, rfl, rfl⟩ (caps_cons ⟨rfl, rfl, rfl, rfl⟩ (caps_cons ⟨rfl, rfl, rfl, rfl⟩ caps_nil)))) (pi_list (pv 1)) (fun _ _ _ _ => (pg_tupK (K := K) (n := 2) rfl rfl (pgs_cons (pg_name (i := 0) (show (["begin", "spot", "stretches", "last", "first"] : List Str).Nodup by decide +kernel) rfl (Or.inl rfl)) (pgs_cons (pg_name (i := 1) (show (["begin", "spot", "stretches", "last", "first"] : List Str).Nodup by decide +kernel) rfl (Or.inl rfl)) pgs_nil)))) (fun _ _ _ _ => (pts_one (PW.pt (pw_and (pt_cmpR op_eq (pv 0) (pv 4) (nomark _)) (pw_and1 (pt_cmpR (op_in_tups (K := K) rfl hu) (pe_tup (pa_cons (pv 1) (pa_cons (pv 3) pa_nil))) (pv 2) (by with_unfolding_all rfl))))))) (fun _ _ _ _ => (pv 1)))
      (pss_one (ps_if (pt_cmpR (op_eq_nilK (K := K) rfl (Nat.lt_of_succ_lt hu)) (pv 5) (pe_lst pa_nil) (nomark _)) (pss_one (ps_expr (pe_bm PySem.F.plainAttrs_list PySem.F.slot_list_append PySem.F.type_list_append mt_append (pv 4) (pa_cons (pe_tup (pa_cons (pv 2) (pa_cons (pv 3) pa_nil))) pa_nil)))) pss_nil))))
      (pss_one (ps_ret (pv 4))))))), ?_⟩
    have ivl : (Mir.iV fs).length = fs.length := Mir.iV_len fs
    have sq : fs.length * fs.length ≤ 2000 := Nat.le_trans (Nat.mul_le_mul (show fs.length ≤ 42 by omega) (show fs.length ≤ 42 by omega)) (by decide)
    refine ⟨by show 0 ≤ sizeLine; decide, fun lW hlW => ?_⟩
    have s2 : Same H (upd H lW (.lst [])) := same_upd hlW
    refine ⟨_, rfl, lN, _, rfl, .inl (SqL.of (s2 _ _ hN)), _, rfl, by rw [ivl]; omega, by rw [ivl]; omega, for_range (lo := 0) (n := (((Mir.iV fs).length : Nat) : Int).toNat) (fun i σ H2 => ∃ v3 v4 : Option V, σ = [some (.ref lN), some (.ref lW), v3, v4, none, none] ∧ Same H H2 ∧ Mir.TsT Mir.pr H2 lW (Mir.whL fs i))
      ⟨none, none, rfl, s2, Mir.TsT.nil upd_same⟩ ?_ ?_⟩
    · rintro i σ H2 hi ⟨v3, v4, rfl, s3, hT⟩
      rw [ivl] at hi
      have hi : i < fs.length := by omega
      rw [Int.zero_add]
      have il : i * fs.length ≤ fs.length * fs.length := Nat.mul_le_mul_right _ (Nat.le_of_lt hi)
      refine ⟨_, rfl, _, _, rfl, rfl, _, rfl, lN, _, rfl, .inl (SqL.of (s3 _ _ hN)), _, _, rfl, ⟨by omega, by omega, by rw [ivl]; omega, by rw [ivl]; omega⟩,
        for_range (lo := (i : Int) + 1) (n := (((Mir.iV fs).length : Nat) - ((i : Int) + 1) : Int).toNat) (fun j σ H3 => ∃ v4 : Option V, σ = [some (.ref lN), some (.ref lW), some (.int i), v4, none, none] ∧ Same H H3 ∧ Mir.TsT Mir.pr H3 lW (Mir.whL fs i ++ Mir.whRow fs i (i + 1 + j)))
          ⟨v4, rfl, s3, by rw [Mir.whRow_start fs i _ (by omega), List.append_nil]; exact hT⟩ ?_ ?_⟩
      · rintro j σ H3 hj ⟨v4', rfl, s4, hT3⟩
        rw [ivl] at hj
        have hb : i + 1 + j < fs.length := by omega
        have eb : (i : Int) + 1 + (j : Int) = ((i + 1 + j : Nat) : Int) := by omega
        rw [eb]
        refine ⟨_, rfl, _, rfl, _, rfl, lN, fs, i, i + 1 + j, rfl, s4 _ _ hN, nd, bd, by omega, hb, by omega, fun r H4 hrW s5 => ⟨r, rfl, ?_⟩⟩
        have hT4 := hT3.same s5
        have e1 : i + 1 + (j + 1) = i + 1 + j + 1 := rfl
        refine ite2 (fun h1 => ?_) (fun h1 => ?_)
        · have W := hrW.mp h1
          obtain ⟨vs, hv1, hv2⟩ := hT4.len
          refine ⟨_, rfl, .inl ⟨rfl, _, SqL.of hv1⟩, _, rfl, _, rfl, by show 2 ≤ sizeLine; decide, fun tp htp => ?_⟩
          have s6 : Same H4 (upd H4 tp (.tup [.int (i : Nat), .int ((i + 1 + j : Nat) : Int)])) := same_upd htp
          obtain ⟨ys, y1, y2, y3⟩ := (hT4.same s6).snoc (t := tp) (x := ((i : Int), ((i + 1 + j : Nat) : Int))) upd_same
          have l1 := Mir.whL_len fs i
          have l2 := Mir.whRow_len fs i (i + 1 + j)
          refine ⟨lW, _, _, rfl, rfl, y1, Nat.lt_of_le_of_lt (by rw [y2, List.length_append]; exact (show _ ≤ 3000 by omega)) (by decide), _, rfl, ((s4.trans s5).trans s6).upd hlW, ?_⟩
          rw [e1, Mir.whRow_succ, if_pos W, ← List.append_assoc]
          exact y3
        · refine ⟨_, rfl, s4.trans s5, ?_⟩
          rw [e1, Mir.whRow_succ, if_neg (fun W => h1 (hrW.mpr W)), List.append_nil]
          exact hT4
      · rintro σ H3 ⟨v4', rfl, s4, hT3⟩
        refine ⟨_, _, rfl, s4, ?_⟩
        rw [Mir.whL_succ]
        have e : i + 1 + (((Mir.iV fs).length : Nat) - ((i : Int) + 1) : Int).toNat = fs.length := by rw [ivl]; omega
        rw [e] at hT3
        exact hT3
    rintro σ H2 ⟨v3, v4, rfl, s3, hT⟩
    have e : (((Mir.iV fs).length : Nat) : Int).toNat = fs.length := by rw [ivl]; omega
    rw [e] at hT
    refine ⟨by show 0 ≤ sizeLine; decide, fun lD hlD => ?_⟩
    have s4 : Same H2 (upd H2 lD (.lst [])) := same_upd hlD
    obtain ⟨ts, hT1, hT2⟩ := hT.tup
    have wl := Mir.whL_len fs fs.length
    refine ⟨_, rfl, lW, rfl, ⟨_, SqL.of (s4 _ _ hT1)⟩, for_list (K := K) (a := lW) (xs := ts.map V.ref) (fun i σ H3 => ∃ v3 v4 v6 : Option V, σ = [some (.ref lN), some (.ref lW), v3, v4, some (.ref lD), v6] ∧ Same H2 H3 ∧ Mir.TsT Mir.pr H3 lD (((Mir.whL fs fs.length).take i).filter (Mir.isKn fs)))
      ⟨_, _, none, rfl, s4, Mir.TsT.nil upd_same⟩ (fun i σ H3 _ ⟨_, _, _, _, s5, _⟩ => SqL.of (s5 _ _ hT1)) ?_ ?_⟩
    · rintro i y σ H3 hy ⟨v3', v4', v6, rfl, s5, hTD⟩
      have hi : i < (Mir.whL fs fs.length).length := by have := (List.getElem?_eq_some_iff.mp hy).1; rw [List.length_map, hT2.1] at this; exact this
      have hit : i < ts.length := by rw [hT2.1]; exact hi
      rw [List.getElem?_map, List.getElem?_eq_getElem hit] at hy
      obtain rfl := Option.some.inj hy
      have ei : (Mir.whL fs fs.length)[i]? = some (Mir.whL fs fs.length)[i] := List.getElem?_eq_getElem hi
      obtain ⟨a, b, W, ep⟩ := Mir.whL_mem.mp (List.getElem_mem hi)
      rw [ep] at ei
      have q := hT2.2 i _ _ (List.getElem?_eq_getElem hit) ei
      refine ⟨_, _, rfl, SqT.of (s5 _ _ q), rfl, _, _, rfl, _, _, rfl, rfl, ?_⟩
      have hT15 := s5 _ _ hT1
      let hit2 : Nat → Prop := fun j => ∃ p, (Mir.whL fs fs.length)[j]? = some p ∧ p.1 = (a : Int) ∧ (p.2, (b : Int)) ∈ Mir.whL fs fs.length
      refine ⟨_, rfl, lW, rfl, ⟨_, SqL.of hT15⟩, fun D hD => comp_list (K := K) (a := lW) (xs := ts.map V.ref) (fun j σ H4 => ∃ (v w : Option V) (cs : List Int), σ = [v, w, some (.ref lW), some (.int (b : Nat)), some (.int (a : Nat))] ∧ Same H3 H4 ∧ H4 D = some (.lst (Mir.iV cs)) ∧ cs.length ≤ j ∧ (cs.length = 0 ↔ ∀ m, m < j → ¬ hit2 m))
        ⟨none, none, [], rfl, same_upd hD, upd_same, Nat.le_refl _, ⟨fun _ m hm => absurd hm (Nat.not_lt_zero _), fun _ => rfl⟩⟩ (fun j σ H4 _ ⟨_, _, _, _, s6, _⟩ => SqL.of (s6 _ _ hT15)) ?_ ?_⟩
      · rintro j y σ H4 hy ⟨v, w', cs, rfl, s6, hD4, hcl, hcz⟩
        have hj : j < (Mir.whL fs fs.length).length := by have := (List.getElem?_eq_some_iff.mp hy).1; rw [List.length_map, hT2.1] at this; exact this
        have hjt : j < ts.length := by rw [hT2.1]; exact hj
        rw [List.getElem?_map, List.getElem?_eq_getElem hjt] at hy
        obtain rfl := Option.some.inj hy
        have ej : (Mir.whL fs fs.length)[j]? = some (Mir.whL fs fs.length)[j] := List.getElem?_eq_getElem hj
        have qj := hT2.2 j _ _ (List.getElem?_eq_getElem hjt) ej
        generalize hp : (Mir.whL fs fs.length)[j] = p at ej qj
        refine ⟨_, _, rfl, SqT.of ((s5.trans s6) _ _ qj), rfl, _, _, rfl, _, _, rfl, rfl, ?_⟩
        have step0 : ¬ hit2 j → ∃ (v w : Option V) (cs : List Int), ([some (.int p.1), some (.int p.2), some (.ref lW), some (.int (b : Nat)), some (.int (a : Nat))] : St) = [v, w, some (.ref lW), some (.int (b : Nat)), some (.int (a : Nat))] ∧ Same H3 H4 ∧ H4 D = some (.lst (Mir.iV cs)) ∧ cs.length ≤ j + 1 ∧ (cs.length = 0 ↔ ∀ m, m < j + 1 → ¬ hit2 m) := fun nh =>
          ⟨_, _, cs, rfl, s6, hD4, by omega, hcz.trans ⟨fun z m hm => if e : m = j then e ▸ nh else z m (by omega), fun z m hm => z m (by omega)⟩⟩
        refine ⟨_, rfl, _, rfl, rfl, _, rfl, ?_⟩
        refine ite2 (fun h1 => ?_) (fun h1 => ?_)
        · have h1 : p.1 = (a : Int) := by injection of_decide_eq_true h1
          refine ⟨_, rfl, _, rfl, by show 2 ≤ sizeLine; decide, fun tp htp => ?_⟩
          have s7 : Same H4 (upd H4 tp (.tup [.int p.2, .int (b : Nat)])) := same_upd htp
          have sX := (s5.trans s6).trans s7
          refine ⟨_, rfl, tp, lW, ts, [p.2, (b : Int)], (Mir.whL fs fs.length).map Mir.two, rfl, rfl, upd_same, sX _ _ hT1, by rw [List.length_map]; exact hT2.1, fun m u r e1 e2 => ?_, _, rfl, ?_⟩
          · rw [List.getElem?_map] at e2
            obtain ⟨p', e3, rfl⟩ := Option.map_eq_some_iff.mp e2
            exact sX _ _ (hT2.2 m u p' e1 e3)
          have mem : [p.2, (b : Int)] ∈ (Mir.whL fs fs.length).map Mir.two ↔ (p.2, (b : Int)) ∈ Mir.whL fs fs.length := by
            rw [List.mem_map]
            constructor
            · rintro ⟨⟨x, y⟩, h, e⟩
              unfold Mir.two at e
              injection e with e1 e2
              injection e2 with e2
              rw [← e1, ← e2]
              exact h
            · intro h
              exact ⟨_, h, rfl⟩
          refine ite2 (fun h2 => ?_) (fun h2 => ?_)
          · have h2 := mem.mp (of_decide_eq_true h2)
            refine ⟨_, rfl, _, s7 _ _ hD4, Nat.lt_of_le_of_lt (by rw [Mir.iV_len]; exact (show _ ≤ 3000 by omega)) (by decide), _, _, cs ++ [p.2], rfl, (s6.trans s7).upd hD, by rw [upd_same, Mir.iV_ap]; rfl, by rw [List.length_append]; show _ + 1 ≤ _; omega, ⟨fun z => by rw [List.length_append] at z; simp at z, fun z => absurd ⟨p, ej, h1, h2⟩ (z j (by omega))⟩⟩
          · have nh : ¬ hit2 j := fun ⟨p', e1, _, e3⟩ => by
              rw [ej] at e1
              obtain rfl := Option.some.inj e1
              exact h2 (decide_eq_true (mem.mpr e3))
            obtain ⟨v, w2, cs2, e1, e2, e3, e4⟩ := step0 nh
            exact ⟨v, w2, cs2, e1, e2.trans s7, s7 _ _ e3, e4⟩
        · have h1 : ¬ p.1 = (a : Int) := fun z => h1 (decide_eq_true (congrArg V.int z))
          refine iteF (step0 ?_)
          rintro ⟨p', e1, e2, _⟩
          rw [ej] at e1
          obtain rfl := Option.some.inj e1
          exact h1 e2
      rintro σ H4 ⟨v, w', cs, rfl, s6, hD4, hcl, hcz⟩
      rw [List.length_map, hT2.1] at hcz hcl
      have hk : cs.length = 0 ↔ Mir.Kn fs a b := by
        rw [hcz, Mir.kn_iff nd]
        constructor
        · intro h
          refine ⟨W, fun ⟨c, w1, w2⟩ => ?_⟩
          obtain ⟨m, hm, em⟩ := List.getElem_of_mem (Mir.whL_mem.mpr ⟨a, c, w1, rfl⟩)
          exact h m hm ⟨_, List.getElem?_eq_getElem hm, by rw [em], by rw [em]; exact Mir.whL_mem.mpr ⟨c, b, w2, rfl⟩⟩
        · rintro ⟨_, h⟩ m hm ⟨p, e1, e2, e3⟩
          obtain ⟨x, c, w1, rfl⟩ := Mir.whL_mem.mp (List.mem_of_getElem? e1)
          obtain ⟨y, z, w2, e4⟩ := Mir.whL_mem.mp e3
          injection e4 with e5 e6
          have : x = a := by have : (x : Int) = a := e2; omega
          have : y = c := by have : (c : Int) = y := e5; omega
          have : z = b := by omega
          subst x y z
          exact h ⟨c, w1, w2⟩
      have hTD4 := hTD.same s6
      have es : ((Mir.whL fs fs.length).take (i + 1)).filter (Mir.isKn fs) = ((Mir.whL fs fs.length).take i).filter (Mir.isKn fs) ++ (open Classical in if Mir.Kn fs a b then [((a : Int), (b : Int))] else []) := by
        rw [Mir.take_snoc ei, List.filter_append]
        congr 1
        rw [List.filter_cons, List.filter_nil]
        unfold Mir.isKn
        show (if decide (Mir.Kn fs (a : Int).toNat (b : Int).toNat) = true then _ else _) = _
        rw [Int.toNat_natCast, Int.toNat_natCast]
        by_cases c : Mir.Kn fs a b
        · rw [if_pos c, if_pos (decide_eq_true c)]
        · rw [if_neg c, if_neg (by rw [decide_eq_false c]; decide)]
      refine ⟨_, rfl, by show 0 ≤ sizeLine; decide, fun le hle => ?_⟩
      have s7 : Same H4 (upd H4 le (.lst [])) := same_upd hle
      have hTD5 := hTD4.same s7
      refine ⟨D, le, _, rfl, rfl, SqL.of (s7 _ _ hD4), SqL.of upd_same, _, rfl, ?_⟩
      rw [Mir.iV_len]
      have s57 := (s5.trans s6).trans s7
      refine ite2 (fun h1 => ?_) (fun h1 => ?_)
      · have hK := hk.mp (of_decide_eq_true h1)
        obtain ⟨vs5, hv5, _⟩ := hTD5.len
        refine ⟨_, rfl, .inl ⟨rfl, _, SqL.of hv5⟩, _, rfl, _, rfl, by show 2 ≤ sizeLine; decide, fun tp htp => ?_⟩
        have s8 : Same (upd H4 le (.lst [])) (upd (upd H4 le (.lst [])) tp (.tup [.int (a : Nat), .int (b : Nat)])) := same_upd htp
        obtain ⟨ys, y1, y2, y3⟩ := (hTD5.same s8).snoc (t := tp) (x := ((a : Int), (b : Int))) upd_same
        have ll : (((Mir.whL fs fs.length).take i).filter (Mir.isKn fs)).length ≤ 2000 := Nat.le_trans (List.length_filter_le _ _) (by rw [List.length_take]; omega)
        refine ⟨lD, _, _, rfl, rfl, y1, Nat.lt_of_le_of_lt (by rw [y2]; exact ll) (by decide), _, _, _, rfl, (s57.trans s8).upd hlD, ?_⟩
        rw [es, if_pos hK]
        exact y3
      · have hK : ¬ Mir.Kn fs a b := fun z => h1 (decide_eq_true (hk.mpr z))
        refine ⟨_, _, _, rfl, s57, ?_⟩
        rw [es, if_neg hK, List.append_nil]
        exact hTD5
    rintro σ H3 ⟨v3', v4', v6, rfl, s5, hTD⟩
    rw [List.length_map, hT2.1, List.take_length] at hTD
    exact ⟨_, rfl, k lD H3 (s3.free hlD) (s3.trans s5) hTD⟩
end
section
variable {P : Program} {w : World} {K : PySem.W.Frag} {mg : Str → Option Value} {base : Heap}
theorem ok_law_knots {f f1 f2 : Addr} {fd fd1 fd2 : FuncData} (B : Bl mg) (F : Fn K mg "_law_knots" s_law_knots ["numbers"] f fd) (F_law_kins : Fn K mg "_law_kins" s_law_kins ["numbers"] f1 fd1) (F_law_is_whole : Fn K mg "_law_is_whole" s_law_is_whole ["numbers", "first", "last"] f2 fd2) : FnOk P w K mg base CX0 3 f fd ["numbers"] Mir.spLawKnots := by
  have G_law_kins : FnOk P w K mg base CX0 2 f1 fd1 ["numbers"] Mir.spKinsN := ok_law_kins B F_law_kins F_law_is_whole
  refine F.fn.ok sc_law_knots (fun vs H Q E h => ?_) (fun cdv A outer s H vs Q E hr h => ?_)
  · obtain ⟨l, rs, rfl, _⟩ := h
    rfl
  · obtain ⟨lN, rs, rfl, hN, fit, k⟩ := h
    have hu := hu_of hr
    have hn := fit.small
    refine ⟨_, (pss_cons (ps_set (i := 1) sc_law_knots.nd rfl (Or.inl rfl) (pe_fn G_law_kins F_law_kins (hr.mono (by decide)) (pa_cons (pv 0) pa_nil)))
      (pss_cons (ps_set (i := 2) sc_law_knots.nd rfl (Or.inr rfl) pe_dnewT)
      (pss_cons (ps_for PassesOwn.never rfl (pi_range1 rfl B.range (pa_cons (pe_op op_sub (pe_callB call_len_seq rfl B.len bb_len (pa_cons (pv 0) pa_nil)) pe_int) pa_nil)) (pg_name (i := 3) sc_law_knots.nd rfl (Or.inr rfl)) (pss_one (ps_if (pt_cmpR op_ne (pe_op op_sub (pe_ix ix_list (pv 0) (pe_op op_add (pv 3) pe_int) (fun _ _ => rfl)) (pe_ix ix_list (pv 0) (pv 3) (fun _ _ => rfl))) pe_int (nomark _)) (pss_cons (ps_comp (ix := 4) (NC := ["first", "last", "gap"]) sc_law_knots.nd rfl (Or.inl rfl) rfl (compOk1 (pre := ["first", "last"]) (c := s.heap.objs.size + 2) (j := 3) rfl (by decide +kernel) (by decide +kernel) rfl rfl rfl rfl rfl) (pi_list (pv 1)) (fun _ _ _ _ => (pg_tupK (K := K) (n := 2) rfl rfl (pgs_cons (pg_name (i := 0) (show (["first", "last", "gap"] : List Str).Nodup by decide +kernel) rfl (Or.inl rfl)) (pgs_cons (pg_name (i := 1) (show (["first", "last", "gap"] : List Str).Nodup by decide +kernel) rfl (Or.inl rfl)) pgs_nil)))) (fun _ _ _ _ => (pts_one (PW.pt (pw_and (pt_cmpR op_le (pv 0) (pv 2) (nomark _)) (pw_and1 (pt_cmpR op_lt (pv 2) (pv 1) (nomark _))))))) (fun _ _ _ _ => (pe_tup (pa_cons (pe_op op_sub (pv 1) (pv 0)) (pa_cons (pv 0) (pa_cons (pv 1) pa_nil))))))
      (pss_cons (ps_set (i := 5) sc_law_knots.nd rfl (Or.inl rfl) (pe_slice sl_tupA (pe_callB (call_minT3 rfl hu) rfl B.min bb_min (pa_cons (pv 4) pa_nil)) (po_some pe_int) po_none))
      (pss_one (ps_dput hu (pv 2) (pv 5) (pe_op op_cat (pe_dget2 hu (pv 2) (pv 5) (pe_lst pa_nil) ⟨rfl, rfl, rfl, rfl⟩) (pe_lst (pa_cons (pe_cmpR op_lt (pe_ix ix_list (pv 0) (pv 3) (fun _ _ => rfl)) pe_int (nomark _)) (pa_cons (pe_cmpR op_lt (pe_ix ix_list (pv 0) (pe_op op_add (pv 3) pe_int) (fun _ _ => rfl)) pe_int (nomark _)) pa_nil)))) rfl)))) pss_nil)))
      (pss_one (ps_ret (pe_comp (NC := ["kin", "signs"]) rfl (compOk2 (c := s.heap.objs.size + 1) (j := 2) rfl (by decide +kernel) (by decide +kernel) rfl rfl rfl rfl rfl) (pi_list (pv 1)) (fun _ _ _ _ => (pg_name (i := 0) (show (["kin", "signs"] : List Str).Nodup by decide +kernel) rfl (Or.inl rfl))) (fun _ _ _ _ => (pts_one (PW.pt (pw_and (pt_cmp (pc_din hu (pv 0) (pv 1))) (pw_and1 (pt_cmpR op_eq (pe_callB (call_lenBK (P := P) (w := w) rfl rfl) rfl B.len bb_len (pa_cons (pe_callTy (call_setBK (P := P) (w := w) rfl rfl rfl) rfl B.set bb_set (pa_cons (pe_dget hu (pv 1) (pv 0) (fun _ _ => rfl)) pa_nil)) pa_nil)) pe_int (nomark _))))))) (fun _ _ _ _ => (pv 0)))))))), ?_⟩
    have fl := Mir.frm_len rs
    have ivl : (Mir.iV (Mir.frm rs)).length = rs.length + 2 := by rw [Mir.iV_len, fl]
    have lim : ∀ x : Nat, x ≤ 5000 → x < sizeLine := fun x hx => Nat.lt_of_le_of_lt hx (by decide)
    have bd : ∀ x ∈ Mir.absL (Mir.frm rs), x ≤ 1000 := fun x hx => by have := (Mir.frm_mem fit).mp hx; omega
    refine ⟨_, rfl, lN, _, rfl, hN, Mir.frm_nodup fit, bd, by omega, fun lK H1 hlK s1 hK => ?_⟩
    obtain ⟨ts, hts, hlt, htp⟩ := id hK
    have ltl : (ts.map V.ref).length = (Mir.kinL (Mir.frm rs)).length := by rw [List.length_map, hlt]
    have kl := Mir.kinL_len (Mir.frm rs)
    rw [fl] at kl
    intro d hd
    have s2 : Same H1 (upd H1 d (.dT [])) := same_upd hd
    refine ⟨_, rfl, lN, _, rfl, .inl (SqL.of (s2 _ _ (s1 _ _ hN))), _, _, rfl, rfl, _, rfl, by rw [ivl]; omega, by rw [ivl]; omega, for_range (lo := 0) (n := (((Mir.iV (Mir.frm rs)).length : Nat) - 1 : Int).toNat) (fun i σ H2 => ∃ (v3 v4 v5 : Option V) (kvs : List (List Key × V)), σ = [some (.ref lN), some (.ref lK), some (.ref d), v3, v4, v5] ∧ Same H1 H2 ∧ Mir.LD H2 d kvs (Mir.sgl (Mir.frm rs) (Mir.opn (Mir.frm rs) i)) ∧ kvs.length ≤ i)
      ⟨none, none, none, [], rfl, s2, ⟨upd_same, fun p _ => rfl, fun p h => absurd rfl h⟩, Nat.le_refl _⟩ ?_ ?_⟩
    · rintro g σ H2 hg ⟨v3, v4, v5, kvs, rfl, s3, ld, lk⟩
      rw [ivl] at hg
      have hg : g < rs.length + 1 := by omega
      rw [Int.zero_add]
      have e1 : (g : Int) + 1 = ((g + 1 : Nat) : Int) := by omega
      have gN1 := Mir.iV_get0 (rs := Mir.frm rs) (j := g) (by omega)
      have gN2 := Mir.iV_get0 (rs := Mir.frm rs) (j := g + 1) (by omega)
      have hN2 := s3 _ _ (s1 _ _ hN)
      refine ⟨_, rfl, _, rfl, _, _, rfl, rfl, lN, _, _, _, rfl, rfl, SqL.of hN2, (by rw [e1]; exact atI_nat gN2), _, rfl, _, rfl, lN, _, _, _, rfl, rfl, SqL.of hN2, atI_nat gN1, _, _, rfl, rfl, rfl, _, rfl, ?_⟩
      refine ite2 (fun h1 => ?_) (fun h1 => ?_)
      · have op : Mir.isOpen (Mir.frm rs) g = true := by
          unfold Mir.isOpen
          refine decide_eq_true fun z => ?_
          rw [z] at h1
          revert h1
          simp [Int.add_comm, Int.add_sub_cancel]
        have sn := Mir.opn_succ (Mir.frm rs) g
        rw [if_pos op] at sn
        refine ⟨_, rfl, lK, rfl, ⟨_, SqL.of (s3 _ _ hts)⟩, fun D hD => comp_list (K := K) (a := lK) (xs := ts.map V.ref) (fun i σ H3 => ∃ v v' : Option V, σ = [v, v', some (.int g)] ∧ Same H2 H3 ∧ Mir.TsT Mir.tri H3 D (((Mir.kinL (Mir.frm rs)).take i).filter (Mir.arn g))) ⟨none, none, rfl, same_upd hD, Mir.TsT.nil upd_same⟩ (fun i σ H3 _ ⟨_, _, _, s4, _⟩ => SqL.of (s4 _ _ (s3 _ _ hts))) ?_ ?_⟩
        · rintro i y σ H3 hy ⟨v, v', rfl, s4, hT⟩
          have hi : i < (Mir.kinL (Mir.frm rs)).length := by rw [← ltl]; exact (List.getElem?_eq_some_iff.mp hy).1
          have hpi := List.getElem?_eq_getElem hi
          obtain ⟨t', ht', rfl⟩ : ∃ t, ts[i]? = some t ∧ y = .ref t := by
            rw [List.getElem?_map] at hy
            obtain ⟨t, e1, e2⟩ := Option.map_eq_some_iff.mp hy
            exact ⟨t, e1, e2.symm⟩
          have htt := s4 _ _ (s3 _ _ (htp i t' _ ht' hpi))
          have es : ((Mir.kinL (Mir.frm rs)).take (i + 1)).filter (Mir.arn g) = ((Mir.kinL (Mir.frm rs)).take i).filter (Mir.arn g) ++ (if Mir.arn g (Mir.kinL (Mir.frm rs))[i] = true then [(Mir.kinL (Mir.frm rs))[i]] else []) := by
            rw [Mir.take_snoc hpi, List.filter_append, List.filter_cons, List.filter_nil]
          have fll : (((Mir.kinL (Mir.frm rs)).take i).filter (Mir.arn g)).length ≤ 42 := Nat.le_trans (List.length_filter_le _ _) (by rw [List.length_take]; omega)
          generalize (Mir.kinL (Mir.frm rs))[i] = p at htt es
          refine ⟨t', _, rfl, SqT.of htt, rfl, _, _, rfl, _, _, rfl, rfl, ?_⟩
          refine ⟨_, rfl, _, rfl, _, _, rfl, rfl, _, rfl, ?_⟩
          refine ite2 (fun h2 => ?_) (fun h2 => ?_)
          · refine ⟨_, rfl, _, rfl, _, _, rfl, rfl, _, rfl, ?_⟩
            refine ite2 (fun h3 => ?_) (fun h3 => ?_)
            · have ar : Mir.arn g p = true := Mir.arn_iff.mpr ⟨of_decide_eq_true h2, of_decide_eq_true h3⟩
              rw [if_pos ar] at es
              refine ⟨_, rfl, _, rfl, _, _, rfl, rfl, _, rfl, _, rfl, by show 3 ≤ sizeLine; decide, fun tp htp => ?_⟩
              have s5 : Same H3 (upd H3 tp (.tup [.int (p.2 - p.1), .int p.1, .int p.2])) := same_upd htp
              obtain ⟨ys, y1, y2, y3⟩ := (hT.same s5).snoc (t := tp) (x := p) upd_same
              exact ⟨ys, y1, lim _ (by rw [y2]; omega), _, _, rfl, (s4.trans s5).upd hD, by rw [es]; exact y3⟩
            · have ar : ¬ Mir.arn g p = true := fun z => h3 (decide_eq_true (Mir.arn_iff.mp z).2)
              rw [if_neg ar, List.append_nil] at es
              exact ⟨_, _, rfl, s4, by rw [es]; exact hT⟩
          · have ar : ¬ Mir.arn g p = true := fun z => h2 (decide_eq_true (Mir.arn_iff.mp z).1)
            rw [if_neg ar, List.append_nil] at es
            exact iteF ⟨_, _, rfl, s4, by rw [es]; exact hT⟩
        rintro σ H3 ⟨v, v', rfl, s4, hT⟩
        rw [ltl, List.take_length] at hT
        obtain ⟨as, f', c1, c2, c3, c4, c5⟩ := Mir.min_own fit hg hT
        refine ⟨_, rfl, D, as, f', rfl, SqL.of c1, c2, c3, c4, fun m hm mn => ?_⟩
        have hm3 := c5 m hm mn
        refine ⟨_, rfl, m, _, rfl, hm3, fun tp H4 s5 htp4 => ?_⟩
        have htp4 : H4 tp = some (.tup (Mir.pr (Mir.ow (Mir.frm rs) g))) := htp4
        have s25 := s4.trans s5
        have ld4 := ld.same s25
        have fNext : ∀ q, q ≠ Mir.ow (Mir.frm rs) g → Mir.sgl (Mir.frm rs) (Mir.opn (Mir.frm rs) (g + 1)) q = Mir.sgl (Mir.frm rs) (Mir.opn (Mir.frm rs) g) q := fun q hq => by
          rw [sn, Mir.sgl_snoc, if_neg fun z => hq z.symm]
        have fThis : Mir.sgl (Mir.frm rs) (Mir.opn (Mir.frm rs) (g + 1)) (Mir.ow (Mir.frm rs) g) = Mir.sgl (Mir.frm rs) (Mir.opn (Mir.frm rs) g) (Mir.ow (Mir.frm rs) g) ++ [decide ((Mir.frm rs).getD g 0 < 0), decide ((Mir.frm rs).getD (g + 1) 0 < 0)] := by
          rw [sn, Mir.sgl_snoc, if_pos rfl]
        have sl : (Mir.sgl (Mir.frm rs) (Mir.opn (Mir.frm rs) g) (Mir.ow (Mir.frm rs) g)).length ≤ 100 := Nat.le_trans (Mir.sgl_len _ _ _) (by have := Mir.opn_len (Mir.frm rs) g; omega)
        generalize Mir.sgl (Mir.frm rs) (Mir.opn (Mir.frm rs) (g + 1)) = F' at fNext fThis
        generalize Mir.sgl (Mir.frm rs) (Mir.opn (Mir.frm rs) g) = F at fNext fThis sl ld4
        generalize Mir.ow (Mir.frm rs) g = p at htp4 fNext fThis sl
        refine ⟨_, rfl, d, rfl, .inr ⟨_, .inl ld4.at'⟩, _, rfl, by show 0 ≤ sizeLine; decide, fun n hnn => ?_⟩
        have s6 : Same H4 (upd H4 n (.lst [])) := same_upd hnn
        have ld6 := ld4.same s6
        have hn6 : upd H4 n (.lst []) n = some (.lst []) := upd_same
        have s36 : Same H1 (upd H4 n (.lst [])) := (s3.trans s25).trans s6
        have ht6 := s6 _ _ htp4
        generalize upd H4 n (.lst []) = H6 at s6 ld6 hn6 s36 ht6
        obtain ⟨a, ea, ha⟩ := ld6.getD hn6 p
        refine ⟨_, DGet.t (k := Mir.kp p) ld6.at' ht6, ?_⟩
        rw [ea]
        have hN6 := s36 _ _ (s1 _ _ hN)
        refine ⟨_, rfl, _, rfl, lN, _, _, _, rfl, rfl, SqL.of hN6, atI_nat gN1, _, _, rfl, rfl, _, rfl, _, rfl, _, _, rfl, rfl, lN, _, _, _, rfl, rfl, SqL.of hN6, (by rw [e1]; exact atI_nat gN2), _, _, rfl, rfl, by show 2 ≤ sizeLine; decide, fun l2 hl2 => ?_⟩
        have s7 : Same H6 (upd H6 l2 (.lst [.bl (decide ((Mir.frm rs).getD g 0 < 0)), .bl (decide ((Mir.frm rs).getD (g + 1) 0 < 0))])) := same_upd hl2
        refine ⟨a, l2, _, _, rfl, rfl, s7 _ _ ha, upd_same, Nat.le_of_lt (lim _ (by rw [List.length_map]; show _ + 2 ≤ _; omega)), fun n2 hn2 => ?_⟩
        generalize upd H6 l2 (.lst [.bl (decide ((Mir.frm rs).getD g 0 < 0)), .bl (decide ((Mir.frm rs).getD (g + 1) 0 < 0))]) = H7 at s7 hn2
        have s8 : Same H7 (upd H7 n2 (.lst ((F p).map V.bl ++ [.bl (decide ((Mir.frm rs).getD g 0 < 0)), .bl (decide ((Mir.frm rs).getD (g + 1) 0 < 0))]))) := same_upd hn2
        have hn8 : upd H7 n2 (.lst ((F p).map V.bl ++ [.bl (decide ((Mir.frm rs).getD g 0 < 0)), .bl (decide ((Mir.frm rs).getD (g + 1) 0 < 0))])) n2 = some (.lst ((F' p).map V.bl)) := by rw [upd_same, fThis, List.map_append]; rfl
        have s68 := s7.trans s8
        generalize upd H7 n2 (.lst ((F p).map V.bl ++ [.bl (decide ((Mir.frm rs).getD g 0 < 0)), .bl (decide ((Mir.frm rs).getD (g + 1) 0 < 0))])) = H8 at s8 hn8 s68
        have ld8 := ld6.same s68
        have lk' := length_putK kvs (Mir.kp p) (V.ref n2)
        have hne : F' p ≠ [] := by rw [fThis]; exact List.append_ne_nil_of_right_ne_nil _ (List.cons_ne_nil _ _)
        exact ⟨_, rfl, _, rfl, d, _, rfl, DPut.t (k := Mir.kp p) ld8.at' (s68 _ _ ht6) (lim _ (by omega)), _, _, _, _, rfl, (s36.trans s68).upd hd, ld8.put hn8 hne fNext, by omega⟩
      · have op : ¬ Mir.isOpen (Mir.frm rs) g = true := by
          intro z
          unfold Mir.isOpen at z
          have z := of_decide_eq_true z
          refine h1 ?_
          rw [Bool.not_eq_true', decide_eq_false_iff_not]
          intro q
          injection q with q
          omega
        have sn := Mir.opn_succ (Mir.frm rs) g
        rw [if_neg op, List.append_nil] at sn
        exact ⟨_, _, _, kvs, rfl, s3, by rw [sn]; exact ld, by omega⟩
    · rintro σ H2 ⟨v3, v4, v5, kvs, rfl, s3, ld, lk⟩
      have e : (((Mir.iV (Mir.frm rs)).length : Nat) - 1 : Int).toNat = rs.length + 1 := by rw [ivl]; omega
      rw [e] at ld
      have lL := Mir.opn_len (Mir.frm rs) (rs.length + 1)
      generalize Mir.opn (Mir.frm rs) (rs.length + 1) = L at ld k lL
      refine ⟨_, rfl, lK, rfl, ⟨_, SqL.of (s3 _ _ hts)⟩, fun D hD => comp_list (K := K) (a := lK) (xs := ts.map V.ref) (fun i σ H3 => ∃ v : Option V, σ = [v, some (.ref d)] ∧ Same H2 H3 ∧ Mir.TsT Mir.pr H3 D (((Mir.kinL (Mir.frm rs)).take i).filter (Mir.isKnot (Mir.frm rs) L))) ⟨none, rfl, same_upd hD, Mir.TsT.nil upd_same⟩ (fun i σ H3 _ ⟨_, _, s4, _⟩ => SqL.of (s4 _ _ (s3 _ _ hts))) ?_ ?_⟩
      · rintro i y σ H3 hy ⟨v, rfl, s4, hT⟩
        have hi : i < (Mir.kinL (Mir.frm rs)).length := by rw [← ltl]; exact (List.getElem?_eq_some_iff.mp hy).1
        have hpi := List.getElem?_eq_getElem hi
        obtain ⟨t', ht', rfl⟩ : ∃ t, ts[i]? = some t ∧ y = .ref t := by
          rw [List.getElem?_map] at hy
          obtain ⟨t, e1, e2⟩ := Option.map_eq_some_iff.mp hy
          exact ⟨t, e1, e2.symm⟩
        have htt := s4 _ _ (s3 _ _ (htp i t' _ ht' hpi))
        have es : ((Mir.kinL (Mir.frm rs)).take (i + 1)).filter (Mir.isKnot (Mir.frm rs) L) = ((Mir.kinL (Mir.frm rs)).take i).filter (Mir.isKnot (Mir.frm rs) L) ++ (if Mir.isKnot (Mir.frm rs) L (Mir.kinL (Mir.frm rs))[i] = true then [(Mir.kinL (Mir.frm rs))[i]] else []) := by
          rw [Mir.take_snoc hpi, List.filter_append, List.filter_cons, List.filter_nil]
        have fll : (((Mir.kinL (Mir.frm rs)).take i).filter (Mir.isKnot (Mir.frm rs) L)).length ≤ 42 := Nat.le_trans (List.length_filter_le _ _) (by rw [List.length_take]; omega)
        generalize (Mir.kinL (Mir.frm rs))[i] = p at htt es
        have ld3 := ld.same s4
        refine ⟨_, rfl, _, rfl, d, _, rfl, DGet.t (k := Mir.kp p) ld3.at' htt, _, rfl, ?_⟩
        refine ite2 (fun h1 => ?_) (fun h1 => ?_)
        · have hne : Mir.sgl (Mir.frm rs) L p ≠ [] := fun z => by rw [ld3.no p z] at h1; exact absurd h1 (by decide)
          obtain ⟨a, e1, e2⟩ := ld3.yes p hne
          have dg := DGet.t (k := Mir.kp p) ld3.at' htt
          rw [e1] at dg
          refine ⟨_, rfl, _, rfl, d, _, rfl, dg, a, _, rfl, e2, Nat.le_trans (Mir.sgl_len _ _ _) (by omega), fun sp hsp => ?_⟩
          have s5 : Same H3 (upd H3 sp (SetBO P w sp (SetB.cnt (Mir.sgl (Mir.frm rs) L p)))) := same_upd hsp
          refine ⟨sp, _, rfl, upd_same, rfl, _, rfl, ?_⟩
          refine ite2 (fun h2 => ?_) (fun h2 => ?_)
          · have kn : Mir.isKnot (Mir.frm rs) L p = true := by
              unfold Mir.isKnot
              rw [decide_eq_true hne, Bool.true_and, decide_eq_true_iff]
              have := of_decide_eq_true h2
              injection this with this
              omega
            rw [if_pos kn] at es
            obtain ⟨ys, y1, y2, y3⟩ := (hT.same s5).snoc (t := t') (x := p) (s5 _ _ htt)
            exact ⟨_, rfl, ys, y1, lim _ (by rw [y2]; omega), _, rfl, (s4.trans s5).upd hD, by rw [es]; exact y3⟩
          · have kn : ¬ Mir.isKnot (Mir.frm rs) L p = true := by
              unfold Mir.isKnot
              rw [decide_eq_true hne, Bool.true_and, decide_eq_true_iff]
              intro z
              rw [z] at h2
              exact h2 (decide_eq_true rfl)
            rw [if_neg kn, List.append_nil] at es
            exact ⟨_, rfl, s4.trans s5, by rw [es]; exact hT.same s5⟩
        · have he : Mir.sgl (Mir.frm rs) L p = [] := Classical.byContradiction fun z => by
            obtain ⟨a, e1, e2⟩ := ld3.yes p z
            rw [e1] at h1
            exact h1 rfl
          have kn : ¬ Mir.isKnot (Mir.frm rs) L p = true := by
            unfold Mir.isKnot
            rw [he]
            simp
          rw [if_neg kn, List.append_nil] at es
          exact iteF ⟨_, rfl, s4, by rw [es]; exact hT⟩
      rintro σ H3 ⟨v, rfl, s4, hT⟩
      rw [ltl, List.take_length] at hT
      exact k D H3 ((s1.trans s3).free hD) ((s1.trans s3).trans s4) hT
end
section
variable {P : Program} {w : World} {K : PySem.W.Frag} {mg : Str → Option Value} {base : Heap}
theorem ok_law (B : Bl mg) {f0 f1 f2 f3 f4 f5 f6 f7 f8 f9 f10 f11 f12 f13 f14 : Addr} {fd0 fd1 fd2 fd3 fd4 fd5 fd6 fd7 fd8 fd9 fd10 fd11 fd12 fd13 fd14 : FuncData} (F_framed : Fn K mg "framed" s_framed ["row"] f0 fd0) (F_open_gaps : Fn K mg "open_gaps" s_open_gaps ["row"] f1 fd1) (F_kin_spans : Fn K mg "kin_spans" s_kin_spans ["row"] f2 fd2) (F_kin_end : Fn K mg "kin_end" s_kin_end ["numbers", "first"] f3 fd3) (F_gap_kins : Fn K mg "gap_kins" s_gap_kins ["row"] f4 fd4) (F_knots_in : Fn K mg "knots_in" s_knots_in ["row"] f5 fd5) (F_law_cell_at : Fn K mg "_law_cell_at" s_law_cell_at ["script", "k"] f6 fd6) (F_law_row_of_kins : Fn K mg "_law_row_of_kins" s_law_row_of_kins ["script", "at", "many"] f7 fd7) (F_law_whole_number : Fn K mg "_law_whole_number" s_law_whole_number ["found"] f8 fd8) (F_law_row_is : Fn K mg "_law_row_is" s_law_row_is ["found", "due"] f9 fd9) (F_law_framed : Fn K mg "_law_framed" s_law_framed ["row"] f10 fd10) (F_law_is_whole : Fn K mg "_law_is_whole" s_law_is_whole ["numbers", "first", "last"] f11 fd11) (F_law_kins : Fn K mg "_law_kins" s_law_kins ["numbers"] f12 fd12) (F_law_knots : Fn K mg "_law_knots" s_law_knots ["numbers"] f13 fd13) (F_law : Fn K mg "law" s_law ["script"] f14 fd14) : FnOk P w K mg base CX0 5 f14 fd14 ["script"] (spLaw K) := by
  have G_law_cell_at : FnOk P w K mg base CX0 1 _ _ ["script", "k"] (Mir.spCellAt K) := ok_law_cell_at B F_law_cell_at
  have G_law_row_of_kins : FnOk P w K mg base CX0 2 _ _ ["script", "at", "many"] (Mir.spRowOfKins K) := ok_law_row_of_kins B F_law_row_of_kins F_law_cell_at
  have G_law_row_is : FnOk P w K mg base CX0 2 _ _ ["found", "due"] Mir.spRowIs := ok_law_row_is B F_law_row_is F_law_whole_number
  have G_law_framed : FnOk P w K mg base CX0 1 _ _ ["row"] Mir.spLawFramed := ok_law_framed B F_law_framed
  have G_law_knots : FnOk P w K mg base CX0 3 _ _ ["numbers"] Mir.spLawKnots := ok_law_knots B F_law_knots F_law_kins F_law_is_whole
  have G_knots_in : FnOk P w K mg base CX0 4 _ _ ["row"] Mir.spKnots := ok_knots_in B F_knots_in F_framed F_kin_end F_kin_spans F_gap_kins F_open_gaps
  refine F_law.fn.ok sc_law (fun vs H Q E h => ?_) (fun cdv A outer s H vs Q E hr h => ?_)
  · obtain ⟨a, ns, rfl, _⟩ := h
    rfl
  · obtain ⟨a, ns, rfl, hS, hlen, k⟩ := h
    refine ⟨_, (pss_cons (ps_set (i := 1) sc_law.nd rfl (Or.inl rfl) (pe_fn G_law_row_of_kins F_law_row_of_kins (hr.mono (by decide)) (pa_cons (pv 0) (pa_cons pe_int (pa_cons (pe_op op_mod (pe_fn G_law_cell_at F_law_cell_at (hr.mono (by decide)) (pa_cons (pv 0) (pa_cons pe_int pa_nil))) pe_int) pa_nil)))))
      (pss_cons (ps_set (i := 2) sc_law.nd rfl (Or.inl rfl) (pe_fn G_law_knots F_law_knots (hr.mono (by decide)) (pa_cons (pe_fn G_law_framed F_law_framed (hr.mono (by decide)) (pa_cons (pv 1) pa_nil)) pa_nil)))
      (pss_cons (ps_expr (pe_bm PySem.F.plainAttrs_list PySem.F.slot_list_append PySem.F.type_list_append mt_append (pe_fn G_knots_in F_knots_in (hr.mono (by decide)) (pa_cons (pv 1) pa_nil)) (pa_cons (pe_tup (pa_cons pe_int (pa_cons pe_int pa_nil))) pa_nil)))
      (pss_cons (ps_set (i := 3) sc_law.nd rfl (Or.inl rfl) (pe_fn G_knots_in F_knots_in (hr.mono (by decide)) (pa_cons (pv 1) pa_nil)))
      (pss_cons (ps_if (PW.pt (pw_or (pt_not (pt_val (pe_callB call_isi rfl B.isinstance bb_isinstance (pa_cons (pv 3) (pa_cons (pe_bltn (v := .ty "list") rfl B.list bb_list rfl) pa_nil))))) (pw_or1 (pt_cmpR op_ne (pe_callB call_len_seq rfl B.len bb_len (pa_cons (pv 3) pa_nil)) (pe_callB call_len_seq rfl B.len bb_len (pa_cons (pv 2) pa_nil)) (nomark _))))) (pss_one (ps_ret pe_bl)) pss_nil)
      (pss_cons (ps_for PassesOwn.never rfl (pi_range1 rfl B.range (pa_cons (pe_callB call_len_seq rfl B.len bb_len (pa_cons (pv 2) pa_nil)) pa_nil)) (pg_name (i := 4) sc_law.nd rfl (Or.inl rfl)) (pss_one (ps_if (pt_not (pt_val (pe_fn G_law_row_is F_law_row_is (hr.mono (by decide)) (pa_cons (pe_ix ix_list (pv 3) (pv 4) (fun _ _ => rfl)) (pa_cons (pe_ix ix_list (pv 2) (pv 4) (fun _ _ => rfl)) pa_nil))))) (pss_one (ps_ret pe_bl)) pss_nil)))
      (pss_one (ps_ret pe_bl)))))))), ?_⟩
    refine ⟨_, rfl, _, rfl, a, ns, 0, rfl, hS, fun c0 => ?_⟩
    refine ⟨_, _, rfl, rfl, (by show (0 : Int) < 15; decide), ?_⟩
    dsimp only
    obtain ⟨n, hm⟩ : ∃ many : Nat, c0 % 15 = many := ⟨(c0 % 15).toNat, by omega⟩
    rw [hm]
    refine ⟨a, ns, 1, n, rfl, hS, by omega, fun t H1 rs s1 ht hrl fit => ?_⟩
    have hn := fit.small
    have fl := Mir.frm_len rs
    have kl := Mir.kinL_len (Mir.frm rs)
    refine ⟨_, rfl, t, rs, rfl, ht, by omega, fun lF H2 hlF s2 hF => ?_⟩
    refine ⟨lF, rs, rfl, hF, fit, fun l1 H3 hl1 s3 h1 => ?_⟩
    have klen : (Mir.knotL (Mir.frm rs) (Mir.opn (Mir.frm rs) (rs.length + 1))).length ≤ 100 := by
      unfold Mir.knotL
      exact Nat.le_trans (List.length_filter_le _ _) (by omega)
    refine ⟨_, rfl, t, rs, rfl, s3 _ _ (s2 _ _ ht), fit, fun l2 H4 hl2 s4 h2 => ?_⟩
    obtain ⟨us, u1, u2⟩ := h2.len
    refine ⟨.inl ⟨rfl, _, SqL.of u1⟩, by show 2 ≤ sizeLine; decide, fun tp htp => ?_⟩
    have s4' : Same H4 (upd H4 tp (.tup [.int 0, .int 1])) := same_upd htp
    refine ⟨l2, _, _, rfl, rfl, s4' _ _ u1, Nat.lt_of_le_of_lt (show us.length ≤ 100 by omega) (by decide), ?_⟩
    have s5 : Same H3 (upd (upd H4 tp (.tup [.int 0, .int 1])) l2 (.lst (us ++ [.ref tp]))) := (s4.trans s4').upd hl2
    have h15 := h1.same s5
    have ht5 := s5 _ _ (s3 _ _ (s2 _ _ ht))
    generalize upd (upd H4 tp (.tup [.int 0, .int 1])) l2 (.lst (us ++ [.ref tp])) = H5 at s5 h15 ht5 ⊢
    refine ⟨_, rfl, t, rs, rfl, ht5, fit, fun l3 H6 hl3 s6 h3 => ?_⟩
    have h16 := h15.same s6
    generalize Mir.knotL (Mir.frm rs) (Mir.opn (Mir.frm rs) (rs.length + 1)) = ps at h3 h16 klen
    obtain ⟨us3, a1, a2⟩ := h3.len
    obtain ⟨us1, b1, b2⟩ := h16.len
    refine ⟨_, rfl, _, _, _, _, rfl, .lst a1, kit_lst_lst _, _, rfl, iteF ?_⟩
    refine ⟨_, rfl, l3, _, rfl, .inl (SqL.of a1), _, rfl, l1, _, rfl, .inl (SqL.of b1), rfl, _, rfl, iteNS (by rw [a2, b2]) ?_⟩
    refine ⟨_, rfl, l1, _, rfl, .inl (SqL.of b1), _, rfl, by omega, by omega, for_range (lo := 0) (n := ((us1.length : Nat) : Int).toNat) (fun i σ H7 => ∃ v5 : Option V, σ = [some (.ref a), some (.ref t), some (.ref l1), some (.ref l3), v5] ∧ H7 = H6) ⟨none, rfl, rfl⟩ ?_ ?_⟩
    · rintro i σ H7 hi ⟨v5, rfl, rfl⟩
      have hi' : i < ps.length := by omega
      have e : ps[i]? = some ps[i] := List.getElem?_eq_getElem hi'
      rw [Int.zero_add]
      obtain ⟨_, t1, c1, c2, c3⟩ := h3.get e
      obtain ⟨_, t2, d1, d2, d3⟩ := h16.get e
      generalize ps[i] = p at c3 d3
      refine ⟨_, rfl, _, rfl, l3, _, _, _, rfl, rfl, SqL.of c1, atI_nat c2, _, rfl, _, rfl, l1, _, _, _, rfl, rfl, SqL.of d1, atI_nat d2, t1, t2, [p.1, p.2], rfl, c3, .inr d3, by show 2 ≤ 1000; decide, _, rfl, iteF ?_⟩
      exact ⟨_, rfl, rfl⟩
    · rintro σ H7 ⟨v5, rfl, rfl⟩
      exact k _
end
theorem us0 {R : List Value → Prop} (h : ∀ _ : Unit, R []) (us : List Value) (e : us.length = 0) : R us := (List.length_eq_zero_iff.mp e) ▸ h ()
theorem us1 {R : List Value → Prop} (h : ∀ x0 : Value, R [x0]) (us : List Value) (e : us.length = 1) : R us := by
  obtain ⟨a, r, rfl⟩ := List.exists_cons_of_length_eq_add_one e
  exact us0 (R := fun r => R (a :: r)) (fun _ => h a) r (Nat.succ.inj e)
theorem us2 {R : List Value → Prop} (h : ∀ x0 x1 : Value, R [x0, x1]) (us : List Value) (e : us.length = 2) : R us := by
  obtain ⟨a, r, rfl⟩ := List.exists_cons_of_length_eq_add_one e
  exact us1 (R := fun r => R (a :: r)) (h a) r (Nat.succ.inj e)
theorem us3 {R : List Value → Prop} (h : ∀ x0 x1 x2 : Value, R [x0, x1, x2]) (us : List Value) (e : us.length = 3) : R us := by
  obtain ⟨a, r, rfl⟩ := List.exists_cons_of_length_eq_add_one e
  exact us2 (R := fun r => R (a :: r)) (h a) r (Nat.succ.inj e)
theorem all_mk {l : PySem.W.OpenLaw} {w : World} {K : PySem.W.Frag} {h : Heap} {mg : Str → Option Value} {fa : Addr} (X : K.In h) (G : h.Ns mainGlobals mg) (hfa : mg "law" = some (.ref fa))
    {f0 : Addr} {od0 an0 : Option Addr} {sl0 : Array (Option Value)} {oc0 kV0 dc0 pm0 cd0 ct0 : Value}
    {f1 : Addr} {od1 an1 : Option Addr} {sl1 : Array (Option Value)} {oc1 kV1 dc1 pm1 cd1 ct1 : Value}
    {f2 : Addr} {od2 an2 : Option Addr} {sl2 : Array (Option Value)} {oc2 kV2 dc2 pm2 cd2 ct2 : Value}
    {f3 : Addr} {od3 an3 : Option Addr} {sl3 : Array (Option Value)} {oc3 kV3 dc3 pm3 cd3 ct3 : Value}
    {f4 : Addr} {od4 an4 : Option Addr} {sl4 : Array (Option Value)} {oc4 kV4 dc4 pm4 cd4 ct4 : Value}
    {f5 : Addr} {od5 an5 : Option Addr} {sl5 : Array (Option Value)} {oc5 kV5 dc5 pm5 cd5 ct5 : Value}
    {f6 : Addr} {od6 an6 : Option Addr} {sl6 : Array (Option Value)} {oc6 kV6 dc6 pm6 cd6 ct6 : Value}
    {f7 : Addr} {od7 an7 : Option Addr} {sl7 : Array (Option Value)} {oc7 kV7 dc7 pm7 cd7 ct7 : Value}
    {f8 : Addr} {od8 an8 : Option Addr} {sl8 : Array (Option Value)} {oc8 kV8 dc8 pm8 cd8 ct8 : Value}
    {f9 : Addr} {od9 an9 : Option Addr} {sl9 : Array (Option Value)} {oc9 kV9 dc9 pm9 cd9 ct9 : Value}
    {f10 : Addr} {od10 an10 : Option Addr} {sl10 : Array (Option Value)} {oc10 kV10 dc10 pm10 cd10 ct10 : Value}
    {f11 : Addr} {od11 an11 : Option Addr} {sl11 : Array (Option Value)} {oc11 kV11 dc11 pm11 cd11 ct11 : Value}
    {f12 : Addr} {od12 an12 : Option Addr} {sl12 : Array (Option Value)} {oc12 kV12 dc12 pm12 cd12 ct12 : Value}
    {f13 : Addr} {od13 an13 : Option Addr} {sl13 : Array (Option Value)} {oc13 kV13 dc13 pm13 cd13 ct13 : Value}
    {f14 : Addr} {od14 an14 : Option Addr} {sl14 : Array (Option Value)} {oc14 kV14 dc14 pm14 cd14 ct14 : Value}
    (a0 : PySem.W.nsIn K mainGlobals "framed" = some (some (.ref f0))) (l0 : K.lookup f0 = some ⟨oc0, od0, .func (PySem.W.fnOf "framed" "framed" (defArgs s_framed) (defBody s_framed) (defScope s_framed) .none kV0 dc0 pm0 an0 cd0 ct0), sl0⟩) (c0 : PySem.W.codeIn K cd0 "framed" = true) (k0 : PySem.W.keepIn K (.ref f0) = true)
    (a1 : PySem.W.nsIn K mainGlobals "open_gaps" = some (some (.ref f1))) (l1 : K.lookup f1 = some ⟨oc1, od1, .func (PySem.W.fnOf "open_gaps" "open_gaps" (defArgs s_open_gaps) (defBody s_open_gaps) (defScope s_open_gaps) .none kV1 dc1 pm1 an1 cd1 ct1), sl1⟩) (c1 : PySem.W.codeIn K cd1 "open_gaps" = true) (k1 : PySem.W.keepIn K (.ref f1) = true)
    (a2 : PySem.W.nsIn K mainGlobals "kin_spans" = some (some (.ref f2))) (l2 : K.lookup f2 = some ⟨oc2, od2, .func (PySem.W.fnOf "kin_spans" "kin_spans" (defArgs s_kin_spans) (defBody s_kin_spans) (defScope s_kin_spans) .none kV2 dc2 pm2 an2 cd2 ct2), sl2⟩) (c2 : PySem.W.codeIn K cd2 "kin_spans" = true) (k2 : PySem.W.keepIn K (.ref f2) = true)
    (a3 : PySem.W.nsIn K mainGlobals "kin_end" = some (some (.ref f3))) (l3 : K.lookup f3 = some ⟨oc3, od3, .func (PySem.W.fnOf "kin_end" "kin_end" (defArgs s_kin_end) (defBody s_kin_end) (defScope s_kin_end) .none kV3 dc3 pm3 an3 cd3 ct3), sl3⟩) (c3 : PySem.W.codeIn K cd3 "kin_end" = true) (k3 : PySem.W.keepIn K (.ref f3) = true)
    (a4 : PySem.W.nsIn K mainGlobals "gap_kins" = some (some (.ref f4))) (l4 : K.lookup f4 = some ⟨oc4, od4, .func (PySem.W.fnOf "gap_kins" "gap_kins" (defArgs s_gap_kins) (defBody s_gap_kins) (defScope s_gap_kins) .none kV4 dc4 pm4 an4 cd4 ct4), sl4⟩) (c4 : PySem.W.codeIn K cd4 "gap_kins" = true) (k4 : PySem.W.keepIn K (.ref f4) = true)
    (a5 : PySem.W.nsIn K mainGlobals "knots_in" = some (some (.ref f5))) (l5 : K.lookup f5 = some ⟨oc5, od5, .func (PySem.W.fnOf "knots_in" "knots_in" (defArgs s_knots_in) (defBody s_knots_in) (defScope s_knots_in) .none kV5 dc5 pm5 an5 cd5 ct5), sl5⟩) (c5 : PySem.W.codeIn K cd5 "knots_in" = true) (k5 : PySem.W.keepIn K (.ref f5) = true)
    (a6 : PySem.W.nsIn K mainGlobals "_law_cell_at" = some (some (.ref f6))) (l6 : K.lookup f6 = some ⟨oc6, od6, .func (PySem.W.fnOf "_law_cell_at" "_law_cell_at" (defArgs s_law_cell_at) (defBody s_law_cell_at) (defScope s_law_cell_at) .none kV6 dc6 pm6 an6 cd6 ct6), sl6⟩) (c6 : PySem.W.codeIn K cd6 "_law_cell_at" = true) (k6 : PySem.W.keepIn K (.ref f6) = true)
    (a7 : PySem.W.nsIn K mainGlobals "_law_row_of_kins" = some (some (.ref f7))) (l7 : K.lookup f7 = some ⟨oc7, od7, .func (PySem.W.fnOf "_law_row_of_kins" "_law_row_of_kins" (defArgs s_law_row_of_kins) (defBody s_law_row_of_kins) (defScope s_law_row_of_kins) .none kV7 dc7 pm7 an7 cd7 ct7), sl7⟩) (c7 : PySem.W.codeIn K cd7 "_law_row_of_kins" = true) (k7 : PySem.W.keepIn K (.ref f7) = true)
    (a8 : PySem.W.nsIn K mainGlobals "_law_whole_number" = some (some (.ref f8))) (l8 : K.lookup f8 = some ⟨oc8, od8, .func (PySem.W.fnOf "_law_whole_number" "_law_whole_number" (defArgs s_law_whole_number) (defBody s_law_whole_number) (defScope s_law_whole_number) .none kV8 dc8 pm8 an8 cd8 ct8), sl8⟩) (c8 : PySem.W.codeIn K cd8 "_law_whole_number" = true) (k8 : PySem.W.keepIn K (.ref f8) = true)
    (a9 : PySem.W.nsIn K mainGlobals "_law_row_is" = some (some (.ref f9))) (l9 : K.lookup f9 = some ⟨oc9, od9, .func (PySem.W.fnOf "_law_row_is" "_law_row_is" (defArgs s_law_row_is) (defBody s_law_row_is) (defScope s_law_row_is) .none kV9 dc9 pm9 an9 cd9 ct9), sl9⟩) (c9 : PySem.W.codeIn K cd9 "_law_row_is" = true) (k9 : PySem.W.keepIn K (.ref f9) = true)
    (a10 : PySem.W.nsIn K mainGlobals "_law_framed" = some (some (.ref f10))) (l10 : K.lookup f10 = some ⟨oc10, od10, .func (PySem.W.fnOf "_law_framed" "_law_framed" (defArgs s_law_framed) (defBody s_law_framed) (defScope s_law_framed) .none kV10 dc10 pm10 an10 cd10 ct10), sl10⟩) (c10 : PySem.W.codeIn K cd10 "_law_framed" = true) (k10 : PySem.W.keepIn K (.ref f10) = true)
    (a11 : PySem.W.nsIn K mainGlobals "_law_is_whole" = some (some (.ref f11))) (l11 : K.lookup f11 = some ⟨oc11, od11, .func (PySem.W.fnOf "_law_is_whole" "_law_is_whole" (defArgs s_law_is_whole) (defBody s_law_is_whole) (defScope s_law_is_whole) .none kV11 dc11 pm11 an11 cd11 ct11), sl11⟩) (c11 : PySem.W.codeIn K cd11 "_law_is_whole" = true) (k11 : PySem.W.keepIn K (.ref f11) = true)
    (a12 : PySem.W.nsIn K mainGlobals "_law_kins" = some (some (.ref f12))) (l12 : K.lookup f12 = some ⟨oc12, od12, .func (PySem.W.fnOf "_law_kins" "_law_kins" (defArgs s_law_kins) (defBody s_law_kins) (defScope s_law_kins) .none kV12 dc12 pm12 an12 cd12 ct12), sl12⟩) (c12 : PySem.W.codeIn K cd12 "_law_kins" = true) (k12 : PySem.W.keepIn K (.ref f12) = true)
    (a13 : PySem.W.nsIn K mainGlobals "_law_knots" = some (some (.ref f13))) (l13 : K.lookup f13 = some ⟨oc13, od13, .func (PySem.W.fnOf "_law_knots" "_law_knots" (defArgs s_law_knots) (defBody s_law_knots) (defScope s_law_knots) .none kV13 dc13 pm13 an13 cd13 ct13), sl13⟩) (c13 : PySem.W.codeIn K cd13 "_law_knots" = true) (k13 : PySem.W.keepIn K (.ref f13) = true)
    (a14 : PySem.W.nsIn K mainGlobals "law" = some (some (.ref f14))) (l14 : K.lookup f14 = some ⟨oc14, od14, .func (PySem.W.fnOf "law" "law" (defArgs s_law) (defBody s_law) (defScope s_law) .none kV14 dc14 pm14 an14 cd14 ct14), sl14⟩) (c14 : PySem.W.codeIn K cd14 "law" = true) (k14 : PySem.W.keepIn K (.ref f14) = true)
    (z0 : PySem.W.nsIn K mainGlobals "abs" = some none)
    (z1 : PySem.W.nsIn K mainGlobals "all" = some none)
    (z2 : PySem.W.nsIn K mainGlobals "any" = some none)
    (z3 : PySem.W.nsIn K mainGlobals "bool" = some none)
    (z4 : PySem.W.nsIn K mainGlobals "int" = some none)
    (z5 : PySem.W.nsIn K mainGlobals "isinstance" = some none)
    (z6 : PySem.W.nsIn K mainGlobals "len" = some none)
    (z7 : PySem.W.nsIn K mainGlobals "list" = some none)
    (z8 : PySem.W.nsIn K mainGlobals "max" = some none)
    (z9 : PySem.W.nsIn K mainGlobals "min" = some none)
    (z10 : PySem.W.nsIn K mainGlobals "range" = some none)
    (z11 : PySem.W.nsIn K mainGlobals "reversed" = some none)
    (z12 : PySem.W.nsIn K mainGlobals "set" = some none)
    (z13 : PySem.W.nsIn K mainGlobals "sorted" = some none)
    (z14 : PySem.W.nsIn K mainGlobals "tuple" = some none)
    : ∃ fd : FuncData, (∀ (s : Shared) (v : Value), BindsTo s fd ⟨[v], []⟩ [("script", v)]) ∧ ∀ base : Heap, K.In base → base.Ns mainGlobals mg → FnOk l.prog w K mg base CX0 5 fa fd ["script"] (spLaw K) := by
  have e := hfa.symm.trans (PySem.W.mg_of X G a14)
  cases e
  have B : Bl mg := ⟨PySem.W.mg_none_of X G z0, PySem.W.mg_none_of X G z1, PySem.W.mg_none_of X G z2, PySem.W.mg_none_of X G z3, PySem.W.mg_none_of X G z4, PySem.W.mg_none_of X G z5, PySem.W.mg_none_of X G z6, PySem.W.mg_none_of X G z7, PySem.W.mg_none_of X G z8, PySem.W.mg_none_of X G z9, PySem.W.mg_none_of X G z10, PySem.W.mg_none_of X G z11, PySem.W.mg_none_of X G z12, PySem.W.mg_none_of X G z13, PySem.W.mg_none_of X G z14⟩
  have F0 : Fn K mg "framed" s_framed ["row"] _ _ := Fn.mk' (fun_mk (st := s_framed) l0 c0 k0) (fun _ _ _ _ _ _ us hl => us1 (R := fun us => bindArgs _ ⟨us, []⟩ = pure (List.zip _ us)) (fun _ => rfl) us hl) (PySem.W.mg_of X G a0)
  have F1 : Fn K mg "open_gaps" s_open_gaps ["row"] _ _ := Fn.mk' (fun_mk (st := s_open_gaps) l1 c1 k1) (fun _ _ _ _ _ _ us hl => us1 (R := fun us => bindArgs _ ⟨us, []⟩ = pure (List.zip _ us)) (fun _ => rfl) us hl) (PySem.W.mg_of X G a1)
  have F2 : Fn K mg "kin_spans" s_kin_spans ["row"] _ _ := Fn.mk' (fun_mk (st := s_kin_spans) l2 c2 k2) (fun _ _ _ _ _ _ us hl => us1 (R := fun us => bindArgs _ ⟨us, []⟩ = pure (List.zip _ us)) (fun _ => rfl) us hl) (PySem.W.mg_of X G a2)
  have F3 : Fn K mg "kin_end" s_kin_end ["numbers", "first"] _ _ := Fn.mk' (fun_mk (st := s_kin_end) l3 c3 k3) (fun _ _ _ _ _ _ us hl => us2 (R := fun us => bindArgs _ ⟨us, []⟩ = pure (List.zip _ us)) (fun _ _ => rfl) us hl) (PySem.W.mg_of X G a3)
  have F4 : Fn K mg "gap_kins" s_gap_kins ["row"] _ _ := Fn.mk' (fun_mk (st := s_gap_kins) l4 c4 k4) (fun _ _ _ _ _ _ us hl => us1 (R := fun us => bindArgs _ ⟨us, []⟩ = pure (List.zip _ us)) (fun _ => rfl) us hl) (PySem.W.mg_of X G a4)
  have F5 : Fn K mg "knots_in" s_knots_in ["row"] _ _ := Fn.mk' (fun_mk (st := s_knots_in) l5 c5 k5) (fun _ _ _ _ _ _ us hl => us1 (R := fun us => bindArgs _ ⟨us, []⟩ = pure (List.zip _ us)) (fun _ => rfl) us hl) (PySem.W.mg_of X G a5)
  have F6 : Fn K mg "_law_cell_at" s_law_cell_at ["script", "k"] _ _ := Fn.mk' (fun_mk (st := s_law_cell_at) l6 c6 k6) (fun _ _ _ _ _ _ us hl => us2 (R := fun us => bindArgs _ ⟨us, []⟩ = pure (List.zip _ us)) (fun _ _ => rfl) us hl) (PySem.W.mg_of X G a6)
  have F7 : Fn K mg "_law_row_of_kins" s_law_row_of_kins ["script", "at", "many"] _ _ := Fn.mk' (fun_mk (st := s_law_row_of_kins) l7 c7 k7) (fun _ _ _ _ _ _ us hl => us3 (R := fun us => bindArgs _ ⟨us, []⟩ = pure (List.zip _ us)) (fun _ _ _ => rfl) us hl) (PySem.W.mg_of X G a7)
  have F8 : Fn K mg "_law_whole_number" s_law_whole_number ["found"] _ _ := Fn.mk' (fun_mk (st := s_law_whole_number) l8 c8 k8) (fun _ _ _ _ _ _ us hl => us1 (R := fun us => bindArgs _ ⟨us, []⟩ = pure (List.zip _ us)) (fun _ => rfl) us hl) (PySem.W.mg_of X G a8)
  have F9 : Fn K mg "_law_row_is" s_law_row_is ["found", "due"] _ _ := Fn.mk' (fun_mk (st := s_law_row_is) l9 c9 k9) (fun _ _ _ _ _ _ us hl => us2 (R := fun us => bindArgs _ ⟨us, []⟩ = pure (List.zip _ us)) (fun _ _ => rfl) us hl) (PySem.W.mg_of X G a9)
  have F10 : Fn K mg "_law_framed" s_law_framed ["row"] _ _ := Fn.mk' (fun_mk (st := s_law_framed) l10 c10 k10) (fun _ _ _ _ _ _ us hl => us1 (R := fun us => bindArgs _ ⟨us, []⟩ = pure (List.zip _ us)) (fun _ => rfl) us hl) (PySem.W.mg_of X G a10)
  have F11 : Fn K mg "_law_is_whole" s_law_is_whole ["numbers", "first", "last"] _ _ := Fn.mk' (fun_mk (st := s_law_is_whole) l11 c11 k11) (fun _ _ _ _ _ _ us hl => us3 (R := fun us => bindArgs _ ⟨us, []⟩ = pure (List.zip _ us)) (fun _ _ _ => rfl) us hl) (PySem.W.mg_of X G a11)
  have F12 : Fn K mg "_law_kins" s_law_kins ["numbers"] _ _ := Fn.mk' (fun_mk (st := s_law_kins) l12 c12 k12) (fun _ _ _ _ _ _ us hl => us1 (R := fun us => bindArgs _ ⟨us, []⟩ = pure (List.zip _ us)) (fun _ => rfl) us hl) (PySem.W.mg_of X G a12)
  have F13 : Fn K mg "_law_knots" s_law_knots ["numbers"] _ _ := Fn.mk' (fun_mk (st := s_law_knots) l13 c13 k13) (fun _ _ _ _ _ _ us hl => us1 (R := fun us => bindArgs _ ⟨us, []⟩ = pure (List.zip _ us)) (fun _ => rfl) us hl) (PySem.W.mg_of X G a13)
  have F14 : Fn K mg "law" s_law ["script"] _ _ := Fn.mk' (fun_mk (st := s_law) l14 c14 k14) (fun _ _ _ _ _ _ us hl => us1 (R := fun us => bindArgs _ ⟨us, []⟩ = pure (List.zip _ us)) (fun _ => rfl) us hl) (PySem.W.mg_of X G a14)
  exact ⟨_, fun s v => .of_eq rfl, fun base _ _ => ok_law B F0 F1 F2 F3 F4 F5 F6 F7 F8 F9 F10 F11 F12 F13 F14⟩
theorem walk {l : PySem.W.OpenLaw} {q : Program} {loose : List Str} {XP : (Str → Option Value) → Heap → Prop} {YP : World → Heap → Prop} {d : DefRec} {K : Params → PySem.W.Frag} (hn : l.most = some 63) (hdf : d.params.defaults = [])
    (hY : ∀ (w : World) (h : Heap), YP w h → (K w.params).In h)
    (F : ∀ (w : World) (mg : Str → Option Value) (fa : Addr) (h : Heap), (K w.params).In h → h.Ns mainGlobals mg → mg d.name = some (.ref fa) →
      ∃ fd : FuncData, (∀ (s : Shared) (u : Value), BindsTo s fd ⟨[u], []⟩ [("script", u)]) ∧ ∀ base : Heap, (K w.params).In base → base.Ns mainGlobals mg → FnOk l.prog w (K w.params) mg base CX0 5 fa fd ["script"] (spLaw (K w.params))) :
    PySem.W.WalkO q loose XP YP l.row.toRowW d [] (fun f vs => PySem.call f vs) :=
  L2.walk_of (n := 63) (k := 5) (x := "script") (CX := fun _ => CX0) (sp := fun w => spLaw (K w.params)) hn (by decide) hdf ⟨rfl, by decide, by decide, rfl⟩ hY F (fun _ _ a ns hl _ hS => ⟨a, ns, rfl, hS, hl, fun _ => rfl⟩) fun _ _ _ _ _ z => z
end Law
open PySem PySem.W PyProof.Rows
set_option maxRecDepth 100000 in
set_option maxHeartbeats 0 in
theorem PySem.Challenge.cw_claspwork_k47_knots_by_their_gaps_holds : PySem.Challenge.rw_claspwork_k47_knots_by_their_gaps.Holds := by
  w_on; o_law; k_head; (case hw => w_witness2)
  k_fill
  refine Law.walk (l := PySem.Challenge.rw_claspwork_k47_knots_by_their_gaps) rfl rfl (fun w h Y => PySem.W.kIn_of Y) ?F
  case F =>
    intro w mg fa h KX G hmg
    refine' Law.all_mk KX G hmg ?a0 ?l0 ?c0 ?k0 ?a1 ?l1 ?c1 ?k1 ?a2 ?l2 ?c2 ?k2 ?a3 ?l3 ?c3 ?k3 ?a4 ?l4 ?c4 ?k4 ?a5 ?l5 ?c5 ?k5 ?a6 ?l6 ?c6 ?k6 ?a7 ?l7 ?c7 ?k7 ?a8 ?l8 ?c8 ?k8 ?a9 ?l9 ?c9 ?k9 ?a10 ?l10 ?c10 ?k10 ?a11 ?l11 ?c11 ?k11 ?a12 ?l12 ?c12 ?k12 ?a13 ?l13 ?c13 ?k13 ?a14 ?l14 ?c14 ?k14 ?z0 ?z1 ?z2 ?z3 ?z4 ?z5 ?z6 ?z7 ?z8 ?z9 ?z10 ?z11 ?z12 ?z13 ?z14
    (case a0 => k_is)
    (case l0 => k_is)
    (case c0 => k_is)
    (case k0 => k_is)
    (case a1 => k_is)
    (case l1 => k_is)
    (case c1 => k_is)
    (case k1 => k_is)
    (case a2 => k_is)
    (case l2 => k_is)
    (case c2 => k_is)
    (case k2 => k_is)
    (case a3 => k_is)
    (case l3 => k_is)
    (case c3 => k_is)
    (case k3 => k_is)
    (case a4 => k_is)
    (case l4 => k_is)
    (case c4 => k_is)
    (case k4 => k_is)
    (case a5 => k_is)
    (case l5 => k_is)
    (case c5 => k_is)
    (case k5 => k_is)
    (case a6 => k_is)
    (case l6 => k_is)
    (case c6 => k_is)
    (case k6 => k_is)
    (case a7 => k_is)
    (case l7 => k_is)
    (case c7 => k_is)
    (case k7 => k_is)
    (case a8 => k_is)
    (case l8 => k_is)
    (case c8 => k_is)
    (case k8 => k_is)
    (case a9 => k_is)
    (case l9 => k_is)
    (case c9 => k_is)
    (case k9 => k_is)
    (case a10 => k_is)
    (case l10 => k_is)
    (case c10 => k_is)
    (case k10 => k_is)
    (case a11 => k_is)
    (case l11 => k_is)
    (case c11 => k_is)
    (case k11 => k_is)
    (case a12 => k_is)
    (case l12 => k_is)
    (case c12 => k_is)
    (case k12 => k_is)
    (case a13 => k_is)
    (case l13 => k_is)
    (case c13 => k_is)
    (case k13 => k_is)
    (case a14 => k_is)
    (case l14 => k_is)
    (case c14 => k_is)
    (case k14 => k_is)
    (case z0 => k_is)
    (case z1 => k_is)
    (case z2 => k_is)
    (case z3 => k_is)
    (case z4 => k_is)
    (case z5 => k_is)
    (case z6 => k_is)
    (case z7 => k_is)
    (case z8 => k_is)
    (case z9 => k_is)
    (case z10 => k_is)
    (case z11 => k_is)
    (case z12 => k_is)
    (case z13 => k_is)
    (case z14 => k_is)


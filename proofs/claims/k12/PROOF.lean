import PyProof.Rows.All
import Wide.All
import OpenK.AllK
import Wide.FinOn
import Lean
import PyProof.EqAt
import PyProof.EqKinds
import PyProof.TupleCall
import PyProof.SumWalkG
import KE.KTryMore
import PyProof.NeKinds
import PyProof.ExcAttrAll.ValueError
import KE.KRevIter
import PyProof.ReprRoads
import PyProof.ReprLen
import PyProof.TupleOfSeq
import KE.BitLaws
import PyProof.Rows.SortRuns
import PyProof.Rows.SortShell
import KE.KSortKey
import PyProof.WalkInts
import KE.KSortTup
import PyProof.DictValues
import PySem.Challenge.RW_claspwork_k12_told_deeds
set_option Elab.async false
set_option linter.all false
set_option maxRecDepth 100000
namespace L2
open PySem PySem.Spec PyProof.Rows

abbrev Key := Sum Int Str
def keyIs : Key → Value → Bool
  | .inl k, v => Value.isInt k v
  | .inr x, v => Value.isStrOf x v
def keyH (w : World) : Key → Int
  | .inl k => hashInt k
  | .inr x => hashStr w x
theorem keyIs_shape : ∀ {k : Key} {v : Value}, keyIs k v = true → (∃ i t, k = Sum.inl i ∧ v = Value.int i t) ∨ (∃ x t, k = Sum.inr x ∧ v = Value.str x t)
  | .inl i, v, h => by
    obtain ⟨t, e⟩ := Value.isInt_shape (k := i) (v := v) h
    exact .inl ⟨i, t, rfl, e⟩
  | .inr x, v, h => by
    obtain ⟨t, e⟩ := Value.isStrOf_shape (x := x) (v := v) h
    exact .inr ⟨x, t, rfl, e⟩
theorem keyIs_int (i : Int) (t : Tok) : keyIs (.inl i) (.int i t) = true := by simp [keyIs, Value.isInt]
theorem keyIs_str (x : Str) (t : Tok) : keyIs (.inr x) (.str x t) = true := by simp [keyIs, Value.isStrOf]
theorem key_ll (a b : Int) : decide ((Sum.inl a : Key) = Sum.inl b) = (a == b) := by
  by_cases e : a = b
  · subst e; simp
  · have h : ¬ (Sum.inl a : Key) = Sum.inl b := fun q => e (Sum.inl.inj q)
    rw [decide_eq_false h]
    exact (beq_eq_false_iff_ne.mpr e).symm
theorem key_rr (a b : Str) : decide ((Sum.inr a : Key) = Sum.inr b) = decide (a = b) := by
  by_cases e : a = b
  · subst e; simp
  · have h : ¬ (Sum.inr a : Key) = Sum.inr b := fun q => e (Sum.inr.inj q)
    rw [decide_eq_false h, decide_eq_false e]
theorem key_lr (a : Int) (b : Str) : decide ((Sum.inl a : Key) = Sum.inr b) = false := decide_eq_false (fun q => nomatch q)
theorem key_rl (a : Str) (b : Int) : decide ((Sum.inr a : Key) = Sum.inl b) = false := decide_eq_false (fun q => nomatch q)

def mixKind (prog : Program) (w : World) : PySem.KeyKind prog w Key where
  is := keyIs
  hash := keyH w
  inj := fun v a b ha hb => by
    rcases keyIs_shape ha with ⟨i, t, rfl, rfl⟩ | ⟨x, t, rfl, rfl⟩
    · rcases keyIs_shape hb with ⟨j, u, rfl, e⟩ | ⟨y, u, rfl, e⟩
      · injection e with e1 _; rw [e1]
      · exact nomatch e
    · rcases keyIs_shape hb with ⟨j, u, rfl, e⟩ | ⟨y, u, rfl, e⟩
      · exact nomatch e
      · injection e with e1 _; rw [e1]
  byValue := fun k v h => by
    rcases keyIs_shape h with ⟨i, t, rfl, rfl⟩ | ⟨x, t, rfl, rfl⟩ <;> rfl
  pyHash := fun hv h => by
    rcases keyIs_shape hv with ⟨i, t, rfl, rfl⟩ | ⟨x, t, rfl, rfl⟩
    · exact wpAny_pyHash_int h
    · exact wpAny_pyHash_str h
  eqBool := fun hu hv h => by
    rcases keyIs_shape hu with ⟨i, t, rfl, rfl⟩ | ⟨x, t, rfl, rfl⟩
    · rcases keyIs_shape hv with ⟨j, u, rfl, rfl⟩ | ⟨y, u, rfl, rfl⟩
      · rw [key_ll] at h; exact wpAny_eqBool_int h
      · rw [key_lr] at h; exact SeqAt.EqAt.int_str i t y u _ _ _ _ h
    · rcases keyIs_shape hv with ⟨j, u, rfl, rfl⟩ | ⟨y, u, rfl, rfl⟩
      · rw [key_rl] at h; exact SeqAt.EqAt.str_int x t j u _ _ _ _ h
      · rw [key_rr] at h; exact wpAny_eqBool_str h
  «strs» := fun k x t v h => by
    rcases keyIs_shape h with ⟨i, u, rfl, e⟩ | ⟨y, u, rfl, e⟩
    · exact nomatch e
    · injection e with e1 _
      subst e1
      cases v <;> rfl

theorem mixKind_int (prog : Program) (w : World) (i : Int) (t : Tok) : (mixKind prog w).is (.inl i) (.int i t) = true := keyIs_int i t
theorem mixKind_str (prog : Program) (w : World) (x : Str) (t : Tok) : (mixKind prog w).is (.inr x) (.str x t) = true := keyIs_str x t
end L2

namespace L2
open PySem PySem.Spec PyProof.Rows

inductive V where
  | non | bl (b : Bool) | int (i : Int) | str (x : Str) | byt (b : Array UInt8) | flt (b : UInt64) | ref (a : Addr) | ty (n : String)
  deriving DecidableEq

def RelV : V → Value → Prop
  | .non, u => u = Value.none
  | .bl b, u => u = Value.bool b
  | .int i, u => ∃ t, u = Value.int i t
  | .str x, u => ∃ t, u = Value.str x t
  | .byt b, u => ∃ t, u = Value.bytes b t
  | .flt b, u => ∃ t, u = Value.float b t
  | .ref a, u => u = Value.ref a
  | .ty n, u => u = Value.type n

abbrev Vals : List V → List Value → Prop := Paired RelV
theorem Vals.length {xs : List V} {us : List Value} (r : Vals xs us) : xs.length = us.length := Paired.length r
theorem Vals.get : ∀ {xs : List V} {us : List Value} {i : Nat} {x : V}, Vals xs us → xs[i]? = some x → ∃ u, us[i]? = some u ∧ RelV x u
  | _, _, _, _, .nil, e => by simp at e
  | _, _, 0, _, .cons r _, e => by simp at e; subst e; exact ⟨_, rfl, r⟩
  | _, _, i + 1, x, .cons _ t, e => by
    obtain ⟨u, h1, h2⟩ := Vals.get (i := i) (x := x) t (by simpa using e)
    exact ⟨u, by simpa using h1, h2⟩
theorem Vals.set {x : V} {u : Value} (r : RelV x u) : ∀ {xs : List V} {us : List Value} (i : Nat), Vals xs us → Vals (xs.set i x) (us.set i u)
  | _, _, _, .nil => .nil
  | _, _, 0, .cons _ t => .cons r t
  | _, _, i + 1, .cons q t => .cons q (Vals.set r i t)
theorem Vals.append : ∀ {xs ys : List V} {us ws : List Value}, Vals xs us → Vals ys ws → Vals (xs ++ ys) (us ++ ws)
  | _, _, _, _, .nil, s => s
  | _, _, _, _, .cons r t, s => .cons r (Vals.append t s)
def RelO : Option V → Option Value → Prop
  | some v, some u => RelV v u
  | none, none => True
  | _, _ => False
def KV {κ : Type} : List (κ × V) → List (κ × Value) → Prop := Paired fun (p : κ × V) (q : κ × Value) => p.1 = q.1 ∧ RelV p.2 q.2

def kV : Key → V
  | .inl i => .int i
  | .inr x => .str x

inductive HO where
  | lst (xs : List V)
  | tup (xs : List V)
  | dK (kvs : List (Key × V)) | dT (kvs : List (List Key × V))
  | set (S : Int → Bool) (n : Nat)
  | ins (C dx : Addr) (fs : List (Str × V))
  | own (x : Addr)
  | xd (fs : List (Str × V))
  | met (f x : Addr)
  | rng (lo hi : Int)
  | frz (o : Obj) (u : HO)
  | tbl (ps : Array Value)
  | ext (φ : Heap → Prop)

abbrev Hp := Addr → Option HO
def upd (H : Hp) (a : Addr) (o : HO) : Hp := fun b => if b = a then some o else H b
theorem upd_same {H : Hp} {a : Addr} {o : HO} : upd H a o a = some o := by unfold upd; rw [if_pos rfl]
theorem upd_ne {H : Hp} {a b : Addr} {o : HO} (h : b ≠ a) : upd H a o b = H b := by unfold upd; rw [if_neg h]
theorem ne_of {H : Hp} {a b : Addr} {o u : HO} (h : H a = some o) (h' : H b = some u) (d : o ≠ u) : a ≠ b := by
  intro e; subst e; rw [h] at h'; exact d (Option.some.inj h')
theorem ne_of_none {H : Hp} {a b : Addr} {o : HO} (h : H a = some o) (h' : H b = none) : a ≠ b := by
  intro e; subst e; rw [h] at h'; cases h'

section
variable (P : Program) (w : World)
def ObjOk (H : Hp) (h : Heap) (a : Addr) : HO → Prop
  | .lst xs => xs.length ≤ sizeLine ∧ ∃ (its : List Value) (n : Nat), Vals xs its ∧ h.get? a = some { cls := .type "list", data := .seq its.toArray n }
  | .tup xs => xs.length ≤ sizeLine ∧ ∃ its : List Value, Vals xs its ∧ IsTup h a its.toArray
  | .dK kvs => kvs.length ≤ sizeLine ∧ (a == sysModules) = false ∧ ∃ vs, KV kvs vs ∧ h.DictOf (mixKind P w) a vs
  | .dT kvs => kvs.length ≤ sizeLine ∧ (a == sysModules) = false ∧ ∃ xs : List (List Key × Addr × Value),
      Paired (fun (p : List Key × V) (q : List Key × Addr × Value) => p.1 = q.1 ∧ H q.2.1 = some (.tup (p.1.map kV)) ∧ RelV p.2 q.2.2) kvs xs ∧
      ∃ o es ep, h.get? a = some o ∧ o.ExactDict ∧ o.data = .dict es ep ∧ es.toList = xs.map (entryOfKey (tupleKind (mixKind P w))) ∧ (xs.map (·.1)).Nodup
  | .set S n => h.SetOf (intKind P w) a S n
  | .ins C dx fs => H dx = some (.own a) ∧ fs.length ≤ 1000 ∧ dx ≠ a ∧ h.get? a = some (PySem.W.instObj C dx) ∧
      ∃ mA, h.Ns1 dx mA ∧ (∀ f, RelO (fs.lookup f) (mA f)) ∧ PySem.Within mA (fs.map (·.1))
  | .own _ => ∃ o, h.get? a = some o
  | .xd fs => ∃ mA, h.Ns1 a mA ∧ ∀ f, RelO (fs.lookup f) (mA f)
  | .rng lo hi => ∃ t u v, h.get? a = some { cls := .type "range", data := .fields #[.int lo t, .int hi u, .int 1 v] }
  | .frz o u => h.get? a = some o ∧ ObjOk H h a u
  | .tbl ps => h.get? a = some { cls := .none, data := .fields ps }
  | .met f x => h.get? a = some (PySem.W.methodObj (.ref f) (.ref x))
  | .ext φ => φ h ∧ (∃ o, h.get? a = some o) ∧ ∀ h1 h2 : Heap, φ h1 → (∀ o, h1.get? a = some o → h2.get? a = some o) → φ h2
def HOk (H : Hp) (h : Heap) : Prop := ∀ a o, H a = some o → ObjOk P w H h a o
end

section
variable {P : Program} {w : World} {H H' : Hp} {h h' : Heap} {a : Addr} {o : HO}
theorem ObjOk.lt (x : ObjOk P w H h a o) : a < h.objs.size := by
  cases o with
  | lst xs => obtain ⟨_, _, _, _, e⟩ := x; exact Heap.lt_size e
  | tup xs => obtain ⟨_, _, _, p⟩ := x; exact p.lt
  | dK kvs => obtain ⟨_, _, _, _, o, _, _, e, _⟩ := x; exact Heap.lt_size e
  | dT kvs => obtain ⟨_, _, _, _, o, _, _, e, _⟩ := x; exact Heap.lt_size e
  | set S n => obtain ⟨o, _, _, _, e, _⟩ := x; exact Heap.lt_size e
  | ins C dx fs => obtain ⟨_, _, _, e, _⟩ := x; exact Heap.lt_size e
  | own y => obtain ⟨_, e⟩ := x; exact Heap.lt_size e
  | xd fs => obtain ⟨_, ⟨_, _, _, e, _⟩, _⟩ := x; exact Heap.lt_size e
  | rng lo hi => obtain ⟨_, _, _, e⟩ := x; exact Heap.lt_size e
  | frz ob u => obtain ⟨e, _⟩ := x; exact Heap.lt_size e
  | tbl ps => exact Heap.lt_size (show h.get? a = some _ from x)
  | met f y => exact Heap.lt_size (show h.get? a = some _ from x)
  | ext φ => obtain ⟨_, ⟨_, e⟩, _⟩ := x; exact Heap.lt_size e
theorem Paired.mapP {α β : Type} {F G : α → β → Prop} : ∀ {l₁ : List α} {l₂ : List β}, Paired F l₁ l₂ → (∀ a b, F a b → G a b) → Paired G l₁ l₂
  | _, _, .nil, _ => .nil
  | _, _, .cons r t, f => .cons (f _ _ r) (Paired.mapP t f)
theorem ObjOk.stay (x : ObjOk P w H h a o) (k : ∀ b u, (b = a ∨ H b = some (.own a)) → h.get? b = some u → h'.get? b = some u)
    (ho : ∀ b, H b = some (.own a) → H' b = some (.own a)) (ht : ∀ b xs, H b = some (.tup xs) → H' b = some (.tup xs)) : ObjOk P w H' h' a o := by
  induction o with
  | lst xs => obtain ⟨z, its, n, r, e⟩ := x; exact ⟨z, its, n, r, k _ _ (.inl rfl) e⟩
  | tup xs => obtain ⟨z, its, r, ob, e, c⟩ := x; exact ⟨z, its, r, ob, k _ _ (.inl rfl) e, c⟩
  | dK kvs => obtain ⟨z, y, vs, r, ob, es, ep, e, c⟩ := x; exact ⟨z, y, vs, r, ob, es, ep, k _ _ (.inl rfl) e, c⟩
  | dT kvs =>
    obtain ⟨z, y, xs, r, ob, es, ep, e, c⟩ := x
    exact ⟨z, y, xs, Paired.mapP r fun p q z => ⟨z.1, ht _ _ z.2.1, z.2.2⟩, ob, es, ep, k _ _ (.inl rfl) e, c⟩
  | set S n => obtain ⟨ob, es, ep, t, e, c⟩ := x; exact ⟨ob, es, ep, t, k _ _ (.inl rfl) e, c⟩
  | ins C dx fs =>
    obtain ⟨d, z, ne, e, mA, ⟨od, es, ep, e2, c⟩, r⟩ := x
    exact ⟨ho _ d, z, ne, k _ _ (.inl rfl) e, mA, ⟨od, es, ep, k _ _ (.inr d) e2, c⟩, r⟩
  | own y => obtain ⟨ob, e⟩ := x; exact ⟨ob, k _ _ (.inl rfl) e⟩
  | xd fs => obtain ⟨mA, ⟨od, es, ep, e, c⟩, r⟩ := x; exact ⟨mA, ⟨od, es, ep, k _ _ (.inl rfl) e, c⟩, r⟩
  | rng lo hi => obtain ⟨t, u, v, e⟩ := x; exact ⟨t, u, v, k _ _ (.inl rfl) e⟩
  | frz ob u ih => obtain ⟨e, q⟩ := x; exact ⟨k _ _ (.inl rfl) e, ih q⟩
  | tbl ps =>
    have e : h.get? a = some { cls := .none, data := .fields ps } := x
    show h'.get? a = some { cls := .none, data := .fields ps }
    exact k a _ (.inl rfl) e
  | met f y =>
    have e : h.get? a = some (PySem.W.methodObj (.ref f) (.ref y)) := x
    show h'.get? a = some (PySem.W.methodObj (.ref f) (.ref y))
    exact k a _ (.inl rfl) e
  | ext φ => obtain ⟨p, ⟨o, e⟩, st⟩ := x; exact ⟨st _ _ p fun o q => k _ _ (.inl rfl) q, ⟨o, k _ _ (.inl rfl) e⟩, st⟩
theorem HOk.lt (x : HOk P w H h) (e : H a = some o) : a < h.objs.size := (x a o e).lt
theorem HOk.fresh (x : HOk P w H h) (e : h.objs.size ≤ a) : H a = none := by
  cases q : H a with
  | none => rfl
  | some u => exact absurd (Nat.lt_of_lt_of_le (x.lt q) e) (Nat.lt_irrefl _)
theorem HOk.kept (x : HOk P w H h) (k : ∀ b u, h.get? b = some u → h'.get? b = some u) : HOk P w H h' := fun a o e =>
  (x a o e).stay (fun b u _ q => k b u q) (fun _ q => q) fun _ _ q => q
theorem HOk.laid (x : HOk P w H h) (k : ∀ b u, h.get? b = some u → h'.get? b = some u) (hp : h.objs.size ≤ a) (new : ObjOk P w (upd H a o) h' a o) : HOk P w (upd H a o) h' := fun b u e => by
  have hn := x.fresh hp
  by_cases hb : b = a
  · subst hb; rw [upd_same] at e; cases e; exact new
  · rw [upd_ne hb] at e
    exact (x b u e).stay (fun c v _ q => k c v q) (fun c q => by rw [upd_ne (ne_of_none q hn)]; exact q) fun c xs q => by rw [upd_ne (ne_of_none q hn)]; exact q
end

def Rd (H : Hp) (a : Addr) (u : HO) : Prop := H a = some u ∨ ∃ o, H a = some (.frz o u)
theorem Rd.ok {P : Program} {w : World} {H : Hp} {h : Heap} {a : Addr} {u : HO} (r : Rd H a u) (x : HOk P w H h) : ObjOk P w H h a u := by
  rcases r with r | ⟨o, r⟩
  · exact x a u r
  · obtain ⟨_, q⟩ := x a _ r
    exact q
def Mut : Option HO → Prop
  | some (.lst _) => True
  | some (.dK _) => True
  | some (.dT _) => True
  | some (.set _ _) => True
  | some (.ins _ _ _) => True
  | some (.ext _) => True
  | _ => False
section
variable {P : Program} {w : World} {H : Hp} {h h' : Heap} {x e : Addr} {o' : HO}
theorem HOk.write (ok : HOk P w H h) (mu : Mut (H x)) (he : e = x ∨ H e = some (.own x)) (k : ∀ b u, b ≠ e → h.get? b = some u → h'.get? b = some u) (heo : ∃ u, h'.get? e = some u)
    (new : ObjOk P w (upd H x o') h' x o') : HOk P w (upd H x o') h' := fun b u q => by
  have nown : ∀ c y, H c = some (.own y) → c ≠ x := fun c y r z => by subst z; rw [r] at mu; exact mu
  have ntup : ∀ c xs, H c = some (.tup xs) → c ≠ x := fun c xs r z => by subst z; rw [r] at mu; exact mu
  by_cases hb : b = x
  · subst hb; rw [upd_same] at q; cases q; exact new
  · rw [upd_ne hb] at q
    by_cases hbe : b = e
    · have q' : H b = some (.own x) := by
        rcases he with z | z
        · exact absurd (hbe.trans z) hb
        · rw [hbe]; exact z
      rw [q] at q'; cases q'
      obtain ⟨v, hv⟩ := heo
      exact ⟨v, by rw [hbe]; exact hv⟩
    · refine (ok b u q).stay (fun c v hc r => k c v ?_ r) (fun c r => by rw [upd_ne (nown c b r)]; exact r) fun c xs r => by rw [upd_ne (ntup c xs r)]; exact r
      rcases hc with rfl | hc
      · exact hbe
      · rintro rfl
        rcases he with z | z
        · exact nown c b hc z
        · rw [hc] at z; cases z; exact hb rfl
end

structure Un (fs ex : List Addr) (H H' : Hp) (h h' : Heap) : Prop where
  keep : ∀ b o, h.get? b = some o → H b = none → b ∉ fs → b ∉ ex → h'.get? b = some o
  slot : ∀ b o, h.get? b = some o → H b = none → b ∈ fs → b ∉ ex → ∃ sl, h'.get? b = some { o with slots := sl }
  free : ∀ b o, h.get? b = some o → H b = none → b ∉ ex → H' b = none
  there : ∀ b o, h.get? b = some o → b ∉ ex → ∃ o', h'.get? b = some o'
  tups : ∀ b xs, H b = some (.tup xs) → H' b = some (.tup xs)
  frzs : ∀ b o u, H b = some (.frz o u) → H' b = some (.frz o u)
  tbls : ∀ b ps, H b = some (.tbl ps) → ∃ more, H' b = some (.tbl (ps ++ more))
section
variable {fs fs' ex ex' : List Addr} {H H1 H2 : Hp} {h h1 h2 h' : Heap} {a x e : Addr} {o : HO}
theorem Un.any (u : Un fs ex H H1 h h1) {b : Addr} {ob : Obj} (q : h.get? b = some ob) (n : H b = none) (hx : b ∉ ex) : ∃ sl, h1.get? b = some { ob with slots := sl } := by
  by_cases hb : b ∈ fs
  · exact u.slot b ob q n hb hx
  · exact ⟨ob.slots, u.keep b ob q n hb hx⟩
theorem Un.trans (a : Un fs ex H H1 h h1) (b : Un fs ex H1 H2 h1 h2) : Un fs ex H H2 h h2 where
  keep := fun c ob q n hc hx => b.keep c ob (a.keep c ob q n hc hx) (a.free c ob q n hx) hc hx
  slot := fun c ob q n hc hx => by
    obtain ⟨sl, e1⟩ := a.slot c ob q n hc hx
    obtain ⟨sl', e2⟩ := b.slot c _ e1 (a.free c ob q n hx) hc hx
    exact ⟨sl', e2⟩
  free := fun c ob q n hx => by
    obtain ⟨o', e1⟩ := a.there c ob q hx
    exact b.free c o' e1 (a.free c ob q n hx) hx
  there := fun c ob q hx => by
    obtain ⟨o', e1⟩ := a.there c ob q hx
    exact b.there c o' e1 hx
  tups := fun c xs q => b.tups c xs (a.tups c xs q)
  frzs := fun c ob xs q => b.frzs c ob xs (a.frzs c ob xs q)
  tbls := fun c ps q => by
    obtain ⟨m1, e1⟩ := a.tbls c ps q
    obtain ⟨m2, e2⟩ := b.tbls c _ e1
    exact ⟨m1 ++ m2, by rw [e2, Array.append_assoc]⟩
theorem Un.kept (k : ∀ b u, h.get? b = some u → h'.get? b = some u) : Un fs ex H H h h' :=
  ⟨fun b ob q _ _ _ => k b ob q, fun b ob q _ _ _ => ⟨ob.slots, k b ob q⟩, fun _ _ _ n _ => n, fun b ob q _ => ⟨ob, k b ob q⟩, fun _ _ q => q, fun _ _ _ q => q, fun _ ps q => ⟨#[], by rw [q]; simp⟩⟩
theorem Un.refl : Un fs ex H H h h := Un.kept fun _ _ q => q
theorem Un.laid (k : ∀ b u, h.get? b = some u → h'.get? b = some u) (hp : h.objs.size ≤ a) (hn : H a = none) : Un fs ex H (upd H a o) h h' where
  keep := fun b u q _ _ _ => k b u q
  slot := fun b u q _ _ _ => ⟨u.slots, k b u q⟩
  free := fun b u q n _ => by rw [upd_ne (Nat.ne_of_lt (Nat.lt_of_lt_of_le (Heap.lt_size q) hp))]; exact n
  there := fun b u q _ => ⟨u, k b u q⟩
  tups := fun b xs q => by rw [upd_ne (ne_of_none q hn)]; exact q
  frzs := fun b u xs q => by rw [upd_ne (ne_of_none q hn)]; exact q
  tbls := fun b ps q => ⟨#[], by rw [upd_ne (ne_of_none q hn), q]; simp⟩
theorem Un.write (mu : Mut (H x)) (he : e = x ∨ H e = some (.own x)) (k : ∀ b u, b ≠ e → h.get? b = some u → h'.get? b = some u) (heo : ∃ u, h'.get? e = some u) : Un fs ex H (upd H x o) h h' := by
  have hx : ∀ b, H b = none → b ≠ x := fun b n z => by subst z; rw [n] at mu; exact mu
  have hb : ∀ b, H b = none → b ≠ e := fun b n z => by
    subst z
    rcases he with r | r
    · exact hx b n r
    · rw [n] at r; cases r
  have hm : ∀ b u, H b = some u → ¬ Mut (some u) → b ≠ x := fun b u q nm z => by subst z; rw [q] at mu; exact nm mu
  refine ⟨fun b u q n _ _ => k b u (hb b n) q, fun b u q n _ _ => ⟨u.slots, k b u (hb b n) q⟩, fun b u q n _ => by rw [upd_ne (hx b n)]; exact n, fun b u q _ => ?_,
    fun b xs q => by rw [upd_ne (hm b _ q fun z => z)]; exact q, fun b u xs q => by rw [upd_ne (hm b _ q fun z => z)]; exact q, fun b ps q => ⟨#[], by rw [upd_ne (hm b _ q fun z => z), q]; simp⟩⟩
  by_cases hbe : b = e
  · subst hbe; exact heo
  · exact ⟨u, k b u hbe q⟩
theorem Un.mono (u : Un fs ex H H1 h h1) (hs : ∀ b ∈ fs, b ∈ fs') (hx : ∀ b ∈ ex, b ∈ ex') : Un fs' ex' H H1 h h1 :=
  ⟨fun b ob q n hb he => u.keep b ob q n (fun z => hb (hs b z)) fun z => he (hx b z), fun _ _ q n _ he => u.any q n fun z => he (hx _ z), fun b ob q n he => u.free b ob q n fun z => he (hx b z), fun b ob q he => u.there b ob q fun z => he (hx b z), u.tups, u.frzs, u.tbls⟩
end

def trk (h : Heap) (H : Hp) : List Addr := (List.range h.objs.size).filter fun a => (H a).isSome
def hidT (h : Heap) (H : Hp) : Heap := PySem.W.hideAll h (trk h H)
theorem hidT_size (h : Heap) (H : Hp) : (hidT h H).objs.size = h.objs.size := PySem.W.hideAll_size _ _
theorem hidT_get {h : Heap} {H : Hp} {b : Addr} {o : Obj} (e : h.get? b = some o) (n : H b = none) : (hidT h H).get? b = some o :=
  PySem.W.hideAll_get _ e fun hm => by
    have q : (H b).isSome = true := (List.mem_filter.mp hm).2
    rw [n] at q; simp at q
theorem of_hidT {h : Heap} {H : Hp} {b : Addr} {o : Obj} (e : (hidT h H).get? b = some o) : h.get? b = some o ∧ H b = none := by
  have e' : h.get? b = some o := PySem.W.of_hideAll (trk h H) e
  refine ⟨e', ?_⟩
  cases q : H b with
  | none => rfl
  | some x =>
    have hm : b ∈ trk h H := List.mem_filter.mpr ⟨List.mem_range.mpr (Heap.lt_size e'), by simp [q]⟩
    have z : (hidT h H).get? b = none := PySem.W.hideAll_none (trk h H) hm
    rw [z] at e; cases e

end L2

namespace L2
open PySem PySem.Spec PyProof.Rows

structure Mod (K : PySem.W.Frag) (mg : Str → Option Value) (base : Heap) : Prop where
  kin : K.In base
  glob : base.Ns mainGlobals mg
  blt : ∃ mb, base.Ns builtinsNs mb ∧ ∀ x : Str, x ≠ "__name__" → mb x = bootBuiltins x
  nolimit : base.NoLimit

/-- the context: a def's body (or a comprehension's block) running. base: fixed through the whole law; s₀, H₀: the entry; outer: the frames whose slots others may change (a def's callers); stack: all frames that run;
   ex: iterators that were made ahead of the entry and are walked here (a comprehension's); fn: the names whose cells were made at the entry (a def: all; a comprehension's block: its own); calm: not within an except suite; pn: pins that every state bears; xe: what is wanted of an exception that leaves the code -/
structure Cx where
  prog : Program
  w : World
  K : PySem.W.Frag
  mg : Str → Option Value
  base : Heap
  A : Around
  N : List Str
  s₀ : Shared
  H₀ : Hp
  env : Env
  outer : List Env
  stack : List Env
  ex : List Addr
  fn : Str → Bool
  calm : Bool
  pn : List (Addr × Obj)
  xe : Value → Shared → Prop
def frs (l : List Env) : List Addr := l.filterMap (·.frame)
abbrev Cx.fs (X : Cx) : List Addr := frs X.outer

def Vis (sc : Scope) (x : Str) : Prop := sc.names.lookup x = some .local ∨ sc.names.lookup x = some .cell ∨ sc.names.lookup x = some .free
def Loc (sc : Scope) (x : Str) : Prop := sc.names.lookup x = some .local ∨ sc.names.lookup x = some .cell
def Look (env : Env) (h : Heap) (m : Str → Option Value) (x : Str) (u : Value) : Prop :=
  (env.kindOf x = some .local ∧ m x = some u) ∨ ((env.kindOf x = some .cell ∨ env.kindOf x = some .free) ∧ ∃ c, env.cells.lookup x = some c ∧ h.IsCell c (some u))

structure Cx.Ok (X : Cx) : Prop where
  mod : Mod X.K X.mg X.base
  kind : X.env.scope.kind = .function
  glob : X.env.globals = mainGlobals
  blt : X.env.builtins = builtinsNs
  above : X.s₀.heap.objs.size ≤ X.env.locals
  inj : ∀ x y c, X.env.cells.lookup x = some c → X.env.cells.lookup y = some c → x = y
  has : ∀ x, (X.env.kindOf x = some .cell ∨ X.env.kindOf x = some .free) → ∃ c, X.env.cells.lookup x = some c
  cab : ∀ x c, X.fn x = true → X.env.cells.lookup x = some c → X.s₀.heap.objs.size ≤ c
  hd : X.calm = true → X.A.handled = none
  frames : X.A.frames = some X.stack
  stk : X.stack = X.outer ∨ (X.stack = X.env :: X.outer ∧ X.env.frame = some X.env.locals)
  exf : ∀ b ∈ X.ex, b ≠ X.env.locals ∧ ∀ x c, X.env.cells.lookup x = some c → c ≠ b
  bs : ∀ b o, X.base.get? b = some o → X.s₀.heap.get? b = some o ∧ X.H₀ b = none
  bsz : X.base.objs.size ≤ X.s₀.heap.objs.size
  noex : ∀ b o, X.base.get? b = some o → b ∉ X.ex
  exfs : ∀ b ∈ X.ex, b ∉ X.fs
  funs : X.s₀.heap.FunFrames X.base X.outer
  frf : ∀ b ∈ X.fs, X.H₀ b = none

structure Inv (X : Cx) (pins : List (Addr × Obj)) (σ : List (Option V)) (H : Hp) (s : Shared) : Prop where
  ok : X.Ok
  os : s.os = X.s₀.os
  bare : AllBare s.gens
  base : Un X.fs X.ex X.H₀ H X.s₀.heap s.heap
  loc : ∃ m, s.heap.Ns X.env.locals m ∧ ∀ (i : Nat) (x : Str) (v : V), X.N[i]? = some x → σ[i]? = some (some v) → Vis X.env.scope x → ∃ u, RelV v u ∧ Look X.env s.heap m x u
  cell : ∀ x c, X.env.cells.lookup x = some c → ∃ v, s.heap.IsCell c v
  free : H X.env.locals = none
  freeC : ∀ x c, X.env.cells.lookup x = some c → H c = none
  pin : ∀ p ∈ X.pn ++ pins, s.heap.get? p.1 = some p.2 ∧ H p.1 = none ∧ p.1 ≠ X.env.locals ∧ p.1 ∉ X.fs ∧ ∀ v, p.2.data ≠ .cell v
  hok : HOk X.prog X.w H s.heap
  len : σ.length = X.N.length

section
variable {X : Cx} {pins : List (Addr × Obj)} {σ : List (Option V)} {H H' : Hp} {s : Shared} {h' : Heap}

theorem Cx.Ok.nofr (ok : X.Ok) {b : Addr} {o : Obj} (e : X.base.get? b = some o) : b ∉ X.fs := fun hb => by
  have := (ok.funs.mem hb).1
  rw [e] at this; cases this
theorem Inv.bs (I : Inv X pins σ H s) : ∀ b o, X.base.get? b = some o → s.heap.get? b = some o ∧ H b = none := fun b o e =>
  ⟨I.base.keep b o (I.ok.bs b o e).1 (I.ok.bs b o e).2 (I.ok.nofr e) (I.ok.noex b o e), I.base.free b o (I.ok.bs b o e).1 (I.ok.bs b o e).2 (I.ok.noex b o e)⟩
theorem Inv.bk (I : Inv X pins σ H s) : ∀ b o, X.base.get? b = some o → s.heap.get? b = some o := fun b o e => (I.bs b o e).1
theorem Inv.mod (I : Inv X pins σ H s) : Mod X.K X.mg X.base := I.ok.mod
theorem Inv.kIn (I : Inv X pins σ H s) : X.K.In s.heap := I.ok.mod.kin.keeps I.bk
theorem Inv.lt (I : Inv X pins σ H s) : X.env.locals < s.heap.objs.size := let ⟨_, hn, _⟩ := I.loc; hn.lt
theorem Inv.sz (I : Inv X pins σ H s) : X.s₀.heap.objs.size ≤ s.heap.objs.size := Nat.le_trans I.ok.above (Nat.le_of_lt I.lt)
theorem Inv.nofs (I : Inv X pins σ H s) {a : Addr} (h : s.heap.objs.size ≤ a) : a ∉ X.fs := fun hb => by
  obtain ⟨_, o, ho, _⟩ := I.ok.funs.mem hb
  exact absurd (Nat.lt_of_lt_of_le (Heap.lt_size ho) (Nat.le_trans I.sz h)) (Nat.lt_irrefl _)
theorem Inv.cne (I : Inv X pins σ H s) : ∀ x c, X.env.cells.lookup x = some c → c ≠ X.env.locals := fun x c e z => by
  obtain ⟨v, o, ho, hd⟩ := I.cell x c e
  obtain ⟨m, ⟨o', es, ep, ho', hd', _⟩, _⟩ := I.loc
  rw [z, ho'] at ho; cases ho; rw [hd'] at hd; cases hd
theorem Inv.funs (I : Inv X pins σ H s) : s.heap.FunFrames X.base X.outer := by
  have all : ∀ (l : List Env), (∀ b ∈ frs l, b ∈ X.fs) → X.s₀.heap.FunFrames X.base l → s.heap.FunFrames X.base l := by
    intro l
    induction l with
    | nil => intro _ _; trivial
    | cons env r ih =>
      intro hs hl
      obtain ⟨hk, ⟨L, o, hf, hn, ho, hd⟩, hr⟩ := hl
      have hL : L ∈ X.fs := hs L (by unfold frs; rw [List.filterMap_cons, hf]; exact List.mem_cons_self)
      obtain ⟨sl, e⟩ := I.base.slot L o ho (I.ok.frf L hL) hL fun z => I.ok.exfs L z hL
      exact ⟨hk, ⟨L, _, hf, hn, e, hd⟩, ih (fun b hb => hs b (by unfold frs; rw [List.filterMap_cons, hf]; exact List.mem_cons_of_mem _ hb)) hr⟩
  exact all X.outer (fun _ hb => hb) I.ok.funs

theorem Inv.stack (I : Inv X pins σ H s) : s.heap.FunFrames X.base X.stack := by
  rcases I.ok.stk with e | ⟨e, hf⟩
  · rw [e]; exact I.funs
  · rw [e]
    obtain ⟨m, hn, _⟩ := I.loc
    refine .cons (by rw [I.ok.kind]; decide) hf hn ?_ I.funs
    exact Heap.get?_none_of_le (Nat.le_trans I.ok.bsz I.ok.above)
theorem Inv.stkSub (I : Inv X pins σ H s) : ∀ b ∈ frs X.stack, b ∈ X.env.locals :: X.fs := fun b hb => by
  rcases I.ok.stk with e | ⟨e, hf⟩
  · rw [e] at hb; exact List.mem_cons_of_mem _ hb
  · rw [e] at hb
    unfold frs at hb
    rw [List.filterMap_cons, hf] at hb
    exact hb
theorem Inv.stkFree (I : Inv X pins σ H s) : ∀ b ∈ frs X.stack, H b = none := fun b hb => by
  rcases List.mem_cons.mp (I.stkSub b hb) with e | hb
  · rw [e]; exact I.free
  · obtain ⟨_, o, ho, _⟩ := I.ok.funs.mem hb
    exact I.base.free b o ho (I.ok.frf b hb) fun z => I.ok.exfs b z hb

theorem Inv.step {g' : Array GenState} {t' : Nat} {d' : Drawn} {ch : List Addr} (I : Inv X pins σ H s)
    (hch : ∀ b ∈ ch, (b ∈ X.ex ∨ X.s₀.heap.objs.size ≤ b) ∧ b ≠ X.env.locals ∧ (∀ x c, X.env.cells.lookup x = some c → c ≠ b) ∧ ∀ p ∈ X.pn ++ pins, p.1 ≠ b)
    (keep : ∀ b o, b ≠ X.env.locals → b ∉ X.fs → b ∉ ch → s.heap.get? b = some o → H b = none → h'.get? b = some o)
    (slot : ∀ b o, b ≠ X.env.locals → b ∈ X.fs → b ∉ ch → s.heap.get? b = some o → H b = none → ∃ sl, h'.get? b = some { o with slots := sl }) (free : ∀ b o, b ∉ ch → s.heap.get? b = some o → H b = none → H' b = none)
    (there : ∀ b o, b ∉ ch → s.heap.get? b = some o → ∃ o', h'.get? b = some o')
    (tups : ∀ b xs, H b = some (.tup xs) → H' b = some (.tup xs)) (frzs : ∀ b o u, H b = some (.frz o u) → H' b = some (.frz o u)) (tbls : ∀ b ps, H b = some (.tbl ps) → ∃ more, H' b = some (.tbl (ps ++ more)))
    (ns : ∀ m, s.heap.Ns X.env.locals m → h'.Ns X.env.locals m) (hok : HOk X.prog X.w H' h') (hg : AllBare g') :
    Inv X pins σ H' { s with heap := h', gens := g', drawn := d', toks := t' } := by
  have neL : ∀ b o, X.s₀.heap.get? b = some o → b ≠ X.env.locals := fun b o e => Nat.ne_of_lt (Nat.lt_of_lt_of_le (Heap.lt_size e) I.ok.above)
  have neC : ∀ b o, X.s₀.heap.get? b = some o → b ∉ X.ex → b ∉ ch := fun b o e hx hb => by
    rcases (hch b hb).1 with z | z
    · exact hx z
    · exact absurd (Nat.lt_of_lt_of_le (Heap.lt_size e) z) (Nat.lt_irrefl _)
  have cellK : ∀ x c, X.env.cells.lookup x = some c → ∀ v, s.heap.IsCell c v → h'.IsCell c v := fun x c e v ⟨o, ho, hd⟩ => by
    have nch : c ∉ ch := fun z => (hch c z).2.2.1 x c e rfl
    by_cases hc : c ∈ X.fs
    · obtain ⟨sl, q⟩ := slot c o (I.cne x c e) hc nch ho (I.freeC x c e)
      exact ⟨_, q, hd⟩
    · exact ⟨o, keep c o (I.cne x c e) hc nch ho (I.freeC x c e), hd⟩
  refine ⟨I.ok, I.os, hg, ⟨fun b o e n hb hx => ?_, fun b o e n hb hx => ?_, fun b o e n hx => ?_, fun b o e hx => ?_, fun b xs e => tups b xs (I.base.tups b xs e), fun b o xs e => frzs b o xs (I.base.frzs b o xs e), fun b ps e => ?_⟩, ?_, fun x c e => ?_, ?_, fun x c e => ?_, fun p hp => ?_, hok, I.len⟩
  · exact keep b o (neL b o e) hb (neC b o e hx) (I.base.keep b o e n hb hx) (I.base.free b o e n hx)
  · obtain ⟨sl, e1⟩ := I.base.slot b o e n hb hx
    obtain ⟨sl', e2⟩ := slot b _ (neL b o e) hb (neC b o e hx) e1 (I.base.free b o e n hx)
    exact ⟨sl', e2⟩
  · obtain ⟨o', e1⟩ := I.base.there b o e hx
    exact free b o' (neC b o e hx) e1 (I.base.free b o e n hx)
  · obtain ⟨o', e1⟩ := I.base.there b o e hx
    exact there b o' (neC b o e hx) e1
  · obtain ⟨m1, e1⟩ := I.base.tbls b ps e
    obtain ⟨m2, e2⟩ := tbls b _ e1
    exact ⟨m1 ++ m2, by rw [e2, Array.append_assoc]⟩
  · obtain ⟨m, hn, hl⟩ := I.loc
    refine ⟨m, ns m hn, fun i x v e1 e2 e3 => ?_⟩
    obtain ⟨u, r, l⟩ := hl i x v e1 e2 e3
    refine ⟨u, r, ?_⟩
    rcases l with l | ⟨k, c, e, z⟩
    · exact .inl l
    · exact .inr ⟨k, c, e, cellK x c e _ z⟩
  · obtain ⟨v, z⟩ := I.cell x c e
    exact ⟨v, cellK x c e v z⟩
  · obtain ⟨m, ⟨o, _, _, ho, _⟩, _⟩ := I.loc
    exact free _ o (fun z => (hch _ z).2.1 rfl) ho I.free
  · obtain ⟨v, o, ho, hd⟩ := I.cell x c e
    exact free c o (fun z => (hch c z).2.2.1 x c e rfl) ho (I.freeC x c e)
  · obtain ⟨e, n, ne, nf, d⟩ := I.pin p hp
    have nch : p.1 ∉ ch := fun z => (hch p.1 z).2.2.2 p hp rfl
    exact ⟨keep p.1 p.2 ne nf nch e n, free p.1 p.2 nch e n, ne, nf, d⟩
theorem Inv.un {t' : Nat} (I : Inv X pins σ H s) (u : Un X.fs [] H H' s.heap h') (hok : HOk X.prog X.w H' h') : Inv X pins σ H' { s with heap := h', toks := t' } := by
  obtain ⟨m, ⟨o, es, ep, ho, r⟩, _⟩ := id I.loc
  obtain ⟨sl, hL⟩ := u.any ho I.free (by simp)
  exact I.step (g' := s.gens) (d' := s.drawn) (ch := []) (fun _ z => nomatch z) (fun b o _ hb _ e n => u.keep b o e n hb (by simp)) (fun b o _ hb _ e n => u.slot b o e n hb (by simp)) (fun b o _ e n => u.free b o e n (by simp)) (fun b o _ e => u.there b o e (by simp)) u.tups u.frzs u.tbls (fun m' hm => by
    obtain ⟨o', es', ep', ho', r'⟩ := hm
    rw [ho] at ho'; cases ho'
    exact ⟨_, es', ep', hL, r'⟩) hok I.bare
theorem Inv.call {g' : Array GenState} {t' : Nat} {d' : Drawn} {ch : List Addr} (I : Inv X pins σ H s) (u : Un (frs X.stack) ch H H' s.heap h') (hok : HOk X.prog X.w H' h') (hg : AllBare g')
    (hch : ∀ b ∈ ch, (b ∈ X.ex ∨ X.s₀.heap.objs.size ≤ b) ∧ b ≠ X.env.locals ∧ (∀ x c, X.env.cells.lookup x = some c → c ≠ b) ∧ ∀ p ∈ X.pn ++ pins, p.1 ≠ b) :
    Inv X pins σ H' { s with heap := h', gens := g', drawn := d', toks := t' } := by
  obtain ⟨m, ⟨o, es, ep, ho, r⟩, _⟩ := id I.loc
  obtain ⟨sl, hL⟩ := u.any ho I.free fun z => (hch _ z).2.1 rfl
  exact I.step (ch := ch) hch (fun b o hL hb hc e n => u.keep b o e n (fun z => (List.mem_cons.mp (I.stkSub b z)).elim hL hb) hc) (fun b o _ _ hc e n => u.any e n hc) (fun b o hc e n => u.free b o e n hc) (fun b o hc e => u.there b o e hc) u.tups u.frzs u.tbls (fun m' hm => by
    obtain ⟨o', es', ep', ho', r'⟩ := hm
    rw [ho] at ho'; cases ho'
    exact ⟨_, es', ep', hL, r'⟩) hok hg
theorem Inv.turned {t' : Nat} {it : Addr} (I : Inv X pins σ H s) (k : ∀ b o, b ≠ it → s.heap.get? b = some o → h'.get? b = some o) (hn : H it = none) (hL : it ≠ X.env.locals)
    (h1 : it ∈ X.ex ∨ X.s₀.heap.objs.size ≤ it) (h2 : ∀ x c, X.env.cells.lookup x = some c → c ≠ it) (h3 : ∀ p ∈ X.pn ++ pins, p.1 ≠ it) : Inv X pins σ H { s with heap := h', toks := t' } := by
  have nit : ∀ b u, H b = some u → b ≠ it := fun b u e z => by rw [z, hn] at e; cases e
  refine I.step (g' := s.gens) (d' := s.drawn) (ch := [it]) (fun b hb => ?_) (fun b o _ _ hc e _ => k b o (fun z => hc (by simp [z])) e) (fun b o _ _ hc e _ => ⟨o.slots, k b o (fun z => hc (by simp [z])) e⟩) (fun _ _ _ _ n => n)
    (fun b o hc e => ⟨o, k b o (fun z => hc (by simp [z])) e⟩) (fun _ _ e => e) (fun _ _ _ e => e) (fun b ps e => ⟨#[], by rw [e]; simp⟩) (fun m hm => ?_) (fun b u e => ?_) I.bare
  · have e : b = it := by simpa using hb
    subst e
    exact ⟨h1, hL, h2, h3⟩
  · obtain ⟨o, es, ep, ho, r⟩ := hm
    exact ⟨o, es, ep, k _ o (Ne.symm hL) ho, r⟩
  · refine (I.hok b u e).stay (fun c v hc q => k c v ?_ q) (fun _ q => q) fun _ _ q => q
    rcases hc with z | z
    · rw [z]; exact nit b u e
    · exact nit c _ z
theorem Inv.tok (I : Inv X pins σ H s) (t : Nat) : Inv X pins σ H { s with toks := t } := I.un (h' := s.heap) (t' := t) Un.refl I.hok
theorem Inv.kept {t' : Nat} (I : Inv X pins σ H s) (k : ∀ b u, s.heap.get? b = some u → h'.get? b = some u) : Inv X pins σ H { s with heap := h', toks := t' } := I.un (Un.kept k) (I.hok.kept k)
theorem Inv.laid {a : Addr} {o : HO} {t' : Nat} (I : Inv X pins σ H s) (k : ∀ b u, s.heap.get? b = some u → h'.get? b = some u) (hp : s.heap.objs.size ≤ a) (new : ObjOk X.prog X.w (upd H a o) h' a o) :
    Inv X pins σ (upd H a o) { s with heap := h', toks := t' } := I.un (Un.laid k hp (I.hok.fresh hp)) (I.hok.laid k hp new)
theorem Inv.write {x e : Addr} {o : HO} {t' : Nat} (I : Inv X pins σ H s) (mu : Mut (H x)) (he : e = x ∨ H e = some (.own x)) (k : ∀ b u, b ≠ e → s.heap.get? b = some u → h'.get? b = some u) (heo : ∃ u, h'.get? e = some u)
    (new : ObjOk X.prog X.w (upd H x o) h' x o) : Inv X pins σ (upd H x o) { s with heap := h', toks := t' } := I.un (Un.write mu he k heo) (I.hok.write mu he k heo new)
theorem Inv.pins_of {pins' : List (Addr × Obj)} (I : Inv X pins σ H s) (h : ∀ p ∈ pins', s.heap.get? p.1 = some p.2 ∧ H p.1 = none ∧ p.1 ≠ X.env.locals ∧ p.1 ∉ X.fs ∧ ∀ v, p.2.data ≠ .cell v) : Inv X pins' σ H s :=
  ⟨I.ok, I.os, I.bare, I.base, I.loc, I.cell, I.free, I.freeC, fun p hp => (List.mem_append.mp hp).elim (fun z => I.pin p (List.mem_append_left _ z)) (h p), I.hok, I.len⟩

theorem nodup_ix {N : List Str} (hN : N.Nodup) {i j : Nat} {x : Str} (a : N[i]? = some x) (b : N[j]? = some x) : i = j := by
  obtain ⟨h1, e1⟩ := List.getElem?_eq_some_iff.mp a
  obtain ⟨h2, e2⟩ := List.getElem?_eq_some_iff.mp b
  exact (List.getElem_inj hN).mp (e1.trans e2.symm)

theorem store_ok2 {M : Model} {A : Around} {E : Value → Shared → Prop} {i : Nat} {x : Str} {v : V} {u : Value} {Q : Unit → Shared → Prop} (I : Inv X pins σ H s) (hN : X.N.Nodup) (hi : X.N[i]? = some x) (hx : Loc X.env.scope x) (r : RelV v u)
    (h : ∀ s', Inv X pins (σ.set i (some v)) H s' → (∃ a, Heap.SameBut a s.heap s'.heap ∧ (a = X.env.locals ∨ X.env.cells.lookup x = some a)) → Q () s') (hf : X.fn x = true ∨ X.env.scope.names.lookup x = some .local := by first | exact .inl rfl | exact .inr rfl | assumption) : wpAny M A (storeName X.env x u) Q E s := by
  obtain ⟨m, hn, hl⟩ := id I.loc
  have hcls : (X.env.scope.kind == .class || (X.env.scope.kind == .module && X.env.locals != X.env.globals)) = false := by rw [I.ok.kind]; rfl
  have hiσ : i < σ.length := by rw [I.len]; exact (List.getElem?_eq_some_iff.mp hi).1
  have cne := I.cne
  have tracked : ∀ {a : Addr} {h' : Heap}, (∃ o, s.heap.get? a = some o ∧ H a = none) → Heap.SameBut a s.heap h' → HOk X.prog X.w H h' := fun {a h'} ha hs b ob e => by
    obtain ⟨_, _, hfree⟩ := ha
    refine (I.hok b ob e).stay (fun c w' hc q => (hs.2 c ?_).trans q) (fun _ q => q) fun _ _ q => q
    rintro rfl
    rcases hc with rfl | hc
    · rw [hfree] at e; cases e
    · rw [hfree] at hc; cases hc
  rcases hx with hk | hk
  · refine wpAny_storeName_local hk hn (fun h' hn' hs => ?_) hcls
    obtain ⟨oL, _, _, hoL, _⟩ := id hn
    refine h _ ⟨I.ok, I.os, I.bare, ⟨fun b o e n hb hx => ?_, fun b o e n hb hx => ?_, I.base.free, fun b o e hx => ?_, I.base.tups, I.base.frzs, I.base.tbls⟩, ⟨_, hn', fun j y v' e1 e2 e3 => ?_⟩, fun y c e => ?_, I.free, I.freeC, fun p hp => ?_, tracked ⟨oL, hoL, I.free⟩ hs, by simpa using I.len⟩ ⟨_, hs, .inl rfl⟩
    · exact (hs.2 b (Nat.ne_of_lt (Nat.lt_of_lt_of_le (Heap.lt_size e) I.ok.above))).trans (I.base.keep b o e n hb hx)
    · obtain ⟨sl, e1⟩ := I.base.slot b o e n hb hx
      exact ⟨sl, (hs.2 b (Nat.ne_of_lt (Nat.lt_of_lt_of_le (Heap.lt_size e) I.ok.above))).trans e1⟩
    · obtain ⟨o', e1⟩ := I.base.there b o e hx
      exact ⟨o', (hs.2 b (Nat.ne_of_lt (Nat.lt_of_lt_of_le (Heap.lt_size e) I.ok.above))).trans e1⟩
    · by_cases hj : j = i
      · subst hj
        rw [hi] at e1; cases e1
        rw [List.getElem?_set_self hiσ] at e2
        cases e2
        exact ⟨u, r, .inl ⟨hk, by simp⟩⟩
      · rw [List.getElem?_set_ne (Ne.symm hj)] at e2
        obtain ⟨u', r', q⟩ := hl j y v' e1 e2 e3
        refine ⟨u', r', ?_⟩
        rcases q with ⟨k, e⟩ | ⟨k, c, e, z⟩
        · refine .inl ⟨k, ?_⟩
          have : y ≠ x := fun e => hj (nodup_ix hN e1 (e ▸ hi))
          simp [this, e]
        · exact .inr ⟨k, c, e, z.sameBut hs (cne y c e)⟩
    · obtain ⟨w', z⟩ := I.cell y c e
      exact ⟨w', z.sameBut hs (cne y c e)⟩
    · obtain ⟨e, n, ne, nf, d⟩ := I.pin p hp
      exact ⟨(hs.2 p.1 ne).trans e, n, ne, nf, d⟩
  · have hfn : X.fn x = true := by
      rcases hf with z | z
      · exact z
      · rw [z] at hk; cases hk
    obtain ⟨c, hc⟩ := I.ok.has x (.inl hk)
    obtain ⟨w', z⟩ := I.cell x c hc
    refine wpAny_storeName_cell I.ok.kind hk hc z (fun h' hc' hs => ?_)
    obtain ⟨oc, hoc, hocd⟩ := id z
    refine h { s with heap := h' } ⟨I.ok, I.os, I.bare, ⟨fun b o e n hb hx => ?_, fun b o e n hb hx => ?_, I.base.free, fun b o e hx => ?_, I.base.tups, I.base.frzs, I.base.tbls⟩, ⟨m, hn.sameBut hs (Ne.symm (cne x c hc)), fun j y v' e1 e2 e3 => ?_⟩, fun y c' e => ?_, I.free, I.freeC, fun p hp => ?_, tracked ⟨oc, hoc, I.freeC x c hc⟩ hs, by simpa using I.len⟩ ⟨c, hs, .inr hc⟩
    · exact (hs.2 b (Nat.ne_of_lt (Nat.lt_of_lt_of_le (Heap.lt_size e) (I.ok.cab x c hfn hc)))).trans (I.base.keep b o e n hb hx)
    · obtain ⟨sl, e1⟩ := I.base.slot b o e n hb hx
      exact ⟨sl, (hs.2 b (Nat.ne_of_lt (Nat.lt_of_lt_of_le (Heap.lt_size e) (I.ok.cab x c hfn hc)))).trans e1⟩
    · obtain ⟨o', e1⟩ := I.base.there b o e hx
      exact ⟨o', (hs.2 b (Nat.ne_of_lt (Nat.lt_of_lt_of_le (Heap.lt_size e) (I.ok.cab x c hfn hc)))).trans e1⟩
    · by_cases hj : j = i
      · subst hj
        rw [hi] at e1; cases e1
        rw [List.getElem?_set_self hiσ] at e2
        cases e2
        exact ⟨u, r, .inr ⟨.inl hk, c, hc, hc'⟩⟩
      · rw [List.getElem?_set_ne (Ne.symm hj)] at e2
        obtain ⟨u', r', q⟩ := hl j y v' e1 e2 e3
        refine ⟨u', r', ?_⟩
        rcases q with q | ⟨k, c', e, z'⟩
        · exact .inl q
        · refine .inr ⟨k, c', e, z'.sameBut hs ?_⟩
          rintro rfl
          exact hj (nodup_ix hN e1 (I.ok.inj _ _ _ e hc ▸ hi))
    · by_cases hcc : c' = c
      · subst hcc; exact ⟨_, hc'⟩
      · obtain ⟨w2, z2⟩ := I.cell y c' e
        exact ⟨w2, z2.sameBut hs hcc⟩
    · obtain ⟨e, n, ne, nf, d⟩ := I.pin p hp
      refine ⟨(hs.2 p.1 ?_).trans e, n, ne, nf, d⟩
      intro q
      rw [q, hoc] at e
      have q' : oc = p.2 := Option.some.inj e
      exact d w' (by rw [← q']; exact hocd)
theorem store_ok {M : Model} {A : Around} {E : Value → Shared → Prop} {i : Nat} {x : Str} {v : V} {u : Value} {Q : Unit → Shared → Prop} (I : Inv X pins σ H s) (hN : X.N.Nodup) (hi : X.N[i]? = some x) (hx : Loc X.env.scope x) (r : RelV v u)
    (h : ∀ s', Inv X pins (σ.set i (some v)) H s' → Q () s') (hf : X.fn x = true ∨ X.env.scope.names.lookup x = some .local := by first | exact .inl rfl | exact .inr rfl | assumption) : wpAny M A (storeName X.env x u) Q E s :=
  store_ok2 I hN hi hx r (fun s' I' _ => h s' I') hf
theorem Inv.call' {s' : Shared} {ch : List Addr} (I : Inv X pins σ H s) (ho : s'.os = s.os) (u : Un (frs X.stack) ch H H' s.heap s'.heap) (hok : HOk X.prog X.w H' s'.heap) (hg : AllBare s'.gens)
    (hch : ∀ b ∈ ch, (b ∈ X.ex ∨ X.s₀.heap.objs.size ≤ b) ∧ b ≠ X.env.locals ∧ (∀ x c, X.env.cells.lookup x = some c → c ≠ b) ∧ ∀ p ∈ X.pn ++ pins, p.1 ≠ b) : Inv X pins σ H' s' := by
  obtain ⟨h', g', d', t', o'⟩ := s'
  have e : o' = s.os := ho
  subst e
  exact I.call (g' := g') (t' := t') (d' := d') u hok hg hch
end

abbrev XK := Value → Option Addr → Hp → Prop
abbrev St := List (Option V)
abbrev VK := V → Hp → Prop
abbrev TE := St → Hp → VK → Prop
abbrev TT := St → Hp → (Bool → Hp → Prop) → Prop
abbrev TA := St → Hp → (List V → Hp → Prop) → Prop
structure Ends where
  nx : St → Hp → Prop
  rt : VK
  bk : St → Hp → Prop := fun _ _ => False
  ct : St → Hp → Prop := fun _ _ => False
abbrev TS := Ends → St → Hp → Prop

def EP (X : Cx) (pins : List (Addr × Obj)) (σ : St) (Q : VK) (u : Value) (s' : Shared) : Prop := ∃ v H', Inv X pins σ H' s' ∧ RelV v u ∧ Q v H'
def TP (X : Cx) (pins : List (Addr × Obj)) (σ : St) (Q : Bool → Hp → Prop) (b : Bool) (s' : Shared) : Prop := ∃ H', Inv X pins σ H' s' ∧ Q b H'
def AP (X : Cx) (pins : List (Addr × Obj)) (σ : St) (Q : List V → Hp → Prop) (us : List Value) (s' : Shared) : Prop := ∃ vs H', Inv X pins σ H' s' ∧ Vals vs us ∧ Q vs H'
def SP (X : Cx) (pins : List (Addr × Obj)) (D : Ends) (f : Flow) (s' : Shared) : Prop :=
  match f with
  | .next => ∃ σ' H', Inv X pins σ' H' s' ∧ D.nx σ' H'
  | .brk => ∃ σ' H', Inv X pins σ' H' s' ∧ D.bk σ' H'
  | .cont => ∃ σ' H', Inv X pins σ' H' s' ∧ D.ct σ' H'
  | .ret u => ∃ v σ' H', Inv X pins σ' H' s' ∧ RelV v u ∧ D.rt v H'

def PE (X : Cx) (e : Expr) (t : TE) : Prop :=
  ∀ (pins : List (Addr × Obj)) (s : Shared) (σ : St) (H : Hp) (Q : VK), Inv X pins σ H s → t σ H Q → wpAny (model X.prog X.w) X.A (eval e X.env) (EP X pins σ Q) X.xe s
def PT (X : Cx) (e : Expr) (t : TT) : Prop :=
  ∀ (pins : List (Addr × Obj)) (s : Shared) (σ : St) (H : Hp) (Q : Bool → Hp → Prop), Inv X pins σ H s → t σ H Q → wpAny (model X.prog X.w) X.A (isTrue e X.env (eval e X.env)) (TP X pins σ Q) X.xe s
def PW (X : Cx) (e : Expr) (t : TT) : Prop :=
  ∀ (whole : Sem Value) (pins : List (Addr × Obj)) (s : Shared) (σ : St) (H : Hp) (Q : Bool → Hp → Prop), Inv X pins σ H s → t σ H Q → wpAny (model X.prog X.w) X.A (isTrue e X.env whole) (TP X pins σ Q) X.xe s
theorem PW.pt {X : Cx} {e : Expr} {t : TT} (h : PW X e t) : PT X e t := h _
def PA (X : Cx) (es : List Expr) (t : TA) : Prop :=
  ∀ (pos : Pos) (pins : List (Addr × Obj)) (s : Shared) (σ : St) (H : Hp) (Q : List V → Hp → Prop), Inv X pins σ H s → t σ H Q → wpAny (model X.prog X.w) X.A (spliced (backTo pos (starEach es X.env))) (AP X pins σ Q) X.xe s
def PS (X : Cx) (st : Stmt) (t : TS) : Prop :=
  ∀ (pins : List (Addr × Obj)) (s : Shared) (σ : St) (H : Hp) (D : Ends), Inv X pins σ H s → t D σ H → wpAny (model X.prog X.w) X.A (exec st X.env) (SP X pins D) X.xe s
def PSs (X : Cx) (st : List Stmt) (t : TS) : Prop :=
  ∀ (pins : List (Addr × Obj)) (s : Shared) (σ : St) (H : Hp) (D : Ends), Inv X pins σ H s → t D σ H → wpAny (model X.prog X.w) X.A (execs st X.env) (SP X pins D) X.xe s
theorem thn {α : Type} {t : Sem α} {Q Q' : α → Shared → Prop} {M : Model} {A : Around} {E : Value → Shared → Prop} {s : Shared} (h : wpAny M A t Q E s) (hQ : ∀ a s, Q a s → Q' a s) : wpAny M A t Q' E s := wpAny_mono h hQ fun _ _ x => x
end L2

namespace L2
open PySem PySem.Spec PyProof.Rows
section
variable {X : Cx}

def tVar (i : Nat) : TE := fun σ H Q => ∃ v, σ[i]? = some (some v) ∧ Q v H
def tC (v : V) : TE := fun _ H Q => Q v H
theorem pe_var {i : Nat} {x : Str} {pos : Pos} (hN : X.N[i]? = some x) (hv : Vis X.env.scope x) (hd : (x == ("__debug__" : Str)) = false := by decide) (hcd : (x == ("__classdict__" : Str)) = false := by decide) : PE X (.Name x pos) (tVar i) := by
  intro pins s σ H Q I h
  obtain ⟨v, e, h⟩ := h
  obtain ⟨m, hn, hl⟩ := I.loc
  obtain ⟨u, r, l⟩ := hl i x v hN e hv
  have fin : EP X pins σ Q u s := ⟨v, H, I, r, h⟩
  rcases l with ⟨hk, hm⟩ | ⟨hk, c, hc, hcell⟩
  · exact wpAny_Name (wpAny_loadName_local I.ok.kind hk hn hm fin) hd
  · rcases hk with hk | hk
    · exact wpAny_Name (wpAny_loadName_cell I.ok.kind hk hc hcell fin) hd
    · exact wpAny_Name (wpAny_loadName_free I.ok.kind hk hc hcell fin hcd) hd
theorem pe_int {i j pos} : PE X (.Constant (.int i) j pos) (tC (.int i)) := fun _ _ _ H _ I h => wpAny_Constant_int ⟨.int i, H, I.tok _, ⟨_, rfl⟩, h⟩
theorem pe_bl {b j pos} : PE X (.Constant (.bool b) j pos) (tC (.bl b)) := fun _ _ _ H _ I h => Constant_bool ⟨.bl b, H, I, rfl, h⟩
def Gl (X : Cx) (x : Str) : Prop := X.env.kindOf x = some .globalImplicit
theorem ld_glob {E : Value → Shared → Prop} {pins : List (Addr × Obj)} {s : Shared} {σ : St} {H : Hp} {x : Str} {u : Value} {pos : Pos} {Q : Value → Shared → Prop} (I : Inv X pins σ H s) (hg : Gl X x) (hm : X.mg x = some u) (h : Q u s)
    (hd : (x == ("__debug__" : Str)) = false := by decide) : wpAny (model X.prog X.w) X.A (eval (.Name x pos) X.env) Q E s :=
  Calls.Name_function_global I.ok.kind hg (Calls.loadGlobal_global (by rw [I.ok.glob]; exact I.mod.glob.keeps I.bk) hm h) hd
theorem ld_blt {E : Value → Shared → Prop} {pins : List (Addr × Obj)} {s : Shared} {σ : St} {H : Hp} {x : Str} {u : Value} {pos : Pos} {Q : Value → Shared → Prop} (I : Inv X pins σ H s) (hg : Gl X x) (hm : X.mg x = none) (hv : bootBuiltins x = some u) (h : Q u s)
    (hn : x ≠ "__name__" := by decide) (hd : (x == ("__debug__" : Str)) = false := by decide) : wpAny (model X.prog X.w) X.A (eval (.Name x pos) X.env) Q E s := by
  obtain ⟨mb, h1, h2⟩ := I.mod.blt
  exact Calls.Name_function_global I.ok.kind hg (Calls.loadGlobal_builtin (by rw [I.ok.glob]; exact I.mod.glob.keeps I.bk) hm (by rw [I.ok.blt]; exact h1.keeps I.bk) ((h2 x hn).trans hv) h) hd
theorem pe_bltn {x : Str} {v : V} {u : Value} {pos : Pos} (hg : Gl X x) (hm : X.mg x = none) (hv : bootBuiltins x = some u) (r : RelV v u) (hn : x ≠ "__name__" := by decide) (hd : (x == ("__debug__" : Str)) = false := by decide) : PE X (.Name x pos) (tC v) :=
  fun _ _ _ H _ I h => ld_blt I hg hm hv ⟨v, H, I, r, h⟩ hn hd

variable {a b : Expr} {ta tb : TE} {pos : Pos}
def PC (X : Cx) (op : CmpOp) (a b : Expr) (t : TE) : Prop :=
  ∀ (pins : List (Addr × Obj)) (s : Shared) (σ : St) (H : Hp) (Q : VK), Inv X pins σ H s → t σ H Q →
    wpAny (model X.prog X.w) X.A (eval a X.env) (fun v s₁ => wpAny (model X.prog X.w) X.A (eval b X.env) (fun u s₂ => wpAny (model X.prog X.w) X.A (compareOp op v u) (EP X pins σ Q) X.xe s₂) X.xe s₁) X.xe s
def tB (t : TE) : TT := fun σ H Q => t σ H fun x H1 => ∃ c, x = .bl c ∧ Q c H1
theorem pt_cmp {op : CmpOp} {t : TE} (h : PC X op a b t) (h1 : behindInMarks op b = false := by first | exact nobehind _ (by decide) (by decide) | rfl) : PT X (.Compare a [op] [b] pos) (tB t) := by
  intro pins s σ H Q I hw
  refine wpAny_isTrue_Compare1 (thn (h pins s σ H _ I hw) fun v s1 h1 => thn h1 fun u s2 h2 => thn h2 fun c s3 ⟨x, H1, I1, r1, q1⟩ => ?_) h1
  obtain ⟨d, rfl, q⟩ := q1
  cases r1
  exact wpAny_truthy_bool ⟨H1, I1, q⟩
theorem pt_val {e : Expr} {t : TE} (h : PE X e t) (he : ∀ whole, isTrue e X.env whole = (do let v ← whole; standAt e.pos; holding [v] (truthy v)) := by intro _; rfl) : PT X e (tB t) := by
  intro pins s σ H Q I hw
  refine isTrue_plain (thn (h pins s σ H _ I hw) fun v s1 ⟨x, H1, I1, r1, q1⟩ => ?_) (he _)
  obtain ⟨d, rfl, q⟩ := q1
  cases r1
  exact wpAny_truthy_bool ⟨H1, I1, q⟩

variable {tA tB' : TT} {rest : List Expr}
def tAnd (t u : TT) : TT := fun σ H Q => t σ H fun c H1 => if c = true then u σ H1 Q else Q false H1
def tOr (t u : TT) : TT := fun σ H Q => t σ H fun c H1 => if c = true then Q true H1 else u σ H1 Q
def tNot (t : TT) : TT := fun σ H Q => t σ H fun c H1 => Q (!c) H1
theorem pw_and1 (ha : PT X a tA) : PW X (.BoolOp .And [a] pos) tA := by
  intro wh pins s σ H Q I h
  refine isTrue_and (thn (ha pins s σ H Q I h) fun c s1 e => ?_)
  cases c with
  | true => exact isTrue_and_nil e
  | false => exact e
theorem pw_or1 (ha : PT X a tA) : PW X (.BoolOp .Or [a] pos) tA := by
  intro wh pins s σ H Q I h
  refine isTrue_or (thn (ha pins s σ H Q I h) fun c s1 e => ?_)
  cases c with
  | false => exact isTrue_or_nil e
  | true => exact e
theorem pw_and (ha : PT X a tA) (hb : PW X (.BoolOp .And (b :: rest) pos) tB') : PW X (.BoolOp .And (a :: b :: rest) pos) (tAnd tA tB') := by
  intro wh pins s σ H Q I h
  refine isTrue_and (thn (ha pins s σ H _ I h) fun c s1 ⟨H1, I1, q1⟩ => ?_)
  cases c with
  | true => exact hb wh pins s1 σ H1 Q I1 q1
  | false => exact ⟨H1, I1, q1⟩
theorem pw_or (ha : PT X a tA) (hb : PW X (.BoolOp .Or (b :: rest) pos) tB') : PW X (.BoolOp .Or (a :: b :: rest) pos) (tOr tA tB') := by
  intro wh pins s σ H Q I h
  refine isTrue_or (thn (ha pins s σ H _ I h) fun c s1 ⟨H1, I1, q1⟩ => ?_)
  cases c with
  | true => exact ⟨H1, I1, q1⟩
  | false => exact hb wh pins s1 σ H1 Q I1 q1
theorem pt_not (ha : PT X a tA) : PT X (.UnaryOp .Not a pos) (tNot tA) := by
  intro pins s σ H Q I h
  exact isTrue_not (ha pins s σ H (fun c H1 => Q (!c) H1) I h)
def tAndV (ta tb : TE) : TE := fun σ H Q => ta σ H fun x H1 => ∃ c, x = .bl c ∧ if c = true then tb σ H1 Q else Q (.bl false) H1
def tNotV (ta : TE) : TE := fun σ H Q => ta σ H fun x H1 => ∃ c, x = .bl c ∧ Q (.bl (!c)) H1
theorem pe_one {op} {t : TE} (h : PE X a t) : PE X (.BoolOp op [a] pos) t := fun pins s σ H Q I hw => BoolOp_one (h pins s σ H Q I hw)
theorem pe_and (ha : PE X a ta) (hb : PE X (.BoolOp .And (b :: rest) pos) tb) : PE X (.BoolOp .And (a :: b :: rest) pos) (tAndV ta tb) := by
  intro pins s σ H Q I h
  refine BoolOp_and (thn (ha pins s σ H _ I h) fun v s1 ⟨x, H1, I1, r1, q1⟩ => ?_)
  obtain ⟨c, rfl, q1⟩ := q1
  cases r1
  refine wpAny_truthy_bool ?_
  cases c with
  | true => exact hb pins s1 σ H1 Q I1 q1
  | false => exact ⟨.bl false, H1, I1, rfl, q1⟩
theorem pe_not (ha : PE X a ta) : PE X (.UnaryOp .Not a pos) (tNotV ta) := by
  intro pins s σ H Q I h
  refine UnaryOp_ (thn (ha pins s σ H _ I h) fun v s1 ⟨x, H1, I1, r1, q1⟩ => ?_)
  obtain ⟨c, rfl, q1⟩ := q1
  cases r1
  exact not_of (wpAny_truthy_bool ⟨.bl (!c), H1, I1, rfl, q1⟩)
end
end L2

namespace L2
open PySem PySem.Spec PyProof.Rows

def SqL (K : PySem.W.Frag) (H : Hp) (a : Addr) (xs : List V) : Prop :=
  Rd H a (.lst xs) ∨
    ∃ (o : Obj) (its : Array Value) (n : Nat), K.lookup a = some o ∧ o.cls = .type "list" ∧ o.dict = none ∧ o.data = .seq its n ∧ its.size ≤ sizeLine ∧ Vals xs its.toList
def SqT (K : PySem.W.Frag) (H : Hp) (a : Addr) (xs : List V) : Prop :=
  Rd H a (.tup xs) ∨
    ∃ (o : Obj) (its : Array Value) (n : Nat), K.lookup a = some o ∧ o.cls = .type "tuple" ∧ o.data = .seq its n ∧ its.size ≤ sizeLine ∧ Vals xs its.toList
def absV : Value → Option V
  | .none => some .non
  | .bool b => some (.bl b)
  | .int i _ => some (.int i)
  | .str x _ => some (.str x)
  | .bytes b _ => some (.byt b)
  | .float b _ => some (.flt b)
  | .ref a => some (.ref a)
  | .type n => some (.ty n)
  | _ => none
theorem RelV.abs {x : V} {u : Value} (r : RelV x u) : absV u = some x := by
  cases x with
  | non => cases r; rfl
  | bl _ => cases r; rfl
  | int _ => obtain ⟨t, rfl⟩ := r; rfl
  | str _ => obtain ⟨t, rfl⟩ := r; rfl
  | byt _ => obtain ⟨t, rfl⟩ := r; rfl
  | flt _ => obtain ⟨t, rfl⟩ := r; rfl
  | ref _ => cases r; rfl
  | ty _ => cases r; rfl
theorem RelV.inj {x y : V} {u : Value} (r : RelV x u) (q : RelV y u) : x = y := Option.some.inj (r.abs.symm.trans q.abs)
theorem Vals.inj : ∀ {xs ys : List V} {us : List Value}, Vals xs us → Vals ys us → xs = ys
  | _, _, _, .nil, .nil => rfl
  | _, _, _, .cons r t, .cons r' t' => by rw [r.inj r', Vals.inj t t']
section
variable {X : Cx} {pins : List (Addr × Obj)} {σ : St} {H : Hp} {s : Shared} {a : Addr} {xs ys : List V}
theorem SqL.of {K : PySem.W.Frag} (h : H a = some (.lst xs)) : SqL K H a xs := .inl (.inl h)
theorem SqT.of {K : PySem.W.Frag} (h : H a = some (.tup xs)) : SqT K H a xs := .inl (.inl h)
theorem Inv.list (I : Inv X pins σ H s) (h : SqL X.K H a xs) : ∃ its : List Value, Vals xs its ∧ PlainL s.heap a its.toArray ∧ xs.length ≤ sizeLine := by
  rcases h with h | ⟨o, its, n, hk, hc, hd, hs, hz, r⟩
  · obtain ⟨z, its, n, r, e⟩ := h.ok I.hok
    exact ⟨its, r, ⟨_, n, e, rfl, rfl, rfl⟩, z⟩
  · refine ⟨its.toList, r, ⟨o, n, I.kIn a o hk, hc, hd, by simpa using hs⟩, ?_⟩
    have e := r.length
    simp only [Array.length_toList] at e
    omega
theorem Inv.tuple (I : Inv X pins σ H s) (h : SqT X.K H a xs) : ∃ its : List Value, Vals xs its ∧ IsTup s.heap a its.toArray ∧ xs.length ≤ sizeLine := by
  rcases h with h | ⟨o, its, n, hk, hc, hs, hz, r⟩
  · obtain ⟨z, its, r, p⟩ := h.ok I.hok
    exact ⟨its, r, p, z⟩
  · refine ⟨its.toList, r, ⟨o, I.kIn a o hk, hc, n, by simpa using hs⟩, ?_⟩
    have e := r.length
    simp only [Array.length_toList] at e
    omega
theorem Inv.list_inj (I : Inv X pins σ H s) (h : SqL X.K H a xs) (h' : SqL X.K H a ys) : xs = ys := by
  obtain ⟨its, r, ⟨o, n, e, _, _, d⟩, _⟩ := I.list h
  obtain ⟨its', r', ⟨o', n', e', _, _, d'⟩, _⟩ := I.list h'
  rw [e] at e'; cases e'
  rw [d] at d'
  injection d' with d1 _
  have : its = its' := by simpa using congrArg Array.toList d1
  subst this
  exact r.inj r'
theorem Inv.tuple_inj (I : Inv X pins σ H s) (h : SqT X.K H a xs) (h' : SqT X.K H a ys) : xs = ys := by
  obtain ⟨its, r, ⟨o, e, _, n, d⟩, _⟩ := I.tuple h
  obtain ⟨its', r', ⟨o', e', _, n', d'⟩, _⟩ := I.tuple h'
  rw [e] at e'; cases e'
  rw [d] at d'
  injection d' with d1 _
  have : its = its' := by simpa using congrArg Array.toList d1
  subst this
  exact r.inj r'
end

abbrev Cx.wish (X : Cx) (E : Value → Shared → Prop) : Cx := { X with xe := E }
abbrev Cx.nox (X : Cx) : Cx := X.wish fun _ _ => False
theorem Cx.Ok.wish {X : Cx} (ok : X.Ok) (E : Value → Shared → Prop) : (X.wish E).Ok :=
  ⟨ok.mod, ok.kind, ok.glob, ok.blt, ok.above, ok.inj, ok.has, ok.cab, ok.hd, ok.frames, ok.stk, ok.exf, ok.bs, ok.bsz, ok.noex, ok.exfs, ok.funs, ok.frf⟩
theorem Cx.Ok.unwish {X : Cx} {E : Value → Shared → Prop} (ok : (X.wish E).Ok) : X.Ok :=
  ⟨ok.mod, ok.kind, ok.glob, ok.blt, ok.above, ok.inj, ok.has, ok.cab, ok.hd, ok.frames, ok.stk, ok.exf, ok.bs, ok.bsz, ok.noex, ok.exfs, ok.funs, ok.frf⟩
section
variable {X : Cx} {pins : List (Addr × Obj)} {σ : St} {H : Hp} {s : Shared} {E : Value → Shared → Prop}
theorem Inv.wish (I : Inv X pins σ H s) (E : Value → Shared → Prop) : Inv (X.wish E) pins σ H s := ⟨I.ok.wish E, I.os, I.bare, I.base, I.loc, I.cell, I.free, I.freeC, I.pin, I.hok, I.len⟩
theorem Inv.unwish (I : Inv (X.wish E) pins σ H s) : Inv X pins σ H s := ⟨I.ok.unwish, I.os, I.bare, I.base, I.loc, I.cell, I.free, I.freeC, I.pin, I.hok, I.len⟩
theorem SP.unwish {D : Ends} {f : Flow} {s' : Shared} (h : SP (X.wish E) pins D f s') : SP X pins D f s' := by
  cases f with
  | next => obtain ⟨σ', H', I, q⟩ := h; exact ⟨σ', H', I.unwish, q⟩
  | brk => obtain ⟨σ', H', I, q⟩ := h; exact ⟨σ', H', I.unwish, q⟩
  | cont => obtain ⟨σ', H', I, q⟩ := h; exact ⟨σ', H', I.unwish, q⟩
  | ret u => obtain ⟨v, σ', H', I, r, q⟩ := h; exact ⟨v, σ', H', I.unwish, r, q⟩
theorem PSs.nox {st : List Stmt} {t : TS} (h : PSs X.nox st t) : PSs X st t := fun pins s σ H D I hw =>
  wpAny_mono (h pins s σ H D (I.wish _) hw) (fun _ _ q => q.unwish) fun _ _ z => False.elim z
end

section
variable {X : Cx} {st : Stmt} {rest : List Stmt} {t u : TS} {e : Expr} {te : TE} {pos : Pos}
def tNext : TS := fun D σ H => D.nx σ H
def tSeq (t u : TS) : TS := fun D σ H => t { D with nx := u D } σ H
theorem pss_nil : PSs X [] tNext := fun _ _ σ H _ I h => wpAny_execs_nil ⟨σ, H, I, h⟩
theorem pss_cons (h1 : PS X st t) (h2 : PSs X rest u) : PSs X (st :: rest) (tSeq t u) := by
  intro pins s σ H D I h
  refine wpAny_execs_cons (thn (h1 pins s σ H { D with nx := u D } I h) fun f s1 q => ?_)
  cases f with
  | next =>
    obtain ⟨σ', H', I', q⟩ := q
    exact h2 pins s1 σ' H' D I' q
  | ret v => exact q
  | brk => exact q
  | cont => exact q
theorem pss_one (h1 : PS X st t) : PSs X [st] t := by
  intro pins s σ H D I h
  refine wpAny_execs_cons (thn (h1 pins s σ H D I h) fun f s1 q => ?_)
  cases f with
  | next => exact wpAny_execs_nil q
  | ret v => exact q
  | brk => exact q
  | cont => exact q
theorem Inv.quiet {pins : List (Addr × Obj)} {σ : St} {H : Hp} {s : Shared} (I : Inv X pins σ H s) : interactive X.env = false := by simp [interactive, I.ok.kind]
def tDrop (te : TE) : TS := fun D σ H => te σ H fun _ H1 => D.nx σ H1
theorem ps_expr (he : PE X e te) (hs : swapsWith e none pos.line X.env = pure false := by rfl) : PS X (.Expr e pos) (tDrop te) := by
  intro pins s σ H D I h
  exact wpAny_Expr_any (thn (he pins s σ H _ I h) fun v s1 ⟨x, H1, I1, r1, q1⟩ => ⟨σ, H1, I1, q1⟩) I.quiet hs
def tRet (te : TE) : TS := fun D σ H => te σ H D.rt
theorem ps_ret (he : PE X e te) : PS X (.Return (some e) pos) (tRet te) := by
  intro pins s σ H D I h
  exact wpAny_Return_some (thn (he pins s σ H _ I h) fun v s1 ⟨x, H1, I1, r1, q1⟩ => ⟨x, σ, H1, I1, r1, q1⟩)
def tIfS (c : TT) (t u : TS) : TS := fun D σ H => c σ H fun b H1 => if b = true then t D σ H1 else u D σ H1
theorem ps_if {c : Expr} {a b : List Stmt} {tc : TT} (hc : PT X c tc) (ha : PSs X a t) (hb : PSs X b u) : PS X (.If c a b pos) (tIfS tc t u) := by
  intro pins s σ H D I h
  refine wpAny_If (thn (hc pins s σ H _ I h) fun d s1 ⟨H1, I1, q1⟩ => ?_)
  cases d with
  | true => exact ha pins s1 σ H1 D I1 q1
  | false => exact hb pins s1 σ H1 D I1 q1
end

abbrev TG := V → St → Hp → (St → Hp → Prop) → Prop
def PG (X : Cx) (target : Expr) (t : TG) : Prop :=
  ∀ (pins : List (Addr × Obj)) (s : Shared) (σ : St) (H : Hp) (v : V) (u : Value) (Q : St → Hp → Prop), Inv X pins σ H s → RelV v u → t v σ H Q →
    wpAny (model X.prog X.w) X.A (assign target X.env u) (fun _ s' => ∃ σ' H', Inv X pins σ' H' s' ∧ Q σ' H') X.xe s
abbrev TSet := V → V → V → Hp → (Hp → Prop) → Prop
def PSet (X : Cx) (t : TSet) : Prop :=
  ∀ (pins : List (Addr × Obj)) (s : Shared) (σ : St) (H : Hp) (o i v : V) (ov iv u : Value) (Q : Hp → Prop), Inv X pins σ H s → RelV o ov → RelV i iv → RelV v u → t o i v H Q →
    wpAny (model X.prog X.w) X.A (setItem ov iv u) (fun _ s' => ∃ H', Inv X pins σ H' s' ∧ Q H') X.xe s
section
variable {X : Cx} {pos : Pos}
def gName (i : Nat) : TG := fun v σ H Q => Q (σ.set i (some v)) H
theorem pg_name {i : Nat} {x : Str} (hN : X.N.Nodup) (hi : X.N[i]? = some x) (hx : Loc X.env.scope x) (hf : X.fn x = true ∨ X.env.scope.names.lookup x = some .local := by first | exact .inl rfl | exact .inr rfl | assumption) : PG X (.Name x pos) (gName i) := by
  intro pins s σ H v u Q I r h
  exact wpAny_assign_Name (store_ok I hN hi hx r (fun s' I' => ⟨_, H, I', h⟩) hf)
def gSub (to ti : TE) (t : TSet) : TG := fun v σ H Q => to σ H fun o H1 => ti σ H1 fun i H2 => t o i v H2 fun H3 => Q σ H3
theorem pg_sub {o i : Expr} {to ti : TE} {t : TSet} (ho : PE X o to) (hi : PE X i ti) (hs : PSet X t)
    (ha : ∀ v, assign (.Subscript o i pos) X.env v = (do
      let ov ← holding [v] (eval o X.env)
      let iv ← holding [v, ov] (eval i X.env)
      standAt pos
      holding [v, ov, iv] (setItem ov iv v)
      release [v, ov, iv] []) := by intro _; rfl) : PG X (.Subscript o i pos) (gSub to ti t) := by
  intro pins s σ H v u Q I r h
  rw [ha]
  refine wpAny_bind (wpAny_holding (thn (ho pins s σ H _ I h) fun ov s1 ⟨x, H1, I1, r1, q1⟩ => ?_))
  refine wpAny_bind (wpAny_holding (thn (hi pins s1 σ H1 _ I1 q1) fun iv s2 ⟨y, H2, I2, r2, q2⟩ => ?_))
  refine wpAny_bind (wpAny_standAt (wpAny_bind (wpAny_holding (thn (hs pins s2 σ H2 x y v ov iv u _ I2 r1 r2 r q2) fun _ s3 ⟨H3, I3, q3⟩ => ?_))))
  exact wpAny_release ⟨σ, H3, I3, q3⟩
def tAsg (te : TE) (g : TG) : TS := fun D σ H => te σ H fun x H1 => g x σ H1 D.nx
theorem ps_asg {tg e : Expr} {te : TE} {g : TG} (he : PE X e te) (hg : PG X tg g) (hs : swapsWithSole [tg] e pos.line X.env = pure false := by rfl) (hw : swappedStores [tg] e X.env = pure none := by rfl)
    (h1 : (assignEach [tg] X.env).map (·.2) = [assign tg X.env] := by rfl) : PS X (.Assign [tg] e pos) (tAsg te g) := by
  intro pins s σ H D I h
  refine wpAny_Assign_stores (thn (he pins s σ H _ I h) fun v s1 ⟨x, H1, I1, r1, q1⟩ => ?_) hs hw
  rw [h1]
  exact thn (hg pins s1 σ H1 x v _ I1 r1 q1) fun _ s2 q => q
theorem ps_set {i : Nat} {x : Str} {e : Expr} {te : TE} {pos' : Pos} (hN : X.N.Nodup) (hi : X.N[i]? = some x) (hx : Loc X.env.scope x) (he : PE X e te) (hs : swapsWith e (some (.Name x pos')) pos.line X.env = pure false := by rfl) (hf : X.fn x = true ∨ X.env.scope.names.lookup x = some .local := by first | exact .inl rfl | exact .inr rfl | assumption) :
    PS X (.Assign [.Name x pos'] e pos) (tAsg te (gName i)) := by
  intro pins s σ H D I h
  refine wpAny_Assign_Name (thn (he pins s σ H _ I h) fun v s1 ⟨y, H1, I1, r1, q1⟩ => ?_) hs
  exact store_ok I1 hN hi hx r1 (fun s2 I2 => ⟨_, H1, I2, q1⟩) hf
end

section
variable {X : Cx} {pos : Pos}
def tWhile (c : TT) (tb : TS) : TS := fun D σ H => ∃ W : Nat → St → Hp → Prop, (∃ m, W m σ H) ∧ ∀ m σ H, W m σ H →
  c σ H fun b H1 => if b = true then ∃ N : St → Hp → Prop, (∀ σ' H', N σ' H' → ∃ m', m' < m ∧ W m' σ' H') ∧ tb { D with nx := N, ct := N, bk := D.nx } σ H1 else D.nx σ H1
theorem ps_while {c : Expr} {body : List Stmt} {tc : TT} {tb : TS} (hp : PassesOwn (model X.prog X.w) X.A X.env X.xe) (hc : PT X c tc) (hb : PSs X body tb) : PS X (.While c body [] pos) (tWhile tc tb) := by
  intro pins s σ H D I h
  obtain ⟨W, ⟨m0, w0⟩, turn⟩ := h
  refine wpAny_While (codeAny_whileLoop (fun n s' => ∃ σ' H', Inv X pins σ' H' s' ∧ W n σ' H') ?_ m0 ⟨σ, H, I, w0⟩)
  rintro n s1 ⟨σ1, H1, I1, w1⟩
  refine wpAny_passesOwn hp (thn (hc pins s1 σ1 H1 _ I1 (turn n σ1 H1 w1)) fun b s2 ⟨H2, I2, q2⟩ => ?_)
  cases b with
  | true =>
    obtain ⟨N, hN, q2⟩ := q2
    rw [if_pos rfl]
    refine wpAny_passesOwn hp (thn (hb pins s2 σ1 H2 _ I2 q2) fun f s3 q3 => ?_)
    cases f with
    | next =>
      obtain ⟨σ3, H3, I3, n3⟩ := q3
      obtain ⟨m', hm, w3⟩ := hN σ3 H3 n3
      exact ⟨m', hm, σ3, H3, I3, w3⟩
    | cont =>
      obtain ⟨σ3, H3, I3, n3⟩ := q3
      obtain ⟨m', hm, w3⟩ := hN σ3 H3 n3
      exact ⟨m', hm, σ3, H3, I3, w3⟩
    | brk => exact q3
    | ret v => exact q3
  | false =>
    rw [if_neg Bool.false_ne_true]
    exact wpAny_execs_nil ⟨σ1, H2, I2, q2⟩
end

structure It where
  go : Nat → Hp → Prop
  yld : Nat → Hp → V → Hp → Prop
  stop : Nat → Hp → Prop
def FpOk (X : Cx) (pins : List (Addr × Obj)) (H : Hp) (b : Addr) : Prop :=
  H b = none ∧ b ≠ X.env.locals ∧ b ∉ X.fs ∧ (b ∈ X.ex ∨ X.s₀.heap.objs.size ≤ b) ∧ (∀ x c, X.env.cells.lookup x = some c → c ≠ b) ∧ ∀ p ∈ X.pn ++ pins, p.1 ≠ b
theorem Inv.fpOk {X : Cx} {pins : List (Addr × Obj)} {σ : St} {H H' : Hp} {s : Shared} {b : Addr} (I : Inv X pins σ H s) (hb : s.heap.objs.size ≤ b) (hn : H' b = none) : FpOk X pins H' b := by
  refine ⟨hn, Nat.ne_of_gt (Nat.lt_of_lt_of_le I.lt hb), I.nofs hb, .inr (Nat.le_trans I.sz hb), fun x c e z => ?_, fun p hp z => ?_⟩
  · obtain ⟨v, q⟩ := I.cell x c e
    exact absurd (Nat.lt_of_lt_of_le q.lt (by rw [z]; exact hb)) (Nat.lt_irrefl _)
  · exact absurd (Nat.lt_of_lt_of_le (Heap.lt_size (I.pin p hp).1) (by rw [z]; exact hb)) (Nat.lt_irrefl _)
structure Turn (P : Program) (w : World) (K : PySem.W.Frag) (tg : Expr) (J : It) (fp : List Addr) (it : Addr) (tn : Nat → Heap → Prop) : Prop where
  mem : it ∈ fp
  obj : ∀ i h, tn i h → ∀ b ∈ fp, ∃ o, h.get? b = some o ∧ ∀ v, o.data ≠ .cell v
  keep : ∀ i h h', tn i h → (∀ b ∈ fp, ∀ o, h.get? b = some o → h'.get? b = some o) → tn i h'
  item : ∀ (X : Cx), X.prog = P → X.w = w → X.K = K → X.calm = true → ∀ (i : Nat) (pins : List (Addr × Obj)) (s : Shared) (σ : St) (H : Hp) (E : Value → Shared → Prop), Inv X pins σ H s → (∀ b ∈ fp, FpOk X pins H b) → tn i s.heap → J.go i H →
    wpAny (model P w) X.A (pyNext (.ref it)) (fun r s1 => ∃ u, r = some u ∧
      wpAny (model P w) X.A (letOwnedTupleGo tg (.ref it) u) (fun _ s2 => ∃ x H', Inv X pins σ H' s2 ∧ RelV x u ∧ J.yld i H x H' ∧ tn (i + 1) s2.heap ∧ ∀ b ∈ fp, H' b = none) E s1) E s
  done : ∀ (X : Cx), X.prog = P → X.w = w → X.K = K → X.calm = true → ∀ (i : Nat) (pins : List (Addr × Obj)) (s : Shared) (σ : St) (H : Hp) (E : Value → Shared → Prop), Inv X pins σ H s → (∀ b ∈ fp, FpOk X pins H b) → tn i s.heap → J.stop i H →
    wpAny (model P w) X.A (pyNext (.ref it)) (fun r s1 => r = none ∧ Inv X pins σ H s1) E s
  self : ∀ (A : Around) (i : Nat) (s : Shared) (Q : Value → Shared → Prop) (E : Value → Shared → Prop), tn i s.heap → Q (.ref it) s → wpAny (model P w) A (pyIter (.ref it)) Q E s
abbrev TI := St → Hp → (It → Hp → Prop) → Prop
def PIE (X : Cx) (pins : List (Addr × Obj)) (σ : St) (tg : Expr) (R : It → Hp → Prop) (itv : Value) (s2 : Shared) : Prop :=
  ∃ (it : Addr) (fp : List Addr) (tn : Nat → Heap → Prop) (J : It) (H' : Hp), itv = .ref it ∧ Inv X pins σ H' s2 ∧ Turn X.prog X.w X.K tg J fp it tn ∧ tn 0 s2.heap ∧ (∀ b ∈ fp, FpOk X pins H' b) ∧ R J H'
def PI (X : Cx) (tg iter : Expr) (wi : TI) : Prop :=
  ∀ (pins : List (Addr × Obj)) (s : Shared) (σ : St) (H : Hp) (R : It → Hp → Prop), Inv X pins σ H s → wi σ H R →
    wpAny (model X.prog X.w) X.A (eval iter X.env) (fun v s1 => wpAny (model X.prog X.w) X.A (pyIter v) (PIE X pins σ tg R) X.xe s1) X.xe s

theorem go_of {M : Model} {A : Around} {E : Value → Shared → Prop} {s : Shared} {tg : Expr} {it : Addr} {u : Value} {o : Obj} {n : String} {vs : Array Value} {Q : Unit → Shared → Prop} (ho : s.heap.get? it = some o) (hc : o.cls = .type n) (hd : o.data = .fields vs)
    (hn : ["enumerate", "zip", "dict_itemiterator", "dict_reverseitemiterator", "odict_iterator", "itertools.zip_longest", "itertools.pairwise"].contains n = false) (hQ : Q () s) : wpAny M A (letOwnedTupleGo tg (.ref it) u) Q E s := by
  unfold letOwnedTupleGo
  cases tg <;> first
    | exact wpAny_pure hQ
    | (cases u <;> first
        | exact wpAny_pure hQ
        | (refine wpAny_bind (wpAny_load ho ?_)
           rw [hc, hd]
           show wpAny M A (if (["enumerate", "zip", "dict_itemiterator", "dict_reverseitemiterator", "odict_iterator", "itertools.zip_longest", "itertools.pairwise"].contains n && vs[0]? == some (rawInt _)) = true then _ else _) Q E s
           rw [if_neg (by intro h; rw [hn, Bool.false_and] at h; cases h)]
           exact wpAny_pure hQ))

def Itl (K : PySem.W.Frag) (a : Addr) : It :=
  ⟨fun i H => ∃ xs x, SqL K H a xs ∧ xs[i]? = some x, fun i H x H' => H' = H ∧ ∀ xs, SqL K H a xs → xs[i]? = some x, fun i H => ∃ xs, SqL K H a xs ∧ xs.length ≤ i⟩
def Itt (K : PySem.W.Frag) (a : Addr) : It :=
  ⟨fun i H => ∃ xs x, SqT K H a xs ∧ xs[i]? = some x, fun i H x H' => H' = H ∧ ∀ xs, SqT K H a xs → xs[i]? = some x, fun i H => ∃ xs, SqT K H a xs ∧ xs.length ≤ i⟩
def Itr (lo : Int) (n : Nat) : It := ⟨fun i _ => i < n, fun i H x H' => H' = H ∧ x = .int (lo + i), fun i _ => n ≤ i⟩
theorem turn_list {P : Program} {w : World} {K : PySem.W.Frag} {tg : Expr} (a it : Addr) : Turn P w K tg (Itl K a) [it] it (fun i h => h.IsListIter it a i) where
  mem := by simp
  obj := fun i h st b hb => by
    have e : b = it := by simpa using hb
    subst e
    obtain ⟨o, e, c, d⟩ := st
    exact ⟨o, e, fun v z => by rw [d] at z; cases z⟩
  keep := fun i h h' st k => st.at fun o e => k it (by simp) o e
  item := by
    intro X hP hw hK hc i pins s σ H E I hf st hg
    subst hP hw hK
    obtain ⟨xs, x, hq, hx⟩ := hg
    obtain ⟨its, rv, p, hz⟩ := I.list hq
    obtain ⟨u, hu, ru⟩ := rv.get hx
    obtain ⟨f0, f1, f2, f3, f4, f5⟩ := hf it (by simp)
    refine wpAny_pyNext_list_item st p.isList (x := u) (by simpa using hu) fun h' st' sb => ?_
    have I1 : Inv X pins σ H { s with heap := h' } := I.turned (t' := s.toks) (fun b o hb e => (sb.2 b hb).trans e) f0 f1 f3 f4 f5
    obtain ⟨o, e, c, d⟩ := id st'
    exact ⟨u, rfl, go_of (s := { s with heap := h' }) e c d (by decide) ⟨x, H, I1, ru, ⟨rfl, fun ys hy => by rw [I.list_inj hy hq]; exact hx⟩, st', fun b hb => (hf b hb).1⟩⟩
  done := by
    intro X hP hw hK hc i pins s σ H E I hf st hg
    subst hP hw hK
    obtain ⟨xs, hq, hx⟩ := hg
    obtain ⟨its, rv, p, hz⟩ := I.list hq
    obtain ⟨f0, f1, f2, f3, f4, f5⟩ := hf it (by simp)
    have hl := rv.length
    exact wpAny_pyNext_list_end (I.ok.hd hc) st p.isList (by simp; omega) fun h' eb => ⟨rfl, I.turned (t' := s.toks) (fun b o hb e => eb b o hb e) f0 f1 f3 f4 f5⟩
  self := fun _ _ _ _ _ st h => wpAny_pyIter_listiter st h
theorem turn_tuple {P : Program} {w : World} {K : PySem.W.Frag} {tg : Expr} (a it : Addr) : Turn P w K tg (Itt K a) [it] it (fun i h => h.IsTupleIter it a i) where
  mem := by simp
  obj := fun i h st b hb => by
    have e : b = it := by simpa using hb
    subst e
    obtain ⟨o, e, c, d⟩ := st
    exact ⟨o, e, fun v z => by rw [d] at z; cases z⟩
  keep := fun i h h' st k => st.at fun o e => k it (by simp) o e
  item := by
    intro X hP hw hK hc i pins s σ H E I hf st hg
    subst hP hw hK
    obtain ⟨xs, x, hq, hx⟩ := hg
    obtain ⟨its, rv, p, hz⟩ := I.tuple hq
    obtain ⟨u, hu, ru⟩ := rv.get hx
    obtain ⟨f0, f1, f2, f3, f4, f5⟩ := hf it (by simp)
    refine wpAny_pyNext_tuple_item st (show s.heap.IsTuple a its.toArray from p) (x := u) (by simpa using hu) fun h' st' sb => ?_
    have I1 : Inv X pins σ H { s with heap := h' } := I.turned (t' := s.toks) (fun b o hb e => (sb.2 b hb).trans e) f0 f1 f3 f4 f5
    obtain ⟨o, e, c, d⟩ := id st'
    exact ⟨u, rfl, go_of (s := { s with heap := h' }) e c d (by decide) ⟨x, H, I1, ru, ⟨rfl, fun ys hy => by rw [I.tuple_inj hy hq]; exact hx⟩, st', fun b hb => (hf b hb).1⟩⟩
  done := by
    intro X hP hw hK hc i pins s σ H E I hf st hg
    subst hP hw hK
    obtain ⟨xs, hq, hx⟩ := hg
    obtain ⟨its, rv, p, hz⟩ := I.tuple hq
    obtain ⟨f0, f1, f2, f3, f4, f5⟩ := hf it (by simp)
    have hl := rv.length
    exact wpAny_pyNext_tuple_end (I.ok.hd hc) st (show s.heap.IsTuple a its.toArray from p) (by simp; omega) fun h' eb => ⟨rfl, I.turned (t' := s.toks) (fun b o hb e => eb b o hb e) f0 f1 f3 f4 f5⟩
  self := fun _ _ _ _ _ st h => wpAny_pyIter_tupleiter st h
theorem turn_range {P : Program} {w : World} {K : PySem.W.Frag} {tg : Expr} (it : Addr) (lo : Int) (n : Nat) : Turn P w K tg (Itr lo n) [it] it (fun i h => IsRangeIter h it (lo + (i : Nat) * 1) ((n : Int) - (i : Nat)) 1) where
  mem := by simp
  obj := fun i h st b hb => by
    have e : b = it := by simpa using hb
    subst e
    exact ⟨_, st, fun v z => by
      have z' : Data.fields _ = Data.cell v := z
      cases z'⟩
  keep := fun i h h' st k => k it (by simp) _ st
  item := by
    intro X hP hw hK hc i pins s σ H E I hf st hg
    subst hP hw hK
    obtain ⟨f0, f1, f2, f3, f4, f5⟩ := hf it (by simp)
    have W := Walks.range (prog := X.prog) (w := X.w) (I.ok.hd hc) it lo 1 n
    refine W.item i s _ _ hg st fun v h' tk hv st' kk => ?_
    obtain ⟨t, rfl⟩ := hv
    have I1 : Inv X pins σ H { s with heap := h', toks := tk } := I.turned (fun b o hb e => kk b o (by simpa using hb) e) f0 f1 f3 f4 f5
    refine ⟨_, rfl, go_of (s := { s with heap := h', toks := tk }) (n := "range_iterator") st' rfl rfl (by decide) ⟨.int (lo + i), H, I1, ⟨t, ?_⟩, ⟨rfl, rfl⟩, st', fun b hb => (hf b hb).1⟩⟩
    rw [Int.mul_one]
  done := by
    intro X hP hw hK hc i pins s σ H E I hf st hg
    subst hP hw hK
    obtain ⟨f0, f1, f2, f3, f4, f5⟩ := hf it (by simp)
    exact wpAny_pyNext_range_end (I.ok.hd hc) st (by have : n ≤ i := hg; omega) fun h' eb => ⟨rfl, I.turned (t' := s.toks) (fun b o hb e => eb b o hb e) f0 f1 f3 f4 f5⟩
  self := fun _ _ _ _ _ st h => wpAny_pyIter_rangeiter st h
end L2

namespace L2
open PySem PySem.Spec PyProof.Rows
section
variable {X : Cx} {tg : Expr}
def iList (K : PySem.W.Frag) (tl : TE) : TI := fun σ H R => tl σ H fun x H1 => ∃ a, x = .ref a ∧ (∃ xs, SqL K H1 a xs) ∧ R (Itl K a) H1
def iTup (K : PySem.W.Frag) (tl : TE) : TI := fun σ H R => tl σ H fun x H1 => ∃ a, x = .ref a ∧ (∃ xs, SqT K H1 a xs) ∧ R (Itt K a) H1
theorem pi_list {l : Expr} {tl : TE} (hl : PE X l tl) : PI X tg l (iList X.K tl) := by
  intro pins s σ H R I h
  refine thn (hl pins s σ H _ I h) fun v s1 ⟨x, H1, I1, r1, q1⟩ => ?_
  obtain ⟨a, e, ⟨xs, hq⟩, q⟩ := q1
  subst e
  cases r1
  obtain ⟨its, rv, p, hz⟩ := I1.list hq
  refine wpAny_pyIter_list p.isList ?_
  refine ⟨s1.heap.objs.size, [s1.heap.objs.size], _, _, H1, rfl, I1.kept (t' := s1.toks) fun b o e => Heap.get?_push_of_some _ e, turn_list a _, ⟨_, Heap.get?_push_size _ rfl, rfl, rfl⟩, fun b hb => ?_, q⟩
  have e : b = s1.heap.objs.size := by simpa using hb
  subst e
  exact I1.fpOk (Nat.le_refl _) (I1.hok.fresh (Nat.le_refl _))
theorem pi_tup {l : Expr} {tl : TE} (hl : PE X l tl) : PI X tg l (iTup X.K tl) := by
  intro pins s σ H R I h
  refine thn (hl pins s σ H _ I h) fun v s1 ⟨x, H1, I1, r1, q1⟩ => ?_
  obtain ⟨a, e, ⟨xs, hq⟩, q⟩ := q1
  subst e
  cases r1
  obtain ⟨its, rv, p, hz⟩ := I1.tuple hq
  refine wpAny_pyIter_tuple (show s1.heap.IsTuple a its.toArray from p) ?_
  refine ⟨s1.heap.objs.size, [s1.heap.objs.size], _, _, H1, rfl, I1.kept (t' := s1.toks) fun b o e => Heap.get?_push_of_some _ e, turn_tuple a _, ⟨_, Heap.get?_push_size _ rfl, rfl, rfl⟩, fun b hb => ?_, q⟩
  have e : b = s1.heap.objs.size := by simpa using hb
  subst e
  exact I1.fpOk (Nat.le_refl _) (I1.hok.fresh (Nat.le_refl _))
theorem range_it {pins : List (Addr × Obj)} {σ : St} {H : Hp} {s : Shared} {R : It → Hp → Prop} {E : Value → Shared → Prop} {lo hi : Int} {t u v : Tok} {tk : Nat} (I : Inv X pins σ H s) (h1 : -(2 ^ 62) ≤ lo) (h2 : lo < 2 ^ 62) (h3 : -(2 ^ 62) ≤ hi) (h4 : hi < 2 ^ 62)
    (q : R (Itr lo (hi - lo).toNat) H) : wpAny (model X.prog X.w) X.A (pyIter (.ref s.heap.objs.size)) (PIE X pins σ tg R) E { s with heap := s.heap.push { cls := .type "range", data := .fields #[.int lo t, .int hi u, .int 1 v] }, toks := tk } := by
  refine wpAny_pyIter_range (IsRange.new ..) (small_one h1 h2 h3 h4) ?_
  have I1 : Inv X pins σ H { s with heap := s.heap.push { cls := .type "range", data := .fields #[.int lo t, .int hi u, .int 1 v] }, toks := tk } := I.kept fun b o e => Heap.get?_push_of_some _ e
  refine ⟨(s.heap.push { cls := .type "range", data := .fields #[.int lo t, .int hi u, .int 1 v] }).objs.size, [(s.heap.push { cls := .type "range", data := .fields #[.int lo t, .int hi u, .int 1 v] }).objs.size], _, _, H, rfl,
    I1.kept (t' := tk) fun b o e => Heap.get?_push_of_some _ e, turn_range _ lo (hi - lo).toNat, ?_, fun b hb => ?_, q⟩
  · have e1 : lo + ((0 : Nat) : Int) * 1 = lo := by simp
    have e2 : (((hi - lo).toNat : Nat) : Int) - ((0 : Nat) : Int) = Builtin.Range.rangeSize lo hi 1 := by rw [rangeSize_one]; split <;> omega
    show IsRangeIter _ _ (lo + ((0 : Nat) : Int) * 1) ((((hi - lo).toNat : Nat) : Int) - ((0 : Nat) : Int)) 1
    rw [e1, e2]
    exact Heap.get?_push_size _ rfl
  · have e : b = (s.heap.push { cls := .type "range", data := .fields #[.int lo t, .int hi u, .int 1 v] }).objs.size := by simpa using hb
    subst e
    exact I1.fpOk (Nat.le_refl _) (I1.hok.fresh (Nat.le_refl _))
def iRng1 (ta : TA) : TI := fun σ H R => ta σ H fun vs H1 => ∃ j : Int, vs = [.int j] ∧ -(2 ^ 62) ≤ j ∧ j < 2 ^ 62 ∧ R (Itr 0 j.toNat) H1
def iRng2 (ta : TA) : TI := fun σ H R => ta σ H fun vs H1 => ∃ i j : Int, vs = [.int i, .int j] ∧ (-(2 ^ 62) ≤ i ∧ i < 2 ^ 62 ∧ -(2 ^ 62) ≤ j ∧ j < 2 ^ 62) ∧ R (Itr i (j - i).toNat) H1
theorem pi_range1 {a : Expr} {ta : TA} {p pos : Pos} (hg : Gl X "range") (hm : X.mg "range" = none) (ha : PA X [a] ta) (hs : starEach [a] X.env = [(false, eval a X.env)] := by rfl) : PI X tg (.Call (.Name "range" p) [a] [] pos) (iRng1 ta) := by
  intro pins s σ H R I h
  refine Call_ (ld_blt I hg hm boot_range (PyProof.Rows.callWith_type1 (thn (ha pos pins s σ H _ I h) fun us s1 ⟨vs, H1, I1, r1, q1⟩ => ?_) hs rfl))
  obtain ⟨j, e, q1, q2, q⟩ := q1
  subst e
  cases r1 with
  | cons r rr =>
    cases rr
    obtain ⟨t, rfl⟩ := r
    exact call_range_1 (range_it I1 (by omega) (by omega) q1 q2 (by simpa using q))
theorem pi_range2 {a b : Expr} {ta : TA} {p pos : Pos} (hg : Gl X "range") (hm : X.mg "range" = none) (ha : PA X [a, b] ta) (hs : starEach [a, b] X.env = [(false, eval a X.env), (false, eval b X.env)] := by rfl) (hs2 : starEach [b] X.env = [(false, eval b X.env)] := by rfl) :
    PI X tg (.Call (.Name "range" p) [a, b] [] pos) (iRng2 ta) := by
  intro pins s σ H R I h
  refine Call_ (ld_blt I hg hm boot_range (PyProof.Rows.callWith_type1 (thn (ha pos pins s σ H _ I h) fun us s1 ⟨vs, H1, I1, r1, q1⟩ => ?_) (by rw [hs, hs2]) (by rw [hs2]; rfl)))
  obtain ⟨i, j, e, ⟨q1, q2, q3, q4⟩, q⟩ := q1
  subst e
  cases r1 with
  | cons r rr =>
    cases rr with
    | cons r' rr =>
      cases rr
      obtain ⟨t, rfl⟩ := r
      obtain ⟨t', rfl⟩ := r'
      exact call_range_2 (range_it I1 q1 q2 q3 q4 q)

def tFor (wi : TI) (g : TG) (tb : TS) : TS := fun D σ H => wi σ H fun J H1 => ∃ W : Nat → Nat → St → Hp → Prop, (∃ m, W 0 m σ H1) ∧ ∀ i m σ H, W i m σ H →
  (J.stop i H ∧ D.nx σ H) ∨ (J.go i H ∧ ∃ N : St → Hp → Prop, (∀ σ' H', N σ' H' → ∃ m', m' < m ∧ W (i + 1) m' σ' H') ∧ ∀ x H', J.yld i H x H' → g x σ H' fun σ2 H2 => tb { D with nx := N, ct := N, bk := D.nx } σ2 H2)
def pinsAt (fp : List Addr) (h : Heap) : List (Addr × Obj) := fp.filterMap fun b => (h.get? b).map fun o => (b, o)
theorem mem_pinsAt {fp : List Addr} {h : Heap} {b : Addr} {o : Obj} (hb : b ∈ fp) (e : h.get? b = some o) : (b, o) ∈ pinsAt fp h := List.mem_filterMap.mpr ⟨b, hb, by rw [e]; rfl⟩
theorem of_pinsAt {fp : List Addr} {h : Heap} {p : Addr × Obj} (hp : p ∈ pinsAt fp h) : p.1 ∈ fp ∧ h.get? p.1 = some p.2 := by
  obtain ⟨b, hb, e⟩ := List.mem_filterMap.mp hp
  cases q : h.get? b with
  | none => rw [q] at e; cases e
  | some o =>
    rw [q] at e
    have e' : (b, o) = p := Option.some.inj e
    subst e'
    exact ⟨hb, q⟩
theorem Inv.pinned {pins : List (Addr × Obj)} {σ : St} {H : Hp} {s : Shared} {fp : List Addr} (I : Inv X pins σ H s) (hf : ∀ b ∈ fp, FpOk X pins H b) (ho : ∀ b ∈ fp, ∃ o, s.heap.get? b = some o ∧ ∀ v, o.data ≠ .cell v) : Inv X (pins ++ pinsAt fp s.heap) σ H s :=
  I.pins_of fun p hp => (List.mem_append.mp hp).elim (fun z => I.pin p (List.mem_append_right _ z)) fun z => by
    obtain ⟨hb, e⟩ := of_pinsAt z
    obtain ⟨f0, f1, f2, _⟩ := hf p.1 hb
    obtain ⟨o, e', d⟩ := ho p.1 hb
    rw [e] at e'; cases e'
    exact ⟨e, f0, f1, f2, d⟩
theorem Inv.unpinned {pins pl : List (Addr × Obj)} {σ : St} {H : Hp} {s : Shared} (I : Inv X (pins ++ pl) σ H s) : Inv X pins σ H s := I.pins_of fun p hp => I.pin p (List.mem_append_right _ (List.mem_append_left _ hp))
theorem ps_for {iter : Expr} {body : List Stmt} {wi : TI} {g : TG} {tb : TS} {pos : Pos} (hp : PassesOwn (model X.prog X.w) X.A X.env X.xe) (hc : X.calm = true) (hi : PI X tg iter wi) (hg : PG X tg g) (hb : PSs X body tb)
    (hs : ∀ x, foldedSetIterable iter X.env x = pure x := by intro _; rfl) : PS X (.For tg iter body [] pos) (tFor wi g tb) := by
  intro pins s σ H D I h
  refine wpAny_For (thn (hi pins s σ H _ I h) fun v s1 h1 => thn h1 fun itv s2 h2 => ?_) hs
  obtain ⟨it, fp, tn, J, H2, e, I2, T, st2, f2, W, ⟨m0, w0⟩, turn⟩ := h2
  subst e
  have stat : ∀ {H' : Hp}, (∀ b ∈ fp, H' b = none) → ∀ b ∈ fp, FpOk X pins H' b := fun hn b hb => ⟨hn b hb, (f2 b hb).2⟩
  refine codeAny_forLoop_any (fun n s' => ∃ i σ' H', Inv X pins σ' H' s' ∧ tn i s'.heap ∧ (∀ b ∈ fp, H' b = none) ∧ W i n σ' H') ?_ m0 ⟨0, σ, H2, I2, st2, fun b hb => (f2 b hb).1, w0⟩
  rintro n s3 ⟨i, σ3, H3, I3, st3, fr3, w3⟩
  rcases turn i n σ3 H3 w3 with ⟨stop, qn⟩ | ⟨go, N, hN, step⟩
  · refine wpAny_passesOwn hp (thn (T.done X rfl rfl rfl hc i pins s3 σ3 H3 X.xe I3 (stat fr3) st3 stop) fun r s4 ⟨hr, I4⟩ => ?_)
    subst hr
    exact wpAny_execs_nil ⟨σ3, H3, I4, qn⟩
  · refine wpAny_passesOwn hp (thn (T.item X rfl rfl rfl hc i pins s3 σ3 H3 X.xe I3 (stat fr3) st3 go) fun r s4 ⟨u, hr, h4⟩ => ?_)
    subst hr
    refine wpAny_passesOwn hp (thn h4 fun _ s5 ⟨x, H5, I5, r5, y5, st5, fr5⟩ => ?_)
    have I5' := I5.pinned (stat fr5) (T.obj _ _ st5)
    refine wpAny_passesOwn hp (thn (hg _ s5 σ3 H5 x u _ I5' r5 (step x H5 y5)) fun _ s6 ⟨σ6, H6, I6, q6⟩ => ?_)
    refine wpAny_passesOwn hp (thn (hb _ s6 σ6 H6 _ I6 q6) fun f s7 q7 => ?_)
    have again : ∀ {σ7 : St} {H7 : Hp}, Inv X (pins ++ pinsAt fp s5.heap) σ7 H7 s7 → N σ7 H7 → ∃ m, m < n ∧ ∃ i σ' H', Inv X pins σ' H' s7 ∧ tn i s7.heap ∧ (∀ b ∈ fp, H' b = none) ∧ W i m σ' H' := fun {σ7 H7} I7 n7 => by
      obtain ⟨m', hm, w7⟩ := hN σ7 H7 n7
      refine ⟨m', hm, i + 1, σ7, H7, I7.unpinned, T.keep _ _ _ st5 fun b hb o e => (I7.pin (b, o) (List.mem_append_right _ (List.mem_append_right _ (mem_pinsAt hb e)))).1, fun b hb => ?_, w7⟩
      obtain ⟨o, e, d⟩ := T.obj _ _ st5 b hb
      exact (I7.pin (b, o) (List.mem_append_right _ (List.mem_append_right _ (mem_pinsAt hb e)))).2.1
    cases f with
    | next => obtain ⟨σ7, H7, I7, n7⟩ := q7; exact again I7 n7
    | cont => obtain ⟨σ7, H7, I7, n7⟩ := q7; exact again I7 n7
    | brk => obtain ⟨σ7, H7, I7, q7⟩ := q7; exact ⟨σ7, H7, I7.unpinned, q7⟩
    | ret v => obtain ⟨x7, σ7, H7, I7, r7, q7⟩ := q7; exact ⟨x7, σ7, H7, I7.unpinned, r7, q7⟩
end

theorem for_list {K : PySem.W.Frag} {a : Addr} {xs : List V} {g : TG} {tb : TS} {D : Ends} {σ : St} {H : Hp} (Pv : Nat → St → Hp → Prop) (h0 : Pv 0 σ H) (hl : ∀ i σ H, i ≤ xs.length → Pv i σ H → SqL K H a xs)
    (hs : ∀ i x σ H, xs[i]? = some x → Pv i σ H → g x σ H fun σ2 H2 => tb { D with nx := Pv (i + 1), ct := Pv (i + 1), bk := D.nx } σ2 H2) (hd : ∀ σ H, Pv xs.length σ H → D.nx σ H) :
    ∃ W : Nat → Nat → St → Hp → Prop, (∃ m, W 0 m σ H) ∧ ∀ i m σ H, W i m σ H →
      ((Itl K a).stop i H ∧ D.nx σ H) ∨ ((Itl K a).go i H ∧ ∃ N : St → Hp → Prop, (∀ σ' H', N σ' H' → ∃ m', m' < m ∧ W (i + 1) m' σ' H') ∧ ∀ x H', (Itl K a).yld i H x H' → g x σ H' fun σ2 H2 => tb { D with nx := N, ct := N, bk := D.nx } σ2 H2) := by
  refine ⟨fun i m σ H => m = xs.length - i ∧ i ≤ xs.length ∧ Pv i σ H, ⟨xs.length, by simp, Nat.zero_le _, h0⟩, ?_⟩
  rintro i m σ H ⟨rfl, hi, p⟩
  have q := hl i σ H hi p
  by_cases hlt : i < xs.length
  · refine .inr ⟨⟨xs, xs[i], q, by simp [hlt]⟩, Pv (i + 1), fun σ' H' p' => ⟨xs.length - (i + 1), by omega, rfl, hlt, p'⟩, fun x H' y => ?_⟩
    obtain ⟨e, y⟩ := y
    subst e
    exact hs i x σ _ (y xs q) p
  · have e : i = xs.length := by omega
    subst e
    exact .inl ⟨⟨xs, q, Nat.le_refl _⟩, hd σ H p⟩
theorem for_range {lo : Int} {n : Nat} {g : TG} {tb : TS} {D : Ends} {σ : St} {H : Hp} (Pv : Nat → St → Hp → Prop) (h0 : Pv 0 σ H)
    (hs : ∀ i σ H, i < n → Pv i σ H → g (.int (lo + i)) σ H fun σ2 H2 => tb { D with nx := Pv (i + 1), ct := Pv (i + 1), bk := D.nx } σ2 H2) (hd : ∀ σ H, Pv n σ H → D.nx σ H) :
    ∃ W : Nat → Nat → St → Hp → Prop, (∃ m, W 0 m σ H) ∧ ∀ i m σ H, W i m σ H →
      ((Itr lo n).stop i H ∧ D.nx σ H) ∨ ((Itr lo n).go i H ∧ ∃ N : St → Hp → Prop, (∀ σ' H', N σ' H' → ∃ m', m' < m ∧ W (i + 1) m' σ' H') ∧ ∀ x H', (Itr lo n).yld i H x H' → g x σ H' fun σ2 H2 => tb { D with nx := N, ct := N, bk := D.nx } σ2 H2) := by
  refine ⟨fun i m σ H => m = n - i ∧ i ≤ n ∧ Pv i σ H, ⟨n, by simp, Nat.zero_le _, h0⟩, ?_⟩
  rintro i m σ H ⟨rfl, hi, p⟩
  by_cases hlt : i < n
  · refine .inr ⟨hlt, Pv (i + 1), fun σ' H' p' => ⟨n - (i + 1), by omega, rfl, hlt, p'⟩, fun x H' y => ?_⟩
    obtain ⟨e, y⟩ := y
    subst e y
    exact hs i σ _ hlt p
  · have e : i = n := by omega
    subst e
    exact .inl ⟨Nat.le_refl _, hd σ H p⟩
theorem while_by {c : TT} {tb : TS} {D : Ends} {σ : St} {H : Hp} (Pv : St → Hp → Prop) (μ : St → Hp → Nat) (h0 : Pv σ H)
    (hs : ∀ σ H, Pv σ H → c σ H fun b H1 => if b = true then tb { D with nx := fun σ' H' => Pv σ' H' ∧ μ σ' H' < μ σ H, ct := fun σ' H' => Pv σ' H' ∧ μ σ' H' < μ σ H, bk := D.nx } σ H1 else D.nx σ H1)
    (mono : ∀ σ H Q Q', (∀ b H1, Q b H1 → Q' b H1) → c σ H Q → c σ H Q') : tWhile c tb D σ H := by
  refine ⟨fun m σ H => m = μ σ H ∧ Pv σ H, ⟨_, rfl, h0⟩, ?_⟩
  rintro m σ H ⟨rfl, p⟩
  refine mono σ H _ _ (fun b H1 q => ?_) (hs σ H p)
  cases b with
  | true => exact ⟨_, fun σ' H' ⟨p', l⟩ => ⟨_, l, rfl, p'⟩, q⟩
  | false => exact q
end L2

namespace L2
open PySem PySem.Spec PyProof.Rows

abbrev R2 := V → V → Hp → VK → Prop
def OpR (X : Cx) (f : Value → Value → Sem Value) (r : R2) : Prop :=
  ∀ (pins : List (Addr × Obj)) (s : Shared) (σ : St) (H : Hp) (x y : V) (v u : Value) (Q : VK), Inv X pins σ H s → RelV x v → RelV y u → r x y H Q →
    wpAny (model X.prog X.w) X.A (f v u) (EP X pins σ Q) X.xe s
def CallR (X : Cx) (f : Value) (r : List V → Hp → VK → Prop) : Prop :=
  ∀ (pins : List (Addr × Obj)) (s : Shared) (σ : St) (H : Hp) (xs : List V) (us : List Value) (Q : VK), Inv X pins σ H s → Vals xs us → r xs H Q →
    wpAny (model X.prog X.w) X.A (call f us) (EP X pins σ Q) X.xe s
def tOp (r : R2) (ta tb : TE) : TE := fun σ H Q => ta σ H fun x H1 => tb σ H1 fun y H2 => r x y H2 Q
def rI (C : Int → Int → Prop) (g : Int → Int → V) : R2 := fun x y H Q => ∃ i j, x = .int i ∧ y = .int j ∧ C i j ∧ Q (g i j) H
def rI0 (g : Int → Int → V) : R2 := fun x y H Q => ∃ i j, x = .int i ∧ y = .int j ∧ Q (g i j) H
section
variable {X : Cx} {a b c : Expr} {ta tb tc : TE} {pos : Pos}

theorem binT (ha : PE X a ta) (hb : PE X b tb) {pins : List (Addr × Obj)} {s : Shared} {σ : St} {H : Hp} {R : V → V → Hp → Prop} (I : Inv X pins σ H s)
    (h : ta σ H fun x H1 => tb σ H1 fun y H2 => R x y H2) {Q : Value → Shared → Prop} {f : Value → Value → Sem Value}
    (hf : ∀ v u s2 x y H2, Inv X pins σ H2 s2 → RelV x v → RelV y u → R x y H2 → wpAny (model X.prog X.w) X.A (f v u) Q X.xe s2) :
    wpAny (model X.prog X.w) X.A (eval a X.env) (fun v s₁ => wpAny (model X.prog X.w) X.A (eval b X.env) (fun u s₂ => wpAny (model X.prog X.w) X.A (f v u) Q X.xe s₂) X.xe s₁) X.xe s := by
  refine thn (ha pins s σ H _ I h) fun v s1 ⟨x, H1, I1, r1, q1⟩ => ?_
  refine thn (hb pins s1 σ H1 _ I1 q1) fun u s2 ⟨y, H2, I2, r2, q2⟩ => ?_
  exact hf v u s2 x y H2 I2 r1 r2 q2

theorem pe_op {op : Operator} {r : R2} (ho : OpR X (binaryOp op) r) (ha : PE X a ta) (hb : PE X b tb) : PE X (.BinOp a op b pos) (tOp r ta tb) := by
  intro pins s σ H Q I h
  exact wpAny_BinOp (binT ha hb I h fun v u s2 x y H2 I2 rx ry q => ho pins s2 σ H2 x y v u Q I2 rx ry q)
theorem opI {f : Value → Value → Sem Value} {C : Int → Int → Prop} {g : Int → Int → Int}
    (rule : ∀ (i j : Int) (t u : Tok) (s : Shared) (Q : Value → Shared → Prop) (E : Value → Shared → Prop), C i j → Q (.int (g i j) s.toks) { s with toks := s.toks + 1 } → wpAny (model X.prog X.w) X.A (f (.int i t) (.int j u)) Q E s) :
    OpR X f (rI C fun i j => .int (g i j)) := by
  intro pins s σ H x y v u Q I rx ry h
  obtain ⟨i, j, rfl, rfl, hc, q⟩ := h
  obtain ⟨t, rfl⟩ := rx
  obtain ⟨t', rfl⟩ := ry
  exact rule i j t t' s _ _ hc ⟨.int (g i j), H, I.tok _, ⟨_, rfl⟩, q⟩
theorem opI0 {f : Value → Value → Sem Value} {g : Int → Int → Int}
    (rule : ∀ (i j : Int) (t u : Tok) (s : Shared) (Q : Value → Shared → Prop) (E : Value → Shared → Prop), Q (.int (g i j) s.toks) { s with toks := s.toks + 1 } → wpAny (model X.prog X.w) X.A (f (.int i t) (.int j u)) Q E s) :
    OpR X f (rI0 fun i j => .int (g i j)) := by
  intro pins s σ H x y v u Q I rx ry h
  obtain ⟨i, j, rfl, rfl, q⟩ := h
  obtain ⟨t, rfl⟩ := rx
  obtain ⟨t', rfl⟩ := ry
  exact rule i j t t' s _ _ ⟨.int (g i j), H, I.tok _, ⟨_, rfl⟩, q⟩
theorem opB0 {f : Value → Value → Sem Value} {g : Int → Int → Bool}
    (rule : ∀ (i j : Int) (t u : Tok) (s : Shared) (Q : Value → Shared → Prop) (E : Value → Shared → Prop), Q (.bool (g i j)) s → wpAny (model X.prog X.w) X.A (f (.int i t) (.int j u)) Q E s) :
    OpR X f (rI0 fun i j => .bl (g i j)) := by
  intro pins s σ H x y v u Q I rx ry h
  obtain ⟨i, j, rfl, rfl, q⟩ := h
  obtain ⟨t, rfl⟩ := rx
  obtain ⟨t', rfl⟩ := ry
  exact rule i j t t' s _ _ ⟨.bl (g i j), H, I, rfl, q⟩

def CDiv (i j : Int) : Prop := 0 < j ∧ j < 1073741824
def CMul (i j : Int) : Prop := (-(2 ^ 64) < i ∧ i < 2 ^ 64) ∨ (-(2 ^ 64) < j ∧ j < 2 ^ 64)
theorem CMul.ok {i j : Int} (h : CMul i j) : IntMulOk i j := by
  rcases h with ⟨h1, h2⟩ | ⟨h1, h2⟩
  · exact .of_left (intBits_le_64 h1 h2)
  · exact .of_right (intBits_le_64 h1 h2)
theorem op_add : OpR X (binaryOp .Add) (rI0 fun i j => .int (i + j)) := opI0 fun _ _ _ _ _ _ _ q => add_int q
theorem op_mul : OpR X (binaryOp .Mult) (rI CMul fun i j => .int (i * j)) := opI fun _ _ _ _ _ _ _ hc q => mul_int q hc.ok
theorem op_fdiv : OpR X (binaryOp .FloorDiv) (rI CDiv fun i j => .int (i / j)) := opI fun i j _ _ _ _ _ hc q => by
  have h1 : (0 : Int) < j := hc.1
  have h2 : j < 1073741824 := hc.2
  exact floordiv_int (by omega) (by rw [Int.fdiv_eq_ediv_of_nonneg i (by omega)]; exact q) (.inl (PyProof.noPylong_small (by omega)))
theorem op_mod : OpR X (binaryOp .Mod) (rI (fun _ j => 0 < j) fun i j => .int (i % j)) := opI fun i j _ _ _ _ _ hc q => by
  have h1 : (0 : Int) < j := hc
  exact mod_int' (by omega) (by rw [Int.fmod_eq_emod_of_nonneg i (by omega)]; exact q)
end

def scal : V → V → Bool
  | .non, .non => true | .non, .int _ => true | .int _, .non => true | .non, .bl _ => true | .bl _, .non => true | .non, .str _ => true | .str _, .non => true
  | .int _, .int _ => true | .bl _, .bl _ => true | .str _, .str _ => true | .byt _, .byt _ => true
  | .int _, .str _ => true | .str _, .int _ => true | .bl _, .str _ => true | .str _, .bl _ => true
  | _, _ => false
def rEq : R2 := fun x y H Q => scal x y = true ∧ Q (.bl (decide (x = y))) H
def rNe : R2 := fun x y H Q => scal x y = true ∧ Q (.bl (!decide (x = y))) H

theorem dec_int {i j : Int} : decide (V.int i = V.int j) = (i == j) := by
  rw [Bool.eq_iff_iff]
  simp
theorem dec_bl {i j : Bool} : decide (V.bl i = V.bl j) = (i == j) := by
  rw [Bool.eq_iff_iff]
  simp
theorem dec_str {i j : Str} : decide (V.str i = V.str j) = (i == j) := by
  rw [Bool.eq_iff_iff]
  simp
theorem dec_byt {i j : Array UInt8} : decide (V.byt i = V.byt j) = (i.toList == j.toList) := by
  rw [Bool.eq_iff_iff]
  cases i
  cases j
  simp

section
variable {X : Cx} {a b c : Expr} {ta tb tc : TE} {pos : Pos}
theorem fin_bl {pins : List (Addr × Obj)} {σ : St} {H : Hp} {s : Shared} {Q : VK} {k k' : Bool} (I : Inv X pins σ H s) (q : Q (.bl k) H) (e : k = k') : EP X pins σ Q (.bool k') s := by
  subst e
  exact ⟨.bl k, H, I, rfl, q⟩
theorem op_eq : OpR X (compareOp .Eq) rEq := by
  intro pins s σ H x y v u Q I rx ry h
  obtain ⟨hs, q⟩ := h
  cases x with
  | non =>
    cases rx
    cases y with
    | non => cases ry; exact PySem.EqNone.eq_none_none (fin_bl I q (by simp))
    | bl j => cases ry; exact PySem.EqNone.eq_none_bool (fin_bl I q (by simp))
    | int j => obtain ⟨t', rfl⟩ := ry; exact PySem.EqNone.eq_none_int (fin_bl I q (by simp))
    | str j => obtain ⟨t', rfl⟩ := ry; exact PySem.EqNone.eq_none_str (fin_bl I q (by simp))
    | _ => exact absurd (show false = true from hs) Bool.false_ne_true
  | bl i =>
    cases rx
    cases y with
    | non => cases ry; exact PySem.EqNone.eq_bool_none (fin_bl I q (by simp))
    | bl j => cases ry; exact eq_bool (fin_bl I q dec_bl)
    | str j => obtain ⟨t', rfl⟩ := ry; exact PySem.EqMixed.eq_bool_str (fin_bl I q (by simp))
    | _ => exact absurd (show false = true from hs) Bool.false_ne_true
  | int i =>
    obtain ⟨t, rfl⟩ := rx
    cases y with
    | non => cases ry; exact PySem.EqNone.eq_int_none (fin_bl I q (by simp))
    | int j => obtain ⟨t', rfl⟩ := ry; exact eq_int (fin_bl I q dec_int)
    | str j => obtain ⟨t', rfl⟩ := ry; exact PySem.EqMixed.eq_int_str (fin_bl I q (by simp))
    | _ => exact absurd (show false = true from hs) Bool.false_ne_true
  | str i =>
    obtain ⟨t, rfl⟩ := rx
    cases y with
    | non => cases ry; exact PySem.EqNone.eq_str_none (fin_bl I q (by simp))
    | bl j => cases ry; exact PySem.EqMixed.eq_str_bool (fin_bl I q (by simp))
    | int j => obtain ⟨t', rfl⟩ := ry; exact PySem.EqMixed.eq_str_int (fin_bl I q (by simp))
    | str j => obtain ⟨t', rfl⟩ := ry; exact eq_str (fin_bl I q dec_str)
    | _ => exact absurd (show false = true from hs) Bool.false_ne_true
  | byt i =>
    obtain ⟨t, rfl⟩ := rx
    cases y with
    | byt j => obtain ⟨t', rfl⟩ := ry; exact PySem.W.eq_bytes (fin_bl I q dec_byt)
    | _ => exact absurd (show false = true from hs) Bool.false_ne_true
  | _ => cases y <;> exact absurd (show false = true from hs) Bool.false_ne_true
theorem op_ne : OpR X (compareOp .NotEq) rNe := by
  intro pins s σ H x y v u Q I rx ry h
  obtain ⟨hs, q⟩ := h
  cases x with
  | non =>
    cases rx
    cases y with
    | non => cases ry; exact PySem.EqNone.ne_none_none (fin_bl I q (by simp))
    | bl j => cases ry; exact PySem.EqNone.ne_none_bool (fin_bl I q (by simp))
    | int j => obtain ⟨t', rfl⟩ := ry; exact PySem.EqNone.ne_none_int (fin_bl I q (by simp))
    | str j => obtain ⟨t', rfl⟩ := ry; exact PySem.EqNone.ne_none_str (fin_bl I q (by simp))
    | _ => exact absurd (show false = true from hs) Bool.false_ne_true
  | bl i =>
    cases rx
    cases y with
    | non => cases ry; exact PySem.EqNone.ne_bool_none (fin_bl I q (by simp))
    | bl j => cases ry; exact ne_bool (fin_bl I q (congrArg not dec_bl))
    | str j => obtain ⟨t', rfl⟩ := ry; exact PySem.EqMixed.ne_bool_str (fin_bl I q (by simp))
    | _ => exact absurd (show false = true from hs) Bool.false_ne_true
  | int i =>
    obtain ⟨t, rfl⟩ := rx
    cases y with
    | non => cases ry; exact PySem.EqNone.ne_int_none (fin_bl I q (by simp))
    | int j => obtain ⟨t', rfl⟩ := ry; exact ne_int (fin_bl I q (congrArg not dec_int))
    | str j => obtain ⟨t', rfl⟩ := ry; exact PySem.EqMixed.ne_int_str (fin_bl I q (by simp))
    | _ => exact absurd (show false = true from hs) Bool.false_ne_true
  | str i =>
    obtain ⟨t, rfl⟩ := rx
    cases y with
    | non => cases ry; exact PySem.EqNone.ne_str_none (fin_bl I q (by simp))
    | bl j => cases ry; exact PySem.EqMixed.ne_str_bool (fin_bl I q (by simp))
    | int j => obtain ⟨t', rfl⟩ := ry; exact PySem.EqMixed.ne_str_int (fin_bl I q (by simp))
    | str j => obtain ⟨t', rfl⟩ := ry; exact ne_str (fin_bl I q (congrArg not dec_str))
    | _ => exact absurd (show false = true from hs) Bool.false_ne_true
  | byt i =>
    obtain ⟨t, rfl⟩ := rx
    cases y with
    | byt j => obtain ⟨t', rfl⟩ := ry; exact PySem.W.ne_bytes (fin_bl I q (congrArg not dec_byt))
    | _ => exact absurd (show false = true from hs) Bool.false_ne_true
  | _ => cases y <;> exact absurd (show false = true from hs) Bool.false_ne_true

theorem op_lt : OpR X (compareOp .Lt) (rI0 fun i j => .bl (decide (i < j))) := opB0 fun _ _ _ _ _ _ _ q => lt_int q
theorem op_le : OpR X (compareOp .LtE) (rI0 fun i j => .bl (decide (i ≤ j))) := opB0 fun _ _ _ _ _ _ _ q => le_int q
theorem op_gt : OpR X (compareOp .Gt) (rI0 fun i j => .bl (decide (j < i))) := opB0 fun _ _ _ _ _ _ _ q => gt_int q
theorem op_ge : OpR X (compareOp .GtE) (rI0 fun i j => .bl (decide (j ≤ i))) := opB0 fun _ _ _ _ _ _ _ q => ge_int q
theorem nomark (b : Expr) {op : CmpOp} (h : op ≠ .In := by decide) (h2 : op ≠ .NotIn := by decide) : behindInMarks op b = false := by
  have e1 : (op == CmpOp.In) = false := by cases op <;> first | rfl | exact absurd rfl h
  have e2 : (op == CmpOp.NotIn) = false := by cases op <;> first | rfl | exact absurd rfl h2
  cases b <;> simp [behindInMarks, e1, e2]
theorem pe_cmpR {op : CmpOp} {r : R2} (ho : OpR X (compareOp op) r) (ha : PE X a ta) (hb : PE X b tb) (hm : behindInMarks op b = false) : PE X (.Compare a [op] [b] pos) (tOp r ta tb) := by
  intro pins s σ H Q I h
  exact wpAny_Compare1 (binT ha hb I h fun v u s2 x y H2 I2 rx ry q => ho pins s2 σ H2 x y v u Q I2 rx ry q) hm
def tTest (t : TE) : TT := fun σ H Q => t σ H fun x H' => ∃ k, x = .bl k ∧ Q k H'
theorem pt_cmpR {op : CmpOp} {r : R2} (ho : OpR X (compareOp op) r) (ha : PE X a ta) (hb : PE X b tb) (hm : behindInMarks op b = false) : PT X (.Compare a [op] [b] pos) (tTest (tOp r ta tb)) := by
  intro pins s σ H Q I h
  refine wpAny_isTrue_Compare1 (thn (ha pins s σ H _ I h) fun v s1 ⟨x, H1, I1, r1, q1⟩ => thn (hb pins s1 σ H1 _ I1 q1) fun u s2 ⟨y, H2, I2, r2, q2⟩ =>
    thn (ho pins s2 σ H2 x y v u _ I2 r1 r2 q2) fun c s3 ⟨z, H3, I3, r3, k, e, q3⟩ => ?_) hm
  subst e
  cases r3
  exact wpAny_truthy_bool ⟨H3, I3, q3⟩
theorem line63 : (sizeLine : Nat) < 2 ^ 63 := by rw [sizeLine_eq]; decide
theorem vals1 {x : V} {us : List Value} (r : Vals [x] us) : ∃ u, us = [u] ∧ RelV x u := by
  cases r with
  | cons r1 r2 => cases r2; exact ⟨_, rfl, r1⟩
theorem vals2 {x y : V} {us : List Value} (r : Vals [x, y] us) : ∃ u w', us = [u, w'] ∧ RelV x u ∧ RelV y w' := by
  cases r with
  | cons r1 r2 =>
    cases r2 with
    | cons r3 r4 => cases r4; exact ⟨_, _, rfl, r1, r3⟩
theorem call_max2 (hc : X.calm = true) : CallR X (.builtin "max") (fun xs H Q => ∃ i j, xs = [.int i, .int j] ∧ Q (.int (if j > i then j else i)) H) := by
  intro pins s σ H xs us Q I r h
  obtain ⟨i, j, rfl, q⟩ := h
  obtain ⟨u, w', rfl, ⟨t, rfl⟩, ⟨t', rfl⟩⟩ := vals2 r
  refine max_two_ints (I.ok.hd hc) fun h' tk k => ⟨_, H, I.kept k, ?_, q⟩
  by_cases hj : j > i
  · rw [if_pos hj, if_pos hj]; exact ⟨_, rfl⟩
  · rw [if_neg hj, if_neg hj]; exact ⟨_, rfl⟩
theorem call_min2 (hc : X.calm = true) : CallR X (.builtin "min") (fun xs H Q => ∃ i j, xs = [.int i, .int j] ∧ Q (.int (if j < i then j else i)) H) := by
  intro pins s σ H xs us Q I r h
  obtain ⟨i, j, rfl, q⟩ := h
  obtain ⟨u, w', rfl, ⟨t, rfl⟩, ⟨t', rfl⟩⟩ := vals2 r
  refine min_two_ints (I.ok.hd hc) fun h' tk k => ⟨_, H, I.kept k, ?_, q⟩
  by_cases hj : j < i
  · rw [if_pos hj, if_pos hj]; exact ⟨_, rfl⟩
  · rw [if_neg hj, if_neg hj]; exact ⟨_, rfl⟩
end
end L2

namespace L2
open PySem PySem.Spec PyProof.Rows

structure ObjM (h : Heap) (x dx C : Addr) (mA : Str → Option Value) : Prop where
  obj : h.get? x = some (PySem.W.instObj C dx)
  ns : h.Ns1 dx mA
  ne : dx ≠ x

theorem lookIn_ns {h : Heap} {dx : Addr} {mA : Str → Option Value} (n : h.Ns1 dx mA) : ∃ od, h.get? dx = some od ∧ ∀ name, PySem.W.lookIn name od = some (mA name) := by
  obtain ⟨o, es, ep, ho, hd, hk, _, hm⟩ := n
  refine ⟨o, ho, fun name => ?_⟩
  have e := hm name
  unfold nsFind findBy at e
  rw [← Array.find?_toList] at e
  unfold PySem.W.lookIn
  rw [hd]
  dsimp only
  split
  · rename_i y q
    rw [q] at e
    exact congrArg some e
  · rename_i q
    rw [q] at e
    have a : es.toList.any (·.refKey) = false := by
      rw [List.any_eq_false]
      intro y hy
      obtain ⟨z, t, hkey⟩ := hk y (Array.mem_toList_iff.mp hy)
      simp [DictEntry.refKey, hkey]
    have a' : ¬ es.toList.any (·.refKey) = true := by rw [a]; exact Bool.false_ne_true
    rw [if_neg a']
    exact congrArg some e

theorem ObjM.look {h : Heap} {x dx C : Addr} {mA : Str → Option Value} (I : ObjM h x dx C mA) : ∃ od, PySem.W.InstAt h x (PySem.W.instObj C dx) C (some od) ∧ ∀ name, PySem.W.lookIn name od = some (mA name) :=
  let ⟨od, ho, hl⟩ := lookIn_ns I.ns
  ⟨od, ⟨I.obj, rfl, rfl, ho⟩, hl⟩


theorem RelO.some_of {v : V} {o : Option Value} (r : RelO (some v) o) : ∃ u, o = some u ∧ RelV v u := by
  cases o with
  | none => exact (show False from r).elim
  | some u => exact ⟨u, rfl, r⟩
section
variable {P : Program} {w : World} {H H' : Hp} {h h' : Heap} {a C dx : Addr} {fs fs' : List (Str × V)}
theorem ins_get (hok : HOk P w H h) (e : H a = some (.ins C dx fs)) : ∃ mA, ObjM h a dx C mA ∧ (∀ f, RelO (fs.lookup f) (mA f)) ∧ PySem.Within mA (fs.map (·.1)) ∧ fs.length ≤ 1000 ∧ H dx = some (.own a) := by
  obtain ⟨d, z, ne, ob, mA, n, r, q⟩ := (show ObjOk P w H h a (.ins C dx fs) from hok a _ e)
  exact ⟨mA, ⟨ob, n, ne⟩, r, q, z, d⟩
end

structure Cls (K : PySem.W.Frag) (C : Addr) : Prop where
  pg : PySem.W.plainGet K C Str.empty = true
  hd : PySem.W.hasDictIn K C = true
  po : PySem.W.plainOver K C = true
  sa : PySem.W.findIn K (.ref C) "__setattr__" = some (some (.builtin "object.__setattr__"))
theorem Cls.get {K : PySem.W.Frag} {C : Addr} (c : Cls K C) (f : Str) : PySem.W.plainGet K C f = true := c.pg


section
variable {X : Cx} {pins : List (Addr × Obj)} {σ : St} {H : Hp} {s : Shared} {A : Around} {E : Value → Shared → Prop} {Q : Value → Shared → Prop} {c : Value} {b : Bool}
inductive TyOf (K : PySem.W.Frag) (H : Hp) : V → Value → Prop where
  | non : TyOf K H .non (.type "NoneType")
  | bl (x : Bool) : TyOf K H (.bl x) (.type "bool")
  | int (i : Int) : TyOf K H (.int i) (.type "int")
  | str (x : Str) : TyOf K H (.str x) (.type "str")
  | flt (x : UInt64) : TyOf K H (.flt x) (.type "float")
  | lst {a : Addr} {xs : List V} (e : H a = some (.lst xs)) : TyOf K H (.ref a) (.type "list")
  | frz {a : Addr} {o : Obj} {xs : List V} (e : H a = some (.frz o (.lst xs))) : TyOf K H (.ref a) (.type "list")
  | tup {a : Addr} {xs : List V} (e : H a = some (.tup xs)) : TyOf K H (.ref a) (.type "tuple")
  | dK {a : Addr} {kvs : List (Key × V)} (e : H a = some (.dK kvs)) : TyOf K H (.ref a) (.type "dict")
  | dT {a : Addr} {kvs : List (List Key × V)} (e : H a = some (.dT kvs)) : TyOf K H (.ref a) (.type "dict")
  | ins {a C dx : Addr} {fs : List (Str × V)} (e : H a = some (.ins C dx fs)) (cl : Cls K C) (ha : PySem.W.findIn K (.ref C) "__class__" = some (some (.builtin "object.__class__")))
      (hn : PySem.W.specialIn K (.builtin "object.__class__") "__get__" = some (some (.builtin "getset_descriptor.__get__"))) (htk : PySem.W.takesIn K (.builtin "object.__class__") = some true)
      (hm : PySem.W.mroIn K C (.type "object") = some true) : TyOf K H (.ref a) (.ref C)
theorem isinst_ok {x : V} {u t : Value} (I : Inv X pins σ H s) (rx : RelV x u) (ty : TyOf X.K H x t) (e : PySem.W.kitOne X.K t c = some b) (h : ∀ tk, Q (.bool b) { s with toks := tk }) :
    wpAny (model X.prog X.w) A (call (.builtin "isinstance") [u, c]) Q E s := by
  cases ty with
  | non => cases (show u = Value.none from rx); exact PySem.W.kia_one PySem.W.kitx_none I.kIn True.intro e (fun z => nomatch z) h
  | bl y => cases (show u = Value.bool y from rx); exact PySem.W.kia_one PySem.W.kitx_bool I.kIn True.intro e (fun z => nomatch z) h
  | int i => obtain ⟨t, q⟩ := (show ∃ t, u = Value.int i t from rx); cases q; exact PySem.W.kia_one PySem.W.kitx_int I.kIn True.intro e (fun z => nomatch z) h
  | str y => obtain ⟨t, q⟩ := (show ∃ t, u = Value.str y t from rx); cases q; exact PySem.W.kia_one PySem.W.kitx_str I.kIn True.intro e (fun z => nomatch z) h
  | flt y => obtain ⟨t, q⟩ := (show ∃ t, u = Value.float y t from rx); cases q; exact PySem.W.kia_one PySem.W.kitx_float I.kIn True.intro e (fun z => nomatch z) h
  | @lst a xs ea =>
    cases (show u = Value.ref a from rx)
    obtain ⟨_, _, n, _, h1⟩ := (show ObjOk X.prog X.w H s.heap a (.lst xs) from I.hok a _ ea)
    exact PySem.W.kia_one PySem.W.kitx_list I.kIn ⟨_, h1, rfl⟩ e (fun z => nomatch z) h
  | @frz a ob xs ea =>
    cases (show u = Value.ref a from rx)
    obtain ⟨_, _, _, n, _, h1⟩ := (show ObjOk X.prog X.w H s.heap a (.frz ob (.lst xs)) from I.hok a _ ea)
    exact PySem.W.kia_one PySem.W.kitx_list I.kIn ⟨_, h1, rfl⟩ e (fun z => nomatch z) h
  | @tup a xs ea =>
    cases (show u = Value.ref a from rx)
    obtain ⟨_, _, _, p⟩ := (show ObjOk X.prog X.w H s.heap a (.tup xs) from I.hok a _ ea)
    obtain ⟨o, h1, h2, _⟩ := p
    exact PySem.W.kia_one PySem.W.kitx_tuple I.kIn ⟨o, h1, h2⟩ e (fun z => nomatch z) h
  | @dK a kvs ea =>
    cases (show u = Value.ref a from rx)
    obtain ⟨_, _, vs, _, p⟩ := (show ObjOk X.prog X.w H s.heap a (.dK kvs) from I.hok a _ ea)
    obtain ⟨o, es, ep, h1, h2, _⟩ := p
    exact PySem.W.kia_one PySem.W.kitx_dict I.kIn ⟨o, h1, h2.1⟩ e (fun z => nomatch z) h
  | @dT a kvs ea =>
    cases (show u = Value.ref a from rx)
    obtain ⟨_, _, xs, _, o, es, ep, h1, h2, _⟩ := (show ObjOk X.prog X.w H s.heap a (.dT kvs) from I.hok a _ ea)
    exact PySem.W.kia_one PySem.W.kitx_dict I.kIn ⟨o, h1, h2.1⟩ e (fun z => nomatch z) h
  | @ins a C dx fs ea cl ha hn htk hm =>
    cases (show u = Value.ref a from rx)
    obtain ⟨mA, O, _⟩ := ins_get I.hok ea
    obtain ⟨od, J, _⟩ := O.look
    exact PySem.W.kia_one (PySem.W.kitx_own (cl.get _) cl.hd ha hn htk hm) I.kIn J e (fun z => nomatch z) h
end
end L2

namespace L2
open PySem PySem.Spec PyProof.Rows

structure Room (k : Nat) (A : Around) : Prop where
  hd : A.handled = none
  dp : A.depth + 3 * k + 5 < recursionLimit
  un : A.units + 16 * k + 200 < cLine
  gd : A.guards = some []
theorem Room.mono {j k : Nat} {A : Around} (r : Room k A) (h : j ≤ k) : Room j A := ⟨r.hd, by have := r.dp; omega, by have := r.un; omega, r.gd⟩
theorem Room.deeper {k : Nat} {A : Around} (r : Room (k + 1) A) (env : Env) : Room k (A.deeper env) :=
  ⟨r.hd, by have := r.dp; show A.depth + 1 + 3 * k + 5 < _; omega, by have := r.un; show A.units + 3 + 16 * k + 200 < _; omega, r.gd⟩
theorem Room.depth {k : Nat} {A : Around} (r : Room k A) : A.depth < recursionLimit := by have := r.dp; omega
theorem Room.units {k : Nat} {A : Around} (r : Room k A) : A.units + 64 < cLine := by have := r.un; omega
def tNil : TA := fun _ H Q => Q [] H
def tCons (ta : TE) (tr : TA) : TA := fun σ H Q => ta σ H fun x H1 => tr σ H1 fun xs H2 => Q (x :: xs) H2
section
variable {X : Cx} {e : Expr} {es : List Expr} {te : TE} {t : TA} {pos : Pos}
theorem pa_nil : PA X [] tNil := fun _ _ _ _ H Q I h => Calls.spliced_nil ⟨[], H, I, .nil, h⟩
theorem pa_cons (ha : PE X e te) (hr : PA X es t) (hs : starEach (e :: es) X.env = (false, eval e X.env) :: starEach es X.env := by rfl) : PA X (e :: es) (tCons te t) := by
  intro pos pins s σ H Q I h
  rw [hs]
  show wpAny _ _ (spliced ((false, eval e X.env) :: backTo pos (starEach es X.env))) _ _ s
  refine Calls.spliced_cons (thn (ha pins s σ H _ I h) fun u s1 ⟨x, H1, I1, r1, q1⟩ => ?_)
  exact thn (hr pos pins s1 σ H1 _ I1 q1) fun us s2 ⟨xs, H2, I2, r2, q2⟩ => ⟨x :: xs, H2, I2, .cons r1 r2, q2⟩

def tTup (t : TA) : TE := fun σ H Q => t σ H fun xs H1 => xs.length ≤ sizeLine ∧ ∀ p, H1 p = none → Q (.ref p) (upd H1 p (.tup xs))
def tLst (t : TA) : TE := fun σ H Q => t σ H fun xs H1 => xs.length ≤ sizeLine ∧ ∀ p, H1 p = none → Q (.ref p) (upd H1 p (.lst xs))
theorem pe_tup {x1} (h : PA X es t) : PE X (.Tuple es x1 pos) (tTup t) := by
  intro pins s σ H Q I hq
  refine wpAny_Tuple_spliced (thn (h pos pins s σ H _ I hq) fun us s1 ⟨xs, H1, I1, r, z, q⟩ => ⟨by rw [← r.length]; exact z, ?_⟩)
  have hf : H1 s1.heap.objs.size = none := I1.hok.fresh (Nat.le_refl _)
  refine ⟨.ref s1.heap.objs.size, upd H1 s1.heap.objs.size (.tup xs), I1.laid (t' := s1.toks) (fun b u e => Heap.get?_push_of_some _ e) (Nat.le_refl _) ?_, rfl, q _ hf⟩
  exact ⟨z, us, r, ⟨_, Heap.get?_push_size _ rfl, rfl, _, rfl⟩⟩
theorem pe_lst (h : PA X es t) : PE X (.List es pos) (tLst t) := by
  intro pins s σ H Q I hq
  refine wpAny_List_spliced (thn (h pos pins s σ H _ I hq) fun us s1 ⟨xs, H1, I1, r, z, q⟩ => ⟨by rw [← r.length]; exact z, ?_⟩)
  have hf : H1 s1.heap.objs.size = none := I1.hok.fresh (Nat.le_refl _)
  refine ⟨.ref s1.heap.objs.size, upd H1 s1.heap.objs.size (.lst xs), I1.laid (t' := s1.toks) (fun b u e => Heap.get?_push_of_some _ e) (Nat.le_refl _) ?_, rfl, q _ hf⟩
  exact ⟨z, us, 0, r, Heap.get?_push_size _ rfl⟩
end

abbrev Sp := List V → Hp → VK → XK → Prop
abbrev CXT := List Env → Hp → Shared → XK → Value → Shared → Prop

structure Env0 (P : Program) (w : World) (K : PySem.W.Frag) (mg : Str → Option Value) (base : Heap) (A : Around) (outer : List Env) (s : Shared) (H : Hp) : Prop where
  frames : A.frames = some outer
  mod : Mod K mg base
  bs : ∀ b o, base.get? b = some o → s.heap.get? b = some o ∧ H b = none
  bsz : base.objs.size ≤ s.heap.objs.size
  funs : s.heap.FunFrames base outer
  frf : ∀ b ∈ frs outer, H b = none
  hok : HOk P w H s.heap
  bare : AllBare s.gens
def CE (outer : List Env) (P : Program) (w : World) (H : Hp) (s : Shared) (Q : VK) (u : Value) (s' : Shared) : Prop :=
  ∃ v H', s'.os = s.os ∧ AllBare s'.gens ∧ Un (frs outer) [] H H' s.heap s'.heap ∧ HOk P w H' s'.heap ∧ RelV v u ∧ Q v H'
def CR (CX : CXT) (outer : List Env) (P : Program) (w : World) (H : Hp) (s : Shared) (Q : VK) (E : XK) (r : Result) (s' : Shared) : Prop :=
  match r with
  | .ok (.ret u) => CE outer P w H s Q u s'
  | .ok _ => False
  | .error e => CX outer H s E e s'
structure FnOk (P : Program) (w : World) (K : PySem.W.Frag) (mg : Str → Option Value) (base : Heap) (CX : CXT) (k : Nat) (f : Addr) (fd : FuncData) (ps : List Str) (sp : Sp) : Prop where
  len : ∀ vs H Q E, sp vs H Q E → vs.length = ps.length
  run : ∀ (A : Around) (outer : List Env) (s : Shared) (H : Hp) (args : Args) (us : List Value) (vs : List V) (Q : VK) (E : XK), Room k A → Env0 P w K mg base A outer s H → BindsTo s fd args (ps.zip us) → Vals vs us → sp vs H Q E →
    codeAny (model P w) A (.call (.ref f) args) (CR CX outer P w H s Q E) s
section
variable {X : Cx} {pins : List (Addr × Obj)} {σ : St} {H : Hp} {s s' : Shared}
theorem Inv.env0 (I : Inv X pins σ H s) : Env0 X.prog X.w X.K X.mg X.base X.A X.stack s H :=
  ⟨I.ok.frames, I.ok.mod, I.bs, Nat.le_trans I.ok.bsz I.sz, I.stack, I.stkFree, I.hok, I.bare⟩
theorem Inv.after {Q : VK} {u : Value} (I : Inv X pins σ H s) (h : CE X.stack X.prog X.w H s Q u s') : EP X pins σ Q u s' := by
  obtain ⟨v, H', os, bare, un, hok, r, q⟩ := h
  obtain ⟨hh, g, d, t, os'⟩ := s'
  obtain rfl : os' = s.os := os
  exact ⟨v, H', I.call (h' := hh) (g' := g) (d' := d) (t' := t) (ch := []) un hok bare (fun b z => absurd z (by simp)), r, q⟩
end

def tCall (sp : Sp) (dvs : List V) (E : XK) (t : TA) : TE := fun σ H Q => t σ H fun vs H1 => sp (vs ++ dvs) H1 Q E
def Binds (K : PySem.W.Frag) (fd : FuncData) (ps : List Str) (ds : List Value) : Prop :=
  ∀ (s : Shared) (us : List Value), K.In s.heap → (us ++ ds).length = ps.length → BindsTo s fd ⟨us, []⟩ (ps.zip (us ++ ds))
theorem Binds.all {K : PySem.W.Frag} {fd : FuncData} {ps : List Str} (h : ∀ us : List Value, us.length = ps.length → bindArgs fd ⟨us, []⟩ = pure (ps.zip us)) : Binds K fd ps [] := fun s us _ hl => by
  rw [List.append_nil] at hl ⊢
  exact .of_eq (h us hl)

def Passes (CX : CXT) (X : Cx) (E : XK) : Prop := ∀ (pins : List (Addr × Obj)) (σ : St) (H : Hp) (s : Shared) (e : Value) (s' : Shared), Inv X pins σ H s → CX X.stack H s E e s' → X.xe e s'

section
variable {X : Cx} {CX : CXT} {k : Nat} {f C : Addr} {fd : FuncData} {ps : List Str} {sp : Sp} {dvs : List V} {ds : List Value} {E : XK} {x m : Str} {p pos apos : Pos} {e o : Expr} {es : List Expr} {ta : TE} {t : TA}

theorem run_fn {pins : List (Addr × Obj)} {σ : St} {H : Hp} {s : Shared} {Q : VK} {us : List Value} {vs : List V} (F : FnOk X.prog X.w X.K X.mg X.base CX k f fd ps sp) (hr : Room k X.A) (hb : Binds X.K fd ps ds) (hd : Vals dvs ds) (hx : Passes CX X E)
    (I : Inv X pins σ H s) (r : Vals vs us) (h : sp (vs ++ dvs) H Q E) : wpAny (model X.prog X.w) X.A (call (.ref f) us) (EP X pins σ Q) X.xe s := by
  have r2 : Vals (vs ++ dvs) (us ++ ds) := r.append hd
  have hl : (us ++ ds).length = ps.length := by rw [← r2.length]; exact F.len _ _ _ _ h
  refine wpAny_call (codeAny_mono (F.run X.A X.stack s H ⟨us, []⟩ (us ++ ds) (vs ++ dvs) Q E hr I.env0 (hb s us I.kIn hl) r2 h) fun r s' hq => ?_)
  cases r with
  | error e => exact hx pins σ H s e s' I hq
  | ok fl =>
    cases fl with
    | ret u => exact I.after hq
    | next => exact False.elim hq
    | brk => exact False.elim hq
    | cont => exact False.elim hq

theorem pe_call (F : FnOk X.prog X.w X.K X.mg X.base CX k f fd ps sp) (hr : Room k X.A) (hg : Gl X x) (hm : X.mg x = some (.ref f)) (hk : PySem.W.keepIn X.K (.ref f) = true) (hb : Binds X.K fd ps ds) (hd : Vals dvs ds) (hx : Passes CX X E)
    (ha : PA X (e :: es) t) (hdb : (x == ("__debug__" : Str)) = false := by decide) (he : starEach (e :: es) X.env = (false, eval e X.env) :: starEach es X.env := by rfl) (hpl : (backTo pos (starEach es X.env)).any (·.1) = false := by rfl) :
    PE X (.Call (.Name x p) (e :: es) [] pos) (tCall sp dvs E t) := by
  intro pins s σ H Q I h
  refine wpAny_Call_Name_kw (ld_glob I hg hm ?_ hdb)
  refine PySem.W.callWith_K (h₀ := X.base) I.ok.mod.kin hk (thn (ha pos pins s σ H _ I h) fun us s1 ⟨vs, H1, I1, r, q⟩ => ⟨I1.kIn, ?_⟩) he hpl
  exact run_fn F hr hb hd hx I1 r q
end


structure FnScope (N P : List Str) (sc : Scope) : Prop where
  kind : sc.kind = .function
  co : sc.isCoroutine = false
  gen : sc.isGenerator = false
  nd : N.Nodup
  pre : N.take P.length = P
  par : ∀ x ∈ P, sc.names.lookup x = some .local ∨ sc.names.lookup x = some .cell
  nofree : ∀ y ∈ sc.names, y.2 ≠ .free

theorem bindL_out {kindOf : Str → Option NameKind} {x : Str} : ∀ {binds : List (Str × Value)} {m : Str → Option Value}, (∀ v, (x, v) ∉ binds) → bindL kindOf binds m x = m x
  | [], _, _ => rfl
  | (n, v) :: r, m, h => by
    unfold bindL
    rw [bindL_out fun w hw => h w (List.mem_cons_of_mem _ hw)]
    split
    · have : x ≠ n := by rintro rfl; exact h v List.mem_cons_self
      simp [this]
    · rfl
theorem bindC_out {kindOf : Str → Option NameKind} {x : Str} : ∀ {binds : List (Str × Value)} {m : Str → Option Value}, (∀ v, (x, v) ∉ binds) → bindC kindOf binds m x = m x
  | [], _, _ => rfl
  | (n, v) :: r, m, h => by
    unfold bindC
    rw [bindC_out fun w hw => h w (List.mem_cons_of_mem _ hw)]
    split
    · rfl
    · have : x ≠ n := by rintro rfl; exact h v List.mem_cons_self
      simp [this]
theorem bindL_get {kindOf : Str → Option NameKind} {x : Str} {v : Value} : ∀ {P : List Str} {vs : List Value} {i : Nat} {m : Str → Option Value}, P.Nodup → P[i]? = some x → vs[i]? = some v → kindOf x = some .local →
    bindL kindOf (P.zip vs) m x = some v
  | [], _, _, _, _, h, _, _ => by simp at h
  | _ :: _, [], _, _, _, _, h, _ => by simp at h
  | p :: P, w :: vs, 0, m, nd, h1, h2, hk => by
    simp at h1 h2; subst h1; subst h2
    show bindL kindOf ((p, w) :: P.zip vs) m p = _
    unfold bindL
    rw [bindL_out fun v hv => (List.nodup_cons.mp nd).1 (List.of_mem_zip hv).1, if_pos hk]
    simp
  | p :: P, w :: vs, i + 1, m, nd, h1, h2, hk => by
    show bindL kindOf ((p, w) :: P.zip vs) m x = _
    unfold bindL
    exact bindL_get (i := i) (List.nodup_cons.mp nd).2 (by simpa using h1) (by simpa using h2) hk
theorem bindC_get {kindOf : Str → Option NameKind} {x : Str} {v : Value} : ∀ {P : List Str} {vs : List Value} {i : Nat} {m : Str → Option Value}, P.Nodup → P[i]? = some x → vs[i]? = some v → kindOf x ≠ some .local →
    bindC kindOf (P.zip vs) m x = some v
  | [], _, _, _, _, h, _, _ => by simp at h
  | _ :: _, [], _, _, _, _, h, _ => by simp at h
  | p :: P, w :: vs, 0, m, nd, h1, h2, hk => by
    simp at h1 h2; subst h1; subst h2
    show bindC kindOf ((p, w) :: P.zip vs) m p = _
    unfold bindC
    rw [bindC_out fun v hv => (List.nodup_cons.mp nd).1 (List.of_mem_zip hv).1, if_neg hk]
    simp
  | p :: P, w :: vs, i + 1, m, nd, h1, h2, hk => by
    show bindC kindOf ((p, w) :: P.zip vs) m x = _
    unfold bindC
    exact bindC_get (i := i) (List.nodup_cons.mp nd).2 (by simpa using h1) (by simpa using h2) hk

def start (N : List Str) (vs : List V) : St := vs.map some ++ List.replicate (N.length - vs.length) none

def cxOf (CX : CXT) (P : Program) (w : World) (K : PySem.W.Frag) (mg : Str → Option Value) (base : Heap) (N : List Str) (qual : Str) (scope : Scope) (f : Addr) (cd : Value) (A : Around) (outer : List Env) (s : Shared) (H : Hp) (E : XK) : Cx where
  prog := P
  w := w
  K := K
  mg := mg
  base := base
  A := A.deeper (envOfC qual scope s.heap.objs.size f cd)
  N := N
  s₀ := s
  H₀ := H
  env := envOfC qual scope s.heap.objs.size f cd
  outer := outer
  stack := envOfC qual scope s.heap.objs.size f cd :: outer
  ex := []
  calm := true
  fn := fun _ => true
  pn := []
  xe := fun e s' => wpAny (model P w) (A.deeper (envOfC qual scope s.heap.objs.size f cd)) (leaving (envOfC qual scope s.heap.objs.size f cd) e) (fun _ s'' => CX outer H s E e s'') (fun e' s'' => CX outer H s E e' s'') s'

theorem cell_has {sc : Scope} {n : Nat} {x : Str} (h : sc.names.lookup x = some .cell) : ∃ c, (cellsFrom n sc.names []).lookup x = some c := by
  have q := PySem.W.cellsFrom_some sc.names n [] (.inl h)
  exact Option.isSome_iff_exists.mp q

theorem inv_start {CX : CXT} {P : Program} {w : World} {K : PySem.W.Frag} {mg : Str → Option Value} {base : Heap} {N ps : List Str} {qual : Str} {scope : Scope} {f : Addr} {cd : Value} {A : Around} {outer : List Env} {s s1 : Shared} {H : Hp} {E : XK} {us : List Value} {vs : List V}
    (S : FnScope N ps scope) (hd : A.handled = none) (e0 : Env0 P w K mg base A outer s H) (hl : vs.length = ps.length) (r : Vals vs us)
    (x : InCallC s s.heap.objs.size (bindL (envOfC qual scope s.heap.objs.size f cd).kindOf (ps.zip us) fun _ => none) (cellsFrom (s.heap.objs.size + 1) scope.names []) (bindC (envOfC qual scope s.heap.objs.size f cd).kindOf (ps.zip us) fun _ => none) s1) :
    Inv (cxOf CX P w K mg base N qual scope f cd A outer s H E) [] (start N vs) H s1 := by
  have hpl : ps.length ≤ N.length := by have := congrArg List.length S.pre; rw [List.length_take] at this; omega
  obtain ⟨h1, tk, rfl, hk⟩ := x.done
  have noA : ∀ b : Addr, b ∉ (cxOf CX P w K mg base N qual scope f cd A outer s H E).ex := fun b z => absurd (show b ∈ ([] : List Addr) from z) (by simp)
  refine ⟨⟨e0.mod, S.kind, rfl, rfl, Nat.le_refl _, fun y z c h1 h2 => ?_, fun y hy => ?_, fun y c _ h => ?_, fun _ => hd, Around.frames_deeper e0.frames, .inr ⟨rfl, rfl⟩, fun b z => absurd z (noA b), e0.bs, e0.bsz, fun b _ _ => noA b, fun b z => absurd z (noA b), e0.funs, e0.frf⟩,
    rfl, e0.bare, Un.kept hk, ⟨_, x.toInCall.ns, fun i y v h1 h2 h3 => ?_⟩, fun y c h => ⟨_, x.cell y c h⟩, e0.hok.fresh (Nat.le_refl _), fun y c h => ?_, fun p hp => absurd (show p ∈ ([] : List (Addr × Obj)) from hp) (by simp), e0.hok.kept hk, ?_⟩
  · exact name_of_addr x.apart (PySem.mem_of_lookup h1) (PySem.mem_of_lookup h2)
  · have hy : scope.names.lookup y = some .cell ∨ scope.names.lookup y = some .free := hy
    rcases hy with hy | hy
    · exact cell_has hy
    · exact absurd rfl (S.nofree _ (PySem.mem_of_lookup hy))
  · exact Nat.le_of_lt (x.above y c (PySem.mem_of_lookup h))
  · have hi : i < vs.length := by
      unfold start at h2
      by_cases hi : i < vs.length
      · exact hi
      · rw [List.getElem?_append_right (by simpa using hi)] at h2
        rw [List.getElem?_replicate] at h2
        split at h2 <;> cases h2
    have ha : vs[i]? = some v := by
      unfold start at h2
      rw [List.getElem?_append_left (by simpa using hi), List.getElem?_map] at h2
      cases e : vs[i]? with
      | none => rw [e] at h2; cases h2
      | some a => rw [e] at h2; cases h2; rfl
    obtain ⟨u, hu, rv⟩ := r.get ha
    have hp : ps[i]? = some y := by
      rw [← S.pre, List.getElem?_take_of_lt (by omega)]; exact h1
    have ndP : ps.Nodup := by rw [← S.pre]; exact S.nd.sublist (List.take_sublist _ _)
    refine ⟨u, rv, ?_⟩
    rcases S.par y (List.mem_of_getElem? hp) with k | k
    · exact .inl ⟨k, bindL_get ndP hp hu k⟩
    · obtain ⟨c, e⟩ := cell_has (n := s.heap.objs.size + 1) k
      refine .inr ⟨.inl k, c, e, ?_⟩
      have q := x.cell y c e
      rw [bindC_get ndP hp hu (by show scope.names.lookup y ≠ _; rw [k]; decide)] at q
      exact q
  · exact e0.hok.fresh (Nat.le_of_lt (x.above y c (PySem.mem_of_lookup h)))
  · unfold start
    show _ = N.length
    rw [List.length_append, List.length_map, List.length_replicate]
    omega

theorem fn_of {CX : CXT} {P : Program} {w : World} {K : PySem.W.Frag} {mg : Str → Option Value} {base : Heap} {k : Nat} {f : Addr} {name qual : Str} {params : Arguments} {body : List Stmt} {scope : Scope} {dV kV doc pm cdv ct oc : Value} {an od : Option Addr}
    {osl : Array (Option Value)} {N ps : List Str} {sp : Sp} (lk : K.lookup f = some ⟨oc, od, .func (PySem.W.fnOf name qual params body scope dV kV doc pm an cdv ct), osl⟩) (hcd : PySem.W.codeIn K cdv qual = true) (S : FnScope N ps scope)
    (len : ∀ vs H Q E, sp vs H Q E → vs.length = ps.length)
    (hbody : ∀ (A : Around) (outer : List Env) (s : Shared) (H : Hp) (vs : List V) (Q : VK) (E : XK), Room k (A.deeper (envOfC qual scope s.heap.objs.size f cdv)) → sp vs H Q E →
      ∃ t, PSs (cxOf CX P w K mg base N qual scope f cdv A outer s H E) body t ∧ t { nx := fun _ H' => Q .non H', rt := Q } (start N vs) H) :
    FnOk P w K mg base CX (k + 1) f (PySem.W.fnOf name qual params body scope dV kV doc pm an cdv ct) ps sp := by
  refine ⟨len, fun A outer s H args us vs Q E hr e0 hb r hsp => ?_⟩
  have hl := len _ _ _ _ hsp
  have KX : K.In s.heap := e0.mod.kin.keeps fun b o e => (e0.bs b o e).1
  have lim : s.heap.NoLimit := e0.mod.nolimit.keeps fun b o e => (e0.bs b o e).1
  have hkind : ∀ y ∈ ps.zip us, scope.names.lookup y.1 = some .local ∨ (scope.names.lookup y.1 = some .cell ∧ ((cellsFrom (s.heap.objs.size + 1) scope.names []).lookup y.1).isSome = true) := fun ⟨n, v⟩ hy => by
    rcases S.par n (List.of_mem_zip hy).1 with q | q
    · exact .inl q
    · exact .inr ⟨q, PySem.W.cellsFrom_some _ _ _ (.inl q)⟩
  refine codeAny_call_function hr.depth (KX _ _ lk) rfl S.co S.gen rfl (PySem.W.codeRec_of KX hcd) (hb _ _ _ _ ?_)
  refine wpAny_newFunctionEnv_cells S.kind hkind fun env he s1 x => ?_
  subst he
  refine ⟨lim.keeps x.toInCall.keep, codeAny_func ?_⟩
  obtain ⟨t, ht, hq⟩ := hbody A outer s H vs Q E (hr.deeper _) hsp
  have I : Inv (cxOf CX P w K mg base N qual scope f cdv A outer s H E) [] (start N vs) H s1 := inv_start S hr.hd e0 hl r x
  refine wpAny_mono (ht [] s1 (start N vs) H _ I hq) (fun fl s' hs => ?_) fun e s' hs => hs
  have fin : ∀ {σ' : St} {H' : Hp} {v : V} {u : Value}, Inv (cxOf CX P w K mg base N qual scope f cdv A outer s H E) [] σ' H' s' → RelV v u → Q v H' → CE outer P w H s Q u s' :=
    fun {σ' H' v u} J rv q => ⟨v, H', J.os, J.bare, J.base, J.hok, rv, q⟩
  cases fl with
  | ret u =>
    obtain ⟨v, σ', H', J, rv, q⟩ := hs
    exact fin J rv q
  | next =>
    obtain ⟨σ', H', J, q⟩ := hs
    exact fin (v := V.non) (u := Value.none) J rfl q
  | brk =>
    obtain ⟨_, _, _, q⟩ := hs
    exact False.elim q
  | cont =>
    obtain ⟨_, _, _, q⟩ := hs
    exact False.elim q
end L2

namespace L2
open PySem PySem.Spec PyProof.Rows
section
variable {X : Cx} {x : Str} {p pos : Pos} {e : Expr} {es : List Expr} {t : TA} {id T : String} {r : List V → Hp → VK → Prop}

def tCB (r : List V → Hp → VK → Prop) (t : TA) : TE := fun σ H Q => t σ H fun vs H1 => r vs H1 Q
theorem pe_callB (hc : CallR X (.builtin id) r) (hg : Gl X x) (hm : X.mg x = none) (hv : bootBuiltins x = some (.builtin id)) (ha : PA X (e :: es) t) (hn : x ≠ "__name__" := by decide) (hdb : (x == ("__debug__" : Str)) = false := by decide)
    (he : starEach (e :: es) X.env = (false, eval e X.env) :: starEach es X.env := by rfl) (hpl : (backTo pos (starEach es X.env)).any (·.1) = false := by rfl) : PE X (.Call (.Name x p) (e :: es) [] pos) (tCB r t) := by
  intro pins s σ H Q I h
  refine wpAny_Call_Name_kw (ld_blt I hg hm hv ?_ hn hdb)
  exact PyProof.Rows.callWith_builtin1 (thn (ha pos pins s σ H _ I h) fun us s1 ⟨vs, H1, I1, r1, q1⟩ => hc pins s1 σ H1 vs us Q I1 r1 q1) he hpl
theorem pe_callTy (hc : CallR X (.type T) r) (hg : Gl X x) (hm : X.mg x = none) (hv : bootBuiltins x = some (.type T)) (ha : PA X (e :: es) t) (hn : x ≠ "__name__" := by decide) (hdb : (x == ("__debug__" : Str)) = false := by decide)
    (he : starEach (e :: es) X.env = (false, eval e X.env) :: starEach es X.env := by rfl) (hpl : (backTo pos (starEach es X.env)).any (·.1) = false := by rfl) : PE X (.Call (.Name x p) (e :: es) [] pos) (tCB r t) := by
  intro pins s σ H Q I h
  refine wpAny_Call_Name_kw (ld_blt I hg hm hv ?_ hn hdb)
  exact PyProof.Rows.callWith_type1 (thn (ha pos pins s σ H _ I h) fun us s1 ⟨vs, H1, I1, r1, q1⟩ => hc pins s1 σ H1 vs us Q I1 r1 q1) he hpl
end
end L2

namespace L2
open PySem PySem.Spec PyProof.Rows

section
variable {κ : Type} [DecidableEq κ]
def valV (kvs : List (κ × V)) (k : κ) : Option V := (kvs.find? fun kv => decide (kv.1 = k)).map (·.2)
def putK (kvs : List (κ × V)) (k : κ) (v : V) : List (κ × V) :=
  if (kvs.any fun kv => decide (kv.1 = k)) = true then kvs.map (fun kv => if kv.1 = k then (kv.1, v) else kv) else kvs ++ [(k, v)]
theorem valV_pos {p : κ × V} {r : List (κ × V)} {k : κ} (e : p.1 = k) : valV (p :: r) k = some p.2 := by simp [valV, List.find?_cons, e]
theorem valV_neg {p : κ × V} {r : List (κ × V)} {k : κ} (e : ¬ p.1 = k) : valV (p :: r) k = valV r k := by simp [valV, List.find?_cons, e]
theorem valV_any (k : κ) : ∀ kvs : List (κ × V), (kvs.any fun kv => decide (kv.1 = k)) = (valV kvs k).isSome
  | [] => rfl
  | p :: r => by
    rw [List.any_cons]
    by_cases e : p.1 = k
    · simp only [valV_pos e, decide_eq_true e, Bool.true_or, Option.isSome_some]
    · rw [valV_neg e, decide_eq_false e, Bool.false_or]; exact valV_any k r
theorem valV_map (k j : κ) (y : V) : ∀ kvs : List (κ × V), valV (kvs.map fun kv => if kv.1 = k then (kv.1, y) else kv) j = (valV kvs j).map fun x => if j = k then y else x
  | [] => rfl
  | p :: r => by
    have ih := valV_map k j y r
    rw [List.map_cons]
    by_cases h : p.1 = k
    · rw [if_pos h]
      by_cases e : p.1 = j
      · rw [valV_pos (p := (p.1, y)) e, valV_pos e, Option.map_some, if_pos (e.symm.trans h)]
      · rw [valV_neg (p := (p.1, y)) e, valV_neg e, ih]
    · rw [if_neg h]
      by_cases e : p.1 = j
      · rw [valV_pos (p := p) e, valV_pos e, Option.map_some, if_neg (fun z => h (e.trans z))]
      · rw [valV_neg (p := p) e, valV_neg e, ih]
theorem valV_snoc (k j : κ) (y : V) : ∀ kvs : List (κ × V), valV kvs k = none → valV (kvs ++ [(k, y)]) j = if j = k then some y else valV kvs j
  | [], _ => by
    by_cases e : k = j
    · rw [if_pos e.symm]; exact valV_pos (p := (k, y)) e
    · rw [if_neg (fun z => e z.symm)]; exact valV_neg (p := (k, y)) e
  | p :: r, hn => by
    rw [List.cons_append]
    have hk : ¬ p.1 = k := fun z => by rw [valV_pos z] at hn; cases hn
    rw [valV_neg hk] at hn
    have ih := valV_snoc k j y r hn
    by_cases e : p.1 = j
    · rw [valV_pos e, valV_pos e, if_neg (fun z => hk (e.trans z))]
    · rw [valV_neg e, valV_neg e, ih]
theorem valV_put (kvs : List (κ × V)) (k j : κ) (y : V) : valV (putK kvs k y) j = if j = k then some y else valV kvs j := by
  unfold putK
  by_cases a : (kvs.any fun kv => decide (kv.1 = k)) = true
  · rw [if_pos a, valV_map]
    rw [valV_any] at a
    by_cases e : j = k
    · obtain ⟨x, hx⟩ := Option.isSome_iff_exists.mp a
      rw [if_pos e, e, hx, Option.map_some, if_pos rfl]
    · rw [if_neg e]
      cases valV kvs j with
      | none => rfl
      | some x => rw [Option.map_some, if_neg e]
  · rw [if_neg a]
    refine valV_snoc k j y kvs ?_
    rw [valV_any] at a
    cases q : valV kvs k with
    | none => rfl
    | some x => rw [q] at a; exact (a rfl).elim
theorem length_putK (kvs : List (κ × V)) (k : κ) (v : V) : (putK kvs k v).length ≤ kvs.length + 1 := by
  unfold putK
  split
  · rw [List.length_map]; omega
  · rw [List.length_append, List.length_cons, List.length_nil]; omega
theorem putK_new {kvs : List (κ × V)} {k : κ} (v : V) (h : valV kvs k = none) : putK kvs k v = kvs ++ [(k, v)] := by
  unfold putK
  rw [valV_any, h]
  exact if_neg (by decide)

theorem RelO.isSome_eq {o : Option V} {u : Option Value} (r : RelO o u) : o.isSome = u.isSome := by
  cases o with
  | none => cases u with
    | none => rfl
    | some _ => exact (show False from r).elim
  | some _ => cases u with
    | none => exact (show False from r).elim
    | some _ => rfl
theorem KV.val {kvs : List (κ × V)} {vs : List (κ × Value)} (r : KV kvs vs) (k : κ) : RelO (valV kvs k) (valueAt vs k) := by
  unfold KV at r
  induction r with
  | nil => exact True.intro
  | @cons p q ps qs h t ih =>
    obtain ⟨h1, h2⟩ := h
    by_cases e : p.1 = k
    · have e' : q.1 = k := h1.symm.trans e
      have b : valueAt (q :: qs) k = some q.2 := by simp [valueAt, List.find?_cons, e']
      rw [valV_pos e, b]; exact h2
    · have e' : ¬ q.1 = k := fun z => e (h1.trans z)
      have b : valueAt (q :: qs) k = valueAt qs k := by simp [valueAt, List.find?_cons, e']
      rw [valV_neg e, b]; exact ih
theorem KV.any {kvs : List (κ × V)} {vs : List (κ × Value)} (r : KV kvs vs) (k : κ) : (kvs.any fun kv => decide (kv.1 = k)) = vs.any fun kv => decide (kv.1 = k) := by
  unfold KV at r
  induction r with
  | nil => rfl
  | cons h t ih => rw [List.any_cons, List.any_cons, ih, h.1]
theorem KV.repl {kvs : List (κ × V)} {vs : List (κ × Value)} (r : KV kvs vs) (k : κ) {y : V} {u : Value} (ry : RelV y u) :
    KV (kvs.map fun kv => if kv.1 = k then (kv.1, y) else kv) (vs.map fun kv => if kv.1 = k then (kv.1, u) else kv) := by
  unfold KV at r ⊢
  induction r with
  | nil => exact .nil
  | @cons p q ps qs h t ih =>
    rw [List.map_cons, List.map_cons]
    refine .cons ?_ ih
    obtain ⟨h1, h2⟩ := h
    by_cases e : p.1 = k
    · rw [if_pos e, if_pos (h1.symm.trans e)]; exact ⟨h1, ry⟩
    · rw [if_neg e, if_neg (fun z => e (h1.trans z))]; exact ⟨h1, h2⟩
theorem KV.put {kvs : List (κ × V)} {vs : List (κ × Value)} (r : KV kvs vs) (k : κ) {y : V} {u : Value} (ry : RelV y u) : KV (putK kvs k y) (stored vs k u) := by
  unfold putK stored
  rw [r.any k]
  by_cases e : (vs.any fun kv => decide (kv.1 = k)) = true
  · rw [if_pos e, if_pos e]; exact r.repl k ry
  · rw [if_neg e, if_neg e]; exact Paired.snoc r ⟨rfl, ry⟩
theorem KV.length {kvs : List (κ × V)} {vs : List (κ × Value)} (r : KV kvs vs) : kvs.length = vs.length := Paired.length r
end


theorem kV_is {P : Program} {w : World} {k : Key} {u : Value} (r : RelV (kV k) u) : (mixKind P w).is k u = true := by
  cases k with
  | inl i => obtain ⟨t, e⟩ := (show ∃ t, u = Value.int i t from r); subst e; exact mixKind_int P w i t
  | inr x => obtain ⟨t, e⟩ := (show ∃ t, u = Value.str x t from r); subst e; exact mixKind_str P w x t
theorem items_are {P : Program} {w : World} : ∀ {ks : List Key} {us : List Value}, Vals (ks.map kV) us → ItemsAre (mixKind P w) ks us
  | [], _, r => by rw [List.map_nil] at r; cases r; exact .nil
  | k :: ks, _, r => by
    rw [List.map_cons] at r
    cases r with
    | cons h t => exact .cons (kV_is h) (items_are t)

abbrev KT (H : Hp) : List (List Key × V) → List (List Key × Addr × Value) → Prop := Paired fun p q => p.1 = q.1 ∧ H q.2.1 = some (.tup (p.1.map kV)) ∧ RelV p.2 q.2.2
theorem KT.val {H : Hp} {kvs : List (List Key × V)} {xs : List (List Key × Addr × Value)} (r : KT H kvs xs) (k : List Key) : RelO (valV kvs k) ((atKey xs k).map (·.2)) := by
  induction r with
  | nil => exact True.intro
  | @cons p q ps qs h t ih =>
    obtain ⟨h1, _, h2⟩ := h
    by_cases e : p.1 = k
    · have e' : q.1 = k := h1.symm.trans e
      have b : atKey (q :: qs) k = some q.2 := by simp [atKey, List.find?_cons, e']
      rw [valV_pos e, b]; exact h2
    · have e' : ¬ q.1 = k := fun z => e (h1.trans z)
      have b : atKey (q :: qs) k = atKey qs k := by simp [atKey, List.find?_cons, e']
      rw [valV_neg e, b]; exact ih
theorem KT.repl {H : Hp} {kvs : List (List Key × V)} {xs : List (List Key × Addr × Value)} (r : KT H kvs xs) (k : List Key) {y : V} {u : Value} (ry : RelV y u) :
    KT H (kvs.map fun kv => if kv.1 = k then (kv.1, y) else kv) (xs.map (putAt k u)) := by
  induction r with
  | nil => exact .nil
  | @cons p q ps qs h t ih =>
    rw [List.map_cons, List.map_cons]
    refine .cons ?_ ih
    obtain ⟨h1, h2, h3⟩ := h
    unfold putAt
    by_cases e : p.1 = k
    · rw [if_pos e, if_pos (h1.symm.trans e)]; exact ⟨h1, h2, ry⟩
    · rw [if_neg e, if_neg (fun z => e (h1.trans z))]; exact ⟨h1, h2, h3⟩
theorem KT.put {H : Hp} {kvs : List (List Key × V)} {xs : List (List Key × Addr × Value)} (r : KT H kvs xs) (k : List Key) {b : Addr} {y : V} {u : Value} (hb : H b = some (.tup (k.map kV))) (ry : RelV y u) :
    KT H (putK kvs k y) (storedH xs k b u) := by
  have e : (kvs.any fun kv => decide (kv.1 = k)) = (atKey xs k).isSome := by
    rw [valV_any, (r.val k).isSome_eq, Option.isSome_map]
  unfold putK storedH
  rw [e]
  by_cases q : (atKey xs k).isSome = true
  · rw [if_pos q, if_pos q]; exact r.repl k ry
  · rw [if_neg q, if_neg q]; exact Paired.snoc r ⟨rfl, hb, ry⟩
theorem KT.keeps {H H' : Hp} {kvs : List (List Key × V)} {xs : List (List Key × Addr × Value)} (r : KT H kvs xs) (ht : ∀ b ys, H b = some (.tup ys) → H' b = some (.tup ys)) : KT H' kvs xs :=
  Paired.mapP r fun _ _ z => ⟨z.1, ht _ _ z.2.1, z.2.2⟩

section
variable {P : Program} {w : World} {H : Hp} {h : Heap} {a : Addr}
theorem rd_of {u : HO} (ok : HOk P w H h) (e : Rd H a u) : ObjOk P w H h a u := e.ok ok
theorem dk_rd {kvs : List (Key × V)} (ok : HOk P w H h) (e : Rd H a (.dK kvs)) : kvs.length ≤ sizeLine ∧ (a == sysModules) = false ∧ ∃ vs, KV kvs vs ∧ h.DictOf (mixKind P w) a vs :=
  show ObjOk P w H h a (.dK kvs) from rd_of ok e
theorem dk_of {kvs : List (Key × V)} (ok : HOk P w H h) (e : H a = some (.dK kvs)) : kvs.length ≤ sizeLine ∧ (a == sysModules) = false ∧ ∃ vs, KV kvs vs ∧ h.DictOf (mixKind P w) a vs := dk_rd ok (.inl e)
theorem key_of {ks : List Key} (ok : HOk P w H h) (e : H a = some (.tup (ks.map kV))) : (tupleKind (mixKind P w)).is h ks a := by
  obtain ⟨_, its, r, o, h1, h2, n, h3⟩ := (show ObjOk P w H h a (.tup (ks.map kV)) from ok a _ e)
  exact ⟨o, its.toArray, n, h1, h2, h3, by simpa using items_are r⟩
theorem dt_rd {kvs : List (List Key × V)} (ok : HOk P w H h) (e : Rd H a (.dT kvs)) : kvs.length ≤ sizeLine ∧ (a == sysModules) = false ∧
    ∃ xs, KT H kvs xs ∧ h.DictOfH (tupleKind (mixKind P w)) a xs := by
  obtain ⟨z, y, xs, r, o, es, ep, h1, h2, h3, h4, h5⟩ := (show ObjOk P w H h a (.dT kvs) from rd_of ok e)
  refine ⟨z, y, xs, r, o, es, ep, h1, h2, h3, h4, fun x hx => ?_, h5⟩
  have all : ∀ {l : List (List Key × V)} {m : List (List Key × Addr × Value)}, KT H l m → ∀ x ∈ m, (tupleKind (mixKind P w)).is h x.1 x.2.1 := by
    intro l m q
    induction q with
    | nil => intro x hx; exact nomatch hx
    | @cons p q ps qs hq t ih =>
      intro x hx
      rcases List.mem_cons.mp hx with e | hx
      · subst e
        exact key_of ok (by rw [← hq.1]; exact hq.2.1)
      · exact ih x hx
  exact all r x hx
theorem dt_of {kvs : List (List Key × V)} (ok : HOk P w H h) (e : H a = some (.dT kvs)) : kvs.length ≤ sizeLine ∧ (a == sysModules) = false ∧
    ∃ xs, KT H kvs xs ∧ h.DictOfH (tupleKind (mixKind P w)) a xs := dt_rd ok (.inl e)
end

def DGet (H : Hp) (a : Addr) (y : V) (r : Option V) : Prop :=
  (∃ kvs k, Rd H a (.dK kvs) ∧ y = kV k ∧ r = valV kvs k) ∨ ∃ kvs k b, Rd H a (.dT kvs) ∧ y = .ref b ∧ H b = some (.tup (k.map kV)) ∧ r = valV kvs k
def DPut (H : Hp) (a : Addr) (y v : V) (H' : Hp) : Prop :=
  (∃ kvs k, H a = some (.dK kvs) ∧ y = kV k ∧ kvs.length < sizeLine ∧ H' = upd H a (.dK (putK kvs k v))) ∨
  ∃ kvs k b, H a = some (.dT kvs) ∧ y = .ref b ∧ H b = some (.tup (k.map kV)) ∧ kvs.length < sizeLine ∧ H' = upd H a (.dT (putK kvs k v))
theorem DGet.t {H : Hp} {a b : Addr} {kvs : List (List Key × V)} {k : List Key} (e : H a = some (.dT kvs)) (eb : H b = some (.tup (k.map kV))) : DGet H a (.ref b) (valV kvs k) := .inr ⟨kvs, k, b, .inl e, rfl, eb, rfl⟩
theorem DPut.t {H : Hp} {a b : Addr} {kvs : List (List Key × V)} {k : List Key} {v : V} (e : H a = some (.dT kvs)) (eb : H b = some (.tup (k.map kV))) (hl : kvs.length < sizeLine) :
    DPut H a (.ref b) v (upd H a (.dT (putK kvs k v))) := .inr ⟨kvs, k, b, e, rfl, eb, hl, rfl⟩


section
variable {X : Cx} {pins : List (Addr × Obj)} {σ : St} {H : Hp} {s : Shared} {a : Addr} {y v : V} {u r : Value} {o : Option V} {A : Around} {E : Value → Shared → Prop}

theorem Inv.big (I : Inv X pins σ H s) : sysModules < s.heap.objs.size := by
  have h : mainGlobals < s.heap.objs.size := (I.mod.glob.keeps I.bk).lt
  exact Nat.lt_trans (by decide) h

theorem d_getItem {Q : Value → Shared → Prop} (hu : A.units + 1 < cLine) (I : Inv X pins σ H s) (g : DGet H a y (some v)) (ry : RelV y u) (h : ∀ w' s', Inv X pins σ H s' → RelV v w' → Q w' s') :
    wpAny (model X.prog X.w) A (getItem (.ref a) u) Q E s := by
  rcases g with ⟨kvs, k, e, ey, l⟩ | ⟨kvs, k, b, e, ey, eb, l⟩
  · subst ey
    obtain ⟨z, hd, vs, rel, dd⟩ := dk_rd I.hok e
    obtain ⟨w', hw, rw'⟩ := RelO.some_of (v := v) (o := valueAt vs k) (by rw [l]; exact rel.val k)
    exact wpAny_getItem_of (kV_is ry) dd.mapOf hw (h w' _ (I.tok _) rw')
  · subst ey
    cases (show u = Value.ref b from ry)
    obtain ⟨z, hd, xs, rel, dd⟩ := dt_rd I.hok e
    obtain ⟨w', hw, rw'⟩ := RelO.some_of (v := v) (o := (atKey xs k).map (·.2)) (by rw [l]; exact rel.val k)
    obtain ⟨p, hp, hp2⟩ := Option.map_eq_some_iff.mp hw
    refine wpAny_getItem_heap (tupleKind_room_in1 hu) (key_of I.hok eb) dd hp ?_
    rw [hp2]
    exact h w' _ (I.tok _) rw'
theorem d_notIn {Q : Value → Shared → Prop} (hu : A.units + 1 < cLine) (I : Inv X pins σ H s) (g : DGet H a y o) (ry : RelV y u) (h : ∀ s', Inv X pins σ H s' → Q (.bool (!o.isSome)) s') :
    wpAny (model X.prog X.w) A (compareOp .NotIn u (.ref a)) Q E s := by
  rcases g with ⟨kvs, k, e, ey, l⟩ | ⟨kvs, k, b, e, ey, eb, l⟩
  · subst ey
    obtain ⟨z, hd, vs, rel, dd⟩ := dk_rd I.hok e
    refine wpAny_notIn_of (kV_is ry) hd dd.mapOf ?_
    rw [← (rel.val k).isSome_eq, ← l]
    exact h _ (I.tok _)
  · subst ey
    cases (show u = Value.ref b from ry)
    obtain ⟨z, hd, xs, rel, dd⟩ := dt_rd I.hok e
    refine wpAny_notIn_heap (tupleKind_room_in1 hu) (key_of I.hok eb) hd dd ?_
    have q := (rel.val k).isSome_eq
    rw [Option.isSome_map] at q
    rw [← q, ← l]
    exact h _ (I.tok _)
theorem d_write {h' : Heap} {t' : Nat} {ob : HO} (I : Inv X pins σ H s) (mu : Mut (H a)) (hs : Heap.SameBut a s.heap h') (he : ∃ q, h'.get? a = some q) (new : ObjOk X.prog X.w (upd H a ob) h' a ob) :
    Inv X pins σ (upd H a ob) { s with heap := h', toks := t' } :=
  I.write (x := a) (e := a) mu (.inl rfl) (fun b q hb z => (hs.2 b hb).trans z) he new
theorem dk_new {P : Program} {w : World} {H' : Hp} {h' : Heap} {kvs : List (Key × V)} {vs : List (Key × Value)} (z : kvs.length ≤ sizeLine) (hd : (a == sysModules) = false) (rel : KV kvs vs) (dd : h'.DictOf (mixKind P w) a vs) :
    ObjOk P w H' h' a (.dK kvs) := ⟨z, hd, vs, rel, dd⟩
theorem d_setItem {H' : Hp} {Q : Unit → Shared → Prop} (hu : A.units + 1 < cLine) (I : Inv X pins σ H s) (g : DPut H a y v H') (ry : RelV y u) (rv : RelV v r) (h : ∀ s', Inv X pins σ H' s' → Q () s') :
    wpAny (model X.prog X.w) A (setItem (.ref a) u r) Q E s := by
  rcases g with ⟨kvs, k, e, ey, l, eH⟩ | ⟨kvs, k, b, e, ey, eb, l, eH⟩
  · subst ey eH
    obtain ⟨z, hd, vs, rel, dd⟩ := dk_of I.hok e
    have hz : vs.length ≤ sizeLine := by rw [← rel.length]; exact z
    have hl : (putK kvs k v).length ≤ sizeLine := by have := length_putK kvs k v; omega
    refine wpAny_setItem_pairs (hsz := hz) (kV_is ry) dd fun h' dd' hs => h _ ?_
    have he : ∃ q, h'.get? a = some q := let ⟨q, _, _, hq, _⟩ := dd'; ⟨q, hq⟩
    exact d_write I (by rw [e]; exact True.intro) hs he (dk_new hl hd (rel.put k rv) dd')
  · subst ey eH
    cases (show u = Value.ref b from ry)
    obtain ⟨z, hd, xs, rel, dd⟩ := dt_of I.hok e
    have hz : xs.length ≤ sizeLine := by rw [← Paired.length rel]; exact z
    have hl : (putK kvs k v).length ≤ sizeLine := by have := length_putK kvs k v; omega
    refine wpAny_setItem_heap (hsz := hz) (tupleKind_room_in1 hu) (key_of I.hok eb) dd fun h' dd' hs => h _ ?_
    obtain ⟨q, es, ep, hq, h2, h3, h4, _, h5⟩ := dd'
    refine d_write I (by rw [e]; exact True.intro) hs ⟨q, hq⟩ ⟨hl, hd, _, (rel.put k eb rv).keeps fun c ys ec => ?_, q, es, ep, hq, h2, h3, h4, h5⟩
    rw [upd_ne (ne_of ec e (fun z => nomatch z))]
    exact ec
end



def NoSl (i : Expr) : Prop := ∀ ov iv, subscripted i false ov iv = operate [ov, iv] (getItem ov iv)
theorem subD_of {prog : Program} {w : World} {A : Around} {E : Value → Shared → Prop} {s : Shared} {env : Env} {value slice : Expr} {pos : Pos} {T id : String} {Q : Value → Shared → Prop}
    (hl : typeLookup (.type T) "__getitem__" = pure (some (.builtin id))) (hs : NoSl slice)
    (h : wpAny (model prog w) A (eval value env) (fun o s₁ => wpAny (model prog w) A (eval slice env) (fun i s₂ => s₂.TypeIs o T ∧ wpAny (model prog w) A (getItem o i) Q E s₂) E s₁) E s) :
    wpAny (model prog w) A (eval (.Subscript value slice pos) env) Q E s := by
  refine Subscript_ (wpAny_mono h (fun o s₁ h₁ => wpAny_mono h₁ (fun i s₂ h₂ => ?_) fun _ _ x => x) fun _ _ x => x)
  obtain ⟨hT, h₂⟩ := h₂
  unfold subscriptTail
  refine wpAny_bind ?_
  rw [getitemInPython_of_ne hT.not_modules]
  refine wpAny_bind (wpAny_specialOf hT hl ?_)
  have fin : wpAny (model prog w) A (subscripted slice false o i) (fun r s₃ => wpAny (model prog w) A (letTemporaryGo value o r >>= fun _ => pure r) Q E s₃) E s₂ := by
    rw [hs o i]
    exact wpAny_operating (wpAny_mono h₂ (fun r s₃ h₃ => wpAny_bind (wpAny_letTemporaryGo (wpAny_pure h₃))) fun _ _ x => x)
  first
    | exact wpAny_pure (wpAny_bind fin)
    | exact wpAny_bind (wpAny_pure (wpAny_bind fin))
    | exact wpAny_bind fin

theorem dict_typeIs {X : Cx} {pins : List (Addr × Obj)} {σ : St} {H : Hp} {s : Shared} {a : Addr} {y : V} {o : Option V} (I : Inv X pins σ H s) (g : DGet H a y o) : s.TypeIs (.ref a) "dict" := by
  rcases g with ⟨kvs, k, e, _, _⟩ | ⟨kvs, k, b, e, _, _, _⟩
  · obtain ⟨_, _, vs, _, dd⟩ := dk_rd I.hok e
    exact dd.typeIs
  · obtain ⟨_, _, xs, _, dd⟩ := dt_rd I.hok e
    exact dd.typeIs
def tDGet (td ty : TE) : TE := fun σ H Q => td σ H fun x H1 => ty σ H1 fun y H2 => ∃ a v, x = .ref a ∧ DGet H2 a y (some v) ∧ Q v H2
def tDNotIn (ty td : TE) : TE := fun σ H Q => ty σ H fun y H1 => td σ H1 fun x H2 => ∃ a o, x = .ref a ∧ DGet H2 a y o ∧ Q (.bl (!o.isSome)) H2
def sDPut (td ty tv : TE) : TS := fun D σ H => tv σ H fun v H1 => td σ H1 fun x H2 => ty σ H2 fun y H3 => ∃ a H4, x = .ref a ∧ DPut H3 a y v H4 ∧ D.nx σ H4
section
variable {X : Cx} {o i e value : Expr} {pos pos' tpos : Pos} {td ty tv : TE}
theorem pe_dget (hu : X.A.units + 1 < cLine) (ho : PE X o td) (hi : PE X i ty) (hs : NoSl i) : PE X (.Subscript o i pos) (tDGet td ty) := by
  intro pins s σ H Q I h
  refine subD_of PySem.F.slot_dict_getitem.lookup hs (thn (ho pins s σ H _ I h) fun u s1 ⟨x, H1, I1, rx, q1⟩ => thn (hi pins s1 σ H1 _ I1 q1) fun iv s2 ⟨y, H2, I2, ry, a, v, ex, g, q2⟩ => ?_)
  subst ex
  obtain rfl : u = Value.ref a := rx
  exact ⟨dict_typeIs I2 g, d_getItem hu I2 g ry fun w' s3 I3 rw' => ⟨v, H2, I3, rw', q2⟩⟩
theorem pc_dnotin (hu : X.A.units + 1 < cLine) (hi : PE X i ty) (ho : PE X o td) : PC X .NotIn i o (tDNotIn ty td) := by
  intro pins s σ H Q I h
  refine thn (hi pins s σ H _ I h) fun iv s1 ⟨y, H1, I1, ry, q1⟩ => thn (ho pins s1 σ H1 _ I1 q1) fun u s2 ⟨x, H2, I2, rx, a, ov, ex, g, q2⟩ => ?_
  subst ex
  obtain rfl : u = Value.ref a := rx
  exact d_notIn hu I2 g ry fun s3 I3 => ⟨.bl (!ov.isSome), H2, I3, rfl, q2⟩
theorem ps_dput (hu : X.A.units + 1 < cLine) (ho : PE X o td) (hi : PE X i ty) (hv : PE X value tv) (hs : swapsWith value (some (.Subscript o i pos')) pos.line X.env = pure false) :
    PS X (.Assign [.Subscript o i pos'] value pos) (sDPut td ty tv) := by
  intro pins s σ H D I h
  refine wpAny_Assign_Subscript (thn (hv pins s σ H _ I h) fun r s1 ⟨v, H1, I1, rv, q1⟩ => thn (ho pins s1 σ H1 _ I1 q1) fun u s2 ⟨x, H2, I2, rx, q2⟩ => thn (hi pins s2 σ H2 _ I2 q2) fun iv s3 ⟨y, H3, I3, ry, a, H4, ex, g, q3⟩ => ?_) hs
  subst ex
  obtain rfl : u = Value.ref a := rx
  exact d_setItem hu I3 g ry rv fun s4 I4 => ⟨σ, H4, I4, q3⟩
end


theorem dt_empty {P : Program} {w : World} {H : Hp} (h : Heap) (hb : sysModules < h.objs.size) : ObjOk P w H (h.push { cls := .type "dict", data := .dict #[] }) h.objs.size (.dT []) :=
  ⟨Nat.zero_le _, beq_eq_false_iff_ne.mpr (Ne.symm (Nat.ne_of_lt hb)), [], .nil, _, #[], 0, Heap.get?_push_size _ rfl, ⟨rfl, rfl, rfl⟩, rfl, rfl, List.nodup_nil⟩
def tDNewT : TE := fun _ H Q => ∀ p, H p = none → Q (.ref p) (upd H p (.dT []))
section
variable {X : Cx} {pos : Pos}
theorem pe_dnewT : PE X (.Dict [] [] pos) tDNewT := fun pins s σ H Q I h =>
  wpAny_Dict_empty ⟨.ref s.heap.objs.size, _, I.laid (a := s.heap.objs.size) (o := .dT []) (t' := s.toks) (fun _ _ q => Heap.get?_push_of_some _ q) (Nat.le_refl _) (dt_empty s.heap I.big), rfl, h _ (I.hok.fresh (Nat.le_refl _))⟩
end





end L2




namespace L2
open PySem PySem.Spec PyProof.Rows

def ixN (n : Nat) (i : Int) : Option Nat := if 0 ≤ i then (if i < n then some i.toNat else none) else if -(n : Int) ≤ i then some (i + n).toNat else none
def atI {α : Type} (xs : List α) (i : Int) : Option α := (ixN xs.length i).bind fun j => xs[j]?
theorem ixN_seq {n : Nat} {i : Int} {j : Nat} (h : ixN n i = some j) : seqIndex? i n = some j ∧ j < n ∧ -(n : Int) ≤ i ∧ i < n := by
  unfold ixN at h
  by_cases h0 : 0 ≤ i
  · rw [if_pos h0] at h
    by_cases h1 : i < n
    · rw [if_pos h1] at h
      have e : i.toNat = j := Option.some.inj h
      exact ⟨by rw [seqIndex_of h0 h1, e], by omega, by omega, h1⟩
    · rw [if_neg h1] at h; cases h
  · rw [if_neg h0] at h
    by_cases h1 : -(n : Int) ≤ i
    · rw [if_pos h1] at h
      have e : (i + n).toNat = j := Option.some.inj h
      exact ⟨by rw [seqIndex_neg (by omega) h1, e], by omega, h1, by omega⟩
    · rw [if_neg h1] at h; cases h
theorem atI_get {α : Type} {xs : List α} {i : Int} {v : α} (h : atI xs i = some v) : ∃ j, seqIndex? i xs.length = some j ∧ xs[j]? = some v ∧ j < xs.length ∧ -(xs.length : Int) ≤ i ∧ i < xs.length := by
  unfold atI at h
  cases e : ixN xs.length i with
  | none => rw [e] at h; cases h
  | some j =>
    rw [e] at h
    obtain ⟨h1, h2, h3, h4⟩ := ixN_seq e
    exact ⟨j, h1, h, h2, h3, h4⟩
theorem atI_nat {α : Type} {xs : List α} {j : Nat} {v : α} (h : xs[j]? = some v) : atI xs (j : Int) = some v := by
  have hj : j < xs.length := (List.getElem?_eq_some_iff.mp h).1
  have e : ixN xs.length (j : Int) = some j := by
    unfold ixN
    rw [if_pos (by omega), if_pos (by omega)]; simp
  unfold atI; rw [e]; exact h
def PlainIx (b : Expr) : Prop := ∀ o i, subscripted b false o i = operate [o, i] (getItem o i)
def IxR (X : Cx) (r : R2) : Prop :=
  ∀ (value slice : Expr) (pins : List (Addr × Obj)) (s : Shared) (σ : St) (H : Hp) (x y : V) (v u : Value) (Q : VK), Inv X pins σ H s → RelV x v → RelV y u → r x y H Q →
    subscripted slice false v u = operate [v, u] (getItem v u) → wpAny (model X.prog X.w) X.A (subscriptTail value slice v u) (EP X pins σ Q) X.xe s
def MtR (X : Cx) (id : String) (r : V → List V → Hp → VK → Prop) : Prop :=
  ∀ (pins : List (Addr × Obj)) (s : Shared) (σ : St) (H : Hp) (x : V) (xs : List V) (v : Value) (us : List Value) (Q : VK), Inv X pins σ H s → RelV x v → Vals xs us → r x xs H Q →
    wpAny (model X.prog X.w) X.A (call (.builtin id) (v :: us)) (EP X pins σ Q) X.xe s
section
variable {X : Cx} {a b : Expr} {ta tb : TE} {pos : Pos}
theorem pe_ix {r : R2} (hr : IxR X r) (ha : PE X a ta) (hb : PE X b tb) (hs : PlainIx b) : PE X (.Subscript a b pos) (tOp r ta tb) := by
  intro pins s σ H Q I h
  exact Subscript_ (binT ha hb I h fun v u s2 x y H2 I2 rx ry q => hr a b pins s2 σ H2 x y v u Q I2 rx ry q (hs _ _))

def rIxL (K : PySem.W.Frag) : R2 := fun x y H Q => ∃ p xs i v, x = .ref p ∧ y = .int i ∧ SqL K H p xs ∧ atI xs i = some v ∧ Q v H
def rIxT (K : PySem.W.Frag) : R2 := fun x y H Q => ∃ p xs i v, x = .ref p ∧ y = .int i ∧ SqT K H p xs ∧ atI xs i = some v ∧ Q v H
theorem ix_list : IxR X (rIxL X.K) := by
  intro value slice pins s σ H x y v u Q I rx ry h hs
  obtain ⟨p, xs, i, z, rfl, rfl, hq, he, q⟩ := h
  cases rx
  obtain ⟨t, rfl⟩ := ry
  obtain ⟨its, r, pl, hz⟩ := I.list hq
  obtain ⟨j, h1, h2, h3, h4, h5⟩ := atI_get he
  obtain ⟨w, ew, rw'⟩ := r.get h2
  have hl := r.length
  have hn := line63
  have fin : EP X pins σ Q w s := ⟨z, H, I, rw', q⟩
  by_cases h0 : 0 ≤ i
  · have hj : i.toNat = j := by
      rw [seqIndex_of h0 h5] at h1
      exact Option.some.inj h1
    exact item_listR pl.isList h0 (by omega) (by rw [hj]; simpa using ew) fin hs
  · have hj : (i + (its.toArray.size : Int)).toNat = j := by
      rw [seqIndex_neg (by omega) h4] at h1
      rw [List.size_toArray, ← hl]
      exact Option.some.inj h1
    exact subscriptTail_builtinR (x := w) pl.isList.typeIs slot_list_getitem.lookup
      (wpAny_getItem_list_neg (Q := fun r s' => r = w ∧ EP X pins σ Q r s') pl.isList (by omega) (by rw [List.size_toArray] <;> omega) (by omega) (by rw [hj]; simpa using ew) ⟨rfl, fin⟩) hs
theorem ix_tup : IxR X (rIxT X.K) := by
  intro value slice pins s σ H x y v u Q I rx ry h hs
  obtain ⟨p, xs, i, z, rfl, rfl, hq, he, q⟩ := h
  cases rx
  obtain ⟨t, rfl⟩ := ry
  obtain ⟨its, r, pl, hz⟩ := I.tuple hq
  obtain ⟨j, h1, h2, h3, h4, h5⟩ := atI_get he
  obtain ⟨w, ew, rw'⟩ := r.get h2
  have hl := r.length
  have hn := line63
  have fin : EP X pins σ Q w s := ⟨z, H, I, rw', q⟩
  exact subscriptTail_builtinR (x := w) pl.typeIs slot_tuple_getitem.lookup
    (getItem_tuple (j := j) (Q := fun r s' => r = w ∧ EP X pins σ Q r s') pl (by omega) (by omega) (by rw [List.size_toArray, ← hl]; exact h1) (by simpa using ew) ⟨rfl, fin⟩) hs
theorem mapSeq_set (its : List Value) (n j : Nat) (u : Value) : Obj.mapSeq (·.setIfInBounds j u) { cls := .type "list", data := .seq its.toArray n } = { cls := .type "list", data := .seq (its.set j u).toArray n } := by
  simp [Obj.mapSeq]
theorem Inv.lst {pins : List (Addr × Obj)} {σ : St} {H : Hp} {s : Shared} {p : Addr} {xs : List V} (I : Inv X pins σ H s) (h : H p = some (.lst xs)) :
    ∃ (its : List Value) (n : Nat), Vals xs its ∧ s.heap.get? p = some { cls := .type "list", data := .seq its.toArray n } ∧ xs.length ≤ sizeLine := by
  obtain ⟨z, its, n, r, e⟩ := I.hok p _ h
  exact ⟨its, n, r, e, z⟩
theorem Inv.lstUpd {pins : List (Addr × Obj)} {σ : St} {H : Hp} {s : Shared} {p : Addr} {xs ys : List V} {its its' : List Value} {n n' : Nat} {f : Obj → Obj} (I : Inv X pins σ H s) (h : H p = some (.lst xs))
    (ho : s.heap.get? p = some { cls := .type "list", data := .seq its.toArray n }) (hf : f { cls := .type "list", data := .seq its.toArray n } = { cls := .type "list", data := .seq its'.toArray n' }) (r : Vals ys its') (hz : ys.length ≤ sizeLine) (t : Nat) :
    Inv X pins σ (upd H p (.lst ys)) { s with heap := s.heap.update p f, toks := t } := by
  have e : (s.heap.update p f).get? p = some { cls := .type "list", data := .seq its'.toArray n' } := by
    rw [Heap.get?_update_self f ho (by rw [hf] <;> rfl), hf]
  refine I.write (x := p) (e := p) (by rw [h]; trivial) (.inl rfl) (fun b u hb q => (Heap.get?_update_other _ _ (Ne.symm hb)).trans q) ⟨_, e⟩ ?_
  exact ⟨hz, its', n', r, e⟩
def rSetL : V → V → V → Hp → (Hp → Prop) → Prop := fun o i v H Q => ∃ p xs k j, o = .ref p ∧ i = .int k ∧ H p = some (.lst xs) ∧ ixN xs.length k = some j ∧ Q (upd H p (.lst (xs.set j v)))
theorem set_list : PSet X rSetL := by
  intro pins s σ H o i v ov iv u Q I ro ri rv h
  obtain ⟨p, xs, k, j, rfl, rfl, hp, hj, q⟩ := h
  cases ro
  obtain ⟨t, rfl⟩ := ri
  obtain ⟨its, n, r, ho, hz⟩ := I.lst hp
  obtain ⟨h1, h2, h3, h4⟩ := ixN_seq hj
  have hl := r.length
  have hn := line63
  have I' : Inv X pins σ (upd H p (.lst (xs.set j v))) { s with heap := s.heap.update p (Obj.mapSeq (·.setIfInBounds j u)) } :=
    I.lstUpd hp ho (mapSeq_set its n j u) (r.set rv j) (by rw [List.length_set]; exact hz) s.toks
  by_cases h0 : 0 ≤ k
  · have hk : k.toNat = j := by
      rw [seqIndex_of h0 h4] at h1
      exact Option.some.inj h1
    exact PySem.W.ki_setAt ho h0 (by omega) (by rw [List.size_toArray, ← hl]; exact h4) (by rw [hk]; exact ⟨_, I', q⟩)
  · have hk : (k + (its.toArray.size : Int)).toNat = j := by
      rw [seqIndex_neg (by omega) h3] at h1
      rw [List.size_toArray, ← hl]
      exact Option.some.inj h1
    exact PySem.W.ki_setBack ho (by omega) (by rw [List.size_toArray, ← hl]; exact h3) (by omega) (by rw [hk]; exact ⟨_, I', q⟩)

theorem call_len_seq : CallR X (.builtin "len") (fun xs H Q => ∃ p ys, xs = [.ref p] ∧ (SqL X.K H p ys ∨ SqT X.K H p ys) ∧ Q (.int ys.length) H) := by
  intro pins s σ H xs us Q I r h
  obtain ⟨p, ys, rfl, hq, q⟩ := h
  obtain ⟨u, rfl, rx⟩ := vals1 r
  cases rx
  have hn := line63
  rcases hq with hq | hq
  · obtain ⟨its, r', pl, hz⟩ := I.list hq
    have hlen := r'.length
    exact Calls.call_len_list pl.isList (by simp only [List.size_toArray] <;> omega) ⟨.int ys.length, H, I.tok _, ⟨s.toks + 1, by rw [List.size_toArray, hlen]⟩, q⟩
  · obtain ⟨its, r', pl, hz⟩ := I.tuple hq
    have hlen := r'.length
    exact len_tuple pl (by simp only [List.size_toArray] <;> omega) ⟨.int ys.length, H, I.tok _, ⟨s.toks + 1, by rw [List.size_toArray, hlen]⟩, q⟩
theorem call_list_of : CallR X (.type "list") (fun xs H Q => ∃ p ys, xs = [.ref p] ∧ (SqL X.K H p ys ∨ SqT X.K H p ys) ∧ ∀ l, H l = none → Q (.ref l) (upd H l (.lst ys))) := by
  intro pins s σ H xs us Q I r h
  obtain ⟨p, ys, rfl, hq, q⟩ := h
  obtain ⟨u, rfl, rx⟩ := vals1 r
  cases rx
  have fin : ∀ (its : List Value), Vals ys its → ys.length ≤ sizeLine → ∀ (h' : Heap) (c' : Nat), (∀ b o', s.heap.get? b = some o' → h'.get? b = some o') →
      h'.get? s.heap.objs.size = some { cls := .type "list", dict := none, data := .seq its.toArray c', slots := #[] } → EP X pins σ Q (.ref s.heap.objs.size) { s with heap := h' } := fun its r' hz h' c' kp e =>
    ⟨.ref s.heap.objs.size, _, I.laid (t' := s.toks) kp (Nat.le_refl _) (show ObjOk X.prog X.w _ h' _ (.lst ys) from ⟨hz, its, c', r', e⟩), rfl, q _ (I.hok.fresh (Nat.le_refl _))⟩
  rcases hq with hq | hq
  · obtain ⟨its, r', pl, hz⟩ := I.list hq
    have hlen := r'.length
    obtain ⟨o, ho, hc, n, hd⟩ := pl.isList
    exact call_list_seq p (.inl rfl) ho hc hd (fun h' c' kp e => fin its r' hz h' c' kp e) (by simp only [List.size_toArray] <;> omega)
  · obtain ⟨its, r', pl, hz⟩ := I.tuple hq
    have hlen := r'.length
    obtain ⟨o, ho, hc, n, hd⟩ := pl
    exact call_list_seq p (.inr rfl) ho hc hd (fun h' c' kp e => fin its r' hz h' c' kp e) (by simp only [List.size_toArray] <;> omega)
theorem call_tuple_of : CallR X (.type "tuple") (fun xs H Q => ∃ p ys, xs = [.ref p] ∧ ((SqL X.K H p ys ∧ ∀ l, H l = none → Q (.ref l) (upd H l (.tup ys))) ∨ (SqT X.K H p ys ∧ Q (.ref p) H))) := by
  intro pins s σ H xs us Q I r h
  obtain ⟨p, ys, rfl, h⟩ := h
  obtain ⟨u, rfl, rx⟩ := vals1 r
  cases rx
  rcases h with ⟨hq, q⟩ | ⟨hq, q⟩
  · obtain ⟨its, r', pl, hz⟩ := I.list hq
    have hlen := r'.length
    refine call_tuple_list pl.isList (fun h' kp => ?_) (by simp only [List.size_toArray] <;> omega)
    have I1 : Inv X pins σ H { s with heap := h' } := I.kept (t' := s.toks) kp
    have I2 : Inv X pins σ (upd H h'.objs.size (.tup ys)) { s with heap := h'.push { cls := .type "tuple", data := .seq its.toArray } } :=
      I1.laid (t' := s.toks) (fun b o e => Heap.get?_push_of_some _ e) (Nat.le_refl _) (show ObjOk X.prog X.w _ _ _ (.tup ys) from ⟨hz, its, r', IsTup.new _ _⟩)
    exact ⟨.ref h'.objs.size, _, I2, rfl, q _ (I1.hok.fresh (Nat.le_refl _))⟩
  · obtain ⟨its, r', pl, hz⟩ := I.tuple hq
    exact call_tuple_same pl ⟨.ref p, H, I, rfl, q⟩

def tyV (K : PySem.W.Frag) (T : String) (x : V) (H : Hp) : Prop := match x with
  | .str _ => T = "str"
  | .int _ => T = "int"
  | .ref p => (T = "list" ∧ ∃ xs, SqL K H p xs) ∨ (T = "tuple" ∧ ∃ o, K.lookup p = some o ∧ o.cls = .type "tuple" ∧ o.dict = none) ∨
      (T = "dict" ∧ ((∃ kvs, H p = some (.dK kvs)) ∨ ∃ kvs, H p = some (.dT kvs))) ∨ (T = "set" ∧ ∃ S n, H p = some (.set S n))
  | _ => False
theorem tyV_is {pins : List (Addr × Obj)} {σ : St} {H : Hp} {s : Shared} {T : String} {x : V} {v : Value} (I : Inv X pins σ H s) (r : RelV x v) (ty : tyV X.K T x H) :
    s.TypeIs v T ∧ ∀ a, v = .ref a → ∃ ob, s.heap.get? a = some ob ∧ ob.dict = none := by
  cases x with
  | str z =>
    obtain ⟨t, rfl⟩ := r
    cases (show T = "str" from ty)
    exact ⟨typeIs_str s z t, fun _ e => nomatch e⟩
  | int i =>
    obtain ⟨t, rfl⟩ := r
    cases (show T = "int" from ty)
    exact ⟨typeIs_int s i t, fun _ e => nomatch e⟩
  | ref p =>
    cases r
    rcases ty with ⟨rfl, xs, hq⟩ | ⟨rfl, o, hk, hc, hd⟩ | ⟨rfl, hk⟩ | ⟨rfl, S, n, hk⟩
    · obtain ⟨its, _, pl, _⟩ := I.list hq
      refine ⟨pl.isList.typeIs, fun a e => ?_⟩
      cases e
      obtain ⟨o, n, e, c, hd, _⟩ := pl
      exact ⟨o, e, hd⟩
    · refine ⟨⟨o, I.kIn p o hk, hc⟩, fun a e => ?_⟩
      cases e
      exact ⟨o, I.kIn _ o hk, hd⟩
    · have z : ∃ o, s.heap.get? p = some o ∧ o.ExactDict := by
        rcases hk with ⟨kvs, hk⟩ | ⟨kvs, hk⟩
        · obtain ⟨_, _, _, _, o, _, _, e, ex, _⟩ := I.hok p _ hk
          exact ⟨o, e, ex⟩
        · obtain ⟨_, _, _, _, o, _, _, e, ex, _⟩ := I.hok p _ hk
          exact ⟨o, e, ex⟩
      obtain ⟨o, e, ex⟩ := z
      refine ⟨⟨o, e, ex.1⟩, fun a e2 => ?_⟩
      cases e2
      exact ⟨o, e, ex.2.1⟩
    · obtain ⟨o, _, _, _, e, ex, _⟩ := I.hok p _ hk
      refine ⟨⟨o, e, ex.1⟩, fun a e2 => ?_⟩
      cases e2
      exact ⟨o, e, ex.2.1⟩
  | _ => exact False.elim ty
def tBM (K : PySem.W.Frag) (T : String) (r : V → List V → Hp → VK → Prop) (to : TE) (t : TA) : TE := fun σ H Q => to σ H fun x H1 => tyV K T x H1 ∧ t σ H1 fun xs H2 => r x xs H2 Q
variable {o e : Expr} {es : List Expr} {to : TE} {t : TA} {name : Str} {apos cpos : Pos} {T id : String} {r : V → List V → Hp → VK → Prop}
theorem pe_bm (pa : PlainAttrs T) (slot : Slot T name id) (hty : typeOf (.builtin id) = pure (.type "method_descriptor")) (hm : MtR X id r) (ho : PE X o to) (ha : PA X (e :: es) t)
    (hbase : attributeBase o name X.env (eval o X.env) = eval o X.env := by rfl)
    (hfew : ((backTo cpos (starEach (e :: es) X.env)).all (fun x => !x.1) && (backToKw cpos (keywordEach [] X.env)).all (fun x => x.1.isSome)
      && decide ((e :: es).length + ([] : List Keyword).length + (if ([] : List Keyword).isEmpty then 0 else 1) < 30)) = true := by rfl)
    (hline : (apos.endLine == cpos.line) = true := by rfl) (hs : starEach (e :: es) X.env = (false, eval e X.env) :: starEach es X.env := by rfl) (hplain : (backTo cpos (starEach es X.env)).any (·.1) = false := by rfl) :
    PE X (.Call (.Attribute o name apos) (e :: es) [] cpos) (tBM X.K T r to t) := by
  intro pins s σ H Q I h
  refine wpAny_Call_method_late hbase hfew hline rfl (thn (ho pins s σ H _ I h) fun v s1 ⟨x, H1, I1, r1, ty, q1⟩ => ?_)
  obtain ⟨h1, h2⟩ := tyV_is I1 r1 ty
  refine ⟨T, id, pa, slot, hty, h1, h2, ?_⟩
  have hA := ha cpos pins s1 σ H1 _ I1 q1
  rw [hs] at hA ⊢
  refine Calls.callWith_builtin (by show (false || (backTo cpos (starEach es X.env)).any (·.1)) = false; rw [hplain] <;> rfl) (Calls.evalArgs_plain ?_)
  exact thn hA fun us s2 ⟨vs, H2, I2, r2, q2⟩ => hm pins s2 σ H2 x vs v us Q I2 r1 r2 q2
/- xs.append(e), list.index on a module's tuple .. are MtR facts of 06m -/
end
end L2

namespace L2
open PySem PySem.Spec PyProof.Rows

def MtM (X : Cx) (id : String) (r : V → List V → Hp → VK → Prop) : Prop :=
  ∀ (pins : List (Addr × Obj)) (s : Shared) (σ : St) (H : Hp) (x : V) (xs : List V) (v : Value) (us : List Value) (Q : VK), Inv X pins σ H s → RelV x v → Vals xs us → r x xs H Q →
    wpAny (model X.prog X.w) X.A (call (.builtin id) (v :: us)) (EP X pins σ Q) X.xe s

theorem Vals.one : ∀ {x : V} {us : List Value}, Vals [x] us → ∃ u, us = [u] ∧ RelV x u
  | _, _, .cons r .nil => ⟨_, rfl, r⟩
theorem Vals.two : ∀ {x y : V} {us : List Value}, Vals [x, y] us → ∃ u v, us = [u, v] ∧ RelV x u ∧ RelV y v
  | _, _, _, .cons r (.cons q .nil) => ⟨_, _, rfl, r, q⟩
theorem Vals.eraseIdx : ∀ {xs : List V} {us : List Value} (i : Nat), Vals xs us → Vals (xs.eraseIdx i) (us.eraseIdx i)
  | _, _, _, .nil => .nil
  | _, _, 0, .cons _ t => t
  | _, _, i + 1, .cons r t => .cons r (Vals.eraseIdx i t)
theorem len_erase {α : Type} : ∀ (l : List α) (i : Nat), (l.eraseIdx i).length ≤ l.length
  | [], _ => Nat.le_refl _
  | _ :: _, 0 => Nat.le_succ _
  | _ :: r, i + 1 => Nat.succ_le_succ (len_erase r i)
section
variable {X : Cx} {pins : List (Addr × Obj)} {σ : St} {H : Hp} {s : Shared} {l b : Addr} {xs ys zs : List V}

theorem Inv.lset {its its' : List Value} {n : Nat} {f : Array Value → Array Value} {t' : Nat} (I : Inv X pins σ H s) (hH : H l = some (.lst xs))
    (e : s.heap.get? l = some { cls := .type "list", data := .seq its.toArray n }) (hf : f its.toArray = its'.toArray) (hv : Vals ys its') (hz : ys.length ≤ sizeLine) :
    Inv X pins σ (upd H l (.lst ys)) { s with heap := s.heap.update l (Obj.mapSeq f), toks := t' } := by
  have q := PySem.IsL.update e f
  rw [hf] at q
  refine I.write (x := l) (e := l) (by rw [hH]; exact trivial) (.inl rfl) (fun b' u hb hu => (Heap.get?_update_other s.heap (Obj.mapSeq f) (Ne.symm hb)).trans hu) ⟨_, q⟩ ?_
  exact ⟨hz, its', _, hv, q⟩
theorem Inv.lnew {its : List Value} {t' : Nat} (I : Inv X pins σ H s) (hv : Vals ys its) (hz : ys.length ≤ sizeLine) :
    Inv X pins σ (upd H s.heap.objs.size (.lst ys)) { s with heap := s.heap.push { cls := .type "list", data := .seq its.toArray }, toks := t' } :=
  I.laid (fun _ _ q => Heap.get?_push_of_some _ q) (Nat.le_refl _) ⟨hz, its, 0, hv, Heap.get?_push_size _ rfl⟩
theorem Inv.lstM (I : Inv X pins σ H s) (hH : H l = some (.lst xs)) : xs.length ≤ sizeLine ∧ ∃ (its : List Value) (n : Nat), Vals xs its ∧ xs.length = its.length ∧ s.heap.get? l = some { cls := .type "list", data := .seq its.toArray n } := by
  obtain ⟨z, its, n, r, e⟩ := I.hok l _ hH
  exact ⟨z, its, n, r, r.length, e⟩

end

section
variable {X : Cx}

def rAppend : V → List V → Hp → VK → Prop := fun x vs H Q => ∃ l xs y, x = .ref l ∧ vs = [y] ∧ H l = some (.lst xs) ∧ xs.length < sizeLine ∧ Q .non (upd H l (.lst (xs ++ [y])))
theorem mt_append : MtM X "list.append" rAppend := by
  intro pins s σ H x vs v us Q I rx rv h
  obtain ⟨l, xs, y, rfl, rfl, hH, hz, q⟩ := h
  cases rx
  obtain ⟨u, rfl, ru⟩ := rv.one
  obtain ⟨z, its, n, r, hl, e⟩ := I.lstM hH
  refine call_meets F.slot_list_append ⟨_, e, rfl⟩ F.entry_list_append (F.args_list_append_2 _ _) (PySem.list_append l its.toArray n u (by rw [List.size_toArray]; omega)) ⟨e, ?_⟩
  refine ⟨.non, _, I.lset (its' := its ++ [u]) hH e (by simp) (r.append (.cons ru .nil)) ?_, rfl, q⟩
  rw [List.length_append, List.length_singleton]
  omega

def rPopAt : V → List V → Hp → VK → Prop := fun x vs H Q => ∃ l xs i k y, x = .ref l ∧ vs = [.int i] ∧ H l = some (.lst xs) ∧ -(2 ^ 63) ≤ i ∧ i < 2 ^ 63 ∧ seqIndex? i xs.length = some k ∧ xs[k]? = some y ∧ Q y (upd H l (.lst (xs.eraseIdx k)))
theorem mt_popAt : MtM X "list.pop" rPopAt := by
  intro pins s σ H x vs v us Q I rx rv h
  obtain ⟨l, xs, i, k, y, rfl, rfl, hH, h1, h2, hk, hy, q⟩ := h
  cases rx
  obtain ⟨u, rfl, ru⟩ := rv.one
  obtain ⟨t, rfl⟩ := ru
  obtain ⟨z, its, n, r, hl, e⟩ := I.lstM hH
  obtain ⟨w, hw, rw'⟩ := r.get hy
  refine call_meets F.slot_list_pop ⟨_, e, rfl⟩ F.entry_list_pop (F.args_list_pop_2 _ _)
    (MeetsSeq.list_pop_at l its.toArray n i t k w (fitsIndex_both h1 h2) (by rw [List.size_toArray, ← hl]; exact hk) (by rw [← Array.getElem?_toList]; exact hw) (by rw [List.size_toArray]; omega)) ⟨e, ?_⟩
  refine ⟨y, _, I.lset (its' := its.eraseIdx k) hH e ?_ (r.eraseIdx k) ?_, rw', q⟩
  · show its.toArray.eraseIdxIfInBounds k = (its.eraseIdx k).toArray
    rw [List.eraseIdxIfInBounds_toArray]
  · have := len_erase xs k
    omega

end


end L2

namespace Att
open PySem PySem.W PySem.Calls PyProof.Rows

theorem ints_of_wellAll {P : Params} {h : Heap} : ∀ (ns : List Int) (vs : List Value), WellAll P h vs (ns.map WData.int) → IntsAre vs ns := by
  intro ns
  induction ns with
  | nil =>
    intro vs w
    rw [List.map_nil] at w
    cases w
    exact .nil
  | cons n ns ih =>
    intro vs w
    rw [List.map_cons] at w
    cases w with
    | cons a b =>
      cases a
      exact .cons _ _ (ih _ b)

theorem script_of {l : OpenLaw} {n : Nat} (hn : l.most = some n) {P : Params} {h : Heap} {args : List WData} {vals : List Value}
    (hpre : l.row.toRowW.claim.pre args = true) (hwl : WellAll P h vals args) :
    ∃ a vs ns, vals = [Value.ref a] ∧ args = [WData.list (ns.map WData.int)] ∧ h.get? a = some { cls := .type "list", data := .seq vs.toArray } ∧ IntsAre vs ns ∧ ns.length ≤ n := by
  have hsh : WShape.hasAll [] args [.list .int] = true := (pre_splitW hpre).1
  have hc : l.pre.holds [] { args := args } = true := (pre_splitW hpre).2
  obtain ⟨d, r, rfl, h1, h2⟩ := hasAllW_cons hsh
  obtain rfl := hasAllW_nil h2
  obtain ⟨xs, rfl, h3⟩ := hasW_list h1
  obtain ⟨ns, rfl⟩ := items_int h3
  have hlen : ns.length ≤ n := by
    unfold OpenLaw.pre at hc
    have h4 : (WTm.not (.lt (.lit (.int (n : Int))) (.len (.arg 0)))).holds [] { args := [.list (ns.map .int)] } = true := by
      have h4 := (holds_andW hc).1
      rw [hn] at h4
      exact h4
    have h5 := condW_of h4 (w_not (w_lt w_lit (w_len_list (w_arg rfl))))
    rw [List.length_map] at h5
    refine Nat.le_of_not_lt fun q => ?_
    have q' : (n : Int) < ((ns.length : Nat) : Int) := by omega
    first
      | (rw [decide_eq_true q'] at h5; exact absurd h5 (by decide))
      | (simp at h5; omega)
  cases hwl with
  | cons w1 w2 =>
    cases w2
    cases w1 with
    | list ho hall => exact ⟨_, _, ns, rfl, rfl, ho, ints_of_wellAll ns _ hall, hlen⟩

theorem post_true (l : OpenLaw) (args : List WData) : l.row.toRowW.claim.post args (.bool true) args = true :=
  postW_of (r := l.row.toRowW) (X := (true == true))
    (show WShape.has [] (.bool true) .bool = true by first | rfl | decide | simp [WShape.has, WShape.arms, WShape.armsAll])
    (show (WTm.eq .res (.lit (.bool true))).value [] { args := args, res := some (.bool true), after := args } = some (.bool (true == true)) from w_eq_bool (w_res rfl) w_lit) rfl

theorem attach_call {l : OpenLaw} {n : Nat} {q : Program} {loose : List Str} {XP : (Str → Option Value) → Heap → Prop} {YP : World → Heap → Prop} {d : DefRec}
    (hn : l.most = some n) (hdf : d.params.defaults = [])
    (call : ∀ (w : World) (s₀ s₁ : Shared) (mg mb : Str → Option Value) (fa : Addr) (o : Obj) (pm cd doc : Value) (a : Addr) (vs : List Value) (ns : List Int),
      Ground q loose [] XP w s₀ mg mb s₁.heap → YP w s₁.heap →
      s₁.heap.get? fa = some o → o.data = .func (docDef d.name d.params d.body d.scope pm cd doc) → s₁.heap.CodeRec cd d.name → mg d.name = some (.ref fa) →
      s₁.heap.get? a = some { cls := .type "list", data := .seq vs.toArray } → IntsAre vs ns → ns.length ≤ n → s₁.gens = #[] →
      codeAny (model l.prog w) callerA (.call (.ref fa) ⟨[.ref a], []⟩) (fun r s' => r = .ok (.ret (.bool true)) ∧ OldK s₁.heap s'.heap ∧ s'.os = s₁.os ∧ AllBare s'.gens) s₁) :
    WalkO q loose XP YP l.row.toRowW d [] (fun f vs => PySem.call f vs) := by
  intro w s₀ s₁ mg mb G Y fa o pm cd doc dV kV ho hd hcd hD hmg hg args vals as hpre hlay hrd hwl hlo
  obtain rfl : dV = .none := Dflts.none hD hdf
  obtain rfl : kV = .none := Dflts.noKw hD
  obtain ⟨a, vs, ns, rfl, rfl, hobj, hints, hlen⟩ := script_of hn hpre hwl
  refine enter_call (codeAny_mono (call w s₀ s₁ mg mb fa o pm cd doc a vs ns G Y ho (fd_plain hd) hcd hmg hobj hints hlen hg) fun r s' hq => ?_)
  obtain ⟨rfl, h2, h3, h4⟩ := hq
  exact ⟨.inl ⟨.bool true, .bool true, [], rfl, fun _ => rfl, .bool true, post_true l _, fun _ => ⟨List.Pairwise.nil, fun _ hm => (nomatch hm)⟩⟩, h2, h3, h4⟩

end Att

namespace L2
open PySem PySem.Spec PyProof.Rows

theorem vals_ints : ∀ {vs : List Value} {ns : List Int}, IntsAre vs ns → Vals (ns.map V.int) vs
  | _, _, .nil => .nil
  | _, _, .cons n t h => .cons ⟨t, rfl⟩ (vals_ints h)

def Only (H : Hp) : Prop := ∀ b, H b = none ∨ ∃ o xs, H b = some (.frz o (.lst xs))

theorem law_call {P : Program} {w : World} {K : PySem.W.Frag} {mg mb : Str → Option Value} {CX : CXT} {k : Nat} {fa a : Addr} {fd : FuncData} {x : Str} {sp : Sp} {s₁ : Shared} {vs : List Value} {ns : List Int}
    (KX : K.In s₁.heap) (hns : s₁.heap.Ns mainGlobals mg) (hb : s₁.heap.Ns builtinsNs mb) (hbb : ∀ x : Str, x ≠ "__name__" → mb x = bootBuiltins x) (hlim : s₁.heap.NoLimit) (hg : s₁.gens = #[])
    (ha : s₁.heap.get? a = some { cls := .type "list", data := .seq vs.toArray }) (hi : IntsAre vs ns) (hl : ns.length ≤ sizeLine) (hr : Room k callerA)
    (F : ∀ base : Heap, K.In base → base.Ns mainGlobals mg → FnOk P w K mg base CX k fa fd [x] sp) (hbind : ∀ (s : Shared) (u : Value), BindsTo s fd ⟨[u], []⟩ [(x, u)])
    (hsp : ∀ H : Hp, Only H → SqL K H a (ns.map V.int) → sp [.ref a] H (fun v _ => v = .bl true) fun _ _ _ => False)
    (hCX : ∀ H e s', CX [] H s₁ (fun _ _ _ => False) e s' → False) :
    codeAny (model P w) callerA (.call (.ref fa) ⟨[.ref a], []⟩) (fun r s' => r = .ok (.ret (.bool true)) ∧ OldK s₁.heap s'.heap ∧ s'.os = s₁.os ∧ AllBare s'.gens) s₁ := by
  have rv := vals_ints hi
  have lenV := hi.length
  have core : ∀ H : Hp, Only H → SqL K H a (ns.map V.int) → HOk P w H s₁.heap → (∀ b, H b ≠ none → b = a) → (H a ≠ none → K.lookup a = none) →
      codeAny (model P w) callerA (.call (.ref fa) ⟨[.ref a], []⟩) (fun r s' => r = .ok (.ret (.bool true)) ∧ OldK s₁.heap s'.heap ∧ s'.os = s₁.os ∧ AllBare s'.gens) s₁ := by
    intro H hO hS hok hA hK
    have base_of : ∀ {b : Addr} {o : Obj}, s₁.heap.get? b = some o → H b = none → (hidT s₁.heap H).get? b = some o := fun e n => hidT_get e n
    have noA : ∀ {b : Addr} {o : Obj} {es : Array DictEntry} {ep : Nat}, s₁.heap.get? b = some o → o.data = .dict es ep → H b = none := fun {b o es ep} e d => by
      cases q : H b with
      | none => rfl
      | some u =>
        have e' : b = a := hA b (by rw [q]; simp)
        subst e'
        rw [ha] at e; cases e
        have d' : Data.seq vs.toArray _ = Data.dict es ep := d
        cases d'
    have nsK : ∀ {b : Addr} {m : Str → Option Value}, s₁.heap.Ns b m → (hidT s₁.heap H).Ns b m := fun {b m} ⟨o, es, ep, e, d, r⟩ => ⟨o, es, ep, base_of e (noA e d), d, r⟩
    have hKb : K.In (hidT s₁.heap H) := fun b o e => base_of (KX b o e) (by
      cases q : H b with
      | none => rfl
      | some u =>
        have e' : b = a := hA b (by rw [q]; simp)
        subst e'
        rw [hK (by rw [q]; simp)] at e; cases e)
    have hM : Mod K mg (hidT s₁.heap H) := ⟨hKb, nsK hns, ⟨mb, nsK hb, hbb⟩, let ⟨mc, h1, h2⟩ := hlim; ⟨mc, nsK h1, h2⟩⟩
    have e0 : Env0 P w K mg (hidT s₁.heap H) callerA [] s₁ H := ⟨rfl, hM, fun b o e => of_hidT e, Nat.le_of_eq (hidT_size _ _), trivial, fun b hb => absurd (show b ∈ ([] : List Addr) from hb) (by simp), hok, .of_eq hg⟩
    refine codeAny_mono ((F _ hKb (nsK hns)).run callerA [] s₁ H ⟨[.ref a], []⟩ [.ref a] [.ref a] _ _ hr e0 (hbind s₁ (.ref a)) (.cons rfl .nil) (hsp H hO hS)) fun r s' h => ?_
    cases r with
    | error e => exact (hCX H e s' h).elim
    | ok fl =>
      cases fl with
      | next => exact False.elim h
      | brk => exact False.elim h
      | cont => exact False.elim h
      | ret u =>
        obtain ⟨v, H', os, bare, un, hok', r', q⟩ := h
        have q' : v = .bl true := q
        subst q'
        obtain rfl : u = Value.bool true := r'
        refine ⟨rfl, OldK.of_keep fun b o e => ?_, os, bare⟩
        cases q : H b with
        | none => exact un.keep b o e q (by intro z; exact absurd (show b ∈ ([] : List Addr) from z) (by simp)) (by simp)
        | some u =>
          rcases hO b with z | ⟨ob, xs, z⟩
          · rw [q] at z; cases z
          · have z2 := un.frzs b ob _ z
            obtain ⟨e1, _⟩ := hok b _ z
            obtain ⟨e2, _⟩ := hok' b _ z2
            rw [e] at e1; cases e1
            exact e2
  cases hk : K.lookup a with
  | some o =>
    have e := KX a o hk
    rw [ha] at e
    cases e
    refine core (fun _ => none) (fun _ => .inl rfl) (.inr ⟨_, vs.toArray, _, hk, rfl, rfl, rfl, by rw [List.size_toArray, lenV]; exact hl, by simpa using rv⟩) (fun b u z => by have z' : (none : Option HO) = some u := z; cases z') (fun b z => absurd rfl z) fun z => absurd rfl z
  | none =>
    refine core (fun b => if b = a then some (.frz { cls := .type "list", data := .seq vs.toArray } (.lst (ns.map V.int))) else none) (fun b => ?_) (.inl (.inr ⟨{ cls := .type "list", data := .seq vs.toArray }, if_pos rfl⟩)) (fun b u z => ?_) (fun b z => ?_) fun _ => hk
    · by_cases hb : b = a
      · exact .inr ⟨_, _, if_pos hb⟩
      · exact .inl (if_neg hb)
    · by_cases hb : b = a
      · have z' := (if_pos hb).symm.trans z
        cases z'
        subst hb
        exact ⟨ha, by rw [List.length_map]; exact hl, vs, _, rv, ha⟩
      · have z' := (if_neg hb).symm.trans z
        cases z'
    · by_cases hb : b = a
      · exact hb
      · exact absurd (if_neg hb) z
end L2

namespace L2
open PySem PySem.Spec PyProof.Rows

theorem walk_of {l : PySem.W.OpenLaw} {n k : Nat} {q : Program} {loose : List Str} {XP : (Str → Option Value) → Heap → Prop} {YP : World → Heap → Prop} {d : DefRec} {K : Params → PySem.W.Frag} {CX : World → CXT} {sp : World → Sp} {x : Str}
    (hn : l.most = some n) (hn2 : n ≤ sizeLine) (hdf : d.params.defaults = []) (hr : Room k callerA)
    (hY : ∀ (w : World) (h : Heap), YP w h → (K w.params).In h)
    (F : ∀ (w : World) (mg : Str → Option Value) (fa : Addr) (h : Heap), (K w.params).In h → h.Ns mainGlobals mg → mg d.name = some (.ref fa) →
      ∃ fd : FuncData, (∀ (s : Shared) (u : Value), BindsTo s fd ⟨[u], []⟩ [(x, u)]) ∧
        ∀ base : Heap, (K w.params).In base → base.Ns mainGlobals mg → FnOk l.prog w (K w.params) mg base (CX w) k fa fd [x] (sp w))
    (hsp : ∀ (w : World) (H : Hp) (a : Addr) (ns : List Int), ns.length ≤ n → Only H → SqL (K w.params) H a (ns.map V.int) → sp w [.ref a] H (fun v _ => v = .bl true) fun _ _ _ => False)
    (hCX : ∀ (w : World) (H : Hp) (s : Shared) (e : Value) (s' : Shared), CX w [] H s (fun _ _ _ => False) e s' → False) :
    PySem.W.WalkO q loose XP YP l.row.toRowW d [] (fun f vs => PySem.call f vs) := by
  refine Att.attach_call hn hdf fun w s₀ s₁ mg mb fa o pm cd doc a vs ns G Y ho hd hcd hmg hobj hints hlen hg => ?_
  have KX := hY w _ Y
  obtain ⟨fd, hb, hF⟩ := F w mg fa _ KX G.T.g hmg
  exact law_call KX G.T.g G.T.b G.T.builtins G.T.nolimit hg hobj hints (Nat.le_trans hlen hn2) hr hF hb (fun H hO hS => hsp w H a ns hlen hO hS) fun H e s' => hCX w H s₁ e s'
end L2

/- THE LAST THEOREM (shape; LID, My.* are yours):
   My.Adr: a structure of the addresses that your layer names (classes, functions); My.Txt K t: a structure (Prop) of the equations over K;
   My.txt_mk : {K} {implicit addresses ..} (e1 : nsIn K mainGlobals "law" = some (some (.ref f))) (e2 : K.lookup f = some ⟨oc, od, .func (fnOf "law" "law" params body scope dV kV doc pm an cdv ct), sl⟩) (e3 : codeIn K cdv "law" = true) .. : ∃ t, My.Txt K t

set_option maxRecDepth 100000 in
set_option maxHeartbeats 0 in
theorem PySem.Challenge.cw_LID_holds : PySem.Challenge.rw_LID.Holds := by
  w_on; o_law; k_head; (case hw => w_witness2)
  k_fill
  refine L2.walk_of (l := PySem.Challenge.rw_LID) (n := 63) (k := 40) (x := "script") (CX := fun w => ..) (sp := fun _ => My.sp_law) rfl (by decide) rfl ⟨rfl, by decide, by decide⟩ (fun w h Y => PySem.W.kIn_of Y) ?F ?S ?C
  case F =>
    intro w mg fa h KX G hmg
    have T : ∃ t, My.Txt (L2.KOf KX) t := by
      dsimp only [L2.KOf]                          -- K must stand as «<heap const> w.params» for k_is
      refine' My.txt_mk ?e1 ?e2 ?e3 ..
      (case e1 => PySem.W.k_is)                    -- in the order: a name -> its address -> its object -> its parts
      (case e2 => PySem.W.k_is)
      ..
    obtain ⟨t, T⟩ := T
    have e0 := hmg.symm.trans (PySem.W.mg_of KX G T.law)
    cases e0                                       -- fa is the law's own address
    exact ⟨_, fun s u => .of_eq rfl, fun base kb nb => My.law_fn T kb nb⟩     -- if «.of_eq rfl» comes too early: refine' ⟨_, ?b, fun base kb nb => My.law_fn T kb nb⟩; exact fun s u => .of_eq rfl
  case S => exact fun w H a ns hl hO hS => ..
  case C => exact ..
(the tactic k_is has no namespace: write k_is) -/

namespace L2
open PySem PySem.Spec PyProof.Rows

def defArgs (s : Stmt) : Arguments := match s with
  | .FunctionDef _ a _ _ _ _ _ _ _ _ => a
  | _ => { posonlyargs := [], args := [], vararg := none, kwonlyargs := [], kw_defaults := [], kwarg := none, defaults := [] }
def defBody (s : Stmt) : List Stmt := match s with
  | .FunctionDef _ _ b _ _ _ _ _ _ _ => b
  | _ => []
def defScope (s : Stmt) : Scope := match s with
  | .FunctionDef _ _ _ _ _ _ sc _ _ _ => sc
  | _ => { kind := .function, names := [], isGenerator := false, isCoroutine := false }

abbrev CX0 : CXT := fun _ _ _ _ _ _ => False
abbrev E0 : XK := fun _ _ _ => False
theorem pass0 {X : Cx} : Passes CX0 X E0 := fun _ _ _ _ _ _ _ h => h.elim

structure Fun (K : PySem.W.Frag) (x qual : Str) (st : Stmt) (f : Addr) (fd : FuncData) : Prop where
  ex : ∃ (oc : Value) (od : Option Addr) (kV doc pm : Value) (an : Option Addr) (cdv ct : Value) (osl : Array (Option Value)),
    fd = PySem.W.fnOf x qual (defArgs st) (defBody st) (defScope st) .none kV doc pm an cdv ct ∧ K.lookup f = some ⟨oc, od, .func fd, osl⟩ ∧ PySem.W.codeIn K cdv qual = true
  kp : PySem.W.keepIn K (.ref f) = true
section
variable {P : Program} {w : World} {K : PySem.W.Frag} {mg : Str → Option Value} {base : Heap}
theorem Fun.ok {x qual : Str} {st : Stmt} {f : Addr} {fd : FuncData} {N ps : List Str} {k : Nat} {sp : Sp} (F : Fun K x qual st f fd) (S : FnScope N ps (defScope st)) (len : ∀ vs H Q E, sp vs H Q E → vs.length = ps.length)
    (hbody : ∀ (cdv : Value) (A : Around) (outer : List Env) (s : Shared) (H : Hp) (vs : List V) (Q : VK) (E : XK), Room k (A.deeper (envOfC qual (defScope st) s.heap.objs.size f cdv)) → sp vs H Q E →
      ∃ t, PSs (cxOf CX0 P w K mg base N qual (defScope st) f cdv A outer s H E).nox (defBody st) t ∧ t { nx := fun _ H' => Q .non H', rt := Q } (start N vs) H) : FnOk P w K mg base CX0 (k + 1) f fd ps sp := by
  obtain ⟨oc, od, kV, doc, pm, an, cdv, ct, osl, rfl, lk, hcd⟩ := F.ex
  refine fn_of lk hcd S len fun A outer s H vs Q E hr hsp => ?_
  obtain ⟨t, h, q⟩ := hbody cdv A outer s H vs Q E hr hsp
  exact ⟨t, h.nox, q⟩
theorem Fun.binds {x qual : Str} {st : Stmt} {f : Addr} {fd : FuncData} {ps : List Str} (F : Fun K x qual st f fd)
    (h : ∀ (kV doc pm : Value) (an : Option Addr) (cdv ct : Value) (us : List Value), us.length = ps.length → bindArgs (PySem.W.fnOf x qual (defArgs st) (defBody st) (defScope st) .none kV doc pm an cdv ct) ⟨us, []⟩ = pure (ps.zip us)) : Binds K fd ps [] := by
  obtain ⟨oc, od, kV, doc, pm, an, cdv, ct, osl, rfl, lk, hcd⟩ := F.ex
  exact .all (h kV doc pm an cdv ct)
theorem fun_mk {x qual : Str} {st : Stmt} {f : Addr} {oc : Value} {od an : Option Addr} {osl : Array (Option Value)} {kV doc pm cdv ct : Value} (l : K.lookup f = some ⟨oc, od, .func (PySem.W.fnOf x qual (defArgs st) (defBody st) (defScope st) .none kV doc pm an cdv ct), osl⟩)
    (c : PySem.W.codeIn K cdv qual = true) (k : PySem.W.keepIn K (.ref f) = true) : Fun K x qual st f (PySem.W.fnOf x qual (defArgs st) (defBody st) (defScope st) .none kV doc pm an cdv ct) := ⟨⟨oc, od, kV, doc, pm, an, cdv, ct, osl, rfl, l, c⟩, k⟩
end
theorem hu_of {A : Around} {k : Nat} (hr : Room k A) : A.units + 1 < cLine := Nat.lt_of_le_of_lt (Nat.add_le_add_left (by decide : 1 ≤ 64) _) hr.units
theorem small1000 {n : Nat} (h : n ≤ 1000) : n < sizeLine := Nat.lt_of_le_of_lt h (by decide)

section
variable {X : Cx}
theorem pv (i : Nat) {x : Str} {pos : Pos} (hN : X.N[i]? = some x := by rfl) (hv : Vis X.env.scope x := by first | exact Or.inl rfl | exact Or.inr (Or.inl rfl) | exact Or.inr (Or.inr rfl)) (hd : (x == ("__debug__" : Str)) = false := by decide)
    (hcd : (x == ("__classdict__" : Str)) = false := by decide) : PE X (.Name x pos) (tVar i) := pe_var hN hv hd hcd
end

theorem iteF {A B : Prop} (h : B) : if false = true then A else B := by
  rw [if_neg Bool.false_ne_true]
  exact h
theorem iteT {A B : Prop} (h : A) : if true = true then A else B := by
  rw [if_pos rfl]
  exact h
theorem ite2 {c A B : Prop} [Decidable c] (h1 : c → A) (h2 : ¬ c → B) : if c then A else B := by
  by_cases h : c
  · rw [if_pos h]
    exact h1 h
  · rw [if_neg h]
    exact h2 h
theorem iteNS {c A B : Prop} [Decidable c] (hc : c) (h : B) : if (!decide c) = true then A else B := by
  rw [decide_eq_true hc]
  exact iteF h

def Same (H H' : Hp) : Prop := ∀ b o, H b = some o → H' b = some o
theorem Same.refl (H : Hp) : Same H H := fun _ _ h => h
theorem Same.trans {H H1 H2 : Hp} (a : Same H H1) (b : Same H1 H2) : Same H H2 := fun c o h => b c o (a c o h)
theorem Same.free {H H' : Hp} (e : Same H H') {l : Addr} (h : H' l = Option.none) : H l = Option.none := by
  cases q : H l with
  | none => rfl
  | some o =>
    rw [e l o q] at h
    cases h
theorem Same.seq {K : PySem.W.Frag} {H H' : Hp} {a : Addr} {xs : List V} (e : Same H H') (h : SqL K H a xs) : SqL K H' a xs := by
  rcases h with (h | ⟨o, h⟩) | h
  · exact .inl (.inl (e _ _ h))
  · exact .inl (.inr ⟨o, e _ _ h⟩)
  · exact .inr h

end L2



namespace L2
open PySem PySem.Spec PyProof.Rows

theorem quietX {α : Type} {t : Sem α} {Q Q' : α → Shared → Prop} {M : Model} {A : Around} {E : Value → Shared → Prop} {s : Shared} (h : wpAny M A t Q (fun _ _ => False) s) (hQ : ∀ a s, Q a s → Q' a s) : wpAny M A t Q' E s :=
  wpAny_mono h hQ fun _ _ z => z.elim
theorem vals_of_get : ∀ {xs : List V} {us : List Value}, xs.length = us.length → (∀ (i : Nat) (x : V) (u : Value), xs[i]? = some x → us[i]? = some u → RelV x u) → Vals xs us
  | [], [], _, _ => .nil
  | [], _ :: _, h, _ => by simp at h
  | _ :: _, [], h, _ => by simp at h
  | x :: xs, u :: us, h, f => .cons (f 0 x u rfl rfl) (vals_of_get (by simpa using h) fun i y w e1 e2 => f (i + 1) y w (by simpa using e1) (by simpa using e2))

def cxComp (X : Cx) (scope : Scope) (cl : List (Str × Addr)) (NC : List Str) (fp : List Addr) (C : Addr) (s₀ : Shared) (H₀ : Hp) : Cx where
  prog := X.prog
  w := X.w
  K := X.K
  mg := X.mg
  base := X.base
  A := X.A
  N := NC
  s₀ := s₀
  H₀ := H₀
  env := compEnvC scope cl C X.env
  outer := X.stack
  stack := X.stack
  ex := fp
  fn := fun _ => false
  calm := X.calm
  pn := []
  xe := fun _ _ => False
structure CompOk (X : Cx) (scope : Scope) (cl : List (Str × Addr)) (NC : List Str) (ini : List (Option Nat)) : Prop where
  clos : closureFor scope X.env = pure cl
  cell : ∀ y ∈ scope.names, y.2 ≠ .cell
  kind : scope.kind = .function
  names : ∀ y ∈ scope.names, y.2 = .local → scope.names.lookup y.1 = some .local
  cls : ∀ x c, cl.lookup x = some c → X.env.cells.lookup x = some c
  has : ∀ x, ((relabel scope X.env).names.lookup x = some .cell ∨ (relabel scope X.env).names.lookup x = some .free) → ∃ c, cl.lookup x = some c
  len : ini.length = NC.length
  src : ∀ (i j : Nat) (x : Str), ini[i]? = some (some j) → NC[i]? = some x → X.N[j]? = some x ∧ (X.env.kindOf x = some .cell ∨ X.env.kindOf x = some .free) ∧
    ((relabel scope X.env).names.lookup x = some .cell ∨ (relabel scope X.env).names.lookup x = some .free)
def iniSt (ini : List (Option Nat)) (σ : St) : St := ini.map fun o => o.bind fun j => (σ[j]?).join
section
variable {X : Cx} {scope : Scope} {cl : List (Str × Addr)} {NC : List Str} {ini : List (Option Nat)} {pins : List (Addr × Obj)} {σ : St} {H : Hp} {s : Shared} {fp : List Addr}
theorem inv_comp {h₁ : Heap} {tk : Nat} {m : Str → Option Value} (O : CompOk X scope cl NC ini) (I : Inv X pins σ H s) (hf : ∀ b ∈ fp, FpOk X pins H b) (ho : ∀ b ∈ fp, ∃ o, s.heap.get? b = some o)
    (hn : h₁.Ns s.heap.objs.size m) (hk : ∀ b o, s.heap.get? b = some o → h₁.get? b = some o) :
    Inv (cxComp X scope cl NC fp s.heap.objs.size s H) [] (iniSt ini σ) H { s with heap := h₁, toks := tk } := by
  have lt : ∀ b ∈ fp, b < s.heap.objs.size := fun b hb => let ⟨o, e⟩ := ho b hb; Heap.lt_size e
  refine ⟨⟨I.ok.mod, O.kind, I.ok.glob, I.ok.blt, Nat.le_refl _, fun x y c h1 h2 => I.ok.inj x y c (O.cls x c h1) (O.cls y c h2), O.has, fun x c h => (Bool.false_ne_true h).elim, I.ok.hd, I.ok.frames, .inl rfl,
      fun b hb => ⟨Nat.ne_of_lt (lt b hb), fun x c h => (hf b hb).2.2.2.2.1 x c (O.cls x c h)⟩, I.bs, Nat.le_trans I.ok.bsz I.sz, fun b o e hb => ?_, fun b hb hs => ?_, I.stack, I.stkFree⟩,
    rfl, I.bare, Un.kept hk, ⟨m, hn, fun i x v e1 e2 e3 => ?_⟩, fun x c h => ?_, I.hok.fresh (Nat.le_refl _), fun x c h => I.freeC x c (O.cls x c h), fun p hp => absurd (show p ∈ ([] : List (Addr × Obj)) from hp) (by simp), I.hok.kept hk, ?_⟩
  · rcases (hf b hb).2.2.2.1 with z | z
    · exact I.ok.noex b o e z
    · exact absurd (Nat.lt_of_lt_of_le (Heap.lt_size e) (Nat.le_trans I.ok.bsz z)) (Nat.lt_irrefl _)
  · rcases List.mem_cons.mp (I.stkSub b hs) with e | e
    · exact (hf b hb).2.1 e
    · exact (hf b hb).2.2.1 e
  · have e2 : (ini.map fun o => o.bind fun j => (σ[j]?).join)[i]? = some (some v) := e2
    rw [List.getElem?_map] at e2
    cases q : ini[i]? with
    | none => rw [q] at e2; cases e2
    | some oj =>
      rw [q] at e2
      cases oj with
      | none => cases e2
      | some j =>
        have e4 : (σ[j]?).join = some v := Option.some.inj e2
        have e5 : σ[j]? = some (some v) := by
          cases z : σ[j]? with
          | none => rw [z] at e4; cases e4
          | some y =>
            rw [z] at e4
            have e4 : y = some v := e4
            rw [e4]
        obtain ⟨a1, a2, a3⟩ := O.src i j x q e1
        obtain ⟨m0, hn0, hl⟩ := I.loc
        obtain ⟨u, r, l⟩ := hl j x v a1 e5 (.inr a2)
        refine ⟨u, r, ?_⟩
        rcases l with ⟨k, _⟩ | ⟨_, c, e, z⟩
        · rcases a2 with a2 | a2
          · rw [k] at a2; cases a2
          · rw [k] at a2; cases a2
        · obtain ⟨c', e'⟩ := O.has x a3
          have e6 := O.cls x c' e'
          rw [e] at e6
          cases e6
          obtain ⟨oc, h1, h2⟩ := z
          exact .inr ⟨a3, c, e', oc, hk _ _ h1, h2⟩
  · obtain ⟨v, oc, h1, h2⟩ := I.cell x c (O.cls x c h)
    exact ⟨v, oc, hk _ _ h1, h2⟩
  · show (ini.map _).length = NC.length
    rw [List.length_map]
    exact O.len
theorem comp_back {pinsC : List (Addr × Obj)} {σ' : St} {H' : Hp} {s' : Shared} {h' : Heap} (I : Inv X pins σ H s) (hf : ∀ b ∈ fp, FpOk X pins H b) (J : Inv (cxComp X scope cl NC fp s.heap.objs.size s H) pinsC σ' H' s')
    (hs : Heap.SameBut s.heap.objs.size s'.heap h') : Inv X pins σ H' { s' with heap := h' } := by
  have ne : ∀ {b : Addr} {o : Obj}, s.heap.get? b = some o → b ≠ s.heap.objs.size := fun e => Nat.ne_of_lt (Heap.lt_size e)
  have hfree : H' s.heap.objs.size = none := J.free
  have B : Un (frs X.stack) fp H H' s.heap s'.heap := J.base
  refine I.call' (s' := { s' with heap := h' }) (ch := fp) J.os ⟨fun b o q n hb hx => (hs.2 b (ne q)).trans (B.keep b o q n hb hx), fun b o q n hb hx => ?_, B.free, fun b o q hx => ?_, B.tups, B.frzs, B.tbls⟩ (fun b u e => ?_) J.bare
    fun b hb => ⟨(hf b hb).2.2.2.1, (hf b hb).2.1, (hf b hb).2.2.2.2.1, (hf b hb).2.2.2.2.2⟩
  · obtain ⟨sl, e⟩ := B.slot b o q n hb hx
    exact ⟨sl, (hs.2 b (ne q)).trans e⟩
  · obtain ⟨o', e⟩ := B.there b o q hx
    exact ⟨o', (hs.2 b (ne q)).trans e⟩
  · refine (J.hok b u e).stay (fun c v hc q => (hs.2 c ?_).trans q) (fun _ q => q) fun _ _ q => q
    rintro rfl
    rcases hc with hc | hc
    · rw [← hc, hfree] at e; cases e
    · rw [hfree] at hc; cases hc
end

def PTs (X : Cx) (ifs : List Expr) (t : TT) : Prop :=
  ∀ (pins : List (Addr × Obj)) (s : Shared) (σ : St) (H : Hp) (Q : Bool → Hp → Prop), Inv X pins σ H s → t σ H Q →
    wpAny (model X.prog X.w) X.A (forIn ifs true fun c r => if r = true then do let ok ← isTrue c X.env (eval c X.env); pure (ForInStep.yield ok) else pure (ForInStep.yield r)) (TP X pins σ Q) X.xe s
theorem pts_one {X : Cx} {c : Expr} {t : TT} (h : PT X c t) : PTs X [c] t := fun pins s σ H Q I hw => wpAny_tests_one (h pins s σ H Q I hw)

def CompW (J : It) (g : TG) (tt : TT) (te : TE) (D : Addr) (Q : VK) (σ₀ : St) (H₀ : Hp) : Prop :=
  ∃ W : Nat → Nat → St → Hp → Prop, (∃ m, W 0 m σ₀ H₀) ∧ ∀ i m σ' H', W i m σ' H' →
    (J.stop i H' ∧ Q (.ref D) H') ∨ (J.go i H' ∧ ∃ N : St → Hp → Prop, (∀ σ2 H2, N σ2 H2 → ∃ m', m' < m ∧ W (i + 1) m' σ2 H2) ∧
      ∀ x H2, J.yld i H' x H2 → g x σ' H2 fun σ3 H3 => tt σ3 H3 fun b H4 => if b = true then te σ3 H4 fun v H5 => ∃ ys, H5 D = some (.lst ys) ∧ ys.length < sizeLine ∧ N σ3 (upd H5 D (.lst (ys ++ [v]))) else N σ3 H4)
def tComp (wi : TI) (g : TG) (tt : TT) (te : TE) (ini : List (Option Nat)) : TE := fun σ H Q => wi σ H fun J H1 => ∀ D, H1 D = none → CompW J g tt te D Q (iniSt ini σ) (upd H1 D (.lst []))
theorem pe_comp {X : Cx} {elt iter tg : Expr} {ifs : List Expr} {scope : Scope} {pos : Pos} {cl : List (Str × Addr)} {NC : List Str} {ini : List (Option Nat)} {wi : TI} {g : TG} {tt : TT} {te : TE}
    (hc : X.calm = true) (O : CompOk X scope cl NC ini) (hi : PI X tg iter wi)
    (hg : ∀ fp C s₀ H₀, PG (cxComp X scope cl NC fp C s₀ H₀) tg g) (ht : ∀ fp C s₀ H₀, PTs (cxComp X scope cl NC fp C s₀ H₀) ifs tt) (he : ∀ fp C s₀ H₀, PE (cxComp X scope cl NC fp C s₀ H₀) elt te)
    (hs : ∀ x, foldedSetIterable iter X.env x = pure x := by intro _; rfl) : PE X (.ListComp elt [⟨tg, iter, ifs, 0⟩] scope pos) (tComp wi g tt te ini) := by
  intro pins s σ H Q I h
  rw [eval_ListComp]
  refine wpAny_comprehension_free (use := none) rfl hs O.clos O.kind O.names (thn (hi pins s σ H _ I h) fun v s1 h1 => thn h1 fun itv s2 h2 => ?_)
  obtain ⟨it, fp, tn, J, H2, e, I2, T, st2, f2, h2⟩ := h2
  subst e
  have hD : H2 s2.heap.objs.size = none := I2.hok.fresh (Nat.le_refl _)
  obtain ⟨W, ⟨m0, w0⟩, turn⟩ := h2 _ hD
  refine wpAny_newObj_type (wpAny_newFunctionEnv O.cell (by intro y hy; simp at hy) (fun h₁ hns₁ hsb₁ => ?_) O.kind)
  dsimp only at hns₁ hsb₁ ⊢
  have I3 : Inv X pins σ (upd H2 s2.heap.objs.size (.lst [])) { s2 with heap := s2.heap.push { cls := .type "list", dict := none, data := .seq ([] : List Value).toArray } } := I2.lnew (its := []) (t' := s2.toks) .nil (by decide)
  have ob2 : ∀ b ∈ fp, ∃ o, s2.heap.get? b = some o := fun b hb => let ⟨o, e, _⟩ := T.obj 0 _ st2 b hb; ⟨o, e⟩
  have neD : ∀ b ∈ fp, b ≠ s2.heap.objs.size := fun b hb => let ⟨o, e⟩ := ob2 b hb; Nat.ne_of_lt (Heap.lt_size e)
  have f3 : ∀ b ∈ fp, FpOk X pins (upd H2 s2.heap.objs.size (.lst [])) b := fun b hb => ⟨by rw [upd_ne (neD b hb)]; exact (f2 b hb).1, (f2 b hb).2⟩
  generalize hs3 : ({ s2 with heap := s2.heap.push { cls := .type "list", dict := none, data := .seq ([] : List Value).toArray } } : Shared) = s3 at I3
  have hh3 : s2.heap.push { cls := .type "list", dict := none, data := .seq ([] : List Value).toArray } = s3.heap := by rw [← hs3]
  have ob3 : ∀ b ∈ fp, ∃ o, s3.heap.get? b = some o := fun b hb => let ⟨o, e⟩ := ob2 b hb; ⟨o, by rw [← hh3]; exact Heap.get?_push_of_some _ e⟩
  rw [hh3] at hns₁ hsb₁ ⊢
  have old : ∀ b o, s3.heap.get? b = some o → h₁.get? b = some o := fun b o e => hsb₁.extBut b o (Nat.ne_of_lt (Heap.lt_size e)) (Heap.get?_push_of_some _ e)
  have st1 : tn 0 h₁ := T.keep 0 _ _ st2 fun b hb o e => old b o (by rw [← hh3]; exact Heap.get?_push_of_some _ e)
  have IC : ∀ tk, Inv (cxComp X scope cl NC fp s3.heap.objs.size s3 (upd H2 s2.heap.objs.size (.lst []))) [] (iniSt ini σ) (upd H2 s2.heap.objs.size (.lst [])) { s3 with heap := h₁, toks := tk } := fun tk => inv_comp O I3 f3 ob3 hns₁ old
  have stat : ∀ {H' : Hp}, (∀ b ∈ fp, H' b = none) → ∀ b ∈ fp, FpOk (cxComp X scope cl NC fp s3.heap.objs.size s3 (upd H2 s2.heap.objs.size (.lst []))) [] H' b := fun {H'} hn b hb => by
    obtain ⟨o, e⟩ := ob3 b hb
    refine ⟨hn b hb, Nat.ne_of_lt (Heap.lt_size e), fun z => ?_, .inl hb, fun x c hx => (f3 b hb).2.2.2.2.1 x c (O.cls x c hx), fun p hp => absurd (show p ∈ ([] : List (Addr × Obj)) from hp) (by simp)⟩
    rcases List.mem_cons.mp (I3.stkSub b z) with q | q
    · exact (f3 b hb).2.1 q
    · exact (f3 b hb).2.2.1 q
  have loop : ∀ s₃ : Shared, s₃ = { s2 with heap := h₁, toks := s2.toks + ([] : List (Str × Value)).length } →
      codeAny (model X.prog X.w) X.A (.compLoop (.ListComp elt [⟨tg, iter, ifs, 0⟩] scope pos) 0 (.ref it) (.ref s2.heap.objs.size) (compEnvC scope cl s3.heap.objs.size X.env))
        (compPost (model X.prog X.w) X.A X.xe none (EP X pins σ Q) (.ref s2.heap.objs.size) s3.heap.objs.size) s₃ := by
    rintro s₃ rfl
    refine codeAny_loop rfl (fun n s' => ∃ i σ' H', Inv (cxComp X scope cl NC fp s3.heap.objs.size s3 (upd H2 s2.heap.objs.size (.lst []))) [] σ' H' s' ∧ tn i s'.heap ∧ (∀ b ∈ fp, H' b = none) ∧ W i n σ' H') (fun n s' hI => ?_) m0
      ⟨0, _, _, by have z := IC (s2.toks + ([] : List (Str × Value)).length); rw [← hs3] at z ⊢; exact z, st1, fun b hb => (f3 b hb).1, w0⟩
    show wpAny _ X.A ((compTurn (.ListComp elt [⟨tg, iter, ifs, 0⟩] scope pos) 0 (.ref it) (.ref s2.heap.objs.size) (compEnvC scope cl s3.heap.objs.size X.env)).onRaise (fun x => do noteFrame x (compEnvC scope cl s3.heap.objs.size X.env); theTreesLotGoes x)) _ _ s'
    refine wpAny_noted ?_
    rw [compTurn_list]
    obtain ⟨i, σ3, H3, I3', st3, fr3, w3⟩ := hI
    rcases turn i n σ3 H3 w3 with ⟨stop, qn⟩ | ⟨go, N, hN, step⟩
    · refine wpAny_bind (wpAny_standAt (wpAny_bind (thn (T.done (cxComp X scope cl NC fp s3.heap.objs.size s3 (upd H2 s2.heap.objs.size (.lst []))) rfl rfl rfl hc i [] s' σ3 H3 _ I3' (stat fr3) st3 stop) fun r s4 ⟨hr, I4⟩ => ?_)))
      subst hr
      obtain ⟨m', hn', _⟩ := I4.loc
      exact wpAny_pure ⟨m', hn', fun h' hs' => ⟨.ref s2.heap.objs.size, H3, comp_back I3 f3 I4 hs', rfl, qn⟩⟩
    · refine wpAny_bind (wpAny_standAt (wpAny_bind (thn (T.item (cxComp X scope cl NC fp s3.heap.objs.size s3 (upd H2 s2.heap.objs.size (.lst []))) rfl rfl rfl hc i [] s' σ3 H3 _ I3' (stat fr3) st3 go) fun r s4 ⟨u, hr, h4⟩ => ?_)))
      subst hr
      refine wpAny_bind (thn h4 fun _ s5 ⟨x, H5, I5, r5, y5, st5, fr5⟩ => ?_)
      have I5' := I5.pinned (stat fr5) (T.obj _ _ st5)
      refine wpAny_bind (quietX (hg fp _ s3 _ _ s5 σ3 H5 x u _ I5' r5 (step x H5 y5)) fun _ s6 ⟨σ6, H6, I6, q6⟩ => ?_)
      have again : ∀ {s7 : Shared} {H7 : Hp}, Inv (cxComp X scope cl NC fp s3.heap.objs.size s3 (upd H2 s2.heap.objs.size (.lst []))) ([] ++ pinsAt fp s5.heap) σ6 H7 s7 → N σ6 H7 →
          ∃ m, m < n ∧ ∃ i σ' H', Inv (cxComp X scope cl NC fp s3.heap.objs.size s3 (upd H2 s2.heap.objs.size (.lst []))) [] σ' H' s7 ∧ tn i s7.heap ∧ (∀ b ∈ fp, H' b = none) ∧ W i m σ' H' := fun {s7 H7} I7 n7 => by
        obtain ⟨m', hm, w7⟩ := hN σ6 H7 n7
        refine ⟨m', hm, i + 1, σ6, H7, I7.unpinned, T.keep _ _ _ st5 fun b hb o e => (I7.pin (b, o) (List.mem_append_right _ (List.mem_append_right _ (mem_pinsAt hb e)))).1, fun b hb => ?_, w7⟩
        obtain ⟨o, e, d⟩ := T.obj _ _ st5 b hb
        exact (I7.pin (b, o) (List.mem_append_right _ (List.mem_append_right _ (mem_pinsAt hb e)))).2.1
      refine wpAny_bind (quietX (ht fp _ s3 _ _ s6 σ6 H6 _ I6 q6) fun ok s7 ⟨H7, I7, q7⟩ => ?_)
      cases ok with
      | false => exact wpAny_pure ⟨rfl, again I7 q7⟩
      | true =>
        refine wpAny_bind (wpAny_bind (quietX (he fp _ s3 _ _ s7 σ6 H7 _ I7 q7) fun u8 s8 ⟨v8, H8, I8, r8, ys, hy, hz, n8⟩ => ?_))
        refine wpAny_bind (quietX (mt_append _ s8 σ6 H8 (.ref s2.heap.objs.size) [v8] (.ref s2.heap.objs.size) [u8] (fun _ H9 => N σ6 H9) I8 rfl (.cons r8 .nil) ⟨_, ys, v8, rfl, rfl, hy, hz, n8⟩) fun _ s9 ⟨_, H9, I9, _, n9⟩ => ?_)
        exact wpAny_pure (wpAny_pure ⟨rfl, again I9 n9⟩)
  exact codeAny_compStart_list (loop _ rfl) (T.self _ 0 _ _ _ st1 (loop _ rfl))

section
variable {X : Cx}
theorem call_rng1 : CallR X (.type "range") (fun xs H Q => ∃ j, xs = [.int j] ∧ ∀ p, H p = none → Q (.ref p) (upd H p (.rng 0 j))) := by
  intro pins s σ H xs us Q I r h
  obtain ⟨j, rfl, q⟩ := h
  obtain ⟨u, rfl, ru⟩ := r.one
  obtain ⟨t, rfl⟩ := ru
  refine call_range_1 ⟨.ref s.heap.objs.size, _, I.laid (o := .rng 0 j) (fun b u e => Heap.get?_push_of_some _ e) (Nat.le_refl _) ?_, rfl, q _ (I.hok.fresh (Nat.le_refl _))⟩
  exact ⟨_, _, _, Heap.get?_push_size _ rfl⟩
def rngV (lo : Int) (n : Nat) : List V := (List.range n).map fun (i : Nat) => V.int (lo + i)
theorem rngV_len (lo : Int) (n : Nat) : (rngV lo n).length = n := by unfold rngV; rw [List.length_map, List.length_range]
theorem rngV_get {lo : Int} {n i : Nat} (h : i < n) : (rngV lo n)[i]? = some (.int (lo + i)) := by
  unfold rngV
  rw [List.getElem?_map, List.getElem?_range h]
  rfl
theorem call_list_rng (hc : X.calm = true) : CallR X (.type "list") (fun xs H Q => ∃ p lo hi, xs = [.ref p] ∧ H p = some (.rng lo hi) ∧ (-(2 ^ 62) ≤ lo ∧ lo < 2 ^ 62 ∧ -(2 ^ 62) ≤ hi ∧ hi < 2 ^ 62) ∧ (hi - lo).toNat ≤ 2 ^ 20 ∧
    ∀ l, H l = none → Q (.ref l) (upd H l (.lst (rngV lo (hi - lo).toNat)))) := by
  intro pins s σ H xs us Q I r h
  obtain ⟨p, lo, hi, rfl, hp, ⟨b1, b2, b3, b4⟩, hz, q⟩ := h
  obtain ⟨u, rfl, ru⟩ := r.one
  cases ru
  obtain ⟨t, u', v', e⟩ := I.hok p _ hp
  have hsz : (hi - lo).toNat ≤ sizeLine := Nat.le_trans hz (by decide)
  refine call_list_range (n := (hi - lo).toNat) (I.ok.hd hc) (show IsRange s.heap p lo hi 1 t u' v' from e) (small_one b1 b2 b3 b4) (by rw [rangeSize_one]; split <;> omega) (Nat.le_trans hz (by decide)) fun h' tk acc' c' hk hS' hacc => ?_
  refine ⟨.ref s.heap.objs.size, _, I.laid (o := .lst (rngV lo (hi - lo).toNat)) (t' := tk) hk (Nat.le_refl _) ⟨by rw [rngV_len]; exact hsz, acc'.toList, c', ?_, by simpa using hS'⟩, rfl, q _ (I.hok.fresh (Nat.le_refl _))⟩
  refine vals_of_get (by rw [rngV_len, Array.length_toList, hacc.1]) fun i x w e1 e2 => ?_
  have hi' : i < (hi - lo).toNat := by
    have z := (List.getElem?_eq_some_iff.mp e1).1
    rw [rngV_len] at z
    exact z
  rw [rngV_get hi'] at e1
  cases e1
  obtain ⟨t, rfl⟩ := hacc.2 i w (by simpa using e2)
  exact ⟨t, by rw [Int.mul_one]⟩
theorem call_isi : CallR X (.builtin "isinstance") (fun xs H Q => ∃ x n t b, xs = [x, .ty n] ∧ TyOf X.K H x t ∧ PySem.W.kitOne X.K t (.type n) = some b ∧ Q (.bl b) H) := by
  intro pins s σ H xs us Q I r h
  obtain ⟨x, n, t, b, rfl, ty, e, q⟩ := h
  obtain ⟨u, v, rfl, ru, rv⟩ := r.two
  cases rv
  exact isinst_ok I ru ty e fun tk => ⟨.bl b, H, I.tok tk, rfl, q⟩
theorem kit_int_int (K : PySem.W.Frag) : PySem.W.kitOne K (.type "int") (.type "int") = some true := by unfold PySem.W.kitOne; rw [if_pos (by decide +kernel)]
theorem kit_tup_tup (K : PySem.W.Frag) : PySem.W.kitOne K (.type "tuple") (.type "tuple") = some true := by unfold PySem.W.kitOne; rw [if_pos (by decide +kernel)]
theorem kit_lst_lst (K : PySem.W.Frag) : PySem.W.kitOne K (.type "list") (.type "list") = some true := by unfold PySem.W.kitOne; rw [if_pos (by decide +kernel)]
theorem kit_int_bool (K : PySem.W.Frag) : PySem.W.kitOne K (.type "int") (.type "bool") = some false := by
  unfold PySem.W.kitOne
  rw [if_neg (by decide +kernel)]
  show (if PySem.W.kitMeta "bool" = true then (fastBuiltinMro "int").map (·.contains (Value.type "bool")) else none) = some false
  decide +kernel
end

structure Fn (K : PySem.W.Frag) (mg : Str → Option Value) (x : Str) (st : Stmt) (ps : List Str) (f : Addr) (fd : FuncData) : Prop where
  fn : Fun K x x st f fd
  b : Binds K fd ps []
  g : mg x = some (.ref f)
theorem Fn.mk' {K : PySem.W.Frag} {mg : Str → Option Value} {x : Str} {st : Stmt} {ps : List Str} {f : Addr} {fd : FuncData} (F : Fun K x x st f fd)
    (h : ∀ (kV doc pm : Value) (an : Option Addr) (cdv ct : Value) (us : List Value), us.length = ps.length → bindArgs (PySem.W.fnOf x x (defArgs st) (defBody st) (defScope st) .none kV doc pm an cdv ct) ⟨us, []⟩ = pure (ps.zip us))
    (g : mg x = some (.ref f)) : Fn K mg x st ps f fd := ⟨F, F.binds h, g⟩
theorem pe_fn {X : Cx} {x : Str} {st : Stmt} {ps : List Str} {f : Addr} {fd : FuncData} {k : Nat} {sp : Sp} {e : Expr} {es : List Expr} {t : TA} {p pos : Pos} (G : FnOk X.prog X.w X.K X.mg X.base CX0 k f fd ps sp) (F : Fn X.K X.mg x st ps f fd) (hr : Room k X.A) (ha : PA X (e :: es) t)
    (hg : Gl X x := by rfl) (hdb : (x == ("__debug__" : Str)) = false := by decide) (he : starEach (e :: es) X.env = (false, eval e X.env) :: starEach es X.env := by rfl) (hpl : (backTo pos (starEach es X.env)).any (·.1) = false := by rfl) :
    PE X (.Call (.Name x p) (e :: es) [] pos) (tCall sp [] E0 t) := pe_call G hr hg F.g F.fn.kp F.b .nil pass0 ha hdb he hpl
def spLaw (K : PySem.W.Frag) : Sp := fun vs H Q _ => ∃ (a : Addr) (ns : List Int), vs = [.ref a] ∧ SqL K H a (ns.map V.int) ∧ ns.length ≤ 63 ∧ ∀ H', Q (.bl true) H'

theorem same_upd {H : Hp} {p : Addr} {o : HO} (h : H p = none) : Same H (upd H p o) := fun b u e => by rw [upd_ne (ne_of_none e h)]; exact e
theorem Same.upd {H H' : Hp} {p : Addr} {o : HO} (s : Same H H') (h : H p = none) : Same H (upd H' p o) := fun b u e => by rw [upd_ne (ne_of_none e h)]; exact s b u e
theorem Same.tup {K : PySem.W.Frag} {H H' : Hp} {a : Addr} {xs : List V} (e : Same H H') (h : SqT K H a xs) : SqT K H' a xs := by
  rcases h with (h | ⟨o, h⟩) | h
  · exact .inl (.inl (e _ _ h))
  · exact .inl (.inr ⟨o, e _ _ h⟩)
  · exact .inr h
theorem ixN_of {n : Nat} {k : Int} (h0 : 0 ≤ k) (h1 : k < n) : ixN n k = some k.toNat := by unfold ixN; rw [if_pos h0, if_pos h1]
theorem bb_len : bootBuiltins "len" = some (.builtin "len") := by decide +kernel
theorem bb_isinstance : bootBuiltins "isinstance" = some (.builtin "isinstance") := by decide +kernel
theorem bb_sorted : bootBuiltins "sorted" = some (.builtin "sorted") := by decide +kernel
theorem bb_int : bootBuiltins "int" = some (.type "int") := by decide +kernel
theorem bb_bool : bootBuiltins "bool" = some (.type "bool") := by decide +kernel
theorem bb_list : bootBuiltins "list" = some (.type "list") := by decide +kernel
theorem bb_tuple : bootBuiltins "tuple" = some (.type "tuple") := by decide +kernel
theorem bb_range : bootBuiltins "range" = some (.type "range") := by decide +kernel
theorem bb_min : bootBuiltins "min" = some (.builtin "min") := by decide +kernel
end L2



namespace Th
open Classical
section
variable {N : Nat} {a b : Nat → Nat}
inductive Kd | ring | odd | bare | tied
deriving DecidableEq
end
end Th



namespace L2
open PySem PySem.Spec PyProof.Rows
section
variable {X : Cx}
theorem comp_tup {K : PySem.W.Frag} {a : Addr} {xs : List V} {g : TG} {tt : TT} {te : TE} {D : Addr} {Q : VK} {σ₀ : St} {H₀ : Hp} (Pv : Nat → St → Hp → Prop) (h0 : Pv 0 σ₀ H₀) (hl : ∀ i σ H, i ≤ xs.length → Pv i σ H → SqT K H a xs)
    (hs : ∀ i x σ H, xs[i]? = some x → Pv i σ H → g x σ H fun σ3 H3 => tt σ3 H3 fun b H4 => if b = true then te σ3 H4 fun v H5 => ∃ ys, H5 D = some (.lst ys) ∧ ys.length < sizeLine ∧ Pv (i + 1) σ3 (upd H5 D (.lst (ys ++ [v]))) else Pv (i + 1) σ3 H4)
    (hd : ∀ σ H, Pv xs.length σ H → Q (.ref D) H) : CompW (Itt K a) g tt te D Q σ₀ H₀ := by
  refine ⟨fun i m σ H => m = xs.length - i ∧ i ≤ xs.length ∧ Pv i σ H, ⟨xs.length, by simp, Nat.zero_le _, h0⟩, ?_⟩
  rintro i m σ H ⟨rfl, hi, p⟩
  have q := hl i σ H hi p
  by_cases hlt : i < xs.length
  · refine .inr ⟨⟨xs, xs[i], q, by simp [hlt]⟩, Pv (i + 1), fun σ' H' p' => ⟨xs.length - (i + 1), by omega, rfl, hlt, p'⟩, fun x H' y => ?_⟩
    obtain ⟨e, y⟩ := y
    subst e
    exact hs i x σ _ (y xs q) p
  · have e : i = xs.length := by omega
    subst e
    exact .inl ⟨⟨xs, q, Nat.le_refl _⟩, hd σ H p⟩

end
end L2

namespace L2
open PySem PySem.Spec PyProof.Rows

theorem ObjOk.obj {P : Program} {w : World} {H : Hp} {h : Heap} {a : Addr} : ∀ {o : HO}, ObjOk P w H h a o → ∃ u, h.get? a = some u := fun {o} x => by
  cases o with
  | lst xs => obtain ⟨_, _, _, _, e⟩ := x; exact ⟨_, e⟩
  | tup xs => obtain ⟨_, _, _, o, e, _⟩ := x; exact ⟨_, e⟩
  | dK kvs => obtain ⟨_, _, _, _, o, _, _, e, _⟩ := x; exact ⟨_, e⟩
  | dT kvs => obtain ⟨_, _, _, _, o, _, _, e, _⟩ := x; exact ⟨_, e⟩
  | set S n => obtain ⟨o, _, _, _, e, _⟩ := x; exact ⟨_, e⟩
  | ins C dx fs => obtain ⟨_, _, _, e, _⟩ := x; exact ⟨_, e⟩
  | own y => exact x
  | xd fs => obtain ⟨_, ⟨_, _, _, e, _⟩, _⟩ := x; exact ⟨_, e⟩
  | rng lo hi => obtain ⟨_, _, _, e⟩ := x; exact ⟨_, e⟩
  | frz ob u => obtain ⟨e, _⟩ := x; exact ⟨_, e⟩
  | tbl ps => exact ⟨_, (show h.get? a = some _ from x)⟩
  | met f y => exact ⟨_, (show h.get? a = some _ from x)⟩
  | ext φ => obtain ⟨_, e, _⟩ := x; exact e
def noFr (h : Heap) (l : List Env) : Heap := PySem.W.hideAll h (frs l)
theorem noFr_get {h : Heap} {l : List Env} {b : Addr} {o : Obj} (e : h.get? b = some o) (n : b ∉ frs l) : (noFr h l).get? b = some o := PySem.W.hideAll_get _ e n
theorem of_noFr {h : Heap} {l : List Env} {b : Addr} {o : Obj} (e : (noFr h l).get? b = some o) : h.get? b = some o := PySem.W.of_hideAll _ e
theorem noFr_frames {h base : Heap} {l : List Env} (x : h.FunFrames base l) : h.FunFrames (noFr h l) l := PySem.W.funFrames_hide x fun env he a hf => List.mem_filterMap.mpr ⟨env, he, hf⟩

def Sta (B : Heap) (l : List Env) (a : Addr) (cls : Value) (h : Heap) : Prop := ∃ a0,
  (B.StaysIn h ∧ B.get? a = none ∧ h.FunFrames B l ∧ ∃ oe vs, h.get? a = some oe ∧ oe.cls = cls ∧ oe.data = .fields vs ∧ vs[1]? = some .none ∧ vs[0]? = some a0) ∨
  Heap.FlyingW B l a cls a0 h ∨ ∃ L env outer, l = env :: outer ∧ env.frame = some L ∧ Heap.HeldW B l a cls a0 L h
theorem Sta.stays {B h : Heap} {l : List Env} {a : Addr} {cls : Value} (x : Sta B l a cls h) : B.StaysIn h := by
  obtain ⟨a0, x | x | ⟨_, _, _, _, _, x⟩⟩ := x
  · exact x.1
  · exact x.1
  · exact x.1
theorem Sta.frames {B h : Heap} {l : List Env} {a : Addr} {cls : Value} (x : Sta B l a cls h) : h.FunFrames B l := by
  obtain ⟨a0, x | x | ⟨_, _, _, _, _, x⟩⟩ := x
  · exact x.2.2.1
  · exact x.2.2.1
  · exact x.2.2.1
section
variable {M : Model} {A : Around} {E : Value → Shared → Prop} {s : Shared} {B : Heap} {env : Env} {outer : List Env} {L a : Addr} {cls : Value}
theorem sta_note {Q : Unit → Shared → Prop} (hfr : A.frames = some (env :: outer)) (hf : env.frame = some L) (x : Sta B (env :: outer) a cls s.heap)
    (hQ : ∀ h' a0, Heap.HeldW B (env :: outer) a cls a0 L h' → s.heap.UpToSlots h' → Q () { s with heap := h' }) : wpAny M A (noteFrame (.ref a) env) Q E s := by
  obtain ⟨a0, ⟨x1, x2, x3, oe, vs, he, hc, hd, h1, h0⟩ | x | ⟨L', env', outer', e1, e2, x⟩⟩ := x
  · unfold noteFrame
    simp only [hf]
    refine wpAny_bind (wpAny_field he hd h1 ?_)
    rw [if_neg (by decide)]
    refine wpAny_entryW hfr x3 hf he x1 x2 hd (Array.getElem?_eq_some_iff.mp h1).1 h0 fun h' hN => ?_
    obtain ⟨k1, k2, k3, k4⟩ := hN
    rw [hc] at k3
    exact hQ h' a0 ⟨k1, x2, k2, k3⟩ k4
  · exact wpAny_looks_onW hfr hf x fun h' k1 k2 => hQ h' a0 k1 k2
  · cases e1
    rw [hf] at e2
    cases e2
    exact wpAny_noteFrame_againW hf x.2.2.2 (hQ s.heap a0 x (Heap.UpToSlots.refl _))
theorem sta_leave {Q : Unit → Shared → Prop} (hfr : A.frames = some (env :: outer)) (hf : env.frame = some L) (x : Sta B (env :: outer) a cls s.heap)
    (hQ : ∀ h' a0, Heap.FlyingW B outer a cls a0 h' → s.heap.UpToSlots h' → Q () { s with heap := h' }) : wpAny M A (leaving env (.ref a)) Q E s := by
  unfold leaving
  refine wpAny_bind (sta_note hfr hf x fun h1 a0 k1 k2 => ?_)
  refine wpAny_landsW k1 fun h2 k3 k4 => ?_
  obtain ⟨c1, c2, ⟨_, _, c3⟩, c4⟩ := k3
  exact hQ h2 a0 ⟨c1, c2, c3, c4⟩ (k2.trans k4)
end

structure XAt (P : Program) (w : World) (l : List Env) (ex : List Addr) (H : Hp) (s : Shared) (B : Heap) (a : Addr) (cls : Value) (H' : Hp) (s' : Shared) : Prop where
  os : s'.os = s.os
  bare : AllBare s'.gens
  un : Un (frs l) ex H H' s.heap s'.heap
  hok : HOk P w H' s'.heap
  na : H' a = none
  sta : Sta B l a cls s'.heap
  old : ∀ b o, s.heap.get? b = some o → b ∉ frs l → b ∉ ex → ∃ o', s'.heap.get? b = some o' ∧ B.get? b = some o'
  trk : ∀ b, H' b ≠ none → ∃ o, s'.heap.get? b = some o ∧ B.get? b = some o
theorem XAt.move {P : Program} {w : World} {l l' : List Env} {ex : List Addr} {H H' : Hp} {s s' : Shared} {B h' : Heap} {a : Addr} {cls : Value} (x : XAt P w l ex H s B a cls H' s') (k : s'.heap.UpToSlots h') (st : Sta B l' a cls h')
    (hsub : ∀ b ∈ frs l', b ∈ frs l) (hin : ∀ b o, s.heap.get? b = some o → b ∈ frs l → b ∈ frs l') (hx : ∀ b ∈ frs l, b ∉ ex) : XAt P w l' ex H s B a cls H' { s' with heap := h' } := by
  have sB := st.stays
  have nf : ∀ b ∈ frs l, ∀ o, s'.heap.get? b = some o → ∀ vs, o.data ≠ .fields vs := fun b hb o e => by
    obtain ⟨_, o', e', d⟩ := x.sta.frames.mem hb
    rw [e] at e'; cases e'
    exact d
  have oldK : ∀ b o, s.heap.get? b = some o → b ∉ frs l' → b ∉ ex → ∃ o', s'.heap.get? b = some o' ∧ B.get? b = some o' := fun b o e hb he => x.old b o e (fun z => hb (hin b o e z)) he
  refine ⟨x.os, x.bare, ⟨fun b o e n hb he => ?_, fun b o e n hb he => ?_, x.un.free, fun b o e he => ?_, x.un.tups, x.un.frzs, x.un.tbls⟩, fun b u e => ?_, x.na, st, fun b o e hb he => ?_, fun b hb => ?_⟩
  · have e1 := x.un.keep b o e n (fun z => hb (hin b o e z)) he
    obtain ⟨o', e2, e3⟩ := oldK b o e hb he
    rw [e1] at e2; cases e2
    exact sB b _ e3
  · obtain ⟨sl, e1⟩ := x.un.slot b o e n (hsub b hb) he
    obtain ⟨sl', e2⟩ := k b _ e1 (nf b (hsub b hb) _ e1)
    exact ⟨sl', e2⟩
  · by_cases hb : b ∈ frs l
    · obtain ⟨_, o', e', d⟩ := x.sta.frames.mem hb
      obtain ⟨sl', e2⟩ := k b _ e' d
      exact ⟨_, e2⟩
    · obtain ⟨o', _, e3⟩ := x.old b o e hb he
      exact ⟨o', sB b _ e3⟩
  · refine (x.hok b u e).stay (fun c v hc q => ?_) (fun _ q => q) fun _ _ q => q
    have hn : H' c ≠ none := by
      rcases hc with rfl | hc
      · rw [e]; exact fun z => nomatch z
      · rw [hc]; exact fun z => nomatch z
    obtain ⟨o', e1, e2⟩ := x.trk c hn
    rw [q] at e1; cases e1
    exact sB c _ e2
  · obtain ⟨o', _, e3⟩ := oldK b o e hb he
    exact ⟨o', sB b _ e3, e3⟩
  · obtain ⟨o', _, e3⟩ := x.trk b hb
    exact ⟨o', sB b _ e3, e3⟩

def CXo (P : Program) (w : World) : CXT := fun outer H s E e s' => ∃ a cls H' B, e = .ref a ∧ XAt P w outer [] H s B a cls H' s' ∧ E cls none H'
def BodyX (X : Cx) (E : XK) (e : Value) (s' : Shared) : Prop := ∃ a cls H' B, e = .ref a ∧ XAt X.prog X.w X.stack X.ex X.H₀ X.s₀ B a cls H' s' ∧ E cls none H'
section
variable {X : Cx} {E : XK}
theorem passX {F : Value → Shared → Prop} : Passes (CXo X.prog X.w) (X.wish (BodyX X E)) E := fun pins σ H s e s' I h => by
  have I := I.unwish
  obtain ⟨a, cls, H', B, rfl, x, hE⟩ := h
  have U : Un (frs X.stack) X.ex X.H₀ H X.s₀.heap s.heap := I.base.mono (fun b hb => by
    rcases I.ok.stk with z | ⟨z, _⟩
    · rw [z]; exact hb
    · rw [z]; unfold frs; rw [List.filterMap_cons]; split
      · exact hb
      · exact List.mem_cons_of_mem _ hb) fun b hb => hb
  have U2 : Un (frs X.stack) X.ex H H' s.heap s'.heap := x.un.mono (fun b hb => hb) fun b hb => absurd hb (by simp)
  refine ⟨a, cls, H', B, rfl, ⟨x.os.trans I.os, x.bare, U.trans U2, x.hok, x.na, x.sta, fun b o q hb he => ?_, x.trk⟩, hE⟩
  obtain ⟨o1, e1⟩ := U.there b o q he
  exact x.old b o1 e1 hb (by simp)
end
structure Own (X : Cx) : Prop where
  ok : X.Ok
  top : X.stack = X.env :: X.outer
  fr : X.env.frame = some X.env.locals
  ex : X.ex = []
theorem Own.loc {X : Cx} (o : Own X) : ∀ b o', X.s₀.heap.get? b = some o' → b ∈ frs X.stack → b ∈ frs X.outer := fun b o' e hb => by
  rw [o.top] at hb
  unfold frs at hb
  rw [List.filterMap_cons, o.fr] at hb
  rcases List.mem_cons.mp hb with z | z
  · subst z
    exact absurd (Nat.lt_of_lt_of_le (Heap.lt_size e) o.ok.above) (Nat.lt_irrefl _)
  · exact z
structure ECls (K : PySem.W.Frag) (mg : Str → Option Value) (x : Str) (C : Addr) : Prop where
  g : mg x = some (.ref C)
  ex : ∃ bm newId B initId, PySem.W.excIn K C bm newId = true ∧ ExcBaseFacts B newId initId bm
def tRaise (C : Addr) (t : TA) (E : XK) : TS := fun _ σ H => t σ H fun vs H1 => vs.length ≤ sizeLine ∧ E (.ref C) none H1
theorem ecls_obj {K : PySem.W.Frag} {C : Addr} {bmB : List Value} {newId : String} {h : Heap} (X : K.In h) (q : PySem.W.excIn K C bmB newId = true) :
    ∃ bm ns nm qn bs hd sn sub ab col dd k0 k1 k2 k3 k5 mN, h.get? C = some (excClassObj nm qn C ns bs bm hd sn sub ab col dd k0 k1 k2 k3 k5 newId) ∧ h.Ns ns mN ∧ mN "__init__" = none ∧ OwnTail h bmB bm := by
  unfold PySem.W.excIn at q
  split at q
  · rename_i dd cd sl ho
    split at q
    · rename_i C' bm k0 k1 k2 k3 n k5 hm hs
      simp only [Bool.and_eq_true, beq_iff_eq, Bool.not_eq_true'] at q
      obtain ⟨⟨⟨⟨⟨rfl, rfl⟩, hdel⟩, ht⟩, hok⟩, hni⟩ := q
      obtain ⟨nm, bs, mro, ns, qn, hd, sn, sub, ab, col, del⟩ := cd
      dsimp only at hm hdel hok hni
      subst hm hdel
      have hsl : sl = #[k0, k1, k2, k3, some (.builtin n), k5] := by
        obtain ⟨l⟩ := sl
        simp only at hs
        rw [hs]
      subst hsl
      exact ⟨bm, ns, nm, qn, bs, hd, sn, sub, ab, col, dd, k0, k1, k2, k3, k5, _, X _ _ ho, .of_isNs (PySem.W.isNs_of_in X hok), PySem.W.nsMap_none_of_in X hok hni, PySem.W.tail_of_in X ht⟩
    · cases q
  · cases q
theorem ps_raise {X : Cx} {E : XK} {x : Str} {C : Addr} {np cpos pos : Pos} {e₀ : Expr} {rest : List Expr} {t : TA} (hc : X.calm = true) (Z : ECls X.K X.mg x C) (ha : PA (X.wish (BodyX X E)) (e₀ :: rest) t)
    (hg : Gl X x := by rfl) (hdb : (x == ("__debug__" : Str)) = false := by decide) (he : starEach (e₀ :: rest) X.env = (false, eval e₀ X.env) :: starEach rest X.env := by rfl) (hplain : (backTo cpos (starEach rest X.env)).any (·.1) = false := by rfl) :
    PS (X.wish (BodyX X E)) (.Raise (some (.Call (.Name x np) (e₀ :: rest) [] cpos)) none pos) (tRaise C t E) := by
  intro pins s σ H D I h
  obtain ⟨bmB, newId, Bn, initId, q, FB⟩ := Z.ex
  obtain ⟨bm, ns, nm, qn, bs, hd, sn, sub, ab, col, dd, k0, k1, k2, k3, k5, mN, hC, hN, hni, T⟩ := ecls_obj I.kIn q
  have hA := ha cpos pins s σ H _ I h
  rw [show starEach (e₀ :: rest) (X.wish (BodyX X E)).env = (false, eval e₀ X.env) :: starEach rest X.env from he] at hA
  refine wpAny_Raise_call_subT (C := C) (nm := nm) (q := qn) (N := ns) (bs := bs) (bm := bm) (hdct := hd) (sn := sn) (sub := sub) (ab := ab) (col := col) (dd := dd) (k0 := k0) (k1 := k1) (k2 := k2) (k3 := k3) (k5 := k5)
    FB (mN := mN) (T.hasType FB.hasBase) (I.ok.hd hc) (by show (backTo cpos (starEach (e₀ :: rest) X.env)).any (·.1) = false; rw [he]; show (false || (backTo cpos (starEach rest X.env)).any (·.1)) = false; rw [hplain]; rfl) hni (ld_glob I hg Z.g ⟨rfl, ?_⟩ hdb)
  show wpAny _ _ (evalArgs (.ref C) true (backTo cpos (starEach (e₀ :: rest) X.env)) []) _ _ s
  rw [he]
  refine Calls.evalArgs_plain (wpAny_mono hA (fun us s2 h2 => ?_) fun _ _ y => y)
  obtain ⟨vs, H2, I2, r2, hz, hE⟩ := h2
  obtain ⟨bm', ns', nm', qn', bs', hd', sn', sub', ab', col', dd', k0', k1', k2', k3', k5', mN', hC2, hN2, hni2, T2⟩ := ecls_obj I2.kIn q
  have J := I2.unwish
  have st : ∀ b o, X.base.get? b = some o → s2.heap.get? b = some o := J.bk
  have hC' : s2.heap.get? C = some (excClassObj nm qn C ns bs bm hd sn sub ab col dd k0 k1 k2 k3 k5 newId) := by
    obtain ⟨bm3, ns3, nm3, qn3, bs3, hd3, sn3, sub3, ab3, col3, dd3, k03, k13, k23, k33, k53, mN3, hC3, hN3, hni3, T3⟩ := ecls_obj J.ok.mod.kin q
    have e1 := (I.unwish.bk _ _ hC3).symm.trans hC
    cases e1
    exact st _ _ hC3
  have hN' : s2.heap.Ns ns mN := by
    obtain ⟨bm3, ns3, nm3, qn3, bs3, hd3, sn3, sub3, ab3, col3, dd3, k03, k13, k23, k33, k53, mN3, hC3, hN3, hni3, T3⟩ := ecls_obj J.ok.mod.kin q
    have e1 := (I.unwish.bk _ _ hC3).symm.trans hC
    injection e1 with e1
    injection e1 with _ _ e1 _
    injection e1 with e1
    injection e1 with _ _ _ e1 _ _ _ _ _ _ _
    subst e1
    have f1 := hN3.keeps I.unwish.bk
    have f2 := hN3.keeps st
    obtain ⟨o1, es1, ep1, g1, g2, g3, g4⟩ := f1
    obtain ⟨o2, es2, ep2, j1, j2, j3, j4⟩ := hN
    rw [g1] at j1; cases j1
    rw [g2] at j2; cases j2
    have em : mN3 = mN := by funext y; rw [← g4 y, ← j4 y]
    rw [← em]
    exact f2
  have T' : OwnTail s2.heap bmB bm := by
    obtain ⟨bm3, ns3, nm3, qn3, bs3, hd3, sn3, sub3, ab3, col3, dd3, k03, k13, k23, k33, k53, mN3, hC3, hN3, hni3, T3⟩ := ecls_obj J.ok.mod.kin q
    have e1 := (I.unwish.bk _ _ hC3).symm.trans hC
    injection e1 with e1
    injection e1 with _ _ e1 _
    injection e1 with e1
    injection e1 with _ _ e1 _ _ _ _ _ _ _ _
    injection e1 with _ e1
    rw [← e1]
    exact T3.keeps st
  refine ⟨rfl, by show us.length ≤ sizeLine; rw [← r2.length]; exact hz, hC', hN', T', fun h' a hx => ?_⟩
  have U : Un (frs X.stack) X.ex X.H₀ H2 X.s₀.heap s2.heap := J.base.mono (fun b hb => by
    rcases J.ok.stk with z | ⟨z, _⟩
    · rw [z]; exact hb
    · rw [z]; unfold frs; rw [List.filterMap_cons]; split
      · exact hb
      · exact List.mem_cons_of_mem _ hb) fun b hb => hb
  obtain ⟨t0, ht1, ht2, ht3⟩ := hx.there
  refine ⟨a, .ref C, H2, noFr s2.heap X.stack, rfl, ⟨J.os, J.bare, U.trans (Un.kept hx.keeps), J.hok.kept hx.keeps, ?_, ⟨_, .inl ⟨fun b o e => hx.keeps b o (of_noFr e), ?_, ?_, _, _, ht1, rfl, rfl, rfl, rfl⟩⟩, fun b o e hb he => ?_, fun b hb => ?_⟩, hE⟩
  · cases z : H2 a with
    | none => rfl
    | some u =>
      obtain ⟨o, e⟩ := (J.hok a u z).obj
      rw [hx.new] at e; cases e
  · cases z : (noFr s2.heap X.stack).get? a with
    | none => rfl
    | some o => have := of_noFr z; rw [hx.new] at this; cases this
  · exact (noFr_frames J.stack).of_keeps fun b o e _ => ⟨o, hx.keeps b o e, rfl⟩
  · obtain ⟨o1, e1⟩ := U.there b o e he
    exact ⟨o1, hx.keeps b o1 e1, noFr_get e1 hb⟩
  · obtain ⟨u, hu⟩ := Option.ne_none_iff_exists'.mp hb
    obtain ⟨o, e⟩ := (J.hok b u hu).obj
    exact ⟨o, hx.keeps b o e, noFr_get e fun z => hb (J.stkFree b z)⟩

theorem Fun.okX {P : Program} {w : World} {K : PySem.W.Frag} {mg : Str → Option Value} {base : Heap} {x qual : Str} {st : Stmt} {f : Addr} {fd : FuncData} {N ps : List Str} {k : Nat} {sp : Sp} (F : Fun K x qual st f fd) (S : FnScope N ps (defScope st)) (len : ∀ vs H Q E, sp vs H Q E → vs.length = ps.length)
    (hbody : ∀ (cdv : Value) (A : Around) (outer : List Env) (s : Shared) (H : Hp) (vs : List V) (Q : VK) (E : XK), Room k (A.deeper (envOfC qual (defScope st) s.heap.objs.size f cdv)) → sp vs H Q E → ∀ X : Cx, X = cxOf (CXo P w) P w K mg base N qual (defScope st) f cdv A outer s H E →
      ∃ t, PSs (X.wish (BodyX X E)) (defBody st) t ∧ t { nx := fun _ H' => Q .non H', rt := Q } (start N vs) H) : FnOk P w K mg base (CXo P w) (k + 1) f fd ps sp := by
  obtain ⟨oc, od, kV, doc, pm, an, cdv, ct, osl, rfl, lk, hcd⟩ := F.ex
  refine fn_of lk hcd S len fun A outer s H vs Q E hr hsp => ?_
  obtain ⟨t, h, q⟩ := hbody cdv A outer s H vs Q E hr hsp _ rfl
  refine ⟨t, fun pins s1 σ H1 D I hw => ?_, q⟩
  refine wpAny_mono (h pins s1 σ H1 D (I.wish _) hw) (fun _ _ q => q.unwish) fun e s' hx => ?_
  obtain ⟨a, cls, H', B, rfl, x, hE⟩ := hx
  have O : Own (cxOf (CXo P w) P w K mg base N qual (defScope st) f cdv A outer s H E) := ⟨I.ok, rfl, rfl, rfl⟩
  show wpAny (model P w) _ (leaving _ (.ref a)) _ _ s'
  refine sta_leave (outer := outer) I.ok.frames rfl x.sta fun h' a0 k1 k2 => ?_
  refine ⟨a, cls, H', B, rfl, x.move k2 ⟨a0, .inr (.inl k1)⟩ (fun b hb => List.mem_cons_of_mem _ hb) O.loc fun b _ => by simp [cxOf], hE⟩
end L2

namespace L2
open PySem PySem.Spec PyProof.Rows
def cxSuite (X : Cx) (a : Addr) (oe : Obj) : Cx := { X with A := X.A.mark (some (.ref a)), calm := false, pn := X.pn ++ [(a, oe)], xe := fun _ _ => False }
section
variable {X : Cx} {pins : List (Addr × Obj)} {σ : St} {H : Hp} {s : Shared} {a : Addr} {oe : Obj}
theorem Inv.suite (I : Inv X pins σ H s) (e : s.heap.get? a = some oe) (hn : H a = none) (hl : a ≠ X.env.locals) (hf : a ∉ X.fs) (hd : ∀ v, oe.data ≠ .cell v) : Inv (cxSuite X a oe) pins σ H s := by
  refine ⟨⟨I.ok.mod, I.ok.kind, I.ok.glob, I.ok.blt, I.ok.above, I.ok.inj, I.ok.has, I.ok.cab, fun z => (Bool.false_ne_true z).elim, I.ok.frames, I.ok.stk, I.ok.exf, I.ok.bs, I.ok.bsz, I.ok.noex, I.ok.exfs, I.ok.funs, I.ok.frf⟩, I.os, I.bare, I.base, I.loc, I.cell, I.free, I.freeC, fun p hp => ?_, I.hok, I.len⟩
  have hp : p ∈ (X.pn ++ [(a, oe)]) ++ pins := hp
  rcases List.mem_append.mp hp with z | z
  · rcases List.mem_append.mp z with z | z
    · exact I.pin p (List.mem_append_left _ z)
    · have z : p = (a, oe) := by simpa using z
      subst z
      exact ⟨e, hn, hl, hf, hd⟩
  · exact I.pin p (List.mem_append_right _ z)
theorem Inv.unsuite (ok : X.Ok) (I : Inv (cxSuite X a oe) pins σ H s) : Inv X pins σ H s :=
  ⟨ok, I.os, I.bare, I.base, I.loc, I.cell, I.free, I.freeC, fun p hp => I.pin p (by
    show p ∈ (X.pn ++ [(a, oe)]) ++ pins
    rcases List.mem_append.mp hp with z | z
    · exact List.mem_append_left _ (List.mem_append_left _ z)
    · exact List.mem_append_right _ z), I.hok, I.len⟩
end
def PEX (X : Cx) (e : Expr) (t : XK → TE) : Prop :=
  ∀ (E : XK) (pins : List (Addr × Obj)) (s : Shared) (σ : St) (H : Hp) (Q : VK), Inv X pins σ H s → t E σ H Q →
    wpAny (model X.prog X.w) X.A (eval e X.env) (EP X pins σ Q) (fun e s' => ∃ H1 s1, Inv X pins σ H1 s1 ∧ CXo X.prog X.w X.stack H1 s1 E e s') s
theorem pex_fn {X : Cx} {x : Str} {st : Stmt} {ps : List Str} {f : Addr} {fd : FuncData} {k : Nat} {sp : Sp} {e : Expr} {es : List Expr} {t : TA} {p pos : Pos} (G : FnOk X.prog X.w X.K X.mg X.base (CXo X.prog X.w) k f fd ps sp) (F : Fn X.K X.mg x st ps f fd) (hr : Room k X.A) (ha : PA X.nox (e :: es) t)
    (hg : Gl X x := by rfl) (hdb : (x == ("__debug__" : Str)) = false := by decide) (he : starEach (e :: es) X.env = (false, eval e X.env) :: starEach es X.env := by rfl) (hpl : (backTo pos (starEach es X.env)).any (·.1) = false := by rfl) :
    PEX X (.Call (.Name x p) (e :: es) [] pos) (fun E => tCall sp [] E t) := by
  intro E pins s σ H Q I h
  refine wpAny_Call_Name_kw (ld_glob I hg F.g ?_ hdb)
  refine PySem.W.callWith_K (h₀ := X.base) I.ok.mod.kin F.fn.kp (quietX (ha pos pins s σ H _ (I.wish _) h) fun us s1 ⟨vs, H1, I1, r, q⟩ => ⟨I1.kIn, ?_⟩) he hpl
  have I1 := I1.unwish
  have q' : sp (vs ++ []) H1 Q E := q
  rw [List.append_nil] at q'
  have hl : us.length = ps.length := by rw [← r.length]; exact G.len _ _ _ _ q'
  have hb := F.b s1 us I1.kIn (by rw [List.append_nil]; exact hl)
  rw [List.append_nil] at hb
  refine wpAny_call (codeAny_mono (G.run X.A X.stack s1 H1 ⟨us, []⟩ us vs Q E hr I1.env0 hb r q') fun r s' hq => ?_)
  cases r with
  | error e => exact ⟨H1, s1, I1, hq⟩
  | ok fl =>
    cases fl with
    | ret u => exact I1.after hq
    | next => exact False.elim hq
    | brk => exact False.elim hq
    | cont => exact False.elim hq
end L2

namespace L2
open PySem PySem.Spec PyProof.Rows
section
variable {X : Cx}
theorem ps_sem {b : List Stmt} {R : TS} (h : ∀ D σ H, R D σ H → ∃ t, PSs X b t ∧ t D σ H) : PSs X b R := fun pins s σ H D I hw => by
  obtain ⟨t, ht, hq⟩ := h D σ H hw
  exact ht pins s σ H D I hq
theorem passF : Passes (CXo X.prog X.w) X E0 := fun _ _ _ _ _ _ _ h => by
  obtain ⟨_, _, _, _, _, _, z⟩ := h
  exact z.elim
theorem pe_fnF {x : Str} {st : Stmt} {ps : List Str} {f : Addr} {fd : FuncData} {k : Nat} {sp : Sp} {e : Expr} {es : List Expr} {t : TA} {p pos : Pos} (G : FnOk X.prog X.w X.K X.mg X.base (CXo X.prog X.w) k f fd ps sp) (F : Fn X.K X.mg x st ps f fd) (hr : Room k X.A) (ha : PA X (e :: es) t)
    (hg : Gl X x := by rfl) (hdb : (x == ("__debug__" : Str)) = false := by decide) (he : starEach (e :: es) X.env = (false, eval e X.env) :: starEach es X.env := by rfl) (hpl : (backTo pos (starEach es X.env)).any (·.1) = false := by rfl) :
    PE X (.Call (.Name x p) (e :: es) [] pos) (tCall sp [] E0 t) := pe_call G hr hg F.g F.fn.kp F.b .nil passF ha hdb he hpl
theorem pe_fnX {E : XK} {x : Str} {st : Stmt} {ps : List Str} {f : Addr} {fd : FuncData} {k : Nat} {sp : Sp} {e : Expr} {es : List Expr} {t : TA} {p pos : Pos} (G : FnOk X.prog X.w X.K X.mg X.base (CXo X.prog X.w) k f fd ps sp) (F : Fn X.K X.mg x st ps f fd) (hr : Room k X.A) (ha : PA (X.wish (BodyX X E)) (e :: es) t)
    (hg : Gl (X.wish (BodyX X E)) x := by rfl) (hdb : (x == ("__debug__" : Str)) = false := by decide) (he : starEach (e :: es) X.env = (false, eval e X.env) :: starEach es X.env := by rfl) (hpl : (backTo pos (starEach es X.env)).any (·.1) = false := by rfl) :
    PE (X.wish (BodyX X E)) (.Call (.Name x p) (e :: es) [] pos) (tCall sp [] E t) := pe_call (X := X.wish (BodyX X E)) G hr hg F.g F.fn.kp F.b .nil (passX (F := fun _ _ => True)) ha hdb he hpl

theorem Fun.okX2 {P : Program} {w : World} {K : PySem.W.Frag} {mg : Str → Option Value} {base : Heap} {x qual : Str} {st : Stmt} {f : Addr} {fd : FuncData} {N ps : List Str} {k : Nat} {sp : Sp} (F : Fun K x qual st f fd) (S : FnScope N ps (defScope st)) (len : ∀ vs H Q E, sp vs H Q E → vs.length = ps.length)
    (hbody : ∀ (cdv : Value) (A : Around) (outer : List Env) (s : Shared) (H : Hp) (vs : List V) (Q : VK) (E : XK), Room k (A.deeper (envOfC qual (defScope st) s.heap.objs.size f cdv)) → sp vs H Q E → Own (cxOf (CXo P w) P w K mg base N qual (defScope st) f cdv A outer s H E) →
      ∃ t, PSs ((cxOf (CXo P w) P w K mg base N qual (defScope st) f cdv A outer s H E).wish (BodyX (cxOf (CXo P w) P w K mg base N qual (defScope st) f cdv A outer s H E) E)) (defBody st) t ∧ t { nx := fun _ H' => Q .non H', rt := Q } (start N vs) H) : FnOk P w K mg base (CXo P w) (k + 1) f fd ps sp := by
  refine F.okX S len fun cdv A outer s H vs Q E hr h X hX => ?_
  subst hX
  by_cases ok : (cxOf (CXo P w) P w K mg base N qual (defScope st) f cdv A outer s H E).Ok
  · exact hbody cdv A outer s H vs Q E hr h ⟨ok, rfl, rfl, rfl⟩
  · exact ⟨fun _ _ _ => True, fun pins s σ H D I _ => absurd I.ok.unwish ok, trivial⟩
theorem Fun.okO {P : Program} {w : World} {K : PySem.W.Frag} {mg : Str → Option Value} {base : Heap} {x qual : Str} {st : Stmt} {f : Addr} {fd : FuncData} {N ps : List Str} {k : Nat} {sp : Sp} (F : Fun K x qual st f fd) (S : FnScope N ps (defScope st)) (len : ∀ vs H Q E, sp vs H Q E → vs.length = ps.length)
    (hbody : ∀ (cdv : Value) (A : Around) (outer : List Env) (s : Shared) (H : Hp) (vs : List V) (Q : VK) (E : XK), Room k (A.deeper (envOfC qual (defScope st) s.heap.objs.size f cdv)) → sp vs H Q E → Own (cxOf CX0 P w K mg base N qual (defScope st) f cdv A outer s H E).nox →
      ∃ t, PSs (cxOf CX0 P w K mg base N qual (defScope st) f cdv A outer s H E).nox (defBody st) t ∧ t { nx := fun _ H' => Q .non H', rt := Q } (start N vs) H) : FnOk P w K mg base CX0 (k + 1) f fd ps sp := by
  refine F.ok S len fun cdv A outer s H vs Q E hr h => ?_
  by_cases ok : (cxOf CX0 P w K mg base N qual (defScope st) f cdv A outer s H E).nox.Ok
  · exact hbody cdv A outer s H vs Q E hr h ⟨ok, rfl, rfl, rfl⟩
  · exact ⟨fun _ _ _ => True, fun pins s σ H D I _ => absurd I.ok ok, trivial⟩

theorem Room.lt {k : Nat} {A : Around} (r : Room k A) (n : Nat) (h : n ≤ 62) : A.units + n + 1 < cLine := by have := r.units; omega

def PJ (X : Cx) (es : List Expr) (m : Nat) (t : St → Hp → Prop) : Prop :=
  ∀ (pins : List (Addr × Obj)) (s : Shared) (σ : St) (H : Hp) (out : Str) (Q : Value → Shared → Prop), Inv X pins σ H s → t σ H → out.length + m ≤ sizeLine → (∀ x tk s', Inv X pins σ H s' → Q (.str x tk) s') →
    wpAny (model X.prog X.w) X.A (joinParts out (evalEach es X.env)) Q X.xe s
def jNil : St → Hp → Prop := fun _ _ => True
theorem pj_nil : PJ X [] 0 jNil := fun pins s σ H out Q I _ hz q => joinParts_nil (q _ _ _ (I.tok _)) (by omega)
theorem pj_str {x : Str} {j} {pos : Pos} {es : List Expr} {m : Nat} {t : St → Hp → Prop} (h : PJ X es m t) : PJ X (.Constant (.str x) j pos :: es) (x.length + m) t := fun pins s σ H out Q I ht hz q => by
  show wpAny _ _ (joinParts out (eval (.Constant (.str x) j pos) X.env :: evalEach es X.env)) Q _ s
  have e : (out ++ x).length = out.length + x.length := strLen_append _ _
  refine joinParts_cons (Calls.Constant_str ?_)
  exact ⟨by rw [e]; omega, h pins _ σ H (out ++ x) Q (I.tok _) ht (by rw [e]; omega) q⟩
def tFs (t : St → Hp → Prop) : TE := fun σ H Q => t σ H ∧ ∀ x, Q (.str x) H
theorem pe_fs {a b : Expr} {es : List Expr} {pos : Pos} {m : Nat} {t : St → Hp → Prop} (h : PJ X (a :: b :: es) m t) (hm : m ≤ 1000000) : PE X (.JoinedStr (a :: b :: es) pos) (tFs t) := fun pins s σ H Q I hw => by
  have e : Str.empty.length = 0 := rfl
  have z : sizeLine = 16777216 := sizeLine_eq
  exact JoinedStr_many (h pins s σ H Str.empty _ I hw.1 (by rw [e, z]; omega) fun x tk s' I' => ⟨.str x, H, I', ⟨_, rfl⟩, hw.2 x⟩)
end

end L2

namespace L2
open PySem PySem.Spec PyProof.Rows
section
variable {X : Cx}
theorem vals_at {xs : List V} {its : List Value} {j : Nat} (r : Vals xs its) (hj : j < its.toArray.size) : ∃ x, xs[j]? = some x ∧ RelV x its.toArray[j] := by
  have hl := r.length
  have hx : j < xs.length := by rw [List.size_toArray] at hj; omega
  obtain ⟨u, hu, ru⟩ := r.get (List.getElem?_eq_getElem hx)
  refine ⟨_, List.getElem?_eq_getElem hx, ?_⟩
  have z : its.toArray[j]? = some u := by simpa using hu
  rw [(Array.getElem?_eq_some_iff.mp z).2]
  exact ru
end
end L2

namespace L2
open PySem PySem.Spec PyProof.Rows

theorem compOk1 {X : Cx} {scope : Scope} {pre : List Str} {y : Str} {c : Addr} {j : Nat} (hkind : scope.kind = .function) (h : ∀ z ∈ scope.names, z.2 ≠ .cell ∧ (z.2 = .free → z.1 = y)) (hn : ∀ z ∈ scope.names, z.2 = .local → scope.names.lookup z.1 = some .local)
    (hcl : closureFor scope X.env = pure [(y, c)]) (hc : X.env.cells.lookup y = some c) (hN : X.N[j]? = some y) (hk : X.env.kindOf y = some .cell) (hr : (relabel scope X.env).names.lookup y = some .cell) :
    CompOk X scope [(y, c)] (pre ++ [y]) (List.replicate pre.length none ++ [some j]) where
  clos := hcl
  cell := fun z hz => (h z hz).1
  kind := hkind
  names := hn
  cls := fun x c' e => by
    rw [List.lookup_cons] at e
    split at e
    · rename_i hx
      rw [eq_of_beq hx, ← e]
      exact hc
    · cases e
  has := fun x e => by
    have key : ∀ k, (relabel scope X.env).names.lookup x = some k → k = .cell ∨ k = .free → x = y := fun k e hk => by
      have hm := PySem.mem_of_lookup e
      obtain ⟨⟨n, k'⟩, hy, ey⟩ := List.mem_map.mp hm
      have h1 := h _ hy
      by_cases hf : k' = .free
      · have z := h1.2 hf
        dsimp only at ey
        split at ey
        · cases ey; exact z
        · cases ey; exact z
      · have hb : (k' == NameKind.free) = false := by simpa using hf
        simp only [hb, Bool.false_and, Bool.false_eq_true, if_false, Prod.mk.injEq] at ey
        obtain ⟨_, rfl⟩ := ey
        rcases hk with hk | hk
        · exact absurd hk h1.1
        · exact absurd hk hf
    have hxy : x = y := by
      rcases e with e | e
      · exact key _ e (.inl rfl)
      · exact key _ e (.inr rfl)
    exact ⟨c, by rw [hxy, List.lookup_cons, beq_self_eq_true]⟩
  len := by simp
  src := fun i k x e1 e2 => by
    by_cases hi : i < pre.length
    · rw [List.getElem?_append_left (by simpa using hi), List.getElem?_replicate, if_pos hi] at e1
      cases e1
    · have hl := (List.getElem?_eq_some_iff.mp e2).1
      rw [List.length_append, List.length_singleton] at hl
      have e : i = pre.length := by omega
      subst e
      rw [List.getElem?_append_right (by simp)] at e1
      rw [List.getElem?_append_right (Nat.le_refl _)] at e2
      simp at e1 e2
      subst e1 e2
      exact ⟨hN, .inl hk, .inl hr⟩

theorem compOk2 {X : Cx} {scope : Scope} {x y : Str} {c : Addr} {j : Nat} (hkind : scope.kind = .function) (h : ∀ z ∈ scope.names, z.2 ≠ .cell ∧ (z.2 = .free → z.1 = y)) (hn : ∀ z ∈ scope.names, z.2 = .local → scope.names.lookup z.1 = some .local)
    (hcl : closureFor scope X.env = pure [(y, c)]) (hc : X.env.cells.lookup y = some c) (hN : X.N[j]? = some y) (hk : X.env.kindOf y = some .cell) (hr : (relabel scope X.env).names.lookup y = some .cell) :
    CompOk X scope [(y, c)] [x, y] [none, some j] := compOk1 (pre := [x]) hkind h hn hcl hc hN hk hr
theorem ix_tupK {X : Cx} {K : PySem.W.Frag} (hK : X.K = K) : IxR X (rIxT K) := hK ▸ ix_tup

end L2

namespace L2
open PySem PySem.Spec PyProof.Rows
theorem reads_ints {h : Heap} : ∀ {ns : List Int} {its : List Value}, Vals (ns.map V.int) its → ReadsAll h its (ns.map PyData.int) []
  | [], _, .nil => .nil
  | n :: ns, _ :: _, .cons r t => by
    obtain ⟨tk, rfl⟩ := r
    exact ReadsAll.cons (as := []) (bs := []) (.int n tk) (reads_ints t)
theorem ints_showable : ∀ {ns : List Int}, (∀ n ∈ ns, n.natAbs.log2 < 1920) → PyData.showableAll (ns.map PyData.int) = true
  | [], _ => rfl
  | n :: ns, h => by
    show (decide (n.natAbs.log2 < 1920) && PyData.showableAll (ns.map PyData.int)) = true
    rw [decide_eq_true (h n List.mem_cons_self), ints_showable fun m hm => h m (List.mem_cons_of_mem _ hm)]
    rfl
theorem ints_noDict : ∀ ns : List Int, PyData.hasDictAll (ns.map PyData.int) = false
  | [] => rfl
  | n :: ns => by show (false || PyData.hasDictAll (ns.map PyData.int)) = false; rw [ints_noDict ns]; rfl
theorem ints_depth : ∀ ns : List Int, PyData.depthAll (ns.map PyData.int) = 0
  | [] => rfl
  | n :: ns => by show max 0 (PyData.depthAll (ns.map PyData.int)) = 0; rw [ints_depth ns]; rfl
theorem ints_shown : ∀ {ns : List Int}, (∀ n ∈ ns, n.natAbs.log2 < 1920) → (PyData.shownAll (ns.map PyData.int)).length = ns.length ∧ ((PyData.shownAll (ns.map PyData.int)).map (·.length)).sum ≤ 1921 * ns.length
  | [], _ => ⟨rfl, Nat.le_refl _⟩
  | n :: ns, h => by
    obtain ⟨e1, e2⟩ := ints_shown (ns := ns) fun m hm => h m (List.mem_cons_of_mem _ hm)
    have l1 := int_text_length_le (k := 1920) (by decide) (h n List.mem_cons_self)
    refine ⟨by show (PyData.shownAll (ns.map PyData.int)).length + 1 = ns.length + 1; rw [e1], ?_⟩
    show (Str.ofString (toString n)).length + ((PyData.shownAll (ns.map PyData.int)).map (·.length)).sum ≤ 1921 * (ns.length + 1)
    rw [PySem.ofString_length]
    omega
end L2

namespace L2
open PySem PySem.Spec PyProof.Rows
theorem bb_max : bootBuiltins "max" = some (.builtin "max") := by decide +kernel
def PSX (X : Cx) (b : List Stmt) (t : XK → TS) : Prop :=
  ∀ (E : XK) (pins : List (Addr × Obj)) (s : Shared) (σ : St) (H : Hp) (D : Ends), Inv X pins σ H s → t E D σ H →
    wpAny (model X.prog X.w) X.A (execs b X.env) (SP X pins D) (fun e s' => ∃ H1 s1, Inv X pins σ H1 s1 ∧ CXo X.prog X.w X.stack H1 s1 E e s') s
theorem psx_expr {X : Cx} {ce : Expr} {epos : Pos} {t : XK → TE} (hc : PEX X ce t) (hsw : swapsWith ce none epos.line X.env = pure false := by rfl) : PSX X [.Expr ce epos] (fun E D σ H => t E σ H fun _ H1 => D.nx σ H1) := fun E pins s σ H D I h => by
  refine wpAny_execs_cons (wpAny_Expr_any (wpAny_mono (hc E pins s σ H _ I h) (fun v s1 ⟨y, H1, I1, r1, q1⟩ => ?_) fun e s' hx => hx) I.quiet hsw)
  exact wpAny_execs_nil (show SP X pins D .next s1 from ⟨σ, H1, I1, q1⟩)
section
variable {X : Cx}
def jTup (te : TE) (t : St → Hp → Prop) : St → Hp → Prop := fun σ H => te σ H fun v H' => H' = H ∧ (∃ (l : Addr) (ns : List Int), v = .ref l ∧ H l = some (.tup (ns.map V.int)) ∧ ns.length ≤ 100 ∧ ∀ n ∈ ns, n.natAbs.log2 < 1920) ∧ t σ H
theorem pj_tup {a : Expr} {pos : Pos} {es : List Expr} {m : Nat} {t : St → Hp → Prop} {te : TE} (hg : X.A.guards = some []) (hu : X.A.units + 3 < cLine) (ha : PE X a te) (h : PJ X es m t) : PJ X (.FormattedValue a (-1) none pos :: es) (200000 + m) (jTup te t) := fun pins s σ H out Q I ht hz q => by
  show wpAny _ _ (joinParts out (eval (.FormattedValue a (-1) none pos) X.env :: evalEach es X.env)) Q _ s
  refine joinParts_cons (FormattedValue_plain (thn (ha pins s σ H _ I ht) fun u s1 h1 => ?_))
  obtain ⟨v, H1, I1, r, rfl, ⟨l, ns, rfl, hl, hn, hsm⟩, ht1⟩ := h1
  cases r
  obtain ⟨z2, its, rv, ⟨o, e, hc, n, hd⟩⟩ := I1.hok l _ hl
  have rd : Reads s1.heap (.ref l) (.tuple (ns.map PyData.int)) [] := Reads.tuple (as := []) e hc hd (reads_ints rv)
  obtain ⟨e1, e2⟩ := ints_shown hsm
  have l1 := tupleText_len_le (PyData.shownAll (ns.map PyData.int))
  have l2 : (PyData.shown (.tuple (ns.map PyData.int))).length ≤ 200000 := by
    show (tupleText (PyData.shownAll (ns.map PyData.int))).length ≤ 200000
    omega
  have sz := sizeLine_eq
  have dep : (PyData.tuple (ns.map PyData.int)).depth = 1 := by
    show PyData.depthAll (ns.map PyData.int) + 1 = 1
    rw [ints_depth]
  refine formatField_of_reads rd (ints_showable hsm) (PyData.noDict_hsm (ints_noDict ns)) hg (by rw [dep]; exact hu) (fun _ _ e => e) (fun h' u tk hk => ?_) (by rw [sz]; omega)
  have e3 : (out ++ PyData.shown (.tuple (ns.map PyData.int))).length = out.length + (PyData.shown (.tuple (ns.map PyData.int))).length := strLen_append _ _
  exact ⟨by rw [e3]; omega, h pins _ σ H1 _ Q (I1.kept (t' := tk) hk) ht1 (by rw [e3]; omega) q⟩
end
end L2
namespace L2
open PySem PySem.Spec PyProof.Rows
section
variable {X : Cx} {a b c d : Expr} {ta tb tc td : TE} {pos : Pos}
def tChain3 (r r' r3 : R2) (ta tb tc td : TE) : TE := fun σ H Q => ta σ H fun x H1 => tb σ H1 fun y H2 => r x y H2 fun z H3 => ∃ k, z = .bl k ∧
  (if k = true then tc σ H3 fun y' H4 => r' y y' H4 fun z' H5 => ∃ k', z' = .bl k' ∧ (if k' = true then td σ H5 fun x' H6 => r3 y' x' H6 Q else Q (.bl false) H5) else Q (.bl false) H3)
theorem pt_chain3 {op op' op3 : CmpOp} {r r' r3 : R2} (ho : OpR X (compareOp op) r) (ho' : OpR X (compareOp op') r') (ho3 : OpR X (compareOp op3) r3) (ha : PE X a ta) (hb : PE X b tb) (hc : PE X c tc) (hd : PE X d td)
    (hm : lastMarks [op, op', op3] [b, c, d] = false := by with_unfolding_all rfl) : PT X (.Compare a [op, op', op3] [b, c, d] pos) (tTest (tChain3 r r' r3 ta tb tc td)) := by
  intro pins s σ H Q I h
  refine isTrue_chain (thn (ha pins s σ H _ I h) fun v s1 ⟨x, H1, I1, r1, q1⟩ => test_link (thn (hb pins s1 σ H1 _ I1 q1) fun u s2 ⟨y, H2, I2, r2, q2⟩ =>
    thn (ho pins s2 σ H2 x y v u _ I2 r1 r2 q2) fun d s3 ⟨z, H3, I3, r3, k, e, q3⟩ => ?_)) hm
  subst e
  cases r3
  refine wpAny_truthy_bool ?_
  cases k with
  | false =>
    obtain ⟨k', e', q'⟩ := q3
    cases e'
    exact ite_ff ⟨H3, I3, q'⟩
  | true =>
    refine ite_tt (test_link (thn (hc pins s3 σ H3 _ I3 q3) fun w' s4 ⟨z', H4, I4, r4, q4⟩ => thn (ho' pins s4 σ H4 y z' u w' _ I4 r2 r4 q4) fun d' s5 ⟨z2, H5, I5, r5, k2, e2, q5⟩ => ?_))
    subst e2
    cases r5
    refine wpAny_truthy_bool ?_
    cases k2 with
    | false =>
      obtain ⟨k', e', q'⟩ := q5
      cases e'
      exact ite_ff ⟨H5, I5, q'⟩
    | true =>
      refine ite_tt (test_last (thn (hd pins s5 σ H5 _ I5 q5) fun x5 s6 ⟨z5, H6, I6, r6, q6⟩ => thn (ho3 pins s6 σ H6 z' z5 w' x5 _ I6 r4 r6 q6) fun d3 s7 ⟨z7, H7, I7, r7, k7, e7, q7⟩ => ?_))
      subst e7
      cases r7
      exact wpAny_truthy_bool ⟨H7, I7, q7⟩
end
end L2

namespace L2
open PySem PySem.Spec PyProof.Rows
section
variable {X : Cx}
theorem tup_items {s : Shared} {A : Around} {ns ms : List Int} {i1 i2 : List Value} (r1 : Vals (ns.map V.int) i1) (r2 : Vals (ms.map V.int) i2) (j : Nat) (h1 : j < i1.toArray.size) (h2 : j < i2.toArray.size) :
    SeqAt.EqAt A.in1 s i1.toArray[j] i2.toArray[j] (ns.getD j 0 == ms.getD j 0) := by
  have l1 : ns.length = i1.length := by have z := r1.length; rwa [List.length_map] at z
  have l2 : ms.length = i2.length := by have z := r2.length; rwa [List.length_map] at z
  have hj : j < ns.length := by simp only [List.size_toArray] at h1; omega
  have hj2 : j < ms.length := by simp only [List.size_toArray] at h2; omega
  obtain ⟨x1, e1, t1⟩ := vals_at r1 h1
  obtain ⟨x2, e2, t2⟩ := vals_at r2 h2
  rw [List.getElem?_map, List.getElem?_eq_getElem hj] at e1
  rw [List.getElem?_map, List.getElem?_eq_getElem hj2] at e2
  obtain rfl := Option.some.inj e1
  obtain rfl := Option.some.inj e2
  obtain ⟨k1, q1⟩ := t1
  obtain ⟨k2, q2⟩ := t2
  rw [q1, q2]
  have g1 : ns.getD j 0 = ns[j] := by simp [List.getD, List.getElem?_eq_getElem hj]
  have g2 : ms.getD j 0 = ms[j] := by simp [List.getD, List.getElem?_eq_getElem hj2]
  rw [g1, g2]
  exact SeqAt.EqAt.int_int (A := A.in1) (s := s) ns[j] k1 ms[j] k2
theorem tup_answer {ns ms : List Int} {i1 i2 : List Value} (r1 : Vals (ns.map V.int) i1) (r2 : Vals (ms.map V.int) i2) :
    ((List.range (min i1.toArray.size i2.toArray.size)).all (fun j => ns.getD j 0 == ms.getD j 0) && i1.toArray.size == i2.toArray.size) = decide (ns = ms) := by
  have l1 : ns.length = i1.length := by have z := r1.length; rwa [List.length_map] at z
  have l2 : ms.length = i2.length := by have z := r2.length; rwa [List.length_map] at z
  by_cases c : ns = ms
  · subst c
    rw [decide_eq_true rfl, Bool.and_eq_true]
    exact ⟨List.all_eq_true.mpr fun _ _ => beq_self_eq_true _, by simp only [List.size_toArray, ← l1, ← l2]; exact beq_self_eq_true _⟩
  · rw [decide_eq_false c]
    refine Bool.eq_false_iff.mpr fun z => c ?_
    rw [Bool.and_eq_true] at z
    have hl : ns.length = ms.length := by have z2 := eq_of_beq z.2; simp only [List.size_toArray] at z2; omega
    refine List.ext_getElem hl fun j q1 q2 => ?_
    have z2 := List.all_eq_true.mp z.1 j (List.mem_range.mpr (by simp only [List.size_toArray]; omega))
    have g1 : ns.getD j 0 = ns[j] := by simp [List.getD, List.getElem?_eq_getElem q1]
    have g2 : ms.getD j 0 = ms[j] := by simp [List.getD, List.getElem?_eq_getElem q2]
    rw [← g1, ← g2]
    exact eq_of_beq z2
def rTupD (K : PySem.W.Frag) (neg : Bool) : R2 := fun x y H Q => ∃ (a b : Addr) (ns ms : List Int), x = .ref a ∧ y = .ref b ∧ SqT K H a (ns.map V.int) ∧ SqT K H b (ms.map V.int) ∧ Q (.bl (if neg then !decide (ns = ms) else decide (ns = ms))) H
theorem op_eq_tupD (hu : X.A.units < cLine) : OpR X (compareOp .Eq) (rTupD X.K false) := by
  intro pins s σ H x y v u Q I rx ry h
  obtain ⟨a, b, ns, ms, rfl, rfl, ha, hb, q⟩ := h
  cases rx
  cases ry
  obtain ⟨i1, r1, p1, z1⟩ := I.tuple ha
  obtain ⟨i2, r2, p2, z2⟩ := I.tuple hb
  refine SeqAt.eq_tupleAt (e := fun j => ns.getD j 0 == ms.getD j 0) (show s.heap.IsTuple a i1.toArray from p1) (show s.heap.IsTuple b i2.toArray from p2) hu (fun j h1 h2 => tup_items r1 r2 j h1 h2) ⟨.bl (decide (ns = ms)), H, I, ?_, q⟩
  show Value.bool _ = Value.bool _
  congr 1
  exact tup_answer r1 r2
end
end L2

namespace L2
open PySem PySem.Spec PyProof.Rows
def tTry0 (K : PySem.W.Frag) (t : XK → TS) (c : Value) (tb : TS) : TS := fun D σ H => ∃ E : XK, t E { nx := fun _ _ => False, rt := D.rt } σ H ∧ ∀ cls H', E cls none H' → PySem.W.exmOne K cls c = some true ∧ tb D σ H'
theorem ps_try0 {X : Cx} {body : List Stmt} {hpos pos np : Pos} {x : Str} {b₀ : Stmt} {suite : List Stmt} {t : XK → TS} {C : Addr} {tb : TS} (O : Own X)
    (hm : X.mg x = some (.ref C)) (hc : PSX X body t) (hb : ∀ a oe, PSs (cxSuite X a oe) (b₀ :: suite) tb) (hg : Gl X x := by rfl) (hdb : (x == ("__debug__" : Str)) = false := by decide) :
    PS X (.Try body [.ExceptHandler (some (.Name x np)) none (b₀ :: suite) hpos] [] [] pos) (tTry0 X.K t (.ref C) tb) := by
  intro pins s σ H D I h
  obtain ⟨E, hbody, hcatch⟩ := h
  have hfr : X.A.frames = some (X.env :: X.outer) := by rw [← O.top]; exact O.ok.frames
  refine wpAny_Try_except (wpAny_mono (hc E pins s σ H _ I hbody) (fun f s1 q => ?_) fun e s' hx => ?_)
  · cases f with
    | next => obtain ⟨_, _, _, z⟩ := q; exact z.elim
    | brk => obtain ⟨_, _, _, z⟩ := q; exact z.elim
    | cont => obtain ⟨_, _, _, z⟩ := q; exact z.elim
    | ret v => exact q
  · obtain ⟨H1, s1, I1, a, cls, H', B, rfl, x0, hE⟩ := hx
    obtain ⟨hexm, hsuite⟩ := hcatch cls H' hE
    have st := x0.sta
    rw [O.top] at st
    have noex : ∀ b ∈ frs X.stack, b ∉ ([] : List Addr) := fun b _ => by simp
    refine sta_note hfr O.fr st fun h4 a0 k4 u4 => ?_
    have x4 := x0.move (l' := X.stack) u4 (by rw [O.top]; exact ⟨a0, .inr (.inr ⟨_, _, _, rfl, O.fr, k4⟩)⟩) (fun b hb => hb) (fun b o _ hb => hb) noex
    refine wpAny_landsW (s := { s' with heap := h4 }) k4 fun h5 k5 u5 => ?_
    have x5 := x4.move (l' := X.stack) u5 (by rw [O.top]; exact ⟨a0, .inr (.inl k5)⟩) (fun b hb => hb) (fun b o _ hb => hb) noex
    have I5 : Inv X pins σ H' { s' with heap := h5 } := I1.call' (ch := []) x5.os x5.un x5.hok x5.bare fun b hb => absurd hb (by simp)
    have mk : ∀ {h6 : Heap}, Heap.FlyingW B (X.env :: X.outer) a cls a0 h6 → XAt X.prog X.w X.stack [] H1 s1 B a cls H' { s' with heap := h6 } → ∃ oe, h6.get? a = some oe ∧ oe.cls = cls ∧ Inv (cxSuite X a oe) pins σ H' { s' with heap := h6 } := fun {h6} k6 x6 => by
      obtain ⟨oe, vs, e1, e2, e3, _⟩ := k6.first
      have I6 : Inv X pins σ H' { s' with heap := h6 } := I1.call' (ch := []) x6.os x6.un x6.hok x6.bare fun b hb => absurd hb (by simp)
      refine ⟨oe, e1, e2, I6.suite e1 x6.na (fun z => ?_) (fun z => ?_) fun v z => by rw [e3] at z; cases z⟩
      · obtain ⟨m, ⟨o', es, ep, ho', hd', _⟩, _⟩ := I6.loc
        rw [← z] at ho'
        have ho' : h6.get? a = some o' := ho'
        rw [e1] at ho'; cases ho'
        rw [e3] at hd'; cases hd'
      · obtain ⟨_, o', ho', hd'⟩ := I6.funs.mem z
        have ho' : h6.get? a = some o' := ho'
        rw [e1] at ho'; cases ho'
        exact hd' _ e3
    obtain ⟨oe5, e51, e52, J5⟩ := mk k5 x5
    refine wpAny_handleBy_cons (codeAny_handlers_test (ld_glob (X := cxSuite X a oe5) J5 hg hm ?_ hdb)) (by intro q; cases q)
    have LT : PySem.W.Looks (model X.prog X.w) h5 (typeOf (.ref a)) cls := by
      have z : PySem.W.Looks (model X.prog X.w) h5 (typeOf (.ref a)) oe5.cls := (PySem.W.Looks.ld (M := model X.prog X.w) e51).andThen .now
      rw [e52] at z
      exact z
    refine (PySem.W.exm_one (M := model X.prog X.w) (h := h5) I5.kIn LT hexm).at ?_
    show codeAny _ _ _ _ _
    refine codeAny_handlers_suite ?_
    refine lands_againW (s := { s' with heap := h5 }) k5 fun h6 k6 u6 => ?_
    have x6 := x5.move (l' := X.stack) u6 (by rw [O.top]; exact ⟨a0, .inr (.inl k6)⟩) (fun b hb => hb) (fun b o _ hb => hb) noex
    obtain ⟨oe, e61, e62, J6⟩ := mk k6 x6
    refine quietX (hb a oe pins _ σ H' _ J6 hsuite) fun f s8 q8 => ?_
    cases f with
    | next => obtain ⟨σ8, H8, J8, q8⟩ := q8; exact ⟨σ8, H8, J8.unsuite O.ok, q8⟩
    | brk => obtain ⟨σ8, H8, J8, q8⟩ := q8; exact ⟨σ8, H8, J8.unsuite O.ok, q8⟩
    | cont => obtain ⟨σ8, H8, J8, q8⟩ := q8; exact ⟨σ8, H8, J8.unsuite O.ok, q8⟩
    | ret u => obtain ⟨v8, σ8, H8, J8, r8, q8⟩ := q8; exact ⟨v8, σ8, H8, J8.unsuite O.ok, r8, q8⟩
end L2



namespace Mir
open PySem L2

theorem take_snoc {α : Type} {l : List α} {i : Nat} {x : α} (h : l[i]? = some x) : l.take (i + 1) = l.take i ++ [x] := by
  rw [List.take_add_one, h]; rfl
def spWhole : Sp := fun vs H Q _ => ∃ e : Int, vs = [.int e] ∧ Q (.bl true) H
end Mir

namespace Ch
structure Work (n : Nat) (M : Nat → Nat) : Prop where
  lt : ∀ x, x < 2 * n → M x < 2 * n
  inv : ∀ x, x < 2 * n → M (M x) = x
end Ch

namespace Mir
open PySem L2 Ch
def nV (ms : List Nat) : List V := ms.map fun (m : Nat) => V.int m
theorem nV_len (ms : List Nat) : (nV ms).length = ms.length := by unfold nV; rw [List.length_map]
theorem nV_get {ms : List Nat} {i m : Nat} (h : ms[i]? = some m) : (nV ms)[i]? = some (.int m) := by unfold nV; rw [List.getElem?_map, h]; rfl
theorem nV_get' {ms : List Nat} {i : Nat} {x : V} (h : (nV ms)[i]? = some x) : ∃ m, ms[i]? = some m ∧ x = .int m := by
  unfold nV at h
  rw [List.getElem?_map] at h
  cases e : ms[i]? with
  | none => rw [e] at h; cases h
  | some m => rw [e] at h; exact ⟨m, rfl, (Option.some.inj h).symm⟩
def at0 (ms : List Nat) (e : Nat) : Nat := ms.getD e 0
theorem at0_get {ms : List Nat} {e : Nat} (h : e < ms.length) : ms[e]? = some (at0 ms e) := by unfold at0; simp [List.getD, List.getElem?_eq_getElem h]
structure WorkL (n : Nat) (ms : List Nat) : Prop where
  small : n ≤ 40
  len : ms.length = 2 * n
  wk : Work n (at0 ms)
theorem WorkL.get {n : Nat} {ms : List Nat} (W : WorkL n ms) {e : Nat} (h : e < 2 * n) : (nV ms)[e]? = some (.int (at0 ms e)) := nV_get (at0_get (by rw [W.len]; exact h))
theorem WorkL.ix {n : Nat} {ms : List Nat} (W : WorkL n ms) {e : Nat} (h : e < 2 * n) : atI (nV ms) (e : Int) = some (.int (at0 ms e)) := atI_nat (W.get h)
def spCellAt (K : PySem.W.Frag) : Sp := fun vs H Q _ => ∃ (a : Addr) (ns : List Int) (k : Nat), vs = [.ref a, .int k] ∧ SqL K H a (ns.map V.int) ∧ ∀ i : Int, Q (.int i) H
def clasp (ms : List Nat) (p q : Nat) : List Nat := (ms.set p q).set q p
theorem at0_set {ms : List Nat} {i j v : Nat} (hi : i < ms.length) : at0 (ms.set i v) j = if j = i then v else at0 ms j := by
  unfold at0
  by_cases e : j = i
  · subst e; rw [if_pos rfl]; simp [List.getD, List.getElem?_set_self hi]
  · rw [if_neg e]; simp [List.getD, List.getElem?_set_ne (Ne.symm e)]
theorem clasp_work {n : Nat} {ms : List Nat} (W : WorkL n ms) {p q : Nat} (hp : p < 2 * n) (hq : q < 2 * n) (lp : at0 ms p = p) (lq : at0 ms q = q) : WorkL n (clasp ms p q) := by
  have key : ∀ j, at0 (clasp ms p q) j = if j = q then p else if j = p then q else at0 ms j := fun j => by
    unfold clasp
    rw [at0_set (by rw [List.length_set, W.len]; exact hq), at0_set (by rw [W.len]; exact hp)]
  refine ⟨W.small, by unfold clasp; rw [List.length_set, List.length_set]; exact W.len, fun x hx => ?_, fun x hx => ?_⟩
  · rw [key]
    split
    · exact hp
    · split
      · exact hq
      · exact W.wk.lt x hx
  · rw [key x]
    by_cases c1 : x = q
    · rw [if_pos c1, key]
      by_cases c2 : p = q
      · rw [if_pos c2, c1, c2]
      · rw [if_neg c2, if_pos rfl, c1]
    · rw [if_neg c1]
      by_cases c2 : x = p
      · rw [if_pos c2, key, if_pos rfl, c2]
      · rw [if_neg c2, key]
        have i1 := W.wk.inv x hx
        have c3 : at0 ms x ≠ q := fun z => c1 (by rw [← i1, z, lq])
        have c4 : at0 ms x ≠ p := fun z => c2 (by rw [← i1, z, lp])
        rw [if_neg c3, if_neg c4, i1]
theorem range_work {n : Nat} (h : n ≤ 40) : WorkL n (List.range (2 * n)) := by
  have key : ∀ x, x < 2 * n → at0 (List.range (2 * n)) x = x := fun x hx => by unfold at0; simp [List.getD, List.getElem?_range hx]
  exact ⟨h, List.length_range, fun x hx => by rw [key x hx]; exact hx, fun x hx => by rw [key x hx, key x hx]⟩
theorem rngV_nV (n : Nat) : rngV 0 n = nV (List.range n) := by
  unfold rngV nV
  refine List.map_congr_left fun a _ => ?_
  rw [Int.zero_add]
theorem nV_set (ms : List Nat) (i v : Nat) : (nV ms).set i (.int v) = nV (ms.set i v) := by unfold nV; rw [List.map_set]

end Mir




namespace Mir
open PySem L2 Ch
theorem map_erase {α β : Type} (f : α → β) : ∀ (l : List α) (i : Nat), (l.map f).eraseIdx i = (l.eraseIdx i).map f
  | [], i => by simp
  | a :: r, 0 => rfl
  | a :: r, i + 1 => by show f a :: (r.map f).eraseIdx i = f a :: (r.eraseIdx i).map f; rw [map_erase f r i]
def iV (ns : List Int) : List V := ns.map V.int
theorem iV_len (ns : List Int) : (iV ns).length = ns.length := by unfold iV; rw [List.length_map]
theorem iV_get {ns : List Int} {i : Nat} {m : Int} (h : ns[i]? = some m) : (iV ns)[i]? = some (.int m) := by unfold iV; rw [List.getElem?_map, h]; rfl
def Sm (i : Int) : Prop := i.natAbs < 10 ^ 40
theorem Sm.log {i : Int} (h : Sm i) : i.natAbs.log2 < 1920 := by
  unfold Sm at h
  by_cases z : i.natAbs = 0
  · rw [z]; decide
  · exact (Nat.log2_lt z).mpr (Nat.lt_of_lt_of_le h (by decide +kernel))
theorem Sm.of {i : Int} (h1 : -(10 ^ 32 : Int) < i) (h2 : i < (10 ^ 32 : Int)) : Sm i := by
  unfold Sm
  have e : (10 : Nat) ^ 40 = 100000000 * 10 ^ 32 := by decide +kernel
  rw [e]
  omega
end Mir



namespace Mir
open PySem L2
def TsT {α : Type} (f : α → List V) (H : Hp) (l : Addr) (xs : List α) : Prop :=
  ∃ ts : List Addr, H l = some (.lst (ts.map V.ref)) ∧ ts.length = xs.length ∧ ∀ (i : Nat) (t : Addr) (x : α), ts[i]? = some t → xs[i]? = some x → H t = some (.tup (f x))
section
variable {α : Type} {f : α → List V} {H H' : Hp} {l r b t d : Addr} {xs ys : List α} {x : α}
theorem TsT.same (h : TsT f H l xs) (s : Same H H') : TsT f H' l xs := by
  obtain ⟨ts, h1, h2, h3⟩ := h
  exact ⟨ts, s _ _ h1, h2, fun i t p e1 e2 => s _ _ (h3 i t p e1 e2)⟩
theorem TsT.nil (h : H l = some (.lst [])) : TsT f H l ([] : List α) := ⟨[], h, rfl, fun i t r e => by simp at e⟩
theorem TsT.len (h : TsT f H l xs) : ∃ vs, H l = some (.lst vs) ∧ vs.length = xs.length := by
  obtain ⟨ts, h1, h2, _⟩ := h
  exact ⟨_, h1, by rw [List.length_map]; exact h2⟩
theorem TsT.get {i : Nat} (h : TsT f H l xs) (e : xs[i]? = some x) : ∃ vs t, H l = some (.lst vs) ∧ vs[i]? = some (.ref t) ∧ H t = some (.tup (f x)) := by
  obtain ⟨ts, h1, h2, h3⟩ := h
  have hi := (List.getElem?_eq_some_iff.mp e).1
  have et : ts[i]? = some (ts[i]'(by omega)) := List.getElem?_eq_getElem (by omega)
  exact ⟨_, _, h1, by rw [List.getElem?_map, et]; rfl, h3 i _ x et e⟩
def Tup (f : α → List V) (H : Hp) (ts : List Addr) (xs : List α) : Prop := ts.length = xs.length ∧ ∀ (i : Nat) (t : Addr) (x : α), ts[i]? = some t → xs[i]? = some x → H t = some (.tup (f x))
theorem TsT.tup (h : TsT f H l xs) : ∃ ts, H l = some (.lst (ts.map V.ref)) ∧ Tup f H ts xs := by
  obtain ⟨ts, h1, h2, h3⟩ := h
  exact ⟨ts, h1, h2, h3⟩
theorem Tup.tst {ts : List Addr} (h : Tup f H ts xs) (hl : H l = some (.lst (ts.map V.ref))) : TsT f H l xs := ⟨ts, hl, h.1, h.2⟩
theorem Tup.same {ts : List Addr} (h : Tup f H ts xs) (s : Same H H') : Tup f H' ts xs := ⟨h.1, fun i t p e1 e2 => s _ _ (h.2 i t p e1 e2)⟩
theorem Tup.upd {ts : List Addr} {o : HO} {vs : List V} (h : Tup f H ts xs) (hl : H l = some (.lst vs)) : Tup f (upd H l o) ts xs := ⟨h.1, fun i t p e1 e2 => by
  have key := h.2 i t p e1 e2
  rw [upd_ne (fun e => by rw [e, hl] at key; cases key)]
  exact key⟩
theorem Tup.app {ts us : List Addr} (h : Tup f H ts xs) (k : Tup f H us ys) : Tup f H (ts ++ us) (xs ++ ys) := ⟨by rw [List.length_append, List.length_append, h.1, k.1], fun i t p e1 e2 => by
  by_cases hi : i < ts.length
  · rw [List.getElem?_append_left hi] at e1
    rw [List.getElem?_append_left (by have := h.1; omega)] at e2
    exact h.2 i t p e1 e2
  · rw [List.getElem?_append_right (by omega)] at e1
    rw [List.getElem?_append_right (by have := h.1; omega), ← h.1] at e2
    exact k.2 _ t p e1 e2⟩
theorem Tup.one (h : H t = some (.tup (f x))) : Tup f H [t] [x] := ⟨rfl, fun i u p e1 e2 => by
  cases i with
  | zero => cases e1; cases e2; exact h
  | succ i => cases e1⟩
theorem TsT.snoc (h : TsT f H l xs) (ht : H t = some (.tup (f x))) : ∃ vs, H l = some (.lst vs) ∧ vs.length = xs.length ∧ TsT f (L2.upd H l (.lst (vs ++ [.ref t]))) l (xs ++ [x]) := by
  obtain ⟨ts, h1, h2⟩ := h.tup
  refine ⟨_, h1, by rw [List.length_map]; exact h2.1, ?_⟩
  exact ((h2.app (Tup.one ht)).upd h1).tst (by rw [upd_same, List.map_append]; rfl)
end
end Mir



set_option maxHeartbeats 2000000
namespace SrtR
open PySem PyProof.Rows
class RkP where
  G : Keyed → Prop
  nm : Keyed → Int
  kd : SortKind
variable [RkP]
def num (p : Keyed) : Int := RkP.nm p
def K (xs : Array Keyed) (i : Nat) : Int := match xs[i]? with
  | some p => num p
  | none => 0
def IntKeys (xs : Array Keyed) : Prop := ∀ p ∈ xs.toList, RkP.G p
def SortedTo (xs : Array Keyed) (k : Nat) : Prop := ∀ i j, i ≤ j → j < k → K xs i ≤ K xs j
abbrev oneType' : SortKind := RkP.kd
def Asks (prog : Program) (w : World) (A : Around) (s : Shared) : Prop := ∀ x y : Keyed, RkP.G x → RkP.G y → ∀ (E : Value → Shared → Prop) (Q : Bool → Shared → Prop), Q (decide (num x < num y)) s → wpAny (model prog w) A (keyLt' oneType' x.1 y.1) Q E s
structure IKA (prog : Program) (w : World) (A : Around) (s : Shared) (xs : Array Keyed) : Prop where
  ik : IntKeys xs
  as : Asks prog w A s
section
variable {prog : Program} {w : World} {A : Around} {E : Value → Shared → Prop} {s : Shared}
theorem wpS_lt {st : SortSt} {x y : Keyed} {i j : Int} {Q : Option Bool → SortSt → Prop} (as : Asks prog w A s) (hk : kindOf st = oneType') (hx : RkP.G x ∧ num x = i) (hy : RkP.G y ∧ num y = j) (h : Q (some (decide (i < j))) st) : wpS (model prog w) A E s (lt' x y) Q st := by
  rw [lt'_eq]
  refine wpS_bind (wpS_get ?_)
  rw [hk]
  refine wpS_bind (wpS_lift (wpAny_attempt (as x y hx.1 hy.1 _ _ ⟨rfl, ?_⟩)))
  rw [hx.2, hy.2]
  exact wpS_pure h
theorem wpS_elem {st : SortSt} {arr : Array Keyed} {i : Nat} {Q : Keyed → SortSt → Prop} {p : Keyed} (hp : arr[i]? = some p) (h : Q p st) : wpS (model prog w) A E s (elem' arr i) Q st := by
  rw [elem'_eq, hp]
  exact wpS_pure h
theorem wpS_ite {α : Type} {c : Prop} [Decidable c] {m m' : StateT SortSt Sem α} {Q : α → SortSt → Prop} {st : SortSt} (h1 : c → wpS (model prog w) A E s m Q st) (h2 : ¬ c → wpS (model prog w) A E s m' Q st) : wpS (model prog w) A E s (if c then m else m') Q st := by
  by_cases h : c
  · rw [if_pos h]; exact h1 h
  · rw [if_neg h]; exact h2 h
end
section
variable {a b out : Array Keyed} {ia ib k : Nat}
theorem num_K {xs : Array Keyed} {i : Nat} {p : Keyed} (h : xs[i]? = some p) : K xs i = num p := by unfold K; rw [h]
end
structure SB (a₀ : Array Keyed) (pd : Array (Nat × Nat × Nat)) (lo : Nat) (f : Nat → Int) (st : SortSt) : Prop where
  perm : (arrOf st).Perm a₀
  kd : kindOf st = oneType'
  fl : failedOf st = none
  pd : pendingOf st = pd
  pre : ∀ i, i < lo → K (arrOf st) i = f i
section
variable {a₀ : Array Keyed} {pd : Array (Nat × Nat × Nat)} {lo : Nat} {f : Nat → Int} {st : SortSt}
theorem SB.sz (h : SB a₀ pd lo f st) : (arrOf st).size = a₀.size := h.perm.size_eq
theorem SB.item (h : SB a₀ pd lo f st) (h0 : IntKeys a₀) {i : Nat} (hi : i < a₀.size) : ∃ p, (arrOf st)[i]? = some p ∧ RkP.G p ∧ num p = K (arrOf st) i := by
  have hi' : i < (arrOf st).size := h.sz.symm ▸ hi
  have e : (arrOf st)[i]? = some (arrOf st)[i] := getElem?_pos _ i hi'
  exact ⟨(arrOf st)[i], e, h0 _ ((Array.perm_iff_toList_perm.mp h.perm).mem_iff.mp (Array.getElem_mem_toList hi')), (num_K e).symm⟩
end
def upL (lo a m : Nat) : StateT SortSt Sem AscSt :=
  forIn [a:m] ((none, a) : AscSt) fun _ c => do
    let x ← ltAt' (lo + c.2) (lo + c.2 - 1)
    match x with
    | some b => if b = true then pure (ForInStep.done (none, c.2)) else pure (ForInStep.yield (none, c.2 + 1))
    | _ => pure (ForInStep.done (some none, c.2))
def endL (lo n m : Nat) : StateT SortSt Sem (Option Nat) := do
  reverseSlice' lo (lo + n)
  let c ← upL lo n m
  match c.1 with
  | some r => pure r
  | none => pure (some c.2)
def downL (lo n m : Nat) : StateT SortSt Sem DescSt :=
  forIn [n:m] ((none, n, 0) : DescSt) fun _ c => do
    let x ← ltAt' (lo + c.2.1) (lo + c.2.1 - 1)
    match x with
    | some b =>
      if b = true then
        if c.2.2 > 0 then do
          reverseSlice' (lo + c.2.1 - (c.2.2 + 1)) (lo + c.2.1)
          pure (ForInStep.yield (none, c.2.1 + 1, 0))
        else pure (ForInStep.yield (none, c.2.1 + 1, 0))
      else do
        let y ← ltAt' (lo + c.2.1 - 1) (lo + c.2.1)
        match y with
        | some g => if g = true then pure (ForInStep.done (none, c.2.1, c.2.2)) else pure (ForInStep.yield (none, c.2.1 + 1, c.2.2 + 1))
        | _ => pure (ForInStep.done (some none, c.2.1, c.2.2))
    | _ => pure (ForInStep.done (some none, c.2.1, c.2.2))
def downP (lo n m : Nat) : StateT SortSt Sem (Option Nat) := do
  liftM (rule "list.sort.descending-run")
  let c ← downL lo (n + 1) m
  match c.1 with
  | some r => pure r
  | none =>
    if c.2.2 > 0 then do
      reverseSlice' (lo + c.2.1 - (c.2.2 + 1)) (lo + c.2.1)
      endL lo c.2.1 m
    else endL lo c.2.1 m
theorem countL_eq (lo m : Nat) : countRun' lo m = (do
    let c ← upL lo 1 m
    match c.1 with
    | some r => pure r
    | none =>
      if (c.2 == m) = true then pure (some c.2)
      else if c.2 > 1 then do
        let x ← ltAt' lo (lo + c.2 - 1)
        match x with
        | some b => if b = true then pure (some c.2) else do
            reverseSlice' lo (lo + c.2)
            downP lo c.2 m
        | _ => pure none
      else downP lo c.2 m) := by
  rw [countRun'_eq]
  dsimp only
  unfold downP endL downL upL
  congr 1
  funext c
  obtain ⟨r, n⟩ := c
  cases r with
  | some r => rfl
  | none =>
    dsimp only
    split
    · rfl
    · split
      · congr 1; funext x
        cases x with
        | none => rfl
        | some b =>
          dsimp only
          split
          · rfl
          · congr 1; funext _r
            congr 1; funext _u
            congr 1; congr 1; funext s2
            obtain ⟨r2, n2, q2⟩ := s2
            cases r2 with
            | some r2 => rfl
            | none =>
              dsimp only
              split
              · congr 1; funext _v; congr 1; funext _w; congr 1; funext s3; obtain ⟨r3, n3⟩ := s3; cases r3 <;> rfl
              · congr 1; funext _w; congr 1; funext s3; obtain ⟨r3, n3⟩ := s3; cases r3 <;> rfl
      · congr 1; funext _u
        congr 1; congr 1; funext s2
        obtain ⟨r2, n2, q2⟩ := s2
        cases r2 with
        | some r2 => rfl
        | none =>
          dsimp only
          split
          · congr 1; funext _v; congr 1; funext _w; congr 1; funext s3; obtain ⟨r3, n3⟩ := s3; cases r3 <;> rfl
          · congr 1; funext _w; congr 1; funext s3; obtain ⟨r3, n3⟩ := s3; cases r3 <;> rfl
section
variable {prog : Program} {w : World} {A : Around} {E : Value → Shared → Prop} {s : Shared} {a₀ : Array Keyed} {pd : Array (Nat × Nat × Nat)} {lo : Nat} {f : Nat → Int}
theorem wpS_askL {st : SortSt} {i j : Nat} {Q : Option Bool → SortSt → Prop} (hB : SB a₀ pd lo f st) (h0 : IKA prog w A s a₀) (hi : i < a₀.size) (hj : j < a₀.size) (h : Q (some (decide (K (arrOf st) i < K (arrOf st) j))) st) : wpS (model prog w) A E s (ltAt' i j) Q st := by
  obtain ⟨p, e1, g1⟩ := hB.item h0.ik hi
  obtain ⟨q, e2, g2⟩ := hB.item h0.ik hj
  rw [ltAt'_eq]
  refine wpS_bind (wpS_get ?_)
  refine wpS_bind (wpS_elem e1 (wpS_bind (wpS_elem e2 ?_)))
  exact wpS_lt h0.as hB.kd g1 g2 h
end
end SrtR

namespace PyProof.Rows
open PySem
section
variable {prog : Program} {w : World} {A : Around} {E : Value → Shared → Prop} {s : Shared} {a₀ : Array Keyed}
@[reducible] def intRk : SrtR.RkP := ⟨fun p => ∃ n t, p.1 = .int n t, fun p => numOf p.1, oneType'⟩
end
end PyProof.Rows


set_option maxHeartbeats 4000000


namespace Mir
open PySem L2 Ch
def behM (M : Nat → Nat) (p q e : Nat) : Nat :=
  if p = q then (if e = p ∨ e = M p then e else M e)
  else if e = p then q else if e = q then p
  else if e = M p then (if M q ≠ q then M q else e)
  else if e = M q then (if M p ≠ p then M p else e) else M e
def beh (ms : List Nat) (p q : Nat) : List Nat := (List.range ms.length).map (behM (at0 ms) p q)
theorem beh_len (ms : List Nat) (p q : Nat) : (beh ms p q).length = ms.length := by unfold beh; rw [List.length_map, List.length_range]
theorem beh_at {ms : List Nat} {p q e : Nat} (h : e < ms.length) : at0 (beh ms p q) e = behM (at0 ms) p q e := by
  unfold beh at0
  simp [List.getD, List.getElem?_map, List.getElem?_range h]
theorem ext_at {a b : List Nat} (h : a.length = b.length) (k : ∀ e, e < a.length → at0 a e = at0 b e) : a = b := by
  refine List.ext_getElem? fun i => ?_
  by_cases hi : i < a.length
  · rw [at0_get hi, at0_get (h ▸ hi), k i hi]
  · rw [List.getElem?_eq_none (by omega), List.getElem?_eq_none (by omega)]
theorem at0_set' (ms : List Nat) (i j v : Nat) : at0 (ms.set i v) j = if j = i ∧ i < ms.length then v else at0 ms j := by
  by_cases h : i < ms.length
  · rw [at0_set h]; simp [h]
  · rw [if_neg (by omega), List.set_eq_of_length_le (by omega)]
def Fits (n : Nat) (ms : List Nat) (p q : Int) : Prop := 0 ≤ p ∧ p ≤ q ∧ q < 2 * n ∧ ((at0 ms p.toNat : Nat) : Int) ≠ q
instance {n : Nat} {ms : List Nat} {p q : Int} : Decidable (Fits n ms p q) := by unfold Fits; infer_instance
theorem fits_nat {n : Nat} {ms : List Nat} {x y : Nat} (h1 : x ≤ y) (h2 : y < 2 * n) (h3 : at0 ms x ≠ y) : Fits n ms x y := by
  refine ⟨by omega, by omega, by omega, ?_⟩
  rw [Int.toNat_natCast]
  omega
theorem beh_work {n : Nat} {ms : List Nat} (W : WorkL n ms) {p q : Nat} (hp : p < 2 * n) (hq : q < 2 * n) (hf : at0 ms p ≠ q) : WorkL n (beh ms p q) := by
  have hl := W.len
  have ip := W.wk.inv p hp
  have iq := W.wk.inv q hq
  have lp := W.wk.lt p hp
  have lq := W.wk.lt q hq
  refine ⟨W.small, by rw [beh_len]; exact hl, fun x hx => ?_, fun x hx => ?_⟩
  · rw [beh_at (by omega)]
    have lx := W.wk.lt x hx
    unfold behM
    grind
  · have lx := W.wk.lt x hx
    have ix := W.wk.inv x hx
    have b : behM (at0 ms) p q x < ms.length := by unfold behM; grind
    rw [beh_at (e := x) (by omega), beh_at b]
    unfold behM
    grind
def lawBeh (ms : List Nat) (p q : Nat) : List Nat :=
  let m4 := (((ms.set p p).set q q).set (at0 ms p) (at0 ms p)).set (at0 ms q) (at0 ms q)
  if p = q then m4 else
    let m5 := (m4.set p q).set q p
    if at0 ms p ≠ p ∧ at0 ms q ≠ q then (m5.set (at0 ms p) (at0 ms q)).set (at0 ms q) (at0 ms p) else m5
theorem lawBeh_eq {n : Nat} {ms : List Nat} (W : WorkL n ms) {p q : Nat} (hp : p < 2 * n) (hq : q < 2 * n) (hf : at0 ms p ≠ q) : lawBeh ms p q = beh ms p q := by
  have hl := W.len
  have ip := W.wk.inv p hp
  have iq := W.wk.inv q hq
  have lp := W.wk.lt p hp
  have lq := W.wk.lt q hq
  have ln : (lawBeh ms p q).length = ms.length := by unfold lawBeh; simp only; split; · simp only [List.length_set]
                                                     · split <;> simp only [List.length_set]
  refine ext_at (by rw [ln, beh_len]) fun e he => ?_
  rw [ln] at he
  rw [beh_at he]
  unfold lawBeh behM
  simp only
  by_cases c1 : p = q
  · rw [if_pos c1, if_pos c1]
    simp only [at0_set', List.length_set]
    grind
  · rw [if_neg c1, if_neg c1]
    by_cases c2 : at0 ms p ≠ p ∧ at0 ms q ≠ q
    · rw [if_pos c2]
      simp only [at0_set', List.length_set]
      grind
    · rw [if_neg c2]
      simp only [at0_set', List.length_set]
      grind
def frd (ms : List Nat) (p q : Nat) : List Nat := ([p, q].filter fun e => !decide (at0 ms e = e)).map (at0 ms)
theorem frd_cases (ms : List Nat) (p q : Nat) : frd ms p q = if at0 ms p = p then (if at0 ms q = q then [] else [at0 ms q]) else (if at0 ms q = q then [at0 ms p] else [at0 ms p, at0 ms q]) := by
  unfold frd
  by_cases a : at0 ms p = p <;> by_cases b : at0 ms q = q <;> simp [a, b]
end Mir
namespace Mir
open PySem L2 Ch
theorem nodup_gone {r : List Nat} {g y : Nat} (nr : r.Nodup) (hg : g < r.length) (hy : r[g]? = some y) : y ∉ r.eraseIdx g := fun z => by
  obtain ⟨i, hi, e⟩ := List.mem_eraseIdx_iff_getElem?.mp z
  exact hi ((List.getElem?_inj hg nr).mp (hy.trans e.symm)).symm
section
variable (K : PySem.W.Frag)
def spFits : Sp := fun vs H Q _ => ∃ (a d : Addr) (n : Nat) (ms : List Nat) (p q : Int), vs = [.ref a, .ref d] ∧ SqT K H a (nV ms) ∧ WorkL n ms ∧ SqT K H d [.int p, .int q] ∧ Q (.bl (decide (Fits n ms p q))) H
def spMisfit (C : Addr) : Sp := fun vs H Q E => ∃ (a d : Addr) (n : Nat) (ms : List Nat) (p q : Int), vs = [.ref a, .ref d] ∧ SqT K H a (nV ms) ∧ WorkL n ms ∧ H d = some (.tup [.int p, .int q]) ∧ Sm p ∧ Sm q ∧ (Fits n ms p q → Q .non H) ∧ (¬ Fits n ms p q → E (.ref C) none H)
def spFreedE : Sp := fun vs H Q _ => ∃ (a d : Addr) (n : Nat) (ms : List Nat) (p q : Nat), vs = [.ref a, .ref d] ∧ SqT K H a (nV ms) ∧ WorkL n ms ∧ SqT K H d [.int p, .int q] ∧ p < 2 * n ∧ q < 2 * n ∧
  ∀ (l : Addr) (H' : Hp), H l = none → Same H H' → H' l = some (.lst (nV (frd ms p q))) → Q (.ref l) H'
def spLawNumber : Sp := fun vs H Q _ => ∃ (a : Addr) (ns : List Int) (k : Nat), vs = [.ref a, .int k] ∧ SqL K H a (ns.map V.int) ∧ k ≤ 1000 ∧ ∀ i : Int, Q (.int i) H
def spLawWork : Sp := fun vs H Q _ => ∃ (a : Addr) (ns : List Int) (k n : Nat), vs = [.ref a, .int k, .int n] ∧ SqL K H a (ns.map V.int) ∧ k ≤ 900 ∧ n ≤ 40 ∧ ∀ (l : Addr) (H' : Hp) (ms : List Nat), H l = none → Same H H' → WorkL n ms → H' l = some (.tup (nV ms)) → Q (.ref l) H'
def spWorkIs : Sp := fun vs H Q _ => ∃ (a b : Addr) (ns : List Int), vs = [.ref a, .ref b] ∧ H a = some (.tup (iV ns)) ∧ H b = some (.tup (iV ns)) ∧ ns.length ≤ 1000 ∧ Q (.bl true) H
def spLawFits : Sp := fun vs H Q _ => ∃ (a : Addr) (n : Nat) (ms : List Nat) (p q : Int), vs = [.ref a, .int p, .int q] ∧ SqT K H a (nV ms) ∧ WorkL n ms ∧ Q (.bl (decide (Fits n ms p q))) H
def spLawBeh : Sp := fun vs H Q _ => ∃ (a : Addr) (n : Nat) (ms : List Nat) (p q : Nat), vs = [.ref a, .int p, .int q] ∧ SqT K H a (nV ms) ∧ WorkL n ms ∧ p < 2 * n ∧ q < 2 * n ∧ at0 ms p ≠ q ∧
  ∀ (l : Addr) (H' : Hp), H l = none → Same H H' → H' l = some (.tup (nV (beh ms p q))) → Q (.ref l) H'
end
end Mir

namespace Mir
open PySem L2 Ch
def Leads (n : Nat) (ms os : List Nat) (p q : Nat) : Prop := p ≤ q ∧ q < 2 * n ∧ at0 ms p ≠ q ∧ beh ms p q = os
def IsLeast (n : Nat) (ms os : List Nat) (p q : Nat) : Prop := Leads n ms os p q ∧ ∀ p' q', Leads n ms os p' q' → p < p' ∨ (p = p' ∧ q ≤ q')
section
variable {n : Nat} {ms os : List Nat}
theorem leads_gain (W : WorkL n ms) {p q : Nat} (h : Leads n ms os p q) (c : p ≠ q) : p < at0 os p ∧ at0 os p = q ∧ at0 ms p ≠ at0 os p := by
  obtain ⟨h1, h2, h3, rfl⟩ := h
  have hl := W.len
  rw [beh_at (by omega)]
  unfold behM
  grind
theorem leads_open (W : WorkL n ms) {p : Nat} (h : Leads n ms os p p) : ∀ e, e < 2 * n → ¬ (e < at0 os e ∧ at0 ms e ≠ at0 os e) := fun e he => by
  obtain ⟨h1, h2, h3, rfl⟩ := h
  have hl := W.len
  rw [beh_at (by omega)]
  unfold behM
  grind
end
end Mir

namespace Mir
open PySem L2
def ks : Th.Kd → Str
  | .ring => "ring"
  | .odd => "odd"
  | .bare => "bare"
  | .tied => "tied"
inductive Fa2 {α β : Type} (R : α → β → Prop) : List α → List β → Prop
  | nil : Fa2 R [] []
  | cons {a : α} {b : β} {l : List α} {m : List β} : R a b → Fa2 R l m → Fa2 R (a :: l) (b :: m)
theorem Fa2.perm {α β : Type} {R : α → β → Prop} {a b : List α} (h : a.Perm b) : ∀ {c : List β}, Fa2 R b c → ∃ d, d.Perm c ∧ Fa2 R a d := by
  induction h with
  | nil => intro c t; exact ⟨c, List.Perm.refl _, t⟩
  | cons x _ ih =>
    intro c t
    cases t with
    | cons r t =>
      obtain ⟨d, hd, td⟩ := ih t
      exact ⟨_, hd.cons _, .cons r td⟩
  | swap x y l =>
    intro c t
    cases t with
    | cons r t =>
      cases t with
      | cons r2 t => exact ⟨_, List.Perm.swap _ _ _, .cons r2 (.cons r t)⟩
  | trans _ _ ih1 ih2 =>
    intro c t
    obtain ⟨d, hd, td⟩ := ih2 t
    obtain ⟨e, he, te⟩ := ih1 td
    exact ⟨e, he.trans hd, te⟩
theorem Fa2.of {α β : Type} {R : α → β → Prop} : ∀ {l : List α} {m : List β}, l.length = m.length → (∀ (i : Nat) (a : α) (b : β), l[i]? = some a → m[i]? = some b → R a b) → Fa2 R l m
  | [], [], _, _ => .nil
  | [], _ :: _, h, _ => by cases h
  | _ :: _, [], h, _ => by cases h
  | a :: l, b :: m, h, k => .cons (k 0 a b rfl rfl) (Fa2.of (by simpa using h) fun i x y e1 e2 => k (i + 1) x y e1 e2)
theorem Fa2.len {α β : Type} {R : α → β → Prop} : ∀ {l : List α} {m : List β}, Fa2 R l m → l.length = m.length
  | _, _, .nil => rfl
  | _, _, .cons _ t => by rw [List.length_cons, List.length_cons, t.len]
theorem Fa2.get {α β : Type} {R : α → β → Prop} : ∀ {l : List α} {m : List β}, Fa2 R l m → ∀ (i : Nat) (a : α) (b : β), l[i]? = some a → m[i]? = some b → R a b
  | _, _, .nil, i, a, b, e, _ => by simp at e
  | _, _, .cons r t, 0, a, b, e1, e2 => by cases e1; cases e2; exact r
  | _, _, .cons r t, i + 1, a, b, e1, e2 => t.get i a b e1 e2
variable (K : PySem.W.Frag)
end Mir


namespace Mir
open PySem L2
theorem ks_inj : ∀ a b : Th.Kd, ks a = ks b → a = b := by
  intro a b h
  cases a <;> cases b <;> first | rfl | exact absurd h (by decide)
end Mir


namespace L2
theorem iteY {b : Bool} {A B : Prop} (hb : b = true) (h : A) : if b = true then A else B := by rw [if_pos hb]; exact h
theorem iteN {b : Bool} {A B : Prop} (hb : b = false) (h : B) : if b = true then A else B := by rw [if_neg (by rw [hb]; decide)]; exact h
theorem dInt {i j : Int} (h : i = j) : decide (V.int i = V.int j) = true := decide_eq_true (by rw [h])
theorem dNeN {i j : Int} (h : i = j) : (!decide (V.int i = V.int j)) = false := by rw [dInt h]; rfl
end L2



namespace Mir
open PySem L2 Ch
def otherP (ms : List Nat) (p q : Nat) : Nat × Nat := (min (at0 ms p) (at0 ms q), max (at0 ms p) (at0 ms q))
def leastP (ms : List Nat) (p q : Nat) : Nat × Nat :=
  if at0 ms p ≠ p ∧ at0 ms q ≠ q then (if (otherP ms p q).1 < p ∨ ((otherP ms p q).1 = p ∧ (otherP ms p q).2 < q) then otherP ms p q else (p, q)) else (p, q)
section
variable {n : Nat} {ms : List Nat}
theorem other_leads (W : WorkL n ms) {p q : Nat} (h1 : p ≤ q) (h2 : q < 2 * n) (h3 : at0 ms p ≠ q) (c : at0 ms p ≠ p ∧ at0 ms q ≠ q) : Leads n ms (beh ms p q) (otherP ms p q).1 (otherP ms p q).2 := by
  have lp := W.wk.lt p (by omega)
  have lq := W.wk.lt q h2
  have ip := W.wk.inv p (by omega)
  have iq := W.wk.inv q h2
  unfold otherP
  refine ⟨by simp only; omega, by simp only; omega, ?_, ?_⟩
  · simp only
    by_cases d : at0 ms p ≤ at0 ms q
    · rw [Nat.min_eq_left d, Nat.max_eq_right d, ip]
      grind
    · rw [Nat.min_eq_right (by omega), Nat.max_eq_left (by omega), iq]
      grind
  · simp only
    refine ext_at (by rw [beh_len, beh_len]) fun e he => ?_
    rw [beh_len] at he
    rw [beh_at he, beh_at he]
    unfold behM
    by_cases d : at0 ms p ≤ at0 ms q
    · rw [Nat.min_eq_left d, Nat.max_eq_right d, ip, iq]
      grind
    · rw [Nat.min_eq_right (by omega), Nat.max_eq_left (by omega), ip, iq]
      grind
theorem leads_one (W : WorkL n ms) {p q x y : Nat} (h1 : p ≤ q) (h2 : q < 2 * n) (h3 : at0 ms p ≠ q) (L : Leads n ms (beh ms p q) x y) : (x = p ∧ y = q) ∨ ((at0 ms p ≠ p ∧ at0 ms q ≠ q) ∧ x = (otherP ms p q).1 ∧ y = (otherP ms p q).2) := by
  have hl := W.len
  have ip := W.wk.inv p (by omega)
  have iq := W.wk.inv q h2
  have vb : ∀ e, e < 2 * n → at0 (beh ms p q) e = behM (at0 ms) p q e := fun e he => beh_at (by omega)
  have lx : x < 2 * n := by have := L.1; have := L.2.1; omega
  unfold otherP
  simp only
  by_cases c : x = y
  · subst c
    have hx := L.2.2.1
    have ix := W.wk.inv x lx
    have no := leads_open W L
    have epq : p = q := Classical.byContradiction fun z => no p (by omega) (by
      rw [vb p (by omega)]
      unfold behM
      rw [if_neg z, if_pos rfl]
      exact ⟨by omega, h3⟩)
    subst epq
    have vp : at0 (beh ms x x) p = at0 (beh ms p p) p := by rw [L.2.2.2]
    rw [beh_at (by omega), beh_at (by omega)] at vp
    unfold behM at vp
    have r1 : (if p = p ∨ p = at0 ms p then p else at0 ms p) = p := if_pos (.inl rfl)
    rw [if_pos rfl, if_pos rfl, r1] at vp
    by_cases e1 : p = x
    · exact .inl ⟨e1.symm, e1.symm⟩
    · have e2 : p = at0 ms x := Classical.byContradiction fun z => by
        rw [if_neg (by rintro (y | y); exact e1 y; exact z y)] at vp
        exact h3 vp
      have e3 : at0 ms p = x := by rw [e2]; exact ix
      exact .inr ⟨⟨h3, h3⟩, by omega, by omega⟩
  · obtain ⟨g1, g2, g3⟩ := leads_gain W L c
    rw [vb x lx] at g1 g2 g3
    unfold behM at g1 g2 g3
    by_cases epq : p = q
    · exfalso
      rw [if_pos epq] at g2 g3 g1
      by_cases e1 : x = p ∨ x = at0 ms p
      · rw [if_pos e1] at g2; exact c g2
      · rw [if_neg e1] at g3; exact g3 rfl
    · rw [if_neg epq] at g1 g2 g3
      by_cases e1 : x = p
      · rw [if_pos e1] at g2
        exact .inl ⟨e1, g2.symm⟩
      · rw [if_neg e1] at g1 g2 g3
        by_cases e2 : x = q
        · rw [if_pos e2] at g1
          omega
        · rw [if_neg e2] at g1 g2 g3
          by_cases e3 : x = at0 ms p
          · rw [if_pos e3] at g1 g2 g3
            by_cases e4 : at0 ms q ≠ q
            · rw [if_pos e4] at g1 g2
              exact .inr ⟨⟨fun z => e1 (by rw [e3]; exact z), e4⟩, by omega, by omega⟩
            · rw [if_neg e4] at g2
              exact absurd g2 c
          · rw [if_neg e3] at g1 g2 g3
            by_cases e4 : x = at0 ms q
            · rw [if_pos e4] at g1 g2 g3
              by_cases e5 : at0 ms p ≠ p
              · rw [if_pos e5] at g1 g2
                exact .inr ⟨⟨e5, fun z => e2 (by rw [e4]; exact z)⟩, by omega, by omega⟩
              · rw [if_neg e5] at g2
                exact absurd g2 c
            · rw [if_neg e4] at g3
              exact absurd rfl g3
theorem leastP_least (W : WorkL n ms) {p q : Nat} (h1 : p ≤ q) (h2 : q < 2 * n) (h3 : at0 ms p ≠ q) : IsLeast n ms (beh ms p q) (leastP ms p q).1 (leastP ms p q).2 := by
  have L0 : Leads n ms (beh ms p q) p q := ⟨h1, h2, h3, rfl⟩
  have one : ∀ p' q', Leads n ms (beh ms p q) p' q' → (p' = p ∧ q' = q) ∨ ((at0 ms p ≠ p ∧ at0 ms q ≠ q) ∧ p' = (otherP ms p q).1 ∧ q' = (otherP ms p q).2) := fun p' q' L => leads_one W h1 h2 h3 L
  unfold leastP
  by_cases c : at0 ms p ≠ p ∧ at0 ms q ≠ q
  · rw [if_pos c]
    have L1 := other_leads W h1 h2 h3 c
    generalize otherP ms p q = o at L1 one
    obtain ⟨o1, o2⟩ := o
    by_cases d : o1 < p ∨ (o1 = p ∧ o2 < q)
    · rw [if_pos d]
      refine ⟨L1, fun p' q' L => ?_⟩
      rcases one p' q' L with ⟨e1, e2⟩ | ⟨_, e1, e2⟩
      · show o1 < p' ∨ (o1 = p' ∧ o2 ≤ q')
        omega
      · exact .inr ⟨e1.symm, Nat.le_of_eq e2.symm⟩
    · rw [if_neg d]
      refine ⟨L0, fun p' q' L => ?_⟩
      rcases one p' q' L with ⟨e1, e2⟩ | ⟨_, e1, e2⟩
      · exact .inr ⟨e1.symm, Nat.le_of_eq e2.symm⟩
      · show p < p' ∨ (p = p' ∧ q ≤ q')
        simp only at e1 e2
        omega
  · rw [if_neg c]
    refine ⟨L0, fun p' q' L => ?_⟩
    rcases one p' q' L with ⟨e1, e2⟩ | ⟨z, _⟩
    · exact .inr ⟨e1.symm, Nat.le_of_eq e2.symm⟩
    · exact absurd z c
theorem leastP_iff (W : WorkL n ms) {p q : Nat} (h1 : p ≤ q) (h2 : q < 2 * n) (h3 : at0 ms p ≠ q) : leastP ms p q = (p, q) ↔ ∀ p' q', Leads n ms (beh ms p q) p' q' → ¬ (p' < p ∨ (p' = p ∧ q' < q)) := by
  have L := leastP_least W h1 h2 h3
  have L0 : Leads n ms (beh ms p q) p q := ⟨h1, h2, h3, rfl⟩
  constructor
  · intro e p' q' l
    rw [e] at L
    have := L.2 p' q' l
    simp only at this
    omega
  · intro h
    have := h _ _ L.1
    have := L.2 _ _ L0
    refine Prod.ext ?_ ?_
    · show (leastP ms p q).1 = p
      omega
    · show (leastP ms p q).2 = q
      omega
end
end Mir



namespace Th
open Classical
theorem flatMap_len {α β : Type} (f : α → List β) (c : Nat) : ∀ l : List α, (∀ x ∈ l, (f x).length ≤ c) → (l.flatMap f).length ≤ l.length * c
  | [], _ => Nat.zero_le _
  | x :: r, h => by
    rw [List.flatMap_cons, List.length_append, List.length_cons, Nat.add_mul, Nat.one_mul]
    have h1 := h x List.mem_cons_self
    have h2 := flatMap_len f c r fun y hy => h y (List.mem_cons_of_mem _ hy)
    omega
end Th


set_option maxHeartbeats 1000000
namespace PySem.SeqAt
open AutoSeq1 (wpAny_loadPart')
open MeetsSeq MeetsSeq2 MeetsSeq3 SeqRoads2
theorem tuple_lt2 (l m : Addr) (a b c d : Int) (t1 t2 t3 t4 : Tok) (n n2 : Nat) (dd dd2 : Option Addr) (sl sl2 : Array (Option Value)) :
    Meets (Builtin.«tuple.__lt__» ⟨[.ref l, .ref m], []⟩)
      (fun A R s => s.heap.get? l = some { cls := .type "tuple", dict := dd, data := .seq #[.int a t1, .int b t2] n, slots := sl } ∧ s.heap.get? m = some { cls := .type "tuple", dict := dd2, data := .seq #[.int c t3, .int d t4] n2, slots := sl2 } ∧
        R (.ok (.ret (.bool (decide (a < c ∨ a = c ∧ b < d))))) s) :=
  .of_wp fun prog w A R s h => by
    obtain ⟨hp, g, dr, tk, os⟩ := s
    obtain ⟨hl, hb, h⟩ := h
    have f2 := AutoSeq1.sub_tuple_tuple
    have rc : ∀ (x y : Int) (u v : Tok) (Q' : Value → Shared → Prop) (E' : Value → Shared → Prop) (s' : Shared), Q' (.bool (decide (x < y))) s' → wpAny (model prog w) A.in1 (richCompare .Lt (.int x u) (.int y v)) Q' E' s' := fun x y u v Q' E' s' q => wpAny_lt_int q
    by_cases e1 : a = c
    · have g1 : (a == c) = true := beq_iff_eq.mpr e1
      by_cases e2 : b = d
      · have g2 : (b == d) = true := beq_iff_eq.mpr e2
        have g3 : decide (a < c ∨ a = c ∧ b < d) = false := decide_eq_false (by omega)
        rw [g3] at h
        wp_walk using wpAny_loadPart' hl, wpAny_loadPart' hb, wpAny_eqBool_int
        exact ⟨_, rfl, h⟩
      · have g2 : (b == d) = false := beq_eq_false_iff_ne.mpr e2
        have g3 : decide (a < c ∨ a = c ∧ b < d) = decide (b < d) := decide_eq_decide.mpr (by omega)
        rw [g3] at h
        wp_walk using wpAny_loadPart' hl, wpAny_loadPart' hb, wpAny_eqBool_int, rc
        exact ⟨_, rfl, h⟩
    · have g1 : (a == c) = false := beq_eq_false_iff_ne.mpr e1
      have g3 : decide (a < c ∨ a = c ∧ b < d) = decide (a < c) := decide_eq_decide.mpr (by omega)
      rw [g3] at h
      wp_walk using wpAny_loadPart' hl, wpAny_loadPart' hb, wpAny_eqBool_int, rc
      exact ⟨_, rfl, h⟩
theorem rc_lt2 {prog : Program} {w : World} {A : Around} {s : Shared} {E : Value → Shared → Prop} {Q : Value → Shared → Prop} {l m : Addr} {a b c d : Int} {t1 t2 t3 t4 : Tok} (hl : s.heap.IsTuple l #[.int a t1, .int b t2]) (hb : s.heap.IsTuple m #[.int c t3, .int d t4]) (hu : A.units < cLine)
    (h : Q (.bool (decide (a < c ∨ a = c ∧ b < d))) s) : wpAny (model prog w) A (richCompare .Lt (.ref l) (.ref m)) Q E s := by
  obtain ⟨⟨cl, d1, da, sl⟩, ho, rfl, n, rfl⟩ := id hl
  obtain ⟨⟨cl2, d2, da2, sl2⟩, ho2, rfl, n2, rfl⟩ := id hb
  exact richCompare_meets_room (op := .Lt) ⟨_, ho, rfl⟩ ⟨_, ho2, rfl⟩ F.slot_tuple_lt F.entry_tuple_lt (F.args_tuple_lt_2 _ _) (tuple_lt2 l m a b c d t1 t2 t3 t4 n n2 d1 d2 sl sl2)
    ⟨ho, ho2, show Value.bool (decide (a < c ∨ a = c ∧ b < d)) ≠ Value.notImplemented ∧ Q (.bool (decide (a < c ∨ a = c ∧ b < d))) s from ⟨(fun x => nomatch x), h⟩⟩ hu
end PySem.SeqAt

set_option maxHeartbeats 1000000
namespace PySem
section
variable {prog : Program} {w : World} {A : Around} {E : Value → Shared → Prop} {s : Shared}
theorem min_loop2 {I L : Addr} {fp wr : List Addr} {St : Nat → Heap → Prop} {x y : Value} {r : Bool} {R : Result → Shared → Prop} {z : Shared} {c : Nat} (W : Walks prog w A.in1 I fp wr 2 (fun i v => (#[x, y] : Array Value)[i]? = some v) St) (nL : L ∉ fp) (st : St 0 z.heap)
    (hL : z.heap.get? L = some { cls := .type "list", dict := none, data := .seq #[] c, slots := #[] })
    (hcmp : ∀ (h' : Heap) (tk : Nat) (E' : Value → Shared → Prop) (Q' : Value → Shared → Prop), (∀ q o, q ∉ wr → q ≠ L → z.heap.get? q = some o → h'.get? q = some o) → Q' (.bool r) { z with heap := h', toks := tk } → wpAny (model prog w) A.in1 (richCompare .Lt y x) Q' E' { z with heap := h', toks := tk })
    (hR : ∀ h' tk, (∀ q o, q ∉ wr → q ≠ L → z.heap.get? q = some o → h'.get? q = some o) → R (.ok (.ret (if r = true then y else x))) { z with heap := h', toks := tk }) :
    codeAny (model prog w) A (.builtin "min.loop" ⟨[.ref I, .none, .ref L], []⟩) R z := by
  have nm : (toString "min" ++ toString ".loop" : String) = "min.loop" := by decide
  have nw : L ∉ wr := fun q => nL (W.sub _ q)
  have fin : ∀ (v : Value) (h1 : Heap) (k1 c1 : Nat), St 2 h1 → h1.get? L = some { cls := .type "list", dict := none, data := .seq #[v, v] c1, slots := #[] } → (∀ q o, q ∉ wr → q ≠ L → z.heap.get? q = some o → h1.get? q = some o) → v = (if r = true then y else x) →
      codeAny (model prog w) A (.builtin "min.loop" ⟨[.ref I, .none, .ref L], []⟩) R { z with heap := h1, toks := k1 } := fun v h1 k1 c1 s1 l1 kp ev => by
    refine codeAny_builtin F.entry_min_loop ?_
    rw [Around.under_plainId F.plain_min_loop _]
    show wpAny _ A.in1 (seqItems? (.ref L) >>= _) _ _ { z with heap := h1, toks := k1 }
    refine wpAny_bind (wpAny_seqItems l1 rfl ?_)
    show wpAny _ A.in1 (tryCatch (pyNext (.ref I)) _ >>= _) _ _ { z with heap := h1, toks := k1 }
    refine wpAny_bind (wpAny_tryCatch (W.done _ _ _ s1 fun h2 k2 kq => ?_))
    have l2 := kq L _ nw l1
    show wpAny _ A.in1 (updateSeq L (fun _ => #[]) >>= _) _ _ _
    refine wpAny_bind (wpAny_updateSeq l2 rfl (wpAny_bind (wpAny_letGo (wpAny_pure ?_))))
    rw [ev]
    exact hR _ k2 fun q o q1 q2 e => (Heap.get?_update_other _ _ (Ne.symm q2)).trans (kq q o q1 (kp q o q1 q2 e))
  refine codeAny_builtin F.entry_min_loop ?_
  rw [Around.under_plainId F.plain_min_loop _]
  show wpAny _ A.in1 (seqItems? (.ref L) >>= _) _ _ z
  refine wpAny_bind (wpAny_seqItems hL rfl ?_)
  show wpAny _ A.in1 (tryCatch (pyNext (.ref I)) _ >>= _) _ _ z
  refine wpAny_bind (wpAny_tryCatch (W.item 0 z _ _ (by decide) st fun v h1 k1 pv s1 kq => ?_))
  obtain rfl : v = x := (Option.some.inj pv).symm
  have l1 := kq L _ nw hL
  show wpAny _ A.in1 (updateSeq L (fun _ => #[v, v]) >>= _) _ _ _
  refine wpAny_bind (wpAny_updateSeq l1 rfl ?_)
  rw [nm]
  refine wpAny_pure ⟨plainId_quiet F.plain_min_loop _, codeAny_builtin F.entry_min_loop ?_⟩
  rw [Around.under_plainId F.plain_min_loop _]
  obtain ⟨c2, l2⟩ : ∃ c2, (h1.update L (Obj.mapSeq fun _ => #[v, v])).get? L = some { cls := .type "list", dict := none, data := .seq #[v, v] c2, slots := #[] } := ⟨_, PyProof.Rows.get?_update_seq l1 fun _ => #[v, v]⟩
  have s2 : St 1 _ := W.frame 1 h1 (h1.update L (Obj.mapSeq fun _ => #[v, v])) s1 fun q hq o e => (Heap.get?_update_other _ _ (fun u : L = q => nL (by rw [u]; exact hq))).trans e
  have kp2 : ∀ q o, q ∉ wr → q ≠ L → z.heap.get? q = some o → (h1.update L (Obj.mapSeq fun _ => #[v, v])).get? q = some o := fun q o q1 q2 e => (Heap.get?_update_other _ _ (Ne.symm q2)).trans (kq q o q1 e)
  show wpAny (model prog w) A.in1 _ _ _ { z with heap := h1.update L (Obj.mapSeq fun _ => #[v, v]), toks := k1 }
  generalize h1.update L (Obj.mapSeq fun _ => #[v, v]) = h2 at l2 s2 kp2
  show wpAny _ A.in1 (seqItems? (.ref L) >>= _) _ _ { z with heap := h2, toks := k1 }
  refine wpAny_bind (wpAny_seqItems l2 rfl ?_)
  show wpAny _ A.in1 (tryCatch (pyNext (.ref I)) _ >>= _) _ _ { z with heap := h2, toks := k1 }
  refine wpAny_bind (wpAny_tryCatch (W.item 1 _ _ _ (by decide) s2 fun u h3 k3 pu s3 kr => ?_))
  obtain rfl : u = y := (Option.some.inj pu).symm
  have l3 := kr L _ nw l2
  have kp3 : ∀ q o, q ∉ wr → q ≠ L → z.heap.get? q = some o → h3.get? q = some o := fun q o q1 q2 e => kr q o q1 (kp2 q o q1 q2 e)
  show wpAny _ A.in1 (tryCatch (holding [u, u] (richCompare .Lt u v >>= _)) _ >>= _) _ _ { z with heap := h3, toks := k3 }
  refine wpAny_bind (wpAny_tryCatch (wpAny_holding (wpAny_bind (hcmp h3 k3 _ _ kp3 ?_))))
  refine wpAny_bind (wpAny_holding (wpAny_truthy_bool (wpAny_bind (wpAny_letGo (wpAny_pure ?_)))))
  cases r with
  | true =>
    simp only [if_true]
    refine wpAny_bind (wpAny_updateSeq l3 rfl (wpAny_bind (wpAny_letGo ?_)))
    rw [nm]
    obtain ⟨c4, l4⟩ : ∃ c4, (h3.update L (Obj.mapSeq fun _ => #[u, u])).get? L = some { cls := .type "list", dict := none, data := .seq #[u, u] c4, slots := #[] } := ⟨_, PyProof.Rows.get?_update_seq l3 fun _ => #[u, u]⟩
    refine wpAny_pure ⟨plainId_quiet F.plain_min_loop _, fin u _ k3 c4 (W.frame 2 h3 _ s3 fun q hq o e => (Heap.get?_update_other _ _ (fun g : L = q => nL (by rw [g]; exact hq))).trans e) l4 (fun q o q1 q2 e => (Heap.get?_update_other _ _ (Ne.symm q2)).trans (kp3 q o q1 q2 e)) rfl⟩
  | false =>
    simp only [Bool.false_eq_true, if_false]
    refine wpAny_bind (wpAny_letGo ?_)
    rw [nm]
    exact wpAny_pure ⟨plainId_quiet F.plain_min_loop _, fin v h3 k3 c2 s3 l3 kp3 rfl⟩
theorem min_two_at {a b : Value} {r : Bool} {Q : Value → Shared → Prop} (hh : A.handled = none)
    (hcmp : ∀ (h' : Heap) (tk : Nat) (E' : Value → Shared → Prop) (Q' : Value → Shared → Prop), (∀ c o, s.heap.get? c = some o → h'.get? c = some o) → Q' (.bool r) { s with heap := h', toks := tk } → wpAny (model prog w) A.in1 (richCompare .Lt b a) Q' E' { s with heap := h', toks := tk })
    (h : ∀ h' tk, (∀ c o, s.heap.get? c = some o → h'.get? c = some o) → Q (if r = true then b else a) { s with heap := h', toks := tk }) :
    wpAny (model prog w) A (call (.builtin "min") [a, b]) Q E s := by
  have nm : (toString "min" ++ toString ".loop" : String) = "min.loop" := by decide
  have hT : (s.heap.push { cls := .type "tuple", data := .seq #[a, b] }).IsTuple s.heap.objs.size #[a, b] := ⟨_, Heap.get?_push_size _ rfl, rfl, 0, rfl⟩
  have z1 : (s.heap.push { cls := .type "tuple", data := .seq #[a, b] }).objs.size = s.heap.objs.size + 1 := Heap.size_push ..
  refine call_function_tree F.kind_min F.plain_min F.entry_min (F.args_min2 _ _) ?_
  refine wpAny_bind (m := Builtin.Builtins.bindParams "min" ["key", "default"] 0 ⟨[], []⟩) (wpAny_of_eq (show Builtin.Builtins.bindParams "min" ["key", "default"] 0 ⟨[], []⟩ = pure [none, none] from rfl) (wpAny_bind (m := newTuple [a, b]) (wpAny_newObj_type (wpAny_bind (wpAny_pyIter_tuple hT ?_)))))
  have W := Walks.tuple (prog := prog) (w := w) (A := A.in1) hh (s.heap.objs.size + 1) s.heap.objs.size (Nat.ne_of_lt (Nat.lt_succ_self _)) #[a, b]
  show wpAny (model prog w) A.in1 _ _ _ { s with heap := (s.heap.push { cls := .type "tuple", data := .seq #[a, b] }).push { cls := .type "tuple_iterator", data := .fields #[.ref s.heap.objs.size, .int 0 0] } }
  rw [z1]
  refine wpAny_bind (wpAny_newObj_type ?_)
  rw [nm]
  have z2 : ((s.heap.push { cls := .type "tuple", data := .seq #[a, b] }).push { cls := .type "tuple_iterator", data := .fields #[.ref s.heap.objs.size, .int 0 0] }).objs.size = s.heap.objs.size + 2 := by rw [Heap.size_push, z1]
  have g1 : ((s.heap.push { cls := .type "tuple", data := .seq #[a, b] }).push { cls := .type "tuple_iterator", data := .fields #[.ref s.heap.objs.size, .int 0 0] }).get? (s.heap.objs.size + 1) = some { cls := .type "tuple_iterator", data := .fields #[.ref s.heap.objs.size, .int 0 0] } := z1 ▸ Heap.get?_push_size _ rfl
  have up : ∀ q o, s.heap.get? q = some o → (((s.heap.push { cls := .type "tuple", data := .seq #[a, b] }).push { cls := .type "tuple_iterator", data := .fields #[.ref s.heap.objs.size, .int 0 0] }).push { cls := .type "list", data := .seq #[] }).get? q = some o ∧ q ∉ [s.heap.objs.size + 1] ∧ q ≠ s.heap.objs.size + 2 := fun q o e => by
    have lt : q < s.heap.objs.size := Heap.lt_size e
    refine ⟨Heap.get?_push_of_some _ (Heap.get?_push_of_some _ (Heap.get?_push_of_some _ e)), fun y => ?_, Nat.ne_of_lt (Nat.lt_succ_of_lt (Nat.lt_succ_of_lt lt))⟩
    exact absurd (List.mem_singleton.mp y) (Nat.ne_of_lt (Nat.lt_succ_of_lt lt))
  refine wpAny_pure ⟨plainId_quiet F.plain_min_loop _, ?_⟩
  show codeAny (model prog w) A (.builtin "min.loop" ⟨[.ref (s.heap.objs.size + 1), .none, .ref ((s.heap.push { cls := .type "tuple", data := .seq #[a, b] }).push { cls := .type "tuple_iterator", data := .fields #[.ref s.heap.objs.size, .int 0 0] }).objs.size], []⟩) _ { s with heap := (((s.heap.push { cls := .type "tuple", data := .seq #[a, b] }).push { cls := .type "tuple_iterator", data := .fields #[.ref s.heap.objs.size, .int 0 0] }).push { cls := .type "list", data := .seq #[] }) }
  rw [z2]
  refine min_loop2 (r := r) W (fun y => ?_) ⟨⟨_, Heap.get?_push_of_some _ g1, rfl, rfl⟩, (hT.push _).push _⟩ (c := 0) (z2 ▸ Heap.get?_push_size _ rfl) (fun h' tk E' Q' kp q => ?_) fun h' tk kp => ?_
  · rcases List.mem_cons.mp y with y | y
    · exact absurd y (Nat.ne_of_gt (Nat.lt_succ_self _))
    · exact absurd (List.mem_singleton.mp y) (Nat.ne_of_gt (Nat.lt_succ_of_lt (Nat.lt_succ_self _)))
  · exact hcmp h' tk E' Q' (fun q o e => kp q o (up q o e).2.1 (up q o e).2.2 (up q o e).1) q
  · exact h h' tk fun q o e => kp q o (up q o e).2.1 (up q o e).2.2 (up q o e).1
end
end PySem
namespace L2
open PySem PySem.Spec PyProof.Rows
section
variable {X : Cx}
theorem call_min2T (hc : X.calm = true) (hu : X.A.units + 1 < cLine) : CallR X (.builtin "min") (fun xs H Q => ∃ (p q : Addr) (a b c d : Int), xs = [.ref p, .ref q] ∧ SqT X.K H p [.int a, .int b] ∧ SqT X.K H q [.int c, .int d] ∧ Q (.ref (if c < a ∨ c = a ∧ d < b then q else p)) H) := by
  intro pins s σ H xs us Q I r h
  obtain ⟨p, q, a, b, c, d, rfl, hp, hq, k⟩ := h
  obtain ⟨u, w', rfl, ru, rw'⟩ := vals2 r
  cases ru
  cases rw'
  obtain ⟨i1, v1, p1, _⟩ := I.tuple hp
  obtain ⟨i2, v2, p2, _⟩ := I.tuple hq
  obtain ⟨x1, x2, rfl, ⟨t1, rfl⟩, ⟨t2, rfl⟩⟩ := vals2 v1
  obtain ⟨y1, y2, rfl, ⟨t3, rfl⟩, ⟨t4, rfl⟩⟩ := vals2 v2
  have g1 : s.heap.IsTuple p #[.int a t1, .int b t2] := p1
  have g2 : s.heap.IsTuple q #[.int c t3, .int d t4] := p2
  refine min_two_at (r := decide (c < a ∨ c = a ∧ d < b)) (I.ok.hd hc) (fun h' tk E' Q' kp y => ?_) fun h' tk kp => ?_
  · exact SeqAt.rc_lt2 (s := { s with heap := h', toks := tk }) (g2.at fun o e => kp _ _ e) (g1.at fun o e => kp _ _ e) (by show X.A.in1.units < cLine; exact hu) y
  · refine ⟨.ref (if c < a ∨ c = a ∧ d < b then q else p), H, I.kept kp, ?_, k⟩
    by_cases e : c < a ∨ c = a ∧ d < b
    · rw [if_pos e, if_pos (decide_eq_true e)]; rfl
    · rw [if_neg e, if_neg (by rw [decide_eq_false e]; decide)]; rfl
theorem lst2 {its : List Value} {x y : Int} (r : Vals [.int x, .int y] its) : ∃ t u, its = [.int x t, .int y u] := by
  obtain ⟨a, b, rfl, ⟨t, rfl⟩, ⟨u, rfl⟩⟩ := vals2 r
  exact ⟨t, u, rfl⟩
theorem call_minL2 (hc : X.calm = true) : CallR X (.builtin "min") (fun xs H Q => ∃ (p : Addr) (x y : Int), xs = [.ref p] ∧ SqL X.K H p [.int x, .int y] ∧ Q (.int (min x y)) H) := by
  intro pins s σ H xs us Q I r h
  obtain ⟨p, x, y, rfl, hq, q⟩ := h
  obtain ⟨u, rfl, ru⟩ := r.one
  cases ru
  obtain ⟨its, rv, pl, hz⟩ := I.list hq
  obtain ⟨t1, t2, rfl⟩ := lst2 rv
  have hl := pl.isList
  have hlt : p < s.heap.objs.size := let ⟨_, e, _⟩ := hl; Heap.lt_size e
  refine call_min_walk (wpAny_pyIter_list hl ?_)
  refine ⟨_, _, _, _, _, _, _, rfl, Walks.list (A := X.A.in1) (I.ok.hd hc) s.heap.objs.size p (Nat.ne_of_lt hlt) #[.int x t1, .int y t2], ⟨⟨_, Heap.get?_push_size _ rfl, rfl, rfl⟩, hl.push _⟩, fun b hb => ?_, (by show 0 < 2; decide),
    CmpOf.ints_lt (fun i => if i = 0 then x else y) (fun i v hv => ?_), fun v h' tk hP hk => ?_⟩
  · rw [Heap.size_push]
    rcases List.mem_cons.mp hb with e | e
    · rw [e]; exact Nat.lt_succ_self _
    · rw [List.mem_singleton.mp e]; exact Nat.lt_succ_of_lt hlt
  · match i, hv with
    | 0, hv => exact ⟨t1, (Option.some.inj hv).symm⟩
    | 1, hv => exact ⟨t2, (Option.some.inj hv).symm⟩
    | i + 2, hv => exact absurd hv (by simp)
  · have hold : ∀ c o, s.heap.get? c = some o → h'.get? c = some o := fun c o e => hk c o (fun z => absurd (List.mem_singleton.mp z) (Nat.ne_of_lt (Heap.lt_size e))) (Heap.get?_push_of_some _ e)
    refine ⟨.int (min x y), H, I.kept hold, ?_, q⟩
    by_cases g : y < x
    · have e : argBest (fun i j => decide ((if i = 0 then x else y) < (if j = 0 then x else y))) 1 = 1 := by simp [argBest, g]
      have hP : (#[.int x t1, .int y t2] : Array Value)[argBest (fun i j => decide ((if i = 0 then x else y) < (if j = 0 then x else y))) 1]? = some v := hP
      rw [e] at hP
      have hv : v = .int y t2 := (Option.some.inj hP).symm
      exact ⟨t2, by rw [hv, Int.min_eq_right (by omega)]⟩
    · have e : argBest (fun i j => decide ((if i = 0 then x else y) < (if j = 0 then x else y))) 1 = 0 := by simp [argBest, g]
      have hP : (#[.int x t1, .int y t2] : Array Value)[argBest (fun i j => decide ((if i = 0 then x else y) < (if j = 0 then x else y))) 1]? = some v := hP
      rw [e] at hP
      have hv : v = .int x t1 := (Option.some.inj hP).symm
      exact ⟨t1, by rw [hv, Int.min_eq_left (by omega)]⟩
theorem call_maxL2 (hc : X.calm = true) : CallR X (.builtin "max") (fun xs H Q => ∃ (p : Addr) (x y : Int), xs = [.ref p] ∧ SqL X.K H p [.int x, .int y] ∧ Q (.int (max x y)) H) := by
  intro pins s σ H xs us Q I r h
  obtain ⟨p, x, y, rfl, hq, q⟩ := h
  obtain ⟨u, rfl, ru⟩ := r.one
  cases ru
  obtain ⟨its, rv, pl, hz⟩ := I.list hq
  obtain ⟨t1, t2, rfl⟩ := lst2 rv
  have hl := pl.isList
  have hlt : p < s.heap.objs.size := let ⟨_, e, _⟩ := hl; Heap.lt_size e
  refine call_max_walk (wpAny_pyIter_list hl ?_)
  refine ⟨_, _, _, _, _, _, _, rfl, Walks.list (A := X.A.in1) (I.ok.hd hc) s.heap.objs.size p (Nat.ne_of_lt hlt) #[.int x t1, .int y t2], ⟨⟨_, Heap.get?_push_size _ rfl, rfl, rfl⟩, hl.push _⟩, fun b hb => ?_, (by show 0 < 2; decide),
    CmpOf.ints_gt (fun i => if i = 0 then x else y) (fun i v hv => ?_), fun v h' tk hP hk => ?_⟩
  · rw [Heap.size_push]
    rcases List.mem_cons.mp hb with e | e
    · rw [e]; exact Nat.lt_succ_self _
    · rw [List.mem_singleton.mp e]; exact Nat.lt_succ_of_lt hlt
  · match i, hv with
    | 0, hv => exact ⟨t1, (Option.some.inj hv).symm⟩
    | 1, hv => exact ⟨t2, (Option.some.inj hv).symm⟩
    | i + 2, hv => exact absurd hv (by simp)
  · have hold : ∀ c o, s.heap.get? c = some o → h'.get? c = some o := fun c o e => hk c o (fun z => absurd (List.mem_singleton.mp z) (Nat.ne_of_lt (Heap.lt_size e))) (Heap.get?_push_of_some _ e)
    refine ⟨.int (max x y), H, I.kept hold, ?_, q⟩
    by_cases g : y > x
    · have e : argBest (fun i j => decide ((if i = 0 then x else y) > (if j = 0 then x else y))) 1 = 1 := by simp [argBest, g]
      have hP : (#[.int x t1, .int y t2] : Array Value)[argBest (fun i j => decide ((if i = 0 then x else y) > (if j = 0 then x else y))) 1]? = some v := hP
      rw [e] at hP
      have hv : v = .int y t2 := (Option.some.inj hP).symm
      exact ⟨t2, by rw [hv, Int.max_eq_right (by omega)]⟩
    · have e : argBest (fun i j => decide ((if i = 0 then x else y) > (if j = 0 then x else y))) 1 = 0 := by simp [argBest, g]
      have hP : (#[.int x t1, .int y t2] : Array Value)[argBest (fun i j => decide ((if i = 0 then x else y) > (if j = 0 then x else y))) 1]? = some v := hP
      rw [e] at hP
      have hv : v = .int x t1 := (Option.some.inj hP).symm
      exact ⟨t1, by rw [hv, Int.max_eq_left (by omega)]⟩
end
end L2

namespace SrtR
open PySem PyProof.Rows PySem.W
section
variable {prog : Program} {w : World} {A : Around} {E : Value → Shared → Prop} {s : Shared}
theorem sorted_outR [RkP] {vs : List Value} {rk : Value → Int} (hr : ∀ p : Keyed, num p = rk p.1) {xs : Array Keyed} (hp : xs.Perm (pairsOf vs)) (hs : SortedTo xs (pairsOf vs).size) : (xs.map (·.2)).toList.Perm vs ∧ (xs.map (·.2)).toList.Pairwise fun u v => rk u ≤ rk v := by
  have hl := Array.perm_iff_toList_perm.mp hp
  have ez : (pairsOf vs).toList = vs.zip vs := by unfold pairsOf; simp
  have same : ∀ p ∈ xs.toList, p.1 = p.2 := fun p hpm => by
    have z := hl.mem_iff.mp hpm
    rw [ez] at z
    obtain ⟨i, hi, e⟩ := List.getElem_of_mem z
    rw [List.getElem_zip] at e
    rw [← e]
  rw [Array.toList_map]
  constructor
  · have z := hl.map (·.2)
    rw [ez] at z
    have e2 : (vs.zip vs).map (·.2) = vs := by rw [List.map_snd_zip]; exact Nat.le_refl _
    rw [e2] at z
    exact z
  · rw [List.pairwise_map]
    refine List.pairwise_iff_getElem.mpr fun i j hi hj hij => ?_
    have hsz : xs.size = (pairsOf vs).size := hp.size_eq
    have hi' : i < xs.size := by simpa using hi
    have hj' : j < xs.size := by simpa using hj
    have z := hs i j (by omega) (by omega)
    rw [num_K (getElem?_pos xs i hi'), num_K (getElem?_pos xs j hj'), hr, hr] at z
    have e1 := same _ (List.getElem_mem hi)
    have e2 := same _ (List.getElem_mem hj)
    rw [← e1, ← e2]
    simpa using z
theorem sort_few {a : Addr} {vs : List Value} {n : Nat} {P : PySem.Fin → Shared → Prop} (ho : s.heap.get? a = some (seqObj "list" vs.toArray n)) (h2 : vs.length < 2)
    (h : P (.done (.ret .none)) { s with heap := sortedHeap s.heap a vs vs.toArray }) : wpAny (model prog w) A (Builtin.«list.sort» ⟨[.ref a], []⟩) P E s := by
  rw [list_sort_plain]
  obtain ⟨k, hk⟩ : ∃ k, (s.heap.update a (Obj.mapSeq fun _ => #[])).get? a = some (seqObj "list" #[] k) := ⟨_, get?_update_seq ho (fun _ => #[])⟩
  have hk2 : (((s.heap.update a (Obj.mapSeq fun _ => #[])).push (seqObj "tuple" vs.toArray 0)).push (seqObj "list" #[] 0)).get? a = some (seqObj "list" #[] k) :=
    Heap.get?_push_of_some _ (Heap.get?_push_of_some _ hk)
  have hz1 : vs.toArray.size ≤ sizeLine := by rw [List.size_toArray, sizeLine_eq]; omega
  have hz2 : vs.toArray.toList.length ≤ sizeLine := by rw [sizeLine_eq]; simp; omega
  refine wpAny_bind (listItems_at ho rfl (wpAny_bind (listUpdate_at ho rfl (wpAny_bind (seqEpoch_at hk rfl ?_)) hz1 (Nat.zero_le _))))
  refine wpAny_bind (wpAny_newTuple (wpAny_bind (wpAny_newList (wpAny_holding ?_) (Nat.zero_le _))) hz2)
  show wpAny (model prog w) A _ P E { s with heap := ((s.heap.update a (Obj.mapSeq fun _ => #[])).push (seqObj "tuple" vs.toArray 0)).push (seqObj "list" #[] 0) }
  dsimp only
  have z2 : vs.toArray.size < 2 := by rw [List.size_toArray]; omega
  rw [if_pos z2, if_pos z2]
  refine wpAny_bind (wpAny_pure (wpAny_bind (wpAny_pure ?_)))
  dsimp only
  have e : (arrOf (SortSt.mk' general' (vs.toArray.zip vs.toArray) #[] 7 none)).map (·.2) = vs.toArray := by
    apply Array.toList_inj.mp
    show ((vs.toArray.zip vs.toArray).map (·.2)).toList = vs
    have e2 : (vs.zip vs).map (·.2) = vs := by rw [List.map_snd_zip]; exact Nat.le_refl _
    simpa using e2
  rw [e]
  refine wpAny_bind (seqEpoch_at hk2 rfl (wpAny_bind (listUpdate_at hk2 rfl ?_ (hsz2 := by rw [List.size_toArray, sizeLine_eq]; omega))))
  dsimp only
  rw [bne_self_eq_false]
  exact wpAny_pure h
theorem sorted_few {l : Addr} {vs : List Value} {Q : Value → Shared → Prop} (hl : s.heap.IsList l vs.toArray) (h2 : vs.length < 2)
    (h : Q (.ref (s.heap.objs.size + 1)) { s with heap := sortedAll s.heap vs vs.toArray }) : wpAny (model prog w) A (call (.builtin "sorted") [.ref l]) Q E s := by
  have z : ((s.heap.push (seqObj "list" #[] 0)).update s.heap.objs.size (Obj.mapSeq (· ++ vs.toArray))).objs.size = s.heap.objs.size + 1 := (Heap.size_update _ _ _).trans (size_push' _ _)
  have hL : (((s.heap.push (seqObj "list" #[] 0)).update s.heap.objs.size (Obj.mapSeq (· ++ vs.toArray))).push (seqObj "list" vs.toArray 0)).get? (s.heap.objs.size + 1) = some (seqObj "list" vs.toArray 0) := z ▸ Heap.get?_push_size _ rfl
  refine Calls.call_function_entry kind_sorted plain_sorted entry_sorted (args_sorted1 _) ?_
  unfold Builtin.«sorted»
  refine wpAny_bind (m := checkCount "sorted" 1 1 _) (wpAny_pure (wpAny_bind (collect_list hl (wpAny_bind (wpAny_newList ?_ (by rw [sizeLine_eq]; omega))) (hsz := by rw [sizeLine_eq]; omega))))
  show wpAny _ _ _ _ _ { s with heap := ((s.heap.push (seqObj "list" #[] 0)).update s.heap.objs.size (Obj.mapSeq (· ++ vs.toArray))).push (seqObj "list" vs.toArray 0) }
  rw [z]
  exact wpAny_bind (wpAny_holding (wpAny_call_entry slot_list_sort ⟨_, hL, rfl⟩ entry_list_sort (sort_few hL h2 ⟨_, rfl, wpAny_pure ⟨_, rfl, h⟩⟩) (args_list_sort _)))
end
end SrtR

namespace SrtR
open PySem PySem.Spec PyProof.Rows PySem.W L2
def kx : Th.Kd → Int
  | .bare => 0
  | .odd => 1
  | .ring => 2
  | .tied => 3
theorem kx_inj : ∀ a b : Th.Kd, kx a = kx b → a = b := by intro a b h; cases a <;> cases b <;> first | rfl | exact absurd h (by decide)
theorem kx_lt : ∀ a b : Th.Kd, decide ((Mir.ks a).cps.toList < (Mir.ks b).cps.toList) = decide (kx a < kx b) := by intro a b; cases a <;> cases b <;> decide +kernel
def Pr (h : Heap) (str : Bool) (v : Value) (r : Int) : Prop := ∃ (t : Addr) (o : Obj) (n : Nat) (x : Value) (y a : Int) (u1 u2 : Tok), v = .ref t ∧ h.get? t = some o ∧ o.cls = .type "tuple" ∧ o.data = .seq #[x, .int y u2] n ∧ 0 ≤ y ∧ y < 1000 ∧ r = 1000 * a + y ∧
  ((str = false ∧ x = .int a u1) ∨ (str = true ∧ ∃ k : Th.Kd, x = .str (Mir.ks k) u1 ∧ a = kx k))
theorem Pr.uniq {h : Heap} {str : Bool} {v : Value} {r r' : Int} (p : Pr h str v r) (q : Pr h str v r') : r = r' := by
  obtain ⟨t, o, n, x, y, a, u1, u2, rfl, e1, e2, e3, e4, e5, e6, e7⟩ := p
  obtain ⟨t', o', n', x', y', a', u1', u2', f0, f1, f2, f3, f4, f5, f6, f7⟩ := q
  injection f0 with f0
  subst f0
  rw [e1] at f1
  obtain rfl := Option.some.inj f1
  rw [e3] at f3
  injection f3 with f3 _
  have f3 := congrArg Array.toList f3
  injection f3 with g1 g2
  injection g2 with g2 _
  injection g2 with g2 _
  subst g2
  rcases e7 with ⟨s1, e7⟩ | ⟨e8, k, e7, e9⟩
  · rcases f7 with ⟨_, f7⟩ | ⟨f8, _⟩
    · rw [e7, f7] at g1
      injection g1 with g1 _
      rw [e6, f6, g1]
    · rw [s1] at f8; cases f8
  · rcases f7 with ⟨f8, f7⟩ | ⟨_, k', f7, f9⟩
    · rw [e8] at f8; cases f8
    · rw [e7, f7] at g1
      injection g1 with g1 _
      have := Mir.ks_inj _ _ g1
      rw [e6, f6, e9, f9, this]
open Classical in
noncomputable def rkO (h : Heap) (str : Bool) (v : Value) : Int := if e : ∃ r, Pr h str v r then choose e else 0
theorem rk_of {h : Heap} {str : Bool} {v : Value} {r : Int} (p : Pr h str v r) : rkO h str v = r := by
  unfold rkO
  have e : ∃ r, Pr h str v r := ⟨r, p⟩
  rw [dif_pos e]
  exact (Classical.choose_spec e).uniq p
@[reducible] noncomputable def prRk (h : Heap) (str : Bool) : RkP := ⟨fun p => ∃ r, Pr h str p.1 r, fun p => rkO h str p.1, tuples' true⟩
def tyP (str : Bool) : Value := if str = true then .type "str" else .type "int"
theorem pr_asks {prog : Program} {w : World} {A : Around} {s : Shared} {h : Heap} {str : Bool} (k : ∀ b o, h.get? b = some o → s.heap.get? b = some o) : @Asks (prRk h str) prog w A s := by
  letI := prRk h str
  intro x y ⟨r, px⟩ ⟨r', py⟩ E Q q0
  have q : Q (decide (r < r')) s := by
    have e1 : num x = r := rk_of px
    have e2 : num y = r' := rk_of py
    rw [e1, e2] at q0
    exact q0
  clear q0
  obtain ⟨x1, x2⟩ := x
  obtain ⟨y1, y2⟩ := y
  obtain ⟨t, o, n, x, y, a, u1, u2, rfl, e1, e2, e3, e4, e5, e6, e7⟩ := px
  obtain ⟨t', o', n', x', y', a', u1', u2', rfl, f1, f2, f3, f4, f5, f6, f7⟩ := py
  show wpAny _ _ (keyLt' (tuples' true) (.ref t) (.ref t')) _ _ _
  refine kat_lt (k _ _ e1) e3 (k _ _ f1) f3 ?_
  show KatLex prog w A true (decide (2 < 2)) _ [(x, x'), (.int y u2, .int y' u2')] 0 s
  have second : a = a' → KatLex prog w A true (decide (2 < 2)) Q [(.int y u2, .int y' u2')] 1 s := fun ea => by
    refine kat_cons (wpAny_eqBool_int ?_)
    by_cases c : y = y'
    · rw [show (y == y') = true from beq_iff_eq.mpr c]
      refine kat_yes (kat_nil ?_)
      rw [show decide (2 < 2) = decide (r < r') from decide_eq_decide.mpr (by omega)]
      exact q
    · rw [show (y == y') = false from beq_eq_false_iff_ne.mpr c]
      refine kat_no (kat_one _ _ (lt_int ?_))
      show Q _ s
      rw [show decide (y < y') = decide (r < r') from decide_eq_decide.mpr (by omega)]
      exact q
  rcases e7 with ⟨s1, rfl⟩ | ⟨s1, k1, rfl, ek⟩
  · rcases f7 with ⟨_, rfl⟩ | ⟨s2, _⟩
    · refine kat_cons (wpAny_eqBool_int ?_)
      by_cases c : a = a'
      · rw [show (a == a') = true from beq_iff_eq.mpr c]
        exact kat_yes (second c)
      · rw [show (a == a') = false from beq_eq_false_iff_ne.mpr c]
        refine kat_no (oneLt_int ?_)
        rw [show decide (a < a') = decide (r < r') from decide_eq_decide.mpr (by omega)]
        exact q
    · rw [s1] at s2; cases s2
  · rcases f7 with ⟨s2, _⟩ | ⟨_, k2, rfl, fk⟩
    · rw [s1] at s2; cases s2
    · refine kat_cons (eqBool_str ?_)
      by_cases c : k1 = k2
      · subst c
        rw [beq_self_eq_true]
        exact kat_yes (second (by rw [ek, fk]))
      · rw [show (Mir.ks k1 == Mir.ks k2) = false from beq_eq_false_iff_ne.mpr fun z => c (Mir.ks_inj _ _ z)]
        refine kat_no (oneLt_str ?_)
        have ne : a ≠ a' := fun z => c (kx_inj _ _ (by rw [← ek, ← fk, z]))
        rw [kx_lt, ← ek, ← fk, show decide (a < a') = decide (r < r') from decide_eq_decide.mpr (by omega)]
        exact q
end SrtR
namespace L2
open PySem PySem.Spec PyProof.Rows SrtR
section
variable {X : Cx}
def PrV (str : Bool) (vs : List V) (r : Int) : Prop := ∃ (x : V) (y a : Int), vs = [x, .int y] ∧ 0 ≤ y ∧ y < 1000 ∧ r = 1000 * a + y ∧ ((str = false ∧ x = .int a) ∨ (str = true ∧ ∃ k : Th.Kd, x = .str (Mir.ks k) ∧ a = kx k))
theorem pr_of {pins : List (Addr × Obj)} {s : Shared} {σ : L2.St} {H : Hp} {t : Addr} {vs : List V} {r : Int} {str : Bool} (I : Inv X pins σ H s) (h : H t = some (.tup vs)) (p : PrV str vs r) : Pr s.heap str (.ref t) r := by
  obtain ⟨x, y, a, rfl, h1, h2, h3, h4⟩ := p
  obtain ⟨its, rv, ⟨o, e1, e2, n, e3⟩, _⟩ := I.tuple (SqT.of h)
  cases rv with
  | cons r1 rr =>
    cases rr with
    | cons r2 rr =>
      cases rr
      obtain ⟨u2, rfl⟩ := r2
      rcases h4 with ⟨s1, rfl⟩ | ⟨s1, k, rfl, ek⟩
      · obtain ⟨u1, rfl⟩ := r1
        exact ⟨t, o, n, _, y, a, u1, u2, rfl, e1, e2, e3, h1, h2, h3, .inl ⟨s1, rfl⟩⟩
      · obtain ⟨u1, rfl⟩ := r1
        exact ⟨t, o, n, _, y, a, u1, u2, rfl, e1, e2, e3, h1, h2, h3, .inr ⟨s1, k, rfl, ek⟩⟩
theorem kat_mono {h h' : Heap} (k : ∀ b o, h.get? b = some o → h'.get? b = some o) : ∀ {vs fs : List Value}, PySem.W.KatTups h vs fs → PySem.W.KatTups h' vs fs
  | [], [], _ => trivial
  | [], _ :: _, z => z.elim
  | _ :: _, [], z => z.elim
  | _ :: _, _ :: _, ⟨⟨a, o, xs, n, e0, e1, e2⟩, r⟩ => ⟨⟨a, o, xs, n, e0, k _ _ e1, e2⟩, kat_mono k r⟩
theorem kat_tups {h : Heap} {str : Bool} : ∀ ts : List Addr, (∀ t ∈ ts, ∃ r, Pr h str (.ref t) r) → ∃ fs : List Value, PySem.W.KatTups h (ts.map Value.ref) fs ∧ ∀ v ∈ fs, (str = false ∧ ∃ i u, v = .int i u) ∨ (str = true ∧ ∃ z u, v = .str z u)
  | [], _ => ⟨[], PySem.W.KatTups.nil, fun v hv => absurd hv List.not_mem_nil⟩
  | t :: ts, hp => by
    obtain ⟨fs, h1, h2⟩ := kat_tups ts fun t ht => hp t (List.mem_cons_of_mem _ ht)
    obtain ⟨r, t', o, n, x, y, a, u1, u2, e0, e1, e2, e3, e4, e5, e6, e7⟩ := hp t List.mem_cons_self
    injection e0 with e0
    subst e0
    refine ⟨x :: fs, PySem.W.KatTups.cons e1 e2 e3 rfl h1, fun v hv => ?_⟩
    rcases List.mem_cons.mp hv with rfl | hv
    · rcases e7 with ⟨s1, e7⟩ | ⟨s1, k, e7, _⟩
      · exact .inl ⟨s1, _, _, e7⟩
      · exact .inr ⟨s1, _, _, e7⟩
    · exact h2 v hv
theorem vals_refs : ∀ {ts : List Addr} {its : List Value}, Vals (ts.map V.ref) its → its = ts.map Value.ref
  | [], _, .nil => rfl
  | t :: ts, _, .cons r rr => by cases r; rw [vals_refs rr]; rfl
theorem vals_refs' : ∀ ts : List Addr, Vals (ts.map V.ref) (ts.map Value.ref)
  | [] => .nil
  | t :: ts => .cons rfl (vals_refs' ts)
theorem refs_perm {us : List Value} {ts : List Addr} (h : us.Perm (ts.map Value.ref)) : ∃ ws : List Addr, us = ws.map Value.ref ∧ ws.Perm ts := by
  let g : Value → Addr := fun v => match v with
    | .ref a => a
    | _ => 0
  have e : ∀ v ∈ us, Value.ref (g v) = v := fun v hv => by
    obtain ⟨t, _, rfl⟩ := List.mem_map.mp (h.mem_iff.mp hv)
    rfl
  refine ⟨us.map g, ?_, ?_⟩
  · rw [List.map_map]
    exact (List.map_id' us).symm.trans (List.map_congr_left fun v hv => (e v hv).symm)
  · have z := h.map g
    rw [List.map_map] at z
    have e2 : ts.map (g ∘ Value.ref) = ts := List.map_id' ts
    rw [e2] at z
    exact z
end
end L2

namespace Mir
open PySem L2
def pf (c : Nat × Nat) : List V := [.int (c.1 : Nat), .int (c.2 : Nat)]
def rkN (c : Nat × Nat) : Int := 1000 * c.1 + c.2
def gPr (H : Hp) (t : Addr) : Int := match H t with
  | some (.tup [.int x, .int y]) => 1000 * x + y
  | _ => 0
theorem gPr_pf {H : Hp} {t : Addr} {c : Nat × Nat} (h : H t = some (.tup (pf c))) : gPr H t = rkN c := by
  unfold gPr
  rw [h]
  rfl
theorem prv_pf {c : Nat × Nat} (h : c.2 < 1000) : PrV false (pf c) (rkN c) := ⟨_, c.2, c.1, rfl, by omega, by omega, rfl, .inl ⟨rfl, rfl⟩⟩
theorem sort_pf {H : Hp} {l : Addr} {ts us : List Addr} {xs : List (Nat × Nat)} (hl : ts.length = xs.length) (h3 : ∀ (i : Nat) (t : Addr) (x : Nat × Nat), ts[i]? = some t → xs[i]? = some x → H t = some (.tup (pf x))) (hp : us.Perm ts) (hs : us.Pairwise fun t u => gPr H t ≤ gPr H u) (hn : H l = none) :
    ∃ ys : List (Nat × Nat), ys.Perm xs ∧ (ys.Pairwise fun p q => rkN p ≤ rkN q) ∧ TsT pf (L2.upd H l (.lst (us.map V.ref))) l ys := by
  obtain ⟨ys, y1, y2⟩ := Fa2.perm hp (Fa2.of (R := fun (t : Addr) (x : Nat × Nat) => H t = some (.tup (pf x))) hl fun i t x e1 e2 => h3 i t x e1 e2)
  have len := y2.len
  refine ⟨ys, y1, List.pairwise_iff_getElem.mpr fun i j hi hj hij => ?_, us, upd_same, len, fun i t x e1 e2 => ?_⟩
  · have z := List.pairwise_iff_getElem.mp hs i j (by omega) (by omega) hij
    rw [gPr_pf (y2.get i _ _ (List.getElem?_eq_getElem (by omega)) (List.getElem?_eq_getElem hi)), gPr_pf (y2.get j _ _ (List.getElem?_eq_getElem (by omega)) (List.getElem?_eq_getElem hj))] at z
    exact z
  · exact (same_upd hn) _ _ (y2.get i t x e1 e2)
variable (K : PySem.W.Frag)
def spLeastPair : Sp := fun vs H Q _ => ∃ (a d : Addr) (n p q : Nat) (ms : List Nat), vs = [.ref a, .ref d] ∧ SqT K H a (nV ms) ∧ WorkL n ms ∧ SqT K H d [.int (p : Nat), .int (q : Nat)] ∧ p < 2 * n ∧ q < 2 * n ∧
  ∀ (l : Addr) (H' : Hp), H l = none → Same H H' → H' l = some (.tup (pf (leastP ms p q))) → Q (.ref l) H'
end Mir




namespace Mir
open PySem L2
open Classical
def rowP (p m : Nat) : List (Nat × Nat) := (List.range m).map fun d => (p, p + d)
def allTo (N i : Nat) : List (Nat × Nat) := (List.range i).flatMap fun p => rowP p (N - p)
theorem rowP_succ (p m : Nat) : rowP p (m + 1) = rowP p m ++ [(p, p + m)] := by unfold rowP; rw [List.range_succ, List.map_append]; rfl
theorem allTo_succ (N i : Nat) : allTo N (i + 1) = allTo N i ++ rowP i (N - i) := by
  unfold allTo
  rw [List.range_succ, List.flatMap_append, List.flatMap_cons, List.flatMap_nil, List.append_nil]
theorem mem_rowP {p m : Nat} {c : Nat × Nat} : c ∈ rowP p m ↔ c.1 = p ∧ p ≤ c.2 ∧ c.2 < p + m := by
  unfold rowP
  rw [List.mem_map]
  constructor
  · rintro ⟨d, hd, rfl⟩
    have := List.mem_range.mp hd
    exact ⟨rfl, by simp only; omega, by simp only; omega⟩
  · rintro ⟨h1, h2, h3⟩
    exact ⟨c.2 - p, List.mem_range.mpr (by omega), Prod.ext h1.symm (by simp only; omega)⟩
theorem mem_allTo {N i : Nat} {c : Nat × Nat} : c ∈ allTo N i ↔ c.1 < i ∧ c.1 ≤ c.2 ∧ c.2 < N := by
  unfold allTo
  rw [List.mem_flatMap]
  constructor
  · rintro ⟨p, hp, hc⟩
    obtain ⟨h1, h2, h3⟩ := mem_rowP.mp hc
    have := List.mem_range.mp hp
    omega
  · rintro ⟨h1, h2, h3⟩
    exact ⟨c.1, List.mem_range.mpr h1, mem_rowP.mpr ⟨rfl, h2, by omega⟩⟩
theorem allTo_asc {N : Nat} (h : N ≤ 1000) (i : Nat) : (allTo N i).Pairwise fun c d => rkN c < rkN d := by
  unfold allTo
  rw [List.pairwise_flatMap]
  constructor
  · intro p _
    unfold rowP
    rw [List.pairwise_map]
    refine (List.pairwise_lt_range (n := N - p)).imp fun hab => ?_
    unfold rkN
    simp only
    omega
  · refine (List.pairwise_lt_range (n := i)).imp fun {p q} hpq c hc d hd => ?_
    obtain ⟨h1, h2, h3⟩ := mem_rowP.mp hc
    obtain ⟨g1, g2, g3⟩ := mem_rowP.mp hd
    unfold rkN
    omega
theorem allTo_len (N i : Nat) : (allTo N i).length ≤ i * N := by
  unfold allTo
  have z := Th.flatMap_len (fun p => rowP p (N - p)) N (List.range i) fun p _ => by unfold rowP; rw [List.length_map, List.length_range]; omega
  rwa [List.length_range] at z
section
variable {n : Nat} {ms os : List Nat}
theorem fits_iff {p q : Nat} (h1 : p ≤ q) (h2 : q < 2 * n) : Fits n ms (p : Nat) (q : Nat) ↔ at0 ms p ≠ q := by
  constructor
  · intro h z
    exact h.2.2.2 (by rw [Int.toNat_natCast, z])
  · intro h
    exact fits_nat h1 h2 h
end
end Mir



set_option maxHeartbeats 4000000


namespace Mir
open PySem L2
open Classical
def wK (ms : List Nat) : List Key := ms.map fun (m : Nat) => (Sum.inl (m : Int) : Key)
theorem wK_nV (ms : List Nat) : (wK ms).map kV = nV ms := by unfold wK nV; rw [List.map_map]; rfl
theorem wK_inj {ms os : List Nat} (h : wK ms = wK os) : ms = os := by
  unfold wK at h
  refine (List.map_inj_right (f := fun (m : Nat) => (Sum.inl (m : Int) : Key)) fun x y e => ?_).mp h
  injection e with e
  omega
section
variable {n : Nat} {ms os : List Nat} {l : List (Nat × Nat)} {kvs : List (List Key × V)}
def Ahead (n : Nat) (l : List (Nat × Nat)) (c : Nat × Nat) : Prop := ∀ d : Nat × Nat, d.1 ≤ d.2 → d.2 < 2 * n → (d ∈ l ↔ (d.1 < c.1 ∨ (d.1 = c.1 ∧ d.2 < c.2)))
theorem ahead_at {i j : Nat} (hj : i + j < 2 * n) : Ahead n (allTo (2 * n) i ++ rowP i j) (i, i + j) := fun d h1 h2 => by
  rw [List.mem_append, mem_allTo, mem_rowP]
  simp only
  omega
end
variable (K : PySem.W.Frag)
end Mir

namespace L2V
open PySem PySem.Spec PyProof.Rows
section
variable {prog : Program} {w : World} {A : Around} {E : Value → Shared → Prop} {s : Shared} {R : Result → Shared → Prop}
theorem meets_vals (d : Addr) (hd : (d == sysModules) = false) : MeetsIn prog w (Builtin.«dict.values» ⟨[.ref d], []⟩) (fun _ R s => s.TypeIs (.ref d) "dict" ∧ R (.ok (.ret (.ref s.heap.objs.size))) { s with heap := s.heap.push { cls := .type "dict_values", data := .fields #[.ref d] } }) :=
  .of_wp fun A R s ⟨hm, h⟩ => by
    refine wpAny_bind ?_; unfold Builtin.Dict.noArgs; refine wpAny_bind (wpAny_notOrdered_dict hm ?_); show wpAny _ _ (pure d) _ _ s; refine wpAny_pure ?_
    show wpAny _ _ (Builtin.Dict.showsAll d >>= _) _ _ s; unfold Builtin.Dict.showsAll; rw [if_neg (by rw [hd]; exact Bool.false_ne_true)]
    exact wpAny_bind (wpAny_pure (wpAny_bind (wpAny_newObj_type (wpAny_pure ⟨_, rfl, h⟩))))
def DE (h : Heap) (d : Addr) (es : Array DictEntry) (ep : Nat) : Prop := ∃ o, h.get? d = some o ∧ o.data = .dict es ep
theorem iter_vals {v d : Addr} {es : Array DictEntry} {ep : Nat} {Q : Value → Shared → Prop} (hv : s.heap.IsValuesView v d) (hm : DE s.heap d es ep)
    (hQ : Q (.ref s.heap.objs.size) { s with heap := s.heap.push { cls := .type "dict_valueiterator", data := .fields #[.ref d, .int 0 0, .int es.size 0, .int ep 0] } }) : wpAny (model prog w) A (pyIter (.ref v)) Q E s := by
  obtain ⟨ov, hov, hcv, hdv⟩ := id hv; obtain ⟨o, ho, hdat⟩ := id hm
  refine wpAny_pyIter_slot hv.typeIs F.slot_dict_values_iter (wpAny_call_entry F.slot_dict_values_iter hv.typeIs F.entry_dict_values_iter ?_ (F.args_dict_values_iter_1 _))
  unfold Builtin.«dict_values.__iter__»; refine wpAny_bind (wpAny_pure (wpAny_bind ?_)); unfold Builtin.Dict_items.dictOf
  refine wpAny_bind (wpAny_field hov hdv (x := .ref d) rfl (wpAny_pure (wpAny_bind ?_))); unfold Builtin.Dict_items.newIterator
  refine wpAny_bind (wpAny_dictEntries ho hdat (wpAny_bind (wpAny_dictEpoch ho hdat ?_)))
  have hown : Builtin.Dict_items.ownsTuple "dict_valueiterator" = false := by decide
  simp only [hown, Bool.false_eq_true, if_false]; refine wpAny_newObj_type (wpAny_pure ⟨_, rfl, "dict_valueiterator", _, ⟨_, Heap.get?_push_size _ rfl, rfl⟩, F.slot_dict_valueiterator_next.lookup, ?_⟩)
  simpa [rawInt] using hQ
theorem next_val {it d : Addr} {i ep : Nat} {es : Array DictEntry} {Q : Option Value → Shared → Prop} (hit : s.heap.IsValIter it d i es.size ep) (hm : DE s.heap d es ep) (hlt : i < es.size)
    (hQ : ∀ h', h'.IsValIter it d (i + 1) es.size ep → Heap.SameBut it s.heap h' → Q (some es[i].val) { s with heap := h' }) : wpAny (model prog w) A (pyNext (.ref it)) Q E s := by
  obtain ⟨o, ho, hc, hd⟩ := id hit; obtain ⟨od, hod, hdd⟩ := id hm
  unfold pyNext; refine wpAny_bind (wpAny_attempt (wpAny_callSpecial?_slot (name := Str.ofString "__next__") hit.typeIs F.slot_dict_valueiterator_next (wpAny_call_entry F.slot_dict_valueiterator_next hit.typeIs F.entry_dict_valueiterator_next ?_ (F.args_dict_valueiterator_next_1 _))))
  refine wpAny_bind (wpAny_pure (wpAny_bind (wpAny_bind ?_)))
  (first | refine wpAny_bind (wpAny_typeNameOfWhole_valiter hit.typeIs (wpAny_pure ?_)) | refine wpAny_bind (wpAny_typeNameOf_valiter hit.typeIs (wpAny_pure ?_))); refine wpAny_bind (wpAny_fieldsOf ho hd ?_)
  have hown : Builtin.Dict_items.ownsTuple "dict_valueiterator" = false := by decide
  simp only [hown, Bool.false_eq_true, if_false]; show wpAny _ _ (if (Value.ref d == Value.none) = true then _ else _) _ _ s
  rw [if_neg (show ¬ ((Value.ref d == Value.none) = true) from Bool.false_ne_true)]; refine wpAny_bind (wpAny_pure (wpAny_bind (wpAny_dictEntries hod hdd ?_)))
  rw [if_neg (by simp)]; refine wpAny_bind (wpAny_pure (wpAny_bind (wpAny_dictEpoch hod hdd ?_))); rw [if_neg (by simp)]; refine wpAny_pure ?_
  simp only [show ¬ ((i : Int) < 0) from by omega, if_false, Int.toNat_natCast, Array.getElem?_eq_getElem hlt]; refine wpAny_bind ?_
  (first | refine wpAny_bind (wpAny_typeNameOfWhole_valiter hit.typeIs (wpAny_pure ?_)) | refine wpAny_bind (wpAny_typeNameOf_valiter hit.typeIs (wpAny_pure ?_))); refine wpAny_bind (wpAny_isOneOf_valiter hit.typeIs ?_)
  show wpAny _ _ (setField (.ref it) 1 (rawInt ((i : Int) + 1)) >>= _) _ _ s; refine wpAny_bind (wpAny_setField ho hd (by simp) ?_)
  have hit' : (s.heap.update it (Obj.mapFields (·.setIfInBounds 1 (rawInt ((i : Int) + 1))))).IsValIter it d (i + 1) es.size ep := ⟨_, Heap.get?_update_self _ ho (Obj.isFreed_of_fields (Obj.data_mapFields hd _)), (Obj.cls_mapFields ..).trans hc, by rw [Obj.data_mapFields hd]; simp [rawInt]⟩
  refine wpAny_bind (wpAny_holding (wpAny_bind (wpAny_isOneOf_valiter (s := { s with heap := s.heap.update it (Obj.mapFields (·.setIfInBounds 1 (rawInt ((i : Int) + 1)))) }) hit'.typeIs (wpAny_bind (wpAny_isOneOf_valiter (s := { s with heap := s.heap.update it (Obj.mapFields (·.setIfInBounds 1 (rawInt ((i : Int) + 1)))) }) hit'.typeIs ?_)))))
  show wpAny _ _ (pure es[i].val) _ _ _; exact wpAny_pure (wpAny_pure ⟨_, rfl, wpAny_pure (hQ _ hit' (Heap.SameBut.update ..))⟩)
theorem next_end {it d : Addr} {ep : Nat} {es : Array DictEntry} {Q : Option Value → Shared → Prop} (hh : A.handled = none) (hit : s.heap.IsValIter it d es.size es.size ep) (hm : DE s.heap d es ep)
    (hQ : ∀ h', Heap.ExtBut it s.heap h' → Q none { s with heap := h' }) : wpAny (model prog w) A (pyNext (.ref it)) Q E s := by
  obtain ⟨o, ho, hc, hd⟩ := id hit; obtain ⟨od, hod, hdd⟩ := id hm
  unfold pyNext; refine wpAny_bind (wpAny_attempt (wpAny_callSpecial?_slot (name := Str.ofString "__next__") hit.typeIs F.slot_dict_valueiterator_next (wpAny_call_entry F.slot_dict_valueiterator_next hit.typeIs F.entry_dict_valueiterator_next ?_ (F.args_dict_valueiterator_next_1 _))))
  refine wpAny_bind (wpAny_pure (wpAny_bind (wpAny_bind ?_)))
  (first | refine wpAny_bind (wpAny_typeNameOfWhole_valiter hit.typeIs (wpAny_pure ?_)) | refine wpAny_bind (wpAny_typeNameOf_valiter hit.typeIs (wpAny_pure ?_))); refine wpAny_bind (wpAny_fieldsOf ho hd ?_)
  have hown : Builtin.Dict_items.ownsTuple "dict_valueiterator" = false := by decide
  simp only [hown, Bool.false_eq_true, if_false]; show wpAny _ _ (if (Value.ref d == Value.none) = true then _ else _) _ _ s
  rw [if_neg (show ¬ ((Value.ref d == Value.none) = true) from Bool.false_ne_true)]; refine wpAny_bind (wpAny_pure (wpAny_bind (wpAny_dictEntries hod hdd ?_)))
  rw [if_neg (by simp)]; refine wpAny_bind (wpAny_pure (wpAny_bind (wpAny_dictEpoch hod hdd ?_))); rw [if_neg (by simp)]; refine wpAny_pure ?_
  simp only [show ¬ ((es.size : Int) < 0) from by omega, if_false, Int.toNat_natCast, Array.getElem?_eq_none (Nat.le_refl es.size)]; refine wpAny_bind ?_
  (first | refine wpAny_bind (wpAny_typeNameOfWhole_valiter hit.typeIs (wpAny_pure ?_)) | refine wpAny_bind (wpAny_typeNameOf_valiter hit.typeIs (wpAny_pure ?_))); show wpAny _ _ (setField (.ref it) 0 .none >>= _) _ _ s
  refine wpAny_bind (wpAny_setField ho hd (by simp) ?_); show wpAny _ _ (newExc (.type "StopIteration") [] >>= _) _ _ _; refine wpAny_bind ?_; simp only [newExc, newTuple]
  refine wpAny_bind (wpAny_newObj_type ?_ (by size_fits)); refine wpAny_bind (m := firstArgMember _ _) (wpAny_of_eq (a := Value.none) (by first | rfl | (simp only [firstArgMember]; rfl)) ?_); refine wpAny_newObj_type ?_ (by size_fits)
  simp only [raiseNew]; refine wpAny_bind (wpAny_handled ?_); rw [show A.in1.handled = none from hh]; refine wpAny_bind (wpAny_pure (wpAny_throw ?_))
  refine wpAny_bind (wpAny_isInstance (T := "StopIteration") (b := true) ⟨_, Heap.get?_push_size _ rfl, rfl⟩ isSubtype_stop ?_); exact wpAny_pure (hQ _ (((Heap.SameBut.update ..).extBut.push _).push _))
theorem entry_vi : entryFor table "dict_valueiterator.__iter__" = some Builtin.«dict_keyiterator.__iter__» :=
  entryFor_alias (id' := "dict_keyiterator.__iter__") (by kernel_rfl) rfl (by decide +kernel) (by kernel_rfl)
theorem self_val {it d : Addr} {i n ep : Nat} {Q : Value → Shared → Prop} (hit : s.heap.IsValIter it d i n ep) (h : Q (.ref it) s) : wpAny (model prog w) A (pyIter (.ref it)) Q E s := by
  refine wpAny_pyIter_slot hit.typeIs F.slot_dict_valueiterator_iter (wpAny_call_entry F.slot_dict_valueiterator_iter hit.typeIs entry_vi ?_ (F.args_dict_valueiterator_iter_1 _))
  show wpAny _ _ (ret (.ref it)) _ _ s; exact wpAny_pure ⟨_, rfl, "dict_valueiterator", _, hit.typeIs, F.slot_dict_valueiterator_next.lookup, h⟩
theorem walks_val (hh : A.handled = none) (I d : Addr) (hne : d ≠ I) (es : Array DictEntry) (ep : Nat) : Walks prog w A I [I, d] [I] es.size (fun i v => ∃ e, es[i]? = some e ∧ v = e.val) (fun i h => i ≤ es.size ∧ h.IsValIter I d i es.size ep ∧ DE h d es ep) where
  sub := fun b hb => by simp at hb; simp [hb]
  frame := fun _ _ _ x hk => ⟨x.1, (let ⟨o, ho, r⟩ := x.2.1; ⟨o, hk I (by simp) o ho, r⟩), let ⟨o, ho, r⟩ := x.2.2; ⟨o, hk d (by simp) o ho, r⟩⟩
  item := fun i s Q E hi x hQ => next_val x.2.1 x.2.2 hi fun h' hit' hs' => hQ _ h' s.toks ⟨_, Array.getElem?_eq_getElem hi, rfl⟩ ⟨hi, hit', let ⟨o, ho, r⟩ := x.2.2; ⟨o, (hs'.2 d hne).trans ho, r⟩⟩ fun b o hb eo => hs'.extBut b o (fun h => hb (by simp [h])) eo
  done := fun s Q E x hQ => next_end hh x.2.1 x.2.2 fun h' he' => hQ h' s.toks fun b o hb eo => he' b o (fun h => hb (by simp [h])) eo
  self := fun _ _ _ _ x hQ => self_val x.2.1 hQ
theorem val_len : typeLookup (.type "dict_values") "__len__" = pure (some (.builtin "dict_values.__len__")) := by rw [typeLookup_type, builtinLookup_eq_fast]; kernel_rfl
theorem val_sub : isSubtype (.type "dict_values") (.type "dict_values") = pure true := by rw [isSubtype_type]; kernel_rfl
theorem val_split : splitId "dict_values.__len__" = some ("dict_values", "__len__") := by decide +kernel
theorem hint_val {M : Model} {v : Addr} {Q : Bool → Shared → Prop} (hT : s.TypeIs (.ref v) "dict_values") (h : Q false s) : wpAny M A (Builtin.List.listLengthHint (.ref v)) Q E s := by
  unfold Builtin.List.listLengthHint
  refine wpAny_bind (wpAny_specialOf hT val_len ?_)
  simp only [val_split]
  refine wpAny_bind (wpAny_isInstance hT val_sub ?_)
  show wpAny _ _ (typeOf (.ref v) >>= _) _ _ s
  exact wpAny_bind (wpAny_typeOf hT (wpAny_pure h))
theorem extend_val {S v d : Addr} {es : Array DictEntry} {ep : Nat} (hh : A.handled = none) (hv : s.heap.IsValuesView v d) (hm : DE s.heap d es ep) (hz : es.size ≤ sizeLine) (hSv : S ≠ v) (hSd : S ≠ d) (res : Value) (c₀ : Nat) (hS : s.heap.get? S = some { cls := .type "list", data := .seq #[] c₀ })
    (hR : ∀ h' tk acc' c', (∀ b o, b ≠ S → s.heap.get? b = some o → h'.get? b = some o) → h'.get? S = some { cls := .type "list", dict := none, data := .seq acc' c', slots := #[] } → ItemsOf (fun i v => ∃ e, es[i]? = some e ∧ v = e.val) acc' es.size → R (.ok (.ret res)) { s with heap := h', toks := tk }) :
    wpAny (model prog w) A.in1 (Builtin.List.listExtendWith (.ref S) (.ref v) res) (fun fin s' => match fin with | .done f => R (.ok f) s' | .again c' => c'.quiet = true ∧ codeAny (model prog w) A c' R s') (fun e s' => R (.error e) s') s := by
  have hT := hv.typeIs
  have ltS : S < s.heap.objs.size := Heap.lt_size hS
  have ltd : d < s.heap.objs.size := let ⟨_, e, _⟩ := hm; Heap.lt_size e
  unfold Builtin.List.listExtendWith
  refine wpAny_bind (wpAny_typeOf hT ?_)
  have h1 : Builtin.List.listSameRef (.ref S) (.ref v) = false := by simp [Builtin.List.listSameRef, hSv]
  have h2 : (Value.type "dict_values" == Value.type "list") = false := by decide
  have h3 : (Value.type "dict_values" == Value.type "tuple") = false := by decide
  simp only [h1, h2, h3, Bool.or_false, Bool.false_eq_true, if_false]
  refine wpAny_bind (iter_vals hv hm ?_)
  have hI : (s.heap.push { cls := .type "dict_valueiterator", data := .fields #[.ref d, .int 0 0, .int es.size 0, .int ep 0] }).IsValIter s.heap.objs.size d 0 es.size ep := ⟨_, Heap.get?_push_size _ rfl, rfl, rfl⟩
  have hv1 : ({ s with heap := s.heap.push { cls := .type "dict_valueiterator", data := .fields #[.ref d, .int 0 0, .int es.size 0, .int ep 0] } } : Shared).TypeIs (.ref v) "dict_values" := let ⟨o, ho, hc, _⟩ := hv; ⟨o, Heap.get?_push_of_some _ ho, hc⟩
  refine wpAny_bind (wpAny_holding (hint_val hv1 ?_))
  generalize hs1 : s.heap.push { cls := .type "dict_valueiterator", data := .fields #[.ref d, .int 0 0, .int es.size 0, .int ep 0] } = h1 at hI
  have old : ∀ b o, s.heap.get? b = some o → h1.get? b = some o := fun b o e => by rw [← hs1]; exact Heap.get?_push_of_some _ e
  have hSI : S ≠ s.heap.objs.size := Nat.ne_of_lt ltS
  show wpAny _ A.in1 (rule "list.extend.makes-room" >>= fun _ => Builtin.List.listTouch (.ref S) >>= fun _ => again (.builtin "list.extend.loop" ⟨[.ref S, .ref s.heap.objs.size, res], []⟩)) _ _ { s with heap := h1 }
  refine wpAny_bind (wpAny_rule (wpAny_bind ?_))
  show wpAny _ A.in1 (updateSeq S (·.push .none) >>= fun _ => updateSeq S (·.pop)) _ _ { s with heap := h1 }
  have hS1 := old _ _ hS
  have hS2 := Heap.get?_update_self (Obj.mapSeq (·.push Value.none)) hS1 rfl
  have hS3 := Heap.get?_update_self (Obj.mapSeq (·.pop)) hS2 rfl
  refine wpAny_bind (wpAny_updateSeq (s := { s with heap := h1 }) hS1 rfl (wpAny_updateSeq (hz := by seq_fits) hS2 rfl ?_))
  have oth : ∀ b o, b ≠ S → h1.get? b = some o → ((h1.update S (Obj.mapSeq (·.push Value.none))).update S (Obj.mapSeq (·.pop))).get? b = some o := fun b o hb e => (Heap.get?_update_other _ _ (Ne.symm hb)).trans ((Heap.get?_update_other _ _ (Ne.symm hb)).trans e)
  have W := (walks_val (prog := prog) (w := w) (A := A.in1) hh s.heap.objs.size d (Nat.ne_of_lt ltd) es ep).toS
  refine wpAny_pure ⟨plainId_quiet F.plain_extend_loop _, codeAny_extend_loopS W hz S (by simp [hSI, hSd]) res es.size 0 _ _ _ rfl (Nat.zero_le _) ⟨Nat.zero_le _, ?_, ?_⟩ hS3 (ItemsOf.nil _) fun s' acc' c' hmv hS' hacc => ?_⟩
  · obtain ⟨o, ho, r⟩ := hI
    exact ⟨o, oth _ o (Ne.symm hSI) ho, r⟩
  · obtain ⟨o, ho, r⟩ := hm
    exact ⟨o, oth _ o (Ne.symm hSd) (old _ _ ho), r⟩
  · rw [Moved.eq_with hmv]
    exact hR s'.heap s'.toks acc' c' (fun b o b1 e => hmv.heap b o (by simp [b1, Nat.ne_of_lt (Heap.lt_size e)]) (oth b o b1 (old b o e))) hS' hacc
theorem list_val {v d : Addr} {es : Array DictEntry} {ep : Nat} {Q : Value → Shared → Prop} (hh : A.handled = none) (hv : s.heap.IsValuesView v d) (hm : DE s.heap d es ep) (hz : es.size ≤ sizeLine)
    (hQ : ∀ h' tk acc' c', (∀ b o, s.heap.get? b = some o → h'.get? b = some o) → h'.get? s.heap.objs.size = some { cls := .type "list", dict := none, data := .seq acc' c', slots := #[] } → ItemsOf (fun i v => ∃ e, es[i]? = some e ∧ v = e.val) acc' es.size → Q (.ref s.heap.objs.size) { s with heap := h', toks := tk }) :
    wpAny (model prog w) A (call (.type "list") [.ref v]) Q E s := by
  have ltv : v < s.heap.objs.size := let ⟨_, e, _⟩ := hv; Heap.lt_size e
  have ltd : d < s.heap.objs.size := let ⟨_, e, _⟩ := hm; Heap.lt_size e
  refine callType_codes (Q₁ := fun obj s₁ => obj = .ref s.heap.objs.size ∧ s₁ = { s with heap := s.heap.push { cls := .type "list", data := .seq #[] } }) F.called_list (F.typeCall_list_1 _) F.entry_list_init (code_list_new _ ⟨rfl, rfl⟩) fun obj s₁ h₁ => ?_
  obtain ⟨rfl, rfl⟩ := h₁
  have hS : (s.heap.push { cls := .type "list", data := .seq #[] }).get? s.heap.objs.size = some { cls := .type "list", data := .seq #[] } := Heap.get?_push_size _ rfl
  refine ⟨⟨_, hS, rfl⟩, F.args_list_init_2 _ _, ?_⟩
  show wpAny _ _ (do let old ← Builtin.List.listItems (.ref s.heap.objs.size); Builtin.List.listUpdate (.ref s.heap.objs.size) (fun _ => #[]); letGo old.toList.reverse; Builtin.List.listExtendWith (.ref s.heap.objs.size) (.ref v) .none) _ _ _
  refine wpAny_bind ?_
  unfold Builtin.List.listItems
  refine wpAny_bind (wpAny_seqItems hS rfl (wpAny_pure ?_))
  show wpAny _ _ (updateSeq s.heap.objs.size (fun _ => #[]) >>= fun _ => letGo (#[] : Array Value).toList.reverse >>= fun _ => Builtin.List.listExtendWith (.ref s.heap.objs.size) (.ref v) .none) _ _ _
  refine wpAny_bind (wpAny_updateSeq hS rfl ?_)
  have hS2 := Heap.get?_update_self (Obj.mapSeq (fun _ => (#[] : Array Value))) hS rfl
  have oth : ∀ b o, s.heap.get? b = some o → ((s.heap.push { cls := .type "list", data := .seq #[] }).update s.heap.objs.size (Obj.mapSeq (fun _ => (#[] : Array Value)))).get? b = some o := fun b o e => (Heap.get?_update_other _ _ (Ne.symm (Nat.ne_of_lt (Heap.lt_size e)))).trans (Heap.get?_push_of_some _ e)
  refine wpAny_bind (wpAny_letGo ?_)
  refine extend_val (A := A.in1) (d := d) (es := es) (ep := ep) (s := { s with heap := (s.heap.push { cls := .type "list", data := .seq #[] }).update s.heap.objs.size (Obj.mapSeq (fun _ => (#[] : Array Value))) }) hh (let ⟨o, ho, r⟩ := hv; ⟨o, oth v o ho, r⟩) (let ⟨o, ho, r⟩ := hm; ⟨o, oth d o ho, r⟩) hz (Nat.ne_of_gt ltv) (Nat.ne_of_gt ltd) .none _ hS2 fun h' tk acc' c' hk hS' hacc => ?_
  exact ⟨rfl, hQ h' tk acc' c' (fun b o e => hk b o (Nat.ne_of_lt (Heap.lt_size e)) (oth b o e)) hS' hacc⟩
end
end L2V
namespace L2
open PySem PySem.Spec PyProof.Rows L2V
section
variable {X : Cx}
theorem paired_get {α β : Type} {F : α → β → Prop} : ∀ {l : List α} {m : List β} {i : Nat} {a : α} {b : β}, Paired F l m → l[i]? = some a → m[i]? = some b → F a b
  | _, _, 0, _, _, .cons h _, e1, e2 => by cases e1; cases e2; exact h
  | _, _, i + 1, _, _, .cons _ r, e1, e2 => paired_get r (i := i) (by simpa using e1) (by simpa using e2)
def tLVal (to : TE) : TE := fun σ H Q => to σ H fun v H1 => ∃ d kvs, v = .ref d ∧ H1 d = some (.dT kvs) ∧ ∀ r, H1 r = none → Q (.ref r) (upd H1 r (.lst (kvs.map (·.2))))
theorem pe_lvals {o : Expr} {to : TE} {p pos pos' ap : Pos} (hc : X.calm = true) (hgl : Gl X "list") (hml : X.mg "list" = none) (ho : PE X o to)
    (hbase : attributeBase o "values" X.env (eval o X.env) = eval o X.env := by rfl) (hline : (ap.endLine == pos'.line) = true := by rfl)
    (hs2 : starEach [.Call (.Attribute o "values" ap) [] [] pos'] X.env = [(false, eval (.Call (.Attribute o "values" ap) [] [] pos') X.env)] := by rfl) :
    PE X (.Call (.Name "list" p) [.Call (.Attribute o "values" ap) [] [] pos'] [] pos) (tLVal to) := by
  intro pins s σ H Q I h
  refine Call_ (ld_blt I hgl hml bb_list (PyProof.Rows.callWith_type1 ?_ hs2 rfl))
  rw [hs2]
  show wpAny _ _ (spliced [(false, eval (.Call (.Attribute o "values" ap) [] [] pos') X.env)]) _ _ s
  refine Calls.spliced_cons ?_
  refine wpAny_Call_method0_late hbase hline (thn (ho pins s σ H _ I h) fun v s1 ⟨x, H1, I1, r1, d, kvs, ex, hd, q⟩ => ?_)
  subst ex
  obtain ⟨h1, h2⟩ := tyV_is (T := "dict") I1 r1 (.inr (.inr (.inl ⟨rfl, .inr ⟨kvs, hd⟩⟩)))
  cases (show v = Value.ref d from r1)
  obtain ⟨z1, z2, xs, pr, od, es, ep, e1, e2, e3, e4, e5⟩ := (show ObjOk X.prog X.w H1 s1.heap d (.dT kvs) from I1.hok d _ hd)
  refine ⟨"dict", "dict.values", F.plainAttrs_dict, F.slot_dict_values, F.type_dict_values, h1, h2, Calls.callWith_builtin rfl (PySem.evalArgs_none ?_)⟩
  refine call_meetsIn F.slot_dict_values h1 F.entry_dict_values (F.args_dict_values_1 _) (meets_vals d z2) ⟨h1, ?_⟩
  refine Calls.spliced_nil ?_
  have hv : (s1.heap.push { cls := .type "dict_values", data := .fields #[.ref d] }).IsValuesView s1.heap.objs.size d := ⟨_, Heap.get?_push_size _ rfl, rfl, rfl⟩
  have hsz : es.size = kvs.length := by
    rw [pr.length]
    have := congrArg List.length e4
    rwa [Array.length_toList, List.length_map] at this
  refine list_val (s := { s1 with heap := s1.heap.push { cls := .type "dict_values", data := .fields #[.ref d] } }) (I1.ok.hd hc) hv ⟨od, Heap.get?_push_of_some _ e1, e3⟩ (by rw [hsz]; exact z1) fun h' tk acc' c' hk hS' hacc => ?_
  have hk2 : ∀ b o, s1.heap.get? b = some o → h'.get? b = some o := fun b o e => hk b o (Heap.get?_push_of_some _ e)
  have hz2 : (s1.heap.push { cls := .type "dict_values", data := .fields #[.ref d] }).objs.size = s1.heap.objs.size + 1 := Heap.size_push ..
  have hfr : H1 (s1.heap.push { cls := .type "dict_values", data := .fields #[.ref d] }).objs.size = none := I1.hok.fresh (by rw [hz2]; exact Nat.le_succ _)
  refine ⟨.ref _, _, I1.laid (a := (s1.heap.push { cls := .type "dict_values", data := .fields #[.ref d] }).objs.size) (o := .lst (kvs.map (·.2))) (t' := tk) hk2 (by rw [hz2]; exact Nat.le_succ _) ⟨by rw [List.length_map]; exact z1, acc'.toList, c', ?_, by simpa using hS'⟩, rfl, q _ hfr⟩
  have al : acc'.toList.length = kvs.length := by rw [Array.length_toList, hacc.1, hsz]
  refine vals_of_get (by rw [List.length_map, al]) fun i x v e6 e7 => ?_
  obtain ⟨en, e8, rfl⟩ := hacc.2 i v (by simpa using e7)
  rw [List.getElem?_map] at e6
  obtain ⟨kv, e9, rfl⟩ := Option.map_eq_some_iff.mp e6
  have e10 : es.toList[i]? = some en := by rw [← e8]; exact Array.getElem?_toList
  rw [e4, List.getElem?_map] at e10
  obtain ⟨q3, e11, rfl⟩ := Option.map_eq_some_iff.mp e10
  exact (paired_get pr e9 e11).2.2
end
end L2

namespace SrtR
open PySem PySem.Spec PyProof.Rows PySem.W
section
variable [RkP]
theorem minrun_le : ∀ f n r, r ≤ 1 → minRun' f n r ≤ n + r
  | 0, n, r, _ => Nat.le_refl _
  | f + 1, n, r, h => by
    rw [minRun'_succ]
    split
    · exact Nat.le_refl _
    · have := minrun_le f (n / 2) (max r (n % 2)) (by omega)
      omega
end
section
variable [RkP] {prog : Program} {w : World} {A : Around} {E : Value → Shared → Prop} {s : Shared} {a₀ : Array Keyed}
theorem wpS_countA {st : SortSt} {n : Nat} {Q : Option Nat → SortSt → Prop} (h1 : 1 ≤ n) (ask : ∀ i, 1 ≤ i → i < n → ∀ Q' : Option Bool → SortSt → Prop, Q' (some false) st → wpS (model prog w) A E s (ltAt' i (i - 1)) Q' st)
    (h : Q (some n) st) : wpS (model prog w) A E s (countRun' 0 n) Q st := by
  rw [countL_eq]
  refine wpS_bind (wpS_mono (Q := fun c st' => c = (none, n) ∧ st' = st) ?_ ?_)
  · unfold upL
    refine wpS_forRange (I := fun x c st' => st' = st ∧ c = (none, x)) ?step ?fin ⟨rfl, rfl⟩
    case fin =>
      rintro c st' ⟨e1, e2⟩
      subst e1 e2
      have e : max 1 n = n := Nat.max_eq_right h1
      rw [e]
      exact ⟨rfl, rfl⟩
    case step =>
      rintro x c st' hax hxm ⟨e1, e2⟩
      subst e1 e2
      dsimp only
      rw [Nat.zero_add]
      refine wpS_bind (ask x hax hxm _ ?_)
      dsimp only
      exact wpS_ite (fun z => absurd z (by decide)) (fun _ => wpS_pure ⟨rfl, rfl⟩)
  · rintro c st' ⟨rfl, rfl⟩
    dsimp only
    exact wpS_ite (fun _ => wpS_pure h) (fun z => absurd (beq_self_eq_true _) z)
theorem wpS_runsA {st : SortSt} {n : Nat} {Q : Unit → SortSt → Prop} (hn : (arrOf st).size = n) (h2 : 1 ≤ n) (hd : pendingOf st = #[]) (hf : failedOf st = none)
    (ask : ∀ i, 1 ≤ i → i < n → ∀ Q' : Option Bool → SortSt → Prop, Q' (some false) st → wpS (model prog w) A E s (ltAt' i (i - 1)) Q' st)
    (h : ∀ st', arrOf st' = arrOf st → failedOf st' = none → Q () st') : wpS (model prog w) A E s sortRuns' Q st := by
  rw [sortRuns'_eq]
  refine wpS_bind (wpS_get ?_)
  dsimp only
  have mr := minrun_le n n 0 (Nat.zero_le _)
  rw [hn]
  generalize minRun' n n 0 = m at mr
  refine wpS_bind (wpS_mono (wpS_forRange
    (I := fun x c st' => (x = 0 ∧ c = (none, 0) ∧ st' = st) ∨ (1 ≤ x ∧ c = (none, n) ∧ arrOf st' = arrOf st ∧ failedOf st' = none ∧ (pendingOf st').size = 1))
    (Q := fun c st' => c = (none, n) ∧ arrOf st' = arrOf st ∧ failedOf st' = none ∧ (pendingOf st').size = 1) ?step ?fin (.inl ⟨rfl, rfl, rfl⟩)) ?post)
  case fin =>
    rintro c st' (⟨hx, _⟩ | ⟨_, e, L⟩)
    · have : max 0 n = n := Nat.max_eq_right (Nat.zero_le _)
      omega
    · exact ⟨e, L⟩
  case step =>
    rintro x c st' _ hx (⟨rfl, rfl, rfl⟩ | ⟨hx1, rfl, L⟩)
    · dsimp only
      refine wpS_ite (fun z => absurd z (by omega)) (fun _ => ?_)
      rw [Nat.sub_zero]
      refine wpS_bind (wpS_countA h2 ask ?_)
      dsimp only
      refine wpS_ite (fun z => absurd z (by omega)) (fun z => ?_)
      refine wpS_bind (wpS_get ?_)
      have hb : (pendingOf st').back? = none := by rw [hd]; rfl
      rw [hb]
      dsimp only
      refine wpS_bind (wpS_modify (wpS_pure (.inr ⟨Nat.le_refl _, by rw [Nat.zero_add], rfl, hf, ?_⟩)))
      show ((pendingOf st').push (0, n, 0)).size = 1
      rw [hd]
      rfl
    · dsimp only
      refine wpS_ite (fun _ => wpS_pure ⟨rfl, L⟩) (fun z => absurd (Nat.le_refl _) z)
  case post =>
    rintro c st' ⟨rfl, l1, l2, l3⟩
    dsimp only
    refine wpS_bind (wpS_mono (wpS_forRange (I := fun x c st'' => c = (none, ()) ∧ st'' = st') (Q := fun c st'' => c = (none, ()) ∧ st'' = st') ?fs ?ff ⟨rfl, rfl⟩) ?fp)
    case ff =>
      rintro c st'' e
      exact e
    case fp =>
      rintro c st'' ⟨e, e2⟩
      subst e e2
      exact wpS_pure (h _ l1 l2)
    case fs =>
      rintro x c st'' _ _ ⟨e, e2⟩
      subst e e2
      refine wpS_bind (wpS_get ?_)
      exact wpS_ite (fun _ => wpS_pure ⟨rfl, rfl⟩) (fun z => absurd (Nat.le_of_eq l3) z)
theorem wpS_runsB {st : SortSt} {Q : Unit → SortSt → Prop} (h0 : IKA prog w A s a₀) (ha : arrOf st = a₀) (hk : kindOf st = oneType') (hf : failedOf st = none) (hd : pendingOf st = #[]) (h2 : 2 ≤ a₀.size) (hs : SortedTo a₀ a₀.size)
    (h : ∀ st', (arrOf st').Perm a₀ → failedOf st' = none → SortedTo (arrOf st') a₀.size → Q () st') : wpS (model prog w) A E s sortRuns' Q st := by
  have hB : SB a₀ #[] 0 (fun _ => 0) st := ⟨by rw [ha], hk, hf, hd, fun i hi => absurd hi (Nat.not_lt_zero _)⟩
  refine wpS_runsA (n := a₀.size) (by rw [ha]) (by omega) hd hf (fun i h1 h3 Q' hQ => wpS_askL hB h0 h3 (by omega) ?_) fun st' e1 e2 => h st' (by rw [e1, ha]) e2 (by rw [e1, ha]; exact hs)
  rw [decide_eq_false (by have := hs (i - 1) i (by omega) h3; rw [ha]; omega)]
  exact hQ
end
end SrtR
namespace SrtR
open PySem PyProof.Rows PySem.W
section
variable {prog : Program} {w : World} {A : Around} {E : Value → Shared → Prop} {s : Shared}
theorem sorted_pairs [RkP] {vs : List Value} {rk : Value → Int} (hr : ∀ p : Keyed, num p = rk p.1) (h : vs.Pairwise fun u v => rk u ≤ rk v) : SortedTo (pairsOf vs) (pairsOf vs).size := fun i j hij hj => by
  have hs := pairsOf_size vs
  rw [hs] at hj
  have e : ∀ k (hk : k < vs.length), K (pairsOf vs) k = rk vs[k] := fun k hk => by
    have z : (pairsOf vs)[k]? = some (vs[k], vs[k]) := by
      unfold pairsOf
      simp [hk]
    unfold K
    rw [z]
    exact hr _
  rw [e i (by omega), e j hj]
  by_cases c : i = j
  · subst c; exact Int.le_refl _
  · exact List.pairwise_iff_getElem.mp h i j (by omega) hj (by omega)
theorem sort_tupsB [RkP] {a : Addr} {vs fs : List Value} {rk : Value → Int} {T : Value} {n : Nat} {P : PySem.Fin → Shared → Prop} (hr : ∀ p : Keyed, num p = rk p.1) (hkd : RkP.kd = tuples' (T != Value.type "tuple")) (hT2 : (T == T) = true) (ho : s.heap.get? a = some (seqObj "list" vs.toArray n)) (h2 : 2 ≤ vs.length) (h128 : vs.length ≤ 1000) (hasc : vs.Pairwise fun u v => rk u ≤ rk v)
    (hT : ∀ h' : Heap, (∀ b o, b ≠ a → s.heap.get? b = some o → h'.get? b = some o) → KatTups h' vs fs ∧ (∀ v ∈ fs, Looks (model prog w) h' (typeOf v) T) ∧ IKA prog w A { s with heap := h' } (pairsOf vs))
    (h : ∀ out : Array Value, out.toList.Perm vs → (out.toList.Pairwise fun u v => rk u ≤ rk v) → P (.done (.ret .none)) { s with heap := sortedHeap s.heap a vs out }) : wpAny (model prog w) A (Builtin.«list.sort» ⟨[.ref a], []⟩) P E s := by
  rw [list_sort_plain]
  have la : a < s.heap.objs.size := Heap.lt_size ho
  obtain ⟨k, hk⟩ : ∃ k, (s.heap.update a (Obj.mapSeq fun _ => #[])).get? a = some (seqObj "list" #[] k) := ⟨_, get?_update_seq ho (fun _ => #[])⟩
  have hk2 : (((s.heap.update a (Obj.mapSeq fun _ => #[])).push (seqObj "tuple" vs.toArray 0)).push (seqObj "list" #[] 0)).get? a = some (seqObj "list" #[] k) :=
    Heap.get?_push_of_some _ (Heap.get?_push_of_some _ hk)
  have keep : ∀ b o, b ≠ a → s.heap.get? b = some o → (((s.heap.update a (Obj.mapSeq fun _ => #[])).push (seqObj "tuple" vs.toArray 0)).push (seqObj "list" #[] 0)).get? b = some o := fun b o hb e =>
    Heap.get?_push_of_some _ (Heap.get?_push_of_some _ (by rw [Heap.get?_update_ne _ _ _ _ hb]; exact e))
  obtain ⟨t1, t2, t3⟩ := hT _ keep
  have hz1 : vs.toArray.size ≤ sizeLine := by rw [List.size_toArray, sizeLine_eq]; omega
  have hz2 : vs.toArray.toList.length ≤ sizeLine := by rw [sizeLine_eq]; simp; omega
  refine wpAny_bind (listItems_at ho rfl (wpAny_bind (listUpdate_at ho rfl (wpAny_bind (seqEpoch_at hk rfl ?_)) hz1 (Nat.zero_le _))))
  refine wpAny_bind (wpAny_newTuple (wpAny_bind (wpAny_newList (wpAny_holding ?_) (Nat.zero_le _))) hz2)
  show wpAny (model prog w) A _ P E { s with heap := ((s.heap.update a (Obj.mapSeq fun _ => #[])).push (seqObj "tuple" vs.toArray 0)).push (seqObj "list" #[] 0) }
  dsimp only
  have z2 : ¬ vs.toArray.size < 2 := by rw [List.size_toArray]; omega
  rw [if_neg z2, if_neg z2]
  have hne : 0 < fs.length := by
    cases fs with
    | nil => cases vs with
      | nil => exact absurd h2 (by decide)
      | cons v r => exact t1.elim
    | cons f r => exact Nat.succ_pos _
  refine wpAny_bind (kat_kind t1 hne t2 hT2 ?_)
  refine wpAny_bind (wpAny_mono (wpS_runsB (a₀ := pairsOf vs) (st := SortSt.mk' (tuples' (T != Value.type "tuple")) (vs.toArray.zip vs.toArray) #[] 7 none) (Q := fun _ z => (arrOf z).Perm (pairsOf vs) ∧ failedOf z = none ∧ SortedTo (arrOf z) (pairsOf vs).size)
    t3 rfl hkd.symm rfl rfl (by rw [pairsOf_size]; exact h2) (sorted_pairs hr hasc) fun z a1 a2 a3 => ⟨a1, a2, a3⟩) ?_ fun _ _ e => e)
  rintro ⟨⟨⟩, z⟩ s2 ⟨rfl, hp, hf, hs⟩
  dsimp only
  have zs : ((arrOf z).map (·.2)).size ≤ sizeLine + 1 := by
    rw [Array.size_map, hp.size_eq, pairsOf_size, sizeLine_eq]
    omega
  refine wpAny_bind (seqEpoch_at hk2 rfl (wpAny_bind (listUpdate_at hk2 rfl ?_ (hsz2 := zs))))
  rw [hf]
  dsimp only
  rw [bne_self_eq_false]
  obtain ⟨b1, b2⟩ := sorted_outR hr hp hs
  exact wpAny_pure (h _ b1 b2)
theorem sorted_tupsB [RkP] {l : Addr} {vs fs : List Value} {rk : Value → Int} {T : Value} {Q : Value → Shared → Prop} (hr : ∀ p : Keyed, num p = rk p.1) (hkd : RkP.kd = tuples' (T != Value.type "tuple")) (hT2 : (T == T) = true) (hl : s.heap.IsList l vs.toArray) (h2 : 2 ≤ vs.length) (h128 : vs.length ≤ 1000) (hasc : vs.Pairwise fun u v => rk u ≤ rk v)
    (hT : ∀ (A' : Around) (h' : Heap), (∀ b o, s.heap.get? b = some o → h'.get? b = some o) → KatTups h' vs fs ∧ (∀ v ∈ fs, Looks (model prog w) h' (typeOf v) T) ∧ IKA prog w A' { s with heap := h' } (pairsOf vs))
    (h : ∀ out : Array Value, out.toList.Perm vs → (out.toList.Pairwise fun u v => rk u ≤ rk v) → Q (.ref (s.heap.objs.size + 1)) { s with heap := sortedAll s.heap vs out }) : wpAny (model prog w) A (call (.builtin "sorted") [.ref l]) Q E s := by
  have z : ((s.heap.push (seqObj "list" #[] 0)).update s.heap.objs.size (Obj.mapSeq (· ++ vs.toArray))).objs.size = s.heap.objs.size + 1 := (Heap.size_update _ _ _).trans (size_push' _ _)
  have hL : (((s.heap.push (seqObj "list" #[] 0)).update s.heap.objs.size (Obj.mapSeq (· ++ vs.toArray))).push (seqObj "list" vs.toArray 0)).get? (s.heap.objs.size + 1) = some (seqObj "list" vs.toArray 0) := z ▸ Heap.get?_push_size _ rfl
  have keep : ∀ b o, s.heap.get? b = some o → b ≠ s.heap.objs.size + 1 ∧ (((s.heap.push (seqObj "list" #[] 0)).update s.heap.objs.size (Obj.mapSeq (· ++ vs.toArray))).push (seqObj "list" vs.toArray 0)).get? b = some o := fun b o q => by
    have hlt : b < s.heap.objs.size := Heap.lt_size q
    have hne : b ≠ s.heap.objs.size := Nat.ne_of_lt hlt
    have hne2 : b ≠ s.heap.objs.size + 1 := Nat.ne_of_lt (Nat.lt_succ_of_lt hlt)
    refine ⟨hne2, ?_⟩
    rw [Heap.get?_push_ne _ _ _ (by rw [z]; exact hne2), Heap.get?_update_ne _ _ _ _ hne, Heap.get?_push_ne _ _ _ hne]
    exact q
  refine Calls.call_function_entry kind_sorted plain_sorted entry_sorted (args_sorted1 _) ?_
  unfold Builtin.«sorted»
  refine wpAny_bind (m := checkCount "sorted" 1 1 _) (wpAny_pure (wpAny_bind (collect_list hl (wpAny_bind (wpAny_newList ?_ (by rw [sizeLine_eq]; omega))) (hsz := by rw [sizeLine_eq]; omega))))
  show wpAny _ _ _ _ _ { s with heap := ((s.heap.push (seqObj "list" #[] 0)).update s.heap.objs.size (Obj.mapSeq (· ++ vs.toArray))).push (seqObj "list" vs.toArray 0) }
  rw [z]
  refine wpAny_bind (wpAny_holding (wpAny_call_entry slot_list_sort ⟨_, hL, rfl⟩ entry_list_sort (sort_tupsB (fs := fs) hr hkd hT2 hL h2 h128 hasc (fun h' hk => ?_) fun out a1 a2 => ⟨_, rfl, wpAny_pure ⟨_, rfl, h out a1 a2⟩⟩) (args_list_sort _)))
  exact hT _ h' fun b o q => hk b o (keep b o q).1 (keep b o q).2
end
end SrtR
namespace L2
open PySem PySem.Spec PyProof.Rows SrtR
section
variable {X : Cx}
theorem call_sortedPB (str : Bool) : CallR X (.builtin "sorted") (fun xs H Q => ∃ (p : Addr) (ts : List Addr) (g : Addr → Int), xs = [.ref p] ∧ SqL X.K H p (ts.map V.ref) ∧ ts.length ≤ 1000 ∧ (ts.Pairwise fun t u => g t ≤ g u) ∧ (∀ t ∈ ts, ∃ vs, H t = some (.tup vs) ∧ PrV str vs (g t)) ∧
    ∀ (us : List Addr) (l : Addr), us.Perm ts → (us.Pairwise fun t u => g t ≤ g u) → H l = none → Q (.ref l) (upd H l (.lst (us.map V.ref)))) := by
  intro pins s σ H xs us Q I r h
  obtain ⟨p, ts, g, rfl, hq, h128, hasc, ht, q⟩ := h
  obtain ⟨u, rfl, ru⟩ := r.one
  cases ru
  obtain ⟨its, rv, pl, hz⟩ := I.list hq
  obtain rfl := vals_refs rv
  have hpr : ∀ t ∈ ts, Pr s.heap str (.ref t) (g t) := fun t hm => by
    obtain ⟨vs, e1, e2⟩ := ht t hm
    exact pr_of I e1 e2
  have hfr : H (s.heap.objs.size + 1) = none := I.hok.fresh (Nat.le_succ _)
  have fin : ∀ (out : Array Value), out.toList.Perm (ts.map Value.ref) → (out.toList.Pairwise fun u v => rkO s.heap str u ≤ rkO s.heap str v) → EP X pins σ Q (.ref (s.heap.objs.size + 1)) { s with heap := sortedAll s.heap (ts.map Value.ref) out } := fun out a1 a2 => by
    obtain ⟨ws, e, hw⟩ := refs_perm a1
    obtain ⟨c, he⟩ := sortedAll_at s.heap (ts.map Value.ref) out
    have hg : ∀ t ∈ ws, rkO s.heap str (.ref t) = g t := fun t hm => rk_of (hpr t (hw.mem_iff.mp hm))
    have a3 : ws.Pairwise fun t u => g t ≤ g u := by
      rw [e, List.pairwise_map] at a2
      refine List.Pairwise.imp_of_mem (fun {x y} hx hy z => ?_) a2
      rw [hg x hx, hg y hy] at z
      exact z
    refine ⟨.ref (s.heap.objs.size + 1), _, I.laid (a := s.heap.objs.size + 1) (o := .lst (ws.map V.ref)) (t' := s.toks) (fun b o => sortedAll_old) (Nat.le_succ _) ⟨?_, out.toList, c, by rw [e]; exact vals_refs' ws, by simpa [seqObj] using he⟩, rfl, q ws _ hw a3 hfr⟩
    rw [List.length_map, hw.length_eq]
    have := sizeLine_eq
    omega
  by_cases c : 2 ≤ ts.length
  · letI := prRk s.heap str
    obtain ⟨fs, k1, k2⟩ := kat_tups (h := s.heap) (str := str) ts fun t hm => ⟨_, hpr t hm⟩
    refine sorted_tupsB (fs := fs) (rk := rkO s.heap str) (T := tyP str) (fun p => rfl) (by cases str <;> rfl) (by cases str <;> rfl) pl.isList (by rw [List.length_map]; exact c) (by rw [List.length_map]; exact h128) ?_ (fun A' h' hk => ?_) fun out a1 a2 => fin out a1 a2
    · rw [List.pairwise_map]
      refine List.Pairwise.imp_of_mem (fun {x y} hx hy z => ?_) hasc
      rw [rk_of (hpr x hx), rk_of (hpr y hy)]
      exact z
    refine ⟨kat_mono hk k1, fun v hv => ?_, fun p hp => ?_, pr_asks hk⟩
    · rcases k2 v hv with ⟨s1, i, u, rfl⟩ | ⟨s1, z, u, rfl⟩
      · subst s1
        exact .now
      · subst s1
        exact .now
    · have ez : (pairsOf (ts.map Value.ref)).toList = (ts.map Value.ref).zip (ts.map Value.ref) := by unfold pairsOf; simp
      rw [ez] at hp
      obtain ⟨t, hm, e⟩ := List.mem_map.mp (List.of_mem_zip hp).1
      exact ⟨g t, by rw [← e]; exact hpr t hm⟩
  · refine sorted_few pl.isList (by rw [List.length_map]; omega) (fin _ (by simp) ?_)
    match ts, c with
    | [], _ => exact List.Pairwise.nil
    | [t], _ => exact List.pairwise_singleton _ _
    | _ :: _ :: _, c => exact absurd (by simp) c
end
end L2

namespace Mir
open PySem L2
open Classical
def tellP (ms : List Nat) (c : Nat × Nat) : Prop := at0 ms c.1 ≠ c.2 ∧ leastP ms c.1 c.2 = c
noncomputable def tellL (ms : List Nat) (l : List (Nat × Nat)) : List (Nat × Nat) := l.filter fun c => decide (tellP ms c)
def pK (c : Nat × Nat) : List Key := [Sum.inl (c.1 : Int), Sum.inl (c.2 : Int)]
theorem pK_inj {c d : Nat × Nat} (h : pK c = pK d) : c = d := by
  unfold pK at h
  injection h with h1 h2
  injection h2 with h2 _
  injection h1 with h1
  injection h2 with h2
  exact Prod.ext (by omega) (by omega)
section
variable {n : Nat} {ms : List Nat} {l : List (Nat × Nat)}
theorem tell_no {c : Nat × Nat} (h : ¬ tellP ms c) : tellL ms (l ++ [c]) = tellL ms l := by
  unfold tellL
  rw [List.filter_append, List.filter_cons_of_neg (by rw [decide_eq_false h]; decide), List.filter_nil, List.append_nil]
theorem tell_yes {c : Nat × Nat} (h : tellP ms c) : tellL ms (l ++ [c]) = tellL ms l ++ [c] := by
  unfold tellL
  rw [List.filter_append, List.filter_cons_of_pos (by rw [decide_eq_true h]), List.filter_nil]
theorem mem_tell {c : Nat × Nat} : c ∈ tellL ms l ↔ c ∈ l ∧ tellP ms c := by
  unfold tellL
  rw [List.mem_filter, decide_eq_true_iff]
theorem tell_le : (tellL ms l).length ≤ l.length := List.length_filter_le _ _
theorem tell_least (W : WorkL n ms) {c : Nat × Nat} (h1 : c.1 ≤ c.2) (h2 : c.2 < 2 * n) (h3 : at0 ms c.1 ≠ c.2) :
    (leastP ms c.1 c.2).1 ≤ (leastP ms c.1 c.2).2 ∧ (leastP ms c.1 c.2).2 < 2 * n ∧ tellP ms (leastP ms c.1 c.2) ∧ beh ms (leastP ms c.1 c.2).1 (leastP ms c.1 c.2).2 = beh ms c.1 c.2 ∧ (leastP ms c.1 c.2 = c ∨ ((leastP ms c.1 c.2).1 < c.1 ∨ ((leastP ms c.1 c.2).1 = c.1 ∧ (leastP ms c.1 c.2).2 < c.2))) := by
  obtain ⟨⟨l1, l2, l3, l4⟩, lm⟩ := leastP_least W h1 h2 h3
  have idem : leastP ms (leastP ms c.1 c.2).1 (leastP ms c.1 c.2).2 = leastP ms c.1 c.2 := by
    rw [leastP_iff W l1 l2 l3]
    intro p' q' L
    rw [l4] at L
    have := lm p' q' L
    omega
  refine ⟨l1, l2, ⟨l3, idem⟩, l4, ?_⟩
  have z := lm c.1 c.2 ⟨h1, h2, h3, rfl⟩
  by_cases e : leastP ms c.1 c.2 = c
  · exact .inl e
  · refine .inr ?_
    have : ¬ ((leastP ms c.1 c.2).1 = c.1 ∧ (leastP ms c.1 c.2).2 = c.2) := fun y => e (Prod.ext y.1 y.2)
    omega
theorem tell_uniq (W : WorkL n ms) {c d : Nat × Nat} (c1 : c.1 ≤ c.2) (c2 : c.2 < 2 * n) (c3 : tellP ms c) (d1 : d.1 ≤ d.2) (d2 : d.2 < 2 * n) (d3 : tellP ms d) (h : beh ms c.1 c.2 = beh ms d.1 d.2) : c = d := by
  have z1 := (leastP_iff W c1 c2 c3.1).mp c3.2 d.1 d.2 ⟨d1, d2, d3.1, h.symm⟩
  have z2 := (leastP_iff W d1 d2 d3.1).mp d3.2 c.1 c.2 ⟨c1, c2, c3.1, h⟩
  exact Prod.ext (by omega) (by omega)
end
def FirI (ms : List Nat) (H : Hp) (l : List (Nat × Nat)) (kvs : List (List Key × V)) : Prop := kvs.map (·.1) = (tellL ms l).map (fun c => wK (beh ms c.1 c.2)) ∧ ∃ ts : List Addr, kvs.map (·.2) = ts.map V.ref ∧ Tup pf H ts (tellL ms l)
theorem zip_find {H : Hp} {key : Nat × Nat → List Key} : ∀ {xs : List (Nat × Nat)} {kvs : List (List Key × V)} {ts : List Addr}, kvs.map (·.1) = xs.map key → kvs.map (·.2) = ts.map V.ref → Tup pf H ts xs → ∀ c ∈ xs, (∀ d ∈ xs, key d = key c → d = c) → ∃ t, valV kvs (key c) = some (.ref t) ∧ H t = some (.tup (pf c))
  | [], kvs, ts, _, _, _, c, hc, _ => absurd hc List.not_mem_nil
  | x :: xr, [], ts, h1, _, _, c, _, _ => by cases h1
  | x :: xr, (k, v) :: r, [], _, h2, _, c, _, _ => by cases h2
  | x :: xr, (k, v) :: r, t :: tr, h1, h2, hT, c, hc, inj => by
    injection h1 with h1 h1r
    injection h2 with h2 h2r
    have h1 : k = key x := h1
    have h2 : v = .ref t := h2
    by_cases e : x = c
    · refine ⟨t, ?_, by rw [← e]; exact hT.2 0 t x rfl rfl⟩
      rw [valV_pos (show k = key c by rw [h1, e])]
      exact congrArg some h2
    · rw [valV_neg (fun z => e (inj x List.mem_cons_self (h1.symm.trans z)))]
      have hc : c ∈ xr := (List.mem_cons.mp hc).resolve_left fun z => e z.symm
      exact zip_find h1r h2r ⟨by have := hT.1; simp only [List.length_cons] at this; omega, fun i u y e1 e2 => hT.2 (i + 1) u y (by simpa using e1) (by simpa using e2)⟩ c hc fun d hd => inj d (List.mem_cons_of_mem _ hd)
theorem zip_none {key : Nat × Nat → List Key} {k : List Key} : ∀ {xs : List (Nat × Nat)} {kvs : List (List Key × V)}, kvs.map (·.1) = xs.map key → (∀ d ∈ xs, key d ≠ k) → valV kvs k = none
  | [], [], _, _ => rfl
  | [], _ :: _, h1, _ => by cases h1
  | _ :: _, [], h1, _ => by cases h1
  | x :: xr, (j, v) :: r, h1, h => by
    injection h1 with h1 h1r
    have h1 : j = key x := h1
    rw [valV_neg (fun z => h x List.mem_cons_self (h1.symm.trans z))]
    exact zip_none h1r fun d hd => h d (List.mem_cons_of_mem _ hd)
def KeepT (H H' : Hp) : Prop := ∀ t ys, H t = some (.tup ys) → H' t = some (.tup ys)
theorem keepT_same {H H' : Hp} (s : Same H H') : KeepT H H' := fun t ys h => s _ _ h
theorem keepT_upd {H : Hp} {d : Addr} {kvs : List (List Key × V)} {o : HO} (hd : H d = some (.dT kvs)) : KeepT H (L2.upd H d o) := fun t ys h => by
  rw [upd_ne (fun z => by rw [z, hd] at h; cases h)]
  exact h
section
variable {n : Nat} {ms : List Nat} {l : List (Nat × Nat)} {H H' : Hp} {kvs : List (List Key × V)}
theorem FirI.keep (h : FirI ms H l kvs) (k : KeepT H H') : FirI ms H' l kvs := by
  obtain ⟨h1, ts, h2, h3⟩ := h
  exact ⟨h1, ts, h2, h3.1, fun i t x e1 e2 => k _ _ (h3.2 i t x e1 e2)⟩
theorem fir_nil : FirI ms H [] [] := ⟨rfl, [], rfl, rfl, fun i t x e => by simp at e⟩
theorem FirI.no (h : FirI ms H l kvs) {c : Nat × Nat} (hc : ¬ tellP ms c) : FirI ms H (l ++ [c]) kvs := by
  unfold FirI
  rw [tell_no hc]
  exact h
theorem FirI.len (h : FirI ms H l kvs) : kvs.length ≤ l.length := by
  have z := congrArg List.length h.1
  rw [List.length_map, List.length_map] at z
  rw [z]
  exact tell_le
theorem FirI.new (h : FirI ms H l kvs) {c : Nat × Nat} (hc : tellP ms c) {t : Addr} (ht : H t = some (.tup (pf c))) (hn : valV kvs (wK (beh ms c.1 c.2)) = none) : FirI ms H (l ++ [c]) (putK kvs (wK (beh ms c.1 c.2)) (.ref t)) := by
  obtain ⟨h1, ts, h2, h3, h4⟩ := h
  unfold FirI
  rw [tell_yes hc, putK_new _ hn, List.map_append, List.map_append, List.map_append, h1, h2]
  refine ⟨rfl, ts ++ [t], by rw [List.map_append]; rfl, by rw [List.length_append, List.length_append, h3]; rfl, fun i u x e1 e2 => ?_⟩
  by_cases ci : i < ts.length
  · rw [List.getElem?_append_left ci] at e1
    rw [List.getElem?_append_left (by omega)] at e2
    exact h4 i u x e1 e2
  · rw [List.getElem?_append_right (by omega)] at e1
    rw [List.getElem?_append_right (by omega), ← h3] at e2
    have : i - ts.length = 0 := by
      have := (List.getElem?_eq_some_iff.mp e1).1
      rw [List.length_singleton] at this
      omega
    rw [this] at e1 e2
    cases e1
    cases e2
    exact ht
theorem FirI.iff (W : WorkL n ms) (h : FirI ms H l kvs) (hb : ∀ d ∈ l, d.1 ≤ d.2 ∧ d.2 < 2 * n) {c : Nat × Nat} (A : Ahead n l c) (h1 : c.1 ≤ c.2) (h2 : c.2 < 2 * n) (h3 : at0 ms c.1 ≠ c.2) :
    (leastP ms c.1 c.2 = c → valV kvs (wK (beh ms c.1 c.2)) = none) ∧ (leastP ms c.1 c.2 ≠ c → ∃ t, valV kvs (wK (beh ms c.1 c.2)) = some (.ref t) ∧ H t = some (.tup (pf (leastP ms c.1 c.2)))) := by
  obtain ⟨l1, l2, l3, l4, l5⟩ := tell_least W h1 h2 h3
  constructor
  · intro e
    refine zip_none h.1 fun d hd z => ?_
    obtain ⟨d1, d2⟩ := mem_tell.mp hd
    obtain ⟨b1, b2⟩ := hb d d1
    have y := tell_uniq W b1 b2 d2 h1 h2 ⟨h3, e⟩ (wK_inj z)
    have q := (A d b1 b2).mp d1
    rw [y] at q
    omega
  · intro e
    have lt := l5.resolve_left e
    have hm : leastP ms c.1 c.2 ∈ tellL ms l := mem_tell.mpr ⟨(A _ l1 l2).mpr lt, l3⟩
    obtain ⟨hk, ts, h4, h5⟩ := h
    obtain ⟨t, e1, e2⟩ := zip_find hk h4 h5 _ hm fun d hd z => by
      obtain ⟨d1, d2⟩ := mem_tell.mp hd
      obtain ⟨b1, b2⟩ := hb d d1
      exact tell_uniq W b1 b2 d2 l1 l2 l3 (wK_inj z)
    rw [l4] at e1
    exact ⟨t, e1, e2⟩
def TolI (n : Nat) (ms : List Nat) (H : Hp) (l : List (Nat × Nat)) (kvs : List (List Key × V)) : Prop := kvs.length ≤ l.length ∧ ∀ d : Nat × Nat, d.1 ≤ d.2 → d.2 < 2 * n → (d ∈ l ∧ at0 ms d.1 ≠ d.2 → ∃ t, valV kvs (pK d) = some (.ref t) ∧ H t = some (.tup (pf (leastP ms d.1 d.2)))) ∧ (¬ (d ∈ l ∧ at0 ms d.1 ≠ d.2) → valV kvs (pK d) = none)
theorem tol_nil : TolI n ms H [] [] := ⟨Nat.le_refl _, fun d _ _ => ⟨fun z => absurd z.1 List.not_mem_nil, fun _ => rfl⟩⟩
theorem TolI.keep (h : TolI n ms H l kvs) (k : KeepT H H') : TolI n ms H' l kvs := ⟨h.1, fun d h1 h2 => ⟨fun z => by
  obtain ⟨t, e1, e2⟩ := (h.2 d h1 h2).1 z
  exact ⟨t, e1, k _ _ e2⟩, (h.2 d h1 h2).2⟩⟩
theorem TolI.no (h : TolI n ms H l kvs) {c : Nat × Nat} (hc : at0 ms c.1 = c.2) : TolI n ms H (l ++ [c]) kvs := by
  have me : ∀ d : Nat × Nat, (d ∈ l ++ [c] ∧ at0 ms d.1 ≠ d.2) ↔ (d ∈ l ∧ at0 ms d.1 ≠ d.2) := fun d => by
    rw [List.mem_append, List.mem_singleton]
    constructor
    · rintro ⟨z | z, y⟩
      · exact ⟨z, y⟩
      · rw [z] at y; exact absurd hc y
    · exact fun z => ⟨.inl z.1, z.2⟩
  refine ⟨by rw [List.length_append]; have := h.1; omega, fun d h1 h2 => ?_⟩
  rw [me d]
  exact h.2 d h1 h2
theorem TolI.yes (h : TolI n ms H l kvs) {c : Nat × Nat} (hc : at0 ms c.1 ≠ c.2) {t : Addr} (ht : H t = some (.tup (pf (leastP ms c.1 c.2)))) : TolI n ms H (l ++ [c]) (putK kvs (pK c) (.ref t)) := by
  refine ⟨by have := length_putK kvs (pK c) (.ref t); have := h.1; rw [List.length_append]; show _ ≤ l.length + 1; omega, fun d h1 h2 => ?_⟩
  rw [valV_put]
  by_cases e : d = c
  · subst e
    rw [if_pos rfl]
    exact ⟨fun _ => ⟨t, rfl, ht⟩, fun z => absurd ⟨List.mem_append_right _ (List.mem_singleton.mpr rfl), hc⟩ z⟩
  · rw [if_neg (fun z => e (pK_inj z))]
    have me : (d ∈ l ++ [c] ∧ at0 ms d.1 ≠ d.2) ↔ (d ∈ l ∧ at0 ms d.1 ≠ d.2) := by
      rw [List.mem_append, List.mem_singleton]
      exact ⟨fun z => ⟨z.1.resolve_right e, z.2⟩, fun z => ⟨.inl z.1, z.2⟩⟩
    rw [me]
    exact h.2 d h1 h2
end
variable (K : PySem.W.Frag)
def spTold (C : Addr) : Sp := fun vs H Q E => ∃ (a d : Addr) (n p q : Nat) (ms : List Nat), vs = [.ref a, .ref d] ∧ SqT K H a (nV ms) ∧ WorkL n ms ∧ H d = some (.tup [.int (p : Nat), .int (q : Nat)]) ∧ p ≤ q ∧ q < 2 * n ∧
  (at0 ms p ≠ q → ∀ (l : Addr) (H' : Hp), H l = none → Same H H' → H' l = some (.tup (pf (leastP ms p q))) → Q (.ref l) H') ∧ (at0 ms p = q → E (.ref C) none H)
def spAllD : Sp := fun vs H Q _ => ∃ (a : Addr) (n : Nat) (ms : List Nat), vs = [.ref a] ∧ SqT K H a (nV ms) ∧ WorkL n ms ∧ n ≤ 12 ∧ ∀ (D : Addr) (H' : Hp), H D = none → Same H H' → TsT pf H' D (tellL ms (allTo (2 * n) (2 * n))) → Q (.ref D) H'
def spTried : Sp := fun vs H Q _ => ∃ (a : Addr) (n : Nat) (ms : List Nat), vs = [.ref a] ∧ SqT K H a (nV ms) ∧ WorkL n ms ∧ n ≤ 12 ∧ ∀ (t dt lv : Addr) (kvs : List (List Key × V)) (H' : Hp), Same H H' → H' t = some (.tup [.ref dt, .ref lv]) → H' dt = some (.dT kvs) → TolI n ms H' (allTo (2 * n) (2 * n)) kvs → TsT pf H' lv (tellL ms (allTo (2 * n) (2 * n))) → Q (.ref t) H'
def spRefused12 : Sp := fun vs H Q _ => ∃ (a d : Addr) (n p q : Nat) (ms : List Nat), vs = [.ref a, .ref d] ∧ SqT K H a (nV ms) ∧ WorkL n ms ∧ H d = some (.tup [.int (p : Nat), .int (q : Nat)]) ∧ p ≤ q ∧ q < 2 * n ∧ at0 ms p = q ∧ Q (.bl true) H
def spLooked : Sp := fun vs H Q _ => ∃ (a : Addr) (n : Nat) (ms : List Nat), vs = [.ref a] ∧ SqT K H a (nV ms) ∧ WorkL n ms ∧ n ≤ 12 ∧ ∀ H' : Hp, Same H H' → Q (.bl true) H'
end Mir

set_option maxHeartbeats 2000000
namespace Law
open PySem L2
def top (i : Nat) : Stmt := PySem.Challenge.pw_claspwork_k12_told_deeds.main.body.getD i (.Pass ⟨0, 0, 0, 0⟩)
abbrev s_fits_work : Stmt := top 4
abbrev s_refuse_misfit : Stmt := top 5
abbrev s_freed_ends : Stmt := top 6
abbrev s_told_deed : Stmt := top 7
abbrev s_least_pair : Stmt := top 8
abbrev s_all_deeds : Stmt := top 9
abbrev s_law_cell : Stmt := top 11
abbrev s_law_number : Stmt := top 12
abbrev s_law_work : Stmt := top 13
abbrev s_law_whole : Stmt := top 14
abbrev s_law_work_is : Stmt := top 15
abbrev s_law_fits : Stmt := top 16
abbrev s_law_behind : Stmt := top 17
abbrev s_law_pairs_tried : Stmt := top 18
abbrev s_law_refused : Stmt := top 19
abbrev s_law_looked : Stmt := top 20
abbrev s_law : Stmt := top 21
theorem sc_fits_work : FnScope ["work", "deed", "low", "high"] ["work", "deed"] (defScope s_fits_work) := ⟨rfl, rfl, rfl, by decide +kernel, rfl, by decide +kernel, by decide +kernel⟩
theorem sc_refuse_misfit : FnScope ["work", "deed"] ["work", "deed"] (defScope s_refuse_misfit) := ⟨rfl, rfl, rfl, by decide +kernel, rfl, by decide +kernel, by decide +kernel⟩
theorem sc_freed_ends : FnScope ["work", "deed"] ["work", "deed"] (defScope s_freed_ends) := ⟨rfl, rfl, rfl, by decide +kernel, rfl, by decide +kernel, by decide +kernel⟩
theorem sc_told_deed : FnScope ["work", "deed"] ["work", "deed"] (defScope s_told_deed) := ⟨rfl, rfl, rfl, by decide +kernel, rfl, by decide +kernel, by decide +kernel⟩
theorem sc_least_pair : FnScope ["work", "deed", "pair", "freed"] ["work", "deed"] (defScope s_least_pair) := ⟨rfl, rfl, rfl, by decide +kernel, rfl, by decide +kernel, by decide +kernel⟩
theorem sc_all_deeds : FnScope ["work", "found", "low", "high", "deed"] ["work"] (defScope s_all_deeds) := ⟨rfl, rfl, rfl, by decide +kernel, rfl, by decide +kernel, by decide +kernel⟩
theorem sc_law_cell : FnScope ["script", "k"] ["script", "k"] (defScope s_law_cell) := ⟨rfl, rfl, rfl, by decide +kernel, rfl, by decide +kernel, by decide +kernel⟩
theorem sc_law_number : FnScope ["script", "k", "cell"] ["script", "k"] (defScope s_law_number) := ⟨rfl, rfl, rfl, by decide +kernel, rfl, by decide +kernel, by decide +kernel⟩
theorem sc_law_work : FnScope ["script", "at", "staves", "left", "mates", "one", "pick", "other"] ["script", "at", "staves"] (defScope s_law_work) := ⟨rfl, rfl, rfl, by decide +kernel, rfl, by decide +kernel, by decide +kernel⟩
theorem sc_law_whole : FnScope ["found"] ["found"] (defScope s_law_whole) := ⟨rfl, rfl, rfl, by decide +kernel, rfl, by decide +kernel, by decide +kernel⟩
theorem sc_law_work_is : FnScope ["found", "due", "k"] ["found", "due"] (defScope s_law_work_is) := ⟨rfl, rfl, rfl, by decide +kernel, rfl, by decide +kernel, by decide +kernel⟩
theorem sc_law_fits : FnScope ["work", "one", "two"] ["work", "one", "two"] (defScope s_law_fits) := ⟨rfl, rfl, rfl, by decide +kernel, rfl, by decide +kernel, by decide +kernel⟩
theorem sc_law_behind : FnScope ["work", "one", "two", "mates", "first", "second", "end"] ["work", "one", "two"] (defScope s_law_behind) := ⟨rfl, rfl, rfl, by decide +kernel, rfl, by decide +kernel, by decide +kernel⟩
theorem sc_law_pairs_tried : FnScope ["work", "firsts", "told", "one", "two", "behind"] ["work"] (defScope s_law_pairs_tried) := ⟨rfl, rfl, rfl, by decide +kernel, rfl, by decide +kernel, by decide +kernel⟩
theorem sc_law_refused : FnScope ["work", "deed", "refused"] ["work", "deed"] (defScope s_law_refused) := ⟨rfl, rfl, rfl, by decide +kernel, rfl, by decide +kernel, by decide +kernel⟩
theorem sc_law_looked : FnScope ["work", "tried", "one", "two", "deed", "due", "found", "k"] ["work"] (defScope s_law_looked) := ⟨rfl, rfl, rfl, by decide +kernel, rfl, by decide +kernel, by decide +kernel⟩
theorem sc_law : FnScope ["script", "work", "k", "one", "two"] ["script"] (defScope s_law) := ⟨rfl, rfl, rfl, by decide +kernel, rfl, by decide +kernel, by decide +kernel⟩
structure Bl (mg : Str → Option Value) : Prop where
  «bool» : mg "bool" = none
  «int» : mg "int" = none
  «isinstance» : mg "isinstance" = none
  «len» : mg "len" = none
  «list» : mg "list" = none
  «max» : mg "max" = none
  «min» : mg "min" = none
  «range» : mg "range" = none
  «sorted» : mg "sorted" = none
  «tuple» : mg "tuple" = none
section
variable {P : Program} {w : World} {K : PySem.W.Frag} {mg : Str → Option Value} {base : Heap}
theorem ok_fits_work {f : Addr} {fd : FuncData} (B : Bl mg) (F : Fn K mg "fits_work" s_fits_work ["work", "deed"] f fd) : FnOk P w K mg base CX0 1 f fd ["work", "deed"] (Mir.spFits K) := by
  refine F.fn.ok sc_fits_work (fun vs H Q E h => ?_) (fun cdv A outer s H vs Q E hr h => ?_)
  · obtain ⟨a, d, n, ms, p, q, rfl, _⟩ := h
    rfl
  · obtain ⟨a, d, n, ms, p, q, rfl, hS, W, hD, k⟩ := h
    refine ⟨_, pss_cons (ps_set (i := 2) sc_fits_work.nd rfl (Or.inl rfl) (pe_ix ix_tup (pv 1) pe_int (fun _ _ => rfl)))
      (pss_cons (ps_set (i := 3) sc_fits_work.nd rfl (Or.inl rfl) (pe_ix ix_tup (pv 1) pe_int (fun _ _ => rfl)))
      (pss_cons (ps_if (pt_not (pt_chain3 op_le op_le op_lt pe_int (pv 2) (pv 3) (pe_callB call_len_seq rfl B.len bb_len (pa_cons (pv 0) pa_nil)))) (pss_one (ps_ret pe_bl)) pss_nil)
      (pss_one (ps_ret (pe_cmpR op_ne (pe_ix ix_tup (pv 0) (pv 2) (fun _ _ => rfl)) (pv 3) (nomark _)))))), ?_⟩
    refine ⟨_, rfl, d, _, _, _, rfl, rfl, hD, rfl, ?_⟩
    refine ⟨_, rfl, d, _, _, _, rfl, rfl, hD, rfl, ?_⟩
    have no : ¬ Mir.Fits n ms p q → Q (.bl false) H := fun z => by rw [decide_eq_false z] at k; exact k
    refine ⟨_, rfl, _, _, rfl, rfl, _, rfl, ite2 (fun h1 => ?_) (fun h1 => ?_)⟩
    · have h1 : 0 ≤ p := of_decide_eq_true h1
      refine ⟨_, rfl, _, _, rfl, rfl, _, rfl, ite2 (fun h2 => ?_) (fun h2 => ?_)⟩
      · have h2 : p ≤ q := of_decide_eq_true h2
        refine ⟨_, rfl, a, _, rfl, .inr hS, _, _, rfl, rfl, _, rfl, ite2 (fun h3 => ?_) (fun h3 => ?_)⟩
        · have h3 : ¬ q < ((Mir.nV ms).length : Nat) := by simpa using h3
          rw [Mir.nV_len, W.len] at h3
          exact no fun z => h3 (by have := z.2.2.1; omega)
        · have h3 : q < ((Mir.nV ms).length : Nat) := by simpa using h3
          rw [Mir.nV_len, W.len] at h3
          have hx : p = ((p.toNat : Nat) : Int) := by omega
          have hix := W.ix (e := p.toNat) (by omega)
          rw [← hx] at hix
          refine ⟨_, rfl, _, rfl, a, _, _, _, rfl, rfl, hS, hix, _, rfl, rfl, ?_⟩
          have e : decide (Mir.Fits n ms p q) = !decide (V.int ((Mir.at0 ms p.toNat : Nat) : Int) = V.int q) := by
            by_cases c : ((Mir.at0 ms p.toNat : Nat) : Int) = q
            · rw [decide_eq_false (fun z : Mir.Fits n ms p q => z.2.2.2 c), decide_eq_true (congrArg V.int c)]; rfl
            · rw [decide_eq_true (show Mir.Fits n ms p q from ⟨h1, h2, by omega, c⟩), decide_eq_false (fun z => c (by injection z))]; rfl
          rw [e] at k
          exact k
      · have h2 : ¬ p ≤ q := fun z => h2 (decide_eq_true z)
        exact ⟨_, rfl, iteT (no fun z => h2 z.2.1)⟩
    · have h1 : ¬ 0 ≤ p := fun z => h1 (decide_eq_true z)
      exact ⟨_, rfl, iteT (no fun z => h1 z.1)⟩
end
section
variable {P : Program} {w : World} {K : PySem.W.Frag} {mg : Str → Option Value} {base : Heap}
theorem ok_refuse_misfit {f fF C : Addr} {fd fdF : FuncData} (B : Bl mg) (Z : ECls K mg "BadDeed" C) (F : Fn K mg "refuse_misfit" s_refuse_misfit ["work", "deed"] f fd) (FF : Fn K mg "fits_work" s_fits_work ["work", "deed"] fF fdF) : FnOk P w K mg base (CXo P w) 2 f fd ["work", "deed"] (Mir.spMisfit K C) := by
  have GF : FnOk P w K mg base CX0 1 fF fdF ["work", "deed"] (Mir.spFits K) := ok_fits_work B FF
  refine F.fn.okX2 sc_refuse_misfit (fun vs H Q E h => ?_) (fun cdv A outer s H vs Q E hr h own => ?_)
  · obtain ⟨a, d, n, ms, p, q, rfl, _⟩ := h
    rfl
  · obtain ⟨a, d, n, ms, p, q, rfl, hS, W, hD, sp, sq, kg, kb⟩ := h
    refine ⟨_, pss_one (ps_if (pt_not (pt_val (pe_fn GF FF hr (pa_cons (pv 0) (pa_cons (pv 1) pa_nil))))) (pss_one (ps_raise rfl Z (pa_cons (pe_fs (pj_str (pj_tup hr.gd (hr.lt 2 (by decide)) (pv 1) (pj_str pj_nil))) (by decide)) pa_nil))) pss_nil), ?_⟩
    refine ⟨_, rfl, _, rfl, a, d, n, ms, p, q, rfl, hS, W, SqT.of hD, _, rfl, ?_⟩
    by_cases c : Mir.Fits n ms p q
    · rw [decide_eq_true c]
      exact iteF (kg c)
    · rw [decide_eq_false c]
      refine iteT ⟨⟨_, rfl, rfl, ⟨d, [p, q], rfl, hD, by show 2 ≤ 100; decide, fun m hm => ?_⟩, trivial⟩, fun x => ⟨by show 1 ≤ sizeLine; decide, kb c⟩⟩
      rcases List.mem_cons.mp hm with rfl | hm
      · exact sp.log
      · rw [List.mem_singleton.mp hm]; exact sq.log
end
section
variable {P : Program} {w : World} {K : PySem.W.Frag} {mg : Str → Option Value} {base : Heap}
theorem ok_freed_ends {f : Addr} {fd : FuncData} (F : Fn K mg "freed_ends" s_freed_ends ["work", "deed"] f fd) : FnOk P w K mg base CX0 1 f fd ["work", "deed"] (Mir.spFreedE K) := by
  refine F.fn.ok sc_freed_ends (fun vs H Q E h => ?_) (fun cdv A outer s H vs Q E hr h => ?_)
  · obtain ⟨a, d, n, ms, p, q, rfl, _⟩ := h
    rfl
  · obtain ⟨a, d, n, ms, p, q, rfl, hS, W, hD, hp, hq, k⟩ := h
    have nd2 : (["end", "work"] : List Str).Nodup := by decide +kernel
    refine ⟨_, pss_one (ps_ret (pe_comp (NC := ["end", "work"]) rfl (compOk2 (c := s.heap.objs.size + 1) (j := 0) rfl (by decide +kernel) (by decide +kernel) rfl rfl rfl rfl rfl) (pi_tup (pv 1))
      (fun _ _ _ _ => pg_name (i := 0) nd2 rfl (Or.inl rfl)) (fun _ _ _ _ => pts_one (pt_cmpR op_ne (pe_ix (ix_tupK (K := K) rfl) (pv 1) (pv 0) (fun _ _ => rfl)) (pv 0) (nomark _))) (fun _ _ _ _ => pe_ix (ix_tupK (K := K) rfl) (pv 1) (pv 0) (fun _ _ => rfl)))), ?_⟩
    refine ⟨_, rfl, d, rfl, ⟨_, hD⟩, fun D hDn => ?_⟩
    refine comp_tup (K := K) (a := d) (xs := Mir.nV [p, q]) (fun i σ H2 => ∃ v0 : Option V, σ = [v0, some (.ref a)] ∧ Same H H2 ∧ H2 D = some (.lst (Mir.nV ((([p, q].take i).filter fun e => !decide (Mir.at0 ms e = e)).map (Mir.at0 ms)))))
      ⟨none, rfl, same_upd hDn, upd_same⟩ (fun i σ H2 _ ⟨_, _, s2, _⟩ => s2.tup hD) ?_ ?_
    · rintro i x σ H2 hx ⟨v0, rfl, s2, h2⟩
      obtain ⟨e, he, rfl⟩ := Mir.nV_get' hx
      have hi : i < 2 := (List.getElem?_eq_some_iff.mp he).1
      have he2 : e < 2 * n := by
        rcases List.mem_cons.mp (List.mem_of_getElem? he) with rfl | z
        · exact hp
        · rw [List.mem_singleton.mp z]; exact hq
      have hlen : ((([p, q].take i).filter fun e => !decide (Mir.at0 ms e = e)).map (Mir.at0 ms)).length ≤ 2 := by
        rw [List.length_map]
        refine Nat.le_trans (List.length_filter_le _ _) ?_
        rw [List.length_take]
        exact Nat.min_le_right _ _
      refine ⟨_, rfl, _, rfl, a, _, _, _, rfl, rfl, s2.tup hS, W.ix he2, _, rfl, rfl, _, rfl, ?_⟩
      rw [Mir.take_snoc he, List.filter_append, List.map_append]
      refine ite2 (fun h1 => ?_) (fun h1 => ?_)
      · have h1 : Mir.at0 ms e ≠ e := fun z => by rw [z] at h1; simp at h1
        refine ⟨_, rfl, _, rfl, a, _, _, _, rfl, rfl, s2.tup hS, W.ix he2, _, h2, small1000 (by rw [Mir.nV_len]; omega), _, rfl, s2.upd hDn, ?_⟩
        rw [upd_same]
        simp [h1, Mir.nV]
      · have h1 : Mir.at0 ms e = e := by
          by_cases z : Mir.at0 ms e = e
          · exact z
          · exact absurd (by simp; omega) h1
        refine ⟨_, rfl, s2, ?_⟩
        rw [h2]
        simp [h1]
    · rintro σ H2 ⟨v0, rfl, s2, h2⟩
      exact k D H2 hDn s2 h2
end
section
seal L2.PSs L2.PS L2.PE L2.PT
variable {P : Program} {w : World} {K : PySem.W.Frag} {mg : Str → Option Value} {base : Heap}
theorem ok_least_pair {f f1 : Addr} {fd fd1 : FuncData} (B : Bl mg) (F : Fn K mg "least_pair" s_least_pair ["work", "deed"] f fd) (F_freed_ends : Fn K mg "freed_ends" s_freed_ends ["work", "deed"] f1 fd1) : FnOk P w K mg base CX0 2 f fd ["work", "deed"] (Mir.spLeastPair K) := by
  have G_freed_ends : FnOk P w K mg base CX0 1 f1 fd1 ["work", "deed"] (Mir.spFreedE K) := ok_freed_ends F_freed_ends
  refine F.fn.ok sc_least_pair (fun vs H Q E h => ?_) (fun cdv A outer s H vs Q E hr h => ?_)
  · obtain ⟨a, d, n, p, q, ms, rfl, _⟩ := h
    rfl
  · obtain ⟨a, d, n, p, q, ms, rfl, hS, W, hD, hp, hq, k⟩ := h
    have hu := hu_of hr
    refine ⟨_, (pss_cons (ps_set (i := 2) sc_least_pair.nd rfl (Or.inl rfl) (pe_tup (pa_cons (pe_ix ix_tup (pv 1) pe_int (fun _ _ => rfl)) (pa_cons (pe_ix ix_tup (pv 1) pe_int (fun _ _ => rfl)) pa_nil))))
      (pss_cons (ps_set (i := 3) sc_least_pair.nd rfl (Or.inl rfl) (pe_fn G_freed_ends F_freed_ends (hr.mono (by decide)) (pa_cons (pv 0) (pa_cons (pv 1) pa_nil))))
      (pss_cons (ps_if (pt_cmpR op_lt (pe_callB call_len_seq rfl B.len bb_len (pa_cons (pv 3) pa_nil)) pe_int (nomark _)) (pss_one (ps_ret (pv 2))) pss_nil)
      (pss_one (ps_ret (pe_callB (call_min2T rfl hu) rfl B.min bb_min (pa_cons (pv 2) (pa_cons (pe_tup (pa_cons (pe_callB (call_minL2 rfl) rfl B.min bb_min (pa_cons (pv 3) pa_nil)) (pa_cons (pe_callB (call_maxL2 rfl) rfl B.max bb_max (pa_cons (pv 3) pa_nil)) pa_nil))) pa_nil)))))))), ?_⟩
    refine ⟨_, rfl, d, _, _, _, rfl, rfl, hD, rfl, _, rfl, d, _, _, _, rfl, rfl, hD, rfl, (by show 2 ≤ sizeLine; decide), fun pr hpr => ?_⟩
    have s1 : Same H (upd H pr (.tup [.int (p : Nat), .int (q : Nat)])) := same_upd hpr
    have e1 : upd H pr (.tup [.int (p : Nat), .int (q : Nat)]) pr = some (.tup [.int (p : Nat), .int (q : Nat)]) := upd_same
    generalize upd H pr (.tup [.int (p : Nat), .int (q : Nat)]) = H1 at s1 e1
    refine ⟨_, rfl, _, rfl, a, d, n, ms, p, q, rfl, s1.tup hS, W, s1.tup hD, hp, hq, fun fr H2 hfr s2 h2 => ?_⟩
    have s12 := s1.trans s2
    have ec := Mir.frd_cases ms p q
    refine ⟨_, rfl, fr, _, rfl, .inl (SqL.of h2), _, _, rfl, rfl, _, rfl, ?_⟩
    by_cases c : Mir.at0 ms p ≠ p ∧ Mir.at0 ms q ≠ q
    · rw [if_neg c.1, if_neg c.2] at ec
      rw [ec] at h2
      have h2 : H2 fr = some (.lst [.int (Mir.at0 ms p : Nat), .int (Mir.at0 ms q : Nat)]) := h2
      refine iteN (decide_eq_false (by rw [Mir.nV_len, ec]; show ¬ ((2 : Nat) : Int) < 2; decide)) ?_
      refine ⟨_, rfl, _, rfl, fr, _, _, rfl, SqL.of h2, _, rfl, fr, _, _, rfl, SqL.of h2, (by show 2 ≤ sizeLine; decide), fun pp hpp => ?_⟩
      have s3 := same_upd (o := .tup [.int (min ((Mir.at0 ms p : Nat) : Int) (Mir.at0 ms q : Nat)), .int (max ((Mir.at0 ms p : Nat) : Int) (Mir.at0 ms q : Nat))]) hpp
      have e3 : upd H2 pp (.tup [.int (min ((Mir.at0 ms p : Nat) : Int) (Mir.at0 ms q : Nat)), .int (max ((Mir.at0 ms p : Nat) : Int) (Mir.at0 ms q : Nat))]) pp = some (.tup (Mir.pf (Mir.otherP ms p q))) := by
        rw [upd_same]
        unfold Mir.pf Mir.otherP
        simp only
        rw [show min ((Mir.at0 ms p : Nat) : Int) (Mir.at0 ms q : Nat) = ((min (Mir.at0 ms p) (Mir.at0 ms q) : Nat) : Int) by omega, show max ((Mir.at0 ms p : Nat) : Int) (Mir.at0 ms q : Nat) = ((max (Mir.at0 ms p) (Mir.at0 ms q) : Nat) : Int) by omega]
      generalize upd H2 pp (.tup [.int (min ((Mir.at0 ms p : Nat) : Int) (Mir.at0 ms q : Nat)), .int (max ((Mir.at0 ms p : Nat) : Int) (Mir.at0 ms q : Nat))]) = H3 at s3 e3
      have s13 := s12.trans s3
      have e1' := s3 _ _ (s2 _ _ e1)
      refine ⟨pr, pp, _, _, _, _, rfl, SqT.of e1', SqT.of e3, ?_⟩
      have el : Mir.leastP ms p q = if ((Mir.otherP ms p q).1 : Int) < (p : Nat) ∨ ((Mir.otherP ms p q).1 : Int) = (p : Nat) ∧ ((Mir.otherP ms p q).2 : Int) < (q : Nat) then Mir.otherP ms p q else (p, q) := by
        unfold Mir.leastP
        rw [if_pos c]
        by_cases d : (Mir.otherP ms p q).1 < p ∨ ((Mir.otherP ms p q).1 = p ∧ (Mir.otherP ms p q).2 < q)
        · rw [if_pos d, if_pos (by omega)]
        · rw [if_neg d, if_neg (by omega)]
      by_cases d : ((Mir.otherP ms p q).1 : Int) < (p : Nat) ∨ ((Mir.otherP ms p q).1 : Int) = (p : Nat) ∧ ((Mir.otherP ms p q).2 : Int) < (q : Nat)
      · rw [if_pos d] at el ⊢
        exact k pp H3 (s12.free hpp) s13 (by rw [el]; exact e3)
      · rw [if_neg d] at el ⊢
        exact k pr H3 hpr s13 (by rw [el]; exact e1')
    · have el : Mir.leastP ms p q = (p, q) := by unfold Mir.leastP; rw [if_neg c]
      have hlen : (Mir.frd ms p q).length < 2 := by
        rw [ec]
        by_cases c1 : Mir.at0 ms p = p
        · rw [if_pos c1]; split <;> simp
        · rw [if_neg c1]
          have c2 : Mir.at0 ms q = q := Classical.byContradiction fun z => c ⟨c1, z⟩
          rw [if_pos c2]; simp
      refine iteY (decide_eq_true (by rw [Mir.nV_len]; omega)) ?_
      exact ⟨_, rfl, k pr H2 hpr s12 (by rw [el]; exact s2 _ _ e1)⟩
end
section
seal L2.PSs L2.PS L2.PE L2.PT L2.PA
variable {P : Program} {w : World} {K : PySem.W.Frag} {mg : Str → Option Value} {base : Heap}
theorem ok_told_deed {f f1 f2 f3 f4 C : Addr} {fd fd1 fd2 fd3 fd4 : FuncData} (B : Bl mg) (Z : ECls K mg "BadDeed" C) (F : Fn K mg "told_deed" s_told_deed ["work", "deed"] f fd) (F_refuse_misfit : Fn K mg "refuse_misfit" s_refuse_misfit ["work", "deed"] f1 fd1) (F_fits_work : Fn K mg "fits_work" s_fits_work ["work", "deed"] f2 fd2) (F_least_pair : Fn K mg "least_pair" s_least_pair ["work", "deed"] f3 fd3) (F_freed_ends : Fn K mg "freed_ends" s_freed_ends ["work", "deed"] f4 fd4) : FnOk P w K mg base (CXo P w) 3 f fd ["work", "deed"] (Mir.spTold K C) := by
  have G_refuse_misfit : FnOk P w K mg base (CXo P w) 2 f1 fd1 ["work", "deed"] (Mir.spMisfit K C) := ok_refuse_misfit B Z F_refuse_misfit F_fits_work
  have G_least_pair : FnOk P w K mg base CX0 2 f3 fd3 ["work", "deed"] (Mir.spLeastPair K) := ok_least_pair B F_least_pair F_freed_ends
  refine F.fn.okX2 sc_told_deed (fun vs H Q E h => ?_) (fun cdv A outer s H vs Q E hr h own => ?_)
  · obtain ⟨a, d, n, p, q, ms, rfl, _⟩ := h
    rfl
  · obtain ⟨a, d, n, p, q, ms, rfl, hS, W, hD, h1, h2, kg, kb⟩ := h
    have hsm := W.small
    have sm : ∀ k : Nat, k < 2 * n → Mir.Sm (k : Int) := fun k hk => Mir.Sm.of (by omega) (by omega)
    refine ⟨_, (pss_cons (ps_expr (pe_fnX G_refuse_misfit F_refuse_misfit (hr.mono (by decide)) (pa_cons (pv 0) (pa_cons (pv 1) pa_nil))))
      (pss_one (ps_ret (pe_fn G_least_pair F_least_pair (hr.mono (by decide)) (pa_cons (pv 0) (pa_cons (pv 1) pa_nil)))))), ?_⟩
    refine ⟨_, rfl, _, rfl, a, d, n, ms, (p : Nat), (q : Nat), rfl, hS, W, hD, sm _ (by omega), sm _ h2, fun hf => ?_, fun hn => kb (Classical.byContradiction fun z => hn ((Mir.fits_iff h1 h2).mpr z))⟩
    have hf := (Mir.fits_iff h1 h2).mp hf
    exact ⟨_, rfl, _, rfl, a, d, n, p, q, ms, rfl, hS, W, SqT.of hD, by omega, h2, fun l H' hl s' h' => kg hf l H' hl s' h'⟩
end
section
seal L2.PSs L2.PS L2.PE L2.PT L2.PA
variable {P : Program} {w : World} {K : PySem.W.Frag} {mg : Str → Option Value} {base : Heap}
theorem ok_all_deeds {f f1 f2 f3 : Addr} {fd fd1 fd2 fd3 : FuncData} (B : Bl mg) (F : Fn K mg "all_deeds" s_all_deeds ["work"] f fd) (F_fits_work : Fn K mg "fits_work" s_fits_work ["work", "deed"] f1 fd1) (F_least_pair : Fn K mg "least_pair" s_least_pair ["work", "deed"] f2 fd2) (F_freed_ends : Fn K mg "freed_ends" s_freed_ends ["work", "deed"] f3 fd3) : FnOk P w K mg base CX0 3 f fd ["work"] (Mir.spAllD K) := by
  have G_fits_work : FnOk P w K mg base CX0 1 f1 fd1 ["work", "deed"] (Mir.spFits K) := ok_fits_work B F_fits_work
  have G_least_pair : FnOk P w K mg base CX0 2 f2 fd2 ["work", "deed"] (Mir.spLeastPair K) := ok_least_pair B F_least_pair F_freed_ends
  refine F.fn.ok sc_all_deeds (fun vs H Q E h => ?_) (fun cdv A outer s H vs Q E hr h => ?_)
  · obtain ⟨a, n, ms, rfl, _⟩ := h
    rfl
  · obtain ⟨a, n, ms, rfl, hS, W, hn, k⟩ := h
    have hu := hu_of hr
    refine ⟨_, (pss_cons (ps_set (i := 1) sc_all_deeds.nd rfl (Or.inl rfl) (pe_lst pa_nil))
      (pss_cons (ps_for PassesOwn.never rfl (pi_range1 rfl B.range (pa_cons (pe_callB call_len_seq rfl B.len bb_len (pa_cons (pv 0) pa_nil)) pa_nil)) (pg_name (i := 2) sc_all_deeds.nd rfl (Or.inl rfl)) (pss_one (ps_for PassesOwn.never rfl (pi_range2 rfl B.range (pa_cons (pv 2) (pa_cons (pe_callB call_len_seq rfl B.len bb_len (pa_cons (pv 0) pa_nil)) pa_nil))) (pg_name (i := 3) sc_all_deeds.nd rfl (Or.inl rfl)) (pss_cons (ps_set (i := 4) sc_all_deeds.nd rfl (Or.inl rfl) (pe_tup (pa_cons (pv 2) (pa_cons (pv 3) pa_nil))))
      (pss_one (ps_if (PW.pt (pw_and (pt_val (pe_fn G_fits_work F_fits_work (hr.mono (by decide)) (pa_cons (pv 0) (pa_cons (pv 4) pa_nil)))) (pw_and1 (pt_cmpR (op_eq_tupD (Nat.lt_of_succ_lt hu)) (pe_fn G_least_pair F_least_pair (hr.mono (by decide)) (pa_cons (pv 0) (pa_cons (pv 4) pa_nil))) (pv 4) (nomark _))))) (pss_one (ps_expr (pe_bm PySem.F.plainAttrs_list PySem.F.slot_list_append PySem.F.type_list_append mt_append (pv 1) (pa_cons (pv 4) pa_nil)))) pss_nil))))))
      (pss_one (ps_ret (pv 1))))), ?_⟩
    have hlm : ((Mir.nV ms).length : Int) = 2 * n := by rw [Mir.nV_len, W.len]; omega
    refine ⟨by show 0 ≤ sizeLine; decide, fun D hD => ?_⟩
    have s0 : Same H (upd H D (.lst [])) := same_upd hD
    refine ⟨_, rfl, a, _, rfl, .inr (s0.tup hS), _, rfl, by rw [hlm]; omega, by rw [hlm]; omega, for_range (lo := 0) (n := ((Mir.nV ms).length : Int).toNat) (fun i σ H3 => ∃ (v2 v3 v4 : Option V), σ = [some (.ref a), some (.ref D), v2, v3, v4] ∧ Same H H3 ∧ Mir.TsT Mir.pf H3 D (Mir.tellL ms (Mir.allTo (2 * n) i)))
      ⟨none, none, none, rfl, s0, Mir.TsT.nil upd_same⟩ ?_ ?_⟩
    · rintro i σ H3 hi ⟨v2, v3, v4, rfl, s3, tD⟩
      have hi' : i < 2 * n := by rw [hlm] at hi; omega
      rw [Int.zero_add]
      refine ⟨_, rfl, _, rfl, a, _, rfl, .inr (s3.tup hS), ?_⟩
      have hrow : Mir.rowP i 0 = [] := rfl
      refine ⟨_, _, rfl, ⟨by omega, by omega, by rw [hlm]; omega, by rw [hlm]; omega⟩, for_range (lo := (i : Nat)) (n := (((Mir.nV ms).length : Int) - (i : Nat)).toNat) (fun j σ H4 => ∃ (v3 v4 : Option V), σ = [some (.ref a), some (.ref D), some (.int (i : Nat)), v3, v4] ∧ Same H H4 ∧ Mir.TsT Mir.pf H4 D (Mir.tellL ms (Mir.allTo (2 * n) i ++ Mir.rowP i j)))
        ⟨v3, v4, rfl, s3, by rw [hrow, List.append_nil]; exact tD⟩ ?_ ?_⟩
      · clear tD
        rintro j σ H4 hj ⟨v3, v4, rfl, s4, tD⟩
        have hj' : i + j < 2 * n := by rw [hlm] at hj; omega
        have ej : ((i : Nat) : Int) + (j : Nat) = ((i + j : Nat) : Int) := by omega
        rw [ej]
        have er : Mir.allTo (2 * n) i ++ Mir.rowP i (j + 1) = (Mir.allTo (2 * n) i ++ Mir.rowP i j) ++ [(i, i + j)] := by rw [Mir.rowP_succ, List.append_assoc]
        have AL : (Mir.allTo (2 * n) i ++ Mir.rowP i j).length ≤ 700 := by
          rw [List.length_append]
          have z1 := Mir.allTo_len (2 * n) i
          have z2 : i * (2 * n) ≤ 24 * 24 := Nat.mul_le_mul (by omega) (by omega)
          have z3 : (Mir.rowP i j).length = j := by unfold Mir.rowP; rw [List.length_map, List.length_range]
          omega
        rw [er]
        generalize Mir.allTo (2 * n) i ++ Mir.rowP i j = L at tD AL
        have tl := Mir.tell_le (ms := ms) (l := L)
        refine ⟨_, rfl, _, rfl, by show 2 ≤ sizeLine; decide, fun td htd => ?_⟩
        have s5 : Same H4 (upd H4 td (.tup [.int (i : Nat), .int (i + j : Nat)])) := same_upd htd
        have h5 : upd H4 td (.tup [.int (i : Nat), .int (i + j : Nat)]) td = some (.tup (Mir.pf (i, i + j))) := upd_same
        have tD5 := tD.same s5
        generalize upd H4 td (.tup [.int (i : Nat), .int (i + j : Nat)]) = H5 at s5 h5 tD5
        have s45 := s4.trans s5
        refine ⟨_, rfl, _, rfl, a, td, n, ms, (i : Nat), (i + j : Nat), rfl, s45.tup hS, W, SqT.of h5, _, rfl, ?_⟩
        have fi := Mir.fits_iff (n := n) (ms := ms) (p := i) (q := i + j) (by omega) hj'
        by_cases hf : Mir.at0 ms i = i + j
        · rw [decide_eq_false (fun z => fi.mp z hf)]
          refine iteF (iteF ⟨_, _, rfl, s45, ?_⟩)
          rw [Mir.tell_no (fun z => z.1 hf)]
          exact tD5
        · rw [decide_eq_true (fi.mpr hf)]
          refine iteT ⟨_, rfl, _, rfl, a, td, n, i, i + j, ms, rfl, s45.tup hS, W, SqT.of h5, by omega, hj', fun l H6 hl s6 h6 => ?_⟩
          have s46 := s45.trans s6
          refine ⟨_, rfl, l, td, [((Mir.leastP ms i (i + j)).1 : Int), ((Mir.leastP ms i (i + j)).2 : Int)], [((i : Nat) : Int), ((i + j : Nat) : Int)], rfl, rfl, SqT.of h6, SqT.of (s6 _ _ h5), _, rfl, ?_⟩
          by_cases hl2 : Mir.leastP ms i (i + j) = (i, i + j)
          · refine iteY (show decide _ = true from decide_eq_true (by rw [hl2])) ?_
            have tD6 := tD5.same s6
            obtain ⟨vs0, w0, wl⟩ := tD6.len
            refine ⟨_, rfl, .inl ⟨rfl, _, SqL.of w0⟩, _, rfl, D, _, _, rfl, rfl, w0, small1000 (by rw [wl]; omega), ?_⟩
            obtain ⟨ws, y1, y2, y3⟩ := tD6.snoc (t := td) (x := (i, i + j)) (s6 _ _ h5)
            rw [w0] at y1
            obtain rfl : vs0 = ws := by injection y1 with y1; injection y1
            refine ⟨_, _, rfl, s46.upd hD, ?_⟩
            rw [Mir.tell_yes (c := (i, i + j)) ⟨hf, hl2⟩]
            exact y3
          · refine iteN (show decide _ = false from decide_eq_false fun z => hl2 ?_) ⟨_, _, rfl, s46, ?_⟩
            · injection z with z1 z2
              injection z2 with z2 _
              exact Prod.ext (by simp only; omega) (by simp only; omega)
            · rw [Mir.tell_no (c := (i, i + j)) (fun z => hl2 z.2)]
              exact tD5.same s6
      · rintro σ H4 ⟨v3, v4, rfl, s4, tD⟩
        have e1 : (((Mir.nV ms).length : Int) - (i : Nat)).toNat = 2 * n - i := by rw [hlm]; omega
        rw [e1, ← Mir.allTo_succ] at tD
        exact ⟨_, v3, v4, rfl, s4, tD⟩
    · rintro σ H3 ⟨v2, v3, v4, rfl, s3, tD⟩
      have en : (((Mir.nV ms).length : Nat) : Int).toNat = 2 * n := by rw [hlm]; omega
      rw [en] at tD
      exact ⟨_, rfl, k D H3 hD s3 tD⟩
end
section
variable {P : Program} {w : World} {K : PySem.W.Frag} {mg : Str → Option Value} {base : Heap}
theorem ok_law_cell {f : Addr} {fd : FuncData} (B : Bl mg) (F : Fn K mg "_law_cell" s_law_cell ["script", "k"] f fd) : FnOk P w K mg base CX0 1 f fd ["script", "k"] (Mir.spCellAt K) := by
  refine F.fn.ok sc_law_cell (fun vs H Q E h => ?_) (fun cdv A outer s H vs Q E hr h => ?_)
  · obtain ⟨a, ns, k, rfl, _⟩ := h
    rfl
  · obtain ⟨a, ns, k, rfl, hS, q⟩ := h
    refine ⟨_, pss_cons (ps_if (pt_cmpR op_lt (pv 1) (pe_callB call_len_seq rfl B.len bb_len (pa_cons (pv 0) pa_nil)) (nomark _)) (pss_one (ps_ret (pe_ix ix_list (pv 0) (pv 1) (fun _ _ => rfl)))) pss_nil) (pss_one (ps_ret pe_int)), ?_⟩
    refine ⟨_, rfl, _, rfl, a, _, rfl, .inl hS, _, _, rfl, rfl, _, rfl, ?_⟩
    refine ite2 (fun h1 => ?_) (fun h1 => ?_)
    · have h1 := of_decide_eq_true h1
      rw [List.length_map] at h1
      have hk : k < ns.length := by omega
      have e : (ns.map V.int)[k]? = some (.int ns[k]) := by rw [List.getElem?_map, List.getElem?_eq_getElem hk]; rfl
      exact ⟨_, rfl, _, rfl, a, _, _, _, rfl, rfl, hS, atI_nat e, q _⟩
    · exact q 0
end
section
variable {P : Program} {w : World} {K : PySem.W.Frag} {mg : Str → Option Value} {base : Heap}
theorem ok_law_number {f fC : Addr} {fd fdC : FuncData} (B : Bl mg) (F : Fn K mg "_law_number" s_law_number ["script", "k"] f fd) (FC : Fn K mg "_law_cell" s_law_cell ["script", "k"] fC fdC) : FnOk P w K mg base CX0 2 f fd ["script", "k"] (Mir.spLawNumber K) := by
  have GC : FnOk P w K mg base CX0 1 fC fdC ["script", "k"] (Mir.spCellAt K) := ok_law_cell B FC
  refine F.fn.ok sc_law_number (fun vs H Q E h => ?_) (fun cdv A outer s H vs Q E hr h => ?_)
  · obtain ⟨a, ns, k, rfl, _⟩ := h
    rfl
  · obtain ⟨a, ns, k, rfl, hS, hk, q⟩ := h
    refine ⟨_, pss_cons (ps_if (pt_cmpR op_lt (pv 1) (pe_callB call_len_seq rfl B.len bb_len (pa_cons (pv 0) pa_nil)) (nomark _)) (pss_one (ps_ret (pe_ix ix_list (pv 0) (pv 1) (fun _ _ => rfl)))) pss_nil)
      (pss_cons (ps_set (i := 2) sc_law_number.nd rfl (Or.inl rfl) (pe_op op_mod (pe_fn GC FC hr (pa_cons (pv 0) (pa_cons (pe_op op_mod (pv 1) (pe_callB (call_max2 rfl) rfl B.max bb_max (pa_cons pe_int (pa_cons (pe_callB call_len_seq rfl B.len bb_len (pa_cons (pv 0) pa_nil)) pa_nil)))) pa_nil))) pe_int))
      (pss_one (ps_ret (pe_op op_mod (pe_op op_mul (pe_op op_add (pe_op op_add (pe_op op_add (pe_op op_mul (pv 2) pe_int) (pe_op op_mul (pe_op op_mul (pv 1) (pv 1)) pe_int)) (pe_op op_mul pe_int (pv 1))) pe_int) (pe_op op_add (pe_op op_mul (pv 1) (pv 1)) pe_int)) pe_int)))), ?_⟩
    refine ⟨_, rfl, _, rfl, a, _, rfl, .inl hS, _, _, rfl, rfl, _, rfl, ?_⟩
    refine ite2 (fun h1 => ?_) (fun h1 => ?_)
    · have h1 := of_decide_eq_true h1
      rw [List.length_map] at h1
      have hk : k < ns.length := by omega
      have e : (ns.map V.int)[k]? = some (.int ns[k]) := by rw [List.getElem?_map, List.getElem?_eq_getElem hk]; rfl
      exact ⟨_, rfl, _, rfl, a, _, _, _, rfl, rfl, hS, atI_nat e, q _⟩
    · refine ⟨_, rfl, _, rfl, _, rfl, a, _, rfl, .inl hS, _, _, rfl, ?_⟩
      generalize hm : (if (((ns.map V.int).length : Nat) : Int) > 1 then (((ns.map V.int).length : Nat) : Int) else 1) = m
      have hm0 : 0 < m := by rw [← hm]; split <;> omega
      refine ⟨_, _, rfl, rfl, hm0, ?_⟩
      have z0 := Int.emod_nonneg (k : Int) (show m ≠ 0 by omega)
      obtain ⟨r, hr'⟩ : ∃ r : Nat, (k : Int) % m = r := ⟨((k : Int) % m).toNat, by omega⟩
      dsimp only
      rw [hr']
      refine ⟨a, ns, r, rfl, hS, fun c => ?_⟩
      have c0 := Int.emod_nonneg c (show (1000000007 : Int) ≠ 0 by decide)
      have c1 := Int.emod_lt_of_pos c (show (0 : Int) < 1000000007 by decide)
      have k0 : (0 : Int) ≤ (k : Int) * k := by exact_mod_cast Nat.zero_le (k * k)
      have k1 : (k : Int) * k ≤ 1000000 := by
        have z : k * k ≤ 1000 * 1000 := Nat.mul_le_mul hk hk
        have z2 : ((k * k : Nat) : Int) ≤ 1000000 := by omega
        rw [Int.natCast_mul] at z2
        exact z2
      refine ⟨_, _, rfl, rfl, (by show (0 : Int) < 1000000007; decide), ?_⟩
      refine ⟨_, rfl, _, _, rfl, rfl, .inr ⟨by decide, by decide⟩, _, rfl, _, rfl, _, _, rfl, rfl, .inl ⟨by omega, by omega⟩, _, _, rfl, rfl, .inr ⟨by decide, by decide⟩, _, _, rfl, rfl, _, rfl, _, _, rfl, rfl, .inl ⟨by decide, by decide⟩, _, _, rfl, rfl, _, _, rfl, rfl, ?_⟩
      refine ⟨_, rfl, _, rfl, _, _, rfl, rfl, .inl ⟨by omega, by omega⟩, _, _, rfl, rfl, _, _, rfl, rfl, .inr ⟨?_, ?_⟩, _, _, rfl, rfl, (by show (0 : Int) < 2147483647; decide), q _⟩
      · omega
      · omega
end
section
variable {P : Program} {w : World} {K : PySem.W.Frag} {mg : Str → Option Value} {base : Heap}
theorem ok_law_work {f fC fN : Addr} {fd fdC fdN : FuncData} (B : Bl mg) (F : Fn K mg "_law_work" s_law_work ["script", "at", "staves"] f fd) (FC : Fn K mg "_law_cell" s_law_cell ["script", "k"] fC fdC) (FN : Fn K mg "_law_number" s_law_number ["script", "k"] fN fdN) : FnOk P w K mg base CX0 3 f fd ["script", "at", "staves"] (Mir.spLawWork K) := by
  have GN : FnOk P w K mg base CX0 2 fN fdN ["script", "k"] (Mir.spLawNumber K) := ok_law_number B FN FC
  refine F.fn.ok sc_law_work (fun vs H Q E h => ?_) (fun cdv A outer s H vs Q E hr h => ?_)
  · obtain ⟨a, ns, k, n, rfl, _⟩ := h
    rfl
  · obtain ⟨a, ns, at', n, rfl, hS, hat, hn, k⟩ := h
    refine ⟨_, pss_cons (ps_set (i := 3) sc_law_work.nd rfl (Or.inl rfl) (pe_callTy (call_list_rng rfl) rfl B.list bb_list (pa_cons (pe_callTy call_rng1 rfl B.range bb_range (pa_cons (pe_op op_mul pe_int (pv 2)) pa_nil)) pa_nil)))
      (pss_cons (ps_set (i := 4) sc_law_work.nd rfl (Or.inl rfl) (pe_callTy (call_list_rng rfl) rfl B.list bb_list (pa_cons (pe_callTy call_rng1 rfl B.range bb_range (pa_cons (pe_op op_mul pe_int (pv 2)) pa_nil)) pa_nil)))
      (pss_cons (ps_while PassesOwn.never (pt_cmpR op_gt (pe_callB call_len_seq rfl B.len bb_len (pa_cons (pv 3) pa_nil)) pe_int (nomark _))
        (pss_cons (ps_set (i := 5) sc_law_work.nd rfl (Or.inl rfl) (pe_bm PySem.F.plainAttrs_list PySem.F.slot_list_pop PySem.F.type_list_pop mt_popAt (pv 3) (pa_cons pe_int pa_nil)))
        (pss_cons (ps_set (i := 6) sc_law_work.nd rfl (Or.inl rfl) (pe_op op_mod (pe_fn GN FN hr (pa_cons (pv 0) (pa_cons (pv 1) pa_nil))) (pe_op op_add (pe_callB call_len_seq rfl B.len bb_len (pa_cons (pv 3) pa_nil)) pe_int)))
        (pss_cons (ps_set (i := 1) sc_law_work.nd rfl (Or.inl rfl) (pe_op op_add (pv 1) pe_int))
        (pss_one (ps_if (pt_cmpR op_lt (pv 6) (pe_callB call_len_seq rfl B.len bb_len (pa_cons (pv 3) pa_nil)) (nomark _))
          (pss_cons (ps_set (i := 7) sc_law_work.nd rfl (Or.inl rfl) (pe_bm PySem.F.plainAttrs_list PySem.F.slot_list_pop PySem.F.type_list_pop mt_popAt (pv 3) (pa_cons (pv 6) pa_nil)))
          (pss_cons (ps_asg (pv 7) (pg_sub (pv 4) (pv 5) set_list))
          (pss_one (ps_asg (pv 5) (pg_sub (pv 4) (pv 7) set_list))))) pss_nil))))))
      (pss_one (ps_ret (pe_callTy call_tuple_of rfl B.tuple bb_tuple (pa_cons (pv 4) pa_nil)))))), ?_⟩
    have e0 : rngV 0 (2 * (n : Int) - 0).toNat = Mir.nV (List.range (2 * n)) := by
      rw [show (2 * (n : Int) - 0).toNat = 2 * n by omega]
      exact Mir.rngV_nV _
    refine ⟨_, rfl, _, _, rfl, rfl, .inl ⟨by decide, by decide⟩, _, rfl, fun p hp => ⟨p, 0, _, rfl, upd_same, ⟨by omega, by omega, by omega, by omega⟩, by omega, fun ll hll => ?_⟩⟩
    rw [e0]
    have s1 : Same H (upd (upd H p (.rng 0 (2 * (n : Int)))) ll (.lst (Mir.nV (List.range (2 * n))))) := (same_upd hp).trans (same_upd hll)
    have g1 : upd (upd H p (.rng 0 (2 * (n : Int)))) ll (.lst (Mir.nV (List.range (2 * n)))) ll = some (.lst (Mir.nV (List.range (2 * n)))) := upd_same
    have nl : H ll = none := (same_upd hp).free hll
    generalize upd (upd H p (.rng 0 (2 * (n : Int)))) ll (.lst (Mir.nV (List.range (2 * n)))) = H1 at s1 g1
    refine ⟨_, rfl, _, _, rfl, rfl, .inl ⟨by decide, by decide⟩, _, rfl, fun p2 hp2 => ⟨p2, 0, _, rfl, upd_same, ⟨by omega, by omega, by omega, by omega⟩, by omega, fun lm hlm => ?_⟩⟩
    rw [e0]
    have s2 : Same H1 (upd (upd H1 p2 (.rng 0 (2 * (n : Int)))) lm (.lst (Mir.nV (List.range (2 * n))))) := (same_upd hp2).trans (same_upd hlm)
    have g2 : upd (upd H1 p2 (.rng 0 (2 * (n : Int)))) lm (.lst (Mir.nV (List.range (2 * n)))) lm = some (.lst (Mir.nV (List.range (2 * n)))) := upd_same
    have nm1 : H1 lm = none := (same_upd hp2).free hlm
    generalize upd (upd H1 p2 (.rng 0 (2 * (n : Int)))) lm (.lst (Mir.nV (List.range (2 * n)))) = H2 at s2 g2
    have nm : H lm = none := s1.free nm1
    have nlm : ll ≠ lm := ne_of_none g1 nm1
    have g3 := s2 _ _ g1
    refine while_by (fun σ H3 => ∃ (v5 v6 v7 : Option V) (lf ms : List Nat) (j : Nat), σ = [some (.ref a), some (.int j), some (.int n), some (.ref ll), some (.ref lm), v5, v6, v7] ∧ Same H H3 ∧ H3 ll = some (.lst (Mir.nV lf)) ∧ H3 lm = some (.lst (Mir.nV ms)) ∧
        Mir.WorkL n ms ∧ lf.Nodup ∧ (∀ x ∈ lf, x < 2 * n ∧ Mir.at0 ms x = x) ∧ lf.length ≤ 2 * n ∧ j + lf.length ≤ at' + 2 * n)
      (fun σ H3 => match H3 ll with | some (.lst ys) => ys.length | _ => 0)
      ⟨none, none, none, List.range (2 * n), List.range (2 * n), at', rfl, s1.trans s2, g3, g2, Mir.range_work hn, List.nodup_range, fun x hx => ?_, by rw [List.length_range]; omega, by rw [List.length_range]; omega⟩ ?_ ?_
    · have hx := List.mem_range.mp hx
      exact ⟨hx, by unfold Mir.at0; simp [List.getD, List.getElem?_range hx]⟩
    · rintro σ H3 ⟨v5, v6, v7, lf, ms, j, rfl, s3, h1, h2, W, nd, hm, hl1, hl2⟩
      refine ⟨_, rfl, ll, _, rfl, .inl (SqL.of h1), _, _, rfl, rfl, _, rfl, ?_⟩
      rw [Mir.nV_len]
      refine ite2 (fun c1 => ?_) (fun c1 => ?_)
      · have c1 := of_decide_eq_true c1
        obtain ⟨x, r, rfl⟩ : ∃ x r, lf = x :: r := by
          cases lf with
          | nil => exact absurd c1 (by simp)
          | cons x r => exact ⟨x, r, rfl⟩
        obtain ⟨hx, hxl⟩ := hm x List.mem_cons_self
        rw [List.length_cons] at hl1 hl2
        refine ⟨_, rfl, .inl ⟨rfl, _, SqL.of h1⟩, ll, _, _, 0, _, rfl, rfl, h1, by decide, by decide, (ixN_seq (ixN_of (by decide) (by rw [Mir.nV_len]; simp))).1, rfl, ?_⟩
        have e1 : (Mir.nV (x :: r)).eraseIdx 0 = Mir.nV r := rfl
        rw [e1]
        have s4 : Same H (upd H3 ll (.lst (Mir.nV r))) := s3.upd nl
        have k1 : upd H3 ll (.lst (Mir.nV r)) ll = some (.lst (Mir.nV r)) := upd_same
        have k2 : upd H3 ll (.lst (Mir.nV r)) lm = some (.lst (Mir.nV ms)) := by rw [upd_ne nlm.symm]; exact h2
        generalize upd H3 ll (.lst (Mir.nV r)) = H4 at s4 k1 k2
        refine ⟨_, rfl, _, rfl, a, ns, j, rfl, s4.seq hS, by omega, fun c => ?_⟩
        have lpos : (0 : Int) < ((Mir.nV r).length : Nat) + 2 := by omega
        refine ⟨_, rfl, ll, _, rfl, .inl (SqL.of k1), _, _, rfl, rfl, _, _, rfl, rfl, lpos, ?_⟩
        have q0 := Int.emod_nonneg c (show (((Mir.nV r).length : Nat) : Int) + 2 ≠ 0 by omega)
        have q1 := Int.emod_lt_of_pos c lpos
        obtain ⟨g, hg⟩ : ∃ g : Nat, c % ((((Mir.nV r).length : Nat) : Int) + 2) = g := ⟨(c % ((((Mir.nV r).length : Nat) : Int) + 2)).toNat, by omega⟩
        dsimp only
        rw [hg]
        refine ⟨_, rfl, _, _, rfl, rfl, ?_⟩
        have ej : ((j : Nat) : Int) + 1 = ((j + 1 : Nat) : Int) := by omega
        dsimp only
        rw [ej]
        have mu : (match H3 ll with | some (.lst ys) => ys.length | _ => 0) = r.length + 1 := by rw [h1]; show (Mir.nV (x :: r)).length = _; rw [Mir.nV_len]; rfl
        obtain ⟨nx, nr⟩ := List.nodup_cons.mp nd
        refine ⟨_, rfl, _, rfl, ll, _, rfl, .inl (SqL.of k1), _, _, rfl, rfl, _, rfl, ?_⟩
        refine ite2 (fun c2 => ?_) (fun c2 => ?_)
        · have c2 := of_decide_eq_true c2
          rw [Mir.nV_len] at c2
          have hgl : g < r.length := by omega
          have hy : r[g]? = some r[g] := List.getElem?_eq_getElem hgl
          have hym : r[g] ∈ r := List.getElem_mem hgl
          generalize r[g] = y at hy hym
          obtain ⟨hyl, hyy⟩ := hm y (List.mem_cons_of_mem _ hym)
          refine ⟨_, rfl, .inl ⟨rfl, _, SqL.of k1⟩, _, rfl, ll, _, _, g, _, rfl, rfl, k1, by omega, by omega, (ixN_seq (ixN_of (Int.natCast_nonneg _) (by rw [Mir.nV_len]; omega))).1, Mir.nV_get hy, ?_⟩
          have e2 : (Mir.nV r).eraseIdx g = Mir.nV (r.eraseIdx g) := Mir.map_erase _ _ _
          rw [e2]
          have k3 : upd H4 ll (.lst (Mir.nV (r.eraseIdx g))) lm = some (.lst (Mir.nV ms)) := by rw [upd_ne nlm.symm]; exact k2
          refine ⟨_, rfl, _, rfl, _, rfl, lm, _, _, _, rfl, rfl, k3, ixN_of (Int.natCast_nonneg _) (by rw [Mir.nV_len, W.len]; omega), ?_⟩
          rw [Int.toNat_natCast, Mir.nV_set]
          refine ⟨_, rfl, _, rfl, _, rfl, lm, _, _, _, rfl, rfl, upd_same, ixN_of (Int.natCast_nonneg _) (by rw [Mir.nV_len, List.length_set, W.len]; omega), ?_⟩
          rw [Int.toNat_natCast, Mir.nV_set]
          have lr : (r.eraseIdx g).length = r.length - 1 := List.length_eraseIdx_of_lt hgl
          have sub : ∀ z ∈ r.eraseIdx g, z ∈ r := fun z hz => List.mem_of_mem_eraseIdx hz
          have nyr : y ∉ r.eraseIdx g := Mir.nodup_gone nr hgl hy
          refine ⟨⟨_, _, _, r.eraseIdx g, Mir.clasp ms x y, j + 1, rfl, ((s4.upd nl).upd nm).upd nm, ?_, upd_same, Mir.clasp_work W hx hyl hxl hyy, nr.eraseIdx g, fun z hz => ?_, by omega, by omega⟩, ?_⟩
          · rw [upd_ne nlm, upd_ne nlm, upd_same]
          · obtain ⟨z1, z2⟩ := hm z (List.mem_cons_of_mem _ (sub z hz))
            refine ⟨z1, ?_⟩
            unfold Mir.clasp
            have zx : z ≠ x := fun e => nx (e ▸ sub z hz)
            have zy : z ≠ y := fun e => nyr (e ▸ hz)
            rw [Mir.at0_set', Mir.at0_set', if_neg (by omega), if_neg (by omega)]
            exact z2
          · show (match (upd _ lm _) ll with | some (.lst ys) => ys.length | _ => 0) < (match H3 ll with | some (.lst ys) => ys.length | _ => 0)
            rw [mu, upd_ne nlm, upd_ne nlm, upd_same]
            show (Mir.nV (r.eraseIdx g)).length < _
            rw [Mir.nV_len]
            omega
        · refine ⟨⟨_, _, _, r, ms, j + 1, rfl, s4, k1, k2, W, nr, fun z hz => hm z (List.mem_cons_of_mem _ hz), by omega, by omega⟩, ?_⟩
          show (match H4 ll with | some (.lst ys) => ys.length | _ => 0) < (match H3 ll with | some (.lst ys) => ys.length | _ => 0)
          rw [mu, k1]
          show (Mir.nV r).length < _
          rw [Mir.nV_len]
          omega
      · refine ⟨_, rfl, lm, _, rfl, .inl ⟨SqL.of h2, fun t ht => k t _ ms (s3.free ht) (s3.upd (s3.free ht)) W upd_same⟩⟩
    · rintro σ H3 R R' hR ⟨v, e1, p, ys, e2, e3, i, j, e4, e5, b, e6, h⟩
      exact ⟨v, e1, p, ys, e2, e3, i, j, e4, e5, b, e6, hR _ _ h⟩
end
section
variable {P : Program} {w : World} {K : PySem.W.Frag} {mg : Str → Option Value} {base : Heap}
theorem ok_law_whole {f : Addr} {fd : FuncData} (B : Bl mg) (F : Fn K mg "_law_whole" s_law_whole ["found"] f fd) : FnOk P w K mg base CX0 1 f fd ["found"] Mir.spWhole := by
  refine F.fn.ok sc_law_whole (fun vs H Q E h => ?_) (fun cdv A outer s H vs Q E hr h => ?_)
  · obtain ⟨e, rfl, _⟩ := h
    rfl
  · obtain ⟨e, rfl, q⟩ := h
    refine ⟨_, pss_one (ps_ret (pe_and (pe_callB call_isi rfl B.isinstance bb_isinstance (pa_cons (pv 0) (pa_cons (pe_bltn (v := .ty "int") rfl B.int bb_int rfl) pa_nil)))
      (pe_one (pe_not (pe_callB call_isi rfl B.isinstance bb_isinstance (pa_cons (pv 0) (pa_cons (pe_bltn (v := .ty "bool") rfl B.bool bb_bool rfl) pa_nil))))))), ?_⟩
    refine ⟨_, rfl, _, _, _, _, rfl, .int e, kit_int_int _, _, rfl, iteT ?_⟩
    exact ⟨_, rfl, _, _, _, _, rfl, .int e, kit_int_bool _, _, rfl, q⟩
end
section
variable {P : Program} {w : World} {K : PySem.W.Frag} {mg : Str → Option Value} {base : Heap}
theorem ok_law_work_is {f fH : Addr} {fd fdH : FuncData} (B : Bl mg) (F : Fn K mg "_law_work_is" s_law_work_is ["found", "due"] f fd) (FH : Fn K mg "_law_whole" s_law_whole ["found"] fH fdH) : FnOk P w K mg base CX0 2 f fd ["found", "due"] Mir.spWorkIs := by
  have GH : FnOk P w K mg base CX0 1 fH fdH ["found"] Mir.spWhole := ok_law_whole B FH
  refine F.fn.ok sc_law_work_is (fun vs H Q E h => ?_) (fun cdv A outer s H vs Q E hr h => ?_)
  · obtain ⟨a, b, ns, rfl, _⟩ := h
    rfl
  · obtain ⟨a, b, ns, rfl, ha, hb, hn, k⟩ := h
    have sa : SqT K H a (Mir.iV ns) := SqT.of ha
    have sb : SqT K H b (Mir.iV ns) := SqT.of hb
    refine ⟨_, pss_cons (ps_if (PW.pt (pw_or (pt_not (pt_val (pe_callB call_isi rfl B.isinstance bb_isinstance (pa_cons (pv 0) (pa_cons (pe_bltn (v := .ty "tuple") rfl B.tuple bb_tuple rfl) pa_nil)))))
          (pw_or1 (pt_cmpR op_ne (pe_callB call_len_seq rfl B.len bb_len (pa_cons (pv 0) pa_nil)) (pe_callB call_len_seq rfl B.len bb_len (pa_cons (pv 1) pa_nil)) (nomark _))))) (pss_one (ps_ret pe_bl)) pss_nil)
      (pss_cons (ps_for PassesOwn.never rfl (pi_range1 rfl B.range (pa_cons (pe_callB call_len_seq rfl B.len bb_len (pa_cons (pv 1) pa_nil)) pa_nil)) (pg_name (i := 2) sc_law_work_is.nd rfl (Or.inl rfl))
        (pss_one (ps_if (PW.pt (pw_or (pt_not (pt_val (pe_fn GH FH hr (pa_cons (pe_ix ix_tup (pv 0) (pv 2) (fun _ _ => rfl)) pa_nil)))) (pw_or1 (pt_cmpR op_ne (pe_ix ix_tup (pv 0) (pv 2) (fun _ _ => rfl)) (pe_ix ix_tup (pv 1) (pv 2) (fun _ _ => rfl)) (nomark _))))) (pss_one (ps_ret pe_bl)) pss_nil)))
      (pss_one (ps_ret pe_bl))), ?_⟩
    refine ⟨_, rfl, _, _, _, _, rfl, .tup ha, kit_tup_tup _, _, rfl, iteF ?_⟩
    refine ⟨_, rfl, a, _, rfl, .inr sa, _, rfl, b, _, rfl, .inr sb, rfl, _, rfl, iteNS rfl ?_⟩
    refine ⟨_, rfl, b, _, rfl, .inr sb, _, rfl, by rw [Mir.iV_len]; omega, by rw [Mir.iV_len]; omega, for_range (lo := 0) (n := (((Mir.iV ns).length : Nat) : Int).toNat) (fun i σ H2 => ∃ v2 : Option V, σ = [some (.ref a), some (.ref b), v2] ∧ H2 = H) ⟨none, rfl, rfl⟩ ?_ ?_⟩
    · rintro i σ H2 hi ⟨v2, rfl, rfl⟩
      rw [Int.toNat_natCast, Mir.iV_len] at hi
      have e0 : (0 : Int) + (i : Nat) = ((i : Nat) : Int) := by omega
      rw [e0]
      have hx : atI (Mir.iV ns) ((i : Nat) : Int) = some (.int ns[i]) := atI_nat (Mir.iV_get (List.getElem?_eq_getElem hi))
      refine ⟨_, rfl, _, rfl, a, _, _, _, rfl, rfl, sa, hx, _, rfl, _, rfl, iteF ?_⟩
      exact ⟨_, rfl, _, rfl, a, _, _, _, rfl, rfl, sa, hx, _, rfl, _, rfl, b, _, _, _, rfl, rfl, sb, hx, rfl, _, rfl, iteNS rfl ⟨_, rfl, rfl⟩⟩
    · rintro σ H2 ⟨v2, rfl, rfl⟩
      exact k
end
section
variable {P : Program} {w : World} {K : PySem.W.Frag} {mg : Str → Option Value} {base : Heap}
theorem ok_law_fits {f : Addr} {fd : FuncData} (B : Bl mg) (F : Fn K mg "_law_fits" s_law_fits ["work", "one", "two"] f fd) : FnOk P w K mg base CX0 1 f fd ["work", "one", "two"] (Mir.spLawFits K) := by
  refine F.fn.ok sc_law_fits (fun vs H Q E h => ?_) (fun cdv A outer s H vs Q E hr h => ?_)
  · obtain ⟨a, n, ms, p, q, rfl, _⟩ := h
    rfl
  · obtain ⟨a, n, ms, p, q, rfl, hS, W, k⟩ := h
    refine ⟨_, pss_cons (ps_if (PW.pt (pw_or (pt_cmpR op_lt (pv 1) pe_int (nomark _)) (pw_or (pt_cmpR op_gt (pv 1) (pv 2) (nomark _)) (pw_or1 (pt_cmpR op_ge (pv 2) (pe_callB call_len_seq rfl B.len bb_len (pa_cons (pv 0) pa_nil)) (nomark _)))))) (pss_one (ps_ret pe_bl)) pss_nil)
      (pss_one (ps_ret (pe_cmpR op_ne (pe_ix ix_tup (pv 0) (pv 1) (fun _ _ => rfl)) (pv 2) (nomark _)))), ?_⟩
    have no : ¬ Mir.Fits n ms p q → Q (.bl false) H := fun z => by rw [decide_eq_false z] at k; exact k
    refine ⟨_, rfl, _, _, rfl, rfl, _, rfl, ite2 (fun h1 => ?_) (fun h1 => ?_)⟩
    · have h1 : p < 0 := of_decide_eq_true h1
      exact no fun z => by have := z.1; omega
    · have h1 : ¬ p < 0 := fun z => h1 (decide_eq_true z)
      refine ⟨_, rfl, _, rfl, _, _, rfl, rfl, _, rfl, ite2 (fun h2 => ?_) (fun h2 => ?_)⟩
      · have h2 : q < p := of_decide_eq_true h2
        exact no fun z => by have := z.2.1; omega
      · have h2 : ¬ q < p := fun z => h2 (decide_eq_true z)
        refine ⟨_, rfl, _, rfl, a, _, rfl, .inr hS, _, _, rfl, rfl, _, rfl, ite2 (fun h3 => ?_) (fun h3 => ?_)⟩
        · have h3 : ((Mir.nV ms).length : Nat) ≤ q := of_decide_eq_true h3
          rw [Mir.nV_len, W.len] at h3
          exact no fun z => by have := z.2.2.1; omega
        · have h3 : ¬ ((Mir.nV ms).length : Nat) ≤ q := fun z => h3 (decide_eq_true z)
          rw [Mir.nV_len, W.len] at h3
          have hx : p = ((p.toNat : Nat) : Int) := by omega
          have hix := W.ix (e := p.toNat) (by omega)
          rw [← hx] at hix
          refine ⟨_, rfl, _, rfl, a, _, _, _, rfl, rfl, hS, hix, _, rfl, rfl, ?_⟩
          have e : decide (Mir.Fits n ms p q) = !decide (V.int ((Mir.at0 ms p.toNat : Nat) : Int) = V.int q) := by
            by_cases c : ((Mir.at0 ms p.toNat : Nat) : Int) = q
            · rw [decide_eq_false (fun z : Mir.Fits n ms p q => z.2.2.2 c), decide_eq_true (congrArg V.int c)]; rfl
            · rw [decide_eq_true (show Mir.Fits n ms p q from ⟨by omega, by omega, by omega, c⟩), decide_eq_false (fun z => c (by injection z))]; rfl
          rw [e] at k
          exact k
end
section
variable {P : Program} {w : World} {K : PySem.W.Frag} {mg : Str → Option Value} {base : Heap}
theorem ok_law_behind {f : Addr} {fd : FuncData} (B : Bl mg) (F : Fn K mg "_law_behind" s_law_behind ["work", "one", "two"] f fd) : FnOk P w K mg base CX0 1 f fd ["work", "one", "two"] (Mir.spLawBeh K) := by
  refine F.fn.ok sc_law_behind (fun vs H Q E h => ?_) (fun cdv A outer s H vs Q E hr h => ?_)
  · obtain ⟨a, n, ms, p, q, rfl, _⟩ := h
    rfl
  · obtain ⟨a, n, ms, p, q, rfl, hS, W, hp, hq, hne, k⟩ := h
    refine ⟨_, pss_cons (ps_set (i := 3) sc_law_behind.nd rfl (Or.inl rfl) (pe_callTy call_list_of rfl B.list bb_list (pa_cons (pv 0) pa_nil)))
      (pss_cons (ps_set (i := 4) sc_law_behind.nd rfl (Or.inl rfl) (pe_ix ix_tup (pv 0) (pv 1) (fun _ _ => rfl)))
      (pss_cons (ps_set (i := 5) sc_law_behind.nd rfl (Or.inl rfl) (pe_ix ix_tup (pv 0) (pv 2) (fun _ _ => rfl)))
      (pss_cons (ps_for PassesOwn.never rfl (pi_list (pe_lst (pa_cons (pv 1) (pa_cons (pv 2) (pa_cons (pv 4) (pa_cons (pv 5) pa_nil)))))) (pg_name (i := 6) sc_law_behind.nd rfl (Or.inl rfl))
        (pss_one (ps_asg (pv 6) (pg_sub (pv 3) (pv 6) set_list))))
      (pss_cons (ps_if (pt_cmpR op_ne (pv 1) (pv 2) (nomark _))
        (pss_cons (ps_asg (pv 2) (pg_sub (pv 3) (pv 1) set_list))
        (pss_cons (ps_asg (pv 1) (pg_sub (pv 3) (pv 2) set_list))
        (pss_one (ps_if (PW.pt (pw_and (pt_cmpR op_ne (pv 4) (pv 1) (nomark _)) (pw_and1 (pt_cmpR op_ne (pv 5) (pv 2) (nomark _)))))
          (pss_cons (ps_asg (pv 5) (pg_sub (pv 3) (pv 4) set_list)) (pss_one (ps_asg (pv 4) (pg_sub (pv 3) (pv 5) set_list)))) pss_nil)))) pss_nil)
      (pss_one (ps_ret (pe_callTy call_tuple_of rfl B.tuple bb_tuple (pa_cons (pv 3) pa_nil)))))))), ?_⟩
    have lp := W.wk.lt p hp
    have lq := W.wk.lt q hq
    have hbe := Mir.lawBeh_eq W hp hq hne
    refine ⟨_, rfl, a, _, rfl, .inr hS, fun l hl => ?_⟩
    have s1 : Same H (upd H l (.lst (Mir.nV ms))) := same_upd hl
    have h1 : upd H l (.lst (Mir.nV ms)) l = some (.lst (Mir.nV ms)) := upd_same
    generalize upd H l (.lst (Mir.nV ms)) = H1 at s1 h1
    refine ⟨_, rfl, _, rfl, a, _, _, _, rfl, rfl, s1.tup hS, W.ix hp, ?_⟩
    refine ⟨_, rfl, _, rfl, a, _, _, _, rfl, rfl, s1.tup hS, W.ix hq, ?_⟩
    have setl : ∀ (H3 : Hp) (m : List Nat) (i v : Nat), Same H H3 → H3 l = some (.lst (Mir.nV m)) → Same H (upd H3 l (.lst (Mir.nV (m.set i v)))) ∧ upd H3 l (.lst (Mir.nV (m.set i v))) l = some (.lst (Mir.nV (m.set i v))) := fun H3 m i v s3 h3 => ⟨s3.upd hl, upd_same⟩
    have fin : ∀ (H3 : Hp) (v6 : Option V), Same H H3 → H3 l = some (.lst (Mir.nV (Mir.lawBeh ms p q))) → (tRet (fun σ H Q => ∃ v, σ[3]? = some (some v) ∧ ∃ p ys, [v] = [V.ref p] ∧ ((SqL K H p ys ∧ ∀ l, H l = none → Q (.ref l) (upd H l (.tup ys))) ∨ (SqT K H p ys ∧ Q (.ref p) H))))
          { nx := fun _ H' => Q .non H', rt := Q } [some (.ref a), some (.int p), some (.int q), some (.ref l), some (.int (Mir.at0 ms p : Nat)), some (.int (Mir.at0 ms q : Nat)), v6] H3 := fun H3 v6 s3 h3 => by
      rw [hbe] at h3
      exact ⟨_, rfl, l, _, rfl, .inl ⟨SqL.of h3, fun r hr' => k r _ (s3.free hr') (s3.upd (s3.free hr')) upd_same⟩⟩
    refine ⟨_, rfl, _, rfl, _, rfl, _, rfl, by show 4 ≤ sizeLine; decide, fun le hle => ⟨le, rfl, ⟨_, SqL.of upd_same⟩, for_list (K := K) (a := le) (xs := Mir.nV [p, q, Mir.at0 ms p, Mir.at0 ms q])
      (fun j σ H3 => ∃ v : Option V, σ = [some (.ref a), some (.int p), some (.int q), some (.ref l), some (.int (Mir.at0 ms p : Nat)), some (.int (Mir.at0 ms q : Nat)), v] ∧ Same H H3 ∧ H3 le = some (.lst (Mir.nV [p, q, Mir.at0 ms p, Mir.at0 ms q])) ∧ H3 l = some (.lst (Mir.nV (([p, q, Mir.at0 ms p, Mir.at0 ms q].take j).foldl (fun m e => m.set e e) ms))))
      ⟨none, rfl, s1.upd (s1.free hle), upd_same, by rw [upd_ne (ne_of_none h1 hle)]; exact h1⟩ (fun j σ H3 _ ⟨_, _, _, e, _⟩ => SqL.of e) ?_ ?_⟩⟩
    · rintro j y σ H3 hj ⟨v, rfl, s3, hle3, hl3⟩
      obtain ⟨e, he, rfl⟩ := Mir.nV_get' hj
      have he2 : e < 2 * n := by
        have z := List.mem_of_getElem? he
        simp at z
        rcases z with rfl | rfl | rfl | rfl <;> assumption
      have hlen : (([p, q, Mir.at0 ms p, Mir.at0 ms q].take j).foldl (fun m e => m.set e e) ms).length = 2 * n := by
        rw [← W.len]
        generalize [p, q, Mir.at0 ms p, Mir.at0 ms q].take j = es
        clear k hbe hS W hne lp lq fin setl s1 h1 hl3 hle3 s3 hj he
        induction es generalizing ms with
        | nil => rfl
        | cons a r ih => rw [List.foldl_cons, ih, List.length_set]
      have nll : l ≠ le := ne_of_none h1 hle
      refine ⟨_, rfl, _, rfl, _, rfl, l, _, _, _, rfl, rfl, hl3, ixN_of (Int.natCast_nonneg _) (by rw [Mir.nV_len, hlen]; omega), ?_⟩
      rw [Int.toNat_natCast, Mir.nV_set]
      refine ⟨_, rfl, s3.upd hl, by rw [upd_ne nll.symm]; exact hle3, ?_⟩
      rw [upd_same, Mir.take_snoc he, List.foldl_append]
      rfl
    · rintro σ H3 ⟨v, rfl, s3, hle3, hl3⟩
      have e4 : ([p, q, Mir.at0 ms p, Mir.at0 ms q].take (Mir.nV [p, q, Mir.at0 ms p, Mir.at0 ms q]).length).foldl (fun m e => m.set e e) ms = (((ms.set p p).set q q).set (Mir.at0 ms p) (Mir.at0 ms p)).set (Mir.at0 ms q) (Mir.at0 ms q) := rfl
      rw [e4] at hl3
      have l4 : ((((ms.set p p).set q q).set (Mir.at0 ms p) (Mir.at0 ms p)).set (Mir.at0 ms q) (Mir.at0 ms q)).length = 2 * n := by simp only [List.length_set]; exact W.len
      unfold Mir.lawBeh at fin
      simp only at fin
      generalize (((ms.set p p).set q q).set (Mir.at0 ms p) (Mir.at0 ms p)).set (Mir.at0 ms q) (Mir.at0 ms q) = m4 at hl3 l4 fin
      refine ⟨_, rfl, _, rfl, rfl, _, rfl, ite2 (fun c1 => ?_) (fun c1 => ?_)⟩
      · have c1 : p ≠ q := fun z => by rw [z] at c1; simp at c1
        rw [if_neg c1] at fin
        refine ⟨_, rfl, _, rfl, _, rfl, l, _, _, _, rfl, rfl, hl3, ixN_of (Int.natCast_nonneg _) (by rw [Mir.nV_len, l4]; omega), ?_⟩
        rw [Int.toNat_natCast, Mir.nV_set]
        obtain ⟨s5, h5⟩ := setl H3 m4 p q s3 hl3
        refine ⟨_, rfl, _, rfl, _, rfl, l, _, _, _, rfl, rfl, h5, ixN_of (Int.natCast_nonneg _) (by rw [Mir.nV_len, List.length_set, l4]; omega), ?_⟩
        rw [Int.toNat_natCast, Mir.nV_set]
        obtain ⟨s6, h6⟩ := setl _ _ q p s5 h5
        refine ⟨_, rfl, _, rfl, rfl, _, rfl, ite2 (fun c2 => ?_) (fun c2 => ?_)⟩
        · have c2 : Mir.at0 ms p ≠ p := fun z => by rw [z] at c2; simp at c2
          refine ⟨_, rfl, _, rfl, rfl, _, rfl, ite2 (fun c3 => ?_) (fun c3 => ?_)⟩
          · have c3 : Mir.at0 ms q ≠ q := fun z => by rw [z] at c3; simp at c3
            rw [if_pos ⟨c2, c3⟩] at fin
            refine ⟨_, rfl, _, rfl, _, rfl, l, _, _, _, rfl, rfl, h6, ixN_of (Int.natCast_nonneg _) (by simp only [Mir.nV_len, List.length_set, l4]; omega), ?_⟩
            rw [Int.toNat_natCast, Mir.nV_set]
            obtain ⟨s7, h7⟩ := setl _ _ (Mir.at0 ms p) (Mir.at0 ms q) s6 h6
            refine ⟨_, rfl, _, rfl, _, rfl, l, _, _, _, rfl, rfl, h7, ixN_of (Int.natCast_nonneg _) (by simp only [Mir.nV_len, List.length_set, l4]; omega), ?_⟩
            rw [Int.toNat_natCast, Mir.nV_set]
            obtain ⟨s8, h8⟩ := setl _ _ (Mir.at0 ms q) (Mir.at0 ms p) s7 h7
            exact fin _ _ s8 h8
          · have c3 : Mir.at0 ms q = q := by
              by_cases z : Mir.at0 ms q = q
              · exact z
              · exact absurd (by simp; omega) c3
            rw [if_neg (fun z => z.2 c3)] at fin
            exact fin _ _ s6 h6
        · have c2 : Mir.at0 ms p = p := by
            by_cases z : Mir.at0 ms p = p
            · exact z
            · exact absurd (by simp; omega) c2
          rw [if_neg (fun z => z.1 c2)] at fin
          exact fin _ _ s6 h6
      · have c1 : p = q := by
          by_cases z : p = q
          · exact z
          · exact absurd (by simp; omega) c1
        rw [if_pos c1] at fin
        exact fin _ _ s3 hl3
end
section
seal L2.PSs L2.PS L2.PE L2.PT L2.PA
variable {P : Program} {w : World} {K : PySem.W.Frag} {mg : Str → Option Value} {base : Heap}
theorem ok_law_pairs_tried {f f1 f2 : Addr} {fd fd1 fd2 : FuncData} (B : Bl mg) (F : Fn K mg "_law_pairs_tried" s_law_pairs_tried ["work"] f fd) (F_law_fits : Fn K mg "_law_fits" s_law_fits ["work", "one", "two"] f1 fd1) (F_law_behind : Fn K mg "_law_behind" s_law_behind ["work", "one", "two"] f2 fd2) : FnOk P w K mg base CX0 2 f fd ["work"] (Mir.spTried K) := by
  have G_law_fits : FnOk P w K mg base CX0 1 f1 fd1 ["work", "one", "two"] (Mir.spLawFits K) := ok_law_fits B F_law_fits
  have G_law_behind : FnOk P w K mg base CX0 1 f2 fd2 ["work", "one", "two"] (Mir.spLawBeh K) := ok_law_behind B F_law_behind
  refine F.fn.ok sc_law_pairs_tried (fun vs H Q E h => ?_) (fun cdv A outer s H vs Q E hr h => ?_)
  · obtain ⟨a, n, ms, rfl, _⟩ := h
    rfl
  · obtain ⟨a, n, ms, rfl, hS, W, hn, k⟩ := h
    have hu := hu_of hr
    refine ⟨_, (pss_cons (ps_set (i := 1) sc_law_pairs_tried.nd rfl (Or.inl rfl) pe_dnewT)
      (pss_cons (ps_set (i := 2) sc_law_pairs_tried.nd rfl (Or.inl rfl) pe_dnewT)
      (pss_cons (ps_for PassesOwn.never rfl (pi_range1 rfl B.range (pa_cons (pe_callB call_len_seq rfl B.len bb_len (pa_cons (pv 0) pa_nil)) pa_nil)) (pg_name (i := 3) sc_law_pairs_tried.nd rfl (Or.inl rfl)) (pss_one (ps_for PassesOwn.never rfl (pi_range2 rfl B.range (pa_cons (pv 3) (pa_cons (pe_callB call_len_seq rfl B.len bb_len (pa_cons (pv 0) pa_nil)) pa_nil))) (pg_name (i := 4) sc_law_pairs_tried.nd rfl (Or.inl rfl)) (pss_one (ps_if (pt_val (pe_fn G_law_fits F_law_fits (hr.mono (by decide)) (pa_cons (pv 0) (pa_cons (pv 3) (pa_cons (pv 4) pa_nil))))) (pss_cons (ps_set (i := 5) sc_law_pairs_tried.nd rfl (Or.inl rfl) (pe_fn G_law_behind F_law_behind (hr.mono (by decide)) (pa_cons (pv 0) (pa_cons (pv 3) (pa_cons (pv 4) pa_nil)))))
      (pss_cons (ps_if (pt_cmp (pc_dnotin hu (pv 5) (pv 1))) (pss_one (ps_dput hu (pv 1) (pv 5) (pe_tup (pa_cons (pv 3) (pa_cons (pv 4) pa_nil))) rfl)) pss_nil)
      (ps_sem (R := fun D σ H2 => ∃ (df dt lb t : Addr) (p q : Nat) (kvF kvT : List (List Key × V)) (bk : List Nat), σ = [some (.ref a), some (.ref df), some (.ref dt), some (.int (p : Nat)), some (.int (q : Nat)), some (.ref lb)] ∧ H2 df = some (.dT kvF) ∧ H2 dt = some (.dT kvT) ∧ kvT.length ≤ 1000 ∧ H2 lb = some (.tup (Mir.nV bk)) ∧ valV kvF (Mir.wK bk) = some (.ref t) ∧ ∀ tq, H2 tq = none → D.nx σ (upd (upd H2 tq (.tup (Mir.pf (p, q)))) dt (.dT (putK kvT (Mir.pK (p, q)) (.ref t))))) fun D σ H2 hR => ?put))) pss_nil)))))
      (pss_one (ps_ret (pe_tup (pa_cons (pv 2) (pa_cons (pe_lvals rfl rfl B.list (pv 1)) pa_nil)))))))), ?_⟩
    case put =>
      obtain ⟨df, dt, lb, t, p, q, kvF, kvT, bk, rfl, hF, hT, hlen, hlb, hv, kx⟩ := hR
      refine ⟨_, pss_one (ps_dput hu (pv 2) (pe_tup (pa_cons (pv 3) (pa_cons (pv 4) pa_nil))) (pe_dget hu (pv 1) (pv 5) (fun _ _ => rfl)) rfl), ?_⟩
      have g : DGet H2 df (.ref lb) (some (.ref t)) := by
        have z := DGet.t (k := Mir.wK bk) hF (b := lb) (by rw [Mir.wK_nV]; exact hlb)
        rw [hv] at z
        exact z
      refine ⟨_, rfl, _, rfl, df, _, rfl, g, _, rfl, _, rfl, _, rfl, by show 2 ≤ sizeLine; decide, fun tq htq => ?_⟩
      exact ⟨dt, _, rfl, DPut.t (k := Mir.pK (p, q)) (same_upd htq _ _ hT) upd_same (Nat.lt_of_le_of_lt hlen (by decide)), kx tq htq⟩
    have hlm : ((Mir.nV ms).length : Int) = 2 * n := by rw [Mir.nV_len, W.len]; omega
    intro df hdf dt hdt
    have ndd : dt ≠ df := fun z => by rw [z, upd_same] at hdt; cases hdt
    have hdt0 : H dt = none := by rwa [upd_ne ndd] at hdt
    have s1 : Same H (upd (upd H df (.dT [])) dt (.dT [])) := (same_upd hdf).trans (same_upd hdt)
    have hF1 : upd (upd H df (.dT [])) dt (.dT []) df = some (.dT []) := by rw [upd_ne (Ne.symm ndd), upd_same]
    have hT1 : upd (upd H df (.dT [])) dt (.dT []) dt = some (.dT []) := upd_same
    generalize upd (upd H df (.dT [])) dt (.dT []) = H1 at s1 hF1 hT1
    refine ⟨_, rfl, a, _, rfl, .inr (s1.tup hS), _, rfl, by rw [hlm]; omega, by rw [hlm]; omega, for_range (lo := 0) (n := ((Mir.nV ms).length : Int).toNat) (fun i σ H3 => ∃ (v3 v4 v5 : Option V) (kvF kvT : List (List Key × V)), σ = [some (.ref a), some (.ref df), some (.ref dt), v3, v4, v5] ∧ Same H H3 ∧ H3 df = some (.dT kvF) ∧ H3 dt = some (.dT kvT) ∧ Mir.FirI ms H3 (Mir.allTo (2 * n) i) kvF ∧ Mir.TolI n ms H3 (Mir.allTo (2 * n) i) kvT)
      ⟨none, none, none, [], [], rfl, s1, hF1, hT1, Mir.fir_nil, Mir.tol_nil⟩ ?_ ?_⟩
    · rintro i σ H3 hi ⟨v3, v4, v5, kvF, kvT, rfl, s3, hF, hT, fF, tT⟩
      have hi' : i < 2 * n := by rw [hlm] at hi; omega
      rw [Int.zero_add]
      refine ⟨_, rfl, _, rfl, a, _, rfl, .inr (s3.tup hS), ?_⟩
      have hrow : Mir.rowP i 0 = [] := rfl
      refine ⟨_, _, rfl, ⟨by omega, by omega, by rw [hlm]; omega, by rw [hlm]; omega⟩, for_range (lo := (i : Nat)) (n := (((Mir.nV ms).length : Int) - (i : Nat)).toNat) (fun j σ H4 => ∃ (v4 v5 : Option V) (kvF kvT : List (List Key × V)), σ = [some (.ref a), some (.ref df), some (.ref dt), some (.int (i : Nat)), v4, v5] ∧ Same H H4 ∧ H4 df = some (.dT kvF) ∧ H4 dt = some (.dT kvT) ∧ Mir.FirI ms H4 (Mir.allTo (2 * n) i ++ Mir.rowP i j) kvF ∧ Mir.TolI n ms H4 (Mir.allTo (2 * n) i ++ Mir.rowP i j) kvT)
        ⟨v4, v5, kvF, kvT, rfl, s3, hF, hT, by rw [hrow, List.append_nil]; exact fF, by rw [hrow, List.append_nil]; exact tT⟩ ?_ ?_⟩
      · clear fF tT hF hT kvF kvT
        rintro j σ H4 hj ⟨v4, v5, kvF, kvT, rfl, s4, hF, hT, fF, tT⟩
        have hj' : i + j < 2 * n := by rw [hlm] at hj; omega
        have ej : ((i : Nat) : Int) + (j : Nat) = ((i + j : Nat) : Int) := by omega
        rw [ej]
        have er : Mir.allTo (2 * n) i ++ Mir.rowP i (j + 1) = (Mir.allTo (2 * n) i ++ Mir.rowP i j) ++ [(i, i + j)] := by rw [Mir.rowP_succ, List.append_assoc]
        have AL : (Mir.allTo (2 * n) i ++ Mir.rowP i j).length ≤ 700 := by
          rw [List.length_append]
          have z1 := Mir.allTo_len (2 * n) i
          have z2 : i * (2 * n) ≤ 24 * 24 := Nat.mul_le_mul (by omega) (by omega)
          have z3 : (Mir.rowP i j).length = j := by unfold Mir.rowP; rw [List.length_map, List.length_range]
          omega
        have hb : ∀ d ∈ Mir.allTo (2 * n) i ++ Mir.rowP i j, d.1 ≤ d.2 ∧ d.2 < 2 * n := fun d hd => by
          rcases List.mem_append.mp hd with z | z
          · exact (Mir.mem_allTo.mp z).2
          · have := Mir.mem_rowP.mp z; omega
        have AH := Mir.ahead_at (n := n) (i := i) (j := j) hj'
        rw [er]
        generalize Mir.allTo (2 * n) i ++ Mir.rowP i j = L at fF tT AL hb AH
        refine ⟨_, rfl, _, rfl, _, rfl, a, n, ms, (i : Nat), (i + j : Nat), rfl, s4.tup hS, W, _, rfl, ?_⟩
        have fi := Mir.fits_iff (n := n) (ms := ms) (p := i) (q := i + j) (by omega) hj'
        by_cases hf : Mir.at0 ms i = i + j
        · rw [decide_eq_false (fun z => fi.mp z hf)]
          exact iteF ⟨_, _, kvF, kvT, rfl, s4, hF, hT, fF.no (c := (i, i + j)) (fun z => z.1 hf), tT.no (c := (i, i + j)) hf⟩
        · rw [decide_eq_true (fi.mpr hf)]
          refine iteT ⟨_, rfl, _, rfl, _, rfl, a, n, ms, i, i + j, rfl, s4.tup hS, W, by omega, hj', hf, fun lb H5 hlb s5 hb5 => ?_⟩
          have s45 := s4.trans s5
          have hF5 := s5 _ _ hF
          have hT5 := s5 _ _ hT
          have fF5 := fF.keep (Mir.keepT_same s5)
          have tT5 := tT.keep (Mir.keepT_same s5)
          have fl := fF5.len
          have tl := tT5.1
          obtain ⟨io1, io2⟩ := fF5.iff W hb AH (by simp only; omega) hj' hf
          refine ⟨_, rfl, _, rfl, df, _, rfl, DGet.t (k := Mir.wK (Mir.beh ms i (i + j))) hF5 (by rw [Mir.wK_nV]; exact hb5), _, rfl, ?_⟩
          by_cases hl2 : Mir.leastP ms i (i + j) = (i, i + j)
          · rw [io1 hl2]
            refine iteT ⟨_, rfl, _, rfl, by show 2 ≤ sizeLine; decide, fun tp htp => ?_⟩
            have s6 : Same H5 (upd H5 tp (.tup [.int (i : Nat), .int (i + j : Nat)])) := same_upd htp
            have h6 : upd H5 tp (.tup [.int (i : Nat), .int (i + j : Nat)]) tp = some (.tup (Mir.pf (i, i + j))) := upd_same
            generalize upd H5 tp (.tup [.int (i : Nat), .int (i + j : Nat)]) = H6 at s6 h6
            have hF6 := s6 _ _ hF5
            refine ⟨_, rfl, _, rfl, df, _, rfl, DPut.t (k := Mir.wK (Mir.beh ms i (i + j))) hF6 (by rw [Mir.wK_nV]; exact s6 _ _ hb5) (Nat.lt_of_le_of_lt (show kvF.length ≤ 700 by omega) (by decide)), ?_⟩
            have k7 := Mir.keepT_upd (o := .dT (putK kvF (Mir.wK (Mir.beh ms i (i + j))) (.ref tp))) hF6
            have s7 : Same H (upd H6 df (.dT (putK kvF (Mir.wK (Mir.beh ms i (i + j))) (.ref tp)))) := (s45.trans s6).upd hdf
            have hF7 : upd H6 df (.dT (putK kvF (Mir.wK (Mir.beh ms i (i + j))) (.ref tp))) df = some (.dT (putK kvF (Mir.wK (Mir.beh ms i (i + j))) (.ref tp))) := upd_same
            have hT7 : upd H6 df (.dT (putK kvF (Mir.wK (Mir.beh ms i (i + j))) (.ref tp))) dt = some (.dT kvT) := by rw [upd_ne ndd]; exact s6 _ _ hT5
            have fF7 := ((fF5.keep (Mir.keepT_same s6)).new (c := (i, i + j)) ⟨hf, hl2⟩ h6 (io1 hl2)).keep k7
            have tT7 := (tT5.keep (Mir.keepT_same s6)).keep k7
            have h7 := k7 _ _ h6
            have hb7 := k7 _ _ (s6 _ _ hb5)
            generalize upd H6 df (.dT (putK kvF (Mir.wK (Mir.beh ms i (i + j))) (.ref tp))) = H7 at k7 s7 hF7 hT7 fF7 tT7 h7 hb7
            refine ⟨df, dt, lb, tp, i, i + j, _, kvT, _, rfl, hF7, hT7, by omega, hb7, by rw [valV_put, if_pos rfl], fun tq htq => ?_⟩
            have s8 : Same H7 (upd H7 tq (.tup (Mir.pf (i, i + j)))) := same_upd htq
            have k9 := Mir.keepT_upd (o := .dT (putK kvT (Mir.pK (i, i + j)) (.ref tp))) (s8 _ _ hT7)
            have k79 : Mir.KeepT H7 (upd (upd H7 tq (.tup (Mir.pf (i, i + j)))) dt (.dT (putK kvT (Mir.pK (i, i + j)) (.ref tp)))) := fun t ys h => k9 _ _ (s8 _ _ h)
            refine ⟨_, _, _, _, rfl, (s7.trans s8).upd hdt0, by rw [upd_ne (Ne.symm ndd)]; exact s8 _ _ hF7, upd_same, fF7.keep k79, ?_⟩
            exact (tT7.keep k79).yes (c := (i, i + j)) hf (k79 _ _ (by rw [hl2]; exact h7))
          · obtain ⟨t, ev, et⟩ := io2 hl2
            rw [ev]
            refine iteF ?_
            refine ⟨df, dt, lb, t, i, i + j, kvF, kvT, _, rfl, hF5, hT5, by omega, hb5, ev, fun tq htq => ?_⟩
            have s8 : Same H5 (upd H5 tq (.tup (Mir.pf (i, i + j)))) := same_upd htq
            have k9 := Mir.keepT_upd (o := .dT (putK kvT (Mir.pK (i, i + j)) (.ref t))) (s8 _ _ hT5)
            have k79 : Mir.KeepT H5 (upd (upd H5 tq (.tup (Mir.pf (i, i + j)))) dt (.dT (putK kvT (Mir.pK (i, i + j)) (.ref t)))) := fun t ys h => k9 _ _ (s8 _ _ h)
            refine ⟨_, _, _, _, rfl, (s45.trans s8).upd hdt0, by rw [upd_ne (Ne.symm ndd)]; exact s8 _ _ hF5, upd_same, (fF5.keep k79).no (c := (i, i + j)) (fun z => hl2 z.2), ?_⟩
            exact (tT5.keep k79).yes (c := (i, i + j)) hf (k79 _ _ et)
      · rintro σ H4 ⟨v4, v5, kvF, kvT, rfl, s4, hF, hT, fF, tT⟩
        have e1 : (((Mir.nV ms).length : Int) - (i : Nat)).toNat = 2 * n - i := by rw [hlm]; omega
        rw [e1, ← Mir.allTo_succ] at fF tT
        exact ⟨_, v4, v5, kvF, kvT, rfl, s4, hF, hT, fF, tT⟩
    · rintro σ H3 ⟨v3, v4, v5, kvF, kvT, rfl, s3, hF, hT, fF, tT⟩
      have en : (((Mir.nV ms).length : Nat) : Int).toNat = 2 * n := by rw [hlm]; omega
      rw [en] at fF tT
      obtain ⟨_, ts, e2, e3⟩ := fF
      refine ⟨_, rfl, _, rfl, df, kvF, rfl, hF, fun lv hlv => ⟨by show 2 ≤ sizeLine; decide, fun t ht => ?_⟩⟩
      rw [e2] at ht ⊢
      have s4 : Same H3 (upd H3 lv (.lst (ts.map V.ref))) := same_upd hlv
      have s5 : Same (upd H3 lv (.lst (ts.map V.ref))) (upd (upd H3 lv (.lst (ts.map V.ref))) t (.tup [.ref dt, .ref lv])) := same_upd ht
      have s45 := s4.trans s5
      exact k t dt lv kvT _ (s3.trans s45) upd_same (s45 _ _ hT) (tT.keep (Mir.keepT_same s45)) ((e3.same s45).tst (s5 _ _ upd_same))
end
section
variable {P : Program} {w : World} {K : PySem.W.Frag} {mg : Str → Option Value} {base : Heap}
theorem ok_law_refused {f f1 C : Addr} {fd fd1 : FuncData} (MU : mg "BadDeed" = some (.ref C)) (pu : PySem.W.exmOne K (.ref C) (.ref C) = some true)
    (F : Fn K mg "_law_refused" s_law_refused ["work", "deed"] f fd) (F1 : Fn K mg "told_deed" s_told_deed ["work", "deed"] f1 fd1) (G1 : FnOk P w K mg base (CXo P w) 3 f1 fd1 ["work", "deed"] (Mir.spTold K C)) : FnOk P w K mg base CX0 4 f fd ["work", "deed"] (Mir.spRefused12 K) := by
  refine F.fn.okO sc_law_refused (fun vs H Q E h => ?_) (fun cdv A outer s H vs Q E hr h own => ?_)
  · obtain ⟨a, d, n, p, q, ms, rfl, _⟩ := h
    rfl
  · obtain ⟨a, d, n, p, q, ms, rfl, hS, W, hD, h1, h2, h3, k⟩ := h
    refine ⟨_, pss_cons (ps_set (i := 2) sc_law_refused.nd rfl (Or.inl rfl) pe_bl)
      (pss_cons (ps_try0 own MU (psx_expr (pex_fn G1 F1 hr (pa_cons (pv 0) (pa_cons (pv 1) pa_nil)))) (fun e oe => pss_one (ps_set (i := 2) sc_law_refused.nd rfl (Or.inl rfl) pe_bl)))
      (pss_one (ps_ret (pv 2)))), ?_⟩
    refine ⟨fun cls _ H' => cls = .ref C ∧ H' = H, ?_, ?_⟩
    · exact ⟨_, rfl, _, rfl, a, d, n, p, q, ms, rfl, hS, W, hD, h1, h2, fun e => absurd h3 e, fun _ => ⟨rfl, rfl⟩⟩
    · rintro cls H' ⟨rfl, rfl⟩
      exact ⟨pu, _, rfl, k⟩
end
section
seal L2.PSs L2.PS L2.PE L2.PT L2.PA
variable {P : Program} {w : World} {K : PySem.W.Frag} {mg : Str → Option Value} {base : Heap}
theorem ok_law_looked {f f1 f2 f3 f4 f5 C : Addr} {fd fd1 fd2 fd3 fd4 fd5 : FuncData} (B : Bl mg) (F : Fn K mg "_law_looked" s_law_looked ["work"] f fd) (F_law_pairs_tried : Fn K mg "_law_pairs_tried" s_law_pairs_tried ["work"] f1 fd1) (G_law_pairs_tried : FnOk P w K mg base CX0 2 f1 fd1 ["work"] (Mir.spTried K))
    (F_law_refused : Fn K mg "_law_refused" s_law_refused ["work", "deed"] f2 fd2) (G_law_refused : FnOk P w K mg base CX0 4 f2 fd2 ["work", "deed"] (Mir.spRefused12 K)) (F_told_deed : Fn K mg "told_deed" s_told_deed ["work", "deed"] f3 fd3) (G_told_deed : FnOk P w K mg base (CXo P w) 3 f3 fd3 ["work", "deed"] (Mir.spTold K C))
    (F_law_work_is : Fn K mg "_law_work_is" s_law_work_is ["found", "due"] f4 fd4) (G_law_work_is : FnOk P w K mg base CX0 2 f4 fd4 ["found", "due"] Mir.spWorkIs) (F_all_deeds : Fn K mg "all_deeds" s_all_deeds ["work"] f5 fd5) (G_all_deeds : FnOk P w K mg base CX0 3 f5 fd5 ["work"] (Mir.spAllD K)) : FnOk P w K mg base CX0 5 f fd ["work"] (Mir.spLooked K) := by
  refine F.fn.ok sc_law_looked (fun vs H Q E h => ?_) (fun cdv A outer s H vs Q E hr h => ?_)
  · obtain ⟨a, n, ms, rfl, _⟩ := h
    rfl
  · obtain ⟨a, n, ms, rfl, hS, W, hn, k⟩ := h
    have hu := hu_of hr
    refine ⟨_, (pss_cons (ps_set (i := 1) sc_law_looked.nd rfl (Or.inl rfl) (pe_fn G_law_pairs_tried F_law_pairs_tried (hr.mono (by decide)) (pa_cons (pv 0) pa_nil)))
      (pss_cons (ps_for PassesOwn.never rfl (pi_range1 rfl B.range (pa_cons (pe_callB call_len_seq rfl B.len bb_len (pa_cons (pv 0) pa_nil)) pa_nil)) (pg_name (i := 2) sc_law_looked.nd rfl (Or.inl rfl)) (pss_one (ps_for PassesOwn.never rfl (pi_range2 rfl B.range (pa_cons (pv 2) (pa_cons (pe_callB call_len_seq rfl B.len bb_len (pa_cons (pv 0) pa_nil)) pa_nil))) (pg_name (i := 3) sc_law_looked.nd rfl (Or.inl rfl)) (pss_cons (ps_set (i := 4) sc_law_looked.nd rfl (Or.inl rfl) (pe_tup (pa_cons (pv 2) (pa_cons (pv 3) pa_nil))))
      (pss_one (ps_if (pt_cmp (pc_dnotin hu (pv 4) (pe_ix ix_tup (pv 1) pe_int (fun _ _ => rfl)))) (pss_one (ps_if (pt_not (pt_val (pe_fn G_law_refused F_law_refused (hr.mono (by decide)) (pa_cons (pv 0) (pa_cons (pv 4) pa_nil))))) (pss_one (ps_ret pe_bl)) pss_nil)) (pss_one (ps_if (pt_not (pt_val (pe_fn G_law_work_is F_law_work_is (hr.mono (by decide)) (pa_cons (pe_fnF G_told_deed F_told_deed (hr.mono (by decide)) (pa_cons (pv 0) (pa_cons (pv 4) pa_nil))) (pa_cons (pe_dget hu (pe_ix ix_tup (pv 1) pe_int (fun _ _ => rfl)) (pv 4) (fun _ _ => rfl)) pa_nil))))) (pss_one (ps_ret pe_bl)) pss_nil))))))))
      (pss_cons (ps_set (i := 5) sc_law_looked.nd rfl (Or.inl rfl) (pe_callB (call_sortedPB false) rfl B.sorted bb_sorted (pa_cons (pe_ix ix_tup (pv 1) pe_int (fun _ _ => rfl)) pa_nil)))
      (pss_cons (ps_set (i := 6) sc_law_looked.nd rfl (Or.inl rfl) (pe_fn G_all_deeds F_all_deeds (hr.mono (by decide)) (pa_cons (pv 0) pa_nil)))
      (pss_cons (ps_if (PW.pt (pw_or (pt_not (pt_val (pe_callB call_isi rfl B.isinstance bb_isinstance (pa_cons (pv 6) (pa_cons (pe_bltn (v := .ty "list") rfl B.list bb_list rfl) pa_nil))))) (pw_or1 (pt_cmpR op_ne (pe_callB call_len_seq rfl B.len bb_len (pa_cons (pv 6) pa_nil)) (pe_callB call_len_seq rfl B.len bb_len (pa_cons (pv 5) pa_nil)) (nomark _))))) (pss_one (ps_ret pe_bl)) pss_nil)
      (pss_cons (ps_for PassesOwn.never rfl (pi_range1 rfl B.range (pa_cons (pe_callB call_len_seq rfl B.len bb_len (pa_cons (pv 6) pa_nil)) pa_nil)) (pg_name (i := 7) sc_law_looked.nd rfl (Or.inl rfl)) (pss_one (ps_if (pt_not (pt_val (pe_fn G_law_work_is F_law_work_is (hr.mono (by decide)) (pa_cons (pe_ix ix_list (pv 6) (pv 7) (fun _ _ => rfl)) (pa_cons (pe_ix ix_list (pv 5) (pv 7) (fun _ _ => rfl)) pa_nil))))) (pss_one (ps_ret pe_bl)) pss_nil)))
      (pss_one (ps_ret pe_bl)))))))), ?_⟩
    have hlm : ((Mir.nV ms).length : Int) = 2 * n := by rw [Mir.nV_len, W.len]; omega
    refine ⟨_, rfl, a, n, ms, rfl, hS, W, hn, fun t dt lv kvs H1 s1 ht hdt tT tV => ?_⟩
    refine ⟨_, rfl, a, _, rfl, .inr (s1.tup hS), _, rfl, by rw [hlm]; omega, by rw [hlm]; omega, for_range (lo := 0) (n := ((Mir.nV ms).length : Int).toNat) (fun i σ H3 => ∃ (v2 v3 v4 : Option V), σ = [some (.ref a), some (.ref t), v2, v3, v4, none, none, none] ∧ Same H1 H3)
      ⟨none, none, none, rfl, Same.refl _⟩ ?_ ?_⟩
    · rintro i σ H3 hi ⟨v2, v3, v4, rfl, s3⟩
      have hi' : i < 2 * n := by rw [hlm] at hi; omega
      rw [Int.zero_add]
      refine ⟨_, rfl, _, rfl, a, _, rfl, .inr ((s1.trans s3).tup hS), ?_⟩
      refine ⟨_, _, rfl, ⟨by omega, by omega, by rw [hlm]; omega, by rw [hlm]; omega⟩, for_range (lo := (i : Nat)) (n := (((Mir.nV ms).length : Int) - (i : Nat)).toNat) (fun j σ H4 => ∃ (v3 v4 : Option V), σ = [some (.ref a), some (.ref t), some (.int (i : Nat)), v3, v4, none, none, none] ∧ Same H1 H4)
        ⟨v3, v4, rfl, s3⟩ ?_ ?_⟩
      · rintro j σ H4 hj ⟨v3, v4, rfl, s4⟩
        have hj' : i + j < 2 * n := by rw [hlm] at hj; omega
        have ej : ((i : Nat) : Int) + (j : Nat) = ((i + j : Nat) : Int) := by omega
        rw [ej]
        refine ⟨_, rfl, _, rfl, by show 2 ≤ sizeLine; decide, fun td htd => ?_⟩
        have s5 : Same H4 (upd H4 td (.tup [.int (i : Nat), .int (i + j : Nat)])) := same_upd htd
        have h5 : upd H4 td (.tup [.int (i : Nat), .int (i + j : Nat)]) td = some (.tup (Mir.pf (i, i + j))) := upd_same
        generalize upd H4 td (.tup [.int (i : Nat), .int (i + j : Nat)]) = H5 at s5 h5
        have s15 := s4.trans s5
        have sA := s1.trans s15
        obtain ⟨q1, q2⟩ := (tT.keep (Mir.keepT_same s15)).2 (i, i + j) (by simp only; omega) hj'
        have hm : (i, i + j) ∈ Mir.allTo (2 * n) (2 * n) := Mir.mem_allTo.mpr ⟨hi', by simp only; omega, hj'⟩
        refine ⟨_, rfl, _, rfl, t, _, _, _, rfl, rfl, SqT.of (s15 _ _ ht), rfl, dt, _, rfl, DGet.t (k := Mir.pK (i, i + j)) (s15 _ _ hdt) h5, _, rfl, ?_⟩
        by_cases hf : Mir.at0 ms i = i + j
        · rw [q2 fun z => z.2 hf]
          refine iteT ⟨_, rfl, _, rfl, a, td, n, i, i + j, ms, rfl, sA.tup hS, W, h5, by omega, hj', hf, _, rfl, iteF ?_⟩
          exact ⟨_, _, rfl, s15⟩
        · obtain ⟨tt, ev, et⟩ := q1 ⟨hm, hf⟩
          rw [ev]
          refine iteF ⟨_, rfl, _, rfl, a, td, n, i, i + j, ms, rfl, sA.tup hS, W, h5, by omega, hj', fun _ l H6 hl s6 h6 => ?_, fun z => absurd z hf⟩
          have s16 := s15.trans s6
          have g : DGet H6 dt (.ref td) (some (.ref tt)) := by
            have z := DGet.t (k := Mir.pK (i, i + j)) (s16 _ _ hdt) (s6 _ _ h5)
            rw [ev] at z
            exact z
          refine ⟨_, rfl, t, _, _, _, rfl, rfl, SqT.of (s16 _ _ ht), rfl, _, rfl, dt, _, rfl, g, l, tt, [((Mir.leastP ms i (i + j)).1 : Int), ((Mir.leastP ms i (i + j)).2 : Int)], rfl, h6, s6 _ _ et, by show 2 ≤ 1000; decide, _, rfl, iteF ?_⟩
          exact ⟨_, _, rfl, s16⟩
      · rintro σ H4 ⟨v3, v4, rfl, s4⟩
        exact ⟨_, v3, v4, rfl, s4⟩
    · rintro σ H3 ⟨v2, v3, v4, rfl, s3⟩
      have tV3 := tV.same s3
      have asc := (Mir.allTo_asc (N := 2 * n) (by omega) (2 * n)).filter fun c => @decide (Mir.tellP ms c) (Classical.propDecidable _)
      have bd : ∀ c ∈ Mir.tellL ms (Mir.allTo (2 * n) (2 * n)), c.2 < 2 * n := fun c hc => (Mir.mem_allTo.mp (Mir.mem_tell.mp hc).1).2.2
      have len : (Mir.tellL ms (Mir.allTo (2 * n) (2 * n))).length ≤ 600 := by
        have z1 := Mir.allTo_len (2 * n) (2 * n)
        have z2 : 2 * n * (2 * n) ≤ 24 * 24 := Nat.mul_le_mul (by omega) (by omega)
        have z3 := Mir.tell_le (ms := ms) (l := Mir.allTo (2 * n) (2 * n))
        omega
      have asc : (Mir.tellL ms (Mir.allTo (2 * n) (2 * n))).Pairwise fun c d => Mir.rkN c < Mir.rkN d := asc
      generalize hTL : Mir.tellL ms (Mir.allTo (2 * n) (2 * n)) = TL at tV3 asc bd len
      obtain ⟨us, u1, u2, u3⟩ := tV3
      have gp : ∀ (i : Nat) (hi : i < us.length), Mir.gPr H3 us[i] = Mir.rkN (TL[i]'(by omega)) := fun i hi => Mir.gPr_pf (u3 i _ _ (List.getElem?_eq_getElem hi) (List.getElem?_eq_getElem (by omega)))
      refine ⟨_, rfl, t, _, _, _, rfl, rfl, SqT.of (s3 _ _ ht), rfl, lv, us, Mir.gPr H3, rfl, SqL.of u1, by omega, List.pairwise_iff_getElem.mpr fun i j hi hj hij => ?_, fun tq hq => ?_, fun ws l' hp hs hl' => ?_⟩
      · rw [gp i hi, gp j hj]
        exact Int.le_of_lt (List.pairwise_iff_getElem.mp asc i j (by omega) (by omega) hij)
      · obtain ⟨i, hi, rfl⟩ := List.getElem_of_mem hq
        have hi2 : i < TL.length := by omega
        have e := u3 i _ _ (List.getElem?_eq_getElem hi) (List.getElem?_eq_getElem hi2)
        exact ⟨_, e, by rw [Mir.gPr_pf e]; exact Mir.prv_pf (by have := bd _ (List.getElem_mem hi2); omega)⟩
      · obtain ⟨ys, y1, y2, y3⟩ := Mir.sort_pf u2 u3 hp hs hl'
        have ey : ys = TL := List.Perm.eq_of_pairwise (le := fun c d => Mir.rkN c ≤ Mir.rkN d) (fun c d hc hd z1 z2 => by
          have b1 := bd c (y1.mem_iff.mp hc)
          have b2 := bd d hd
          unfold Mir.rkN at z1 z2
          exact Prod.ext (by omega) (by omega)) y2 (asc.imp fun h => Int.le_of_lt h) y1
        rw [ey] at y3
        have s4 : Same H3 (upd H3 l' (.lst (ws.map V.ref))) := same_upd hl'
        generalize upd H3 l' (.lst (ws.map V.ref)) = H4 at s4 y3
        have s14 := s1.trans (s3.trans s4)
        refine ⟨_, rfl, a, n, ms, rfl, s14.tup hS, W, hn, fun D H5 hD s5 tD => ?_⟩
        rw [hTL] at tD
        have y5 := y3.same s5
        have s15 := s14.trans s5
        obtain ⟨fv, f1, f2⟩ := tD.len
        obtain ⟨dv, d1, d2⟩ := y5.len
        refine ⟨_, rfl, _, _, _, _, rfl, .lst f1, kit_lst_lst _, _, rfl, iteF ?_⟩
        refine ⟨_, rfl, D, _, rfl, .inl (SqL.of f1), _, rfl, l', _, rfl, .inl (SqL.of d1), rfl, _, rfl, iteN (dNeN (by omega)) ?_⟩
        refine ⟨_, rfl, D, _, rfl, .inl (SqL.of f1), _, rfl, by omega, by omega, for_range (lo := 0) (n := ((fv.length : Nat) : Int).toNat) (fun i σ H6 => ∃ v7 : Option V, σ = [some (.ref a), some (.ref t), v2, v3, v4, some (.ref l'), some (.ref D), v7] ∧ H6 = H5) ⟨none, rfl, rfl⟩ ?_ ?_⟩
        · rintro i σ H6 hi ⟨v7, rfl, rfl⟩
          rw [Int.zero_add]
          obtain ⟨c, hc⟩ : ∃ c, TL[i]? = some c := ⟨_, List.getElem?_eq_getElem (by omega)⟩
          obtain ⟨vs1, x1, g1, g2, g3⟩ := tD.get hc
          obtain ⟨vs2, x2, g4, g5, g6⟩ := y5.get hc
          refine ⟨_, rfl, _, rfl, D, _, _, _, rfl, rfl, SqL.of g1, atI_nat g2, _, rfl, _, rfl, l', _, _, _, rfl, rfl, SqL.of g4, atI_nat g5, x1, x2, [(c.1 : Int), (c.2 : Int)], rfl, g3, g6, by show 2 ≤ 1000; decide, _, rfl, iteF ?_⟩
          exact ⟨_, rfl, rfl⟩
        · rintro σ H6 ⟨v7, rfl, rfl⟩
          exact k _ s15
end
section
seal L2.PSs L2.PS L2.PE L2.PT L2.PA
variable {P : Program} {w : World} {K : PySem.W.Frag} {mg : Str → Option Value} {base : Heap}
theorem ok_law {C_BadDeed : Addr} (B : Bl mg) (Z : ECls K mg "BadDeed" C_BadDeed) (pu : PySem.W.exmOne K (.ref C_BadDeed) (.ref C_BadDeed) = some true)
    {f0 f1 f2 f3 f4 f5 f6 f7 f8 f9 f10 f11 f12 f13 f14 f15 f16 : Addr} {fd0 fd1 fd2 fd3 fd4 fd5 fd6 fd7 fd8 fd9 fd10 fd11 fd12 fd13 fd14 fd15 fd16 : FuncData} (F_fits_work : Fn K mg "fits_work" s_fits_work ["work", "deed"] f0 fd0) (F_refuse_misfit : Fn K mg "refuse_misfit" s_refuse_misfit ["work", "deed"] f1 fd1) (F_freed_ends : Fn K mg "freed_ends" s_freed_ends ["work", "deed"] f2 fd2) (F_told_deed : Fn K mg "told_deed" s_told_deed ["work", "deed"] f3 fd3) (F_least_pair : Fn K mg "least_pair" s_least_pair ["work", "deed"] f4 fd4) (F_all_deeds : Fn K mg "all_deeds" s_all_deeds ["work"] f5 fd5) (F_law_cell : Fn K mg "_law_cell" s_law_cell ["script", "k"] f6 fd6) (F_law_number : Fn K mg "_law_number" s_law_number ["script", "k"] f7 fd7) (F_law_work : Fn K mg "_law_work" s_law_work ["script", "at", "staves"] f8 fd8) (F_law_whole : Fn K mg "_law_whole" s_law_whole ["found"] f9 fd9) (F_law_work_is : Fn K mg "_law_work_is" s_law_work_is ["found", "due"] f10 fd10) (F_law_fits : Fn K mg "_law_fits" s_law_fits ["work", "one", "two"] f11 fd11) (F_law_behind : Fn K mg "_law_behind" s_law_behind ["work", "one", "two"] f12 fd12) (F_law_pairs_tried : Fn K mg "_law_pairs_tried" s_law_pairs_tried ["work"] f13 fd13) (F_law_refused : Fn K mg "_law_refused" s_law_refused ["work", "deed"] f14 fd14) (F_law_looked : Fn K mg "_law_looked" s_law_looked ["work"] f15 fd15) (F_law : Fn K mg "law" s_law ["script"] f16 fd16) : FnOk P w K mg base CX0 6 f16 fd16 ["script"] (spLaw K) := by
  have G_law_cell : FnOk P w K mg base CX0 1 _ _ ["script", "k"] (Mir.spCellAt K) := ok_law_cell B F_law_cell
  have G_law_work : FnOk P w K mg base CX0 3 _ _ ["script", "at", "staves"] (Mir.spLawWork K) := ok_law_work B F_law_work F_law_cell F_law_number
  have G_law_work_is : FnOk P w K mg base CX0 2 _ _ ["found", "due"] Mir.spWorkIs := ok_law_work_is B F_law_work_is F_law_whole
  have G_law_fits : FnOk P w K mg base CX0 1 _ _ ["work", "one", "two"] (Mir.spLawFits K) := ok_law_fits B F_law_fits
  have G_law_behind : FnOk P w K mg base CX0 1 _ _ ["work", "one", "two"] (Mir.spLawBeh K) := ok_law_behind B F_law_behind
  have G_told_deed := ok_told_deed (P := P) (w := w) (base := base) B Z F_told_deed F_refuse_misfit F_fits_work F_least_pair F_freed_ends
  have G_all_deeds := ok_all_deeds (P := P) (w := w) (base := base) B F_all_deeds F_fits_work F_least_pair F_freed_ends
  have G_law_pairs_tried := ok_law_pairs_tried (P := P) (w := w) (base := base) B F_law_pairs_tried F_law_fits F_law_behind
  have G_law_refused := ok_law_refused Z.g pu F_law_refused F_told_deed G_told_deed
  have G_law_looked := ok_law_looked B F_law_looked F_law_pairs_tried G_law_pairs_tried F_law_refused G_law_refused F_told_deed G_told_deed F_law_work_is G_law_work_is F_all_deeds G_all_deeds
  refine F_law.fn.ok sc_law (fun vs H Q E h => ?_) (fun cdv A outer s H vs Q E hr h => ?_)
  · obtain ⟨a, ns, rfl, _⟩ := h
    rfl
  · obtain ⟨a, ns, rfl, hS, hlen, k⟩ := h
    refine ⟨_, (pss_cons (ps_if (pt_cmpR op_eq (pe_op op_mod (pe_op op_fdiv (pe_fn G_law_cell F_law_cell (hr.mono (by decide)) (pa_cons (pv 0) (pa_cons pe_int pa_nil))) pe_int) pe_int) pe_int (nomark _)) (pss_one (ps_ret (pe_fn G_law_looked F_law_looked (hr.mono (by decide)) (pa_cons (pe_fn G_law_work F_law_work (hr.mono (by decide)) (pa_cons (pv 0) (pa_cons pe_int (pa_cons (pe_op op_add pe_int (pe_op op_mod (pe_op op_fdiv (pe_fn G_law_cell F_law_cell (hr.mono (by decide)) (pa_cons (pv 0) (pa_cons pe_int pa_nil))) pe_int) pe_int)) pa_nil)))) pa_nil)))) pss_nil)
      (pss_cons (ps_set (i := 1) sc_law.nd rfl (Or.inl rfl) (pe_fn G_law_work F_law_work (hr.mono (by decide)) (pa_cons (pv 0) (pa_cons pe_int (pa_cons (pe_op op_mod (pe_fn G_law_cell F_law_cell (hr.mono (by decide)) (pa_cons (pv 0) (pa_cons pe_int pa_nil))) pe_int) pa_nil)))))
      (pss_cons (ps_if (pt_not (pt_val (pe_fn G_law_looked F_law_looked (hr.mono (by decide)) (pa_cons (pv 1) pa_nil)))) (pss_one (ps_ret pe_bl)) pss_nil)
      (pss_cons (ps_for PassesOwn.never rfl (pi_range2 rfl B.range (pa_cons pe_int (pa_cons pe_int pa_nil))) (pg_name (i := 2) sc_law.nd rfl (Or.inl rfl)) (pss_one (ps_if (pt_cmpR op_gt (pe_callB call_len_seq rfl B.len bb_len (pa_cons (pv 1) pa_nil)) pe_int (nomark _)) (pss_cons (ps_set (i := 3) sc_law.nd rfl (Or.inl rfl) (pe_op op_mod (pe_fn G_law_cell F_law_cell (hr.mono (by decide)) (pa_cons (pv 0) (pa_cons (pv 2) pa_nil))) (pe_callB call_len_seq rfl B.len bb_len (pa_cons (pv 1) pa_nil))))
      (pss_cons (ps_set (i := 4) sc_law.nd rfl (Or.inl rfl) (pe_op op_mod (pe_op op_fdiv (pe_fn G_law_cell F_law_cell (hr.mono (by decide)) (pa_cons (pv 0) (pa_cons (pv 2) pa_nil))) pe_int) (pe_callB call_len_seq rfl B.len bb_len (pa_cons (pv 1) pa_nil))))
      (pss_one (ps_if (pt_val (pe_fn G_law_fits F_law_fits (hr.mono (by decide)) (pa_cons (pv 1) (pa_cons (pe_callB (call_min2 rfl) rfl B.min bb_min (pa_cons (pv 3) (pa_cons (pv 4) pa_nil))) (pa_cons (pe_callB (call_max2 rfl) rfl B.max bb_max (pa_cons (pv 3) (pa_cons (pv 4) pa_nil))) pa_nil))))) (pss_cons (ps_set (i := 1) sc_law.nd rfl (Or.inl rfl) (pe_fn G_law_behind F_law_behind (hr.mono (by decide)) (pa_cons (pv 1) (pa_cons (pe_callB (call_min2 rfl) rfl B.min bb_min (pa_cons (pv 3) (pa_cons (pv 4) pa_nil))) (pa_cons (pe_callB (call_max2 rfl) rfl B.max bb_max (pa_cons (pv 3) (pa_cons (pv 4) pa_nil))) pa_nil)))))
      (pss_one (ps_if (pt_not (pt_val (pe_fn G_law_looked F_law_looked (hr.mono (by decide)) (pa_cons (pv 1) pa_nil)))) (pss_one (ps_ret pe_bl)) pss_nil))) pss_nil)))) pss_nil)))
      (pss_one (ps_ret pe_bl)))))), ?_⟩
    refine ⟨_, rfl, a, ns, 0, rfl, hS, fun c0 => ?_⟩
    refine ⟨_, _, rfl, rfl, ⟨by decide, by decide⟩, _, _, rfl, rfl, (show (0 : Int) < 8 by decide), rfl, _, rfl, ?_⟩
    refine ite2 (fun _ => ?_) (fun _ => ?_)
    · refine ⟨_, rfl, _, rfl, a, ns, 0, rfl, hS, fun c1 => ?_⟩
      refine ⟨_, _, rfl, rfl, ⟨by decide, by decide⟩, _, _, rfl, rfl, (show (0 : Int) < 7 by decide), _, _, rfl, rfl, ?_⟩
      dsimp only
      obtain ⟨n, hn, hn2⟩ : ∃ n : Nat, (6 : Int) + c1 / 48 % 7 = (n : Int) ∧ n ≤ 12 := ⟨((6 : Int) + c1 / 48 % 7).toNat, by omega, by omega⟩
      rw [hn]
      refine ⟨a, ns, 4, n, rfl, hS, by decide, by omega, fun wk H1 ms hwk s1 W hw => ?_⟩
      exact ⟨wk, n, ms, rfl, SqT.of hw, W, hn2, fun H2 s2 => k H2⟩
    · refine ⟨_, rfl, _, rfl, a, ns, 0, rfl, hS, fun c1 => ?_⟩
      refine ⟨_, _, rfl, rfl, (show (0 : Int) < 6 by decide), ?_⟩
      dsimp only
      obtain ⟨n, hn, hn2⟩ : ∃ n : Nat, c1 % 6 = (n : Int) ∧ n ≤ 5 := ⟨(c1 % 6).toNat, by omega, by omega⟩
      rw [hn]
      refine ⟨a, ns, 4, n, rfl, hS, by decide, by omega, fun wk H1 ms hwk s1 W hw => ?_⟩
      refine ⟨_, rfl, wk, n, ms, rfl, SqT.of hw, W, by omega, fun H2 s2 => ⟨_, rfl, iteF ?_⟩⟩
      refine ⟨_, _, rfl, ⟨by decide, by decide, by decide, by decide⟩, for_range (lo := 1) (n := ((4 : Int) - 1).toNat) (fun i σ H3 => ∃ (wk : Addr) (ms : List Nat) (v2 v3 v4 : Option V), σ = [some (.ref a), some (.ref wk), v2, v3, v4] ∧ Same H H3 ∧ H3 wk = some (.tup (Mir.nV ms)) ∧ Mir.WorkL n ms)
        ⟨wk, ms, none, none, none, rfl, s1.trans s2, s2 _ _ hw, W⟩ ?_ ?_⟩
      · clear hw W hwk s1 s2 H1 H2 ms wk
        rintro i σ H3 hi ⟨wk, ms, v2, v3, v4, rfl, s3, hw, W⟩
        have hlm : ((Mir.nV ms).length : Int) = 2 * n := by rw [Mir.nV_len, W.len]; omega
        rw [show (1 : Int) + (i : Nat) = ((1 + i : Nat) : Int) by omega]
        refine ⟨_, rfl, wk, _, rfl, .inr (SqT.of hw), _, _, rfl, rfl, _, rfl, ?_⟩
        refine ite2 (fun h1 => ?_) (fun h1 => ?_)
        · have h1 := of_decide_eq_true h1
          have npos : 0 < n := by omega
          refine ⟨_, rfl, _, rfl, a, ns, 1 + i, rfl, s3.seq hS, fun c2 => ?_⟩
          refine ⟨_, rfl, wk, _, rfl, .inr (SqT.of hw), _, _, rfl, rfl, (show (0 : Int) < ((Mir.nV ms).length : Int) by omega), ?_⟩
          dsimp only
          rw [hlm]
          obtain ⟨x, hx, hx2⟩ : ∃ x : Nat, c2 % (2 * (n : Int)) = (x : Int) ∧ x < 2 * n := ⟨(c2 % (2 * (n : Int))).toNat, by have := Int.emod_nonneg c2 (show (2 * (n : Int)) ≠ 0 by omega); omega, by have := Int.emod_nonneg c2 (show (2 * (n : Int)) ≠ 0 by omega); have := Int.emod_lt_of_pos c2 (show (0 : Int) < 2 * (n : Int) by omega); omega⟩
          rw [hx]
          refine ⟨_, rfl, _, rfl, a, ns, 1 + i, rfl, s3.seq hS, fun c3 => ?_⟩
          refine ⟨_, _, rfl, rfl, ⟨by decide, by decide⟩, _, rfl, wk, _, rfl, .inr (SqT.of hw), _, _, rfl, rfl, (show (0 : Int) < ((Mir.nV ms).length : Int) by omega), ?_⟩
          dsimp only
          rw [hlm]
          obtain ⟨y, hy, hy2⟩ : ∃ y : Nat, c3 / 12 % (2 * (n : Int)) = (y : Int) ∧ y < 2 * n := ⟨(c3 / 12 % (2 * (n : Int))).toNat, by have := Int.emod_nonneg (c3 / 12) (show (2 * (n : Int)) ≠ 0 by omega); omega, by have := Int.emod_nonneg (c3 / 12) (show (2 * (n : Int)) ≠ 0 by omega); have := Int.emod_lt_of_pos (c3 / 12) (show (0 : Int) < 2 * (n : Int) by omega); omega⟩
          rw [hy]
          have emin : (if (y : Int) < (x : Int) then (y : Int) else (x : Int)) = ((min x y : Nat) : Int) := by split <;> omega
          have emax : (if (y : Int) > (x : Int) then (y : Int) else (x : Int)) = ((max x y : Nat) : Int) := by split <;> omega
          have hle : min x y ≤ max x y := by omega
          have hlt : max x y < 2 * n := by omega
          refine ⟨_, rfl, _, rfl, _, rfl, _, _, rfl, _, rfl, _, rfl, _, _, rfl, ?_⟩
          rw [emin, emax]
          generalize min x y = p at hle emin
          generalize max x y = q at hle hlt emax
          refine ⟨wk, n, ms, (p : Int), (q : Int), rfl, SqT.of hw, W, _, rfl, ?_⟩
          have fi := Mir.fits_iff (n := n) (ms := ms) (p := p) (q := q) hle hlt
          by_cases hf : Mir.at0 ms p = q
          · rw [decide_eq_false (fun z => fi.mp z hf)]
            exact iteF ⟨wk, ms, _, _, _, rfl, s3, hw, W⟩
          · rw [decide_eq_true (fi.mpr hf)]
            refine iteT ⟨_, rfl, _, rfl, _, rfl, _, _, rfl, _, rfl, _, rfl, _, _, rfl, ?_⟩
            rw [emin, emax]
            refine ⟨wk, n, ms, p, q, rfl, SqT.of hw, W, by omega, hlt, hf, fun wb H4 hwb s4 hb => ?_⟩
            have WB := Mir.beh_work W (p := p) (q := q) (by omega) hlt hf
            refine ⟨_, rfl, wb, n, _, rfl, SqT.of hb, WB, by omega, fun H5 s5 => ⟨_, rfl, iteF ?_⟩⟩
            exact ⟨wb, _, _, _, _, rfl, (s3.trans s4).trans s5, s5 _ _ hb, WB⟩
        · exact ⟨wk, ms, _, v3, v4, rfl, s3, hw, W⟩
      · rintro σ H3 ⟨wk, ms, v2, v3, v4, rfl, s3, hw, W⟩
        exact k H3
end
theorem us0 {R : List Value → Prop} (h : ∀ _ : Unit, R []) (us : List Value) (e : us.length = 0) : R us := (List.length_eq_zero_iff.mp e) ▸ h ()
theorem us1 {R : List Value → Prop} (h : ∀ x0 : Value, R [x0]) (us : List Value) (e : us.length = 1) : R us := by
  obtain ⟨a, r, rfl⟩ := List.exists_cons_of_length_eq_add_one e
  exact us0 (R := fun r => R (a :: r)) (fun _ => h a) r (Nat.succ.inj e)
theorem us2 {R : List Value → Prop} (h : ∀ x0 x1 : Value, R [x0, x1]) (us : List Value) (e : us.length = 2) : R us := by
  obtain ⟨a, r, rfl⟩ := List.exists_cons_of_length_eq_add_one e
  exact us1 (R := fun r => R (a :: r)) (h a) r (Nat.succ.inj e)
theorem us3 {R : List Value → Prop} (h : ∀ x0 x1 x2 : Value, R [x0, x1, x2]) (us : List Value) (e : us.length = 3) : R us := by
  obtain ⟨a, r, rfl⟩ := List.exists_cons_of_length_eq_add_one e
  exact us2 (R := fun r => R (a :: r)) (h a) r (Nat.succ.inj e)
theorem all_mk {l : PySem.W.OpenLaw} {w : World} {K : PySem.W.Frag} {h : Heap} {mg : Str → Option Value} {fa : Addr} (X : K.In h) (G : h.Ns mainGlobals mg) (hfa : mg "law" = some (.ref fa))
    {f0 : Addr} {od0 an0 : Option Addr} {sl0 : Array (Option Value)} {oc0 kV0 dc0 pm0 cd0 ct0 : Value}
    {f1 : Addr} {od1 an1 : Option Addr} {sl1 : Array (Option Value)} {oc1 kV1 dc1 pm1 cd1 ct1 : Value}
    {f2 : Addr} {od2 an2 : Option Addr} {sl2 : Array (Option Value)} {oc2 kV2 dc2 pm2 cd2 ct2 : Value}
    {f3 : Addr} {od3 an3 : Option Addr} {sl3 : Array (Option Value)} {oc3 kV3 dc3 pm3 cd3 ct3 : Value}
    {f4 : Addr} {od4 an4 : Option Addr} {sl4 : Array (Option Value)} {oc4 kV4 dc4 pm4 cd4 ct4 : Value}
    {f5 : Addr} {od5 an5 : Option Addr} {sl5 : Array (Option Value)} {oc5 kV5 dc5 pm5 cd5 ct5 : Value}
    {f6 : Addr} {od6 an6 : Option Addr} {sl6 : Array (Option Value)} {oc6 kV6 dc6 pm6 cd6 ct6 : Value}
    {f7 : Addr} {od7 an7 : Option Addr} {sl7 : Array (Option Value)} {oc7 kV7 dc7 pm7 cd7 ct7 : Value}
    {f8 : Addr} {od8 an8 : Option Addr} {sl8 : Array (Option Value)} {oc8 kV8 dc8 pm8 cd8 ct8 : Value}
    {f9 : Addr} {od9 an9 : Option Addr} {sl9 : Array (Option Value)} {oc9 kV9 dc9 pm9 cd9 ct9 : Value}
    {f10 : Addr} {od10 an10 : Option Addr} {sl10 : Array (Option Value)} {oc10 kV10 dc10 pm10 cd10 ct10 : Value}
    {f11 : Addr} {od11 an11 : Option Addr} {sl11 : Array (Option Value)} {oc11 kV11 dc11 pm11 cd11 ct11 : Value}
    {f12 : Addr} {od12 an12 : Option Addr} {sl12 : Array (Option Value)} {oc12 kV12 dc12 pm12 cd12 ct12 : Value}
    {f13 : Addr} {od13 an13 : Option Addr} {sl13 : Array (Option Value)} {oc13 kV13 dc13 pm13 cd13 ct13 : Value}
    {f14 : Addr} {od14 an14 : Option Addr} {sl14 : Array (Option Value)} {oc14 kV14 dc14 pm14 cd14 ct14 : Value}
    {f15 : Addr} {od15 an15 : Option Addr} {sl15 : Array (Option Value)} {oc15 kV15 dc15 pm15 cd15 ct15 : Value}
    {f16 : Addr} {od16 an16 : Option Addr} {sl16 : Array (Option Value)} {oc16 kV16 dc16 pm16 cd16 ct16 : Value}
    (a0 : PySem.W.nsIn K mainGlobals "fits_work" = some (some (.ref f0))) (l0 : K.lookup f0 = some ⟨oc0, od0, .func (PySem.W.fnOf "fits_work" "fits_work" (defArgs s_fits_work) (defBody s_fits_work) (defScope s_fits_work) .none kV0 dc0 pm0 an0 cd0 ct0), sl0⟩) (c0 : PySem.W.codeIn K cd0 "fits_work" = true) (k0 : PySem.W.keepIn K (.ref f0) = true)
    (a1 : PySem.W.nsIn K mainGlobals "refuse_misfit" = some (some (.ref f1))) (l1 : K.lookup f1 = some ⟨oc1, od1, .func (PySem.W.fnOf "refuse_misfit" "refuse_misfit" (defArgs s_refuse_misfit) (defBody s_refuse_misfit) (defScope s_refuse_misfit) .none kV1 dc1 pm1 an1 cd1 ct1), sl1⟩) (c1 : PySem.W.codeIn K cd1 "refuse_misfit" = true) (k1 : PySem.W.keepIn K (.ref f1) = true)
    (a2 : PySem.W.nsIn K mainGlobals "freed_ends" = some (some (.ref f2))) (l2 : K.lookup f2 = some ⟨oc2, od2, .func (PySem.W.fnOf "freed_ends" "freed_ends" (defArgs s_freed_ends) (defBody s_freed_ends) (defScope s_freed_ends) .none kV2 dc2 pm2 an2 cd2 ct2), sl2⟩) (c2 : PySem.W.codeIn K cd2 "freed_ends" = true) (k2 : PySem.W.keepIn K (.ref f2) = true)
    (a3 : PySem.W.nsIn K mainGlobals "told_deed" = some (some (.ref f3))) (l3 : K.lookup f3 = some ⟨oc3, od3, .func (PySem.W.fnOf "told_deed" "told_deed" (defArgs s_told_deed) (defBody s_told_deed) (defScope s_told_deed) .none kV3 dc3 pm3 an3 cd3 ct3), sl3⟩) (c3 : PySem.W.codeIn K cd3 "told_deed" = true) (k3 : PySem.W.keepIn K (.ref f3) = true)
    (a4 : PySem.W.nsIn K mainGlobals "least_pair" = some (some (.ref f4))) (l4 : K.lookup f4 = some ⟨oc4, od4, .func (PySem.W.fnOf "least_pair" "least_pair" (defArgs s_least_pair) (defBody s_least_pair) (defScope s_least_pair) .none kV4 dc4 pm4 an4 cd4 ct4), sl4⟩) (c4 : PySem.W.codeIn K cd4 "least_pair" = true) (k4 : PySem.W.keepIn K (.ref f4) = true)
    (a5 : PySem.W.nsIn K mainGlobals "all_deeds" = some (some (.ref f5))) (l5 : K.lookup f5 = some ⟨oc5, od5, .func (PySem.W.fnOf "all_deeds" "all_deeds" (defArgs s_all_deeds) (defBody s_all_deeds) (defScope s_all_deeds) .none kV5 dc5 pm5 an5 cd5 ct5), sl5⟩) (c5 : PySem.W.codeIn K cd5 "all_deeds" = true) (k5 : PySem.W.keepIn K (.ref f5) = true)
    (a6 : PySem.W.nsIn K mainGlobals "_law_cell" = some (some (.ref f6))) (l6 : K.lookup f6 = some ⟨oc6, od6, .func (PySem.W.fnOf "_law_cell" "_law_cell" (defArgs s_law_cell) (defBody s_law_cell) (defScope s_law_cell) .none kV6 dc6 pm6 an6 cd6 ct6), sl6⟩) (c6 : PySem.W.codeIn K cd6 "_law_cell" = true) (k6 : PySem.W.keepIn K (.ref f6) = true)
    (a7 : PySem.W.nsIn K mainGlobals "_law_number" = some (some (.ref f7))) (l7 : K.lookup f7 = some ⟨oc7, od7, .func (PySem.W.fnOf "_law_number" "_law_number" (defArgs s_law_number) (defBody s_law_number) (defScope s_law_number) .none kV7 dc7 pm7 an7 cd7 ct7), sl7⟩) (c7 : PySem.W.codeIn K cd7 "_law_number" = true) (k7 : PySem.W.keepIn K (.ref f7) = true)
    (a8 : PySem.W.nsIn K mainGlobals "_law_work" = some (some (.ref f8))) (l8 : K.lookup f8 = some ⟨oc8, od8, .func (PySem.W.fnOf "_law_work" "_law_work" (defArgs s_law_work) (defBody s_law_work) (defScope s_law_work) .none kV8 dc8 pm8 an8 cd8 ct8), sl8⟩) (c8 : PySem.W.codeIn K cd8 "_law_work" = true) (k8 : PySem.W.keepIn K (.ref f8) = true)
    (a9 : PySem.W.nsIn K mainGlobals "_law_whole" = some (some (.ref f9))) (l9 : K.lookup f9 = some ⟨oc9, od9, .func (PySem.W.fnOf "_law_whole" "_law_whole" (defArgs s_law_whole) (defBody s_law_whole) (defScope s_law_whole) .none kV9 dc9 pm9 an9 cd9 ct9), sl9⟩) (c9 : PySem.W.codeIn K cd9 "_law_whole" = true) (k9 : PySem.W.keepIn K (.ref f9) = true)
    (a10 : PySem.W.nsIn K mainGlobals "_law_work_is" = some (some (.ref f10))) (l10 : K.lookup f10 = some ⟨oc10, od10, .func (PySem.W.fnOf "_law_work_is" "_law_work_is" (defArgs s_law_work_is) (defBody s_law_work_is) (defScope s_law_work_is) .none kV10 dc10 pm10 an10 cd10 ct10), sl10⟩) (c10 : PySem.W.codeIn K cd10 "_law_work_is" = true) (k10 : PySem.W.keepIn K (.ref f10) = true)
    (a11 : PySem.W.nsIn K mainGlobals "_law_fits" = some (some (.ref f11))) (l11 : K.lookup f11 = some ⟨oc11, od11, .func (PySem.W.fnOf "_law_fits" "_law_fits" (defArgs s_law_fits) (defBody s_law_fits) (defScope s_law_fits) .none kV11 dc11 pm11 an11 cd11 ct11), sl11⟩) (c11 : PySem.W.codeIn K cd11 "_law_fits" = true) (k11 : PySem.W.keepIn K (.ref f11) = true)
    (a12 : PySem.W.nsIn K mainGlobals "_law_behind" = some (some (.ref f12))) (l12 : K.lookup f12 = some ⟨oc12, od12, .func (PySem.W.fnOf "_law_behind" "_law_behind" (defArgs s_law_behind) (defBody s_law_behind) (defScope s_law_behind) .none kV12 dc12 pm12 an12 cd12 ct12), sl12⟩) (c12 : PySem.W.codeIn K cd12 "_law_behind" = true) (k12 : PySem.W.keepIn K (.ref f12) = true)
    (a13 : PySem.W.nsIn K mainGlobals "_law_pairs_tried" = some (some (.ref f13))) (l13 : K.lookup f13 = some ⟨oc13, od13, .func (PySem.W.fnOf "_law_pairs_tried" "_law_pairs_tried" (defArgs s_law_pairs_tried) (defBody s_law_pairs_tried) (defScope s_law_pairs_tried) .none kV13 dc13 pm13 an13 cd13 ct13), sl13⟩) (c13 : PySem.W.codeIn K cd13 "_law_pairs_tried" = true) (k13 : PySem.W.keepIn K (.ref f13) = true)
    (a14 : PySem.W.nsIn K mainGlobals "_law_refused" = some (some (.ref f14))) (l14 : K.lookup f14 = some ⟨oc14, od14, .func (PySem.W.fnOf "_law_refused" "_law_refused" (defArgs s_law_refused) (defBody s_law_refused) (defScope s_law_refused) .none kV14 dc14 pm14 an14 cd14 ct14), sl14⟩) (c14 : PySem.W.codeIn K cd14 "_law_refused" = true) (k14 : PySem.W.keepIn K (.ref f14) = true)
    (a15 : PySem.W.nsIn K mainGlobals "_law_looked" = some (some (.ref f15))) (l15 : K.lookup f15 = some ⟨oc15, od15, .func (PySem.W.fnOf "_law_looked" "_law_looked" (defArgs s_law_looked) (defBody s_law_looked) (defScope s_law_looked) .none kV15 dc15 pm15 an15 cd15 ct15), sl15⟩) (c15 : PySem.W.codeIn K cd15 "_law_looked" = true) (k15 : PySem.W.keepIn K (.ref f15) = true)
    (a16 : PySem.W.nsIn K mainGlobals "law" = some (some (.ref f16))) (l16 : K.lookup f16 = some ⟨oc16, od16, .func (PySem.W.fnOf "law" "law" (defArgs s_law) (defBody s_law) (defScope s_law) .none kV16 dc16 pm16 an16 cd16 ct16), sl16⟩) (c16 : PySem.W.codeIn K cd16 "law" = true) (k16 : PySem.W.keepIn K (.ref f16) = true)
    (z0 : PySem.W.nsIn K mainGlobals "bool" = some none)
    (z1 : PySem.W.nsIn K mainGlobals "int" = some none)
    (z2 : PySem.W.nsIn K mainGlobals "isinstance" = some none)
    (z3 : PySem.W.nsIn K mainGlobals "len" = some none)
    (z4 : PySem.W.nsIn K mainGlobals "list" = some none)
    (z5 : PySem.W.nsIn K mainGlobals "max" = some none)
    (z6 : PySem.W.nsIn K mainGlobals "min" = some none)
    (z7 : PySem.W.nsIn K mainGlobals "range" = some none)
    (z8 : PySem.W.nsIn K mainGlobals "sorted" = some none)
    (z9 : PySem.W.nsIn K mainGlobals "tuple" = some none)
    {C_BadDeed : Addr}
    (g_BadDeed : PySem.W.nsIn K mainGlobals "BadDeed" = some (some (.ref C_BadDeed)))
    (x_BadDeed : PySem.W.excIn K C_BadDeed [.type "ValueError", .type "Exception", .type "BaseException", .type "object"] "ValueError.__new__" = true)
    (p_pu : PySem.W.exmOne K (.ref C_BadDeed) (.ref C_BadDeed) = some true)
    : ∃ fd : FuncData, (∀ (s : Shared) (v : Value), BindsTo s fd ⟨[v], []⟩ [("script", v)]) ∧ ∀ base : Heap, K.In base → base.Ns mainGlobals mg → FnOk l.prog w K mg base CX0 6 fa fd ["script"] (spLaw K) := by
  have e := hfa.symm.trans (PySem.W.mg_of X G a16)
  cases e
  have B : Bl mg := ⟨PySem.W.mg_none_of X G z0, PySem.W.mg_none_of X G z1, PySem.W.mg_none_of X G z2, PySem.W.mg_none_of X G z3, PySem.W.mg_none_of X G z4, PySem.W.mg_none_of X G z5, PySem.W.mg_none_of X G z6, PySem.W.mg_none_of X G z7, PySem.W.mg_none_of X G z8, PySem.W.mg_none_of X G z9⟩
  have F0 : Fn K mg "fits_work" s_fits_work ["work", "deed"] _ _ := Fn.mk' (fun_mk (st := s_fits_work) l0 c0 k0) (fun _ _ _ _ _ _ us hl => us2 (R := fun us => bindArgs _ ⟨us, []⟩ = pure (List.zip _ us)) (fun _ _ => rfl) us hl) (PySem.W.mg_of X G a0)
  have F1 : Fn K mg "refuse_misfit" s_refuse_misfit ["work", "deed"] _ _ := Fn.mk' (fun_mk (st := s_refuse_misfit) l1 c1 k1) (fun _ _ _ _ _ _ us hl => us2 (R := fun us => bindArgs _ ⟨us, []⟩ = pure (List.zip _ us)) (fun _ _ => rfl) us hl) (PySem.W.mg_of X G a1)
  have F2 : Fn K mg "freed_ends" s_freed_ends ["work", "deed"] _ _ := Fn.mk' (fun_mk (st := s_freed_ends) l2 c2 k2) (fun _ _ _ _ _ _ us hl => us2 (R := fun us => bindArgs _ ⟨us, []⟩ = pure (List.zip _ us)) (fun _ _ => rfl) us hl) (PySem.W.mg_of X G a2)
  have F3 : Fn K mg "told_deed" s_told_deed ["work", "deed"] _ _ := Fn.mk' (fun_mk (st := s_told_deed) l3 c3 k3) (fun _ _ _ _ _ _ us hl => us2 (R := fun us => bindArgs _ ⟨us, []⟩ = pure (List.zip _ us)) (fun _ _ => rfl) us hl) (PySem.W.mg_of X G a3)
  have F4 : Fn K mg "least_pair" s_least_pair ["work", "deed"] _ _ := Fn.mk' (fun_mk (st := s_least_pair) l4 c4 k4) (fun _ _ _ _ _ _ us hl => us2 (R := fun us => bindArgs _ ⟨us, []⟩ = pure (List.zip _ us)) (fun _ _ => rfl) us hl) (PySem.W.mg_of X G a4)
  have F5 : Fn K mg "all_deeds" s_all_deeds ["work"] _ _ := Fn.mk' (fun_mk (st := s_all_deeds) l5 c5 k5) (fun _ _ _ _ _ _ us hl => us1 (R := fun us => bindArgs _ ⟨us, []⟩ = pure (List.zip _ us)) (fun _ => rfl) us hl) (PySem.W.mg_of X G a5)
  have F6 : Fn K mg "_law_cell" s_law_cell ["script", "k"] _ _ := Fn.mk' (fun_mk (st := s_law_cell) l6 c6 k6) (fun _ _ _ _ _ _ us hl => us2 (R := fun us => bindArgs _ ⟨us, []⟩ = pure (List.zip _ us)) (fun _ _ => rfl) us hl) (PySem.W.mg_of X G a6)
  have F7 : Fn K mg "_law_number" s_law_number ["script", "k"] _ _ := Fn.mk' (fun_mk (st := s_law_number) l7 c7 k7) (fun _ _ _ _ _ _ us hl => us2 (R := fun us => bindArgs _ ⟨us, []⟩ = pure (List.zip _ us)) (fun _ _ => rfl) us hl) (PySem.W.mg_of X G a7)
  have F8 : Fn K mg "_law_work" s_law_work ["script", "at", "staves"] _ _ := Fn.mk' (fun_mk (st := s_law_work) l8 c8 k8) (fun _ _ _ _ _ _ us hl => us3 (R := fun us => bindArgs _ ⟨us, []⟩ = pure (List.zip _ us)) (fun _ _ _ => rfl) us hl) (PySem.W.mg_of X G a8)
  have F9 : Fn K mg "_law_whole" s_law_whole ["found"] _ _ := Fn.mk' (fun_mk (st := s_law_whole) l9 c9 k9) (fun _ _ _ _ _ _ us hl => us1 (R := fun us => bindArgs _ ⟨us, []⟩ = pure (List.zip _ us)) (fun _ => rfl) us hl) (PySem.W.mg_of X G a9)
  have F10 : Fn K mg "_law_work_is" s_law_work_is ["found", "due"] _ _ := Fn.mk' (fun_mk (st := s_law_work_is) l10 c10 k10) (fun _ _ _ _ _ _ us hl => us2 (R := fun us => bindArgs _ ⟨us, []⟩ = pure (List.zip _ us)) (fun _ _ => rfl) us hl) (PySem.W.mg_of X G a10)
  have F11 : Fn K mg "_law_fits" s_law_fits ["work", "one", "two"] _ _ := Fn.mk' (fun_mk (st := s_law_fits) l11 c11 k11) (fun _ _ _ _ _ _ us hl => us3 (R := fun us => bindArgs _ ⟨us, []⟩ = pure (List.zip _ us)) (fun _ _ _ => rfl) us hl) (PySem.W.mg_of X G a11)
  have F12 : Fn K mg "_law_behind" s_law_behind ["work", "one", "two"] _ _ := Fn.mk' (fun_mk (st := s_law_behind) l12 c12 k12) (fun _ _ _ _ _ _ us hl => us3 (R := fun us => bindArgs _ ⟨us, []⟩ = pure (List.zip _ us)) (fun _ _ _ => rfl) us hl) (PySem.W.mg_of X G a12)
  have F13 : Fn K mg "_law_pairs_tried" s_law_pairs_tried ["work"] _ _ := Fn.mk' (fun_mk (st := s_law_pairs_tried) l13 c13 k13) (fun _ _ _ _ _ _ us hl => us1 (R := fun us => bindArgs _ ⟨us, []⟩ = pure (List.zip _ us)) (fun _ => rfl) us hl) (PySem.W.mg_of X G a13)
  have F14 : Fn K mg "_law_refused" s_law_refused ["work", "deed"] _ _ := Fn.mk' (fun_mk (st := s_law_refused) l14 c14 k14) (fun _ _ _ _ _ _ us hl => us2 (R := fun us => bindArgs _ ⟨us, []⟩ = pure (List.zip _ us)) (fun _ _ => rfl) us hl) (PySem.W.mg_of X G a14)
  have F15 : Fn K mg "_law_looked" s_law_looked ["work"] _ _ := Fn.mk' (fun_mk (st := s_law_looked) l15 c15 k15) (fun _ _ _ _ _ _ us hl => us1 (R := fun us => bindArgs _ ⟨us, []⟩ = pure (List.zip _ us)) (fun _ => rfl) us hl) (PySem.W.mg_of X G a15)
  have F16 : Fn K mg "law" s_law ["script"] _ _ := Fn.mk' (fun_mk (st := s_law) l16 c16 k16) (fun _ _ _ _ _ _ us hl => us1 (R := fun us => bindArgs _ ⟨us, []⟩ = pure (List.zip _ us)) (fun _ => rfl) us hl) (PySem.W.mg_of X G a16)
  have Z_BadDeed : ECls K mg "BadDeed" C_BadDeed := ⟨PySem.W.mg_of X G g_BadDeed, ⟨_, _, _, _, x_BadDeed, PySem.F.excBase_ValueError⟩⟩
  exact ⟨_, fun s v => .of_eq rfl, fun base _ _ => ok_law B Z_BadDeed p_pu F0 F1 F2 F3 F4 F5 F6 F7 F8 F9 F10 F11 F12 F13 F14 F15 F16⟩
theorem walk {l : PySem.W.OpenLaw} {q : Program} {loose : List Str} {XP : (Str → Option Value) → Heap → Prop} {YP : World → Heap → Prop} {d : DefRec} {K : Params → PySem.W.Frag} (hn : l.most = some 63) (hdf : d.params.defaults = [])
    (hY : ∀ (w : World) (h : Heap), YP w h → (K w.params).In h)
    (F : ∀ (w : World) (mg : Str → Option Value) (fa : Addr) (h : Heap), (K w.params).In h → h.Ns mainGlobals mg → mg d.name = some (.ref fa) →
      ∃ fd : FuncData, (∀ (s : Shared) (u : Value), BindsTo s fd ⟨[u], []⟩ [("script", u)]) ∧ ∀ base : Heap, (K w.params).In base → base.Ns mainGlobals mg → FnOk l.prog w (K w.params) mg base CX0 6 fa fd ["script"] (spLaw (K w.params))) :
    PySem.W.WalkO q loose XP YP l.row.toRowW d [] (fun f vs => PySem.call f vs) :=
  L2.walk_of (n := 63) (k := 6) (x := "script") (CX := fun _ => CX0) (sp := fun w => spLaw (K w.params)) hn (by decide) hdf ⟨rfl, by decide, by decide, rfl⟩ hY F (fun _ _ a ns hl _ hS => ⟨a, ns, rfl, hS, hl, fun _ => rfl⟩) fun _ _ _ _ _ z => z
end Law
open PySem PySem.W PyProof.Rows
set_option maxRecDepth 100000 in
set_option maxHeartbeats 0 in
theorem PySem.Challenge.cw_claspwork_k12_told_deeds_holds : PySem.Challenge.rw_claspwork_k12_told_deeds.Holds := by
  w_on; o_law; k_head; (case hw => w_witness2)
  k_fill
  refine Law.walk (l := PySem.Challenge.rw_claspwork_k12_told_deeds) rfl rfl (fun w h Y => PySem.W.kIn_of Y) ?F
  case F =>
    intro w mg fa h KX G hmg
    refine' Law.all_mk KX G hmg ?a0 ?l0 ?c0 ?k0 ?a1 ?l1 ?c1 ?k1 ?a2 ?l2 ?c2 ?k2 ?a3 ?l3 ?c3 ?k3 ?a4 ?l4 ?c4 ?k4 ?a5 ?l5 ?c5 ?k5 ?a6 ?l6 ?c6 ?k6 ?a7 ?l7 ?c7 ?k7 ?a8 ?l8 ?c8 ?k8 ?a9 ?l9 ?c9 ?k9 ?a10 ?l10 ?c10 ?k10 ?a11 ?l11 ?c11 ?k11 ?a12 ?l12 ?c12 ?k12 ?a13 ?l13 ?c13 ?k13 ?a14 ?l14 ?c14 ?k14 ?a15 ?l15 ?c15 ?k15 ?a16 ?l16 ?c16 ?k16 ?z0 ?z1 ?z2 ?z3 ?z4 ?z5 ?z6 ?z7 ?z8 ?z9 ?g_BadDeed ?x_BadDeed ?p_pu
    (case a0 => k_is)
    (case l0 => k_is)
    (case c0 => k_is)
    (case k0 => k_is)
    (case a1 => k_is)
    (case l1 => k_is)
    (case c1 => k_is)
    (case k1 => k_is)
    (case a2 => k_is)
    (case l2 => k_is)
    (case c2 => k_is)
    (case k2 => k_is)
    (case a3 => k_is)
    (case l3 => k_is)
    (case c3 => k_is)
    (case k3 => k_is)
    (case a4 => k_is)
    (case l4 => k_is)
    (case c4 => k_is)
    (case k4 => k_is)
    (case a5 => k_is)
    (case l5 => k_is)
    (case c5 => k_is)
    (case k5 => k_is)
    (case a6 => k_is)
    (case l6 => k_is)
    (case c6 => k_is)
    (case k6 => k_is)
    (case a7 => k_is)
    (case l7 => k_is)
    (case c7 => k_is)
    (case k7 => k_is)
    (case a8 => k_is)
    (case l8 => k_is)
    (case c8 => k_is)
    (case k8 => k_is)
    (case a9 => k_is)
    (case l9 => k_is)
    (case c9 => k_is)
    (case k9 => k_is)
    (case a10 => k_is)
    (case l10 => k_is)
    (case c10 => k_is)
    (case k10 => k_is)
    (case a11 => k_is)
    (case l11 => k_is)
    (case c11 => k_is)
    (case k11 => k_is)
    (case a12 => k_is)
    (case l12 => k_is)
    (case c12 => k_is)
    (case k12 => k_is)
    (case a13 => k_is)
    (case l13 => k_is)
    (case c13 => k_is)
    (case k13 => k_is)
    (case a14 => k_is)
    (case l14 => k_is)
    (case c14 => k_is)
    (case k14 => k_is)
    (case a15 => k_is)
    (case l15 => k_is)
    (case c15 => k_is)
    (case k15 => k_is)
    (case a16 => k_is)
    (case l16 => k_is)
    (case c16 => k_is)
    (case k16 => k_is)
    (case z0 => k_is)
    (case z1 => k_is)
    (case z2 => k_is)
    (case z3 => k_is)
    (case z4 => k_is)
    (case z5 => k_is)
    (case z6 => k_is)
    (case z7 => k_is)
    (case z8 => k_is)
    (case z9 => k_is)
    (case g_BadDeed => k_is)
    (case x_BadDeed => kernel_rfl)
    (case p_pu => kernel_rfl)


import PyProof.Rows.All
import Wide.All
import OpenK.AllK
import Wide.FinOn
import Lean
import PyProof.EqAt
import PyProof.EqKinds
import PyProof.TupleCall
import PyProof.SumWalkG
import KE.KTryMore
import PyProof.NeKinds
import PyProof.ExcAttrAll.ValueError
import KE.KRevIter
import PyProof.ReprRoads
import PyProof.ReprLen
import PyProof.TupleOfSeq
import KE.BitLaws
import PyProof.Rows.SortRuns
import PyProof.Rows.SortShell
import PyProof.DictValues
import KE.KSortTup
import KE.KSortKey
import PySem.Challenge.RW_claspwork_k42_whole_rings_by_turns
set_option Elab.async false
set_option linter.all false
set_option maxRecDepth 100000
namespace L2
open PySem PySem.Spec PyProof.Rows

abbrev Key := Sum Int Str
def keyIs : Key → Value → Bool
  | .inl k, v => Value.isInt k v
  | .inr x, v => Value.isStrOf x v
def keyH (w : World) : Key → Int
  | .inl k => hashInt k
  | .inr x => hashStr w x
theorem keyIs_shape : ∀ {k : Key} {v : Value}, keyIs k v = true → (∃ i t, k = Sum.inl i ∧ v = Value.int i t) ∨ (∃ x t, k = Sum.inr x ∧ v = Value.str x t)
  | .inl i, v, h => by
    obtain ⟨t, e⟩ := Value.isInt_shape (k := i) (v := v) h
    exact .inl ⟨i, t, rfl, e⟩
  | .inr x, v, h => by
    obtain ⟨t, e⟩ := Value.isStrOf_shape (x := x) (v := v) h
    exact .inr ⟨x, t, rfl, e⟩
theorem keyIs_int (i : Int) (t : Tok) : keyIs (.inl i) (.int i t) = true := by simp [keyIs, Value.isInt]
theorem keyIs_str (x : Str) (t : Tok) : keyIs (.inr x) (.str x t) = true := by simp [keyIs, Value.isStrOf]
theorem key_ll (a b : Int) : decide ((Sum.inl a : Key) = Sum.inl b) = (a == b) := by
  by_cases e : a = b
  · subst e; simp
  · have h : ¬ (Sum.inl a : Key) = Sum.inl b := fun q => e (Sum.inl.inj q)
    rw [decide_eq_false h]
    exact (beq_eq_false_iff_ne.mpr e).symm
theorem key_rr (a b : Str) : decide ((Sum.inr a : Key) = Sum.inr b) = decide (a = b) := by
  by_cases e : a = b
  · subst e; simp
  · have h : ¬ (Sum.inr a : Key) = Sum.inr b := fun q => e (Sum.inr.inj q)
    rw [decide_eq_false h, decide_eq_false e]
theorem key_lr (a : Int) (b : Str) : decide ((Sum.inl a : Key) = Sum.inr b) = false := decide_eq_false (fun q => nomatch q)
theorem key_rl (a : Str) (b : Int) : decide ((Sum.inr a : Key) = Sum.inl b) = false := decide_eq_false (fun q => nomatch q)

def mixKind (prog : Program) (w : World) : PySem.KeyKind prog w Key where
  is := keyIs
  hash := keyH w
  inj := fun v a b ha hb => by
    rcases keyIs_shape ha with ⟨i, t, rfl, rfl⟩ | ⟨x, t, rfl, rfl⟩
    · rcases keyIs_shape hb with ⟨j, u, rfl, e⟩ | ⟨y, u, rfl, e⟩
      · injection e with e1 _; rw [e1]
      · exact nomatch e
    · rcases keyIs_shape hb with ⟨j, u, rfl, e⟩ | ⟨y, u, rfl, e⟩
      · exact nomatch e
      · injection e with e1 _; rw [e1]
  byValue := fun k v h => by
    rcases keyIs_shape h with ⟨i, t, rfl, rfl⟩ | ⟨x, t, rfl, rfl⟩ <;> rfl
  pyHash := fun hv h => by
    rcases keyIs_shape hv with ⟨i, t, rfl, rfl⟩ | ⟨x, t, rfl, rfl⟩
    · exact wpAny_pyHash_int h
    · exact wpAny_pyHash_str h
  eqBool := fun hu hv h => by
    rcases keyIs_shape hu with ⟨i, t, rfl, rfl⟩ | ⟨x, t, rfl, rfl⟩
    · rcases keyIs_shape hv with ⟨j, u, rfl, rfl⟩ | ⟨y, u, rfl, rfl⟩
      · rw [key_ll] at h; exact wpAny_eqBool_int h
      · rw [key_lr] at h; exact SeqAt.EqAt.int_str i t y u _ _ _ _ h
    · rcases keyIs_shape hv with ⟨j, u, rfl, rfl⟩ | ⟨y, u, rfl, rfl⟩
      · rw [key_rl] at h; exact SeqAt.EqAt.str_int x t j u _ _ _ _ h
      · rw [key_rr] at h; exact wpAny_eqBool_str h
  «strs» := fun k x t v h => by
    rcases keyIs_shape h with ⟨i, u, rfl, e⟩ | ⟨y, u, rfl, e⟩
    · exact nomatch e
    · injection e with e1 _
      subst e1
      cases v <;> rfl

theorem mixKind_int (prog : Program) (w : World) (i : Int) (t : Tok) : (mixKind prog w).is (.inl i) (.int i t) = true := keyIs_int i t
theorem mixKind_str (prog : Program) (w : World) (x : Str) (t : Tok) : (mixKind prog w).is (.inr x) (.str x t) = true := keyIs_str x t
end L2

namespace L2
open PySem PySem.Spec PyProof.Rows

inductive V where
  | non | bl (b : Bool) | int (i : Int) | str (x : Str) | byt (b : Array UInt8) | flt (b : UInt64) | ref (a : Addr) | ty (n : String)
  deriving DecidableEq

def RelV : V → Value → Prop
  | .non, u => u = Value.none
  | .bl b, u => u = Value.bool b
  | .int i, u => ∃ t, u = Value.int i t
  | .str x, u => ∃ t, u = Value.str x t
  | .byt b, u => ∃ t, u = Value.bytes b t
  | .flt b, u => ∃ t, u = Value.float b t
  | .ref a, u => u = Value.ref a
  | .ty n, u => u = Value.type n

abbrev Vals : List V → List Value → Prop := Paired RelV
theorem Vals.length {xs : List V} {us : List Value} (r : Vals xs us) : xs.length = us.length := Paired.length r
theorem Vals.get : ∀ {xs : List V} {us : List Value} {i : Nat} {x : V}, Vals xs us → xs[i]? = some x → ∃ u, us[i]? = some u ∧ RelV x u
  | _, _, _, _, .nil, e => by simp at e
  | _, _, 0, _, .cons r _, e => by simp at e; subst e; exact ⟨_, rfl, r⟩
  | _, _, i + 1, x, .cons _ t, e => by
    obtain ⟨u, h1, h2⟩ := Vals.get (i := i) (x := x) t (by simpa using e)
    exact ⟨u, by simpa using h1, h2⟩
theorem Vals.append : ∀ {xs ys : List V} {us ws : List Value}, Vals xs us → Vals ys ws → Vals (xs ++ ys) (us ++ ws)
  | _, _, _, _, .nil, s => s
  | _, _, _, _, .cons r t, s => .cons r (Vals.append t s)
theorem Vals.take : ∀ {xs : List V} {us : List Value} (n : Nat), Vals xs us → Vals (xs.take n) (us.take n)
  | _, _, 0, _ => .nil
  | _, _, _ + 1, .nil => .nil
  | _, _, n + 1, .cons r t => .cons r (Vals.take n t)
theorem Vals.drop : ∀ {xs : List V} {us : List Value} (n : Nat), Vals xs us → Vals (xs.drop n) (us.drop n)
  | _, _, 0, r => r
  | _, _, _ + 1, .nil => .nil
  | _, _, n + 1, .cons _ t => Vals.drop n t
def RelO : Option V → Option Value → Prop
  | some v, some u => RelV v u
  | none, none => True
  | _, _ => False
def KV {κ : Type} : List (κ × V) → List (κ × Value) → Prop := Paired fun (p : κ × V) (q : κ × Value) => p.1 = q.1 ∧ RelV p.2 q.2

def kV : Key → V
  | .inl i => .int i
  | .inr x => .str x

inductive HO where
  | lst (xs : List V)
  | tup (xs : List V)
  | dK (kvs : List (Key × V)) | dT (kvs : List (List Key × V))
  | set (S : Int → Bool) (n : Nat)
  | ins (C dx : Addr) (fs : List (Str × V))
  | own (x : Addr)
  | xd (fs : List (Str × V))
  | met (f x : Addr)
  | rng (lo hi : Int)
  | frz (o : Obj) (u : HO)
  | tbl (ps : Array Value)
  | ext (φ : Heap → Prop)

abbrev Hp := Addr → Option HO
def upd (H : Hp) (a : Addr) (o : HO) : Hp := fun b => if b = a then some o else H b
theorem upd_same {H : Hp} {a : Addr} {o : HO} : upd H a o a = some o := by unfold upd; rw [if_pos rfl]
theorem upd_ne {H : Hp} {a b : Addr} {o : HO} (h : b ≠ a) : upd H a o b = H b := by unfold upd; rw [if_neg h]
theorem ne_of {H : Hp} {a b : Addr} {o u : HO} (h : H a = some o) (h' : H b = some u) (d : o ≠ u) : a ≠ b := by
  intro e; subst e; rw [h] at h'; exact d (Option.some.inj h')
theorem ne_of_none {H : Hp} {a b : Addr} {o : HO} (h : H a = some o) (h' : H b = none) : a ≠ b := by
  intro e; subst e; rw [h] at h'; cases h'

section
variable (P : Program) (w : World)
def ObjOk (H : Hp) (h : Heap) (a : Addr) : HO → Prop
  | .lst xs => xs.length ≤ sizeLine ∧ ∃ (its : List Value) (n : Nat), Vals xs its ∧ h.get? a = some { cls := .type "list", data := .seq its.toArray n }
  | .tup xs => xs.length ≤ sizeLine ∧ ∃ its : List Value, Vals xs its ∧ IsTup h a its.toArray
  | .dK kvs => kvs.length ≤ sizeLine ∧ (a == sysModules) = false ∧ ∃ vs, KV kvs vs ∧ h.DictOf (mixKind P w) a vs
  | .dT kvs => kvs.length ≤ sizeLine ∧ (a == sysModules) = false ∧ ∃ xs : List (List Key × Addr × Value),
      Paired (fun (p : List Key × V) (q : List Key × Addr × Value) => p.1 = q.1 ∧ H q.2.1 = some (.tup (p.1.map kV)) ∧ RelV p.2 q.2.2) kvs xs ∧
      ∃ o es ep, h.get? a = some o ∧ o.ExactDict ∧ o.data = .dict es ep ∧ es.toList = xs.map (entryOfKey (tupleKind (mixKind P w))) ∧ (xs.map (·.1)).Nodup
  | .set S n => h.SetOf (intKind P w) a S n
  | .ins C dx fs => H dx = some (.own a) ∧ fs.length ≤ 1000 ∧ dx ≠ a ∧ h.get? a = some (PySem.W.instObj C dx) ∧
      ∃ mA, h.Ns1 dx mA ∧ (∀ f, RelO (fs.lookup f) (mA f)) ∧ PySem.Within mA (fs.map (·.1))
  | .own _ => ∃ o, h.get? a = some o
  | .xd fs => ∃ mA, h.Ns1 a mA ∧ ∀ f, RelO (fs.lookup f) (mA f)
  | .rng lo hi => ∃ t u v, h.get? a = some { cls := .type "range", data := .fields #[.int lo t, .int hi u, .int 1 v] }
  | .frz o u => h.get? a = some o ∧ ObjOk H h a u
  | .tbl ps => h.get? a = some { cls := .none, data := .fields ps }
  | .met f x => h.get? a = some (PySem.W.methodObj (.ref f) (.ref x))
  | .ext φ => φ h ∧ (∃ o, h.get? a = some o) ∧ ∀ h1 h2 : Heap, φ h1 → (∀ o, h1.get? a = some o → h2.get? a = some o) → φ h2
def HOk (H : Hp) (h : Heap) : Prop := ∀ a o, H a = some o → ObjOk P w H h a o
end

section
variable {P : Program} {w : World} {H H' : Hp} {h h' : Heap} {a : Addr} {o : HO}
theorem ObjOk.lt (x : ObjOk P w H h a o) : a < h.objs.size := by
  cases o with
  | lst xs => obtain ⟨_, _, _, _, e⟩ := x; exact Heap.lt_size e
  | tup xs => obtain ⟨_, _, _, p⟩ := x; exact p.lt
  | dK kvs => obtain ⟨_, _, _, _, o, _, _, e, _⟩ := x; exact Heap.lt_size e
  | dT kvs => obtain ⟨_, _, _, _, o, _, _, e, _⟩ := x; exact Heap.lt_size e
  | set S n => obtain ⟨o, _, _, _, e, _⟩ := x; exact Heap.lt_size e
  | ins C dx fs => obtain ⟨_, _, _, e, _⟩ := x; exact Heap.lt_size e
  | own y => obtain ⟨_, e⟩ := x; exact Heap.lt_size e
  | xd fs => obtain ⟨_, ⟨_, _, _, e, _⟩, _⟩ := x; exact Heap.lt_size e
  | rng lo hi => obtain ⟨_, _, _, e⟩ := x; exact Heap.lt_size e
  | frz ob u => obtain ⟨e, _⟩ := x; exact Heap.lt_size e
  | tbl ps => exact Heap.lt_size (show h.get? a = some _ from x)
  | met f y => exact Heap.lt_size (show h.get? a = some _ from x)
  | ext φ => obtain ⟨_, ⟨_, e⟩, _⟩ := x; exact Heap.lt_size e
theorem Paired.mapP {α β : Type} {F G : α → β → Prop} : ∀ {l₁ : List α} {l₂ : List β}, Paired F l₁ l₂ → (∀ a b, F a b → G a b) → Paired G l₁ l₂
  | _, _, .nil, _ => .nil
  | _, _, .cons r t, f => .cons (f _ _ r) (Paired.mapP t f)
theorem ObjOk.stay (x : ObjOk P w H h a o) (k : ∀ b u, (b = a ∨ H b = some (.own a)) → h.get? b = some u → h'.get? b = some u)
    (ho : ∀ b, H b = some (.own a) → H' b = some (.own a)) (ht : ∀ b xs, H b = some (.tup xs) → H' b = some (.tup xs)) : ObjOk P w H' h' a o := by
  induction o with
  | lst xs => obtain ⟨z, its, n, r, e⟩ := x; exact ⟨z, its, n, r, k _ _ (.inl rfl) e⟩
  | tup xs => obtain ⟨z, its, r, ob, e, c⟩ := x; exact ⟨z, its, r, ob, k _ _ (.inl rfl) e, c⟩
  | dK kvs => obtain ⟨z, y, vs, r, ob, es, ep, e, c⟩ := x; exact ⟨z, y, vs, r, ob, es, ep, k _ _ (.inl rfl) e, c⟩
  | dT kvs =>
    obtain ⟨z, y, xs, r, ob, es, ep, e, c⟩ := x
    exact ⟨z, y, xs, Paired.mapP r fun p q z => ⟨z.1, ht _ _ z.2.1, z.2.2⟩, ob, es, ep, k _ _ (.inl rfl) e, c⟩
  | set S n => obtain ⟨ob, es, ep, t, e, c⟩ := x; exact ⟨ob, es, ep, t, k _ _ (.inl rfl) e, c⟩
  | ins C dx fs =>
    obtain ⟨d, z, ne, e, mA, ⟨od, es, ep, e2, c⟩, r⟩ := x
    exact ⟨ho _ d, z, ne, k _ _ (.inl rfl) e, mA, ⟨od, es, ep, k _ _ (.inr d) e2, c⟩, r⟩
  | own y => obtain ⟨ob, e⟩ := x; exact ⟨ob, k _ _ (.inl rfl) e⟩
  | xd fs => obtain ⟨mA, ⟨od, es, ep, e, c⟩, r⟩ := x; exact ⟨mA, ⟨od, es, ep, k _ _ (.inl rfl) e, c⟩, r⟩
  | rng lo hi => obtain ⟨t, u, v, e⟩ := x; exact ⟨t, u, v, k _ _ (.inl rfl) e⟩
  | frz ob u ih => obtain ⟨e, q⟩ := x; exact ⟨k _ _ (.inl rfl) e, ih q⟩
  | tbl ps =>
    have e : h.get? a = some { cls := .none, data := .fields ps } := x
    show h'.get? a = some { cls := .none, data := .fields ps }
    exact k a _ (.inl rfl) e
  | met f y =>
    have e : h.get? a = some (PySem.W.methodObj (.ref f) (.ref y)) := x
    show h'.get? a = some (PySem.W.methodObj (.ref f) (.ref y))
    exact k a _ (.inl rfl) e
  | ext φ => obtain ⟨p, ⟨o, e⟩, st⟩ := x; exact ⟨st _ _ p fun o q => k _ _ (.inl rfl) q, ⟨o, k _ _ (.inl rfl) e⟩, st⟩
theorem HOk.lt (x : HOk P w H h) (e : H a = some o) : a < h.objs.size := (x a o e).lt
theorem HOk.fresh (x : HOk P w H h) (e : h.objs.size ≤ a) : H a = none := by
  cases q : H a with
  | none => rfl
  | some u => exact absurd (Nat.lt_of_lt_of_le (x.lt q) e) (Nat.lt_irrefl _)
theorem HOk.kept (x : HOk P w H h) (k : ∀ b u, h.get? b = some u → h'.get? b = some u) : HOk P w H h' := fun a o e =>
  (x a o e).stay (fun b u _ q => k b u q) (fun _ q => q) fun _ _ q => q
theorem HOk.laid (x : HOk P w H h) (k : ∀ b u, h.get? b = some u → h'.get? b = some u) (hp : h.objs.size ≤ a) (new : ObjOk P w (upd H a o) h' a o) : HOk P w (upd H a o) h' := fun b u e => by
  have hn := x.fresh hp
  by_cases hb : b = a
  · subst hb; rw [upd_same] at e; cases e; exact new
  · rw [upd_ne hb] at e
    exact (x b u e).stay (fun c v _ q => k c v q) (fun c q => by rw [upd_ne (ne_of_none q hn)]; exact q) fun c xs q => by rw [upd_ne (ne_of_none q hn)]; exact q
end

def Rd (H : Hp) (a : Addr) (u : HO) : Prop := H a = some u ∨ ∃ o, H a = some (.frz o u)
theorem Rd.ok {P : Program} {w : World} {H : Hp} {h : Heap} {a : Addr} {u : HO} (r : Rd H a u) (x : HOk P w H h) : ObjOk P w H h a u := by
  rcases r with r | ⟨o, r⟩
  · exact x a u r
  · obtain ⟨_, q⟩ := x a _ r
    exact q
def Mut : Option HO → Prop
  | some (.lst _) => True
  | some (.dK _) => True
  | some (.dT _) => True
  | some (.set _ _) => True
  | some (.ins _ _ _) => True
  | some (.ext _) => True
  | _ => False
section
variable {P : Program} {w : World} {H : Hp} {h h' : Heap} {x e : Addr} {o' : HO}
theorem HOk.write (ok : HOk P w H h) (mu : Mut (H x)) (he : e = x ∨ H e = some (.own x)) (k : ∀ b u, b ≠ e → h.get? b = some u → h'.get? b = some u) (heo : ∃ u, h'.get? e = some u)
    (new : ObjOk P w (upd H x o') h' x o') : HOk P w (upd H x o') h' := fun b u q => by
  have nown : ∀ c y, H c = some (.own y) → c ≠ x := fun c y r z => by subst z; rw [r] at mu; exact mu
  have ntup : ∀ c xs, H c = some (.tup xs) → c ≠ x := fun c xs r z => by subst z; rw [r] at mu; exact mu
  by_cases hb : b = x
  · subst hb; rw [upd_same] at q; cases q; exact new
  · rw [upd_ne hb] at q
    by_cases hbe : b = e
    · have q' : H b = some (.own x) := by
        rcases he with z | z
        · exact absurd (hbe.trans z) hb
        · rw [hbe]; exact z
      rw [q] at q'; cases q'
      obtain ⟨v, hv⟩ := heo
      exact ⟨v, by rw [hbe]; exact hv⟩
    · refine (ok b u q).stay (fun c v hc r => k c v ?_ r) (fun c r => by rw [upd_ne (nown c b r)]; exact r) fun c xs r => by rw [upd_ne (ntup c xs r)]; exact r
      rcases hc with rfl | hc
      · exact hbe
      · rintro rfl
        rcases he with z | z
        · exact nown c b hc z
        · rw [hc] at z; cases z; exact hb rfl
end

structure Un (fs ex : List Addr) (H H' : Hp) (h h' : Heap) : Prop where
  keep : ∀ b o, h.get? b = some o → H b = none → b ∉ fs → b ∉ ex → h'.get? b = some o
  slot : ∀ b o, h.get? b = some o → H b = none → b ∈ fs → b ∉ ex → ∃ sl, h'.get? b = some { o with slots := sl }
  free : ∀ b o, h.get? b = some o → H b = none → b ∉ ex → H' b = none
  there : ∀ b o, h.get? b = some o → b ∉ ex → ∃ o', h'.get? b = some o'
  tups : ∀ b xs, H b = some (.tup xs) → H' b = some (.tup xs)
  frzs : ∀ b o u, H b = some (.frz o u) → H' b = some (.frz o u)
  tbls : ∀ b ps, H b = some (.tbl ps) → ∃ more, H' b = some (.tbl (ps ++ more))
section
variable {fs fs' ex ex' : List Addr} {H H1 H2 : Hp} {h h1 h2 h' : Heap} {a x e : Addr} {o : HO}
theorem Un.any (u : Un fs ex H H1 h h1) {b : Addr} {ob : Obj} (q : h.get? b = some ob) (n : H b = none) (hx : b ∉ ex) : ∃ sl, h1.get? b = some { ob with slots := sl } := by
  by_cases hb : b ∈ fs
  · exact u.slot b ob q n hb hx
  · exact ⟨ob.slots, u.keep b ob q n hb hx⟩
theorem Un.trans (a : Un fs ex H H1 h h1) (b : Un fs ex H1 H2 h1 h2) : Un fs ex H H2 h h2 where
  keep := fun c ob q n hc hx => b.keep c ob (a.keep c ob q n hc hx) (a.free c ob q n hx) hc hx
  slot := fun c ob q n hc hx => by
    obtain ⟨sl, e1⟩ := a.slot c ob q n hc hx
    obtain ⟨sl', e2⟩ := b.slot c _ e1 (a.free c ob q n hx) hc hx
    exact ⟨sl', e2⟩
  free := fun c ob q n hx => by
    obtain ⟨o', e1⟩ := a.there c ob q hx
    exact b.free c o' e1 (a.free c ob q n hx) hx
  there := fun c ob q hx => by
    obtain ⟨o', e1⟩ := a.there c ob q hx
    exact b.there c o' e1 hx
  tups := fun c xs q => b.tups c xs (a.tups c xs q)
  frzs := fun c ob xs q => b.frzs c ob xs (a.frzs c ob xs q)
  tbls := fun c ps q => by
    obtain ⟨m1, e1⟩ := a.tbls c ps q
    obtain ⟨m2, e2⟩ := b.tbls c _ e1
    exact ⟨m1 ++ m2, by rw [e2, Array.append_assoc]⟩
theorem Un.kept (k : ∀ b u, h.get? b = some u → h'.get? b = some u) : Un fs ex H H h h' :=
  ⟨fun b ob q _ _ _ => k b ob q, fun b ob q _ _ _ => ⟨ob.slots, k b ob q⟩, fun _ _ _ n _ => n, fun b ob q _ => ⟨ob, k b ob q⟩, fun _ _ q => q, fun _ _ _ q => q, fun _ ps q => ⟨#[], by rw [q]; simp⟩⟩
theorem Un.refl : Un fs ex H H h h := Un.kept fun _ _ q => q
theorem Un.laid (k : ∀ b u, h.get? b = some u → h'.get? b = some u) (hp : h.objs.size ≤ a) (hn : H a = none) : Un fs ex H (upd H a o) h h' where
  keep := fun b u q _ _ _ => k b u q
  slot := fun b u q _ _ _ => ⟨u.slots, k b u q⟩
  free := fun b u q n _ => by rw [upd_ne (Nat.ne_of_lt (Nat.lt_of_lt_of_le (Heap.lt_size q) hp))]; exact n
  there := fun b u q _ => ⟨u, k b u q⟩
  tups := fun b xs q => by rw [upd_ne (ne_of_none q hn)]; exact q
  frzs := fun b u xs q => by rw [upd_ne (ne_of_none q hn)]; exact q
  tbls := fun b ps q => ⟨#[], by rw [upd_ne (ne_of_none q hn), q]; simp⟩
theorem Un.write (mu : Mut (H x)) (he : e = x ∨ H e = some (.own x)) (k : ∀ b u, b ≠ e → h.get? b = some u → h'.get? b = some u) (heo : ∃ u, h'.get? e = some u) : Un fs ex H (upd H x o) h h' := by
  have hx : ∀ b, H b = none → b ≠ x := fun b n z => by subst z; rw [n] at mu; exact mu
  have hb : ∀ b, H b = none → b ≠ e := fun b n z => by
    subst z
    rcases he with r | r
    · exact hx b n r
    · rw [n] at r; cases r
  have hm : ∀ b u, H b = some u → ¬ Mut (some u) → b ≠ x := fun b u q nm z => by subst z; rw [q] at mu; exact nm mu
  refine ⟨fun b u q n _ _ => k b u (hb b n) q, fun b u q n _ _ => ⟨u.slots, k b u (hb b n) q⟩, fun b u q n _ => by rw [upd_ne (hx b n)]; exact n, fun b u q _ => ?_,
    fun b xs q => by rw [upd_ne (hm b _ q fun z => z)]; exact q, fun b u xs q => by rw [upd_ne (hm b _ q fun z => z)]; exact q, fun b ps q => ⟨#[], by rw [upd_ne (hm b _ q fun z => z), q]; simp⟩⟩
  by_cases hbe : b = e
  · subst hbe; exact heo
  · exact ⟨u, k b u hbe q⟩
theorem Un.mono (u : Un fs ex H H1 h h1) (hs : ∀ b ∈ fs, b ∈ fs') (hx : ∀ b ∈ ex, b ∈ ex') : Un fs' ex' H H1 h h1 :=
  ⟨fun b ob q n hb he => u.keep b ob q n (fun z => hb (hs b z)) fun z => he (hx b z), fun _ _ q n _ he => u.any q n fun z => he (hx _ z), fun b ob q n he => u.free b ob q n fun z => he (hx b z), fun b ob q he => u.there b ob q fun z => he (hx b z), u.tups, u.frzs, u.tbls⟩
end

def trk (h : Heap) (H : Hp) : List Addr := (List.range h.objs.size).filter fun a => (H a).isSome
def hidT (h : Heap) (H : Hp) : Heap := PySem.W.hideAll h (trk h H)
theorem hidT_size (h : Heap) (H : Hp) : (hidT h H).objs.size = h.objs.size := PySem.W.hideAll_size _ _
theorem hidT_get {h : Heap} {H : Hp} {b : Addr} {o : Obj} (e : h.get? b = some o) (n : H b = none) : (hidT h H).get? b = some o :=
  PySem.W.hideAll_get _ e fun hm => by
    have q : (H b).isSome = true := (List.mem_filter.mp hm).2
    rw [n] at q; simp at q
theorem of_hidT {h : Heap} {H : Hp} {b : Addr} {o : Obj} (e : (hidT h H).get? b = some o) : h.get? b = some o ∧ H b = none := by
  have e' : h.get? b = some o := PySem.W.of_hideAll (trk h H) e
  refine ⟨e', ?_⟩
  cases q : H b with
  | none => rfl
  | some x =>
    have hm : b ∈ trk h H := List.mem_filter.mpr ⟨List.mem_range.mpr (Heap.lt_size e'), by simp [q]⟩
    have z : (hidT h H).get? b = none := PySem.W.hideAll_none (trk h H) hm
    rw [z] at e; cases e

end L2

namespace L2
open PySem PySem.Spec PyProof.Rows

structure Mod (K : PySem.W.Frag) (mg : Str → Option Value) (base : Heap) : Prop where
  kin : K.In base
  glob : base.Ns mainGlobals mg
  blt : ∃ mb, base.Ns builtinsNs mb ∧ ∀ x : Str, x ≠ "__name__" → mb x = bootBuiltins x
  nolimit : base.NoLimit

/-- the context: a def's body (or a comprehension's block) running. base: fixed through the whole law; s₀, H₀: the entry; outer: the frames whose slots others may change (a def's callers); stack: all frames that run;
   ex: iterators that were made ahead of the entry and are walked here (a comprehension's); fn: the names whose cells were made at the entry (a def: all; a comprehension's block: its own); calm: not within an except suite; pn: pins that every state bears; xe: what is wanted of an exception that leaves the code -/
structure Cx where
  prog : Program
  w : World
  K : PySem.W.Frag
  mg : Str → Option Value
  base : Heap
  A : Around
  N : List Str
  s₀ : Shared
  H₀ : Hp
  env : Env
  outer : List Env
  stack : List Env
  ex : List Addr
  fn : Str → Bool
  calm : Bool
  pn : List (Addr × Obj)
  xe : Value → Shared → Prop
def frs (l : List Env) : List Addr := l.filterMap (·.frame)
abbrev Cx.fs (X : Cx) : List Addr := frs X.outer

def Vis (sc : Scope) (x : Str) : Prop := sc.names.lookup x = some .local ∨ sc.names.lookup x = some .cell ∨ sc.names.lookup x = some .free
def Loc (sc : Scope) (x : Str) : Prop := sc.names.lookup x = some .local ∨ sc.names.lookup x = some .cell
def Look (env : Env) (h : Heap) (m : Str → Option Value) (x : Str) (u : Value) : Prop :=
  (env.kindOf x = some .local ∧ m x = some u) ∨ ((env.kindOf x = some .cell ∨ env.kindOf x = some .free) ∧ ∃ c, env.cells.lookup x = some c ∧ h.IsCell c (some u))

structure Cx.Ok (X : Cx) : Prop where
  mod : Mod X.K X.mg X.base
  kind : X.env.scope.kind = .function
  glob : X.env.globals = mainGlobals
  blt : X.env.builtins = builtinsNs
  above : X.s₀.heap.objs.size ≤ X.env.locals
  inj : ∀ x y c, X.env.cells.lookup x = some c → X.env.cells.lookup y = some c → x = y
  has : ∀ x, (X.env.kindOf x = some .cell ∨ X.env.kindOf x = some .free) → ∃ c, X.env.cells.lookup x = some c
  cab : ∀ x c, X.fn x = true → X.env.cells.lookup x = some c → X.s₀.heap.objs.size ≤ c
  hd : X.calm = true → X.A.handled = none
  frames : X.A.frames = some X.stack
  stk : X.stack = X.outer ∨ (X.stack = X.env :: X.outer ∧ X.env.frame = some X.env.locals)
  exf : ∀ b ∈ X.ex, b ≠ X.env.locals ∧ ∀ x c, X.env.cells.lookup x = some c → c ≠ b
  bs : ∀ b o, X.base.get? b = some o → X.s₀.heap.get? b = some o ∧ X.H₀ b = none
  bsz : X.base.objs.size ≤ X.s₀.heap.objs.size
  noex : ∀ b o, X.base.get? b = some o → b ∉ X.ex
  exfs : ∀ b ∈ X.ex, b ∉ X.fs
  funs : X.s₀.heap.FunFrames X.base X.outer
  frf : ∀ b ∈ X.fs, X.H₀ b = none

structure Inv (X : Cx) (pins : List (Addr × Obj)) (σ : List (Option V)) (H : Hp) (s : Shared) : Prop where
  ok : X.Ok
  os : s.os = X.s₀.os
  bare : AllBare s.gens
  base : Un X.fs X.ex X.H₀ H X.s₀.heap s.heap
  loc : ∃ m, s.heap.Ns X.env.locals m ∧ ∀ (i : Nat) (x : Str) (v : V), X.N[i]? = some x → σ[i]? = some (some v) → Vis X.env.scope x → ∃ u, RelV v u ∧ Look X.env s.heap m x u
  cell : ∀ x c, X.env.cells.lookup x = some c → ∃ v, s.heap.IsCell c v
  free : H X.env.locals = none
  freeC : ∀ x c, X.env.cells.lookup x = some c → H c = none
  pin : ∀ p ∈ X.pn ++ pins, s.heap.get? p.1 = some p.2 ∧ H p.1 = none ∧ p.1 ≠ X.env.locals ∧ p.1 ∉ X.fs ∧ ∀ v, p.2.data ≠ .cell v
  hok : HOk X.prog X.w H s.heap
  len : σ.length = X.N.length

section
variable {X : Cx} {pins : List (Addr × Obj)} {σ : List (Option V)} {H H' : Hp} {s : Shared} {h' : Heap}

theorem Cx.Ok.nofr (ok : X.Ok) {b : Addr} {o : Obj} (e : X.base.get? b = some o) : b ∉ X.fs := fun hb => by
  have := (ok.funs.mem hb).1
  rw [e] at this; cases this
theorem Inv.bs (I : Inv X pins σ H s) : ∀ b o, X.base.get? b = some o → s.heap.get? b = some o ∧ H b = none := fun b o e =>
  ⟨I.base.keep b o (I.ok.bs b o e).1 (I.ok.bs b o e).2 (I.ok.nofr e) (I.ok.noex b o e), I.base.free b o (I.ok.bs b o e).1 (I.ok.bs b o e).2 (I.ok.noex b o e)⟩
theorem Inv.bk (I : Inv X pins σ H s) : ∀ b o, X.base.get? b = some o → s.heap.get? b = some o := fun b o e => (I.bs b o e).1
theorem Inv.mod (I : Inv X pins σ H s) : Mod X.K X.mg X.base := I.ok.mod
theorem Inv.kIn (I : Inv X pins σ H s) : X.K.In s.heap := I.ok.mod.kin.keeps I.bk
theorem Inv.lt (I : Inv X pins σ H s) : X.env.locals < s.heap.objs.size := let ⟨_, hn, _⟩ := I.loc; hn.lt
theorem Inv.sz (I : Inv X pins σ H s) : X.s₀.heap.objs.size ≤ s.heap.objs.size := Nat.le_trans I.ok.above (Nat.le_of_lt I.lt)
theorem Inv.nofs (I : Inv X pins σ H s) {a : Addr} (h : s.heap.objs.size ≤ a) : a ∉ X.fs := fun hb => by
  obtain ⟨_, o, ho, _⟩ := I.ok.funs.mem hb
  exact absurd (Nat.lt_of_lt_of_le (Heap.lt_size ho) (Nat.le_trans I.sz h)) (Nat.lt_irrefl _)
theorem Inv.cne (I : Inv X pins σ H s) : ∀ x c, X.env.cells.lookup x = some c → c ≠ X.env.locals := fun x c e z => by
  obtain ⟨v, o, ho, hd⟩ := I.cell x c e
  obtain ⟨m, ⟨o', es, ep, ho', hd', _⟩, _⟩ := I.loc
  rw [z, ho'] at ho; cases ho; rw [hd'] at hd; cases hd
theorem Inv.funs (I : Inv X pins σ H s) : s.heap.FunFrames X.base X.outer := by
  have all : ∀ (l : List Env), (∀ b ∈ frs l, b ∈ X.fs) → X.s₀.heap.FunFrames X.base l → s.heap.FunFrames X.base l := by
    intro l
    induction l with
    | nil => intro _ _; trivial
    | cons env r ih =>
      intro hs hl
      obtain ⟨hk, ⟨L, o, hf, hn, ho, hd⟩, hr⟩ := hl
      have hL : L ∈ X.fs := hs L (by unfold frs; rw [List.filterMap_cons, hf]; exact List.mem_cons_self)
      obtain ⟨sl, e⟩ := I.base.slot L o ho (I.ok.frf L hL) hL fun z => I.ok.exfs L z hL
      exact ⟨hk, ⟨L, _, hf, hn, e, hd⟩, ih (fun b hb => hs b (by unfold frs; rw [List.filterMap_cons, hf]; exact List.mem_cons_of_mem _ hb)) hr⟩
  exact all X.outer (fun _ hb => hb) I.ok.funs

theorem Inv.stack (I : Inv X pins σ H s) : s.heap.FunFrames X.base X.stack := by
  rcases I.ok.stk with e | ⟨e, hf⟩
  · rw [e]; exact I.funs
  · rw [e]
    obtain ⟨m, hn, _⟩ := I.loc
    refine .cons (by rw [I.ok.kind]; decide) hf hn ?_ I.funs
    exact Heap.get?_none_of_le (Nat.le_trans I.ok.bsz I.ok.above)
theorem Inv.stkSub (I : Inv X pins σ H s) : ∀ b ∈ frs X.stack, b ∈ X.env.locals :: X.fs := fun b hb => by
  rcases I.ok.stk with e | ⟨e, hf⟩
  · rw [e] at hb; exact List.mem_cons_of_mem _ hb
  · rw [e] at hb
    unfold frs at hb
    rw [List.filterMap_cons, hf] at hb
    exact hb
theorem Inv.stkFree (I : Inv X pins σ H s) : ∀ b ∈ frs X.stack, H b = none := fun b hb => by
  rcases List.mem_cons.mp (I.stkSub b hb) with e | hb
  · rw [e]; exact I.free
  · obtain ⟨_, o, ho, _⟩ := I.ok.funs.mem hb
    exact I.base.free b o ho (I.ok.frf b hb) fun z => I.ok.exfs b z hb

theorem Inv.step {g' : Array GenState} {t' : Nat} {d' : Drawn} {ch : List Addr} (I : Inv X pins σ H s)
    (hch : ∀ b ∈ ch, (b ∈ X.ex ∨ X.s₀.heap.objs.size ≤ b) ∧ b ≠ X.env.locals ∧ (∀ x c, X.env.cells.lookup x = some c → c ≠ b) ∧ ∀ p ∈ X.pn ++ pins, p.1 ≠ b)
    (keep : ∀ b o, b ≠ X.env.locals → b ∉ X.fs → b ∉ ch → s.heap.get? b = some o → H b = none → h'.get? b = some o)
    (slot : ∀ b o, b ≠ X.env.locals → b ∈ X.fs → b ∉ ch → s.heap.get? b = some o → H b = none → ∃ sl, h'.get? b = some { o with slots := sl }) (free : ∀ b o, b ∉ ch → s.heap.get? b = some o → H b = none → H' b = none)
    (there : ∀ b o, b ∉ ch → s.heap.get? b = some o → ∃ o', h'.get? b = some o')
    (tups : ∀ b xs, H b = some (.tup xs) → H' b = some (.tup xs)) (frzs : ∀ b o u, H b = some (.frz o u) → H' b = some (.frz o u)) (tbls : ∀ b ps, H b = some (.tbl ps) → ∃ more, H' b = some (.tbl (ps ++ more)))
    (ns : ∀ m, s.heap.Ns X.env.locals m → h'.Ns X.env.locals m) (hok : HOk X.prog X.w H' h') (hg : AllBare g') :
    Inv X pins σ H' { s with heap := h', gens := g', drawn := d', toks := t' } := by
  have neL : ∀ b o, X.s₀.heap.get? b = some o → b ≠ X.env.locals := fun b o e => Nat.ne_of_lt (Nat.lt_of_lt_of_le (Heap.lt_size e) I.ok.above)
  have neC : ∀ b o, X.s₀.heap.get? b = some o → b ∉ X.ex → b ∉ ch := fun b o e hx hb => by
    rcases (hch b hb).1 with z | z
    · exact hx z
    · exact absurd (Nat.lt_of_lt_of_le (Heap.lt_size e) z) (Nat.lt_irrefl _)
  have cellK : ∀ x c, X.env.cells.lookup x = some c → ∀ v, s.heap.IsCell c v → h'.IsCell c v := fun x c e v ⟨o, ho, hd⟩ => by
    have nch : c ∉ ch := fun z => (hch c z).2.2.1 x c e rfl
    by_cases hc : c ∈ X.fs
    · obtain ⟨sl, q⟩ := slot c o (I.cne x c e) hc nch ho (I.freeC x c e)
      exact ⟨_, q, hd⟩
    · exact ⟨o, keep c o (I.cne x c e) hc nch ho (I.freeC x c e), hd⟩
  refine ⟨I.ok, I.os, hg, ⟨fun b o e n hb hx => ?_, fun b o e n hb hx => ?_, fun b o e n hx => ?_, fun b o e hx => ?_, fun b xs e => tups b xs (I.base.tups b xs e), fun b o xs e => frzs b o xs (I.base.frzs b o xs e), fun b ps e => ?_⟩, ?_, fun x c e => ?_, ?_, fun x c e => ?_, fun p hp => ?_, hok, I.len⟩
  · exact keep b o (neL b o e) hb (neC b o e hx) (I.base.keep b o e n hb hx) (I.base.free b o e n hx)
  · obtain ⟨sl, e1⟩ := I.base.slot b o e n hb hx
    obtain ⟨sl', e2⟩ := slot b _ (neL b o e) hb (neC b o e hx) e1 (I.base.free b o e n hx)
    exact ⟨sl', e2⟩
  · obtain ⟨o', e1⟩ := I.base.there b o e hx
    exact free b o' (neC b o e hx) e1 (I.base.free b o e n hx)
  · obtain ⟨o', e1⟩ := I.base.there b o e hx
    exact there b o' (neC b o e hx) e1
  · obtain ⟨m1, e1⟩ := I.base.tbls b ps e
    obtain ⟨m2, e2⟩ := tbls b _ e1
    exact ⟨m1 ++ m2, by rw [e2, Array.append_assoc]⟩
  · obtain ⟨m, hn, hl⟩ := I.loc
    refine ⟨m, ns m hn, fun i x v e1 e2 e3 => ?_⟩
    obtain ⟨u, r, l⟩ := hl i x v e1 e2 e3
    refine ⟨u, r, ?_⟩
    rcases l with l | ⟨k, c, e, z⟩
    · exact .inl l
    · exact .inr ⟨k, c, e, cellK x c e _ z⟩
  · obtain ⟨v, z⟩ := I.cell x c e
    exact ⟨v, cellK x c e v z⟩
  · obtain ⟨m, ⟨o, _, _, ho, _⟩, _⟩ := I.loc
    exact free _ o (fun z => (hch _ z).2.1 rfl) ho I.free
  · obtain ⟨v, o, ho, hd⟩ := I.cell x c e
    exact free c o (fun z => (hch c z).2.2.1 x c e rfl) ho (I.freeC x c e)
  · obtain ⟨e, n, ne, nf, d⟩ := I.pin p hp
    have nch : p.1 ∉ ch := fun z => (hch p.1 z).2.2.2 p hp rfl
    exact ⟨keep p.1 p.2 ne nf nch e n, free p.1 p.2 nch e n, ne, nf, d⟩
theorem Inv.un {t' : Nat} (I : Inv X pins σ H s) (u : Un X.fs [] H H' s.heap h') (hok : HOk X.prog X.w H' h') : Inv X pins σ H' { s with heap := h', toks := t' } := by
  obtain ⟨m, ⟨o, es, ep, ho, r⟩, _⟩ := id I.loc
  obtain ⟨sl, hL⟩ := u.any ho I.free (by simp)
  exact I.step (g' := s.gens) (d' := s.drawn) (ch := []) (fun _ z => nomatch z) (fun b o _ hb _ e n => u.keep b o e n hb (by simp)) (fun b o _ hb _ e n => u.slot b o e n hb (by simp)) (fun b o _ e n => u.free b o e n (by simp)) (fun b o _ e => u.there b o e (by simp)) u.tups u.frzs u.tbls (fun m' hm => by
    obtain ⟨o', es', ep', ho', r'⟩ := hm
    rw [ho] at ho'; cases ho'
    exact ⟨_, es', ep', hL, r'⟩) hok I.bare
theorem Inv.call {g' : Array GenState} {t' : Nat} {d' : Drawn} {ch : List Addr} (I : Inv X pins σ H s) (u : Un (frs X.stack) ch H H' s.heap h') (hok : HOk X.prog X.w H' h') (hg : AllBare g')
    (hch : ∀ b ∈ ch, (b ∈ X.ex ∨ X.s₀.heap.objs.size ≤ b) ∧ b ≠ X.env.locals ∧ (∀ x c, X.env.cells.lookup x = some c → c ≠ b) ∧ ∀ p ∈ X.pn ++ pins, p.1 ≠ b) :
    Inv X pins σ H' { s with heap := h', gens := g', drawn := d', toks := t' } := by
  obtain ⟨m, ⟨o, es, ep, ho, r⟩, _⟩ := id I.loc
  obtain ⟨sl, hL⟩ := u.any ho I.free fun z => (hch _ z).2.1 rfl
  exact I.step (ch := ch) hch (fun b o hL hb hc e n => u.keep b o e n (fun z => (List.mem_cons.mp (I.stkSub b z)).elim hL hb) hc) (fun b o _ _ hc e n => u.any e n hc) (fun b o hc e n => u.free b o e n hc) (fun b o hc e => u.there b o e hc) u.tups u.frzs u.tbls (fun m' hm => by
    obtain ⟨o', es', ep', ho', r'⟩ := hm
    rw [ho] at ho'; cases ho'
    exact ⟨_, es', ep', hL, r'⟩) hok hg
theorem Inv.turned {t' : Nat} {it : Addr} (I : Inv X pins σ H s) (k : ∀ b o, b ≠ it → s.heap.get? b = some o → h'.get? b = some o) (hn : H it = none) (hL : it ≠ X.env.locals)
    (h1 : it ∈ X.ex ∨ X.s₀.heap.objs.size ≤ it) (h2 : ∀ x c, X.env.cells.lookup x = some c → c ≠ it) (h3 : ∀ p ∈ X.pn ++ pins, p.1 ≠ it) : Inv X pins σ H { s with heap := h', toks := t' } := by
  have nit : ∀ b u, H b = some u → b ≠ it := fun b u e z => by rw [z, hn] at e; cases e
  refine I.step (g' := s.gens) (d' := s.drawn) (ch := [it]) (fun b hb => ?_) (fun b o _ _ hc e _ => k b o (fun z => hc (by simp [z])) e) (fun b o _ _ hc e _ => ⟨o.slots, k b o (fun z => hc (by simp [z])) e⟩) (fun _ _ _ _ n => n)
    (fun b o hc e => ⟨o, k b o (fun z => hc (by simp [z])) e⟩) (fun _ _ e => e) (fun _ _ _ e => e) (fun b ps e => ⟨#[], by rw [e]; simp⟩) (fun m hm => ?_) (fun b u e => ?_) I.bare
  · have e : b = it := by simpa using hb
    subst e
    exact ⟨h1, hL, h2, h3⟩
  · obtain ⟨o, es, ep, ho, r⟩ := hm
    exact ⟨o, es, ep, k _ o (Ne.symm hL) ho, r⟩
  · refine (I.hok b u e).stay (fun c v hc q => k c v ?_ q) (fun _ q => q) fun _ _ q => q
    rcases hc with z | z
    · rw [z]; exact nit b u e
    · exact nit c _ z
theorem Inv.tok (I : Inv X pins σ H s) (t : Nat) : Inv X pins σ H { s with toks := t } := I.un (h' := s.heap) (t' := t) Un.refl I.hok
theorem Inv.kept {t' : Nat} (I : Inv X pins σ H s) (k : ∀ b u, s.heap.get? b = some u → h'.get? b = some u) : Inv X pins σ H { s with heap := h', toks := t' } := I.un (Un.kept k) (I.hok.kept k)
theorem Inv.laid {a : Addr} {o : HO} {t' : Nat} (I : Inv X pins σ H s) (k : ∀ b u, s.heap.get? b = some u → h'.get? b = some u) (hp : s.heap.objs.size ≤ a) (new : ObjOk X.prog X.w (upd H a o) h' a o) :
    Inv X pins σ (upd H a o) { s with heap := h', toks := t' } := I.un (Un.laid k hp (I.hok.fresh hp)) (I.hok.laid k hp new)
theorem Inv.write {x e : Addr} {o : HO} {t' : Nat} (I : Inv X pins σ H s) (mu : Mut (H x)) (he : e = x ∨ H e = some (.own x)) (k : ∀ b u, b ≠ e → s.heap.get? b = some u → h'.get? b = some u) (heo : ∃ u, h'.get? e = some u)
    (new : ObjOk X.prog X.w (upd H x o) h' x o) : Inv X pins σ (upd H x o) { s with heap := h', toks := t' } := I.un (Un.write mu he k heo) (I.hok.write mu he k heo new)
theorem Inv.pins_of {pins' : List (Addr × Obj)} (I : Inv X pins σ H s) (h : ∀ p ∈ pins', s.heap.get? p.1 = some p.2 ∧ H p.1 = none ∧ p.1 ≠ X.env.locals ∧ p.1 ∉ X.fs ∧ ∀ v, p.2.data ≠ .cell v) : Inv X pins' σ H s :=
  ⟨I.ok, I.os, I.bare, I.base, I.loc, I.cell, I.free, I.freeC, fun p hp => (List.mem_append.mp hp).elim (fun z => I.pin p (List.mem_append_left _ z)) (h p), I.hok, I.len⟩

theorem nodup_ix {N : List Str} (hN : N.Nodup) {i j : Nat} {x : Str} (a : N[i]? = some x) (b : N[j]? = some x) : i = j := by
  obtain ⟨h1, e1⟩ := List.getElem?_eq_some_iff.mp a
  obtain ⟨h2, e2⟩ := List.getElem?_eq_some_iff.mp b
  exact (List.getElem_inj hN).mp (e1.trans e2.symm)

theorem store_ok2 {M : Model} {A : Around} {E : Value → Shared → Prop} {i : Nat} {x : Str} {v : V} {u : Value} {Q : Unit → Shared → Prop} (I : Inv X pins σ H s) (hN : X.N.Nodup) (hi : X.N[i]? = some x) (hx : Loc X.env.scope x) (r : RelV v u)
    (h : ∀ s', Inv X pins (σ.set i (some v)) H s' → (∃ a, Heap.SameBut a s.heap s'.heap ∧ (a = X.env.locals ∨ X.env.cells.lookup x = some a)) → Q () s') (hf : X.fn x = true ∨ X.env.scope.names.lookup x = some .local := by first | exact .inl rfl | exact .inr rfl | assumption) : wpAny M A (storeName X.env x u) Q E s := by
  obtain ⟨m, hn, hl⟩ := id I.loc
  have hcls : (X.env.scope.kind == .class || (X.env.scope.kind == .module && X.env.locals != X.env.globals)) = false := by rw [I.ok.kind]; rfl
  have hiσ : i < σ.length := by rw [I.len]; exact (List.getElem?_eq_some_iff.mp hi).1
  have cne := I.cne
  have tracked : ∀ {a : Addr} {h' : Heap}, (∃ o, s.heap.get? a = some o ∧ H a = none) → Heap.SameBut a s.heap h' → HOk X.prog X.w H h' := fun {a h'} ha hs b ob e => by
    obtain ⟨_, _, hfree⟩ := ha
    refine (I.hok b ob e).stay (fun c w' hc q => (hs.2 c ?_).trans q) (fun _ q => q) fun _ _ q => q
    rintro rfl
    rcases hc with rfl | hc
    · rw [hfree] at e; cases e
    · rw [hfree] at hc; cases hc
  rcases hx with hk | hk
  · refine wpAny_storeName_local hk hn (fun h' hn' hs => ?_) hcls
    obtain ⟨oL, _, _, hoL, _⟩ := id hn
    refine h _ ⟨I.ok, I.os, I.bare, ⟨fun b o e n hb hx => ?_, fun b o e n hb hx => ?_, I.base.free, fun b o e hx => ?_, I.base.tups, I.base.frzs, I.base.tbls⟩, ⟨_, hn', fun j y v' e1 e2 e3 => ?_⟩, fun y c e => ?_, I.free, I.freeC, fun p hp => ?_, tracked ⟨oL, hoL, I.free⟩ hs, by simpa using I.len⟩ ⟨_, hs, .inl rfl⟩
    · exact (hs.2 b (Nat.ne_of_lt (Nat.lt_of_lt_of_le (Heap.lt_size e) I.ok.above))).trans (I.base.keep b o e n hb hx)
    · obtain ⟨sl, e1⟩ := I.base.slot b o e n hb hx
      exact ⟨sl, (hs.2 b (Nat.ne_of_lt (Nat.lt_of_lt_of_le (Heap.lt_size e) I.ok.above))).trans e1⟩
    · obtain ⟨o', e1⟩ := I.base.there b o e hx
      exact ⟨o', (hs.2 b (Nat.ne_of_lt (Nat.lt_of_lt_of_le (Heap.lt_size e) I.ok.above))).trans e1⟩
    · by_cases hj : j = i
      · subst hj
        rw [hi] at e1; cases e1
        rw [List.getElem?_set_self hiσ] at e2
        cases e2
        exact ⟨u, r, .inl ⟨hk, by simp⟩⟩
      · rw [List.getElem?_set_ne (Ne.symm hj)] at e2
        obtain ⟨u', r', q⟩ := hl j y v' e1 e2 e3
        refine ⟨u', r', ?_⟩
        rcases q with ⟨k, e⟩ | ⟨k, c, e, z⟩
        · refine .inl ⟨k, ?_⟩
          have : y ≠ x := fun e => hj (nodup_ix hN e1 (e ▸ hi))
          simp [this, e]
        · exact .inr ⟨k, c, e, z.sameBut hs (cne y c e)⟩
    · obtain ⟨w', z⟩ := I.cell y c e
      exact ⟨w', z.sameBut hs (cne y c e)⟩
    · obtain ⟨e, n, ne, nf, d⟩ := I.pin p hp
      exact ⟨(hs.2 p.1 ne).trans e, n, ne, nf, d⟩
  · have hfn : X.fn x = true := by
      rcases hf with z | z
      · exact z
      · rw [z] at hk; cases hk
    obtain ⟨c, hc⟩ := I.ok.has x (.inl hk)
    obtain ⟨w', z⟩ := I.cell x c hc
    refine wpAny_storeName_cell I.ok.kind hk hc z (fun h' hc' hs => ?_)
    obtain ⟨oc, hoc, hocd⟩ := id z
    refine h { s with heap := h' } ⟨I.ok, I.os, I.bare, ⟨fun b o e n hb hx => ?_, fun b o e n hb hx => ?_, I.base.free, fun b o e hx => ?_, I.base.tups, I.base.frzs, I.base.tbls⟩, ⟨m, hn.sameBut hs (Ne.symm (cne x c hc)), fun j y v' e1 e2 e3 => ?_⟩, fun y c' e => ?_, I.free, I.freeC, fun p hp => ?_, tracked ⟨oc, hoc, I.freeC x c hc⟩ hs, by simpa using I.len⟩ ⟨c, hs, .inr hc⟩
    · exact (hs.2 b (Nat.ne_of_lt (Nat.lt_of_lt_of_le (Heap.lt_size e) (I.ok.cab x c hfn hc)))).trans (I.base.keep b o e n hb hx)
    · obtain ⟨sl, e1⟩ := I.base.slot b o e n hb hx
      exact ⟨sl, (hs.2 b (Nat.ne_of_lt (Nat.lt_of_lt_of_le (Heap.lt_size e) (I.ok.cab x c hfn hc)))).trans e1⟩
    · obtain ⟨o', e1⟩ := I.base.there b o e hx
      exact ⟨o', (hs.2 b (Nat.ne_of_lt (Nat.lt_of_lt_of_le (Heap.lt_size e) (I.ok.cab x c hfn hc)))).trans e1⟩
    · by_cases hj : j = i
      · subst hj
        rw [hi] at e1; cases e1
        rw [List.getElem?_set_self hiσ] at e2
        cases e2
        exact ⟨u, r, .inr ⟨.inl hk, c, hc, hc'⟩⟩
      · rw [List.getElem?_set_ne (Ne.symm hj)] at e2
        obtain ⟨u', r', q⟩ := hl j y v' e1 e2 e3
        refine ⟨u', r', ?_⟩
        rcases q with q | ⟨k, c', e, z'⟩
        · exact .inl q
        · refine .inr ⟨k, c', e, z'.sameBut hs ?_⟩
          rintro rfl
          exact hj (nodup_ix hN e1 (I.ok.inj _ _ _ e hc ▸ hi))
    · by_cases hcc : c' = c
      · subst hcc; exact ⟨_, hc'⟩
      · obtain ⟨w2, z2⟩ := I.cell y c' e
        exact ⟨w2, z2.sameBut hs hcc⟩
    · obtain ⟨e, n, ne, nf, d⟩ := I.pin p hp
      refine ⟨(hs.2 p.1 ?_).trans e, n, ne, nf, d⟩
      intro q
      rw [q, hoc] at e
      have q' : oc = p.2 := Option.some.inj e
      exact d w' (by rw [← q']; exact hocd)
theorem store_ok {M : Model} {A : Around} {E : Value → Shared → Prop} {i : Nat} {x : Str} {v : V} {u : Value} {Q : Unit → Shared → Prop} (I : Inv X pins σ H s) (hN : X.N.Nodup) (hi : X.N[i]? = some x) (hx : Loc X.env.scope x) (r : RelV v u)
    (h : ∀ s', Inv X pins (σ.set i (some v)) H s' → Q () s') (hf : X.fn x = true ∨ X.env.scope.names.lookup x = some .local := by first | exact .inl rfl | exact .inr rfl | assumption) : wpAny M A (storeName X.env x u) Q E s :=
  store_ok2 I hN hi hx r (fun s' I' _ => h s' I') hf
theorem Inv.call' {s' : Shared} {ch : List Addr} (I : Inv X pins σ H s) (ho : s'.os = s.os) (u : Un (frs X.stack) ch H H' s.heap s'.heap) (hok : HOk X.prog X.w H' s'.heap) (hg : AllBare s'.gens)
    (hch : ∀ b ∈ ch, (b ∈ X.ex ∨ X.s₀.heap.objs.size ≤ b) ∧ b ≠ X.env.locals ∧ (∀ x c, X.env.cells.lookup x = some c → c ≠ b) ∧ ∀ p ∈ X.pn ++ pins, p.1 ≠ b) : Inv X pins σ H' s' := by
  obtain ⟨h', g', d', t', o'⟩ := s'
  have e : o' = s.os := ho
  subst e
  exact I.call (g' := g') (t' := t') (d' := d') u hok hg hch
end

abbrev XK := Value → Option Addr → Hp → Prop
abbrev St := List (Option V)
abbrev VK := V → Hp → Prop
abbrev TE := St → Hp → VK → Prop
abbrev TT := St → Hp → (Bool → Hp → Prop) → Prop
abbrev TA := St → Hp → (List V → Hp → Prop) → Prop
structure Ends where
  nx : St → Hp → Prop
  rt : VK
  bk : St → Hp → Prop := fun _ _ => False
  ct : St → Hp → Prop := fun _ _ => False
abbrev TS := Ends → St → Hp → Prop

def EP (X : Cx) (pins : List (Addr × Obj)) (σ : St) (Q : VK) (u : Value) (s' : Shared) : Prop := ∃ v H', Inv X pins σ H' s' ∧ RelV v u ∧ Q v H'
def TP (X : Cx) (pins : List (Addr × Obj)) (σ : St) (Q : Bool → Hp → Prop) (b : Bool) (s' : Shared) : Prop := ∃ H', Inv X pins σ H' s' ∧ Q b H'
def AP (X : Cx) (pins : List (Addr × Obj)) (σ : St) (Q : List V → Hp → Prop) (us : List Value) (s' : Shared) : Prop := ∃ vs H', Inv X pins σ H' s' ∧ Vals vs us ∧ Q vs H'
def SP (X : Cx) (pins : List (Addr × Obj)) (D : Ends) (f : Flow) (s' : Shared) : Prop :=
  match f with
  | .next => ∃ σ' H', Inv X pins σ' H' s' ∧ D.nx σ' H'
  | .brk => ∃ σ' H', Inv X pins σ' H' s' ∧ D.bk σ' H'
  | .cont => ∃ σ' H', Inv X pins σ' H' s' ∧ D.ct σ' H'
  | .ret u => ∃ v σ' H', Inv X pins σ' H' s' ∧ RelV v u ∧ D.rt v H'

def PE (X : Cx) (e : Expr) (t : TE) : Prop :=
  ∀ (pins : List (Addr × Obj)) (s : Shared) (σ : St) (H : Hp) (Q : VK), Inv X pins σ H s → t σ H Q → wpAny (model X.prog X.w) X.A (eval e X.env) (EP X pins σ Q) X.xe s
def PT (X : Cx) (e : Expr) (t : TT) : Prop :=
  ∀ (pins : List (Addr × Obj)) (s : Shared) (σ : St) (H : Hp) (Q : Bool → Hp → Prop), Inv X pins σ H s → t σ H Q → wpAny (model X.prog X.w) X.A (isTrue e X.env (eval e X.env)) (TP X pins σ Q) X.xe s
def PW (X : Cx) (e : Expr) (t : TT) : Prop :=
  ∀ (whole : Sem Value) (pins : List (Addr × Obj)) (s : Shared) (σ : St) (H : Hp) (Q : Bool → Hp → Prop), Inv X pins σ H s → t σ H Q → wpAny (model X.prog X.w) X.A (isTrue e X.env whole) (TP X pins σ Q) X.xe s
theorem PW.pt {X : Cx} {e : Expr} {t : TT} (h : PW X e t) : PT X e t := h _
def PA (X : Cx) (es : List Expr) (t : TA) : Prop :=
  ∀ (pos : Pos) (pins : List (Addr × Obj)) (s : Shared) (σ : St) (H : Hp) (Q : List V → Hp → Prop), Inv X pins σ H s → t σ H Q → wpAny (model X.prog X.w) X.A (spliced (backTo pos (starEach es X.env))) (AP X pins σ Q) X.xe s
def PS (X : Cx) (st : Stmt) (t : TS) : Prop :=
  ∀ (pins : List (Addr × Obj)) (s : Shared) (σ : St) (H : Hp) (D : Ends), Inv X pins σ H s → t D σ H → wpAny (model X.prog X.w) X.A (exec st X.env) (SP X pins D) X.xe s
def PSs (X : Cx) (st : List Stmt) (t : TS) : Prop :=
  ∀ (pins : List (Addr × Obj)) (s : Shared) (σ : St) (H : Hp) (D : Ends), Inv X pins σ H s → t D σ H → wpAny (model X.prog X.w) X.A (execs st X.env) (SP X pins D) X.xe s
theorem thn {α : Type} {t : Sem α} {Q Q' : α → Shared → Prop} {M : Model} {A : Around} {E : Value → Shared → Prop} {s : Shared} (h : wpAny M A t Q E s) (hQ : ∀ a s, Q a s → Q' a s) : wpAny M A t Q' E s := wpAny_mono h hQ fun _ _ x => x
end L2

namespace L2
open PySem PySem.Spec PyProof.Rows
section
variable {X : Cx}

def tVar (i : Nat) : TE := fun σ H Q => ∃ v, σ[i]? = some (some v) ∧ Q v H
def tC (v : V) : TE := fun _ H Q => Q v H
theorem pe_var {i : Nat} {x : Str} {pos : Pos} (hN : X.N[i]? = some x) (hv : Vis X.env.scope x) (hd : (x == ("__debug__" : Str)) = false := by decide) (hcd : (x == ("__classdict__" : Str)) = false := by decide) : PE X (.Name x pos) (tVar i) := by
  intro pins s σ H Q I h
  obtain ⟨v, e, h⟩ := h
  obtain ⟨m, hn, hl⟩ := I.loc
  obtain ⟨u, r, l⟩ := hl i x v hN e hv
  have fin : EP X pins σ Q u s := ⟨v, H, I, r, h⟩
  rcases l with ⟨hk, hm⟩ | ⟨hk, c, hc, hcell⟩
  · exact wpAny_Name (wpAny_loadName_local I.ok.kind hk hn hm fin) hd
  · rcases hk with hk | hk
    · exact wpAny_Name (wpAny_loadName_cell I.ok.kind hk hc hcell fin) hd
    · exact wpAny_Name (wpAny_loadName_free I.ok.kind hk hc hcell fin hcd) hd
theorem pe_int {i j pos} : PE X (.Constant (.int i) j pos) (tC (.int i)) := fun _ _ _ H _ I h => wpAny_Constant_int ⟨.int i, H, I.tok _, ⟨_, rfl⟩, h⟩
theorem pe_bl {b j pos} : PE X (.Constant (.bool b) j pos) (tC (.bl b)) := fun _ _ _ H _ I h => Constant_bool ⟨.bl b, H, I, rfl, h⟩
def Gl (X : Cx) (x : Str) : Prop := X.env.kindOf x = some .globalImplicit
theorem ld_glob {E : Value → Shared → Prop} {pins : List (Addr × Obj)} {s : Shared} {σ : St} {H : Hp} {x : Str} {u : Value} {pos : Pos} {Q : Value → Shared → Prop} (I : Inv X pins σ H s) (hg : Gl X x) (hm : X.mg x = some u) (h : Q u s)
    (hd : (x == ("__debug__" : Str)) = false := by decide) : wpAny (model X.prog X.w) X.A (eval (.Name x pos) X.env) Q E s :=
  Calls.Name_function_global I.ok.kind hg (Calls.loadGlobal_global (by rw [I.ok.glob]; exact I.mod.glob.keeps I.bk) hm h) hd
theorem ld_blt {E : Value → Shared → Prop} {pins : List (Addr × Obj)} {s : Shared} {σ : St} {H : Hp} {x : Str} {u : Value} {pos : Pos} {Q : Value → Shared → Prop} (I : Inv X pins σ H s) (hg : Gl X x) (hm : X.mg x = none) (hv : bootBuiltins x = some u) (h : Q u s)
    (hn : x ≠ "__name__" := by decide) (hd : (x == ("__debug__" : Str)) = false := by decide) : wpAny (model X.prog X.w) X.A (eval (.Name x pos) X.env) Q E s := by
  obtain ⟨mb, h1, h2⟩ := I.mod.blt
  exact Calls.Name_function_global I.ok.kind hg (Calls.loadGlobal_builtin (by rw [I.ok.glob]; exact I.mod.glob.keeps I.bk) hm (by rw [I.ok.blt]; exact h1.keeps I.bk) ((h2 x hn).trans hv) h) hd
variable {a b : Expr} {ta tb : TE} {pos : Pos}
def tB (t : TE) : TT := fun σ H Q => t σ H fun x H1 => ∃ c, x = .bl c ∧ Q c H1
theorem pt_val {e : Expr} {t : TE} (h : PE X e t) (he : ∀ whole, isTrue e X.env whole = (do let v ← whole; standAt e.pos; holding [v] (truthy v)) := by intro _; rfl) : PT X e (tB t) := by
  intro pins s σ H Q I hw
  refine isTrue_plain (thn (h pins s σ H _ I hw) fun v s1 ⟨x, H1, I1, r1, q1⟩ => ?_) (he _)
  obtain ⟨d, rfl, q⟩ := q1
  cases r1
  exact wpAny_truthy_bool ⟨H1, I1, q⟩

variable {tA tB' : TT} {rest : List Expr}
def tOr (t u : TT) : TT := fun σ H Q => t σ H fun c H1 => if c = true then Q true H1 else u σ H1 Q
def tNot (t : TT) : TT := fun σ H Q => t σ H fun c H1 => Q (!c) H1
theorem pw_or1 (ha : PT X a tA) : PW X (.BoolOp .Or [a] pos) tA := by
  intro wh pins s σ H Q I h
  refine isTrue_or (thn (ha pins s σ H Q I h) fun c s1 e => ?_)
  cases c with
  | false => exact isTrue_or_nil e
  | true => exact e
theorem pw_or (ha : PT X a tA) (hb : PW X (.BoolOp .Or (b :: rest) pos) tB') : PW X (.BoolOp .Or (a :: b :: rest) pos) (tOr tA tB') := by
  intro wh pins s σ H Q I h
  refine isTrue_or (thn (ha pins s σ H _ I h) fun c s1 ⟨H1, I1, q1⟩ => ?_)
  cases c with
  | true => exact ⟨H1, I1, q1⟩
  | false => exact hb wh pins s1 σ H1 Q I1 q1
theorem pt_not (ha : PT X a tA) : PT X (.UnaryOp .Not a pos) (tNot tA) := by
  intro pins s σ H Q I h
  exact isTrue_not (ha pins s σ H (fun c H1 => Q (!c) H1) I h)
def tIf (t : TT) (ta tb : TE) : TE := fun σ H Q => t σ H fun c H1 => if c = true then ta σ H1 Q else tb σ H1 Q
theorem pe_ifExp {c : Expr} (hc : PT X c tA) (ha : PE X a ta) (hb : PE X b tb) : PE X (.IfExp c a b pos) (tIf tA ta tb) := by
  intro pins s σ H Q I h
  refine wpAny_IfExp (thn (hc pins s σ H _ I h) fun d s1 ⟨H1, I1, q1⟩ => ?_)
  cases d with
  | true => exact ha pins s1 σ H1 Q I1 q1
  | false => exact hb pins s1 σ H1 Q I1 q1
end
end L2

namespace L2
open PySem PySem.Spec PyProof.Rows

def SqL (K : PySem.W.Frag) (H : Hp) (a : Addr) (xs : List V) : Prop :=
  Rd H a (.lst xs) ∨
    ∃ (o : Obj) (its : Array Value) (n : Nat), K.lookup a = some o ∧ o.cls = .type "list" ∧ o.dict = none ∧ o.data = .seq its n ∧ its.size ≤ sizeLine ∧ Vals xs its.toList
def SqT (K : PySem.W.Frag) (H : Hp) (a : Addr) (xs : List V) : Prop :=
  Rd H a (.tup xs) ∨
    ∃ (o : Obj) (its : Array Value) (n : Nat), K.lookup a = some o ∧ o.cls = .type "tuple" ∧ o.data = .seq its n ∧ its.size ≤ sizeLine ∧ Vals xs its.toList
def absV : Value → Option V
  | .none => some .non
  | .bool b => some (.bl b)
  | .int i _ => some (.int i)
  | .str x _ => some (.str x)
  | .bytes b _ => some (.byt b)
  | .float b _ => some (.flt b)
  | .ref a => some (.ref a)
  | .type n => some (.ty n)
  | _ => none
theorem RelV.abs {x : V} {u : Value} (r : RelV x u) : absV u = some x := by
  cases x with
  | non => cases r; rfl
  | bl _ => cases r; rfl
  | int _ => obtain ⟨t, rfl⟩ := r; rfl
  | str _ => obtain ⟨t, rfl⟩ := r; rfl
  | byt _ => obtain ⟨t, rfl⟩ := r; rfl
  | flt _ => obtain ⟨t, rfl⟩ := r; rfl
  | ref _ => cases r; rfl
  | ty _ => cases r; rfl
theorem RelV.inj {x y : V} {u : Value} (r : RelV x u) (q : RelV y u) : x = y := Option.some.inj (r.abs.symm.trans q.abs)
theorem Vals.inj : ∀ {xs ys : List V} {us : List Value}, Vals xs us → Vals ys us → xs = ys
  | _, _, _, .nil, .nil => rfl
  | _, _, _, .cons r t, .cons r' t' => by rw [r.inj r', Vals.inj t t']
section
variable {X : Cx} {pins : List (Addr × Obj)} {σ : St} {H : Hp} {s : Shared} {a : Addr} {xs ys : List V}
theorem SqL.of {K : PySem.W.Frag} (h : H a = some (.lst xs)) : SqL K H a xs := .inl (.inl h)
theorem SqT.of {K : PySem.W.Frag} (h : H a = some (.tup xs)) : SqT K H a xs := .inl (.inl h)
theorem Inv.list (I : Inv X pins σ H s) (h : SqL X.K H a xs) : ∃ its : List Value, Vals xs its ∧ PlainL s.heap a its.toArray ∧ xs.length ≤ sizeLine := by
  rcases h with h | ⟨o, its, n, hk, hc, hd, hs, hz, r⟩
  · obtain ⟨z, its, n, r, e⟩ := h.ok I.hok
    exact ⟨its, r, ⟨_, n, e, rfl, rfl, rfl⟩, z⟩
  · refine ⟨its.toList, r, ⟨o, n, I.kIn a o hk, hc, hd, by simpa using hs⟩, ?_⟩
    have e := r.length
    simp only [Array.length_toList] at e
    omega
theorem Inv.tuple (I : Inv X pins σ H s) (h : SqT X.K H a xs) : ∃ its : List Value, Vals xs its ∧ IsTup s.heap a its.toArray ∧ xs.length ≤ sizeLine := by
  rcases h with h | ⟨o, its, n, hk, hc, hs, hz, r⟩
  · obtain ⟨z, its, r, p⟩ := h.ok I.hok
    exact ⟨its, r, p, z⟩
  · refine ⟨its.toList, r, ⟨o, I.kIn a o hk, hc, n, by simpa using hs⟩, ?_⟩
    have e := r.length
    simp only [Array.length_toList] at e
    omega
theorem Inv.list_inj (I : Inv X pins σ H s) (h : SqL X.K H a xs) (h' : SqL X.K H a ys) : xs = ys := by
  obtain ⟨its, r, ⟨o, n, e, _, _, d⟩, _⟩ := I.list h
  obtain ⟨its', r', ⟨o', n', e', _, _, d'⟩, _⟩ := I.list h'
  rw [e] at e'; cases e'
  rw [d] at d'
  injection d' with d1 _
  have : its = its' := by simpa using congrArg Array.toList d1
  subst this
  exact r.inj r'
theorem Inv.tuple_inj (I : Inv X pins σ H s) (h : SqT X.K H a xs) (h' : SqT X.K H a ys) : xs = ys := by
  obtain ⟨its, r, ⟨o, e, _, n, d⟩, _⟩ := I.tuple h
  obtain ⟨its', r', ⟨o', e', _, n', d'⟩, _⟩ := I.tuple h'
  rw [e] at e'; cases e'
  rw [d] at d'
  injection d' with d1 _
  have : its = its' := by simpa using congrArg Array.toList d1
  subst this
  exact r.inj r'
end

abbrev Cx.wish (X : Cx) (E : Value → Shared → Prop) : Cx := { X with xe := E }
abbrev Cx.nox (X : Cx) : Cx := X.wish fun _ _ => False
theorem Cx.Ok.wish {X : Cx} (ok : X.Ok) (E : Value → Shared → Prop) : (X.wish E).Ok :=
  ⟨ok.mod, ok.kind, ok.glob, ok.blt, ok.above, ok.inj, ok.has, ok.cab, ok.hd, ok.frames, ok.stk, ok.exf, ok.bs, ok.bsz, ok.noex, ok.exfs, ok.funs, ok.frf⟩
theorem Cx.Ok.unwish {X : Cx} {E : Value → Shared → Prop} (ok : (X.wish E).Ok) : X.Ok :=
  ⟨ok.mod, ok.kind, ok.glob, ok.blt, ok.above, ok.inj, ok.has, ok.cab, ok.hd, ok.frames, ok.stk, ok.exf, ok.bs, ok.bsz, ok.noex, ok.exfs, ok.funs, ok.frf⟩
section
variable {X : Cx} {pins : List (Addr × Obj)} {σ : St} {H : Hp} {s : Shared} {E : Value → Shared → Prop}
theorem Inv.wish (I : Inv X pins σ H s) (E : Value → Shared → Prop) : Inv (X.wish E) pins σ H s := ⟨I.ok.wish E, I.os, I.bare, I.base, I.loc, I.cell, I.free, I.freeC, I.pin, I.hok, I.len⟩
theorem Inv.unwish (I : Inv (X.wish E) pins σ H s) : Inv X pins σ H s := ⟨I.ok.unwish, I.os, I.bare, I.base, I.loc, I.cell, I.free, I.freeC, I.pin, I.hok, I.len⟩
theorem SP.unwish {D : Ends} {f : Flow} {s' : Shared} (h : SP (X.wish E) pins D f s') : SP X pins D f s' := by
  cases f with
  | next => obtain ⟨σ', H', I, q⟩ := h; exact ⟨σ', H', I.unwish, q⟩
  | brk => obtain ⟨σ', H', I, q⟩ := h; exact ⟨σ', H', I.unwish, q⟩
  | cont => obtain ⟨σ', H', I, q⟩ := h; exact ⟨σ', H', I.unwish, q⟩
  | ret u => obtain ⟨v, σ', H', I, r, q⟩ := h; exact ⟨v, σ', H', I.unwish, r, q⟩
theorem PSs.nox {st : List Stmt} {t : TS} (h : PSs X.nox st t) : PSs X st t := fun pins s σ H D I hw =>
  wpAny_mono (h pins s σ H D (I.wish _) hw) (fun _ _ q => q.unwish) fun _ _ z => False.elim z
end

section
variable {X : Cx} {st : Stmt} {rest : List Stmt} {t u : TS} {e : Expr} {te : TE} {pos : Pos}
def tNext : TS := fun D σ H => D.nx σ H
def tSeq (t u : TS) : TS := fun D σ H => t { D with nx := u D } σ H
theorem pss_nil : PSs X [] tNext := fun _ _ σ H _ I h => wpAny_execs_nil ⟨σ, H, I, h⟩
theorem pss_cons (h1 : PS X st t) (h2 : PSs X rest u) : PSs X (st :: rest) (tSeq t u) := by
  intro pins s σ H D I h
  refine wpAny_execs_cons (thn (h1 pins s σ H { D with nx := u D } I h) fun f s1 q => ?_)
  cases f with
  | next =>
    obtain ⟨σ', H', I', q⟩ := q
    exact h2 pins s1 σ' H' D I' q
  | ret v => exact q
  | brk => exact q
  | cont => exact q
theorem pss_one (h1 : PS X st t) : PSs X [st] t := by
  intro pins s σ H D I h
  refine wpAny_execs_cons (thn (h1 pins s σ H D I h) fun f s1 q => ?_)
  cases f with
  | next => exact wpAny_execs_nil q
  | ret v => exact q
  | brk => exact q
  | cont => exact q
theorem Inv.quiet {pins : List (Addr × Obj)} {σ : St} {H : Hp} {s : Shared} (I : Inv X pins σ H s) : interactive X.env = false := by simp [interactive, I.ok.kind]
def tDrop (te : TE) : TS := fun D σ H => te σ H fun _ H1 => D.nx σ H1
theorem ps_expr (he : PE X e te) (hs : swapsWith e none pos.line X.env = pure false := by rfl) : PS X (.Expr e pos) (tDrop te) := by
  intro pins s σ H D I h
  exact wpAny_Expr_any (thn (he pins s σ H _ I h) fun v s1 ⟨x, H1, I1, r1, q1⟩ => ⟨σ, H1, I1, q1⟩) I.quiet hs
def tRet (te : TE) : TS := fun D σ H => te σ H D.rt
theorem ps_ret (he : PE X e te) : PS X (.Return (some e) pos) (tRet te) := by
  intro pins s σ H D I h
  exact wpAny_Return_some (thn (he pins s σ H _ I h) fun v s1 ⟨x, H1, I1, r1, q1⟩ => ⟨x, σ, H1, I1, r1, q1⟩)
def tIfS (c : TT) (t u : TS) : TS := fun D σ H => c σ H fun b H1 => if b = true then t D σ H1 else u D σ H1
theorem ps_if {c : Expr} {a b : List Stmt} {tc : TT} (hc : PT X c tc) (ha : PSs X a t) (hb : PSs X b u) : PS X (.If c a b pos) (tIfS tc t u) := by
  intro pins s σ H D I h
  refine wpAny_If (thn (hc pins s σ H _ I h) fun d s1 ⟨H1, I1, q1⟩ => ?_)
  cases d with
  | true => exact ha pins s1 σ H1 D I1 q1
  | false => exact hb pins s1 σ H1 D I1 q1
end

abbrev TG := V → St → Hp → (St → Hp → Prop) → Prop
abbrev TGs := List V → St → Hp → (St → Hp → Prop) → Prop
def PG (X : Cx) (target : Expr) (t : TG) : Prop :=
  ∀ (pins : List (Addr × Obj)) (s : Shared) (σ : St) (H : Hp) (v : V) (u : Value) (Q : St → Hp → Prop), Inv X pins σ H s → RelV v u → t v σ H Q →
    wpAny (model X.prog X.w) X.A (assign target X.env u) (fun _ s' => ∃ σ' H', Inv X pins σ' H' s' ∧ Q σ' H') X.xe s
def PGs (X : Cx) (ts : List Expr) (t : TGs) : Prop :=
  ∀ (pins : List (Addr × Obj)) (s : Shared) (σ : St) (H : Hp) (vs : List V) (us : List Value) (Q : St → Hp → Prop), Inv X pins σ H s → Vals vs us → t vs σ H Q →
    wpAny (model X.prog X.w) X.A (assignInOrder ((assignEach ts X.env).map (·.2)) us) (fun _ s' => ∃ σ' H', Inv X pins σ' H' s' ∧ Q σ' H') X.xe s
section
variable {X : Cx} {pos : Pos}
def gName (i : Nat) : TG := fun v σ H Q => Q (σ.set i (some v)) H
theorem pg_name {i : Nat} {x : Str} (hN : X.N.Nodup) (hi : X.N[i]? = some x) (hx : Loc X.env.scope x) (hf : X.fn x = true ∨ X.env.scope.names.lookup x = some .local := by first | exact .inl rfl | exact .inr rfl | assumption) : PG X (.Name x pos) (gName i) := by
  intro pins s σ H v u Q I r h
  exact wpAny_assign_Name (store_ok I hN hi hx r (fun s' I' => ⟨_, H, I', h⟩) hf)
def gNil : TGs := fun vs σ H Q => vs = [] ∧ Q σ H
def gCons (t : TG) (u : TGs) : TGs := fun vs σ H Q => ∃ v r, vs = v :: r ∧ t v σ H fun σ' H' => u r σ' H' Q
theorem pgs_nil : PGs X [] gNil := by
  intro pins s σ H vs us Q I r h
  obtain ⟨e, h⟩ := h
  subst e
  cases r
  exact assignInOrder_nil ⟨σ, H, I, h⟩
theorem pgs_cons {e : Expr} {es : List Expr} {t : TG} {u : TGs} (h1 : PG X e t) (h2 : PGs X es u)
    (hs : (assignEach (e :: es) X.env).map (·.2) = assign e X.env :: (assignEach es X.env).map (·.2) := by rfl) : PGs X (e :: es) (gCons t u) := by
  intro pins s σ H vs us Q I r h
  obtain ⟨v, vr, e1, h⟩ := h
  subst e1
  cases r with
  | cons r rr =>
    rw [hs]
    refine assignInOrder_cons (thn (h1 pins s σ H _ _ _ I r h) fun _ s1 ⟨σ1, H1, I1, q1⟩ => ?_)
    exact h2 pins s1 σ1 H1 _ _ Q I1 rr q1
def gTup (K : PySem.W.Frag) (n : Nat) (t : TGs) : TG := fun v σ H Q => ∃ a xs, v = .ref a ∧ SqT K H a xs ∧ xs.length = n ∧ t xs σ H Q
theorem pg_tup {es : List Expr} {k : Nat} {t : TGs} {n : Nat} (hc : X.calm = true) (h : PGs X es t)
    (hn : (assignEach es X.env).length = n := by rfl) (hst : (assignEach es X.env).findIdx? (·.1) = none := by rfl) : PG X (.Tuple es k pos) (gTup X.K n t) := by
  intro pins s σ H v u Q I r hw
  obtain ⟨a, xs, e1, hq, hl, hw⟩ := hw
  subst e1
  cases r
  obtain ⟨its, rv, ht, hz⟩ := I.tuple hq
  refine assign_Tuple_tuple (I.ok.hd hc) ht (by simp [hn, ← hl, rv.length]) hst fun h' hx => ?_
  have I1 : Inv X pins σ H { s with heap := h' } := I.kept (t' := s.toks) fun b o e => hx b o (Nat.ne_of_lt (Heap.lt_size e)) e
  exact h pins _ σ H xs _ Q I1 (by simpa using rv) hw
def tAsg (te : TE) (g : TG) : TS := fun D σ H => te σ H fun x H1 => g x σ H1 D.nx
theorem ps_set {i : Nat} {x : Str} {e : Expr} {te : TE} {pos' : Pos} (hN : X.N.Nodup) (hi : X.N[i]? = some x) (hx : Loc X.env.scope x) (he : PE X e te) (hs : swapsWith e (some (.Name x pos')) pos.line X.env = pure false := by rfl) (hf : X.fn x = true ∨ X.env.scope.names.lookup x = some .local := by first | exact .inl rfl | exact .inr rfl | assumption) :
    PS X (.Assign [.Name x pos'] e pos) (tAsg te (gName i)) := by
  intro pins s σ H D I h
  refine wpAny_Assign_Name (thn (he pins s σ H _ I h) fun v s1 ⟨y, H1, I1, r1, q1⟩ => ?_) hs
  exact store_ok I1 hN hi hx r1 (fun s2 I2 => ⟨_, H1, I2, q1⟩) hf
end


structure It where
  go : Nat → Hp → Prop
  yld : Nat → Hp → V → Hp → Prop
  stop : Nat → Hp → Prop
def FpOk (X : Cx) (pins : List (Addr × Obj)) (H : Hp) (b : Addr) : Prop :=
  H b = none ∧ b ≠ X.env.locals ∧ b ∉ X.fs ∧ (b ∈ X.ex ∨ X.s₀.heap.objs.size ≤ b) ∧ (∀ x c, X.env.cells.lookup x = some c → c ≠ b) ∧ ∀ p ∈ X.pn ++ pins, p.1 ≠ b
theorem Inv.fpOk {X : Cx} {pins : List (Addr × Obj)} {σ : St} {H H' : Hp} {s : Shared} {b : Addr} (I : Inv X pins σ H s) (hb : s.heap.objs.size ≤ b) (hn : H' b = none) : FpOk X pins H' b := by
  refine ⟨hn, Nat.ne_of_gt (Nat.lt_of_lt_of_le I.lt hb), I.nofs hb, .inr (Nat.le_trans I.sz hb), fun x c e z => ?_, fun p hp z => ?_⟩
  · obtain ⟨v, q⟩ := I.cell x c e
    exact absurd (Nat.lt_of_lt_of_le q.lt (by rw [z]; exact hb)) (Nat.lt_irrefl _)
  · exact absurd (Nat.lt_of_lt_of_le (Heap.lt_size (I.pin p hp).1) (by rw [z]; exact hb)) (Nat.lt_irrefl _)
structure Turn (P : Program) (w : World) (K : PySem.W.Frag) (tg : Expr) (J : It) (fp : List Addr) (it : Addr) (tn : Nat → Heap → Prop) : Prop where
  mem : it ∈ fp
  obj : ∀ i h, tn i h → ∀ b ∈ fp, ∃ o, h.get? b = some o ∧ ∀ v, o.data ≠ .cell v
  keep : ∀ i h h', tn i h → (∀ b ∈ fp, ∀ o, h.get? b = some o → h'.get? b = some o) → tn i h'
  item : ∀ (X : Cx), X.prog = P → X.w = w → X.K = K → X.calm = true → ∀ (i : Nat) (pins : List (Addr × Obj)) (s : Shared) (σ : St) (H : Hp) (E : Value → Shared → Prop), Inv X pins σ H s → (∀ b ∈ fp, FpOk X pins H b) → tn i s.heap → J.go i H →
    wpAny (model P w) X.A (pyNext (.ref it)) (fun r s1 => ∃ u, r = some u ∧
      wpAny (model P w) X.A (letOwnedTupleGo tg (.ref it) u) (fun _ s2 => ∃ x H', Inv X pins σ H' s2 ∧ RelV x u ∧ J.yld i H x H' ∧ tn (i + 1) s2.heap ∧ ∀ b ∈ fp, H' b = none) E s1) E s
  done : ∀ (X : Cx), X.prog = P → X.w = w → X.K = K → X.calm = true → ∀ (i : Nat) (pins : List (Addr × Obj)) (s : Shared) (σ : St) (H : Hp) (E : Value → Shared → Prop), Inv X pins σ H s → (∀ b ∈ fp, FpOk X pins H b) → tn i s.heap → J.stop i H →
    wpAny (model P w) X.A (pyNext (.ref it)) (fun r s1 => r = none ∧ Inv X pins σ H s1) E s
  self : ∀ (A : Around) (i : Nat) (s : Shared) (Q : Value → Shared → Prop) (E : Value → Shared → Prop), tn i s.heap → Q (.ref it) s → wpAny (model P w) A (pyIter (.ref it)) Q E s
abbrev TI := St → Hp → (It → Hp → Prop) → Prop
def PIE (X : Cx) (pins : List (Addr × Obj)) (σ : St) (tg : Expr) (R : It → Hp → Prop) (itv : Value) (s2 : Shared) : Prop :=
  ∃ (it : Addr) (fp : List Addr) (tn : Nat → Heap → Prop) (J : It) (H' : Hp), itv = .ref it ∧ Inv X pins σ H' s2 ∧ Turn X.prog X.w X.K tg J fp it tn ∧ tn 0 s2.heap ∧ (∀ b ∈ fp, FpOk X pins H' b) ∧ R J H'
def PI (X : Cx) (tg iter : Expr) (wi : TI) : Prop :=
  ∀ (pins : List (Addr × Obj)) (s : Shared) (σ : St) (H : Hp) (R : It → Hp → Prop), Inv X pins σ H s → wi σ H R →
    wpAny (model X.prog X.w) X.A (eval iter X.env) (fun v s1 => wpAny (model X.prog X.w) X.A (pyIter v) (PIE X pins σ tg R) X.xe s1) X.xe s

theorem go_of {M : Model} {A : Around} {E : Value → Shared → Prop} {s : Shared} {tg : Expr} {it : Addr} {u : Value} {o : Obj} {n : String} {vs : Array Value} {Q : Unit → Shared → Prop} (ho : s.heap.get? it = some o) (hc : o.cls = .type n) (hd : o.data = .fields vs)
    (hn : ["enumerate", "zip", "dict_itemiterator", "dict_reverseitemiterator", "odict_iterator", "itertools.zip_longest", "itertools.pairwise"].contains n = false) (hQ : Q () s) : wpAny M A (letOwnedTupleGo tg (.ref it) u) Q E s := by
  unfold letOwnedTupleGo
  cases tg <;> first
    | exact wpAny_pure hQ
    | (cases u <;> first
        | exact wpAny_pure hQ
        | (refine wpAny_bind (wpAny_load ho ?_)
           rw [hc, hd]
           show wpAny M A (if (["enumerate", "zip", "dict_itemiterator", "dict_reverseitemiterator", "odict_iterator", "itertools.zip_longest", "itertools.pairwise"].contains n && vs[0]? == some (rawInt _)) = true then _ else _) Q E s
           rw [if_neg (by intro h; rw [hn, Bool.false_and] at h; cases h)]
           exact wpAny_pure hQ))

def Itl (K : PySem.W.Frag) (a : Addr) : It :=
  ⟨fun i H => ∃ xs x, SqL K H a xs ∧ xs[i]? = some x, fun i H x H' => H' = H ∧ ∀ xs, SqL K H a xs → xs[i]? = some x, fun i H => ∃ xs, SqL K H a xs ∧ xs.length ≤ i⟩
def Itr (lo : Int) (n : Nat) : It := ⟨fun i _ => i < n, fun i H x H' => H' = H ∧ x = .int (lo + i), fun i _ => n ≤ i⟩
theorem turn_list {P : Program} {w : World} {K : PySem.W.Frag} {tg : Expr} (a it : Addr) : Turn P w K tg (Itl K a) [it] it (fun i h => h.IsListIter it a i) where
  mem := by simp
  obj := fun i h st b hb => by
    have e : b = it := by simpa using hb
    subst e
    obtain ⟨o, e, c, d⟩ := st
    exact ⟨o, e, fun v z => by rw [d] at z; cases z⟩
  keep := fun i h h' st k => st.at fun o e => k it (by simp) o e
  item := by
    intro X hP hw hK hc i pins s σ H E I hf st hg
    subst hP hw hK
    obtain ⟨xs, x, hq, hx⟩ := hg
    obtain ⟨its, rv, p, hz⟩ := I.list hq
    obtain ⟨u, hu, ru⟩ := rv.get hx
    obtain ⟨f0, f1, f2, f3, f4, f5⟩ := hf it (by simp)
    refine wpAny_pyNext_list_item st p.isList (x := u) (by simpa using hu) fun h' st' sb => ?_
    have I1 : Inv X pins σ H { s with heap := h' } := I.turned (t' := s.toks) (fun b o hb e => (sb.2 b hb).trans e) f0 f1 f3 f4 f5
    obtain ⟨o, e, c, d⟩ := id st'
    exact ⟨u, rfl, go_of (s := { s with heap := h' }) e c d (by decide) ⟨x, H, I1, ru, ⟨rfl, fun ys hy => by rw [I.list_inj hy hq]; exact hx⟩, st', fun b hb => (hf b hb).1⟩⟩
  done := by
    intro X hP hw hK hc i pins s σ H E I hf st hg
    subst hP hw hK
    obtain ⟨xs, hq, hx⟩ := hg
    obtain ⟨its, rv, p, hz⟩ := I.list hq
    obtain ⟨f0, f1, f2, f3, f4, f5⟩ := hf it (by simp)
    have hl := rv.length
    exact wpAny_pyNext_list_end (I.ok.hd hc) st p.isList (by simp; omega) fun h' eb => ⟨rfl, I.turned (t' := s.toks) (fun b o hb e => eb b o hb e) f0 f1 f3 f4 f5⟩
  self := fun _ _ _ _ _ st h => wpAny_pyIter_listiter st h
theorem turn_range {P : Program} {w : World} {K : PySem.W.Frag} {tg : Expr} (it : Addr) (lo : Int) (n : Nat) : Turn P w K tg (Itr lo n) [it] it (fun i h => IsRangeIter h it (lo + (i : Nat) * 1) ((n : Int) - (i : Nat)) 1) where
  mem := by simp
  obj := fun i h st b hb => by
    have e : b = it := by simpa using hb
    subst e
    exact ⟨_, st, fun v z => by
      have z' : Data.fields _ = Data.cell v := z
      cases z'⟩
  keep := fun i h h' st k => k it (by simp) _ st
  item := by
    intro X hP hw hK hc i pins s σ H E I hf st hg
    subst hP hw hK
    obtain ⟨f0, f1, f2, f3, f4, f5⟩ := hf it (by simp)
    have W := Walks.range (prog := X.prog) (w := X.w) (I.ok.hd hc) it lo 1 n
    refine W.item i s _ _ hg st fun v h' tk hv st' kk => ?_
    obtain ⟨t, rfl⟩ := hv
    have I1 : Inv X pins σ H { s with heap := h', toks := tk } := I.turned (fun b o hb e => kk b o (by simpa using hb) e) f0 f1 f3 f4 f5
    refine ⟨_, rfl, go_of (s := { s with heap := h', toks := tk }) (n := "range_iterator") st' rfl rfl (by decide) ⟨.int (lo + i), H, I1, ⟨t, ?_⟩, ⟨rfl, rfl⟩, st', fun b hb => (hf b hb).1⟩⟩
    rw [Int.mul_one]
  done := by
    intro X hP hw hK hc i pins s σ H E I hf st hg
    subst hP hw hK
    obtain ⟨f0, f1, f2, f3, f4, f5⟩ := hf it (by simp)
    exact wpAny_pyNext_range_end (I.ok.hd hc) st (by have : n ≤ i := hg; omega) fun h' eb => ⟨rfl, I.turned (t' := s.toks) (fun b o hb e => eb b o hb e) f0 f1 f3 f4 f5⟩
  self := fun _ _ _ _ _ st h => wpAny_pyIter_rangeiter st h
end L2

namespace L2
open PySem PySem.Spec PyProof.Rows
section
variable {X : Cx} {tg : Expr}
def iList (K : PySem.W.Frag) (tl : TE) : TI := fun σ H R => tl σ H fun x H1 => ∃ a, x = .ref a ∧ (∃ xs, SqL K H1 a xs) ∧ R (Itl K a) H1
theorem pi_list {l : Expr} {tl : TE} (hl : PE X l tl) : PI X tg l (iList X.K tl) := by
  intro pins s σ H R I h
  refine thn (hl pins s σ H _ I h) fun v s1 ⟨x, H1, I1, r1, q1⟩ => ?_
  obtain ⟨a, e, ⟨xs, hq⟩, q⟩ := q1
  subst e
  cases r1
  obtain ⟨its, rv, p, hz⟩ := I1.list hq
  refine wpAny_pyIter_list p.isList ?_
  refine ⟨s1.heap.objs.size, [s1.heap.objs.size], _, _, H1, rfl, I1.kept (t' := s1.toks) fun b o e => Heap.get?_push_of_some _ e, turn_list a _, ⟨_, Heap.get?_push_size _ rfl, rfl, rfl⟩, fun b hb => ?_, q⟩
  have e : b = s1.heap.objs.size := by simpa using hb
  subst e
  exact I1.fpOk (Nat.le_refl _) (I1.hok.fresh (Nat.le_refl _))
theorem range_it {pins : List (Addr × Obj)} {σ : St} {H : Hp} {s : Shared} {R : It → Hp → Prop} {E : Value → Shared → Prop} {lo hi : Int} {t u v : Tok} {tk : Nat} (I : Inv X pins σ H s) (h1 : -(2 ^ 62) ≤ lo) (h2 : lo < 2 ^ 62) (h3 : -(2 ^ 62) ≤ hi) (h4 : hi < 2 ^ 62)
    (q : R (Itr lo (hi - lo).toNat) H) : wpAny (model X.prog X.w) X.A (pyIter (.ref s.heap.objs.size)) (PIE X pins σ tg R) E { s with heap := s.heap.push { cls := .type "range", data := .fields #[.int lo t, .int hi u, .int 1 v] }, toks := tk } := by
  refine wpAny_pyIter_range (IsRange.new ..) (small_one h1 h2 h3 h4) ?_
  have I1 : Inv X pins σ H { s with heap := s.heap.push { cls := .type "range", data := .fields #[.int lo t, .int hi u, .int 1 v] }, toks := tk } := I.kept fun b o e => Heap.get?_push_of_some _ e
  refine ⟨(s.heap.push { cls := .type "range", data := .fields #[.int lo t, .int hi u, .int 1 v] }).objs.size, [(s.heap.push { cls := .type "range", data := .fields #[.int lo t, .int hi u, .int 1 v] }).objs.size], _, _, H, rfl,
    I1.kept (t' := tk) fun b o e => Heap.get?_push_of_some _ e, turn_range _ lo (hi - lo).toNat, ?_, fun b hb => ?_, q⟩
  · have e1 : lo + ((0 : Nat) : Int) * 1 = lo := by simp
    have e2 : (((hi - lo).toNat : Nat) : Int) - ((0 : Nat) : Int) = Builtin.Range.rangeSize lo hi 1 := by rw [rangeSize_one]; split <;> omega
    show IsRangeIter _ _ (lo + ((0 : Nat) : Int) * 1) ((((hi - lo).toNat : Nat) : Int) - ((0 : Nat) : Int)) 1
    rw [e1, e2]
    exact Heap.get?_push_size _ rfl
  · have e : b = (s.heap.push { cls := .type "range", data := .fields #[.int lo t, .int hi u, .int 1 v] }).objs.size := by simpa using hb
    subst e
    exact I1.fpOk (Nat.le_refl _) (I1.hok.fresh (Nat.le_refl _))
def iRng1 (ta : TA) : TI := fun σ H R => ta σ H fun vs H1 => ∃ j : Int, vs = [.int j] ∧ -(2 ^ 62) ≤ j ∧ j < 2 ^ 62 ∧ R (Itr 0 j.toNat) H1
def iRng2 (ta : TA) : TI := fun σ H R => ta σ H fun vs H1 => ∃ i j : Int, vs = [.int i, .int j] ∧ (-(2 ^ 62) ≤ i ∧ i < 2 ^ 62 ∧ -(2 ^ 62) ≤ j ∧ j < 2 ^ 62) ∧ R (Itr i (j - i).toNat) H1
theorem pi_range1 {a : Expr} {ta : TA} {p pos : Pos} (hg : Gl X "range") (hm : X.mg "range" = none) (ha : PA X [a] ta) (hs : starEach [a] X.env = [(false, eval a X.env)] := by rfl) : PI X tg (.Call (.Name "range" p) [a] [] pos) (iRng1 ta) := by
  intro pins s σ H R I h
  refine Call_ (ld_blt I hg hm boot_range (PyProof.Rows.callWith_type1 (thn (ha pos pins s σ H _ I h) fun us s1 ⟨vs, H1, I1, r1, q1⟩ => ?_) hs rfl))
  obtain ⟨j, e, q1, q2, q⟩ := q1
  subst e
  cases r1 with
  | cons r rr =>
    cases rr
    obtain ⟨t, rfl⟩ := r
    exact call_range_1 (range_it I1 (by omega) (by omega) q1 q2 (by simpa using q))
theorem pi_range2 {a b : Expr} {ta : TA} {p pos : Pos} (hg : Gl X "range") (hm : X.mg "range" = none) (ha : PA X [a, b] ta) (hs : starEach [a, b] X.env = [(false, eval a X.env), (false, eval b X.env)] := by rfl) (hs2 : starEach [b] X.env = [(false, eval b X.env)] := by rfl) :
    PI X tg (.Call (.Name "range" p) [a, b] [] pos) (iRng2 ta) := by
  intro pins s σ H R I h
  refine Call_ (ld_blt I hg hm boot_range (PyProof.Rows.callWith_type1 (thn (ha pos pins s σ H _ I h) fun us s1 ⟨vs, H1, I1, r1, q1⟩ => ?_) (by rw [hs, hs2]) (by rw [hs2]; rfl)))
  obtain ⟨i, j, e, ⟨q1, q2, q3, q4⟩, q⟩ := q1
  subst e
  cases r1 with
  | cons r rr =>
    cases rr with
    | cons r' rr =>
      cases rr
      obtain ⟨t, rfl⟩ := r
      obtain ⟨t', rfl⟩ := r'
      exact call_range_2 (range_it I1 q1 q2 q3 q4 q)

def tFor (wi : TI) (g : TG) (tb : TS) : TS := fun D σ H => wi σ H fun J H1 => ∃ W : Nat → Nat → St → Hp → Prop, (∃ m, W 0 m σ H1) ∧ ∀ i m σ H, W i m σ H →
  (J.stop i H ∧ D.nx σ H) ∨ (J.go i H ∧ ∃ N : St → Hp → Prop, (∀ σ' H', N σ' H' → ∃ m', m' < m ∧ W (i + 1) m' σ' H') ∧ ∀ x H', J.yld i H x H' → g x σ H' fun σ2 H2 => tb { D with nx := N, ct := N, bk := D.nx } σ2 H2)
def pinsAt (fp : List Addr) (h : Heap) : List (Addr × Obj) := fp.filterMap fun b => (h.get? b).map fun o => (b, o)
theorem mem_pinsAt {fp : List Addr} {h : Heap} {b : Addr} {o : Obj} (hb : b ∈ fp) (e : h.get? b = some o) : (b, o) ∈ pinsAt fp h := List.mem_filterMap.mpr ⟨b, hb, by rw [e]; rfl⟩
theorem of_pinsAt {fp : List Addr} {h : Heap} {p : Addr × Obj} (hp : p ∈ pinsAt fp h) : p.1 ∈ fp ∧ h.get? p.1 = some p.2 := by
  obtain ⟨b, hb, e⟩ := List.mem_filterMap.mp hp
  cases q : h.get? b with
  | none => rw [q] at e; cases e
  | some o =>
    rw [q] at e
    have e' : (b, o) = p := Option.some.inj e
    subst e'
    exact ⟨hb, q⟩
theorem Inv.pinned {pins : List (Addr × Obj)} {σ : St} {H : Hp} {s : Shared} {fp : List Addr} (I : Inv X pins σ H s) (hf : ∀ b ∈ fp, FpOk X pins H b) (ho : ∀ b ∈ fp, ∃ o, s.heap.get? b = some o ∧ ∀ v, o.data ≠ .cell v) : Inv X (pins ++ pinsAt fp s.heap) σ H s :=
  I.pins_of fun p hp => (List.mem_append.mp hp).elim (fun z => I.pin p (List.mem_append_right _ z)) fun z => by
    obtain ⟨hb, e⟩ := of_pinsAt z
    obtain ⟨f0, f1, f2, _⟩ := hf p.1 hb
    obtain ⟨o, e', d⟩ := ho p.1 hb
    rw [e] at e'; cases e'
    exact ⟨e, f0, f1, f2, d⟩
theorem Inv.unpinned {pins pl : List (Addr × Obj)} {σ : St} {H : Hp} {s : Shared} (I : Inv X (pins ++ pl) σ H s) : Inv X pins σ H s := I.pins_of fun p hp => I.pin p (List.mem_append_right _ (List.mem_append_left _ hp))
theorem ps_for {iter : Expr} {body : List Stmt} {wi : TI} {g : TG} {tb : TS} {pos : Pos} (hp : PassesOwn (model X.prog X.w) X.A X.env X.xe) (hc : X.calm = true) (hi : PI X tg iter wi) (hg : PG X tg g) (hb : PSs X body tb)
    (hs : ∀ x, foldedSetIterable iter X.env x = pure x := by intro _; rfl) : PS X (.For tg iter body [] pos) (tFor wi g tb) := by
  intro pins s σ H D I h
  refine wpAny_For (thn (hi pins s σ H _ I h) fun v s1 h1 => thn h1 fun itv s2 h2 => ?_) hs
  obtain ⟨it, fp, tn, J, H2, e, I2, T, st2, f2, W, ⟨m0, w0⟩, turn⟩ := h2
  subst e
  have stat : ∀ {H' : Hp}, (∀ b ∈ fp, H' b = none) → ∀ b ∈ fp, FpOk X pins H' b := fun hn b hb => ⟨hn b hb, (f2 b hb).2⟩
  refine codeAny_forLoop_any (fun n s' => ∃ i σ' H', Inv X pins σ' H' s' ∧ tn i s'.heap ∧ (∀ b ∈ fp, H' b = none) ∧ W i n σ' H') ?_ m0 ⟨0, σ, H2, I2, st2, fun b hb => (f2 b hb).1, w0⟩
  rintro n s3 ⟨i, σ3, H3, I3, st3, fr3, w3⟩
  rcases turn i n σ3 H3 w3 with ⟨stop, qn⟩ | ⟨go, N, hN, step⟩
  · refine wpAny_passesOwn hp (thn (T.done X rfl rfl rfl hc i pins s3 σ3 H3 X.xe I3 (stat fr3) st3 stop) fun r s4 ⟨hr, I4⟩ => ?_)
    subst hr
    exact wpAny_execs_nil ⟨σ3, H3, I4, qn⟩
  · refine wpAny_passesOwn hp (thn (T.item X rfl rfl rfl hc i pins s3 σ3 H3 X.xe I3 (stat fr3) st3 go) fun r s4 ⟨u, hr, h4⟩ => ?_)
    subst hr
    refine wpAny_passesOwn hp (thn h4 fun _ s5 ⟨x, H5, I5, r5, y5, st5, fr5⟩ => ?_)
    have I5' := I5.pinned (stat fr5) (T.obj _ _ st5)
    refine wpAny_passesOwn hp (thn (hg _ s5 σ3 H5 x u _ I5' r5 (step x H5 y5)) fun _ s6 ⟨σ6, H6, I6, q6⟩ => ?_)
    refine wpAny_passesOwn hp (thn (hb _ s6 σ6 H6 _ I6 q6) fun f s7 q7 => ?_)
    have again : ∀ {σ7 : St} {H7 : Hp}, Inv X (pins ++ pinsAt fp s5.heap) σ7 H7 s7 → N σ7 H7 → ∃ m, m < n ∧ ∃ i σ' H', Inv X pins σ' H' s7 ∧ tn i s7.heap ∧ (∀ b ∈ fp, H' b = none) ∧ W i m σ' H' := fun {σ7 H7} I7 n7 => by
      obtain ⟨m', hm, w7⟩ := hN σ7 H7 n7
      refine ⟨m', hm, i + 1, σ7, H7, I7.unpinned, T.keep _ _ _ st5 fun b hb o e => (I7.pin (b, o) (List.mem_append_right _ (List.mem_append_right _ (mem_pinsAt hb e)))).1, fun b hb => ?_, w7⟩
      obtain ⟨o, e, d⟩ := T.obj _ _ st5 b hb
      exact (I7.pin (b, o) (List.mem_append_right _ (List.mem_append_right _ (mem_pinsAt hb e)))).2.1
    cases f with
    | next => obtain ⟨σ7, H7, I7, n7⟩ := q7; exact again I7 n7
    | cont => obtain ⟨σ7, H7, I7, n7⟩ := q7; exact again I7 n7
    | brk => obtain ⟨σ7, H7, I7, q7⟩ := q7; exact ⟨σ7, H7, I7.unpinned, q7⟩
    | ret v => obtain ⟨x7, σ7, H7, I7, r7, q7⟩ := q7; exact ⟨x7, σ7, H7, I7.unpinned, r7, q7⟩
end

theorem for_list {K : PySem.W.Frag} {a : Addr} {xs : List V} {g : TG} {tb : TS} {D : Ends} {σ : St} {H : Hp} (Pv : Nat → St → Hp → Prop) (h0 : Pv 0 σ H) (hl : ∀ i σ H, i ≤ xs.length → Pv i σ H → SqL K H a xs)
    (hs : ∀ i x σ H, xs[i]? = some x → Pv i σ H → g x σ H fun σ2 H2 => tb { D with nx := Pv (i + 1), ct := Pv (i + 1), bk := D.nx } σ2 H2) (hd : ∀ σ H, Pv xs.length σ H → D.nx σ H) :
    ∃ W : Nat → Nat → St → Hp → Prop, (∃ m, W 0 m σ H) ∧ ∀ i m σ H, W i m σ H →
      ((Itl K a).stop i H ∧ D.nx σ H) ∨ ((Itl K a).go i H ∧ ∃ N : St → Hp → Prop, (∀ σ' H', N σ' H' → ∃ m', m' < m ∧ W (i + 1) m' σ' H') ∧ ∀ x H', (Itl K a).yld i H x H' → g x σ H' fun σ2 H2 => tb { D with nx := N, ct := N, bk := D.nx } σ2 H2) := by
  refine ⟨fun i m σ H => m = xs.length - i ∧ i ≤ xs.length ∧ Pv i σ H, ⟨xs.length, by simp, Nat.zero_le _, h0⟩, ?_⟩
  rintro i m σ H ⟨rfl, hi, p⟩
  have q := hl i σ H hi p
  by_cases hlt : i < xs.length
  · refine .inr ⟨⟨xs, xs[i], q, by simp [hlt]⟩, Pv (i + 1), fun σ' H' p' => ⟨xs.length - (i + 1), by omega, rfl, hlt, p'⟩, fun x H' y => ?_⟩
    obtain ⟨e, y⟩ := y
    subst e
    exact hs i x σ _ (y xs q) p
  · have e : i = xs.length := by omega
    subst e
    exact .inl ⟨⟨xs, q, Nat.le_refl _⟩, hd σ H p⟩
theorem for_range {lo : Int} {n : Nat} {g : TG} {tb : TS} {D : Ends} {σ : St} {H : Hp} (Pv : Nat → St → Hp → Prop) (h0 : Pv 0 σ H)
    (hs : ∀ i σ H, i < n → Pv i σ H → g (.int (lo + i)) σ H fun σ2 H2 => tb { D with nx := Pv (i + 1), ct := Pv (i + 1), bk := D.nx } σ2 H2) (hd : ∀ σ H, Pv n σ H → D.nx σ H) :
    ∃ W : Nat → Nat → St → Hp → Prop, (∃ m, W 0 m σ H) ∧ ∀ i m σ H, W i m σ H →
      ((Itr lo n).stop i H ∧ D.nx σ H) ∨ ((Itr lo n).go i H ∧ ∃ N : St → Hp → Prop, (∀ σ' H', N σ' H' → ∃ m', m' < m ∧ W (i + 1) m' σ' H') ∧ ∀ x H', (Itr lo n).yld i H x H' → g x σ H' fun σ2 H2 => tb { D with nx := N, ct := N, bk := D.nx } σ2 H2) := by
  refine ⟨fun i m σ H => m = n - i ∧ i ≤ n ∧ Pv i σ H, ⟨n, by simp, Nat.zero_le _, h0⟩, ?_⟩
  rintro i m σ H ⟨rfl, hi, p⟩
  by_cases hlt : i < n
  · refine .inr ⟨hlt, Pv (i + 1), fun σ' H' p' => ⟨n - (i + 1), by omega, rfl, hlt, p'⟩, fun x H' y => ?_⟩
    obtain ⟨e, y⟩ := y
    subst e y
    exact hs i σ _ hlt p
  · have e : i = n := by omega
    subst e
    exact .inl ⟨Nat.le_refl _, hd σ H p⟩
end L2

namespace L2
open PySem PySem.Spec PyProof.Rows

abbrev R2 := V → V → Hp → VK → Prop
def OpR (X : Cx) (f : Value → Value → Sem Value) (r : R2) : Prop :=
  ∀ (pins : List (Addr × Obj)) (s : Shared) (σ : St) (H : Hp) (x y : V) (v u : Value) (Q : VK), Inv X pins σ H s → RelV x v → RelV y u → r x y H Q →
    wpAny (model X.prog X.w) X.A (f v u) (EP X pins σ Q) X.xe s
def UnR (X : Cx) (f : Value → Sem Value) (r : V → Hp → VK → Prop) : Prop :=
  ∀ (pins : List (Addr × Obj)) (s : Shared) (σ : St) (H : Hp) (x : V) (v : Value) (Q : VK), Inv X pins σ H s → RelV x v → r x H Q →
    wpAny (model X.prog X.w) X.A (f v) (EP X pins σ Q) X.xe s
def CallR (X : Cx) (f : Value) (r : List V → Hp → VK → Prop) : Prop :=
  ∀ (pins : List (Addr × Obj)) (s : Shared) (σ : St) (H : Hp) (xs : List V) (us : List Value) (Q : VK), Inv X pins σ H s → Vals xs us → r xs H Q →
    wpAny (model X.prog X.w) X.A (call f us) (EP X pins σ Q) X.xe s
def tOp (r : R2) (ta tb : TE) : TE := fun σ H Q => ta σ H fun x H1 => tb σ H1 fun y H2 => r x y H2 Q
def tUn (r : V → Hp → VK → Prop) (ta : TE) : TE := fun σ H Q => ta σ H fun x H1 => r x H1 Q
def rI (C : Int → Int → Prop) (g : Int → Int → V) : R2 := fun x y H Q => ∃ i j, x = .int i ∧ y = .int j ∧ C i j ∧ Q (g i j) H
def rI0 (g : Int → Int → V) : R2 := fun x y H Q => ∃ i j, x = .int i ∧ y = .int j ∧ Q (g i j) H
def rU (g : Int → V) : V → Hp → VK → Prop := fun x H Q => ∃ i, x = .int i ∧ Q (g i) H

section
variable {X : Cx} {a b c : Expr} {ta tb tc : TE} {pos : Pos}

theorem binT (ha : PE X a ta) (hb : PE X b tb) {pins : List (Addr × Obj)} {s : Shared} {σ : St} {H : Hp} {R : V → V → Hp → Prop} (I : Inv X pins σ H s)
    (h : ta σ H fun x H1 => tb σ H1 fun y H2 => R x y H2) {Q : Value → Shared → Prop} {f : Value → Value → Sem Value}
    (hf : ∀ v u s2 x y H2, Inv X pins σ H2 s2 → RelV x v → RelV y u → R x y H2 → wpAny (model X.prog X.w) X.A (f v u) Q X.xe s2) :
    wpAny (model X.prog X.w) X.A (eval a X.env) (fun v s₁ => wpAny (model X.prog X.w) X.A (eval b X.env) (fun u s₂ => wpAny (model X.prog X.w) X.A (f v u) Q X.xe s₂) X.xe s₁) X.xe s := by
  refine thn (ha pins s σ H _ I h) fun v s1 ⟨x, H1, I1, r1, q1⟩ => ?_
  refine thn (hb pins s1 σ H1 _ I1 q1) fun u s2 ⟨y, H2, I2, r2, q2⟩ => ?_
  exact hf v u s2 x y H2 I2 r1 r2 q2

theorem pe_op {op : Operator} {r : R2} (ho : OpR X (binaryOp op) r) (ha : PE X a ta) (hb : PE X b tb) : PE X (.BinOp a op b pos) (tOp r ta tb) := by
  intro pins s σ H Q I h
  exact wpAny_BinOp (binT ha hb I h fun v u s2 x y H2 I2 rx ry q => ho pins s2 σ H2 x y v u Q I2 rx ry q)
theorem pe_un {op : UnaryOp} {r : V → Hp → VK → Prop} (ho : UnR X (unaryOp op) r) (ha : PE X a ta) : PE X (.UnaryOp op a pos) (tUn r ta) := by
  intro pins s σ H Q I h
  exact UnaryOp_ (thn (ha pins s σ H _ I h) fun v s1 ⟨x, H1, I1, r1, q1⟩ => ho pins s1 σ H1 x v Q I1 r1 q1)
theorem opI {f : Value → Value → Sem Value} {C : Int → Int → Prop} {g : Int → Int → Int}
    (rule : ∀ (i j : Int) (t u : Tok) (s : Shared) (Q : Value → Shared → Prop) (E : Value → Shared → Prop), C i j → Q (.int (g i j) s.toks) { s with toks := s.toks + 1 } → wpAny (model X.prog X.w) X.A (f (.int i t) (.int j u)) Q E s) :
    OpR X f (rI C fun i j => .int (g i j)) := by
  intro pins s σ H x y v u Q I rx ry h
  obtain ⟨i, j, rfl, rfl, hc, q⟩ := h
  obtain ⟨t, rfl⟩ := rx
  obtain ⟨t', rfl⟩ := ry
  exact rule i j t t' s _ _ hc ⟨.int (g i j), H, I.tok _, ⟨_, rfl⟩, q⟩
theorem opI0 {f : Value → Value → Sem Value} {g : Int → Int → Int}
    (rule : ∀ (i j : Int) (t u : Tok) (s : Shared) (Q : Value → Shared → Prop) (E : Value → Shared → Prop), Q (.int (g i j) s.toks) { s with toks := s.toks + 1 } → wpAny (model X.prog X.w) X.A (f (.int i t) (.int j u)) Q E s) :
    OpR X f (rI0 fun i j => .int (g i j)) := by
  intro pins s σ H x y v u Q I rx ry h
  obtain ⟨i, j, rfl, rfl, q⟩ := h
  obtain ⟨t, rfl⟩ := rx
  obtain ⟨t', rfl⟩ := ry
  exact rule i j t t' s _ _ ⟨.int (g i j), H, I.tok _, ⟨_, rfl⟩, q⟩
theorem opB0 {f : Value → Value → Sem Value} {g : Int → Int → Bool}
    (rule : ∀ (i j : Int) (t u : Tok) (s : Shared) (Q : Value → Shared → Prop) (E : Value → Shared → Prop), Q (.bool (g i j)) s → wpAny (model X.prog X.w) X.A (f (.int i t) (.int j u)) Q E s) :
    OpR X f (rI0 fun i j => .bl (g i j)) := by
  intro pins s σ H x y v u Q I rx ry h
  obtain ⟨i, j, rfl, rfl, q⟩ := h
  obtain ⟨t, rfl⟩ := rx
  obtain ⟨t', rfl⟩ := ry
  exact rule i j t t' s _ _ ⟨.bl (g i j), H, I, rfl, q⟩

def CDiv (i j : Int) : Prop := 0 < j ∧ j < 1073741824
def CPow (i j : Int) : Prop := 0 ≤ j ∧ j ≤ 1000000 ∧ i.natAbs < 2 ^ 64
theorem op_add : OpR X (binaryOp .Add) (rI0 fun i j => .int (i + j)) := opI0 fun _ _ _ _ _ _ _ q => add_int q
theorem op_sub : OpR X (binaryOp .Sub) (rI0 fun i j => .int (i - j)) := opI0 fun _ _ _ _ _ _ _ q => sub_int q
theorem op_fdiv : OpR X (binaryOp .FloorDiv) (rI CDiv fun i j => .int (i / j)) := opI fun i j _ _ _ _ _ hc q => by
  have h1 : (0 : Int) < j := hc.1
  have h2 : j < 1073741824 := hc.2
  exact floordiv_int (by omega) (by rw [Int.fdiv_eq_ediv_of_nonneg i (by omega)]; exact q) (.inl (PyProof.noPylong_small (by omega)))
theorem op_mod : OpR X (binaryOp .Mod) (rI (fun _ j => 0 < j) fun i j => .int (i % j)) := opI fun i j _ _ _ _ _ hc q => by
  have h1 : (0 : Int) < j := hc
  exact mod_int' (by omega) (by rw [Int.fmod_eq_emod_of_nonneg i (by omega)]; exact q)
theorem op_pow : OpR X (binaryOp .Pow) (rI CPow fun i j => .int (i ^ j.toNat)) := opI fun _ _ _ _ _ _ _ hc q => pow_int_small hc.1 hc.2.1 hc.2.2 q
theorem unI {f : Value → Sem Value} {g : Int → Int}
    (rule : ∀ (i : Int) (t : Tok) (s : Shared) (Q : Value → Shared → Prop) (E : Value → Shared → Prop), Q (.int (g i) s.toks) { s with toks := s.toks + 1 } → wpAny (model X.prog X.w) X.A (f (.int i t)) Q E s) :
    UnR X f (rU fun i => .int (g i)) := by
  intro pins s σ H x v Q I rx h
  obtain ⟨i, rfl, q⟩ := h
  obtain ⟨t, rfl⟩ := rx
  exact rule i t s _ _ ⟨.int (g i), H, I.tok _, ⟨_, rfl⟩, q⟩
theorem un_neg : UnR X (unaryOp .USub) (rU fun i => .int (-i)) := unI fun _ _ _ _ _ q => neg_int q
end

def scal : V → V → Bool
  | .non, .non => true | .non, .int _ => true | .int _, .non => true | .non, .bl _ => true | .bl _, .non => true | .non, .str _ => true | .str _, .non => true
  | .int _, .int _ => true | .bl _, .bl _ => true | .str _, .str _ => true | .byt _, .byt _ => true
  | .int _, .str _ => true | .str _, .int _ => true | .bl _, .str _ => true | .str _, .bl _ => true
  | _, _ => false
def rEq : R2 := fun x y H Q => scal x y = true ∧ Q (.bl (decide (x = y))) H
theorem dec_int {i j : Int} : decide (V.int i = V.int j) = (i == j) := by
  rw [Bool.eq_iff_iff]
  simp
theorem dec_bl {i j : Bool} : decide (V.bl i = V.bl j) = (i == j) := by
  rw [Bool.eq_iff_iff]
  simp
theorem dec_str {i j : Str} : decide (V.str i = V.str j) = (i == j) := by
  rw [Bool.eq_iff_iff]
  simp
theorem dec_byt {i j : Array UInt8} : decide (V.byt i = V.byt j) = (i.toList == j.toList) := by
  rw [Bool.eq_iff_iff]
  cases i
  cases j
  simp

section
variable {X : Cx} {a b c : Expr} {ta tb tc : TE} {pos : Pos}
theorem fin_bl {pins : List (Addr × Obj)} {σ : St} {H : Hp} {s : Shared} {Q : VK} {k k' : Bool} (I : Inv X pins σ H s) (q : Q (.bl k) H) (e : k = k') : EP X pins σ Q (.bool k') s := by
  subst e
  exact ⟨.bl k, H, I, rfl, q⟩
theorem op_eq : OpR X (compareOp .Eq) rEq := by
  intro pins s σ H x y v u Q I rx ry h
  obtain ⟨hs, q⟩ := h
  cases x with
  | non =>
    cases rx
    cases y with
    | non => cases ry; exact PySem.EqNone.eq_none_none (fin_bl I q (by simp))
    | bl j => cases ry; exact PySem.EqNone.eq_none_bool (fin_bl I q (by simp))
    | int j => obtain ⟨t', rfl⟩ := ry; exact PySem.EqNone.eq_none_int (fin_bl I q (by simp))
    | str j => obtain ⟨t', rfl⟩ := ry; exact PySem.EqNone.eq_none_str (fin_bl I q (by simp))
    | _ => exact absurd (show false = true from hs) Bool.false_ne_true
  | bl i =>
    cases rx
    cases y with
    | non => cases ry; exact PySem.EqNone.eq_bool_none (fin_bl I q (by simp))
    | bl j => cases ry; exact eq_bool (fin_bl I q dec_bl)
    | str j => obtain ⟨t', rfl⟩ := ry; exact PySem.EqMixed.eq_bool_str (fin_bl I q (by simp))
    | _ => exact absurd (show false = true from hs) Bool.false_ne_true
  | int i =>
    obtain ⟨t, rfl⟩ := rx
    cases y with
    | non => cases ry; exact PySem.EqNone.eq_int_none (fin_bl I q (by simp))
    | int j => obtain ⟨t', rfl⟩ := ry; exact eq_int (fin_bl I q dec_int)
    | str j => obtain ⟨t', rfl⟩ := ry; exact PySem.EqMixed.eq_int_str (fin_bl I q (by simp))
    | _ => exact absurd (show false = true from hs) Bool.false_ne_true
  | str i =>
    obtain ⟨t, rfl⟩ := rx
    cases y with
    | non => cases ry; exact PySem.EqNone.eq_str_none (fin_bl I q (by simp))
    | bl j => cases ry; exact PySem.EqMixed.eq_str_bool (fin_bl I q (by simp))
    | int j => obtain ⟨t', rfl⟩ := ry; exact PySem.EqMixed.eq_str_int (fin_bl I q (by simp))
    | str j => obtain ⟨t', rfl⟩ := ry; exact eq_str (fin_bl I q dec_str)
    | _ => exact absurd (show false = true from hs) Bool.false_ne_true
  | byt i =>
    obtain ⟨t, rfl⟩ := rx
    cases y with
    | byt j => obtain ⟨t', rfl⟩ := ry; exact PySem.W.eq_bytes (fin_bl I q dec_byt)
    | _ => exact absurd (show false = true from hs) Bool.false_ne_true
  | _ => cases y <;> exact absurd (show false = true from hs) Bool.false_ne_true
theorem op_lt : OpR X (compareOp .Lt) (rI0 fun i j => .bl (decide (i < j))) := opB0 fun _ _ _ _ _ _ _ q => lt_int q
theorem op_le : OpR X (compareOp .LtE) (rI0 fun i j => .bl (decide (i ≤ j))) := opB0 fun _ _ _ _ _ _ _ q => le_int q
theorem op_gt : OpR X (compareOp .Gt) (rI0 fun i j => .bl (decide (j < i))) := opB0 fun _ _ _ _ _ _ _ q => gt_int q
theorem nomark (b : Expr) {op : CmpOp} (h : op ≠ .In := by decide) (h2 : op ≠ .NotIn := by decide) : behindInMarks op b = false := by
  have e1 : (op == CmpOp.In) = false := by cases op <;> first | rfl | exact absurd rfl h
  have e2 : (op == CmpOp.NotIn) = false := by cases op <;> first | rfl | exact absurd rfl h2
  cases b <;> simp [behindInMarks, e1, e2]
theorem pe_cmpR {op : CmpOp} {r : R2} (ho : OpR X (compareOp op) r) (ha : PE X a ta) (hb : PE X b tb) (hm : behindInMarks op b = false) : PE X (.Compare a [op] [b] pos) (tOp r ta tb) := by
  intro pins s σ H Q I h
  exact wpAny_Compare1 (binT ha hb I h fun v u s2 x y H2 I2 rx ry q => ho pins s2 σ H2 x y v u Q I2 rx ry q) hm
def tTest (t : TE) : TT := fun σ H Q => t σ H fun x H' => ∃ k, x = .bl k ∧ Q k H'
theorem pt_cmpR {op : CmpOp} {r : R2} (ho : OpR X (compareOp op) r) (ha : PE X a ta) (hb : PE X b tb) (hm : behindInMarks op b = false) : PT X (.Compare a [op] [b] pos) (tTest (tOp r ta tb)) := by
  intro pins s σ H Q I h
  refine wpAny_isTrue_Compare1 (thn (ha pins s σ H _ I h) fun v s1 ⟨x, H1, I1, r1, q1⟩ => thn (hb pins s1 σ H1 _ I1 q1) fun u s2 ⟨y, H2, I2, r2, q2⟩ =>
    thn (ho pins s2 σ H2 x y v u _ I2 r1 r2 q2) fun c s3 ⟨z, H3, I3, r3, k, e, q3⟩ => ?_) hm
  subst e
  cases r3
  exact wpAny_truthy_bool ⟨H3, I3, q3⟩
theorem line63 : (sizeLine : Nat) < 2 ^ 63 := by rw [sizeLine_eq]; decide
theorem vals1 {x : V} {us : List Value} (r : Vals [x] us) : ∃ u, us = [u] ∧ RelV x u := by
  cases r with
  | cons r1 r2 => cases r2; exact ⟨_, rfl, r1⟩
theorem call_abs : CallR X (.builtin "abs") (fun xs H Q => ∃ i, xs = [.int i] ∧ Q (.int (if i < 0 then -i else i)) H) := by
  intro pins s σ H xs us Q I r h
  obtain ⟨i, rfl, q⟩ := h
  obtain ⟨u, rfl, t, rfl⟩ := vals1 r
  exact call_abs_int fun u tk => ⟨.int (if i < 0 then -i else i), H, I.tok _, ⟨_, rfl⟩, q⟩
end
end L2

namespace L2
open PySem PySem.Spec PyProof.Rows


theorem RelO.some_of {v : V} {o : Option Value} (r : RelO (some v) o) : ∃ u, o = some u ∧ RelV v u := by
  cases o with
  | none => exact (show False from r).elim
  | some u => exact ⟨u, rfl, r⟩



end L2

namespace L2
open PySem PySem.Spec PyProof.Rows

structure Room (k : Nat) (A : Around) : Prop where
  hd : A.handled = none
  dp : A.depth + 3 * k + 5 < recursionLimit
  un : A.units + 16 * k + 200 < cLine
  gd : A.guards = some []
theorem Room.mono {j k : Nat} {A : Around} (r : Room k A) (h : j ≤ k) : Room j A := ⟨r.hd, by have := r.dp; omega, by have := r.un; omega, r.gd⟩
theorem Room.deeper {k : Nat} {A : Around} (r : Room (k + 1) A) (env : Env) : Room k (A.deeper env) :=
  ⟨r.hd, by have := r.dp; show A.depth + 1 + 3 * k + 5 < _; omega, by have := r.un; show A.units + 3 + 16 * k + 200 < _; omega, r.gd⟩
theorem Room.depth {k : Nat} {A : Around} (r : Room k A) : A.depth < recursionLimit := by have := r.dp; omega
theorem Room.units {k : Nat} {A : Around} (r : Room k A) : A.units + 64 < cLine := by have := r.un; omega
def tNil : TA := fun _ H Q => Q [] H
def tCons (ta : TE) (tr : TA) : TA := fun σ H Q => ta σ H fun x H1 => tr σ H1 fun xs H2 => Q (x :: xs) H2
section
variable {X : Cx} {e : Expr} {es : List Expr} {te : TE} {t : TA} {pos : Pos}
theorem pa_nil : PA X [] tNil := fun _ _ _ _ H Q I h => Calls.spliced_nil ⟨[], H, I, .nil, h⟩
theorem pa_cons (ha : PE X e te) (hr : PA X es t) (hs : starEach (e :: es) X.env = (false, eval e X.env) :: starEach es X.env := by rfl) : PA X (e :: es) (tCons te t) := by
  intro pos pins s σ H Q I h
  rw [hs]
  show wpAny _ _ (spliced ((false, eval e X.env) :: backTo pos (starEach es X.env))) _ _ s
  refine Calls.spliced_cons (thn (ha pins s σ H _ I h) fun u s1 ⟨x, H1, I1, r1, q1⟩ => ?_)
  exact thn (hr pos pins s1 σ H1 _ I1 q1) fun us s2 ⟨xs, H2, I2, r2, q2⟩ => ⟨x :: xs, H2, I2, .cons r1 r2, q2⟩

def tTup (t : TA) : TE := fun σ H Q => t σ H fun xs H1 => xs.length ≤ sizeLine ∧ ∀ p, H1 p = none → Q (.ref p) (upd H1 p (.tup xs))
def tLst (t : TA) : TE := fun σ H Q => t σ H fun xs H1 => xs.length ≤ sizeLine ∧ ∀ p, H1 p = none → Q (.ref p) (upd H1 p (.lst xs))
theorem pe_tup {x1} (h : PA X es t) : PE X (.Tuple es x1 pos) (tTup t) := by
  intro pins s σ H Q I hq
  refine wpAny_Tuple_spliced (thn (h pos pins s σ H _ I hq) fun us s1 ⟨xs, H1, I1, r, z, q⟩ => ⟨by rw [← r.length]; exact z, ?_⟩)
  have hf : H1 s1.heap.objs.size = none := I1.hok.fresh (Nat.le_refl _)
  refine ⟨.ref s1.heap.objs.size, upd H1 s1.heap.objs.size (.tup xs), I1.laid (t' := s1.toks) (fun b u e => Heap.get?_push_of_some _ e) (Nat.le_refl _) ?_, rfl, q _ hf⟩
  exact ⟨z, us, r, ⟨_, Heap.get?_push_size _ rfl, rfl, _, rfl⟩⟩
theorem pe_lst (h : PA X es t) : PE X (.List es pos) (tLst t) := by
  intro pins s σ H Q I hq
  refine wpAny_List_spliced (thn (h pos pins s σ H _ I hq) fun us s1 ⟨xs, H1, I1, r, z, q⟩ => ⟨by rw [← r.length]; exact z, ?_⟩)
  have hf : H1 s1.heap.objs.size = none := I1.hok.fresh (Nat.le_refl _)
  refine ⟨.ref s1.heap.objs.size, upd H1 s1.heap.objs.size (.lst xs), I1.laid (t' := s1.toks) (fun b u e => Heap.get?_push_of_some _ e) (Nat.le_refl _) ?_, rfl, q _ hf⟩
  exact ⟨z, us, 0, r, Heap.get?_push_size _ rfl⟩
end

abbrev Sp := List V → Hp → VK → XK → Prop
abbrev CXT := List Env → Hp → Shared → XK → Value → Shared → Prop

structure Env0 (P : Program) (w : World) (K : PySem.W.Frag) (mg : Str → Option Value) (base : Heap) (A : Around) (outer : List Env) (s : Shared) (H : Hp) : Prop where
  frames : A.frames = some outer
  mod : Mod K mg base
  bs : ∀ b o, base.get? b = some o → s.heap.get? b = some o ∧ H b = none
  bsz : base.objs.size ≤ s.heap.objs.size
  funs : s.heap.FunFrames base outer
  frf : ∀ b ∈ frs outer, H b = none
  hok : HOk P w H s.heap
  bare : AllBare s.gens
def CE (outer : List Env) (P : Program) (w : World) (H : Hp) (s : Shared) (Q : VK) (u : Value) (s' : Shared) : Prop :=
  ∃ v H', s'.os = s.os ∧ AllBare s'.gens ∧ Un (frs outer) [] H H' s.heap s'.heap ∧ HOk P w H' s'.heap ∧ RelV v u ∧ Q v H'
def CR (CX : CXT) (outer : List Env) (P : Program) (w : World) (H : Hp) (s : Shared) (Q : VK) (E : XK) (r : Result) (s' : Shared) : Prop :=
  match r with
  | .ok (.ret u) => CE outer P w H s Q u s'
  | .ok _ => False
  | .error e => CX outer H s E e s'
structure FnOk (P : Program) (w : World) (K : PySem.W.Frag) (mg : Str → Option Value) (base : Heap) (CX : CXT) (k : Nat) (f : Addr) (fd : FuncData) (ps : List Str) (sp : Sp) : Prop where
  len : ∀ vs H Q E, sp vs H Q E → vs.length = ps.length
  run : ∀ (A : Around) (outer : List Env) (s : Shared) (H : Hp) (args : Args) (us : List Value) (vs : List V) (Q : VK) (E : XK), Room k A → Env0 P w K mg base A outer s H → BindsTo s fd args (ps.zip us) → Vals vs us → sp vs H Q E →
    codeAny (model P w) A (.call (.ref f) args) (CR CX outer P w H s Q E) s
section
variable {X : Cx} {pins : List (Addr × Obj)} {σ : St} {H : Hp} {s s' : Shared}
theorem Inv.env0 (I : Inv X pins σ H s) : Env0 X.prog X.w X.K X.mg X.base X.A X.stack s H :=
  ⟨I.ok.frames, I.ok.mod, I.bs, Nat.le_trans I.ok.bsz I.sz, I.stack, I.stkFree, I.hok, I.bare⟩
theorem Inv.after {Q : VK} {u : Value} (I : Inv X pins σ H s) (h : CE X.stack X.prog X.w H s Q u s') : EP X pins σ Q u s' := by
  obtain ⟨v, H', os, bare, un, hok, r, q⟩ := h
  obtain ⟨hh, g, d, t, os'⟩ := s'
  obtain rfl : os' = s.os := os
  exact ⟨v, H', I.call (h' := hh) (g' := g) (d' := d) (t' := t) (ch := []) un hok bare (fun b z => absurd z (by simp)), r, q⟩
end

def tCall (sp : Sp) (dvs : List V) (E : XK) (t : TA) : TE := fun σ H Q => t σ H fun vs H1 => sp (vs ++ dvs) H1 Q E
def Binds (K : PySem.W.Frag) (fd : FuncData) (ps : List Str) (ds : List Value) : Prop :=
  ∀ (s : Shared) (us : List Value), K.In s.heap → (us ++ ds).length = ps.length → BindsTo s fd ⟨us, []⟩ (ps.zip (us ++ ds))
theorem Binds.all {K : PySem.W.Frag} {fd : FuncData} {ps : List Str} (h : ∀ us : List Value, us.length = ps.length → bindArgs fd ⟨us, []⟩ = pure (ps.zip us)) : Binds K fd ps [] := fun s us _ hl => by
  rw [List.append_nil] at hl ⊢
  exact .of_eq (h us hl)

def Passes (CX : CXT) (X : Cx) (E : XK) : Prop := ∀ (pins : List (Addr × Obj)) (σ : St) (H : Hp) (s : Shared) (e : Value) (s' : Shared), Inv X pins σ H s → CX X.stack H s E e s' → X.xe e s'

section
variable {X : Cx} {CX : CXT} {k : Nat} {f C : Addr} {fd : FuncData} {ps : List Str} {sp : Sp} {dvs : List V} {ds : List Value} {E : XK} {x m : Str} {p pos apos : Pos} {e o : Expr} {es : List Expr} {ta : TE} {t : TA}

theorem run_fn {pins : List (Addr × Obj)} {σ : St} {H : Hp} {s : Shared} {Q : VK} {us : List Value} {vs : List V} (F : FnOk X.prog X.w X.K X.mg X.base CX k f fd ps sp) (hr : Room k X.A) (hb : Binds X.K fd ps ds) (hd : Vals dvs ds) (hx : Passes CX X E)
    (I : Inv X pins σ H s) (r : Vals vs us) (h : sp (vs ++ dvs) H Q E) : wpAny (model X.prog X.w) X.A (call (.ref f) us) (EP X pins σ Q) X.xe s := by
  have r2 : Vals (vs ++ dvs) (us ++ ds) := r.append hd
  have hl : (us ++ ds).length = ps.length := by rw [← r2.length]; exact F.len _ _ _ _ h
  refine wpAny_call (codeAny_mono (F.run X.A X.stack s H ⟨us, []⟩ (us ++ ds) (vs ++ dvs) Q E hr I.env0 (hb s us I.kIn hl) r2 h) fun r s' hq => ?_)
  cases r with
  | error e => exact hx pins σ H s e s' I hq
  | ok fl =>
    cases fl with
    | ret u => exact I.after hq
    | next => exact False.elim hq
    | brk => exact False.elim hq
    | cont => exact False.elim hq

theorem pe_call (F : FnOk X.prog X.w X.K X.mg X.base CX k f fd ps sp) (hr : Room k X.A) (hg : Gl X x) (hm : X.mg x = some (.ref f)) (hk : PySem.W.keepIn X.K (.ref f) = true) (hb : Binds X.K fd ps ds) (hd : Vals dvs ds) (hx : Passes CX X E)
    (ha : PA X (e :: es) t) (hdb : (x == ("__debug__" : Str)) = false := by decide) (he : starEach (e :: es) X.env = (false, eval e X.env) :: starEach es X.env := by rfl) (hpl : (backTo pos (starEach es X.env)).any (·.1) = false := by rfl) :
    PE X (.Call (.Name x p) (e :: es) [] pos) (tCall sp dvs E t) := by
  intro pins s σ H Q I h
  refine wpAny_Call_Name_kw (ld_glob I hg hm ?_ hdb)
  refine PySem.W.callWith_K (h₀ := X.base) I.ok.mod.kin hk (thn (ha pos pins s σ H _ I h) fun us s1 ⟨vs, H1, I1, r, q⟩ => ⟨I1.kIn, ?_⟩) he hpl
  exact run_fn F hr hb hd hx I1 r q
end


structure FnScope (N P : List Str) (sc : Scope) : Prop where
  kind : sc.kind = .function
  co : sc.isCoroutine = false
  gen : sc.isGenerator = false
  nd : N.Nodup
  pre : N.take P.length = P
  par : ∀ x ∈ P, sc.names.lookup x = some .local ∨ sc.names.lookup x = some .cell
  nofree : ∀ y ∈ sc.names, y.2 ≠ .free

theorem bindL_out {kindOf : Str → Option NameKind} {x : Str} : ∀ {binds : List (Str × Value)} {m : Str → Option Value}, (∀ v, (x, v) ∉ binds) → bindL kindOf binds m x = m x
  | [], _, _ => rfl
  | (n, v) :: r, m, h => by
    unfold bindL
    rw [bindL_out fun w hw => h w (List.mem_cons_of_mem _ hw)]
    split
    · have : x ≠ n := by rintro rfl; exact h v List.mem_cons_self
      simp [this]
    · rfl
theorem bindC_out {kindOf : Str → Option NameKind} {x : Str} : ∀ {binds : List (Str × Value)} {m : Str → Option Value}, (∀ v, (x, v) ∉ binds) → bindC kindOf binds m x = m x
  | [], _, _ => rfl
  | (n, v) :: r, m, h => by
    unfold bindC
    rw [bindC_out fun w hw => h w (List.mem_cons_of_mem _ hw)]
    split
    · rfl
    · have : x ≠ n := by rintro rfl; exact h v List.mem_cons_self
      simp [this]
theorem bindL_get {kindOf : Str → Option NameKind} {x : Str} {v : Value} : ∀ {P : List Str} {vs : List Value} {i : Nat} {m : Str → Option Value}, P.Nodup → P[i]? = some x → vs[i]? = some v → kindOf x = some .local →
    bindL kindOf (P.zip vs) m x = some v
  | [], _, _, _, _, h, _, _ => by simp at h
  | _ :: _, [], _, _, _, _, h, _ => by simp at h
  | p :: P, w :: vs, 0, m, nd, h1, h2, hk => by
    simp at h1 h2; subst h1; subst h2
    show bindL kindOf ((p, w) :: P.zip vs) m p = _
    unfold bindL
    rw [bindL_out fun v hv => (List.nodup_cons.mp nd).1 (List.of_mem_zip hv).1, if_pos hk]
    simp
  | p :: P, w :: vs, i + 1, m, nd, h1, h2, hk => by
    show bindL kindOf ((p, w) :: P.zip vs) m x = _
    unfold bindL
    exact bindL_get (i := i) (List.nodup_cons.mp nd).2 (by simpa using h1) (by simpa using h2) hk
theorem bindC_get {kindOf : Str → Option NameKind} {x : Str} {v : Value} : ∀ {P : List Str} {vs : List Value} {i : Nat} {m : Str → Option Value}, P.Nodup → P[i]? = some x → vs[i]? = some v → kindOf x ≠ some .local →
    bindC kindOf (P.zip vs) m x = some v
  | [], _, _, _, _, h, _, _ => by simp at h
  | _ :: _, [], _, _, _, _, h, _ => by simp at h
  | p :: P, w :: vs, 0, m, nd, h1, h2, hk => by
    simp at h1 h2; subst h1; subst h2
    show bindC kindOf ((p, w) :: P.zip vs) m p = _
    unfold bindC
    rw [bindC_out fun v hv => (List.nodup_cons.mp nd).1 (List.of_mem_zip hv).1, if_neg hk]
    simp
  | p :: P, w :: vs, i + 1, m, nd, h1, h2, hk => by
    show bindC kindOf ((p, w) :: P.zip vs) m x = _
    unfold bindC
    exact bindC_get (i := i) (List.nodup_cons.mp nd).2 (by simpa using h1) (by simpa using h2) hk

def start (N : List Str) (vs : List V) : St := vs.map some ++ List.replicate (N.length - vs.length) none

def cxOf (CX : CXT) (P : Program) (w : World) (K : PySem.W.Frag) (mg : Str → Option Value) (base : Heap) (N : List Str) (qual : Str) (scope : Scope) (f : Addr) (cd : Value) (A : Around) (outer : List Env) (s : Shared) (H : Hp) (E : XK) : Cx where
  prog := P
  w := w
  K := K
  mg := mg
  base := base
  A := A.deeper (envOfC qual scope s.heap.objs.size f cd)
  N := N
  s₀ := s
  H₀ := H
  env := envOfC qual scope s.heap.objs.size f cd
  outer := outer
  stack := envOfC qual scope s.heap.objs.size f cd :: outer
  ex := []
  calm := true
  fn := fun _ => true
  pn := []
  xe := fun e s' => wpAny (model P w) (A.deeper (envOfC qual scope s.heap.objs.size f cd)) (leaving (envOfC qual scope s.heap.objs.size f cd) e) (fun _ s'' => CX outer H s E e s'') (fun e' s'' => CX outer H s E e' s'') s'

theorem cell_has {sc : Scope} {n : Nat} {x : Str} (h : sc.names.lookup x = some .cell) : ∃ c, (cellsFrom n sc.names []).lookup x = some c := by
  have q := PySem.W.cellsFrom_some sc.names n [] (.inl h)
  exact Option.isSome_iff_exists.mp q

theorem inv_start {CX : CXT} {P : Program} {w : World} {K : PySem.W.Frag} {mg : Str → Option Value} {base : Heap} {N ps : List Str} {qual : Str} {scope : Scope} {f : Addr} {cd : Value} {A : Around} {outer : List Env} {s s1 : Shared} {H : Hp} {E : XK} {us : List Value} {vs : List V}
    (S : FnScope N ps scope) (hd : A.handled = none) (e0 : Env0 P w K mg base A outer s H) (hl : vs.length = ps.length) (r : Vals vs us)
    (x : InCallC s s.heap.objs.size (bindL (envOfC qual scope s.heap.objs.size f cd).kindOf (ps.zip us) fun _ => none) (cellsFrom (s.heap.objs.size + 1) scope.names []) (bindC (envOfC qual scope s.heap.objs.size f cd).kindOf (ps.zip us) fun _ => none) s1) :
    Inv (cxOf CX P w K mg base N qual scope f cd A outer s H E) [] (start N vs) H s1 := by
  have hpl : ps.length ≤ N.length := by have := congrArg List.length S.pre; rw [List.length_take] at this; omega
  obtain ⟨h1, tk, rfl, hk⟩ := x.done
  have noA : ∀ b : Addr, b ∉ (cxOf CX P w K mg base N qual scope f cd A outer s H E).ex := fun b z => absurd (show b ∈ ([] : List Addr) from z) (by simp)
  refine ⟨⟨e0.mod, S.kind, rfl, rfl, Nat.le_refl _, fun y z c h1 h2 => ?_, fun y hy => ?_, fun y c _ h => ?_, fun _ => hd, Around.frames_deeper e0.frames, .inr ⟨rfl, rfl⟩, fun b z => absurd z (noA b), e0.bs, e0.bsz, fun b _ _ => noA b, fun b z => absurd z (noA b), e0.funs, e0.frf⟩,
    rfl, e0.bare, Un.kept hk, ⟨_, x.toInCall.ns, fun i y v h1 h2 h3 => ?_⟩, fun y c h => ⟨_, x.cell y c h⟩, e0.hok.fresh (Nat.le_refl _), fun y c h => ?_, fun p hp => absurd (show p ∈ ([] : List (Addr × Obj)) from hp) (by simp), e0.hok.kept hk, ?_⟩
  · exact name_of_addr x.apart (PySem.mem_of_lookup h1) (PySem.mem_of_lookup h2)
  · have hy : scope.names.lookup y = some .cell ∨ scope.names.lookup y = some .free := hy
    rcases hy with hy | hy
    · exact cell_has hy
    · exact absurd rfl (S.nofree _ (PySem.mem_of_lookup hy))
  · exact Nat.le_of_lt (x.above y c (PySem.mem_of_lookup h))
  · have hi : i < vs.length := by
      unfold start at h2
      by_cases hi : i < vs.length
      · exact hi
      · rw [List.getElem?_append_right (by simpa using hi)] at h2
        rw [List.getElem?_replicate] at h2
        split at h2 <;> cases h2
    have ha : vs[i]? = some v := by
      unfold start at h2
      rw [List.getElem?_append_left (by simpa using hi), List.getElem?_map] at h2
      cases e : vs[i]? with
      | none => rw [e] at h2; cases h2
      | some a => rw [e] at h2; cases h2; rfl
    obtain ⟨u, hu, rv⟩ := r.get ha
    have hp : ps[i]? = some y := by
      rw [← S.pre, List.getElem?_take_of_lt (by omega)]; exact h1
    have ndP : ps.Nodup := by rw [← S.pre]; exact S.nd.sublist (List.take_sublist _ _)
    refine ⟨u, rv, ?_⟩
    rcases S.par y (List.mem_of_getElem? hp) with k | k
    · exact .inl ⟨k, bindL_get ndP hp hu k⟩
    · obtain ⟨c, e⟩ := cell_has (n := s.heap.objs.size + 1) k
      refine .inr ⟨.inl k, c, e, ?_⟩
      have q := x.cell y c e
      rw [bindC_get ndP hp hu (by show scope.names.lookup y ≠ _; rw [k]; decide)] at q
      exact q
  · exact e0.hok.fresh (Nat.le_of_lt (x.above y c (PySem.mem_of_lookup h)))
  · unfold start
    show _ = N.length
    rw [List.length_append, List.length_map, List.length_replicate]
    omega

theorem fn_of {CX : CXT} {P : Program} {w : World} {K : PySem.W.Frag} {mg : Str → Option Value} {base : Heap} {k : Nat} {f : Addr} {name qual : Str} {params : Arguments} {body : List Stmt} {scope : Scope} {dV kV doc pm cdv ct oc : Value} {an od : Option Addr}
    {osl : Array (Option Value)} {N ps : List Str} {sp : Sp} (lk : K.lookup f = some ⟨oc, od, .func (PySem.W.fnOf name qual params body scope dV kV doc pm an cdv ct), osl⟩) (hcd : PySem.W.codeIn K cdv qual = true) (S : FnScope N ps scope)
    (len : ∀ vs H Q E, sp vs H Q E → vs.length = ps.length)
    (hbody : ∀ (A : Around) (outer : List Env) (s : Shared) (H : Hp) (vs : List V) (Q : VK) (E : XK), Room k (A.deeper (envOfC qual scope s.heap.objs.size f cdv)) → sp vs H Q E →
      ∃ t, PSs (cxOf CX P w K mg base N qual scope f cdv A outer s H E) body t ∧ t { nx := fun _ H' => Q .non H', rt := Q } (start N vs) H) :
    FnOk P w K mg base CX (k + 1) f (PySem.W.fnOf name qual params body scope dV kV doc pm an cdv ct) ps sp := by
  refine ⟨len, fun A outer s H args us vs Q E hr e0 hb r hsp => ?_⟩
  have hl := len _ _ _ _ hsp
  have KX : K.In s.heap := e0.mod.kin.keeps fun b o e => (e0.bs b o e).1
  have lim : s.heap.NoLimit := e0.mod.nolimit.keeps fun b o e => (e0.bs b o e).1
  have hkind : ∀ y ∈ ps.zip us, scope.names.lookup y.1 = some .local ∨ (scope.names.lookup y.1 = some .cell ∧ ((cellsFrom (s.heap.objs.size + 1) scope.names []).lookup y.1).isSome = true) := fun ⟨n, v⟩ hy => by
    rcases S.par n (List.of_mem_zip hy).1 with q | q
    · exact .inl q
    · exact .inr ⟨q, PySem.W.cellsFrom_some _ _ _ (.inl q)⟩
  refine codeAny_call_function hr.depth (KX _ _ lk) rfl S.co S.gen rfl (PySem.W.codeRec_of KX hcd) (hb _ _ _ _ ?_)
  refine wpAny_newFunctionEnv_cells S.kind hkind fun env he s1 x => ?_
  subst he
  refine ⟨lim.keeps x.toInCall.keep, codeAny_func ?_⟩
  obtain ⟨t, ht, hq⟩ := hbody A outer s H vs Q E (hr.deeper _) hsp
  have I : Inv (cxOf CX P w K mg base N qual scope f cdv A outer s H E) [] (start N vs) H s1 := inv_start S hr.hd e0 hl r x
  refine wpAny_mono (ht [] s1 (start N vs) H _ I hq) (fun fl s' hs => ?_) fun e s' hs => hs
  have fin : ∀ {σ' : St} {H' : Hp} {v : V} {u : Value}, Inv (cxOf CX P w K mg base N qual scope f cdv A outer s H E) [] σ' H' s' → RelV v u → Q v H' → CE outer P w H s Q u s' :=
    fun {σ' H' v u} J rv q => ⟨v, H', J.os, J.bare, J.base, J.hok, rv, q⟩
  cases fl with
  | ret u =>
    obtain ⟨v, σ', H', J, rv, q⟩ := hs
    exact fin J rv q
  | next =>
    obtain ⟨σ', H', J, q⟩ := hs
    exact fin (v := V.non) (u := Value.none) J rfl q
  | brk =>
    obtain ⟨_, _, _, q⟩ := hs
    exact False.elim q
  | cont =>
    obtain ⟨_, _, _, q⟩ := hs
    exact False.elim q
end L2

namespace L2
open PySem PySem.Spec PyProof.Rows
section
variable {X : Cx} {x : Str} {p pos : Pos} {e : Expr} {es : List Expr} {t : TA} {id T : String} {r : List V → Hp → VK → Prop}

def tCB (r : List V → Hp → VK → Prop) (t : TA) : TE := fun σ H Q => t σ H fun vs H1 => r vs H1 Q
theorem pe_callB (hc : CallR X (.builtin id) r) (hg : Gl X x) (hm : X.mg x = none) (hv : bootBuiltins x = some (.builtin id)) (ha : PA X (e :: es) t) (hn : x ≠ "__name__" := by decide) (hdb : (x == ("__debug__" : Str)) = false := by decide)
    (he : starEach (e :: es) X.env = (false, eval e X.env) :: starEach es X.env := by rfl) (hpl : (backTo pos (starEach es X.env)).any (·.1) = false := by rfl) : PE X (.Call (.Name x p) (e :: es) [] pos) (tCB r t) := by
  intro pins s σ H Q I h
  refine wpAny_Call_Name_kw (ld_blt I hg hm hv ?_ hn hdb)
  exact PyProof.Rows.callWith_builtin1 (thn (ha pos pins s σ H _ I h) fun us s1 ⟨vs, H1, I1, r1, q1⟩ => hc pins s1 σ H1 vs us Q I1 r1 q1) he hpl
theorem pe_callTy (hc : CallR X (.type T) r) (hg : Gl X x) (hm : X.mg x = none) (hv : bootBuiltins x = some (.type T)) (ha : PA X (e :: es) t) (hn : x ≠ "__name__" := by decide) (hdb : (x == ("__debug__" : Str)) = false := by decide)
    (he : starEach (e :: es) X.env = (false, eval e X.env) :: starEach es X.env := by rfl) (hpl : (backTo pos (starEach es X.env)).any (·.1) = false := by rfl) : PE X (.Call (.Name x p) (e :: es) [] pos) (tCB r t) := by
  intro pins s σ H Q I h
  refine wpAny_Call_Name_kw (ld_blt I hg hm hv ?_ hn hdb)
  exact PyProof.Rows.callWith_type1 (thn (ha pos pins s σ H _ I h) fun us s1 ⟨vs, H1, I1, r1, q1⟩ => hc pins s1 σ H1 vs us Q I1 r1 q1) he hpl
end
end L2

namespace L2
open PySem PySem.Spec PyProof.Rows

section
variable {κ : Type} [DecidableEq κ]
def valV (kvs : List (κ × V)) (k : κ) : Option V := (kvs.find? fun kv => decide (kv.1 = k)).map (·.2)
def putK (kvs : List (κ × V)) (k : κ) (v : V) : List (κ × V) :=
  if (kvs.any fun kv => decide (kv.1 = k)) = true then kvs.map (fun kv => if kv.1 = k then (kv.1, v) else kv) else kvs ++ [(k, v)]
theorem valV_pos {p : κ × V} {r : List (κ × V)} {k : κ} (e : p.1 = k) : valV (p :: r) k = some p.2 := by simp [valV, List.find?_cons, e]
theorem valV_neg {p : κ × V} {r : List (κ × V)} {k : κ} (e : ¬ p.1 = k) : valV (p :: r) k = valV r k := by simp [valV, List.find?_cons, e]
theorem valV_any (k : κ) : ∀ kvs : List (κ × V), (kvs.any fun kv => decide (kv.1 = k)) = (valV kvs k).isSome
  | [] => rfl
  | p :: r => by
    rw [List.any_cons]
    by_cases e : p.1 = k
    · simp only [valV_pos e, decide_eq_true e, Bool.true_or, Option.isSome_some]
    · rw [valV_neg e, decide_eq_false e, Bool.false_or]; exact valV_any k r
theorem valV_map (k j : κ) (y : V) : ∀ kvs : List (κ × V), valV (kvs.map fun kv => if kv.1 = k then (kv.1, y) else kv) j = (valV kvs j).map fun x => if j = k then y else x
  | [] => rfl
  | p :: r => by
    have ih := valV_map k j y r
    rw [List.map_cons]
    by_cases h : p.1 = k
    · rw [if_pos h]
      by_cases e : p.1 = j
      · rw [valV_pos (p := (p.1, y)) e, valV_pos e, Option.map_some, if_pos (e.symm.trans h)]
      · rw [valV_neg (p := (p.1, y)) e, valV_neg e, ih]
    · rw [if_neg h]
      by_cases e : p.1 = j
      · rw [valV_pos (p := p) e, valV_pos e, Option.map_some, if_neg (fun z => h (e.trans z))]
      · rw [valV_neg (p := p) e, valV_neg e, ih]
theorem valV_snoc (k j : κ) (y : V) : ∀ kvs : List (κ × V), valV kvs k = none → valV (kvs ++ [(k, y)]) j = if j = k then some y else valV kvs j
  | [], _ => by
    by_cases e : k = j
    · rw [if_pos e.symm]; exact valV_pos (p := (k, y)) e
    · rw [if_neg (fun z => e z.symm)]; exact valV_neg (p := (k, y)) e
  | p :: r, hn => by
    rw [List.cons_append]
    have hk : ¬ p.1 = k := fun z => by rw [valV_pos z] at hn; cases hn
    rw [valV_neg hk] at hn
    have ih := valV_snoc k j y r hn
    by_cases e : p.1 = j
    · rw [valV_pos e, valV_pos e, if_neg (fun z => hk (e.trans z))]
    · rw [valV_neg e, valV_neg e, ih]
theorem valV_put (kvs : List (κ × V)) (k j : κ) (y : V) : valV (putK kvs k y) j = if j = k then some y else valV kvs j := by
  unfold putK
  by_cases a : (kvs.any fun kv => decide (kv.1 = k)) = true
  · rw [if_pos a, valV_map]
    rw [valV_any] at a
    by_cases e : j = k
    · obtain ⟨x, hx⟩ := Option.isSome_iff_exists.mp a
      rw [if_pos e, e, hx, Option.map_some, if_pos rfl]
    · rw [if_neg e]
      cases valV kvs j with
      | none => rfl
      | some x => rw [Option.map_some, if_neg e]
  · rw [if_neg a]
    refine valV_snoc k j y kvs ?_
    rw [valV_any] at a
    cases q : valV kvs k with
    | none => rfl
    | some x => rw [q] at a; exact (a rfl).elim
theorem length_putK (kvs : List (κ × V)) (k : κ) (v : V) : (putK kvs k v).length ≤ kvs.length + 1 := by
  unfold putK
  split
  · rw [List.length_map]; omega
  · rw [List.length_append, List.length_cons, List.length_nil]; omega
theorem putK_new {kvs : List (κ × V)} {k : κ} (v : V) (h : valV kvs k = none) : putK kvs k v = kvs ++ [(k, v)] := by
  unfold putK
  rw [valV_any, h]
  exact if_neg (by decide)

theorem RelO.isSome_eq {o : Option V} {u : Option Value} (r : RelO o u) : o.isSome = u.isSome := by
  cases o with
  | none => cases u with
    | none => rfl
    | some _ => exact (show False from r).elim
  | some _ => cases u with
    | none => exact (show False from r).elim
    | some _ => rfl
theorem KV.val {kvs : List (κ × V)} {vs : List (κ × Value)} (r : KV kvs vs) (k : κ) : RelO (valV kvs k) (valueAt vs k) := by
  unfold KV at r
  induction r with
  | nil => exact True.intro
  | @cons p q ps qs h t ih =>
    obtain ⟨h1, h2⟩ := h
    by_cases e : p.1 = k
    · have e' : q.1 = k := h1.symm.trans e
      have b : valueAt (q :: qs) k = some q.2 := by simp [valueAt, List.find?_cons, e']
      rw [valV_pos e, b]; exact h2
    · have e' : ¬ q.1 = k := fun z => e (h1.trans z)
      have b : valueAt (q :: qs) k = valueAt qs k := by simp [valueAt, List.find?_cons, e']
      rw [valV_neg e, b]; exact ih
theorem KV.any {kvs : List (κ × V)} {vs : List (κ × Value)} (r : KV kvs vs) (k : κ) : (kvs.any fun kv => decide (kv.1 = k)) = vs.any fun kv => decide (kv.1 = k) := by
  unfold KV at r
  induction r with
  | nil => rfl
  | cons h t ih => rw [List.any_cons, List.any_cons, ih, h.1]
theorem KV.repl {kvs : List (κ × V)} {vs : List (κ × Value)} (r : KV kvs vs) (k : κ) {y : V} {u : Value} (ry : RelV y u) :
    KV (kvs.map fun kv => if kv.1 = k then (kv.1, y) else kv) (vs.map fun kv => if kv.1 = k then (kv.1, u) else kv) := by
  unfold KV at r ⊢
  induction r with
  | nil => exact .nil
  | @cons p q ps qs h t ih =>
    rw [List.map_cons, List.map_cons]
    refine .cons ?_ ih
    obtain ⟨h1, h2⟩ := h
    by_cases e : p.1 = k
    · rw [if_pos e, if_pos (h1.symm.trans e)]; exact ⟨h1, ry⟩
    · rw [if_neg e, if_neg (fun z => e (h1.trans z))]; exact ⟨h1, h2⟩
theorem KV.put {kvs : List (κ × V)} {vs : List (κ × Value)} (r : KV kvs vs) (k : κ) {y : V} {u : Value} (ry : RelV y u) : KV (putK kvs k y) (stored vs k u) := by
  unfold putK stored
  rw [r.any k]
  by_cases e : (vs.any fun kv => decide (kv.1 = k)) = true
  · rw [if_pos e, if_pos e]; exact r.repl k ry
  · rw [if_neg e, if_neg e]; exact Paired.snoc r ⟨rfl, ry⟩
theorem KV.length {kvs : List (κ × V)} {vs : List (κ × Value)} (r : KV kvs vs) : kvs.length = vs.length := Paired.length r
end


theorem kV_is {P : Program} {w : World} {k : Key} {u : Value} (r : RelV (kV k) u) : (mixKind P w).is k u = true := by
  cases k with
  | inl i => obtain ⟨t, e⟩ := (show ∃ t, u = Value.int i t from r); subst e; exact mixKind_int P w i t
  | inr x => obtain ⟨t, e⟩ := (show ∃ t, u = Value.str x t from r); subst e; exact mixKind_str P w x t
theorem items_are {P : Program} {w : World} : ∀ {ks : List Key} {us : List Value}, Vals (ks.map kV) us → ItemsAre (mixKind P w) ks us
  | [], _, r => by rw [List.map_nil] at r; cases r; exact .nil
  | k :: ks, _, r => by
    rw [List.map_cons] at r
    cases r with
    | cons h t => exact .cons (kV_is h) (items_are t)

abbrev KT (H : Hp) : List (List Key × V) → List (List Key × Addr × Value) → Prop := Paired fun p q => p.1 = q.1 ∧ H q.2.1 = some (.tup (p.1.map kV)) ∧ RelV p.2 q.2.2
theorem KT.val {H : Hp} {kvs : List (List Key × V)} {xs : List (List Key × Addr × Value)} (r : KT H kvs xs) (k : List Key) : RelO (valV kvs k) ((atKey xs k).map (·.2)) := by
  induction r with
  | nil => exact True.intro
  | @cons p q ps qs h t ih =>
    obtain ⟨h1, _, h2⟩ := h
    by_cases e : p.1 = k
    · have e' : q.1 = k := h1.symm.trans e
      have b : atKey (q :: qs) k = some q.2 := by simp [atKey, List.find?_cons, e']
      rw [valV_pos e, b]; exact h2
    · have e' : ¬ q.1 = k := fun z => e (h1.trans z)
      have b : atKey (q :: qs) k = atKey qs k := by simp [atKey, List.find?_cons, e']
      rw [valV_neg e, b]; exact ih
theorem KT.repl {H : Hp} {kvs : List (List Key × V)} {xs : List (List Key × Addr × Value)} (r : KT H kvs xs) (k : List Key) {y : V} {u : Value} (ry : RelV y u) :
    KT H (kvs.map fun kv => if kv.1 = k then (kv.1, y) else kv) (xs.map (putAt k u)) := by
  induction r with
  | nil => exact .nil
  | @cons p q ps qs h t ih =>
    rw [List.map_cons, List.map_cons]
    refine .cons ?_ ih
    obtain ⟨h1, h2, h3⟩ := h
    unfold putAt
    by_cases e : p.1 = k
    · rw [if_pos e, if_pos (h1.symm.trans e)]; exact ⟨h1, h2, ry⟩
    · rw [if_neg e, if_neg (fun z => e (h1.trans z))]; exact ⟨h1, h2, h3⟩
theorem KT.put {H : Hp} {kvs : List (List Key × V)} {xs : List (List Key × Addr × Value)} (r : KT H kvs xs) (k : List Key) {b : Addr} {y : V} {u : Value} (hb : H b = some (.tup (k.map kV))) (ry : RelV y u) :
    KT H (putK kvs k y) (storedH xs k b u) := by
  have e : (kvs.any fun kv => decide (kv.1 = k)) = (atKey xs k).isSome := by
    rw [valV_any, (r.val k).isSome_eq, Option.isSome_map]
  unfold putK storedH
  rw [e]
  by_cases q : (atKey xs k).isSome = true
  · rw [if_pos q, if_pos q]; exact r.repl k ry
  · rw [if_neg q, if_neg q]; exact Paired.snoc r ⟨rfl, hb, ry⟩
theorem KT.keeps {H H' : Hp} {kvs : List (List Key × V)} {xs : List (List Key × Addr × Value)} (r : KT H kvs xs) (ht : ∀ b ys, H b = some (.tup ys) → H' b = some (.tup ys)) : KT H' kvs xs :=
  Paired.mapP r fun _ _ z => ⟨z.1, ht _ _ z.2.1, z.2.2⟩

section
variable {P : Program} {w : World} {H : Hp} {h : Heap} {a : Addr}
theorem rd_of {u : HO} (ok : HOk P w H h) (e : Rd H a u) : ObjOk P w H h a u := e.ok ok
theorem dk_rd {kvs : List (Key × V)} (ok : HOk P w H h) (e : Rd H a (.dK kvs)) : kvs.length ≤ sizeLine ∧ (a == sysModules) = false ∧ ∃ vs, KV kvs vs ∧ h.DictOf (mixKind P w) a vs :=
  show ObjOk P w H h a (.dK kvs) from rd_of ok e
theorem dk_of {kvs : List (Key × V)} (ok : HOk P w H h) (e : H a = some (.dK kvs)) : kvs.length ≤ sizeLine ∧ (a == sysModules) = false ∧ ∃ vs, KV kvs vs ∧ h.DictOf (mixKind P w) a vs := dk_rd ok (.inl e)
theorem key_of {ks : List Key} (ok : HOk P w H h) (e : H a = some (.tup (ks.map kV))) : (tupleKind (mixKind P w)).is h ks a := by
  obtain ⟨_, its, r, o, h1, h2, n, h3⟩ := (show ObjOk P w H h a (.tup (ks.map kV)) from ok a _ e)
  exact ⟨o, its.toArray, n, h1, h2, h3, by simpa using items_are r⟩
theorem dt_rd {kvs : List (List Key × V)} (ok : HOk P w H h) (e : Rd H a (.dT kvs)) : kvs.length ≤ sizeLine ∧ (a == sysModules) = false ∧
    ∃ xs, KT H kvs xs ∧ h.DictOfH (tupleKind (mixKind P w)) a xs := by
  obtain ⟨z, y, xs, r, o, es, ep, h1, h2, h3, h4, h5⟩ := (show ObjOk P w H h a (.dT kvs) from rd_of ok e)
  refine ⟨z, y, xs, r, o, es, ep, h1, h2, h3, h4, fun x hx => ?_, h5⟩
  have all : ∀ {l : List (List Key × V)} {m : List (List Key × Addr × Value)}, KT H l m → ∀ x ∈ m, (tupleKind (mixKind P w)).is h x.1 x.2.1 := by
    intro l m q
    induction q with
    | nil => intro x hx; exact nomatch hx
    | @cons p q ps qs hq t ih =>
      intro x hx
      rcases List.mem_cons.mp hx with e | hx
      · subst e
        exact key_of ok (by rw [← hq.1]; exact hq.2.1)
      · exact ih x hx
  exact all r x hx
theorem dt_of {kvs : List (List Key × V)} (ok : HOk P w H h) (e : H a = some (.dT kvs)) : kvs.length ≤ sizeLine ∧ (a == sysModules) = false ∧
    ∃ xs, KT H kvs xs ∧ h.DictOfH (tupleKind (mixKind P w)) a xs := dt_rd ok (.inl e)
end

def DGet (H : Hp) (a : Addr) (y : V) (r : Option V) : Prop :=
  (∃ kvs k, Rd H a (.dK kvs) ∧ y = kV k ∧ r = valV kvs k) ∨ ∃ kvs k b, Rd H a (.dT kvs) ∧ y = .ref b ∧ H b = some (.tup (k.map kV)) ∧ r = valV kvs k
def DPut (H : Hp) (a : Addr) (y v : V) (H' : Hp) : Prop :=
  (∃ kvs k, H a = some (.dK kvs) ∧ y = kV k ∧ kvs.length < sizeLine ∧ H' = upd H a (.dK (putK kvs k v))) ∨
  ∃ kvs k b, H a = some (.dT kvs) ∧ y = .ref b ∧ H b = some (.tup (k.map kV)) ∧ kvs.length < sizeLine ∧ H' = upd H a (.dT (putK kvs k v))
theorem DGet.k {H : Hp} {a : Addr} {kvs : List (Key × V)} {k : Key} (e : H a = some (.dK kvs)) : DGet H a (kV k) (valV kvs k) := .inl ⟨kvs, k, .inl e, rfl, rfl⟩
theorem DPut.k {H : Hp} {a : Addr} {kvs : List (Key × V)} {k : Key} {v : V} (e : H a = some (.dK kvs)) (hl : kvs.length < sizeLine) : DPut H a (kV k) v (upd H a (.dK (putK kvs k v))) := .inl ⟨kvs, k, e, rfl, hl, rfl⟩
section
variable {X : Cx} {pins : List (Addr × Obj)} {σ : St} {H : Hp} {s : Shared} {a : Addr} {y v : V} {u r : Value} {o : Option V} {A : Around} {E : Value → Shared → Prop}

theorem Inv.big (I : Inv X pins σ H s) : sysModules < s.heap.objs.size := by
  have h : mainGlobals < s.heap.objs.size := (I.mod.glob.keeps I.bk).lt
  exact Nat.lt_trans (by decide) h

theorem d_getItem {Q : Value → Shared → Prop} (hu : A.units + 1 < cLine) (I : Inv X pins σ H s) (g : DGet H a y (some v)) (ry : RelV y u) (h : ∀ w' s', Inv X pins σ H s' → RelV v w' → Q w' s') :
    wpAny (model X.prog X.w) A (getItem (.ref a) u) Q E s := by
  rcases g with ⟨kvs, k, e, ey, l⟩ | ⟨kvs, k, b, e, ey, eb, l⟩
  · subst ey
    obtain ⟨z, hd, vs, rel, dd⟩ := dk_rd I.hok e
    obtain ⟨w', hw, rw'⟩ := RelO.some_of (v := v) (o := valueAt vs k) (by rw [l]; exact rel.val k)
    exact wpAny_getItem_of (kV_is ry) dd.mapOf hw (h w' _ (I.tok _) rw')
  · subst ey
    cases (show u = Value.ref b from ry)
    obtain ⟨z, hd, xs, rel, dd⟩ := dt_rd I.hok e
    obtain ⟨w', hw, rw'⟩ := RelO.some_of (v := v) (o := (atKey xs k).map (·.2)) (by rw [l]; exact rel.val k)
    obtain ⟨p, hp, hp2⟩ := Option.map_eq_some_iff.mp hw
    refine wpAny_getItem_heap (tupleKind_room_in1 hu) (key_of I.hok eb) dd hp ?_
    rw [hp2]
    exact h w' _ (I.tok _) rw'
theorem d_write {h' : Heap} {t' : Nat} {ob : HO} (I : Inv X pins σ H s) (mu : Mut (H a)) (hs : Heap.SameBut a s.heap h') (he : ∃ q, h'.get? a = some q) (new : ObjOk X.prog X.w (upd H a ob) h' a ob) :
    Inv X pins σ (upd H a ob) { s with heap := h', toks := t' } :=
  I.write (x := a) (e := a) mu (.inl rfl) (fun b q hb z => (hs.2 b hb).trans z) he new
theorem dk_new {P : Program} {w : World} {H' : Hp} {h' : Heap} {kvs : List (Key × V)} {vs : List (Key × Value)} (z : kvs.length ≤ sizeLine) (hd : (a == sysModules) = false) (rel : KV kvs vs) (dd : h'.DictOf (mixKind P w) a vs) :
    ObjOk P w H' h' a (.dK kvs) := ⟨z, hd, vs, rel, dd⟩
theorem d_setItem {H' : Hp} {Q : Unit → Shared → Prop} (hu : A.units + 1 < cLine) (I : Inv X pins σ H s) (g : DPut H a y v H') (ry : RelV y u) (rv : RelV v r) (h : ∀ s', Inv X pins σ H' s' → Q () s') :
    wpAny (model X.prog X.w) A (setItem (.ref a) u r) Q E s := by
  rcases g with ⟨kvs, k, e, ey, l, eH⟩ | ⟨kvs, k, b, e, ey, eb, l, eH⟩
  · subst ey eH
    obtain ⟨z, hd, vs, rel, dd⟩ := dk_of I.hok e
    have hz : vs.length ≤ sizeLine := by rw [← rel.length]; exact z
    have hl : (putK kvs k v).length ≤ sizeLine := by have := length_putK kvs k v; omega
    refine wpAny_setItem_pairs (hsz := hz) (kV_is ry) dd fun h' dd' hs => h _ ?_
    have he : ∃ q, h'.get? a = some q := let ⟨q, _, _, hq, _⟩ := dd'; ⟨q, hq⟩
    exact d_write I (by rw [e]; exact True.intro) hs he (dk_new hl hd (rel.put k rv) dd')
  · subst ey eH
    cases (show u = Value.ref b from ry)
    obtain ⟨z, hd, xs, rel, dd⟩ := dt_of I.hok e
    have hz : xs.length ≤ sizeLine := by rw [← Paired.length rel]; exact z
    have hl : (putK kvs k v).length ≤ sizeLine := by have := length_putK kvs k v; omega
    refine wpAny_setItem_heap (hsz := hz) (tupleKind_room_in1 hu) (key_of I.hok eb) dd fun h' dd' hs => h _ ?_
    obtain ⟨q, es, ep, hq, h2, h3, h4, _, h5⟩ := dd'
    refine d_write I (by rw [e]; exact True.intro) hs ⟨q, hq⟩ ⟨hl, hd, _, (rel.put k eb rv).keeps fun c ys ec => ?_, q, es, ep, hq, h2, h3, h4, h5⟩
    rw [upd_ne (ne_of ec e (fun z => nomatch z))]
    exact ec
end



def NoSl (i : Expr) : Prop := ∀ ov iv, subscripted i false ov iv = operate [ov, iv] (getItem ov iv)
theorem subD_of {prog : Program} {w : World} {A : Around} {E : Value → Shared → Prop} {s : Shared} {env : Env} {value slice : Expr} {pos : Pos} {T id : String} {Q : Value → Shared → Prop}
    (hl : typeLookup (.type T) "__getitem__" = pure (some (.builtin id))) (hs : NoSl slice)
    (h : wpAny (model prog w) A (eval value env) (fun o s₁ => wpAny (model prog w) A (eval slice env) (fun i s₂ => s₂.TypeIs o T ∧ wpAny (model prog w) A (getItem o i) Q E s₂) E s₁) E s) :
    wpAny (model prog w) A (eval (.Subscript value slice pos) env) Q E s := by
  refine Subscript_ (wpAny_mono h (fun o s₁ h₁ => wpAny_mono h₁ (fun i s₂ h₂ => ?_) fun _ _ x => x) fun _ _ x => x)
  obtain ⟨hT, h₂⟩ := h₂
  unfold subscriptTail
  refine wpAny_bind ?_
  rw [getitemInPython_of_ne hT.not_modules]
  refine wpAny_bind (wpAny_specialOf hT hl ?_)
  have fin : wpAny (model prog w) A (subscripted slice false o i) (fun r s₃ => wpAny (model prog w) A (letTemporaryGo value o r >>= fun _ => pure r) Q E s₃) E s₂ := by
    rw [hs o i]
    exact wpAny_operating (wpAny_mono h₂ (fun r s₃ h₃ => wpAny_bind (wpAny_letTemporaryGo (wpAny_pure h₃))) fun _ _ x => x)
  first
    | exact wpAny_pure (wpAny_bind fin)
    | exact wpAny_bind (wpAny_pure (wpAny_bind fin))
    | exact wpAny_bind fin

theorem dict_typeIs {X : Cx} {pins : List (Addr × Obj)} {σ : St} {H : Hp} {s : Shared} {a : Addr} {y : V} {o : Option V} (I : Inv X pins σ H s) (g : DGet H a y o) : s.TypeIs (.ref a) "dict" := by
  rcases g with ⟨kvs, k, e, _, _⟩ | ⟨kvs, k, b, e, _, _, _⟩
  · obtain ⟨_, _, vs, _, dd⟩ := dk_rd I.hok e
    exact dd.typeIs
  · obtain ⟨_, _, xs, _, dd⟩ := dt_rd I.hok e
    exact dd.typeIs
def tDGet (td ty : TE) : TE := fun σ H Q => td σ H fun x H1 => ty σ H1 fun y H2 => ∃ a v, x = .ref a ∧ DGet H2 a y (some v) ∧ Q v H2
def sDPut (td ty tv : TE) : TS := fun D σ H => tv σ H fun v H1 => td σ H1 fun x H2 => ty σ H2 fun y H3 => ∃ a H4, x = .ref a ∧ DPut H3 a y v H4 ∧ D.nx σ H4
section
variable {X : Cx} {o i e value : Expr} {pos pos' tpos : Pos} {td ty tv : TE}
theorem pe_dget (hu : X.A.units + 1 < cLine) (ho : PE X o td) (hi : PE X i ty) (hs : NoSl i) : PE X (.Subscript o i pos) (tDGet td ty) := by
  intro pins s σ H Q I h
  refine subD_of PySem.F.slot_dict_getitem.lookup hs (thn (ho pins s σ H _ I h) fun u s1 ⟨x, H1, I1, rx, q1⟩ => thn (hi pins s1 σ H1 _ I1 q1) fun iv s2 ⟨y, H2, I2, ry, a, v, ex, g, q2⟩ => ?_)
  subst ex
  obtain rfl : u = Value.ref a := rx
  exact ⟨dict_typeIs I2 g, d_getItem hu I2 g ry fun w' s3 I3 rw' => ⟨v, H2, I3, rw', q2⟩⟩
theorem ps_dput (hu : X.A.units + 1 < cLine) (ho : PE X o td) (hi : PE X i ty) (hv : PE X value tv) (hs : swapsWith value (some (.Subscript o i pos')) pos.line X.env = pure false) :
    PS X (.Assign [.Subscript o i pos'] value pos) (sDPut td ty tv) := by
  intro pins s σ H D I h
  refine wpAny_Assign_Subscript (thn (hv pins s σ H _ I h) fun r s1 ⟨v, H1, I1, rv, q1⟩ => thn (ho pins s1 σ H1 _ I1 q1) fun u s2 ⟨x, H2, I2, rx, q2⟩ => thn (hi pins s2 σ H2 _ I2 q2) fun iv s3 ⟨y, H3, I3, ry, a, H4, ex, g, q3⟩ => ?_) hs
  subst ex
  obtain rfl : u = Value.ref a := rx
  exact d_setItem hu I3 g ry rv fun s4 I4 => ⟨σ, H4, I4, q3⟩
end


theorem dk_empty {P : Program} {w : World} {H : Hp} (h : Heap) (hb : sysModules < h.objs.size) : ObjOk P w H (h.push { cls := .type "dict", data := .dict #[] }) h.objs.size (.dK []) :=
  ⟨Nat.zero_le _, beq_eq_false_iff_ne.mpr (Ne.symm (Nat.ne_of_lt hb)), [], .nil, Heap.DictOf.new h⟩
def tDNewK : TE := fun _ H Q => ∀ p, H p = none → Q (.ref p) (upd H p (.dK []))
section
variable {X : Cx} {pos : Pos}
theorem pe_dnewK : PE X (.Dict [] [] pos) tDNewK := fun pins s σ H Q I h =>
  wpAny_Dict_empty ⟨.ref s.heap.objs.size, _, I.laid (a := s.heap.objs.size) (o := .dK []) (t' := s.toks) (fun _ _ q => Heap.get?_push_of_some _ q) (Nat.le_refl _) (dk_empty s.heap I.big), rfl, h _ (I.hok.fresh (Nat.le_refl _))⟩
end

structure M2 (X : Cx) (o : Expr) (m : Str) (apos : Pos) (e f : Expr) (cpos : Pos) : Prop where
  base : attributeBase o m X.env (eval o X.env) = eval o X.env
  few : ((backTo cpos (starEach [e, f] X.env)).all (fun x => !x.1) && (backToKw cpos (keywordEach [] X.env)).all (fun x => x.1.isSome)
    && decide (([e, f] : List Expr).length + ([] : List Keyword).length + (if ([] : List Keyword).isEmpty then 0 else 1) < 30)) = true
  line : (apos.endLine == cpos.line) = true
  trees : backTo cpos (starEach [e, f] X.env) = [(false, eval e X.env), (false, eval f X.env)]

def IsD (H : Hp) (a : Addr) : Prop := (∃ kvs, Rd H a (.dK kvs)) ∨ ∃ kvs, Rd H a (.dT kvs)
theorem isD_at {X : Cx} {pins : List (Addr × Obj)} {σ : St} {H : Hp} {s : Shared} {a : Addr} (I : Inv X pins σ H s) (d : IsD H a) :
    s.TypeIs (.ref a) "dict" ∧ (∀ b, Value.ref a = .ref b → ∃ ob, s.heap.get? b = some ob ∧ ob.dict = none) ∧ (a == sysModules) = false := by
  rcases d with ⟨kvs, e⟩ | ⟨kvs, e⟩
  · obtain ⟨_, hd, vs, _, dd⟩ := dk_rd I.hok e
    refine ⟨dd.typeIs, fun b q => ?_, hd⟩
    cases q
    obtain ⟨ob, _, _, h1, h2, _⟩ := dd
    exact ⟨ob, h1, h2.2.1⟩
  · obtain ⟨_, hd, xs, _, dd⟩ := dt_rd I.hok e
    refine ⟨dd.typeIs, fun b q => ?_, hd⟩
    cases q
    obtain ⟨ob, _, _, h1, h2, _⟩ := dd
    exact ⟨ob, h1, h2.2.1⟩





end L2


namespace HT
open PySem PyProof.Rows


section
variable {prog : Program} {w : World} {A : Around} {E : Value → Shared → Prop} {s : Shared}

theorem cat_tup {t b : Addr} {vs ws : List Value} {Q : Value → Shared → Prop} (ht : IsTup s.heap t vs.toArray) (hb : IsTup s.heap b ws.toArray) (hv : vs ≠ [])
    (h1 : ws = [] → Q (.ref t) s) (h2 : ws ≠ [] → Q (.ref s.heap.objs.size) { s with heap := s.heap.push { cls := .type "tuple", data := .seq (vs ++ ws).toArray } })
    (hsz : vs.length + ws.length ≤ sizeLine) : wpAny (model prog w) A (binaryOp .Add (.ref t) (.ref b)) Q E s := by
  obtain ⟨⟨cls, dd, data, sl⟩, ho, hc, n, hd⟩ := id ht
  obtain ⟨⟨cls2, dd2, data2, sl2⟩, ho2, hc2, n2, hd2⟩ := id hb
  simp only at hc hd hc2 hd2
  subst hc hd hc2 hd2
  have e : vs.toArray ++ ws.toArray = (vs ++ ws).toArray := by simp
  by_cases hw : ws = []
  · exact concat_meets ⟨_, ho, rfl⟩ ⟨_, ho2, rfl⟩ noFill_tuple_add seq_tuple_add PySem.F.slot_tuple_add PySem.F.entry_tuple_add (PySem.F.args_tuple_add_2 _ _)
      (tuple_addW1 t b vs.toArray ws.toArray n n2 dd dd2 sl sl2 (by simpa using hv) (by simp [hw])) ⟨ho, ho2, h1 hw⟩
  · refine concat_meets ⟨_, ho, rfl⟩ ⟨_, ho2, rfl⟩ noFill_tuple_add seq_tuple_add PySem.F.slot_tuple_add PySem.F.entry_tuple_add (PySem.F.args_tuple_add_2 _ _)
      (tuple_addW2 t b vs.toArray ws.toArray n n2 dd dd2 sl sl2 (by simpa using hv) (by simpa using hw) (by rw [List.size_toArray, List.size_toArray]; exact hsz)) ⟨ho, ho2, ?_⟩
    rw [e]
    exact h2 hw

def sIx (n d : Nat) : Option Int → Nat
  | none => d
  | some v => if v < 0 then (v + (n : Int)).toNat else min v.toNat n
theorem sIx_le (n d : Nat) (hd : d ≤ n) (o : Option Int) : sIx n d o ≤ n := by
  cases o with
  | none => exact hd
  | some v =>
    show (if v < 0 then (v + (n : Int)).toNat else min v.toNat n) ≤ n
    by_cases hv : v < 0
    · rw [if_pos hv]; omega
    · rw [if_neg hv]; exact Nat.min_le_right _ _
theorem clip_eq (v : Int) (n d : Nat) : (if v < 0 then max (v + (n : Int)) 0 else min v (n : Int)) = ((sIx n d (some v) : Nat) : Int) := by
  show (if v < 0 then max (v + (n : Int)) 0 else min v (n : Int)) = (((if v < 0 then (v + (n : Int)).toNat else min v.toNat n) : Nat) : Int)
  by_cases hv : v < 0
  · simp only [if_pos hv]; omega
  · simp only [if_neg hv]; omega
theorem adjust_gen (lo hi : Option Int) (n : Nat) : Builtin.Slice.sliceAdjust lo hi 1 (n : Int) = (((sIx n 0 lo : Nat) : Int), ((sIx n n hi : Nat) : Int)) := by
  have h1 : ¬ ((1 : Int) < 0) := by omega
  unfold Builtin.Slice.sliceAdjust
  simp only [h1, if_false]
  refine Prod.ext ?_ ?_
  · cases lo with
    | none => rfl
    | some v => exact clip_eq v n 0
  · cases hi with
    | none => rfl
    | some v => exact clip_eq v n n
theorem places_gen (i j : Nat) : Builtin.Slice.slicePlaces (i : Int) (j : Int) 1 = j - i := by
  unfold Builtin.Slice.slicePlaces
  have h1 : (1 : Int) > 0 := by omega
  simp only [h1, if_true, Int.ediv_one]
  split <;> omega
theorem slicePart_ {v : Value} {o : Option Int} {Q : Option Int → Shared → Prop} (p : IsPart v o) (h : Q o s) : wpAny (model prog w) A (Builtin.Slice.slicePartIndex v) Q E s := by
  cases p with
  | none => exact slicePart_none h
  | int i t => exact slicePart_int h
theorem sliceApplied_gen {sl : Addr} {vl vu : Value} {lo hi : Option Int} {n : Nat} {Q : Int × Int × Nat → Shared → Prop} (hs : s.heap.IsSliceOf sl vl vu .none) (pl : IsPart vl lo) (pu : IsPart vu hi)
    (h : Q (((sIx n 0 lo : Nat) : Int), 1, sIx n n hi - sIx n 0 lo) s) : wpAny (model prog w) A (Builtin.Slice.sliceApplied (.ref sl) (pure (n : Int))) Q E s := by
  obtain ⟨os, hos, hcs, hds⟩ := id hs
  unfold Builtin.Slice.sliceApplied Builtin.Slice.sliceFields
  refine wpAny_bind (wpAny_bind (wpAny_field hos hds (x := vl) rfl (wpAny_bind (wpAny_field hos hds (x := vu) rfl (wpAny_bind (wpAny_field hos hds (x := .none) rfl (wpAny_pure ?_)))))))
  refine wpAny_bind (slicePart_none ?_)
  show wpAny _ _ (if ((1 : Int) == 0) = true then _ else _) _ _ s
  rw [if_neg (by decide)]
  refine wpAny_bind (slicePart_ pl (wpAny_bind (slicePart_ pu (wpAny_bind (wpAny_pure ?_)))))
  show wpAny _ _ (match Builtin.Slice.sliceAdjust lo hi 1 (n : Int) with | (lo, hi) => pure (lo, (1 : Int), Builtin.Slice.slicePlaces lo hi 1)) _ _ s
  rw [adjust_gen lo hi n]
  show wpAny _ _ (pure (((sIx n 0 lo : Nat) : Int), (1 : Int), Builtin.Slice.slicePlaces ((sIx n 0 lo : Nat) : Int) ((sIx n n hi : Nat) : Int) 1)) _ _ s
  rw [places_gen]
  exact wpAny_pure h
theorem pick_gen (xs : Array Value) (i k : Nat) : ((List.range k).filterMap fun (m : Nat) => xs[((i : Int) + (m : Int) * 1).toNat]?).toArray = ((xs.toList.drop i).take k).toArray := by
  have e : (fun (m : Nat) => xs[((i : Int) + (m : Int) * 1).toNat]?) = fun m => xs[i + m]? := by
    funext m
    have : ((i : Int) + (m : Int) * 1).toNat = i + m := by omega
    rw [this]
  rw [e]
  have := pick_run xs i k
  rw [List.filterMap_map] at this
  have e2 : ((fun x => xs[x]?) ∘ fun x => i + x) = fun m => xs[i + m]? := rfl
  rw [e2] at this
  rw [this]

theorem getItem_tuple_cut {t sl : Addr} {items : Array Value} {vl vu : Value} {lo hi : Option Int} {Q : Value → Shared → Prop} (ht : IsTup s.heap t items) (hs : s.heap.IsSliceOf sl vl vu .none) (pl : IsPart vl lo) (pu : IsPart vu hi)
    (hw : ¬ (sIx items.size 0 lo = 0 ∧ sIx items.size items.size hi = items.size))
    (h : Q (.ref s.heap.objs.size) { s with heap := s.heap.push { cls := .type "tuple", data := .seq ((items.toList.drop (sIx items.size 0 lo)).take (sIx items.size items.size hi - sIx items.size 0 lo)).toArray } })
    (hsz : items.size ≤ sizeLine) : wpAny (model prog w) A (getItem (.ref t) (.ref sl)) Q E s := by
  have htake : sizeOk (.seq ((items.toList.drop (sIx items.size 0 lo)).take (sIx items.size items.size hi - sIx items.size 0 lo)).toArray) := by
    show ((items.toList.drop (sIx items.size 0 lo)).take (sIx items.size items.size hi - sIx items.size 0 lo)).toArray.size ≤ sizeLine
    rw [List.size_toArray, List.length_take, List.length_drop, Array.length_toList]
    omega
  have hj : sIx items.size items.size hi ≤ items.size := sIx_le _ _ (Nat.le_refl _) hi
  obtain ⟨os, hos, hcs, hds⟩ := id hs
  have hTs : s.TypeIs (.ref sl) "slice" := ⟨os, hos, hcs⟩
  unfold getItem
  try with_reducible refine wpAny_holding ?_
  first | refine wpAny_bind (wpAny_pure ?_) | skip
  refine wpAny_bind (wpAny_sequenceKey ht.typeIs (by decide) ?_)
  refine wpAny_bind (wpAny_callSpecial?_slot (name := Str.ofString "__getitem__") ht.typeIs PyProof.Rows.slot_tuple_getitem
    (wpAny_call_entry PyProof.Rows.slot_tuple_getitem ht.typeIs entry_tuple_getitem ?_ (args_tuple_getitem _ _)))
  show wpAny _ _ (Builtin.Tuple.tupleItemsOf (.ref t) >>= _) _ _ s
  refine wpAny_bind (tupleItemsOf_ ht ?_)
  refine wpAny_bind (wpAny_typeOf hTs ?_)
  rw [if_pos (by decide)]
  refine wpAny_bind (sliceApplied_gen hs pl pu ?_)
  have hno : ¬ ((((sIx items.size 0 lo : Nat) : Int) == 0 && (1 : Int) == 1 && (sIx items.size items.size hi - sIx items.size 0 lo) == items.size) = true) := by
    intro q
    rw [Bool.and_eq_true, Bool.and_eq_true] at q
    have q1 : ((sIx items.size 0 lo : Nat) : Int) = 0 := eq_of_beq q.1.1
    have q2 : sIx items.size items.size hi - sIx items.size 0 lo = items.size := eq_of_beq q.2
    exact hw ⟨by omega, by omega⟩
  show wpAny _ _ (if (((sIx items.size 0 lo : Nat) : Int) == 0 && (1 : Int) == 1 && (sIx items.size items.size hi - sIx items.size 0 lo) == items.size) = true then _ else _) _ _ s
  rw [if_neg hno, pick_gen]
  first
    | exact wpAny_bind (m := Builtin.Tuple.tupleExact _) (wpAny_newObj_type (wpAny_pure ⟨_, rfl, wpAny_pure h⟩) htake)
    | exact wpAny_bind (m := Builtin.Tuple.tupleExact _) (wpAny_newObj_type (wpAny_bind (wpAny_pure (wpAny_pure ⟨_, rfl, wpAny_pure h⟩))) htake)
    | exact wpAny_bind (wpAny_bind (m := Builtin.Tuple.tupleExact _) (wpAny_newObj_type (wpAny_pure (wpAny_pure ⟨_, rfl, wpAny_pure h⟩)) htake))
    | exact wpAny_bind (wpAny_bind (m := Builtin.Tuple.tupleExact _) (wpAny_newObj_type (wpAny_pure ⟨_, rfl, wpAny_pure h⟩) htake))
end
end HT

namespace L2
open PySem PySem.Spec PyProof.Rows

abbrev TO := St → Hp → (Option Int → Hp → Prop) → Prop
def PO (X : Cx) (e : Option Expr) (t : TO) : Prop :=
  ∀ (pins : List (Addr × Obj)) (s : Shared) (σ : St) (H : Hp) (Q : Option Int → Hp → Prop), Inv X pins σ H s → t σ H Q →
    wpAny (model X.prog X.w) X.A (evalPart e X.env) (fun u s' => ∃ o H', Inv X pins σ H' s' ∧ IsPart u o ∧ Q o H') X.xe s
def tNoPart : TO := fun _ H Q => Q none H
def tPart (t : TE) : TO := fun σ H Q => t σ H fun x H1 => ∃ i, x = .int i ∧ Q (some i) H1

section
variable {X : Cx} {e : Expr} {te : TE} {lo hi : Option Expr} {tl th : TO} {pos p2 : Pos}

theorem po_none : PO X none tNoPart := by
  intro pins s σ H Q I h
  rw [evalPart_none]
  exact wpAny_pure ⟨none, H, I, .none, h⟩
theorem po_some (h : PE X e te) : PO X (some e) (tPart te) := by
  intro pins s σ H Q I hw
  rw [evalPart_some]
  refine thn (h pins s σ H _ I hw) fun u s1 ⟨x, H1, I1, r1, q1⟩ => ?_
  obtain ⟨i, rfl, q⟩ := q1
  obtain ⟨t, rfl⟩ := r1
  exact ⟨some i, H1, I1, .int i t, q⟩

def SlR (X : Cx) (r : V → Option Int → Option Int → Hp → VK → Prop) : Prop :=
  ∀ (pins : List (Addr × Obj)) (s : Shared) (σ : St) (H : Hp) (x : V) (v vl vu : Value) (lo hi : Option Int) (sl : Addr) (Q : VK), Inv X pins σ H s → RelV x v → s.heap.IsSliceOf sl vl vu .none → IsPart vl lo → IsPart vu hi → r x lo hi H Q →
    ∃ T id, typeLookup (.type T) "__getitem__" = pure (some (.builtin id)) ∧ s.TypeIs v T ∧ wpAny (model X.prog X.w) X.A (getItem v (.ref sl)) (EP X pins σ Q) X.xe s
def tSl (r : V → Option Int → Option Int → Hp → VK → Prop) (te : TE) (tl th : TO) : TE := fun σ H Q => te σ H fun x H1 => tl σ H1 fun l H2 => th σ H2 fun u H3 => r x l u H3 Q
theorem pe_slice {r : V → Option Int → Option Int → Hp → VK → Prop} (hr : SlR X r) (he : PE X e te) (hl : PO X lo tl) (hu : PO X hi th) : PE X (.Subscript e (.Slice lo hi none p2) pos) (tSl r te tl th) := by
  intro pins s σ H Q I h
  refine Subscript_ (thn (he pins s σ H _ I h) fun v s1 ⟨x, H1, I1, r1, q1⟩ => ?_)
  refine wpAny_Slice (thn (hl pins s1 σ H1 _ I1 q1) fun vl s2 ⟨l, H2, I2, pl, q2⟩ => thn (hu pins s2 σ H2 _ I2 q2) fun vu s3 ⟨u, H3, I3, pu, q3⟩ => ?_)
  rw [evalPart_none]
  refine wpAny_pure ?_
  have I4 : Inv X pins σ H3 { s3 with heap := s3.heap.push { cls := .type "slice", data := .fields #[vl, vu, .none] } } := I3.kept (t' := s3.toks) fun b ob q => Heap.get?_push_of_some _ q
  obtain ⟨T, id, hT, ht, hg⟩ := hr pins { s3 with heap := s3.heap.push { cls := .type "slice", data := .fields #[vl, vu, .none] } } σ H3 x v vl vu l u s3.heap.objs.size Q I4 r1 (Heap.IsSliceOf.new ..) pl pu q3
  show wpAny (model X.prog X.w) X.A (subscriptTail e (.Slice lo hi none p2) v (.ref s3.heap.objs.size)) (EP X pins σ Q) X.xe { s3 with heap := s3.heap.push { cls := .type "slice", data := .fields #[vl, vu, .none] } }
  exact tail_any (ops := [.ref s3.heap.objs.size, v]) ht hT hg (by with_unfolding_all rfl)

def cutV (xs : List V) (lo hi : Option Int) : List V := (xs.drop (HT.sIx xs.length 0 lo)).take (HT.sIx xs.length xs.length hi - HT.sIx xs.length 0 lo)
theorem cutV_length (xs : List V) (lo hi : Option Int) : (cutV xs lo hi).length ≤ xs.length := by
  unfold cutV
  rw [List.length_take, List.length_drop]
  omega
def rSlT (K : PySem.W.Frag) : V → Option Int → Option Int → Hp → VK → Prop := fun x lo hi H Q => ∃ a xs, x = .ref a ∧ SqT K H a xs ∧
  ¬ (HT.sIx xs.length 0 lo = 0 ∧ HT.sIx xs.length xs.length hi = xs.length) ∧ ∀ p, H p = none → Q (.ref p) (upd H p (.tup (cutV xs lo hi)))
theorem sl_tup : SlR X (rSlT X.K) := by
  intro pins s σ H x v vl vu lo hi sl Q I rx hs pl pu h
  obtain ⟨a, xs, rfl, hx, hw, q⟩ := h
  cases rx
  obtain ⟨its, r, ht, hz⟩ := I.tuple hx
  have hlen : its.toArray.size = xs.length := by rw [List.size_toArray]; exact r.length.symm
  refine ⟨"tuple", _, PyProof.Rows.slot_tuple_getitem.lookup, ht.typeIs, ?_⟩
  refine HT.getItem_tuple_cut ht hs pl pu (by rw [hlen]; exact hw) ?_ (by rw [hlen]; exact hz)
  rw [hlen]
  refine ⟨.ref s.heap.objs.size, _, I.laid (t' := s.toks) (o := .tup (cutV xs lo hi)) (fun b ob q => Heap.get?_push_of_some _ q) (Nat.le_refl _) ?_, rfl, q _ (I.hok.fresh (Nat.le_refl _))⟩
  exact ⟨Nat.le_trans (cutV_length xs lo hi) hz, _, (r.drop (HT.sIx xs.length 0 lo)).take (HT.sIx xs.length xs.length hi - HT.sIx xs.length 0 lo), IsTup.new _ _⟩

def rCatT (K : PySem.W.Frag) : R2 := fun x y H Q => ∃ a b xs ys, x = .ref a ∧ y = .ref b ∧ SqT K H a xs ∧ SqT K H b ys ∧ xs ≠ [] ∧ xs.length + ys.length ≤ sizeLine ∧
  (ys = [] → Q (.ref a) H) ∧ (ys ≠ [] → ∀ p, H p = none → Q (.ref p) (upd H p (.tup (xs ++ ys))))
theorem Vals.nil_iff {xs : List V} {us : List Value} (r : Vals xs us) : us = [] ↔ xs = [] := by
  cases r with
  | nil => simp
  | cons _ _ => simp
theorem op_catT : OpR X (binaryOp .Add) (rCatT X.K) := by
  intro pins s σ H x y v u Q I rx ry h
  obtain ⟨a, b, xs, ys, rfl, rfl, ha, hb, hx, hz, q1, q2⟩ := h
  cases rx
  cases ry
  obtain ⟨its, r1, p1, _⟩ := I.tuple ha
  obtain ⟨its2, r2, p2, _⟩ := I.tuple hb
  refine HT.cat_tup p1 p2 (fun z => hx (r1.nil_iff.mp z)) (fun z => ⟨.ref a, H, I, rfl, q1 (r2.nil_iff.mp z)⟩) (fun z => ?_) (by rw [← r1.length, ← r2.length]; exact hz)
  refine ⟨.ref s.heap.objs.size, _, I.laid (t' := s.toks) (o := .tup (xs ++ ys)) (fun b ob q => Heap.get?_push_of_some _ q) (Nat.le_refl _) ?_, rfl, q2 (fun w => z (r2.nil_iff.mpr w)) _ (I.hok.fresh (Nat.le_refl _))⟩
  exact ⟨by rw [List.length_append]; exact hz, _, r1.append r2, IsTup.new _ _⟩
end
end L2

namespace L2
open PySem PySem.Spec PyProof.Rows

def ixN (n : Nat) (i : Int) : Option Nat := if 0 ≤ i then (if i < n then some i.toNat else none) else if -(n : Int) ≤ i then some (i + n).toNat else none
def atI {α : Type} (xs : List α) (i : Int) : Option α := (ixN xs.length i).bind fun j => xs[j]?
theorem ixN_seq {n : Nat} {i : Int} {j : Nat} (h : ixN n i = some j) : seqIndex? i n = some j ∧ j < n ∧ -(n : Int) ≤ i ∧ i < n := by
  unfold ixN at h
  by_cases h0 : 0 ≤ i
  · rw [if_pos h0] at h
    by_cases h1 : i < n
    · rw [if_pos h1] at h
      have e : i.toNat = j := Option.some.inj h
      exact ⟨by rw [seqIndex_of h0 h1, e], by omega, by omega, h1⟩
    · rw [if_neg h1] at h; cases h
  · rw [if_neg h0] at h
    by_cases h1 : -(n : Int) ≤ i
    · rw [if_pos h1] at h
      have e : (i + n).toNat = j := Option.some.inj h
      exact ⟨by rw [seqIndex_neg (by omega) h1, e], by omega, h1, by omega⟩
    · rw [if_neg h1] at h; cases h
theorem atI_get {α : Type} {xs : List α} {i : Int} {v : α} (h : atI xs i = some v) : ∃ j, seqIndex? i xs.length = some j ∧ xs[j]? = some v ∧ j < xs.length ∧ -(xs.length : Int) ≤ i ∧ i < xs.length := by
  unfold atI at h
  cases e : ixN xs.length i with
  | none => rw [e] at h; cases h
  | some j =>
    rw [e] at h
    obtain ⟨h1, h2, h3, h4⟩ := ixN_seq e
    exact ⟨j, h1, h, h2, h3, h4⟩
theorem atI_nat {α : Type} {xs : List α} {j : Nat} {v : α} (h : xs[j]? = some v) : atI xs (j : Int) = some v := by
  have hj : j < xs.length := (List.getElem?_eq_some_iff.mp h).1
  have e : ixN xs.length (j : Int) = some j := by
    unfold ixN
    rw [if_pos (by omega), if_pos (by omega)]; simp
  unfold atI; rw [e]; exact h
def PlainIx (b : Expr) : Prop := ∀ o i, subscripted b false o i = operate [o, i] (getItem o i)
def IxR (X : Cx) (r : R2) : Prop :=
  ∀ (value slice : Expr) (pins : List (Addr × Obj)) (s : Shared) (σ : St) (H : Hp) (x y : V) (v u : Value) (Q : VK), Inv X pins σ H s → RelV x v → RelV y u → r x y H Q →
    subscripted slice false v u = operate [v, u] (getItem v u) → wpAny (model X.prog X.w) X.A (subscriptTail value slice v u) (EP X pins σ Q) X.xe s
def MtR (X : Cx) (id : String) (r : V → List V → Hp → VK → Prop) : Prop :=
  ∀ (pins : List (Addr × Obj)) (s : Shared) (σ : St) (H : Hp) (x : V) (xs : List V) (v : Value) (us : List Value) (Q : VK), Inv X pins σ H s → RelV x v → Vals xs us → r x xs H Q →
    wpAny (model X.prog X.w) X.A (call (.builtin id) (v :: us)) (EP X pins σ Q) X.xe s
section
variable {X : Cx} {a b : Expr} {ta tb : TE} {pos : Pos}
theorem pe_ix {r : R2} (hr : IxR X r) (ha : PE X a ta) (hb : PE X b tb) (hs : PlainIx b) : PE X (.Subscript a b pos) (tOp r ta tb) := by
  intro pins s σ H Q I h
  exact Subscript_ (binT ha hb I h fun v u s2 x y H2 I2 rx ry q => hr a b pins s2 σ H2 x y v u Q I2 rx ry q (hs _ _))

def rIxL (K : PySem.W.Frag) : R2 := fun x y H Q => ∃ p xs i v, x = .ref p ∧ y = .int i ∧ SqL K H p xs ∧ atI xs i = some v ∧ Q v H
def rIxT (K : PySem.W.Frag) : R2 := fun x y H Q => ∃ p xs i v, x = .ref p ∧ y = .int i ∧ SqT K H p xs ∧ atI xs i = some v ∧ Q v H
theorem ix_list : IxR X (rIxL X.K) := by
  intro value slice pins s σ H x y v u Q I rx ry h hs
  obtain ⟨p, xs, i, z, rfl, rfl, hq, he, q⟩ := h
  cases rx
  obtain ⟨t, rfl⟩ := ry
  obtain ⟨its, r, pl, hz⟩ := I.list hq
  obtain ⟨j, h1, h2, h3, h4, h5⟩ := atI_get he
  obtain ⟨w, ew, rw'⟩ := r.get h2
  have hl := r.length
  have hn := line63
  have fin : EP X pins σ Q w s := ⟨z, H, I, rw', q⟩
  by_cases h0 : 0 ≤ i
  · have hj : i.toNat = j := by
      rw [seqIndex_of h0 h5] at h1
      exact Option.some.inj h1
    exact item_listR pl.isList h0 (by omega) (by rw [hj]; simpa using ew) fin hs
  · have hj : (i + (its.toArray.size : Int)).toNat = j := by
      rw [seqIndex_neg (by omega) h4] at h1
      rw [List.size_toArray, ← hl]
      exact Option.some.inj h1
    exact subscriptTail_builtinR (x := w) pl.isList.typeIs slot_list_getitem.lookup
      (wpAny_getItem_list_neg (Q := fun r s' => r = w ∧ EP X pins σ Q r s') pl.isList (by omega) (by rw [List.size_toArray] <;> omega) (by omega) (by rw [hj]; simpa using ew) ⟨rfl, fin⟩) hs
theorem ix_tup : IxR X (rIxT X.K) := by
  intro value slice pins s σ H x y v u Q I rx ry h hs
  obtain ⟨p, xs, i, z, rfl, rfl, hq, he, q⟩ := h
  cases rx
  obtain ⟨t, rfl⟩ := ry
  obtain ⟨its, r, pl, hz⟩ := I.tuple hq
  obtain ⟨j, h1, h2, h3, h4, h5⟩ := atI_get he
  obtain ⟨w, ew, rw'⟩ := r.get h2
  have hl := r.length
  have hn := line63
  have fin : EP X pins σ Q w s := ⟨z, H, I, rw', q⟩
  exact subscriptTail_builtinR (x := w) pl.typeIs slot_tuple_getitem.lookup
    (getItem_tuple (j := j) (Q := fun r s' => r = w ∧ EP X pins σ Q r s') pl (by omega) (by omega) (by rw [List.size_toArray, ← hl]; exact h1) (by simpa using ew) ⟨rfl, fin⟩) hs
theorem slice_bounds (lo hi : Option Int) (n : Nat) : (sliceBounds lo hi none n).1 = ((HT.sIx n 0 lo : Nat) : Int) ∧ (sliceBounds lo hi none n).2.1 = ((HT.sIx n n hi : Nat) : Int) ∧ (sliceBounds lo hi none n).2.2 = 1 := by
  refine ⟨?_, ?_, rfl⟩
  · cases lo with
    | none => simp [sliceBounds, HT.sIx]
    | some i =>
      simp only [sliceBounds, HT.sIx, Option.getD_none, show (1 : Int) > 0 by decide, if_true]
      by_cases h : i < 0
      · simp only [h, if_true] <;> omega
      · simp only [h, if_false] <;> omega
  · cases hi with
    | none => simp [sliceBounds, HT.sIx]
    | some i =>
      simp only [sliceBounds, HT.sIx, Option.getD_none, show (1 : Int) > 0 by decide, if_true]
      by_cases h : i < 0
      · simp only [h, if_true] <;> omega
      · simp only [h, if_false] <;> omega
theorem slicePick_cut (its : List Value) (lo hi : Option Int) : slicePick its.toArray lo hi none = ((its.drop (HT.sIx its.length 0 lo)).take (HT.sIx its.length its.length hi - HT.sIx its.length 0 lo)).toArray := by
  obtain ⟨h1, h2, h3⟩ := slice_bounds lo hi its.toArray.size
  unfold slicePick
  rw [h1, h2, h3]
  simp only [sliceRange_one, pick_run, List.size_toArray] <;> rfl
def rSlL (K : PySem.W.Frag) : V → Option Int → Option Int → Hp → VK → Prop := fun x lo hi H Q => ∃ a xs, x = .ref a ∧ SqL K H a xs ∧ ∀ p, H p = none → Q (.ref p) (upd H p (.lst (cutV xs lo hi)))
theorem sl_list : SlR X (rSlL X.K) := by
  intro pins s σ H x v vl vu lo hi sl Q I rx hs pl pu h
  obtain ⟨a, xs, rfl, hx, q⟩ := h
  cases rx
  obtain ⟨its, r, ht, hz⟩ := I.list hx
  have hlen := r.length
  refine ⟨"list", _, slot_list_getitem.lookup, ht.isList.typeIs, ?_⟩
  refine wpAny_getItem_list_slice ht.isList hs pl pu .none (by simp) ?_ (by rw [List.size_toArray] <;> omega)
  rw [slicePick_cut, ← hlen]
  refine ⟨.ref s.heap.objs.size, _, I.laid (t' := s.toks) (o := .lst (cutV xs lo hi)) (fun b ob q => Heap.get?_push_of_some _ q) (Nat.le_refl _) ?_, rfl, q _ (I.hok.fresh (Nat.le_refl _))⟩
  exact ⟨Nat.le_trans (cutV_length xs lo hi) hz, _, 0, (r.drop (HT.sIx xs.length 0 lo)).take (HT.sIx xs.length xs.length hi - HT.sIx xs.length 0 lo), Heap.get?_push_size _ rfl⟩

def flatV : V → Bool
  | .non => true
  | .bl _ => true
  | .int _ => true
  | .str _ => true
  | _ => false
def eqV : V → V → Bool
  | .non, .non => true
  | .bl a, .bl b => a == b
  | .bl a, .int b => (if a then 1 else 0) == b
  | .int a, .bl b => a == (if b then 1 else 0)
  | .int a, .int b => a == b
  | .str a, .str b => a == b
  | _, _ => false
theorem eqAt_V {A : Around} {s : Shared} {y x : V} {u v : Value} (ry : RelV y u) (rx : RelV x v) (fy : flatV y = true) (fx : flatV x = true) : SeqAt.EqAt A s u v (eqV y x) := by
  cases y with
  | non =>
    cases ry
    cases x with
    | non => cases rx; exact SeqAt.EqAt.same _
    | bl b => cases rx; exact SeqAt.EqAt.none_bool b
    | int b => obtain ⟨t, rfl⟩ := rx; exact SeqAt.EqAt.none_int b t
    | str b => obtain ⟨t, rfl⟩ := rx; exact SeqAt.EqAt.none_str b t
    | _ => exact absurd (show false = true from fx) Bool.false_ne_true
  | bl a =>
    cases ry
    cases x with
    | non => cases rx; exact SeqAt.EqAt.bool_none a
    | bl b => cases rx; exact SeqAt.EqAt.bool_bool a b
    | int b => obtain ⟨t, rfl⟩ := rx; exact SeqAt.EqAt.bool_int a b t
    | str b => obtain ⟨t, rfl⟩ := rx; exact SeqAt.EqAt.bool_str a b t
    | _ => exact absurd (show false = true from fx) Bool.false_ne_true
  | int a =>
    obtain ⟨t', rfl⟩ := ry
    cases x with
    | non => cases rx; exact SeqAt.EqAt.int_none a t'
    | bl b => cases rx; exact SeqAt.EqAt.int_bool a t' b
    | int b => obtain ⟨t, rfl⟩ := rx; exact SeqAt.EqAt.int_int a t' b t
    | str b => obtain ⟨t, rfl⟩ := rx; exact SeqAt.EqAt.int_str a t' b t
    | _ => exact absurd (show false = true from fx) Bool.false_ne_true
  | str a =>
    obtain ⟨t', rfl⟩ := ry
    cases x with
    | non => cases rx; exact SeqAt.EqAt.str_none a t'
    | bl b => cases rx; exact SeqAt.EqAt.str_bool a t' b
    | int b => obtain ⟨t, rfl⟩ := rx; exact SeqAt.EqAt.str_int a t' b t
    | str b => obtain ⟨t, rfl⟩ := rx; exact SeqAt.EqAt.str_str a t' b t
    | _ => exact absurd (show false = true from fx) Bool.false_ne_true
  | _ => exact absurd (show false = true from fy) Bool.false_ne_true
def eqU (x : V) (u : Value) : Bool := match u with
  | .none => eqV .non x
  | .bool b => eqV (.bl b) x
  | .int i _ => eqV (.int i) x
  | .str z _ => eqV (.str z) x
  | _ => false
theorem eqU_of {x y : V} {u : Value} (r : RelV y u) (f : flatV y = true) : eqU x u = eqV y x := by
  cases y with
  | non => cases r; rfl
  | bl b => cases r; rfl
  | int i => obtain ⟨t, rfl⟩ := r; rfl
  | str z => obtain ⟨t, rfl⟩ := r; rfl
  | _ => exact absurd (show false = true from f) Bool.false_ne_true
theorem any_eqU {x : V} : ∀ {xs : List V} {us : List Value}, Vals xs us → xs.all flatV = true → us.any (eqU x) = xs.any fun y => eqV y x
  | _, _, .nil, _ => rfl
  | y :: xs, u :: us, .cons r t, f => by
    rw [List.all_cons, Bool.and_eq_true] at f
    rw [List.any_cons, List.any_cons, eqU_of r f.1, any_eqU t f.2]
theorem mem_eqAt {A : Around} {s : Shared} {x : V} {v : Value} (rx : RelV x v) (fx : flatV x = true) : ∀ {xs : List V} {us : List Value}, Vals xs us → xs.all flatV = true → ∀ u ∈ us, SeqAt.EqAt A s u v (eqU x u)
  | _, _, .nil, _ => fun u hu => by cases hu
  | y :: xs, u :: us, .cons r t, f => fun u' hu => by
    rw [List.all_cons, Bool.and_eq_true] at f
    rcases List.mem_cons.mp hu with rfl | hu
    · rw [eqU_of r f.1]; exact eqAt_V r rx f.1 fx
    · exact mem_eqAt rx fx t f.2 u' hu
def inV (x : V) (xs : List V) : Bool := xs.any fun y => eqV y x
def rIn (K : PySem.W.Frag) (neg : Bool) : R2 := fun x y H Q => ∃ p xs, y = .ref p ∧ (SqL K H p xs ∨ SqT K H p xs) ∧ flatV x = true ∧ xs.all flatV = true ∧ Q (.bl (if neg then !inV x xs else inV x xs)) H
theorem op_notIn_seq : OpR X (compareOp .NotIn) (rIn X.K true) := by
  intro pins s σ H x y v u Q I rx ry h
  obtain ⟨p, xs, rfl, hq, fx, fs, q⟩ := h
  cases ry
  rcases hq with hq | hq
  · obtain ⟨its, r, pl, hz⟩ := I.list hq
    refine SeqAt.notIn_listAt (eqU x) pl.isList (fun w hw => mem_eqAt rx fx r fs w (by simpa using hw)) ⟨.bl _, H, I, rfl, ?_⟩
    rw [show its.toArray.any (eqU x) = its.any (eqU x) by simp, any_eqU r fs]
    exact q
  · obtain ⟨its, r, pl, hz⟩ := I.tuple hq
    refine SeqAt.notIn_tupleAt (eqU x) pl (fun w hw => mem_eqAt rx fx r fs w (by simpa using hw)) ⟨.bl _, H, I, rfl, ?_⟩
    rw [show its.toArray.any (eqU x) = its.any (eqU x) by simp, any_eqU r fs]
    exact q
theorem call_len_seq : CallR X (.builtin "len") (fun xs H Q => ∃ p ys, xs = [.ref p] ∧ (SqL X.K H p ys ∨ SqT X.K H p ys) ∧ Q (.int ys.length) H) := by
  intro pins s σ H xs us Q I r h
  obtain ⟨p, ys, rfl, hq, q⟩ := h
  obtain ⟨u, rfl, rx⟩ := vals1 r
  cases rx
  have hn := line63
  rcases hq with hq | hq
  · obtain ⟨its, r', pl, hz⟩ := I.list hq
    have hlen := r'.length
    exact Calls.call_len_list pl.isList (by simp only [List.size_toArray] <;> omega) ⟨.int ys.length, H, I.tok _, ⟨s.toks + 1, by rw [List.size_toArray, hlen]⟩, q⟩
  · obtain ⟨its, r', pl, hz⟩ := I.tuple hq
    have hlen := r'.length
    exact len_tuple pl (by simp only [List.size_toArray] <;> omega) ⟨.int ys.length, H, I.tok _, ⟨s.toks + 1, by rw [List.size_toArray, hlen]⟩, q⟩
theorem call_list_of : CallR X (.type "list") (fun xs H Q => ∃ p ys, xs = [.ref p] ∧ (SqL X.K H p ys ∨ SqT X.K H p ys) ∧ ∀ l, H l = none → Q (.ref l) (upd H l (.lst ys))) := by
  intro pins s σ H xs us Q I r h
  obtain ⟨p, ys, rfl, hq, q⟩ := h
  obtain ⟨u, rfl, rx⟩ := vals1 r
  cases rx
  have fin : ∀ (its : List Value), Vals ys its → ys.length ≤ sizeLine → ∀ (h' : Heap) (c' : Nat), (∀ b o', s.heap.get? b = some o' → h'.get? b = some o') →
      h'.get? s.heap.objs.size = some { cls := .type "list", dict := none, data := .seq its.toArray c', slots := #[] } → EP X pins σ Q (.ref s.heap.objs.size) { s with heap := h' } := fun its r' hz h' c' kp e =>
    ⟨.ref s.heap.objs.size, _, I.laid (t' := s.toks) kp (Nat.le_refl _) (show ObjOk X.prog X.w _ h' _ (.lst ys) from ⟨hz, its, c', r', e⟩), rfl, q _ (I.hok.fresh (Nat.le_refl _))⟩
  rcases hq with hq | hq
  · obtain ⟨its, r', pl, hz⟩ := I.list hq
    have hlen := r'.length
    obtain ⟨o, ho, hc, n, hd⟩ := pl.isList
    exact call_list_seq p (.inl rfl) ho hc hd (fun h' c' kp e => fin its r' hz h' c' kp e) (by simp only [List.size_toArray] <;> omega)
  · obtain ⟨its, r', pl, hz⟩ := I.tuple hq
    have hlen := r'.length
    obtain ⟨o, ho, hc, n, hd⟩ := pl
    exact call_list_seq p (.inr rfl) ho hc hd (fun h' c' kp e => fin its r' hz h' c' kp e) (by simp only [List.size_toArray] <;> omega)
theorem call_tuple_of : CallR X (.type "tuple") (fun xs H Q => ∃ p ys, xs = [.ref p] ∧ ((SqL X.K H p ys ∧ ∀ l, H l = none → Q (.ref l) (upd H l (.tup ys))) ∨ (SqT X.K H p ys ∧ Q (.ref p) H))) := by
  intro pins s σ H xs us Q I r h
  obtain ⟨p, ys, rfl, h⟩ := h
  obtain ⟨u, rfl, rx⟩ := vals1 r
  cases rx
  rcases h with ⟨hq, q⟩ | ⟨hq, q⟩
  · obtain ⟨its, r', pl, hz⟩ := I.list hq
    have hlen := r'.length
    refine call_tuple_list pl.isList (fun h' kp => ?_) (by simp only [List.size_toArray] <;> omega)
    have I1 : Inv X pins σ H { s with heap := h' } := I.kept (t' := s.toks) kp
    have I2 : Inv X pins σ (upd H h'.objs.size (.tup ys)) { s with heap := h'.push { cls := .type "tuple", data := .seq its.toArray } } :=
      I1.laid (t' := s.toks) (fun b o e => Heap.get?_push_of_some _ e) (Nat.le_refl _) (show ObjOk X.prog X.w _ _ _ (.tup ys) from ⟨hz, its, r', IsTup.new _ _⟩)
    exact ⟨.ref h'.objs.size, _, I2, rfl, q _ (I1.hok.fresh (Nat.le_refl _))⟩
  · obtain ⟨its, r', pl, hz⟩ := I.tuple hq
    exact call_tuple_same pl ⟨.ref p, H, I, rfl, q⟩

def tyV (K : PySem.W.Frag) (T : String) (x : V) (H : Hp) : Prop := match x with
  | .str _ => T = "str"
  | .int _ => T = "int"
  | .ref p => (T = "list" ∧ ∃ xs, SqL K H p xs) ∨ (T = "tuple" ∧ ∃ o, K.lookup p = some o ∧ o.cls = .type "tuple" ∧ o.dict = none) ∨
      (T = "dict" ∧ ((∃ kvs, H p = some (.dK kvs)) ∨ ∃ kvs, H p = some (.dT kvs))) ∨ (T = "set" ∧ ∃ S n, H p = some (.set S n))
  | _ => False
theorem tyV_is {pins : List (Addr × Obj)} {σ : St} {H : Hp} {s : Shared} {T : String} {x : V} {v : Value} (I : Inv X pins σ H s) (r : RelV x v) (ty : tyV X.K T x H) :
    s.TypeIs v T ∧ ∀ a, v = .ref a → ∃ ob, s.heap.get? a = some ob ∧ ob.dict = none := by
  cases x with
  | str z =>
    obtain ⟨t, rfl⟩ := r
    cases (show T = "str" from ty)
    exact ⟨typeIs_str s z t, fun _ e => nomatch e⟩
  | int i =>
    obtain ⟨t, rfl⟩ := r
    cases (show T = "int" from ty)
    exact ⟨typeIs_int s i t, fun _ e => nomatch e⟩
  | ref p =>
    cases r
    rcases ty with ⟨rfl, xs, hq⟩ | ⟨rfl, o, hk, hc, hd⟩ | ⟨rfl, hk⟩ | ⟨rfl, S, n, hk⟩
    · obtain ⟨its, _, pl, _⟩ := I.list hq
      refine ⟨pl.isList.typeIs, fun a e => ?_⟩
      cases e
      obtain ⟨o, n, e, c, hd, _⟩ := pl
      exact ⟨o, e, hd⟩
    · refine ⟨⟨o, I.kIn p o hk, hc⟩, fun a e => ?_⟩
      cases e
      exact ⟨o, I.kIn _ o hk, hd⟩
    · have z : ∃ o, s.heap.get? p = some o ∧ o.ExactDict := by
        rcases hk with ⟨kvs, hk⟩ | ⟨kvs, hk⟩
        · obtain ⟨_, _, _, _, o, _, _, e, ex, _⟩ := I.hok p _ hk
          exact ⟨o, e, ex⟩
        · obtain ⟨_, _, _, _, o, _, _, e, ex, _⟩ := I.hok p _ hk
          exact ⟨o, e, ex⟩
      obtain ⟨o, e, ex⟩ := z
      refine ⟨⟨o, e, ex.1⟩, fun a e2 => ?_⟩
      cases e2
      exact ⟨o, e, ex.2.1⟩
    · obtain ⟨o, _, _, _, e, ex, _⟩ := I.hok p _ hk
      refine ⟨⟨o, e, ex.1⟩, fun a e2 => ?_⟩
      cases e2
      exact ⟨o, e, ex.2.1⟩
  | _ => exact False.elim ty
def tBM (K : PySem.W.Frag) (T : String) (r : V → List V → Hp → VK → Prop) (to : TE) (t : TA) : TE := fun σ H Q => to σ H fun x H1 => tyV K T x H1 ∧ t σ H1 fun xs H2 => r x xs H2 Q
variable {o e : Expr} {es : List Expr} {to : TE} {t : TA} {name : Str} {apos cpos : Pos} {T id : String} {r : V → List V → Hp → VK → Prop}
theorem pe_bm (pa : PlainAttrs T) (slot : Slot T name id) (hty : typeOf (.builtin id) = pure (.type "method_descriptor")) (hm : MtR X id r) (ho : PE X o to) (ha : PA X (e :: es) t)
    (hbase : attributeBase o name X.env (eval o X.env) = eval o X.env := by rfl)
    (hfew : ((backTo cpos (starEach (e :: es) X.env)).all (fun x => !x.1) && (backToKw cpos (keywordEach [] X.env)).all (fun x => x.1.isSome)
      && decide ((e :: es).length + ([] : List Keyword).length + (if ([] : List Keyword).isEmpty then 0 else 1) < 30)) = true := by rfl)
    (hline : (apos.endLine == cpos.line) = true := by rfl) (hs : starEach (e :: es) X.env = (false, eval e X.env) :: starEach es X.env := by rfl) (hplain : (backTo cpos (starEach es X.env)).any (·.1) = false := by rfl) :
    PE X (.Call (.Attribute o name apos) (e :: es) [] cpos) (tBM X.K T r to t) := by
  intro pins s σ H Q I h
  refine wpAny_Call_method_late hbase hfew hline rfl (thn (ho pins s σ H _ I h) fun v s1 ⟨x, H1, I1, r1, ty, q1⟩ => ?_)
  obtain ⟨h1, h2⟩ := tyV_is I1 r1 ty
  refine ⟨T, id, pa, slot, hty, h1, h2, ?_⟩
  have hA := ha cpos pins s1 σ H1 _ I1 q1
  rw [hs] at hA ⊢
  refine Calls.callWith_builtin (by show (false || (backTo cpos (starEach es X.env)).any (·.1)) = false; rw [hplain] <;> rfl) (Calls.evalArgs_plain ?_)
  exact thn hA fun us s2 ⟨vs, H2, I2, r2, q2⟩ => hm pins s2 σ H2 x vs v us Q I2 r1 r2 q2
/- xs.append(e), list.index on a module's tuple .. are MtR facts of 06m -/
end
end L2

namespace L2
open PySem PySem.Spec PyProof.Rows

def MtM (X : Cx) (id : String) (r : V → List V → Hp → VK → Prop) : Prop :=
  ∀ (pins : List (Addr × Obj)) (s : Shared) (σ : St) (H : Hp) (x : V) (xs : List V) (v : Value) (us : List Value) (Q : VK), Inv X pins σ H s → RelV x v → Vals xs us → r x xs H Q →
    wpAny (model X.prog X.w) X.A (call (.builtin id) (v :: us)) (EP X pins σ Q) X.xe s

theorem Vals.one : ∀ {x : V} {us : List Value}, Vals [x] us → ∃ u, us = [u] ∧ RelV x u
  | _, _, .cons r .nil => ⟨_, rfl, r⟩
theorem Vals.two : ∀ {x y : V} {us : List Value}, Vals [x, y] us → ∃ u v, us = [u, v] ∧ RelV x u ∧ RelV y v
  | _, _, _, .cons r (.cons q .nil) => ⟨_, _, rfl, r, q⟩
section
variable {X : Cx} {pins : List (Addr × Obj)} {σ : St} {H : Hp} {s : Shared} {l b : Addr} {xs ys zs : List V}

theorem Inv.lset {its its' : List Value} {n : Nat} {f : Array Value → Array Value} {t' : Nat} (I : Inv X pins σ H s) (hH : H l = some (.lst xs))
    (e : s.heap.get? l = some { cls := .type "list", data := .seq its.toArray n }) (hf : f its.toArray = its'.toArray) (hv : Vals ys its') (hz : ys.length ≤ sizeLine) :
    Inv X pins σ (upd H l (.lst ys)) { s with heap := s.heap.update l (Obj.mapSeq f), toks := t' } := by
  have q := PySem.IsL.update e f
  rw [hf] at q
  refine I.write (x := l) (e := l) (by rw [hH]; exact trivial) (.inl rfl) (fun b' u hb hu => (Heap.get?_update_other s.heap (Obj.mapSeq f) (Ne.symm hb)).trans hu) ⟨_, q⟩ ?_
  exact ⟨hz, its', _, hv, q⟩
theorem Inv.lnew {its : List Value} {t' : Nat} (I : Inv X pins σ H s) (hv : Vals ys its) (hz : ys.length ≤ sizeLine) :
    Inv X pins σ (upd H s.heap.objs.size (.lst ys)) { s with heap := s.heap.push { cls := .type "list", data := .seq its.toArray }, toks := t' } :=
  I.laid (fun _ _ q => Heap.get?_push_of_some _ q) (Nat.le_refl _) ⟨hz, its, 0, hv, Heap.get?_push_size _ rfl⟩
theorem Inv.fresh (I : Inv X pins σ H s) : H s.heap.objs.size = none := I.hok.fresh (Nat.le_refl _)
theorem Inv.lstM (I : Inv X pins σ H s) (hH : H l = some (.lst xs)) : xs.length ≤ sizeLine ∧ ∃ (its : List Value) (n : Nat), Vals xs its ∧ xs.length = its.length ∧ s.heap.get? l = some { cls := .type "list", data := .seq its.toArray n } := by
  obtain ⟨z, its, n, r, e⟩ := I.hok l _ hH
  exact ⟨z, its, n, r, r.length, e⟩

theorem notLongL {n : Nat} (h : n ≤ sizeLine) : Builtin.List.listTooLong n = false := by
  unfold Builtin.List.listTooLong
  exact decide_eq_false (by omega)
end

section
variable {X : Cx}

def rAppend : V → List V → Hp → VK → Prop := fun x vs H Q => ∃ l xs y, x = .ref l ∧ vs = [y] ∧ H l = some (.lst xs) ∧ xs.length < sizeLine ∧ Q .non (upd H l (.lst (xs ++ [y])))
theorem mt_append : MtM X "list.append" rAppend := by
  intro pins s σ H x vs v us Q I rx rv h
  obtain ⟨l, xs, y, rfl, rfl, hH, hz, q⟩ := h
  cases rx
  obtain ⟨u, rfl, ru⟩ := rv.one
  obtain ⟨z, its, n, r, hl, e⟩ := I.lstM hH
  refine call_meets F.slot_list_append ⟨_, e, rfl⟩ F.entry_list_append (F.args_list_append_2 _ _) (PySem.list_append l its.toArray n u (by rw [List.size_toArray]; omega)) ⟨e, ?_⟩
  refine ⟨.non, _, I.lset (its' := its ++ [u]) hH e (by simp) (r.append (.cons ru .nil)) ?_, rfl, q⟩
  rw [List.length_append, List.length_singleton]
  omega

def rExtend : V → List V → Hp → VK → Prop := fun x vs H Q => ∃ l b xs zs, x = .ref l ∧ vs = [.ref b] ∧ H l = some (.lst xs) ∧ H b = some (.lst zs) ∧ xs.length + zs.length ≤ sizeLine ∧ Q .non (upd H l (.lst (xs ++ zs)))
theorem mt_extend : MtM X "list.extend" rExtend := by
  intro pins s σ H x vs v us Q I rx rv h
  obtain ⟨l, b, xs, zs, rfl, rfl, hH, hB, hz, q⟩ := h
  cases rx
  obtain ⟨u, rfl, ru⟩ := rv.one
  cases ru
  obtain ⟨z, its, n, r, hl, e⟩ := I.lstM hH
  obtain ⟨z2, its2, n2, r2, hl2, e2⟩ := I.lstM hB
  have hsz : its.toArray.size + its2.toArray.size ≤ sizeLine := by rw [List.size_toArray, List.size_toArray]; omega
  have hlong : ¬ (!its.toArray.isEmpty && Builtin.List.listTooLong (its.toArray.size + its2.toArray.size)) = true := by
    rw [notLongL hsz, Bool.and_false]
    exact Bool.false_ne_true
  refine call_meets F.slot_list_extend ⟨_, e, rfl⟩ F.entry_list_extend (F.args_list_extend_2 _ _)
    (AutoSeq1.list_extend_list_list_0 l its.toArray n b its2.toArray n2 hlong (by rw [List.size_toArray]; omega) (by omega)) ⟨e, e2, ?_⟩
  refine ⟨.non, _, I.lset (its' := its ++ its2) hH e (by simp) (r.append r2) ?_, rfl, q⟩
  rw [List.length_append]
  omega

def rCat : R2 := fun x y H Q => ∃ l b xs zs, x = .ref l ∧ y = .ref b ∧ H l = some (.lst xs) ∧ H b = some (.lst zs) ∧ xs.length + zs.length ≤ sizeLine ∧ ∀ p, H p = none → Q (.ref p) (upd H p (.lst (xs ++ zs)))
theorem op_cat : OpR X (binaryOp .Add) rCat := by
  intro pins s σ H x y v u Q I rx ry h
  obtain ⟨l, b, xs, zs, rfl, rfl, hH, hB, hz, q⟩ := h
  cases rx
  cases ry
  obtain ⟨z, its, n, r, hl, e⟩ := I.lstM hH
  obtain ⟨z2, its2, n2, r2, hl2, e2⟩ := I.lstM hB
  refine PySem.P.add_list e e2 ?_ (by rw [List.size_toArray, List.size_toArray]; omega)
  have ea : its.toArray ++ its2.toArray = (its ++ its2).toArray := by simp
  rw [ea]
  exact ⟨.ref _, _, I.lnew (t' := s.toks) (r.append r2) (by rw [List.length_append]; omega), rfl, q _ I.fresh⟩
end


end L2

namespace Att
open PySem PySem.W PySem.Calls PyProof.Rows

theorem ints_of_wellAll {P : Params} {h : Heap} : ∀ (ns : List Int) (vs : List Value), WellAll P h vs (ns.map WData.int) → IntsAre vs ns := by
  intro ns
  induction ns with
  | nil =>
    intro vs w
    rw [List.map_nil] at w
    cases w
    exact .nil
  | cons n ns ih =>
    intro vs w
    rw [List.map_cons] at w
    cases w with
    | cons a b =>
      cases a
      exact .cons _ _ (ih _ b)

theorem script_of {l : OpenLaw} {n : Nat} (hn : l.most = some n) {P : Params} {h : Heap} {args : List WData} {vals : List Value}
    (hpre : l.row.toRowW.claim.pre args = true) (hwl : WellAll P h vals args) :
    ∃ a vs ns, vals = [Value.ref a] ∧ args = [WData.list (ns.map WData.int)] ∧ h.get? a = some { cls := .type "list", data := .seq vs.toArray } ∧ IntsAre vs ns ∧ ns.length ≤ n := by
  have hsh : WShape.hasAll [] args [.list .int] = true := (pre_splitW hpre).1
  have hc : l.pre.holds [] { args := args } = true := (pre_splitW hpre).2
  obtain ⟨d, r, rfl, h1, h2⟩ := hasAllW_cons hsh
  obtain rfl := hasAllW_nil h2
  obtain ⟨xs, rfl, h3⟩ := hasW_list h1
  obtain ⟨ns, rfl⟩ := items_int h3
  have hlen : ns.length ≤ n := by
    unfold OpenLaw.pre at hc
    have h4 : (WTm.not (.lt (.lit (.int (n : Int))) (.len (.arg 0)))).holds [] { args := [.list (ns.map .int)] } = true := by
      have h4 := (holds_andW hc).1
      rw [hn] at h4
      exact h4
    have h5 := condW_of h4 (w_not (w_lt w_lit (w_len_list (w_arg rfl))))
    rw [List.length_map] at h5
    refine Nat.le_of_not_lt fun q => ?_
    have q' : (n : Int) < ((ns.length : Nat) : Int) := by omega
    first
      | (rw [decide_eq_true q'] at h5; exact absurd h5 (by decide))
      | (simp at h5; omega)
  cases hwl with
  | cons w1 w2 =>
    cases w2
    cases w1 with
    | list ho hall => exact ⟨_, _, ns, rfl, rfl, ho, ints_of_wellAll ns _ hall, hlen⟩

theorem post_true (l : OpenLaw) (args : List WData) : l.row.toRowW.claim.post args (.bool true) args = true :=
  postW_of (r := l.row.toRowW) (X := (true == true))
    (show WShape.has [] (.bool true) .bool = true by first | rfl | decide | simp [WShape.has, WShape.arms, WShape.armsAll])
    (show (WTm.eq .res (.lit (.bool true))).value [] { args := args, res := some (.bool true), after := args } = some (.bool (true == true)) from w_eq_bool (w_res rfl) w_lit) rfl

theorem attach_call {l : OpenLaw} {n : Nat} {q : Program} {loose : List Str} {XP : (Str → Option Value) → Heap → Prop} {YP : World → Heap → Prop} {d : DefRec}
    (hn : l.most = some n) (hdf : d.params.defaults = [])
    (call : ∀ (w : World) (s₀ s₁ : Shared) (mg mb : Str → Option Value) (fa : Addr) (o : Obj) (pm cd doc : Value) (a : Addr) (vs : List Value) (ns : List Int),
      Ground q loose [] XP w s₀ mg mb s₁.heap → YP w s₁.heap →
      s₁.heap.get? fa = some o → o.data = .func (docDef d.name d.params d.body d.scope pm cd doc) → s₁.heap.CodeRec cd d.name → mg d.name = some (.ref fa) →
      s₁.heap.get? a = some { cls := .type "list", data := .seq vs.toArray } → IntsAre vs ns → ns.length ≤ n → s₁.gens = #[] →
      codeAny (model l.prog w) callerA (.call (.ref fa) ⟨[.ref a], []⟩) (fun r s' => r = .ok (.ret (.bool true)) ∧ OldK s₁.heap s'.heap ∧ s'.os = s₁.os ∧ AllBare s'.gens) s₁) :
    WalkO q loose XP YP l.row.toRowW d [] (fun f vs => PySem.call f vs) := by
  intro w s₀ s₁ mg mb G Y fa o pm cd doc dV kV ho hd hcd hD hmg hg args vals as hpre hlay hrd hwl hlo
  obtain rfl : dV = .none := Dflts.none hD hdf
  obtain rfl : kV = .none := Dflts.noKw hD
  obtain ⟨a, vs, ns, rfl, rfl, hobj, hints, hlen⟩ := script_of hn hpre hwl
  refine enter_call (codeAny_mono (call w s₀ s₁ mg mb fa o pm cd doc a vs ns G Y ho (fd_plain hd) hcd hmg hobj hints hlen hg) fun r s' hq => ?_)
  obtain ⟨rfl, h2, h3, h4⟩ := hq
  exact ⟨.inl ⟨.bool true, .bool true, [], rfl, fun _ => rfl, .bool true, post_true l _, fun _ => ⟨List.Pairwise.nil, fun _ hm => (nomatch hm)⟩⟩, h2, h3, h4⟩

end Att

namespace L2
open PySem PySem.Spec PyProof.Rows

theorem vals_ints : ∀ {vs : List Value} {ns : List Int}, IntsAre vs ns → Vals (ns.map V.int) vs
  | _, _, .nil => .nil
  | _, _, .cons n t h => .cons ⟨t, rfl⟩ (vals_ints h)

def Only (H : Hp) : Prop := ∀ b, H b = none ∨ ∃ o xs, H b = some (.frz o (.lst xs))

theorem law_call {P : Program} {w : World} {K : PySem.W.Frag} {mg mb : Str → Option Value} {CX : CXT} {k : Nat} {fa a : Addr} {fd : FuncData} {x : Str} {sp : Sp} {s₁ : Shared} {vs : List Value} {ns : List Int}
    (KX : K.In s₁.heap) (hns : s₁.heap.Ns mainGlobals mg) (hb : s₁.heap.Ns builtinsNs mb) (hbb : ∀ x : Str, x ≠ "__name__" → mb x = bootBuiltins x) (hlim : s₁.heap.NoLimit) (hg : s₁.gens = #[])
    (ha : s₁.heap.get? a = some { cls := .type "list", data := .seq vs.toArray }) (hi : IntsAre vs ns) (hl : ns.length ≤ sizeLine) (hr : Room k callerA)
    (F : ∀ base : Heap, K.In base → base.Ns mainGlobals mg → FnOk P w K mg base CX k fa fd [x] sp) (hbind : ∀ (s : Shared) (u : Value), BindsTo s fd ⟨[u], []⟩ [(x, u)])
    (hsp : ∀ H : Hp, Only H → SqL K H a (ns.map V.int) → sp [.ref a] H (fun v _ => v = .bl true) fun _ _ _ => False)
    (hCX : ∀ H e s', CX [] H s₁ (fun _ _ _ => False) e s' → False) :
    codeAny (model P w) callerA (.call (.ref fa) ⟨[.ref a], []⟩) (fun r s' => r = .ok (.ret (.bool true)) ∧ OldK s₁.heap s'.heap ∧ s'.os = s₁.os ∧ AllBare s'.gens) s₁ := by
  have rv := vals_ints hi
  have lenV := hi.length
  have core : ∀ H : Hp, Only H → SqL K H a (ns.map V.int) → HOk P w H s₁.heap → (∀ b, H b ≠ none → b = a) → (H a ≠ none → K.lookup a = none) →
      codeAny (model P w) callerA (.call (.ref fa) ⟨[.ref a], []⟩) (fun r s' => r = .ok (.ret (.bool true)) ∧ OldK s₁.heap s'.heap ∧ s'.os = s₁.os ∧ AllBare s'.gens) s₁ := by
    intro H hO hS hok hA hK
    have base_of : ∀ {b : Addr} {o : Obj}, s₁.heap.get? b = some o → H b = none → (hidT s₁.heap H).get? b = some o := fun e n => hidT_get e n
    have noA : ∀ {b : Addr} {o : Obj} {es : Array DictEntry} {ep : Nat}, s₁.heap.get? b = some o → o.data = .dict es ep → H b = none := fun {b o es ep} e d => by
      cases q : H b with
      | none => rfl
      | some u =>
        have e' : b = a := hA b (by rw [q]; simp)
        subst e'
        rw [ha] at e; cases e
        have d' : Data.seq vs.toArray _ = Data.dict es ep := d
        cases d'
    have nsK : ∀ {b : Addr} {m : Str → Option Value}, s₁.heap.Ns b m → (hidT s₁.heap H).Ns b m := fun {b m} ⟨o, es, ep, e, d, r⟩ => ⟨o, es, ep, base_of e (noA e d), d, r⟩
    have hKb : K.In (hidT s₁.heap H) := fun b o e => base_of (KX b o e) (by
      cases q : H b with
      | none => rfl
      | some u =>
        have e' : b = a := hA b (by rw [q]; simp)
        subst e'
        rw [hK (by rw [q]; simp)] at e; cases e)
    have hM : Mod K mg (hidT s₁.heap H) := ⟨hKb, nsK hns, ⟨mb, nsK hb, hbb⟩, let ⟨mc, h1, h2⟩ := hlim; ⟨mc, nsK h1, h2⟩⟩
    have e0 : Env0 P w K mg (hidT s₁.heap H) callerA [] s₁ H := ⟨rfl, hM, fun b o e => of_hidT e, Nat.le_of_eq (hidT_size _ _), trivial, fun b hb => absurd (show b ∈ ([] : List Addr) from hb) (by simp), hok, .of_eq hg⟩
    refine codeAny_mono ((F _ hKb (nsK hns)).run callerA [] s₁ H ⟨[.ref a], []⟩ [.ref a] [.ref a] _ _ hr e0 (hbind s₁ (.ref a)) (.cons rfl .nil) (hsp H hO hS)) fun r s' h => ?_
    cases r with
    | error e => exact (hCX H e s' h).elim
    | ok fl =>
      cases fl with
      | next => exact False.elim h
      | brk => exact False.elim h
      | cont => exact False.elim h
      | ret u =>
        obtain ⟨v, H', os, bare, un, hok', r', q⟩ := h
        have q' : v = .bl true := q
        subst q'
        obtain rfl : u = Value.bool true := r'
        refine ⟨rfl, OldK.of_keep fun b o e => ?_, os, bare⟩
        cases q : H b with
        | none => exact un.keep b o e q (by intro z; exact absurd (show b ∈ ([] : List Addr) from z) (by simp)) (by simp)
        | some u =>
          rcases hO b with z | ⟨ob, xs, z⟩
          · rw [q] at z; cases z
          · have z2 := un.frzs b ob _ z
            obtain ⟨e1, _⟩ := hok b _ z
            obtain ⟨e2, _⟩ := hok' b _ z2
            rw [e] at e1; cases e1
            exact e2
  cases hk : K.lookup a with
  | some o =>
    have e := KX a o hk
    rw [ha] at e
    cases e
    refine core (fun _ => none) (fun _ => .inl rfl) (.inr ⟨_, vs.toArray, _, hk, rfl, rfl, rfl, by rw [List.size_toArray, lenV]; exact hl, by simpa using rv⟩) (fun b u z => by have z' : (none : Option HO) = some u := z; cases z') (fun b z => absurd rfl z) fun z => absurd rfl z
  | none =>
    refine core (fun b => if b = a then some (.frz { cls := .type "list", data := .seq vs.toArray } (.lst (ns.map V.int))) else none) (fun b => ?_) (.inl (.inr ⟨{ cls := .type "list", data := .seq vs.toArray }, if_pos rfl⟩)) (fun b u z => ?_) (fun b z => ?_) fun _ => hk
    · by_cases hb : b = a
      · exact .inr ⟨_, _, if_pos hb⟩
      · exact .inl (if_neg hb)
    · by_cases hb : b = a
      · have z' := (if_pos hb).symm.trans z
        cases z'
        subst hb
        exact ⟨ha, by rw [List.length_map]; exact hl, vs, _, rv, ha⟩
      · have z' := (if_neg hb).symm.trans z
        cases z'
    · by_cases hb : b = a
      · exact hb
      · exact absurd (if_neg hb) z
end L2

namespace L2
open PySem PySem.Spec PyProof.Rows

theorem walk_of {l : PySem.W.OpenLaw} {n k : Nat} {q : Program} {loose : List Str} {XP : (Str → Option Value) → Heap → Prop} {YP : World → Heap → Prop} {d : DefRec} {K : Params → PySem.W.Frag} {CX : World → CXT} {sp : World → Sp} {x : Str}
    (hn : l.most = some n) (hn2 : n ≤ sizeLine) (hdf : d.params.defaults = []) (hr : Room k callerA)
    (hY : ∀ (w : World) (h : Heap), YP w h → (K w.params).In h)
    (F : ∀ (w : World) (mg : Str → Option Value) (fa : Addr) (h : Heap), (K w.params).In h → h.Ns mainGlobals mg → mg d.name = some (.ref fa) →
      ∃ fd : FuncData, (∀ (s : Shared) (u : Value), BindsTo s fd ⟨[u], []⟩ [(x, u)]) ∧
        ∀ base : Heap, (K w.params).In base → base.Ns mainGlobals mg → FnOk l.prog w (K w.params) mg base (CX w) k fa fd [x] (sp w))
    (hsp : ∀ (w : World) (H : Hp) (a : Addr) (ns : List Int), ns.length ≤ n → Only H → SqL (K w.params) H a (ns.map V.int) → sp w [.ref a] H (fun v _ => v = .bl true) fun _ _ _ => False)
    (hCX : ∀ (w : World) (H : Hp) (s : Shared) (e : Value) (s' : Shared), CX w [] H s (fun _ _ _ => False) e s' → False) :
    PySem.W.WalkO q loose XP YP l.row.toRowW d [] (fun f vs => PySem.call f vs) := by
  refine Att.attach_call hn hdf fun w s₀ s₁ mg mb fa o pm cd doc a vs ns G Y ho hd hcd hmg hobj hints hlen hg => ?_
  have KX := hY w _ Y
  obtain ⟨fd, hb, hF⟩ := F w mg fa _ KX G.T.g hmg
  exact law_call KX G.T.g G.T.b G.T.builtins G.T.nolimit hg hobj hints (Nat.le_trans hlen hn2) hr hF hb (fun H hO hS => hsp w H a ns hlen hO hS) fun H e s' => hCX w H s₁ e s'
end L2

/- THE LAST THEOREM (shape; LID, My.* are yours):
   My.Adr: a structure of the addresses that your layer names (classes, functions); My.Txt K t: a structure (Prop) of the equations over K;
   My.txt_mk : {K} {implicit addresses ..} (e1 : nsIn K mainGlobals "law" = some (some (.ref f))) (e2 : K.lookup f = some ⟨oc, od, .func (fnOf "law" "law" params body scope dV kV doc pm an cdv ct), sl⟩) (e3 : codeIn K cdv "law" = true) .. : ∃ t, My.Txt K t

set_option maxRecDepth 100000 in
set_option maxHeartbeats 0 in
theorem PySem.Challenge.cw_LID_holds : PySem.Challenge.rw_LID.Holds := by
  w_on; o_law; k_head; (case hw => w_witness2)
  k_fill
  refine L2.walk_of (l := PySem.Challenge.rw_LID) (n := 63) (k := 40) (x := "script") (CX := fun w => ..) (sp := fun _ => My.sp_law) rfl (by decide) rfl ⟨rfl, by decide, by decide⟩ (fun w h Y => PySem.W.kIn_of Y) ?F ?S ?C
  case F =>
    intro w mg fa h KX G hmg
    have T : ∃ t, My.Txt (L2.KOf KX) t := by
      dsimp only [L2.KOf]                          -- K must stand as «<heap const> w.params» for k_is
      refine' My.txt_mk ?e1 ?e2 ?e3 ..
      (case e1 => PySem.W.k_is)                    -- in the order: a name -> its address -> its object -> its parts
      (case e2 => PySem.W.k_is)
      ..
    obtain ⟨t, T⟩ := T
    have e0 := hmg.symm.trans (PySem.W.mg_of KX G T.law)
    cases e0                                       -- fa is the law's own address
    exact ⟨_, fun s u => .of_eq rfl, fun base kb nb => My.law_fn T kb nb⟩     -- if «.of_eq rfl» comes too early: refine' ⟨_, ?b, fun base kb nb => My.law_fn T kb nb⟩; exact fun s u => .of_eq rfl
  case S => exact fun w H a ns hl hO hS => ..
  case C => exact ..
(the tactic k_is has no namespace: write k_is) -/

namespace L2
open PySem PySem.Spec PyProof.Rows

def defArgs (s : Stmt) : Arguments := match s with
  | .FunctionDef _ a _ _ _ _ _ _ _ _ => a
  | _ => { posonlyargs := [], args := [], vararg := none, kwonlyargs := [], kw_defaults := [], kwarg := none, defaults := [] }
def defBody (s : Stmt) : List Stmt := match s with
  | .FunctionDef _ _ b _ _ _ _ _ _ _ => b
  | _ => []
def defScope (s : Stmt) : Scope := match s with
  | .FunctionDef _ _ _ _ _ _ sc _ _ _ => sc
  | _ => { kind := .function, names := [], isGenerator := false, isCoroutine := false }

abbrev CX0 : CXT := fun _ _ _ _ _ _ => False
abbrev E0 : XK := fun _ _ _ => False
theorem pass0 {X : Cx} : Passes CX0 X E0 := fun _ _ _ _ _ _ _ h => h.elim

structure Fun (K : PySem.W.Frag) (x qual : Str) (st : Stmt) (f : Addr) (fd : FuncData) : Prop where
  ex : ∃ (oc : Value) (od : Option Addr) (kV doc pm : Value) (an : Option Addr) (cdv ct : Value) (osl : Array (Option Value)),
    fd = PySem.W.fnOf x qual (defArgs st) (defBody st) (defScope st) .none kV doc pm an cdv ct ∧ K.lookup f = some ⟨oc, od, .func fd, osl⟩ ∧ PySem.W.codeIn K cdv qual = true
  kp : PySem.W.keepIn K (.ref f) = true
section
variable {P : Program} {w : World} {K : PySem.W.Frag} {mg : Str → Option Value} {base : Heap}
theorem Fun.ok {x qual : Str} {st : Stmt} {f : Addr} {fd : FuncData} {N ps : List Str} {k : Nat} {sp : Sp} (F : Fun K x qual st f fd) (S : FnScope N ps (defScope st)) (len : ∀ vs H Q E, sp vs H Q E → vs.length = ps.length)
    (hbody : ∀ (cdv : Value) (A : Around) (outer : List Env) (s : Shared) (H : Hp) (vs : List V) (Q : VK) (E : XK), Room k (A.deeper (envOfC qual (defScope st) s.heap.objs.size f cdv)) → sp vs H Q E →
      ∃ t, PSs (cxOf CX0 P w K mg base N qual (defScope st) f cdv A outer s H E).nox (defBody st) t ∧ t { nx := fun _ H' => Q .non H', rt := Q } (start N vs) H) : FnOk P w K mg base CX0 (k + 1) f fd ps sp := by
  obtain ⟨oc, od, kV, doc, pm, an, cdv, ct, osl, rfl, lk, hcd⟩ := F.ex
  refine fn_of lk hcd S len fun A outer s H vs Q E hr hsp => ?_
  obtain ⟨t, h, q⟩ := hbody cdv A outer s H vs Q E hr hsp
  exact ⟨t, h.nox, q⟩
theorem Fun.binds {x qual : Str} {st : Stmt} {f : Addr} {fd : FuncData} {ps : List Str} (F : Fun K x qual st f fd)
    (h : ∀ (kV doc pm : Value) (an : Option Addr) (cdv ct : Value) (us : List Value), us.length = ps.length → bindArgs (PySem.W.fnOf x qual (defArgs st) (defBody st) (defScope st) .none kV doc pm an cdv ct) ⟨us, []⟩ = pure (ps.zip us)) : Binds K fd ps [] := by
  obtain ⟨oc, od, kV, doc, pm, an, cdv, ct, osl, rfl, lk, hcd⟩ := F.ex
  exact .all (h kV doc pm an cdv ct)
theorem fun_mk {x qual : Str} {st : Stmt} {f : Addr} {oc : Value} {od an : Option Addr} {osl : Array (Option Value)} {kV doc pm cdv ct : Value} (l : K.lookup f = some ⟨oc, od, .func (PySem.W.fnOf x qual (defArgs st) (defBody st) (defScope st) .none kV doc pm an cdv ct), osl⟩)
    (c : PySem.W.codeIn K cdv qual = true) (k : PySem.W.keepIn K (.ref f) = true) : Fun K x qual st f (PySem.W.fnOf x qual (defArgs st) (defBody st) (defScope st) .none kV doc pm an cdv ct) := ⟨⟨oc, od, kV, doc, pm, an, cdv, ct, osl, rfl, l, c⟩, k⟩
end
theorem hu_of {A : Around} {k : Nat} (hr : Room k A) : A.units + 1 < cLine := Nat.lt_of_le_of_lt (Nat.add_le_add_left (by decide : 1 ≤ 64) _) hr.units
theorem small1000 {n : Nat} (h : n ≤ 1000) : n < sizeLine := Nat.lt_of_le_of_lt h (by decide)

section
variable {X : Cx}
theorem pv (i : Nat) {x : Str} {pos : Pos} (hN : X.N[i]? = some x := by rfl) (hv : Vis X.env.scope x := by first | exact Or.inl rfl | exact Or.inr (Or.inl rfl) | exact Or.inr (Or.inr rfl)) (hd : (x == ("__debug__" : Str)) = false := by decide)
    (hcd : (x == ("__classdict__" : Str)) = false := by decide) : PE X (.Name x pos) (tVar i) := pe_var hN hv hd hcd
end

theorem iteF {A B : Prop} (h : B) : if false = true then A else B := by
  rw [if_neg Bool.false_ne_true]
  exact h
theorem iteT {A B : Prop} (h : A) : if true = true then A else B := by
  rw [if_pos rfl]
  exact h
theorem ite2 {c A B : Prop} [Decidable c] (h1 : c → A) (h2 : ¬ c → B) : if c then A else B := by
  by_cases h : c
  · rw [if_pos h]
    exact h1 h
  · rw [if_neg h]
    exact h2 h
def Same (H H' : Hp) : Prop := ∀ b o, H b = some o → H' b = some o
theorem Same.refl (H : Hp) : Same H H := fun _ _ h => h
theorem Same.trans {H H1 H2 : Hp} (a : Same H H1) (b : Same H1 H2) : Same H H2 := fun c o h => b c o (a c o h)
theorem Same.free {H H' : Hp} (e : Same H H') {l : Addr} (h : H' l = Option.none) : H l = Option.none := by
  cases q : H l with
  | none => rfl
  | some o =>
    rw [e l o q] at h
    cases h
theorem Same.seq {K : PySem.W.Frag} {H H' : Hp} {a : Addr} {xs : List V} (e : Same H H') (h : SqL K H a xs) : SqL K H' a xs := by
  rcases h with (h | ⟨o, h⟩) | h
  · exact .inl (.inl (e _ _ h))
  · exact .inl (.inr ⟨o, e _ _ h⟩)
  · exact .inr h

end L2


namespace L2
open PySem PySem.Spec PyProof.Rows
section
variable {κ : Type} [DecidableEq κ]
theorem valV_not {kvs : List (κ × V)} {k : κ} (h : valV kvs k = none) : ¬ k ∈ kvs.map (·.1) := by
  intro m
  obtain ⟨p, hp, e⟩ := List.mem_map.mp m
  have q : (kvs.any fun kv => decide (kv.1 = k)) = true := List.any_eq_true.mpr ⟨p, hp, decide_eq_true e⟩
  rw [valV_any, h] at q
  exact absurd q (by simp)
theorem valV_in {kvs : List (κ × V)} {k : κ} {v : V} (h : valV kvs k = some v) : k ∈ kvs.map (·.1) := by
  have q : (kvs.any fun kv => decide (kv.1 = k)) = true := by
    rw [valV_any, h]
    all_goals rfl
  obtain ⟨p, hp, e⟩ := List.any_eq_true.mp q
  exact List.mem_map.mpr ⟨p, hp, of_decide_eq_true e⟩
end
end L2

namespace L2
open PySem PySem.Spec PyProof.Rows

theorem quietX {α : Type} {t : Sem α} {Q Q' : α → Shared → Prop} {M : Model} {A : Around} {E : Value → Shared → Prop} {s : Shared} (h : wpAny M A t Q (fun _ _ => False) s) (hQ : ∀ a s, Q a s → Q' a s) : wpAny M A t Q' E s :=
  wpAny_mono h hQ fun _ _ z => z.elim
theorem vals_of_get : ∀ {xs : List V} {us : List Value}, xs.length = us.length → (∀ (i : Nat) (x : V) (u : Value), xs[i]? = some x → us[i]? = some u → RelV x u) → Vals xs us
  | [], [], _, _ => .nil
  | [], _ :: _, h, _ => by simp at h
  | _ :: _, [], h, _ => by simp at h
  | x :: xs, u :: us, h, f => .cons (f 0 x u rfl rfl) (vals_of_get (by simpa using h) fun i y w e1 e2 => f (i + 1) y w (by simpa using e1) (by simpa using e2))

def cxComp (X : Cx) (scope : Scope) (cl : List (Str × Addr)) (NC : List Str) (fp : List Addr) (C : Addr) (s₀ : Shared) (H₀ : Hp) : Cx where
  prog := X.prog
  w := X.w
  K := X.K
  mg := X.mg
  base := X.base
  A := X.A
  N := NC
  s₀ := s₀
  H₀ := H₀
  env := compEnvC scope cl C X.env
  outer := X.stack
  stack := X.stack
  ex := fp
  fn := fun _ => false
  calm := X.calm
  pn := []
  xe := fun _ _ => False
structure CompOk (X : Cx) (scope : Scope) (cl : List (Str × Addr)) (NC : List Str) (ini : List (Option Nat)) : Prop where
  clos : closureFor scope X.env = pure cl
  cell : ∀ y ∈ scope.names, y.2 ≠ .cell
  kind : scope.kind = .function
  names : ∀ y ∈ scope.names, y.2 = .local → scope.names.lookup y.1 = some .local
  cls : ∀ x c, cl.lookup x = some c → X.env.cells.lookup x = some c
  has : ∀ x, ((relabel scope X.env).names.lookup x = some .cell ∨ (relabel scope X.env).names.lookup x = some .free) → ∃ c, cl.lookup x = some c
  len : ini.length = NC.length
  src : ∀ (i j : Nat) (x : Str), ini[i]? = some (some j) → NC[i]? = some x → X.N[j]? = some x ∧ (X.env.kindOf x = some .cell ∨ X.env.kindOf x = some .free) ∧
    ((relabel scope X.env).names.lookup x = some .cell ∨ (relabel scope X.env).names.lookup x = some .free)
def iniSt (ini : List (Option Nat)) (σ : St) : St := ini.map fun o => o.bind fun j => (σ[j]?).join
section
variable {X : Cx} {scope : Scope} {cl : List (Str × Addr)} {NC : List Str} {ini : List (Option Nat)} {pins : List (Addr × Obj)} {σ : St} {H : Hp} {s : Shared} {fp : List Addr}
theorem inv_comp {h₁ : Heap} {tk : Nat} {m : Str → Option Value} (O : CompOk X scope cl NC ini) (I : Inv X pins σ H s) (hf : ∀ b ∈ fp, FpOk X pins H b) (ho : ∀ b ∈ fp, ∃ o, s.heap.get? b = some o)
    (hn : h₁.Ns s.heap.objs.size m) (hk : ∀ b o, s.heap.get? b = some o → h₁.get? b = some o) :
    Inv (cxComp X scope cl NC fp s.heap.objs.size s H) [] (iniSt ini σ) H { s with heap := h₁, toks := tk } := by
  have lt : ∀ b ∈ fp, b < s.heap.objs.size := fun b hb => let ⟨o, e⟩ := ho b hb; Heap.lt_size e
  refine ⟨⟨I.ok.mod, O.kind, I.ok.glob, I.ok.blt, Nat.le_refl _, fun x y c h1 h2 => I.ok.inj x y c (O.cls x c h1) (O.cls y c h2), O.has, fun x c h => (Bool.false_ne_true h).elim, I.ok.hd, I.ok.frames, .inl rfl,
      fun b hb => ⟨Nat.ne_of_lt (lt b hb), fun x c h => (hf b hb).2.2.2.2.1 x c (O.cls x c h)⟩, I.bs, Nat.le_trans I.ok.bsz I.sz, fun b o e hb => ?_, fun b hb hs => ?_, I.stack, I.stkFree⟩,
    rfl, I.bare, Un.kept hk, ⟨m, hn, fun i x v e1 e2 e3 => ?_⟩, fun x c h => ?_, I.hok.fresh (Nat.le_refl _), fun x c h => I.freeC x c (O.cls x c h), fun p hp => absurd (show p ∈ ([] : List (Addr × Obj)) from hp) (by simp), I.hok.kept hk, ?_⟩
  · rcases (hf b hb).2.2.2.1 with z | z
    · exact I.ok.noex b o e z
    · exact absurd (Nat.lt_of_lt_of_le (Heap.lt_size e) (Nat.le_trans I.ok.bsz z)) (Nat.lt_irrefl _)
  · rcases List.mem_cons.mp (I.stkSub b hs) with e | e
    · exact (hf b hb).2.1 e
    · exact (hf b hb).2.2.1 e
  · have e2 : (ini.map fun o => o.bind fun j => (σ[j]?).join)[i]? = some (some v) := e2
    rw [List.getElem?_map] at e2
    cases q : ini[i]? with
    | none => rw [q] at e2; cases e2
    | some oj =>
      rw [q] at e2
      cases oj with
      | none => cases e2
      | some j =>
        have e4 : (σ[j]?).join = some v := Option.some.inj e2
        have e5 : σ[j]? = some (some v) := by
          cases z : σ[j]? with
          | none => rw [z] at e4; cases e4
          | some y =>
            rw [z] at e4
            have e4 : y = some v := e4
            rw [e4]
        obtain ⟨a1, a2, a3⟩ := O.src i j x q e1
        obtain ⟨m0, hn0, hl⟩ := I.loc
        obtain ⟨u, r, l⟩ := hl j x v a1 e5 (.inr a2)
        refine ⟨u, r, ?_⟩
        rcases l with ⟨k, _⟩ | ⟨_, c, e, z⟩
        · rcases a2 with a2 | a2
          · rw [k] at a2; cases a2
          · rw [k] at a2; cases a2
        · obtain ⟨c', e'⟩ := O.has x a3
          have e6 := O.cls x c' e'
          rw [e] at e6
          cases e6
          obtain ⟨oc, h1, h2⟩ := z
          exact .inr ⟨a3, c, e', oc, hk _ _ h1, h2⟩
  · obtain ⟨v, oc, h1, h2⟩ := I.cell x c (O.cls x c h)
    exact ⟨v, oc, hk _ _ h1, h2⟩
  · show (ini.map _).length = NC.length
    rw [List.length_map]
    exact O.len
theorem comp_back {pinsC : List (Addr × Obj)} {σ' : St} {H' : Hp} {s' : Shared} {h' : Heap} (I : Inv X pins σ H s) (hf : ∀ b ∈ fp, FpOk X pins H b) (J : Inv (cxComp X scope cl NC fp s.heap.objs.size s H) pinsC σ' H' s')
    (hs : Heap.SameBut s.heap.objs.size s'.heap h') : Inv X pins σ H' { s' with heap := h' } := by
  have ne : ∀ {b : Addr} {o : Obj}, s.heap.get? b = some o → b ≠ s.heap.objs.size := fun e => Nat.ne_of_lt (Heap.lt_size e)
  have hfree : H' s.heap.objs.size = none := J.free
  have B : Un (frs X.stack) fp H H' s.heap s'.heap := J.base
  refine I.call' (s' := { s' with heap := h' }) (ch := fp) J.os ⟨fun b o q n hb hx => (hs.2 b (ne q)).trans (B.keep b o q n hb hx), fun b o q n hb hx => ?_, B.free, fun b o q hx => ?_, B.tups, B.frzs, B.tbls⟩ (fun b u e => ?_) J.bare
    fun b hb => ⟨(hf b hb).2.2.2.1, (hf b hb).2.1, (hf b hb).2.2.2.2.1, (hf b hb).2.2.2.2.2⟩
  · obtain ⟨sl, e⟩ := B.slot b o q n hb hx
    exact ⟨sl, (hs.2 b (ne q)).trans e⟩
  · obtain ⟨o', e⟩ := B.there b o q hx
    exact ⟨o', (hs.2 b (ne q)).trans e⟩
  · refine (J.hok b u e).stay (fun c v hc q => (hs.2 c ?_).trans q) (fun _ q => q) fun _ _ q => q
    rintro rfl
    rcases hc with hc | hc
    · rw [← hc, hfree] at e; cases e
    · rw [hfree] at hc; cases hc
end

def PTs (X : Cx) (ifs : List Expr) (t : TT) : Prop :=
  ∀ (pins : List (Addr × Obj)) (s : Shared) (σ : St) (H : Hp) (Q : Bool → Hp → Prop), Inv X pins σ H s → t σ H Q →
    wpAny (model X.prog X.w) X.A (forIn ifs true fun c r => if r = true then do let ok ← isTrue c X.env (eval c X.env); pure (ForInStep.yield ok) else pure (ForInStep.yield r)) (TP X pins σ Q) X.xe s
def tYes : TT := fun _ H Q => Q true H
theorem gYes {i : Nat} {v : V} {σ : St} {H : Hp} {A B : St → Hp → Prop} (h : A (σ.set i (some v)) H) : gName i v σ H (fun σ3 H3 => tYes σ3 H3 fun b H4 => if b = true then A σ3 H4 else B σ3 H4) := h
theorem pts_nil {X : Cx} : PTs X [] tYes := fun _ _ _ H _ I h => wpAny_tests_nil ⟨H, I, h⟩
def CompW (J : It) (g : TG) (tt : TT) (te : TE) (D : Addr) (Q : VK) (σ₀ : St) (H₀ : Hp) : Prop :=
  ∃ W : Nat → Nat → St → Hp → Prop, (∃ m, W 0 m σ₀ H₀) ∧ ∀ i m σ' H', W i m σ' H' →
    (J.stop i H' ∧ Q (.ref D) H') ∨ (J.go i H' ∧ ∃ N : St → Hp → Prop, (∀ σ2 H2, N σ2 H2 → ∃ m', m' < m ∧ W (i + 1) m' σ2 H2) ∧
      ∀ x H2, J.yld i H' x H2 → g x σ' H2 fun σ3 H3 => tt σ3 H3 fun b H4 => if b = true then te σ3 H4 fun v H5 => ∃ ys, H5 D = some (.lst ys) ∧ ys.length < sizeLine ∧ N σ3 (upd H5 D (.lst (ys ++ [v]))) else N σ3 H4)
def tComp (wi : TI) (g : TG) (tt : TT) (te : TE) (ini : List (Option Nat)) : TE := fun σ H Q => wi σ H fun J H1 => ∀ D, H1 D = none → CompW J g tt te D Q (iniSt ini σ) (upd H1 D (.lst []))
theorem pe_comp {X : Cx} {elt iter tg : Expr} {ifs : List Expr} {scope : Scope} {pos : Pos} {cl : List (Str × Addr)} {NC : List Str} {ini : List (Option Nat)} {wi : TI} {g : TG} {tt : TT} {te : TE}
    (hc : X.calm = true) (O : CompOk X scope cl NC ini) (hi : PI X tg iter wi)
    (hg : ∀ fp C s₀ H₀, PG (cxComp X scope cl NC fp C s₀ H₀) tg g) (ht : ∀ fp C s₀ H₀, PTs (cxComp X scope cl NC fp C s₀ H₀) ifs tt) (he : ∀ fp C s₀ H₀, PE (cxComp X scope cl NC fp C s₀ H₀) elt te)
    (hs : ∀ x, foldedSetIterable iter X.env x = pure x := by intro _; rfl) : PE X (.ListComp elt [⟨tg, iter, ifs, 0⟩] scope pos) (tComp wi g tt te ini) := by
  intro pins s σ H Q I h
  rw [eval_ListComp]
  refine wpAny_comprehension_free (use := none) rfl hs O.clos O.kind O.names (thn (hi pins s σ H _ I h) fun v s1 h1 => thn h1 fun itv s2 h2 => ?_)
  obtain ⟨it, fp, tn, J, H2, e, I2, T, st2, f2, h2⟩ := h2
  subst e
  have hD : H2 s2.heap.objs.size = none := I2.hok.fresh (Nat.le_refl _)
  obtain ⟨W, ⟨m0, w0⟩, turn⟩ := h2 _ hD
  refine wpAny_newObj_type (wpAny_newFunctionEnv O.cell (by intro y hy; simp at hy) (fun h₁ hns₁ hsb₁ => ?_) O.kind)
  dsimp only at hns₁ hsb₁ ⊢
  have I3 : Inv X pins σ (upd H2 s2.heap.objs.size (.lst [])) { s2 with heap := s2.heap.push { cls := .type "list", dict := none, data := .seq ([] : List Value).toArray } } := I2.lnew (its := []) (t' := s2.toks) .nil (by decide)
  have ob2 : ∀ b ∈ fp, ∃ o, s2.heap.get? b = some o := fun b hb => let ⟨o, e, _⟩ := T.obj 0 _ st2 b hb; ⟨o, e⟩
  have neD : ∀ b ∈ fp, b ≠ s2.heap.objs.size := fun b hb => let ⟨o, e⟩ := ob2 b hb; Nat.ne_of_lt (Heap.lt_size e)
  have f3 : ∀ b ∈ fp, FpOk X pins (upd H2 s2.heap.objs.size (.lst [])) b := fun b hb => ⟨by rw [upd_ne (neD b hb)]; exact (f2 b hb).1, (f2 b hb).2⟩
  generalize hs3 : ({ s2 with heap := s2.heap.push { cls := .type "list", dict := none, data := .seq ([] : List Value).toArray } } : Shared) = s3 at I3
  have hh3 : s2.heap.push { cls := .type "list", dict := none, data := .seq ([] : List Value).toArray } = s3.heap := by rw [← hs3]
  have ob3 : ∀ b ∈ fp, ∃ o, s3.heap.get? b = some o := fun b hb => let ⟨o, e⟩ := ob2 b hb; ⟨o, by rw [← hh3]; exact Heap.get?_push_of_some _ e⟩
  rw [hh3] at hns₁ hsb₁ ⊢
  have old : ∀ b o, s3.heap.get? b = some o → h₁.get? b = some o := fun b o e => hsb₁.extBut b o (Nat.ne_of_lt (Heap.lt_size e)) (Heap.get?_push_of_some _ e)
  have st1 : tn 0 h₁ := T.keep 0 _ _ st2 fun b hb o e => old b o (by rw [← hh3]; exact Heap.get?_push_of_some _ e)
  have IC : ∀ tk, Inv (cxComp X scope cl NC fp s3.heap.objs.size s3 (upd H2 s2.heap.objs.size (.lst []))) [] (iniSt ini σ) (upd H2 s2.heap.objs.size (.lst [])) { s3 with heap := h₁, toks := tk } := fun tk => inv_comp O I3 f3 ob3 hns₁ old
  have stat : ∀ {H' : Hp}, (∀ b ∈ fp, H' b = none) → ∀ b ∈ fp, FpOk (cxComp X scope cl NC fp s3.heap.objs.size s3 (upd H2 s2.heap.objs.size (.lst []))) [] H' b := fun {H'} hn b hb => by
    obtain ⟨o, e⟩ := ob3 b hb
    refine ⟨hn b hb, Nat.ne_of_lt (Heap.lt_size e), fun z => ?_, .inl hb, fun x c hx => (f3 b hb).2.2.2.2.1 x c (O.cls x c hx), fun p hp => absurd (show p ∈ ([] : List (Addr × Obj)) from hp) (by simp)⟩
    rcases List.mem_cons.mp (I3.stkSub b z) with q | q
    · exact (f3 b hb).2.1 q
    · exact (f3 b hb).2.2.1 q
  have loop : ∀ s₃ : Shared, s₃ = { s2 with heap := h₁, toks := s2.toks + ([] : List (Str × Value)).length } →
      codeAny (model X.prog X.w) X.A (.compLoop (.ListComp elt [⟨tg, iter, ifs, 0⟩] scope pos) 0 (.ref it) (.ref s2.heap.objs.size) (compEnvC scope cl s3.heap.objs.size X.env))
        (compPost (model X.prog X.w) X.A X.xe none (EP X pins σ Q) (.ref s2.heap.objs.size) s3.heap.objs.size) s₃ := by
    rintro s₃ rfl
    refine codeAny_loop rfl (fun n s' => ∃ i σ' H', Inv (cxComp X scope cl NC fp s3.heap.objs.size s3 (upd H2 s2.heap.objs.size (.lst []))) [] σ' H' s' ∧ tn i s'.heap ∧ (∀ b ∈ fp, H' b = none) ∧ W i n σ' H') (fun n s' hI => ?_) m0
      ⟨0, _, _, by have z := IC (s2.toks + ([] : List (Str × Value)).length); rw [← hs3] at z ⊢; exact z, st1, fun b hb => (f3 b hb).1, w0⟩
    show wpAny _ X.A ((compTurn (.ListComp elt [⟨tg, iter, ifs, 0⟩] scope pos) 0 (.ref it) (.ref s2.heap.objs.size) (compEnvC scope cl s3.heap.objs.size X.env)).onRaise (fun x => do noteFrame x (compEnvC scope cl s3.heap.objs.size X.env); theTreesLotGoes x)) _ _ s'
    refine wpAny_noted ?_
    rw [compTurn_list]
    obtain ⟨i, σ3, H3, I3', st3, fr3, w3⟩ := hI
    rcases turn i n σ3 H3 w3 with ⟨stop, qn⟩ | ⟨go, N, hN, step⟩
    · refine wpAny_bind (wpAny_standAt (wpAny_bind (thn (T.done (cxComp X scope cl NC fp s3.heap.objs.size s3 (upd H2 s2.heap.objs.size (.lst []))) rfl rfl rfl hc i [] s' σ3 H3 _ I3' (stat fr3) st3 stop) fun r s4 ⟨hr, I4⟩ => ?_)))
      subst hr
      obtain ⟨m', hn', _⟩ := I4.loc
      exact wpAny_pure ⟨m', hn', fun h' hs' => ⟨.ref s2.heap.objs.size, H3, comp_back I3 f3 I4 hs', rfl, qn⟩⟩
    · refine wpAny_bind (wpAny_standAt (wpAny_bind (thn (T.item (cxComp X scope cl NC fp s3.heap.objs.size s3 (upd H2 s2.heap.objs.size (.lst []))) rfl rfl rfl hc i [] s' σ3 H3 _ I3' (stat fr3) st3 go) fun r s4 ⟨u, hr, h4⟩ => ?_)))
      subst hr
      refine wpAny_bind (thn h4 fun _ s5 ⟨x, H5, I5, r5, y5, st5, fr5⟩ => ?_)
      have I5' := I5.pinned (stat fr5) (T.obj _ _ st5)
      refine wpAny_bind (quietX (hg fp _ s3 _ _ s5 σ3 H5 x u _ I5' r5 (step x H5 y5)) fun _ s6 ⟨σ6, H6, I6, q6⟩ => ?_)
      have again : ∀ {s7 : Shared} {H7 : Hp}, Inv (cxComp X scope cl NC fp s3.heap.objs.size s3 (upd H2 s2.heap.objs.size (.lst []))) ([] ++ pinsAt fp s5.heap) σ6 H7 s7 → N σ6 H7 →
          ∃ m, m < n ∧ ∃ i σ' H', Inv (cxComp X scope cl NC fp s3.heap.objs.size s3 (upd H2 s2.heap.objs.size (.lst []))) [] σ' H' s7 ∧ tn i s7.heap ∧ (∀ b ∈ fp, H' b = none) ∧ W i m σ' H' := fun {s7 H7} I7 n7 => by
        obtain ⟨m', hm, w7⟩ := hN σ6 H7 n7
        refine ⟨m', hm, i + 1, σ6, H7, I7.unpinned, T.keep _ _ _ st5 fun b hb o e => (I7.pin (b, o) (List.mem_append_right _ (List.mem_append_right _ (mem_pinsAt hb e)))).1, fun b hb => ?_, w7⟩
        obtain ⟨o, e, d⟩ := T.obj _ _ st5 b hb
        exact (I7.pin (b, o) (List.mem_append_right _ (List.mem_append_right _ (mem_pinsAt hb e)))).2.1
      refine wpAny_bind (quietX (ht fp _ s3 _ _ s6 σ6 H6 _ I6 q6) fun ok s7 ⟨H7, I7, q7⟩ => ?_)
      cases ok with
      | false => exact wpAny_pure ⟨rfl, again I7 q7⟩
      | true =>
        refine wpAny_bind (wpAny_bind (quietX (he fp _ s3 _ _ s7 σ6 H7 _ I7 q7) fun u8 s8 ⟨v8, H8, I8, r8, ys, hy, hz, n8⟩ => ?_))
        refine wpAny_bind (quietX (mt_append _ s8 σ6 H8 (.ref s2.heap.objs.size) [v8] (.ref s2.heap.objs.size) [u8] (fun _ H9 => N σ6 H9) I8 rfl (.cons r8 .nil) ⟨_, ys, v8, rfl, rfl, hy, hz, n8⟩) fun _ s9 ⟨_, H9, I9, _, n9⟩ => ?_)
        exact wpAny_pure (wpAny_pure ⟨rfl, again I9 n9⟩)
  exact codeAny_compStart_list (loop _ rfl) (T.self _ 0 _ _ _ st1 (loop _ rfl))

theorem comp_range {lo : Int} {n : Nat} {g : TG} {tt : TT} {te : TE} {D : Addr} {Q : VK} {σ₀ : St} {H₀ : Hp} (Pv : Nat → St → Hp → Prop) (h0 : Pv 0 σ₀ H₀)
    (hs : ∀ i σ H, i < n → Pv i σ H → g (.int (lo + i)) σ H fun σ3 H3 => tt σ3 H3 fun b H4 => if b = true then te σ3 H4 fun v H5 => ∃ ys, H5 D = some (.lst ys) ∧ ys.length < sizeLine ∧ Pv (i + 1) σ3 (upd H5 D (.lst (ys ++ [v]))) else Pv (i + 1) σ3 H4)
    (hd : ∀ σ H, Pv n σ H → Q (.ref D) H) : CompW (Itr lo n) g tt te D Q σ₀ H₀ := by
  refine ⟨fun i m σ H => m = n - i ∧ i ≤ n ∧ Pv i σ H, ⟨n, by simp, Nat.zero_le _, h0⟩, ?_⟩
  rintro i m σ H ⟨rfl, hi, p⟩
  by_cases hlt : i < n
  · refine .inr ⟨hlt, Pv (i + 1), fun σ' H' p' => ⟨n - (i + 1), by omega, rfl, hlt, p'⟩, fun x H' y => ?_⟩
    obtain ⟨e, y⟩ := y
    subst e y
    exact hs i σ _ hlt p
  · have e : i = n := by omega
    subst e
    exact .inl ⟨Nat.le_refl _, hd σ H p⟩
theorem compOk0 {X : Cx} {scope : Scope} {NC : List Str} (hkind : scope.kind = .function) (h : ∀ y ∈ scope.names, y.2 ≠ .cell ∧ y.2 ≠ .free) (hn : ∀ y ∈ scope.names, y.2 = .local → scope.names.lookup y.1 = some .local) :
    CompOk X scope [] NC (List.replicate NC.length none) where
  clos := closureFor_none fun x hx => (h x hx).2
  cell := fun y hy => (h y hy).1
  kind := hkind
  names := hn
  cls := fun x c e => by cases e
  has := fun x e => by
    exfalso
    have key : ∀ k, (relabel scope X.env).names.lookup x = some k → k = .cell ∨ k = .free → False := fun k e hk => by
      have hm := PySem.mem_of_lookup e
      obtain ⟨⟨n, k'⟩, hy, ey⟩ := List.mem_map.mp hm
      have h1 := h _ hy
      have hb : (k' == NameKind.free) = false := by simpa using h1.2
      simp only [hb, Bool.false_and, Bool.false_eq_true, if_false, Prod.mk.injEq] at ey
      obtain ⟨_, rfl⟩ := ey
      rcases hk with hk | hk
      · exact h1.1 hk
      · exact h1.2 hk
    rcases e with e | e
    · exact key _ e (.inl rfl)
    · exact key _ e (.inr rfl)
  len := by simp
  src := fun i j x e _ => by
    rw [List.getElem?_replicate] at e
    split at e <;> cases e

section
variable {X : Cx}
theorem call_rng2 : CallR X (.type "range") (fun xs H Q => ∃ i j, xs = [.int i, .int j] ∧ ∀ p, H p = none → Q (.ref p) (upd H p (.rng i j))) := by
  intro pins s σ H xs us Q I r h
  obtain ⟨i, j, rfl, q⟩ := h
  obtain ⟨u, v, rfl, ru, rv⟩ := r.two
  obtain ⟨t, rfl⟩ := ru
  obtain ⟨t', rfl⟩ := rv
  refine call_range_2 ⟨.ref s.heap.objs.size, _, I.laid (o := .rng i j) (fun b u e => Heap.get?_push_of_some _ e) (Nat.le_refl _) ?_, rfl, q _ (I.hok.fresh (Nat.le_refl _))⟩
  exact ⟨_, _, _, Heap.get?_push_size _ rfl⟩
def rngV (lo : Int) (n : Nat) : List V := (List.range n).map fun (i : Nat) => V.int (lo + i)
theorem rngV_len (lo : Int) (n : Nat) : (rngV lo n).length = n := by unfold rngV; rw [List.length_map, List.length_range]
theorem rngV_get {lo : Int} {n i : Nat} (h : i < n) : (rngV lo n)[i]? = some (.int (lo + i)) := by
  unfold rngV
  rw [List.getElem?_map, List.getElem?_range h]
  rfl
theorem call_list_rng (hc : X.calm = true) : CallR X (.type "list") (fun xs H Q => ∃ p lo hi, xs = [.ref p] ∧ H p = some (.rng lo hi) ∧ (-(2 ^ 62) ≤ lo ∧ lo < 2 ^ 62 ∧ -(2 ^ 62) ≤ hi ∧ hi < 2 ^ 62) ∧ (hi - lo).toNat ≤ 2 ^ 20 ∧
    ∀ l, H l = none → Q (.ref l) (upd H l (.lst (rngV lo (hi - lo).toNat)))) := by
  intro pins s σ H xs us Q I r h
  obtain ⟨p, lo, hi, rfl, hp, ⟨b1, b2, b3, b4⟩, hz, q⟩ := h
  obtain ⟨u, rfl, ru⟩ := r.one
  cases ru
  obtain ⟨t, u', v', e⟩ := I.hok p _ hp
  have hsz : (hi - lo).toNat ≤ sizeLine := Nat.le_trans hz (by decide)
  refine call_list_range (n := (hi - lo).toNat) (I.ok.hd hc) (show IsRange s.heap p lo hi 1 t u' v' from e) (small_one b1 b2 b3 b4) (by rw [rangeSize_one]; split <;> omega) (Nat.le_trans hz (by decide)) fun h' tk acc' c' hk hS' hacc => ?_
  refine ⟨.ref s.heap.objs.size, _, I.laid (o := .lst (rngV lo (hi - lo).toNat)) (t' := tk) hk (Nat.le_refl _) ⟨by rw [rngV_len]; exact hsz, acc'.toList, c', ?_, by simpa using hS'⟩, rfl, q _ (I.hok.fresh (Nat.le_refl _))⟩
  refine vals_of_get (by rw [rngV_len, Array.length_toList, hacc.1]) fun i x w e1 e2 => ?_
  have hi' : i < (hi - lo).toNat := by
    have z := (List.getElem?_eq_some_iff.mp e1).1
    rw [rngV_len] at z
    exact z
  rw [rngV_get hi'] at e1
  cases e1
  obtain ⟨t, rfl⟩ := hacc.2 i w (by simpa using e2)
  exact ⟨t, by rw [Int.mul_one]⟩
end

structure Fn (K : PySem.W.Frag) (mg : Str → Option Value) (x : Str) (st : Stmt) (ps : List Str) (f : Addr) (fd : FuncData) : Prop where
  fn : Fun K x x st f fd
  b : Binds K fd ps []
  g : mg x = some (.ref f)
theorem Fn.mk' {K : PySem.W.Frag} {mg : Str → Option Value} {x : Str} {st : Stmt} {ps : List Str} {f : Addr} {fd : FuncData} (F : Fun K x x st f fd)
    (h : ∀ (kV doc pm : Value) (an : Option Addr) (cdv ct : Value) (us : List Value), us.length = ps.length → bindArgs (PySem.W.fnOf x x (defArgs st) (defBody st) (defScope st) .none kV doc pm an cdv ct) ⟨us, []⟩ = pure (ps.zip us))
    (g : mg x = some (.ref f)) : Fn K mg x st ps f fd := ⟨F, F.binds h, g⟩
theorem pe_fn {X : Cx} {x : Str} {st : Stmt} {ps : List Str} {f : Addr} {fd : FuncData} {k : Nat} {sp : Sp} {e : Expr} {es : List Expr} {t : TA} {p pos : Pos} (G : FnOk X.prog X.w X.K X.mg X.base CX0 k f fd ps sp) (F : Fn X.K X.mg x st ps f fd) (hr : Room k X.A) (ha : PA X (e :: es) t)
    (hg : Gl X x := by rfl) (hdb : (x == ("__debug__" : Str)) = false := by decide) (he : starEach (e :: es) X.env = (false, eval e X.env) :: starEach es X.env := by rfl) (hpl : (backTo pos (starEach es X.env)).any (·.1) = false := by rfl) :
    PE X (.Call (.Name x p) (e :: es) [] pos) (tCall sp [] E0 t) := pe_call G hr hg F.g F.fn.kp F.b .nil pass0 ha hdb he hpl
def spLaw (K : PySem.W.Frag) : Sp := fun vs H Q _ => ∃ (a : Addr) (ns : List Int), vs = [.ref a] ∧ SqL K H a (ns.map V.int) ∧ ns.length ≤ 63 ∧ ∀ H', Q (.bl true) H'

theorem same_upd {H : Hp} {p : Addr} {o : HO} (h : H p = none) : Same H (upd H p o) := fun b u e => by rw [upd_ne (ne_of_none e h)]; exact e
theorem Same.upd {H H' : Hp} {p : Addr} {o : HO} (s : Same H H') (h : H p = none) : Same H (upd H' p o) := fun b u e => by rw [upd_ne (ne_of_none e h)]; exact s b u e
theorem bb_len : bootBuiltins "len" = some (.builtin "len") := by decide +kernel
theorem bb_list : bootBuiltins "list" = some (.type "list") := by decide +kernel
theorem bb_tuple : bootBuiltins "tuple" = some (.type "tuple") := by decide +kernel
theorem bb_range : bootBuiltins "range" = some (.type "range") := by decide +kernel
theorem bb_enumerate : bootBuiltins "enumerate" = some (.type "enumerate") := by decide +kernel
end L2

namespace L2E
open PySem PySem.Spec PyProof.Rows
open Sem (wp)
open AutoSeq1 (wpAny_loadPart')
section
variable {prog : Program} {w : World} {A : Around} {E : Value → Shared → Prop} {s : Shared}
theorem nextOf_tup_item {it t : Addr} {i : Nat} {items : Array Value} {x : Value} {Q : Value → Shared → Prop} (hit : s.heap.IsTupleIter it t i) (ht : s.heap.IsTuple t items) (hx : items[i]? = some x)
    (hQ : ∀ h', h'.IsTupleIter it t (i + 1) → Heap.SameBut it s.heap h' → Q x { s with heap := h' }) : wpAny (model prog w) A (Builtin.SmallTypes.nextOf (.ref it)) Q E s := by
  obtain ⟨o, ho, hc, hd⟩ := id hit
  obtain ⟨ol, hol, _, nl, hdl⟩ := ht
  unfold Builtin.SmallTypes.nextOf
  refine wpAny_bind (wpAny_callSpecial?_slot (name := Str.ofString "__next__") hit.typeIs F.slot_tuple_iterator_next (wpAny_call_entry F.slot_tuple_iterator_next hit.typeIs F.entry_tuple_iterator_next ?_ (F.args_tuple_iterator_next_1 _)))
  show wpAny _ _ (field (.ref it) 0 >>= _) _ _ s
  refine wpAny_bind (wpAny_field ho hd (x := .ref t) rfl ?_)
  show wpAny _ _ (if (Value.ref t == Value.none) = true then _ else _) _ _ s
  rw [if_neg (show ¬ ((Value.ref t == Value.none) = true) from Bool.false_ne_true)]
  show wpAny _ _ (field (.ref it) 1 >>= _) _ _ s
  refine wpAny_bind (wpAny_field ho hd (x := .int i 0) rfl ?_)
  show wpAny _ _ (seqItems? (.ref t) >>= _) _ _ s
  refine wpAny_bind (wpAny_seqItems hol hdl ?_)
  simp only [Int.toNat_natCast, hx]
  refine wpAny_bind (wpAny_setField ho hd (by simp) (wpAny_pure ⟨x, rfl, wpAny_pure (hQ _ ?_ (Heap.SameBut.update ..))⟩))
  exact ⟨_, Heap.get?_update_self _ ho (Obj.isFreed_of_fields (Obj.data_mapFields hd _)), (Obj.cls_mapFields ..).trans hc, by
    rw [Obj.data_mapFields hd]; simp [rawInt]⟩
theorem nextOf_tup_end {it t : Addr} {i : Nat} {items : Array Value} {Q : Value → Shared → Prop} (hh : A.handled = none) (hit : s.heap.IsTupleIter it t i) (ht : s.heap.IsTuple t items) (hx : items[i]? = none)
    (hE : ∀ h' e, Heap.ExtBut it s.heap h' → (∃ o, h'.get? e = some o ∧ o.cls = .type "StopIteration") → E (.ref e) { s with heap := h' }) : wpAny (model prog w) A (Builtin.SmallTypes.nextOf (.ref it)) Q E s := by
  obtain ⟨o, ho, hc, hd⟩ := id hit
  obtain ⟨ol, hol, _, nl, hdl⟩ := ht
  unfold Builtin.SmallTypes.nextOf
  refine wpAny_bind (wpAny_callSpecial?_slot (name := Str.ofString "__next__") hit.typeIs F.slot_tuple_iterator_next (wpAny_call_entry F.slot_tuple_iterator_next hit.typeIs F.entry_tuple_iterator_next ?_ (F.args_tuple_iterator_next_1 _)))
  show wpAny _ _ (field (.ref it) 0 >>= _) _ _ s
  refine wpAny_bind (wpAny_field ho hd (x := .ref t) rfl ?_)
  show wpAny _ _ (if (Value.ref t == Value.none) = true then _ else _) _ _ s
  rw [if_neg (show ¬ ((Value.ref t == Value.none) = true) from Bool.false_ne_true)]
  show wpAny _ _ (field (.ref it) 1 >>= _) _ _ s
  refine wpAny_bind (wpAny_field ho hd (x := .int i 0) rfl ?_)
  show wpAny _ _ (seqItems? (.ref t) >>= _) _ _ s
  refine wpAny_bind (wpAny_seqItems hol hdl ?_)
  simp only [Int.toNat_natCast, hx]
  refine wpAny_bind (wpAny_rule (wpAny_bind (wpAny_setField ho hd (by simp) ?_)))
  show wpAny _ _ (newExc (.type "StopIteration") [] >>= _) _ _ _
  refine wpAny_bind ?_
  simp only [newExc, newTuple]
  refine wpAny_bind (wpAny_newObj_type ?_ (by size_fits))
  refine wpAny_bind (m := firstArgMember _ _) (wpAny_of_eq (a := Value.none) (by first | rfl | (simp only [firstArgMember]; rfl)) ?_)
  refine wpAny_newObj_type ?_ (by size_fits)
  simp only [raiseNew]
  refine wpAny_bind (wpAny_handled ?_)
  first | rw [show A.in1.handled = none from hh] | rw [hh]
  refine wpAny_bind (wpAny_pure (wpAny_throw ?_))
  exact hE _ _ (((Heap.SameBut.update ..).extBut.push _).push _) ⟨_, Heap.get?_push_size _ rfl, rfl⟩

theorem enum_tup_next {e it l : Addr} {i : Nat} {items : Array Value} {x old : Value} {Q : Value → Shared → Prop}
    (he : IsEnum s.heap e it i old) (hit : s.heap.IsTupleIter it l i) (hl : s.heap.IsTuple l items) (hx : items[i]? = some x) (hne : e ≠ it)
    (hQ : ∀ h', IsEnumOut h' e it ((i : Int) + 1) x s.heap.objs.size → h'.IsTupleIter it l (i + 1) → h'.get? s.heap.objs.size = some { cls := .type "tuple", data := .seq #[.int i s.toks, x] } → h'.objs.size = s.heap.objs.size + 1 →
      (∀ b o, b ≠ e → b ≠ it → s.heap.get? b = some o → h'.get? b = some o) → Q (.ref s.heap.objs.size) { s with heap := h', toks := s.toks + 1 }) :
    wpAny (model prog w) A (Builtin.«enumerate.__next__» ⟨[.ref e], []⟩) (fun fin s' => ∃ v, fin = .done (.ret v) ∧ Q v s') E s := by
  obtain ⟨hp, g, d, tk, os⟩ := s
  show wpAny _ _ (field (.ref e) 2 >>= _) _ _ _
  refine wpAny_bind (wpAny_field he rfl (x := .ref it) rfl ?_)
  refine wpAny_bind (nextOf_tup_item hit hl hx fun h₁ hit₁ hs₁ => ?_)
  replace hs₁ : Heap.SameBut it hp h₁ := hs₁
  have he₁ : IsEnum h₁ e it i old := (hs₁.2 e hne).trans he
  show wpAny _ _ (field (.ref e) 3 >>= _) _ _ ⟨h₁, g, d, tk, os⟩
  refine wpAny_bind (wpAny_field he₁ rfl (x := rawInt i) rfl ?_)
  show wpAny _ _ (field (.ref e) 4 >>= _) _ _ ⟨h₁, g, d, tk, os⟩
  refine wpAny_bind (wpAny_field he₁ rfl (x := .none) rfl ?_)
  show wpAny _ _ (mkInt i >>= _) _ _ ⟨h₁, g, d, tk, os⟩
  refine wpAny_bind (wpAny_mkInt ?_)
  show wpAny _ _ (setField (.ref e) 3 (rawInt ((i : Int) + 1)) >>= _) _ _ ⟨h₁, g, d, tk + 1, os⟩
  refine wpAny_bind (wpAny_setField_rec he₁ (by simp) fun h₂ he₂ hs₂ => ?_)
  replace hs₂ : Heap.SameBut e h₁ h₂ := hs₂
  replace he₂ : IsEnum h₂ e it ((i : Int) + 1) old := he₂
  show wpAny _ _ (setField (.ref e) 4 .none >>= _) _ _ ⟨h₂, g, d, tk + 1, os⟩
  refine wpAny_bind (wpAny_setField_rec he₂ (by simp) fun h₃ he₃ hs₃ => ?_)
  replace hs₃ : Heap.SameBut e h₂ h₃ := hs₃
  replace he₃ : IsEnum h₃ e it ((i : Int) + 1) old := he₃
  show wpAny _ _ (newTuple [.int i tk, x] >>= _) _ _ ⟨h₃, g, d, tk + 1, os⟩
  refine wpAny_bind (wpAny_newTuple ?_)
  have he₄ : IsEnum (h₃.push { cls := .type "tuple", data := .seq #[.int i tk, x] }) e it ((i : Int) + 1) old := Heap.get?_push_of_some _ he₃
  generalize hh₄ : h₃.push { cls := .type "tuple", data := .seq #[.int i tk, x] } = h₄ at he₄
  have hsz : h₃.objs.size = hp.objs.size := by rw [hs₃.1, hs₂.1, hs₁.1]
  have hel : e < hp.objs.size := Heap.lt_size he
  have ht₄ : h₄.get? hp.objs.size = some { cls := .type "tuple", data := .seq #[.int i tk, x] } := by rw [← hh₄, ← hsz]; exact Heap.get?_push_size _ rfl
  have hz₄ : h₄.objs.size = hp.objs.size + 1 := by rw [← hh₄, Heap.size_push, hsz]
  have hk₄ : ∀ b o, b ≠ e → b ≠ it → hp.get? b = some o → h₄.get? b = some o := fun b o hbe hbi hb => by
    rw [← hh₄]; exact Heap.get?_push_of_some _ (hs₃.extBut b o hbe (hs₂.extBut b o hbe (hs₁.extBut b o hbi hb)))
  have hit₄ : h₄.IsTupleIter it l (i + 1) := by
    rw [← hh₄]; obtain ⟨o, ho, r⟩ := (hit₁.extBut hs₂.extBut (Ne.symm hne)).extBut hs₃.extBut (Ne.symm hne); exact ⟨o, Heap.get?_push_of_some _ ho, r⟩
  show wpAny _ _ (Builtin.SmallTypes.ownedTupleIsFree (.ref e) >>= _) _ _ ⟨h₄, g, d, tk + 1, os⟩
  rw [hsz]
  clear hh₄ he₃ hs₃ he₂ hs₂ he₁ hs₁ hit₁ hsz h₃ h₂ h₁
  refine wpAny_bind ?_
  · unfold Builtin.SmallTypes.ownedTupleIsFree
    refine wpAny_bind (wpAny_field he₄ rfl (x := .none) rfl (wpAny_pure ?_))
    simp only [if_true]
    refine wpAny_bind (wpAny_rule ?_)
    refine wpAny_bind (wpAny_field he₄ rfl (x := old) rfl ?_)
    refine wpAny_bind (wpAny_setField_rec he₄ (by simp) fun h₅ he₅ hs₅ => ?_)
    replace hs₅ : Heap.SameBut e h₄ h₅ := hs₅
    replace he₅ : IsEnum h₅ e it ((i : Int) + 1) x := he₅
    show wpAny _ _ (Builtin.SmallTypes.ownedTupleHandOut (.ref e) (.ref hp.objs.size) >>= _) _ _ ⟨h₅, g, d, tk + 1, os⟩
    refine wpAny_bind ?_
    · unfold Builtin.SmallTypes.ownedTupleHandOut
      refine wpAny_bind (wpAny_setField_rec he₅ (by simp) fun h₆ he₆ hs₆ => ?_)
      replace hs₆ : Heap.SameBut e h₅ h₆ := hs₆
      replace he₆ : IsEnumOut h₆ e it ((i : Int) + 1) x hp.objs.size := he₆
      refine wpAny_setField_rec he₆ (by simp) fun h₇ he₇ hs₇ => ?_
      replace hs₇ : Heap.SameBut e h₆ h₇ := hs₇
      replace he₇ : IsEnumOut h₇ e it ((i : Int) + 1) x hp.objs.size := he₇
      refine wpAny_bind (wpAny_letGo (wpAny_pure ⟨_, rfl, hQ h₇ he₇ ?_ ?_ ?_ ?_⟩))
      · exact ((hit₄.extBut hs₅.extBut (Ne.symm hne)).extBut hs₆.extBut (Ne.symm hne)).extBut hs₇.extBut (Ne.symm hne)
      · exact hs₇.extBut _ _ (Nat.ne_of_gt hel) (hs₆.extBut _ _ (Nat.ne_of_gt hel) (hs₅.extBut _ _ (Nat.ne_of_gt hel) ht₄))
      · rw [hs₇.1, hs₆.1, hs₅.1, hz₄]
      · exact fun b o hbe hbi hb => hs₇.extBut b o hbe (hs₆.extBut b o hbe (hs₅.extBut b o hbe (hk₄ b o hbe hbi hb)))
theorem pyNext_enumT_item {e it l : Addr} {i : Nat} {items : Array Value} {x old : Value} {Q : Option Value → Shared → Prop}
    (he : IsEnum s.heap e it i old) (hit : s.heap.IsTupleIter it l i) (hl : s.heap.IsTuple l items) (hx : items[i]? = some x) (hne : e ≠ it)
    (hQ : ∀ h', IsEnumOut h' e it ((i : Int) + 1) x s.heap.objs.size → h'.IsTupleIter it l (i + 1) → h'.get? s.heap.objs.size = some { cls := .type "tuple", data := .seq #[.int i s.toks, x] } → h'.objs.size = s.heap.objs.size + 1 →
      (∀ b o, b ≠ e → b ≠ it → s.heap.get? b = some o → h'.get? b = some o) → Q (some (.ref s.heap.objs.size)) { s with heap := h', toks := s.toks + 1 }) :
    wpAny (model prog w) A (pyNext (.ref e)) Q E s := by
  have hT : s.TypeIs (.ref e) "enumerate" := ⟨_, he, rfl⟩
  unfold pyNext
  exact wpAny_bind (wpAny_attempt (wpAny_callSpecial?_slot (name := Str.ofString "__next__") hT F.slot_enumerate_next
    (wpAny_call_entry F.slot_enumerate_next hT F.entry_enumerate_next (enum_tup_next he hit hl hx hne fun h' a b c d k => wpAny_pure (hQ h' a b c d k)) (F.args_enumerate_next_1 _))))
theorem pyNext_enumT_end {e it l : Addr} {i : Nat} {items : Array Value} {old : Value} {Q : Option Value → Shared → Prop} (hh : A.handled = none)
    (he : IsEnum s.heap e it i old) (hit : s.heap.IsTupleIter it l i) (hl : s.heap.IsTuple l items) (hx : items[i]? = none)
    (hQ : ∀ h', Heap.ExtBut it s.heap h' → Q none { s with heap := h' }) : wpAny (model prog w) A (pyNext (.ref e)) Q E s := by
  have hT : s.TypeIs (.ref e) "enumerate" := ⟨_, he, rfl⟩
  unfold pyNext
  refine wpAny_bind (wpAny_attempt (wpAny_callSpecial?_slot (name := Str.ofString "__next__") hT F.slot_enumerate_next (wpAny_call_entry F.slot_enumerate_next hT F.entry_enumerate_next ?_ (F.args_enumerate_next_1 _))))
  show wpAny _ _ (field (.ref e) 2 >>= _) _ _ _
  refine wpAny_bind (wpAny_field he rfl (x := .ref it) rfl ?_)
  refine wpAny_bind (nextOf_tup_end hh hit hl hx fun h' x he' hx' => ?_)
  obtain ⟨o, ho, hc⟩ := hx'
  refine wpAny_bind (wpAny_isInstance (T := "StopIteration") (b := true) ⟨o, ho, hc⟩ isSubtype_stop ?_)
  exact wpAny_pure (hQ _ he')

theorem meets_enum_tup (l : Addr) (items : Array Value) (n : Nat) (dct : Option Addr) (sl : Array (Option Value)) :
    Meets (Builtin.«enumerate.__new__» ⟨[.type "enumerate", .ref l], []⟩) (fun _ R s => s.heap.get? l = some { cls := .type "tuple", dict := dct, data := .seq items n, slots := sl } ∧
      R (.ok (.ret (.ref (s.heap.push { cls := .type "tuple_iterator", data := .fields #[.ref l, .int 0 0] }).objs.size)))
        { s with heap := (s.heap.push { cls := .type "tuple_iterator", data := .fields #[.ref l, .int 0 0] }).push { cls := .type "enumerate", data := .fields #[.none, .bool false, .ref s.heap.objs.size, rawInt 0, .none, .none] } }) :=
  .of_wp fun prog w A R s h => by
    obtain ⟨hp, g, d, tk, os⟩ := s; obtain ⟨hl, h⟩ := h
    have hsub := sub_enumerate
    have hL : Heap.IsTuple (Shared.heap ⟨hp, g, d, tk, os⟩) l items := ⟨_, hl, rfl, n, rfl⟩
    wp_walk using wpAny_loadPart' hl
    refine wpAny_stack_any fun st => wpAny_pure ?_
    split
    · rename_i c _ _ _ _ _
      cases (c == Value.type "enumerate")
      · wp_walk using wpAny_loadPart' hl, wpAny_pyIter_tuple hL
        exact ⟨_, rfl, h⟩
      · wp_walk using wpAny_loadPart' hl, wpAny_pyIter_tuple hL
        exact ⟨_, rfl, h⟩
    · wp_walk using wpAny_loadPart' hl, wpAny_pyIter_tuple hL
      exact ⟨_, rfl, h⟩
theorem call_enum_tup {l : Addr} {items : Array Value} {Q : Value → Shared → Prop} (hL : s.heap.IsTuple l items)
    (h : ∀ h', IsEnum h' (s.heap.objs.size + 1) s.heap.objs.size 0 .none → h'.IsTupleIter s.heap.objs.size l 0 → h'.objs.size = s.heap.objs.size + 2 →
      (∀ b o, s.heap.get? b = some o → h'.get? b = some o) → Q (.ref (s.heap.objs.size + 1)) { s with heap := h' }) :
    wpAny (model prog w) A (call (.type "enumerate") [.ref l]) Q E s := by
  obtain ⟨⟨c, dct, dt, sl⟩, hl, hc, n, hd⟩ := hL
  replace hc : c = .type "tuple" := hc
  replace hd : dt = .seq items n := hd
  subst hc hd
  refine callType_new F.called_enumerate (by decide) (F.typeCall_enumerate_1 _) (F.newCall_enumerate_1 _) (fun obj => F.args_object_init_2 obj _) F.entry_enumerate_new
    (meets_enum_tup l items n dct sl) ⟨hl, ?_⟩
  have hz : (s.heap.push { cls := .type "tuple_iterator", data := .fields #[.ref l, .int 0 0] }).objs.size = s.heap.objs.size + 1 := Heap.size_push ..
  show _ ∧ _
  rw [hz]
  have he : IsEnum ((s.heap.push { cls := .type "tuple_iterator", data := .fields #[.ref l, .int 0 0] }).push
      { cls := .type "enumerate", data := .fields #[.none, .bool false, .ref s.heap.objs.size, rawInt 0, .none, .none] }) (s.heap.objs.size + 1) s.heap.objs.size 0 .none := by
    have := Heap.get?_push_size (s.heap.push { cls := .type "tuple_iterator", data := .fields #[.ref l, .int 0 0] })
      (o := { cls := .type "enumerate", data := .fields #[.none, .bool false, .ref s.heap.objs.size, rawInt 0, .none, .none] }) rfl
    rw [hz] at this; exact this
  refine ⟨⟨_, he, rfl⟩, h _ he ⟨_, Heap.get?_push_of_some _ (Heap.get?_push_size _ rfl), rfl, rfl⟩ (by rw [Heap.size_push, hz]) fun b o x => Heap.get?_push_of_some _ (Heap.get?_push_of_some _ x)⟩
end
end L2E

namespace L2
open PySem PySem.Spec PyProof.Rows
def Ite (K : PySem.W.Frag) (a : Addr) : It :=
  ⟨fun i H => ∃ xs x, SqT K H a xs ∧ xs[i]? = some x, fun i H y H' => ∃ t x, y = .ref t ∧ H t = none ∧ H' = upd H t (.tup [.int i, x]) ∧ ∀ xs, SqT K H a xs → xs[i]? = some x, fun i H => ∃ xs, SqT K H a xs ∧ xs.length ≤ i⟩
theorem turn_enumT {P : Program} {w : World} {K : PySem.W.Frag} {elts : List Expr} {x1 : Nat} {tp : Pos} (a e it : Addr) (hei : e ≠ it) :
    Turn P w K (.Tuple elts x1 tp) (Ite K a) [e, it] e (fun i h => (∃ old, IsEnum h e it i old) ∧ h.IsTupleIter it a i) where
  mem := by simp
  obj := fun i h st b hb => by
    obtain ⟨⟨old, he⟩, hit⟩ := st
    rcases List.mem_cons.mp hb with rfl | hb
    · exact ⟨_, he, fun v z => by
        have z' : Data.fields _ = Data.cell v := z
        cases z'⟩
    · have e1 : b = it := by simpa using hb
      subst e1
      obtain ⟨o, e, c, d⟩ := hit
      exact ⟨o, e, fun v z => by rw [d] at z; cases z⟩
  keep := fun i h h' st k => ⟨let ⟨old, he⟩ := st.1; ⟨old, k e (by simp) _ he⟩, let ⟨o, ho, r⟩ := st.2; ⟨o, k it (by simp) o ho, r⟩⟩
  item := by
    intro X hP hw hK hc i pins s σ H E I hf st hg
    subst hP hw hK
    obtain ⟨⟨old, he⟩, hit⟩ := st
    obtain ⟨xs, x, hq, hx⟩ := hg
    obtain ⟨its, rv, p, hz⟩ := I.tuple hq
    obtain ⟨u, hu, ru⟩ := rv.get hx
    obtain ⟨f0, f1, f2, f3, f4, f5⟩ := hf e (by simp)
    obtain ⟨g0, g1, g2, g3, g4, g5⟩ := hf it (by simp)
    refine L2E.pyNext_enumT_item he hit (show s.heap.IsTuple a its.toArray from p) (x := u) (by simpa using hu) hei fun h' ho' hit' hT hsz hk => ?_
    refine ⟨_, rfl, wpAny_letOwnedTupleGo_enum ho' fun h'' he'' hs'' => ?_⟩
    have hlt : e < s.heap.objs.size := Heap.lt_size he
    have k2 : ∀ b o, b ≠ e → b ≠ it → s.heap.get? b = some o → h''.get? b = some o := fun b o h1 h2 q => (hs''.2 b h1).trans (hk b o h1 h2 q)
    have hT2 : h''.get? s.heap.objs.size = some { cls := .type "tuple", data := .seq #[.int i s.toks, u] } := (hs''.2 _ (Nat.ne_of_gt hlt)).trans hT
    have hfr : H s.heap.objs.size = none := I.hok.fresh (Nat.le_refl _)
    have neT : ∀ {b : Addr} {o : Obj}, s.heap.get? b = some o → b ≠ s.heap.objs.size := fun q => Nat.ne_of_lt (Heap.lt_size q)
    have trk : ∀ {b : Addr} {o : HO}, H b = some o → b ≠ e ∧ b ≠ it := fun q => ⟨fun z => (by rw [z, f0] at q; cases q), fun z => (by rw [z, g0] at q; cases q)⟩
    have I2 : Inv X pins σ (upd H s.heap.objs.size (.tup [.int i, x])) { s with heap := h'', toks := s.toks + 1 } := by
      refine I.step (g' := s.gens) (d' := s.drawn) (ch := [e, it]) (fun b hb => ?_) (fun b o _ _ hch q _ => k2 b o (fun z => hch (by simp [z])) (fun z => hch (by simp [z])) q) (fun b o _ _ hch q _ => ⟨o.slots, k2 b o (fun z => hch (by simp [z])) (fun z => hch (by simp [z])) q⟩)
        (fun b o _ q n => by rw [upd_ne (neT q)]; exact n) (fun b o hch q => ⟨o, k2 b o (fun z => hch (by simp [z])) (fun z => hch (by simp [z])) q⟩) (fun b ys q => by rw [upd_ne (ne_of_none q hfr)]; exact q) (fun b o ys q => by rw [upd_ne (ne_of_none q hfr)]; exact q)
        (fun b ps q => ⟨#[], by rw [upd_ne (ne_of_none q hfr), q]; simp⟩) (fun m hm => ?_) (fun b v q => ?_) I.bare
      · rcases List.mem_cons.mp hb with rfl | hb
        · exact ⟨f3, f1, f4, f5⟩
        · have e1 : b = it := by simpa using hb
          subst e1
          exact ⟨g3, g1, g4, g5⟩
      · obtain ⟨o, es, ep, ho, r⟩ := hm
        exact ⟨o, es, ep, k2 _ o (Ne.symm f1) (Ne.symm g1) ho, r⟩
      · by_cases hb : b = s.heap.objs.size
        · subst hb
          rw [upd_same] at q
          cases q
          exact ⟨by show 2 ≤ sizeLine; decide, [.int i s.toks, u], .cons ⟨_, rfl⟩ (.cons ru .nil), _, hT2, rfl, _, rfl⟩
        · rw [upd_ne hb] at q
          refine (I.hok b v q).stay (fun c o hc z => ?_) (fun c z => by rw [upd_ne (ne_of_none z hfr)]; exact z) fun c ys z => by rw [upd_ne (ne_of_none z hfr)]; exact z
          rcases hc with rfl | hc
          · exact k2 c o (trk q).1 (trk q).2 z
          · exact k2 c o (trk hc).1 (trk hc).2 z
    refine ⟨.ref s.heap.objs.size, _, I2, rfl, ⟨_, x, rfl, hfr, rfl, fun ys hy => by rw [I.tuple_inj hy hq]; exact hx⟩, ⟨⟨u, by simpa using he''⟩, ?_⟩, fun b hb => ?_⟩
    · obtain ⟨o, q, r⟩ := hit'
      exact ⟨o, (hs''.2 it (Ne.symm hei)).trans q, r⟩
    · rcases List.mem_cons.mp hb with rfl | hb
      · rw [upd_ne (Nat.ne_of_lt hlt)]; exact f0
      · have e1 : b = it := by simpa using hb
        subst e1
        obtain ⟨o, q, _⟩ := hit
        rw [upd_ne (neT q)]
        exact g0
  done := by
    intro X hP hw hK hc i pins s σ H E I hf st hg
    subst hP hw hK
    obtain ⟨⟨old, he⟩, hit⟩ := st
    obtain ⟨xs, hq, hx⟩ := hg
    obtain ⟨its, rv, p, hz⟩ := I.tuple hq
    obtain ⟨g0, g1, g2, g3, g4, g5⟩ := hf it (by simp)
    have hl := rv.length
    exact L2E.pyNext_enumT_end (I.ok.hd hc) he hit (show s.heap.IsTuple a its.toArray from p) (by simp; omega) fun h' eb => ⟨rfl, I.turned (t' := s.toks) (fun b o hb q => eb b o hb q) g0 g1 g3 g4 g5⟩
  self := fun _ _ _ _ _ st h => let ⟨_, he⟩ := st.1; wpAny_pyIter_enum he h
section
variable {X : Cx}
def iEnum (K : PySem.W.Frag) (ta : TA) : TI := fun σ H R => ta σ H fun vs H1 => ∃ a, vs = [.ref a] ∧ (∃ xs, SqT K H1 a xs) ∧ R (Ite K a) H1
theorem pi_enumT {a : Expr} {ta : TA} {p pos : Pos} {elts : List Expr} {x1 : Nat} {tp : Pos} (hg : Gl X "enumerate") (hm : X.mg "enumerate" = none) (ha : PA X [a] ta) (hs : starEach [a] X.env = [(false, eval a X.env)] := by rfl) :
    PI X (.Tuple elts x1 tp) (.Call (.Name "enumerate" p) [a] [] pos) (iEnum X.K ta) := by
  intro pins s σ H R I h
  refine Call_ (ld_blt I hg hm bb_enumerate (PyProof.Rows.callWith_type1 (thn (ha pos pins s σ H _ I h) fun us s1 ⟨vs, H1, I1, r1, q1⟩ => ?_) hs rfl))
  obtain ⟨l, e, ⟨xs, hq⟩, q⟩ := q1
  subst e
  cases r1 with
  | cons r rr =>
    cases rr
    cases r
    obtain ⟨its, rv, ht, hz⟩ := I1.tuple hq
    refine L2E.call_enum_tup (show s1.heap.IsTuple l its.toArray from ht) fun h' he hit hsz hk => ?_
    have I2 : Inv X pins σ H1 { s1 with heap := h' } := I1.kept (t' := s1.toks) hk
    refine wpAny_pyIter_enum he ?_
    refine ⟨s1.heap.objs.size + 1, [s1.heap.objs.size + 1, s1.heap.objs.size], _, _, H1, rfl, I2, turn_enumT l _ _ (Nat.succ_ne_self _), ⟨⟨_, he⟩, hit⟩, fun b hb => ?_, q⟩
    rcases List.mem_cons.mp hb with rfl | hb
    · exact (I1.fpOk (Nat.le_succ _) (I1.hok.fresh (Nat.le_succ _)))
    · have e : b = s1.heap.objs.size := by simpa using hb
      subst e
      exact I1.fpOk (Nat.le_refl _) (I1.hok.fresh (Nat.le_refl _))
theorem for_enum {K : PySem.W.Frag} {a : Addr} {xs : List V} {g : TG} {tb : TS} {D : Ends} {σ : St} {H : Hp} (Pv : Nat → St → Hp → Prop) (h0 : Pv 0 σ H) (hl : ∀ i σ H, i ≤ xs.length → Pv i σ H → SqT K H a xs)
    (hs : ∀ i x t σ H, xs[i]? = some x → Pv i σ H → H t = none → g (.ref t) σ (upd H t (.tup [.int i, x])) fun σ2 H2 => tb { D with nx := Pv (i + 1), ct := Pv (i + 1), bk := D.nx } σ2 H2) (hd : ∀ σ H, Pv xs.length σ H → D.nx σ H) :
    ∃ W : Nat → Nat → St → Hp → Prop, (∃ m, W 0 m σ H) ∧ ∀ i m σ H, W i m σ H →
      ((Ite K a).stop i H ∧ D.nx σ H) ∨ ((Ite K a).go i H ∧ ∃ N : St → Hp → Prop, (∀ σ' H', N σ' H' → ∃ m', m' < m ∧ W (i + 1) m' σ' H') ∧ ∀ x H', (Ite K a).yld i H x H' → g x σ H' fun σ2 H2 => tb { D with nx := N, ct := N, bk := D.nx } σ2 H2) := by
  refine ⟨fun i m σ H => m = xs.length - i ∧ i ≤ xs.length ∧ Pv i σ H, ⟨xs.length, by simp, Nat.zero_le _, h0⟩, ?_⟩
  rintro i m σ H ⟨rfl, hi, p⟩
  have q := hl i σ H hi p
  by_cases hlt : i < xs.length
  · refine .inr ⟨⟨xs, xs[i], q, by simp [hlt]⟩, Pv (i + 1), fun σ' H' p' => ⟨xs.length - (i + 1), by omega, rfl, hlt, p'⟩, fun x H' y => ?_⟩
    obtain ⟨t, z, e, hn, e2, y⟩ := y
    subst e e2
    exact hs i z t σ _ (y xs q) p hn
  · have e : i = xs.length := by omega
    subst e
    exact .inl ⟨⟨xs, q, Nat.le_refl _⟩, hd σ H p⟩
end
end L2

namespace L2
open PySem PySem.Spec PyProof.Rows

theorem ObjOk.obj {P : Program} {w : World} {H : Hp} {h : Heap} {a : Addr} : ∀ {o : HO}, ObjOk P w H h a o → ∃ u, h.get? a = some u := fun {o} x => by
  cases o with
  | lst xs => obtain ⟨_, _, _, _, e⟩ := x; exact ⟨_, e⟩
  | tup xs => obtain ⟨_, _, _, o, e, _⟩ := x; exact ⟨_, e⟩
  | dK kvs => obtain ⟨_, _, _, _, o, _, _, e, _⟩ := x; exact ⟨_, e⟩
  | dT kvs => obtain ⟨_, _, _, _, o, _, _, e, _⟩ := x; exact ⟨_, e⟩
  | set S n => obtain ⟨o, _, _, _, e, _⟩ := x; exact ⟨_, e⟩
  | ins C dx fs => obtain ⟨_, _, _, e, _⟩ := x; exact ⟨_, e⟩
  | own y => exact x
  | xd fs => obtain ⟨_, ⟨_, _, _, e, _⟩, _⟩ := x; exact ⟨_, e⟩
  | rng lo hi => obtain ⟨_, _, _, e⟩ := x; exact ⟨_, e⟩
  | frz ob u => obtain ⟨e, _⟩ := x; exact ⟨_, e⟩
  | tbl ps => exact ⟨_, (show h.get? a = some _ from x)⟩
  | met f y => exact ⟨_, (show h.get? a = some _ from x)⟩
  | ext φ => obtain ⟨_, e, _⟩ := x; exact e
def noFr (h : Heap) (l : List Env) : Heap := PySem.W.hideAll h (frs l)
theorem noFr_get {h : Heap} {l : List Env} {b : Addr} {o : Obj} (e : h.get? b = some o) (n : b ∉ frs l) : (noFr h l).get? b = some o := PySem.W.hideAll_get _ e n
theorem of_noFr {h : Heap} {l : List Env} {b : Addr} {o : Obj} (e : (noFr h l).get? b = some o) : h.get? b = some o := PySem.W.of_hideAll _ e
theorem noFr_frames {h base : Heap} {l : List Env} (x : h.FunFrames base l) : h.FunFrames (noFr h l) l := PySem.W.funFrames_hide x fun env he a hf => List.mem_filterMap.mpr ⟨env, he, hf⟩

def Sta (B : Heap) (l : List Env) (a : Addr) (cls : Value) (h : Heap) : Prop := ∃ a0,
  (B.StaysIn h ∧ B.get? a = none ∧ h.FunFrames B l ∧ ∃ oe vs, h.get? a = some oe ∧ oe.cls = cls ∧ oe.data = .fields vs ∧ vs[1]? = some .none ∧ vs[0]? = some a0) ∨
  Heap.FlyingW B l a cls a0 h ∨ ∃ L env outer, l = env :: outer ∧ env.frame = some L ∧ Heap.HeldW B l a cls a0 L h
theorem Sta.stays {B h : Heap} {l : List Env} {a : Addr} {cls : Value} (x : Sta B l a cls h) : B.StaysIn h := by
  obtain ⟨a0, x | x | ⟨_, _, _, _, _, x⟩⟩ := x
  · exact x.1
  · exact x.1
  · exact x.1
theorem Sta.frames {B h : Heap} {l : List Env} {a : Addr} {cls : Value} (x : Sta B l a cls h) : h.FunFrames B l := by
  obtain ⟨a0, x | x | ⟨_, _, _, _, _, x⟩⟩ := x
  · exact x.2.2.1
  · exact x.2.2.1
  · exact x.2.2.1
section
variable {M : Model} {A : Around} {E : Value → Shared → Prop} {s : Shared} {B : Heap} {env : Env} {outer : List Env} {L a : Addr} {cls : Value}
theorem sta_note {Q : Unit → Shared → Prop} (hfr : A.frames = some (env :: outer)) (hf : env.frame = some L) (x : Sta B (env :: outer) a cls s.heap)
    (hQ : ∀ h' a0, Heap.HeldW B (env :: outer) a cls a0 L h' → s.heap.UpToSlots h' → Q () { s with heap := h' }) : wpAny M A (noteFrame (.ref a) env) Q E s := by
  obtain ⟨a0, ⟨x1, x2, x3, oe, vs, he, hc, hd, h1, h0⟩ | x | ⟨L', env', outer', e1, e2, x⟩⟩ := x
  · unfold noteFrame
    simp only [hf]
    refine wpAny_bind (wpAny_field he hd h1 ?_)
    rw [if_neg (by decide)]
    refine wpAny_entryW hfr x3 hf he x1 x2 hd (Array.getElem?_eq_some_iff.mp h1).1 h0 fun h' hN => ?_
    obtain ⟨k1, k2, k3, k4⟩ := hN
    rw [hc] at k3
    exact hQ h' a0 ⟨k1, x2, k2, k3⟩ k4
  · exact wpAny_looks_onW hfr hf x fun h' k1 k2 => hQ h' a0 k1 k2
  · cases e1
    rw [hf] at e2
    cases e2
    exact wpAny_noteFrame_againW hf x.2.2.2 (hQ s.heap a0 x (Heap.UpToSlots.refl _))
theorem sta_leave {Q : Unit → Shared → Prop} (hfr : A.frames = some (env :: outer)) (hf : env.frame = some L) (x : Sta B (env :: outer) a cls s.heap)
    (hQ : ∀ h' a0, Heap.FlyingW B outer a cls a0 h' → s.heap.UpToSlots h' → Q () { s with heap := h' }) : wpAny M A (leaving env (.ref a)) Q E s := by
  unfold leaving
  refine wpAny_bind (sta_note hfr hf x fun h1 a0 k1 k2 => ?_)
  refine wpAny_landsW k1 fun h2 k3 k4 => ?_
  obtain ⟨c1, c2, ⟨_, _, c3⟩, c4⟩ := k3
  exact hQ h2 a0 ⟨c1, c2, c3, c4⟩ (k2.trans k4)
end

structure XAt (P : Program) (w : World) (l : List Env) (ex : List Addr) (H : Hp) (s : Shared) (B : Heap) (a : Addr) (cls : Value) (H' : Hp) (s' : Shared) : Prop where
  os : s'.os = s.os
  bare : AllBare s'.gens
  un : Un (frs l) ex H H' s.heap s'.heap
  hok : HOk P w H' s'.heap
  na : H' a = none
  sta : Sta B l a cls s'.heap
  old : ∀ b o, s.heap.get? b = some o → b ∉ frs l → b ∉ ex → ∃ o', s'.heap.get? b = some o' ∧ B.get? b = some o'
  trk : ∀ b, H' b ≠ none → ∃ o, s'.heap.get? b = some o ∧ B.get? b = some o
theorem XAt.move {P : Program} {w : World} {l l' : List Env} {ex : List Addr} {H H' : Hp} {s s' : Shared} {B h' : Heap} {a : Addr} {cls : Value} (x : XAt P w l ex H s B a cls H' s') (k : s'.heap.UpToSlots h') (st : Sta B l' a cls h')
    (hsub : ∀ b ∈ frs l', b ∈ frs l) (hin : ∀ b o, s.heap.get? b = some o → b ∈ frs l → b ∈ frs l') (hx : ∀ b ∈ frs l, b ∉ ex) : XAt P w l' ex H s B a cls H' { s' with heap := h' } := by
  have sB := st.stays
  have nf : ∀ b ∈ frs l, ∀ o, s'.heap.get? b = some o → ∀ vs, o.data ≠ .fields vs := fun b hb o e => by
    obtain ⟨_, o', e', d⟩ := x.sta.frames.mem hb
    rw [e] at e'; cases e'
    exact d
  have oldK : ∀ b o, s.heap.get? b = some o → b ∉ frs l' → b ∉ ex → ∃ o', s'.heap.get? b = some o' ∧ B.get? b = some o' := fun b o e hb he => x.old b o e (fun z => hb (hin b o e z)) he
  refine ⟨x.os, x.bare, ⟨fun b o e n hb he => ?_, fun b o e n hb he => ?_, x.un.free, fun b o e he => ?_, x.un.tups, x.un.frzs, x.un.tbls⟩, fun b u e => ?_, x.na, st, fun b o e hb he => ?_, fun b hb => ?_⟩
  · have e1 := x.un.keep b o e n (fun z => hb (hin b o e z)) he
    obtain ⟨o', e2, e3⟩ := oldK b o e hb he
    rw [e1] at e2; cases e2
    exact sB b _ e3
  · obtain ⟨sl, e1⟩ := x.un.slot b o e n (hsub b hb) he
    obtain ⟨sl', e2⟩ := k b _ e1 (nf b (hsub b hb) _ e1)
    exact ⟨sl', e2⟩
  · by_cases hb : b ∈ frs l
    · obtain ⟨_, o', e', d⟩ := x.sta.frames.mem hb
      obtain ⟨sl', e2⟩ := k b _ e' d
      exact ⟨_, e2⟩
    · obtain ⟨o', _, e3⟩ := x.old b o e hb he
      exact ⟨o', sB b _ e3⟩
  · refine (x.hok b u e).stay (fun c v hc q => ?_) (fun _ q => q) fun _ _ q => q
    have hn : H' c ≠ none := by
      rcases hc with rfl | hc
      · rw [e]; exact fun z => nomatch z
      · rw [hc]; exact fun z => nomatch z
    obtain ⟨o', e1, e2⟩ := x.trk c hn
    rw [q] at e1; cases e1
    exact sB c _ e2
  · obtain ⟨o', _, e3⟩ := oldK b o e hb he
    exact ⟨o', sB b _ e3, e3⟩
  · obtain ⟨o', _, e3⟩ := x.trk b hb
    exact ⟨o', sB b _ e3, e3⟩

def CXo (P : Program) (w : World) : CXT := fun outer H s E e s' => ∃ a cls H' B, e = .ref a ∧ XAt P w outer [] H s B a cls H' s' ∧ E cls none H'
def BodyX (X : Cx) (E : XK) (e : Value) (s' : Shared) : Prop := ∃ a cls H' B, e = .ref a ∧ XAt X.prog X.w X.stack X.ex X.H₀ X.s₀ B a cls H' s' ∧ E cls none H'
structure Own (X : Cx) : Prop where
  ok : X.Ok
  top : X.stack = X.env :: X.outer
  fr : X.env.frame = some X.env.locals
  ex : X.ex = []
theorem Own.loc {X : Cx} (o : Own X) : ∀ b o', X.s₀.heap.get? b = some o' → b ∈ frs X.stack → b ∈ frs X.outer := fun b o' e hb => by
  rw [o.top] at hb
  unfold frs at hb
  rw [List.filterMap_cons, o.fr] at hb
  rcases List.mem_cons.mp hb with z | z
  · subst z
    exact absurd (Nat.lt_of_lt_of_le (Heap.lt_size e) o.ok.above) (Nat.lt_irrefl _)
  · exact z
structure ECls (K : PySem.W.Frag) (mg : Str → Option Value) (x : Str) (C : Addr) : Prop where
  g : mg x = some (.ref C)
  ex : ∃ bm newId B initId, PySem.W.excIn K C bm newId = true ∧ ExcBaseFacts B newId initId bm
def tRaise (C : Addr) (t : TA) (E : XK) : TS := fun _ σ H => t σ H fun vs H1 => vs.length ≤ sizeLine ∧ E (.ref C) none H1
theorem ecls_obj {K : PySem.W.Frag} {C : Addr} {bmB : List Value} {newId : String} {h : Heap} (X : K.In h) (q : PySem.W.excIn K C bmB newId = true) :
    ∃ bm ns nm qn bs hd sn sub ab col dd k0 k1 k2 k3 k5 mN, h.get? C = some (excClassObj nm qn C ns bs bm hd sn sub ab col dd k0 k1 k2 k3 k5 newId) ∧ h.Ns ns mN ∧ mN "__init__" = none ∧ OwnTail h bmB bm := by
  unfold PySem.W.excIn at q
  split at q
  · rename_i dd cd sl ho
    split at q
    · rename_i C' bm k0 k1 k2 k3 n k5 hm hs
      simp only [Bool.and_eq_true, beq_iff_eq, Bool.not_eq_true'] at q
      obtain ⟨⟨⟨⟨⟨rfl, rfl⟩, hdel⟩, ht⟩, hok⟩, hni⟩ := q
      obtain ⟨nm, bs, mro, ns, qn, hd, sn, sub, ab, col, del⟩ := cd
      dsimp only at hm hdel hok hni
      subst hm hdel
      have hsl : sl = #[k0, k1, k2, k3, some (.builtin n), k5] := by
        obtain ⟨l⟩ := sl
        simp only at hs
        rw [hs]
      subst hsl
      exact ⟨bm, ns, nm, qn, bs, hd, sn, sub, ab, col, dd, k0, k1, k2, k3, k5, _, X _ _ ho, .of_isNs (PySem.W.isNs_of_in X hok), PySem.W.nsMap_none_of_in X hok hni, PySem.W.tail_of_in X ht⟩
    · cases q
  · cases q
theorem ps_raise {X : Cx} {E : XK} {x : Str} {C : Addr} {np cpos pos : Pos} {e₀ : Expr} {rest : List Expr} {t : TA} (hc : X.calm = true) (Z : ECls X.K X.mg x C) (ha : PA (X.wish (BodyX X E)) (e₀ :: rest) t)
    (hg : Gl X x := by rfl) (hdb : (x == ("__debug__" : Str)) = false := by decide) (he : starEach (e₀ :: rest) X.env = (false, eval e₀ X.env) :: starEach rest X.env := by rfl) (hplain : (backTo cpos (starEach rest X.env)).any (·.1) = false := by rfl) :
    PS (X.wish (BodyX X E)) (.Raise (some (.Call (.Name x np) (e₀ :: rest) [] cpos)) none pos) (tRaise C t E) := by
  intro pins s σ H D I h
  obtain ⟨bmB, newId, Bn, initId, q, FB⟩ := Z.ex
  obtain ⟨bm, ns, nm, qn, bs, hd, sn, sub, ab, col, dd, k0, k1, k2, k3, k5, mN, hC, hN, hni, T⟩ := ecls_obj I.kIn q
  have hA := ha cpos pins s σ H _ I h
  rw [show starEach (e₀ :: rest) (X.wish (BodyX X E)).env = (false, eval e₀ X.env) :: starEach rest X.env from he] at hA
  refine wpAny_Raise_call_subT (C := C) (nm := nm) (q := qn) (N := ns) (bs := bs) (bm := bm) (hdct := hd) (sn := sn) (sub := sub) (ab := ab) (col := col) (dd := dd) (k0 := k0) (k1 := k1) (k2 := k2) (k3 := k3) (k5 := k5)
    FB (mN := mN) (T.hasType FB.hasBase) (I.ok.hd hc) (by show (backTo cpos (starEach (e₀ :: rest) X.env)).any (·.1) = false; rw [he]; show (false || (backTo cpos (starEach rest X.env)).any (·.1)) = false; rw [hplain]; rfl) hni (ld_glob I hg Z.g ⟨rfl, ?_⟩ hdb)
  show wpAny _ _ (evalArgs (.ref C) true (backTo cpos (starEach (e₀ :: rest) X.env)) []) _ _ s
  rw [he]
  refine Calls.evalArgs_plain (wpAny_mono hA (fun us s2 h2 => ?_) fun _ _ y => y)
  obtain ⟨vs, H2, I2, r2, hz, hE⟩ := h2
  obtain ⟨bm', ns', nm', qn', bs', hd', sn', sub', ab', col', dd', k0', k1', k2', k3', k5', mN', hC2, hN2, hni2, T2⟩ := ecls_obj I2.kIn q
  have J := I2.unwish
  have st : ∀ b o, X.base.get? b = some o → s2.heap.get? b = some o := J.bk
  have hC' : s2.heap.get? C = some (excClassObj nm qn C ns bs bm hd sn sub ab col dd k0 k1 k2 k3 k5 newId) := by
    obtain ⟨bm3, ns3, nm3, qn3, bs3, hd3, sn3, sub3, ab3, col3, dd3, k03, k13, k23, k33, k53, mN3, hC3, hN3, hni3, T3⟩ := ecls_obj J.ok.mod.kin q
    have e1 := (I.unwish.bk _ _ hC3).symm.trans hC
    cases e1
    exact st _ _ hC3
  have hN' : s2.heap.Ns ns mN := by
    obtain ⟨bm3, ns3, nm3, qn3, bs3, hd3, sn3, sub3, ab3, col3, dd3, k03, k13, k23, k33, k53, mN3, hC3, hN3, hni3, T3⟩ := ecls_obj J.ok.mod.kin q
    have e1 := (I.unwish.bk _ _ hC3).symm.trans hC
    injection e1 with e1
    injection e1 with _ _ e1 _
    injection e1 with e1
    injection e1 with _ _ _ e1 _ _ _ _ _ _ _
    subst e1
    have f1 := hN3.keeps I.unwish.bk
    have f2 := hN3.keeps st
    obtain ⟨o1, es1, ep1, g1, g2, g3, g4⟩ := f1
    obtain ⟨o2, es2, ep2, j1, j2, j3, j4⟩ := hN
    rw [g1] at j1; cases j1
    rw [g2] at j2; cases j2
    have em : mN3 = mN := by funext y; rw [← g4 y, ← j4 y]
    rw [← em]
    exact f2
  have T' : OwnTail s2.heap bmB bm := by
    obtain ⟨bm3, ns3, nm3, qn3, bs3, hd3, sn3, sub3, ab3, col3, dd3, k03, k13, k23, k33, k53, mN3, hC3, hN3, hni3, T3⟩ := ecls_obj J.ok.mod.kin q
    have e1 := (I.unwish.bk _ _ hC3).symm.trans hC
    injection e1 with e1
    injection e1 with _ _ e1 _
    injection e1 with e1
    injection e1 with _ _ e1 _ _ _ _ _ _ _ _
    injection e1 with _ e1
    rw [← e1]
    exact T3.keeps st
  refine ⟨rfl, by show us.length ≤ sizeLine; rw [← r2.length]; exact hz, hC', hN', T', fun h' a hx => ?_⟩
  have U : Un (frs X.stack) X.ex X.H₀ H2 X.s₀.heap s2.heap := J.base.mono (fun b hb => by
    rcases J.ok.stk with z | ⟨z, _⟩
    · rw [z]; exact hb
    · rw [z]; unfold frs; rw [List.filterMap_cons]; split
      · exact hb
      · exact List.mem_cons_of_mem _ hb) fun b hb => hb
  obtain ⟨t0, ht1, ht2, ht3⟩ := hx.there
  refine ⟨a, .ref C, H2, noFr s2.heap X.stack, rfl, ⟨J.os, J.bare, U.trans (Un.kept hx.keeps), J.hok.kept hx.keeps, ?_, ⟨_, .inl ⟨fun b o e => hx.keeps b o (of_noFr e), ?_, ?_, _, _, ht1, rfl, rfl, rfl, rfl⟩⟩, fun b o e hb he => ?_, fun b hb => ?_⟩, hE⟩
  · cases z : H2 a with
    | none => rfl
    | some u =>
      obtain ⟨o, e⟩ := (J.hok a u z).obj
      rw [hx.new] at e; cases e
  · cases z : (noFr s2.heap X.stack).get? a with
    | none => rfl
    | some o => have := of_noFr z; rw [hx.new] at this; cases this
  · exact (noFr_frames J.stack).of_keeps fun b o e _ => ⟨o, hx.keeps b o e, rfl⟩
  · obtain ⟨o1, e1⟩ := U.there b o e he
    exact ⟨o1, hx.keeps b o1 e1, noFr_get e1 hb⟩
  · obtain ⟨u, hu⟩ := Option.ne_none_iff_exists'.mp hb
    obtain ⟨o, e⟩ := (J.hok b u hu).obj
    exact ⟨o, hx.keeps b o e, noFr_get e fun z => hb (J.stkFree b z)⟩

theorem Fun.okX {P : Program} {w : World} {K : PySem.W.Frag} {mg : Str → Option Value} {base : Heap} {x qual : Str} {st : Stmt} {f : Addr} {fd : FuncData} {N ps : List Str} {k : Nat} {sp : Sp} (F : Fun K x qual st f fd) (S : FnScope N ps (defScope st)) (len : ∀ vs H Q E, sp vs H Q E → vs.length = ps.length)
    (hbody : ∀ (cdv : Value) (A : Around) (outer : List Env) (s : Shared) (H : Hp) (vs : List V) (Q : VK) (E : XK), Room k (A.deeper (envOfC qual (defScope st) s.heap.objs.size f cdv)) → sp vs H Q E → ∀ X : Cx, X = cxOf (CXo P w) P w K mg base N qual (defScope st) f cdv A outer s H E →
      ∃ t, PSs (X.wish (BodyX X E)) (defBody st) t ∧ t { nx := fun _ H' => Q .non H', rt := Q } (start N vs) H) : FnOk P w K mg base (CXo P w) (k + 1) f fd ps sp := by
  obtain ⟨oc, od, kV, doc, pm, an, cdv, ct, osl, rfl, lk, hcd⟩ := F.ex
  refine fn_of lk hcd S len fun A outer s H vs Q E hr hsp => ?_
  obtain ⟨t, h, q⟩ := hbody cdv A outer s H vs Q E hr hsp _ rfl
  refine ⟨t, fun pins s1 σ H1 D I hw => ?_, q⟩
  refine wpAny_mono (h pins s1 σ H1 D (I.wish _) hw) (fun _ _ q => q.unwish) fun e s' hx => ?_
  obtain ⟨a, cls, H', B, rfl, x, hE⟩ := hx
  have O : Own (cxOf (CXo P w) P w K mg base N qual (defScope st) f cdv A outer s H E) := ⟨I.ok, rfl, rfl, rfl⟩
  show wpAny (model P w) _ (leaving _ (.ref a)) _ _ s'
  refine sta_leave (outer := outer) I.ok.frames rfl x.sta fun h' a0 k1 k2 => ?_
  refine ⟨a, cls, H', B, rfl, x.move k2 ⟨a0, .inr (.inl k1)⟩ (fun b hb => List.mem_cons_of_mem _ hb) O.loc fun b _ => by simp [cxOf], hE⟩
end L2


namespace L2
open PySem PySem.Spec PyProof.Rows
section
variable {X : Cx}
theorem ps_sem {b : List Stmt} {R : TS} (h : ∀ D σ H, R D σ H → ∃ t, PSs X b t ∧ t D σ H) : PSs X b R := fun pins s σ H D I hw => by
  obtain ⟨t, ht, hq⟩ := h D σ H hw
  exact ht pins s σ H D I hq
theorem call_tuple_any : CallR X (.type "tuple") (fun xs H Q => ∃ p ys, xs = [.ref p] ∧ (H p = some (.lst ys) ∨ H p = some (.tup ys)) ∧ ∀ t H1, Same H H1 → H1 t = some (.tup ys) → Q (.ref t) H1) := by
  intro pins s σ H xs us Q I r h
  obtain ⟨p, ys, rfl, hp, q⟩ := h
  refine call_tuple_of pins s σ H [.ref p] us Q I r ⟨p, ys, rfl, ?_⟩
  rcases hp with hp | hp
  · exact .inl ⟨SqL.of hp, fun l hl => q l _ (same_upd hl) upd_same⟩
  · exact .inr ⟨SqT.of hp, q p H (Same.refl H) hp⟩
theorem passF : Passes (CXo X.prog X.w) X E0 := fun _ _ _ _ _ _ _ h => by
  obtain ⟨_, _, _, _, _, _, z⟩ := h
  exact z.elim
theorem pe_fnF {x : Str} {st : Stmt} {ps : List Str} {f : Addr} {fd : FuncData} {k : Nat} {sp : Sp} {e : Expr} {es : List Expr} {t : TA} {p pos : Pos} (G : FnOk X.prog X.w X.K X.mg X.base (CXo X.prog X.w) k f fd ps sp) (F : Fn X.K X.mg x st ps f fd) (hr : Room k X.A) (ha : PA X (e :: es) t)
    (hg : Gl X x := by rfl) (hdb : (x == ("__debug__" : Str)) = false := by decide) (he : starEach (e :: es) X.env = (false, eval e X.env) :: starEach es X.env := by rfl) (hpl : (backTo pos (starEach es X.env)).any (·.1) = false := by rfl) :
    PE X (.Call (.Name x p) (e :: es) [] pos) (tCall sp [] E0 t) := pe_call G hr hg F.g F.fn.kp F.b .nil passF ha hdb he hpl
theorem Fun.okX2 {P : Program} {w : World} {K : PySem.W.Frag} {mg : Str → Option Value} {base : Heap} {x qual : Str} {st : Stmt} {f : Addr} {fd : FuncData} {N ps : List Str} {k : Nat} {sp : Sp} (F : Fun K x qual st f fd) (S : FnScope N ps (defScope st)) (len : ∀ vs H Q E, sp vs H Q E → vs.length = ps.length)
    (hbody : ∀ (cdv : Value) (A : Around) (outer : List Env) (s : Shared) (H : Hp) (vs : List V) (Q : VK) (E : XK), Room k (A.deeper (envOfC qual (defScope st) s.heap.objs.size f cdv)) → sp vs H Q E → Own (cxOf (CXo P w) P w K mg base N qual (defScope st) f cdv A outer s H E) →
      ∃ t, PSs ((cxOf (CXo P w) P w K mg base N qual (defScope st) f cdv A outer s H E).wish (BodyX (cxOf (CXo P w) P w K mg base N qual (defScope st) f cdv A outer s H E) E)) (defBody st) t ∧ t { nx := fun _ H' => Q .non H', rt := Q } (start N vs) H) : FnOk P w K mg base (CXo P w) (k + 1) f fd ps sp := by
  refine F.okX S len fun cdv A outer s H vs Q E hr h X hX => ?_
  subst hX
  by_cases ok : (cxOf (CXo P w) P w K mg base N qual (defScope st) f cdv A outer s H E).Ok
  · exact hbody cdv A outer s H vs Q E hr h ⟨ok, rfl, rfl, rfl⟩
  · exact ⟨fun _ _ _ => True, fun pins s σ H D I _ => absurd I.ok.unwish ok, trivial⟩
def PJ (X : Cx) (es : List Expr) (m : Nat) (t : St → Hp → Prop) : Prop :=
  ∀ (pins : List (Addr × Obj)) (s : Shared) (σ : St) (H : Hp) (out : Str) (Q : Value → Shared → Prop), Inv X pins σ H s → t σ H → out.length + m ≤ sizeLine → (∀ x tk s', Inv X pins σ H s' → Q (.str x tk) s') →
    wpAny (model X.prog X.w) X.A (joinParts out (evalEach es X.env)) Q X.xe s
def jNil : St → Hp → Prop := fun _ _ => True
def jInt (te : TE) (t : St → Hp → Prop) : St → Hp → Prop := fun σ H => te σ H fun v H' => H' = H ∧ (∃ i : Int, v = .int i ∧ i.natAbs.log2 < 1920) ∧ t σ H
theorem pj_nil : PJ X [] 0 jNil := fun pins s σ H out Q I _ hz q => joinParts_nil (q _ _ _ (I.tok _)) (by omega)
theorem pj_str {x : Str} {j} {pos : Pos} {es : List Expr} {m : Nat} {t : St → Hp → Prop} (h : PJ X es m t) : PJ X (.Constant (.str x) j pos :: es) (x.length + m) t := fun pins s σ H out Q I ht hz q => by
  show wpAny _ _ (joinParts out (eval (.Constant (.str x) j pos) X.env :: evalEach es X.env)) Q _ s
  have e : (out ++ x).length = out.length + x.length := strLen_append _ _
  refine joinParts_cons (Calls.Constant_str ?_)
  exact ⟨by rw [e]; omega, h pins _ σ H (out ++ x) Q (I.tok _) ht (by rw [e]; omega) q⟩
theorem pj_int {a : Expr} {pos : Pos} {es : List Expr} {m : Nat} {t : St → Hp → Prop} {te : TE} (ha : PE X a te) (h : PJ X es m t) : PJ X (.FormattedValue a (-1) none pos :: es) (1921 + m) (jInt te t) := fun pins s σ H out Q I ht hz q => by
  show wpAny _ _ (joinParts out (eval (.FormattedValue a (-1) none pos) X.env :: evalEach es X.env)) Q _ s
  refine joinParts_cons (FormattedValue_plain (thn (ha pins s σ H _ I ht) fun u s1 h1 => ?_))
  obtain ⟨v, H1, I1, r, rfl, ⟨i, rfl, hi⟩, ht1⟩ := h1
  obtain ⟨tk, rfl⟩ := r
  have l1 := int_text_length_le (k := 1920) (by decide) hi
  have e : (out ++ Str.ofString (toString i)).length = out.length + (toString i).length := by rw [strLen_append, PySem.ofString_length]
  refine formatField_int_small hi ?_
  exact ⟨by rw [e]; omega, h pins _ σ H1 (out ++ Str.ofString (toString i)) Q (I1.tok _) ht1 (by rw [e]; omega) q⟩
def tFs (t : St → Hp → Prop) : TE := fun σ H Q => t σ H ∧ ∀ x, Q (.str x) H
theorem pe_fs {a b : Expr} {es : List Expr} {pos : Pos} {m : Nat} {t : St → Hp → Prop} (h : PJ X (a :: b :: es) m t) (hm : m ≤ 1000000) : PE X (.JoinedStr (a :: b :: es) pos) (tFs t) := fun pins s σ H Q I hw => by
  have e : Str.empty.length = 0 := rfl
  have z : sizeLine = 16777216 := sizeLine_eq
  exact JoinedStr_many (h pins s σ H Str.empty _ I hw.1 (by rw [e, z]; omega) fun x tk s' I' => ⟨.str x, H, I', ⟨_, rfl⟩, hw.2 x⟩)
end

end L2

namespace L2
open PySem PySem.Spec PyProof.Rows
section
variable {X : Cx}
theorem vals_at {xs : List V} {its : List Value} {j : Nat} (r : Vals xs its) (hj : j < its.toArray.size) : ∃ x, xs[j]? = some x ∧ RelV x its.toArray[j] := by
  have hl := r.length
  have hx : j < xs.length := by rw [List.size_toArray] at hj; omega
  obtain ⟨u, hu, ru⟩ := r.get (List.getElem?_eq_getElem hx)
  refine ⟨_, List.getElem?_eq_getElem hx, ?_⟩
  have z : its.toArray[j]? = some u := by simpa using hu
  rw [(Array.getElem?_eq_some_iff.mp z).2]
  exact ru
end
end L2

namespace L2
open PySem PySem.Spec PyProof.Rows
def IteL (K : PySem.W.Frag) (a : Addr) : It :=
  ⟨fun i H => ∃ xs x, SqL K H a xs ∧ xs[i]? = some x, fun i H y H' => ∃ t x, y = .ref t ∧ H t = none ∧ H' = upd H t (.tup [.int i, x]) ∧ ∀ xs, SqL K H a xs → xs[i]? = some x, fun i H => ∃ xs, SqL K H a xs ∧ xs.length ≤ i⟩
theorem turn_enumL {P : Program} {w : World} {K : PySem.W.Frag} {elts : List Expr} {x1 : Nat} {tp : Pos} (a e it : Addr) (hei : e ≠ it) :
    Turn P w K (.Tuple elts x1 tp) (IteL K a) [e, it] e (fun i h => (∃ old, IsEnum h e it i old) ∧ h.IsListIter it a i) where
  mem := by simp
  obj := fun i h st b hb => by
    obtain ⟨⟨old, he⟩, hit⟩ := st
    rcases List.mem_cons.mp hb with rfl | hb
    · exact ⟨_, he, fun v z => by
        have z' : Data.fields _ = Data.cell v := z
        cases z'⟩
    · have e1 : b = it := by simpa using hb
      subst e1
      obtain ⟨o, e, c, d⟩ := hit
      exact ⟨o, e, fun v z => by rw [d] at z; cases z⟩
  keep := fun i h h' st k => ⟨let ⟨old, he⟩ := st.1; ⟨old, k e (by simp) _ he⟩, let ⟨o, ho, r⟩ := st.2; ⟨o, k it (by simp) o ho, r⟩⟩
  item := by
    intro X hP hw hK hc i pins s σ H E I hf st hg
    subst hP hw hK
    obtain ⟨⟨old, he⟩, hit⟩ := st
    obtain ⟨xs, x, hq, hx⟩ := hg
    obtain ⟨its, rv, p, hz⟩ := I.list hq
    obtain ⟨u, hu, ru⟩ := rv.get hx
    obtain ⟨f0, f1, f2, f3, f4, f5⟩ := hf e (by simp)
    obtain ⟨g0, g1, g2, g3, g4, g5⟩ := hf it (by simp)
    refine wpAny_pyNext_enum_item he hit p.isList (x := u) (by simpa using hu) hei fun h' ho' hit' hT hsz hk => ?_
    refine ⟨_, rfl, wpAny_letOwnedTupleGo_enum ho' fun h'' he'' hs'' => ?_⟩
    have hlt : e < s.heap.objs.size := Heap.lt_size he
    have k2 : ∀ b o, b ≠ e → b ≠ it → s.heap.get? b = some o → h''.get? b = some o := fun b o h1 h2 q => (hs''.2 b h1).trans (hk b o h1 h2 q)
    have hT2 : h''.get? s.heap.objs.size = some { cls := .type "tuple", data := .seq #[.int i s.toks, u] } := (hs''.2 _ (Nat.ne_of_gt hlt)).trans hT
    have hfr : H s.heap.objs.size = none := I.hok.fresh (Nat.le_refl _)
    have neT : ∀ {b : Addr} {o : Obj}, s.heap.get? b = some o → b ≠ s.heap.objs.size := fun q => Nat.ne_of_lt (Heap.lt_size q)
    have trk : ∀ {b : Addr} {o : HO}, H b = some o → b ≠ e ∧ b ≠ it := fun q => ⟨fun z => (by rw [z, f0] at q; cases q), fun z => (by rw [z, g0] at q; cases q)⟩
    have I2 : Inv X pins σ (upd H s.heap.objs.size (.tup [.int i, x])) { s with heap := h'', toks := s.toks + 1 } := by
      refine I.step (g' := s.gens) (d' := s.drawn) (ch := [e, it]) (fun b hb => ?_) (fun b o _ _ hch q _ => k2 b o (fun z => hch (by simp [z])) (fun z => hch (by simp [z])) q) (fun b o _ _ hch q _ => ⟨o.slots, k2 b o (fun z => hch (by simp [z])) (fun z => hch (by simp [z])) q⟩)
        (fun b o _ q n => by rw [upd_ne (neT q)]; exact n) (fun b o hch q => ⟨o, k2 b o (fun z => hch (by simp [z])) (fun z => hch (by simp [z])) q⟩) (fun b ys q => by rw [upd_ne (ne_of_none q hfr)]; exact q) (fun b o ys q => by rw [upd_ne (ne_of_none q hfr)]; exact q)
        (fun b ps q => ⟨#[], by rw [upd_ne (ne_of_none q hfr), q]; simp⟩) (fun m hm => ?_) (fun b v q => ?_) I.bare
      · rcases List.mem_cons.mp hb with rfl | hb
        · exact ⟨f3, f1, f4, f5⟩
        · have e1 : b = it := by simpa using hb
          subst e1
          exact ⟨g3, g1, g4, g5⟩
      · obtain ⟨o, es, ep, ho, r⟩ := hm
        exact ⟨o, es, ep, k2 _ o (Ne.symm f1) (Ne.symm g1) ho, r⟩
      · by_cases hb : b = s.heap.objs.size
        · subst hb
          rw [upd_same] at q
          cases q
          exact ⟨by show 2 ≤ sizeLine; decide, [.int i s.toks, u], .cons ⟨_, rfl⟩ (.cons ru .nil), _, hT2, rfl, _, rfl⟩
        · rw [upd_ne hb] at q
          refine (I.hok b v q).stay (fun c o hc z => ?_) (fun c z => by rw [upd_ne (ne_of_none z hfr)]; exact z) fun c ys z => by rw [upd_ne (ne_of_none z hfr)]; exact z
          rcases hc with rfl | hc
          · exact k2 c o (trk q).1 (trk q).2 z
          · exact k2 c o (trk hc).1 (trk hc).2 z
    refine ⟨.ref s.heap.objs.size, _, I2, rfl, ⟨_, x, rfl, hfr, rfl, fun ys hy => by rw [I.list_inj hy hq]; exact hx⟩, ⟨⟨u, by simpa using he''⟩, ?_⟩, fun b hb => ?_⟩
    · obtain ⟨o, q, r⟩ := hit'
      exact ⟨o, (hs''.2 it (Ne.symm hei)).trans q, r⟩
    · rcases List.mem_cons.mp hb with rfl | hb
      · rw [upd_ne (Nat.ne_of_lt hlt)]; exact f0
      · have e1 : b = it := by simpa using hb
        subst e1
        obtain ⟨o, q, _⟩ := hit
        rw [upd_ne (neT q)]
        exact g0
  done := by
    intro X hP hw hK hc i pins s σ H E I hf st hg
    subst hP hw hK
    obtain ⟨⟨old, he⟩, hit⟩ := st
    obtain ⟨xs, hq, hx⟩ := hg
    obtain ⟨its, rv, p, hz⟩ := I.list hq
    obtain ⟨g0, g1, g2, g3, g4, g5⟩ := hf it (by simp)
    have hl := rv.length
    exact wpAny_pyNext_enum_end (I.ok.hd hc) he hit p.isList (by simp; omega) fun h' eb => ⟨rfl, I.turned (t' := s.toks) (fun b o hb q => eb b o hb q) g0 g1 g3 g4 g5⟩
  self := fun _ _ _ _ _ st h => let ⟨_, he⟩ := st.1; wpAny_pyIter_enum he h
section
variable {X : Cx}
def iEnumL (K : PySem.W.Frag) (ta : TA) : TI := fun σ H R => ta σ H fun vs H1 => ∃ a, vs = [.ref a] ∧ (∃ xs, SqL K H1 a xs) ∧ R (IteL K a) H1
theorem pi_enumL {a : Expr} {ta : TA} {p pos : Pos} {elts : List Expr} {x1 : Nat} {tp : Pos} (hg : Gl X "enumerate") (hm : X.mg "enumerate" = none) (ha : PA X [a] ta) (hs : starEach [a] X.env = [(false, eval a X.env)] := by rfl) :
    PI X (.Tuple elts x1 tp) (.Call (.Name "enumerate" p) [a] [] pos) (iEnumL X.K ta) := by
  intro pins s σ H R I h
  refine Call_ (ld_blt I hg hm bb_enumerate (PyProof.Rows.callWith_type1 (thn (ha pos pins s σ H _ I h) fun us s1 ⟨vs, H1, I1, r1, q1⟩ => ?_) hs rfl))
  obtain ⟨l, e, ⟨xs, hq⟩, q⟩ := q1
  subst e
  cases r1 with
  | cons r rr =>
    cases rr
    cases r
    obtain ⟨its, rv, ht, hz⟩ := I1.list hq
    refine call_enumerate_list ht.isList fun h' he hit hsz hk => ?_
    have I2 : Inv X pins σ H1 { s1 with heap := h' } := I1.kept (t' := s1.toks) hk
    refine wpAny_pyIter_enum he ?_
    refine ⟨s1.heap.objs.size + 1, [s1.heap.objs.size + 1, s1.heap.objs.size], _, _, H1, rfl, I2, turn_enumL l _ _ (Nat.succ_ne_self _), ⟨⟨_, he⟩, hit⟩, fun b hb => ?_, q⟩
    rcases List.mem_cons.mp hb with rfl | hb
    · exact (I1.fpOk (Nat.le_succ _) (I1.hok.fresh (Nat.le_succ _)))
    · have e : b = s1.heap.objs.size := by simpa using hb
      subst e
      exact I1.fpOk (Nat.le_refl _) (I1.hok.fresh (Nat.le_refl _))
theorem for_enumL {K : PySem.W.Frag} {a : Addr} {xs : List V} {g : TG} {tb : TS} {D : Ends} {σ : St} {H : Hp} (Pv : Nat → St → Hp → Prop) (h0 : Pv 0 σ H) (hl : ∀ i σ H, i ≤ xs.length → Pv i σ H → SqL K H a xs)
    (hs : ∀ i x t σ H, xs[i]? = some x → Pv i σ H → H t = none → g (.ref t) σ (upd H t (.tup [.int i, x])) fun σ2 H2 => tb { D with nx := Pv (i + 1), ct := Pv (i + 1), bk := D.nx } σ2 H2) (hd : ∀ σ H, Pv xs.length σ H → D.nx σ H) :
    ∃ W : Nat → Nat → St → Hp → Prop, (∃ m, W 0 m σ H) ∧ ∀ i m σ H, W i m σ H →
      ((IteL K a).stop i H ∧ D.nx σ H) ∨ ((IteL K a).go i H ∧ ∃ N : St → Hp → Prop, (∀ σ' H', N σ' H' → ∃ m', m' < m ∧ W (i + 1) m' σ' H') ∧ ∀ x H', (IteL K a).yld i H x H' → g x σ H' fun σ2 H2 => tb { D with nx := N, ct := N, bk := D.nx } σ2 H2) := by
  refine ⟨fun i m σ H => m = xs.length - i ∧ i ≤ xs.length ∧ Pv i σ H, ⟨xs.length, by simp, Nat.zero_le _, h0⟩, ?_⟩
  rintro i m σ H ⟨rfl, hi, p⟩
  have q := hl i σ H hi p
  by_cases hlt : i < xs.length
  · refine .inr ⟨⟨xs, xs[i], q, by simp [hlt]⟩, Pv (i + 1), fun σ' H' p' => ⟨xs.length - (i + 1), by omega, rfl, hlt, p'⟩, fun x H' y => ?_⟩
    obtain ⟨t, z, e, hn, e2, y⟩ := y
    subst e e2
    exact hs i z t σ _ (y xs q) p hn
  · have e : i = xs.length := by omega
    subst e
    exact .inl ⟨⟨xs, q, Nat.le_refl _⟩, hd σ H p⟩
end

theorem compOk1 {X : Cx} {scope : Scope} {pre : List Str} {y : Str} {c : Addr} {j : Nat} (hkind : scope.kind = .function) (h : ∀ z ∈ scope.names, z.2 ≠ .cell ∧ (z.2 = .free → z.1 = y)) (hn : ∀ z ∈ scope.names, z.2 = .local → scope.names.lookup z.1 = some .local)
    (hcl : closureFor scope X.env = pure [(y, c)]) (hc : X.env.cells.lookup y = some c) (hN : X.N[j]? = some y) (hk : X.env.kindOf y = some .cell) (hr : (relabel scope X.env).names.lookup y = some .cell) :
    CompOk X scope [(y, c)] (pre ++ [y]) (List.replicate pre.length none ++ [some j]) where
  clos := hcl
  cell := fun z hz => (h z hz).1
  kind := hkind
  names := hn
  cls := fun x c' e => by
    rw [List.lookup_cons] at e
    split at e
    · rename_i hx
      rw [eq_of_beq hx, ← e]
      exact hc
    · cases e
  has := fun x e => by
    have key : ∀ k, (relabel scope X.env).names.lookup x = some k → k = .cell ∨ k = .free → x = y := fun k e hk => by
      have hm := PySem.mem_of_lookup e
      obtain ⟨⟨n, k'⟩, hy, ey⟩ := List.mem_map.mp hm
      have h1 := h _ hy
      by_cases hf : k' = .free
      · have z := h1.2 hf
        dsimp only at ey
        split at ey
        · cases ey; exact z
        · cases ey; exact z
      · have hb : (k' == NameKind.free) = false := by simpa using hf
        simp only [hb, Bool.false_and, Bool.false_eq_true, if_false, Prod.mk.injEq] at ey
        obtain ⟨_, rfl⟩ := ey
        rcases hk with hk | hk
        · exact absurd hk h1.1
        · exact absurd hk hf
    have hxy : x = y := by
      rcases e with e | e
      · exact key _ e (.inl rfl)
      · exact key _ e (.inr rfl)
    exact ⟨c, by rw [hxy, List.lookup_cons, beq_self_eq_true]⟩
  len := by simp
  src := fun i k x e1 e2 => by
    by_cases hi : i < pre.length
    · rw [List.getElem?_append_left (by simpa using hi), List.getElem?_replicate, if_pos hi] at e1
      cases e1
    · have hl := (List.getElem?_eq_some_iff.mp e2).1
      rw [List.length_append, List.length_singleton] at hl
      have e : i = pre.length := by omega
      subst e
      rw [List.getElem?_append_right (by simp)] at e1
      rw [List.getElem?_append_right (Nat.le_refl _)] at e2
      simp at e1 e2
      subst e1 e2
      exact ⟨hN, .inl hk, .inl hr⟩

theorem compOk2 {X : Cx} {scope : Scope} {x y : Str} {c : Addr} {j : Nat} (hkind : scope.kind = .function) (h : ∀ z ∈ scope.names, z.2 ≠ .cell ∧ (z.2 = .free → z.1 = y)) (hn : ∀ z ∈ scope.names, z.2 = .local → scope.names.lookup z.1 = some .local)
    (hcl : closureFor scope X.env = pure [(y, c)]) (hc : X.env.cells.lookup y = some c) (hN : X.N[j]? = some y) (hk : X.env.kindOf y = some .cell) (hr : (relabel scope X.env).names.lookup y = some .cell) :
    CompOk X scope [(y, c)] [x, y] [none, some j] := compOk1 (pre := [x]) hkind h hn hcl hc hN hk hr
theorem bind_name {M : Model} {A : Around} {E : Value → Shared → Prop} {s : Shared} {env : Env} {x : Str} {v : Value} {Q : Unit → Shared → Prop} (h : wpAny M A (storeName env x v) Q E s) : wpAny M A (bindName env x v) Q E s := fun Γ p hΓ => by
  rw [Sem.wp_bindName]
  exact h Γ _ hΓ
theorem ps_comp {X : Cx} {elt iter tg : Expr} {ifs : List Expr} {scope : Scope} {pos pos' ps : Pos} {x : Str} {ix : Nat} {cl : List (Str × Addr)} {NC : List Str} {ini : List (Option Nat)} {wi : TI} {g : TG} {tt : TT} {te : TE}
    (hN : X.N.Nodup) (hix : X.N[ix]? = some x) (hx : Loc X.env.scope x) (hc : X.calm = true) (O : CompOk X scope cl NC ini) (hi : PI X tg iter wi)
    (hg : ∀ fp C s₀ H₀, PG (cxComp X scope cl NC fp C s₀ H₀) tg g) (ht : ∀ fp C s₀ H₀, PTs (cxComp X scope cl NC fp C s₀ H₀) ifs tt) (he : ∀ fp C s₀ H₀, PE (cxComp X scope cl NC fp C s₀ H₀) elt te)
    (hs : ∀ x, foldedSetIterable iter X.env x = pure x := by intro _; rfl) (hsw : swapsWith (.ListComp elt [⟨tg, iter, ifs, 0⟩] scope pos) (some (.Name x pos')) ps.line X.env = pure true := by rfl)
    (hf : X.fn x = true ∨ X.env.scope.names.lookup x = some .local := by first | exact .inl rfl | exact .inr rfl | assumption) : PS X (.Assign [.Name x pos'] (.ListComp elt [⟨tg, iter, ifs, 0⟩] scope pos) ps) (tAsg (tComp wi g tt te ini) (gName ix)) := by
  intro pins s σ H Dn I h
  rw [exec_Assign_Name_used _ _ _ _ hsw]
  refine wpAny_bind (wpAny_standAt (wpAny_bind ?_))
  show wpAny _ _ (comprehension (.ListComp elt [⟨tg, iter, ifs, 0⟩] scope pos) scope X.env _ (newList []) false (eval iter X.env) (some (assign (.Name x pos') X.env)) >>= fun _ => pure ()) _ _ s
  refine wpAny_bind ?_
  refine wpAny_comprehension_free (use := some (assign (.Name x pos') X.env)) rfl hs O.clos O.kind O.names (thn (hi pins s σ H _ I h) fun v s1 h1 => thn h1 fun itv s2 h2 => ?_)
  obtain ⟨it, fp, tn, J, H2, e, I2, T, st2, f2, h2⟩ := h2
  subst e
  have hD : H2 s2.heap.objs.size = none := I2.hok.fresh (Nat.le_refl _)
  obtain ⟨W, ⟨m0, w0⟩, turn⟩ := h2 _ hD
  refine wpAny_newObj_type (wpAny_newFunctionEnv O.cell (by intro y hy; simp at hy) (fun h₁ hns₁ hsb₁ => ?_) O.kind)
  dsimp only at hns₁ hsb₁ ⊢
  have I3 : Inv X pins σ (upd H2 s2.heap.objs.size (.lst [])) { s2 with heap := s2.heap.push { cls := .type "list", dict := none, data := .seq ([] : List Value).toArray } } := I2.lnew (its := []) (t' := s2.toks) .nil (by decide)
  have ob2 : ∀ b ∈ fp, ∃ o, s2.heap.get? b = some o := fun b hb => let ⟨o, e, _⟩ := T.obj 0 _ st2 b hb; ⟨o, e⟩
  have neD : ∀ b ∈ fp, b ≠ s2.heap.objs.size := fun b hb => let ⟨o, e⟩ := ob2 b hb; Nat.ne_of_lt (Heap.lt_size e)
  have f3 : ∀ b ∈ fp, FpOk X pins (upd H2 s2.heap.objs.size (.lst [])) b := fun b hb => ⟨by rw [upd_ne (neD b hb)]; exact (f2 b hb).1, (f2 b hb).2⟩
  generalize hs3 : ({ s2 with heap := s2.heap.push { cls := .type "list", dict := none, data := .seq ([] : List Value).toArray } } : Shared) = s3 at I3
  have hh3 : s2.heap.push { cls := .type "list", dict := none, data := .seq ([] : List Value).toArray } = s3.heap := by rw [← hs3]
  have ob3 : ∀ b ∈ fp, ∃ o, s3.heap.get? b = some o := fun b hb => let ⟨o, e⟩ := ob2 b hb; ⟨o, by rw [← hh3]; exact Heap.get?_push_of_some _ e⟩
  rw [hh3] at hns₁ hsb₁ ⊢
  have old : ∀ b o, s3.heap.get? b = some o → h₁.get? b = some o := fun b o e => hsb₁.extBut b o (Nat.ne_of_lt (Heap.lt_size e)) (Heap.get?_push_of_some _ e)
  have st1 : tn 0 h₁ := T.keep 0 _ _ st2 fun b hb o e => old b o (by rw [← hh3]; exact Heap.get?_push_of_some _ e)
  have IC : ∀ tk, Inv (cxComp X scope cl NC fp s3.heap.objs.size s3 (upd H2 s2.heap.objs.size (.lst []))) [] (iniSt ini σ) (upd H2 s2.heap.objs.size (.lst [])) { s3 with heap := h₁, toks := tk } := fun tk => inv_comp O I3 f3 ob3 hns₁ old
  have stat : ∀ {H' : Hp}, (∀ b ∈ fp, H' b = none) → ∀ b ∈ fp, FpOk (cxComp X scope cl NC fp s3.heap.objs.size s3 (upd H2 s2.heap.objs.size (.lst []))) [] H' b := fun {H'} hn b hb => by
    obtain ⟨o, e⟩ := ob3 b hb
    refine ⟨hn b hb, Nat.ne_of_lt (Heap.lt_size e), fun z => ?_, .inl hb, fun x c hx => (f3 b hb).2.2.2.2.1 x c (O.cls x c hx), fun p hp => absurd (show p ∈ ([] : List (Addr × Obj)) from hp) (by simp)⟩
    rcases List.mem_cons.mp (I3.stkSub b z) with q | q
    · exact (f3 b hb).2.1 q
    · exact (f3 b hb).2.2.1 q
  have loop : ∀ s₃ : Shared, s₃ = { s2 with heap := h₁, toks := s2.toks + ([] : List (Str × Value)).length } →
      codeAny (model X.prog X.w) X.A (.compLoop (.ListComp elt [⟨tg, iter, ifs, 0⟩] scope pos) 0 (.ref it) (.ref s2.heap.objs.size) (compEnvC scope cl s3.heap.objs.size X.env))
        (compPost (model X.prog X.w) X.A X.xe (some (assign (.Name x pos') X.env)) (fun _ sE => wpAny (model X.prog X.w) X.A (pure ()) (fun _ s₁ => wpAny (model X.prog X.w) X.A (pure Flow.next) (SP X pins Dn) X.xe s₁) X.xe sE) (.ref s2.heap.objs.size) s3.heap.objs.size) s₃ := by
    rintro s₃ rfl
    refine codeAny_loop rfl (fun n s' => ∃ i σ' H', Inv (cxComp X scope cl NC fp s3.heap.objs.size s3 (upd H2 s2.heap.objs.size (.lst []))) [] σ' H' s' ∧ tn i s'.heap ∧ (∀ b ∈ fp, H' b = none) ∧ W i n σ' H') (fun n s' hI => ?_) m0
      ⟨0, _, _, by have z := IC (s2.toks + ([] : List (Str × Value)).length); rw [← hs3] at z ⊢; exact z, st1, fun b hb => (f3 b hb).1, w0⟩
    show wpAny _ X.A ((compTurn (.ListComp elt [⟨tg, iter, ifs, 0⟩] scope pos) 0 (.ref it) (.ref s2.heap.objs.size) (compEnvC scope cl s3.heap.objs.size X.env)).onRaise (fun x => do noteFrame x (compEnvC scope cl s3.heap.objs.size X.env); theTreesLotGoes x)) _ _ s'
    refine wpAny_noted ?_
    rw [compTurn_list]
    obtain ⟨i, σ3, H3, I3', st3, fr3, w3⟩ := hI
    rcases turn i n σ3 H3 w3 with ⟨stop, qn⟩ | ⟨go, N, hN, step⟩
    · refine wpAny_bind (wpAny_standAt (wpAny_bind (thn (T.done (cxComp X scope cl NC fp s3.heap.objs.size s3 (upd H2 s2.heap.objs.size (.lst []))) rfl rfl rfl hc i [] s' σ3 H3 _ I3' (stat fr3) st3 stop) fun r s4 ⟨hr, I4⟩ => ?_)))
      subst hr
      obtain ⟨m', hn', _⟩ := I4.loc
      refine wpAny_pure ?_
      show wpAny _ _ (do standAt pos'; bindName X.env x (.ref s2.heap.objs.size)) _ _ s4
      refine wpAny_bind (wpAny_standAt ?_)
      have IX : Inv X pins σ H3 s4 := comp_back I3 f3 I4 (Heap.SameBut.refl _ _)
      have fC : FpOk X pins H3 s3.heap.objs.size := I3.fpOk (Nat.le_refl _) I4.free
      obtain ⟨c0, c1, c2, c3, c4, c5⟩ := fC
      refine bind_name (store_ok2 IX hN hix hx (v := .ref s2.heap.objs.size) rfl (fun s5 I5 sb => ?_) hf)
      obtain ⟨aa, sb1, sb2⟩ := sb
      have nA : s3.heap.objs.size ≠ aa := by
        rcases sb2 with z | z
        · rw [z]; exact c1
        · exact Ne.symm (c4 x aa z)
      obtain ⟨oo, es, ep, g1, g2⟩ := hn'
      refine ⟨m', ⟨oo, es, ep, (sb1.2 _ nA).trans g1, g2⟩, fun h' hs' => wpAny_pure (wpAny_pure ⟨_, H3, I5.turned (t' := s5.toks) (fun b o hb e => (hs'.2 b hb).trans e) c0 c1 c3 c4 c5, qn⟩)⟩
    · refine wpAny_bind (wpAny_standAt (wpAny_bind (thn (T.item (cxComp X scope cl NC fp s3.heap.objs.size s3 (upd H2 s2.heap.objs.size (.lst []))) rfl rfl rfl hc i [] s' σ3 H3 _ I3' (stat fr3) st3 go) fun r s4 ⟨u, hr, h4⟩ => ?_)))
      subst hr
      refine wpAny_bind (thn h4 fun _ s5 ⟨x, H5, I5, r5, y5, st5, fr5⟩ => ?_)
      have I5' := I5.pinned (stat fr5) (T.obj _ _ st5)
      refine wpAny_bind (quietX (hg fp _ s3 _ _ s5 σ3 H5 x u _ I5' r5 (step x H5 y5)) fun _ s6 ⟨σ6, H6, I6, q6⟩ => ?_)
      have again : ∀ {s7 : Shared} {H7 : Hp}, Inv (cxComp X scope cl NC fp s3.heap.objs.size s3 (upd H2 s2.heap.objs.size (.lst []))) ([] ++ pinsAt fp s5.heap) σ6 H7 s7 → N σ6 H7 →
          ∃ m, m < n ∧ ∃ i σ' H', Inv (cxComp X scope cl NC fp s3.heap.objs.size s3 (upd H2 s2.heap.objs.size (.lst []))) [] σ' H' s7 ∧ tn i s7.heap ∧ (∀ b ∈ fp, H' b = none) ∧ W i m σ' H' := fun {s7 H7} I7 n7 => by
        obtain ⟨m', hm, w7⟩ := hN σ6 H7 n7
        refine ⟨m', hm, i + 1, σ6, H7, I7.unpinned, T.keep _ _ _ st5 fun b hb o e => (I7.pin (b, o) (List.mem_append_right _ (List.mem_append_right _ (mem_pinsAt hb e)))).1, fun b hb => ?_, w7⟩
        obtain ⟨o, e, d⟩ := T.obj _ _ st5 b hb
        exact (I7.pin (b, o) (List.mem_append_right _ (List.mem_append_right _ (mem_pinsAt hb e)))).2.1
      refine wpAny_bind (quietX (ht fp _ s3 _ _ s6 σ6 H6 _ I6 q6) fun ok s7 ⟨H7, I7, q7⟩ => ?_)
      cases ok with
      | false => exact wpAny_pure ⟨rfl, again I7 q7⟩
      | true =>
        refine wpAny_bind (wpAny_bind (quietX (he fp _ s3 _ _ s7 σ6 H7 _ I7 q7) fun u8 s8 ⟨v8, H8, I8, r8, ys, hy, hz, n8⟩ => ?_))
        refine wpAny_bind (quietX (mt_append _ s8 σ6 H8 (.ref s2.heap.objs.size) [v8] (.ref s2.heap.objs.size) [u8] (fun _ H9 => N σ6 H9) I8 rfl (.cons r8 .nil) ⟨_, ys, v8, rfl, rfl, hy, hz, n8⟩) fun _ s9 ⟨_, H9, I9, _, n9⟩ => ?_)
        exact wpAny_pure (wpAny_pure ⟨rfl, again I9 n9⟩)
  exact codeAny_compStart_list (loop _ rfl) (T.self _ 0 _ _ _ st1 (loop _ rfl))

section
variable {X : Cx}
theorem bb_reversed : bootBuiltins "reversed" = some (.type "reversed") := by decide +kernel
end

end L2

namespace L2
open PySem PySem.Spec PyProof.Rows
section
variable {X : Cx}
theorem op_eq_intsD (hu : X.A.units < cLine) : OpR X (compareOp .Eq) (fun x y H Q => ∃ (a b : Addr) (ns ms : List Int), x = .ref a ∧ y = .ref b ∧ SqL X.K H a (ns.map V.int) ∧ SqL X.K H b (ms.map V.int) ∧ ns.length = ms.length ∧ Q (.bl (decide (ns = ms))) H) := by
  intro pins s σ H x y v u Q I rx ry h
  obtain ⟨a, b, ns, ms, rfl, rfl, ha, hb, hl, q⟩ := h
  cases rx
  cases ry
  obtain ⟨i1, r1, p1, z1⟩ := I.list ha
  obtain ⟨i2, r2, p2, z2⟩ := I.list hb
  have l1 : ns.length = i1.length := by have z := r1.length; rwa [List.length_map] at z
  have l2 : ms.length = i2.length := by have z := r2.length; rwa [List.length_map] at z
  refine SeqAt.eq_listAt (e := fun j => ns.getD j 0 == ms.getD j 0) p1.isList p2.isList (by simp only [List.size_toArray]; omega) hu (fun j h1 h2 => ?_) ⟨.bl (decide (ns = ms)), H, I, ?_, q⟩
  · have hj : j < ns.length := by simp only [List.size_toArray] at h1; omega
    have hj2 : j < ms.length := by omega
    obtain ⟨x1, e1, t1⟩ := vals_at r1 h1
    obtain ⟨x2, e2, t2⟩ := vals_at r2 h2
    rw [List.getElem?_map, List.getElem?_eq_getElem hj] at e1
    rw [List.getElem?_map, List.getElem?_eq_getElem hj2] at e2
    obtain rfl := Option.some.inj e1
    obtain rfl := Option.some.inj e2
    obtain ⟨k1, q1⟩ := t1
    obtain ⟨k2, q2⟩ := t2
    rw [q1, q2]
    have g1 : ns.getD j 0 = ns[j] := by simp [List.getD, List.getElem?_eq_getElem hj]
    have g2 : ms.getD j 0 = ms[j] := by simp [List.getD, List.getElem?_eq_getElem hj2]
    rw [g1, g2]
    exact SeqAt.EqAt.int_int (A := X.A.in1) (s := s) ns[j] k1 ms[j] k2
  · show Value.bool _ = Value.bool _
    congr 1
    by_cases c : ns = ms
    · subst c
      rw [decide_eq_true rfl]
      exact List.all_eq_true.mpr fun _ _ => beq_self_eq_true _
    · rw [decide_eq_false c]
      refine Bool.eq_false_iff.mpr fun z => c ?_
      refine List.ext_getElem hl fun j q1 q2 => ?_
      have z2 := List.all_eq_true.mp z j (List.mem_range.mpr (by rw [List.size_toArray]; omega))
      have g1 : ns.getD j 0 = ns[j] := by simp [List.getD, List.getElem?_eq_getElem q1]
      have g2 : ms.getD j 0 = ms[j] := by simp [List.getD, List.getElem?_eq_getElem q2]
      rw [← g1, ← g2]
      exact eq_of_beq z2
end
end L2

namespace L2
open PySem PySem.Spec PyProof.Rows
section
variable {X : Cx} {a b c d : Expr} {ta tb tc td : TE} {pos : Pos}
def tChain3 (r r' r3 : R2) (ta tb tc td : TE) : TE := fun σ H Q => ta σ H fun x H1 => tb σ H1 fun y H2 => r x y H2 fun z H3 => ∃ k, z = .bl k ∧
  (if k = true then tc σ H3 fun y' H4 => r' y y' H4 fun z' H5 => ∃ k', z' = .bl k' ∧ (if k' = true then td σ H5 fun x' H6 => r3 y' x' H6 Q else Q (.bl false) H5) else Q (.bl false) H3)
theorem pt_chain3 {op op' op3 : CmpOp} {r r' r3 : R2} (ho : OpR X (compareOp op) r) (ho' : OpR X (compareOp op') r') (ho3 : OpR X (compareOp op3) r3) (ha : PE X a ta) (hb : PE X b tb) (hc : PE X c tc) (hd : PE X d td)
    (hm : lastMarks [op, op', op3] [b, c, d] = false := by with_unfolding_all rfl) : PT X (.Compare a [op, op', op3] [b, c, d] pos) (tTest (tChain3 r r' r3 ta tb tc td)) := by
  intro pins s σ H Q I h
  refine isTrue_chain (thn (ha pins s σ H _ I h) fun v s1 ⟨x, H1, I1, r1, q1⟩ => test_link (thn (hb pins s1 σ H1 _ I1 q1) fun u s2 ⟨y, H2, I2, r2, q2⟩ =>
    thn (ho pins s2 σ H2 x y v u _ I2 r1 r2 q2) fun d s3 ⟨z, H3, I3, r3, k, e, q3⟩ => ?_)) hm
  subst e
  cases r3
  refine wpAny_truthy_bool ?_
  cases k with
  | false =>
    obtain ⟨k', e', q'⟩ := q3
    cases e'
    exact ite_ff ⟨H3, I3, q'⟩
  | true =>
    refine ite_tt (test_link (thn (hc pins s3 σ H3 _ I3 q3) fun w' s4 ⟨z', H4, I4, r4, q4⟩ => thn (ho' pins s4 σ H4 y z' u w' _ I4 r2 r4 q4) fun d' s5 ⟨z2, H5, I5, r5, k2, e2, q5⟩ => ?_))
    subst e2
    cases r5
    refine wpAny_truthy_bool ?_
    cases k2 with
    | false =>
      obtain ⟨k', e', q'⟩ := q5
      cases e'
      exact ite_ff ⟨H5, I5, q'⟩
    | true =>
      refine ite_tt (test_last (thn (hd pins s5 σ H5 _ I5 q5) fun x5 s6 ⟨z5, H6, I6, r6, q6⟩ => thn (ho3 pins s6 σ H6 z' z5 w' x5 _ I6 r4 r6 q6) fun d3 s7 ⟨z7, H7, I7, r7, k7, e7, q7⟩ => ?_))
      subst e7
      cases r7
      exact wpAny_truthy_bool ⟨H7, I7, q7⟩
end
end L2

namespace L2E
open PySem AutoSeq1 MeetsSeq
theorem tuple_addW0 (l b : Addr) (items items2 : Array Value) (n n2 : Nat) (dd dd2 : Option Addr) (sl sl2 : Array (Option Value)) (hc0 : items.isEmpty = true) :
    Meets (Builtin.«tuple.__add__» ⟨[.ref l, .ref b], []⟩) (fun _ R s => s.heap.get? l = some { cls := .type "tuple", dict := dd, data := .seq items n, slots := sl } ∧ s.heap.get? b = some { cls := .type "tuple", dict := dd2, data := .seq items2 n2, slots := sl2 } ∧ R (.ok (.ret (Value.ref b))) s) :=
  .of_wp fun prog w A R s h => by obtain ⟨hp, g, d, tk, os⟩ := s; obtain ⟨hl, hb, h⟩ := h; have f1 := idx_int; have f2 := sub_tuple_tuple; have f3 := sub_list_list; have f4 := sub_tuple_list; have f5 := sub_list_tuple; wp_walk using wpAny_loadPart' hl, wpAny_loadPart' hb; exact ⟨_, rfl, h⟩
end L2E
namespace L2
open PySem PySem.Spec PyProof.Rows
section
variable {X : Cx}
def rCatT2 (K : PySem.W.Frag) : R2 := fun x y H Q => ∃ a b xs ys, x = .ref a ∧ y = .ref b ∧ SqT K H a xs ∧ SqT K H b ys ∧ ys ≠ [] ∧ xs.length + ys.length ≤ sizeLine ∧
  (xs = [] → Q (.ref b) H) ∧ (xs ≠ [] → ∀ p, H p = none → Q (.ref p) (upd H p (.tup (xs ++ ys))))
theorem op_catT2 : OpR X (binaryOp .Add) (rCatT2 X.K) := by
  intro pins s σ H x y v u Q I rx ry h
  obtain ⟨a, b, xs, ys, ex, ey, ha, hb, hy, hz, q1, q2⟩ := h
  by_cases hx : xs = []
  · subst ex ey
    cases rx
    cases ry
    obtain ⟨its, r1, p1, _⟩ := I.tuple ha
    obtain ⟨its2, r2, p2, _⟩ := I.tuple hb
    obtain ⟨⟨cls, dd, data, sl⟩, ho, hc, n, hd⟩ := id p1
    obtain ⟨⟨cls2, dd2, data2, sl2⟩, ho2, hc2, n2, hd2⟩ := id p2
    simp only at hc hd hc2 hd2
    subst hc hd hc2 hd2
    have e : its = [] := r1.nil_iff.mpr hx
    exact concat_meets ⟨_, ho, rfl⟩ ⟨_, ho2, rfl⟩ noFill_tuple_add seq_tuple_add PySem.F.slot_tuple_add PySem.F.entry_tuple_add (PySem.F.args_tuple_add_2 _ _)
      (L2E.tuple_addW0 a b its.toArray its2.toArray n n2 dd dd2 sl sl2 (by rw [e]; rfl)) ⟨ho, ho2, ⟨.ref b, H, I, rfl, q1 hx⟩⟩
  · exact op_catT pins s σ H x y v u Q I rx ry ⟨a, b, xs, ys, ex, ey, ha, hb, hx, hz, fun z => absurd z hy, fun _ => q2 hx⟩
end
end L2




namespace Mir
open PySem L2

theorem take_snoc {α : Type} {l : List α} {i : Nat} {x : α} (h : l[i]? = some x) : l.take (i + 1) = l.take i ++ [x] := by
  rw [List.take_add_one, h]; rfl
end Mir


namespace Mir
open PySem L2
def spCellAt (K : PySem.W.Frag) : Sp := fun vs H Q _ => ∃ (a : Addr) (ns : List Int) (k : Nat), vs = [.ref a, .int k] ∧ SqL K H a (ns.map V.int) ∧ ∀ i : Int, Q (.int i) H
end Mir




namespace Mir
open PySem L2
def iV (ns : List Int) : List V := ns.map V.int
theorem iV_len (ns : List Int) : (iV ns).length = ns.length := by unfold iV; rw [List.length_map]
theorem iV_get' {ns : List Int} {i : Nat} {x : V} (h : (iV ns)[i]? = some x) : ∃ m, ns[i]? = some m ∧ x = .int m := by
  unfold iV at h
  rw [List.getElem?_map] at h
  cases e : ns[i]? with
  | none => rw [e] at h; cases h
  | some m => rw [e] at h; exact ⟨m, rfl, (Option.some.inj h).symm⟩
theorem cut_from {xs : List V} {k : Nat} (h : k ≤ xs.length) : cutV xs (some (k : Int)) none = xs.drop k := by
  unfold cutV
  have e1 : HT.sIx xs.length 0 (some (k : Int)) = k := by unfold HT.sIx; simp only; rw [if_neg (by omega), Int.toNat_natCast]; omega
  have e2 : HT.sIx xs.length xs.length none = xs.length := rfl
  rw [e1, e2]
  exact List.take_of_length_le (by rw [List.length_drop]; omega)
theorem cut_to {xs : List V} {k : Nat} (h : k ≤ xs.length) : cutV xs none (some (k : Int)) = xs.take k := by
  unfold cutV
  have e1 : HT.sIx xs.length xs.length (some (k : Int)) = k := by unfold HT.sIx; simp only; rw [if_neg (by omega), Int.toNat_natCast]; omega
  have e2 : HT.sIx xs.length 0 none = 0 := rfl
  rw [e1, e2]
  rfl
end Mir

namespace L2
open PySem PySem.Spec
theorem bb_abs : bootBuiltins "abs" = some (.builtin "abs") := by decide +kernel
end L2
namespace Mir
open PySem L2
def absI (i : Int) : Int := if i < 0 then -i else i
def absL (ns : List Int) : List Int := ns.map absI
def from1 (n : Nat) : List Int := (List.range n).map fun (i : Nat) => 1 + (i : Int)
structure Fit (ns : List Int) : Prop where
  small : ns.length ≤ 40
  perm : (absL ns).Perm (from1 ns.length)
theorem absL_len (ns : List Int) : (absL ns).length = ns.length := by unfold absL; rw [List.length_map]
theorem from1_len (n : Nat) : (from1 n).length = n := by unfold from1; rw [List.length_map, List.length_range]
theorem rngV_from1 (n : Nat) : rngV 1 n = iV (from1 n) := by
  unfold rngV iV from1
  rw [List.map_map]
  rfl
theorem from1_succ (n : Nat) : from1 (n + 1) = from1 n ++ [(n : Int) + 1] := by
  unfold from1
  rw [List.range_succ, List.map_append]
  show _ ++ [1 + (n : Int)] = _
  rw [Int.add_comm]
theorem put_perm {rs : List Int} {x : Int} {spot : Nat} (h : (absL rs).Perm (from1 rs.length)) (hx : absI x = (rs.length : Int) + 1) : (absL (rs.take spot ++ [x] ++ rs.drop spot)).Perm (from1 (rs.length + 1)) := by
  have p1 : (rs.take spot ++ [x] ++ rs.drop spot).Perm (rs ++ [x]) := by
    have e : rs ++ [x] = rs.take spot ++ rs.drop spot ++ [x] := by rw [List.take_append_drop]
    rw [e, List.append_assoc, List.append_assoc]
    exact List.Perm.append_left _ List.perm_append_comm
  have p2 := p1.map absI
  rw [from1_succ]
  refine p2.trans ?_
  rw [List.map_append]
  show (absL rs ++ [absI x]).Perm _
  rw [hx]
  exact h.append_right _
def spRowBy (K : PySem.W.Frag) : Sp := fun vs H Q _ => ∃ (a : Addr) (ns : List Int) (at' many : Nat), vs = [.ref a, .int at', .int many] ∧ SqL K H a (ns.map V.int) ∧ many ≤ 40 ∧
  ∀ (t : Addr) (H' : Hp) (rs : List Int), Same H H' → H' t = some (.tup (iV rs)) → rs.length = many → Fit rs → Q (.ref t) H'
end Mir

namespace L2E
open PySem PySem.Spec PyProof.Rows
namespace FR
theorem owner_rev : Manifest.owners.lookup (String.ofList ['d', 'e', 's', 'r', 'e', 'v', 'e', 'r'].reverse) = some Manifest.sig_reversed := by kernel_rfl
theorem slot_rev_next : Slot "reversed" "__next__" "reversed.__next__" :=
  .of (owner := "reversed") (n := "__next__") (by rw [typeLookup_type, builtinLookup_eq_fast]; kernel_rfl) (by decide +kernel) (by decide +kernel) (by decide +kernel)
    (by first | exact .inl (by decide +kernel) | exact .inr (by decide +kernel)) (by rw [isSubtype_type]; kernel_rfl)
theorem entry_rev_next : entryFor table "reversed.__next__" = some Builtin.«reversed.__next__» := entryFor_of_tree (by kernel_rfl)
theorem args_rev_next_1 (a : Value) : argsOk "reversed.__next__" ⟨[a], []⟩ := by
  unfold argsOk; rw [signature?_of (id := "reversed.__next__") (n := ['_', '_', 't', 'x', 'e', 'n', '_', '_']) (o := ['d', 'e', 's', 'r', 'e', 'v', 'e', 'r']) (by kernel_rfl) owner_rev]; kernel_rfl
theorem slot_rev_iter : Slot "reversed" "__iter__" "reversed.__iter__" :=
  .of (owner := "reversed") (n := "__iter__") (by rw [typeLookup_type, builtinLookup_eq_fast]; kernel_rfl) (by decide +kernel) (by decide +kernel) (by decide +kernel)
    (by first | exact .inl (by decide +kernel) | exact .inr (by decide +kernel)) (by rw [isSubtype_type]; kernel_rfl)
theorem args_rev_iter_1 (a : Value) : argsOk "reversed.__iter__" ⟨[a], []⟩ := by
  unfold argsOk; rw [signature?_of (id := "reversed.__iter__") (n := ['_', '_', 'r', 'e', 't', 'i', '_', '_']) (o := ['d', 'e', 's', 'r', 'e', 'v', 'e', 'r']) (by kernel_rfl) owner_rev]; kernel_rfl
theorem entry_rev_iter : entryFor table "reversed.__iter__" = some Builtin.«dict_keyiterator.__iter__» :=
  entryFor_alias (id' := "dict_keyiterator.__iter__") (by kernel_rfl) (by first | rfl | decide +kernel | (unfold String.splitOn; simp +decide [String.splitOnAux])) (by decide +kernel) (by kernel_rfl)
theorem tuple_no_reversed : typeLookup (.type "tuple") "__reversed__" = pure none := by rw [typeLookup_type, builtinLookup_eq_fast]; kernel_rfl
theorem sub_tuple_dict : isSubtype (.type "tuple") (.type "dict") = pure false := by rw [isSubtype_type]; kernel_rfl
theorem sub_rev_rev : isSubtype (.type "reversed") (.type "reversed") = pure true := by rw [isSubtype_type]; kernel_rfl
theorem called_reversed : TypeCalled "reversed" "reversed.__new__" "object.__init__" where
  notType := by decide +kernel
  canCreate := F.create_reversed
  mro := ⟨_, _, F.mro_reversed⟩
  made := F.made_reversed
  plain := F.plain_reversed_new
  sub := sub_rev_rev
  init := .of (owner := "object") (n := "__init__") (by rw [typeLookup_type, builtinLookup_eq_fast]; kernel_rfl) (by decide +kernel) (by decide +kernel) (by decide +kernel)
    (by first | exact .inl (by decide +kernel) | exact .inr (by decide +kernel)) (by rw [isSubtype_type]; kernel_rfl)
end FR
section
variable {prog : Program} {w : World} {A : Around} {E : Value → Shared → Prop} {s : Shared}
def revTObj (l : Addr) (i : Int) : Obj := { cls := .type "reversed", data := .fields #[.ref l, rawInt i] }
def IsRevT (h : Heap) (a l : Addr) (i : Int) : Prop := ∃ o, h.get? a = some o ∧ o.cls = .type "reversed" ∧ o.data = .fields #[.ref l, rawInt i]
theorem IsRevT.typeIs {a l : Addr} {i : Int} (x : IsRevT s.heap a l i) : s.TypeIs (.ref a) "reversed" := let ⟨o, ho, hc, _⟩ := x; ⟨o, ho, hc⟩
theorem IsRevT.at {h h' : Heap} {a l : Addr} {i : Int} (x : IsRevT h a l i) (e : ∀ o, h.get? a = some o → h'.get? a = some o) : IsRevT h' a l i := let ⟨o, ho, r⟩ := x; ⟨o, e _ ho, r⟩
theorem code_reversed_newT {l : Addr} {items : Array Value} {Q₁ : Value → Shared → Prop} (hl : IsTup s.heap l items) (hz : items.size ≤ sizeLine)
    (h : ∀ tk, Q₁ (.ref s.heap.objs.size) { s with heap := s.heap.push (revTObj l ((items.size : Int) - 1)), toks := tk }) :
    codeAny (model prog w) A (.call (.builtin "reversed.__new__") ⟨[.type "reversed", .ref l], []⟩) (wants Q₁ E) s := by
  refine codeAny_of_tree ?_
  show wpAny _ A.in1 (do checkBuiltinCall "reversed.__new__" ⟨[.type "reversed", .ref l], []⟩; again (.builtin "reversed.__new__" ⟨[.type "reversed", .ref l], []⟩)) _ _ s
  refine wpAny_bind (wpAny_of_eq (F.newCall_reversed_1 _) (wpAny_pure ⟨plainId_quiet F.plain_reversed_new _, codeAny_builtin F.entry_reversed_new ?_⟩))
  rw [Around.under_plainId F.plain_reversed_new _]
  unfold Builtin.«reversed.__new__»
  refine wpAny_bind (wpAny_of_eq (newClass_reversed _) ?_)
  try dsimp only
  refine wpAny_bind (wpAny_of_eq (a := ()) (by first | rfl | kernel_rfl) ?_)
  refine wpAny_bind (wpAny_of_eq (a := ()) (by first | rfl | kernel_rfl) ?_)
  try dsimp only
  refine wpAny_bind (wpAny_specialOf hl.typeIs FR.tuple_no_reversed ?_)
  try dsimp only
  refine wpAny_bind ?_
  refine wpAny_bind (wpAny_isInstance hl.typeIs FR.sub_tuple_dict ?_)
  refine wpAny_ite_split (fun hab => absurd hab (by decide)) (fun _ => ?_)
  refine wpAny_bind (wpAny_specialOf hl.typeIs PyProof.Rows.slot_tuple_getitem.lookup ?_)
  dsimp only
  refine wpAny_ite_split (fun _ => ?_) (fun hab => absurd (by decide +kernel) hab)
  refine wpAny_pure ?_
  refine wpAny_ite_split (fun hab => absurd hab (by decide)) (fun _ => ?_)
  refine wpAny_bind (len_tuple hl (by rw [sizeLine_eq] at hz; omega) ?_)
  refine wpAny_bind (m := asInt? _) (wpAny_pure ?_)
  dsimp only
  refine wpAny_bind ?_
  show wpAny _ _ (newObj (.type "reversed") (.fields #[.ref l, rawInt ((items.size : Int) - 1)])) _ _ _
  refine wpAny_newObj_type ?_ (by size_fits)
  exact wpAny_pure (h _)
theorem call_reversed_tup {l : Addr} {items : Array Value} {Q : Value → Shared → Prop} (hl : IsTup s.heap l items) (hz : items.size ≤ sizeLine)
    (h : ∀ tk, Q (.ref s.heap.objs.size) { s with heap := s.heap.push (revTObj l ((items.size : Int) - 1)), toks := tk }) : wpAny (model prog w) A (call (.type "reversed") [.ref l]) Q E s := by
  refine callType_codes (Q₁ := fun obj s₁ => obj = .ref s.heap.objs.size ∧ ∃ tk, s₁ = { s with heap := s.heap.push (revTObj l ((items.size : Int) - 1)), toks := tk }) FR.called_reversed (F.typeCall_reversed_1 _) F.entry_object_init
    (code_reversed_newT hl hz fun tk => ⟨rfl, tk, rfl⟩) fun obj s₁ h₁ => ?_
  obtain ⟨rfl, tk, rfl⟩ := h₁
  have hT : Shared.TypeIs { s with heap := s.heap.push (revTObj l ((items.size : Int) - 1)), toks := tk } (.ref s.heap.objs.size) "reversed" := ⟨_, Heap.get?_push_size _ rfl, rfl⟩
  exact ⟨hT, F.args_object_init_2 _ _, object_init_meets FR.called_reversed.init.lookup FR.called_reversed.made (by decide) prog w A.in1 _ _ ⟨hT, rfl, h tk⟩⟩
theorem pyNext_revT_item {it l : Addr} {i : Nat} {items : Array Value} {x : Value} {Q : Option Value → Shared → Prop} (hit : IsRevT s.heap it l (i : Int)) (hl : IsTup s.heap l items) (hne : l ≠ it) (hx : items[i]? = some x) (hz : items.size ≤ sizeLine)
    (hQ : ∀ h' tk, IsRevT h' it l ((i : Int) - 1) → Heap.SameBut it s.heap h' → Q (some x) { s with heap := h', toks := tk }) : wpAny (model prog w) A (pyNext (.ref it)) Q E s := by
  obtain ⟨o, ho, hc, hd⟩ := id hit
  have hi : i < items.size := (Array.getElem?_eq_some_iff.mp hx).1
  unfold pyNext
  refine wpAny_bind (wpAny_attempt (wpAny_callSpecial?_slot (name := Str.ofString "__next__") hit.typeIs FR.slot_rev_next
    (wpAny_call_entry FR.slot_rev_next hit.typeIs FR.entry_rev_next ?_ (FR.args_rev_next_1 _))))
  unfold Builtin.«reversed.__next__»
  refine wpAny_bind (wpAny_of_eq (a := (Value.ref it, [])) rfl ?_)
  try dsimp only
  refine wpAny_bind (wpAny_field ho hd (x := .ref l) rfl ?_)
  refine wpAny_bind (wpAny_field ho hd (x := rawInt (i : Int)) rfl ?_)
  show wpAny _ _ (if (i : Int) < 0 then _ else _) _ _ s
  rw [if_neg (by omega)]
  refine wpAny_bind (wpAny_specialOf hl.typeIs PyProof.Rows.slot_tuple_getitem.lookup ?_)
  refine wpAny_ite_split (fun hab => absurd hab (by decide)) (fun _ => ?_)
  refine wpAny_bind (wpAny_mkInt ?_)
  refine wpAny_bind (wpAny_attempt (PyProof.Rows.getItem_tuple (j := i) hl (by omega) (by rw [sizeLine_eq] at hz; omega) (PySem.StrLaws.seqIndex_nonneg (by omega) (by omega)) hx ?_))
  dsimp only
  refine wpAny_bind (wpAny_field ho hd (x := rawInt (i : Int)) rfl ?_)
  show wpAny _ _ (setField (.ref it) 1 (rawInt ((i : Int) - 1)) >>= _) _ _ _
  refine wpAny_bind (wpAny_setField ho hd (by simp) ?_)
  refine wpAny_pure ⟨x, rfl, wpAny_pure (hQ _ _ ?_ (Heap.SameBut.update ..))⟩
  exact ⟨_, Heap.get?_update_self _ ho (Obj.isFreed_of_fields (Obj.data_mapFields hd _)), (Obj.cls_mapFields ..).trans hc, by
    rw [Obj.data_mapFields hd]; simp⟩
theorem pyNext_revT_end {it l : Addr} {Q : Option Value → Shared → Prop} (hh : A.handled = none) (hit : IsRevT s.heap it l (-1))
    (hQ : ∀ h', Heap.ExtBut it s.heap h' → Q none { s with heap := h' }) : wpAny (model prog w) A (pyNext (.ref it)) Q E s := by
  obtain ⟨o, ho, hc, hd⟩ := id hit
  unfold pyNext
  refine wpAny_bind (wpAny_attempt (wpAny_callSpecial?_slot (name := Str.ofString "__next__") hit.typeIs FR.slot_rev_next
    (wpAny_call_entry FR.slot_rev_next hit.typeIs FR.entry_rev_next ?_ (FR.args_rev_next_1 _))))
  unfold Builtin.«reversed.__next__»
  refine wpAny_bind (wpAny_of_eq (a := (Value.ref it, [])) rfl ?_)
  try dsimp only
  refine wpAny_bind (wpAny_field ho hd (x := .ref l) rfl ?_)
  refine wpAny_bind (wpAny_field ho hd (x := rawInt (-1)) rfl ?_)
  show wpAny _ _ (if (-1 : Int) < 0 then _ else _) _ _ s
  rw [if_pos (by decide)]
  refine wpAny_bind (wpAny_rule ?_)
  refine wpAny_bind ?_
  refine wpAny_bind (wpAny_setField ho hd (by simp) ?_)
  have ho2 := Heap.get?_update_self (Obj.mapFields fun x => x.setIfInBounds 1 (rawInt (-1))) ho (Obj.isFreed_of_fields (Obj.data_mapFields hd _))
  have hd2 : (Obj.mapFields (fun x => x.setIfInBounds 1 (rawInt (-1))) o).data = .fields (#[Value.ref l, rawInt (-1)].setIfInBounds 1 (rawInt (-1))) := Obj.data_mapFields hd _
  refine wpAny_setField ho2 hd2 (by simp) ?_
  refine wpAny_bind ?_
  unfold Builtin.SmallTypes.stopIteration
  refine wpAny_bind ?_
  simp only [newExc, newTuple]
  refine wpAny_bind (wpAny_newObj_type ?_ (by size_fits))
  refine wpAny_bind (m := firstArgMember _ _) (wpAny_of_eq (a := Value.none) (by first | rfl | (simp only [firstArgMember]; rfl)) ?_)
  refine wpAny_newObj_type ?_ (by size_fits)
  simp only [raiseNew]
  refine wpAny_bind (wpAny_handled ?_)
  first | rw [show A.in1.handled = none from hh] | rw [hh]
  refine wpAny_bind (wpAny_pure (wpAny_throw ?_))
  refine wpAny_bind (wpAny_isInstance (T := "StopIteration") (b := true) ⟨_, Heap.get?_push_size _ rfl, rfl⟩ isSubtype_stop ?_)
  refine wpAny_pure (hQ _ ?_)
  have e1 : Heap.ExtBut it s.heap ((s.heap.update it (Obj.mapFields fun x => x.setIfInBounds 1 (rawInt (-1)))).update it (Obj.mapFields fun x => x.setIfInBounds 0 Value.none)) := fun b o' hb q => by
    rw [Heap.get?_update_other _ _ (Ne.symm hb), Heap.get?_update_other _ _ (Ne.symm hb)]
    exact q
  exact (e1.push _).push _
theorem pyIter_revT {it l : Addr} {i : Int} {Q : Value → Shared → Prop} (hit : IsRevT s.heap it l i) (h : Q (.ref it) s) : wpAny (model prog w) A (pyIter (.ref it)) Q E s := by
  refine wpAny_pyIter_slot hit.typeIs FR.slot_rev_iter (wpAny_call_entry FR.slot_rev_iter hit.typeIs FR.entry_rev_iter ?_ (FR.args_rev_iter_1 _))
  show wpAny _ _ (ret (.ref it)) _ _ s
  exact wpAny_pure ⟨_, rfl, "reversed", _, hit.typeIs, FR.slot_rev_next.lookup, h⟩
open HT in
theorem getItem_tuple_all {t sl : Addr} {items : Array Value} {vl vu : Value} {lo hi : Option Int} {Q : Value → Shared → Prop} (ht : IsTup s.heap t items) (hs : s.heap.IsSliceOf sl vl vu .none) (pl : IsPart vl lo) (pu : IsPart vu hi)
    (hw : HT.sIx items.size 0 lo = 0 ∧ HT.sIx items.size items.size hi = items.size) (h : Q (.ref t) s) (hsz : items.size ≤ sizeLine) : wpAny (model prog w) A (getItem (.ref t) (.ref sl)) Q E s := by
  obtain ⟨os, hos, hcs, hds⟩ := id hs
  have hTs : s.TypeIs (.ref sl) "slice" := ⟨os, hos, hcs⟩
  unfold getItem
  try with_reducible refine wpAny_holding ?_
  first | refine wpAny_bind (wpAny_pure ?_) | skip
  refine wpAny_bind (wpAny_sequenceKey ht.typeIs (by decide) ?_)
  refine wpAny_bind (wpAny_callSpecial?_slot (name := Str.ofString "__getitem__") ht.typeIs PyProof.Rows.slot_tuple_getitem
    (wpAny_call_entry PyProof.Rows.slot_tuple_getitem ht.typeIs entry_tuple_getitem ?_ (args_tuple_getitem _ _)))
  show wpAny _ _ (Builtin.Tuple.tupleItemsOf (.ref t) >>= _) _ _ s
  refine wpAny_bind (tupleItemsOf_ ht ?_)
  refine wpAny_bind (wpAny_typeOf hTs ?_)
  rw [if_pos (by decide)]
  refine wpAny_bind (sliceApplied_gen hs pl pu ?_)
  have hyes : ((((HT.sIx items.size 0 lo : Nat) : Int) == 0 && (1 : Int) == 1 && (HT.sIx items.size items.size hi - HT.sIx items.size 0 lo) == items.size) = true) := by
    rw [hw.1, hw.2]; simp
  show wpAny _ _ (if (((HT.sIx items.size 0 lo : Nat) : Int) == 0 && (1 : Int) == 1 && (HT.sIx items.size items.size hi - HT.sIx items.size 0 lo) == items.size) = true then _ else _) _ _ s
  rw [if_pos hyes]
  refine wpAny_bind ?_
  refine wpAny_bind (wpAny_typeOf ht.typeIs ?_)
  refine wpAny_pure ?_
  refine wpAny_ite_split (fun _ => ?_) (fun hab => absurd (by decide) hab)
  exact wpAny_bind (wpAny_rule (wpAny_pure ⟨_, rfl, wpAny_pure h⟩))
end
end L2E
namespace L2
open PySem PySem.Spec PyProof.Rows
def Itw (K : PySem.W.Frag) (a : Addr) (xs : List V) : It := ⟨fun i H => i < xs.length ∧ SqT K H a xs, fun i H y H' => H' = H ∧ xs[xs.length - 1 - i]? = some y, fun i _ => xs.length ≤ i⟩
theorem turn_revT {P : Program} {w : World} {K : PySem.W.Frag} {tg : Expr} (a it : Addr) (xs : List V) : Turn P w K tg (Itw K a xs) [it] it (fun i h => i ≤ xs.length ∧ L2E.IsRevT h it a ((xs.length : Int) - 1 - (i : Nat))) where
  mem := by simp
  obj := fun i h st b hb => by
    have e : b = it := by simpa using hb
    subst e
    obtain ⟨_, o, e, c, d⟩ := st
    exact ⟨o, e, fun v z => by rw [d] at z; cases z⟩
  keep := fun i h h' st k => ⟨st.1, st.2.at fun o e => k it (by simp) o e⟩
  item := by
    intro X hP hw hK hc i pins s σ H E I hf st hg
    subst hP hw hK
    obtain ⟨hi, hq⟩ := hg
    obtain ⟨its, rv, p, hz⟩ := I.tuple hq
    have hl := rv.length
    have hx : xs[xs.length - 1 - i]? = some (xs[xs.length - 1 - i]'(by omega)) := List.getElem?_eq_getElem (by omega)
    obtain ⟨u, hu, ru⟩ := rv.get hx
    obtain ⟨f0, f1, f2, f3, f4, f5⟩ := hf it (by simp)
    have e1 : (xs.length : Int) - 1 - (i : Nat) = ((xs.length - 1 - i : Nat) : Int) := by omega
    have st2 := st.2
    rw [e1] at st2
    have hne : a ≠ it := fun z => by
      obtain ⟨o1, q1, c1, _⟩ := st2
      obtain ⟨o2, q2, c2, _⟩ := p
      rw [← z, q2] at q1
      cases q1
      rw [c2] at c1
      exact absurd c1 (by decide)
    refine L2E.pyNext_revT_item st2 p hne (x := u) (by simpa using hu) (by rw [List.size_toArray]; omega) fun h' tk st' sb => ?_
    have I1 : Inv X pins σ H { s with heap := h', toks := tk } := I.turned (t' := tk) (fun b o hb e => (sb.2 b hb).trans e) f0 f1 f3 f4 f5
    have e2 : ((xs.length - 1 - i : Nat) : Int) - 1 = (xs.length : Int) - 1 - ((i + 1 : Nat) : Int) := by omega
    rw [e2] at st'
    obtain ⟨o, e, c, d⟩ := id st'
    exact ⟨u, rfl, go_of (s := { s with heap := h', toks := tk }) e c d (by decide) ⟨_, H, I1, ru, ⟨rfl, hx⟩, ⟨hi, st'⟩, fun b hb => (hf b hb).1⟩⟩
  done := by
    intro X hP hw hK hc i pins s σ H E I hf st hg
    subst hP hw hK
    obtain ⟨f0, f1, f2, f3, f4, f5⟩ := hf it (by simp)
    have hg : xs.length ≤ i := hg
    have e1 : (xs.length : Int) - 1 - (i : Nat) = -1 := by have := st.1; omega
    have st2 := st.2
    rw [e1] at st2
    exact L2E.pyNext_revT_end (I.ok.hd hc) st2 fun h' eb => ⟨rfl, I.turned (t' := s.toks) (fun b o hb e => eb b o hb e) f0 f1 f3 f4 f5⟩
  self := fun _ _ _ _ _ st h => L2E.pyIter_revT st.2 h
section
variable {X : Cx}
def iRevT (K : PySem.W.Frag) (ta : TA) : TI := fun σ H R => ta σ H fun vs H1 => ∃ a xs, vs = [.ref a] ∧ SqT K H1 a xs ∧ R (Itw K a xs) H1
theorem pi_revT {a : Expr} {ta : TA} {p pos : Pos} {tg : Expr} (hg : Gl X "reversed") (hm : X.mg "reversed" = none) (ha : PA X [a] ta) (hs : starEach [a] X.env = [(false, eval a X.env)] := by rfl) :
    PI X tg (.Call (.Name "reversed" p) [a] [] pos) (iRevT X.K ta) := by
  intro pins s σ H R I h
  refine Call_ (ld_blt I hg hm bb_reversed (PyProof.Rows.callWith_type1 (thn (ha pos pins s σ H _ I h) fun us s1 ⟨vs, H1, I1, r1, q1⟩ => ?_) hs rfl))
  obtain ⟨l, xs, e, hq, q⟩ := q1
  subst e
  cases r1 with
  | cons r rr =>
    cases rr
    cases r
    obtain ⟨its, rv, ht, hz⟩ := I1.tuple hq
    have hl := rv.length
    refine L2E.call_reversed_tup ht (by rw [List.size_toArray]; omega) fun tk => ?_
    have st0 : L2E.IsRevT (s1.heap.push (L2E.revTObj l ((its.toArray.size : Int) - 1))) s1.heap.objs.size l ((xs.length : Int) - 1 - ((0 : Nat) : Int)) := by
      have e1 : (xs.length : Int) - 1 - ((0 : Nat) : Int) = (its.toArray.size : Int) - 1 := by rw [List.size_toArray]; omega
      rw [e1]
      exact ⟨_, Heap.get?_push_size _ rfl, rfl, rfl⟩
    refine L2E.pyIter_revT (s := { s1 with heap := s1.heap.push (L2E.revTObj l ((its.toArray.size : Int) - 1)), toks := tk }) st0 ?_
    refine ⟨s1.heap.objs.size, [s1.heap.objs.size], _, _, H1, rfl, I1.kept (t' := tk) fun b o e => Heap.get?_push_of_some _ e, turn_revT l _ xs, ⟨Nat.zero_le _, st0⟩, fun b hb => ?_, q⟩
    have e : b = s1.heap.objs.size := by simpa using hb
    subst e
    exact I1.fpOk (Nat.le_refl _) (I1.hok.fresh (Nat.le_refl _))
theorem comp_revT {K : PySem.W.Frag} {a : Addr} {xs : List V} {g : TG} {tt : TT} {te : TE} {D : Addr} {Q : VK} {σ₀ : St} {H₀ : Hp} (Pv : Nat → St → Hp → Prop) (h0 : Pv 0 σ₀ H₀) (hl : ∀ i σ H, i ≤ xs.length → Pv i σ H → SqT K H a xs)
    (hs : ∀ i x σ H, xs.reverse[i]? = some x → Pv i σ H → g x σ H fun σ3 H3 => tt σ3 H3 fun b H4 => if b = true then te σ3 H4 fun v H5 => ∃ ys, H5 D = some (.lst ys) ∧ ys.length < sizeLine ∧ Pv (i + 1) σ3 (upd H5 D (.lst (ys ++ [v]))) else Pv (i + 1) σ3 H4)
    (hd : ∀ σ H, Pv xs.length σ H → Q (.ref D) H) : CompW (Itw K a xs) g tt te D Q σ₀ H₀ := by
  refine ⟨fun i m σ H => m = xs.length - i ∧ i ≤ xs.length ∧ Pv i σ H, ⟨xs.length, by simp, Nat.zero_le _, h0⟩, ?_⟩
  rintro i m σ H ⟨rfl, hi, p⟩
  have q := hl i σ H hi p
  by_cases hlt : i < xs.length
  · refine .inr ⟨⟨hlt, q⟩, Pv (i + 1), fun σ' H' p' => ⟨xs.length - (i + 1), by omega, rfl, hlt, p'⟩, fun x H' y => ?_⟩
    obtain ⟨e, y⟩ := y
    subst e
    exact hs i x σ _ (by rw [List.getElem?_reverse hlt]; exact y) p
  · have e : i = xs.length := by omega
    subst e
    exact .inl ⟨Nat.le_refl _, hd σ H p⟩
def rCatA : R2 := fun x y H Q => ∃ a b xs ys, x = .ref a ∧ y = .ref b ∧ H a = some (.tup xs) ∧ H b = some (.tup ys) ∧ xs.length + ys.length ≤ sizeLine ∧ ∀ p H1, Same H H1 → H1 p = some (.tup (xs ++ ys)) → Q (.ref p) H1
theorem op_catA : OpR X (binaryOp .Add) rCatA := by
  intro pins s σ H x y v u Q I rx ry h
  obtain ⟨a, b, xs, ys, ex, ey, ha, hb, hz, q⟩ := h
  by_cases hy : ys = []
  · subst hy
    by_cases hx : xs = []
    · subst hx ex ey
      cases rx
      cases ry
      obtain ⟨its, r1, p1, _⟩ := I.tuple (SqT.of ha)
      obtain ⟨its2, r2, p2, _⟩ := I.tuple (SqT.of hb)
      obtain ⟨⟨cls, dd, data, sl⟩, ho, hc, n, hd⟩ := id p1
      obtain ⟨⟨cls2, dd2, data2, sl2⟩, ho2, hc2, n2, hd2⟩ := id p2
      simp only at hc hd hc2 hd2
      subst hc hd hc2 hd2
      have e : its = [] := r1.nil_iff.mpr rfl
      exact concat_meets ⟨_, ho, rfl⟩ ⟨_, ho2, rfl⟩ noFill_tuple_add seq_tuple_add PySem.F.slot_tuple_add PySem.F.entry_tuple_add (PySem.F.args_tuple_add_2 _ _)
        (L2E.tuple_addW0 a b its.toArray its2.toArray n n2 dd dd2 sl sl2 (by rw [e]; rfl)) ⟨ho, ho2, ⟨.ref b, H, I, rfl, q b H (Same.refl _) hb⟩⟩
    · exact op_catT pins s σ H x y v u Q I rx ry ⟨a, b, xs, [], ex, ey, SqT.of ha, SqT.of hb, hx, hz, fun _ => q a H (Same.refl _) (by rw [List.append_nil]; exact ha), fun z => absurd rfl z⟩
  · exact op_catT2 pins s σ H x y v u Q I rx ry ⟨a, b, xs, ys, ex, ey, SqT.of ha, SqT.of hb, hy, hz, fun z => q b H (Same.refl _) (by rw [z]; exact hb), fun _ p hp => q p _ (same_upd hp) upd_same⟩
def rSlA : V → Option Int → Option Int → Hp → VK → Prop := fun x lo hi H Q => ∃ a xs, x = .ref a ∧ H a = some (.tup xs) ∧ ∀ p H1, Same H H1 → H1 p = some (.tup (cutV xs lo hi)) → Q (.ref p) H1
theorem sl_tupA : SlR X rSlA := by
  intro pins s σ H x v vl vu lo hi sl Q I rx hs pl pu h
  obtain ⟨a, xs, rfl, hx, q⟩ := h
  by_cases hw : HT.sIx xs.length 0 lo = 0 ∧ HT.sIx xs.length xs.length hi = xs.length
  · cases rx
    obtain ⟨its, r, ht, hz⟩ := I.tuple (SqT.of hx)
    have hlen : its.toArray.size = xs.length := by rw [List.size_toArray]; exact r.length.symm
    refine ⟨"tuple", _, PyProof.Rows.slot_tuple_getitem.lookup, ht.typeIs, ?_⟩
    refine L2E.getItem_tuple_all ht hs pl pu (by rw [hlen]; exact hw) ?_ (by rw [hlen]; exact hz)
    refine ⟨.ref a, H, I, rfl, q a H (Same.refl _) ?_⟩
    have e : cutV xs lo hi = xs := by
      unfold cutV
      rw [hw.1, hw.2, List.drop_zero, Nat.sub_zero, List.take_length]
    rw [e]
    exact hx
  · exact sl_tup pins s σ H _ v vl vu lo hi sl Q I rx hs pl pu ⟨a, xs, rfl, SqT.of hx, hw, fun p hp => q p _ (same_upd hp) upd_same⟩
end
end L2

namespace Mir
open PySem L2
def TsT {α : Type} (f : α → List V) (H : Hp) (l : Addr) (xs : List α) : Prop :=
  ∃ ts : List Addr, H l = some (.lst (ts.map V.ref)) ∧ ts.length = xs.length ∧ ∀ (i : Nat) (t : Addr) (x : α), ts[i]? = some t → xs[i]? = some x → H t = some (.tup (f x))
section
variable {α : Type} {f : α → List V} {H H' : Hp} {l r b t d : Addr} {xs ys : List α} {x : α}
theorem TsT.same (h : TsT f H l xs) (s : Same H H') : TsT f H' l xs := by
  obtain ⟨ts, h1, h2, h3⟩ := h
  exact ⟨ts, s _ _ h1, h2, fun i t p e1 e2 => s _ _ (h3 i t p e1 e2)⟩
theorem TsT.nil (h : H l = some (.lst [])) : TsT f H l ([] : List α) := ⟨[], h, rfl, fun i t r e => by simp at e⟩
theorem TsT.len (h : TsT f H l xs) : ∃ vs, H l = some (.lst vs) ∧ vs.length = xs.length := by
  obtain ⟨ts, h1, h2, _⟩ := h
  exact ⟨_, h1, by rw [List.length_map]; exact h2⟩
def Tup (f : α → List V) (H : Hp) (ts : List Addr) (xs : List α) : Prop := ts.length = xs.length ∧ ∀ (i : Nat) (t : Addr) (x : α), ts[i]? = some t → xs[i]? = some x → H t = some (.tup (f x))
theorem TsT.tup (h : TsT f H l xs) : ∃ ts, H l = some (.lst (ts.map V.ref)) ∧ Tup f H ts xs := by
  obtain ⟨ts, h1, h2, h3⟩ := h
  exact ⟨ts, h1, h2, h3⟩
theorem Tup.tst {ts : List Addr} (h : Tup f H ts xs) (hl : H l = some (.lst (ts.map V.ref))) : TsT f H l xs := ⟨ts, hl, h.1, h.2⟩
theorem Tup.upd {ts : List Addr} {o : HO} {vs : List V} (h : Tup f H ts xs) (hl : H l = some (.lst vs)) : Tup f (upd H l o) ts xs := ⟨h.1, fun i t p e1 e2 => by
  have key := h.2 i t p e1 e2
  rw [upd_ne (fun e => by rw [e, hl] at key; cases key)]
  exact key⟩
theorem Tup.app {ts us : List Addr} (h : Tup f H ts xs) (k : Tup f H us ys) : Tup f H (ts ++ us) (xs ++ ys) := ⟨by rw [List.length_append, List.length_append, h.1, k.1], fun i t p e1 e2 => by
  by_cases hi : i < ts.length
  · rw [List.getElem?_append_left hi] at e1
    rw [List.getElem?_append_left (by have := h.1; omega)] at e2
    exact h.2 i t p e1 e2
  · rw [List.getElem?_append_right (by omega)] at e1
    rw [List.getElem?_append_right (by have := h.1; omega), ← h.1] at e2
    exact k.2 _ t p e1 e2⟩
theorem Tup.one (h : H t = some (.tup (f x))) : Tup f H [t] [x] := ⟨rfl, fun i u p e1 e2 => by
  cases i with
  | zero => cases e1; cases e2; exact h
  | succ i => cases e1⟩
theorem TsT.snoc (h : TsT f H l xs) (ht : H t = some (.tup (f x))) : ∃ vs, H l = some (.lst vs) ∧ vs.length = xs.length ∧ TsT f (L2.upd H l (.lst (vs ++ [.ref t]))) l (xs ++ [x]) := by
  obtain ⟨ts, h1, h2⟩ := h.tup
  refine ⟨_, h1, by rw [List.length_map]; exact h2.1, ?_⟩
  exact ((h2.app (Tup.one ht)).upd h1).tst (by rw [upd_same, List.map_append]; rfl)
end
def pr (p : Int × Int) : List V := [.int p.1, .int p.2]
def turnP (rs : List Int) (f l : Nat) : List Int := (List.range rs.length).map fun j => if f ≤ j ∧ j ≤ l then - rs.getD (f + l - j) 0 else rs.getD j 0
theorem turnP_len (rs : List Int) (f l : Nat) : (turnP rs f l).length = rs.length := by unfold turnP; rw [List.length_map, List.length_range]
theorem turnP_get {rs : List Int} {f l j : Nat} (h : j < rs.length) : (turnP rs f l)[j]? = some (if f ≤ j ∧ j ≤ l then - rs.getD (f + l - j) 0 else rs.getD j 0) := by
  unfold turnP
  rw [List.getElem?_map, List.getElem?_range h]
  rfl
theorem turnP_getD {rs : List Int} {f l j : Nat} (h : j < rs.length) : (turnP rs f l).getD j 0 = if f ≤ j ∧ j ≤ l then - rs.getD (f + l - j) 0 else rs.getD j 0 := by
  rw [List.getD, turnP_get h]
  rfl
theorem getD_get {rs : List Int} {j : Nat} (h : j < rs.length) : rs[j]? = some (rs.getD j 0) := by
  rw [List.getD, List.getElem?_eq_getElem h]
  rfl
theorem turnP_back {rs : List Int} {f l : Nat} (h1 : f ≤ l) (h2 : l < rs.length) : turnP (turnP rs f l) f l = rs := by
  refine List.ext_getElem? fun j => ?_
  by_cases hj : j < rs.length
  · rw [turnP_get (by rw [turnP_len]; exact hj), getD_get hj]
    congr 1
    by_cases c : f ≤ j ∧ j ≤ l
    · rw [if_pos c, turnP_getD (by omega), if_pos (by omega), Int.neg_neg]
      congr 1
      omega
    · rw [if_neg c, turnP_getD hj, if_neg c]
  · rw [List.getElem?_eq_none (by rw [turnP_len, turnP_len]; omega), List.getElem?_eq_none (by omega)]
theorem turnP_parts {rs : List Int} {f l : Nat} (h1 : f ≤ l) (h2 : l < rs.length) : rs.take f ++ ((rs.drop f).take (l + 1 - f)).reverse.map (fun x => -x) ++ rs.drop (l + 1) = turnP rs f l := by
  refine List.ext_getElem? fun j => ?_
  have hm : (((rs.drop f).take (l + 1 - f)).reverse.map (fun x => -x)).length = l + 1 - f := by rw [List.length_map, List.length_reverse, List.length_take, List.length_drop]; omega
  have ht : (rs.take f).length = f := by rw [List.length_take]; omega
  by_cases hj : j < rs.length
  · rw [turnP_get hj]
    by_cases c1 : j < f
    · rw [if_neg (by omega), List.append_assoc, List.getElem?_append_left (by omega), List.getElem?_take, if_pos c1, getD_get hj]
    · by_cases c2 : j ≤ l
      · rw [if_pos ⟨by omega, c2⟩, List.getElem?_append_left (by rw [List.length_append, hm, ht]; omega), List.getElem?_append_right (by omega), ht, List.getElem?_map,
          List.getElem?_reverse (by rw [List.length_take, List.length_drop]; omega), List.length_take, List.length_drop, List.getElem?_take, if_pos (by omega), List.getElem?_drop]
        have e : f + (min (l + 1 - f) (rs.length - f) - 1 - (j - f)) = f + l - j := by omega
        rw [e, getD_get (by omega)]
        rfl
      · rw [if_neg (by omega), List.getElem?_append_right (by rw [List.length_append, hm, ht]; omega), List.length_append, hm, ht, List.getElem?_drop]
        have e : l + 1 + (j - (f + (l + 1 - f))) = j := by omega
        rw [e, getD_get hj]
  · rw [List.getElem?_eq_none (l := turnP rs f l) (by rw [turnP_len]; omega), List.getElem?_eq_none]
    rw [List.length_append, List.length_append, hm, ht, List.length_drop]
    omega
theorem cut_mid {xs : List V} {f l : Nat} (h1 : f ≤ l) (h2 : l ≤ xs.length) : cutV xs (some (f : Int)) (some (l : Int)) = (xs.drop f).take (l - f) := by
  unfold cutV
  have e1 : HT.sIx xs.length 0 (some (f : Int)) = f := by unfold HT.sIx; simp only; rw [if_neg (by omega), Int.toNat_natCast]; omega
  have e2 : HT.sIx xs.length xs.length (some (l : Int)) = l := by unfold HT.sIx; simp only; rw [if_neg (by omega), Int.toNat_natCast]; omega
  rw [e1, e2]
def TurnOk (n : Nat) (p : Int × Int) : Prop := 0 ≤ p.1 ∧ p.1 ≤ p.2 ∧ p.2 < n
def allTurns (n k : Nat) : List (Int × Int) := (List.range k).flatMap fun f => (List.range (n - f)).map fun (i : Nat) => ((f : Int), (f : Int) + i)
theorem allTurns_succ (n k : Nat) : allTurns n (k + 1) = allTurns n k ++ (List.range (n - k)).map fun (i : Nat) => ((k : Int), (k : Int) + i) := by
  unfold allTurns
  rw [List.range_succ, List.flatMap_append]
  simp
theorem allTurns_len (n : Nat) : ∀ k, (allTurns n k).length ≤ n * k
  | 0 => by simp [allTurns]
  | k + 1 => by
    rw [allTurns_succ, List.length_append, List.length_map, List.length_range, Nat.mul_succ]
    have := allTurns_len n k
    omega
def Sm6 (i : Int) : Prop := i.natAbs.log2 < 1920
theorem Sm6.of {i : Int} (h1 : -(10 ^ 61 : Int) < i) (h2 : i < (10 ^ 61 : Int)) : Sm6 i := by
  unfold Sm6
  by_cases z : i.natAbs = 0
  · rw [z]; decide
  · refine (Nat.log2_lt z).mpr (Nat.lt_of_lt_of_le (m := 10 ^ 61) ?_ (by decide +kernel))
    omega
def spTurnAbout (C : Addr) : Sp := fun vs H Q E => ∃ (t : Addr) (rs : List Int) (f l : Int), vs = [.ref t, .int f, .int l] ∧ H t = some (.tup (iV rs)) ∧ rs.length ≤ 100 ∧ Sm6 f ∧ Sm6 l ∧
  (TurnOk rs.length (f, l) → ∀ (t' : Addr) (H' : Hp), Same H H' → H' t' = some (.tup (iV (turnP rs f.toNat l.toNat))) → Q (.ref t') H') ∧ (¬ TurnOk rs.length (f, l) → ∀ H' : Hp, Same H H' → E (.ref C) none H')
def spTurnsAll : Sp := fun vs H Q _ => ∃ n : Nat, vs = [.int n] ∧ n ≤ 40 ∧ ∀ (l : Addr) (H' : Hp), H l = none → Same H H' → TsT pr H' l (allTurns n n) → Q (.ref l) H'
end Mir


namespace Mir
open PySem L2
def idx (os : List Int) (a : Int) : Nat := (absL os).idxOf a
theorem from1_mem {n : Nat} {a : Int} : a ∈ from1 n ↔ 1 ≤ a ∧ a ≤ n := by
  unfold from1
  rw [List.mem_map]
  constructor
  · rintro ⟨i, hi, rfl⟩
    have := List.mem_range.mp hi
    omega
  · rintro ⟨h1, h2⟩
    exact ⟨(a - 1).toNat, List.mem_range.mpr (by omega), by omega⟩
theorem absL_get {os : List Int} {j : Nat} (h : j < os.length) : (absL os)[j]? = some (absI (os.getD j 0)) := by
  unfold absL
  rw [List.getElem?_map, getD_get h]
  rfl
theorem idx_at {os : List Int} (nd : (absL os).Nodup) {j : Nat} {a : Int} (h : (absL os)[j]? = some a) : idx os a = j := by
  have hj := (List.getElem?_eq_some_iff.mp h).1
  have ha : a ∈ absL os := List.mem_of_getElem? h
  have h1 : (absL os).idxOf a < (absL os).length := List.idxOf_lt_length_iff.mpr ha
  have h2 : (absL os)[(absL os).idxOf a] = a := List.getElem_idxOf h1
  have h3 : (absL os)[(absL os).idxOf a]? = (absL os)[j]? := by rw [List.getElem?_eq_getElem h1, h2, h]
  exact (List.getElem?_inj h1 nd).mp h3
theorem idx_lt {os : List Int} {a : Int} (h : a ∈ absL os) : idx os a < os.length ∧ absI (os.getD (idx os a) 0) = a := by
  have h1 : (absL os).idxOf a < (absL os).length := List.idxOf_lt_length_iff.mpr h
  have h2 : (absL os)[(absL os).idxOf a] = a := List.getElem_idxOf h1
  have h3 : idx os a < os.length := by rw [← absL_len os]; exact h1
  refine ⟨h3, ?_⟩
  have h4 := absL_get h3
  have h5 : (absL os)[idx os a]? = some a := by unfold idx; rw [List.getElem?_eq_getElem h1]; exact congrArg some h2
  rw [h4] at h5
  exact Option.some.inj h5
theorem absI_neg (x : Int) : absI (-x) = absI x := by unfold absI; split <;> split <;> omega
theorem from1_getD {n j : Nat} (h : j < n) : (from1 n).getD j 0 = (j : Int) + 1 := by
  unfold from1
  rw [List.getD, List.getElem?_map, List.getElem?_range h]
  show 1 + (j : Int) = _
  omega
theorem from1_abs (n : Nat) : absL (from1 n) = from1 n := by
  unfold absL
  conv => rhs; rw [← List.map_id (from1 n)]
  refine List.map_congr_left fun a ha => ?_
  have := from1_mem.mp ha
  unfold absI
  rw [if_neg (by omega)]
  rfl
theorem from1_fit {n : Nat} (h : n ≤ 40) : Fit (from1 n) := ⟨by rw [from1_len]; exact h, by rw [from1_abs, from1_len]⟩
end Mir

namespace Mir
theorem turnP_fit {rs : List Int} (h : Fit rs) {f l : Nat} (h1 : f ≤ l) (h2 : l < rs.length) : Fit (turnP rs f l) := by
  refine ⟨by rw [turnP_len]; exact h.small, ?_⟩
  rw [turnP_len]
  refine List.Perm.trans ?_ h.perm
  rw [← turnP_parts h1 h2]
  have e : rs = rs.take f ++ (rs.drop f).take (l + 1 - f) ++ rs.drop (l + 1) := by
    have e1 : rs.drop (l + 1) = (rs.drop f).drop (l + 1 - f) := by rw [List.drop_drop]; congr 1; omega
    rw [e1, List.append_assoc, List.take_append_drop, List.take_append_drop]
  have e2 : absL rs = absL (rs.take f) ++ absL ((rs.drop f).take (l + 1 - f)) ++ absL (rs.drop (l + 1)) := by
    conv => lhs; rw [e]
    unfold absL
    rw [List.map_append, List.map_append]
  rw [e2]
  unfold absL
  rw [List.map_append, List.map_append, List.map_map]
  refine List.Perm.append_right _ (List.Perm.append_left _ ?_)
  have e3 : ((rs.drop f).take (l + 1 - f)).reverse.map (absI ∘ fun x => -x) = (((rs.drop f).take (l + 1 - f)).map absI).reverse := by
    rw [← List.map_reverse]
    exact List.map_congr_left fun x _ => absI_neg x
  rw [e3]
  exact List.reverse_perm _
def frm (rs : List Int) : List Int := 0 :: (rs ++ [(rs.length : Int) + 1])
theorem frm_len (rs : List Int) : (frm rs).length = rs.length + 2 := by unfold frm; simp
theorem frm_zero (rs : List Int) : (frm rs).getD 0 0 = 0 := rfl
theorem frm_mid {rs : List Int} {j : Nat} (h : j < rs.length) : (frm rs).getD (j + 1) 0 = rs.getD j 0 := by
  unfold frm
  rw [List.getD, List.getD, List.getElem?_cons_succ, List.getElem?_append_left h]
theorem frm_last (rs : List Int) : (frm rs).getD (rs.length + 1) 0 = (rs.length : Int) + 1 := by
  unfold frm
  rw [List.getD, List.getElem?_cons_succ, List.getElem?_append_right (Nat.le_refl _), Nat.sub_self]
  rfl
def from0 (n : Nat) : List Int := (List.range n).map fun (i : Nat) => (i : Int)
theorem from0_len (n : Nat) : (from0 n).length = n := by unfold from0; rw [List.length_map, List.length_range]
theorem from0_mem {n : Nat} {a : Int} : a ∈ from0 n ↔ 0 ≤ a ∧ a < n := by
  unfold from0
  rw [List.mem_map]
  constructor
  · rintro ⟨i, hi, rfl⟩
    have := List.mem_range.mp hi
    omega
  · rintro ⟨h1, h2⟩
    exact ⟨a.toNat, List.mem_range.mpr (by omega), by omega⟩
theorem from0_nodup (n : Nat) : (from0 n).Nodup := by
  unfold from0
  rw [List.nodup_iff_pairwise_ne, List.pairwise_map]
  exact List.pairwise_lt_range.imp fun h => by omega
theorem from0_succ (n : Nat) : from0 (n + 1) = from0 n ++ [(n : Int)] := by unfold from0; rw [List.range_succ, List.map_append]; rfl
theorem from0_cons (n : Nat) : from0 (n + 1) = 0 :: from1 n := by
  unfold from0 from1
  rw [List.range_succ_eq_map, List.map_cons, List.map_map]
  congr 1
  refine List.map_congr_left fun i _ => ?_
  show ((i + 1 : Nat) : Int) = 1 + (i : Int)
  omega
theorem frm_perm {rs : List Int} (h : Fit rs) : (absL (frm rs)).Perm (from0 (rs.length + 2)) := by
  have e : absL (frm rs) = 0 :: (absL rs ++ [(rs.length : Int) + 1]) := by
    unfold absL frm
    rw [List.map_cons, List.map_append]
    have e1 : absI ((rs.length : Int) + 1) = (rs.length : Int) + 1 := by unfold absI; rw [if_neg (by omega)]
    show 0 :: (_ ++ [absI ((rs.length : Int) + 1)]) = _
    rw [e1]
  rw [e, from0_cons, from1_succ]
  exact (h.perm.append_right _).cons _
theorem frm_nodup {rs : List Int} (h : Fit rs) : (absL (frm rs)).Nodup := (frm_perm h).nodup_iff.mpr (from0_nodup _)
theorem frm_mem {rs : List Int} (h : Fit rs) {a : Int} : a ∈ absL (frm rs) ↔ 0 ≤ a ∧ a < rs.length + 2 := by rw [(frm_perm h).mem_iff, from0_mem]; omega
theorem frm_abs {rs : List Int} (h : Fit rs) {j : Nat} (hj : j < rs.length + 2) : 0 ≤ absI ((frm rs).getD j 0) ∧ absI ((frm rs).getD j 0) < rs.length + 2 :=
  (frm_mem h).mp (List.mem_of_getElem? (absL_get (by rw [frm_len]; exact hj)))
abbrev plF (rs : List Int) (k : Nat) : Nat := idx (frm rs) (k : Int)
theorem plF_lt {rs : List Int} (h : Fit rs) {k : Nat} (hk : k < rs.length + 2) : plF rs k < rs.length + 2 ∧ absI ((frm rs).getD (plF rs k) 0) = k := by
  have z := idx_lt (os := frm rs) (a := (k : Int)) ((frm_mem h).mpr (by omega))
  rw [frm_len] at z
  exact z
theorem plF_at {rs : List Int} (h : Fit rs) {j : Nat} (hj : j < rs.length + 2) {k : Nat} (e : absI ((frm rs).getD j 0) = k) : plF rs k = j :=
  idx_at (frm_nodup h) (by rw [absL_get (by rw [frm_len]; exact hj), e])
theorem plF_zero {rs : List Int} (h : Fit rs) : plF rs 0 = 0 := plF_at h (by omega) rfl
theorem plF_last {rs : List Int} (h : Fit rs) : plF rs (rs.length + 1) = rs.length + 1 := plF_at h (by omega) (by rw [frm_last]; unfold absI; rw [if_neg (by omega)]; omega)
def lvAt (fs : List Int) (p : Nat) : Int := if fs.getD p 0 < 0 then (p : Int) - 1 else p
def cmAt (fs : List Int) (p : Nat) : Int := if fs.getD p 0 < 0 then (p : Int) else (p : Int) - 1
def lvOf (rs : List Int) (k : Nat) : Int := lvAt (frm rs) (plF rs k)
def cmOf (rs : List Int) (k : Nat) : Int := cmAt (frm rs) (plF rs k)
def tieI (rs : List Int) (k : Nat) : Int × Int := (lvOf rs k, cmOf rs (k + 1))
def tieL (rs : List Int) : List (Int × Int) := (List.range (rs.length + 1)).map (tieI rs)
theorem tieL_len (rs : List Int) : (tieL rs).length = rs.length + 1 := by unfold tieL; rw [List.length_map, List.length_range]
theorem tieL_get {rs : List Int} {k : Nat} (h : k < rs.length + 1) : (tieL rs)[k]? = some (tieI rs k) := by unfold tieL; rw [List.getElem?_map, List.getElem?_range h]; rfl
theorem two_perm {α : Type} {f g p q : α → Int} : ∀ {l : List α}, (∀ k ∈ l, (f k = p k ∧ g k = q k) ∨ (f k = q k ∧ g k = p k)) → (l.map f ++ l.map g).Perm (l.map p ++ l.map q)
  | [], _ => List.Perm.refl _
  | a :: r, h => by
    have ih := two_perm (l := r) fun k hk => h k (List.mem_cons_of_mem _ hk)
    have e := h a (List.mem_cons_self ..)
    rw [List.perm_iff_count] at ih ⊢
    intro x
    have z := ih x
    simp only [List.map_cons, List.cons_append, List.count_cons, List.count_append] at z ⊢
    rcases e with ⟨e1, e2⟩ | ⟨e1, e2⟩ <;> rw [e1, e2] <;> omega
theorem met_perm {rs : List Int} (h : Fit rs) : ((tieL rs).map Prod.fst ++ (tieL rs).map Prod.snd).Perm (from0 (rs.length + 1) ++ from0 (rs.length + 1)) := by
  let n := rs.length
  have h1 : ((List.range (n + 2)).map (lvOf rs) ++ (List.range (n + 2)).map (cmOf rs)).Perm ((List.range (n + 2)).map (fun k => ((plF rs k : Nat) : Int)) ++ (List.range (n + 2)).map (fun k => ((plF rs k : Nat) : Int) - 1)) := two_perm fun k hk => by
    unfold lvOf cmOf lvAt cmAt
    by_cases c : (frm rs).getD (plF rs k) 0 < 0
    · rw [if_pos c, if_pos c]; exact .inr ⟨rfl, rfl⟩
    · rw [if_neg c, if_neg c]; exact .inl ⟨rfl, rfl⟩
  have hp : ((List.range (n + 2)).map (plF rs)).Perm (List.range (n + 2)) := by
    refine (List.perm_ext_iff_of_nodup ?_ List.nodup_range).mpr fun a => ?_
    · rw [List.nodup_iff_pairwise_ne, List.pairwise_map]
      refine List.Pairwise.imp_of_mem ?_ List.pairwise_lt_range
      intro a b ha hb hab e
      have za := (plF_lt h (List.mem_range.mp ha)).2
      have zb := (plF_lt h (List.mem_range.mp hb)).2
      rw [e, zb] at za
      omega
    · rw [List.mem_map]
      constructor
      · rintro ⟨k, hk, rfl⟩
        exact List.mem_range.mpr (plF_lt h (List.mem_range.mp hk)).1
      · intro ha
        have ha := List.mem_range.mp ha
        have z := frm_abs h ha
        exact ⟨(absI ((frm rs).getD a 0)).toNat, List.mem_range.mpr (by omega), plF_at h ha (by omega)⟩
  have h2 : ((List.range (n + 2)).map (fun k => ((plF rs k : Nat) : Int))).Perm (from0 (n + 2)) := by
    have z := hp.map (fun (i : Nat) => (i : Int))
    rw [List.map_map] at z
    exact z
  have h3 : ((List.range (n + 2)).map (fun k => ((plF rs k : Nat) : Int) - 1)).Perm ((from0 (n + 2)).map fun i => i - 1) := by
    have z := h2.map (fun i => i - 1)
    rw [List.map_map] at z
    exact z
  have h4 := h1.trans (h2.append h3)
  have e1 : (List.range (n + 2)).map (lvOf rs) = (tieL rs).map Prod.fst ++ [(n : Int) + 1] := by
    rw [List.range_succ, List.map_append]
    unfold tieL
    rw [List.map_map]
    show _ ++ [lvOf rs (n + 1)] = _
    have e : lvOf rs (n + 1) = (n : Int) + 1 := by
      unfold lvOf lvAt
      rw [show plF rs (n + 1) = n + 1 from plF_last h, frm_last, if_neg (by omega)]
      omega
    rw [e]
    rfl
  have e2 : (List.range (n + 2)).map (cmOf rs) = (-1) :: (tieL rs).map Prod.snd := by
    rw [List.range_succ_eq_map, List.map_cons, List.map_map]
    unfold tieL
    rw [List.map_map]
    have e : cmOf rs 0 = -1 := by
      unfold cmOf cmAt
      rw [plF_zero h, frm_zero]
      rfl
    rw [e]
    rfl
  have e3 : from0 (n + 2) = from0 (n + 1) ++ [(n : Int) + 1] := by rw [from0_succ]; rfl
  have e4 : (from0 (n + 2)).map (fun i => i - 1) = (-1) :: from0 (n + 1) := by
    rw [from0_cons, List.map_cons]
    unfold from1 from0
    rw [List.map_map]
    congr 1
    refine List.map_congr_left fun i _ => ?_
    show 1 + (i : Int) - 1 = i
    omega
  rw [e1, e2, e4, e3] at h4
  show List.Perm (_ ++ _) (from0 (n + 1) ++ from0 (n + 1))
  rw [List.perm_iff_count] at h4 ⊢
  intro x
  have z := h4 x
  simp only [List.count_append, List.count_cons, List.count_nil] at z ⊢
  omega
end Mir

set_option maxHeartbeats 2000000
namespace SrtR
open PySem PyProof.Rows
class RkP where
  G : Keyed → Prop
  nm : Keyed → Int
  kd : SortKind
variable [RkP]
end SrtR



namespace L2
open PySem PySem.Spec
structure CapOk (X : Cx) (scope : Scope) (f : Str × Addr × Nat) : Prop where
  cell : X.env.cells.lookup f.1 = some f.2.1
  at' : X.N[f.2.2]? = some f.1
  kd : X.env.kindOf f.1 = some .cell
  rl : (relabel scope X.env).names.lookup f.1 = some .cell
theorem lookup_mem {β : Type} : ∀ {l : List (Str × β)} {x : Str} {c : β}, l.lookup x = some c → (x, c) ∈ l
  | [], _, _, h => by cases h
  | (y, d) :: r, x, c, h => by
    rw [List.lookup_cons] at h
    split at h
    · rename_i hx
      cases h
      rw [eq_of_beq hx]
      exact List.mem_cons_self ..
    · exact List.mem_cons_of_mem _ (lookup_mem h)
theorem lookup_has {β : Type} : ∀ {l : List (Str × β)} {x : Str}, x ∈ l.map Prod.fst → ∃ c, l.lookup x = some c
  | [], _, h => by cases h
  | (y, d) :: r, x, h => by
    rw [List.lookup_cons]
    by_cases e : (x == y) = true
    · rw [e]; exact ⟨d, rfl⟩
    · have e' : (x == y) = false := by simpa using e
      rw [e']
      refine lookup_has ?_
      rcases List.mem_cons.mp h with h | h
      · exact absurd (by rw [h]; exact beq_self_eq_true _) e
      · exact h
theorem compOkN {X : Cx} {scope : Scope} {pre : List Str} (fs : List (Str × Addr × Nat)) (ys : List Str) (hys : fs.map Prod.fst = ys) (hkind : scope.kind = .function) (h : ∀ w ∈ scope.names, w.2 ≠ .cell ∧ (w.2 = .free → w.1 ∈ ys)) (hn : ∀ w ∈ scope.names, w.2 = .local → scope.names.lookup w.1 = some .local)
    (hcl : closureFor scope X.env = pure (fs.map fun f => (f.1, f.2.1))) (hf : ∀ f ∈ fs, CapOk X scope f) :
    CompOk X scope (fs.map fun f => (f.1, f.2.1)) (pre ++ fs.map Prod.fst) (List.replicate pre.length none ++ fs.map fun f => some f.2.2) where
  clos := hcl
  cell := fun w hw => (h w hw).1
  kind := hkind
  names := hn
  cls := fun x c' q => by
    obtain ⟨f, hm, e⟩ := List.mem_map.mp (lookup_mem q)
    cases e
    exact (hf f hm).cell
  has := fun x q => by
    have key : ∀ k, (relabel scope X.env).names.lookup x = some k → k = .cell ∨ k = .free → x ∈ fs.map Prod.fst := fun k q hk => by
      have hm := PySem.mem_of_lookup q
      obtain ⟨⟨n, k'⟩, hy, ey⟩ := List.mem_map.mp hm
      have h1 := h _ hy
      by_cases hf : k' = .free
      · have w := h1.2 hf
        rw [← hys] at w
        dsimp only at ey
        split at ey
        · cases ey; exact w
        · cases ey; exact w
      · have hb : (k' == NameKind.free) = false := by simpa using hf
        simp only [hb, Bool.false_and, Bool.false_eq_true, if_false, Prod.mk.injEq] at ey
        obtain ⟨_, rfl⟩ := ey
        rcases hk with hk | hk
        · exact absurd hk h1.1
        · exact absurd hk hf
    have hx : x ∈ fs.map Prod.fst := by
      rcases q with q | q
      · exact key _ q (.inl rfl)
      · exact key _ q (.inr rfl)
    refine lookup_has ?_
    rw [List.map_map]
    exact hx
  len := by simp
  src := fun i q x e1 e2 => by
    by_cases hi : i < pre.length
    · rw [List.getElem?_append_left (by simpa using hi), List.getElem?_replicate, if_pos hi] at e1
      cases e1
    · rw [List.getElem?_append_right (by simp; omega), List.length_replicate, List.getElem?_map] at e1
      rw [List.getElem?_append_right (by omega), List.getElem?_map] at e2
      obtain ⟨f, e3, e4⟩ := Option.map_eq_some_iff.mp e1
      rw [e3] at e2
      cases e4
      obtain rfl := Option.some.inj e2
      have z := hf f (List.mem_of_getElem? e3)
      exact ⟨z.at', .inl z.kd, .inl z.rl⟩
theorem caps_nil {X : Cx} {scope : Scope} : ∀ f ∈ ([] : List (Str × Addr × Nat)), CapOk X scope f := fun f h => by cases h
theorem caps_cons {X : Cx} {scope : Scope} {f : Str × Addr × Nat} {fs : List (Str × Addr × Nat)} (h : CapOk X scope f) (k : ∀ g ∈ fs, CapOk X scope g) : ∀ g ∈ f :: fs, CapOk X scope g := fun g hg => by
  rcases List.mem_cons.mp hg with rfl | hg
  · exact h
  · exact k g hg
end L2

namespace L2
theorem iteYes {b : Bool} {A B : Prop} (hb : b = true) (h : A) : if b = true then A else B := by rw [if_pos hb]; exact h
theorem iteNo {b : Bool} {A B : Prop} (hb : b = false) (h : B) : if b = true then A else B := by rw [if_neg (by rw [hb]; decide)]; exact h
end L2
namespace Mir
open PySem L2
def spFramed : Sp := fun vs H Q _ => ∃ (t : Addr) (rs : List Int), vs = [.ref t] ∧ H t = some (.tup (iV rs)) ∧ rs.length ≤ 100 ∧ ∀ (t' : Addr) (H' : Hp), Same H H' → H' t' = some (.tup (iV (frm rs))) → Q (.ref t') H'
def spTieGaps : Sp := fun vs H Q _ => ∃ (t : Addr) (rs : List Int), vs = [.ref t] ∧ H t = some (.tup (iV rs)) ∧ Fit rs ∧ ∀ (l : Addr) (H' : Hp), H l = none → Same H H' → TsT pr H' l (tieL rs) → Q (.ref l) H'
theorem iV_ap (a b : List Int) : iV (a ++ b) = iV a ++ iV b := by unfold iV; rw [List.map_append]
theorem put_amt {fs : List Int} (nd : (absL fs).Nodup) {kv : List (Key × V)} {i : Nat} {g : Nat → V} (hi : i < fs.length) (hk : ∀ j, j < i → valV kv (Sum.inl (absI (fs.getD j 0)) : Key) = some (g j)) :
    ∀ j, j < i + 1 → valV (putK kv (Sum.inl (absI (fs.getD i 0)) : Key) (g i)) (Sum.inl (absI (fs.getD j 0)) : Key) = some (g j) := fun j hj => by
  rw [valV_put]
  by_cases e : j = i
  · rw [e, if_pos rfl]
  · rw [if_neg, hk j (by omega)]
    intro z
    injection z with z
    have a1 := absL_get (os := fs) (j := j) (by omega)
    have a2 := absL_get (os := fs) (j := i) hi
    rw [z] at a1
    exact e ((List.getElem?_inj (by rw [absL_len]; omega) nd).mp (a1.trans a2.symm))
end Mir

namespace Mir
def mkS (m : Int → Int) (p : Int × Int) : Int → Int := fun x => if m x = m p.2 then m p.1 else m x
def mk (ps : List (Int × Int)) : Int → Int := ps.foldl mkS id
theorem mk_snoc (ps : List (Int × Int)) (p : Int × Int) : mk (ps ++ [p]) = mkS (mk ps) p := by unfold mk; rw [List.foldl_append]; rfl
def Sn (ps : List (Int × Int)) (x : Int) : Prop := ∃ p ∈ ps, x = p.1 ∨ x = p.2
theorem sn_snoc {ps : List (Int × Int)} {p : Int × Int} {x : Int} : Sn (ps ++ [p]) x ↔ Sn ps x ∨ x = p.1 ∨ x = p.2 := by
  unfold Sn
  constructor
  · rintro ⟨q, hq, h⟩
    rcases List.mem_append.mp hq with hq | hq
    · exact .inl ⟨q, hq, h⟩
    · rw [List.mem_singleton.mp hq] at h
      exact .inr h
  · rintro (⟨q, hq, h⟩ | h)
    · exact ⟨q, List.mem_append_left _ hq, h⟩
    · exact ⟨p, List.mem_append_right _ (List.mem_singleton.mpr rfl), h⟩
theorem list_snoc {α : Type} {P : List α → Prop} (h0 : P []) (h1 : ∀ l a, P l → P (l ++ [a])) : ∀ l, P l := fun l => by
  have : ∀ l : List α, P l.reverse := fun l => by
    induction l with
    | nil => exact h0
    | cons a r ih => rw [List.reverse_cons]; exact h1 _ _ ih
  have z := this l.reverse
  rwa [List.reverse_reverse] at z
theorem mk_fact (ps : List (Int × Int)) : (∀ x, ¬ Sn ps x → mk ps x = x) ∧ ∀ x, Sn ps x → Sn ps (mk ps x) := by
  refine list_snoc (P := fun ps => (∀ x, ¬ Sn ps x → mk ps x = x) ∧ ∀ x, Sn ps x → Sn ps (mk ps x)) ⟨fun _ _ => rfl, fun x ⟨p, h, _⟩ => by cases h⟩ ?_ ps
  intro ps p ⟨h1, h2⟩
  have a : ∀ x, x = p.1 ∨ x = p.2 → Sn (ps ++ [p]) (mk ps x) := fun x hx => by
    by_cases c : Sn ps x
    · exact sn_snoc.mpr (.inl (h2 x c))
    · rw [h1 x c]
      exact sn_snoc.mpr (.inr hx)
  rw [mk_snoc]
  constructor
  · intro x hx
    have c : ¬ Sn ps x := fun z => hx (sn_snoc.mpr (.inl z))
    unfold mkS
    rw [h1 x c, if_neg]
    intro e
    exact hx (e ▸ a p.2 (.inr rfl))
  · intro x hx
    unfold mkS
    split
    · exact a p.1 (.inl rfl)
    · rcases sn_snoc.mp hx with c | c
      · exact sn_snoc.mpr (.inl (h2 x c))
      · exact a x c
def addG (g : List (Int × List Int)) (k x : Int) : List (Int × List Int) :=
  if (g.any fun e => decide (e.1 = k)) = true then g.map (fun e => if e.1 = k then (e.1, e.2 ++ [x]) else e) else g ++ [(k, [x])]
def grp (c : Nat → Int) : Nat → List (Int × List Int)
  | 0 => []
  | n + 1 => addG (grp c n) (c n) n
theorem addG_keys (g : List (Int × List Int)) (k x : Int) : (addG g k x).map Prod.fst = if k ∈ g.map Prod.fst then g.map Prod.fst else g.map Prod.fst ++ [k] := by
  have e : (g.any fun e => decide (e.1 = k)) = true ↔ k ∈ g.map Prod.fst := by
    rw [List.any_eq_true, List.mem_map]
    exact ⟨fun ⟨e, h1, h2⟩ => ⟨e, h1, of_decide_eq_true h2⟩, fun ⟨e, h1, h2⟩ => ⟨e, h1, decide_eq_true h2⟩⟩
  unfold addG
  by_cases c : (g.any fun e => decide (e.1 = k)) = true
  · rw [if_pos c, if_pos (e.mp c), List.map_map]
    refine List.map_congr_left fun y _ => ?_
    show (if y.1 = k then (y.1, y.2 ++ [x]) else y).1 = y.1
    split <;> rfl
  · rw [if_neg c, if_neg (fun z => c (e.mpr z)), List.map_append]
    rfl
theorem grp_len (c : Nat → Int) : ∀ n, (grp c n).length ≤ n
  | 0 => Nat.le_refl _
  | n + 1 => by
    have := grp_len c n
    show (addG (grp c n) (c n) n).length ≤ n + 1
    unfold addG
    split
    · rw [List.length_map]; omega
    · rw [List.length_append]; show _ + 1 ≤ _; omega
structure GrpOk (g : List (Int × List Int)) (n : Nat) : Prop where
  ne : ∀ e ∈ g, e.2 ≠ []
  lt : ∀ e ∈ g, ∀ x ∈ e.2, 0 ≤ x ∧ x < n
  len : ∀ e ∈ g, e.2.length ≤ n
  asc : g.Pairwise fun e f => e.2.headD 0 < f.2.headD 0
theorem headD_app {l : List Int} (h : l ≠ []) (x : Int) : (l ++ [x]).headD 0 = l.headD 0 := by
  cases l with
  | nil => exact absurd rfl h
  | cons y r => rfl
theorem grp_ok (c : Nat → Int) : ∀ n, GrpOk (grp c n) n
  | 0 => ⟨fun e h => (nomatch h), fun e h => (nomatch h), fun e h => (nomatch h), List.Pairwise.nil⟩
  | n + 1 => by
    have ih := grp_ok c n
    show GrpOk (addG (grp c n) (c n) n) (n + 1)
    unfold addG
    split
    · have key : ∀ e ∈ (grp c n).map (fun e => if e.1 = c n then (e.1, e.2 ++ [(n : Int)]) else e), ∃ d ∈ grp c n, (e = d ∨ e = (d.1, d.2 ++ [(n : Int)])) ∧ e.2.headD 0 = d.2.headD 0 := fun e he => by
        obtain ⟨d, hd, rfl⟩ := List.mem_map.mp he
        refine ⟨d, hd, ?_⟩
        split
        · exact ⟨.inr rfl, headD_app (ih.ne d hd) _⟩
        · exact ⟨.inl rfl, rfl⟩
      refine ⟨fun e he => ?_, fun e he x hx => ?_, fun e he => ?_, ?_⟩
      · obtain ⟨d, hd, h | h, _⟩ := key e he
        · rw [h]; exact ih.ne d hd
        · rw [h]; simp
      · obtain ⟨d, hd, h | h, _⟩ := key e he
        · rw [h] at hx
          have := ih.lt d hd x hx
          omega
        · rw [h] at hx
          rcases List.mem_append.mp hx with hx | hx
          · have := ih.lt d hd x hx
            omega
          · rw [List.mem_singleton.mp hx]
            omega
      · obtain ⟨d, hd, h | h, _⟩ := key e he
        · rw [h]
          have := ih.len d hd
          omega
        · rw [h]
          have := ih.len d hd
          show (d.2 ++ [(n : Int)]).length ≤ _
          rw [List.length_append]
          show _ + 1 ≤ _
          omega
      · rw [List.pairwise_map]
        refine List.Pairwise.imp_of_mem ?_ ih.asc
        intro a b ha hb h
        have hh : ∀ d ∈ grp c n, (if d.1 = c n then (d.1, d.2 ++ [(n : Int)]) else d).2.headD 0 = d.2.headD 0 := fun d hd => by
          split
          · exact headD_app (ih.ne d hd) _
          · rfl
        rw [hh a ha, hh b hb]
        exact h
    · refine ⟨fun e he => ?_, fun e he x hx => ?_, fun e he => ?_, ?_⟩
      · rcases List.mem_append.mp he with he | he
        · exact ih.ne e he
        · rw [List.mem_singleton.mp he]; simp
      · rcases List.mem_append.mp he with he | he
        · have := ih.lt e he x hx
          omega
        · rw [List.mem_singleton.mp he] at hx
          rw [List.mem_singleton.mp hx]
          omega
      · rcases List.mem_append.mp he with he | he
        · have := ih.len e he
          omega
        · rw [List.mem_singleton.mp he]
          show 1 ≤ n + 1
          omega
      · rw [List.pairwise_append]
        refine ⟨ih.asc, List.pairwise_singleton .., fun a ha b hb => ?_⟩
        rw [List.mem_singleton.mp hb]
        show a.2.headD 0 < (n : Int)
        cases h : a.2 with
        | nil => exact absurd h (ih.ne a ha)
        | cons y r =>
          have := ih.lt a ha y (by rw [h]; exact List.mem_cons_self ..)
          show y < (n : Int)
          omega
theorem grp_keys (c : Nat → Int) : ∀ n k, k ∈ (grp c n).map Prod.fst ↔ ∃ i, i < n ∧ c i = k
  | 0, k => ⟨fun h => (nomatch h), fun ⟨i, h, _⟩ => by omega⟩
  | n + 1, k => by
    have ih := grp_keys c n k
    show k ∈ (addG (grp c n) (c n) n).map Prod.fst ↔ _
    rw [addG_keys]
    have cov : (∃ i, i < n + 1 ∧ c i = k) ↔ (∃ i, i < n ∧ c i = k) ∨ c n = k := by
      constructor
      · rintro ⟨i, h1, h2⟩
        by_cases e : i = n
        · exact .inr (e ▸ h2)
        · exact .inl ⟨i, by omega, h2⟩
      · rintro (⟨i, h1, h2⟩ | h)
        · exact ⟨i, by omega, h2⟩
        · exact ⟨n, by omega, h⟩
    rw [cov, ← ih]
    split
    · rename_i h
      constructor
      · exact .inl
      · rintro (h' | rfl)
        · exact h'
        · exact h
    · rw [List.mem_append, List.mem_singleton]
      constructor
      · rintro (h' | rfl)
        · exact .inl h'
        · exact .inr rfl
      · rintro (h' | rfl)
        · exact .inl h'
        · exact .inr rfl
theorem grp_nodup (c : Nat → Int) : ∀ n, ((grp c n).map Prod.fst).Nodup
  | 0 => List.nodup_nil
  | n + 1 => by
    have ih := grp_nodup c n
    show ((addG (grp c n) (c n) n).map Prod.fst).Nodup
    rw [addG_keys]
    split
    · exact ih
    · rename_i h
      rw [List.nodup_append]
      exact ⟨ih, by simp, fun a ha b hb e => h (by rw [← List.mem_singleton.mp hb, ← e]; exact ha)⟩
theorem grp_congr {c d : Nat → Int} : ∀ {n : Nat}, (∀ i, i < n → c i = d i) → grp c n = grp d n
  | 0, _ => rfl
  | n + 1, h => by
    show addG (grp c n) (c n) n = addG (grp d n) (d n) n
    rw [grp_congr fun i hi => h i (by omega), h n (by omega)]
theorem grp_alone {c : Nat → Int} : ∀ {n : Nat}, (∀ i j, i < n → j < n → c i = c j → i = j) → grp c n = (List.range n).map fun (i : Nat) => (c i, [(i : Int)])
  | 0, _ => rfl
  | n + 1, h => by
    show addG (grp c n) (c n) n = _
    have e : ¬ ((grp c n).any fun e => decide (e.1 = c n)) = true := fun z => by
      obtain ⟨e, h1, h2⟩ := List.any_eq_true.mp z
      obtain ⟨i, i1, i2⟩ := (grp_keys c n _).mp (List.mem_map.mpr ⟨e, h1, rfl⟩)
      have := h i n (by omega) (by omega) (i2.trans (of_decide_eq_true h2))
      omega
    unfold addG
    rw [if_neg e, grp_alone fun i j h1 h2 => h i j (by omega) (by omega), List.range_succ, List.map_append]
    rfl
def ringsT (rs : List Int) : List (List Int) := (grp (fun k => mk (tieL rs) (lvOf rs k)) (rs.length + 1)).map Prod.snd
theorem plain_ties (n : Nat) (h : n ≤ 40) : tieL (from1 n) = (List.range (n + 1)).map fun (i : Nat) => ((i : Int), (i : Int)) := by
  have fit := from1_fit h
  have fl := from1_len n
  unfold tieL
  rw [fl]
  refine List.map_congr_left fun k hk => ?_
  have hk := List.mem_range.mp hk
  have at' : ∀ j, j < n + 2 → (frm (from1 n)).getD j 0 = j := fun j hj => by
    cases j with
    | zero => rfl
    | succ j =>
      by_cases c : j < n
      · rw [frm_mid (by rw [fl]; exact c), from1_getD c]; omega
      · have : j = n := by omega
        have z := frm_last (from1 n)
        rw [fl] at z
        rw [this, z]; omega
  have pl : ∀ j, j < n + 2 → plF (from1 n) j = j := fun j hj => plF_at fit (by rw [fl]; exact hj) (by rw [at' j hj]; unfold absI; rw [if_neg (by omega)])
  unfold tieI lvOf cmOf lvAt cmAt
  rw [pl k (by omega), pl (k + 1) (by omega), at' k (by omega), at' (k + 1) (by omega), if_neg (by omega), if_neg (by omega)]
  show ((k : Int), ((k + 1 : Nat) : Int) - 1) = _
  congr 1
  omega
theorem mk_same {ps : List (Int × Int)} (h : ∀ p ∈ ps, p.1 = p.2) : mk ps = id := by
  refine list_snoc (P := fun ps => (∀ p ∈ ps, p.1 = p.2) → mk ps = id) (fun _ => rfl) ?_ ps h
  intro ps p ih h
  rw [mk_snoc, ih fun q hq => h q (List.mem_append_left _ hq)]
  have e := h p (List.mem_append_right _ (List.mem_singleton.mpr rfl))
  funext x
  show (if x = p.2 then p.1 else x) = x
  rw [e]
  split
  · rename_i h; exact h.symm
  · rfl
theorem rings_plain (n : Nat) (h : n ≤ 40) : ringsT (from1 n) = (List.range (n + 1)).map fun (i : Nat) => [(i : Int)] := by
  have fl := from1_len n
  unfold ringsT
  rw [plain_ties n h, mk_same (fun p hp => by obtain ⟨i, _, rfl⟩ := List.mem_map.mp hp; rfl), fl]
  have e : ∀ k, k < n + 1 → lvOf (from1 n) k = k := fun k hk => by
    have z := tieL_get (rs := from1 n) (k := k) (by rw [fl]; exact hk)
    rw [plain_ties n h, List.getElem?_map, List.getElem?_range hk] at z
    have z := Option.some.inj z
    have z := congrArg Prod.fst z
    exact z.symm
  rw [grp_alone fun i j h1 h2 h3 => by
    have h3 : lvOf (from1 n) i = lvOf (from1 n) j := h3
    rw [e i h1, e j h2] at h3
    omega, List.map_map]
  rfl
end Mir

namespace L2V
open PySem PySem.Spec PyProof.Rows
section
variable {prog : Program} {w : World} {A : Around} {E : Value → Shared → Prop} {s : Shared} {R : Result → Shared → Prop}
theorem meets_vals (d : Addr) (hd : (d == sysModules) = false) : MeetsIn prog w (Builtin.«dict.values» ⟨[.ref d], []⟩) (fun _ R s => s.TypeIs (.ref d) "dict" ∧ R (.ok (.ret (.ref s.heap.objs.size))) { s with heap := s.heap.push { cls := .type "dict_values", data := .fields #[.ref d] } }) :=
  .of_wp fun A R s ⟨hm, h⟩ => by
    refine wpAny_bind ?_; unfold Builtin.Dict.noArgs; refine wpAny_bind (wpAny_notOrdered_dict hm ?_); show wpAny _ _ (pure d) _ _ s; refine wpAny_pure ?_
    show wpAny _ _ (Builtin.Dict.showsAll d >>= _) _ _ s; unfold Builtin.Dict.showsAll; rw [if_neg (by rw [hd]; exact Bool.false_ne_true)]
    exact wpAny_bind (wpAny_pure (wpAny_bind (wpAny_newObj_type (wpAny_pure ⟨_, rfl, h⟩))))
end
end L2V
namespace L2
open PySem PySem.Spec PyProof.Rows L2V
section
variable {X : Cx}
theorem paired_get {α β : Type} {F : α → β → Prop} : ∀ {l : List α} {m : List β} {i : Nat} {a : α} {b : β}, Paired F l m → l[i]? = some a → m[i]? = some b → F a b
  | _, _, 0, _, _, .cons h _, e1, e2 => by cases e1; cases e2; exact h
  | _, _, i + 1, _, _, .cons _ r, e1, e2 => paired_get r (i := i) (by simpa using e1) (by simpa using e2)
end
end L2

namespace L2
open PySem PySem.Spec PyProof.Rows PySem.W
section
variable {X : Cx} {pins : List (Addr × Obj)} {σ : St} {H : Hp} {s : Shared} {a : Addr} {kvs : List (Key × V)} {k : Key} {u r : Value} {A : Around} {E : Value → Shared → Prop}
theorem d_setdef {x : V} {Q : Value → Shared → Prop} (I : Inv X pins σ H s) (e : H a = some (.dK kvs)) (ry : RelV (kV k) u) (rv : RelV x r) (l : kvs.length < sizeLine)
    (h1 : ∀ y w' s', valV kvs k = some y → Inv X pins σ H s' → RelV y w' → Q w' s')
    (h2 : ∀ s', valV kvs k = none → Inv X pins σ (upd H a (.dK (putK kvs k x))) s' → Q r s') : wpAny (model X.prog X.w) A (call (.builtin "dict.setdefault") [.ref a, u, r]) Q E s := by
  obtain ⟨z, hd, vs, rel, dd⟩ := dk_of I.hok e
  refine call_meetsIn PySem.F.slot_dict_setdefault dd.typeIs PySem.F.entry_dict_setdefault (PySem.F.args_dict_setdefault_3 _ _ _) (kt_meets_setdefault (mixKind X.prog X.w) a (kV_is ry) hd r)
    ⟨vs, dd, by rw [← rel.length]; exact z, fun w' hw => ?_, fun hn h' dd' hs => h2 _ ?_ ?_⟩
  · cases q : valV kvs k with
    | none => have := rel.val k; rw [q, hw] at this; exact absurd this (fun z => nomatch z)
    | some y => have := rel.val k; rw [q, hw] at this; exact h1 y w' _ q (I.tok _) this
  · cases q : valV kvs k with
    | none => rfl
    | some y => have := rel.val k; rw [q, hn] at this; exact absurd this (fun z => nomatch z)
  · have he : ∃ q, h'.get? a = some q := let ⟨q, _, _, hq, _⟩ := dd'; ⟨q, hq⟩
    have hl : (putK kvs k x).length ≤ sizeLine := by have := length_putK kvs k x; omega
    exact d_write I (by rw [e]; exact True.intro) hs he (dk_new hl hd (rel.put k rv) dd')
end
def tDSet (td ty tx : TE) : TE := fun σ H Q => td σ H fun x H1 => ∃ a, x = .ref a ∧ IsD H1 a ∧ ty σ H1 fun y H2 => tx σ H2 fun z H3 => ∃ kvs k, H3 a = some (.dK kvs) ∧ y = kV k ∧ kvs.length < sizeLine ∧
  (∀ v, valV kvs k = some v → Q v H3) ∧ (valV kvs k = none → Q z (upd H3 a (.dK (putK kvs k z))))
section
variable {X : Cx} {o e f : Expr} {apos cpos : Pos} {td ty tx : TE}
theorem pe_dset (ho : PE X o td) (he : PE X e ty) (hf : PE X f tx) (m : M2 X o "setdefault" apos e f cpos) : PE X (.Call (.Attribute o "setdefault" apos) [e, f] [] cpos) (tDSet td ty tx) := by
  intro pins s σ H Q I h
  refine wpAny_Call_method m.base m.few m.line PySem.F.plainAttrs_dict PySem.F.slot_dict_setdefault PySem.F.type_dict_setdefault (thn (ho pins s σ H _ I h) fun u s1 ⟨x, H1, I1, rx, a, ex, d, q1⟩ => ?_)
  subst ex
  obtain rfl : u = Value.ref a := rx
  obtain ⟨t1, t2, _⟩ := isD_at I1 d
  refine ⟨t1, t2, ?_⟩
  rw [m.trees]
  refine Calls.callWith_builtin rfl (Calls.evalArgs_plain (Calls.spliced_cons (thn (he pins s1 σ H1 _ I1 q1) fun iv s2 ⟨y, H2, I2, ry, q2⟩ =>
    Calls.spliced_cons (thn (hf pins s2 σ H2 _ I2 q2) fun fv s3 ⟨z, H3, I3, rz, kvs, k, ea, ey, el, q3, q4⟩ => Calls.spliced_nil ?_))))
  subst ey
  exact d_setdef I3 ea ry rz el (fun y w' s4 hy I4 rw' => ⟨y, H3, I4, rw', q3 y hy⟩) fun s4 hn I4 => ⟨z, _, I4, rz, q4 hn⟩
end
section
variable {X : Cx}
theorem KV.getAt : ∀ {kvs : List (Key × V)} {vs : List (Key × Value)} {i : Nat} {a : Key × V} {b : Key × Value}, KV kvs vs → kvs[i]? = some a → vs[i]? = some b → a.1 = b.1 ∧ RelV a.2 b.2 := by
  intro kvs vs i a b h e1 e2
  unfold KV at h
  exact paired_get (F := fun (p : Key × V) (q : Key × Value) => p.1 = q.1 ∧ RelV p.2 q.2) h e1 e2
theorem key_rel {P : Program} {w : World} {k : Key} {v : Value} (h : (mixKind P w).is k v = true) : RelV (kV k) v := by
  cases k with
  | inl i => exact Value.isInt_shape h
  | inr x => exact Value.isStrOf_shape h
theorem call_list_dk (hc : X.calm = true) : CallR X (.type "list") (fun xs H Q => ∃ d kvs, xs = [.ref d] ∧ H d = some (.dK kvs) ∧ ∀ l, H l = none → Q (.ref l) (upd H l (.lst (kvs.map fun kv => kV kv.1)))) := by
  intro pins s σ H xs us Q I r h
  obtain ⟨d, kvs, rfl, hd, q⟩ := h
  obtain ⟨u, rfl, ru⟩ := r.one
  cases ru
  obtain ⟨z, lo, vs, rel, dd⟩ := dk_of I.hok hd
  obtain ⟨ep, hat⟩ := dd.dictAt
  have hlen : kvs.length = vs.length := rel.length
  refine kdl_call (kdl_dict (knd := mixKind X.prog X.w) (kvs := vs) (ep := ep) lo) (I.ok.hd hc) hat (by rw [← hlen]; exact z) fun h' tk acc' c' hk hS' hacc => ?_
  refine ⟨.ref _, _, I.laid (a := s.heap.objs.size) (o := .lst (kvs.map fun kv => kV kv.1)) (t' := tk) hk (Nat.le_refl _) ⟨by rw [List.length_map]; exact z, acc'.toList, c', ?_, by simpa using hS'⟩, rfl, q _ (I.hok.fresh (Nat.le_refl _))⟩
  refine vals_of_get (by rw [List.length_map, hlen]; exact (by simpa using hacc.1.symm)) fun i x v e6 e7 => ?_
  obtain ⟨k, y, e8, hk8⟩ := hacc.2 i v (by simpa using e7)
  rw [List.getElem?_map] at e6
  obtain ⟨kv, e9, rfl⟩ := Option.map_eq_some_iff.mp e6
  have := (KV.getAt rel e9 e8).1
  rw [this]
  exact key_rel hk8
end

section
variable {X : Cx} {pins : List (Addr × Obj)} {σ : St} {H : Hp} {s : Shared} {a : Addr} {u : HO}
theorem Inv.frost (I : Inv X pins σ H s) {kvs : List (Key × V)} (e : H a = some (.dK kvs)) : ∃ o, s.heap.get? a = some o ∧ Inv X pins σ (upd H a (.frz o (.dK kvs))) s := by
  have mu : Mut (H a) := by rw [e]; exact True.intro
  obtain ⟨z, lo, vs, rel, o, es, ep, h1, h2⟩ := dk_of I.hok e
  exact ⟨o, h1, I.write (x := a) (e := a) (t' := s.toks) mu (.inl rfl) (fun b q hb z => z) ⟨o, h1⟩ ⟨h1, z, lo, vs, rel, o, es, ep, h1, h2⟩⟩
def Itdv (d : Addr) (o : Obj) (kvs : List (Key × V)) : It :=
  ⟨fun i H => i < kvs.length ∧ H d = some (.frz o (.dK kvs)), fun i H x H' => H' = H ∧ (kvs.map (·.2))[i]? = some x, fun i H => kvs.length ≤ i ∧ H d = some (.frz o (.dK kvs))⟩
theorem turn_vals {P : Program} {w : World} {K : PySem.W.Frag} {tg : Expr} (d it : Addr) (o : Obj) (kvs : List (Key × V)) (ep : Nat) (hep : ∃ es, o.data = .dict es ep) : Turn P w K tg (Itdv d o kvs) [it] it (fun i h => i ≤ kvs.length ∧ h.IsValIter it d i kvs.length ep) where
  mem := by simp
  obj := fun i h st b hb => by
    have e : b = it := by simpa using hb
    subst e
    obtain ⟨_, o, e, c, d⟩ := st
    exact ⟨o, e, fun v z => by rw [d] at z; cases z⟩
  keep := fun i h h' st k => ⟨st.1, st.2.at fun o e => k it (by simp) o e⟩
  item := by
    intro X hP hw hK hc i pins s σ H E I hf st hg
    subst hP hw hK
    obtain ⟨hi, hd⟩ := hg
    obtain ⟨ho, z, lo, vs, rel, od, es, ep', h1, h2, h3, h4⟩ := (show ObjOk X.prog X.w H s.heap d (.frz o (.dK kvs)) from I.hok d _ hd)
    obtain ⟨f0, f1, f2, f3, f4, f5⟩ := hf it (by simp)
    have e1 : od = o := by rw [ho] at h1; exact (Option.some.inj h1).symm
    obtain ⟨es0, hep⟩ := hep
    have e2 : ep' = ep := by rw [e1, hep] at h3; cases h3; rfl
    subst e2
    have hat : s.heap.DictAt (mixKind X.prog X.w) d vs ep' := ⟨od, es, h1, h2, h3, h4⟩
    have hl : kvs.length = vs.length := rel.length
    have hx : vs[i]? = some (vs[i]'(by omega)) := List.getElem?_eq_getElem (by omega)
    have hx' : kvs[i]? = some (kvs[i]'hi) := List.getElem?_eq_getElem hi
    have st2 := st.2
    rw [hl] at st2
    refine wpAny_pyNext_values_item (k := (vs[i]'(by omega)).1) (v := (vs[i]'(by omega)).2) st2 hat hx fun h' st' sb => ?_
    have I1 : Inv X pins σ H { s with heap := h' } := I.turned (t' := s.toks) (fun b o hb e => (sb.2 b hb).trans e) f0 f1 f3 f4 f5
    rw [← hl] at st'
    obtain ⟨o', e, c, d'⟩ := id st'
    exact ⟨_, rfl, go_of (s := { s with heap := h' }) e c d' (by decide) ⟨(kvs[i]'hi).2, H, I1, (KV.getAt rel hx' hx).2, ⟨rfl, by rw [List.getElem?_map, hx']; rfl⟩, ⟨hi, st'⟩, fun b hb => (hf b hb).1⟩⟩
  done := by
    intro X hP hw hK hc i pins s σ H E I hf st hg
    subst hP hw hK
    obtain ⟨hi, hd⟩ := hg
    obtain ⟨ho, z, lo, vs, rel, od, es, ep', h1, h2, h3, h4⟩ := (show ObjOk X.prog X.w H s.heap d (.frz o (.dK kvs)) from I.hok d _ hd)
    obtain ⟨f0, f1, f2, f3, f4, f5⟩ := hf it (by simp)
    have e1 : od = o := by rw [ho] at h1; exact (Option.some.inj h1).symm
    obtain ⟨es0, hep⟩ := hep
    have e2 : ep' = ep := by rw [e1, hep] at h3; cases h3; rfl
    subst e2
    have hat : s.heap.DictAt (mixKind X.prog X.w) d vs ep' := ⟨od, es, h1, h2, h3, h4⟩
    have hl : kvs.length = vs.length := rel.length
    have st2 := st.2
    have e3 : i = vs.length := by have := st.1; omega
    rw [hl, e3] at st2
    exact wpAny_pyNext_values_end (I.ok.hd hc) st2 hat (by simp) fun h' eb => ⟨rfl, I.turned (t' := s.toks) (fun b o hb e => eb b o hb e) f0 f1 f3 f4 f5⟩
  self := fun _ _ _ _ _ st h => wpAny_pyIter_valiter st.2 h
end
section
variable {X : Cx}
def iVals (to : TE) : TI := fun σ H R => to σ H fun v H1 => ∃ d kvs, v = .ref d ∧ H1 d = some (.dK kvs) ∧ ∀ o, R (Itdv d o kvs) (upd H1 d (.frz o (.dK kvs)))
theorem pi_vals {o tg : Expr} {to : TE} {pos' ap : Pos} (ho : PE X o to) (hbase : attributeBase o "values" X.env (eval o X.env) = eval o X.env := by rfl) (hline : (ap.endLine == pos'.line) = true := by rfl) :
    PI X tg (.Call (.Attribute o "values" ap) [] [] pos') (iVals to) := by
  intro pins s σ H R I h
  refine wpAny_Call_method0_late hbase hline (thn (ho pins s σ H _ I h) fun v s1 ⟨x, H1, I1, r1, d, kvs, ex, hd, q⟩ => ?_)
  subst ex
  obtain ⟨h1, h2⟩ := tyV_is (T := "dict") I1 r1 (.inr (.inr (.inl ⟨rfl, .inl ⟨kvs, hd⟩⟩)))
  cases (show v = Value.ref d from r1)
  obtain ⟨ob, hob, I2⟩ := I1.frost hd
  obtain ⟨z, lo, vs, rel, dd⟩ := dk_of I1.hok hd
  obtain ⟨od, es, ep, g1, g2, g3, g4⟩ := id dd
  have e1 : od = ob := by rw [hob] at g1; exact (Option.some.inj g1).symm
  subst e1
  have hat : s1.heap.DictAt (mixKind X.prog X.w) d vs ep := ⟨od, es, g1, g2, g3, g4⟩
  have hl : kvs.length = vs.length := rel.length
  refine ⟨"dict", "dict.values", PySem.F.plainAttrs_dict, PySem.F.slot_dict_values, PySem.F.type_dict_values, h1, h2, Calls.callWith_builtin rfl (PySem.evalArgs_none ?_)⟩
  refine call_meetsIn PySem.F.slot_dict_values h1 PySem.F.entry_dict_values (PySem.F.args_dict_values_1 _) (L2V.meets_vals d lo) ⟨h1, ?_⟩
  have hv : (s1.heap.push { cls := .type "dict_values", data := .fields #[.ref d] }).IsValuesView s1.heap.objs.size d := ⟨_, Heap.get?_push_size _ rfl, rfl, rfl⟩
  refine wpAny_pyIter_values (s := { s1 with heap := s1.heap.push { cls := .type "dict_values", data := .fields #[.ref d] } }) hv (hat.push _) ?_
  have I3 : Inv X pins σ (upd H1 d (.frz od (.dK kvs))) { s1 with heap := s1.heap.push { cls := .type "dict_values", data := .fields #[.ref d] } } := I2.kept (t' := s1.toks) fun b o e => Heap.get?_push_of_some _ e
  refine ⟨_, [_], _, _, _, rfl, I3.kept (t' := s1.toks) fun b o e => Heap.get?_push_of_some _ e, turn_vals d _ od kvs ep ⟨es, g3⟩, ⟨Nat.zero_le _, ?_⟩, fun b hb => ?_, q od⟩
  · rw [hl]
    exact ⟨_, Heap.get?_push_size _ rfl, rfl, rfl⟩
  · have e := List.mem_singleton.mp hb
    subst e
    exact I3.fpOk (Nat.le_refl _) (I3.hok.fresh (Nat.le_refl _))
theorem comp_vals {d : Addr} {o : Obj} {kvs : List (Key × V)} {g : TG} {tt : TT} {te : TE} {D : Addr} {Q : VK} {σ₀ : St} {H₀ : Hp} (Pv : Nat → St → Hp → Prop) (h0 : Pv 0 σ₀ H₀) (hl : ∀ i σ H, i ≤ kvs.length → Pv i σ H → H d = some (.frz o (.dK kvs)))
    (hs : ∀ i x σ H, (kvs.map (·.2))[i]? = some x → Pv i σ H → g x σ H fun σ3 H3 => tt σ3 H3 fun b H4 => if b = true then te σ3 H4 fun v H5 => ∃ ys, H5 D = some (.lst ys) ∧ ys.length < sizeLine ∧ Pv (i + 1) σ3 (upd H5 D (.lst (ys ++ [v]))) else Pv (i + 1) σ3 H4)
    (hd : ∀ σ H, Pv kvs.length σ H → Q (.ref D) H) : CompW (Itdv d o kvs) g tt te D Q σ₀ H₀ := by
  refine ⟨fun i m σ H => m = kvs.length - i ∧ i ≤ kvs.length ∧ Pv i σ H, ⟨kvs.length, by simp, Nat.zero_le _, h0⟩, ?_⟩
  rintro i m σ H ⟨rfl, hi, p⟩
  have q := hl i σ H hi p
  by_cases hlt : i < kvs.length
  · refine .inr ⟨⟨hlt, q⟩, Pv (i + 1), fun σ' H' p' => ⟨kvs.length - (i + 1), by omega, rfl, hlt, p'⟩, fun x H' y => ?_⟩
    obtain ⟨e, y⟩ := y
    subst e
    exact hs i x σ _ y p
  · have e : i = kvs.length := by omega
    subst e
    exact .inl ⟨⟨Nat.le_refl _, q⟩, hd σ H p⟩
end
end L2





set_option maxHeartbeats 4000000










namespace Mir
open PySem L2
def hung (ps : List (Int × Int)) : List (List Int) := (grp (fun k => mk ps (ps.getD k (0, 0)).1) ps.length).map Prod.snd
theorem rings_hung (rs : List Int) : ringsT rs = hung (tieL rs) := by
  unfold ringsT hung
  rw [tieL_len, grp_congr]
  intro i hi
  have z := tieL_get hi
  have e : (tieL rs).getD i (0, 0) = tieI rs i := by rw [List.getD_eq_getElem?_getD, z]; rfl
  rw [e]
  rfl
def spHung : Sp := fun vs H Q _ => ∃ (l : Addr) (ps : List (Int × Int)), vs = [.ref l] ∧ TsT pr H l ps ∧ ps.length ≤ 100 ∧ ∀ (r : Addr) (H' : Hp), H r = none → Same H H' → TsT iV H' r (hung ps) → Q (.ref r) H'
def spTieRings : Sp := fun vs H Q _ => ∃ (t : Addr) (rs : List Int), vs = [.ref t] ∧ H t = some (.tup (iV rs)) ∧ Fit rs ∧ ∀ (l : Addr) (H' : Hp), H l = none → Same H H' → TsT iV H' l (ringsT rs) → Q (.ref l) H'
section
variable {κ : Type} [DecidableEq κ]
theorem keys_put {kvs : List (κ × V)} {k : κ} {v : V} (h : (valV kvs k).isSome = true) : (putK kvs k v).map Prod.fst = kvs.map Prod.fst := by
  unfold putK
  rw [if_pos (by rw [valV_any]; exact h), List.map_map]
  refine List.map_congr_left fun y _ => ?_
  show (if y.1 = k then (y.1, v) else y).1 = y.1
  split <;> rfl
theorem len_put {kvs : List (κ × V)} {k : κ} {v : V} (h : (valV kvs k).isSome = true) : (putK kvs k v).length = kvs.length := by
  have := congrArg List.length (keys_put (v := v) h)
  rwa [List.length_map, List.length_map] at this
end
structure GD (kvs : List (Key × V)) (m : Int → Int) (S : Int → Prop) : Prop where
  yes : ∀ x, S x → valV kvs (Sum.inl x : Key) = some (.int (m x))
  no : ∀ x, ¬ S x → valV kvs (Sum.inl x : Key) = none
  keys : ∀ k ∈ kvs.map Prod.fst, ∃ x : Int, k = Sum.inl x ∧ S x
section
variable {kvs : List (Key × V)} {m m' : Int → Int} {S T : Int → Prop} {x : Int}
theorem GD.nil (m : Int → Int) (h : ∀ x, ¬ S x) : GD [] m S := ⟨fun x hx => absurd hx (h x), fun _ _ => rfl, fun k hk => absurd hk List.not_mem_nil⟩
theorem GD.congr (g : GD kvs m S) (e : ∀ x, S x → m x = m' x) : GD kvs m' S := ⟨fun x hx => by rw [g.yes x hx, e x hx], g.no, g.keys⟩
theorem GD.imp (g : GD kvs m S) (e : ∀ x, S x ↔ T x) : GD kvs m T := ⟨fun x hx => g.yes x ((e x).mpr hx), fun x hx => g.no x fun z => hx ((e x).mp z), fun k hk => let ⟨x, h1, h2⟩ := g.keys k hk; ⟨x, h1, (e x).mp h2⟩⟩
theorem GD.new (g : GD kvs m S) (hx : ¬ S x) {v : Int} (hv : v = m x) : GD (putK kvs (Sum.inl x : Key) (.int v)) m (fun y => S y ∨ y = x) := by
  have hn := g.no x hx
  refine ⟨fun y hy => ?_, fun y hy => ?_, fun k hk => ?_⟩
  · rw [valV_put]
    by_cases c : y = x
    · rw [c, if_pos rfl, hv]
    · rw [if_neg fun z => c (by injection z), g.yes y (hy.resolve_right c)]
  · rw [valV_put, if_neg fun z => hy (.inr (by injection z)), g.no y fun z => hy (.inl z)]
  · rw [putK_new _ hn, List.map_append] at hk
    rcases List.mem_append.mp hk with hk | hk
    · obtain ⟨y, h1, h2⟩ := g.keys k hk
      exact ⟨y, h1, .inl h2⟩
    · exact ⟨x, List.mem_singleton.mp hk, .inr rfl⟩
theorem GD.put (g : GD kvs m S) (hx : S x) (v : Int) : GD (putK kvs (Sum.inl x : Key) (.int v)) (fun y => if y = x then v else m y) S := by
  refine ⟨fun y hy => ?_, fun y hy => ?_, fun k hk => ?_⟩
  · rw [valV_put]
    by_cases c : y = x
    · rw [c, if_pos rfl, if_pos rfl]
    · rw [if_neg fun z => c (by injection z), if_neg c, g.yes y hy]
  · rw [valV_put, if_neg fun z => hy (by injection z with z; rw [z]; exact hx), g.no y hy]
  · rw [keys_put (by rw [g.yes x hx]; rfl)] at hk
    exact g.keys k hk
end
theorem dset_one {Q : VK} {H : Hp} {d : Addr} {kvs : List (Key × V)} {m : Int → Int} {S : Int → Prop} {x : Int} (hd : H d = some (.dK kvs)) (g : GD kvs m S) (hm : ¬ S x → m x = x)
    (q : ∀ (kvs' : List (Key × V)) (H' : Hp), kvs'.length ≤ kvs.length + 1 → H' d = some (.dK kvs') → (∀ b, b ≠ d → H' b = H b) → GD kvs' m (fun y => S y ∨ y = x) → Q (.int (m x)) H') :
    (∀ v, valV kvs (Sum.inl x : Key) = some v → Q v H) ∧ (valV kvs (Sum.inl x : Key) = none → Q (.int x) (upd H d (.dK (putK kvs (Sum.inl x : Key) (.int x))))) := by
  constructor
  · intro v hv
    have hS : S x := Classical.byContradiction fun z => by rw [g.no x z] at hv; cases hv
    rw [g.yes x hS] at hv
    cases hv
    exact q kvs H (Nat.le_succ _) hd (fun _ _ => rfl) (g.imp fun y => ⟨.inl, fun z => z.elim id fun e => e ▸ hS⟩)
  · intro hv
    have hS : ¬ S x := fun z => by rw [g.yes x z] at hv; cases hv
    have e := hm hS
    have z := q (putK kvs (Sum.inl x : Key) (.int x)) (upd H d (.dK (putK kvs (Sum.inl x : Key) (.int x)))) (length_putK ..) upd_same (fun b hb => upd_ne hb) (g.new hS e.symm)
    rwa [e] at z
theorem Same.but {H0 H H' : Hp} {d : Addr} (s : Same H0 H) (hd : H0 d = none) (o : ∀ b, b ≠ d → H' b = H b) : Same H0 H' := fun b u e => by
  rw [o b (ne_of_none e hd)]
  exact s b u e
open Classical in
noncomputable def chg (ks : List Key) (m : Int → Int) (a b x : Int) : Int := if (Sum.inl x : Key) ∈ ks ∧ m x = b then a else m x
theorem chg_nil {m : Int → Int} {a b x : Int} : chg [] m a b x = m x := if_neg fun z => absurd z.1 List.not_mem_nil
theorem chg_all {ks : List Key} {m : Int → Int} {a b x : Int} (h : (Sum.inl x : Key) ∈ ks) : chg ks m a b x = if m x = b then a else m x := by
  unfold chg
  by_cases c : m x = b
  · rw [if_pos ⟨h, c⟩, if_pos c]
  · rw [if_neg fun z => c z.2, if_neg c]
theorem chg_snoc {ks : List Key} {m : Int → Int} {a b x y : Int} : chg (ks ++ [Sum.inl x]) m a b y = if y = x ∧ m y = b then a else chg ks m a b y := by
  unfold chg
  by_cases c : y = x
  · subst c
    by_cases c2 : m y = b
    · rw [if_pos ⟨List.mem_append_right _ (List.mem_singleton.mpr rfl), c2⟩, if_pos ⟨rfl, c2⟩]
    · rw [if_neg fun z => c2 z.2, if_neg fun z => c2 z.2, if_neg fun z => c2 z.2]
  · have e : ((Sum.inl y : Key) ∈ ks ++ [(Sum.inl x : Key)]) ↔ (Sum.inl y : Key) ∈ ks := by
      rw [List.mem_append, List.mem_singleton]
      exact ⟨fun z => z.resolve_right fun z => c (by injection z), .inl⟩
    rw [if_neg (c := y = x ∧ m y = b) fun z => c z.1]
    by_cases d : (Sum.inl y : Key) ∈ ks ∧ m y = b
    · rw [if_pos d, if_pos ⟨e.mpr d.1, d.2⟩]
    · rw [if_neg d, if_neg fun z => d ⟨e.mp z.1, z.2⟩]
theorem chg_yes {ks : List Key} {m : Int → Int} {a b x y : Int} (h : chg ks m a b x = b) : (if y = x then a else chg ks m a b y) = chg (ks ++ [Sum.inl x]) m a b y := by
  rw [chg_snoc]
  by_cases c : y = x
  · subst c
    rw [if_pos rfl]
    by_cases c2 : m y = b
    · rw [if_pos ⟨rfl, c2⟩]
    · have e : chg ks m a b y = m y := if_neg fun z => c2 z.2
      rw [e] at h
      exact absurd h c2
  · rw [if_neg c, if_neg fun z => c z.1]
theorem chg_no {ks : List Key} {m : Int → Int} {a b x y : Int} (h : ¬ chg ks m a b x = b) : chg ks m a b y = chg (ks ++ [Sum.inl x]) m a b y := by
  rw [chg_snoc]
  by_cases c : y = x ∧ m y = b
  · obtain ⟨c1, c2⟩ := c
    subst c1
    rw [if_pos ⟨rfl, c2⟩]
    by_cases c3 : (Sum.inl y : Key) ∈ ks
    · rw [chg_all c3, if_pos c2]
    · have e : chg ks m a b y = m y := if_neg fun z => c3 z.1
      rw [e] at h
      exact absurd c2 h
  · rw [if_neg c]
structure FG (H0 H : Hp) (d : Addr) (kv : List (Key × V)) (g : List (Int × List Int)) (as : List Addr) : Prop where
  at' : H d = some (.dK kv)
  ks : kv.map Prod.fst = g.map fun e => (Sum.inl e.1 : Key)
  vs : kv.map Prod.snd = as.map V.ref
  nd : as.Nodup
  lst : ∀ (j : Nat) (a : Addr) (e : Int × List Int), as[j]? = some a → g[j]? = some e → H a = some (.lst (iV e.2))
  new : ∀ a ∈ as, H0 a = none
section
variable {H0 H H' : Hp} {d : Addr} {kv : List (Key × V)} {g : List (Int × List Int)} {as : List Addr}
theorem FG.len (h : FG H0 H d kv g as) : kv.length = g.length ∧ as.length = g.length := by
  have h1 := congrArg List.length h.ks
  have h2 := congrArg List.length h.vs
  rw [List.length_map, List.length_map] at h1 h2
  exact ⟨h1, by omega⟩
theorem FG.same (h : FG H0 H d kv g as) (s : Same H H') : FG H0 H' d kv g as := ⟨s _ _ h.at', h.ks, h.vs, h.nd, fun j a e h1 h2 => s _ _ (h.lst j a e h1 h2), h.new⟩
theorem val_at {κ : Type} [DecidableEq κ] : ∀ {kv : List (κ × V)} {j : Nat} {k : κ} {v : V}, (kv.map Prod.fst).Nodup → kv[j]? = some (k, v) → valV kv k = some v
  | [], j, k, v, _, h => by simp at h
  | p :: r, 0, k, v, _, h => by
    rw [List.getElem?_cons_zero] at h
    rw [Option.some.inj h]
    exact valV_pos rfl
  | p :: r, j + 1, k, v, nd, h => by
    rw [List.getElem?_cons_succ] at h
    rw [List.map_cons, List.nodup_cons] at nd
    rw [valV_neg fun z => nd.1 (by rw [z]; exact List.mem_map.mpr ⟨_, List.mem_of_getElem? h, rfl⟩)]
    exact val_at nd.2 h
theorem FG.key (h : FG H0 H d kv g as) {j : Nat} {a : Addr} {e : Int × List Int} (h1 : as[j]? = some a) (h2 : g[j]? = some e) : kv[j]? = some ((Sum.inl e.1 : Key), V.ref a) := by
  have k1 := congrArg (·[j]?) h.ks
  have k2 := congrArg (·[j]?) h.vs
  simp only [List.getElem?_map, h1, h2, Option.map_some] at k1 k2
  obtain ⟨p, e1, e2⟩ := Option.map_eq_some_iff.mp k1
  obtain ⟨p', e3, e4⟩ := Option.map_eq_some_iff.mp k2
  rw [e1] at e3
  cases e3
  rw [e1, ← e2, ← e4]
theorem FG.old (h : FG H0 H d kv g as) (hn : (g.map Prod.fst).Nodup) {k x : Int} {v : V} (hv : valV kv (Sum.inl k : Key) = some v) :
    ∃ a L, v = .ref a ∧ H a = some (.lst (iV L)) ∧ (∃ e ∈ g, e.2 = L) ∧ FG H0 (upd H a (.lst (iV L ++ [.int x]))) d kv (addG g k x) as := by
  have hm := valV_in hv
  rw [h.ks] at hm
  obtain ⟨e, he, ek⟩ := List.mem_map.mp hm
  have ek : e.1 = k := by injection ek
  obtain ⟨j, hj⟩ := List.getElem?_of_mem he
  have hl := h.len
  have hj2 : j < as.length := by rw [hl.2]; exact (List.getElem?_eq_some_iff.mp hj).1
  have ha : as[j]? = some as[j] := List.getElem?_eq_getElem hj2
  have nk : (kv.map Prod.fst).Nodup := by
    rw [h.ks, show (g.map fun e => (Sum.inl e.1 : Key)) = (g.map Prod.fst).map Sum.inl by rw [List.map_map]; rfl]
    exact List.pairwise_map.mpr (List.Pairwise.imp (fun z e => z (by injection e)) hn)
  have z := val_at nk (h.key ha hj)
  rw [ek, hv] at z
  obtain rfl := Option.some.inj z
  have hL := h.lst j _ e ha hj
  refine ⟨as[j], e.2, rfl, hL, ⟨e, he, rfl⟩, ?_⟩
  have hd : d ≠ as[j] := fun z => by have := h.at'; rw [z, hL] at this; cases this
  have any : (g.any fun e => decide (e.1 = k)) = true := List.any_eq_true.mpr ⟨e, he, decide_eq_true ek⟩
  refine ⟨by rw [upd_ne hd]; exact h.at', ?_, h.vs, h.nd, fun i a f h1 h2 => ?_, h.new⟩
  · rw [h.ks]
    unfold addG
    rw [if_pos any, List.map_map]
    refine List.map_congr_left fun y _ => ?_
    show _ = (Sum.inl (if y.1 = k then (y.1, y.2 ++ [x]) else y).1 : Key)
    split <;> rfl
  · unfold addG at h2
    rw [if_pos any, List.getElem?_map] at h2
    obtain ⟨f0, h3, rfl⟩ := Option.map_eq_some_iff.mp h2
    by_cases c : i = j
    · subst c
      rw [hj] at h3
      cases h3
      rw [ha] at h1
      cases h1
      rw [upd_same, if_pos ek]
      show _ = some (HO.lst (iV (e.2 ++ [x])))
      rw [iV_ap]
      rfl
    · have na : a ≠ as[j] := fun z => c ((List.getElem?_inj (List.getElem?_eq_some_iff.mp h1).1 h.nd).mp (by rw [h1, ha, z]))
      rw [upd_ne na, if_neg]
      · exact h.lst i a f0 h1 h3
      · intro z
        apply c
        refine (List.getElem?_inj (l := g.map Prod.fst) (by rw [List.length_map]; exact (List.getElem?_eq_some_iff.mp h3).1) hn).mp ?_
        rw [List.getElem?_map, List.getElem?_map, h3, hj]
        show some f0.1 = some e.1
        rw [z, ek]
theorem FG.fresh (h : FG H0 H d kv g as) {k x : Int} {n : Addr} (hv : valV kv (Sum.inl k : Key) = none) (hn : H n = some (.lst [])) (hn0 : H0 n = none) (hna : n ∉ as) :
    FG H0 (upd (upd H d (.dK (putK kv (Sum.inl k : Key) (.ref n)))) n (.lst ([] ++ [.int x]))) d (putK kv (Sum.inl k : Key) (.ref n)) (addG g k x) (as ++ [n]) := by
  have hd : d ≠ n := fun z => by have := h.at'; rw [z, hn] at this; cases this
  have any : ¬ (g.any fun e => decide (e.1 = k)) = true := fun z => by
    obtain ⟨e, he, ek⟩ := List.any_eq_true.mp z
    have := valV_not hv
    apply this
    show (Sum.inl k : Key) ∈ kv.map Prod.fst
    rw [h.ks]
    exact List.mem_map.mpr ⟨e, he, by rw [of_decide_eq_true ek]⟩
  have hl := h.len
  refine ⟨by rw [upd_ne hd, upd_same], ?_, ?_, ?_, fun j a e h1 h2 => ?_, fun a ha => ?_⟩
  · rw [putK_new _ hv, List.map_append, h.ks]
    unfold addG
    rw [if_neg any, List.map_append]
    rfl
  · rw [putK_new _ hv, List.map_append, h.vs, List.map_append]
    rfl
  · rw [List.nodup_append]
    exact ⟨h.nd, by simp, fun a ha b hb e => hna (by rw [← List.mem_singleton.mp hb, ← e]; exact ha)⟩
  · unfold addG at h2
    rw [if_neg any] at h2
    by_cases c : j < as.length
    · rw [List.getElem?_append_left c] at h1
      rw [List.getElem?_append_left (by omega)] at h2
      have na : a ≠ n := fun z => hna (z ▸ List.mem_of_getElem? h1)
      have h3 := h.lst j a e h1 h2
      have nd : a ≠ d := fun z => by have := h.at'; rw [← z, h3] at this; cases this
      rw [upd_ne na, upd_ne nd]
      exact h3
    · rw [List.getElem?_append_right (by omega)] at h1 h2
      have ej : j - as.length = 0 := by
        have := (List.getElem?_eq_some_iff.mp h1).1
        simp at this
        omega
      have ej2 : j - g.length = 0 := by omega
      rw [ej] at h1
      rw [ej2] at h2
      cases h1
      cases h2
      rw [upd_same]
      rfl
  · rcases List.mem_append.mp ha with ha | ha
    · exact h.new a ha
    · rw [List.mem_singleton.mp ha]; exact hn0
end
end Mir

namespace Mir
inductive Cn (ps : List (Int × Int)) : Int → Int → Prop
  | base {p : Int × Int} (h : p ∈ ps) : Cn ps p.1 p.2
  | refl (x : Int) : Cn ps x x
  | symm {x y : Int} (h : Cn ps x y) : Cn ps y x
  | trans {x y z : Int} (h : Cn ps x y) (k : Cn ps y z) : Cn ps x z
theorem Cn.mono {ps qs : List (Int × Int)} {x y : Int} (h : Cn ps x y) (s : ∀ p ∈ ps, p ∈ qs) : Cn qs x y := by
  induction h with
  | base h => exact .base (s _ h)
  | refl x => exact .refl x
  | symm _ ih => exact ih.symm
  | trans _ _ ih1 ih2 => exact ih1.trans ih2
theorem mk_cn (ps : List (Int × Int)) : (∀ x, Cn ps x (mk ps x)) ∧ ∀ p ∈ ps, mk ps p.1 = mk ps p.2 := by
  refine list_snoc (P := fun ps => (∀ x, Cn ps x (mk ps x)) ∧ ∀ p ∈ ps, mk ps p.1 = mk ps p.2) ⟨fun x => .refl x, fun p hp => absurd hp List.not_mem_nil⟩ ?_ ps
  intro ps p ⟨h1, h2⟩
  rw [mk_snoc]
  have up : ∀ {x y}, Cn ps x y → Cn (ps ++ [p]) x y := fun h => h.mono fun q hq => List.mem_append_left _ hq
  have bp : Cn (ps ++ [p]) p.1 p.2 := .base (List.mem_append_right _ (List.mem_singleton.mpr rfl))
  constructor
  · intro x
    unfold mkS
    by_cases c : mk ps x = mk ps p.2
    · rw [if_pos c]
      have a := up (h1 x)
      rw [c] at a
      exact ((a.trans (up (h1 p.2)).symm).trans bp.symm).trans (up (h1 p.1))
    · rw [if_neg c]
      exact up (h1 x)
  · intro q hq
    unfold mkS
    rcases List.mem_append.mp hq with hq | hq
    · rw [h2 q hq]
    · rw [List.mem_singleton.mp hq, if_pos rfl]
      split <;> rfl
theorem mk_iff {ps : List (Int × Int)} {x y : Int} : mk ps x = mk ps y ↔ Cn ps x y := by
  have f := mk_cn ps
  constructor
  · intro h
    have a := f.1 x
    rw [h] at a
    exact a.trans (f.1 y).symm
  · intro h
    induction h with
    | base h => exact f.2 _ h
    | refl x => rfl
    | symm _ ih => exact ih.symm
    | trans _ _ ih1 ih2 => exact ih1.trans ih2
theorem nodup_subI : ∀ {l₁ l₂ : List Int}, l₁.Nodup → (∀ x ∈ l₁, x ∈ l₂) → l₁.length ≤ l₂.length
  | [], _, _, _ => Nat.zero_le _
  | a :: r, l₂, nd, h => by
    rw [List.nodup_cons] at nd
    have ha := h a List.mem_cons_self
    have z := nodup_subI (l₁ := r) (l₂ := l₂.erase a) nd.2 fun x hx => (List.mem_erase_of_ne (fun (e : x = a) => nd.1 (e ▸ hx))).mpr (h x (List.mem_cons_of_mem _ hx))
    rw [List.length_erase_of_mem ha] at z
    have : 0 < l₂.length := List.length_pos_of_mem ha
    show r.length + 1 ≤ _
    omega
structure One (R : Int → Int → Prop) (S : Int → Prop) (L : List Int) : Prop where
  nd : L.Nodup
  ins : ∀ a ∈ L, S a
  all : ∀ x, S x → ∃ a ∈ L, R a x
  inj : ∀ a ∈ L, ∀ b ∈ L, R a b → a = b
theorem One.le {R : Int → Int → Prop} {S : Int → Prop} {L M : List Int} (sy : ∀ {x y}, R x y → R y x) (tr : ∀ {x y z}, R x y → R y z → R x z) (h : One R S L) (k : One R S M) : L.length ≤ M.length := by
  have pick : ∀ a, ∃ b, a ∈ L → b ∈ M ∧ R b a := fun a => by
    by_cases c : a ∈ L
    · obtain ⟨b, hb, r⟩ := k.all a (h.ins a c)
      exact ⟨b, fun _ => ⟨hb, r⟩⟩
    · exact ⟨0, fun z => absurd z c⟩
  let f : Int → Int := fun a => Classical.choose (pick a)
  have hf : ∀ a, a ∈ L → f a ∈ M ∧ R (f a) a := fun a => Classical.choose_spec (pick a)
  have nd : (L.map f).Nodup := by
    refine List.pairwise_map.mpr (List.Pairwise.imp_of_mem (fun {a b} ha hb ne e => ne ?_) h.nd)
    have r1 := (hf a ha).2
    have r2 := (hf b hb).2
    rw [e] at r1
    exact h.inj a ha b hb (tr (sy r1) r2)
  have z := nodup_subI nd (l₂ := M) fun x hx => by
    obtain ⟨a, ha, rfl⟩ := List.mem_map.mp hx
    exact (hf a ha).1
  rwa [List.length_map] at z
theorem One.eq {R : Int → Int → Prop} {S : Int → Prop} {L M : List Int} (sy : ∀ {x y}, R x y → R y x) (tr : ∀ {x y z}, R x y → R y z → R x z) (h : One R S L) (k : One R S M) : L.length = M.length :=
  Nat.le_antisymm (One.le (R := R) (S := S) sy tr h k) (One.le (R := R) (S := S) sy tr k h)
theorem One.cn {ps : List (Int × Int)} {S : Int → Prop} {L M : List Int} (h : One (Cn ps) S L) (k : One (Cn ps) S M) : L.length = M.length := h.eq (fun z => z.symm) (fun a b => a.trans b) k
theorem One.map {R R' : Int → Int → Prop} {S : Int → Prop} {L : List Int} (f : Int → Int) (ff : ∀ x, f (f x) = x) (fs : ∀ x, S x → S (f x)) (e : ∀ x y, R x y → R' (f x) (f y)) (e' : ∀ x y, R' (f x) (f y) → R x y) (h : One R S L) : One R' S (L.map f) := by
  refine ⟨?_, fun a ha => ?_, fun x hx => ?_, fun a ha b hb r => ?_⟩
  · exact List.pairwise_map.mpr (List.Pairwise.imp (fun {a b} z q => z (by rw [← ff a, q, ff])) h.nd)
  · obtain ⟨b, hb, rfl⟩ := List.mem_map.mp ha
    exact fs _ (h.ins b hb)
  · obtain ⟨a, ha, r⟩ := h.all (f x) (fs x hx)
    exact ⟨f a, List.mem_map.mpr ⟨a, ha, rfl⟩, by have := e _ _ r; rwa [ff] at this⟩
  · obtain ⟨a', ha', rfl⟩ := List.mem_map.mp ha
    obtain ⟨b', hb', rfl⟩ := List.mem_map.mp hb
    rw [h.inj a' ha' b' hb' (e' _ _ r)]
theorem cn_snoc {ps : List (Int × Int)} {p : Int × Int} {x y : Int} (h : Cn (ps ++ [p]) x y) : Cn ps x y ∨ (Cn ps x p.1 ∧ Cn ps p.2 y) ∨ (Cn ps x p.2 ∧ Cn ps p.1 y) := by
  induction h with
  | @base q hq =>
    rcases List.mem_append.mp hq with hq | hq
    · exact .inl (.base hq)
    · rw [List.mem_singleton.mp hq]
      exact .inr (.inl ⟨.refl _, .refl _⟩)
  | refl x => exact .inl (.refl x)
  | symm _ ih =>
    rcases ih with h | ⟨h1, h2⟩ | ⟨h1, h2⟩
    · exact .inl h.symm
    · exact .inr (.inr ⟨h2.symm, h1.symm⟩)
    · exact .inr (.inl ⟨h2.symm, h1.symm⟩)
  | trans _ _ ih1 ih2 =>
    rcases ih1 with h | ⟨h1, h2⟩ | ⟨h1, h2⟩
    · rcases ih2 with k | ⟨k1, k2⟩ | ⟨k1, k2⟩
      · exact .inl (h.trans k)
      · exact .inr (.inl ⟨h.trans k1, k2⟩)
      · exact .inr (.inr ⟨h.trans k1, k2⟩)
    · rcases ih2 with k | ⟨k1, k2⟩ | ⟨k1, k2⟩
      · exact .inr (.inl ⟨h1, h2.trans k⟩)
      · exact .inr (.inl ⟨h1, k2⟩)
      · exact .inl (h1.trans k2)
    · rcases ih2 with k | ⟨k1, k2⟩ | ⟨k1, k2⟩
      · exact .inr (.inr ⟨h1, h2.trans k⟩)
      · exact .inl (h1.trans k2)
      · exact .inr (.inr ⟨h1, k2⟩)
theorem One.more {ps : List (Int × Int)} {p : Int × Int} {S : Int → Prop} {L : List Int} (h : One (Cn ps) S L) (h1 : S p.1) (h2 : S p.2) : ∃ M, One (Cn (ps ++ [p])) S M ∧ (M.length = L.length ∨ M.length + 1 = L.length) := by
  have up : ∀ {x y}, Cn ps x y → Cn (ps ++ [p]) x y := fun h => h.mono fun q hq => List.mem_append_left _ hq
  have bp : Cn (ps ++ [p]) p.1 p.2 := .base (List.mem_append_right _ (List.mem_singleton.mpr rfl))
  by_cases c : Cn ps p.1 p.2
  · refine ⟨L, ⟨h.nd, h.ins, fun x hx => let ⟨a, ha, r⟩ := h.all x hx; ⟨a, ha, up r⟩, fun a ha b hb r => ?_⟩, .inl rfl⟩
    rcases cn_snoc r with r | ⟨r1, r2⟩ | ⟨r1, r2⟩
    · exact h.inj a ha b hb r
    · exact h.inj a ha b hb ((r1.trans c).trans r2)
    · exact h.inj a ha b hb ((r1.trans c.symm).trans r2)
  · obtain ⟨u, hu, ru⟩ := h.all _ h1
    obtain ⟨v, hv, rv⟩ := h.all _ h2
    have ne : u ≠ v := fun e => c (ru.symm.trans (e ▸ rv))
    refine ⟨L.erase v, ⟨h.nd.erase v, fun a ha => h.ins a (List.mem_of_mem_erase ha), fun x hx => ?_, fun a ha b hb r => ?_⟩, .inr ?_⟩
    · obtain ⟨a, ha, r⟩ := h.all x hx
      by_cases e : a = v
      · subst e
        exact ⟨u, (List.mem_erase_of_ne ne).mpr hu, ((up ru).trans bp).trans ((up rv).symm.trans (up r))⟩
      · exact ⟨a, (List.mem_erase_of_ne e).mpr ha, up r⟩
    · have na : a ≠ v := fun e => by rw [e] at ha; exact (h.nd.mem_erase_iff.mp ha).1 rfl
      have nb : b ≠ v := fun e => by rw [e] at hb; exact (h.nd.mem_erase_iff.mp hb).1 rfl
      have ha := List.mem_of_mem_erase ha
      have hb := List.mem_of_mem_erase hb
      rcases cn_snoc r with r | ⟨r1, r2⟩ | ⟨r1, r2⟩
      · exact h.inj a ha b hb r
      · exact absurd (h.inj v hv b hb (rv.trans r2)).symm nb
      · exact absurd (h.inj a ha v hv (r1.trans rv.symm)) na
    · rw [List.length_erase_of_mem hv]
      have : 0 < L.length := List.length_pos_of_mem hv
      omega
theorem One.near {ps qs : List (Int × Int)} {p q : Int × Int} {S : Int → Prop} {L M : List Int} (f : Int → Int) (ff : ∀ x, f (f x) = x) (fs : ∀ x, S x → S (f x)) (h : One (Cn ps) S L) (k : One (Cn qs) S M) (h1 : S p.1) (h2 : S p.2) (k1 : S q.1) (k2 : S q.2)
    (e : ∀ x y, Cn (ps ++ [p]) x y → Cn (qs ++ [q]) (f x) (f y)) (e' : ∀ x y, Cn (qs ++ [q]) (f x) (f y) → Cn (ps ++ [p]) x y) : L.length ≤ M.length + 1 ∧ M.length ≤ L.length + 1 := by
  obtain ⟨L', hL, lL⟩ := h.more h1 h2
  obtain ⟨M', hM, lM⟩ := k.more k1 k2
  have z := (hL.map f ff fs e e').cn hM
  rw [List.length_map] at z
  omega
def Gap (rs : List Int) (x : Int) : Prop := 0 ≤ x ∧ x < ((rs.length + 1 : Nat) : Int)
theorem tie_inG {rs : List Int} (fit : Fit rs) : ∀ p ∈ tieL rs, Gap rs p.1 ∧ Gap rs p.2 := fun p hp => by
  have h := met_perm fit
  have a : ∀ x, x ∈ (tieL rs).map Prod.fst ++ (tieL rs).map Prod.snd → Gap rs x := fun x hx => by
    have z := h.mem_iff.mp hx
    rcases List.mem_append.mp z with z | z <;> exact from0_mem.mp z
  exact ⟨a _ (List.mem_append_left _ (List.mem_map.mpr ⟨p, hp, rfl⟩)), a _ (List.mem_append_right _ (List.mem_map.mpr ⟨p, hp, rfl⟩))⟩
theorem tie_met {rs : List Int} (fit : Fit rs) {x : Int} (hx : Gap rs x) : ∃ p ∈ tieL rs, x = p.1 ∨ x = p.2 := by
  have h := met_perm fit
  have z : x ∈ (tieL rs).map Prod.fst ++ (tieL rs).map Prod.snd := h.mem_iff.mpr (List.mem_append_left _ (from0_mem.mpr hx))
  rcases List.mem_append.mp z with z | z
  · obtain ⟨p, hp, e⟩ := List.mem_map.mp z
    exact ⟨p, hp, .inl e.symm⟩
  · obtain ⟨p, hp, e⟩ := List.mem_map.mp z
    exact ⟨p, hp, .inr e.symm⟩
theorem rings_one {rs : List Int} (fit : Fit rs) : ∃ L, One (Cn (tieL rs)) (Gap rs) L ∧ L.length = (ringsT rs).length := by
  let c : Nat → Int := fun k => mk (tieL rs) (lvOf rs k)
  have f := mk_cn (tieL rs)
  have idm : ∀ x, mk (tieL rs) (mk (tieL rs) x) = mk (tieL rs) x := fun x => mk_iff.mpr (f.1 x).symm
  have inG : ∀ x, Gap rs x → Gap rs (mk (tieL rs) x) := fun x hx => by
    obtain ⟨p, hp, e⟩ := tie_met fit hx
    obtain ⟨q, hq, e2⟩ := (mk_fact (tieL rs)).2 x ⟨p, hp, e⟩
    rcases e2 with e2 | e2 <;> rw [e2]
    · exact (tie_inG fit q hq).1
    · exact (tie_inG fit q hq).2
  have keys := grp_keys c (rs.length + 1)
  refine ⟨(grp c (rs.length + 1)).map Prod.fst, ⟨grp_nodup c _, fun a ha => ?_, fun x hx => ?_, fun a ha b hb r => ?_⟩, by unfold ringsT; rw [List.length_map, List.length_map]⟩
  · obtain ⟨i, hi, rfl⟩ := (keys a).mp ha
    exact inG _ (tie_inG fit _ (List.mem_of_getElem? (tieL_get hi))).1
  · obtain ⟨p, hp, e⟩ := tie_met fit hx
    have e2 : mk (tieL rs) x = mk (tieL rs) p.1 := by
      rcases e with e | e <;> rw [e]
      exact (f.2 p hp).symm
    obtain ⟨i, hi⟩ := List.getElem?_of_mem hp
    have hi2 : i < rs.length + 1 := by rw [← tieL_len rs]; exact (List.getElem?_eq_some_iff.mp hi).1
    rw [tieL_get hi2] at hi
    have ep : p.1 = lvOf rs i := by rw [← Option.some.inj hi]; rfl
    refine ⟨mk (tieL rs) x, (keys _).mpr ⟨i, hi2, ?_⟩, (f.1 x).symm⟩
    show mk (tieL rs) (lvOf rs i) = _
    rw [e2, ep]
  · obtain ⟨i, hi, rfl⟩ := (keys a).mp ha
    obtain ⟨j, hj, rfl⟩ := (keys b).mp hb
    have z := mk_iff.mpr r
    rw [idm, idm] at z
    exact z
theorem frm_turn {rs : List Int} {f l p : Nat} (h1 : f ≤ l) (h2 : l < rs.length) (hp : p < rs.length + 2) : (frm (turnP rs f l)).getD p 0 = if f < p ∧ p ≤ l + 1 then - (frm rs).getD (f + l + 2 - p) 0 else (frm rs).getD p 0 := by
  cases p with
  | zero => rw [if_neg (by omega)]; rfl
  | succ p =>
    by_cases c : p < rs.length
    · rw [frm_mid (by rw [turnP_len]; exact c), turnP_getD c]
      by_cases d : f ≤ p ∧ p ≤ l
      · rw [if_pos d, if_pos (by omega)]
        have e : f + l + 2 - (p + 1) = (f + l - p) + 1 := by omega
        rw [e, frm_mid (by omega)]
      · rw [if_neg d, if_neg (by omega), frm_mid c]
    · have e : p = rs.length := by omega
      have z := frm_last (turnP rs f l)
      rw [turnP_len] at z
      rw [if_neg (by omega), e, z, frm_last]
def rho (f l : Nat) (x : Int) : Int := if (f : Int) ≤ x ∧ x ≤ (l : Int) + 1 then (f : Int) + l + 1 - x else x
theorem rho_rho (f l : Nat) (x : Int) : rho f l (rho f l x) = x := by
  unfold rho
  split
  · rw [if_pos (by omega)]; omega
  · rfl
def Jn (f l : Nat) (x y : Int) : Prop := x = y ∨ ((x = f ∨ x = (l : Int) + 1) ∧ (y = f ∨ y = (l : Int) + 1))
theorem frm_pos {rs : List Int} (fit : Fit rs) {p : Nat} (h0 : 0 < p) (hp : p < rs.length + 2) : (frm rs).getD p 0 ≠ 0 := fun e => by
  have z : absI ((frm rs).getD p 0) = ((0 : Nat) : Int) := by rw [e]; rfl
  have := plF_at fit hp z
  rw [plF_zero fit] at this
  omega
theorem ends_turn {rs : List Int} (fit : Fit rs) {f l : Nat} (h1 : f ≤ l) (h2 : l < rs.length) {k : Nat} (hk : k < rs.length + 2) :
    Jn f l (lvOf (turnP rs f l) k) (rho f l (lvOf rs k)) ∧ Jn f l (cmOf (turnP rs f l) k) (rho f l (cmOf rs k)) := by
  have fit2 := turnP_fit fit h1 h2
  have tl := turnP_len rs f l
  obtain ⟨p1, p2⟩ := plF_lt fit hk
  by_cases c : f < plF rs k ∧ plF rs k ≤ l + 1
  · have q1 : f + l + 2 - plF rs k < rs.length + 2 := by omega
    have ef := frm_turn h1 h2 q1
    rw [if_pos (by omega), show f + l + 2 - (f + l + 2 - plF rs k) = plF rs k by omega] at ef
    have ep : plF (turnP rs f l) k = f + l + 2 - plF rs k := plF_at fit2 (by rw [tl]; exact q1) (by rw [ef, ← p2]; unfold absI; split <;> split <;> omega)
    have nz := frm_pos fit (p := plF rs k) (by omega) p1
    unfold lvOf cmOf lvAt cmAt
    rw [ep, ef]
    generalize (frm rs).getD (plF rs k) 0 = y at nz
    unfold Jn rho
    constructor
    · left
      by_cases s : y < 0
      · rw [if_neg (by omega), if_pos s, if_pos (by omega)]; omega
      · rw [if_pos (by omega), if_neg s, if_pos (by omega)]; omega
    · left
      by_cases s : y < 0
      · rw [if_neg (by omega), if_pos s, if_pos (by omega)]; omega
      · rw [if_pos (by omega), if_neg s, if_pos (by omega)]; omega
  · have ef := frm_turn h1 h2 p1
    rw [if_neg c] at ef
    have ep : plF (turnP rs f l) k = plF rs k := plF_at fit2 (by rw [tl]; exact p1) (by rw [ef, p2])
    unfold lvOf cmOf lvAt cmAt
    rw [ep, ef]
    generalize (frm rs).getD (plF rs k) 0 = y
    unfold Jn rho
    constructor
    · by_cases s : y < 0
      · rw [if_pos s]; split <;> omega
      · rw [if_neg s]; split <;> omega
    · by_cases s : y < 0
      · rw [if_pos s]; split <;> omega
      · rw [if_neg s]; split <;> omega
theorem jn_cn {f l : Nat} {ps : List (Int × Int)} {x y : Int} (h : Jn f l x y) : Cn (ps ++ [((f : Int), (l : Int) + 1)]) x y := by
  have b : Cn (ps ++ [((f : Int), (l : Int) + 1)]) (f : Int) ((l : Int) + 1) := .base (p := ((f : Int), (l : Int) + 1)) (List.mem_append_right _ (List.mem_singleton.mpr rfl))
  rcases h with rfl | ⟨h | h, k | k⟩
  · exact .refl _
  · rw [h, k]; exact .refl _
  · rw [h, k]; exact b
  · rw [h, k]; exact b.symm
  · rw [h, k]; exact .refl _
theorem cn_turn {rs : List Int} (fit : Fit rs) {f l : Nat} (h1 : f ≤ l) (h2 : l < rs.length) {x y : Int} (h : Cn (tieL rs ++ [((f : Int), (l : Int) + 1)]) x y) : Cn (tieL (turnP rs f l) ++ [((f : Int), (l : Int) + 1)]) (rho f l x) (rho f l y) := by
  induction h with
  | @base p hp =>
    rcases List.mem_append.mp hp with hp | hp
    · obtain ⟨k, hk⟩ := List.getElem?_of_mem hp
      have hk2 : k < rs.length + 1 := by rw [← tieL_len rs]; exact (List.getElem?_eq_some_iff.mp hk).1
      rw [tieL_get hk2] at hk
      obtain rfl := Option.some.inj hk
      have a := jn_cn (ps := tieL (turnP rs f l)) (ends_turn fit h1 h2 (k := k) (by omega)).1
      have b := jn_cn (ps := tieL (turnP rs f l)) (ends_turn fit h1 h2 (k := k + 1) (by omega)).2
      have m : Cn (tieL (turnP rs f l) ++ [((f : Int), (l : Int) + 1)]) (lvOf (turnP rs f l) k) (cmOf (turnP rs f l) (k + 1)) :=
        .base (p := tieI (turnP rs f l) k) (List.mem_append_left _ (List.mem_of_getElem? (tieL_get (by rw [turnP_len]; exact hk2))))
      exact (a.symm.trans m).trans b
    · rw [List.mem_singleton.mp hp]
      refine jn_cn (.inr ?_)
      unfold rho
      dsimp only
      rw [if_pos (by omega), if_pos (by omega)]
      omega
  | refl x => exact .refl _
  | symm _ ih => exact ih.symm
  | trans _ _ ih1 ih2 => exact ih1.trans ih2
theorem rings_turn {rs : List Int} (fit : Fit rs) {f l : Nat} (h1 : f ≤ l) (h2 : l < rs.length) : (ringsT rs).length ≤ (ringsT (turnP rs f l)).length + 1 ∧ (ringsT (turnP rs f l)).length ≤ (ringsT rs).length + 1 := by
  have fit2 := turnP_fit fit h1 h2
  have tl := turnP_len rs f l
  obtain ⟨L, hL, lL⟩ := rings_one fit
  obtain ⟨M, hM, lM⟩ := rings_one fit2
  have eG : Gap (turnP rs f l) = Gap rs := by unfold Gap; rw [tl]
  rw [eG] at hM
  rw [← lL, ← lM]
  have g1 : Gap rs (f : Int) := ⟨by omega, by omega⟩
  have g2 : Gap rs ((l : Int) + 1) := ⟨by omega, by omega⟩
  refine One.near (p := ((f : Int), (l : Int) + 1)) (q := ((f : Int), (l : Int) + 1)) (rho f l) (rho_rho f l) (fun x hx => ?_) hL hM g1 g2 g1 g2 (fun x y => cn_turn fit h1 h2) fun x y z => ?_
  · unfold Gap rho at *
    split <;> omega
  · have z2 := cn_turn fit2 h1 (by rw [tl]; exact h2) z
    rw [turnP_back h1 h2, rho_rho, rho_rho] at z2
    exact z2
theorem rings_pos {rs : List Int} (fit : Fit rs) : 1 ≤ (ringsT rs).length ∧ (ringsT rs).length ≤ rs.length + 1 := by
  obtain ⟨L, hL, lL⟩ := rings_one fit
  constructor
  · obtain ⟨a, ha, _⟩ := hL.all 0 ⟨by omega, by omega⟩
    rw [← lL]
    exact List.length_pos_of_mem ha
  · unfold ringsT
    rw [List.length_map]
    exact grp_len _ _
theorem rings_most {rs : List Int} (fit : Fit rs) (h : (ringsT rs).length = rs.length + 1) : rs = from1 rs.length := by
  obtain ⟨L, hL, lL⟩ := rings_one fit
  have all : ∀ x, Gap rs x → x ∈ L := fun x hx => Classical.byContradiction fun c => by
    have z := nodup_subI (l₁ := x :: L) (l₂ := from0 (rs.length + 1)) (List.nodup_cons.mpr ⟨c, hL.nd⟩) fun y hy => from0_mem.mpr (by
      rcases List.mem_cons.mp hy with rfl | hy
      · exact hx
      · exact hL.ins y hy)
    rw [from0_len] at z
    have : L.length + 1 ≤ rs.length + 1 := z
    omega
  have same : ∀ k, k < rs.length + 1 → lvOf rs k = cmOf rs (k + 1) := fun k hk => by
    have hm := List.mem_of_getElem? (tieL_get hk)
    have g := tie_inG fit _ hm
    exact hL.inj _ (all _ g.1) _ (all _ g.2) (.base (p := tieI rs k) hm)
  have pl : ∀ k, k < rs.length + 2 → plF rs k = k ∧ (frm rs).getD k 0 = k := by
    intro k
    induction k with
    | zero => intro _; exact ⟨plF_zero fit, rfl⟩
    | succ k ih =>
      intro hk
      obtain ⟨e1, e2⟩ := ih (by omega)
      have s := same k (by omega)
      obtain ⟨p1, p2⟩ := plF_lt fit hk
      unfold lvOf cmOf lvAt cmAt at s
      rw [e1, e2, if_neg (by omega)] at s
      by_cases c : (frm rs).getD (plF rs (k + 1)) 0 < 0
      · rw [if_pos c] at s
        have e : plF rs (k + 1) = k := by omega
        rw [e, e2] at c
        omega
      · rw [if_neg c] at s
        have e : plF rs (k + 1) = k + 1 := by omega
        refine ⟨e, ?_⟩
        rw [e] at p2 c
        unfold absI at p2
        rw [if_neg c] at p2
        exact p2
  refine List.ext_getElem? fun j => ?_
  by_cases c : j < rs.length
  · have z := (pl (j + 1) (by omega)).2
    rw [frm_mid c] at z
    have e2 := getD_get (rs := from1 rs.length) (j := j) (by rw [from1_len]; exact c)
    rw [getD_get c, e2, z, from1_getD c]
    congr 1
  · rw [List.getElem?_eq_none (by omega), List.getElem?_eq_none (by rw [from1_len]; omega)]
theorem rings_iff {rs : List Int} (fit : Fit rs) : (ringsT rs).length = rs.length + 1 ↔ rs = from1 rs.length := by
  constructor
  · exact rings_most fit
  · intro h
    have z := rings_plain rs.length fit.small
    rw [← h] at z
    rw [z, List.length_map, List.length_range]
end Mir

namespace Mir
open PySem L2
def Turns (n : Nat) (cs : List (Int × Int)) : Prop := cs.length ≤ 1000 ∧ ∀ p ∈ cs, ∃ f l : Nat, p = ((f : Int), (l : Int)) ∧ f ≤ l ∧ l < n
def spLawTurns (K : PySem.W.Frag) : Sp := fun vs H Q _ => ∃ (a : Addr) (ns : List Int) (n : Nat), vs = [.ref a, .int n] ∧ SqL K H a (ns.map V.int) ∧ ns.length ≤ 63 ∧ n ≤ 40 ∧ ∀ (l : Addr) (H' : Hp) (cs : List (Int × Int)), Same H H' → TsT pr H' l cs → Turns n cs → Q (.ref l) H'
def spCountGood : Sp := fun vs H Q _ => ∃ (t : Addr) (rs : List Int) (c : Nat), vs = [.ref t, .int c] ∧ H t = some (.tup (iV rs)) ∧ Fit rs ∧ c = (ringsT rs).length ∧ ∀ H', Same H H' → Q (.bl true) H'
theorem allTurns_ok {n : Nat} (hn : n ≤ 30) : ∀ k, k ≤ n → Turns n (allTurns n k) := fun k hk => by
  refine ⟨Nat.le_trans (allTurns_len n k) (Nat.le_trans (Nat.mul_le_mul hn (Nat.le_trans hk hn)) (by decide)), ?_⟩
  induction k with
  | zero => intro p hp; exact absurd hp List.not_mem_nil
  | succ k ih =>
    intro p hp
    rw [allTurns_succ] at hp
    rcases List.mem_append.mp hp with hp | hp
    · exact ih (by omega) p hp
    · obtain ⟨i, hi, rfl⟩ := List.mem_map.mp hp
      have hi := List.mem_range.mp hi
      exact ⟨k, k + i, by show ((k : Int), (k : Int) + (i : Int)) = _; congr 1, by omega, by omega⟩
theorem Turns.snoc {n : Nat} {cs : List (Int × Int)} {f l : Nat} (h : Turns n cs) (hl : cs.length ≤ 900) (h1 : f ≤ l) (h2 : l < n) : Turns n (cs ++ [((f : Int), (l : Int))]) := by
  refine ⟨by rw [List.length_append]; show _ + 1 ≤ _; omega, fun p hp => ?_⟩
  rcases List.mem_append.mp hp with hp | hp
  · exact h.2 p hp
  · exact ⟨f, l, List.mem_singleton.mp hp, h1, h2⟩
end Mir

set_option maxHeartbeats 2000000
namespace Law
open PySem L2
def top (i : Nat) : Stmt := PySem.Challenge.pw_claspwork_k42_whole_rings_by_turns.main.body.getD i (.Pass ⟨0, 0, 0, 0⟩)
abbrev s_framed : Stmt := top 1
abbrev s_tie_gaps : Stmt := top 2
abbrev s_tie_rings : Stmt := top 3
abbrev s_hung_together : Stmt := top 4
abbrev s_turn_about : Stmt := top 9
abbrev s_turns_all : Stmt := top 10
abbrev s_law_cell_at : Stmt := top 12
abbrev s_law_row_by : Stmt := top 13
abbrev s_law_turns : Stmt := top 14
abbrev s_law_count_good : Stmt := top 15
abbrev s_law : Stmt := top 16
theorem sc_framed : FnScope ["row"] ["row"] (defScope s_framed) := ⟨rfl, rfl, rfl, by decide +kernel, rfl, by decide +kernel, by decide +kernel⟩
theorem sc_tie_gaps : FnScope ["row", "leaving", "coming", "place", "number"] ["row"] (defScope s_tie_gaps) := ⟨rfl, rfl, rfl, by decide +kernel, rfl, by decide +kernel, by decide +kernel⟩
theorem sc_tie_rings : FnScope ["row"] ["row"] (defScope s_tie_rings) := ⟨rfl, rfl, rfl, by decide +kernel, rfl, by decide +kernel, by decide +kernel⟩
theorem sc_hung_together : FnScope ["pairs", "groups", "first", "second", "kept", "lost", "number", "found", "place", "pair"] ["pairs"] (defScope s_hung_together) := ⟨rfl, rfl, rfl, by decide +kernel, rfl, by decide +kernel, by decide +kernel⟩
theorem sc_turn_about : FnScope ["row", "first", "last", "turned"] ["row", "first", "last"] (defScope s_turn_about) := ⟨rfl, rfl, rfl, by decide +kernel, rfl, by decide +kernel, by decide +kernel⟩
theorem sc_turns_all : FnScope ["many", "turns", "first"] ["many"] (defScope s_turns_all) := ⟨rfl, rfl, rfl, by decide +kernel, rfl, by decide +kernel, by decide +kernel⟩
theorem sc_law_cell_at : FnScope ["script", "k"] ["script", "k"] (defScope s_law_cell_at) := ⟨rfl, rfl, rfl, by decide +kernel, rfl, by decide +kernel, by decide +kernel⟩
theorem sc_law_row_by : FnScope ["script", "at", "many", "row", "k", "cell", "spot", "number"] ["script", "at", "many"] (defScope s_law_row_by) := ⟨rfl, rfl, rfl, by decide +kernel, rfl, by decide +kernel, by decide +kernel⟩
theorem sc_law_turns : FnScope ["script", "many", "found", "cell", "first"] ["script", "many"] (defScope s_law_turns) := ⟨rfl, rfl, rfl, by decide +kernel, rfl, by decide +kernel, by decide +kernel⟩
theorem sc_law_count_good : FnScope ["row", "count"] ["row", "count"] (defScope s_law_count_good) := ⟨rfl, rfl, rfl, by decide +kernel, rfl, by decide +kernel, by decide +kernel⟩
theorem sc_law : FnScope ["script", "head", "many", "row", "count", "first", "last", "behind", "other"] ["script"] (defScope s_law) := ⟨rfl, rfl, rfl, by decide +kernel, rfl, by decide +kernel, by decide +kernel⟩
structure Bl (mg : Str → Option Value) : Prop where
  «abs» : mg "abs" = none
  «enumerate» : mg "enumerate" = none
  «len» : mg "len" = none
  «list» : mg "list" = none
  «range» : mg "range" = none
  «reversed» : mg "reversed" = none
  «tuple» : mg "tuple" = none
section
variable {P : Program} {w : World} {K : PySem.W.Frag} {mg : Str → Option Value} {base : Heap}
theorem ok_framed {f : Addr} {fd : FuncData} (B : Bl mg) (F : Fn K mg "framed" s_framed ["row"] f fd) : FnOk P w K mg base CX0 1 f fd ["row"] Mir.spFramed := by
  refine F.fn.ok sc_framed (fun vs H Q E h => ?_) (fun cdv A outer s H vs Q E hr h => ?_)
  · obtain ⟨t, rs, rfl, _⟩ := h
    rfl
  · obtain ⟨t, rs, rfl, ht, hn, k⟩ := h
    refine ⟨_, (pss_one (ps_ret (pe_op op_catA (pe_op op_catA (pe_tup (pa_cons pe_int pa_nil)) (pv 0)) (pe_tup (pa_cons (pe_op op_add (pe_callB call_len_seq rfl B.len bb_len (pa_cons (pv 0) pa_nil)) pe_int) pa_nil))))), ?_⟩
    have ivl : (Mir.iV rs).length = rs.length := Mir.iV_len rs
    refine ⟨by show 1 ≤ sizeLine; decide, fun p hp => ?_⟩
    have s1 : Same H (upd H p (.tup [.int 0])) := same_upd hp
    refine ⟨_, rfl, p, t, _, _, rfl, rfl, upd_same, s1 _ _ ht, Nat.le_of_lt (small1000 (by show 1 + _ ≤ 1000; omega)), fun q H1 s2 hq => ?_⟩
    have s12 := s1.trans s2
    refine ⟨_, rfl, t, _, rfl, .inr (SqT.of (s12 _ _ ht)), _, _, rfl, rfl, by show 1 ≤ sizeLine; decide, fun r hr' => ?_⟩
    have s3 : Same H1 (upd H1 r (.tup [.int (((Mir.iV rs).length : Nat) + 1)])) := same_upd hr'
    refine ⟨q, r, _, _, rfl, rfl, s3 _ _ hq, upd_same, Nat.le_of_lt (small1000 (by rw [List.length_append, ivl]; show 1 + _ + 1 ≤ 1000; omega)), fun t' H2 s4 ht' => ?_⟩
    refine k t' H2 ((s12.trans s3).trans s4) ?_
    rw [ht', ivl]
    unfold Mir.frm Mir.iV
    rw [List.map_cons, List.map_append]
    rfl
end
section
variable {P : Program} {w : World} {K : PySem.W.Frag} {mg : Str → Option Value} {base : Heap}
theorem ok_tie_gaps {f f1 : Addr} {fd fd1 : FuncData} (B : Bl mg) (F : Fn K mg "tie_gaps" s_tie_gaps ["row"] f fd) (F_framed : Fn K mg "framed" s_framed ["row"] f1 fd1) : FnOk P w K mg base CX0 2 f fd ["row"] Mir.spTieGaps := by
  have G_framed : FnOk P w K mg base CX0 1 f1 fd1 ["row"] Mir.spFramed := ok_framed B F_framed
  refine F.fn.ok sc_tie_gaps (fun vs H Q E h => ?_) (fun cdv A outer s H vs Q E hr h => ?_)
  · obtain ⟨t, rs, rfl, _⟩ := h
    rfl
  · obtain ⟨t, rs, rfl, ht, fit, k⟩ := h
    have hu := hu_of hr
    have hn := fit.small
    refine ⟨_, (pss_cons (ps_set (i := 1) sc_tie_gaps.nd rfl (Or.inr rfl) pe_dnewK)
      (pss_cons (ps_set (i := 2) sc_tie_gaps.nd rfl (Or.inr rfl) pe_dnewK)
      (pss_cons (ps_for PassesOwn.never rfl (pi_enumT rfl B.enumerate (pa_cons (pe_fn G_framed F_framed (hr.mono (by decide)) (pa_cons (pv 0) pa_nil)) pa_nil)) (pg_tup rfl (pgs_cons (pg_name (i := 3) sc_tie_gaps.nd rfl (Or.inl rfl)) (pgs_cons (pg_name (i := 4) sc_tie_gaps.nd rfl (Or.inl rfl)) pgs_nil))) (pss_cons (ps_dput hu (pv 1) (pe_callB call_abs rfl B.abs bb_abs (pa_cons (pv 4) pa_nil)) (pe_ifExp (pt_cmpR op_lt (pv 4) pe_int (nomark _)) (pe_op op_sub (pv 3) pe_int) (pv 3)) rfl)
      (pss_one (ps_dput hu (pv 2) (pe_callB call_abs rfl B.abs bb_abs (pa_cons (pv 4) pa_nil)) (pe_ifExp (pt_cmpR op_lt (pv 4) pe_int (nomark _)) (pv 3) (pe_op op_sub (pv 3) pe_int)) rfl))))
      (pss_one (ps_ret (pe_comp (NC := ["tie", "leaving", "coming"]) rfl (compOkN (pre := ["tie"]) [("leaving", s.heap.objs.size + 1, 1), ("coming", s.heap.objs.size + 2, 2)] ["leaving", "coming"] rfl rfl (by decide +kernel) (by decide +kernel) rfl (caps_cons ⟨rfl, rfl, rfl, rfl⟩ (caps_cons ⟨rfl, rfl, rfl, rfl⟩ caps_nil))) (pi_range1 rfl B.range (pa_cons (pe_op op_add (pe_callB call_len_seq rfl B.len bb_len (pa_cons (pv 0) pa_nil)) pe_int) pa_nil)) (fun _ _ _ _ => (pg_name (i := 0) (show (["tie", "leaving", "coming"] : List Str).Nodup by decide +kernel) rfl (Or.inl rfl))) (fun _ _ _ _ => pts_nil) (fun _ _ _ _ => (pe_tup (pa_cons (pe_dget hu (pv 1) (pv 0) (fun _ _ => rfl)) (pa_cons (pe_dget hu (pv 2) (pe_op op_add (pv 0) pe_int) (fun _ _ => rfl)) pa_nil)))))))))), ?_⟩
    have ivl : (Mir.iV rs).length = rs.length := Mir.iV_len rs
    have nd := Mir.frm_nodup fit
    have fl := Mir.frm_len rs
    have ivf : (Mir.iV (Mir.frm rs)).length = rs.length + 2 := by rw [Mir.iV_len, fl]
    intro dL hdL
    have s0 : Same H (upd H dL (.dK [])) := same_upd hdL
    intro dC hdC
    have ne : dL ≠ dC := fun e => by rw [e, upd_same] at hdC; cases hdC
    have s1 : Same H (upd (upd H dL (.dK [])) dC (.dK [])) := s0.trans (same_upd hdC)
    have hdC0 : H dC = none := s0.free hdC
    have hL1 : upd (upd H dL (.dK [])) dC (.dK []) dL = some (.dK []) := by rw [upd_ne ne, upd_same]
    have hC1 : upd (upd H dL (.dK [])) dC (.dK []) dC = some (.dK []) := upd_same
    generalize upd (upd H dL (.dK [])) dC (.dK []) = H1 at s1 hL1 hC1 ⊢
    refine ⟨_, rfl, t, rs, rfl, s1 _ _ ht, by omega, fun t1 H2 s2 ht1 => ?_⟩
    have s12 := s1.trans s2
    refine ⟨t1, rfl, ⟨_, SqT.of ht1⟩, for_enum (K := K) (a := t1) (xs := Mir.iV (Mir.frm rs)) (fun i σ H3 => ∃ (v3 v4 : Option V) (kL kC : List (Key × V)), σ = [some (.ref t), some (.ref dL), some (.ref dC), v3, v4] ∧ Same H H3 ∧ H3 t1 = some (.tup (Mir.iV (Mir.frm rs))) ∧ H3 dL = some (.dK kL) ∧ H3 dC = some (.dK kC) ∧ kL.length ≤ i ∧ kC.length ≤ i ∧
        (∀ j, j < i → valV kL (Sum.inl (Mir.absI ((Mir.frm rs).getD j 0)) : Key) = some (.int (Mir.lvAt (Mir.frm rs) j))) ∧ ∀ j, j < i → valV kC (Sum.inl (Mir.absI ((Mir.frm rs).getD j 0)) : Key) = some (.int (Mir.cmAt (Mir.frm rs) j)))
      ⟨none, none, [], [], rfl, s12, ht1, s2 _ _ hL1, s2 _ _ hC1, Nat.le_refl _, Nat.le_refl _, fun j hj => absurd hj (Nat.not_lt_zero _), fun j hj => absurd hj (Nat.not_lt_zero _)⟩ (fun i σ H3 _ ⟨_, _, _, _, _, _, h3, _⟩ => SqT.of h3) ?_ ?_⟩
    · rintro i y tt σ H3 hy ⟨v3, v4, kL, kC, rfl, s3, h1, hL, hC, lL, lC, vL, vC⟩ htt
      obtain ⟨x, hx, rfl⟩ := Mir.iV_get' hy
      have hi : i < (Mir.frm rs).length := (List.getElem?_eq_some_iff.mp hx).1
      have hxg : (Mir.frm rs).getD i 0 = x := by rw [Mir.getD_get hi] at hx; exact Option.some.inj hx
      have st : Same H3 (upd H3 tt (.tup [.int i, .int x])) := same_upd htt
      have s4 := s3.trans st
      have h4 := st _ _ h1
      have hL4 := st _ _ hL
      have hC4 := st _ _ hC
      have htt4 : upd H3 tt (.tup [.int i, .int x]) tt = some (.tup [.int i, .int x]) := upd_same
      generalize upd H3 tt (.tup [.int i, .int x]) = H4 at s4 h4 hL4 hC4 htt4 ⊢
      have fin : ∀ u v : Int, u = Mir.lvAt (Mir.frm rs) i → v = Mir.cmAt (Mir.frm rs) i → ∃ H5, DPut H4 dL (kV (Sum.inl (Mir.absI x))) (.int u) H5 ∧ ∃ H6, DPut H5 dC (kV (Sum.inl (Mir.absI x))) (.int v) H6 ∧
          ∃ (kL kC : List (Key × V)), Same H H6 ∧ H6 t1 = some (.tup (Mir.iV (Mir.frm rs))) ∧ H6 dL = some (.dK kL) ∧ H6 dC = some (.dK kC) ∧ kL.length ≤ i + 1 ∧ kC.length ≤ i + 1 ∧
          (∀ j, j < i + 1 → valV kL (Sum.inl (Mir.absI ((Mir.frm rs).getD j 0)) : Key) = some (.int (Mir.lvAt (Mir.frm rs) j))) ∧ ∀ j, j < i + 1 → valV kC (Sum.inl (Mir.absI ((Mir.frm rs).getD j 0)) : Key) = some (.int (Mir.cmAt (Mir.frm rs) j)) := fun u v hu' hv' => by
        have zL := length_putK kL (Sum.inl (Mir.absI x) : Key) (V.int u)
        have zC := length_putK kC (Sum.inl (Mir.absI x) : Key) (V.int v)
        have n1 : t1 ≠ dL := fun e => by rw [e, hL4] at h4; cases h4
        have n2 : t1 ≠ dC := fun e => by rw [e, hC4] at h4; cases h4
        have hC5 : upd H4 dL (.dK (putK kL (Sum.inl (Mir.absI x) : Key) (V.int u))) dC = some (.dK kC) := by rw [upd_ne (Ne.symm ne)]; exact hC4
        refine ⟨_, DPut.k (k := Sum.inl (Mir.absI x)) hL4 (small1000 (by omega)), _, DPut.k (k := Sum.inl (Mir.absI x)) hC5 (small1000 (by omega)), putK kL (Sum.inl (Mir.absI x) : Key) (V.int u), putK kC (Sum.inl (Mir.absI x) : Key) (V.int v), (s4.upd hdL).upd hdC0, ?_, ?_, upd_same, by omega, by omega, ?_, ?_⟩
        · rw [upd_ne n2, upd_ne n1]; exact h4
        · rw [upd_ne ne, upd_same]
        · have z := Mir.put_amt nd (g := fun j => V.int (Mir.lvAt (Mir.frm rs) j)) hi vL
          rw [hxg, ← hu'] at z
          exact z
        · have z := Mir.put_amt nd (g := fun j => V.int (Mir.cmAt (Mir.frm rs) j)) hi vC
          rw [hxg, ← hv'] at z
          exact z
      refine ⟨tt, _, rfl, SqT.of htt4, rfl, _, _, rfl, _, _, rfl, rfl, ?_⟩
      refine ⟨_, rfl, _, _, rfl, rfl, _, rfl, ?_⟩
      refine ite2 (fun h2 => ?_) (fun h2 => ?_)
      · have h2 : x < 0 := of_decide_eq_true h2
        obtain ⟨H5, p5, H6, p6, r⟩ := fin ((i : Int) - 1) i (by unfold Mir.lvAt; rw [hxg, if_pos h2]) (by unfold Mir.cmAt; rw [hxg, if_pos h2])
        refine ⟨_, rfl, _, _, rfl, rfl, _, rfl, _, rfl, _, rfl, dL, H5, rfl, p5, ?_⟩
        refine ⟨_, rfl, _, _, rfl, rfl, _, rfl, iteYes (decide_eq_true h2) ?_⟩
        · obtain ⟨kL, kC, r⟩ := r
          exact ⟨_, rfl, _, rfl, _, rfl, _, rfl, dC, H6, rfl, p6, _, _, kL, kC, rfl, r⟩
      · have h2 : ¬ x < 0 := fun z => h2 (decide_eq_true z)
        obtain ⟨H5, p5, H6, p6, r⟩ := fin i ((i : Int) - 1) (by unfold Mir.lvAt; rw [hxg, if_neg h2]) (by unfold Mir.cmAt; rw [hxg, if_neg h2])
        refine ⟨_, rfl, _, rfl, _, rfl, _, rfl, dL, H5, rfl, p5, ?_⟩
        refine ⟨_, rfl, _, _, rfl, rfl, _, rfl, iteNo (decide_eq_false h2) ?_⟩
        obtain ⟨kL, kC, r⟩ := r
        exact ⟨_, rfl, _, _, rfl, rfl, _, rfl, _, rfl, _, rfl, dC, H6, rfl, p6, _, _, kL, kC, rfl, r⟩
    · rintro σ H3 ⟨v3, v4, kL, kC, rfl, s3, h1, hL, hC, lL, lC, vL, vC⟩
      rw [ivf] at vL vC
      refine ⟨_, rfl, t, _, rfl, .inr (SqT.of (s3 _ _ ht)), _, _, rfl, rfl, _, rfl, by rw [ivl]; omega, by rw [ivl]; omega, fun D hD => ?_⟩
      refine comp_range (fun i σ H4 => ∃ v : Option V, σ = [v, some (.ref dL), some (.ref dC)] ∧ Same H3 H4 ∧ Mir.TsT Mir.pr H4 D ((List.range i).map (Mir.tieI rs))) ⟨none, rfl, same_upd hD, Mir.TsT.nil upd_same⟩ ?_ ?_
      · rintro i σ H4 hi ⟨v, rfl, s4, hT⟩
        rw [ivl] at hi
        have hi : i < rs.length + 1 := by omega
        rw [Int.zero_add]
        obtain ⟨p1, p2⟩ := Mir.plF_lt fit (show i < rs.length + 2 by omega)
        obtain ⟨q1, q2⟩ := Mir.plF_lt fit (show i + 1 < rs.length + 2 by omega)
        have eL := vL _ p1
        have eC := vC _ q1
        rw [p2] at eL
        rw [q2] at eC
        have e1 : (i : Int) + 1 = ((i + 1 : Nat) : Int) := by omega
        have gL := DGet.k (k := Sum.inl (i : Int)) (s4 _ _ hL)
        have gC := DGet.k (k := Sum.inl ((i + 1 : Nat) : Int)) (s4 _ _ hC)
        rw [eL] at gL
        rw [eC] at gC
        refine gYes ?_
        refine ⟨_, rfl, _, rfl, dL, _, rfl, gL, _, rfl, _, rfl, _, _, rfl, rfl, dC, _, rfl, (by show DGet H4 dC (V.int ((i : Int) + 1)) _; rw [e1]; exact gC), by show 2 ≤ sizeLine; decide, fun tp htp => ?_⟩
        have s5 : Same H4 (upd H4 tp (.tup [.int (Mir.lvOf rs i), .int (Mir.cmOf rs (i + 1))])) := same_upd htp
        obtain ⟨ys, y1, y2, y3⟩ := (hT.same s5).snoc (t := tp) (x := Mir.tieI rs i) upd_same
        refine ⟨_, y1, small1000 (by rw [y2, List.length_map, List.length_range]; omega), _, rfl, (s4.trans s5).upd hD, ?_⟩
        rw [List.range_succ, List.map_append]
        exact y3
      · rintro σ H4 ⟨v, rfl, s4, hT⟩
        have e : (((Mir.iV rs).length : Nat) + 1 : Int).toNat = rs.length + 1 := by rw [ivl]; omega
        first | rw [e] at hT | skip
        exact k D H4 (s3.free hD) (s3.trans s4) hT
end
section
variable {P : Program} {w : World} {K : PySem.W.Frag} {mg : Str → Option Value} {base : Heap}
theorem ok_hung_together {f : Addr} {fd : FuncData} (B : Bl mg) (F : Fn K mg "hung_together" s_hung_together ["pairs"] f fd) : FnOk P w K mg base CX0 1 f fd ["pairs"] Mir.spHung := by
  refine F.fn.ok sc_hung_together (fun vs H Q E h => ?_) (fun cdv A outer s H vs Q E hr h => ?_)
  · obtain ⟨l, ps, rfl, _⟩ := h
    rfl
  · obtain ⟨l, ps, rfl, hT, hn, k⟩ := h
    have hu := hu_of hr
    refine ⟨_, (pss_cons (ps_set (i := 1) sc_hung_together.nd rfl (Or.inl rfl) pe_dnewK)
      (pss_cons (ps_for PassesOwn.never rfl (pi_list (pv 0)) (pg_tup rfl (pgs_cons (pg_name (i := 2) sc_hung_together.nd rfl (Or.inl rfl)) (pgs_cons (pg_name (i := 3) sc_hung_together.nd rfl (Or.inl rfl)) pgs_nil))) (pss_cons (ps_set (i := 4) sc_hung_together.nd rfl (Or.inl rfl) (pe_dset (pv 1) (pv 2) (pv 2) ⟨rfl, rfl, rfl, rfl⟩))
      (pss_cons (ps_set (i := 5) sc_hung_together.nd rfl (Or.inl rfl) (pe_dset (pv 1) (pv 3) (pv 3) ⟨rfl, rfl, rfl, rfl⟩))
      (pss_one (ps_for PassesOwn.never rfl (pi_list (pe_callTy (call_list_dk rfl) rfl B.list bb_list (pa_cons (pv 1) pa_nil))) (pg_name (i := 6) sc_hung_together.nd rfl (Or.inl rfl)) (pss_one (ps_if (pt_cmpR op_eq (pe_dget hu (pv 1) (pv 6) (fun _ _ => rfl)) (pv 5) (nomark _)) (pss_one (ps_dput hu (pv 1) (pv 6) (pv 4) rfl)) pss_nil)))))))
      (pss_cons (ps_set (i := 7) sc_hung_together.nd rfl (Or.inl rfl) pe_dnewK)
      (pss_cons (ps_for PassesOwn.never rfl (pi_enumL rfl B.enumerate (pa_cons (pv 0) pa_nil)) (pg_tup rfl (pgs_cons (pg_name (i := 8) sc_hung_together.nd rfl (Or.inl rfl)) (pgs_cons (pg_name (i := 9) sc_hung_together.nd rfl (Or.inl rfl)) pgs_nil))) (pss_one (ps_expr (pe_bm PySem.F.plainAttrs_list PySem.F.slot_list_append PySem.F.type_list_append mt_append (pe_dset (pv 7) (pe_dget hu (pv 1) (pe_ix ix_tup (pv 9) pe_int (fun _ _ => rfl)) (fun _ _ => rfl)) (pe_lst pa_nil) ⟨rfl, rfl, rfl, rfl⟩) (pa_cons (pv 8) pa_nil)))))
      (pss_one (ps_ret (pe_comp (NC := ["places"]) rfl (compOk0 rfl (by decide +kernel) (by decide +kernel)) (pi_vals (pv 7)) (fun _ _ _ _ => (pg_name (i := 0) (show (["places"] : List Str).Nodup by decide +kernel) rfl (Or.inl rfl))) (fun _ _ _ _ => pts_nil) (fun _ _ _ _ => (pe_callTy call_tuple_any rfl B.tuple bb_tuple (pa_cons (pv 0) pa_nil)))))))))), ?_⟩
    obtain ⟨ts, hts, hlen, htp⟩ := id hT
    have ltl : (ts.map V.ref).length = ps.length := by rw [List.length_map, hlen]
    intro dG hdG
    have ht1 : upd H dG (.dK []) l = some (.lst (ts.map V.ref)) := (same_upd hdG) _ _ hts
    refine ⟨_, rfl, l, rfl, ⟨_, SqL.of ht1⟩, for_list (K := K) (a := l) (xs := ts.map V.ref) (fun i σ H1 => ∃ (v2 v3 v4 v5 v6 : Option V) (kv : List (Key × V)), σ = [some (.ref l), some (.ref dG), v2, v3, v4, v5, v6, none, none, none] ∧ Same H H1 ∧ H1 dG = some (.dK kv) ∧ kv.length ≤ 2 * i ∧ Mir.GD kv (Mir.mk (ps.take i)) (Mir.Sn (ps.take i)))
      ⟨none, none, none, none, none, [], rfl, same_upd hdG, upd_same, Nat.le_refl _, Mir.GD.nil _ fun x ⟨p, hp, _⟩ => absurd hp List.not_mem_nil⟩ (fun i σ H1 _ ⟨_, _, _, _, _, _, _, s1, _⟩ => SqL.of (s1 _ _ hts)) ?_ ?_⟩
    · rintro i y σ H1 hy ⟨v2, v3, v4, v5, v6, kv, rfl, s1, hG, lG, gd⟩
      have hi : i < ps.length := by rw [← ltl]; exact (List.getElem?_eq_some_iff.mp hy).1
      have hpi : ps[i]? = some ps[i] := List.getElem?_eq_getElem hi
      obtain ⟨t, ht, rfl⟩ : ∃ t, ts[i]? = some t ∧ y = .ref t := by
        rw [List.getElem?_map] at hy
        obtain ⟨t, e1, e2⟩ := Option.map_eq_some_iff.mp hy
        exact ⟨t, e1, e2.symm⟩
      have htt := htp i t _ ht hpi
      have etk : ps.take (i + 1) = ps.take i ++ [ps[i]] := Mir.take_snoc hpi
      generalize ps[i] = p at htt etk hpi
      have mf := Mir.mk_fact (ps.take i)
      refine ⟨t, _, rfl, SqT.of (s1 _ _ htt), rfl, _, _, rfl, _, _, rfl, rfl, ?_⟩
      refine ⟨_, rfl, dG, rfl, .inl ⟨_, .inl hG⟩, _, rfl, _, rfl, kv, Sum.inl p.1, hG, rfl, small1000 (by omega), Mir.dset_one hG gd (mf.1 _) fun kv2 H2 l2 hG2 o2 gd2 => ?_⟩
      have s2 := Mir.Same.but s1 hdG o2
      refine ⟨_, rfl, dG, rfl, .inl ⟨_, .inl hG2⟩, _, rfl, _, rfl, kv2, Sum.inl p.2, hG2, rfl, small1000 (by omega), Mir.dset_one hG2 gd2 (fun z => mf.1 _ fun z2 => z (.inl z2)) fun kv3 H3 l3 hG3 o3 gd3 => ?_⟩
      have s3 := Mir.Same.but s2 hdG o3
      have gd3 : Mir.GD kv3 (Mir.mk (ps.take i)) (Mir.Sn (ps.take (i + 1))) := gd3.imp fun x => by
        rw [etk, Mir.sn_snoc, or_assoc]
      refine ⟨_, rfl, dG, kv3, rfl, hG3, fun lk hlk => ?_⟩
      have s4 : Same H3 (upd H3 lk (.lst (kv3.map fun kv => kV kv.1))) := same_upd hlk
      have hk4 : upd H3 lk (.lst (kv3.map fun kv => kV kv.1)) lk = some (.lst (kv3.map fun kv => kV kv.1)) := upd_same
      have hlk0 : H lk = none := s3.free hlk
      have hG4 := s4 _ _ hG3
      have s34 := s3.trans s4
      have nk : lk ≠ dG := fun z => by rw [z, hG3] at hlk; cases hlk
      generalize upd H3 lk (.lst (kv3.map fun kv => kV kv.1)) = H4 at s4 hk4 hG4 s34 ⊢
      let m := Mir.mk (ps.take i)
      refine ⟨lk, rfl, ⟨_, SqL.of hk4⟩, for_list (K := K) (a := lk) (xs := kv3.map fun kv => kV kv.1) (fun j σ H5 => ∃ (v6 : Option V) (kv5 : List (Key × V)), σ = [some (.ref l), some (.ref dG), some (.int p.1), some (.int p.2), some (.int (m p.1)), some (.int (m p.2)), v6, none, none, none] ∧ Same H H5 ∧ H5 lk = some (.lst (kv3.map fun kv => kV kv.1)) ∧ H5 dG = some (.dK kv5) ∧ kv5.length = kv3.length ∧
          Mir.GD kv5 (Mir.chg ((kv3.map Prod.fst).take j) m (m p.1) (m p.2)) (Mir.Sn (ps.take (i + 1))))
        ⟨v6, kv3, rfl, s34, hk4, hG4, rfl, gd3.congr fun x _ => by rw [List.take_zero, Mir.chg_nil]⟩ (fun j σ H5 _ ⟨_, _, _, _, h, _⟩ => SqL.of h) ?_ ?_⟩
      · rintro j y σ H5 hy ⟨v6, kv5, rfl, s5, hk5, hG5, l5, gd5⟩
        rw [List.getElem?_map] at hy
        obtain ⟨kvj, ej, rfl⟩ := Option.map_eq_some_iff.mp hy
        have ekj : (kv3.map Prod.fst)[j]? = some kvj.1 := by rw [List.getElem?_map, ej]; rfl
        obtain ⟨x, ex, hS⟩ := gd3.keys kvj.1 (List.mem_of_getElem? ekj)
        have etj : (kv3.map Prod.fst).take (j + 1) = (kv3.map Prod.fst).take j ++ [(Sum.inl x : Key)] := by rw [← ex]; exact Mir.take_snoc ekj
        rw [ex]
        have gy := gd5.yes x hS
        have g5 := DGet.k (k := Sum.inl x) hG5
        rw [gy] at g5
        refine ⟨_, rfl, _, rfl, dG, _, rfl, g5, _, rfl, rfl, _, rfl, ?_⟩
        refine ite2 (fun h2 => ?_) (fun h2 => ?_)
        · have h2 : Mir.chg ((kv3.map Prod.fst).take j) m (m p.1) (m p.2) x = m p.2 := by have z := of_decide_eq_true h2; injection z
          have zl : (putK kv5 (Sum.inl x : Key) (.int (m p.1))).length = kv5.length := Mir.len_put (by rw [gy]; rfl)
          refine ⟨_, rfl, _, rfl, _, rfl, dG, _, rfl, DPut.k (k := Sum.inl x) hG5 (small1000 (by omega)), _, _, rfl, s5.upd hdG, by rw [upd_ne nk]; exact hk5, upd_same, zl.trans l5, (gd5.put hS _).congr fun y _ => ?_⟩
          rw [etj]
          exact Mir.chg_yes h2
        · have h2 : ¬ Mir.chg ((kv3.map Prod.fst).take j) m (m p.1) (m p.2) x = m p.2 := fun z => h2 (decide_eq_true (by rw [z]))
          refine ⟨_, _, rfl, s5, hk5, hG5, l5, gd5.congr fun y _ => ?_⟩
          rw [etj]
          exact Mir.chg_no h2
      · rintro σ H5 ⟨v6, kv5, rfl, s5, hk5, hG5, l5, gd5⟩
        refine ⟨_, _, _, _, _, kv5, rfl, s5, hG5, by omega, gd5.congr fun y hy => ?_⟩
        have hin : (Sum.inl y : Key) ∈ (kv3.map Prod.fst).take (kv3.map fun kv => kV kv.1).length := by
          rw [List.length_map, List.take_of_length_le (by rw [List.length_map]; exact Nat.le_refl _)]
          exact valV_in (gd3.yes y hy)
        rw [etk, Mir.mk_snoc]
        exact Mir.chg_all hin
    · rintro σ H1 ⟨v2, v3, v4, v5, v6, kv, rfl, s1, hG, lG, gd⟩
      rw [ltl, List.take_length] at gd
      rw [ltl] at lG
      intro dF hdF
      have s2 : Same H1 (upd H1 dF (.dK [])) := same_upd hdF
      have hdF0 : H dF = none := s1.free hdF
      have hF2 : upd H1 dF (.dK []) dF = some (.dK []) := upd_same
      have hG2 := s2 _ _ hG
      have nGF : dG ≠ dF := fun z => by rw [← z, hG] at hdF; cases hdF
      have s12 := s1.trans s2
      generalize upd H1 dF (.dK []) = H2 at s2 hF2 hG2 s12 ⊢
      let c : Nat → Int := fun k => Mir.mk ps (ps.getD k (0, 0)).1
      refine ⟨_, rfl, l, rfl, ⟨_, SqL.of (s12 _ _ hts)⟩, for_enumL (K := K) (a := l) (xs := ts.map V.ref) (fun i σ H3 => ∃ (v8 v9 : Option V) (kf : List (Key × V)) (as : List Addr), σ = [some (.ref l), some (.ref dG), v2, v3, v4, v5, v6, some (.ref dF), v8, v9] ∧ Same H H3 ∧ H3 dG = some (.dK kv) ∧ Mir.FG H H3 dF kf (Mir.grp c i) as)
        ⟨none, none, [], [], rfl, s12, hG2, ⟨hF2, rfl, rfl, List.nodup_nil, fun j a e h => by simp at h, fun a ha => absurd ha List.not_mem_nil⟩⟩ (fun i σ H3 _ ⟨_, _, _, _, _, s3, _⟩ => SqL.of (s3 _ _ hts)) ?_ ?_⟩
      · rintro i y tt σ H3 hy ⟨v8, v9, kf, as, rfl, s3, hG3, fg⟩ htt
        have hi : i < ps.length := by rw [← ltl]; exact (List.getElem?_eq_some_iff.mp hy).1
        have hpi : ps[i]? = some ps[i] := List.getElem?_eq_getElem hi
        obtain ⟨t, ht, rfl⟩ : ∃ t, ts[i]? = some t ∧ y = .ref t := by
          rw [List.getElem?_map] at hy
          obtain ⟨t, e1, e2⟩ := Option.map_eq_some_iff.mp hy
          exact ⟨t, e1, e2.symm⟩
        have htt' := htp i t _ ht hpi
        have ec : c i = Mir.mk ps ps[i].1 := by
          show Mir.mk ps (ps.getD i (0, 0)).1 = _
          rw [List.getD_eq_getElem?_getD, hpi]
          rfl
        have hS : Mir.Sn ps ps[i].1 := ⟨ps[i], List.getElem_mem hi, .inl rfl⟩
        have s4 : Same H3 (upd H3 tt (.tup [.int i, .ref t])) := same_upd htt
        have ht4 : upd H3 tt (.tup [.int i, .ref t]) tt = some (.tup [.int i, .ref t]) := upd_same
        have hG4 := s4 _ _ hG3
        have fg4 := fg.same s4
        have s34 := s3.trans s4
        generalize upd H3 tt (.tup [.int i, .ref t]) = H4 at s4 ht4 hG4 fg4 s34 ⊢
        have gy := gd.yes _ hS
        rw [← ec] at gy
        have g4 := DGet.k (k := Sum.inl ps[i].1) hG4
        rw [gy] at g4
        have hl4 := fg4.len
        have gl := Mir.grp_len c i
        refine ⟨tt, _, rfl, SqT.of ht4, rfl, _, _, rfl, _, _, rfl, rfl, ?_⟩
        refine ⟨_, rfl, dF, rfl, .inl ⟨_, .inl fg4.at'⟩, _, rfl, _, rfl, t, _, _, _, rfl, rfl, SqT.of (s34 _ _ htt'), rfl, dG, _, rfl, g4, by show 0 ≤ sizeLine; decide, fun n hn4 => ?_⟩
        have s5 : Same H4 (upd H4 n (.lst [])) := same_upd hn4
        have hn5 : upd H4 n (.lst []) n = some (.lst []) := upd_same
        have hG5 := s5 _ _ hG4
        have fg5 := fg4.same s5
        have s35 := s34.trans s5
        have nas : n ∉ as := fun hm => by
          obtain ⟨j, hj⟩ := List.getElem?_of_mem hm
          have hjl : j < (Mir.grp c i).length := by rw [← hl4.2]; exact (List.getElem?_eq_some_iff.mp hj).1
          have := fg4.lst j n _ hj (List.getElem?_eq_getElem hjl)
          rw [hn4] at this
          cases this
        have nF : dF ≠ n := fun z => by rw [← z, fg4.at'] at hn4; cases hn4
        have nG : dG ≠ n := fun z => by rw [← z, hG4] at hn4; cases hn4
        have hn0 : H n = none := s34.free hn4
        generalize upd H4 n (.lst []) = H5 at s5 hn5 hG5 fg5 s35 ⊢
        refine ⟨kf, Sum.inl (c i), fg5.at', rfl, small1000 (by omega), fun v hv => ?_, fun hv => ?_⟩
        · obtain ⟨a, L, rfl, ha, ⟨e, he, eL⟩, fg6⟩ := fg5.old (Mir.grp_nodup c i) (x := (i : Int)) hv
          have hL : L.length ≤ i := by rw [← eL]; exact (Mir.grp_ok c i).len e he
          have nGa : dG ≠ a := fun z => by rw [← z, hG5] at ha; cases ha
          have ha0 : H a = none := by
            have hmem : V.ref a ∈ kf.map Prod.snd := by
              unfold valV at hv
              obtain ⟨q, q1, q2⟩ := Option.map_eq_some_iff.mp hv
              exact List.mem_map.mpr ⟨q, List.mem_of_find?_eq_some q1, q2⟩
            rw [fg5.vs] at hmem
            obtain ⟨a', ha', ea⟩ := List.mem_map.mp hmem
            injection ea with ea
            rw [← ea]
            exact fg5.new a' ha'
          refine ⟨.inl ⟨rfl, _, SqL.of ha⟩, _, rfl, a, _, _, rfl, rfl, ha, small1000 (by rw [Mir.iV_len]; omega), ?_⟩
          exact ⟨_, _, kf, as, rfl, s35.upd ha0, by rw [upd_ne nGa]; exact hG5, fg6⟩
        · have fg6 := fg5.fresh (x := (i : Int)) hv hn5 hn0 nas
          have hn6 : upd H5 dF (.dK (putK kf (Sum.inl (c i) : Key) (.ref n))) n = some (.lst []) := by rw [upd_ne (Ne.symm nF)]; exact hn5
          refine ⟨.inl ⟨rfl, _, SqL.of hn6⟩, _, rfl, n, _, _, rfl, rfl, hn6, by show 0 < sizeLine; decide, ?_⟩
          exact ⟨_, _, _, _, rfl, (s35.upd hdF0).upd hn0, by rw [upd_ne nG, upd_ne nGF]; exact hG5, fg6⟩
      · rintro σ H3 ⟨v8, v9, kf, as, rfl, s3, hG3, fg⟩
        rw [ltl] at fg
        have hl := fg.len
        have gl := Mir.grp_len c ps.length
        have gok := Mir.grp_ok c ps.length
        refine ⟨_, rfl, dF, kf, rfl, fg.at', fun ob D hD => ?_⟩
        have hD3 : H3 D = none := by
          by_cases e : D = dF
          · rw [e, upd_same] at hD; cases hD
          · rwa [upd_ne e] at hD
        have hF4 : upd H3 dF (.frz ob (.dK kf)) dF = some (.frz ob (.dK kf)) := upd_same
        have ls4 : ∀ (j : Nat) (a : Addr) (e : Int × List Int), as[j]? = some a → (Mir.grp c ps.length)[j]? = some e → upd H3 dF (.frz ob (.dK kf)) a = some (.lst (Mir.iV e.2)) := fun j a e h1 h2 => by
          have z := fg.lst j a e h1 h2
          rw [upd_ne fun q => by have := fg.at'; rw [← q, z] at this; cases this]
          exact z
        have s4 : Same H (upd H3 dF (.frz ob (.dK kf))) := s3.upd hdF0
        generalize upd H3 dF (.frz ob (.dK kf)) = H4 at hD hF4 ls4 s4 ⊢
        refine comp_vals (fun i σ H5 => ∃ v : Option V, σ = [v] ∧ Same H4 H5 ∧ Mir.TsT Mir.iV H5 D (((Mir.grp c ps.length).take i).map Prod.snd)) ⟨none, rfl, same_upd hD, Mir.TsT.nil upd_same⟩ (fun i σ H5 _ ⟨_, _, s5, _⟩ => s5 _ _ hF4) ?_ ?_
        · rintro i y σ H5 hy ⟨v, rfl, s5, hT5⟩
          have hy : (kf.map Prod.snd)[i]? = some y := hy
          rw [fg.vs, List.getElem?_map] at hy
          obtain ⟨a, ha, rfl⟩ := Option.map_eq_some_iff.mp hy
          have hi : i < (Mir.grp c ps.length).length := by rw [← hl.2]; exact (List.getElem?_eq_some_iff.mp ha).1
          have he := List.getElem?_eq_getElem hi
          have la := s5 _ _ (ls4 i a _ ha he)
          refine gYes ?_
          refine ⟨_, rfl, a, _, rfl, .inl la, fun tp H6 s6 htp => ?_⟩
          obtain ⟨ys, y1, y2, y3⟩ := (hT5.same s6).snoc (t := tp) (x := (Mir.grp c ps.length)[i].2) htp
          refine ⟨_, y1, small1000 (by rw [y2, List.length_map, List.length_take]; omega), _, rfl, (s5.trans s6).upd hD, ?_⟩
          rw [Mir.take_snoc he, List.map_append]
          exact y3
        · rintro σ H5 ⟨v, rfl, s5, hT5⟩
          rw [List.take_of_length_le (by omega)] at hT5
          exact k D H5 (s3.free hD3) (s4.trans s5) hT5
end
section
variable {P : Program} {w : World} {K : PySem.W.Frag} {mg : Str → Option Value} {base : Heap}
theorem ok_tie_rings {f f1 f2 f3 : Addr} {fd fd1 fd2 fd3 : FuncData} (B : Bl mg) (F : Fn K mg "tie_rings" s_tie_rings ["row"] f fd) (F_framed : Fn K mg "framed" s_framed ["row"] f1 fd1) (F_tie_gaps : Fn K mg "tie_gaps" s_tie_gaps ["row"] f2 fd2) (F_hung_together : Fn K mg "hung_together" s_hung_together ["pairs"] f3 fd3) : FnOk P w K mg base CX0 3 f fd ["row"] Mir.spTieRings := by
  have G_tie_gaps : FnOk P w K mg base CX0 2 f2 fd2 ["row"] Mir.spTieGaps := ok_tie_gaps B F_tie_gaps F_framed
  have G_hung_together : FnOk P w K mg base CX0 1 f3 fd3 ["pairs"] Mir.spHung := ok_hung_together B F_hung_together
  refine F.fn.ok sc_tie_rings (fun vs H Q E h => ?_) (fun cdv A outer s H vs Q E hr h => ?_)
  · obtain ⟨t, rs, rfl, _⟩ := h
    rfl
  · obtain ⟨t, rs, rfl, ht, fit, k⟩ := h
    have hn := fit.small
    refine ⟨_, (pss_one (ps_ret (pe_fn G_hung_together F_hung_together (hr.mono (by decide)) (pa_cons (pe_fn G_tie_gaps F_tie_gaps (hr.mono (by decide)) (pa_cons (pv 0) pa_nil)) pa_nil)))), ?_⟩
    refine ⟨_, rfl, t, rs, rfl, ht, fit, fun l H1 hl s1 hT => ?_⟩
    refine ⟨l, _, rfl, hT, by rw [Mir.tieL_len]; omega, fun r H2 hr2 s2 hT2 => ?_⟩
    rw [← Mir.rings_hung] at hT2
    exact k r H2 (s1.free hr2) (s1.trans s2) hT2
end
section
variable {P : Program} {w : World} {K : PySem.W.Frag} {mg : Str → Option Value} {base : Heap}
theorem ok_turn_about {f C : Addr} {fd : FuncData} (B : Bl mg) (Z : ECls K mg "BadStretch" C) (F : Fn K mg "turn_about" s_turn_about ["row", "first", "last"] f fd) : FnOk P w K mg base (CXo P w) 1 f fd ["row", "first", "last"] (Mir.spTurnAbout C) := by
  refine F.fn.okX2 sc_turn_about (fun vs H Q E h => ?_) (fun cdv A outer s H vs Q E hr h own => ?_)
  · obtain ⟨t, rs, f, l, rfl, _⟩ := h
    rfl
  · obtain ⟨t, rs, fi, la, rfl, ht, hn, sf, sl, hgood, hbad⟩ := h
    have nd1 : (["number"] : List Str).Nodup := by decide +kernel
    have one : 1 ≤ sizeLine := by decide
    have hlen : (((Mir.iV rs).length : Nat) : Int) = rs.length := by rw [Mir.iV_len]
    refine ⟨_, pss_cons (ps_if (pt_not (pt_chain3 op_le op_le op_lt pe_int (pv 1) (pv 2) (pe_callB call_len_seq rfl B.len bb_len (pa_cons (pv 0) pa_nil))))
          (pss_one (ps_raise rfl Z (pa_cons (pe_fs (pj_str (pj_int (pv 1) (pj_str (pj_int (pv 2) pj_nil)))) (by decide)) pa_nil))) pss_nil)
      (pss_cons (ps_comp (ix := 3) (NC := ["number"]) sc_turn_about.nd rfl (Or.inl rfl) rfl (compOk0 rfl (by decide +kernel) (by decide +kernel)) (pi_revT rfl B.reversed (pa_cons (pe_slice sl_tupA (pv 0) (po_some (pv 1)) (po_some (pe_op op_add (pv 2) pe_int))) pa_nil))
          (fun _ _ _ _ => pg_name (i := 0) nd1 rfl (Or.inl rfl)) (fun _ _ _ _ => pts_nil) (fun _ _ _ _ => pe_un un_neg (pv 0)))
      (pss_one (ps_ret (pe_op op_catA (pe_op op_catA (pe_slice sl_tupA (pv 0) po_none (po_some (pv 1))) (pe_callTy call_tuple_any rfl B.tuple bb_tuple (pa_cons (pv 3) pa_nil))) (pe_slice sl_tupA (pv 0) (po_some (pe_op op_add (pv 2) pe_int)) po_none))))), ?_⟩
    refine ⟨_, rfl, _, _, rfl, rfl, _, rfl, ?_⟩
    refine ite2 (fun h1 => ?_) (fun h1 => ?_)
    rotate_left
    · have no : ¬ Mir.TurnOk rs.length (fi, la) := fun G => h1 (decide_eq_true G.1)
      exact ⟨_, rfl, iteT ⟨⟨_, rfl, rfl, ⟨_, rfl, sf⟩, _, rfl, rfl, ⟨_, rfl, sl⟩, trivial⟩, fun x => ⟨one, hbad no H (Same.refl _)⟩⟩⟩
    refine ⟨_, rfl, _, _, rfl, rfl, _, rfl, ?_⟩
    refine ite2 (fun h2 => ?_) (fun h2 => ?_)
    rotate_left
    · have no : ¬ Mir.TurnOk rs.length (fi, la) := fun G => h2 (decide_eq_true G.2.1)
      exact ⟨_, rfl, iteT ⟨⟨_, rfl, rfl, ⟨_, rfl, sf⟩, _, rfl, rfl, ⟨_, rfl, sl⟩, trivial⟩, fun x => ⟨one, hbad no H (Same.refl _)⟩⟩⟩
    refine ⟨_, rfl, t, _, rfl, .inr (SqT.of ht), _, _, rfl, rfl, _, rfl, ?_⟩
    refine ite2 (fun h3 => ?_) (fun h3 => ?_)
    · have no : ¬ Mir.TurnOk rs.length (fi, la) := fun G => by
        have z := G.2.2
        have z2 : la < (((Mir.iV rs).length : Nat) : Int) := by rw [hlen]; exact z
        rw [decide_eq_true z2] at h3
        cases h3
      exact ⟨⟨_, rfl, rfl, ⟨_, rfl, sf⟩, _, rfl, rfl, ⟨_, rfl, sl⟩, trivial⟩, fun x => ⟨one, hbad no H (Same.refl _)⟩⟩
    have h1 := of_decide_eq_true h1
    have h2 := of_decide_eq_true h2
    have h3 : la < rs.length := by
      refine Classical.byContradiction fun z => h3 ?_
      have z2 : ¬ la < (((Mir.iV rs).length : Nat) : Int) := by rw [hlen]; exact z
      rw [decide_eq_false z2]
      rfl
    have ok : Mir.TurnOk rs.length (fi, la) := ⟨h1, h2, h3⟩
    have hg := hgood ok
    obtain ⟨f, rfl⟩ : ∃ f : Nat, fi = f := ⟨fi.toNat, by omega⟩
    obtain ⟨l, rfl⟩ : ∃ l : Nat, la = l := ⟨la.toNat, by omega⟩
    rw [Int.toNat_natCast, Int.toNat_natCast] at hg
    have hfl : f ≤ l := by omega
    have hln : l < rs.length := by omega
    have el : (l : Int) + 1 = ((l + 1 : Nat) : Int) := by omega
    have ivl : (Mir.iV rs).length = rs.length := Mir.iV_len rs
    refine ⟨_, rfl, _, rfl, _, rfl, _, rfl, _, _, rfl, rfl, _, rfl, t, _, rfl, ht, fun p H1 s1 hp => ?_⟩
    have emid : cutV (Mir.iV rs) (some (f : Int)) (some ((l : Int) + 1)) = Mir.iV ((rs.drop f).take (l + 1 - f)) := by
      rw [el, Mir.cut_mid (by omega) (by omega)]
      unfold Mir.iV
      rw [List.map_take, List.map_drop]
    rw [emid] at hp
    generalize hmid : (rs.drop f).take (l + 1 - f) = mid at hp
    have hml : mid.length ≤ 100 := by rw [← hmid, List.length_take, List.length_drop]; omega
    refine ⟨p, _, rfl, SqT.of hp, fun D hD => comp_revT (K := K) (a := p) (xs := Mir.iV mid) (fun i σ H2 => ∃ v : Option V, σ = [v] ∧ Same H1 H2 ∧ H2 D = some (.lst (Mir.iV ((mid.reverse.take i).map fun x => -x)))) ⟨none, rfl, same_upd hD, upd_same⟩ (fun i σ H2 _ ⟨_, _, s2, _⟩ => SqT.of (s2 _ _ hp)) ?_ ?_⟩
    · rintro i y σ H2 hy ⟨v, rfl, s2, hd⟩
      have hrev : (Mir.iV mid).reverse = Mir.iV mid.reverse := by unfold Mir.iV; rw [List.map_reverse]
      rw [hrev] at hy
      obtain ⟨x, hx, rfl⟩ := Mir.iV_get' hy
      refine gYes ?_
      refine ⟨_, rfl, _, rfl, _, hd, small1000 (by rw [Mir.iV_len, List.length_map, List.length_take, List.length_reverse]; omega), _, rfl, s2.upd hD, ?_⟩
      rw [upd_same, Mir.take_snoc hx, List.map_append]
      unfold Mir.iV
      rw [List.map_append]
      rfl
    · rintro σ H2 ⟨v, rfl, s2, hd⟩
      rw [Mir.iV_len, List.take_of_length_le (by rw [List.length_reverse]; exact Nat.le_refl _)] at hd
      have s12 := s1.trans s2
      refine ⟨_, rfl, _, rfl, _, rfl, t, _, rfl, s12 _ _ ht, fun p2 H3 s3 hp2 => ?_⟩
      rw [Mir.cut_to (by omega)] at hp2
      refine ⟨_, rfl, D, _, rfl, .inl (s3 _ _ hd), fun p3 H4 s4 hp3 => ?_⟩
      have l2 : ((Mir.iV rs).take f).length ≤ 100 := by rw [List.length_take]; omega
      have l3 : (Mir.iV (mid.reverse.map fun x => -x)).length ≤ 100 := by rw [Mir.iV_len, List.length_map, List.length_reverse]; exact hml
      refine ⟨p2, p3, _, _, rfl, rfl, s4 _ _ hp2, hp3, Nat.le_of_lt (small1000 (by omega)), fun p5 H5 s5 hp5 => ?_⟩
      have s15 := ((s12.trans s3).trans s4).trans s5
      refine ⟨_, rfl, _, rfl, _, _, rfl, rfl, _, rfl, t, _, rfl, s15 _ _ ht, fun p6 H6 s6 hp6 => ?_⟩
      rw [el, Mir.cut_from (by omega)] at hp6
      have l6 : ((Mir.iV rs).drop (l + 1)).length ≤ 100 := by rw [List.length_drop]; omega
      refine ⟨p5, p6, _, _, rfl, rfl, s6 _ _ hp5, hp6, Nat.le_of_lt (small1000 (by rw [List.length_append]; omega)), fun p7 H7 s7 hp7 => ?_⟩
      refine hg p7 H7 ((s15.trans s6).trans s7) ?_
      rw [hp7, ← Mir.turnP_parts hfl hln, hmid]
      unfold Mir.iV
      rw [List.map_append, List.map_append, List.map_take, List.map_drop]
end
section
variable {P : Program} {w : World} {K : PySem.W.Frag} {mg : Str → Option Value} {base : Heap}
theorem ok_turns_all {f : Addr} {fd : FuncData} (B : Bl mg) (F : Fn K mg "turns_all" s_turns_all ["many"] f fd) : FnOk P w K mg base CX0 1 f fd ["many"] Mir.spTurnsAll := by
  refine F.fn.ok sc_turns_all (fun vs H Q E h => ?_) (fun cdv A outer s H vs Q E hr h => ?_)
  · obtain ⟨n, rfl, _⟩ := h
    rfl
  · obtain ⟨n, rfl, hn, k⟩ := h
    have nd2 : (["last", "first"] : List Str).Nodup := by decide +kernel
    refine ⟨_, pss_cons (ps_set (i := 1) sc_turns_all.nd rfl (Or.inl rfl) (pe_lst pa_nil))
      (pss_cons (ps_for PassesOwn.never rfl (pi_range1 rfl B.range (pa_cons (pv 0) pa_nil)) (pg_name (i := 2) sc_turns_all.nd rfl (Or.inr rfl))
        (pss_one (ps_expr (pe_bm PySem.F.plainAttrs_list PySem.F.slot_list_extend PySem.F.type_list_extend mt_extend (pv 1) (pa_cons (pe_comp (NC := ["last", "first"]) rfl (compOk2 (c := s.heap.objs.size + 1) (j := 2) rfl (by decide +kernel) (by decide +kernel) rfl rfl rfl rfl rfl)
          (pi_range2 rfl B.range (pa_cons (pv 2) (pa_cons (pv 0) pa_nil))) (fun _ _ _ _ => pg_name (i := 0) nd2 rfl (Or.inl rfl)) (fun _ _ _ _ => pts_nil) (fun _ _ _ _ => pe_tup (pa_cons (pv 1) (pa_cons (pv 0) pa_nil)))) pa_nil)))))
      (pss_one (ps_ret (pv 1)))), ?_⟩
    refine ⟨by show 0 ≤ sizeLine; decide, fun l hl => ?_⟩
    have s0 : Same H (upd H l (.lst [])) := same_upd hl
    refine ⟨_, rfl, _, rfl, by omega, by omega, for_range (lo := 0) (n := ((n : Nat) : Int).toNat) (fun i σ H2 => ∃ v2 : Option V, σ = [some (.int n), some (.ref l), v2] ∧ Same H H2 ∧ Mir.TsT Mir.pr H2 l (Mir.allTurns n i)) ⟨none, rfl, s0, Mir.TsT.nil upd_same⟩ ?_ ?_⟩
    · rintro i σ H2 hi ⟨v2, rfl, s2, hT⟩
      have hi' : i < n := by omega
      rw [Int.zero_add]
      obtain ⟨vs, hv1, hv2⟩ := hT.len
      have hlT := Mir.allTurns_len n i
      have h40 : n * i ≤ 1600 := Nat.mul_le_mul hn (by omega : i ≤ 40)
      refine ⟨_, rfl, .inl ⟨rfl, _, SqL.of hv1⟩, _, rfl, _, rfl, _, _, rfl, ⟨by omega, by omega, by omega, by omega⟩, fun D hD => ?_⟩
      refine comp_range (fun j σ H3 => ∃ v : Option V, σ = [v, some (.int i)] ∧ Same H2 H3 ∧ Mir.TsT Mir.pr H3 D ((List.range j).map fun (m : Nat) => ((i : Int), (i : Int) + m))) ⟨none, rfl, same_upd hD, Mir.TsT.nil upd_same⟩ ?_ ?_
      · rintro j σ H3 hj ⟨v, rfl, s3, hR⟩
        refine gYes ?_
        refine ⟨_, rfl, _, rfl, by show 2 ≤ sizeLine; decide, fun tp htp => ?_⟩
        have s4 : Same H3 (upd H3 tp (.tup [.int i, .int ((i : Int) + j)])) := same_upd htp
        obtain ⟨ys, y1, y2, y3⟩ := (hR.same s4).snoc (t := tp) (x := ((i : Int), (i : Int) + j)) upd_same
        refine ⟨_, y1, small1000 (by rw [y2, List.length_map, List.length_range]; omega), _, rfl, (s3.trans s4).upd hD, ?_⟩
        rw [List.range_succ, List.map_append]
        exact y3
      · rintro σ H3 ⟨v, rfl, s3, hR⟩
        have e : ((n : Int) - (i : Int)).toNat = n - i := by omega
        rw [e] at hR
        obtain ⟨us, hu1, hu2⟩ := hR.tup
        obtain ⟨ts, ht1, ht2⟩ := (hT.same s3).tup
        have lt : ts.length = (Mir.allTurns n i).length := ht2.1
        have lu : us.length = n - i := by rw [hu2.1, List.length_map, List.length_range]
        refine ⟨l, D, _, _, rfl, rfl, ht1, hu1, Nat.le_of_lt (Nat.lt_of_le_of_lt (by rw [List.length_map, List.length_map]; exact (show _ ≤ 1700 by omega)) (by decide)), _, rfl, (s2.trans s3).upd hl, ?_⟩
        rw [Mir.allTurns_succ]
        exact ((ht2.app hu2).upd ht1).tst (by rw [upd_same, List.map_append])
    · rintro σ H2 ⟨v2, rfl, s2, hT⟩
      have e : ((n : Nat) : Int).toNat = n := by omega
      rw [e] at hT
      exact ⟨_, rfl, k l H2 hl s2 hT⟩
end
section
variable {P : Program} {w : World} {K : PySem.W.Frag} {mg : Str → Option Value} {base : Heap}
theorem ok_law_cell_at {f : Addr} {fd : FuncData} (B : Bl mg) (F : Fn K mg "_law_cell_at" s_law_cell_at ["script", "k"] f fd) : FnOk P w K mg base CX0 1 f fd ["script", "k"] (Mir.spCellAt K) := by
  refine F.fn.ok sc_law_cell_at (fun vs H Q E h => ?_) (fun cdv A outer s H vs Q E hr h => ?_)
  · obtain ⟨a, ns, k, rfl, _⟩ := h
    rfl
  · obtain ⟨a, ns, k, rfl, hS, q⟩ := h
    refine ⟨_, pss_cons (ps_if (pt_cmpR op_lt (pv 1) (pe_callB call_len_seq rfl B.len bb_len (pa_cons (pv 0) pa_nil)) (nomark _)) (pss_one (ps_ret (pe_ix ix_list (pv 0) (pv 1) (fun _ _ => rfl)))) pss_nil) (pss_one (ps_ret pe_int)), ?_⟩
    refine ⟨_, rfl, _, rfl, a, _, rfl, .inl hS, _, _, rfl, rfl, _, rfl, ?_⟩
    refine ite2 (fun h1 => ?_) (fun h1 => ?_)
    · have h1 := of_decide_eq_true h1
      rw [List.length_map] at h1
      have hk : k < ns.length := by omega
      have e : (ns.map V.int)[k]? = some (.int ns[k]) := by rw [List.getElem?_map, List.getElem?_eq_getElem hk]; rfl
      exact ⟨_, rfl, _, rfl, a, _, _, _, rfl, rfl, hS, atI_nat e, q _⟩
    · exact q 0
end
section
variable {P : Program} {w : World} {K : PySem.W.Frag} {mg : Str → Option Value} {base : Heap}
theorem ok_law_row_by {f fC : Addr} {fd fdC : FuncData} (B : Bl mg) (F : Fn K mg "_law_row_by" s_law_row_by ["script", "at", "many"] f fd) (FC : Fn K mg "_law_cell_at" s_law_cell_at ["script", "k"] fC fdC) : FnOk P w K mg base CX0 2 f fd ["script", "at", "many"] (Mir.spRowBy K) := by
  have GC : FnOk P w K mg base CX0 1 fC fdC ["script", "k"] (Mir.spCellAt K) := ok_law_cell_at B FC
  refine F.fn.ok sc_law_row_by (fun vs H Q E h => ?_) (fun cdv A outer s H vs Q E hr h => ?_)
  · obtain ⟨a, ns, at', many, rfl, _⟩ := h
    rfl
  · obtain ⟨a, ns, at', many, rfl, hS, hm, k⟩ := h
    refine ⟨_, pss_cons (ps_set (i := 3) sc_law_row_by.nd rfl (Or.inl rfl) (pe_lst pa_nil))
      (pss_cons (ps_for PassesOwn.never rfl (pi_range1 rfl B.range (pa_cons (pv 2) pa_nil)) (pg_name (i := 4) sc_law_row_by.nd rfl (Or.inl rfl))
        (pss_cons (ps_set (i := 5) sc_law_row_by.nd rfl (Or.inl rfl) (pe_op op_mod (pe_fn GC FC hr (pa_cons (pv 0) (pa_cons (pe_op op_add (pv 1) (pv 4)) pa_nil))) (pe_op op_pow pe_int pe_int)))
        (pss_cons (ps_set (i := 6) sc_law_row_by.nd rfl (Or.inl rfl) (pe_op op_mod (pe_op op_fdiv (pv 5) pe_int) (pe_op op_add (pe_callB call_len_seq rfl B.len bb_len (pa_cons (pv 3) pa_nil)) pe_int)))
        (pss_cons (ps_set (i := 7) sc_law_row_by.nd rfl (Or.inl rfl) (pe_ix ix_list (pe_lst (pa_cons (pe_op op_add (pv 4) pe_int) (pa_cons (pe_op op_sub (pe_op op_sub pe_int (pv 4)) pe_int) pa_nil))) (pe_op op_mod (pv 5) pe_int) (fun _ _ => rfl)))
        (pss_one (ps_set (i := 3) sc_law_row_by.nd rfl (Or.inl rfl) (pe_op op_cat (pe_op op_cat (pe_slice sl_list (pv 3) po_none (po_some (pv 6))) (pe_lst (pa_cons (pv 7) pa_nil))) (pe_slice sl_list (pv 3) (po_some (pv 6)) po_none))))))))
      (pss_one (ps_ret (pe_callTy call_tuple_any rfl B.tuple bb_tuple (pa_cons (pv 3) pa_nil))))), ?_⟩
    refine ⟨by show 0 ≤ sizeLine; decide, fun l0 hl0 => ?_⟩
    have s0 : Same H (upd H l0 (.lst [])) := same_upd hl0
    refine ⟨_, rfl, _, rfl, by omega, by omega, for_range (lo := 0) (n := ((many : Nat) : Int).toNat) (fun i σ H2 => ∃ (l : Addr) (rs : List Int) (v4 v5 v6 v7 : Option V), σ = [some (.ref a), some (.int at'), some (.int many), some (.ref l), v4, v5, v6, v7] ∧ Same H H2 ∧ H2 l = some (.lst (Mir.iV rs)) ∧ rs.length = i ∧ (Mir.absL rs).Perm (Mir.from1 i))
      ⟨l0, [], none, none, none, none, rfl, s0, upd_same, rfl, List.Perm.refl _⟩ ?_ ?_⟩
    · rintro i σ H2 hi ⟨l, rs, v4, v5, v6, v7, rfl, s2, hl, hlr, hp⟩
      have hi' : i < many := by omega
      rw [Int.zero_add]
      have p12 : (0 : Int) < 10 ^ (12 : Int).toNat := by decide +kernel
      have hrl : (((Mir.iV rs).length : Nat) : Int) = i := by rw [Mir.iV_len, hlr]
      have ea : (at' : Int) + (i : Int) = ((at' + i : Nat) : Int) := by omega
      refine ⟨_, rfl, _, rfl, _, rfl, _, _, rfl, rfl, a, ns, at' + i, (by show [V.ref a, V.int ((at' : Int) + (i : Int))] = _; rw [ea]), s2.seq hS, fun c => ?_⟩
      refine ⟨_, _, rfl, rfl, ⟨by decide, by decide, by decide⟩, _, _, rfl, rfl, p12, ?_⟩
      dsimp only
      generalize c % 10 ^ (12 : Int).toNat = d
      have g0 : 0 ≤ d / 2 % ((i : Int) + 1) := Int.emod_nonneg _ (by omega)
      have g1 : d / 2 % ((i : Int) + 1) < (i : Int) + 1 := Int.emod_lt_of_pos _ (by omega)
      obtain ⟨spot, hspot⟩ : ∃ spot : Nat, d / 2 % ((i : Int) + 1) = spot := ⟨(d / 2 % ((i : Int) + 1)).toNat, by omega⟩
      have hsp : spot ≤ rs.length := by omega
      refine ⟨_, rfl, _, _, rfl, rfl, ⟨by decide, by decide⟩, _, rfl, l, _, rfl, .inl (SqL.of hl), _, _, rfl, rfl, _, _, rfl, rfl, by rw [hrl]; omega, ?_⟩
      dsimp only
      rw [hrl, hspot]
      refine ⟨_, rfl, _, _, rfl, rfl, _, rfl, _, _, rfl, rfl, _, _, rfl, rfl, by show 2 ≤ sizeLine; decide, fun lq hlq => ?_⟩
      have s3 : Same H2 (upd H2 lq (.lst [.int ((i : Int) + 1), .int (0 - (i : Int) - 1)])) := same_upd hlq
      have hd : d % 2 = 0 ∨ d % 2 = 1 := by omega
      obtain ⟨x, hx, hax⟩ : ∃ x : Int, atI [V.int ((i : Int) + 1), V.int (0 - (i : Int) - 1)] (d % 2) = some (.int x) ∧ Mir.absI x = (rs.length : Int) + 1 := by
        rcases hd with e | e
        · exact ⟨(i : Int) + 1, by rw [e]; rfl, by unfold Mir.absI; rw [if_neg (by omega), hlr]⟩
        · exact ⟨0 - (i : Int) - 1, by rw [e]; rfl, by unfold Mir.absI; rw [if_pos (by omega), hlr]; omega⟩
      refine ⟨_, rfl, _, _, rfl, rfl, (by show (0 : Int) < 2; decide), lq, _, _, _, rfl, rfl, SqL.of upd_same, hx, ?_⟩
      have ivl : spot ≤ (Mir.iV rs).length := by rw [Mir.iV_len]; exact hsp
      refine ⟨_, rfl, _, rfl, _, rfl, l, _, rfl, SqL.of (s3 _ _ hl), fun p1 hp1 => ?_⟩
      rw [Mir.cut_to ivl] at *
      have s4 : Same (upd H2 lq (.lst [.int ((i : Int) + 1), .int (0 - (i : Int) - 1)])) (upd (upd H2 lq (.lst [.int ((i : Int) + 1), .int (0 - (i : Int) - 1)])) p1 (.lst ((Mir.iV rs).take spot))) := same_upd hp1
      have hp1' := upd_same (H := upd H2 lq (.lst [.int ((i : Int) + 1), .int (0 - (i : Int) - 1)])) (a := p1) (o := .lst ((Mir.iV rs).take spot))
      generalize upd (upd H2 lq (.lst [.int ((i : Int) + 1), .int (0 - (i : Int) - 1)])) p1 (.lst ((Mir.iV rs).take spot)) = H3 at s4 hp1' ⊢
      refine ⟨_, rfl, by show 1 ≤ sizeLine; decide, fun p2 hp2 => ?_⟩
      have n12 : p1 ≠ p2 := ne_of_none hp1' hp2
      have tl : ((Mir.iV rs).take spot).length ≤ 40 := by rw [List.length_take, Mir.iV_len]; omega
      refine ⟨p1, p2, _, _, rfl, rfl, by rw [upd_ne n12]; exact hp1', upd_same, Nat.le_of_lt (small1000 (by show _ + 1 ≤ 1000; omega)), fun p3 hp3 => ?_⟩
      have hp3' := upd_same (H := upd H3 p2 (.lst [.int x])) (a := p3) (o := .lst ((Mir.iV rs).take spot ++ [.int x]))
      have s5 : Same H3 (upd (upd H3 p2 (.lst [.int x])) p3 (.lst ((Mir.iV rs).take spot ++ [.int x]))) := (same_upd hp2).trans (same_upd hp3)
      generalize upd (upd H3 p2 (.lst [.int x])) p3 (.lst ((Mir.iV rs).take spot ++ [.int x])) = H4 at hp3' s5 ⊢
      have s34 := (s3.trans s4).trans s5
      refine ⟨_, rfl, _, rfl, _, rfl, l, _, rfl, SqL.of (s34 _ _ hl), fun p4 hp4 => ?_⟩
      rw [Mir.cut_from ivl]
      have n34 : p3 ≠ p4 := ne_of_none hp3' hp4
      have dl : ((Mir.iV rs).drop spot).length ≤ 40 := by rw [List.length_drop, Mir.iV_len]; omega
      refine ⟨p3, p4, _, _, rfl, rfl, by rw [upd_ne n34]; exact hp3', upd_same, Nat.le_of_lt (small1000 (by rw [List.length_append]; show _ + 1 + _ ≤ 1000; omega)), fun p5 hp5 => ?_⟩
      have el : (Mir.iV rs).take spot ++ [V.int x] ++ (Mir.iV rs).drop spot = Mir.iV (rs.take spot ++ [x] ++ rs.drop spot) := by unfold Mir.iV; rw [List.map_append, List.map_append, List.map_take, List.map_drop]; rfl
      refine ⟨p5, rs.take spot ++ [x] ++ rs.drop spot, _, _, _, _, rfl, (s2.trans s34).trans ((same_upd hp4).trans (same_upd hp5)), by rw [upd_same, el], ?_, ?_⟩
      · rw [List.length_append, List.length_append, List.length_take, List.length_drop]
        show _ + 1 + _ = _
        omega
      · have z := Mir.put_perm (spot := spot) (by rw [hlr]; exact hp) hax
        rw [hlr] at z
        exact z
    · rintro σ H2 ⟨l, rs, v4, v5, v6, v7, rfl, s2, hl, hlr, hp⟩
      have e : ((many : Nat) : Int).toNat = many := by omega
      rw [e] at hlr hp
      exact ⟨_, rfl, l, _, rfl, .inl hl, fun t H3 s3 ht => k t H3 rs (s2.trans s3) ht hlr ⟨by omega, by rw [hlr]; exact hp⟩⟩
end
section
variable {P : Program} {w : World} {K : PySem.W.Frag} {mg : Str → Option Value} {base : Heap}
theorem ok_law_turns {f f1 : Addr} {fd fd1 : FuncData} (B : Bl mg) (F : Fn K mg "_law_turns" s_law_turns ["script", "many"] f fd) (F_turns_all : Fn K mg "turns_all" s_turns_all ["many"] f1 fd1) : FnOk P w K mg base CX0 2 f fd ["script", "many"] (Mir.spLawTurns K) := by
  have G_turns_all : FnOk P w K mg base CX0 1 f1 fd1 ["many"] Mir.spTurnsAll := ok_turns_all B F_turns_all
  refine F.fn.ok sc_law_turns (fun vs H Q E h => ?_) (fun cdv A outer s H vs Q E hr h => ?_)
  · obtain ⟨a, ns, n, rfl, _⟩ := h
    rfl
  · obtain ⟨a, ns, n, rfl, hS, hlen, hn, k⟩ := h
    refine ⟨_, (pss_cons (ps_if (pt_cmpR op_lt (pv 1) pe_int (nomark _)) (pss_one (ps_ret (pe_fn G_turns_all F_turns_all (hr.mono (by decide)) (pa_cons (pv 1) pa_nil)))) pss_nil)
      (pss_cons (ps_set (i := 2) sc_law_turns.nd rfl (Or.inl rfl) (pe_lst pa_nil))
      (pss_cons (ps_for PassesOwn.never rfl (pi_list (pv 0)) (pg_name (i := 3) sc_law_turns.nd rfl (Or.inl rfl)) (pss_cons (ps_set (i := 4) sc_law_turns.nd rfl (Or.inl rfl) (pe_op op_mod (pv 3) (pv 1)))
      (pss_one (ps_expr (pe_bm PySem.F.plainAttrs_list PySem.F.slot_list_append PySem.F.type_list_append mt_append (pv 2) (pa_cons (pe_tup (pa_cons (pv 4) (pa_cons (pe_op op_add (pv 4) (pe_op op_mod (pe_op op_fdiv (pv 3) pe_int) (pe_op op_sub (pv 1) (pv 4)))) pa_nil))) pa_nil))))))
      (pss_one (ps_ret (pv 2)))))), ?_⟩
    refine ⟨_, rfl, _, _, rfl, rfl, _, rfl, ?_⟩
    refine ite2 (fun h1 => ?_) (fun h1 => ?_)
    · have h1 : n < 10 := by have := of_decide_eq_true h1; omega
      refine ⟨_, rfl, n, rfl, by omega, fun l H1 hl s1 hT => ?_⟩
      exact k l H1 _ s1 hT (Mir.allTurns_ok (by omega) n (Nat.le_refl _))
    · have h1 : 10 ≤ n := by
        have z : ¬ ((n : Int) < 10) := fun z => h1 (decide_eq_true z)
        omega
      refine ⟨by show 0 ≤ sizeLine; decide, fun l hl => ?_⟩
      have s1 : Same H (upd H l (.lst [])) := same_upd hl
      refine ⟨_, rfl, a, rfl, ⟨_, s1.seq hS⟩, for_list (K := K) (a := a) (xs := ns.map V.int) (fun i σ H2 => ∃ (v3 v4 : Option V) (cs : List (Int × Int)), σ = [some (.ref a), some (.int n), some (.ref l), v3, v4] ∧ Same H H2 ∧ Mir.TsT Mir.pr H2 l cs ∧ cs.length = i ∧ Mir.Turns n cs)
        ⟨none, none, [], rfl, s1, Mir.TsT.nil upd_same, rfl, Nat.zero_le _, fun p hp => absurd hp List.not_mem_nil⟩ (fun i σ H2 _ ⟨_, _, _, _, s2, _⟩ => s2.seq hS) ?_ ?_⟩
      · rintro i y σ H2 hy ⟨v3, v4, cs, rfl, s2, hT, hl2, ok⟩
        have hi : i < 63 := by have := (List.getElem?_eq_some_iff.mp hy).1; rw [List.length_map] at this; omega
        rw [List.getElem?_map] at hy
        obtain ⟨c, hc, rfl⟩ := Option.map_eq_some_iff.mp hy
        have f0 : 0 ≤ c % (n : Int) := Int.emod_nonneg _ (by omega)
        have f1 : c % (n : Int) < n := Int.emod_lt_of_pos _ (by omega)
        refine ⟨_, rfl, _, rfl, _, _, rfl, rfl, (by show (0 : Int) < n; omega), ?_⟩
        dsimp only
        obtain ⟨f, hf⟩ : ∃ f : Nat, c % (n : Int) = f := ⟨(c % (n : Int)).toNat, by omega⟩
        rw [hf]
        have g0 : 0 ≤ c / 40 % ((n : Int) - (f : Int)) := Int.emod_nonneg _ (by omega)
        have g1 : c / 40 % ((n : Int) - (f : Int)) < (n : Int) - (f : Int) := Int.emod_lt_of_pos _ (by omega)
        obtain ⟨vs, e1, e2⟩ := hT.len
        refine ⟨_, rfl, .inl ⟨rfl, _, SqL.of e1⟩, _, rfl, _, rfl, _, rfl, _, _, rfl, rfl, ⟨by decide, by decide⟩, _, rfl, _, rfl, _, _, rfl, rfl, _, _, rfl, rfl, (by show (0 : Int) < (n : Int) - (f : Int); omega), _, _, rfl, rfl, ?_⟩
        dsimp only
        obtain ⟨g, hg⟩ : ∃ g : Nat, (f : Int) + c / 40 % ((n : Int) - (f : Int)) = g := ⟨((f : Int) + c / 40 % ((n : Int) - (f : Int))).toNat, by omega⟩
        rw [hg]
        refine ⟨by show 2 ≤ sizeLine; decide, fun tp htp => ?_⟩
        have s3 : Same H2 (upd H2 tp (.tup [.int f, .int g])) := same_upd htp
        obtain ⟨ys, y1, y2, y3⟩ := (hT.same s3).snoc (t := tp) (x := ((f : Int), (g : Int))) upd_same
        refine ⟨l, _, _, rfl, rfl, y1, small1000 (by rw [y2]; omega), _, _, _, rfl, (s2.trans s3).upd hl, y3, by rw [List.length_append, hl2]; rfl, ok.snoc (by omega) (by omega) (by omega)⟩
      · rintro σ H2 ⟨v3, v4, cs, rfl, s2, hT, hl2, ok⟩
        exact ⟨_, rfl, k l H2 cs s2 hT ok⟩
end
section
variable {P : Program} {w : World} {K : PySem.W.Frag} {mg : Str → Option Value} {base : Heap}
theorem ok_law_count_good {f : Addr} {fd : FuncData} (B : Bl mg) (F : Fn K mg "_law_count_good" s_law_count_good ["row", "count"] f fd) : FnOk P w K mg base CX0 1 f fd ["row", "count"] Mir.spCountGood := by
  refine F.fn.ok sc_law_count_good (fun vs H Q E h => ?_) (fun cdv A outer s H vs Q E hr h => ?_)
  · obtain ⟨t, rs, c, rfl, _⟩ := h
    rfl
  · obtain ⟨t, rs, c, rfl, ht, fit, hc, k⟩ := h
    have hu := hu_of hr
    have hn := fit.small
    have rp := Mir.rings_pos fit
    rw [← hc] at rp
    refine ⟨_, (pss_cons (ps_if (PW.pt (pw_or (pt_cmpR op_lt (pv 1) pe_int (nomark _)) (pw_or1 (pt_cmpR op_gt (pv 1) (pe_op op_add (pe_callB call_len_seq rfl B.len bb_len (pa_cons (pv 0) pa_nil)) pe_int) (nomark _))))) (pss_one (ps_ret pe_bl)) pss_nil)
      (pss_one (ps_ret (pe_cmpR op_eq (pe_cmpR op_eq (pv 1) (pe_op op_add (pe_callB call_len_seq rfl B.len bb_len (pa_cons (pv 0) pa_nil)) pe_int) (nomark _)) (pe_cmpR (op_eq_intsD (Nat.lt_of_succ_lt hu)) (pe_callTy call_list_of rfl B.list bb_list (pa_cons (pv 0) pa_nil)) (pe_callTy (call_list_rng rfl) rfl B.list bb_list (pa_cons (pe_callTy call_rng2 rfl B.range bb_range (pa_cons pe_int (pa_cons (pe_op op_add (pe_callB call_len_seq rfl B.len bb_len (pa_cons (pv 0) pa_nil)) pe_int) pa_nil))) pa_nil)) (nomark _)) (nomark _))))), ?_⟩
    have ivl : (Mir.iV rs).length = rs.length := Mir.iV_len rs
    have sq := SqT.of (K := K) ht
    refine ⟨_, rfl, _, _, rfl, rfl, _, rfl, iteNo (decide_eq_false (by omega)) ?_⟩
    refine ⟨_, rfl, _, rfl, t, _, rfl, .inr sq, _, _, rfl, rfl, _, _, rfl, rfl, _, rfl, iteNo (decide_eq_false (by rw [ivl]; omega)) ?_⟩
    refine ⟨_, rfl, _, rfl, t, _, rfl, .inr sq, _, _, rfl, rfl, rfl, _, rfl, t, _, rfl, .inr sq, fun l1 hl1 => ?_⟩
    have s1 : Same H (upd H l1 (.lst (Mir.iV rs))) := same_upd hl1
    have h1 : upd H l1 (.lst (Mir.iV rs)) l1 = some (.lst (Mir.iV rs)) := upd_same
    generalize upd H l1 (.lst (Mir.iV rs)) = H1 at s1 h1 ⊢
    refine ⟨_, rfl, t, _, rfl, .inr (SqT.of (s1 _ _ ht)), _, _, rfl, rfl, _, _, rfl, fun p hp => ⟨p, _, _, rfl, upd_same, ⟨by omega, by omega, by rw [ivl]; omega, by rw [ivl]; omega⟩, by rw [ivl]; omega, fun l2 hl2 => ?_⟩⟩
    have er : rngV 1 ((((Mir.iV rs).length : Nat) : Int) + 1 - 1).toNat = Mir.iV (Mir.from1 rs.length) := by
      have e : ((((Mir.iV rs).length : Nat) : Int) + 1 - 1).toNat = rs.length := by rw [ivl]; omega
      rw [e, Mir.rngV_from1]
    rw [er]
    have s2 : Same H1 (upd (upd H1 p (.rng 1 ((((Mir.iV rs).length : Nat) : Int) + 1))) l2 (.lst (Mir.iV (Mir.from1 rs.length)))) := (same_upd hp).trans (same_upd hl2)
    have h2 : upd (upd H1 p (.rng 1 ((((Mir.iV rs).length : Nat) : Int) + 1))) l2 (.lst (Mir.iV (Mir.from1 rs.length))) l2 = some (.lst (Mir.iV (Mir.from1 rs.length))) := upd_same
    generalize upd (upd H1 p (.rng 1 ((((Mir.iV rs).length : Nat) : Int) + 1))) l2 (.lst (Mir.iV (Mir.from1 rs.length))) = H2 at s2 h2 ⊢
    refine ⟨l1, l2, rs, Mir.from1 rs.length, rfl, rfl, SqL.of (s2 _ _ h1), SqL.of h2, (Mir.from1_len _).symm, rfl, ?_⟩
    have e : decide (V.bl (decide (V.int (c : Int) = V.int ((((Mir.iV rs).length : Nat) : Int) + 1))) = V.bl (decide (rs = Mir.from1 rs.length))) = true := by
      rw [decide_eq_true_iff]
      congr 1
      refine decide_eq_decide.mpr ?_
      rw [← Mir.rings_iff fit, ← hc]
      constructor
      · intro z
        injection z with z
        rw [ivl] at z
        omega
      · intro z
        rw [ivl, z]
        congr 1
    show Q (V.bl _) H2
    rw [e]
    exact k H2 (s1.trans s2)
end
section
variable {P : Program} {w : World} {K : PySem.W.Frag} {mg : Str → Option Value} {base : Heap}
theorem ok_law {C_BadStretch : Addr} (B : Bl mg) (Z : ECls K mg "BadStretch" C_BadStretch) {f0 f1 f2 f3 f4 f5 f6 f7 f8 f9 f10 : Addr} {fd0 fd1 fd2 fd3 fd4 fd5 fd6 fd7 fd8 fd9 fd10 : FuncData} (F_framed : Fn K mg "framed" s_framed ["row"] f0 fd0) (F_tie_gaps : Fn K mg "tie_gaps" s_tie_gaps ["row"] f1 fd1) (F_tie_rings : Fn K mg "tie_rings" s_tie_rings ["row"] f2 fd2) (F_hung_together : Fn K mg "hung_together" s_hung_together ["pairs"] f3 fd3) (F_turn_about : Fn K mg "turn_about" s_turn_about ["row", "first", "last"] f4 fd4) (F_turns_all : Fn K mg "turns_all" s_turns_all ["many"] f5 fd5) (F_law_cell_at : Fn K mg "_law_cell_at" s_law_cell_at ["script", "k"] f6 fd6) (F_law_row_by : Fn K mg "_law_row_by" s_law_row_by ["script", "at", "many"] f7 fd7) (F_law_turns : Fn K mg "_law_turns" s_law_turns ["script", "many"] f8 fd8) (F_law_count_good : Fn K mg "_law_count_good" s_law_count_good ["row", "count"] f9 fd9) (F_law : Fn K mg "law" s_law ["script"] f10 fd10) : FnOk P w K mg base CX0 5 f10 fd10 ["script"] (spLaw K) := by
  have G_tie_rings : FnOk P w K mg base CX0 3 _ _ ["row"] Mir.spTieRings := ok_tie_rings B F_tie_rings F_framed F_tie_gaps F_hung_together
  have G_turn_about : FnOk P w K mg base (CXo P w) 1 _ _ ["row", "first", "last"] (Mir.spTurnAbout C_BadStretch) := ok_turn_about B Z F_turn_about
  have G_law_cell_at : FnOk P w K mg base CX0 1 _ _ ["script", "k"] (Mir.spCellAt K) := ok_law_cell_at B F_law_cell_at
  have G_law_row_by : FnOk P w K mg base CX0 2 _ _ ["script", "at", "many"] (Mir.spRowBy K) := ok_law_row_by B F_law_row_by F_law_cell_at
  have G_law_turns : FnOk P w K mg base CX0 2 _ _ ["script", "many"] (Mir.spLawTurns K) := ok_law_turns B F_law_turns F_turns_all
  have G_law_count_good : FnOk P w K mg base CX0 1 _ _ ["row", "count"] Mir.spCountGood := ok_law_count_good B F_law_count_good
  refine F_law.fn.ok sc_law (fun vs H Q E h => ?_) (fun cdv A outer s H vs Q E hr h => ?_)
  · obtain ⟨a, ns, rfl, _⟩ := h
    rfl
  · obtain ⟨a, ns, rfl, hS, hlen, k⟩ := h
    have hu := hu_of hr
    refine ⟨_, (pss_cons (ps_set (i := 1) sc_law.nd rfl (Or.inl rfl) (pe_fn G_law_cell_at F_law_cell_at (hr.mono (by decide)) (pa_cons (pv 0) (pa_cons pe_int pa_nil))))
      (pss_cons (ps_set (i := 2) sc_law.nd rfl (Or.inl rfl) (pe_op op_mod (pv 1) pe_int))
      (pss_cons (ps_if (pt_cmpR op_eq (pe_op op_mod (pe_op op_fdiv (pv 1) pe_int) pe_int) pe_int (nomark _)) (pss_one (ps_set (i := 2) sc_law.nd rfl (Or.inl rfl) (pe_op op_add pe_int (pe_op op_mod (pe_op op_fdiv (pv 1) pe_int) pe_int)))) pss_nil)
      (ps_sem (R := fun D σ H2 => ∃ (n : Nat) (v1 : Option V), σ = [some (.ref a), v1, some (.int n), none, none, none, none, none, none] ∧ Same H H2 ∧ n ≤ 40 ∧ D.rt = Q) fun D σ H2 hR => ?rest)))), ?_⟩
    case rest =>
      obtain ⟨n, v1, rfl, s2, hn, hD⟩ := hR
      refine ⟨_, (pss_cons (ps_set (i := 3) sc_law.nd rfl (Or.inl rfl) (pe_fn G_law_row_by F_law_row_by (hr.mono (by decide)) (pa_cons (pv 0) (pa_cons pe_int (pa_cons (pv 2) pa_nil)))))
      (pss_cons (ps_set (i := 4) sc_law.nd rfl (Or.inl rfl) (pe_callB call_len_seq rfl B.len bb_len (pa_cons (pe_fn G_tie_rings F_tie_rings (hr.mono (by decide)) (pa_cons (pv 3) pa_nil)) pa_nil)))
      (pss_cons (ps_if (pt_not (pt_val (pe_fn G_law_count_good F_law_count_good (hr.mono (by decide)) (pa_cons (pv 3) (pa_cons (pv 4) pa_nil))))) (pss_one (ps_ret pe_bl)) pss_nil)
      (pss_cons (ps_for PassesOwn.never rfl (pi_list (pe_fn G_law_turns F_law_turns (hr.mono (by decide)) (pa_cons (pv 0) (pa_cons (pv 2) pa_nil)))) (pg_tup rfl (pgs_cons (pg_name (i := 5) sc_law.nd rfl (Or.inl rfl)) (pgs_cons (pg_name (i := 6) sc_law.nd rfl (Or.inl rfl)) pgs_nil))) (pss_cons (ps_set (i := 7) sc_law.nd rfl (Or.inl rfl) (pe_fnF G_turn_about F_turn_about (hr.mono (by decide)) (pa_cons (pv 3) (pa_cons (pv 5) (pa_cons (pv 6) pa_nil)))))
      (pss_cons (ps_set (i := 8) sc_law.nd rfl (Or.inl rfl) (pe_callB call_len_seq rfl B.len bb_len (pa_cons (pe_fn G_tie_rings F_tie_rings (hr.mono (by decide)) (pa_cons (pv 7) pa_nil)) pa_nil)))
      (pss_one (ps_if (PW.pt (pw_or (pt_cmpR op_notIn_seq (pe_op op_sub (pv 8) (pv 4)) (pe_lst (pa_cons (pe_un un_neg pe_int) (pa_cons pe_int (pa_cons pe_int pa_nil)))) (by with_unfolding_all rfl)) (pw_or1 (pt_not (pt_val (pe_fn G_law_count_good F_law_count_good (hr.mono (by decide)) (pa_cons (pv 7) (pa_cons (pv 8) pa_nil)))))))) (pss_one (ps_ret pe_bl)) pss_nil)))))
      (pss_one (ps_ret pe_bl)))))), ?_⟩
      refine ⟨_, rfl, _, rfl, a, ns, 1, n, rfl, s2.seq hS, hn, fun t H3 rs s3 ht hrl fit => ?_⟩
      have s23 := s2.trans s3
      refine ⟨_, rfl, t, rs, rfl, ht, fit, fun lr H4 hlr s4 hT4 => ?_⟩
      obtain ⟨vs, e1, e2⟩ := hT4.len
      refine ⟨lr, _, rfl, .inl (SqL.of e1), ?_⟩
      have ht4 := s4 _ _ ht
      rw [e2]
      refine ⟨_, rfl, _, rfl, t, rs, _, rfl, ht4, fit, rfl, fun H5 s5 => ⟨_, rfl, iteF ?_⟩⟩
      have s25 := (s23.trans s4).trans s5
      have ht5 := s5 _ _ ht4
      refine ⟨_, rfl, _, rfl, a, ns, n, rfl, s25.seq hS, hlen, hn, fun lt H6 cs s6 hT6 ok => ?_⟩
      obtain ⟨ts, hts, hl6, htp⟩ := id hT6
      have ltl : (ts.map V.ref).length = cs.length := by rw [List.length_map, hl6]
      have ht6 := s6 _ _ ht5
      refine ⟨lt, rfl, ⟨_, SqL.of hts⟩, for_list (K := K) (a := lt) (xs := ts.map V.ref) (fun i σ H7 => ∃ v5 v6 v7 v8 : Option V, σ = [some (.ref a), v1, some (.int n), some (.ref t), some (.int (Mir.ringsT rs).length), v5, v6, v7, v8] ∧ Same H6 H7)
        ⟨none, none, none, none, rfl, Same.refl _⟩ (fun i σ H7 _ ⟨_, _, _, _, _, s7⟩ => SqL.of (s7 _ _ hts)) ?_ ?_⟩
      · rintro i y σ H7 hy ⟨v5, v6, v7, v8, rfl, s7⟩
        have hi : i < cs.length := by rw [← ltl]; exact (List.getElem?_eq_some_iff.mp hy).1
        have hci : cs[i]? = some cs[i] := List.getElem?_eq_getElem hi
        obtain ⟨t', ht', rfl⟩ : ∃ t, ts[i]? = some t ∧ y = .ref t := by
          rw [List.getElem?_map] at hy
          obtain ⟨t, e1, e2⟩ := Option.map_eq_some_iff.mp hy
          exact ⟨t, e1, e2.symm⟩
        have htt := htp i t' _ ht' hci
        obtain ⟨f, l, ep, o1, o2⟩ := ok.2 _ (List.getElem_mem hi)
        rw [ep] at htt
        rw [← hrl] at o2
        have hl40 := fit.small
        refine ⟨t', _, rfl, SqT.of (s7 _ _ htt), rfl, _, _, rfl, _, _, rfl, rfl, ?_⟩
        refine ⟨_, rfl, _, rfl, _, rfl, t, rs, (f : Int), (l : Int), rfl, s7 _ _ ht6, by omega, Mir.Sm6.of (by omega) (by omega), Mir.Sm6.of (by omega) (by omega), fun _ t8 H8 s8 ht8 => ?_, fun no => absurd ⟨by show (0 : Int) ≤ f; omega, by show (f : Int) ≤ l; omega, by show (l : Int) < rs.length; omega⟩ no⟩
        rw [Int.toNat_natCast, Int.toNat_natCast] at ht8
        have fit2 := Mir.turnP_fit fit o1 o2
        have rt := Mir.rings_turn fit o1 o2
        refine ⟨_, rfl, t8, _, rfl, ht8, fit2, fun l9 H9 hl9 s9 hT9 => ?_⟩
        obtain ⟨vs9, e91, e92⟩ := hT9.len
        refine ⟨l9, _, rfl, .inl (SqL.of e91), ?_⟩
        rw [e92]
        refine ⟨_, rfl, _, rfl, _, _, rfl, rfl, _, rfl, by show 3 ≤ sizeLine; decide, fun l10 hl10 => ?_⟩
        have s10 : Same H9 (upd H9 l10 (.lst [.int (-1), .int 0, .int 1])) := same_upd hl10
        have h10 : upd H9 l10 (.lst [.int (-1), .int 0, .int 1]) l10 = some (.lst [.int (-1), .int 0, .int 1]) := upd_same
        generalize upd H9 l10 (.lst [.int (-1), .int 0, .int 1]) = H10 at s10 h10 ⊢
        refine ⟨l10, _, rfl, .inl (SqL.of h10), rfl, rfl, _, rfl, iteNo ?_ ?_⟩
        · have e : (((Mir.ringsT (Mir.turnP rs f l)).length : Nat) : Int) - (((Mir.ringsT rs).length : Nat) : Int) = -1 ∨ (((Mir.ringsT (Mir.turnP rs f l)).length : Nat) : Int) - (((Mir.ringsT rs).length : Nat) : Int) = 0 ∨ (((Mir.ringsT (Mir.turnP rs f l)).length : Nat) : Int) - (((Mir.ringsT rs).length : Nat) : Int) = 1 := by omega
          dsimp only
          rcases e with e | e | e <;> rw [e] <;> rfl
        · refine ⟨_, rfl, _, rfl, t8, _, _, rfl, s10 _ _ (s9 _ _ ht8), fit2, rfl, fun H11 s11 => ⟨_, rfl, iteF ?_⟩⟩
          exact ⟨_, _, _, _, rfl, (((s7.trans s8).trans s9).trans s10).trans s11⟩
      · rintro σ H7 ⟨v5, v6, v7, v8, rfl, s7⟩
        show D.rt _ _
        rw [hD]
        exact k _
    refine ⟨_, rfl, a, ns, 0, rfl, hS, fun c0 => ?_⟩
    refine ⟨_, rfl, _, _, rfl, rfl, (by show (0 : Int) < 10; decide), ?_⟩
    dsimp only
    obtain ⟨n, hm⟩ : ∃ many : Nat, c0 % 10 = many := ⟨(c0 % 10).toNat, by omega⟩
    rw [hm]
    refine ⟨_, rfl, _, _, rfl, rfl, ⟨by decide, by decide⟩, _, _, rfl, rfl, (by show (0 : Int) < 4; decide), rfl, _, rfl, ?_⟩
    refine ite2 (fun h1 => ?_) (fun h1 => ?_)
    · refine ⟨_, rfl, _, _, rfl, rfl, ⟨by decide, by decide⟩, _, _, rfl, rfl, (by show (0 : Int) < 21; decide), _, _, rfl, rfl, ?_⟩
      dsimp only
      obtain ⟨n2, hm2⟩ : ∃ m : Nat, (10 : Int) + c0 / 40 % 21 = m := ⟨((10 : Int) + c0 / 40 % 21).toNat, by omega⟩
      rw [hm2]
      exact ⟨n2, _, rfl, Same.refl _, by omega, rfl⟩
    · exact ⟨n, _, rfl, Same.refl _, by omega, rfl⟩
end
theorem us0 {R : List Value → Prop} (h : ∀ _ : Unit, R []) (us : List Value) (e : us.length = 0) : R us := (List.length_eq_zero_iff.mp e) ▸ h ()
theorem us1 {R : List Value → Prop} (h : ∀ x0 : Value, R [x0]) (us : List Value) (e : us.length = 1) : R us := by
  obtain ⟨a, r, rfl⟩ := List.exists_cons_of_length_eq_add_one e
  exact us0 (R := fun r => R (a :: r)) (fun _ => h a) r (Nat.succ.inj e)
theorem us2 {R : List Value → Prop} (h : ∀ x0 x1 : Value, R [x0, x1]) (us : List Value) (e : us.length = 2) : R us := by
  obtain ⟨a, r, rfl⟩ := List.exists_cons_of_length_eq_add_one e
  exact us1 (R := fun r => R (a :: r)) (h a) r (Nat.succ.inj e)
theorem us3 {R : List Value → Prop} (h : ∀ x0 x1 x2 : Value, R [x0, x1, x2]) (us : List Value) (e : us.length = 3) : R us := by
  obtain ⟨a, r, rfl⟩ := List.exists_cons_of_length_eq_add_one e
  exact us2 (R := fun r => R (a :: r)) (h a) r (Nat.succ.inj e)
theorem all_mk {l : PySem.W.OpenLaw} {w : World} {K : PySem.W.Frag} {h : Heap} {mg : Str → Option Value} {fa : Addr} (X : K.In h) (G : h.Ns mainGlobals mg) (hfa : mg "law" = some (.ref fa))
    {f0 : Addr} {od0 an0 : Option Addr} {sl0 : Array (Option Value)} {oc0 kV0 dc0 pm0 cd0 ct0 : Value}
    {f1 : Addr} {od1 an1 : Option Addr} {sl1 : Array (Option Value)} {oc1 kV1 dc1 pm1 cd1 ct1 : Value}
    {f2 : Addr} {od2 an2 : Option Addr} {sl2 : Array (Option Value)} {oc2 kV2 dc2 pm2 cd2 ct2 : Value}
    {f3 : Addr} {od3 an3 : Option Addr} {sl3 : Array (Option Value)} {oc3 kV3 dc3 pm3 cd3 ct3 : Value}
    {f4 : Addr} {od4 an4 : Option Addr} {sl4 : Array (Option Value)} {oc4 kV4 dc4 pm4 cd4 ct4 : Value}
    {f5 : Addr} {od5 an5 : Option Addr} {sl5 : Array (Option Value)} {oc5 kV5 dc5 pm5 cd5 ct5 : Value}
    {f6 : Addr} {od6 an6 : Option Addr} {sl6 : Array (Option Value)} {oc6 kV6 dc6 pm6 cd6 ct6 : Value}
    {f7 : Addr} {od7 an7 : Option Addr} {sl7 : Array (Option Value)} {oc7 kV7 dc7 pm7 cd7 ct7 : Value}
    {f8 : Addr} {od8 an8 : Option Addr} {sl8 : Array (Option Value)} {oc8 kV8 dc8 pm8 cd8 ct8 : Value}
    {f9 : Addr} {od9 an9 : Option Addr} {sl9 : Array (Option Value)} {oc9 kV9 dc9 pm9 cd9 ct9 : Value}
    {f10 : Addr} {od10 an10 : Option Addr} {sl10 : Array (Option Value)} {oc10 kV10 dc10 pm10 cd10 ct10 : Value}
    (a0 : PySem.W.nsIn K mainGlobals "framed" = some (some (.ref f0))) (l0 : K.lookup f0 = some ⟨oc0, od0, .func (PySem.W.fnOf "framed" "framed" (defArgs s_framed) (defBody s_framed) (defScope s_framed) .none kV0 dc0 pm0 an0 cd0 ct0), sl0⟩) (c0 : PySem.W.codeIn K cd0 "framed" = true) (k0 : PySem.W.keepIn K (.ref f0) = true)
    (a1 : PySem.W.nsIn K mainGlobals "tie_gaps" = some (some (.ref f1))) (l1 : K.lookup f1 = some ⟨oc1, od1, .func (PySem.W.fnOf "tie_gaps" "tie_gaps" (defArgs s_tie_gaps) (defBody s_tie_gaps) (defScope s_tie_gaps) .none kV1 dc1 pm1 an1 cd1 ct1), sl1⟩) (c1 : PySem.W.codeIn K cd1 "tie_gaps" = true) (k1 : PySem.W.keepIn K (.ref f1) = true)
    (a2 : PySem.W.nsIn K mainGlobals "tie_rings" = some (some (.ref f2))) (l2 : K.lookup f2 = some ⟨oc2, od2, .func (PySem.W.fnOf "tie_rings" "tie_rings" (defArgs s_tie_rings) (defBody s_tie_rings) (defScope s_tie_rings) .none kV2 dc2 pm2 an2 cd2 ct2), sl2⟩) (c2 : PySem.W.codeIn K cd2 "tie_rings" = true) (k2 : PySem.W.keepIn K (.ref f2) = true)
    (a3 : PySem.W.nsIn K mainGlobals "hung_together" = some (some (.ref f3))) (l3 : K.lookup f3 = some ⟨oc3, od3, .func (PySem.W.fnOf "hung_together" "hung_together" (defArgs s_hung_together) (defBody s_hung_together) (defScope s_hung_together) .none kV3 dc3 pm3 an3 cd3 ct3), sl3⟩) (c3 : PySem.W.codeIn K cd3 "hung_together" = true) (k3 : PySem.W.keepIn K (.ref f3) = true)
    (a4 : PySem.W.nsIn K mainGlobals "turn_about" = some (some (.ref f4))) (l4 : K.lookup f4 = some ⟨oc4, od4, .func (PySem.W.fnOf "turn_about" "turn_about" (defArgs s_turn_about) (defBody s_turn_about) (defScope s_turn_about) .none kV4 dc4 pm4 an4 cd4 ct4), sl4⟩) (c4 : PySem.W.codeIn K cd4 "turn_about" = true) (k4 : PySem.W.keepIn K (.ref f4) = true)
    (a5 : PySem.W.nsIn K mainGlobals "turns_all" = some (some (.ref f5))) (l5 : K.lookup f5 = some ⟨oc5, od5, .func (PySem.W.fnOf "turns_all" "turns_all" (defArgs s_turns_all) (defBody s_turns_all) (defScope s_turns_all) .none kV5 dc5 pm5 an5 cd5 ct5), sl5⟩) (c5 : PySem.W.codeIn K cd5 "turns_all" = true) (k5 : PySem.W.keepIn K (.ref f5) = true)
    (a6 : PySem.W.nsIn K mainGlobals "_law_cell_at" = some (some (.ref f6))) (l6 : K.lookup f6 = some ⟨oc6, od6, .func (PySem.W.fnOf "_law_cell_at" "_law_cell_at" (defArgs s_law_cell_at) (defBody s_law_cell_at) (defScope s_law_cell_at) .none kV6 dc6 pm6 an6 cd6 ct6), sl6⟩) (c6 : PySem.W.codeIn K cd6 "_law_cell_at" = true) (k6 : PySem.W.keepIn K (.ref f6) = true)
    (a7 : PySem.W.nsIn K mainGlobals "_law_row_by" = some (some (.ref f7))) (l7 : K.lookup f7 = some ⟨oc7, od7, .func (PySem.W.fnOf "_law_row_by" "_law_row_by" (defArgs s_law_row_by) (defBody s_law_row_by) (defScope s_law_row_by) .none kV7 dc7 pm7 an7 cd7 ct7), sl7⟩) (c7 : PySem.W.codeIn K cd7 "_law_row_by" = true) (k7 : PySem.W.keepIn K (.ref f7) = true)
    (a8 : PySem.W.nsIn K mainGlobals "_law_turns" = some (some (.ref f8))) (l8 : K.lookup f8 = some ⟨oc8, od8, .func (PySem.W.fnOf "_law_turns" "_law_turns" (defArgs s_law_turns) (defBody s_law_turns) (defScope s_law_turns) .none kV8 dc8 pm8 an8 cd8 ct8), sl8⟩) (c8 : PySem.W.codeIn K cd8 "_law_turns" = true) (k8 : PySem.W.keepIn K (.ref f8) = true)
    (a9 : PySem.W.nsIn K mainGlobals "_law_count_good" = some (some (.ref f9))) (l9 : K.lookup f9 = some ⟨oc9, od9, .func (PySem.W.fnOf "_law_count_good" "_law_count_good" (defArgs s_law_count_good) (defBody s_law_count_good) (defScope s_law_count_good) .none kV9 dc9 pm9 an9 cd9 ct9), sl9⟩) (c9 : PySem.W.codeIn K cd9 "_law_count_good" = true) (k9 : PySem.W.keepIn K (.ref f9) = true)
    (a10 : PySem.W.nsIn K mainGlobals "law" = some (some (.ref f10))) (l10 : K.lookup f10 = some ⟨oc10, od10, .func (PySem.W.fnOf "law" "law" (defArgs s_law) (defBody s_law) (defScope s_law) .none kV10 dc10 pm10 an10 cd10 ct10), sl10⟩) (c10 : PySem.W.codeIn K cd10 "law" = true) (k10 : PySem.W.keepIn K (.ref f10) = true)
    (z0 : PySem.W.nsIn K mainGlobals "abs" = some none)
    (z1 : PySem.W.nsIn K mainGlobals "enumerate" = some none)
    (z2 : PySem.W.nsIn K mainGlobals "len" = some none)
    (z3 : PySem.W.nsIn K mainGlobals "list" = some none)
    (z4 : PySem.W.nsIn K mainGlobals "range" = some none)
    (z5 : PySem.W.nsIn K mainGlobals "reversed" = some none)
    (z6 : PySem.W.nsIn K mainGlobals "tuple" = some none)
    {C_BadStretch : Addr}
    (g_BadStretch : PySem.W.nsIn K mainGlobals "BadStretch" = some (some (.ref C_BadStretch)))
    (x_BadStretch : PySem.W.excIn K C_BadStretch [.type "ValueError", .type "Exception", .type "BaseException", .type "object"] "ValueError.__new__" = true)
    : ∃ fd : FuncData, (∀ (s : Shared) (v : Value), BindsTo s fd ⟨[v], []⟩ [("script", v)]) ∧ ∀ base : Heap, K.In base → base.Ns mainGlobals mg → FnOk l.prog w K mg base CX0 5 fa fd ["script"] (spLaw K) := by
  have e := hfa.symm.trans (PySem.W.mg_of X G a10)
  cases e
  have B : Bl mg := ⟨PySem.W.mg_none_of X G z0, PySem.W.mg_none_of X G z1, PySem.W.mg_none_of X G z2, PySem.W.mg_none_of X G z3, PySem.W.mg_none_of X G z4, PySem.W.mg_none_of X G z5, PySem.W.mg_none_of X G z6⟩
  have F0 : Fn K mg "framed" s_framed ["row"] _ _ := Fn.mk' (fun_mk (st := s_framed) l0 c0 k0) (fun _ _ _ _ _ _ us hl => us1 (R := fun us => bindArgs _ ⟨us, []⟩ = pure (List.zip _ us)) (fun _ => rfl) us hl) (PySem.W.mg_of X G a0)
  have F1 : Fn K mg "tie_gaps" s_tie_gaps ["row"] _ _ := Fn.mk' (fun_mk (st := s_tie_gaps) l1 c1 k1) (fun _ _ _ _ _ _ us hl => us1 (R := fun us => bindArgs _ ⟨us, []⟩ = pure (List.zip _ us)) (fun _ => rfl) us hl) (PySem.W.mg_of X G a1)
  have F2 : Fn K mg "tie_rings" s_tie_rings ["row"] _ _ := Fn.mk' (fun_mk (st := s_tie_rings) l2 c2 k2) (fun _ _ _ _ _ _ us hl => us1 (R := fun us => bindArgs _ ⟨us, []⟩ = pure (List.zip _ us)) (fun _ => rfl) us hl) (PySem.W.mg_of X G a2)
  have F3 : Fn K mg "hung_together" s_hung_together ["pairs"] _ _ := Fn.mk' (fun_mk (st := s_hung_together) l3 c3 k3) (fun _ _ _ _ _ _ us hl => us1 (R := fun us => bindArgs _ ⟨us, []⟩ = pure (List.zip _ us)) (fun _ => rfl) us hl) (PySem.W.mg_of X G a3)
  have F4 : Fn K mg "turn_about" s_turn_about ["row", "first", "last"] _ _ := Fn.mk' (fun_mk (st := s_turn_about) l4 c4 k4) (fun _ _ _ _ _ _ us hl => us3 (R := fun us => bindArgs _ ⟨us, []⟩ = pure (List.zip _ us)) (fun _ _ _ => rfl) us hl) (PySem.W.mg_of X G a4)
  have F5 : Fn K mg "turns_all" s_turns_all ["many"] _ _ := Fn.mk' (fun_mk (st := s_turns_all) l5 c5 k5) (fun _ _ _ _ _ _ us hl => us1 (R := fun us => bindArgs _ ⟨us, []⟩ = pure (List.zip _ us)) (fun _ => rfl) us hl) (PySem.W.mg_of X G a5)
  have F6 : Fn K mg "_law_cell_at" s_law_cell_at ["script", "k"] _ _ := Fn.mk' (fun_mk (st := s_law_cell_at) l6 c6 k6) (fun _ _ _ _ _ _ us hl => us2 (R := fun us => bindArgs _ ⟨us, []⟩ = pure (List.zip _ us)) (fun _ _ => rfl) us hl) (PySem.W.mg_of X G a6)
  have F7 : Fn K mg "_law_row_by" s_law_row_by ["script", "at", "many"] _ _ := Fn.mk' (fun_mk (st := s_law_row_by) l7 c7 k7) (fun _ _ _ _ _ _ us hl => us3 (R := fun us => bindArgs _ ⟨us, []⟩ = pure (List.zip _ us)) (fun _ _ _ => rfl) us hl) (PySem.W.mg_of X G a7)
  have F8 : Fn K mg "_law_turns" s_law_turns ["script", "many"] _ _ := Fn.mk' (fun_mk (st := s_law_turns) l8 c8 k8) (fun _ _ _ _ _ _ us hl => us2 (R := fun us => bindArgs _ ⟨us, []⟩ = pure (List.zip _ us)) (fun _ _ => rfl) us hl) (PySem.W.mg_of X G a8)
  have F9 : Fn K mg "_law_count_good" s_law_count_good ["row", "count"] _ _ := Fn.mk' (fun_mk (st := s_law_count_good) l9 c9 k9) (fun _ _ _ _ _ _ us hl => us2 (R := fun us => bindArgs _ ⟨us, []⟩ = pure (List.zip _ us)) (fun _ _ => rfl) us hl) (PySem.W.mg_of X G a9)
  have F10 : Fn K mg "law" s_law ["script"] _ _ := Fn.mk' (fun_mk (st := s_law) l10 c10 k10) (fun _ _ _ _ _ _ us hl => us1 (R := fun us => bindArgs _ ⟨us, []⟩ = pure (List.zip _ us)) (fun _ => rfl) us hl) (PySem.W.mg_of X G a10)
  have Z_BadStretch : ECls K mg "BadStretch" C_BadStretch := ⟨PySem.W.mg_of X G g_BadStretch, ⟨_, _, _, _, x_BadStretch, PySem.F.excBase_ValueError⟩⟩
  exact ⟨_, fun s v => .of_eq rfl, fun base _ _ => ok_law B Z_BadStretch F0 F1 F2 F3 F4 F5 F6 F7 F8 F9 F10⟩
theorem walk {l : PySem.W.OpenLaw} {q : Program} {loose : List Str} {XP : (Str → Option Value) → Heap → Prop} {YP : World → Heap → Prop} {d : DefRec} {K : Params → PySem.W.Frag} (hn : l.most = some 63) (hdf : d.params.defaults = [])
    (hY : ∀ (w : World) (h : Heap), YP w h → (K w.params).In h)
    (F : ∀ (w : World) (mg : Str → Option Value) (fa : Addr) (h : Heap), (K w.params).In h → h.Ns mainGlobals mg → mg d.name = some (.ref fa) →
      ∃ fd : FuncData, (∀ (s : Shared) (u : Value), BindsTo s fd ⟨[u], []⟩ [("script", u)]) ∧ ∀ base : Heap, (K w.params).In base → base.Ns mainGlobals mg → FnOk l.prog w (K w.params) mg base CX0 5 fa fd ["script"] (spLaw (K w.params))) :
    PySem.W.WalkO q loose XP YP l.row.toRowW d [] (fun f vs => PySem.call f vs) :=
  L2.walk_of (n := 63) (k := 5) (x := "script") (CX := fun _ => CX0) (sp := fun w => spLaw (K w.params)) hn (by decide) hdf ⟨rfl, by decide, by decide, rfl⟩ hY F (fun _ _ a ns hl _ hS => ⟨a, ns, rfl, hS, hl, fun _ => rfl⟩) fun _ _ _ _ _ z => z
end Law
open PySem PySem.W PyProof.Rows
set_option maxRecDepth 100000 in
set_option maxHeartbeats 0 in
theorem PySem.Challenge.cw_claspwork_k42_whole_rings_by_turns_holds : PySem.Challenge.rw_claspwork_k42_whole_rings_by_turns.Holds := by
  w_on; o_law; k_head; (case hw => w_witness2)
  k_fill
  refine Law.walk (l := PySem.Challenge.rw_claspwork_k42_whole_rings_by_turns) rfl rfl (fun w h Y => PySem.W.kIn_of Y) ?F
  case F =>
    intro w mg fa h KX G hmg
    refine' Law.all_mk KX G hmg ?a0 ?l0 ?c0 ?k0 ?a1 ?l1 ?c1 ?k1 ?a2 ?l2 ?c2 ?k2 ?a3 ?l3 ?c3 ?k3 ?a4 ?l4 ?c4 ?k4 ?a5 ?l5 ?c5 ?k5 ?a6 ?l6 ?c6 ?k6 ?a7 ?l7 ?c7 ?k7 ?a8 ?l8 ?c8 ?k8 ?a9 ?l9 ?c9 ?k9 ?a10 ?l10 ?c10 ?k10 ?z0 ?z1 ?z2 ?z3 ?z4 ?z5 ?z6 ?g_BadStretch ?x_BadStretch
    (case a0 => k_is)
    (case l0 => k_is)
    (case c0 => k_is)
    (case k0 => k_is)
    (case a1 => k_is)
    (case l1 => k_is)
    (case c1 => k_is)
    (case k1 => k_is)
    (case a2 => k_is)
    (case l2 => k_is)
    (case c2 => k_is)
    (case k2 => k_is)
    (case a3 => k_is)
    (case l3 => k_is)
    (case c3 => k_is)
    (case k3 => k_is)
    (case a4 => k_is)
    (case l4 => k_is)
    (case c4 => k_is)
    (case k4 => k_is)
    (case a5 => k_is)
    (case l5 => k_is)
    (case c5 => k_is)
    (case k5 => k_is)
    (case a6 => k_is)
    (case l6 => k_is)
    (case c6 => k_is)
    (case k6 => k_is)
    (case a7 => k_is)
    (case l7 => k_is)
    (case c7 => k_is)
    (case k7 => k_is)
    (case a8 => k_is)
    (case l8 => k_is)
    (case c8 => k_is)
    (case k8 => k_is)
    (case a9 => k_is)
    (case l9 => k_is)
    (case c9 => k_is)
    (case k9 => k_is)
    (case a10 => k_is)
    (case l10 => k_is)
    (case c10 => k_is)
    (case k10 => k_is)
    (case z0 => k_is)
    (case z1 => k_is)
    (case z2 => k_is)
    (case z3 => k_is)
    (case z4 => k_is)
    (case z5 => k_is)
    (case z6 => k_is)
    (case g_BadStretch => k_is)
    (case x_BadStretch => kernel_rfl)


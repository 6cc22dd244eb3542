import PyProof.Rows.All
import Wide.All
import OpenK.AllK
import Wide.FinOn
import Lean
import PyProof.EqAt
import PyProof.EqKinds
import PyProof.TupleCall
import PyProof.SumWalkG
import KE.KTryMore
import PyProof.NeKinds
import PyProof.ExcAttrAll.ValueError
import KE.KRevIter
import PyProof.ReprRoads
import PyProof.ReprLen
import KE.KIntText
import PyProof.StrLoop
import PyProof.StrWalks
import PyProof.StrCalls2
import PyProof.ConsumeWalk
import PyProof.StrLawsRepr
import PyProof.StrLawsChain
import PyProof.StrLawsIdx
import PyProof.StrLawsNeg
import PyProof.StrBlockI
import KE.BitLaws
import PySem.Challenge.RW_claspwork_k15_deeds_written
set_option Elab.async false
set_option linter.all false
set_option maxRecDepth 100000
namespace L2
open PySem PySem.Spec PyProof.Rows

abbrev Key := Sum Int Str
def keyIs : Key → Value → Bool
  | .inl k, v => Value.isInt k v
  | .inr x, v => Value.isStrOf x v
def keyH (w : World) : Key → Int
  | .inl k => hashInt k
  | .inr x => hashStr w x
theorem keyIs_shape : ∀ {k : Key} {v : Value}, keyIs k v = true → (∃ i t, k = Sum.inl i ∧ v = Value.int i t) ∨ (∃ x t, k = Sum.inr x ∧ v = Value.str x t)
  | .inl i, v, h => by
    obtain ⟨t, e⟩ := Value.isInt_shape (k := i) (v := v) h
    exact .inl ⟨i, t, rfl, e⟩
  | .inr x, v, h => by
    obtain ⟨t, e⟩ := Value.isStrOf_shape (x := x) (v := v) h
    exact .inr ⟨x, t, rfl, e⟩
theorem key_ll (a b : Int) : decide ((Sum.inl a : Key) = Sum.inl b) = (a == b) := by
  by_cases e : a = b
  · subst e; simp
  · have h : ¬ (Sum.inl a : Key) = Sum.inl b := fun q => e (Sum.inl.inj q)
    rw [decide_eq_false h]
    exact (beq_eq_false_iff_ne.mpr e).symm
theorem key_rr (a b : Str) : decide ((Sum.inr a : Key) = Sum.inr b) = decide (a = b) := by
  by_cases e : a = b
  · subst e; simp
  · have h : ¬ (Sum.inr a : Key) = Sum.inr b := fun q => e (Sum.inr.inj q)
    rw [decide_eq_false h, decide_eq_false e]
theorem key_lr (a : Int) (b : Str) : decide ((Sum.inl a : Key) = Sum.inr b) = false := decide_eq_false (fun q => nomatch q)
theorem key_rl (a : Str) (b : Int) : decide ((Sum.inr a : Key) = Sum.inl b) = false := decide_eq_false (fun q => nomatch q)

def mixKind (prog : Program) (w : World) : PySem.KeyKind prog w Key where
  is := keyIs
  hash := keyH w
  inj := fun v a b ha hb => by
    rcases keyIs_shape ha with ⟨i, t, rfl, rfl⟩ | ⟨x, t, rfl, rfl⟩
    · rcases keyIs_shape hb with ⟨j, u, rfl, e⟩ | ⟨y, u, rfl, e⟩
      · injection e with e1 _; rw [e1]
      · exact nomatch e
    · rcases keyIs_shape hb with ⟨j, u, rfl, e⟩ | ⟨y, u, rfl, e⟩
      · exact nomatch e
      · injection e with e1 _; rw [e1]
  byValue := fun k v h => by
    rcases keyIs_shape h with ⟨i, t, rfl, rfl⟩ | ⟨x, t, rfl, rfl⟩ <;> rfl
  pyHash := fun hv h => by
    rcases keyIs_shape hv with ⟨i, t, rfl, rfl⟩ | ⟨x, t, rfl, rfl⟩
    · exact wpAny_pyHash_int h
    · exact wpAny_pyHash_str h
  eqBool := fun hu hv h => by
    rcases keyIs_shape hu with ⟨i, t, rfl, rfl⟩ | ⟨x, t, rfl, rfl⟩
    · rcases keyIs_shape hv with ⟨j, u, rfl, rfl⟩ | ⟨y, u, rfl, rfl⟩
      · rw [key_ll] at h; exact wpAny_eqBool_int h
      · rw [key_lr] at h; exact SeqAt.EqAt.int_str i t y u _ _ _ _ h
    · rcases keyIs_shape hv with ⟨j, u, rfl, rfl⟩ | ⟨y, u, rfl, rfl⟩
      · rw [key_rl] at h; exact SeqAt.EqAt.str_int x t j u _ _ _ _ h
      · rw [key_rr] at h; exact wpAny_eqBool_str h
  «strs» := fun k x t v h => by
    rcases keyIs_shape h with ⟨i, u, rfl, e⟩ | ⟨y, u, rfl, e⟩
    · exact nomatch e
    · injection e with e1 _
      subst e1
      cases v <;> rfl

end L2

namespace L2
open PySem PySem.Spec PyProof.Rows

inductive V where
  | non | bl (b : Bool) | int (i : Int) | str (x : Str) | byt (b : Array UInt8) | flt (b : UInt64) | ref (a : Addr) | ty (n : String)
  deriving DecidableEq

def RelV : V → Value → Prop
  | .non, u => u = Value.none
  | .bl b, u => u = Value.bool b
  | .int i, u => ∃ t, u = Value.int i t
  | .str x, u => ∃ t, u = Value.str x t
  | .byt b, u => ∃ t, u = Value.bytes b t
  | .flt b, u => ∃ t, u = Value.float b t
  | .ref a, u => u = Value.ref a
  | .ty n, u => u = Value.type n

abbrev Vals : List V → List Value → Prop := Paired RelV
theorem Vals.length {xs : List V} {us : List Value} (r : Vals xs us) : xs.length = us.length := Paired.length r
theorem Vals.get : ∀ {xs : List V} {us : List Value} {i : Nat} {x : V}, Vals xs us → xs[i]? = some x → ∃ u, us[i]? = some u ∧ RelV x u
  | _, _, _, _, .nil, e => by simp at e
  | _, _, 0, _, .cons r _, e => by simp at e; subst e; exact ⟨_, rfl, r⟩
  | _, _, i + 1, x, .cons _ t, e => by
    obtain ⟨u, h1, h2⟩ := Vals.get (i := i) (x := x) t (by simpa using e)
    exact ⟨u, by simpa using h1, h2⟩
theorem Vals.append : ∀ {xs ys : List V} {us ws : List Value}, Vals xs us → Vals ys ws → Vals (xs ++ ys) (us ++ ws)
  | _, _, _, _, .nil, s => s
  | _, _, _, _, .cons r t, s => .cons r (Vals.append t s)
theorem Vals.take : ∀ {xs : List V} {us : List Value} (n : Nat), Vals xs us → Vals (xs.take n) (us.take n)
  | _, _, 0, _ => .nil
  | _, _, _ + 1, .nil => .nil
  | _, _, n + 1, .cons r t => .cons r (Vals.take n t)
theorem Vals.drop : ∀ {xs : List V} {us : List Value} (n : Nat), Vals xs us → Vals (xs.drop n) (us.drop n)
  | _, _, 0, r => r
  | _, _, _ + 1, .nil => .nil
  | _, _, n + 1, .cons _ t => Vals.drop n t
def RelO : Option V → Option Value → Prop
  | some v, some u => RelV v u
  | none, none => True
  | _, _ => False
def KV {κ : Type} : List (κ × V) → List (κ × Value) → Prop := Paired fun (p : κ × V) (q : κ × Value) => p.1 = q.1 ∧ RelV p.2 q.2

def kV : Key → V
  | .inl i => .int i
  | .inr x => .str x

inductive HO where
  | lst (xs : List V)
  | tup (xs : List V)
  | dK (kvs : List (Key × V)) | dT (kvs : List (List Key × V))
  | set (S : Int → Bool) (n : Nat)
  | ins (C dx : Addr) (fs : List (Str × V))
  | own (x : Addr)
  | xd (fs : List (Str × V))
  | met (f x : Addr)
  | rng (lo hi : Int)
  | frz (o : Obj) (u : HO)
  | tbl (ps : Array Value)
  | ext (φ : Heap → Prop)

abbrev Hp := Addr → Option HO
def upd (H : Hp) (a : Addr) (o : HO) : Hp := fun b => if b = a then some o else H b
theorem upd_same {H : Hp} {a : Addr} {o : HO} : upd H a o a = some o := by unfold upd; rw [if_pos rfl]
theorem upd_ne {H : Hp} {a b : Addr} {o : HO} (h : b ≠ a) : upd H a o b = H b := by unfold upd; rw [if_neg h]
theorem ne_of_none {H : Hp} {a b : Addr} {o : HO} (h : H a = some o) (h' : H b = none) : a ≠ b := by
  intro e; subst e; rw [h] at h'; cases h'

section
variable (P : Program) (w : World)
def ObjOk (H : Hp) (h : Heap) (a : Addr) : HO → Prop
  | .lst xs => xs.length ≤ sizeLine ∧ ∃ (its : List Value) (n : Nat), Vals xs its ∧ h.get? a = some { cls := .type "list", data := .seq its.toArray n }
  | .tup xs => xs.length ≤ sizeLine ∧ ∃ its : List Value, Vals xs its ∧ IsTup h a its.toArray
  | .dK kvs => kvs.length ≤ sizeLine ∧ (a == sysModules) = false ∧ ∃ vs, KV kvs vs ∧ h.DictOf (mixKind P w) a vs
  | .dT kvs => kvs.length ≤ sizeLine ∧ (a == sysModules) = false ∧ ∃ xs : List (List Key × Addr × Value),
      Paired (fun (p : List Key × V) (q : List Key × Addr × Value) => p.1 = q.1 ∧ H q.2.1 = some (.tup (p.1.map kV)) ∧ RelV p.2 q.2.2) kvs xs ∧
      ∃ o es ep, h.get? a = some o ∧ o.ExactDict ∧ o.data = .dict es ep ∧ es.toList = xs.map (entryOfKey (tupleKind (mixKind P w))) ∧ (xs.map (·.1)).Nodup
  | .set S n => h.SetOf (intKind P w) a S n
  | .ins C dx fs => H dx = some (.own a) ∧ fs.length ≤ 1000 ∧ dx ≠ a ∧ h.get? a = some (PySem.W.instObj C dx) ∧
      ∃ mA, h.Ns1 dx mA ∧ (∀ f, RelO (fs.lookup f) (mA f)) ∧ PySem.Within mA (fs.map (·.1))
  | .own _ => ∃ o, h.get? a = some o
  | .xd fs => ∃ mA, h.Ns1 a mA ∧ ∀ f, RelO (fs.lookup f) (mA f)
  | .rng lo hi => ∃ t u v, h.get? a = some { cls := .type "range", data := .fields #[.int lo t, .int hi u, .int 1 v] }
  | .frz o u => h.get? a = some o ∧ ObjOk H h a u
  | .tbl ps => h.get? a = some { cls := .none, data := .fields ps }
  | .met f x => h.get? a = some (PySem.W.methodObj (.ref f) (.ref x))
  | .ext φ => φ h ∧ (∃ o, h.get? a = some o) ∧ ∀ h1 h2 : Heap, φ h1 → (∀ o, h1.get? a = some o → h2.get? a = some o) → φ h2
def HOk (H : Hp) (h : Heap) : Prop := ∀ a o, H a = some o → ObjOk P w H h a o
end

section
variable {P : Program} {w : World} {H H' : Hp} {h h' : Heap} {a : Addr} {o : HO}
theorem ObjOk.lt (x : ObjOk P w H h a o) : a < h.objs.size := by
  cases o with
  | lst xs => obtain ⟨_, _, _, _, e⟩ := x; exact Heap.lt_size e
  | tup xs => obtain ⟨_, _, _, p⟩ := x; exact p.lt
  | dK kvs => obtain ⟨_, _, _, _, o, _, _, e, _⟩ := x; exact Heap.lt_size e
  | dT kvs => obtain ⟨_, _, _, _, o, _, _, e, _⟩ := x; exact Heap.lt_size e
  | set S n => obtain ⟨o, _, _, _, e, _⟩ := x; exact Heap.lt_size e
  | ins C dx fs => obtain ⟨_, _, _, e, _⟩ := x; exact Heap.lt_size e
  | own y => obtain ⟨_, e⟩ := x; exact Heap.lt_size e
  | xd fs => obtain ⟨_, ⟨_, _, _, e, _⟩, _⟩ := x; exact Heap.lt_size e
  | rng lo hi => obtain ⟨_, _, _, e⟩ := x; exact Heap.lt_size e
  | frz ob u => obtain ⟨e, _⟩ := x; exact Heap.lt_size e
  | tbl ps => exact Heap.lt_size (show h.get? a = some _ from x)
  | met f y => exact Heap.lt_size (show h.get? a = some _ from x)
  | ext φ => obtain ⟨_, ⟨_, e⟩, _⟩ := x; exact Heap.lt_size e
theorem Paired.mapP {α β : Type} {F G : α → β → Prop} : ∀ {l₁ : List α} {l₂ : List β}, Paired F l₁ l₂ → (∀ a b, F a b → G a b) → Paired G l₁ l₂
  | _, _, .nil, _ => .nil
  | _, _, .cons r t, f => .cons (f _ _ r) (Paired.mapP t f)
theorem ObjOk.stay (x : ObjOk P w H h a o) (k : ∀ b u, (b = a ∨ H b = some (.own a)) → h.get? b = some u → h'.get? b = some u)
    (ho : ∀ b, H b = some (.own a) → H' b = some (.own a)) (ht : ∀ b xs, H b = some (.tup xs) → H' b = some (.tup xs)) : ObjOk P w H' h' a o := by
  induction o with
  | lst xs => obtain ⟨z, its, n, r, e⟩ := x; exact ⟨z, its, n, r, k _ _ (.inl rfl) e⟩
  | tup xs => obtain ⟨z, its, r, ob, e, c⟩ := x; exact ⟨z, its, r, ob, k _ _ (.inl rfl) e, c⟩
  | dK kvs => obtain ⟨z, y, vs, r, ob, es, ep, e, c⟩ := x; exact ⟨z, y, vs, r, ob, es, ep, k _ _ (.inl rfl) e, c⟩
  | dT kvs =>
    obtain ⟨z, y, xs, r, ob, es, ep, e, c⟩ := x
    exact ⟨z, y, xs, Paired.mapP r fun p q z => ⟨z.1, ht _ _ z.2.1, z.2.2⟩, ob, es, ep, k _ _ (.inl rfl) e, c⟩
  | set S n => obtain ⟨ob, es, ep, t, e, c⟩ := x; exact ⟨ob, es, ep, t, k _ _ (.inl rfl) e, c⟩
  | ins C dx fs =>
    obtain ⟨d, z, ne, e, mA, ⟨od, es, ep, e2, c⟩, r⟩ := x
    exact ⟨ho _ d, z, ne, k _ _ (.inl rfl) e, mA, ⟨od, es, ep, k _ _ (.inr d) e2, c⟩, r⟩
  | own y => obtain ⟨ob, e⟩ := x; exact ⟨ob, k _ _ (.inl rfl) e⟩
  | xd fs => obtain ⟨mA, ⟨od, es, ep, e, c⟩, r⟩ := x; exact ⟨mA, ⟨od, es, ep, k _ _ (.inl rfl) e, c⟩, r⟩
  | rng lo hi => obtain ⟨t, u, v, e⟩ := x; exact ⟨t, u, v, k _ _ (.inl rfl) e⟩
  | frz ob u ih => obtain ⟨e, q⟩ := x; exact ⟨k _ _ (.inl rfl) e, ih q⟩
  | tbl ps =>
    have e : h.get? a = some { cls := .none, data := .fields ps } := x
    show h'.get? a = some { cls := .none, data := .fields ps }
    exact k a _ (.inl rfl) e
  | met f y =>
    have e : h.get? a = some (PySem.W.methodObj (.ref f) (.ref y)) := x
    show h'.get? a = some (PySem.W.methodObj (.ref f) (.ref y))
    exact k a _ (.inl rfl) e
  | ext φ => obtain ⟨p, ⟨o, e⟩, st⟩ := x; exact ⟨st _ _ p fun o q => k _ _ (.inl rfl) q, ⟨o, k _ _ (.inl rfl) e⟩, st⟩
theorem HOk.lt (x : HOk P w H h) (e : H a = some o) : a < h.objs.size := (x a o e).lt
theorem HOk.fresh (x : HOk P w H h) (e : h.objs.size ≤ a) : H a = none := by
  cases q : H a with
  | none => rfl
  | some u => exact absurd (Nat.lt_of_lt_of_le (x.lt q) e) (Nat.lt_irrefl _)
theorem HOk.kept (x : HOk P w H h) (k : ∀ b u, h.get? b = some u → h'.get? b = some u) : HOk P w H h' := fun a o e =>
  (x a o e).stay (fun b u _ q => k b u q) (fun _ q => q) fun _ _ q => q
theorem HOk.laid (x : HOk P w H h) (k : ∀ b u, h.get? b = some u → h'.get? b = some u) (hp : h.objs.size ≤ a) (new : ObjOk P w (upd H a o) h' a o) : HOk P w (upd H a o) h' := fun b u e => by
  have hn := x.fresh hp
  by_cases hb : b = a
  · subst hb; rw [upd_same] at e; cases e; exact new
  · rw [upd_ne hb] at e
    exact (x b u e).stay (fun c v _ q => k c v q) (fun c q => by rw [upd_ne (ne_of_none q hn)]; exact q) fun c xs q => by rw [upd_ne (ne_of_none q hn)]; exact q
end

def Rd (H : Hp) (a : Addr) (u : HO) : Prop := H a = some u ∨ ∃ o, H a = some (.frz o u)
theorem Rd.ok {P : Program} {w : World} {H : Hp} {h : Heap} {a : Addr} {u : HO} (r : Rd H a u) (x : HOk P w H h) : ObjOk P w H h a u := by
  rcases r with r | ⟨o, r⟩
  · exact x a u r
  · obtain ⟨_, q⟩ := x a _ r
    exact q
def Mut : Option HO → Prop
  | some (.lst _) => True
  | some (.dK _) => True
  | some (.dT _) => True
  | some (.set _ _) => True
  | some (.ins _ _ _) => True
  | some (.ext _) => True
  | _ => False
section
variable {P : Program} {w : World} {H : Hp} {h h' : Heap} {x e : Addr} {o' : HO}
theorem HOk.write (ok : HOk P w H h) (mu : Mut (H x)) (he : e = x ∨ H e = some (.own x)) (k : ∀ b u, b ≠ e → h.get? b = some u → h'.get? b = some u) (heo : ∃ u, h'.get? e = some u)
    (new : ObjOk P w (upd H x o') h' x o') : HOk P w (upd H x o') h' := fun b u q => by
  have nown : ∀ c y, H c = some (.own y) → c ≠ x := fun c y r z => by subst z; rw [r] at mu; exact mu
  have ntup : ∀ c xs, H c = some (.tup xs) → c ≠ x := fun c xs r z => by subst z; rw [r] at mu; exact mu
  by_cases hb : b = x
  · subst hb; rw [upd_same] at q; cases q; exact new
  · rw [upd_ne hb] at q
    by_cases hbe : b = e
    · have q' : H b = some (.own x) := by
        rcases he with z | z
        · exact absurd (hbe.trans z) hb
        · rw [hbe]; exact z
      rw [q] at q'; cases q'
      obtain ⟨v, hv⟩ := heo
      exact ⟨v, by rw [hbe]; exact hv⟩
    · refine (ok b u q).stay (fun c v hc r => k c v ?_ r) (fun c r => by rw [upd_ne (nown c b r)]; exact r) fun c xs r => by rw [upd_ne (ntup c xs r)]; exact r
      rcases hc with rfl | hc
      · exact hbe
      · rintro rfl
        rcases he with z | z
        · exact nown c b hc z
        · rw [hc] at z; cases z; exact hb rfl
end

structure Un (fs ex : List Addr) (H H' : Hp) (h h' : Heap) : Prop where
  keep : ∀ b o, h.get? b = some o → H b = none → b ∉ fs → b ∉ ex → h'.get? b = some o
  slot : ∀ b o, h.get? b = some o → H b = none → b ∈ fs → b ∉ ex → ∃ sl, h'.get? b = some { o with slots := sl }
  free : ∀ b o, h.get? b = some o → H b = none → b ∉ ex → H' b = none
  there : ∀ b o, h.get? b = some o → b ∉ ex → ∃ o', h'.get? b = some o'
  tups : ∀ b xs, H b = some (.tup xs) → H' b = some (.tup xs)
  frzs : ∀ b o u, H b = some (.frz o u) → H' b = some (.frz o u)
  tbls : ∀ b ps, H b = some (.tbl ps) → ∃ more, H' b = some (.tbl (ps ++ more))
section
variable {fs fs' ex ex' : List Addr} {H H1 H2 : Hp} {h h1 h2 h' : Heap} {a x e : Addr} {o : HO}
theorem Un.any (u : Un fs ex H H1 h h1) {b : Addr} {ob : Obj} (q : h.get? b = some ob) (n : H b = none) (hx : b ∉ ex) : ∃ sl, h1.get? b = some { ob with slots := sl } := by
  by_cases hb : b ∈ fs
  · exact u.slot b ob q n hb hx
  · exact ⟨ob.slots, u.keep b ob q n hb hx⟩
theorem Un.trans (a : Un fs ex H H1 h h1) (b : Un fs ex H1 H2 h1 h2) : Un fs ex H H2 h h2 where
  keep := fun c ob q n hc hx => b.keep c ob (a.keep c ob q n hc hx) (a.free c ob q n hx) hc hx
  slot := fun c ob q n hc hx => by
    obtain ⟨sl, e1⟩ := a.slot c ob q n hc hx
    obtain ⟨sl', e2⟩ := b.slot c _ e1 (a.free c ob q n hx) hc hx
    exact ⟨sl', e2⟩
  free := fun c ob q n hx => by
    obtain ⟨o', e1⟩ := a.there c ob q hx
    exact b.free c o' e1 (a.free c ob q n hx) hx
  there := fun c ob q hx => by
    obtain ⟨o', e1⟩ := a.there c ob q hx
    exact b.there c o' e1 hx
  tups := fun c xs q => b.tups c xs (a.tups c xs q)
  frzs := fun c ob xs q => b.frzs c ob xs (a.frzs c ob xs q)
  tbls := fun c ps q => by
    obtain ⟨m1, e1⟩ := a.tbls c ps q
    obtain ⟨m2, e2⟩ := b.tbls c _ e1
    exact ⟨m1 ++ m2, by rw [e2, Array.append_assoc]⟩
theorem Un.kept (k : ∀ b u, h.get? b = some u → h'.get? b = some u) : Un fs ex H H h h' :=
  ⟨fun b ob q _ _ _ => k b ob q, fun b ob q _ _ _ => ⟨ob.slots, k b ob q⟩, fun _ _ _ n _ => n, fun b ob q _ => ⟨ob, k b ob q⟩, fun _ _ q => q, fun _ _ _ q => q, fun _ ps q => ⟨#[], by rw [q]; simp⟩⟩
theorem Un.refl : Un fs ex H H h h := Un.kept fun _ _ q => q
theorem Un.laid (k : ∀ b u, h.get? b = some u → h'.get? b = some u) (hp : h.objs.size ≤ a) (hn : H a = none) : Un fs ex H (upd H a o) h h' where
  keep := fun b u q _ _ _ => k b u q
  slot := fun b u q _ _ _ => ⟨u.slots, k b u q⟩
  free := fun b u q n _ => by rw [upd_ne (Nat.ne_of_lt (Nat.lt_of_lt_of_le (Heap.lt_size q) hp))]; exact n
  there := fun b u q _ => ⟨u, k b u q⟩
  tups := fun b xs q => by rw [upd_ne (ne_of_none q hn)]; exact q
  frzs := fun b u xs q => by rw [upd_ne (ne_of_none q hn)]; exact q
  tbls := fun b ps q => ⟨#[], by rw [upd_ne (ne_of_none q hn), q]; simp⟩
theorem Un.write (mu : Mut (H x)) (he : e = x ∨ H e = some (.own x)) (k : ∀ b u, b ≠ e → h.get? b = some u → h'.get? b = some u) (heo : ∃ u, h'.get? e = some u) : Un fs ex H (upd H x o) h h' := by
  have hx : ∀ b, H b = none → b ≠ x := fun b n z => by subst z; rw [n] at mu; exact mu
  have hb : ∀ b, H b = none → b ≠ e := fun b n z => by
    subst z
    rcases he with r | r
    · exact hx b n r
    · rw [n] at r; cases r
  have hm : ∀ b u, H b = some u → ¬ Mut (some u) → b ≠ x := fun b u q nm z => by subst z; rw [q] at mu; exact nm mu
  refine ⟨fun b u q n _ _ => k b u (hb b n) q, fun b u q n _ _ => ⟨u.slots, k b u (hb b n) q⟩, fun b u q n _ => by rw [upd_ne (hx b n)]; exact n, fun b u q _ => ?_,
    fun b xs q => by rw [upd_ne (hm b _ q fun z => z)]; exact q, fun b u xs q => by rw [upd_ne (hm b _ q fun z => z)]; exact q, fun b ps q => ⟨#[], by rw [upd_ne (hm b _ q fun z => z), q]; simp⟩⟩
  by_cases hbe : b = e
  · subst hbe; exact heo
  · exact ⟨u, k b u hbe q⟩
theorem Un.mono (u : Un fs ex H H1 h h1) (hs : ∀ b ∈ fs, b ∈ fs') (hx : ∀ b ∈ ex, b ∈ ex') : Un fs' ex' H H1 h h1 :=
  ⟨fun b ob q n hb he => u.keep b ob q n (fun z => hb (hs b z)) fun z => he (hx b z), fun _ _ q n _ he => u.any q n fun z => he (hx _ z), fun b ob q n he => u.free b ob q n fun z => he (hx b z), fun b ob q he => u.there b ob q fun z => he (hx b z), u.tups, u.frzs, u.tbls⟩
end

def trk (h : Heap) (H : Hp) : List Addr := (List.range h.objs.size).filter fun a => (H a).isSome
def hidT (h : Heap) (H : Hp) : Heap := PySem.W.hideAll h (trk h H)
theorem hidT_size (h : Heap) (H : Hp) : (hidT h H).objs.size = h.objs.size := PySem.W.hideAll_size _ _
theorem hidT_get {h : Heap} {H : Hp} {b : Addr} {o : Obj} (e : h.get? b = some o) (n : H b = none) : (hidT h H).get? b = some o :=
  PySem.W.hideAll_get _ e fun hm => by
    have q : (H b).isSome = true := (List.mem_filter.mp hm).2
    rw [n] at q; simp at q
theorem of_hidT {h : Heap} {H : Hp} {b : Addr} {o : Obj} (e : (hidT h H).get? b = some o) : h.get? b = some o ∧ H b = none := by
  have e' : h.get? b = some o := PySem.W.of_hideAll (trk h H) e
  refine ⟨e', ?_⟩
  cases q : H b with
  | none => rfl
  | some x =>
    have hm : b ∈ trk h H := List.mem_filter.mpr ⟨List.mem_range.mpr (Heap.lt_size e'), by simp [q]⟩
    have z : (hidT h H).get? b = none := PySem.W.hideAll_none (trk h H) hm
    rw [z] at e; cases e

end L2

namespace L2
open PySem PySem.Spec PyProof.Rows

structure Mod (K : PySem.W.Frag) (mg : Str → Option Value) (base : Heap) : Prop where
  kin : K.In base
  glob : base.Ns mainGlobals mg
  blt : ∃ mb, base.Ns builtinsNs mb ∧ ∀ x : Str, x ≠ "__name__" → mb x = bootBuiltins x
  nolimit : base.NoLimit

/-- the context: a def's body (or a comprehension's block) running. base: fixed through the whole law; s₀, H₀: the entry; outer: the frames whose slots others may change (a def's callers); stack: all frames that run;
   ex: iterators that were made ahead of the entry and are walked here (a comprehension's); fn: the names whose cells were made at the entry (a def: all; a comprehension's block: its own); calm: not within an except suite; pn: pins that every state bears; xe: what is wanted of an exception that leaves the code -/
structure Cx where
  prog : Program
  w : World
  K : PySem.W.Frag
  mg : Str → Option Value
  base : Heap
  A : Around
  N : List Str
  s₀ : Shared
  H₀ : Hp
  env : Env
  outer : List Env
  stack : List Env
  ex : List Addr
  fn : Str → Bool
  calm : Bool
  pn : List (Addr × Obj)
  xe : Value → Shared → Prop
def frs (l : List Env) : List Addr := l.filterMap (·.frame)
abbrev Cx.fs (X : Cx) : List Addr := frs X.outer

def Vis (sc : Scope) (x : Str) : Prop := sc.names.lookup x = some .local ∨ sc.names.lookup x = some .cell ∨ sc.names.lookup x = some .free
def Loc (sc : Scope) (x : Str) : Prop := sc.names.lookup x = some .local ∨ sc.names.lookup x = some .cell
def Look (env : Env) (h : Heap) (m : Str → Option Value) (x : Str) (u : Value) : Prop :=
  (env.kindOf x = some .local ∧ m x = some u) ∨ ((env.kindOf x = some .cell ∨ env.kindOf x = some .free) ∧ ∃ c, env.cells.lookup x = some c ∧ h.IsCell c (some u))

structure Cx.Ok (X : Cx) : Prop where
  mod : Mod X.K X.mg X.base
  kind : X.env.scope.kind = .function
  glob : X.env.globals = mainGlobals
  blt : X.env.builtins = builtinsNs
  above : X.s₀.heap.objs.size ≤ X.env.locals
  inj : ∀ x y c, X.env.cells.lookup x = some c → X.env.cells.lookup y = some c → x = y
  has : ∀ x, (X.env.kindOf x = some .cell ∨ X.env.kindOf x = some .free) → ∃ c, X.env.cells.lookup x = some c
  cab : ∀ x c, X.fn x = true → X.env.cells.lookup x = some c → X.s₀.heap.objs.size ≤ c
  hd : X.calm = true → X.A.handled = none
  frames : X.A.frames = some X.stack
  stk : X.stack = X.outer ∨ (X.stack = X.env :: X.outer ∧ X.env.frame = some X.env.locals)
  exf : ∀ b ∈ X.ex, b ≠ X.env.locals ∧ ∀ x c, X.env.cells.lookup x = some c → c ≠ b
  bs : ∀ b o, X.base.get? b = some o → X.s₀.heap.get? b = some o ∧ X.H₀ b = none
  bsz : X.base.objs.size ≤ X.s₀.heap.objs.size
  noex : ∀ b o, X.base.get? b = some o → b ∉ X.ex
  exfs : ∀ b ∈ X.ex, b ∉ X.fs
  funs : X.s₀.heap.FunFrames X.base X.outer
  frf : ∀ b ∈ X.fs, X.H₀ b = none

structure Inv (X : Cx) (pins : List (Addr × Obj)) (σ : List (Option V)) (H : Hp) (s : Shared) : Prop where
  ok : X.Ok
  os : s.os = X.s₀.os
  bare : AllBare s.gens
  base : Un X.fs X.ex X.H₀ H X.s₀.heap s.heap
  loc : ∃ m, s.heap.Ns X.env.locals m ∧ ∀ (i : Nat) (x : Str) (v : V), X.N[i]? = some x → σ[i]? = some (some v) → Vis X.env.scope x → ∃ u, RelV v u ∧ Look X.env s.heap m x u
  cell : ∀ x c, X.env.cells.lookup x = some c → ∃ v, s.heap.IsCell c v
  free : H X.env.locals = none
  freeC : ∀ x c, X.env.cells.lookup x = some c → H c = none
  pin : ∀ p ∈ X.pn ++ pins, s.heap.get? p.1 = some p.2 ∧ H p.1 = none ∧ p.1 ≠ X.env.locals ∧ p.1 ∉ X.fs ∧ ∀ v, p.2.data ≠ .cell v
  hok : HOk X.prog X.w H s.heap
  len : σ.length = X.N.length

section
variable {X : Cx} {pins : List (Addr × Obj)} {σ : List (Option V)} {H H' : Hp} {s : Shared} {h' : Heap}

theorem Cx.Ok.nofr (ok : X.Ok) {b : Addr} {o : Obj} (e : X.base.get? b = some o) : b ∉ X.fs := fun hb => by
  have := (ok.funs.mem hb).1
  rw [e] at this; cases this
theorem Inv.bs (I : Inv X pins σ H s) : ∀ b o, X.base.get? b = some o → s.heap.get? b = some o ∧ H b = none := fun b o e =>
  ⟨I.base.keep b o (I.ok.bs b o e).1 (I.ok.bs b o e).2 (I.ok.nofr e) (I.ok.noex b o e), I.base.free b o (I.ok.bs b o e).1 (I.ok.bs b o e).2 (I.ok.noex b o e)⟩
theorem Inv.bk (I : Inv X pins σ H s) : ∀ b o, X.base.get? b = some o → s.heap.get? b = some o := fun b o e => (I.bs b o e).1
theorem Inv.mod (I : Inv X pins σ H s) : Mod X.K X.mg X.base := I.ok.mod
theorem Inv.kIn (I : Inv X pins σ H s) : X.K.In s.heap := I.ok.mod.kin.keeps I.bk
theorem Inv.lt (I : Inv X pins σ H s) : X.env.locals < s.heap.objs.size := let ⟨_, hn, _⟩ := I.loc; hn.lt
theorem Inv.sz (I : Inv X pins σ H s) : X.s₀.heap.objs.size ≤ s.heap.objs.size := Nat.le_trans I.ok.above (Nat.le_of_lt I.lt)
theorem Inv.nofs (I : Inv X pins σ H s) {a : Addr} (h : s.heap.objs.size ≤ a) : a ∉ X.fs := fun hb => by
  obtain ⟨_, o, ho, _⟩ := I.ok.funs.mem hb
  exact absurd (Nat.lt_of_lt_of_le (Heap.lt_size ho) (Nat.le_trans I.sz h)) (Nat.lt_irrefl _)
theorem Inv.cne (I : Inv X pins σ H s) : ∀ x c, X.env.cells.lookup x = some c → c ≠ X.env.locals := fun x c e z => by
  obtain ⟨v, o, ho, hd⟩ := I.cell x c e
  obtain ⟨m, ⟨o', es, ep, ho', hd', _⟩, _⟩ := I.loc
  rw [z, ho'] at ho; cases ho; rw [hd'] at hd; cases hd
theorem Inv.funs (I : Inv X pins σ H s) : s.heap.FunFrames X.base X.outer := by
  have all : ∀ (l : List Env), (∀ b ∈ frs l, b ∈ X.fs) → X.s₀.heap.FunFrames X.base l → s.heap.FunFrames X.base l := by
    intro l
    induction l with
    | nil => intro _ _; trivial
    | cons env r ih =>
      intro hs hl
      obtain ⟨hk, ⟨L, o, hf, hn, ho, hd⟩, hr⟩ := hl
      have hL : L ∈ X.fs := hs L (by unfold frs; rw [List.filterMap_cons, hf]; exact List.mem_cons_self)
      obtain ⟨sl, e⟩ := I.base.slot L o ho (I.ok.frf L hL) hL fun z => I.ok.exfs L z hL
      exact ⟨hk, ⟨L, _, hf, hn, e, hd⟩, ih (fun b hb => hs b (by unfold frs; rw [List.filterMap_cons, hf]; exact List.mem_cons_of_mem _ hb)) hr⟩
  exact all X.outer (fun _ hb => hb) I.ok.funs

theorem Inv.stack (I : Inv X pins σ H s) : s.heap.FunFrames X.base X.stack := by
  rcases I.ok.stk with e | ⟨e, hf⟩
  · rw [e]; exact I.funs
  · rw [e]
    obtain ⟨m, hn, _⟩ := I.loc
    refine .cons (by rw [I.ok.kind]; decide) hf hn ?_ I.funs
    exact Heap.get?_none_of_le (Nat.le_trans I.ok.bsz I.ok.above)
theorem Inv.stkSub (I : Inv X pins σ H s) : ∀ b ∈ frs X.stack, b ∈ X.env.locals :: X.fs := fun b hb => by
  rcases I.ok.stk with e | ⟨e, hf⟩
  · rw [e] at hb; exact List.mem_cons_of_mem _ hb
  · rw [e] at hb
    unfold frs at hb
    rw [List.filterMap_cons, hf] at hb
    exact hb
theorem Inv.stkFree (I : Inv X pins σ H s) : ∀ b ∈ frs X.stack, H b = none := fun b hb => by
  rcases List.mem_cons.mp (I.stkSub b hb) with e | hb
  · rw [e]; exact I.free
  · obtain ⟨_, o, ho, _⟩ := I.ok.funs.mem hb
    exact I.base.free b o ho (I.ok.frf b hb) fun z => I.ok.exfs b z hb

theorem Inv.step {g' : Array GenState} {t' : Nat} {d' : Drawn} {ch : List Addr} (I : Inv X pins σ H s)
    (hch : ∀ b ∈ ch, (b ∈ X.ex ∨ X.s₀.heap.objs.size ≤ b) ∧ b ≠ X.env.locals ∧ (∀ x c, X.env.cells.lookup x = some c → c ≠ b) ∧ ∀ p ∈ X.pn ++ pins, p.1 ≠ b)
    (keep : ∀ b o, b ≠ X.env.locals → b ∉ X.fs → b ∉ ch → s.heap.get? b = some o → H b = none → h'.get? b = some o)
    (slot : ∀ b o, b ≠ X.env.locals → b ∈ X.fs → b ∉ ch → s.heap.get? b = some o → H b = none → ∃ sl, h'.get? b = some { o with slots := sl }) (free : ∀ b o, b ∉ ch → s.heap.get? b = some o → H b = none → H' b = none)
    (there : ∀ b o, b ∉ ch → s.heap.get? b = some o → ∃ o', h'.get? b = some o')
    (tups : ∀ b xs, H b = some (.tup xs) → H' b = some (.tup xs)) (frzs : ∀ b o u, H b = some (.frz o u) → H' b = some (.frz o u)) (tbls : ∀ b ps, H b = some (.tbl ps) → ∃ more, H' b = some (.tbl (ps ++ more)))
    (ns : ∀ m, s.heap.Ns X.env.locals m → h'.Ns X.env.locals m) (hok : HOk X.prog X.w H' h') (hg : AllBare g') :
    Inv X pins σ H' { s with heap := h', gens := g', drawn := d', toks := t' } := by
  have neL : ∀ b o, X.s₀.heap.get? b = some o → b ≠ X.env.locals := fun b o e => Nat.ne_of_lt (Nat.lt_of_lt_of_le (Heap.lt_size e) I.ok.above)
  have neC : ∀ b o, X.s₀.heap.get? b = some o → b ∉ X.ex → b ∉ ch := fun b o e hx hb => by
    rcases (hch b hb).1 with z | z
    · exact hx z
    · exact absurd (Nat.lt_of_lt_of_le (Heap.lt_size e) z) (Nat.lt_irrefl _)
  have cellK : ∀ x c, X.env.cells.lookup x = some c → ∀ v, s.heap.IsCell c v → h'.IsCell c v := fun x c e v ⟨o, ho, hd⟩ => by
    have nch : c ∉ ch := fun z => (hch c z).2.2.1 x c e rfl
    by_cases hc : c ∈ X.fs
    · obtain ⟨sl, q⟩ := slot c o (I.cne x c e) hc nch ho (I.freeC x c e)
      exact ⟨_, q, hd⟩
    · exact ⟨o, keep c o (I.cne x c e) hc nch ho (I.freeC x c e), hd⟩
  refine ⟨I.ok, I.os, hg, ⟨fun b o e n hb hx => ?_, fun b o e n hb hx => ?_, fun b o e n hx => ?_, fun b o e hx => ?_, fun b xs e => tups b xs (I.base.tups b xs e), fun b o xs e => frzs b o xs (I.base.frzs b o xs e), fun b ps e => ?_⟩, ?_, fun x c e => ?_, ?_, fun x c e => ?_, fun p hp => ?_, hok, I.len⟩
  · exact keep b o (neL b o e) hb (neC b o e hx) (I.base.keep b o e n hb hx) (I.base.free b o e n hx)
  · obtain ⟨sl, e1⟩ := I.base.slot b o e n hb hx
    obtain ⟨sl', e2⟩ := slot b _ (neL b o e) hb (neC b o e hx) e1 (I.base.free b o e n hx)
    exact ⟨sl', e2⟩
  · obtain ⟨o', e1⟩ := I.base.there b o e hx
    exact free b o' (neC b o e hx) e1 (I.base.free b o e n hx)
  · obtain ⟨o', e1⟩ := I.base.there b o e hx
    exact there b o' (neC b o e hx) e1
  · obtain ⟨m1, e1⟩ := I.base.tbls b ps e
    obtain ⟨m2, e2⟩ := tbls b _ e1
    exact ⟨m1 ++ m2, by rw [e2, Array.append_assoc]⟩
  · obtain ⟨m, hn, hl⟩ := I.loc
    refine ⟨m, ns m hn, fun i x v e1 e2 e3 => ?_⟩
    obtain ⟨u, r, l⟩ := hl i x v e1 e2 e3
    refine ⟨u, r, ?_⟩
    rcases l with l | ⟨k, c, e, z⟩
    · exact .inl l
    · exact .inr ⟨k, c, e, cellK x c e _ z⟩
  · obtain ⟨v, z⟩ := I.cell x c e
    exact ⟨v, cellK x c e v z⟩
  · obtain ⟨m, ⟨o, _, _, ho, _⟩, _⟩ := I.loc
    exact free _ o (fun z => (hch _ z).2.1 rfl) ho I.free
  · obtain ⟨v, o, ho, hd⟩ := I.cell x c e
    exact free c o (fun z => (hch c z).2.2.1 x c e rfl) ho (I.freeC x c e)
  · obtain ⟨e, n, ne, nf, d⟩ := I.pin p hp
    have nch : p.1 ∉ ch := fun z => (hch p.1 z).2.2.2 p hp rfl
    exact ⟨keep p.1 p.2 ne nf nch e n, free p.1 p.2 nch e n, ne, nf, d⟩
theorem Inv.un {t' : Nat} (I : Inv X pins σ H s) (u : Un X.fs [] H H' s.heap h') (hok : HOk X.prog X.w H' h') : Inv X pins σ H' { s with heap := h', toks := t' } := by
  obtain ⟨m, ⟨o, es, ep, ho, r⟩, _⟩ := id I.loc
  obtain ⟨sl, hL⟩ := u.any ho I.free (by simp)
  exact I.step (g' := s.gens) (d' := s.drawn) (ch := []) (fun _ z => nomatch z) (fun b o _ hb _ e n => u.keep b o e n hb (by simp)) (fun b o _ hb _ e n => u.slot b o e n hb (by simp)) (fun b o _ e n => u.free b o e n (by simp)) (fun b o _ e => u.there b o e (by simp)) u.tups u.frzs u.tbls (fun m' hm => by
    obtain ⟨o', es', ep', ho', r'⟩ := hm
    rw [ho] at ho'; cases ho'
    exact ⟨_, es', ep', hL, r'⟩) hok I.bare
theorem Inv.call {g' : Array GenState} {t' : Nat} {d' : Drawn} {ch : List Addr} (I : Inv X pins σ H s) (u : Un (frs X.stack) ch H H' s.heap h') (hok : HOk X.prog X.w H' h') (hg : AllBare g')
    (hch : ∀ b ∈ ch, (b ∈ X.ex ∨ X.s₀.heap.objs.size ≤ b) ∧ b ≠ X.env.locals ∧ (∀ x c, X.env.cells.lookup x = some c → c ≠ b) ∧ ∀ p ∈ X.pn ++ pins, p.1 ≠ b) :
    Inv X pins σ H' { s with heap := h', gens := g', drawn := d', toks := t' } := by
  obtain ⟨m, ⟨o, es, ep, ho, r⟩, _⟩ := id I.loc
  obtain ⟨sl, hL⟩ := u.any ho I.free fun z => (hch _ z).2.1 rfl
  exact I.step (ch := ch) hch (fun b o hL hb hc e n => u.keep b o e n (fun z => (List.mem_cons.mp (I.stkSub b z)).elim hL hb) hc) (fun b o _ _ hc e n => u.any e n hc) (fun b o hc e n => u.free b o e n hc) (fun b o hc e => u.there b o e hc) u.tups u.frzs u.tbls (fun m' hm => by
    obtain ⟨o', es', ep', ho', r'⟩ := hm
    rw [ho] at ho'; cases ho'
    exact ⟨_, es', ep', hL, r'⟩) hok hg
theorem Inv.turned {t' : Nat} {it : Addr} (I : Inv X pins σ H s) (k : ∀ b o, b ≠ it → s.heap.get? b = some o → h'.get? b = some o) (hn : H it = none) (hL : it ≠ X.env.locals)
    (h1 : it ∈ X.ex ∨ X.s₀.heap.objs.size ≤ it) (h2 : ∀ x c, X.env.cells.lookup x = some c → c ≠ it) (h3 : ∀ p ∈ X.pn ++ pins, p.1 ≠ it) : Inv X pins σ H { s with heap := h', toks := t' } := by
  have nit : ∀ b u, H b = some u → b ≠ it := fun b u e z => by rw [z, hn] at e; cases e
  refine I.step (g' := s.gens) (d' := s.drawn) (ch := [it]) (fun b hb => ?_) (fun b o _ _ hc e _ => k b o (fun z => hc (by simp [z])) e) (fun b o _ _ hc e _ => ⟨o.slots, k b o (fun z => hc (by simp [z])) e⟩) (fun _ _ _ _ n => n)
    (fun b o hc e => ⟨o, k b o (fun z => hc (by simp [z])) e⟩) (fun _ _ e => e) (fun _ _ _ e => e) (fun b ps e => ⟨#[], by rw [e]; simp⟩) (fun m hm => ?_) (fun b u e => ?_) I.bare
  · have e : b = it := by simpa using hb
    subst e
    exact ⟨h1, hL, h2, h3⟩
  · obtain ⟨o, es, ep, ho, r⟩ := hm
    exact ⟨o, es, ep, k _ o (Ne.symm hL) ho, r⟩
  · refine (I.hok b u e).stay (fun c v hc q => k c v ?_ q) (fun _ q => q) fun _ _ q => q
    rcases hc with z | z
    · rw [z]; exact nit b u e
    · exact nit c _ z
theorem Inv.tok (I : Inv X pins σ H s) (t : Nat) : Inv X pins σ H { s with toks := t } := I.un (h' := s.heap) (t' := t) Un.refl I.hok
theorem Inv.kept {t' : Nat} (I : Inv X pins σ H s) (k : ∀ b u, s.heap.get? b = some u → h'.get? b = some u) : Inv X pins σ H { s with heap := h', toks := t' } := I.un (Un.kept k) (I.hok.kept k)
theorem Inv.laid {a : Addr} {o : HO} {t' : Nat} (I : Inv X pins σ H s) (k : ∀ b u, s.heap.get? b = some u → h'.get? b = some u) (hp : s.heap.objs.size ≤ a) (new : ObjOk X.prog X.w (upd H a o) h' a o) :
    Inv X pins σ (upd H a o) { s with heap := h', toks := t' } := I.un (Un.laid k hp (I.hok.fresh hp)) (I.hok.laid k hp new)
theorem Inv.write {x e : Addr} {o : HO} {t' : Nat} (I : Inv X pins σ H s) (mu : Mut (H x)) (he : e = x ∨ H e = some (.own x)) (k : ∀ b u, b ≠ e → s.heap.get? b = some u → h'.get? b = some u) (heo : ∃ u, h'.get? e = some u)
    (new : ObjOk X.prog X.w (upd H x o) h' x o) : Inv X pins σ (upd H x o) { s with heap := h', toks := t' } := I.un (Un.write mu he k heo) (I.hok.write mu he k heo new)
theorem Inv.pins_of {pins' : List (Addr × Obj)} (I : Inv X pins σ H s) (h : ∀ p ∈ pins', s.heap.get? p.1 = some p.2 ∧ H p.1 = none ∧ p.1 ≠ X.env.locals ∧ p.1 ∉ X.fs ∧ ∀ v, p.2.data ≠ .cell v) : Inv X pins' σ H s :=
  ⟨I.ok, I.os, I.bare, I.base, I.loc, I.cell, I.free, I.freeC, fun p hp => (List.mem_append.mp hp).elim (fun z => I.pin p (List.mem_append_left _ z)) (h p), I.hok, I.len⟩

theorem nodup_ix {N : List Str} (hN : N.Nodup) {i j : Nat} {x : Str} (a : N[i]? = some x) (b : N[j]? = some x) : i = j := by
  obtain ⟨h1, e1⟩ := List.getElem?_eq_some_iff.mp a
  obtain ⟨h2, e2⟩ := List.getElem?_eq_some_iff.mp b
  exact (List.getElem_inj hN).mp (e1.trans e2.symm)

theorem store_ok2 {M : Model} {A : Around} {E : Value → Shared → Prop} {i : Nat} {x : Str} {v : V} {u : Value} {Q : Unit → Shared → Prop} (I : Inv X pins σ H s) (hN : X.N.Nodup) (hi : X.N[i]? = some x) (hx : Loc X.env.scope x) (r : RelV v u)
    (h : ∀ s', Inv X pins (σ.set i (some v)) H s' → (∃ a, Heap.SameBut a s.heap s'.heap ∧ (a = X.env.locals ∨ X.env.cells.lookup x = some a)) → Q () s') (hf : X.fn x = true ∨ X.env.scope.names.lookup x = some .local := by first | exact .inl rfl | exact .inr rfl | assumption) : wpAny M A (storeName X.env x u) Q E s := by
  obtain ⟨m, hn, hl⟩ := id I.loc
  have hcls : (X.env.scope.kind == .class || (X.env.scope.kind == .module && X.env.locals != X.env.globals)) = false := by rw [I.ok.kind]; rfl
  have hiσ : i < σ.length := by rw [I.len]; exact (List.getElem?_eq_some_iff.mp hi).1
  have cne := I.cne
  have tracked : ∀ {a : Addr} {h' : Heap}, (∃ o, s.heap.get? a = some o ∧ H a = none) → Heap.SameBut a s.heap h' → HOk X.prog X.w H h' := fun {a h'} ha hs b ob e => by
    obtain ⟨_, _, hfree⟩ := ha
    refine (I.hok b ob e).stay (fun c w' hc q => (hs.2 c ?_).trans q) (fun _ q => q) fun _ _ q => q
    rintro rfl
    rcases hc with rfl | hc
    · rw [hfree] at e; cases e
    · rw [hfree] at hc; cases hc
  rcases hx with hk | hk
  · refine wpAny_storeName_local hk hn (fun h' hn' hs => ?_) hcls
    obtain ⟨oL, _, _, hoL, _⟩ := id hn
    refine h _ ⟨I.ok, I.os, I.bare, ⟨fun b o e n hb hx => ?_, fun b o e n hb hx => ?_, I.base.free, fun b o e hx => ?_, I.base.tups, I.base.frzs, I.base.tbls⟩, ⟨_, hn', fun j y v' e1 e2 e3 => ?_⟩, fun y c e => ?_, I.free, I.freeC, fun p hp => ?_, tracked ⟨oL, hoL, I.free⟩ hs, by simpa using I.len⟩ ⟨_, hs, .inl rfl⟩
    · exact (hs.2 b (Nat.ne_of_lt (Nat.lt_of_lt_of_le (Heap.lt_size e) I.ok.above))).trans (I.base.keep b o e n hb hx)
    · obtain ⟨sl, e1⟩ := I.base.slot b o e n hb hx
      exact ⟨sl, (hs.2 b (Nat.ne_of_lt (Nat.lt_of_lt_of_le (Heap.lt_size e) I.ok.above))).trans e1⟩
    · obtain ⟨o', e1⟩ := I.base.there b o e hx
      exact ⟨o', (hs.2 b (Nat.ne_of_lt (Nat.lt_of_lt_of_le (Heap.lt_size e) I.ok.above))).trans e1⟩
    · by_cases hj : j = i
      · subst hj
        rw [hi] at e1; cases e1
        rw [List.getElem?_set_self hiσ] at e2
        cases e2
        exact ⟨u, r, .inl ⟨hk, by simp⟩⟩
      · rw [List.getElem?_set_ne (Ne.symm hj)] at e2
        obtain ⟨u', r', q⟩ := hl j y v' e1 e2 e3
        refine ⟨u', r', ?_⟩
        rcases q with ⟨k, e⟩ | ⟨k, c, e, z⟩
        · refine .inl ⟨k, ?_⟩
          have : y ≠ x := fun e => hj (nodup_ix hN e1 (e ▸ hi))
          simp [this, e]
        · exact .inr ⟨k, c, e, z.sameBut hs (cne y c e)⟩
    · obtain ⟨w', z⟩ := I.cell y c e
      exact ⟨w', z.sameBut hs (cne y c e)⟩
    · obtain ⟨e, n, ne, nf, d⟩ := I.pin p hp
      exact ⟨(hs.2 p.1 ne).trans e, n, ne, nf, d⟩
  · have hfn : X.fn x = true := by
      rcases hf with z | z
      · exact z
      · rw [z] at hk; cases hk
    obtain ⟨c, hc⟩ := I.ok.has x (.inl hk)
    obtain ⟨w', z⟩ := I.cell x c hc
    refine wpAny_storeName_cell I.ok.kind hk hc z (fun h' hc' hs => ?_)
    obtain ⟨oc, hoc, hocd⟩ := id z
    refine h { s with heap := h' } ⟨I.ok, I.os, I.bare, ⟨fun b o e n hb hx => ?_, fun b o e n hb hx => ?_, I.base.free, fun b o e hx => ?_, I.base.tups, I.base.frzs, I.base.tbls⟩, ⟨m, hn.sameBut hs (Ne.symm (cne x c hc)), fun j y v' e1 e2 e3 => ?_⟩, fun y c' e => ?_, I.free, I.freeC, fun p hp => ?_, tracked ⟨oc, hoc, I.freeC x c hc⟩ hs, by simpa using I.len⟩ ⟨c, hs, .inr hc⟩
    · exact (hs.2 b (Nat.ne_of_lt (Nat.lt_of_lt_of_le (Heap.lt_size e) (I.ok.cab x c hfn hc)))).trans (I.base.keep b o e n hb hx)
    · obtain ⟨sl, e1⟩ := I.base.slot b o e n hb hx
      exact ⟨sl, (hs.2 b (Nat.ne_of_lt (Nat.lt_of_lt_of_le (Heap.lt_size e) (I.ok.cab x c hfn hc)))).trans e1⟩
    · obtain ⟨o', e1⟩ := I.base.there b o e hx
      exact ⟨o', (hs.2 b (Nat.ne_of_lt (Nat.lt_of_lt_of_le (Heap.lt_size e) (I.ok.cab x c hfn hc)))).trans e1⟩
    · by_cases hj : j = i
      · subst hj
        rw [hi] at e1; cases e1
        rw [List.getElem?_set_self hiσ] at e2
        cases e2
        exact ⟨u, r, .inr ⟨.inl hk, c, hc, hc'⟩⟩
      · rw [List.getElem?_set_ne (Ne.symm hj)] at e2
        obtain ⟨u', r', q⟩ := hl j y v' e1 e2 e3
        refine ⟨u', r', ?_⟩
        rcases q with q | ⟨k, c', e, z'⟩
        · exact .inl q
        · refine .inr ⟨k, c', e, z'.sameBut hs ?_⟩
          rintro rfl
          exact hj (nodup_ix hN e1 (I.ok.inj _ _ _ e hc ▸ hi))
    · by_cases hcc : c' = c
      · subst hcc; exact ⟨_, hc'⟩
      · obtain ⟨w2, z2⟩ := I.cell y c' e
        exact ⟨w2, z2.sameBut hs hcc⟩
    · obtain ⟨e, n, ne, nf, d⟩ := I.pin p hp
      refine ⟨(hs.2 p.1 ?_).trans e, n, ne, nf, d⟩
      intro q
      rw [q, hoc] at e
      have q' : oc = p.2 := Option.some.inj e
      exact d w' (by rw [← q']; exact hocd)
theorem store_ok {M : Model} {A : Around} {E : Value → Shared → Prop} {i : Nat} {x : Str} {v : V} {u : Value} {Q : Unit → Shared → Prop} (I : Inv X pins σ H s) (hN : X.N.Nodup) (hi : X.N[i]? = some x) (hx : Loc X.env.scope x) (r : RelV v u)
    (h : ∀ s', Inv X pins (σ.set i (some v)) H s' → Q () s') (hf : X.fn x = true ∨ X.env.scope.names.lookup x = some .local := by first | exact .inl rfl | exact .inr rfl | assumption) : wpAny M A (storeName X.env x u) Q E s :=
  store_ok2 I hN hi hx r (fun s' I' _ => h s' I') hf
theorem Inv.call' {s' : Shared} {ch : List Addr} (I : Inv X pins σ H s) (ho : s'.os = s.os) (u : Un (frs X.stack) ch H H' s.heap s'.heap) (hok : HOk X.prog X.w H' s'.heap) (hg : AllBare s'.gens)
    (hch : ∀ b ∈ ch, (b ∈ X.ex ∨ X.s₀.heap.objs.size ≤ b) ∧ b ≠ X.env.locals ∧ (∀ x c, X.env.cells.lookup x = some c → c ≠ b) ∧ ∀ p ∈ X.pn ++ pins, p.1 ≠ b) : Inv X pins σ H' s' := by
  obtain ⟨h', g', d', t', o'⟩ := s'
  have e : o' = s.os := ho
  subst e
  exact I.call (g' := g') (t' := t') (d' := d') u hok hg hch
end

abbrev XK := Value → Option Addr → Hp → Prop
abbrev St := List (Option V)
abbrev VK := V → Hp → Prop
abbrev TE := St → Hp → VK → Prop
abbrev TT := St → Hp → (Bool → Hp → Prop) → Prop
abbrev TA := St → Hp → (List V → Hp → Prop) → Prop
structure Ends where
  nx : St → Hp → Prop
  rt : VK
  bk : St → Hp → Prop := fun _ _ => False
  ct : St → Hp → Prop := fun _ _ => False
abbrev TS := Ends → St → Hp → Prop

def EP (X : Cx) (pins : List (Addr × Obj)) (σ : St) (Q : VK) (u : Value) (s' : Shared) : Prop := ∃ v H', Inv X pins σ H' s' ∧ RelV v u ∧ Q v H'
def TP (X : Cx) (pins : List (Addr × Obj)) (σ : St) (Q : Bool → Hp → Prop) (b : Bool) (s' : Shared) : Prop := ∃ H', Inv X pins σ H' s' ∧ Q b H'
def AP (X : Cx) (pins : List (Addr × Obj)) (σ : St) (Q : List V → Hp → Prop) (us : List Value) (s' : Shared) : Prop := ∃ vs H', Inv X pins σ H' s' ∧ Vals vs us ∧ Q vs H'
def SP (X : Cx) (pins : List (Addr × Obj)) (D : Ends) (f : Flow) (s' : Shared) : Prop :=
  match f with
  | .next => ∃ σ' H', Inv X pins σ' H' s' ∧ D.nx σ' H'
  | .brk => ∃ σ' H', Inv X pins σ' H' s' ∧ D.bk σ' H'
  | .cont => ∃ σ' H', Inv X pins σ' H' s' ∧ D.ct σ' H'
  | .ret u => ∃ v σ' H', Inv X pins σ' H' s' ∧ RelV v u ∧ D.rt v H'

def PE (X : Cx) (e : Expr) (t : TE) : Prop :=
  ∀ (pins : List (Addr × Obj)) (s : Shared) (σ : St) (H : Hp) (Q : VK), Inv X pins σ H s → t σ H Q → wpAny (model X.prog X.w) X.A (eval e X.env) (EP X pins σ Q) X.xe s
def PT (X : Cx) (e : Expr) (t : TT) : Prop :=
  ∀ (pins : List (Addr × Obj)) (s : Shared) (σ : St) (H : Hp) (Q : Bool → Hp → Prop), Inv X pins σ H s → t σ H Q → wpAny (model X.prog X.w) X.A (isTrue e X.env (eval e X.env)) (TP X pins σ Q) X.xe s
def PW (X : Cx) (e : Expr) (t : TT) : Prop :=
  ∀ (whole : Sem Value) (pins : List (Addr × Obj)) (s : Shared) (σ : St) (H : Hp) (Q : Bool → Hp → Prop), Inv X pins σ H s → t σ H Q → wpAny (model X.prog X.w) X.A (isTrue e X.env whole) (TP X pins σ Q) X.xe s
theorem PW.pt {X : Cx} {e : Expr} {t : TT} (h : PW X e t) : PT X e t := h _
def PA (X : Cx) (es : List Expr) (t : TA) : Prop :=
  ∀ (pos : Pos) (pins : List (Addr × Obj)) (s : Shared) (σ : St) (H : Hp) (Q : List V → Hp → Prop), Inv X pins σ H s → t σ H Q → wpAny (model X.prog X.w) X.A (spliced (backTo pos (starEach es X.env))) (AP X pins σ Q) X.xe s
def PS (X : Cx) (st : Stmt) (t : TS) : Prop :=
  ∀ (pins : List (Addr × Obj)) (s : Shared) (σ : St) (H : Hp) (D : Ends), Inv X pins σ H s → t D σ H → wpAny (model X.prog X.w) X.A (exec st X.env) (SP X pins D) X.xe s
def PSs (X : Cx) (st : List Stmt) (t : TS) : Prop :=
  ∀ (pins : List (Addr × Obj)) (s : Shared) (σ : St) (H : Hp) (D : Ends), Inv X pins σ H s → t D σ H → wpAny (model X.prog X.w) X.A (execs st X.env) (SP X pins D) X.xe s
theorem thn {α : Type} {t : Sem α} {Q Q' : α → Shared → Prop} {M : Model} {A : Around} {E : Value → Shared → Prop} {s : Shared} (h : wpAny M A t Q E s) (hQ : ∀ a s, Q a s → Q' a s) : wpAny M A t Q' E s := wpAny_mono h hQ fun _ _ x => x
end L2

namespace L2
open PySem PySem.Spec PyProof.Rows
section
variable {X : Cx}

def tVar (i : Nat) : TE := fun σ H Q => ∃ v, σ[i]? = some (some v) ∧ Q v H
def tC (v : V) : TE := fun _ H Q => Q v H
theorem pe_var {i : Nat} {x : Str} {pos : Pos} (hN : X.N[i]? = some x) (hv : Vis X.env.scope x) (hd : (x == ("__debug__" : Str)) = false := by decide) (hcd : (x == ("__classdict__" : Str)) = false := by decide) : PE X (.Name x pos) (tVar i) := by
  intro pins s σ H Q I h
  obtain ⟨v, e, h⟩ := h
  obtain ⟨m, hn, hl⟩ := I.loc
  obtain ⟨u, r, l⟩ := hl i x v hN e hv
  have fin : EP X pins σ Q u s := ⟨v, H, I, r, h⟩
  rcases l with ⟨hk, hm⟩ | ⟨hk, c, hc, hcell⟩
  · exact wpAny_Name (wpAny_loadName_local I.ok.kind hk hn hm fin) hd
  · rcases hk with hk | hk
    · exact wpAny_Name (wpAny_loadName_cell I.ok.kind hk hc hcell fin) hd
    · exact wpAny_Name (wpAny_loadName_free I.ok.kind hk hc hcell fin hcd) hd
theorem pe_int {i j pos} : PE X (.Constant (.int i) j pos) (tC (.int i)) := fun _ _ _ H _ I h => wpAny_Constant_int ⟨.int i, H, I.tok _, ⟨_, rfl⟩, h⟩
theorem pe_bl {b j pos} : PE X (.Constant (.bool b) j pos) (tC (.bl b)) := fun _ _ _ H _ I h => Constant_bool ⟨.bl b, H, I, rfl, h⟩
theorem pe_non {j pos} : PE X (.Constant .none j pos) (tC .non) := fun _ _ _ H _ I h => Constant_none ⟨.non, H, I, rfl, h⟩
theorem pe_str {x j pos} : PE X (.Constant (.str x) j pos) (tC (.str x)) := fun _ _ _ H _ I h => Calls.Constant_str ⟨.str x, H, I.tok _, ⟨_, rfl⟩, h⟩

def Gl (X : Cx) (x : Str) : Prop := X.env.kindOf x = some .globalImplicit
theorem ld_glob {E : Value → Shared → Prop} {pins : List (Addr × Obj)} {s : Shared} {σ : St} {H : Hp} {x : Str} {u : Value} {pos : Pos} {Q : Value → Shared → Prop} (I : Inv X pins σ H s) (hg : Gl X x) (hm : X.mg x = some u) (h : Q u s)
    (hd : (x == ("__debug__" : Str)) = false := by decide) : wpAny (model X.prog X.w) X.A (eval (.Name x pos) X.env) Q E s :=
  Calls.Name_function_global I.ok.kind hg (Calls.loadGlobal_global (by rw [I.ok.glob]; exact I.mod.glob.keeps I.bk) hm h) hd
theorem ld_blt {E : Value → Shared → Prop} {pins : List (Addr × Obj)} {s : Shared} {σ : St} {H : Hp} {x : Str} {u : Value} {pos : Pos} {Q : Value → Shared → Prop} (I : Inv X pins σ H s) (hg : Gl X x) (hm : X.mg x = none) (hv : bootBuiltins x = some u) (h : Q u s)
    (hn : x ≠ "__name__" := by decide) (hd : (x == ("__debug__" : Str)) = false := by decide) : wpAny (model X.prog X.w) X.A (eval (.Name x pos) X.env) Q E s := by
  obtain ⟨mb, h1, h2⟩ := I.mod.blt
  exact Calls.Name_function_global I.ok.kind hg (Calls.loadGlobal_builtin (by rw [I.ok.glob]; exact I.mod.glob.keeps I.bk) hm (by rw [I.ok.blt]; exact h1.keeps I.bk) ((h2 x hn).trans hv) h) hd
theorem pe_glob {x : Str} {v : V} {u : Value} {pos : Pos} (hg : Gl X x) (hm : X.mg x = some u) (r : RelV v u) (hd : (x == ("__debug__" : Str)) = false := by decide) : PE X (.Name x pos) (tC v) :=
  fun _ _ _ H _ I h => ld_glob I hg hm ⟨v, H, I, r, h⟩ hd
theorem pe_bltn {x : Str} {v : V} {u : Value} {pos : Pos} (hg : Gl X x) (hm : X.mg x = none) (hv : bootBuiltins x = some u) (r : RelV v u) (hn : x ≠ "__name__" := by decide) (hd : (x == ("__debug__" : Str)) = false := by decide) : PE X (.Name x pos) (tC v) :=
  fun _ _ _ H _ I h => ld_blt I hg hm hv ⟨v, H, I, r, h⟩ hn hd

variable {a b : Expr} {ta tb : TE} {pos : Pos}
def tB (t : TE) : TT := fun σ H Q => t σ H fun x H1 => ∃ c, x = .bl c ∧ Q c H1
theorem pt_val {e : Expr} {t : TE} (h : PE X e t) (he : ∀ whole, isTrue e X.env whole = (do let v ← whole; standAt e.pos; holding [v] (truthy v)) := by intro _; rfl) : PT X e (tB t) := by
  intro pins s σ H Q I hw
  refine isTrue_plain (thn (h pins s σ H _ I hw) fun v s1 ⟨x, H1, I1, r1, q1⟩ => ?_) (he _)
  obtain ⟨d, rfl, q⟩ := q1
  cases r1
  exact wpAny_truthy_bool ⟨H1, I1, q⟩

variable {tA tB' : TT} {rest : List Expr}
def tAnd (t u : TT) : TT := fun σ H Q => t σ H fun c H1 => if c = true then u σ H1 Q else Q false H1
def tOr (t u : TT) : TT := fun σ H Q => t σ H fun c H1 => if c = true then Q true H1 else u σ H1 Q
def tNot (t : TT) : TT := fun σ H Q => t σ H fun c H1 => Q (!c) H1
theorem pw_and1 (ha : PT X a tA) : PW X (.BoolOp .And [a] pos) tA := by
  intro wh pins s σ H Q I h
  refine isTrue_and (thn (ha pins s σ H Q I h) fun c s1 e => ?_)
  cases c with
  | true => exact isTrue_and_nil e
  | false => exact e
theorem pw_or1 (ha : PT X a tA) : PW X (.BoolOp .Or [a] pos) tA := by
  intro wh pins s σ H Q I h
  refine isTrue_or (thn (ha pins s σ H Q I h) fun c s1 e => ?_)
  cases c with
  | false => exact isTrue_or_nil e
  | true => exact e
theorem pw_and (ha : PT X a tA) (hb : PW X (.BoolOp .And (b :: rest) pos) tB') : PW X (.BoolOp .And (a :: b :: rest) pos) (tAnd tA tB') := by
  intro wh pins s σ H Q I h
  refine isTrue_and (thn (ha pins s σ H _ I h) fun c s1 ⟨H1, I1, q1⟩ => ?_)
  cases c with
  | true => exact hb wh pins s1 σ H1 Q I1 q1
  | false => exact ⟨H1, I1, q1⟩
theorem pw_or (ha : PT X a tA) (hb : PW X (.BoolOp .Or (b :: rest) pos) tB') : PW X (.BoolOp .Or (a :: b :: rest) pos) (tOr tA tB') := by
  intro wh pins s σ H Q I h
  refine isTrue_or (thn (ha pins s σ H _ I h) fun c s1 ⟨H1, I1, q1⟩ => ?_)
  cases c with
  | true => exact ⟨H1, I1, q1⟩
  | false => exact hb wh pins s1 σ H1 Q I1 q1
theorem pt_not (ha : PT X a tA) : PT X (.UnaryOp .Not a pos) (tNot tA) := by
  intro pins s σ H Q I h
  exact isTrue_not (ha pins s σ H (fun c H1 => Q (!c) H1) I h)
def tAndV (ta tb : TE) : TE := fun σ H Q => ta σ H fun x H1 => ∃ c, x = .bl c ∧ if c = true then tb σ H1 Q else Q (.bl false) H1
def tNotV (ta : TE) : TE := fun σ H Q => ta σ H fun x H1 => ∃ c, x = .bl c ∧ Q (.bl (!c)) H1
theorem pe_one {op} {t : TE} (h : PE X a t) : PE X (.BoolOp op [a] pos) t := fun pins s σ H Q I hw => BoolOp_one (h pins s σ H Q I hw)
theorem pe_and (ha : PE X a ta) (hb : PE X (.BoolOp .And (b :: rest) pos) tb) : PE X (.BoolOp .And (a :: b :: rest) pos) (tAndV ta tb) := by
  intro pins s σ H Q I h
  refine BoolOp_and (thn (ha pins s σ H _ I h) fun v s1 ⟨x, H1, I1, r1, q1⟩ => ?_)
  obtain ⟨c, rfl, q1⟩ := q1
  cases r1
  refine wpAny_truthy_bool ?_
  cases c with
  | true => exact hb pins s1 σ H1 Q I1 q1
  | false => exact ⟨.bl false, H1, I1, rfl, q1⟩
theorem pe_not (ha : PE X a ta) : PE X (.UnaryOp .Not a pos) (tNotV ta) := by
  intro pins s σ H Q I h
  refine UnaryOp_ (thn (ha pins s σ H _ I h) fun v s1 ⟨x, H1, I1, r1, q1⟩ => ?_)
  obtain ⟨c, rfl, q1⟩ := q1
  cases r1
  exact not_of (wpAny_truthy_bool ⟨.bl (!c), H1, I1, rfl, q1⟩)
def tIf (t : TT) (ta tb : TE) : TE := fun σ H Q => t σ H fun c H1 => if c = true then ta σ H1 Q else tb σ H1 Q
theorem pe_ifExp {c : Expr} (hc : PT X c tA) (ha : PE X a ta) (hb : PE X b tb) : PE X (.IfExp c a b pos) (tIf tA ta tb) := by
  intro pins s σ H Q I h
  refine wpAny_IfExp (thn (hc pins s σ H _ I h) fun d s1 ⟨H1, I1, q1⟩ => ?_)
  cases d with
  | true => exact ha pins s1 σ H1 Q I1 q1
  | false => exact hb pins s1 σ H1 Q I1 q1
end
end L2

namespace L2
open PySem PySem.Spec PyProof.Rows

def SqL (K : PySem.W.Frag) (H : Hp) (a : Addr) (xs : List V) : Prop :=
  Rd H a (.lst xs) ∨
    ∃ (o : Obj) (its : Array Value) (n : Nat), K.lookup a = some o ∧ o.cls = .type "list" ∧ o.dict = none ∧ o.data = .seq its n ∧ its.size ≤ sizeLine ∧ Vals xs its.toList
def SqT (K : PySem.W.Frag) (H : Hp) (a : Addr) (xs : List V) : Prop :=
  Rd H a (.tup xs) ∨
    ∃ (o : Obj) (its : Array Value) (n : Nat), K.lookup a = some o ∧ o.cls = .type "tuple" ∧ o.data = .seq its n ∧ its.size ≤ sizeLine ∧ Vals xs its.toList
def absV : Value → Option V
  | .none => some .non
  | .bool b => some (.bl b)
  | .int i _ => some (.int i)
  | .str x _ => some (.str x)
  | .bytes b _ => some (.byt b)
  | .float b _ => some (.flt b)
  | .ref a => some (.ref a)
  | .type n => some (.ty n)
  | _ => none
theorem RelV.abs {x : V} {u : Value} (r : RelV x u) : absV u = some x := by
  cases x with
  | non => cases r; rfl
  | bl _ => cases r; rfl
  | int _ => obtain ⟨t, rfl⟩ := r; rfl
  | str _ => obtain ⟨t, rfl⟩ := r; rfl
  | byt _ => obtain ⟨t, rfl⟩ := r; rfl
  | flt _ => obtain ⟨t, rfl⟩ := r; rfl
  | ref _ => cases r; rfl
  | ty _ => cases r; rfl
theorem RelV.inj {x y : V} {u : Value} (r : RelV x u) (q : RelV y u) : x = y := Option.some.inj (r.abs.symm.trans q.abs)
theorem Vals.inj : ∀ {xs ys : List V} {us : List Value}, Vals xs us → Vals ys us → xs = ys
  | _, _, _, .nil, .nil => rfl
  | _, _, _, .cons r t, .cons r' t' => by rw [r.inj r', Vals.inj t t']
section
variable {X : Cx} {pins : List (Addr × Obj)} {σ : St} {H : Hp} {s : Shared} {a : Addr} {xs ys : List V}
theorem SqL.of {K : PySem.W.Frag} (h : H a = some (.lst xs)) : SqL K H a xs := .inl (.inl h)
theorem SqT.of {K : PySem.W.Frag} (h : H a = some (.tup xs)) : SqT K H a xs := .inl (.inl h)
theorem Inv.list (I : Inv X pins σ H s) (h : SqL X.K H a xs) : ∃ its : List Value, Vals xs its ∧ PlainL s.heap a its.toArray ∧ xs.length ≤ sizeLine := by
  rcases h with h | ⟨o, its, n, hk, hc, hd, hs, hz, r⟩
  · obtain ⟨z, its, n, r, e⟩ := h.ok I.hok
    exact ⟨its, r, ⟨_, n, e, rfl, rfl, rfl⟩, z⟩
  · refine ⟨its.toList, r, ⟨o, n, I.kIn a o hk, hc, hd, by simpa using hs⟩, ?_⟩
    have e := r.length
    simp only [Array.length_toList] at e
    omega
theorem Inv.tuple (I : Inv X pins σ H s) (h : SqT X.K H a xs) : ∃ its : List Value, Vals xs its ∧ IsTup s.heap a its.toArray ∧ xs.length ≤ sizeLine := by
  rcases h with h | ⟨o, its, n, hk, hc, hs, hz, r⟩
  · obtain ⟨z, its, r, p⟩ := h.ok I.hok
    exact ⟨its, r, p, z⟩
  · refine ⟨its.toList, r, ⟨o, I.kIn a o hk, hc, n, by simpa using hs⟩, ?_⟩
    have e := r.length
    simp only [Array.length_toList] at e
    omega
theorem Inv.list_inj (I : Inv X pins σ H s) (h : SqL X.K H a xs) (h' : SqL X.K H a ys) : xs = ys := by
  obtain ⟨its, r, ⟨o, n, e, _, _, d⟩, _⟩ := I.list h
  obtain ⟨its', r', ⟨o', n', e', _, _, d'⟩, _⟩ := I.list h'
  rw [e] at e'; cases e'
  rw [d] at d'
  injection d' with d1 _
  have : its = its' := by simpa using congrArg Array.toList d1
  subst this
  exact r.inj r'
end

abbrev Cx.wish (X : Cx) (E : Value → Shared → Prop) : Cx := { X with xe := E }
abbrev Cx.nox (X : Cx) : Cx := X.wish fun _ _ => False
theorem Cx.Ok.wish {X : Cx} (ok : X.Ok) (E : Value → Shared → Prop) : (X.wish E).Ok :=
  ⟨ok.mod, ok.kind, ok.glob, ok.blt, ok.above, ok.inj, ok.has, ok.cab, ok.hd, ok.frames, ok.stk, ok.exf, ok.bs, ok.bsz, ok.noex, ok.exfs, ok.funs, ok.frf⟩
theorem Cx.Ok.unwish {X : Cx} {E : Value → Shared → Prop} (ok : (X.wish E).Ok) : X.Ok :=
  ⟨ok.mod, ok.kind, ok.glob, ok.blt, ok.above, ok.inj, ok.has, ok.cab, ok.hd, ok.frames, ok.stk, ok.exf, ok.bs, ok.bsz, ok.noex, ok.exfs, ok.funs, ok.frf⟩
section
variable {X : Cx} {pins : List (Addr × Obj)} {σ : St} {H : Hp} {s : Shared} {E : Value → Shared → Prop}
theorem Inv.wish (I : Inv X pins σ H s) (E : Value → Shared → Prop) : Inv (X.wish E) pins σ H s := ⟨I.ok.wish E, I.os, I.bare, I.base, I.loc, I.cell, I.free, I.freeC, I.pin, I.hok, I.len⟩
theorem Inv.unwish (I : Inv (X.wish E) pins σ H s) : Inv X pins σ H s := ⟨I.ok.unwish, I.os, I.bare, I.base, I.loc, I.cell, I.free, I.freeC, I.pin, I.hok, I.len⟩
theorem SP.unwish {D : Ends} {f : Flow} {s' : Shared} (h : SP (X.wish E) pins D f s') : SP X pins D f s' := by
  cases f with
  | next => obtain ⟨σ', H', I, q⟩ := h; exact ⟨σ', H', I.unwish, q⟩
  | brk => obtain ⟨σ', H', I, q⟩ := h; exact ⟨σ', H', I.unwish, q⟩
  | cont => obtain ⟨σ', H', I, q⟩ := h; exact ⟨σ', H', I.unwish, q⟩
  | ret u => obtain ⟨v, σ', H', I, r, q⟩ := h; exact ⟨v, σ', H', I.unwish, r, q⟩
theorem PSs.nox {st : List Stmt} {t : TS} (h : PSs X.nox st t) : PSs X st t := fun pins s σ H D I hw =>
  wpAny_mono (h pins s σ H D (I.wish _) hw) (fun _ _ q => q.unwish) fun _ _ z => False.elim z
end

section
variable {X : Cx} {st : Stmt} {rest : List Stmt} {t u : TS} {e : Expr} {te : TE} {pos : Pos}
def tNext : TS := fun D σ H => D.nx σ H
def tSeq (t u : TS) : TS := fun D σ H => t { D with nx := u D } σ H
theorem pss_nil : PSs X [] tNext := fun _ _ σ H _ I h => wpAny_execs_nil ⟨σ, H, I, h⟩
theorem pss_cons (h1 : PS X st t) (h2 : PSs X rest u) : PSs X (st :: rest) (tSeq t u) := by
  intro pins s σ H D I h
  refine wpAny_execs_cons (thn (h1 pins s σ H { D with nx := u D } I h) fun f s1 q => ?_)
  cases f with
  | next =>
    obtain ⟨σ', H', I', q⟩ := q
    exact h2 pins s1 σ' H' D I' q
  | ret v => exact q
  | brk => exact q
  | cont => exact q
theorem pss_one (h1 : PS X st t) : PSs X [st] t := by
  intro pins s σ H D I h
  refine wpAny_execs_cons (thn (h1 pins s σ H D I h) fun f s1 q => ?_)
  cases f with
  | next => exact wpAny_execs_nil q
  | ret v => exact q
  | brk => exact q
  | cont => exact q
theorem Inv.quiet {pins : List (Addr × Obj)} {σ : St} {H : Hp} {s : Shared} (I : Inv X pins σ H s) : interactive X.env = false := by simp [interactive, I.ok.kind]
def tRet (te : TE) : TS := fun D σ H => te σ H D.rt
theorem ps_ret (he : PE X e te) : PS X (.Return (some e) pos) (tRet te) := by
  intro pins s σ H D I h
  exact wpAny_Return_some (thn (he pins s σ H _ I h) fun v s1 ⟨x, H1, I1, r1, q1⟩ => ⟨x, σ, H1, I1, r1, q1⟩)
def tIfS (c : TT) (t u : TS) : TS := fun D σ H => c σ H fun b H1 => if b = true then t D σ H1 else u D σ H1
theorem ps_if {c : Expr} {a b : List Stmt} {tc : TT} (hc : PT X c tc) (ha : PSs X a t) (hb : PSs X b u) : PS X (.If c a b pos) (tIfS tc t u) := by
  intro pins s σ H D I h
  refine wpAny_If (thn (hc pins s σ H _ I h) fun d s1 ⟨H1, I1, q1⟩ => ?_)
  cases d with
  | true => exact ha pins s1 σ H1 D I1 q1
  | false => exact hb pins s1 σ H1 D I1 q1
end

abbrev TG := V → St → Hp → (St → Hp → Prop) → Prop
def PG (X : Cx) (target : Expr) (t : TG) : Prop :=
  ∀ (pins : List (Addr × Obj)) (s : Shared) (σ : St) (H : Hp) (v : V) (u : Value) (Q : St → Hp → Prop), Inv X pins σ H s → RelV v u → t v σ H Q →
    wpAny (model X.prog X.w) X.A (assign target X.env u) (fun _ s' => ∃ σ' H', Inv X pins σ' H' s' ∧ Q σ' H') X.xe s
section
variable {X : Cx} {pos : Pos}
def gName (i : Nat) : TG := fun v σ H Q => Q (σ.set i (some v)) H
theorem pg_name {i : Nat} {x : Str} (hN : X.N.Nodup) (hi : X.N[i]? = some x) (hx : Loc X.env.scope x) (hf : X.fn x = true ∨ X.env.scope.names.lookup x = some .local := by first | exact .inl rfl | exact .inr rfl | assumption) : PG X (.Name x pos) (gName i) := by
  intro pins s σ H v u Q I r h
  exact wpAny_assign_Name (store_ok I hN hi hx r (fun s' I' => ⟨_, H, I', h⟩) hf)
def tAsg (te : TE) (g : TG) : TS := fun D σ H => te σ H fun x H1 => g x σ H1 D.nx
theorem ps_set {i : Nat} {x : Str} {e : Expr} {te : TE} {pos' : Pos} (hN : X.N.Nodup) (hi : X.N[i]? = some x) (hx : Loc X.env.scope x) (he : PE X e te) (hs : swapsWith e (some (.Name x pos')) pos.line X.env = pure false := by rfl) (hf : X.fn x = true ∨ X.env.scope.names.lookup x = some .local := by first | exact .inl rfl | exact .inr rfl | assumption) :
    PS X (.Assign [.Name x pos'] e pos) (tAsg te (gName i)) := by
  intro pins s σ H D I h
  refine wpAny_Assign_Name (thn (he pins s σ H _ I h) fun v s1 ⟨y, H1, I1, r1, q1⟩ => ?_) hs
  exact store_ok I1 hN hi hx r1 (fun s2 I2 => ⟨_, H1, I2, q1⟩) hf
end


structure It where
  go : Nat → Hp → Prop
  yld : Nat → Hp → V → Hp → Prop
  stop : Nat → Hp → Prop
def FpOk (X : Cx) (pins : List (Addr × Obj)) (H : Hp) (b : Addr) : Prop :=
  H b = none ∧ b ≠ X.env.locals ∧ b ∉ X.fs ∧ (b ∈ X.ex ∨ X.s₀.heap.objs.size ≤ b) ∧ (∀ x c, X.env.cells.lookup x = some c → c ≠ b) ∧ ∀ p ∈ X.pn ++ pins, p.1 ≠ b
theorem Inv.fpOk {X : Cx} {pins : List (Addr × Obj)} {σ : St} {H H' : Hp} {s : Shared} {b : Addr} (I : Inv X pins σ H s) (hb : s.heap.objs.size ≤ b) (hn : H' b = none) : FpOk X pins H' b := by
  refine ⟨hn, Nat.ne_of_gt (Nat.lt_of_lt_of_le I.lt hb), I.nofs hb, .inr (Nat.le_trans I.sz hb), fun x c e z => ?_, fun p hp z => ?_⟩
  · obtain ⟨v, q⟩ := I.cell x c e
    exact absurd (Nat.lt_of_lt_of_le q.lt (by rw [z]; exact hb)) (Nat.lt_irrefl _)
  · exact absurd (Nat.lt_of_lt_of_le (Heap.lt_size (I.pin p hp).1) (by rw [z]; exact hb)) (Nat.lt_irrefl _)
structure Turn (P : Program) (w : World) (K : PySem.W.Frag) (tg : Expr) (J : It) (fp : List Addr) (it : Addr) (tn : Nat → Heap → Prop) : Prop where
  mem : it ∈ fp
  obj : ∀ i h, tn i h → ∀ b ∈ fp, ∃ o, h.get? b = some o ∧ ∀ v, o.data ≠ .cell v
  keep : ∀ i h h', tn i h → (∀ b ∈ fp, ∀ o, h.get? b = some o → h'.get? b = some o) → tn i h'
  item : ∀ (X : Cx), X.prog = P → X.w = w → X.K = K → X.calm = true → ∀ (i : Nat) (pins : List (Addr × Obj)) (s : Shared) (σ : St) (H : Hp) (E : Value → Shared → Prop), Inv X pins σ H s → (∀ b ∈ fp, FpOk X pins H b) → tn i s.heap → J.go i H →
    wpAny (model P w) X.A (pyNext (.ref it)) (fun r s1 => ∃ u, r = some u ∧
      wpAny (model P w) X.A (letOwnedTupleGo tg (.ref it) u) (fun _ s2 => ∃ x H', Inv X pins σ H' s2 ∧ RelV x u ∧ J.yld i H x H' ∧ tn (i + 1) s2.heap ∧ ∀ b ∈ fp, H' b = none) E s1) E s
  done : ∀ (X : Cx), X.prog = P → X.w = w → X.K = K → X.calm = true → ∀ (i : Nat) (pins : List (Addr × Obj)) (s : Shared) (σ : St) (H : Hp) (E : Value → Shared → Prop), Inv X pins σ H s → (∀ b ∈ fp, FpOk X pins H b) → tn i s.heap → J.stop i H →
    wpAny (model P w) X.A (pyNext (.ref it)) (fun r s1 => r = none ∧ Inv X pins σ H s1) E s
  self : ∀ (A : Around) (i : Nat) (s : Shared) (Q : Value → Shared → Prop) (E : Value → Shared → Prop), tn i s.heap → Q (.ref it) s → wpAny (model P w) A (pyIter (.ref it)) Q E s
abbrev TI := St → Hp → (It → Hp → Prop) → Prop
def PIE (X : Cx) (pins : List (Addr × Obj)) (σ : St) (tg : Expr) (R : It → Hp → Prop) (itv : Value) (s2 : Shared) : Prop :=
  ∃ (it : Addr) (fp : List Addr) (tn : Nat → Heap → Prop) (J : It) (H' : Hp), itv = .ref it ∧ Inv X pins σ H' s2 ∧ Turn X.prog X.w X.K tg J fp it tn ∧ tn 0 s2.heap ∧ (∀ b ∈ fp, FpOk X pins H' b) ∧ R J H'
def PI (X : Cx) (tg iter : Expr) (wi : TI) : Prop :=
  ∀ (pins : List (Addr × Obj)) (s : Shared) (σ : St) (H : Hp) (R : It → Hp → Prop), Inv X pins σ H s → wi σ H R →
    wpAny (model X.prog X.w) X.A (eval iter X.env) (fun v s1 => wpAny (model X.prog X.w) X.A (pyIter v) (PIE X pins σ tg R) X.xe s1) X.xe s

theorem go_of {M : Model} {A : Around} {E : Value → Shared → Prop} {s : Shared} {tg : Expr} {it : Addr} {u : Value} {o : Obj} {n : String} {vs : Array Value} {Q : Unit → Shared → Prop} (ho : s.heap.get? it = some o) (hc : o.cls = .type n) (hd : o.data = .fields vs)
    (hn : ["enumerate", "zip", "dict_itemiterator", "dict_reverseitemiterator", "odict_iterator", "itertools.zip_longest", "itertools.pairwise"].contains n = false) (hQ : Q () s) : wpAny M A (letOwnedTupleGo tg (.ref it) u) Q E s := by
  unfold letOwnedTupleGo
  cases tg <;> first
    | exact wpAny_pure hQ
    | (cases u <;> first
        | exact wpAny_pure hQ
        | (refine wpAny_bind (wpAny_load ho ?_)
           rw [hc, hd]
           show wpAny M A (if (["enumerate", "zip", "dict_itemiterator", "dict_reverseitemiterator", "odict_iterator", "itertools.zip_longest", "itertools.pairwise"].contains n && vs[0]? == some (rawInt _)) = true then _ else _) Q E s
           rw [if_neg (by intro h; rw [hn, Bool.false_and] at h; cases h)]
           exact wpAny_pure hQ))

def Itl (K : PySem.W.Frag) (a : Addr) : It :=
  ⟨fun i H => ∃ xs x, SqL K H a xs ∧ xs[i]? = some x, fun i H x H' => H' = H ∧ ∀ xs, SqL K H a xs → xs[i]? = some x, fun i H => ∃ xs, SqL K H a xs ∧ xs.length ≤ i⟩
def Itr (lo : Int) (n : Nat) : It := ⟨fun i _ => i < n, fun i H x H' => H' = H ∧ x = .int (lo + i), fun i _ => n ≤ i⟩
theorem turn_list {P : Program} {w : World} {K : PySem.W.Frag} {tg : Expr} (a it : Addr) : Turn P w K tg (Itl K a) [it] it (fun i h => h.IsListIter it a i) where
  mem := by simp
  obj := fun i h st b hb => by
    have e : b = it := by simpa using hb
    subst e
    obtain ⟨o, e, c, d⟩ := st
    exact ⟨o, e, fun v z => by rw [d] at z; cases z⟩
  keep := fun i h h' st k => st.at fun o e => k it (by simp) o e
  item := by
    intro X hP hw hK hc i pins s σ H E I hf st hg
    subst hP hw hK
    obtain ⟨xs, x, hq, hx⟩ := hg
    obtain ⟨its, rv, p, hz⟩ := I.list hq
    obtain ⟨u, hu, ru⟩ := rv.get hx
    obtain ⟨f0, f1, f2, f3, f4, f5⟩ := hf it (by simp)
    refine wpAny_pyNext_list_item st p.isList (x := u) (by simpa using hu) fun h' st' sb => ?_
    have I1 : Inv X pins σ H { s with heap := h' } := I.turned (t' := s.toks) (fun b o hb e => (sb.2 b hb).trans e) f0 f1 f3 f4 f5
    obtain ⟨o, e, c, d⟩ := id st'
    exact ⟨u, rfl, go_of (s := { s with heap := h' }) e c d (by decide) ⟨x, H, I1, ru, ⟨rfl, fun ys hy => by rw [I.list_inj hy hq]; exact hx⟩, st', fun b hb => (hf b hb).1⟩⟩
  done := by
    intro X hP hw hK hc i pins s σ H E I hf st hg
    subst hP hw hK
    obtain ⟨xs, hq, hx⟩ := hg
    obtain ⟨its, rv, p, hz⟩ := I.list hq
    obtain ⟨f0, f1, f2, f3, f4, f5⟩ := hf it (by simp)
    have hl := rv.length
    exact wpAny_pyNext_list_end (I.ok.hd hc) st p.isList (by simp; omega) fun h' eb => ⟨rfl, I.turned (t' := s.toks) (fun b o hb e => eb b o hb e) f0 f1 f3 f4 f5⟩
  self := fun _ _ _ _ _ st h => wpAny_pyIter_listiter st h
theorem turn_range {P : Program} {w : World} {K : PySem.W.Frag} {tg : Expr} (it : Addr) (lo : Int) (n : Nat) : Turn P w K tg (Itr lo n) [it] it (fun i h => IsRangeIter h it (lo + (i : Nat) * 1) ((n : Int) - (i : Nat)) 1) where
  mem := by simp
  obj := fun i h st b hb => by
    have e : b = it := by simpa using hb
    subst e
    exact ⟨_, st, fun v z => by
      have z' : Data.fields _ = Data.cell v := z
      cases z'⟩
  keep := fun i h h' st k => k it (by simp) _ st
  item := by
    intro X hP hw hK hc i pins s σ H E I hf st hg
    subst hP hw hK
    obtain ⟨f0, f1, f2, f3, f4, f5⟩ := hf it (by simp)
    have W := Walks.range (prog := X.prog) (w := X.w) (I.ok.hd hc) it lo 1 n
    refine W.item i s _ _ hg st fun v h' tk hv st' kk => ?_
    obtain ⟨t, rfl⟩ := hv
    have I1 : Inv X pins σ H { s with heap := h', toks := tk } := I.turned (fun b o hb e => kk b o (by simpa using hb) e) f0 f1 f3 f4 f5
    refine ⟨_, rfl, go_of (s := { s with heap := h', toks := tk }) (n := "range_iterator") st' rfl rfl (by decide) ⟨.int (lo + i), H, I1, ⟨t, ?_⟩, ⟨rfl, rfl⟩, st', fun b hb => (hf b hb).1⟩⟩
    rw [Int.mul_one]
  done := by
    intro X hP hw hK hc i pins s σ H E I hf st hg
    subst hP hw hK
    obtain ⟨f0, f1, f2, f3, f4, f5⟩ := hf it (by simp)
    exact wpAny_pyNext_range_end (I.ok.hd hc) st (by have : n ≤ i := hg; omega) fun h' eb => ⟨rfl, I.turned (t' := s.toks) (fun b o hb e => eb b o hb e) f0 f1 f3 f4 f5⟩
  self := fun _ _ _ _ _ st h => wpAny_pyIter_rangeiter st h
end L2

namespace L2
open PySem PySem.Spec PyProof.Rows
section
variable {X : Cx} {tg : Expr}
def iList (K : PySem.W.Frag) (tl : TE) : TI := fun σ H R => tl σ H fun x H1 => ∃ a, x = .ref a ∧ (∃ xs, SqL K H1 a xs) ∧ R (Itl K a) H1
theorem pi_list {l : Expr} {tl : TE} (hl : PE X l tl) : PI X tg l (iList X.K tl) := by
  intro pins s σ H R I h
  refine thn (hl pins s σ H _ I h) fun v s1 ⟨x, H1, I1, r1, q1⟩ => ?_
  obtain ⟨a, e, ⟨xs, hq⟩, q⟩ := q1
  subst e
  cases r1
  obtain ⟨its, rv, p, hz⟩ := I1.list hq
  refine wpAny_pyIter_list p.isList ?_
  refine ⟨s1.heap.objs.size, [s1.heap.objs.size], _, _, H1, rfl, I1.kept (t' := s1.toks) fun b o e => Heap.get?_push_of_some _ e, turn_list a _, ⟨_, Heap.get?_push_size _ rfl, rfl, rfl⟩, fun b hb => ?_, q⟩
  have e : b = s1.heap.objs.size := by simpa using hb
  subst e
  exact I1.fpOk (Nat.le_refl _) (I1.hok.fresh (Nat.le_refl _))
theorem range_it {pins : List (Addr × Obj)} {σ : St} {H : Hp} {s : Shared} {R : It → Hp → Prop} {E : Value → Shared → Prop} {lo hi : Int} {t u v : Tok} {tk : Nat} (I : Inv X pins σ H s) (h1 : -(2 ^ 62) ≤ lo) (h2 : lo < 2 ^ 62) (h3 : -(2 ^ 62) ≤ hi) (h4 : hi < 2 ^ 62)
    (q : R (Itr lo (hi - lo).toNat) H) : wpAny (model X.prog X.w) X.A (pyIter (.ref s.heap.objs.size)) (PIE X pins σ tg R) E { s with heap := s.heap.push { cls := .type "range", data := .fields #[.int lo t, .int hi u, .int 1 v] }, toks := tk } := by
  refine wpAny_pyIter_range (IsRange.new ..) (small_one h1 h2 h3 h4) ?_
  have I1 : Inv X pins σ H { s with heap := s.heap.push { cls := .type "range", data := .fields #[.int lo t, .int hi u, .int 1 v] }, toks := tk } := I.kept fun b o e => Heap.get?_push_of_some _ e
  refine ⟨(s.heap.push { cls := .type "range", data := .fields #[.int lo t, .int hi u, .int 1 v] }).objs.size, [(s.heap.push { cls := .type "range", data := .fields #[.int lo t, .int hi u, .int 1 v] }).objs.size], _, _, H, rfl,
    I1.kept (t' := tk) fun b o e => Heap.get?_push_of_some _ e, turn_range _ lo (hi - lo).toNat, ?_, fun b hb => ?_, q⟩
  · have e1 : lo + ((0 : Nat) : Int) * 1 = lo := by simp
    have e2 : (((hi - lo).toNat : Nat) : Int) - ((0 : Nat) : Int) = Builtin.Range.rangeSize lo hi 1 := by rw [rangeSize_one]; split <;> omega
    show IsRangeIter _ _ (lo + ((0 : Nat) : Int) * 1) ((((hi - lo).toNat : Nat) : Int) - ((0 : Nat) : Int)) 1
    rw [e1, e2]
    exact Heap.get?_push_size _ rfl
  · have e : b = (s.heap.push { cls := .type "range", data := .fields #[.int lo t, .int hi u, .int 1 v] }).objs.size := by simpa using hb
    subst e
    exact I1.fpOk (Nat.le_refl _) (I1.hok.fresh (Nat.le_refl _))
def iRng1 (ta : TA) : TI := fun σ H R => ta σ H fun vs H1 => ∃ j : Int, vs = [.int j] ∧ -(2 ^ 62) ≤ j ∧ j < 2 ^ 62 ∧ R (Itr 0 j.toNat) H1
theorem pi_range1 {a : Expr} {ta : TA} {p pos : Pos} (hg : Gl X "range") (hm : X.mg "range" = none) (ha : PA X [a] ta) (hs : starEach [a] X.env = [(false, eval a X.env)] := by rfl) : PI X tg (.Call (.Name "range" p) [a] [] pos) (iRng1 ta) := by
  intro pins s σ H R I h
  refine Call_ (ld_blt I hg hm boot_range (PyProof.Rows.callWith_type1 (thn (ha pos pins s σ H _ I h) fun us s1 ⟨vs, H1, I1, r1, q1⟩ => ?_) hs rfl))
  obtain ⟨j, e, q1, q2, q⟩ := q1
  subst e
  cases r1 with
  | cons r rr =>
    cases rr
    obtain ⟨t, rfl⟩ := r
    exact call_range_1 (range_it I1 (by omega) (by omega) q1 q2 (by simpa using q))
def tFor (wi : TI) (g : TG) (tb : TS) : TS := fun D σ H => wi σ H fun J H1 => ∃ W : Nat → Nat → St → Hp → Prop, (∃ m, W 0 m σ H1) ∧ ∀ i m σ H, W i m σ H →
  (J.stop i H ∧ D.nx σ H) ∨ (J.go i H ∧ ∃ N : St → Hp → Prop, (∀ σ' H', N σ' H' → ∃ m', m' < m ∧ W (i + 1) m' σ' H') ∧ ∀ x H', J.yld i H x H' → g x σ H' fun σ2 H2 => tb { D with nx := N, ct := N, bk := D.nx } σ2 H2)
def pinsAt (fp : List Addr) (h : Heap) : List (Addr × Obj) := fp.filterMap fun b => (h.get? b).map fun o => (b, o)
theorem mem_pinsAt {fp : List Addr} {h : Heap} {b : Addr} {o : Obj} (hb : b ∈ fp) (e : h.get? b = some o) : (b, o) ∈ pinsAt fp h := List.mem_filterMap.mpr ⟨b, hb, by rw [e]; rfl⟩
theorem of_pinsAt {fp : List Addr} {h : Heap} {p : Addr × Obj} (hp : p ∈ pinsAt fp h) : p.1 ∈ fp ∧ h.get? p.1 = some p.2 := by
  obtain ⟨b, hb, e⟩ := List.mem_filterMap.mp hp
  cases q : h.get? b with
  | none => rw [q] at e; cases e
  | some o =>
    rw [q] at e
    have e' : (b, o) = p := Option.some.inj e
    subst e'
    exact ⟨hb, q⟩
theorem Inv.pinned {pins : List (Addr × Obj)} {σ : St} {H : Hp} {s : Shared} {fp : List Addr} (I : Inv X pins σ H s) (hf : ∀ b ∈ fp, FpOk X pins H b) (ho : ∀ b ∈ fp, ∃ o, s.heap.get? b = some o ∧ ∀ v, o.data ≠ .cell v) : Inv X (pins ++ pinsAt fp s.heap) σ H s :=
  I.pins_of fun p hp => (List.mem_append.mp hp).elim (fun z => I.pin p (List.mem_append_right _ z)) fun z => by
    obtain ⟨hb, e⟩ := of_pinsAt z
    obtain ⟨f0, f1, f2, _⟩ := hf p.1 hb
    obtain ⟨o, e', d⟩ := ho p.1 hb
    rw [e] at e'; cases e'
    exact ⟨e, f0, f1, f2, d⟩
theorem Inv.unpinned {pins pl : List (Addr × Obj)} {σ : St} {H : Hp} {s : Shared} (I : Inv X (pins ++ pl) σ H s) : Inv X pins σ H s := I.pins_of fun p hp => I.pin p (List.mem_append_right _ (List.mem_append_left _ hp))
theorem ps_for {iter : Expr} {body : List Stmt} {wi : TI} {g : TG} {tb : TS} {pos : Pos} (hp : PassesOwn (model X.prog X.w) X.A X.env X.xe) (hc : X.calm = true) (hi : PI X tg iter wi) (hg : PG X tg g) (hb : PSs X body tb)
    (hs : ∀ x, foldedSetIterable iter X.env x = pure x := by intro _; rfl) : PS X (.For tg iter body [] pos) (tFor wi g tb) := by
  intro pins s σ H D I h
  refine wpAny_For (thn (hi pins s σ H _ I h) fun v s1 h1 => thn h1 fun itv s2 h2 => ?_) hs
  obtain ⟨it, fp, tn, J, H2, e, I2, T, st2, f2, W, ⟨m0, w0⟩, turn⟩ := h2
  subst e
  have stat : ∀ {H' : Hp}, (∀ b ∈ fp, H' b = none) → ∀ b ∈ fp, FpOk X pins H' b := fun hn b hb => ⟨hn b hb, (f2 b hb).2⟩
  refine codeAny_forLoop_any (fun n s' => ∃ i σ' H', Inv X pins σ' H' s' ∧ tn i s'.heap ∧ (∀ b ∈ fp, H' b = none) ∧ W i n σ' H') ?_ m0 ⟨0, σ, H2, I2, st2, fun b hb => (f2 b hb).1, w0⟩
  rintro n s3 ⟨i, σ3, H3, I3, st3, fr3, w3⟩
  rcases turn i n σ3 H3 w3 with ⟨stop, qn⟩ | ⟨go, N, hN, step⟩
  · refine wpAny_passesOwn hp (thn (T.done X rfl rfl rfl hc i pins s3 σ3 H3 X.xe I3 (stat fr3) st3 stop) fun r s4 ⟨hr, I4⟩ => ?_)
    subst hr
    exact wpAny_execs_nil ⟨σ3, H3, I4, qn⟩
  · refine wpAny_passesOwn hp (thn (T.item X rfl rfl rfl hc i pins s3 σ3 H3 X.xe I3 (stat fr3) st3 go) fun r s4 ⟨u, hr, h4⟩ => ?_)
    subst hr
    refine wpAny_passesOwn hp (thn h4 fun _ s5 ⟨x, H5, I5, r5, y5, st5, fr5⟩ => ?_)
    have I5' := I5.pinned (stat fr5) (T.obj _ _ st5)
    refine wpAny_passesOwn hp (thn (hg _ s5 σ3 H5 x u _ I5' r5 (step x H5 y5)) fun _ s6 ⟨σ6, H6, I6, q6⟩ => ?_)
    refine wpAny_passesOwn hp (thn (hb _ s6 σ6 H6 _ I6 q6) fun f s7 q7 => ?_)
    have again : ∀ {σ7 : St} {H7 : Hp}, Inv X (pins ++ pinsAt fp s5.heap) σ7 H7 s7 → N σ7 H7 → ∃ m, m < n ∧ ∃ i σ' H', Inv X pins σ' H' s7 ∧ tn i s7.heap ∧ (∀ b ∈ fp, H' b = none) ∧ W i m σ' H' := fun {σ7 H7} I7 n7 => by
      obtain ⟨m', hm, w7⟩ := hN σ7 H7 n7
      refine ⟨m', hm, i + 1, σ7, H7, I7.unpinned, T.keep _ _ _ st5 fun b hb o e => (I7.pin (b, o) (List.mem_append_right _ (List.mem_append_right _ (mem_pinsAt hb e)))).1, fun b hb => ?_, w7⟩
      obtain ⟨o, e, d⟩ := T.obj _ _ st5 b hb
      exact (I7.pin (b, o) (List.mem_append_right _ (List.mem_append_right _ (mem_pinsAt hb e)))).2.1
    cases f with
    | next => obtain ⟨σ7, H7, I7, n7⟩ := q7; exact again I7 n7
    | cont => obtain ⟨σ7, H7, I7, n7⟩ := q7; exact again I7 n7
    | brk => obtain ⟨σ7, H7, I7, q7⟩ := q7; exact ⟨σ7, H7, I7.unpinned, q7⟩
    | ret v => obtain ⟨x7, σ7, H7, I7, r7, q7⟩ := q7; exact ⟨x7, σ7, H7, I7.unpinned, r7, q7⟩
end

theorem for_range {lo : Int} {n : Nat} {g : TG} {tb : TS} {D : Ends} {σ : St} {H : Hp} (Pv : Nat → St → Hp → Prop) (h0 : Pv 0 σ H)
    (hs : ∀ i σ H, i < n → Pv i σ H → g (.int (lo + i)) σ H fun σ2 H2 => tb { D with nx := Pv (i + 1), ct := Pv (i + 1), bk := D.nx } σ2 H2) (hd : ∀ σ H, Pv n σ H → D.nx σ H) :
    ∃ W : Nat → Nat → St → Hp → Prop, (∃ m, W 0 m σ H) ∧ ∀ i m σ H, W i m σ H →
      ((Itr lo n).stop i H ∧ D.nx σ H) ∨ ((Itr lo n).go i H ∧ ∃ N : St → Hp → Prop, (∀ σ' H', N σ' H' → ∃ m', m' < m ∧ W (i + 1) m' σ' H') ∧ ∀ x H', (Itr lo n).yld i H x H' → g x σ H' fun σ2 H2 => tb { D with nx := N, ct := N, bk := D.nx } σ2 H2) := by
  refine ⟨fun i m σ H => m = n - i ∧ i ≤ n ∧ Pv i σ H, ⟨n, by simp, Nat.zero_le _, h0⟩, ?_⟩
  rintro i m σ H ⟨rfl, hi, p⟩
  by_cases hlt : i < n
  · refine .inr ⟨hlt, Pv (i + 1), fun σ' H' p' => ⟨n - (i + 1), by omega, rfl, hlt, p'⟩, fun x H' y => ?_⟩
    obtain ⟨e, y⟩ := y
    subst e y
    exact hs i σ _ hlt p
  · have e : i = n := by omega
    subst e
    exact .inl ⟨Nat.le_refl _, hd σ H p⟩
end L2

namespace L2
open PySem PySem.Spec PyProof.Rows

abbrev R2 := V → V → Hp → VK → Prop
def OpR (X : Cx) (f : Value → Value → Sem Value) (r : R2) : Prop :=
  ∀ (pins : List (Addr × Obj)) (s : Shared) (σ : St) (H : Hp) (x y : V) (v u : Value) (Q : VK), Inv X pins σ H s → RelV x v → RelV y u → r x y H Q →
    wpAny (model X.prog X.w) X.A (f v u) (EP X pins σ Q) X.xe s
def CallR (X : Cx) (f : Value) (r : List V → Hp → VK → Prop) : Prop :=
  ∀ (pins : List (Addr × Obj)) (s : Shared) (σ : St) (H : Hp) (xs : List V) (us : List Value) (Q : VK), Inv X pins σ H s → Vals xs us → r xs H Q →
    wpAny (model X.prog X.w) X.A (call f us) (EP X pins σ Q) X.xe s
def tOp (r : R2) (ta tb : TE) : TE := fun σ H Q => ta σ H fun x H1 => tb σ H1 fun y H2 => r x y H2 Q
def rI (C : Int → Int → Prop) (g : Int → Int → V) : R2 := fun x y H Q => ∃ i j, x = .int i ∧ y = .int j ∧ C i j ∧ Q (g i j) H
def rI0 (g : Int → Int → V) : R2 := fun x y H Q => ∃ i j, x = .int i ∧ y = .int j ∧ Q (g i j) H
section
variable {X : Cx} {a b c : Expr} {ta tb tc : TE} {pos : Pos}

theorem binT (ha : PE X a ta) (hb : PE X b tb) {pins : List (Addr × Obj)} {s : Shared} {σ : St} {H : Hp} {R : V → V → Hp → Prop} (I : Inv X pins σ H s)
    (h : ta σ H fun x H1 => tb σ H1 fun y H2 => R x y H2) {Q : Value → Shared → Prop} {f : Value → Value → Sem Value}
    (hf : ∀ v u s2 x y H2, Inv X pins σ H2 s2 → RelV x v → RelV y u → R x y H2 → wpAny (model X.prog X.w) X.A (f v u) Q X.xe s2) :
    wpAny (model X.prog X.w) X.A (eval a X.env) (fun v s₁ => wpAny (model X.prog X.w) X.A (eval b X.env) (fun u s₂ => wpAny (model X.prog X.w) X.A (f v u) Q X.xe s₂) X.xe s₁) X.xe s := by
  refine thn (ha pins s σ H _ I h) fun v s1 ⟨x, H1, I1, r1, q1⟩ => ?_
  refine thn (hb pins s1 σ H1 _ I1 q1) fun u s2 ⟨y, H2, I2, r2, q2⟩ => ?_
  exact hf v u s2 x y H2 I2 r1 r2 q2

theorem pe_op {op : Operator} {r : R2} (ho : OpR X (binaryOp op) r) (ha : PE X a ta) (hb : PE X b tb) : PE X (.BinOp a op b pos) (tOp r ta tb) := by
  intro pins s σ H Q I h
  exact wpAny_BinOp (binT ha hb I h fun v u s2 x y H2 I2 rx ry q => ho pins s2 σ H2 x y v u Q I2 rx ry q)
theorem opI {f : Value → Value → Sem Value} {C : Int → Int → Prop} {g : Int → Int → Int}
    (rule : ∀ (i j : Int) (t u : Tok) (s : Shared) (Q : Value → Shared → Prop) (E : Value → Shared → Prop), C i j → Q (.int (g i j) s.toks) { s with toks := s.toks + 1 } → wpAny (model X.prog X.w) X.A (f (.int i t) (.int j u)) Q E s) :
    OpR X f (rI C fun i j => .int (g i j)) := by
  intro pins s σ H x y v u Q I rx ry h
  obtain ⟨i, j, rfl, rfl, hc, q⟩ := h
  obtain ⟨t, rfl⟩ := rx
  obtain ⟨t', rfl⟩ := ry
  exact rule i j t t' s _ _ hc ⟨.int (g i j), H, I.tok _, ⟨_, rfl⟩, q⟩
theorem opI0 {f : Value → Value → Sem Value} {g : Int → Int → Int}
    (rule : ∀ (i j : Int) (t u : Tok) (s : Shared) (Q : Value → Shared → Prop) (E : Value → Shared → Prop), Q (.int (g i j) s.toks) { s with toks := s.toks + 1 } → wpAny (model X.prog X.w) X.A (f (.int i t) (.int j u)) Q E s) :
    OpR X f (rI0 fun i j => .int (g i j)) := by
  intro pins s σ H x y v u Q I rx ry h
  obtain ⟨i, j, rfl, rfl, q⟩ := h
  obtain ⟨t, rfl⟩ := rx
  obtain ⟨t', rfl⟩ := ry
  exact rule i j t t' s _ _ ⟨.int (g i j), H, I.tok _, ⟨_, rfl⟩, q⟩
theorem opB0 {f : Value → Value → Sem Value} {g : Int → Int → Bool}
    (rule : ∀ (i j : Int) (t u : Tok) (s : Shared) (Q : Value → Shared → Prop) (E : Value → Shared → Prop), Q (.bool (g i j)) s → wpAny (model X.prog X.w) X.A (f (.int i t) (.int j u)) Q E s) :
    OpR X f (rI0 fun i j => .bl (g i j)) := by
  intro pins s σ H x y v u Q I rx ry h
  obtain ⟨i, j, rfl, rfl, q⟩ := h
  obtain ⟨t, rfl⟩ := rx
  obtain ⟨t', rfl⟩ := ry
  exact rule i j t t' s _ _ ⟨.bl (g i j), H, I, rfl, q⟩

def CDiv (i j : Int) : Prop := 0 < j ∧ j < 1073741824
def CMul (i j : Int) : Prop := (-(2 ^ 64) < i ∧ i < 2 ^ 64) ∨ (-(2 ^ 64) < j ∧ j < 2 ^ 64)
theorem CMul.ok {i j : Int} (h : CMul i j) : IntMulOk i j := by
  rcases h with ⟨h1, h2⟩ | ⟨h1, h2⟩
  · exact .of_left (intBits_le_64 h1 h2)
  · exact .of_right (intBits_le_64 h1 h2)
theorem op_add : OpR X (binaryOp .Add) (rI0 fun i j => .int (i + j)) := opI0 fun _ _ _ _ _ _ _ q => add_int q
theorem op_sub : OpR X (binaryOp .Sub) (rI0 fun i j => .int (i - j)) := opI0 fun _ _ _ _ _ _ _ q => sub_int q
theorem op_mul : OpR X (binaryOp .Mult) (rI CMul fun i j => .int (i * j)) := opI fun _ _ _ _ _ _ _ hc q => mul_int q hc.ok
theorem op_fdiv : OpR X (binaryOp .FloorDiv) (rI CDiv fun i j => .int (i / j)) := opI fun i j _ _ _ _ _ hc q => by
  have h1 : (0 : Int) < j := hc.1
  have h2 : j < 1073741824 := hc.2
  exact floordiv_int (by omega) (by rw [Int.fdiv_eq_ediv_of_nonneg i (by omega)]; exact q) (.inl (PyProof.noPylong_small (by omega)))
theorem op_mod : OpR X (binaryOp .Mod) (rI (fun _ j => 0 < j) fun i j => .int (i % j)) := opI fun i j _ _ _ _ _ hc q => by
  have h1 : (0 : Int) < j := hc
  exact mod_int' (by omega) (by rw [Int.fmod_eq_emod_of_nonneg i (by omega)]; exact q)
end

def scal : V → V → Bool
  | .non, .non => true | .non, .int _ => true | .int _, .non => true | .non, .bl _ => true | .bl _, .non => true | .non, .str _ => true | .str _, .non => true
  | .int _, .int _ => true | .bl _, .bl _ => true | .str _, .str _ => true | .byt _, .byt _ => true
  | .int _, .str _ => true | .str _, .int _ => true | .bl _, .str _ => true | .str _, .bl _ => true
  | _, _ => false
def rEq : R2 := fun x y H Q => scal x y = true ∧ Q (.bl (decide (x = y))) H
def rNe : R2 := fun x y H Q => scal x y = true ∧ Q (.bl (!decide (x = y))) H

theorem dec_int {i j : Int} : decide (V.int i = V.int j) = (i == j) := by
  rw [Bool.eq_iff_iff]
  simp
theorem dec_bl {i j : Bool} : decide (V.bl i = V.bl j) = (i == j) := by
  rw [Bool.eq_iff_iff]
  simp
theorem dec_str {i j : Str} : decide (V.str i = V.str j) = (i == j) := by
  rw [Bool.eq_iff_iff]
  simp
theorem dec_byt {i j : Array UInt8} : decide (V.byt i = V.byt j) = (i.toList == j.toList) := by
  rw [Bool.eq_iff_iff]
  cases i
  cases j
  simp

section
variable {X : Cx} {a b c : Expr} {ta tb tc : TE} {pos : Pos}
theorem fin_bl {pins : List (Addr × Obj)} {σ : St} {H : Hp} {s : Shared} {Q : VK} {k k' : Bool} (I : Inv X pins σ H s) (q : Q (.bl k) H) (e : k = k') : EP X pins σ Q (.bool k') s := by
  subst e
  exact ⟨.bl k, H, I, rfl, q⟩
theorem op_eq : OpR X (compareOp .Eq) rEq := by
  intro pins s σ H x y v u Q I rx ry h
  obtain ⟨hs, q⟩ := h
  cases x with
  | non =>
    cases rx
    cases y with
    | non => cases ry; exact PySem.EqNone.eq_none_none (fin_bl I q (by simp))
    | bl j => cases ry; exact PySem.EqNone.eq_none_bool (fin_bl I q (by simp))
    | int j => obtain ⟨t', rfl⟩ := ry; exact PySem.EqNone.eq_none_int (fin_bl I q (by simp))
    | str j => obtain ⟨t', rfl⟩ := ry; exact PySem.EqNone.eq_none_str (fin_bl I q (by simp))
    | _ => exact absurd (show false = true from hs) Bool.false_ne_true
  | bl i =>
    cases rx
    cases y with
    | non => cases ry; exact PySem.EqNone.eq_bool_none (fin_bl I q (by simp))
    | bl j => cases ry; exact eq_bool (fin_bl I q dec_bl)
    | str j => obtain ⟨t', rfl⟩ := ry; exact PySem.EqMixed.eq_bool_str (fin_bl I q (by simp))
    | _ => exact absurd (show false = true from hs) Bool.false_ne_true
  | int i =>
    obtain ⟨t, rfl⟩ := rx
    cases y with
    | non => cases ry; exact PySem.EqNone.eq_int_none (fin_bl I q (by simp))
    | int j => obtain ⟨t', rfl⟩ := ry; exact eq_int (fin_bl I q dec_int)
    | str j => obtain ⟨t', rfl⟩ := ry; exact PySem.EqMixed.eq_int_str (fin_bl I q (by simp))
    | _ => exact absurd (show false = true from hs) Bool.false_ne_true
  | str i =>
    obtain ⟨t, rfl⟩ := rx
    cases y with
    | non => cases ry; exact PySem.EqNone.eq_str_none (fin_bl I q (by simp))
    | bl j => cases ry; exact PySem.EqMixed.eq_str_bool (fin_bl I q (by simp))
    | int j => obtain ⟨t', rfl⟩ := ry; exact PySem.EqMixed.eq_str_int (fin_bl I q (by simp))
    | str j => obtain ⟨t', rfl⟩ := ry; exact eq_str (fin_bl I q dec_str)
    | _ => exact absurd (show false = true from hs) Bool.false_ne_true
  | byt i =>
    obtain ⟨t, rfl⟩ := rx
    cases y with
    | byt j => obtain ⟨t', rfl⟩ := ry; exact PySem.W.eq_bytes (fin_bl I q dec_byt)
    | _ => exact absurd (show false = true from hs) Bool.false_ne_true
  | _ => cases y <;> exact absurd (show false = true from hs) Bool.false_ne_true
theorem op_ne : OpR X (compareOp .NotEq) rNe := by
  intro pins s σ H x y v u Q I rx ry h
  obtain ⟨hs, q⟩ := h
  cases x with
  | non =>
    cases rx
    cases y with
    | non => cases ry; exact PySem.EqNone.ne_none_none (fin_bl I q (by simp))
    | bl j => cases ry; exact PySem.EqNone.ne_none_bool (fin_bl I q (by simp))
    | int j => obtain ⟨t', rfl⟩ := ry; exact PySem.EqNone.ne_none_int (fin_bl I q (by simp))
    | str j => obtain ⟨t', rfl⟩ := ry; exact PySem.EqNone.ne_none_str (fin_bl I q (by simp))
    | _ => exact absurd (show false = true from hs) Bool.false_ne_true
  | bl i =>
    cases rx
    cases y with
    | non => cases ry; exact PySem.EqNone.ne_bool_none (fin_bl I q (by simp))
    | bl j => cases ry; exact ne_bool (fin_bl I q (congrArg not dec_bl))
    | str j => obtain ⟨t', rfl⟩ := ry; exact PySem.EqMixed.ne_bool_str (fin_bl I q (by simp))
    | _ => exact absurd (show false = true from hs) Bool.false_ne_true
  | int i =>
    obtain ⟨t, rfl⟩ := rx
    cases y with
    | non => cases ry; exact PySem.EqNone.ne_int_none (fin_bl I q (by simp))
    | int j => obtain ⟨t', rfl⟩ := ry; exact ne_int (fin_bl I q (congrArg not dec_int))
    | str j => obtain ⟨t', rfl⟩ := ry; exact PySem.EqMixed.ne_int_str (fin_bl I q (by simp))
    | _ => exact absurd (show false = true from hs) Bool.false_ne_true
  | str i =>
    obtain ⟨t, rfl⟩ := rx
    cases y with
    | non => cases ry; exact PySem.EqNone.ne_str_none (fin_bl I q (by simp))
    | bl j => cases ry; exact PySem.EqMixed.ne_str_bool (fin_bl I q (by simp))
    | int j => obtain ⟨t', rfl⟩ := ry; exact PySem.EqMixed.ne_str_int (fin_bl I q (by simp))
    | str j => obtain ⟨t', rfl⟩ := ry; exact ne_str (fin_bl I q (congrArg not dec_str))
    | _ => exact absurd (show false = true from hs) Bool.false_ne_true
  | byt i =>
    obtain ⟨t, rfl⟩ := rx
    cases y with
    | byt j => obtain ⟨t', rfl⟩ := ry; exact PySem.W.ne_bytes (fin_bl I q (congrArg not dec_byt))
    | _ => exact absurd (show false = true from hs) Bool.false_ne_true
  | _ => cases y <;> exact absurd (show false = true from hs) Bool.false_ne_true

theorem op_lt : OpR X (compareOp .Lt) (rI0 fun i j => .bl (decide (i < j))) := opB0 fun _ _ _ _ _ _ _ q => lt_int q
theorem op_le : OpR X (compareOp .LtE) (rI0 fun i j => .bl (decide (i ≤ j))) := opB0 fun _ _ _ _ _ _ _ q => le_int q
theorem op_gt : OpR X (compareOp .Gt) (rI0 fun i j => .bl (decide (j < i))) := opB0 fun _ _ _ _ _ _ _ q => gt_int q
theorem op_in_str : OpR X (compareOp .In) (fun x y H Q => ∃ i j, x = .str i ∧ y = .str j ∧ Q (.bl (!(Builtin.Str.occurrences j i 0 j.length 1).isEmpty)) H) := by
  intro pins s σ H x y v u Q I rx ry h
  obtain ⟨i, j, rfl, rfl, q⟩ := h
  obtain ⟨t, rfl⟩ := rx
  obtain ⟨t', rfl⟩ := ry
  exact in_str (fin_bl I q rfl)

theorem op_isN : OpR X (compareOp .Is) (fun x y H Q => y = .non ∧ Q (.bl (decide (x = .non))) H) := by
  intro pins s σ H x y v u Q I rx ry h
  obtain ⟨rfl, q⟩ := h
  cases ry
  refine is_none_gen (fin_bl I q ?_)
  cases x <;> first
    | (cases rx; rfl)
    | (obtain ⟨t, rfl⟩ := rx; rfl)
theorem nomark (b : Expr) {op : CmpOp} (h : op ≠ .In := by decide) (h2 : op ≠ .NotIn := by decide) : behindInMarks op b = false := by
  have e1 : (op == CmpOp.In) = false := by cases op <;> first | rfl | exact absurd rfl h
  have e2 : (op == CmpOp.NotIn) = false := by cases op <;> first | rfl | exact absurd rfl h2
  cases b <;> simp [behindInMarks, e1, e2]
theorem pe_cmpR {op : CmpOp} {r : R2} (ho : OpR X (compareOp op) r) (ha : PE X a ta) (hb : PE X b tb) (hm : behindInMarks op b = false) : PE X (.Compare a [op] [b] pos) (tOp r ta tb) := by
  intro pins s σ H Q I h
  exact wpAny_Compare1 (binT ha hb I h fun v u s2 x y H2 I2 rx ry q => ho pins s2 σ H2 x y v u Q I2 rx ry q) hm
def tTest (t : TE) : TT := fun σ H Q => t σ H fun x H' => ∃ k, x = .bl k ∧ Q k H'
theorem pt_cmpR {op : CmpOp} {r : R2} (ho : OpR X (compareOp op) r) (ha : PE X a ta) (hb : PE X b tb) (hm : behindInMarks op b = false) : PT X (.Compare a [op] [b] pos) (tTest (tOp r ta tb)) := by
  intro pins s σ H Q I h
  refine wpAny_isTrue_Compare1 (thn (ha pins s σ H _ I h) fun v s1 ⟨x, H1, I1, r1, q1⟩ => thn (hb pins s1 σ H1 _ I1 q1) fun u s2 ⟨y, H2, I2, r2, q2⟩ =>
    thn (ho pins s2 σ H2 x y v u _ I2 r1 r2 q2) fun c s3 ⟨z, H3, I3, r3, k, e, q3⟩ => ?_) hm
  subst e
  cases r3
  exact wpAny_truthy_bool ⟨H3, I3, q3⟩
theorem line63 : (sizeLine : Nat) < 2 ^ 63 := by rw [sizeLine_eq]; decide
theorem op_add_str : OpR X (binaryOp .Add) (fun x y H Q => ∃ i j, x = .str i ∧ y = .str j ∧ i.length + j.length ≤ sizeLine ∧ Q (.str (i ++ j)) H) := by
  intro pins s σ H x y v u Q I rx ry h
  obtain ⟨i, j, rfl, rfl, hz, q⟩ := h
  obtain ⟨t, rfl⟩ := rx
  obtain ⟨t', rfl⟩ := ry
  exact add_str (fun t' tk => ⟨.str (i ++ j), H, I.tok _, ⟨_, rfl⟩, q⟩) hz
def PlainIxT (b : Expr) : Prop := ∀ o i, subscripted b false o i = operate [o, i] (getItem o i)
theorem pe_item_str (ha : PE X a ta) (hb : PE X b tb) (hs : PlainIxT b) :
    PE X (.Subscript a b pos) (tOp (fun x y H Q => ∃ z i c, x = .str z ∧ y = .int i ∧ 0 ≤ i ∧ i < 2 ^ 63 ∧ i < z.length ∧ z.cps[i.toNat]? = some c ∧ Q (.str ⟨#[c]⟩) H) ta tb) := by
  intro pins s σ H Q I h
  refine Subscript_ (binT ha hb I h fun v u s2 x y H2 I2 rx ry q => ?_)
  obtain ⟨z, i, c, rfl, rfl, h0, h63, h1, hc, q⟩ := q
  obtain ⟨t, rfl⟩ := rx
  obtain ⟨t', rfl⟩ := ry
  have e : seqIndex? i z.length = some i.toNat := PySem.StrLaws.seqIndex_nonneg h0 h1
  exact tail_any (typeIs_str s2 z t) slot_str_getitem.lookup (getItem_str (c := c) (by
    have e1 : decide (i < -(2 ^ 63 : Int)) = false := decide_eq_false (by omega)
    have e2 : decide (i ≥ 2 ^ 63) = false := decide_eq_false (by omega)
    rw [e1, e2] <;> rfl) (by rw [e]; exact hc) ⟨.str ⟨#[c]⟩, H2, I2.tok _, ⟨_, rfl⟩, q⟩) (hs _ _)
theorem vals1 {x : V} {us : List Value} (r : Vals [x] us) : ∃ u, us = [u] ∧ RelV x u := by
  cases r with
  | cons r1 r2 => cases r2; exact ⟨_, rfl, r1⟩
theorem call_str_int : CallR X (.type "str") (fun xs H Q => ∃ i, xs = [.int i] ∧ i.natAbs.log2 < 1920 ∧ Q (.str (toString i)) H) := by
  intro pins s σ H xs us Q I r h
  obtain ⟨i, rfl, hz, q⟩ := h
  obtain ⟨u, rfl, t, rfl⟩ := vals1 r
  exact PySem.P.str_of_int hz ⟨.str _, H, I.tok _, ⟨_, rfl⟩, q⟩
end
end L2

namespace L2
open PySem PySem.Spec PyProof.Rows

structure ObjM (h : Heap) (x dx C : Addr) (mA : Str → Option Value) : Prop where
  obj : h.get? x = some (PySem.W.instObj C dx)
  ns : h.Ns1 dx mA
  ne : dx ≠ x

theorem lookIn_ns {h : Heap} {dx : Addr} {mA : Str → Option Value} (n : h.Ns1 dx mA) : ∃ od, h.get? dx = some od ∧ ∀ name, PySem.W.lookIn name od = some (mA name) := by
  obtain ⟨o, es, ep, ho, hd, hk, _, hm⟩ := n
  refine ⟨o, ho, fun name => ?_⟩
  have e := hm name
  unfold nsFind findBy at e
  rw [← Array.find?_toList] at e
  unfold PySem.W.lookIn
  rw [hd]
  dsimp only
  split
  · rename_i y q
    rw [q] at e
    exact congrArg some e
  · rename_i q
    rw [q] at e
    have a : es.toList.any (·.refKey) = false := by
      rw [List.any_eq_false]
      intro y hy
      obtain ⟨z, t, hkey⟩ := hk y (Array.mem_toList_iff.mp hy)
      simp [DictEntry.refKey, hkey]
    have a' : ¬ es.toList.any (·.refKey) = true := by rw [a]; exact Bool.false_ne_true
    rw [if_neg a']
    exact congrArg some e

theorem ObjM.look {h : Heap} {x dx C : Addr} {mA : Str → Option Value} (I : ObjM h x dx C mA) : ∃ od, PySem.W.InstAt h x (PySem.W.instObj C dx) C (some od) ∧ ∀ name, PySem.W.lookIn name od = some (mA name) :=
  let ⟨od, ho, hl⟩ := lookIn_ns I.ns
  ⟨od, ⟨I.obj, rfl, rfl, ho⟩, hl⟩


section
variable {P : Program} {w : World} {H H' : Hp} {h h' : Heap} {a C dx : Addr} {fs fs' : List (Str × V)}
theorem ins_get (hok : HOk P w H h) (e : H a = some (.ins C dx fs)) : ∃ mA, ObjM h a dx C mA ∧ (∀ f, RelO (fs.lookup f) (mA f)) ∧ PySem.Within mA (fs.map (·.1)) ∧ fs.length ≤ 1000 ∧ H dx = some (.own a) := by
  obtain ⟨d, z, ne, ob, mA, n, r, q⟩ := (show ObjOk P w H h a (.ins C dx fs) from hok a _ e)
  exact ⟨mA, ⟨ob, n, ne⟩, r, q, z, d⟩
end

structure Cls (K : PySem.W.Frag) (C : Addr) : Prop where
  pg : PySem.W.plainGet K C Str.empty = true
  hd : PySem.W.hasDictIn K C = true
  po : PySem.W.plainOver K C = true
  sa : PySem.W.findIn K (.ref C) "__setattr__" = some (some (.builtin "object.__setattr__"))
theorem Cls.get {K : PySem.W.Frag} {C : Addr} (c : Cls K C) (f : Str) : PySem.W.plainGet K C f = true := c.pg


section
variable {X : Cx} {pins : List (Addr × Obj)} {σ : St} {H : Hp} {s : Shared} {A : Around} {E : Value → Shared → Prop} {Q : Value → Shared → Prop} {c : Value} {b : Bool}
inductive TyOf (K : PySem.W.Frag) (H : Hp) : V → Value → Prop where
  | non : TyOf K H .non (.type "NoneType")
  | bl (x : Bool) : TyOf K H (.bl x) (.type "bool")
  | int (i : Int) : TyOf K H (.int i) (.type "int")
  | str (x : Str) : TyOf K H (.str x) (.type "str")
  | flt (x : UInt64) : TyOf K H (.flt x) (.type "float")
  | lst {a : Addr} {xs : List V} (e : H a = some (.lst xs)) : TyOf K H (.ref a) (.type "list")
  | frz {a : Addr} {o : Obj} {xs : List V} (e : H a = some (.frz o (.lst xs))) : TyOf K H (.ref a) (.type "list")
  | tup {a : Addr} {xs : List V} (e : H a = some (.tup xs)) : TyOf K H (.ref a) (.type "tuple")
  | dK {a : Addr} {kvs : List (Key × V)} (e : H a = some (.dK kvs)) : TyOf K H (.ref a) (.type "dict")
  | dT {a : Addr} {kvs : List (List Key × V)} (e : H a = some (.dT kvs)) : TyOf K H (.ref a) (.type "dict")
  | ins {a C dx : Addr} {fs : List (Str × V)} (e : H a = some (.ins C dx fs)) (cl : Cls K C) (ha : PySem.W.findIn K (.ref C) "__class__" = some (some (.builtin "object.__class__")))
      (hn : PySem.W.specialIn K (.builtin "object.__class__") "__get__" = some (some (.builtin "getset_descriptor.__get__"))) (htk : PySem.W.takesIn K (.builtin "object.__class__") = some true)
      (hm : PySem.W.mroIn K C (.type "object") = some true) : TyOf K H (.ref a) (.ref C)
theorem isinst_ok {x : V} {u t : Value} (I : Inv X pins σ H s) (rx : RelV x u) (ty : TyOf X.K H x t) (e : PySem.W.kitOne X.K t c = some b) (h : ∀ tk, Q (.bool b) { s with toks := tk }) :
    wpAny (model X.prog X.w) A (call (.builtin "isinstance") [u, c]) Q E s := by
  cases ty with
  | non => cases (show u = Value.none from rx); exact PySem.W.kia_one PySem.W.kitx_none I.kIn True.intro e (fun z => nomatch z) h
  | bl y => cases (show u = Value.bool y from rx); exact PySem.W.kia_one PySem.W.kitx_bool I.kIn True.intro e (fun z => nomatch z) h
  | int i => obtain ⟨t, q⟩ := (show ∃ t, u = Value.int i t from rx); cases q; exact PySem.W.kia_one PySem.W.kitx_int I.kIn True.intro e (fun z => nomatch z) h
  | str y => obtain ⟨t, q⟩ := (show ∃ t, u = Value.str y t from rx); cases q; exact PySem.W.kia_one PySem.W.kitx_str I.kIn True.intro e (fun z => nomatch z) h
  | flt y => obtain ⟨t, q⟩ := (show ∃ t, u = Value.float y t from rx); cases q; exact PySem.W.kia_one PySem.W.kitx_float I.kIn True.intro e (fun z => nomatch z) h
  | @lst a xs ea =>
    cases (show u = Value.ref a from rx)
    obtain ⟨_, _, n, _, h1⟩ := (show ObjOk X.prog X.w H s.heap a (.lst xs) from I.hok a _ ea)
    exact PySem.W.kia_one PySem.W.kitx_list I.kIn ⟨_, h1, rfl⟩ e (fun z => nomatch z) h
  | @frz a ob xs ea =>
    cases (show u = Value.ref a from rx)
    obtain ⟨_, _, _, n, _, h1⟩ := (show ObjOk X.prog X.w H s.heap a (.frz ob (.lst xs)) from I.hok a _ ea)
    exact PySem.W.kia_one PySem.W.kitx_list I.kIn ⟨_, h1, rfl⟩ e (fun z => nomatch z) h
  | @tup a xs ea =>
    cases (show u = Value.ref a from rx)
    obtain ⟨_, _, _, p⟩ := (show ObjOk X.prog X.w H s.heap a (.tup xs) from I.hok a _ ea)
    obtain ⟨o, h1, h2, _⟩ := p
    exact PySem.W.kia_one PySem.W.kitx_tuple I.kIn ⟨o, h1, h2⟩ e (fun z => nomatch z) h
  | @dK a kvs ea =>
    cases (show u = Value.ref a from rx)
    obtain ⟨_, _, vs, _, p⟩ := (show ObjOk X.prog X.w H s.heap a (.dK kvs) from I.hok a _ ea)
    obtain ⟨o, es, ep, h1, h2, _⟩ := p
    exact PySem.W.kia_one PySem.W.kitx_dict I.kIn ⟨o, h1, h2.1⟩ e (fun z => nomatch z) h
  | @dT a kvs ea =>
    cases (show u = Value.ref a from rx)
    obtain ⟨_, _, xs, _, o, es, ep, h1, h2, _⟩ := (show ObjOk X.prog X.w H s.heap a (.dT kvs) from I.hok a _ ea)
    exact PySem.W.kia_one PySem.W.kitx_dict I.kIn ⟨o, h1, h2.1⟩ e (fun z => nomatch z) h
  | @ins a C dx fs ea cl ha hn htk hm =>
    cases (show u = Value.ref a from rx)
    obtain ⟨mA, O, _⟩ := ins_get I.hok ea
    obtain ⟨od, J, _⟩ := O.look
    exact PySem.W.kia_one (PySem.W.kitx_own (cl.get _) cl.hd ha hn htk hm) I.kIn J e (fun z => nomatch z) h
end
end L2

namespace L2
open PySem PySem.Spec PyProof.Rows

structure Room (k : Nat) (A : Around) : Prop where
  hd : A.handled = none
  dp : A.depth + 3 * k + 5 < recursionLimit
  un : A.units + 16 * k + 200 < cLine
  gd : A.guards = some []
theorem Room.mono {j k : Nat} {A : Around} (r : Room k A) (h : j ≤ k) : Room j A := ⟨r.hd, by have := r.dp; omega, by have := r.un; omega, r.gd⟩
theorem Room.deeper {k : Nat} {A : Around} (r : Room (k + 1) A) (env : Env) : Room k (A.deeper env) :=
  ⟨r.hd, by have := r.dp; show A.depth + 1 + 3 * k + 5 < _; omega, by have := r.un; show A.units + 3 + 16 * k + 200 < _; omega, r.gd⟩
theorem Room.depth {k : Nat} {A : Around} (r : Room k A) : A.depth < recursionLimit := by have := r.dp; omega
theorem Room.units {k : Nat} {A : Around} (r : Room k A) : A.units + 64 < cLine := by have := r.un; omega
theorem Room.units0 {k : Nat} {A : Around} (r : Room k A) : A.units < cLine := by have := r.un; omega

def tNil : TA := fun _ H Q => Q [] H
def tCons (ta : TE) (tr : TA) : TA := fun σ H Q => ta σ H fun x H1 => tr σ H1 fun xs H2 => Q (x :: xs) H2
section
variable {X : Cx} {e : Expr} {es : List Expr} {te : TE} {t : TA} {pos : Pos}
theorem pa_nil : PA X [] tNil := fun _ _ _ _ H Q I h => Calls.spliced_nil ⟨[], H, I, .nil, h⟩
theorem pa_cons (ha : PE X e te) (hr : PA X es t) (hs : starEach (e :: es) X.env = (false, eval e X.env) :: starEach es X.env := by rfl) : PA X (e :: es) (tCons te t) := by
  intro pos pins s σ H Q I h
  rw [hs]
  show wpAny _ _ (spliced ((false, eval e X.env) :: backTo pos (starEach es X.env))) _ _ s
  refine Calls.spliced_cons (thn (ha pins s σ H _ I h) fun u s1 ⟨x, H1, I1, r1, q1⟩ => ?_)
  exact thn (hr pos pins s1 σ H1 _ I1 q1) fun us s2 ⟨xs, H2, I2, r2, q2⟩ => ⟨x :: xs, H2, I2, .cons r1 r2, q2⟩

def tTup (t : TA) : TE := fun σ H Q => t σ H fun xs H1 => xs.length ≤ sizeLine ∧ ∀ p, H1 p = none → Q (.ref p) (upd H1 p (.tup xs))
def tLst (t : TA) : TE := fun σ H Q => t σ H fun xs H1 => xs.length ≤ sizeLine ∧ ∀ p, H1 p = none → Q (.ref p) (upd H1 p (.lst xs))
theorem pe_tup {x1} (h : PA X es t) : PE X (.Tuple es x1 pos) (tTup t) := by
  intro pins s σ H Q I hq
  refine wpAny_Tuple_spliced (thn (h pos pins s σ H _ I hq) fun us s1 ⟨xs, H1, I1, r, z, q⟩ => ⟨by rw [← r.length]; exact z, ?_⟩)
  have hf : H1 s1.heap.objs.size = none := I1.hok.fresh (Nat.le_refl _)
  refine ⟨.ref s1.heap.objs.size, upd H1 s1.heap.objs.size (.tup xs), I1.laid (t' := s1.toks) (fun b u e => Heap.get?_push_of_some _ e) (Nat.le_refl _) ?_, rfl, q _ hf⟩
  exact ⟨z, us, r, ⟨_, Heap.get?_push_size _ rfl, rfl, _, rfl⟩⟩
theorem pe_lst (h : PA X es t) : PE X (.List es pos) (tLst t) := by
  intro pins s σ H Q I hq
  refine wpAny_List_spliced (thn (h pos pins s σ H _ I hq) fun us s1 ⟨xs, H1, I1, r, z, q⟩ => ⟨by rw [← r.length]; exact z, ?_⟩)
  have hf : H1 s1.heap.objs.size = none := I1.hok.fresh (Nat.le_refl _)
  refine ⟨.ref s1.heap.objs.size, upd H1 s1.heap.objs.size (.lst xs), I1.laid (t' := s1.toks) (fun b u e => Heap.get?_push_of_some _ e) (Nat.le_refl _) ?_, rfl, q _ hf⟩
  exact ⟨z, us, 0, r, Heap.get?_push_size _ rfl⟩
end

abbrev Sp := List V → Hp → VK → XK → Prop
abbrev CXT := List Env → Hp → Shared → XK → Value → Shared → Prop

structure Env0 (P : Program) (w : World) (K : PySem.W.Frag) (mg : Str → Option Value) (base : Heap) (A : Around) (outer : List Env) (s : Shared) (H : Hp) : Prop where
  frames : A.frames = some outer
  mod : Mod K mg base
  bs : ∀ b o, base.get? b = some o → s.heap.get? b = some o ∧ H b = none
  bsz : base.objs.size ≤ s.heap.objs.size
  funs : s.heap.FunFrames base outer
  frf : ∀ b ∈ frs outer, H b = none
  hok : HOk P w H s.heap
  bare : AllBare s.gens
def CE (outer : List Env) (P : Program) (w : World) (H : Hp) (s : Shared) (Q : VK) (u : Value) (s' : Shared) : Prop :=
  ∃ v H', s'.os = s.os ∧ AllBare s'.gens ∧ Un (frs outer) [] H H' s.heap s'.heap ∧ HOk P w H' s'.heap ∧ RelV v u ∧ Q v H'
def CR (CX : CXT) (outer : List Env) (P : Program) (w : World) (H : Hp) (s : Shared) (Q : VK) (E : XK) (r : Result) (s' : Shared) : Prop :=
  match r with
  | .ok (.ret u) => CE outer P w H s Q u s'
  | .ok _ => False
  | .error e => CX outer H s E e s'
structure FnOk (P : Program) (w : World) (K : PySem.W.Frag) (mg : Str → Option Value) (base : Heap) (CX : CXT) (k : Nat) (f : Addr) (fd : FuncData) (ps : List Str) (sp : Sp) : Prop where
  len : ∀ vs H Q E, sp vs H Q E → vs.length = ps.length
  run : ∀ (A : Around) (outer : List Env) (s : Shared) (H : Hp) (args : Args) (us : List Value) (vs : List V) (Q : VK) (E : XK), Room k A → Env0 P w K mg base A outer s H → BindsTo s fd args (ps.zip us) → Vals vs us → sp vs H Q E →
    codeAny (model P w) A (.call (.ref f) args) (CR CX outer P w H s Q E) s
section
variable {X : Cx} {pins : List (Addr × Obj)} {σ : St} {H : Hp} {s s' : Shared}
theorem Inv.env0 (I : Inv X pins σ H s) : Env0 X.prog X.w X.K X.mg X.base X.A X.stack s H :=
  ⟨I.ok.frames, I.ok.mod, I.bs, Nat.le_trans I.ok.bsz I.sz, I.stack, I.stkFree, I.hok, I.bare⟩
theorem Inv.after {Q : VK} {u : Value} (I : Inv X pins σ H s) (h : CE X.stack X.prog X.w H s Q u s') : EP X pins σ Q u s' := by
  obtain ⟨v, H', os, bare, un, hok, r, q⟩ := h
  obtain ⟨hh, g, d, t, os'⟩ := s'
  obtain rfl : os' = s.os := os
  exact ⟨v, H', I.call (h' := hh) (g' := g) (d' := d) (t' := t) (ch := []) un hok bare (fun b z => absurd z (by simp)), r, q⟩
end

def tCall (sp : Sp) (dvs : List V) (E : XK) (t : TA) : TE := fun σ H Q => t σ H fun vs H1 => sp (vs ++ dvs) H1 Q E
def Binds (K : PySem.W.Frag) (fd : FuncData) (ps : List Str) (ds : List Value) : Prop :=
  ∀ (s : Shared) (us : List Value), K.In s.heap → (us ++ ds).length = ps.length → BindsTo s fd ⟨us, []⟩ (ps.zip (us ++ ds))
theorem Binds.all {K : PySem.W.Frag} {fd : FuncData} {ps : List Str} (h : ∀ us : List Value, us.length = ps.length → bindArgs fd ⟨us, []⟩ = pure (ps.zip us)) : Binds K fd ps [] := fun s us _ hl => by
  rw [List.append_nil] at hl ⊢
  exact .of_eq (h us hl)

def Passes (CX : CXT) (X : Cx) (E : XK) : Prop := ∀ (pins : List (Addr × Obj)) (σ : St) (H : Hp) (s : Shared) (e : Value) (s' : Shared), Inv X pins σ H s → CX X.stack H s E e s' → X.xe e s'

section
variable {X : Cx} {CX : CXT} {k : Nat} {f C : Addr} {fd : FuncData} {ps : List Str} {sp : Sp} {dvs : List V} {ds : List Value} {E : XK} {x m : Str} {p pos apos : Pos} {e o : Expr} {es : List Expr} {ta : TE} {t : TA}

theorem run_fn {pins : List (Addr × Obj)} {σ : St} {H : Hp} {s : Shared} {Q : VK} {us : List Value} {vs : List V} (F : FnOk X.prog X.w X.K X.mg X.base CX k f fd ps sp) (hr : Room k X.A) (hb : Binds X.K fd ps ds) (hd : Vals dvs ds) (hx : Passes CX X E)
    (I : Inv X pins σ H s) (r : Vals vs us) (h : sp (vs ++ dvs) H Q E) : wpAny (model X.prog X.w) X.A (call (.ref f) us) (EP X pins σ Q) X.xe s := by
  have r2 : Vals (vs ++ dvs) (us ++ ds) := r.append hd
  have hl : (us ++ ds).length = ps.length := by rw [← r2.length]; exact F.len _ _ _ _ h
  refine wpAny_call (codeAny_mono (F.run X.A X.stack s H ⟨us, []⟩ (us ++ ds) (vs ++ dvs) Q E hr I.env0 (hb s us I.kIn hl) r2 h) fun r s' hq => ?_)
  cases r with
  | error e => exact hx pins σ H s e s' I hq
  | ok fl =>
    cases fl with
    | ret u => exact I.after hq
    | next => exact False.elim hq
    | brk => exact False.elim hq
    | cont => exact False.elim hq

theorem pe_call (F : FnOk X.prog X.w X.K X.mg X.base CX k f fd ps sp) (hr : Room k X.A) (hg : Gl X x) (hm : X.mg x = some (.ref f)) (hk : PySem.W.keepIn X.K (.ref f) = true) (hb : Binds X.K fd ps ds) (hd : Vals dvs ds) (hx : Passes CX X E)
    (ha : PA X (e :: es) t) (hdb : (x == ("__debug__" : Str)) = false := by decide) (he : starEach (e :: es) X.env = (false, eval e X.env) :: starEach es X.env := by rfl) (hpl : (backTo pos (starEach es X.env)).any (·.1) = false := by rfl) :
    PE X (.Call (.Name x p) (e :: es) [] pos) (tCall sp dvs E t) := by
  intro pins s σ H Q I h
  refine wpAny_Call_Name_kw (ld_glob I hg hm ?_ hdb)
  refine PySem.W.callWith_K (h₀ := X.base) I.ok.mod.kin hk (thn (ha pos pins s σ H _ I h) fun us s1 ⟨vs, H1, I1, r, q⟩ => ⟨I1.kIn, ?_⟩) he hpl
  exact run_fn F hr hb hd hx I1 r q
end


structure FnScope (N P : List Str) (sc : Scope) : Prop where
  kind : sc.kind = .function
  co : sc.isCoroutine = false
  gen : sc.isGenerator = false
  nd : N.Nodup
  pre : N.take P.length = P
  par : ∀ x ∈ P, sc.names.lookup x = some .local ∨ sc.names.lookup x = some .cell
  nofree : ∀ y ∈ sc.names, y.2 ≠ .free

theorem bindL_out {kindOf : Str → Option NameKind} {x : Str} : ∀ {binds : List (Str × Value)} {m : Str → Option Value}, (∀ v, (x, v) ∉ binds) → bindL kindOf binds m x = m x
  | [], _, _ => rfl
  | (n, v) :: r, m, h => by
    unfold bindL
    rw [bindL_out fun w hw => h w (List.mem_cons_of_mem _ hw)]
    split
    · have : x ≠ n := by rintro rfl; exact h v List.mem_cons_self
      simp [this]
    · rfl
theorem bindC_out {kindOf : Str → Option NameKind} {x : Str} : ∀ {binds : List (Str × Value)} {m : Str → Option Value}, (∀ v, (x, v) ∉ binds) → bindC kindOf binds m x = m x
  | [], _, _ => rfl
  | (n, v) :: r, m, h => by
    unfold bindC
    rw [bindC_out fun w hw => h w (List.mem_cons_of_mem _ hw)]
    split
    · rfl
    · have : x ≠ n := by rintro rfl; exact h v List.mem_cons_self
      simp [this]
theorem bindL_get {kindOf : Str → Option NameKind} {x : Str} {v : Value} : ∀ {P : List Str} {vs : List Value} {i : Nat} {m : Str → Option Value}, P.Nodup → P[i]? = some x → vs[i]? = some v → kindOf x = some .local →
    bindL kindOf (P.zip vs) m x = some v
  | [], _, _, _, _, h, _, _ => by simp at h
  | _ :: _, [], _, _, _, _, h, _ => by simp at h
  | p :: P, w :: vs, 0, m, nd, h1, h2, hk => by
    simp at h1 h2; subst h1; subst h2
    show bindL kindOf ((p, w) :: P.zip vs) m p = _
    unfold bindL
    rw [bindL_out fun v hv => (List.nodup_cons.mp nd).1 (List.of_mem_zip hv).1, if_pos hk]
    simp
  | p :: P, w :: vs, i + 1, m, nd, h1, h2, hk => by
    show bindL kindOf ((p, w) :: P.zip vs) m x = _
    unfold bindL
    exact bindL_get (i := i) (List.nodup_cons.mp nd).2 (by simpa using h1) (by simpa using h2) hk
theorem bindC_get {kindOf : Str → Option NameKind} {x : Str} {v : Value} : ∀ {P : List Str} {vs : List Value} {i : Nat} {m : Str → Option Value}, P.Nodup → P[i]? = some x → vs[i]? = some v → kindOf x ≠ some .local →
    bindC kindOf (P.zip vs) m x = some v
  | [], _, _, _, _, h, _, _ => by simp at h
  | _ :: _, [], _, _, _, _, h, _ => by simp at h
  | p :: P, w :: vs, 0, m, nd, h1, h2, hk => by
    simp at h1 h2; subst h1; subst h2
    show bindC kindOf ((p, w) :: P.zip vs) m p = _
    unfold bindC
    rw [bindC_out fun v hv => (List.nodup_cons.mp nd).1 (List.of_mem_zip hv).1, if_neg hk]
    simp
  | p :: P, w :: vs, i + 1, m, nd, h1, h2, hk => by
    show bindC kindOf ((p, w) :: P.zip vs) m x = _
    unfold bindC
    exact bindC_get (i := i) (List.nodup_cons.mp nd).2 (by simpa using h1) (by simpa using h2) hk

def start (N : List Str) (vs : List V) : St := vs.map some ++ List.replicate (N.length - vs.length) none

def cxOf (CX : CXT) (P : Program) (w : World) (K : PySem.W.Frag) (mg : Str → Option Value) (base : Heap) (N : List Str) (qual : Str) (scope : Scope) (f : Addr) (cd : Value) (A : Around) (outer : List Env) (s : Shared) (H : Hp) (E : XK) : Cx where
  prog := P
  w := w
  K := K
  mg := mg
  base := base
  A := A.deeper (envOfC qual scope s.heap.objs.size f cd)
  N := N
  s₀ := s
  H₀ := H
  env := envOfC qual scope s.heap.objs.size f cd
  outer := outer
  stack := envOfC qual scope s.heap.objs.size f cd :: outer
  ex := []
  calm := true
  fn := fun _ => true
  pn := []
  xe := fun e s' => wpAny (model P w) (A.deeper (envOfC qual scope s.heap.objs.size f cd)) (leaving (envOfC qual scope s.heap.objs.size f cd) e) (fun _ s'' => CX outer H s E e s'') (fun e' s'' => CX outer H s E e' s'') s'

theorem cell_has {sc : Scope} {n : Nat} {x : Str} (h : sc.names.lookup x = some .cell) : ∃ c, (cellsFrom n sc.names []).lookup x = some c := by
  have q := PySem.W.cellsFrom_some sc.names n [] (.inl h)
  exact Option.isSome_iff_exists.mp q

theorem inv_start {CX : CXT} {P : Program} {w : World} {K : PySem.W.Frag} {mg : Str → Option Value} {base : Heap} {N ps : List Str} {qual : Str} {scope : Scope} {f : Addr} {cd : Value} {A : Around} {outer : List Env} {s s1 : Shared} {H : Hp} {E : XK} {us : List Value} {vs : List V}
    (S : FnScope N ps scope) (hd : A.handled = none) (e0 : Env0 P w K mg base A outer s H) (hl : vs.length = ps.length) (r : Vals vs us)
    (x : InCallC s s.heap.objs.size (bindL (envOfC qual scope s.heap.objs.size f cd).kindOf (ps.zip us) fun _ => none) (cellsFrom (s.heap.objs.size + 1) scope.names []) (bindC (envOfC qual scope s.heap.objs.size f cd).kindOf (ps.zip us) fun _ => none) s1) :
    Inv (cxOf CX P w K mg base N qual scope f cd A outer s H E) [] (start N vs) H s1 := by
  have hpl : ps.length ≤ N.length := by have := congrArg List.length S.pre; rw [List.length_take] at this; omega
  obtain ⟨h1, tk, rfl, hk⟩ := x.done
  have noA : ∀ b : Addr, b ∉ (cxOf CX P w K mg base N qual scope f cd A outer s H E).ex := fun b z => absurd (show b ∈ ([] : List Addr) from z) (by simp)
  refine ⟨⟨e0.mod, S.kind, rfl, rfl, Nat.le_refl _, fun y z c h1 h2 => ?_, fun y hy => ?_, fun y c _ h => ?_, fun _ => hd, Around.frames_deeper e0.frames, .inr ⟨rfl, rfl⟩, fun b z => absurd z (noA b), e0.bs, e0.bsz, fun b _ _ => noA b, fun b z => absurd z (noA b), e0.funs, e0.frf⟩,
    rfl, e0.bare, Un.kept hk, ⟨_, x.toInCall.ns, fun i y v h1 h2 h3 => ?_⟩, fun y c h => ⟨_, x.cell y c h⟩, e0.hok.fresh (Nat.le_refl _), fun y c h => ?_, fun p hp => absurd (show p ∈ ([] : List (Addr × Obj)) from hp) (by simp), e0.hok.kept hk, ?_⟩
  · exact name_of_addr x.apart (PySem.mem_of_lookup h1) (PySem.mem_of_lookup h2)
  · have hy : scope.names.lookup y = some .cell ∨ scope.names.lookup y = some .free := hy
    rcases hy with hy | hy
    · exact cell_has hy
    · exact absurd rfl (S.nofree _ (PySem.mem_of_lookup hy))
  · exact Nat.le_of_lt (x.above y c (PySem.mem_of_lookup h))
  · have hi : i < vs.length := by
      unfold start at h2
      by_cases hi : i < vs.length
      · exact hi
      · rw [List.getElem?_append_right (by simpa using hi)] at h2
        rw [List.getElem?_replicate] at h2
        split at h2 <;> cases h2
    have ha : vs[i]? = some v := by
      unfold start at h2
      rw [List.getElem?_append_left (by simpa using hi), List.getElem?_map] at h2
      cases e : vs[i]? with
      | none => rw [e] at h2; cases h2
      | some a => rw [e] at h2; cases h2; rfl
    obtain ⟨u, hu, rv⟩ := r.get ha
    have hp : ps[i]? = some y := by
      rw [← S.pre, List.getElem?_take_of_lt (by omega)]; exact h1
    have ndP : ps.Nodup := by rw [← S.pre]; exact S.nd.sublist (List.take_sublist _ _)
    refine ⟨u, rv, ?_⟩
    rcases S.par y (List.mem_of_getElem? hp) with k | k
    · exact .inl ⟨k, bindL_get ndP hp hu k⟩
    · obtain ⟨c, e⟩ := cell_has (n := s.heap.objs.size + 1) k
      refine .inr ⟨.inl k, c, e, ?_⟩
      have q := x.cell y c e
      rw [bindC_get ndP hp hu (by show scope.names.lookup y ≠ _; rw [k]; decide)] at q
      exact q
  · exact e0.hok.fresh (Nat.le_of_lt (x.above y c (PySem.mem_of_lookup h)))
  · unfold start
    show _ = N.length
    rw [List.length_append, List.length_map, List.length_replicate]
    omega

theorem fn_of {CX : CXT} {P : Program} {w : World} {K : PySem.W.Frag} {mg : Str → Option Value} {base : Heap} {k : Nat} {f : Addr} {name qual : Str} {params : Arguments} {body : List Stmt} {scope : Scope} {dV kV doc pm cdv ct oc : Value} {an od : Option Addr}
    {osl : Array (Option Value)} {N ps : List Str} {sp : Sp} (lk : K.lookup f = some ⟨oc, od, .func (PySem.W.fnOf name qual params body scope dV kV doc pm an cdv ct), osl⟩) (hcd : PySem.W.codeIn K cdv qual = true) (S : FnScope N ps scope)
    (len : ∀ vs H Q E, sp vs H Q E → vs.length = ps.length)
    (hbody : ∀ (A : Around) (outer : List Env) (s : Shared) (H : Hp) (vs : List V) (Q : VK) (E : XK), Room k (A.deeper (envOfC qual scope s.heap.objs.size f cdv)) → sp vs H Q E →
      ∃ t, PSs (cxOf CX P w K mg base N qual scope f cdv A outer s H E) body t ∧ t { nx := fun _ H' => Q .non H', rt := Q } (start N vs) H) :
    FnOk P w K mg base CX (k + 1) f (PySem.W.fnOf name qual params body scope dV kV doc pm an cdv ct) ps sp := by
  refine ⟨len, fun A outer s H args us vs Q E hr e0 hb r hsp => ?_⟩
  have hl := len _ _ _ _ hsp
  have KX : K.In s.heap := e0.mod.kin.keeps fun b o e => (e0.bs b o e).1
  have lim : s.heap.NoLimit := e0.mod.nolimit.keeps fun b o e => (e0.bs b o e).1
  have hkind : ∀ y ∈ ps.zip us, scope.names.lookup y.1 = some .local ∨ (scope.names.lookup y.1 = some .cell ∧ ((cellsFrom (s.heap.objs.size + 1) scope.names []).lookup y.1).isSome = true) := fun ⟨n, v⟩ hy => by
    rcases S.par n (List.of_mem_zip hy).1 with q | q
    · exact .inl q
    · exact .inr ⟨q, PySem.W.cellsFrom_some _ _ _ (.inl q)⟩
  refine codeAny_call_function hr.depth (KX _ _ lk) rfl S.co S.gen rfl (PySem.W.codeRec_of KX hcd) (hb _ _ _ _ ?_)
  refine wpAny_newFunctionEnv_cells S.kind hkind fun env he s1 x => ?_
  subst he
  refine ⟨lim.keeps x.toInCall.keep, codeAny_func ?_⟩
  obtain ⟨t, ht, hq⟩ := hbody A outer s H vs Q E (hr.deeper _) hsp
  have I : Inv (cxOf CX P w K mg base N qual scope f cdv A outer s H E) [] (start N vs) H s1 := inv_start S hr.hd e0 hl r x
  refine wpAny_mono (ht [] s1 (start N vs) H _ I hq) (fun fl s' hs => ?_) fun e s' hs => hs
  have fin : ∀ {σ' : St} {H' : Hp} {v : V} {u : Value}, Inv (cxOf CX P w K mg base N qual scope f cdv A outer s H E) [] σ' H' s' → RelV v u → Q v H' → CE outer P w H s Q u s' :=
    fun {σ' H' v u} J rv q => ⟨v, H', J.os, J.bare, J.base, J.hok, rv, q⟩
  cases fl with
  | ret u =>
    obtain ⟨v, σ', H', J, rv, q⟩ := hs
    exact fin J rv q
  | next =>
    obtain ⟨σ', H', J, q⟩ := hs
    exact fin (v := V.non) (u := Value.none) J rfl q
  | brk =>
    obtain ⟨_, _, _, q⟩ := hs
    exact False.elim q
  | cont =>
    obtain ⟨_, _, _, q⟩ := hs
    exact False.elim q
end L2

namespace L2
open PySem PySem.Spec PyProof.Rows
section
variable {X : Cx} {x : Str} {p pos : Pos} {e : Expr} {es : List Expr} {t : TA} {id T : String} {r : List V → Hp → VK → Prop}

def tCB (r : List V → Hp → VK → Prop) (t : TA) : TE := fun σ H Q => t σ H fun vs H1 => r vs H1 Q
theorem pe_callB (hc : CallR X (.builtin id) r) (hg : Gl X x) (hm : X.mg x = none) (hv : bootBuiltins x = some (.builtin id)) (ha : PA X (e :: es) t) (hn : x ≠ "__name__" := by decide) (hdb : (x == ("__debug__" : Str)) = false := by decide)
    (he : starEach (e :: es) X.env = (false, eval e X.env) :: starEach es X.env := by rfl) (hpl : (backTo pos (starEach es X.env)).any (·.1) = false := by rfl) : PE X (.Call (.Name x p) (e :: es) [] pos) (tCB r t) := by
  intro pins s σ H Q I h
  refine wpAny_Call_Name_kw (ld_blt I hg hm hv ?_ hn hdb)
  exact PyProof.Rows.callWith_builtin1 (thn (ha pos pins s σ H _ I h) fun us s1 ⟨vs, H1, I1, r1, q1⟩ => hc pins s1 σ H1 vs us Q I1 r1 q1) he hpl
theorem pe_callTy (hc : CallR X (.type T) r) (hg : Gl X x) (hm : X.mg x = none) (hv : bootBuiltins x = some (.type T)) (ha : PA X (e :: es) t) (hn : x ≠ "__name__" := by decide) (hdb : (x == ("__debug__" : Str)) = false := by decide)
    (he : starEach (e :: es) X.env = (false, eval e X.env) :: starEach es X.env := by rfl) (hpl : (backTo pos (starEach es X.env)).any (·.1) = false := by rfl) : PE X (.Call (.Name x p) (e :: es) [] pos) (tCB r t) := by
  intro pins s σ H Q I h
  refine wpAny_Call_Name_kw (ld_blt I hg hm hv ?_ hn hdb)
  exact PyProof.Rows.callWith_type1 (thn (ha pos pins s σ H _ I h) fun us s1 ⟨vs, H1, I1, r1, q1⟩ => hc pins s1 σ H1 vs us Q I1 r1 q1) he hpl
end
end L2



namespace HT
open PySem PyProof.Rows


section
variable {prog : Program} {w : World} {A : Around} {E : Value → Shared → Prop} {s : Shared}

def sIx (n d : Nat) : Option Int → Nat
  | none => d
  | some v => if v < 0 then (v + (n : Int)).toNat else min v.toNat n
end
end HT

namespace L2
open PySem PySem.Spec PyProof.Rows

abbrev TO := St → Hp → (Option Int → Hp → Prop) → Prop
def PO (X : Cx) (e : Option Expr) (t : TO) : Prop :=
  ∀ (pins : List (Addr × Obj)) (s : Shared) (σ : St) (H : Hp) (Q : Option Int → Hp → Prop), Inv X pins σ H s → t σ H Q →
    wpAny (model X.prog X.w) X.A (evalPart e X.env) (fun u s' => ∃ o H', Inv X pins σ H' s' ∧ IsPart u o ∧ Q o H') X.xe s
def tNoPart : TO := fun _ H Q => Q none H
def tPart (t : TE) : TO := fun σ H Q => t σ H fun x H1 => ∃ i, x = .int i ∧ Q (some i) H1

section
variable {X : Cx} {e : Expr} {te : TE} {lo hi : Option Expr} {tl th : TO} {pos p2 : Pos}

theorem po_none : PO X none tNoPart := by
  intro pins s σ H Q I h
  rw [evalPart_none]
  exact wpAny_pure ⟨none, H, I, .none, h⟩
theorem po_some (h : PE X e te) : PO X (some e) (tPart te) := by
  intro pins s σ H Q I hw
  rw [evalPart_some]
  refine thn (h pins s σ H _ I hw) fun u s1 ⟨x, H1, I1, r1, q1⟩ => ?_
  obtain ⟨i, rfl, q⟩ := q1
  obtain ⟨t, rfl⟩ := r1
  exact ⟨some i, H1, I1, .int i t, q⟩

def SlR (X : Cx) (r : V → Option Int → Option Int → Hp → VK → Prop) : Prop :=
  ∀ (pins : List (Addr × Obj)) (s : Shared) (σ : St) (H : Hp) (x : V) (v vl vu : Value) (lo hi : Option Int) (sl : Addr) (Q : VK), Inv X pins σ H s → RelV x v → s.heap.IsSliceOf sl vl vu .none → IsPart vl lo → IsPart vu hi → r x lo hi H Q →
    ∃ T id, typeLookup (.type T) "__getitem__" = pure (some (.builtin id)) ∧ s.TypeIs v T ∧ wpAny (model X.prog X.w) X.A (getItem v (.ref sl)) (EP X pins σ Q) X.xe s
def tSl (r : V → Option Int → Option Int → Hp → VK → Prop) (te : TE) (tl th : TO) : TE := fun σ H Q => te σ H fun x H1 => tl σ H1 fun l H2 => th σ H2 fun u H3 => r x l u H3 Q
theorem pe_slice {r : V → Option Int → Option Int → Hp → VK → Prop} (hr : SlR X r) (he : PE X e te) (hl : PO X lo tl) (hu : PO X hi th) : PE X (.Subscript e (.Slice lo hi none p2) pos) (tSl r te tl th) := by
  intro pins s σ H Q I h
  refine Subscript_ (thn (he pins s σ H _ I h) fun v s1 ⟨x, H1, I1, r1, q1⟩ => ?_)
  refine wpAny_Slice (thn (hl pins s1 σ H1 _ I1 q1) fun vl s2 ⟨l, H2, I2, pl, q2⟩ => thn (hu pins s2 σ H2 _ I2 q2) fun vu s3 ⟨u, H3, I3, pu, q3⟩ => ?_)
  rw [evalPart_none]
  refine wpAny_pure ?_
  have I4 : Inv X pins σ H3 { s3 with heap := s3.heap.push { cls := .type "slice", data := .fields #[vl, vu, .none] } } := I3.kept (t' := s3.toks) fun b ob q => Heap.get?_push_of_some _ q
  obtain ⟨T, id, hT, ht, hg⟩ := hr pins { s3 with heap := s3.heap.push { cls := .type "slice", data := .fields #[vl, vu, .none] } } σ H3 x v vl vu l u s3.heap.objs.size Q I4 r1 (Heap.IsSliceOf.new ..) pl pu q3
  show wpAny (model X.prog X.w) X.A (subscriptTail e (.Slice lo hi none p2) v (.ref s3.heap.objs.size)) (EP X pins σ Q) X.xe { s3 with heap := s3.heap.push { cls := .type "slice", data := .fields #[vl, vu, .none] } }
  exact tail_any (ops := [.ref s3.heap.objs.size, v]) ht hT hg (by with_unfolding_all rfl)

def cutV (xs : List V) (lo hi : Option Int) : List V := (xs.drop (HT.sIx xs.length 0 lo)).take (HT.sIx xs.length xs.length hi - HT.sIx xs.length 0 lo)
theorem cutV_length (xs : List V) (lo hi : Option Int) : (cutV xs lo hi).length ≤ xs.length := by
  unfold cutV
  rw [List.length_take, List.length_drop]
  omega
end
end L2

namespace L2
open PySem PySem.Spec PyProof.Rows

def ixN (n : Nat) (i : Int) : Option Nat := if 0 ≤ i then (if i < n then some i.toNat else none) else if -(n : Int) ≤ i then some (i + n).toNat else none
def atI {α : Type} (xs : List α) (i : Int) : Option α := (ixN xs.length i).bind fun j => xs[j]?
theorem ixN_seq {n : Nat} {i : Int} {j : Nat} (h : ixN n i = some j) : seqIndex? i n = some j ∧ j < n ∧ -(n : Int) ≤ i ∧ i < n := by
  unfold ixN at h
  by_cases h0 : 0 ≤ i
  · rw [if_pos h0] at h
    by_cases h1 : i < n
    · rw [if_pos h1] at h
      have e : i.toNat = j := Option.some.inj h
      exact ⟨by rw [seqIndex_of h0 h1, e], by omega, by omega, h1⟩
    · rw [if_neg h1] at h; cases h
  · rw [if_neg h0] at h
    by_cases h1 : -(n : Int) ≤ i
    · rw [if_pos h1] at h
      have e : (i + n).toNat = j := Option.some.inj h
      exact ⟨by rw [seqIndex_neg (by omega) h1, e], by omega, h1, by omega⟩
    · rw [if_neg h1] at h; cases h
theorem atI_get {α : Type} {xs : List α} {i : Int} {v : α} (h : atI xs i = some v) : ∃ j, seqIndex? i xs.length = some j ∧ xs[j]? = some v ∧ j < xs.length ∧ -(xs.length : Int) ≤ i ∧ i < xs.length := by
  unfold atI at h
  cases e : ixN xs.length i with
  | none => rw [e] at h; cases h
  | some j =>
    rw [e] at h
    obtain ⟨h1, h2, h3, h4⟩ := ixN_seq e
    exact ⟨j, h1, h, h2, h3, h4⟩
theorem atI_nat {α : Type} {xs : List α} {j : Nat} {v : α} (h : xs[j]? = some v) : atI xs (j : Int) = some v := by
  have hj : j < xs.length := (List.getElem?_eq_some_iff.mp h).1
  have e : ixN xs.length (j : Int) = some j := by
    unfold ixN
    rw [if_pos (by omega), if_pos (by omega)]; simp
  unfold atI; rw [e]; exact h
def PlainIx (b : Expr) : Prop := ∀ o i, subscripted b false o i = operate [o, i] (getItem o i)
def IxR (X : Cx) (r : R2) : Prop :=
  ∀ (value slice : Expr) (pins : List (Addr × Obj)) (s : Shared) (σ : St) (H : Hp) (x y : V) (v u : Value) (Q : VK), Inv X pins σ H s → RelV x v → RelV y u → r x y H Q →
    subscripted slice false v u = operate [v, u] (getItem v u) → wpAny (model X.prog X.w) X.A (subscriptTail value slice v u) (EP X pins σ Q) X.xe s
def MtR (X : Cx) (id : String) (r : V → List V → Hp → VK → Prop) : Prop :=
  ∀ (pins : List (Addr × Obj)) (s : Shared) (σ : St) (H : Hp) (x : V) (xs : List V) (v : Value) (us : List Value) (Q : VK), Inv X pins σ H s → RelV x v → Vals xs us → r x xs H Q →
    wpAny (model X.prog X.w) X.A (call (.builtin id) (v :: us)) (EP X pins σ Q) X.xe s
section
variable {X : Cx} {a b : Expr} {ta tb : TE} {pos : Pos}
theorem pe_ix {r : R2} (hr : IxR X r) (ha : PE X a ta) (hb : PE X b tb) (hs : PlainIx b) : PE X (.Subscript a b pos) (tOp r ta tb) := by
  intro pins s σ H Q I h
  exact Subscript_ (binT ha hb I h fun v u s2 x y H2 I2 rx ry q => hr a b pins s2 σ H2 x y v u Q I2 rx ry q (hs _ _))

def rIxL (K : PySem.W.Frag) : R2 := fun x y H Q => ∃ p xs i v, x = .ref p ∧ y = .int i ∧ SqL K H p xs ∧ atI xs i = some v ∧ Q v H
def rIxT (K : PySem.W.Frag) : R2 := fun x y H Q => ∃ p xs i v, x = .ref p ∧ y = .int i ∧ SqT K H p xs ∧ atI xs i = some v ∧ Q v H
theorem ix_list : IxR X (rIxL X.K) := by
  intro value slice pins s σ H x y v u Q I rx ry h hs
  obtain ⟨p, xs, i, z, rfl, rfl, hq, he, q⟩ := h
  cases rx
  obtain ⟨t, rfl⟩ := ry
  obtain ⟨its, r, pl, hz⟩ := I.list hq
  obtain ⟨j, h1, h2, h3, h4, h5⟩ := atI_get he
  obtain ⟨w, ew, rw'⟩ := r.get h2
  have hl := r.length
  have hn := line63
  have fin : EP X pins σ Q w s := ⟨z, H, I, rw', q⟩
  by_cases h0 : 0 ≤ i
  · have hj : i.toNat = j := by
      rw [seqIndex_of h0 h5] at h1
      exact Option.some.inj h1
    exact item_listR pl.isList h0 (by omega) (by rw [hj]; simpa using ew) fin hs
  · have hj : (i + (its.toArray.size : Int)).toNat = j := by
      rw [seqIndex_neg (by omega) h4] at h1
      rw [List.size_toArray, ← hl]
      exact Option.some.inj h1
    exact subscriptTail_builtinR (x := w) pl.isList.typeIs slot_list_getitem.lookup
      (wpAny_getItem_list_neg (Q := fun r s' => r = w ∧ EP X pins σ Q r s') pl.isList (by omega) (by rw [List.size_toArray] <;> omega) (by omega) (by rw [hj]; simpa using ew) ⟨rfl, fin⟩) hs
theorem ix_tup : IxR X (rIxT X.K) := by
  intro value slice pins s σ H x y v u Q I rx ry h hs
  obtain ⟨p, xs, i, z, rfl, rfl, hq, he, q⟩ := h
  cases rx
  obtain ⟨t, rfl⟩ := ry
  obtain ⟨its, r, pl, hz⟩ := I.tuple hq
  obtain ⟨j, h1, h2, h3, h4, h5⟩ := atI_get he
  obtain ⟨w, ew, rw'⟩ := r.get h2
  have hl := r.length
  have hn := line63
  have fin : EP X pins σ Q w s := ⟨z, H, I, rw', q⟩
  exact subscriptTail_builtinR (x := w) pl.typeIs slot_tuple_getitem.lookup
    (getItem_tuple (j := j) (Q := fun r s' => r = w ∧ EP X pins σ Q r s') pl (by omega) (by omega) (by rw [List.size_toArray, ← hl]; exact h1) (by simpa using ew) ⟨rfl, fin⟩) hs
theorem slice_bounds (lo hi : Option Int) (n : Nat) : (sliceBounds lo hi none n).1 = ((HT.sIx n 0 lo : Nat) : Int) ∧ (sliceBounds lo hi none n).2.1 = ((HT.sIx n n hi : Nat) : Int) ∧ (sliceBounds lo hi none n).2.2 = 1 := by
  refine ⟨?_, ?_, rfl⟩
  · cases lo with
    | none => simp [sliceBounds, HT.sIx]
    | some i =>
      simp only [sliceBounds, HT.sIx, Option.getD_none, show (1 : Int) > 0 by decide, if_true]
      by_cases h : i < 0
      · simp only [h, if_true] <;> omega
      · simp only [h, if_false] <;> omega
  · cases hi with
    | none => simp [sliceBounds, HT.sIx]
    | some i =>
      simp only [sliceBounds, HT.sIx, Option.getD_none, show (1 : Int) > 0 by decide, if_true]
      by_cases h : i < 0
      · simp only [h, if_true] <;> omega
      · simp only [h, if_false] <;> omega
theorem slicePick_cut (its : List Value) (lo hi : Option Int) : slicePick its.toArray lo hi none = ((its.drop (HT.sIx its.length 0 lo)).take (HT.sIx its.length its.length hi - HT.sIx its.length 0 lo)).toArray := by
  obtain ⟨h1, h2, h3⟩ := slice_bounds lo hi its.toArray.size
  unfold slicePick
  rw [h1, h2, h3]
  simp only [sliceRange_one, pick_run, List.size_toArray] <;> rfl
def rSlL (K : PySem.W.Frag) : V → Option Int → Option Int → Hp → VK → Prop := fun x lo hi H Q => ∃ a xs, x = .ref a ∧ SqL K H a xs ∧ ∀ p, H p = none → Q (.ref p) (upd H p (.lst (cutV xs lo hi)))
theorem sl_list : SlR X (rSlL X.K) := by
  intro pins s σ H x v vl vu lo hi sl Q I rx hs pl pu h
  obtain ⟨a, xs, rfl, hx, q⟩ := h
  cases rx
  obtain ⟨its, r, ht, hz⟩ := I.list hx
  have hlen := r.length
  refine ⟨"list", _, slot_list_getitem.lookup, ht.isList.typeIs, ?_⟩
  refine wpAny_getItem_list_slice ht.isList hs pl pu .none (by simp) ?_ (by rw [List.size_toArray] <;> omega)
  rw [slicePick_cut, ← hlen]
  refine ⟨.ref s.heap.objs.size, _, I.laid (t' := s.toks) (o := .lst (cutV xs lo hi)) (fun b ob q => Heap.get?_push_of_some _ q) (Nat.le_refl _) ?_, rfl, q _ (I.hok.fresh (Nat.le_refl _))⟩
  exact ⟨Nat.le_trans (cutV_length xs lo hi) hz, _, 0, (r.drop (HT.sIx xs.length 0 lo)).take (HT.sIx xs.length xs.length hi - HT.sIx xs.length 0 lo), Heap.get?_push_size _ rfl⟩

def flatV : V → Bool
  | .non => true
  | .bl _ => true
  | .int _ => true
  | .str _ => true
  | _ => false
def eqV : V → V → Bool
  | .non, .non => true
  | .bl a, .bl b => a == b
  | .bl a, .int b => (if a then 1 else 0) == b
  | .int a, .bl b => a == (if b then 1 else 0)
  | .int a, .int b => a == b
  | .str a, .str b => a == b
  | _, _ => false
theorem eqAt_V {A : Around} {s : Shared} {y x : V} {u v : Value} (ry : RelV y u) (rx : RelV x v) (fy : flatV y = true) (fx : flatV x = true) : SeqAt.EqAt A s u v (eqV y x) := by
  cases y with
  | non =>
    cases ry
    cases x with
    | non => cases rx; exact SeqAt.EqAt.same _
    | bl b => cases rx; exact SeqAt.EqAt.none_bool b
    | int b => obtain ⟨t, rfl⟩ := rx; exact SeqAt.EqAt.none_int b t
    | str b => obtain ⟨t, rfl⟩ := rx; exact SeqAt.EqAt.none_str b t
    | _ => exact absurd (show false = true from fx) Bool.false_ne_true
  | bl a =>
    cases ry
    cases x with
    | non => cases rx; exact SeqAt.EqAt.bool_none a
    | bl b => cases rx; exact SeqAt.EqAt.bool_bool a b
    | int b => obtain ⟨t, rfl⟩ := rx; exact SeqAt.EqAt.bool_int a b t
    | str b => obtain ⟨t, rfl⟩ := rx; exact SeqAt.EqAt.bool_str a b t
    | _ => exact absurd (show false = true from fx) Bool.false_ne_true
  | int a =>
    obtain ⟨t', rfl⟩ := ry
    cases x with
    | non => cases rx; exact SeqAt.EqAt.int_none a t'
    | bl b => cases rx; exact SeqAt.EqAt.int_bool a t' b
    | int b => obtain ⟨t, rfl⟩ := rx; exact SeqAt.EqAt.int_int a t' b t
    | str b => obtain ⟨t, rfl⟩ := rx; exact SeqAt.EqAt.int_str a t' b t
    | _ => exact absurd (show false = true from fx) Bool.false_ne_true
  | str a =>
    obtain ⟨t', rfl⟩ := ry
    cases x with
    | non => cases rx; exact SeqAt.EqAt.str_none a t'
    | bl b => cases rx; exact SeqAt.EqAt.str_bool a t' b
    | int b => obtain ⟨t, rfl⟩ := rx; exact SeqAt.EqAt.str_int a t' b t
    | str b => obtain ⟨t, rfl⟩ := rx; exact SeqAt.EqAt.str_str a t' b t
    | _ => exact absurd (show false = true from fx) Bool.false_ne_true
  | _ => exact absurd (show false = true from fy) Bool.false_ne_true
theorem call_len_seq : CallR X (.builtin "len") (fun xs H Q => ∃ p ys, xs = [.ref p] ∧ (SqL X.K H p ys ∨ SqT X.K H p ys) ∧ Q (.int ys.length) H) := by
  intro pins s σ H xs us Q I r h
  obtain ⟨p, ys, rfl, hq, q⟩ := h
  obtain ⟨u, rfl, rx⟩ := vals1 r
  cases rx
  have hn := line63
  rcases hq with hq | hq
  · obtain ⟨its, r', pl, hz⟩ := I.list hq
    have hlen := r'.length
    exact Calls.call_len_list pl.isList (by simp only [List.size_toArray] <;> omega) ⟨.int ys.length, H, I.tok _, ⟨s.toks + 1, by rw [List.size_toArray, hlen]⟩, q⟩
  · obtain ⟨its, r', pl, hz⟩ := I.tuple hq
    have hlen := r'.length
    exact len_tuple pl (by simp only [List.size_toArray] <;> omega) ⟨.int ys.length, H, I.tok _, ⟨s.toks + 1, by rw [List.size_toArray, hlen]⟩, q⟩
theorem call_len_str : CallR X (.builtin "len") (fun xs H Q => ∃ z, xs = [.str z] ∧ z.length ≤ sizeLine ∧ Q (.int z.length) H) := by
  intro pins s σ H xs us Q I r h
  obtain ⟨z, rfl, hz, q⟩ := h
  obtain ⟨u, rfl, t, rfl⟩ := vals1 r
  have hn := line63
  exact len_str (by omega) ⟨.int z.length, H, I.tok _, ⟨_, rfl⟩, q⟩
theorem call_list_of : CallR X (.type "list") (fun xs H Q => ∃ p ys, xs = [.ref p] ∧ (SqL X.K H p ys ∨ SqT X.K H p ys) ∧ ∀ l, H l = none → Q (.ref l) (upd H l (.lst ys))) := by
  intro pins s σ H xs us Q I r h
  obtain ⟨p, ys, rfl, hq, q⟩ := h
  obtain ⟨u, rfl, rx⟩ := vals1 r
  cases rx
  have fin : ∀ (its : List Value), Vals ys its → ys.length ≤ sizeLine → ∀ (h' : Heap) (c' : Nat), (∀ b o', s.heap.get? b = some o' → h'.get? b = some o') →
      h'.get? s.heap.objs.size = some { cls := .type "list", dict := none, data := .seq its.toArray c', slots := #[] } → EP X pins σ Q (.ref s.heap.objs.size) { s with heap := h' } := fun its r' hz h' c' kp e =>
    ⟨.ref s.heap.objs.size, _, I.laid (t' := s.toks) kp (Nat.le_refl _) (show ObjOk X.prog X.w _ h' _ (.lst ys) from ⟨hz, its, c', r', e⟩), rfl, q _ (I.hok.fresh (Nat.le_refl _))⟩
  rcases hq with hq | hq
  · obtain ⟨its, r', pl, hz⟩ := I.list hq
    have hlen := r'.length
    obtain ⟨o, ho, hc, n, hd⟩ := pl.isList
    exact call_list_seq p (.inl rfl) ho hc hd (fun h' c' kp e => fin its r' hz h' c' kp e) (by simp only [List.size_toArray] <;> omega)
  · obtain ⟨its, r', pl, hz⟩ := I.tuple hq
    have hlen := r'.length
    obtain ⟨o, ho, hc, n, hd⟩ := pl
    exact call_list_seq p (.inr rfl) ho hc hd (fun h' c' kp e => fin its r' hz h' c' kp e) (by simp only [List.size_toArray] <;> omega)
def tyV (K : PySem.W.Frag) (T : String) (x : V) (H : Hp) : Prop := match x with
  | .str _ => T = "str"
  | .int _ => T = "int"
  | .ref p => (T = "list" ∧ ∃ xs, SqL K H p xs) ∨ (T = "tuple" ∧ ∃ o, K.lookup p = some o ∧ o.cls = .type "tuple" ∧ o.dict = none) ∨
      (T = "dict" ∧ ((∃ kvs, H p = some (.dK kvs)) ∨ ∃ kvs, H p = some (.dT kvs))) ∨ (T = "set" ∧ ∃ S n, H p = some (.set S n))
  | _ => False
theorem tyV_is {pins : List (Addr × Obj)} {σ : St} {H : Hp} {s : Shared} {T : String} {x : V} {v : Value} (I : Inv X pins σ H s) (r : RelV x v) (ty : tyV X.K T x H) :
    s.TypeIs v T ∧ ∀ a, v = .ref a → ∃ ob, s.heap.get? a = some ob ∧ ob.dict = none := by
  cases x with
  | str z =>
    obtain ⟨t, rfl⟩ := r
    cases (show T = "str" from ty)
    exact ⟨typeIs_str s z t, fun _ e => nomatch e⟩
  | int i =>
    obtain ⟨t, rfl⟩ := r
    cases (show T = "int" from ty)
    exact ⟨typeIs_int s i t, fun _ e => nomatch e⟩
  | ref p =>
    cases r
    rcases ty with ⟨rfl, xs, hq⟩ | ⟨rfl, o, hk, hc, hd⟩ | ⟨rfl, hk⟩ | ⟨rfl, S, n, hk⟩
    · obtain ⟨its, _, pl, _⟩ := I.list hq
      refine ⟨pl.isList.typeIs, fun a e => ?_⟩
      cases e
      obtain ⟨o, n, e, c, hd, _⟩ := pl
      exact ⟨o, e, hd⟩
    · refine ⟨⟨o, I.kIn p o hk, hc⟩, fun a e => ?_⟩
      cases e
      exact ⟨o, I.kIn _ o hk, hd⟩
    · have z : ∃ o, s.heap.get? p = some o ∧ o.ExactDict := by
        rcases hk with ⟨kvs, hk⟩ | ⟨kvs, hk⟩
        · obtain ⟨_, _, _, _, o, _, _, e, ex, _⟩ := I.hok p _ hk
          exact ⟨o, e, ex⟩
        · obtain ⟨_, _, _, _, o, _, _, e, ex, _⟩ := I.hok p _ hk
          exact ⟨o, e, ex⟩
      obtain ⟨o, e, ex⟩ := z
      refine ⟨⟨o, e, ex.1⟩, fun a e2 => ?_⟩
      cases e2
      exact ⟨o, e, ex.2.1⟩
    · obtain ⟨o, _, _, _, e, ex, _⟩ := I.hok p _ hk
      refine ⟨⟨o, e, ex.1⟩, fun a e2 => ?_⟩
      cases e2
      exact ⟨o, e, ex.2.1⟩
  | _ => exact False.elim ty
def tBM (K : PySem.W.Frag) (T : String) (r : V → List V → Hp → VK → Prop) (to : TE) (t : TA) : TE := fun σ H Q => to σ H fun x H1 => tyV K T x H1 ∧ t σ H1 fun xs H2 => r x xs H2 Q
variable {o e : Expr} {es : List Expr} {to : TE} {t : TA} {name : Str} {apos cpos : Pos} {T id : String} {r : V → List V → Hp → VK → Prop}
theorem pe_bm (pa : PlainAttrs T) (slot : Slot T name id) (hty : typeOf (.builtin id) = pure (.type "method_descriptor")) (hm : MtR X id r) (ho : PE X o to) (ha : PA X (e :: es) t)
    (hbase : attributeBase o name X.env (eval o X.env) = eval o X.env := by rfl)
    (hfew : ((backTo cpos (starEach (e :: es) X.env)).all (fun x => !x.1) && (backToKw cpos (keywordEach [] X.env)).all (fun x => x.1.isSome)
      && decide ((e :: es).length + ([] : List Keyword).length + (if ([] : List Keyword).isEmpty then 0 else 1) < 30)) = true := by rfl)
    (hline : (apos.endLine == cpos.line) = true := by rfl) (hs : starEach (e :: es) X.env = (false, eval e X.env) :: starEach es X.env := by rfl) (hplain : (backTo cpos (starEach es X.env)).any (·.1) = false := by rfl) :
    PE X (.Call (.Attribute o name apos) (e :: es) [] cpos) (tBM X.K T r to t) := by
  intro pins s σ H Q I h
  refine wpAny_Call_method_late hbase hfew hline rfl (thn (ho pins s σ H _ I h) fun v s1 ⟨x, H1, I1, r1, ty, q1⟩ => ?_)
  obtain ⟨h1, h2⟩ := tyV_is I1 r1 ty
  refine ⟨T, id, pa, slot, hty, h1, h2, ?_⟩
  have hA := ha cpos pins s1 σ H1 _ I1 q1
  rw [hs] at hA ⊢
  refine Calls.callWith_builtin (by show (false || (backTo cpos (starEach es X.env)).any (·.1)) = false; rw [hplain] <;> rfl) (Calls.evalArgs_plain ?_)
  exact thn hA fun us s2 ⟨vs, H2, I2, r2, q2⟩ => hm pins s2 σ H2 x vs v us Q I2 r1 r2 q2
/- xs.append(e), list.index on a module's tuple .. are MtR facts of 06m -/
end
end L2

namespace L2
open PySem PySem.Spec PyProof.Rows

def MtM (X : Cx) (id : String) (r : V → List V → Hp → VK → Prop) : Prop :=
  ∀ (pins : List (Addr × Obj)) (s : Shared) (σ : St) (H : Hp) (x : V) (xs : List V) (v : Value) (us : List Value) (Q : VK), Inv X pins σ H s → RelV x v → Vals xs us → r x xs H Q →
    wpAny (model X.prog X.w) X.A (call (.builtin id) (v :: us)) (EP X pins σ Q) X.xe s

theorem Vals.one : ∀ {x : V} {us : List Value}, Vals [x] us → ∃ u, us = [u] ∧ RelV x u
  | _, _, .cons r .nil => ⟨_, rfl, r⟩
theorem Vals.two : ∀ {x y : V} {us : List Value}, Vals [x, y] us → ∃ u v, us = [u, v] ∧ RelV x u ∧ RelV y v
  | _, _, _, .cons r (.cons q .nil) => ⟨_, _, rfl, r, q⟩
section
variable {X : Cx} {pins : List (Addr × Obj)} {σ : St} {H : Hp} {s : Shared} {l b : Addr} {xs ys zs : List V}

theorem Inv.lset {its its' : List Value} {n : Nat} {f : Array Value → Array Value} {t' : Nat} (I : Inv X pins σ H s) (hH : H l = some (.lst xs))
    (e : s.heap.get? l = some { cls := .type "list", data := .seq its.toArray n }) (hf : f its.toArray = its'.toArray) (hv : Vals ys its') (hz : ys.length ≤ sizeLine) :
    Inv X pins σ (upd H l (.lst ys)) { s with heap := s.heap.update l (Obj.mapSeq f), toks := t' } := by
  have q := PySem.IsL.update e f
  rw [hf] at q
  refine I.write (x := l) (e := l) (by rw [hH]; exact trivial) (.inl rfl) (fun b' u hb hu => (Heap.get?_update_other s.heap (Obj.mapSeq f) (Ne.symm hb)).trans hu) ⟨_, q⟩ ?_
  exact ⟨hz, its', _, hv, q⟩
theorem Inv.lnew {its : List Value} {t' : Nat} (I : Inv X pins σ H s) (hv : Vals ys its) (hz : ys.length ≤ sizeLine) :
    Inv X pins σ (upd H s.heap.objs.size (.lst ys)) { s with heap := s.heap.push { cls := .type "list", data := .seq its.toArray }, toks := t' } :=
  I.laid (fun _ _ q => Heap.get?_push_of_some _ q) (Nat.le_refl _) ⟨hz, its, 0, hv, Heap.get?_push_size _ rfl⟩
theorem Inv.fresh (I : Inv X pins σ H s) : H s.heap.objs.size = none := I.hok.fresh (Nat.le_refl _)
theorem Inv.lstM (I : Inv X pins σ H s) (hH : H l = some (.lst xs)) : xs.length ≤ sizeLine ∧ ∃ (its : List Value) (n : Nat), Vals xs its ∧ xs.length = its.length ∧ s.heap.get? l = some { cls := .type "list", data := .seq its.toArray n } := by
  obtain ⟨z, its, n, r, e⟩ := I.hok l _ hH
  exact ⟨z, its, n, r, r.length, e⟩

end

section
variable {X : Cx}

def rAppend : V → List V → Hp → VK → Prop := fun x vs H Q => ∃ l xs y, x = .ref l ∧ vs = [y] ∧ H l = some (.lst xs) ∧ xs.length < sizeLine ∧ Q .non (upd H l (.lst (xs ++ [y])))
theorem mt_append : MtM X "list.append" rAppend := by
  intro pins s σ H x vs v us Q I rx rv h
  obtain ⟨l, xs, y, rfl, rfl, hH, hz, q⟩ := h
  cases rx
  obtain ⟨u, rfl, ru⟩ := rv.one
  obtain ⟨z, its, n, r, hl, e⟩ := I.lstM hH
  refine call_meets F.slot_list_append ⟨_, e, rfl⟩ F.entry_list_append (F.args_list_append_2 _ _) (PySem.list_append l its.toArray n u (by rw [List.size_toArray]; omega)) ⟨e, ?_⟩
  refine ⟨.non, _, I.lset (its' := its ++ [u]) hH e (by simp) (r.append (.cons ru .nil)) ?_, rfl, q⟩
  rw [List.length_append, List.length_singleton]
  omega

def rCat : R2 := fun x y H Q => ∃ l b xs zs, x = .ref l ∧ y = .ref b ∧ H l = some (.lst xs) ∧ H b = some (.lst zs) ∧ xs.length + zs.length ≤ sizeLine ∧ ∀ p, H p = none → Q (.ref p) (upd H p (.lst (xs ++ zs)))
theorem op_cat : OpR X (binaryOp .Add) rCat := by
  intro pins s σ H x y v u Q I rx ry h
  obtain ⟨l, b, xs, zs, rfl, rfl, hH, hB, hz, q⟩ := h
  cases rx
  cases ry
  obtain ⟨z, its, n, r, hl, e⟩ := I.lstM hH
  obtain ⟨z2, its2, n2, r2, hl2, e2⟩ := I.lstM hB
  refine PySem.P.add_list e e2 ?_ (by rw [List.size_toArray, List.size_toArray]; omega)
  have ea : its.toArray ++ its2.toArray = (its ++ its2).toArray := by simp
  rw [ea]
  exact ⟨.ref _, _, I.lnew (t' := s.toks) (r.append r2) (by rw [List.length_append]; omega), rfl, q _ I.fresh⟩
end


end L2

namespace Att
open PySem PySem.W PySem.Calls PyProof.Rows

theorem ints_of_wellAll {P : Params} {h : Heap} : ∀ (ns : List Int) (vs : List Value), WellAll P h vs (ns.map WData.int) → IntsAre vs ns := by
  intro ns
  induction ns with
  | nil =>
    intro vs w
    rw [List.map_nil] at w
    cases w
    exact .nil
  | cons n ns ih =>
    intro vs w
    rw [List.map_cons] at w
    cases w with
    | cons a b =>
      cases a
      exact .cons _ _ (ih _ b)

theorem script_of {l : OpenLaw} {n : Nat} (hn : l.most = some n) {P : Params} {h : Heap} {args : List WData} {vals : List Value}
    (hpre : l.row.toRowW.claim.pre args = true) (hwl : WellAll P h vals args) :
    ∃ a vs ns, vals = [Value.ref a] ∧ args = [WData.list (ns.map WData.int)] ∧ h.get? a = some { cls := .type "list", data := .seq vs.toArray } ∧ IntsAre vs ns ∧ ns.length ≤ n := by
  have hsh : WShape.hasAll [] args [.list .int] = true := (pre_splitW hpre).1
  have hc : l.pre.holds [] { args := args } = true := (pre_splitW hpre).2
  obtain ⟨d, r, rfl, h1, h2⟩ := hasAllW_cons hsh
  obtain rfl := hasAllW_nil h2
  obtain ⟨xs, rfl, h3⟩ := hasW_list h1
  obtain ⟨ns, rfl⟩ := items_int h3
  have hlen : ns.length ≤ n := by
    unfold OpenLaw.pre at hc
    have h4 : (WTm.not (.lt (.lit (.int (n : Int))) (.len (.arg 0)))).holds [] { args := [.list (ns.map .int)] } = true := by
      have h4 := (holds_andW hc).1
      rw [hn] at h4
      exact h4
    have h5 := condW_of h4 (w_not (w_lt w_lit (w_len_list (w_arg rfl))))
    rw [List.length_map] at h5
    refine Nat.le_of_not_lt fun q => ?_
    have q' : (n : Int) < ((ns.length : Nat) : Int) := by omega
    first
      | (rw [decide_eq_true q'] at h5; exact absurd h5 (by decide))
      | (simp at h5; omega)
  cases hwl with
  | cons w1 w2 =>
    cases w2
    cases w1 with
    | list ho hall => exact ⟨_, _, ns, rfl, rfl, ho, ints_of_wellAll ns _ hall, hlen⟩

theorem post_true (l : OpenLaw) (args : List WData) : l.row.toRowW.claim.post args (.bool true) args = true :=
  postW_of (r := l.row.toRowW) (X := (true == true))
    (show WShape.has [] (.bool true) .bool = true by first | rfl | decide | simp [WShape.has, WShape.arms, WShape.armsAll])
    (show (WTm.eq .res (.lit (.bool true))).value [] { args := args, res := some (.bool true), after := args } = some (.bool (true == true)) from w_eq_bool (w_res rfl) w_lit) rfl

theorem attach_call {l : OpenLaw} {n : Nat} {q : Program} {loose : List Str} {XP : (Str → Option Value) → Heap → Prop} {YP : World → Heap → Prop} {d : DefRec}
    (hn : l.most = some n) (hdf : d.params.defaults = [])
    (call : ∀ (w : World) (s₀ s₁ : Shared) (mg mb : Str → Option Value) (fa : Addr) (o : Obj) (pm cd doc : Value) (a : Addr) (vs : List Value) (ns : List Int),
      Ground q loose [] XP w s₀ mg mb s₁.heap → YP w s₁.heap →
      s₁.heap.get? fa = some o → o.data = .func (docDef d.name d.params d.body d.scope pm cd doc) → s₁.heap.CodeRec cd d.name → mg d.name = some (.ref fa) →
      s₁.heap.get? a = some { cls := .type "list", data := .seq vs.toArray } → IntsAre vs ns → ns.length ≤ n → s₁.gens = #[] →
      codeAny (model l.prog w) callerA (.call (.ref fa) ⟨[.ref a], []⟩) (fun r s' => r = .ok (.ret (.bool true)) ∧ OldK s₁.heap s'.heap ∧ s'.os = s₁.os ∧ AllBare s'.gens) s₁) :
    WalkO q loose XP YP l.row.toRowW d [] (fun f vs => PySem.call f vs) := by
  intro w s₀ s₁ mg mb G Y fa o pm cd doc dV kV ho hd hcd hD hmg hg args vals as hpre hlay hrd hwl hlo
  obtain rfl : dV = .none := Dflts.none hD hdf
  obtain rfl : kV = .none := Dflts.noKw hD
  obtain ⟨a, vs, ns, rfl, rfl, hobj, hints, hlen⟩ := script_of hn hpre hwl
  refine enter_call (codeAny_mono (call w s₀ s₁ mg mb fa o pm cd doc a vs ns G Y ho (fd_plain hd) hcd hmg hobj hints hlen hg) fun r s' hq => ?_)
  obtain ⟨rfl, h2, h3, h4⟩ := hq
  exact ⟨.inl ⟨.bool true, .bool true, [], rfl, fun _ => rfl, .bool true, post_true l _, fun _ => ⟨List.Pairwise.nil, fun _ hm => (nomatch hm)⟩⟩, h2, h3, h4⟩

end Att

namespace L2
open PySem PySem.Spec PyProof.Rows

theorem vals_ints : ∀ {vs : List Value} {ns : List Int}, IntsAre vs ns → Vals (ns.map V.int) vs
  | _, _, .nil => .nil
  | _, _, .cons n t h => .cons ⟨t, rfl⟩ (vals_ints h)

def Only (H : Hp) : Prop := ∀ b, H b = none ∨ ∃ o xs, H b = some (.frz o (.lst xs))

theorem law_call {P : Program} {w : World} {K : PySem.W.Frag} {mg mb : Str → Option Value} {CX : CXT} {k : Nat} {fa a : Addr} {fd : FuncData} {x : Str} {sp : Sp} {s₁ : Shared} {vs : List Value} {ns : List Int}
    (KX : K.In s₁.heap) (hns : s₁.heap.Ns mainGlobals mg) (hb : s₁.heap.Ns builtinsNs mb) (hbb : ∀ x : Str, x ≠ "__name__" → mb x = bootBuiltins x) (hlim : s₁.heap.NoLimit) (hg : s₁.gens = #[])
    (ha : s₁.heap.get? a = some { cls := .type "list", data := .seq vs.toArray }) (hi : IntsAre vs ns) (hl : ns.length ≤ sizeLine) (hr : Room k callerA)
    (F : ∀ base : Heap, K.In base → base.Ns mainGlobals mg → FnOk P w K mg base CX k fa fd [x] sp) (hbind : ∀ (s : Shared) (u : Value), BindsTo s fd ⟨[u], []⟩ [(x, u)])
    (hsp : ∀ H : Hp, Only H → SqL K H a (ns.map V.int) → sp [.ref a] H (fun v _ => v = .bl true) fun _ _ _ => False)
    (hCX : ∀ H e s', CX [] H s₁ (fun _ _ _ => False) e s' → False) :
    codeAny (model P w) callerA (.call (.ref fa) ⟨[.ref a], []⟩) (fun r s' => r = .ok (.ret (.bool true)) ∧ OldK s₁.heap s'.heap ∧ s'.os = s₁.os ∧ AllBare s'.gens) s₁ := by
  have rv := vals_ints hi
  have lenV := hi.length
  have core : ∀ H : Hp, Only H → SqL K H a (ns.map V.int) → HOk P w H s₁.heap → (∀ b, H b ≠ none → b = a) → (H a ≠ none → K.lookup a = none) →
      codeAny (model P w) callerA (.call (.ref fa) ⟨[.ref a], []⟩) (fun r s' => r = .ok (.ret (.bool true)) ∧ OldK s₁.heap s'.heap ∧ s'.os = s₁.os ∧ AllBare s'.gens) s₁ := by
    intro H hO hS hok hA hK
    have base_of : ∀ {b : Addr} {o : Obj}, s₁.heap.get? b = some o → H b = none → (hidT s₁.heap H).get? b = some o := fun e n => hidT_get e n
    have noA : ∀ {b : Addr} {o : Obj} {es : Array DictEntry} {ep : Nat}, s₁.heap.get? b = some o → o.data = .dict es ep → H b = none := fun {b o es ep} e d => by
      cases q : H b with
      | none => rfl
      | some u =>
        have e' : b = a := hA b (by rw [q]; simp)
        subst e'
        rw [ha] at e; cases e
        have d' : Data.seq vs.toArray _ = Data.dict es ep := d
        cases d'
    have nsK : ∀ {b : Addr} {m : Str → Option Value}, s₁.heap.Ns b m → (hidT s₁.heap H).Ns b m := fun {b m} ⟨o, es, ep, e, d, r⟩ => ⟨o, es, ep, base_of e (noA e d), d, r⟩
    have hKb : K.In (hidT s₁.heap H) := fun b o e => base_of (KX b o e) (by
      cases q : H b with
      | none => rfl
      | some u =>
        have e' : b = a := hA b (by rw [q]; simp)
        subst e'
        rw [hK (by rw [q]; simp)] at e; cases e)
    have hM : Mod K mg (hidT s₁.heap H) := ⟨hKb, nsK hns, ⟨mb, nsK hb, hbb⟩, let ⟨mc, h1, h2⟩ := hlim; ⟨mc, nsK h1, h2⟩⟩
    have e0 : Env0 P w K mg (hidT s₁.heap H) callerA [] s₁ H := ⟨rfl, hM, fun b o e => of_hidT e, Nat.le_of_eq (hidT_size _ _), trivial, fun b hb => absurd (show b ∈ ([] : List Addr) from hb) (by simp), hok, .of_eq hg⟩
    refine codeAny_mono ((F _ hKb (nsK hns)).run callerA [] s₁ H ⟨[.ref a], []⟩ [.ref a] [.ref a] _ _ hr e0 (hbind s₁ (.ref a)) (.cons rfl .nil) (hsp H hO hS)) fun r s' h => ?_
    cases r with
    | error e => exact (hCX H e s' h).elim
    | ok fl =>
      cases fl with
      | next => exact False.elim h
      | brk => exact False.elim h
      | cont => exact False.elim h
      | ret u =>
        obtain ⟨v, H', os, bare, un, hok', r', q⟩ := h
        have q' : v = .bl true := q
        subst q'
        obtain rfl : u = Value.bool true := r'
        refine ⟨rfl, OldK.of_keep fun b o e => ?_, os, bare⟩
        cases q : H b with
        | none => exact un.keep b o e q (by intro z; exact absurd (show b ∈ ([] : List Addr) from z) (by simp)) (by simp)
        | some u =>
          rcases hO b with z | ⟨ob, xs, z⟩
          · rw [q] at z; cases z
          · have z2 := un.frzs b ob _ z
            obtain ⟨e1, _⟩ := hok b _ z
            obtain ⟨e2, _⟩ := hok' b _ z2
            rw [e] at e1; cases e1
            exact e2
  cases hk : K.lookup a with
  | some o =>
    have e := KX a o hk
    rw [ha] at e
    cases e
    refine core (fun _ => none) (fun _ => .inl rfl) (.inr ⟨_, vs.toArray, _, hk, rfl, rfl, rfl, by rw [List.size_toArray, lenV]; exact hl, by simpa using rv⟩) (fun b u z => by have z' : (none : Option HO) = some u := z; cases z') (fun b z => absurd rfl z) fun z => absurd rfl z
  | none =>
    refine core (fun b => if b = a then some (.frz { cls := .type "list", data := .seq vs.toArray } (.lst (ns.map V.int))) else none) (fun b => ?_) (.inl (.inr ⟨{ cls := .type "list", data := .seq vs.toArray }, if_pos rfl⟩)) (fun b u z => ?_) (fun b z => ?_) fun _ => hk
    · by_cases hb : b = a
      · exact .inr ⟨_, _, if_pos hb⟩
      · exact .inl (if_neg hb)
    · by_cases hb : b = a
      · have z' := (if_pos hb).symm.trans z
        cases z'
        subst hb
        exact ⟨ha, by rw [List.length_map]; exact hl, vs, _, rv, ha⟩
      · have z' := (if_neg hb).symm.trans z
        cases z'
    · by_cases hb : b = a
      · exact hb
      · exact absurd (if_neg hb) z
end L2

namespace L2
open PySem PySem.Spec PyProof.Rows

theorem walk_of {l : PySem.W.OpenLaw} {n k : Nat} {q : Program} {loose : List Str} {XP : (Str → Option Value) → Heap → Prop} {YP : World → Heap → Prop} {d : DefRec} {K : Params → PySem.W.Frag} {CX : World → CXT} {sp : World → Sp} {x : Str}
    (hn : l.most = some n) (hn2 : n ≤ sizeLine) (hdf : d.params.defaults = []) (hr : Room k callerA)
    (hY : ∀ (w : World) (h : Heap), YP w h → (K w.params).In h)
    (F : ∀ (w : World) (mg : Str → Option Value) (fa : Addr) (h : Heap), (K w.params).In h → h.Ns mainGlobals mg → mg d.name = some (.ref fa) →
      ∃ fd : FuncData, (∀ (s : Shared) (u : Value), BindsTo s fd ⟨[u], []⟩ [(x, u)]) ∧
        ∀ base : Heap, (K w.params).In base → base.Ns mainGlobals mg → FnOk l.prog w (K w.params) mg base (CX w) k fa fd [x] (sp w))
    (hsp : ∀ (w : World) (H : Hp) (a : Addr) (ns : List Int), ns.length ≤ n → Only H → SqL (K w.params) H a (ns.map V.int) → sp w [.ref a] H (fun v _ => v = .bl true) fun _ _ _ => False)
    (hCX : ∀ (w : World) (H : Hp) (s : Shared) (e : Value) (s' : Shared), CX w [] H s (fun _ _ _ => False) e s' → False) :
    PySem.W.WalkO q loose XP YP l.row.toRowW d [] (fun f vs => PySem.call f vs) := by
  refine Att.attach_call hn hdf fun w s₀ s₁ mg mb fa o pm cd doc a vs ns G Y ho hd hcd hmg hobj hints hlen hg => ?_
  have KX := hY w _ Y
  obtain ⟨fd, hb, hF⟩ := F w mg fa _ KX G.T.g hmg
  exact law_call KX G.T.g G.T.b G.T.builtins G.T.nolimit hg hobj hints (Nat.le_trans hlen hn2) hr hF hb (fun H hO hS => hsp w H a ns hlen hO hS) fun H e s' => hCX w H s₁ e s'
end L2

/- THE LAST THEOREM (shape; LID, My.* are yours):
   My.Adr: a structure of the addresses that your layer names (classes, functions); My.Txt K t: a structure (Prop) of the equations over K;
   My.txt_mk : {K} {implicit addresses ..} (e1 : nsIn K mainGlobals "law" = some (some (.ref f))) (e2 : K.lookup f = some ⟨oc, od, .func (fnOf "law" "law" params body scope dV kV doc pm an cdv ct), sl⟩) (e3 : codeIn K cdv "law" = true) .. : ∃ t, My.Txt K t

set_option maxRecDepth 100000 in
set_option maxHeartbeats 0 in
theorem PySem.Challenge.cw_LID_holds : PySem.Challenge.rw_LID.Holds := by
  w_on; o_law; k_head; (case hw => w_witness2)
  k_fill
  refine L2.walk_of (l := PySem.Challenge.rw_LID) (n := 63) (k := 40) (x := "script") (CX := fun w => ..) (sp := fun _ => My.sp_law) rfl (by decide) rfl ⟨rfl, by decide, by decide⟩ (fun w h Y => PySem.W.kIn_of Y) ?F ?S ?C
  case F =>
    intro w mg fa h KX G hmg
    have T : ∃ t, My.Txt (L2.KOf KX) t := by
      dsimp only [L2.KOf]                          -- K must stand as «<heap const> w.params» for k_is
      refine' My.txt_mk ?e1 ?e2 ?e3 ..
      (case e1 => PySem.W.k_is)                    -- in the order: a name -> its address -> its object -> its parts
      (case e2 => PySem.W.k_is)
      ..
    obtain ⟨t, T⟩ := T
    have e0 := hmg.symm.trans (PySem.W.mg_of KX G T.law)
    cases e0                                       -- fa is the law's own address
    exact ⟨_, fun s u => .of_eq rfl, fun base kb nb => My.law_fn T kb nb⟩     -- if «.of_eq rfl» comes too early: refine' ⟨_, ?b, fun base kb nb => My.law_fn T kb nb⟩; exact fun s u => .of_eq rfl
  case S => exact fun w H a ns hl hO hS => ..
  case C => exact ..
(the tactic k_is has no namespace: write k_is) -/

namespace L2
open PySem PySem.Spec PyProof.Rows

def defArgs (s : Stmt) : Arguments := match s with
  | .FunctionDef _ a _ _ _ _ _ _ _ _ => a
  | _ => { posonlyargs := [], args := [], vararg := none, kwonlyargs := [], kw_defaults := [], kwarg := none, defaults := [] }
def defBody (s : Stmt) : List Stmt := match s with
  | .FunctionDef _ _ b _ _ _ _ _ _ _ => b
  | _ => []
def defScope (s : Stmt) : Scope := match s with
  | .FunctionDef _ _ _ _ _ _ sc _ _ _ => sc
  | _ => { kind := .function, names := [], isGenerator := false, isCoroutine := false }

abbrev CX0 : CXT := fun _ _ _ _ _ _ => False
abbrev E0 : XK := fun _ _ _ => False
theorem pass0 {X : Cx} : Passes CX0 X E0 := fun _ _ _ _ _ _ _ h => h.elim

structure Fun (K : PySem.W.Frag) (x qual : Str) (st : Stmt) (f : Addr) (fd : FuncData) : Prop where
  ex : ∃ (oc : Value) (od : Option Addr) (kV doc pm : Value) (an : Option Addr) (cdv ct : Value) (osl : Array (Option Value)),
    fd = PySem.W.fnOf x qual (defArgs st) (defBody st) (defScope st) .none kV doc pm an cdv ct ∧ K.lookup f = some ⟨oc, od, .func fd, osl⟩ ∧ PySem.W.codeIn K cdv qual = true
  kp : PySem.W.keepIn K (.ref f) = true
section
variable {P : Program} {w : World} {K : PySem.W.Frag} {mg : Str → Option Value} {base : Heap}
theorem Fun.ok {x qual : Str} {st : Stmt} {f : Addr} {fd : FuncData} {N ps : List Str} {k : Nat} {sp : Sp} (F : Fun K x qual st f fd) (S : FnScope N ps (defScope st)) (len : ∀ vs H Q E, sp vs H Q E → vs.length = ps.length)
    (hbody : ∀ (cdv : Value) (A : Around) (outer : List Env) (s : Shared) (H : Hp) (vs : List V) (Q : VK) (E : XK), Room k (A.deeper (envOfC qual (defScope st) s.heap.objs.size f cdv)) → sp vs H Q E →
      ∃ t, PSs (cxOf CX0 P w K mg base N qual (defScope st) f cdv A outer s H E).nox (defBody st) t ∧ t { nx := fun _ H' => Q .non H', rt := Q } (start N vs) H) : FnOk P w K mg base CX0 (k + 1) f fd ps sp := by
  obtain ⟨oc, od, kV, doc, pm, an, cdv, ct, osl, rfl, lk, hcd⟩ := F.ex
  refine fn_of lk hcd S len fun A outer s H vs Q E hr hsp => ?_
  obtain ⟨t, h, q⟩ := hbody cdv A outer s H vs Q E hr hsp
  exact ⟨t, h.nox, q⟩
theorem Fun.binds {x qual : Str} {st : Stmt} {f : Addr} {fd : FuncData} {ps : List Str} (F : Fun K x qual st f fd)
    (h : ∀ (kV doc pm : Value) (an : Option Addr) (cdv ct : Value) (us : List Value), us.length = ps.length → bindArgs (PySem.W.fnOf x qual (defArgs st) (defBody st) (defScope st) .none kV doc pm an cdv ct) ⟨us, []⟩ = pure (ps.zip us)) : Binds K fd ps [] := by
  obtain ⟨oc, od, kV, doc, pm, an, cdv, ct, osl, rfl, lk, hcd⟩ := F.ex
  exact .all (h kV doc pm an cdv ct)
theorem fun_mk {x qual : Str} {st : Stmt} {f : Addr} {oc : Value} {od an : Option Addr} {osl : Array (Option Value)} {kV doc pm cdv ct : Value} (l : K.lookup f = some ⟨oc, od, .func (PySem.W.fnOf x qual (defArgs st) (defBody st) (defScope st) .none kV doc pm an cdv ct), osl⟩)
    (c : PySem.W.codeIn K cdv qual = true) (k : PySem.W.keepIn K (.ref f) = true) : Fun K x qual st f (PySem.W.fnOf x qual (defArgs st) (defBody st) (defScope st) .none kV doc pm an cdv ct) := ⟨⟨oc, od, kV, doc, pm, an, cdv, ct, osl, rfl, l, c⟩, k⟩
end
theorem hu_of {A : Around} {k : Nat} (hr : Room k A) : A.units + 1 < cLine := Nat.lt_of_le_of_lt (Nat.add_le_add_left (by decide : 1 ≤ 64) _) hr.units
theorem small1000 {n : Nat} (h : n ≤ 1000) : n < sizeLine := Nat.lt_of_le_of_lt h (by decide)

section
variable {X : Cx}
theorem pv (i : Nat) {x : Str} {pos : Pos} (hN : X.N[i]? = some x := by rfl) (hv : Vis X.env.scope x := by first | exact Or.inl rfl | exact Or.inr (Or.inl rfl) | exact Or.inr (Or.inr rfl)) (hd : (x == ("__debug__" : Str)) = false := by decide)
    (hcd : (x == ("__classdict__" : Str)) = false := by decide) : PE X (.Name x pos) (tVar i) := pe_var hN hv hd hcd
end

theorem iteF {A B : Prop} (h : B) : if false = true then A else B := by
  rw [if_neg Bool.false_ne_true]
  exact h
theorem iteT {A B : Prop} (h : A) : if true = true then A else B := by
  rw [if_pos rfl]
  exact h
theorem ite2 {c A B : Prop} [Decidable c] (h1 : c → A) (h2 : ¬ c → B) : if c then A else B := by
  by_cases h : c
  · rw [if_pos h]
    exact h1 h
  · rw [if_neg h]
    exact h2 h
theorem iteNS {c A B : Prop} [Decidable c] (hc : c) (h : B) : if (!decide c) = true then A else B := by
  rw [decide_eq_true hc]
  exact iteF h

def Same (H H' : Hp) : Prop := ∀ b o, H b = some o → H' b = some o
theorem Same.refl (H : Hp) : Same H H := fun _ _ h => h
theorem Same.trans {H H1 H2 : Hp} (a : Same H H1) (b : Same H1 H2) : Same H H2 := fun c o h => b c o (a c o h)
theorem Same.seq {K : PySem.W.Frag} {H H' : Hp} {a : Addr} {xs : List V} (e : Same H H') (h : SqL K H a xs) : SqL K H' a xs := by
  rcases h with (h | ⟨o, h⟩) | h
  · exact .inl (.inl (e _ _ h))
  · exact .inl (.inr ⟨o, e _ _ h⟩)
  · exact .inr h

end L2



namespace L2
open PySem PySem.Spec PyProof.Rows

theorem quietX {α : Type} {t : Sem α} {Q Q' : α → Shared → Prop} {M : Model} {A : Around} {E : Value → Shared → Prop} {s : Shared} (h : wpAny M A t Q (fun _ _ => False) s) (hQ : ∀ a s, Q a s → Q' a s) : wpAny M A t Q' E s :=
  wpAny_mono h hQ fun _ _ z => z.elim
def cxComp (X : Cx) (scope : Scope) (cl : List (Str × Addr)) (NC : List Str) (fp : List Addr) (C : Addr) (s₀ : Shared) (H₀ : Hp) : Cx where
  prog := X.prog
  w := X.w
  K := X.K
  mg := X.mg
  base := X.base
  A := X.A
  N := NC
  s₀ := s₀
  H₀ := H₀
  env := compEnvC scope cl C X.env
  outer := X.stack
  stack := X.stack
  ex := fp
  fn := fun _ => false
  calm := X.calm
  pn := []
  xe := fun _ _ => False
structure CompOk (X : Cx) (scope : Scope) (cl : List (Str × Addr)) (NC : List Str) (ini : List (Option Nat)) : Prop where
  clos : closureFor scope X.env = pure cl
  cell : ∀ y ∈ scope.names, y.2 ≠ .cell
  kind : scope.kind = .function
  names : ∀ y ∈ scope.names, y.2 = .local → scope.names.lookup y.1 = some .local
  cls : ∀ x c, cl.lookup x = some c → X.env.cells.lookup x = some c
  has : ∀ x, ((relabel scope X.env).names.lookup x = some .cell ∨ (relabel scope X.env).names.lookup x = some .free) → ∃ c, cl.lookup x = some c
  len : ini.length = NC.length
  src : ∀ (i j : Nat) (x : Str), ini[i]? = some (some j) → NC[i]? = some x → X.N[j]? = some x ∧ (X.env.kindOf x = some .cell ∨ X.env.kindOf x = some .free) ∧
    ((relabel scope X.env).names.lookup x = some .cell ∨ (relabel scope X.env).names.lookup x = some .free)
def iniSt (ini : List (Option Nat)) (σ : St) : St := ini.map fun o => o.bind fun j => (σ[j]?).join
section
variable {X : Cx} {scope : Scope} {cl : List (Str × Addr)} {NC : List Str} {ini : List (Option Nat)} {pins : List (Addr × Obj)} {σ : St} {H : Hp} {s : Shared} {fp : List Addr}
theorem inv_comp {h₁ : Heap} {tk : Nat} {m : Str → Option Value} (O : CompOk X scope cl NC ini) (I : Inv X pins σ H s) (hf : ∀ b ∈ fp, FpOk X pins H b) (ho : ∀ b ∈ fp, ∃ o, s.heap.get? b = some o)
    (hn : h₁.Ns s.heap.objs.size m) (hk : ∀ b o, s.heap.get? b = some o → h₁.get? b = some o) :
    Inv (cxComp X scope cl NC fp s.heap.objs.size s H) [] (iniSt ini σ) H { s with heap := h₁, toks := tk } := by
  have lt : ∀ b ∈ fp, b < s.heap.objs.size := fun b hb => let ⟨o, e⟩ := ho b hb; Heap.lt_size e
  refine ⟨⟨I.ok.mod, O.kind, I.ok.glob, I.ok.blt, Nat.le_refl _, fun x y c h1 h2 => I.ok.inj x y c (O.cls x c h1) (O.cls y c h2), O.has, fun x c h => (Bool.false_ne_true h).elim, I.ok.hd, I.ok.frames, .inl rfl,
      fun b hb => ⟨Nat.ne_of_lt (lt b hb), fun x c h => (hf b hb).2.2.2.2.1 x c (O.cls x c h)⟩, I.bs, Nat.le_trans I.ok.bsz I.sz, fun b o e hb => ?_, fun b hb hs => ?_, I.stack, I.stkFree⟩,
    rfl, I.bare, Un.kept hk, ⟨m, hn, fun i x v e1 e2 e3 => ?_⟩, fun x c h => ?_, I.hok.fresh (Nat.le_refl _), fun x c h => I.freeC x c (O.cls x c h), fun p hp => absurd (show p ∈ ([] : List (Addr × Obj)) from hp) (by simp), I.hok.kept hk, ?_⟩
  · rcases (hf b hb).2.2.2.1 with z | z
    · exact I.ok.noex b o e z
    · exact absurd (Nat.lt_of_lt_of_le (Heap.lt_size e) (Nat.le_trans I.ok.bsz z)) (Nat.lt_irrefl _)
  · rcases List.mem_cons.mp (I.stkSub b hs) with e | e
    · exact (hf b hb).2.1 e
    · exact (hf b hb).2.2.1 e
  · have e2 : (ini.map fun o => o.bind fun j => (σ[j]?).join)[i]? = some (some v) := e2
    rw [List.getElem?_map] at e2
    cases q : ini[i]? with
    | none => rw [q] at e2; cases e2
    | some oj =>
      rw [q] at e2
      cases oj with
      | none => cases e2
      | some j =>
        have e4 : (σ[j]?).join = some v := Option.some.inj e2
        have e5 : σ[j]? = some (some v) := by
          cases z : σ[j]? with
          | none => rw [z] at e4; cases e4
          | some y =>
            rw [z] at e4
            have e4 : y = some v := e4
            rw [e4]
        obtain ⟨a1, a2, a3⟩ := O.src i j x q e1
        obtain ⟨m0, hn0, hl⟩ := I.loc
        obtain ⟨u, r, l⟩ := hl j x v a1 e5 (.inr a2)
        refine ⟨u, r, ?_⟩
        rcases l with ⟨k, _⟩ | ⟨_, c, e, z⟩
        · rcases a2 with a2 | a2
          · rw [k] at a2; cases a2
          · rw [k] at a2; cases a2
        · obtain ⟨c', e'⟩ := O.has x a3
          have e6 := O.cls x c' e'
          rw [e] at e6
          cases e6
          obtain ⟨oc, h1, h2⟩ := z
          exact .inr ⟨a3, c, e', oc, hk _ _ h1, h2⟩
  · obtain ⟨v, oc, h1, h2⟩ := I.cell x c (O.cls x c h)
    exact ⟨v, oc, hk _ _ h1, h2⟩
  · show (ini.map _).length = NC.length
    rw [List.length_map]
    exact O.len
theorem comp_back {pinsC : List (Addr × Obj)} {σ' : St} {H' : Hp} {s' : Shared} {h' : Heap} (I : Inv X pins σ H s) (hf : ∀ b ∈ fp, FpOk X pins H b) (J : Inv (cxComp X scope cl NC fp s.heap.objs.size s H) pinsC σ' H' s')
    (hs : Heap.SameBut s.heap.objs.size s'.heap h') : Inv X pins σ H' { s' with heap := h' } := by
  have ne : ∀ {b : Addr} {o : Obj}, s.heap.get? b = some o → b ≠ s.heap.objs.size := fun e => Nat.ne_of_lt (Heap.lt_size e)
  have hfree : H' s.heap.objs.size = none := J.free
  have B : Un (frs X.stack) fp H H' s.heap s'.heap := J.base
  refine I.call' (s' := { s' with heap := h' }) (ch := fp) J.os ⟨fun b o q n hb hx => (hs.2 b (ne q)).trans (B.keep b o q n hb hx), fun b o q n hb hx => ?_, B.free, fun b o q hx => ?_, B.tups, B.frzs, B.tbls⟩ (fun b u e => ?_) J.bare
    fun b hb => ⟨(hf b hb).2.2.2.1, (hf b hb).2.1, (hf b hb).2.2.2.2.1, (hf b hb).2.2.2.2.2⟩
  · obtain ⟨sl, e⟩ := B.slot b o q n hb hx
    exact ⟨sl, (hs.2 b (ne q)).trans e⟩
  · obtain ⟨o', e⟩ := B.there b o q hx
    exact ⟨o', (hs.2 b (ne q)).trans e⟩
  · refine (J.hok b u e).stay (fun c v hc q => (hs.2 c ?_).trans q) (fun _ q => q) fun _ _ q => q
    rintro rfl
    rcases hc with hc | hc
    · rw [← hc, hfree] at e; cases e
    · rw [hfree] at hc; cases hc
end

def PTs (X : Cx) (ifs : List Expr) (t : TT) : Prop :=
  ∀ (pins : List (Addr × Obj)) (s : Shared) (σ : St) (H : Hp) (Q : Bool → Hp → Prop), Inv X pins σ H s → t σ H Q →
    wpAny (model X.prog X.w) X.A (forIn ifs true fun c r => if r = true then do let ok ← isTrue c X.env (eval c X.env); pure (ForInStep.yield ok) else pure (ForInStep.yield r)) (TP X pins σ Q) X.xe s
def tYes : TT := fun _ H Q => Q true H
theorem gYes {i : Nat} {v : V} {σ : St} {H : Hp} {A B : St → Hp → Prop} (h : A (σ.set i (some v)) H) : gName i v σ H (fun σ3 H3 => tYes σ3 H3 fun b H4 => if b = true then A σ3 H4 else B σ3 H4) := h
theorem pts_nil {X : Cx} : PTs X [] tYes := fun _ _ _ H _ I h => wpAny_tests_nil ⟨H, I, h⟩
def CompW (J : It) (g : TG) (tt : TT) (te : TE) (D : Addr) (Q : VK) (σ₀ : St) (H₀ : Hp) : Prop :=
  ∃ W : Nat → Nat → St → Hp → Prop, (∃ m, W 0 m σ₀ H₀) ∧ ∀ i m σ' H', W i m σ' H' →
    (J.stop i H' ∧ Q (.ref D) H') ∨ (J.go i H' ∧ ∃ N : St → Hp → Prop, (∀ σ2 H2, N σ2 H2 → ∃ m', m' < m ∧ W (i + 1) m' σ2 H2) ∧
      ∀ x H2, J.yld i H' x H2 → g x σ' H2 fun σ3 H3 => tt σ3 H3 fun b H4 => if b = true then te σ3 H4 fun v H5 => ∃ ys, H5 D = some (.lst ys) ∧ ys.length < sizeLine ∧ N σ3 (upd H5 D (.lst (ys ++ [v]))) else N σ3 H4)
def tComp (wi : TI) (g : TG) (tt : TT) (te : TE) (ini : List (Option Nat)) : TE := fun σ H Q => wi σ H fun J H1 => ∀ D, H1 D = none → CompW J g tt te D Q (iniSt ini σ) (upd H1 D (.lst []))
theorem pe_comp {X : Cx} {elt iter tg : Expr} {ifs : List Expr} {scope : Scope} {pos : Pos} {cl : List (Str × Addr)} {NC : List Str} {ini : List (Option Nat)} {wi : TI} {g : TG} {tt : TT} {te : TE}
    (hc : X.calm = true) (O : CompOk X scope cl NC ini) (hi : PI X tg iter wi)
    (hg : ∀ fp C s₀ H₀, PG (cxComp X scope cl NC fp C s₀ H₀) tg g) (ht : ∀ fp C s₀ H₀, PTs (cxComp X scope cl NC fp C s₀ H₀) ifs tt) (he : ∀ fp C s₀ H₀, PE (cxComp X scope cl NC fp C s₀ H₀) elt te)
    (hs : ∀ x, foldedSetIterable iter X.env x = pure x := by intro _; rfl) : PE X (.ListComp elt [⟨tg, iter, ifs, 0⟩] scope pos) (tComp wi g tt te ini) := by
  intro pins s σ H Q I h
  rw [eval_ListComp]
  refine wpAny_comprehension_free (use := none) rfl hs O.clos O.kind O.names (thn (hi pins s σ H _ I h) fun v s1 h1 => thn h1 fun itv s2 h2 => ?_)
  obtain ⟨it, fp, tn, J, H2, e, I2, T, st2, f2, h2⟩ := h2
  subst e
  have hD : H2 s2.heap.objs.size = none := I2.hok.fresh (Nat.le_refl _)
  obtain ⟨W, ⟨m0, w0⟩, turn⟩ := h2 _ hD
  refine wpAny_newObj_type (wpAny_newFunctionEnv O.cell (by intro y hy; simp at hy) (fun h₁ hns₁ hsb₁ => ?_) O.kind)
  dsimp only at hns₁ hsb₁ ⊢
  have I3 : Inv X pins σ (upd H2 s2.heap.objs.size (.lst [])) { s2 with heap := s2.heap.push { cls := .type "list", dict := none, data := .seq ([] : List Value).toArray } } := I2.lnew (its := []) (t' := s2.toks) .nil (by decide)
  have ob2 : ∀ b ∈ fp, ∃ o, s2.heap.get? b = some o := fun b hb => let ⟨o, e, _⟩ := T.obj 0 _ st2 b hb; ⟨o, e⟩
  have neD : ∀ b ∈ fp, b ≠ s2.heap.objs.size := fun b hb => let ⟨o, e⟩ := ob2 b hb; Nat.ne_of_lt (Heap.lt_size e)
  have f3 : ∀ b ∈ fp, FpOk X pins (upd H2 s2.heap.objs.size (.lst [])) b := fun b hb => ⟨by rw [upd_ne (neD b hb)]; exact (f2 b hb).1, (f2 b hb).2⟩
  generalize hs3 : ({ s2 with heap := s2.heap.push { cls := .type "list", dict := none, data := .seq ([] : List Value).toArray } } : Shared) = s3 at I3
  have hh3 : s2.heap.push { cls := .type "list", dict := none, data := .seq ([] : List Value).toArray } = s3.heap := by rw [← hs3]
  have ob3 : ∀ b ∈ fp, ∃ o, s3.heap.get? b = some o := fun b hb => let ⟨o, e⟩ := ob2 b hb; ⟨o, by rw [← hh3]; exact Heap.get?_push_of_some _ e⟩
  rw [hh3] at hns₁ hsb₁ ⊢
  have old : ∀ b o, s3.heap.get? b = some o → h₁.get? b = some o := fun b o e => hsb₁.extBut b o (Nat.ne_of_lt (Heap.lt_size e)) (Heap.get?_push_of_some _ e)
  have st1 : tn 0 h₁ := T.keep 0 _ _ st2 fun b hb o e => old b o (by rw [← hh3]; exact Heap.get?_push_of_some _ e)
  have IC : ∀ tk, Inv (cxComp X scope cl NC fp s3.heap.objs.size s3 (upd H2 s2.heap.objs.size (.lst []))) [] (iniSt ini σ) (upd H2 s2.heap.objs.size (.lst [])) { s3 with heap := h₁, toks := tk } := fun tk => inv_comp O I3 f3 ob3 hns₁ old
  have stat : ∀ {H' : Hp}, (∀ b ∈ fp, H' b = none) → ∀ b ∈ fp, FpOk (cxComp X scope cl NC fp s3.heap.objs.size s3 (upd H2 s2.heap.objs.size (.lst []))) [] H' b := fun {H'} hn b hb => by
    obtain ⟨o, e⟩ := ob3 b hb
    refine ⟨hn b hb, Nat.ne_of_lt (Heap.lt_size e), fun z => ?_, .inl hb, fun x c hx => (f3 b hb).2.2.2.2.1 x c (O.cls x c hx), fun p hp => absurd (show p ∈ ([] : List (Addr × Obj)) from hp) (by simp)⟩
    rcases List.mem_cons.mp (I3.stkSub b z) with q | q
    · exact (f3 b hb).2.1 q
    · exact (f3 b hb).2.2.1 q
  have loop : ∀ s₃ : Shared, s₃ = { s2 with heap := h₁, toks := s2.toks + ([] : List (Str × Value)).length } →
      codeAny (model X.prog X.w) X.A (.compLoop (.ListComp elt [⟨tg, iter, ifs, 0⟩] scope pos) 0 (.ref it) (.ref s2.heap.objs.size) (compEnvC scope cl s3.heap.objs.size X.env))
        (compPost (model X.prog X.w) X.A X.xe none (EP X pins σ Q) (.ref s2.heap.objs.size) s3.heap.objs.size) s₃ := by
    rintro s₃ rfl
    refine codeAny_loop rfl (fun n s' => ∃ i σ' H', Inv (cxComp X scope cl NC fp s3.heap.objs.size s3 (upd H2 s2.heap.objs.size (.lst []))) [] σ' H' s' ∧ tn i s'.heap ∧ (∀ b ∈ fp, H' b = none) ∧ W i n σ' H') (fun n s' hI => ?_) m0
      ⟨0, _, _, by have z := IC (s2.toks + ([] : List (Str × Value)).length); rw [← hs3] at z ⊢; exact z, st1, fun b hb => (f3 b hb).1, w0⟩
    show wpAny _ X.A ((compTurn (.ListComp elt [⟨tg, iter, ifs, 0⟩] scope pos) 0 (.ref it) (.ref s2.heap.objs.size) (compEnvC scope cl s3.heap.objs.size X.env)).onRaise (fun x => do noteFrame x (compEnvC scope cl s3.heap.objs.size X.env); theTreesLotGoes x)) _ _ s'
    refine wpAny_noted ?_
    rw [compTurn_list]
    obtain ⟨i, σ3, H3, I3', st3, fr3, w3⟩ := hI
    rcases turn i n σ3 H3 w3 with ⟨stop, qn⟩ | ⟨go, N, hN, step⟩
    · refine wpAny_bind (wpAny_standAt (wpAny_bind (thn (T.done (cxComp X scope cl NC fp s3.heap.objs.size s3 (upd H2 s2.heap.objs.size (.lst []))) rfl rfl rfl hc i [] s' σ3 H3 _ I3' (stat fr3) st3 stop) fun r s4 ⟨hr, I4⟩ => ?_)))
      subst hr
      obtain ⟨m', hn', _⟩ := I4.loc
      exact wpAny_pure ⟨m', hn', fun h' hs' => ⟨.ref s2.heap.objs.size, H3, comp_back I3 f3 I4 hs', rfl, qn⟩⟩
    · refine wpAny_bind (wpAny_standAt (wpAny_bind (thn (T.item (cxComp X scope cl NC fp s3.heap.objs.size s3 (upd H2 s2.heap.objs.size (.lst []))) rfl rfl rfl hc i [] s' σ3 H3 _ I3' (stat fr3) st3 go) fun r s4 ⟨u, hr, h4⟩ => ?_)))
      subst hr
      refine wpAny_bind (thn h4 fun _ s5 ⟨x, H5, I5, r5, y5, st5, fr5⟩ => ?_)
      have I5' := I5.pinned (stat fr5) (T.obj _ _ st5)
      refine wpAny_bind (quietX (hg fp _ s3 _ _ s5 σ3 H5 x u _ I5' r5 (step x H5 y5)) fun _ s6 ⟨σ6, H6, I6, q6⟩ => ?_)
      have again : ∀ {s7 : Shared} {H7 : Hp}, Inv (cxComp X scope cl NC fp s3.heap.objs.size s3 (upd H2 s2.heap.objs.size (.lst []))) ([] ++ pinsAt fp s5.heap) σ6 H7 s7 → N σ6 H7 →
          ∃ m, m < n ∧ ∃ i σ' H', Inv (cxComp X scope cl NC fp s3.heap.objs.size s3 (upd H2 s2.heap.objs.size (.lst []))) [] σ' H' s7 ∧ tn i s7.heap ∧ (∀ b ∈ fp, H' b = none) ∧ W i m σ' H' := fun {s7 H7} I7 n7 => by
        obtain ⟨m', hm, w7⟩ := hN σ6 H7 n7
        refine ⟨m', hm, i + 1, σ6, H7, I7.unpinned, T.keep _ _ _ st5 fun b hb o e => (I7.pin (b, o) (List.mem_append_right _ (List.mem_append_right _ (mem_pinsAt hb e)))).1, fun b hb => ?_, w7⟩
        obtain ⟨o, e, d⟩ := T.obj _ _ st5 b hb
        exact (I7.pin (b, o) (List.mem_append_right _ (List.mem_append_right _ (mem_pinsAt hb e)))).2.1
      refine wpAny_bind (quietX (ht fp _ s3 _ _ s6 σ6 H6 _ I6 q6) fun ok s7 ⟨H7, I7, q7⟩ => ?_)
      cases ok with
      | false => exact wpAny_pure ⟨rfl, again I7 q7⟩
      | true =>
        refine wpAny_bind (wpAny_bind (quietX (he fp _ s3 _ _ s7 σ6 H7 _ I7 q7) fun u8 s8 ⟨v8, H8, I8, r8, ys, hy, hz, n8⟩ => ?_))
        refine wpAny_bind (quietX (mt_append _ s8 σ6 H8 (.ref s2.heap.objs.size) [v8] (.ref s2.heap.objs.size) [u8] (fun _ H9 => N σ6 H9) I8 rfl (.cons r8 .nil) ⟨_, ys, v8, rfl, rfl, hy, hz, n8⟩) fun _ s9 ⟨_, H9, I9, _, n9⟩ => ?_)
        exact wpAny_pure (wpAny_pure ⟨rfl, again I9 n9⟩)
  exact codeAny_compStart_list (loop _ rfl) (T.self _ 0 _ _ _ st1 (loop _ rfl))

theorem comp_list {K : PySem.W.Frag} {a : Addr} {xs : List V} {g : TG} {tt : TT} {te : TE} {D : Addr} {Q : VK} {σ₀ : St} {H₀ : Hp} (Pv : Nat → St → Hp → Prop) (h0 : Pv 0 σ₀ H₀) (hl : ∀ i σ H, i ≤ xs.length → Pv i σ H → SqL K H a xs)
    (hs : ∀ i x σ H, xs[i]? = some x → Pv i σ H → g x σ H fun σ3 H3 => tt σ3 H3 fun b H4 => if b = true then te σ3 H4 fun v H5 => ∃ ys, H5 D = some (.lst ys) ∧ ys.length < sizeLine ∧ Pv (i + 1) σ3 (upd H5 D (.lst (ys ++ [v]))) else Pv (i + 1) σ3 H4)
    (hd : ∀ σ H, Pv xs.length σ H → Q (.ref D) H) : CompW (Itl K a) g tt te D Q σ₀ H₀ := by
  refine ⟨fun i m σ H => m = xs.length - i ∧ i ≤ xs.length ∧ Pv i σ H, ⟨xs.length, by simp, Nat.zero_le _, h0⟩, ?_⟩
  rintro i m σ H ⟨rfl, hi, p⟩
  have q := hl i σ H hi p
  by_cases hlt : i < xs.length
  · refine .inr ⟨⟨xs, xs[i], q, by simp [hlt]⟩, Pv (i + 1), fun σ' H' p' => ⟨xs.length - (i + 1), by omega, rfl, hlt, p'⟩, fun x H' y => ?_⟩
    obtain ⟨e, y⟩ := y
    subst e
    exact hs i x σ _ (y xs q) p
  · have e : i = xs.length := by omega
    subst e
    exact .inl ⟨⟨xs, q, Nat.le_refl _⟩, hd σ H p⟩
theorem compOk0 {X : Cx} {scope : Scope} {NC : List Str} (hkind : scope.kind = .function) (h : ∀ y ∈ scope.names, y.2 ≠ .cell ∧ y.2 ≠ .free) (hn : ∀ y ∈ scope.names, y.2 = .local → scope.names.lookup y.1 = some .local) :
    CompOk X scope [] NC (List.replicate NC.length none) where
  clos := closureFor_none fun x hx => (h x hx).2
  cell := fun y hy => (h y hy).1
  kind := hkind
  names := hn
  cls := fun x c e => by cases e
  has := fun x e => by
    exfalso
    have key : ∀ k, (relabel scope X.env).names.lookup x = some k → k = .cell ∨ k = .free → False := fun k e hk => by
      have hm := PySem.mem_of_lookup e
      obtain ⟨⟨n, k'⟩, hy, ey⟩ := List.mem_map.mp hm
      have h1 := h _ hy
      have hb : (k' == NameKind.free) = false := by simpa using h1.2
      simp only [hb, Bool.false_and, Bool.false_eq_true, if_false, Prod.mk.injEq] at ey
      obtain ⟨_, rfl⟩ := ey
      rcases hk with hk | hk
      · exact h1.1 hk
      · exact h1.2 hk
    rcases e with e | e
    · exact key _ e (.inl rfl)
    · exact key _ e (.inr rfl)
  len := by simp
  src := fun i j x e _ => by
    rw [List.getElem?_replicate] at e
    split at e <;> cases e

section
variable {X : Cx}
theorem call_isi : CallR X (.builtin "isinstance") (fun xs H Q => ∃ x n t b, xs = [x, .ty n] ∧ TyOf X.K H x t ∧ PySem.W.kitOne X.K t (.type n) = some b ∧ Q (.bl b) H) := by
  intro pins s σ H xs us Q I r h
  obtain ⟨x, n, t, b, rfl, ty, e, q⟩ := h
  obtain ⟨u, v, rfl, ru, rv⟩ := r.two
  cases rv
  exact isinst_ok I ru ty e fun tk => ⟨.bl b, H, I.tok tk, rfl, q⟩
theorem kit_int_int (K : PySem.W.Frag) : PySem.W.kitOne K (.type "int") (.type "int") = some true := by unfold PySem.W.kitOne; rw [if_pos (by decide +kernel)]
theorem kit_tup_tup (K : PySem.W.Frag) : PySem.W.kitOne K (.type "tuple") (.type "tuple") = some true := by unfold PySem.W.kitOne; rw [if_pos (by decide +kernel)]
theorem kit_lst_lst (K : PySem.W.Frag) : PySem.W.kitOne K (.type "list") (.type "list") = some true := by unfold PySem.W.kitOne; rw [if_pos (by decide +kernel)]
theorem kit_int_bool (K : PySem.W.Frag) : PySem.W.kitOne K (.type "int") (.type "bool") = some false := by
  unfold PySem.W.kitOne
  rw [if_neg (by decide +kernel)]
  show (if PySem.W.kitMeta "bool" = true then (fastBuiltinMro "int").map (·.contains (Value.type "bool")) else none) = some false
  decide +kernel
end

structure Fn (K : PySem.W.Frag) (mg : Str → Option Value) (x : Str) (st : Stmt) (ps : List Str) (f : Addr) (fd : FuncData) : Prop where
  fn : Fun K x x st f fd
  b : Binds K fd ps []
  g : mg x = some (.ref f)
theorem Fn.mk' {K : PySem.W.Frag} {mg : Str → Option Value} {x : Str} {st : Stmt} {ps : List Str} {f : Addr} {fd : FuncData} (F : Fun K x x st f fd)
    (h : ∀ (kV doc pm : Value) (an : Option Addr) (cdv ct : Value) (us : List Value), us.length = ps.length → bindArgs (PySem.W.fnOf x x (defArgs st) (defBody st) (defScope st) .none kV doc pm an cdv ct) ⟨us, []⟩ = pure (ps.zip us))
    (g : mg x = some (.ref f)) : Fn K mg x st ps f fd := ⟨F, F.binds h, g⟩
theorem pe_fn {X : Cx} {x : Str} {st : Stmt} {ps : List Str} {f : Addr} {fd : FuncData} {k : Nat} {sp : Sp} {e : Expr} {es : List Expr} {t : TA} {p pos : Pos} (G : FnOk X.prog X.w X.K X.mg X.base CX0 k f fd ps sp) (F : Fn X.K X.mg x st ps f fd) (hr : Room k X.A) (ha : PA X (e :: es) t)
    (hg : Gl X x := by rfl) (hdb : (x == ("__debug__" : Str)) = false := by decide) (he : starEach (e :: es) X.env = (false, eval e X.env) :: starEach es X.env := by rfl) (hpl : (backTo pos (starEach es X.env)).any (·.1) = false := by rfl) :
    PE X (.Call (.Name x p) (e :: es) [] pos) (tCall sp [] E0 t) := pe_call G hr hg F.g F.fn.kp F.b .nil pass0 ha hdb he hpl
def spLaw (K : PySem.W.Frag) : Sp := fun vs H Q _ => ∃ (a : Addr) (ns : List Int), vs = [.ref a] ∧ SqL K H a (ns.map V.int) ∧ ns.length ≤ 63 ∧ ∀ H', Q (.bl true) H'

theorem same_upd {H : Hp} {p : Addr} {o : HO} (h : H p = none) : Same H (upd H p o) := fun b u e => by rw [upd_ne (ne_of_none e h)]; exact e
theorem Same.upd {H H' : Hp} {p : Addr} {o : HO} (s : Same H H') (h : H p = none) : Same H (upd H' p o) := fun b u e => by rw [upd_ne (ne_of_none e h)]; exact s b u e
theorem bb_len : bootBuiltins "len" = some (.builtin "len") := by decide +kernel
theorem bb_isinstance : bootBuiltins "isinstance" = some (.builtin "isinstance") := by decide +kernel
theorem bb_int : bootBuiltins "int" = some (.type "int") := by decide +kernel
theorem bb_bool : bootBuiltins "bool" = some (.type "bool") := by decide +kernel
theorem bb_list : bootBuiltins "list" = some (.type "list") := by decide +kernel
theorem bb_tuple : bootBuiltins "tuple" = some (.type "tuple") := by decide +kernel
end L2



namespace L2
open PySem PySem.Spec PyProof.Rows

theorem ObjOk.obj {P : Program} {w : World} {H : Hp} {h : Heap} {a : Addr} : ∀ {o : HO}, ObjOk P w H h a o → ∃ u, h.get? a = some u := fun {o} x => by
  cases o with
  | lst xs => obtain ⟨_, _, _, _, e⟩ := x; exact ⟨_, e⟩
  | tup xs => obtain ⟨_, _, _, o, e, _⟩ := x; exact ⟨_, e⟩
  | dK kvs => obtain ⟨_, _, _, _, o, _, _, e, _⟩ := x; exact ⟨_, e⟩
  | dT kvs => obtain ⟨_, _, _, _, o, _, _, e, _⟩ := x; exact ⟨_, e⟩
  | set S n => obtain ⟨o, _, _, _, e, _⟩ := x; exact ⟨_, e⟩
  | ins C dx fs => obtain ⟨_, _, _, e, _⟩ := x; exact ⟨_, e⟩
  | own y => exact x
  | xd fs => obtain ⟨_, ⟨_, _, _, e, _⟩, _⟩ := x; exact ⟨_, e⟩
  | rng lo hi => obtain ⟨_, _, _, e⟩ := x; exact ⟨_, e⟩
  | frz ob u => obtain ⟨e, _⟩ := x; exact ⟨_, e⟩
  | tbl ps => exact ⟨_, (show h.get? a = some _ from x)⟩
  | met f y => exact ⟨_, (show h.get? a = some _ from x)⟩
  | ext φ => obtain ⟨_, e, _⟩ := x; exact e
def noFr (h : Heap) (l : List Env) : Heap := PySem.W.hideAll h (frs l)
theorem noFr_get {h : Heap} {l : List Env} {b : Addr} {o : Obj} (e : h.get? b = some o) (n : b ∉ frs l) : (noFr h l).get? b = some o := PySem.W.hideAll_get _ e n
theorem of_noFr {h : Heap} {l : List Env} {b : Addr} {o : Obj} (e : (noFr h l).get? b = some o) : h.get? b = some o := PySem.W.of_hideAll _ e
theorem noFr_frames {h base : Heap} {l : List Env} (x : h.FunFrames base l) : h.FunFrames (noFr h l) l := PySem.W.funFrames_hide x fun env he a hf => List.mem_filterMap.mpr ⟨env, he, hf⟩

def Sta (B : Heap) (l : List Env) (a : Addr) (cls : Value) (h : Heap) : Prop := ∃ a0,
  (B.StaysIn h ∧ B.get? a = none ∧ h.FunFrames B l ∧ ∃ oe vs, h.get? a = some oe ∧ oe.cls = cls ∧ oe.data = .fields vs ∧ vs[1]? = some .none ∧ vs[0]? = some a0) ∨
  Heap.FlyingW B l a cls a0 h ∨ ∃ L env outer, l = env :: outer ∧ env.frame = some L ∧ Heap.HeldW B l a cls a0 L h
theorem Sta.stays {B h : Heap} {l : List Env} {a : Addr} {cls : Value} (x : Sta B l a cls h) : B.StaysIn h := by
  obtain ⟨a0, x | x | ⟨_, _, _, _, _, x⟩⟩ := x
  · exact x.1
  · exact x.1
  · exact x.1
theorem Sta.frames {B h : Heap} {l : List Env} {a : Addr} {cls : Value} (x : Sta B l a cls h) : h.FunFrames B l := by
  obtain ⟨a0, x | x | ⟨_, _, _, _, _, x⟩⟩ := x
  · exact x.2.2.1
  · exact x.2.2.1
  · exact x.2.2.1
section
variable {M : Model} {A : Around} {E : Value → Shared → Prop} {s : Shared} {B : Heap} {env : Env} {outer : List Env} {L a : Addr} {cls : Value}
theorem sta_note {Q : Unit → Shared → Prop} (hfr : A.frames = some (env :: outer)) (hf : env.frame = some L) (x : Sta B (env :: outer) a cls s.heap)
    (hQ : ∀ h' a0, Heap.HeldW B (env :: outer) a cls a0 L h' → s.heap.UpToSlots h' → Q () { s with heap := h' }) : wpAny M A (noteFrame (.ref a) env) Q E s := by
  obtain ⟨a0, ⟨x1, x2, x3, oe, vs, he, hc, hd, h1, h0⟩ | x | ⟨L', env', outer', e1, e2, x⟩⟩ := x
  · unfold noteFrame
    simp only [hf]
    refine wpAny_bind (wpAny_field he hd h1 ?_)
    rw [if_neg (by decide)]
    refine wpAny_entryW hfr x3 hf he x1 x2 hd (Array.getElem?_eq_some_iff.mp h1).1 h0 fun h' hN => ?_
    obtain ⟨k1, k2, k3, k4⟩ := hN
    rw [hc] at k3
    exact hQ h' a0 ⟨k1, x2, k2, k3⟩ k4
  · exact wpAny_looks_onW hfr hf x fun h' k1 k2 => hQ h' a0 k1 k2
  · cases e1
    rw [hf] at e2
    cases e2
    exact wpAny_noteFrame_againW hf x.2.2.2 (hQ s.heap a0 x (Heap.UpToSlots.refl _))
theorem sta_leave {Q : Unit → Shared → Prop} (hfr : A.frames = some (env :: outer)) (hf : env.frame = some L) (x : Sta B (env :: outer) a cls s.heap)
    (hQ : ∀ h' a0, Heap.FlyingW B outer a cls a0 h' → s.heap.UpToSlots h' → Q () { s with heap := h' }) : wpAny M A (leaving env (.ref a)) Q E s := by
  unfold leaving
  refine wpAny_bind (sta_note hfr hf x fun h1 a0 k1 k2 => ?_)
  refine wpAny_landsW k1 fun h2 k3 k4 => ?_
  obtain ⟨c1, c2, ⟨_, _, c3⟩, c4⟩ := k3
  exact hQ h2 a0 ⟨c1, c2, c3, c4⟩ (k2.trans k4)
end

structure XAt (P : Program) (w : World) (l : List Env) (ex : List Addr) (H : Hp) (s : Shared) (B : Heap) (a : Addr) (cls : Value) (H' : Hp) (s' : Shared) : Prop where
  os : s'.os = s.os
  bare : AllBare s'.gens
  un : Un (frs l) ex H H' s.heap s'.heap
  hok : HOk P w H' s'.heap
  na : H' a = none
  sta : Sta B l a cls s'.heap
  old : ∀ b o, s.heap.get? b = some o → b ∉ frs l → b ∉ ex → ∃ o', s'.heap.get? b = some o' ∧ B.get? b = some o'
  trk : ∀ b, H' b ≠ none → ∃ o, s'.heap.get? b = some o ∧ B.get? b = some o
theorem XAt.move {P : Program} {w : World} {l l' : List Env} {ex : List Addr} {H H' : Hp} {s s' : Shared} {B h' : Heap} {a : Addr} {cls : Value} (x : XAt P w l ex H s B a cls H' s') (k : s'.heap.UpToSlots h') (st : Sta B l' a cls h')
    (hsub : ∀ b ∈ frs l', b ∈ frs l) (hin : ∀ b o, s.heap.get? b = some o → b ∈ frs l → b ∈ frs l') (hx : ∀ b ∈ frs l, b ∉ ex) : XAt P w l' ex H s B a cls H' { s' with heap := h' } := by
  have sB := st.stays
  have nf : ∀ b ∈ frs l, ∀ o, s'.heap.get? b = some o → ∀ vs, o.data ≠ .fields vs := fun b hb o e => by
    obtain ⟨_, o', e', d⟩ := x.sta.frames.mem hb
    rw [e] at e'; cases e'
    exact d
  have oldK : ∀ b o, s.heap.get? b = some o → b ∉ frs l' → b ∉ ex → ∃ o', s'.heap.get? b = some o' ∧ B.get? b = some o' := fun b o e hb he => x.old b o e (fun z => hb (hin b o e z)) he
  refine ⟨x.os, x.bare, ⟨fun b o e n hb he => ?_, fun b o e n hb he => ?_, x.un.free, fun b o e he => ?_, x.un.tups, x.un.frzs, x.un.tbls⟩, fun b u e => ?_, x.na, st, fun b o e hb he => ?_, fun b hb => ?_⟩
  · have e1 := x.un.keep b o e n (fun z => hb (hin b o e z)) he
    obtain ⟨o', e2, e3⟩ := oldK b o e hb he
    rw [e1] at e2; cases e2
    exact sB b _ e3
  · obtain ⟨sl, e1⟩ := x.un.slot b o e n (hsub b hb) he
    obtain ⟨sl', e2⟩ := k b _ e1 (nf b (hsub b hb) _ e1)
    exact ⟨sl', e2⟩
  · by_cases hb : b ∈ frs l
    · obtain ⟨_, o', e', d⟩ := x.sta.frames.mem hb
      obtain ⟨sl', e2⟩ := k b _ e' d
      exact ⟨_, e2⟩
    · obtain ⟨o', _, e3⟩ := x.old b o e hb he
      exact ⟨o', sB b _ e3⟩
  · refine (x.hok b u e).stay (fun c v hc q => ?_) (fun _ q => q) fun _ _ q => q
    have hn : H' c ≠ none := by
      rcases hc with rfl | hc
      · rw [e]; exact fun z => nomatch z
      · rw [hc]; exact fun z => nomatch z
    obtain ⟨o', e1, e2⟩ := x.trk c hn
    rw [q] at e1; cases e1
    exact sB c _ e2
  · obtain ⟨o', _, e3⟩ := oldK b o e hb he
    exact ⟨o', sB b _ e3, e3⟩
  · obtain ⟨o', _, e3⟩ := x.trk b hb
    exact ⟨o', sB b _ e3, e3⟩

def CXo (P : Program) (w : World) : CXT := fun outer H s E e s' => ∃ a cls H' B, e = .ref a ∧ XAt P w outer [] H s B a cls H' s' ∧ E cls none H'
def BodyX (X : Cx) (E : XK) (e : Value) (s' : Shared) : Prop := ∃ a cls H' B, e = .ref a ∧ XAt X.prog X.w X.stack X.ex X.H₀ X.s₀ B a cls H' s' ∧ E cls none H'
section
variable {X : Cx} {E : XK}
theorem passX {F : Value → Shared → Prop} : Passes (CXo X.prog X.w) (X.wish (BodyX X E)) E := fun pins σ H s e s' I h => by
  have I := I.unwish
  obtain ⟨a, cls, H', B, rfl, x, hE⟩ := h
  have U : Un (frs X.stack) X.ex X.H₀ H X.s₀.heap s.heap := I.base.mono (fun b hb => by
    rcases I.ok.stk with z | ⟨z, _⟩
    · rw [z]; exact hb
    · rw [z]; unfold frs; rw [List.filterMap_cons]; split
      · exact hb
      · exact List.mem_cons_of_mem _ hb) fun b hb => hb
  have U2 : Un (frs X.stack) X.ex H H' s.heap s'.heap := x.un.mono (fun b hb => hb) fun b hb => absurd hb (by simp)
  refine ⟨a, cls, H', B, rfl, ⟨x.os.trans I.os, x.bare, U.trans U2, x.hok, x.na, x.sta, fun b o q hb he => ?_, x.trk⟩, hE⟩
  obtain ⟨o1, e1⟩ := U.there b o q he
  exact x.old b o1 e1 hb (by simp)
end
structure Own (X : Cx) : Prop where
  ok : X.Ok
  top : X.stack = X.env :: X.outer
  fr : X.env.frame = some X.env.locals
  ex : X.ex = []
theorem Own.loc {X : Cx} (o : Own X) : ∀ b o', X.s₀.heap.get? b = some o' → b ∈ frs X.stack → b ∈ frs X.outer := fun b o' e hb => by
  rw [o.top] at hb
  unfold frs at hb
  rw [List.filterMap_cons, o.fr] at hb
  rcases List.mem_cons.mp hb with z | z
  · subst z
    exact absurd (Nat.lt_of_lt_of_le (Heap.lt_size e) o.ok.above) (Nat.lt_irrefl _)
  · exact z
structure ECls (K : PySem.W.Frag) (mg : Str → Option Value) (x : Str) (C : Addr) : Prop where
  g : mg x = some (.ref C)
  ex : ∃ bm newId B initId, PySem.W.excIn K C bm newId = true ∧ ExcBaseFacts B newId initId bm
def tRaise (C : Addr) (t : TA) (E : XK) : TS := fun _ σ H => t σ H fun vs H1 => vs.length ≤ sizeLine ∧ E (.ref C) none H1
theorem ecls_obj {K : PySem.W.Frag} {C : Addr} {bmB : List Value} {newId : String} {h : Heap} (X : K.In h) (q : PySem.W.excIn K C bmB newId = true) :
    ∃ bm ns nm qn bs hd sn sub ab col dd k0 k1 k2 k3 k5 mN, h.get? C = some (excClassObj nm qn C ns bs bm hd sn sub ab col dd k0 k1 k2 k3 k5 newId) ∧ h.Ns ns mN ∧ mN "__init__" = none ∧ OwnTail h bmB bm := by
  unfold PySem.W.excIn at q
  split at q
  · rename_i dd cd sl ho
    split at q
    · rename_i C' bm k0 k1 k2 k3 n k5 hm hs
      simp only [Bool.and_eq_true, beq_iff_eq, Bool.not_eq_true'] at q
      obtain ⟨⟨⟨⟨⟨rfl, rfl⟩, hdel⟩, ht⟩, hok⟩, hni⟩ := q
      obtain ⟨nm, bs, mro, ns, qn, hd, sn, sub, ab, col, del⟩ := cd
      dsimp only at hm hdel hok hni
      subst hm hdel
      have hsl : sl = #[k0, k1, k2, k3, some (.builtin n), k5] := by
        obtain ⟨l⟩ := sl
        simp only at hs
        rw [hs]
      subst hsl
      exact ⟨bm, ns, nm, qn, bs, hd, sn, sub, ab, col, dd, k0, k1, k2, k3, k5, _, X _ _ ho, .of_isNs (PySem.W.isNs_of_in X hok), PySem.W.nsMap_none_of_in X hok hni, PySem.W.tail_of_in X ht⟩
    · cases q
  · cases q
theorem ps_raise {X : Cx} {E : XK} {x : Str} {C : Addr} {np cpos pos : Pos} {e₀ : Expr} {rest : List Expr} {t : TA} (hc : X.calm = true) (Z : ECls X.K X.mg x C) (ha : PA (X.wish (BodyX X E)) (e₀ :: rest) t)
    (hg : Gl X x := by rfl) (hdb : (x == ("__debug__" : Str)) = false := by decide) (he : starEach (e₀ :: rest) X.env = (false, eval e₀ X.env) :: starEach rest X.env := by rfl) (hplain : (backTo cpos (starEach rest X.env)).any (·.1) = false := by rfl) :
    PS (X.wish (BodyX X E)) (.Raise (some (.Call (.Name x np) (e₀ :: rest) [] cpos)) none pos) (tRaise C t E) := by
  intro pins s σ H D I h
  obtain ⟨bmB, newId, Bn, initId, q, FB⟩ := Z.ex
  obtain ⟨bm, ns, nm, qn, bs, hd, sn, sub, ab, col, dd, k0, k1, k2, k3, k5, mN, hC, hN, hni, T⟩ := ecls_obj I.kIn q
  have hA := ha cpos pins s σ H _ I h
  rw [show starEach (e₀ :: rest) (X.wish (BodyX X E)).env = (false, eval e₀ X.env) :: starEach rest X.env from he] at hA
  refine wpAny_Raise_call_subT (C := C) (nm := nm) (q := qn) (N := ns) (bs := bs) (bm := bm) (hdct := hd) (sn := sn) (sub := sub) (ab := ab) (col := col) (dd := dd) (k0 := k0) (k1 := k1) (k2 := k2) (k3 := k3) (k5 := k5)
    FB (mN := mN) (T.hasType FB.hasBase) (I.ok.hd hc) (by show (backTo cpos (starEach (e₀ :: rest) X.env)).any (·.1) = false; rw [he]; show (false || (backTo cpos (starEach rest X.env)).any (·.1)) = false; rw [hplain]; rfl) hni (ld_glob I hg Z.g ⟨rfl, ?_⟩ hdb)
  show wpAny _ _ (evalArgs (.ref C) true (backTo cpos (starEach (e₀ :: rest) X.env)) []) _ _ s
  rw [he]
  refine Calls.evalArgs_plain (wpAny_mono hA (fun us s2 h2 => ?_) fun _ _ y => y)
  obtain ⟨vs, H2, I2, r2, hz, hE⟩ := h2
  obtain ⟨bm', ns', nm', qn', bs', hd', sn', sub', ab', col', dd', k0', k1', k2', k3', k5', mN', hC2, hN2, hni2, T2⟩ := ecls_obj I2.kIn q
  have J := I2.unwish
  have st : ∀ b o, X.base.get? b = some o → s2.heap.get? b = some o := J.bk
  have hC' : s2.heap.get? C = some (excClassObj nm qn C ns bs bm hd sn sub ab col dd k0 k1 k2 k3 k5 newId) := by
    obtain ⟨bm3, ns3, nm3, qn3, bs3, hd3, sn3, sub3, ab3, col3, dd3, k03, k13, k23, k33, k53, mN3, hC3, hN3, hni3, T3⟩ := ecls_obj J.ok.mod.kin q
    have e1 := (I.unwish.bk _ _ hC3).symm.trans hC
    cases e1
    exact st _ _ hC3
  have hN' : s2.heap.Ns ns mN := by
    obtain ⟨bm3, ns3, nm3, qn3, bs3, hd3, sn3, sub3, ab3, col3, dd3, k03, k13, k23, k33, k53, mN3, hC3, hN3, hni3, T3⟩ := ecls_obj J.ok.mod.kin q
    have e1 := (I.unwish.bk _ _ hC3).symm.trans hC
    injection e1 with e1
    injection e1 with _ _ e1 _
    injection e1 with e1
    injection e1 with _ _ _ e1 _ _ _ _ _ _ _
    subst e1
    have f1 := hN3.keeps I.unwish.bk
    have f2 := hN3.keeps st
    obtain ⟨o1, es1, ep1, g1, g2, g3, g4⟩ := f1
    obtain ⟨o2, es2, ep2, j1, j2, j3, j4⟩ := hN
    rw [g1] at j1; cases j1
    rw [g2] at j2; cases j2
    have em : mN3 = mN := by funext y; rw [← g4 y, ← j4 y]
    rw [← em]
    exact f2
  have T' : OwnTail s2.heap bmB bm := by
    obtain ⟨bm3, ns3, nm3, qn3, bs3, hd3, sn3, sub3, ab3, col3, dd3, k03, k13, k23, k33, k53, mN3, hC3, hN3, hni3, T3⟩ := ecls_obj J.ok.mod.kin q
    have e1 := (I.unwish.bk _ _ hC3).symm.trans hC
    injection e1 with e1
    injection e1 with _ _ e1 _
    injection e1 with e1
    injection e1 with _ _ e1 _ _ _ _ _ _ _ _
    injection e1 with _ e1
    rw [← e1]
    exact T3.keeps st
  refine ⟨rfl, by show us.length ≤ sizeLine; rw [← r2.length]; exact hz, hC', hN', T', fun h' a hx => ?_⟩
  have U : Un (frs X.stack) X.ex X.H₀ H2 X.s₀.heap s2.heap := J.base.mono (fun b hb => by
    rcases J.ok.stk with z | ⟨z, _⟩
    · rw [z]; exact hb
    · rw [z]; unfold frs; rw [List.filterMap_cons]; split
      · exact hb
      · exact List.mem_cons_of_mem _ hb) fun b hb => hb
  obtain ⟨t0, ht1, ht2, ht3⟩ := hx.there
  refine ⟨a, .ref C, H2, noFr s2.heap X.stack, rfl, ⟨J.os, J.bare, U.trans (Un.kept hx.keeps), J.hok.kept hx.keeps, ?_, ⟨_, .inl ⟨fun b o e => hx.keeps b o (of_noFr e), ?_, ?_, _, _, ht1, rfl, rfl, rfl, rfl⟩⟩, fun b o e hb he => ?_, fun b hb => ?_⟩, hE⟩
  · cases z : H2 a with
    | none => rfl
    | some u =>
      obtain ⟨o, e⟩ := (J.hok a u z).obj
      rw [hx.new] at e; cases e
  · cases z : (noFr s2.heap X.stack).get? a with
    | none => rfl
    | some o => have := of_noFr z; rw [hx.new] at this; cases this
  · exact (noFr_frames J.stack).of_keeps fun b o e _ => ⟨o, hx.keeps b o e, rfl⟩
  · obtain ⟨o1, e1⟩ := U.there b o e he
    exact ⟨o1, hx.keeps b o1 e1, noFr_get e1 hb⟩
  · obtain ⟨u, hu⟩ := Option.ne_none_iff_exists'.mp hb
    obtain ⟨o, e⟩ := (J.hok b u hu).obj
    exact ⟨o, hx.keeps b o e, noFr_get e fun z => hb (J.stkFree b z)⟩

theorem Fun.okX {P : Program} {w : World} {K : PySem.W.Frag} {mg : Str → Option Value} {base : Heap} {x qual : Str} {st : Stmt} {f : Addr} {fd : FuncData} {N ps : List Str} {k : Nat} {sp : Sp} (F : Fun K x qual st f fd) (S : FnScope N ps (defScope st)) (len : ∀ vs H Q E, sp vs H Q E → vs.length = ps.length)
    (hbody : ∀ (cdv : Value) (A : Around) (outer : List Env) (s : Shared) (H : Hp) (vs : List V) (Q : VK) (E : XK), Room k (A.deeper (envOfC qual (defScope st) s.heap.objs.size f cdv)) → sp vs H Q E → ∀ X : Cx, X = cxOf (CXo P w) P w K mg base N qual (defScope st) f cdv A outer s H E →
      ∃ t, PSs (X.wish (BodyX X E)) (defBody st) t ∧ t { nx := fun _ H' => Q .non H', rt := Q } (start N vs) H) : FnOk P w K mg base (CXo P w) (k + 1) f fd ps sp := by
  obtain ⟨oc, od, kV, doc, pm, an, cdv, ct, osl, rfl, lk, hcd⟩ := F.ex
  refine fn_of lk hcd S len fun A outer s H vs Q E hr hsp => ?_
  obtain ⟨t, h, q⟩ := hbody cdv A outer s H vs Q E hr hsp _ rfl
  refine ⟨t, fun pins s1 σ H1 D I hw => ?_, q⟩
  refine wpAny_mono (h pins s1 σ H1 D (I.wish _) hw) (fun _ _ q => q.unwish) fun e s' hx => ?_
  obtain ⟨a, cls, H', B, rfl, x, hE⟩ := hx
  have O : Own (cxOf (CXo P w) P w K mg base N qual (defScope st) f cdv A outer s H E) := ⟨I.ok, rfl, rfl, rfl⟩
  show wpAny (model P w) _ (leaving _ (.ref a)) _ _ s'
  refine sta_leave (outer := outer) I.ok.frames rfl x.sta fun h' a0 k1 k2 => ?_
  refine ⟨a, cls, H', B, rfl, x.move k2 ⟨a0, .inr (.inl k1)⟩ (fun b hb => List.mem_cons_of_mem _ hb) O.loc fun b _ => by simp [cxOf], hE⟩
end L2

namespace L2
open PySem PySem.Spec PyProof.Rows
section
variable {X : Cx} {pins : List (Addr × Obj)} {σ : St} {H : Hp} {s : Shared}
theorem Inv.unname {i : Nat} {x : Str} {h' : Heap} {m' : Str → Option Value} {t' : Nat} (I : Inv X pins σ H s) (hN : X.N.Nodup) (hi : X.N[i]? = some x) (hm : ∀ m, s.heap.Ns X.env.locals m → ∃ v, h'.Ns X.env.locals (fun y => if y = x then v else m y))
    (hs : Heap.SameBut X.env.locals s.heap h') : Inv X pins (σ.set i none) H { s with heap := h', toks := t' } := by
  obtain ⟨m, hn, hl⟩ := id I.loc
  obtain ⟨v0, hn'⟩ := hm m hn
  have cne := I.cne
  have hiσ : i < σ.length := by rw [I.len]; exact (List.getElem?_eq_some_iff.mp hi).1
  refine ⟨I.ok, I.os, I.bare, ⟨fun b o e n hb hx => ?_, fun b o e n hb hx => ?_, I.base.free, fun b o e hx => ?_, I.base.tups, I.base.frzs, I.base.tbls⟩, ⟨_, hn', fun j y v' e1 e2 e3 => ?_⟩, fun y c e => ?_, I.free, I.freeC, fun p hp => ?_, fun b ob e => ?_, by simpa using I.len⟩
  · exact (hs.2 b (Nat.ne_of_lt (Nat.lt_of_lt_of_le (Heap.lt_size e) I.ok.above))).trans (I.base.keep b o e n hb hx)
  · obtain ⟨sl, e1⟩ := I.base.slot b o e n hb hx
    exact ⟨sl, (hs.2 b (Nat.ne_of_lt (Nat.lt_of_lt_of_le (Heap.lt_size e) I.ok.above))).trans e1⟩
  · obtain ⟨o', e1⟩ := I.base.there b o e hx
    exact ⟨o', (hs.2 b (Nat.ne_of_lt (Nat.lt_of_lt_of_le (Heap.lt_size e) I.ok.above))).trans e1⟩
  · by_cases hj : j = i
    · subst hj
      rw [List.getElem?_set_self hiσ] at e2
      cases e2
    · rw [List.getElem?_set_ne (Ne.symm hj)] at e2
      obtain ⟨u', r', q⟩ := hl j y v' e1 e2 e3
      refine ⟨u', r', ?_⟩
      rcases q with ⟨k, e⟩ | ⟨k, c, e, z⟩
      · refine .inl ⟨k, ?_⟩
        have : y ≠ x := fun e => hj (nodup_ix hN e1 (e ▸ hi))
        simp [this, e]
      · exact .inr ⟨k, c, e, z.sameBut hs (cne y c e)⟩
  · obtain ⟨w', z⟩ := I.cell y c e
    exact ⟨w', z.sameBut hs (cne y c e)⟩
  · obtain ⟨e, n, ne, nf, d⟩ := I.pin p hp
    exact ⟨(hs.2 p.1 ne).trans e, n, ne, nf, d⟩
  · refine (I.hok b ob e).stay (fun c w' hc q => (hs.2 c ?_).trans q) (fun _ q => q) fun _ _ q => q
    rintro rfl
    rcases hc with rfl | hc
    · rw [I.free] at e; cases e
    · rw [I.free] at hc; cases hc
end
def cxSuite (X : Cx) (a : Addr) (oe : Obj) : Cx := { X with A := X.A.mark (some (.ref a)), calm := false, pn := X.pn ++ [(a, oe)], xe := fun _ _ => False }
section
variable {X : Cx} {pins : List (Addr × Obj)} {σ : St} {H : Hp} {s : Shared} {a : Addr} {oe : Obj}
theorem Inv.suite (I : Inv X pins σ H s) (e : s.heap.get? a = some oe) (hn : H a = none) (hl : a ≠ X.env.locals) (hf : a ∉ X.fs) (hd : ∀ v, oe.data ≠ .cell v) : Inv (cxSuite X a oe) pins σ H s := by
  refine ⟨⟨I.ok.mod, I.ok.kind, I.ok.glob, I.ok.blt, I.ok.above, I.ok.inj, I.ok.has, I.ok.cab, fun z => (Bool.false_ne_true z).elim, I.ok.frames, I.ok.stk, I.ok.exf, I.ok.bs, I.ok.bsz, I.ok.noex, I.ok.exfs, I.ok.funs, I.ok.frf⟩, I.os, I.bare, I.base, I.loc, I.cell, I.free, I.freeC, fun p hp => ?_, I.hok, I.len⟩
  have hp : p ∈ (X.pn ++ [(a, oe)]) ++ pins := hp
  rcases List.mem_append.mp hp with z | z
  · rcases List.mem_append.mp z with z | z
    · exact I.pin p (List.mem_append_left _ z)
    · have z : p = (a, oe) := by simpa using z
      subst z
      exact ⟨e, hn, hl, hf, hd⟩
  · exact I.pin p (List.mem_append_right _ z)
end
def PEX (X : Cx) (e : Expr) (t : XK → TE) : Prop :=
  ∀ (E : XK) (pins : List (Addr × Obj)) (s : Shared) (σ : St) (H : Hp) (Q : VK), Inv X pins σ H s → t E σ H Q →
    wpAny (model X.prog X.w) X.A (eval e X.env) (EP X pins σ Q) (fun e s' => ∃ H1 s1, Inv X pins σ H1 s1 ∧ CXo X.prog X.w X.stack H1 s1 E e s') s
theorem pex_fn {X : Cx} {x : Str} {st : Stmt} {ps : List Str} {f : Addr} {fd : FuncData} {k : Nat} {sp : Sp} {e : Expr} {es : List Expr} {t : TA} {p pos : Pos} (G : FnOk X.prog X.w X.K X.mg X.base (CXo X.prog X.w) k f fd ps sp) (F : Fn X.K X.mg x st ps f fd) (hr : Room k X.A) (ha : PA X.nox (e :: es) t)
    (hg : Gl X x := by rfl) (hdb : (x == ("__debug__" : Str)) = false := by decide) (he : starEach (e :: es) X.env = (false, eval e X.env) :: starEach es X.env := by rfl) (hpl : (backTo pos (starEach es X.env)).any (·.1) = false := by rfl) :
    PEX X (.Call (.Name x p) (e :: es) [] pos) (fun E => tCall sp [] E t) := by
  intro E pins s σ H Q I h
  refine wpAny_Call_Name_kw (ld_glob I hg F.g ?_ hdb)
  refine PySem.W.callWith_K (h₀ := X.base) I.ok.mod.kin F.fn.kp (quietX (ha pos pins s σ H _ (I.wish _) h) fun us s1 ⟨vs, H1, I1, r, q⟩ => ⟨I1.kIn, ?_⟩) he hpl
  have I1 := I1.unwish
  have q' : sp (vs ++ []) H1 Q E := q
  rw [List.append_nil] at q'
  have hl : us.length = ps.length := by rw [← r.length]; exact G.len _ _ _ _ q'
  have hb := F.b s1 us I1.kIn (by rw [List.append_nil]; exact hl)
  rw [List.append_nil] at hb
  refine wpAny_call (codeAny_mono (G.run X.A X.stack s1 H1 ⟨us, []⟩ us vs Q E hr I1.env0 hb r q') fun r s' hq => ?_)
  cases r with
  | error e => exact ⟨H1, s1, I1, hq⟩
  | ok fl =>
    cases fl with
    | ret u => exact I1.after hq
    | next => exact False.elim hq
    | brk => exact False.elim hq
    | cont => exact False.elim hq
end L2

namespace L2
open PySem PySem.Spec PyProof.Rows
section
variable {X : Cx}
theorem ps_sem {b : List Stmt} {R : TS} (h : ∀ D σ H, R D σ H → ∃ t, PSs X b t ∧ t D σ H) : PSs X b R := fun pins s σ H D I hw => by
  obtain ⟨t, ht, hq⟩ := h D σ H hw
  exact ht pins s σ H D I hq
theorem passF : Passes (CXo X.prog X.w) X E0 := fun _ _ _ _ _ _ _ h => by
  obtain ⟨_, _, _, _, _, _, z⟩ := h
  exact z.elim
theorem pe_fnF {x : Str} {st : Stmt} {ps : List Str} {f : Addr} {fd : FuncData} {k : Nat} {sp : Sp} {e : Expr} {es : List Expr} {t : TA} {p pos : Pos} (G : FnOk X.prog X.w X.K X.mg X.base (CXo X.prog X.w) k f fd ps sp) (F : Fn X.K X.mg x st ps f fd) (hr : Room k X.A) (ha : PA X (e :: es) t)
    (hg : Gl X x := by rfl) (hdb : (x == ("__debug__" : Str)) = false := by decide) (he : starEach (e :: es) X.env = (false, eval e X.env) :: starEach es X.env := by rfl) (hpl : (backTo pos (starEach es X.env)).any (·.1) = false := by rfl) :
    PE X (.Call (.Name x p) (e :: es) [] pos) (tCall sp [] E0 t) := pe_call G hr hg F.g F.fn.kp F.b .nil passF ha hdb he hpl
theorem pe_fnX {E : XK} {x : Str} {st : Stmt} {ps : List Str} {f : Addr} {fd : FuncData} {k : Nat} {sp : Sp} {e : Expr} {es : List Expr} {t : TA} {p pos : Pos} (G : FnOk X.prog X.w X.K X.mg X.base (CXo X.prog X.w) k f fd ps sp) (F : Fn X.K X.mg x st ps f fd) (hr : Room k X.A) (ha : PA (X.wish (BodyX X E)) (e :: es) t)
    (hg : Gl (X.wish (BodyX X E)) x := by rfl) (hdb : (x == ("__debug__" : Str)) = false := by decide) (he : starEach (e :: es) X.env = (false, eval e X.env) :: starEach es X.env := by rfl) (hpl : (backTo pos (starEach es X.env)).any (·.1) = false := by rfl) :
    PE (X.wish (BodyX X E)) (.Call (.Name x p) (e :: es) [] pos) (tCall sp [] E t) := pe_call (X := X.wish (BodyX X E)) G hr hg F.g F.fn.kp F.b .nil (passX (F := fun _ _ => True)) ha hdb he hpl

theorem Fun.okX2 {P : Program} {w : World} {K : PySem.W.Frag} {mg : Str → Option Value} {base : Heap} {x qual : Str} {st : Stmt} {f : Addr} {fd : FuncData} {N ps : List Str} {k : Nat} {sp : Sp} (F : Fun K x qual st f fd) (S : FnScope N ps (defScope st)) (len : ∀ vs H Q E, sp vs H Q E → vs.length = ps.length)
    (hbody : ∀ (cdv : Value) (A : Around) (outer : List Env) (s : Shared) (H : Hp) (vs : List V) (Q : VK) (E : XK), Room k (A.deeper (envOfC qual (defScope st) s.heap.objs.size f cdv)) → sp vs H Q E → Own (cxOf (CXo P w) P w K mg base N qual (defScope st) f cdv A outer s H E) →
      ∃ t, PSs ((cxOf (CXo P w) P w K mg base N qual (defScope st) f cdv A outer s H E).wish (BodyX (cxOf (CXo P w) P w K mg base N qual (defScope st) f cdv A outer s H E) E)) (defBody st) t ∧ t { nx := fun _ H' => Q .non H', rt := Q } (start N vs) H) : FnOk P w K mg base (CXo P w) (k + 1) f fd ps sp := by
  refine F.okX S len fun cdv A outer s H vs Q E hr h X hX => ?_
  subst hX
  by_cases ok : (cxOf (CXo P w) P w K mg base N qual (defScope st) f cdv A outer s H E).Ok
  · exact hbody cdv A outer s H vs Q E hr h ⟨ok, rfl, rfl, rfl⟩
  · exact ⟨fun _ _ _ => True, fun pins s σ H D I _ => absurd I.ok.unwish ok, trivial⟩
theorem Fun.okO {P : Program} {w : World} {K : PySem.W.Frag} {mg : Str → Option Value} {base : Heap} {x qual : Str} {st : Stmt} {f : Addr} {fd : FuncData} {N ps : List Str} {k : Nat} {sp : Sp} (F : Fun K x qual st f fd) (S : FnScope N ps (defScope st)) (len : ∀ vs H Q E, sp vs H Q E → vs.length = ps.length)
    (hbody : ∀ (cdv : Value) (A : Around) (outer : List Env) (s : Shared) (H : Hp) (vs : List V) (Q : VK) (E : XK), Room k (A.deeper (envOfC qual (defScope st) s.heap.objs.size f cdv)) → sp vs H Q E → Own (cxOf CX0 P w K mg base N qual (defScope st) f cdv A outer s H E).nox →
      ∃ t, PSs (cxOf CX0 P w K mg base N qual (defScope st) f cdv A outer s H E).nox (defBody st) t ∧ t { nx := fun _ H' => Q .non H', rt := Q } (start N vs) H) : FnOk P w K mg base CX0 (k + 1) f fd ps sp := by
  refine F.ok S len fun cdv A outer s H vs Q E hr h => ?_
  by_cases ok : (cxOf CX0 P w K mg base N qual (defScope st) f cdv A outer s H E).nox.Ok
  · exact hbody cdv A outer s H vs Q E hr h ⟨ok, rfl, rfl, rfl⟩
  · exact ⟨fun _ _ _ => True, fun pins s σ H D I _ => absurd I.ok ok, trivial⟩

theorem Room.lt {k : Nat} {A : Around} (r : Room k A) (n : Nat) (h : n ≤ 62) : A.units + n + 1 < cLine := by have := r.units; omega

def PJ (X : Cx) (es : List Expr) (m : Nat) (t : St → Hp → Prop) : Prop :=
  ∀ (pins : List (Addr × Obj)) (s : Shared) (σ : St) (H : Hp) (out : Str) (Q : Value → Shared → Prop), Inv X pins σ H s → t σ H → out.length + m ≤ sizeLine → (∀ x tk s', Inv X pins σ H s' → Q (.str x tk) s') →
    wpAny (model X.prog X.w) X.A (joinParts out (evalEach es X.env)) Q X.xe s
def jNil : St → Hp → Prop := fun _ _ => True
def jInt (te : TE) (t : St → Hp → Prop) : St → Hp → Prop := fun σ H => te σ H fun v H' => H' = H ∧ (∃ i : Int, v = .int i ∧ i.natAbs.log2 < 1920) ∧ t σ H
theorem pj_nil : PJ X [] 0 jNil := fun pins s σ H out Q I _ hz q => joinParts_nil (q _ _ _ (I.tok _)) (by omega)
theorem pj_str {x : Str} {j} {pos : Pos} {es : List Expr} {m : Nat} {t : St → Hp → Prop} (h : PJ X es m t) : PJ X (.Constant (.str x) j pos :: es) (x.length + m) t := fun pins s σ H out Q I ht hz q => by
  show wpAny _ _ (joinParts out (eval (.Constant (.str x) j pos) X.env :: evalEach es X.env)) Q _ s
  have e : (out ++ x).length = out.length + x.length := strLen_append _ _
  refine joinParts_cons (Calls.Constant_str ?_)
  exact ⟨by rw [e]; omega, h pins _ σ H (out ++ x) Q (I.tok _) ht (by rw [e]; omega) q⟩
theorem pj_int {a : Expr} {pos : Pos} {es : List Expr} {m : Nat} {t : St → Hp → Prop} {te : TE} (ha : PE X a te) (h : PJ X es m t) : PJ X (.FormattedValue a (-1) none pos :: es) (1921 + m) (jInt te t) := fun pins s σ H out Q I ht hz q => by
  show wpAny _ _ (joinParts out (eval (.FormattedValue a (-1) none pos) X.env :: evalEach es X.env)) Q _ s
  refine joinParts_cons (FormattedValue_plain (thn (ha pins s σ H _ I ht) fun u s1 h1 => ?_))
  obtain ⟨v, H1, I1, r, rfl, ⟨i, rfl, hi⟩, ht1⟩ := h1
  obtain ⟨tk, rfl⟩ := r
  have l1 := int_text_length_le (k := 1920) (by decide) hi
  have e : (out ++ Str.ofString (toString i)).length = out.length + (toString i).length := by rw [strLen_append, PySem.ofString_length]
  refine formatField_int_small hi ?_
  exact ⟨by rw [e]; omega, h pins _ σ H1 (out ++ Str.ofString (toString i)) Q (I1.tok _) ht1 (by rw [e]; omega) q⟩
def tFs (t : St → Hp → Prop) : TE := fun σ H Q => t σ H ∧ ∀ x, Q (.str x) H
theorem pe_fs {a b : Expr} {es : List Expr} {pos : Pos} {m : Nat} {t : St → Hp → Prop} (h : PJ X (a :: b :: es) m t) (hm : m ≤ 1000000) : PE X (.JoinedStr (a :: b :: es) pos) (tFs t) := fun pins s σ H Q I hw => by
  have e : Str.empty.length = 0 := rfl
  have z : sizeLine = 16777216 := sizeLine_eq
  exact JoinedStr_many (h pins s σ H Str.empty _ I hw.1 (by rw [e, z]; omega) fun x tk s' I' => ⟨.str x, H, I', ⟨_, rfl⟩, hw.2 x⟩)
end

open PySem.W in
structure ExK (K : Frag) (D : Addr) : Prop where
  ga : findIn K (.ref D) "__getattribute__" = some (some (.builtin "BaseException.__getattribute__"))
  gt : findIn K (.ref D) "__getattr__" = some none
  cl : findIn K (.ref D) "__class__" = some (some (.builtin "object.__class__"))
  sp : specialIn K (.builtin "object.__class__") "__get__" = some (some (.builtin "getset_descriptor.__get__"))
  tk : takesIn K (.builtin "object.__class__") = some true
  mo : mroIn K D (.type "object") = some true
  mb : mroIn K D (.type "BaseException") = some true
  hd : (clsIn K D).isSome = true
section
open PySem.W PySem.Calls Builtin Builtin.ObjectAttr Builtin.Getset_descriptor
variable {prog : Program} {w : World} {A : Around} {E : Value → Shared → Prop} {K : Frag} {x D : Addr} {hp : Heap} {gs : Array GenState} {dr : Drawn} {tn : Nat} {os : OsState}
theorem find_class (kin : K.In hp) (Z : ExK K D) (M : Model) : Looks M hp (Builtin.ObjectAttr.find (.ref x) (.ref D) "__class__") (.bind (.builtin "getset_descriptor.__get__") (.builtin "object.__class__")) := by
  refine (looks_findIn (M := M) kin Z.cl).andThen ?_
  refine (looks_specialIn (M := M) kin Z.sp).andThen ?_
  refine Looks.andThen (a := some (.builtin "getset_descriptor.__get__", .builtin "object.__class__")) ?_ (Looks.tag .now)
  refine (looks_takesIn (M := M) kin Z.tk).andThen ?_
  exact .now
theorem exc_class_get {R : Result → Shared → Prop} {tp : Value} (kin : K.In hp) (LT : ∀ M : Model, Looks M hp (typeOf (.ref x)) (.ref D)) (Z : ExK K D) (h : R (.ok (.ret (.ref D))) ⟨hp, gs, dr, tn, os⟩) :
    codeAny (model prog w) A (.call (.builtin "getset_descriptor.__get__") ⟨[.builtin "object.__class__", .ref x, tp], []⟩) R ⟨hp, gs, dr, tn, os⟩ := by
  have la := LT (model prog w)
  have lb := looks_mroIn (M := model prog w) kin Z.mo
  refine codeAny_call_builtin KF.slot_gs.plain KF.entry_gs (KF.slot_gs.check _ _ _ _ _ _ _ _ KF.type_class (KF.args_gs _ _ _) ?_)
  unfold Builtin.«getset_descriptor.__get__» descrGet; rw [dga_obj]
  refine wpAny_bind (wpAny_pure ?_)
  unfold descrGetter descrCheckInstance descrNameAndClass isInstance; simp only [KF.owner_class]
  repeat lk
  refine ⟨Code.quiet_builtin _ (by decide +kernel), codeAny_builtin KF.entry_class ?_⟩
  unfold Builtin.«object.__class__» shownTypeOf; repeat lk
  exact h
theorem exc_entry {Q : Fin → Shared → Prop} {tk : Tok} (kin : K.In hp) (LT : ∀ M : Model, Looks M hp (typeOf (.ref x)) (.ref D)) (Z : ExK K D) (h : Q (.done (.ret (.ref D))) ⟨hp, gs, dr, tn, os⟩) :
    wpAny (model prog w) A (Builtin.«object.__getattribute__» ⟨[.ref x, .str "__class__" tk], []⟩) Q E ⟨hp, gs, dr, tn, os⟩ := by
  have la := LT (model prog w)
  have lb := find_class (x := x) kin Z (model prog w)
  unfold Builtin.«object.__getattribute__»
  refine wpAny_bind (m := slotArgs "__getattribute__" 1 ⟨[.ref x, .str "__class__" tk], []⟩) (wpAny_pure ?_)
  show wpAny _ _ (attrName (.str "__class__" tk) >>= _) _ _ _
  refine wpAny_bind (m := attrName (.str "__class__" tk)) (wpAny_pure ?_)
  refine wpAny_bind (la.at ?_)
  refine wpAny_bind (lb.at ?_)
  show wpAny _ _ (bindTo (.builtin "getset_descriptor.__get__") (.builtin "object.__class__") (.ref x) (.ref D)) _ _ _
  unfold bindTo
  refine wpAny_bind (wpAny_holding (wpAny_call (exc_class_get kin LT Z ?_)))
  exact wpAny_pure h
theorem exc_class {Q : Option Value → Shared → Prop} (kin : K.In hp) (LT : ∀ M : Model, Looks M hp (typeOf (.ref x)) (.ref D)) (Z : ExK K D) (h : Q (some (.ref D)) ⟨hp, gs, dr, tn + 1, os⟩) :
    wpAny (model prog w) A (getAttr? (.ref x) "__class__") Q E ⟨hp, gs, dr, tn, os⟩ := by
  have la := LT (model prog w)
  have lb := looks_findIn (M := model prog w) kin Z.ga
  have lc := looks_findIn (M := model prog w) kin Z.gt
  have ld := looks_mroIn (M := model prog w) kin Z.mb
  have li : Looks (model prog w) hp (isInstance (.ref x) (.type "BaseException")) true := la.andThen ld
  have sl := PySem.F.attr_ValueError.ga
  have hne : (onTheHeap (Value.ref D) && Value.builtin "BaseException.__getattribute__" == Value.builtin "object.__getattribute__") = false := by
    rw [show (Value.builtin "BaseException.__getattribute__" == Value.builtin "object.__getattribute__") = false from by decide +kernel]
    rfl
  unfold getAttr? getAttrBy? getAttrBy
  refine wpAny_bind (wpAny_mkText (wpAny_bind (wpAny_attempt (wpAny_holding (wpAny_bind (la.at (wpAny_bind (lb.at ?_))))))))
  show wpAny _ _ (if (onTheHeap (Value.ref D) && Value.builtin "BaseException.__getattribute__" == Value.builtin "object.__getattribute__") = true then _ else getAttrByItsOwn _ _ _ _ _ _) _ _ _
  rw [hne, if_neg Bool.false_ne_true]
  unfold getAttrByItsOwn
  show wpAny _ _ (typeLookup (.ref D) "__getattr__" >>= _) _ _ _
  refine wpAny_bind (lc.at ?_)
  refine wpAny_bind (wpAny_attempt (wpAny_holding ?_))
  show wpAny _ _ (boundAndCalled _ _ _) _ _ _
  unfold boundAndCalled
  refine wpAny_bind (wpAny_of_eq (sl.bind (.ref x)) ?_)
  show wpAny _ _ (call (.builtin "BaseException.__getattribute__") [.ref x, .str "__class__" tn]) _ _ _
  have hk : builtinKind "BaseException.__getattribute__" = some .slot := by decide +kernel
  have hs : splitId "BaseException.__getattribute__" = some ("BaseException", "__getattribute__") := by decide +kernel
  have hg := PySem.F.args_bexc_ga (.ref x) (.str "__class__" tn)
  refine wpAny_call (codeAny_call_builtin sl.plain PySem.F.entry_bexc_ga ?_)
  simp only [checkBuiltinCall, hk, hs]
  refine wpAny_bind (li.at ?_)
  repeat (first | assumption | with_reducible refine exc_entry kin LT Z ?_ | wp_step)
theorem kitx_exc (Z : ExK K D) : KitX K (.ref x) (.ref D) (fun h => ∃ oe, h.get? x = some oe ∧ oe.cls = .ref D) where
  ty := fun M h _ q => by
    obtain ⟨oe, e, c⟩ := q
    rw [← c]
    exact (Looks.ld e).andThen .now
  it := fun _ _ kin _ => by
    have hd := Z.hd
    unfold clsIn at hd
    split at hd
    · rename_i ho
      intro A' Q' E' s' kk qq
      unfold isType loadHead
      exact wpAny_bind (wpAny_loadPart (kk _ _ (kin _ _ ho)) (wpAny_pure qq))
    · cases hd
  ne := fun h tp dd its n sl kin htp => by
    have hd := Z.hd
    refine Bool.eq_false_iff.mpr fun q => ?_
    have e : D = tp := Value.ref.inj (beq_iff_eq.mp q)
    rw [e] at hd
    unfold clsIn at hd
    split at hd
    · rename_i ho
      have z := (kin _ _ ho).symm.trans htp
      cases z
    · cases hd
  ca := fun {_ _ _ _ _ s} kin q k => by
    obtain ⟨hp, gs, dr, tn, os⟩ := s
    obtain ⟨oe, e, c⟩ := q
    exact exc_class kin (fun M => by rw [← c]; exact (Looks.ld e).andThen .now) Z k
end
theorem bb_ValueError : bootBuiltins "ValueError" = some (.type "ValueError") := by decide +kernel
end L2

namespace L2
open PySem PySem.Spec PyProof.Rows
section
variable {X : Cx}
def Deep (K : PySem.W.Frag) (H : Hp) : Nat → V → V → Prop
  | 0, x, y => x = y ∧ flatV x = true
  | n + 1, x, y => (x = y ∧ flatV x = true) ∨ ∃ (a b : Addr) (xs ys : List V), x = .ref a ∧ y = .ref b ∧ ((SqL K H a xs ∧ SqL K H b ys) ∨ (SqT K H a xs ∧ SqT K H b ys)) ∧ xs.length = ys.length ∧ ∀ (i : Nat) (u v : V), xs[i]? = some u → ys[i]? = some v → Deep K H n u v
theorem eqV_self {x : V} (h : flatV x = true) : eqV x x = true := by
  cases x <;> first | rfl | (exact absurd h Bool.false_ne_true) | (show (_ == _) = true; exact beq_self_eq_true _)
theorem vals_at {xs : List V} {its : List Value} {j : Nat} (r : Vals xs its) (hj : j < its.toArray.size) : ∃ x, xs[j]? = some x ∧ RelV x its.toArray[j] := by
  have hl := r.length
  have hx : j < xs.length := by rw [List.size_toArray] at hj; omega
  obtain ⟨u, hu, ru⟩ := r.get (List.getElem?_eq_getElem hx)
  refine ⟨_, List.getElem?_eq_getElem hx, ?_⟩
  have z : its.toArray[j]? = some u := by simpa using hu
  rw [(Array.getElem?_eq_some_iff.mp z).2]
  exact ru
theorem all_true (n : Nat) : (List.range n).all (fun _ => true) = true := List.all_eq_true.mpr fun _ _ => rfl
section
variable {pins : List (Addr × Obj)} {σ : St} {H : Hp} {s : Shared}
theorem deep_eqAt (I : Inv X pins σ H s) : ∀ (n : Nat) {A : Around} {x y : V} {u v : Value}, A.units + n < cLine → Deep X.K H n x y → RelV x u → RelV y v → SeqAt.EqAt A s u v true
  | 0, A, x, y, u, v, hu, h, rx, ry => by
    obtain ⟨rfl, f⟩ := h
    have z := eqAt_V (A := A) (s := s) rx ry f f
    rw [eqV_self f] at z
    exact z
  | n + 1, A, x, y, u, v, hu, h, rx, ry => by
    rcases h with ⟨rfl, f⟩ | ⟨a, b, xs, ys, rfl, rfl, hs, hl, hd⟩
    · have z := eqAt_V (A := A) (s := s) rx ry f f
      rw [eqV_self f] at z
      exact z
    · cases rx
      cases ry
      by_cases e : a = b
      · subst e; exact SeqAt.EqAt.same _
      · refine SeqAt.EqAt.of_refs e ?_
        have hu1 : A.in1.units + n < cLine := by show A.units + 1 + n < cLine; omega
        rcases hs with ⟨h1, h2⟩ | ⟨h1, h2⟩
        · obtain ⟨i1, r1, p1, z1⟩ := I.list h1
          obtain ⟨i2, r2, p2, z2⟩ := I.list h2
          have l1 := r1.length
          have l2 := r2.length
          have z := SeqAt.RcAt.lists (A := A) (e := fun _ => true) p1.isList p2.isList (by simp only [List.size_toArray]; omega) (by omega) fun j q1 q2 => by
            obtain ⟨x1, e1, t1⟩ := vals_at r1 q1
            obtain ⟨x2, e2, t2⟩ := vals_at r2 q2
            exact deep_eqAt I n hu1 (hd j x1 x2 e1 e2) t1 t2
          rw [all_true] at z
          exact z
        · obtain ⟨i1, r1, p1, z1⟩ := I.tuple h1
          obtain ⟨i2, r2, p2, z2⟩ := I.tuple h2
          have l1 := r1.length
          have l2 := r2.length
          have z := SeqAt.RcAt.tuples (A := A) (e := fun _ => true) (show s.heap.IsTuple a i1.toArray from p1) (show s.heap.IsTuple b i2.toArray from p2) (by omega) fun j q1 q2 => by
            obtain ⟨x1, e1, t1⟩ := vals_at r1 q1
            obtain ⟨x2, e2, t2⟩ := vals_at r2 q2
            exact deep_eqAt I n hu1 (hd j x1 x2 e1 e2) t1 t2
          have e3 : (i1.toArray.size == i2.toArray.size) = true := by simp only [List.size_toArray, beq_iff_eq]; omega
          rw [all_true, e3] at z
          exact z
end
def DeepL (K : PySem.W.Frag) (H : Hp) (n : Nat) (a b : Addr) : Prop := ∃ xs ys : List V, SqL K H a xs ∧ SqL K H b ys ∧ xs.length = ys.length ∧ ∀ (i : Nat) (u v : V), xs[i]? = some u → ys[i]? = some v → Deep K H n u v
theorem op_ne_deep (n : Nat) (hu : X.A.units + n + 1 < cLine) : OpR X (compareOp .NotEq) (fun x y H Q => ∃ a b : Addr, x = .ref a ∧ y = .ref b ∧ DeepL X.K H n a b ∧ Q (.bl false) H) := by
  intro pins s σ H x y v u Q I rx ry h
  obtain ⟨a, b, rfl, rfl, ⟨xs, ys, h1, h2, hl, hd⟩, q⟩ := h
  cases rx
  cases ry
  obtain ⟨i1, r1, p1, z1⟩ := I.list h1
  obtain ⟨i2, r2, p2, z2⟩ := I.list h2
  have l1 := r1.length
  have l2 := r2.length
  refine SeqAt.RcNeAt.lists (A := X.A) (e := fun _ => true) p1.isList p2.isList (by simp only [List.size_toArray]; omega) (by omega) (fun j q1 q2 => ?_) X.prog X.w X.xe _ ⟨.bl false, H, I, ?_, q⟩
  · obtain ⟨x1, e1, t1⟩ := vals_at r1 q1
    obtain ⟨x2, e2, t2⟩ := vals_at r2 q2
    exact deep_eqAt I n (by show X.A.units + 1 + n < cLine; omega) (hd j x1 x2 e1 e2) t1 t2
  · show Value.bool _ = Value.bool false
    rw [all_true]
    rfl
end
end L2

namespace L2
open PySem PySem.Spec PyProof.Rows

theorem bind_name {M : Model} {A : Around} {E : Value → Shared → Prop} {s : Shared} {env : Env} {x : Str} {v : Value} {Q : Unit → Shared → Prop} (h : wpAny M A (storeName env x v) Q E s) : wpAny M A (bindName env x v) Q E s := fun Γ p hΓ => by
  rw [Sem.wp_bindName]
  exact h Γ _ hΓ
theorem ps_comp {X : Cx} {elt iter tg : Expr} {ifs : List Expr} {scope : Scope} {pos pos' ps : Pos} {x : Str} {ix : Nat} {cl : List (Str × Addr)} {NC : List Str} {ini : List (Option Nat)} {wi : TI} {g : TG} {tt : TT} {te : TE}
    (hN : X.N.Nodup) (hix : X.N[ix]? = some x) (hx : Loc X.env.scope x) (hc : X.calm = true) (O : CompOk X scope cl NC ini) (hi : PI X tg iter wi)
    (hg : ∀ fp C s₀ H₀, PG (cxComp X scope cl NC fp C s₀ H₀) tg g) (ht : ∀ fp C s₀ H₀, PTs (cxComp X scope cl NC fp C s₀ H₀) ifs tt) (he : ∀ fp C s₀ H₀, PE (cxComp X scope cl NC fp C s₀ H₀) elt te)
    (hs : ∀ x, foldedSetIterable iter X.env x = pure x := by intro _; rfl) (hsw : swapsWith (.ListComp elt [⟨tg, iter, ifs, 0⟩] scope pos) (some (.Name x pos')) ps.line X.env = pure true := by rfl)
    (hf : X.fn x = true ∨ X.env.scope.names.lookup x = some .local := by first | exact .inl rfl | exact .inr rfl | assumption) : PS X (.Assign [.Name x pos'] (.ListComp elt [⟨tg, iter, ifs, 0⟩] scope pos) ps) (tAsg (tComp wi g tt te ini) (gName ix)) := by
  intro pins s σ H Dn I h
  rw [exec_Assign_Name_used _ _ _ _ hsw]
  refine wpAny_bind (wpAny_standAt (wpAny_bind ?_))
  show wpAny _ _ (comprehension (.ListComp elt [⟨tg, iter, ifs, 0⟩] scope pos) scope X.env _ (newList []) false (eval iter X.env) (some (assign (.Name x pos') X.env)) >>= fun _ => pure ()) _ _ s
  refine wpAny_bind ?_
  refine wpAny_comprehension_free (use := some (assign (.Name x pos') X.env)) rfl hs O.clos O.kind O.names (thn (hi pins s σ H _ I h) fun v s1 h1 => thn h1 fun itv s2 h2 => ?_)
  obtain ⟨it, fp, tn, J, H2, e, I2, T, st2, f2, h2⟩ := h2
  subst e
  have hD : H2 s2.heap.objs.size = none := I2.hok.fresh (Nat.le_refl _)
  obtain ⟨W, ⟨m0, w0⟩, turn⟩ := h2 _ hD
  refine wpAny_newObj_type (wpAny_newFunctionEnv O.cell (by intro y hy; simp at hy) (fun h₁ hns₁ hsb₁ => ?_) O.kind)
  dsimp only at hns₁ hsb₁ ⊢
  have I3 : Inv X pins σ (upd H2 s2.heap.objs.size (.lst [])) { s2 with heap := s2.heap.push { cls := .type "list", dict := none, data := .seq ([] : List Value).toArray } } := I2.lnew (its := []) (t' := s2.toks) .nil (by decide)
  have ob2 : ∀ b ∈ fp, ∃ o, s2.heap.get? b = some o := fun b hb => let ⟨o, e, _⟩ := T.obj 0 _ st2 b hb; ⟨o, e⟩
  have neD : ∀ b ∈ fp, b ≠ s2.heap.objs.size := fun b hb => let ⟨o, e⟩ := ob2 b hb; Nat.ne_of_lt (Heap.lt_size e)
  have f3 : ∀ b ∈ fp, FpOk X pins (upd H2 s2.heap.objs.size (.lst [])) b := fun b hb => ⟨by rw [upd_ne (neD b hb)]; exact (f2 b hb).1, (f2 b hb).2⟩
  generalize hs3 : ({ s2 with heap := s2.heap.push { cls := .type "list", dict := none, data := .seq ([] : List Value).toArray } } : Shared) = s3 at I3
  have hh3 : s2.heap.push { cls := .type "list", dict := none, data := .seq ([] : List Value).toArray } = s3.heap := by rw [← hs3]
  have ob3 : ∀ b ∈ fp, ∃ o, s3.heap.get? b = some o := fun b hb => let ⟨o, e⟩ := ob2 b hb; ⟨o, by rw [← hh3]; exact Heap.get?_push_of_some _ e⟩
  rw [hh3] at hns₁ hsb₁ ⊢
  have old : ∀ b o, s3.heap.get? b = some o → h₁.get? b = some o := fun b o e => hsb₁.extBut b o (Nat.ne_of_lt (Heap.lt_size e)) (Heap.get?_push_of_some _ e)
  have st1 : tn 0 h₁ := T.keep 0 _ _ st2 fun b hb o e => old b o (by rw [← hh3]; exact Heap.get?_push_of_some _ e)
  have IC : ∀ tk, Inv (cxComp X scope cl NC fp s3.heap.objs.size s3 (upd H2 s2.heap.objs.size (.lst []))) [] (iniSt ini σ) (upd H2 s2.heap.objs.size (.lst [])) { s3 with heap := h₁, toks := tk } := fun tk => inv_comp O I3 f3 ob3 hns₁ old
  have stat : ∀ {H' : Hp}, (∀ b ∈ fp, H' b = none) → ∀ b ∈ fp, FpOk (cxComp X scope cl NC fp s3.heap.objs.size s3 (upd H2 s2.heap.objs.size (.lst []))) [] H' b := fun {H'} hn b hb => by
    obtain ⟨o, e⟩ := ob3 b hb
    refine ⟨hn b hb, Nat.ne_of_lt (Heap.lt_size e), fun z => ?_, .inl hb, fun x c hx => (f3 b hb).2.2.2.2.1 x c (O.cls x c hx), fun p hp => absurd (show p ∈ ([] : List (Addr × Obj)) from hp) (by simp)⟩
    rcases List.mem_cons.mp (I3.stkSub b z) with q | q
    · exact (f3 b hb).2.1 q
    · exact (f3 b hb).2.2.1 q
  have loop : ∀ s₃ : Shared, s₃ = { s2 with heap := h₁, toks := s2.toks + ([] : List (Str × Value)).length } →
      codeAny (model X.prog X.w) X.A (.compLoop (.ListComp elt [⟨tg, iter, ifs, 0⟩] scope pos) 0 (.ref it) (.ref s2.heap.objs.size) (compEnvC scope cl s3.heap.objs.size X.env))
        (compPost (model X.prog X.w) X.A X.xe (some (assign (.Name x pos') X.env)) (fun _ sE => wpAny (model X.prog X.w) X.A (pure ()) (fun _ s₁ => wpAny (model X.prog X.w) X.A (pure Flow.next) (SP X pins Dn) X.xe s₁) X.xe sE) (.ref s2.heap.objs.size) s3.heap.objs.size) s₃ := by
    rintro s₃ rfl
    refine codeAny_loop rfl (fun n s' => ∃ i σ' H', Inv (cxComp X scope cl NC fp s3.heap.objs.size s3 (upd H2 s2.heap.objs.size (.lst []))) [] σ' H' s' ∧ tn i s'.heap ∧ (∀ b ∈ fp, H' b = none) ∧ W i n σ' H') (fun n s' hI => ?_) m0
      ⟨0, _, _, by have z := IC (s2.toks + ([] : List (Str × Value)).length); rw [← hs3] at z ⊢; exact z, st1, fun b hb => (f3 b hb).1, w0⟩
    show wpAny _ X.A ((compTurn (.ListComp elt [⟨tg, iter, ifs, 0⟩] scope pos) 0 (.ref it) (.ref s2.heap.objs.size) (compEnvC scope cl s3.heap.objs.size X.env)).onRaise (fun x => do noteFrame x (compEnvC scope cl s3.heap.objs.size X.env); theTreesLotGoes x)) _ _ s'
    refine wpAny_noted ?_
    rw [compTurn_list]
    obtain ⟨i, σ3, H3, I3', st3, fr3, w3⟩ := hI
    rcases turn i n σ3 H3 w3 with ⟨stop, qn⟩ | ⟨go, N, hN, step⟩
    · refine wpAny_bind (wpAny_standAt (wpAny_bind (thn (T.done (cxComp X scope cl NC fp s3.heap.objs.size s3 (upd H2 s2.heap.objs.size (.lst []))) rfl rfl rfl hc i [] s' σ3 H3 _ I3' (stat fr3) st3 stop) fun r s4 ⟨hr, I4⟩ => ?_)))
      subst hr
      obtain ⟨m', hn', _⟩ := I4.loc
      refine wpAny_pure ?_
      show wpAny _ _ (do standAt pos'; bindName X.env x (.ref s2.heap.objs.size)) _ _ s4
      refine wpAny_bind (wpAny_standAt ?_)
      have IX : Inv X pins σ H3 s4 := comp_back I3 f3 I4 (Heap.SameBut.refl _ _)
      have fC : FpOk X pins H3 s3.heap.objs.size := I3.fpOk (Nat.le_refl _) I4.free
      obtain ⟨c0, c1, c2, c3, c4, c5⟩ := fC
      refine bind_name (store_ok2 IX hN hix hx (v := .ref s2.heap.objs.size) rfl (fun s5 I5 sb => ?_) hf)
      obtain ⟨aa, sb1, sb2⟩ := sb
      have nA : s3.heap.objs.size ≠ aa := by
        rcases sb2 with z | z
        · rw [z]; exact c1
        · exact Ne.symm (c4 x aa z)
      obtain ⟨oo, es, ep, g1, g2⟩ := hn'
      refine ⟨m', ⟨oo, es, ep, (sb1.2 _ nA).trans g1, g2⟩, fun h' hs' => wpAny_pure (wpAny_pure ⟨_, H3, I5.turned (t' := s5.toks) (fun b o hb e => (hs'.2 b hb).trans e) c0 c1 c3 c4 c5, qn⟩)⟩
    · refine wpAny_bind (wpAny_standAt (wpAny_bind (thn (T.item (cxComp X scope cl NC fp s3.heap.objs.size s3 (upd H2 s2.heap.objs.size (.lst []))) rfl rfl rfl hc i [] s' σ3 H3 _ I3' (stat fr3) st3 go) fun r s4 ⟨u, hr, h4⟩ => ?_)))
      subst hr
      refine wpAny_bind (thn h4 fun _ s5 ⟨x, H5, I5, r5, y5, st5, fr5⟩ => ?_)
      have I5' := I5.pinned (stat fr5) (T.obj _ _ st5)
      refine wpAny_bind (quietX (hg fp _ s3 _ _ s5 σ3 H5 x u _ I5' r5 (step x H5 y5)) fun _ s6 ⟨σ6, H6, I6, q6⟩ => ?_)
      have again : ∀ {s7 : Shared} {H7 : Hp}, Inv (cxComp X scope cl NC fp s3.heap.objs.size s3 (upd H2 s2.heap.objs.size (.lst []))) ([] ++ pinsAt fp s5.heap) σ6 H7 s7 → N σ6 H7 →
          ∃ m, m < n ∧ ∃ i σ' H', Inv (cxComp X scope cl NC fp s3.heap.objs.size s3 (upd H2 s2.heap.objs.size (.lst []))) [] σ' H' s7 ∧ tn i s7.heap ∧ (∀ b ∈ fp, H' b = none) ∧ W i m σ' H' := fun {s7 H7} I7 n7 => by
        obtain ⟨m', hm, w7⟩ := hN σ6 H7 n7
        refine ⟨m', hm, i + 1, σ6, H7, I7.unpinned, T.keep _ _ _ st5 fun b hb o e => (I7.pin (b, o) (List.mem_append_right _ (List.mem_append_right _ (mem_pinsAt hb e)))).1, fun b hb => ?_, w7⟩
        obtain ⟨o, e, d⟩ := T.obj _ _ st5 b hb
        exact (I7.pin (b, o) (List.mem_append_right _ (List.mem_append_right _ (mem_pinsAt hb e)))).2.1
      refine wpAny_bind (quietX (ht fp _ s3 _ _ s6 σ6 H6 _ I6 q6) fun ok s7 ⟨H7, I7, q7⟩ => ?_)
      cases ok with
      | false => exact wpAny_pure ⟨rfl, again I7 q7⟩
      | true =>
        refine wpAny_bind (wpAny_bind (quietX (he fp _ s3 _ _ s7 σ6 H7 _ I7 q7) fun u8 s8 ⟨v8, H8, I8, r8, ys, hy, hz, n8⟩ => ?_))
        refine wpAny_bind (quietX (mt_append _ s8 σ6 H8 (.ref s2.heap.objs.size) [v8] (.ref s2.heap.objs.size) [u8] (fun _ H9 => N σ6 H9) I8 rfl (.cons r8 .nil) ⟨_, ys, v8, rfl, rfl, hy, hz, n8⟩) fun _ s9 ⟨_, H9, I9, _, n9⟩ => ?_)
        exact wpAny_pure (wpAny_pure ⟨rfl, again I9 n9⟩)
  exact codeAny_compStart_list (loop _ rfl) (T.self _ 0 _ _ _ st1 (loop _ rfl))

theorem ix_tupK {X : Cx} {K : PySem.W.Frag} (hK : X.K = K) : IxR X (rIxT K) := hK ▸ ix_tup

end L2


namespace L2
open PySem PySem.Spec PyProof.Rows
def PSX (X : Cx) (b : List Stmt) (t : XK → TS) : Prop :=
  ∀ (E : XK) (pins : List (Addr × Obj)) (s : Shared) (σ : St) (H : Hp) (D : Ends), Inv X pins σ H s → t E D σ H →
    wpAny (model X.prog X.w) X.A (execs b X.env) (SP X pins D) (fun e s' => ∃ H1 s1, Inv X pins σ H1 s1 ∧ CXo X.prog X.w X.stack H1 s1 E e s') s
theorem psx_expr {X : Cx} {ce : Expr} {epos : Pos} {t : XK → TE} (hc : PEX X ce t) (hsw : swapsWith ce none epos.line X.env = pure false := by rfl) : PSX X [.Expr ce epos] (fun E D σ H => t E σ H fun _ H1 => D.nx σ H1) := fun E pins s σ H D I h => by
  refine wpAny_execs_cons (wpAny_Expr_any (wpAny_mono (hc E pins s σ H _ I h) (fun v s1 ⟨y, H1, I1, r1, q1⟩ => ?_) fun e s' hx => hx) I.quiet hsw)
  exact wpAny_execs_nil (show SP X pins D .next s1 from ⟨σ, H1, I1, q1⟩)
def cxAfter (X : Cx) (a : Addr) (oe : Obj) : Cx := { X with pn := X.pn ++ [(a, oe)] }
theorem Inv.afterS {X : Cx} {pins : List (Addr × Obj)} {σ : St} {H : Hp} {s : Shared} {a : Addr} {oe : Obj} (ok : X.Ok) (I : Inv (cxSuite X a oe) pins σ H s) : Inv (cxAfter X a oe) pins σ H s :=
  ⟨⟨ok.mod, ok.kind, ok.glob, ok.blt, ok.above, ok.inj, ok.has, ok.cab, ok.hd, ok.frames, ok.stk, ok.exf, ok.bs, ok.bsz, ok.noex, ok.exfs, ok.funs, ok.frf⟩, I.os, I.bare, I.base, I.loc, I.cell, I.free, I.freeC, I.pin, I.hok, I.len⟩
theorem Inv.unafter {X : Cx} {pins : List (Addr × Obj)} {σ : St} {H : Hp} {s : Shared} {a : Addr} {oe : Obj} (ok : X.Ok) (I : Inv (cxAfter X a oe) pins σ H s) : Inv X pins σ H s :=
  ⟨ok, I.os, I.bare, I.base, I.loc, I.cell, I.free, I.freeC, fun p hp => I.pin p (by
    show p ∈ (X.pn ++ [(a, oe)]) ++ pins
    rcases List.mem_append.mp hp with z | z
    · exact List.mem_append_left _ (List.mem_append_left _ z)
    · exact List.mem_append_right _ z), I.hok, I.len⟩
theorem call_isA {X : Cx} {a D : Addr} {oe : Obj} (he : oe.cls = .ref D) (Z : ExK X.K D) : CallR (cxAfter X a oe) (.builtin "isinstance") (fun xs H Q => ∃ c b, ((∃ c', c = V.ref c' ∧ PySem.W.kitOne X.K (.ref D) (.ref c') = some b) ∨ (∃ n, c = V.ty n ∧ PySem.W.kitOne X.K (.ref D) (.type n) = some b)) ∧ xs = [.ref a, c] ∧ Q (.bl b) H) := by
  intro pins s σ H xs us Q I r h
  obtain ⟨c, b, hc, rfl, q⟩ := h
  obtain ⟨u, v, rfl, ru, rv⟩ := r.two
  cases ru
  have hp := (I.pin (a, oe) (List.mem_append_left _ (List.mem_append_right _ (List.mem_singleton.mpr rfl)))).1
  have kin : X.K.In s.heap := I.kIn
  rcases hc with ⟨c', rfl, e⟩ | ⟨n, rfl, e⟩
  · cases rv
    exact PySem.W.kia_one (kitx_exc Z) kin ⟨oe, hp, he⟩ e (fun z => nomatch z) fun tk => ⟨.bl b, H, I.tok tk, rfl, q⟩
  · cases rv
    exact PySem.W.kia_one (kitx_exc Z) kin ⟨oe, hp, he⟩ e (fun z => nomatch z) fun tk => ⟨.bl b, H, I.tok tk, rfl, q⟩
def tTryR (K : PySem.W.Frag) (t : XK → TS) (c : Value) (i : Nat) (tb tr : Value → Addr → TS) : TS := fun D σ H => ∃ E : XK, t E { nx := fun _ _ => False, rt := D.rt } σ H ∧ ∀ cls H', E cls none H' → PySem.W.exmOne K cls c = some true ∧
  ∀ a, H' a = none → tb cls a { nx := fun σ' H2 => tr cls a D (σ'.set i none) H2, rt := D.rt } (σ.set i (some (.ref a))) H'
theorem pss_tryR {X : Cx} {body rest : List Stmt} {hpos pos np : Pos} {x n : Str} {b₀ : Stmt} {suite : List Stmt} {t : XK → TS} {C : Addr} {i : Nat} {tb tr : Value → Addr → TS} (O : Own X) (hN : X.N.Nodup) (hi : X.N[i]? = some n) (hloc : X.env.scope.names.lookup n = some .local)
    (hm : X.mg x = some (.ref C)) (hc : PSX X body t) (hb : ∀ cls a oe, oe.cls = cls → PSs (cxSuite X a oe) (b₀ :: suite) (tb cls a)) (hR : ∀ cls a oe, oe.cls = cls → PSs (cxAfter X a oe) rest (tr cls a)) (hg : Gl X x := by rfl) (hdb : (x == ("__debug__" : Str)) = false := by decide) :
    PSs X (.Try body [.ExceptHandler (some (.Name x np)) (some n) (b₀ :: suite) hpos] [] [] pos :: rest) (tTryR X.K t (.ref C) i tb tr) := by
  intro pins s σ H D I h
  obtain ⟨E, hbody, hcatch⟩ := h
  have hcls : (X.env.scope.kind == .class || (X.env.scope.kind == .module && X.env.locals != X.env.globals)) = false := by rw [I.ok.kind]; rfl
  have hfr : X.A.frames = some (X.env :: X.outer) := by rw [← O.top]; exact O.ok.frames
  refine wpAny_execs_cons (wpAny_Try_except (wpAny_mono (hc E pins s σ H _ I hbody) (fun f s1 q => ?_) fun e s' hx => ?_))
  · cases f with
    | next => obtain ⟨_, _, _, z⟩ := q; exact z.elim
    | brk => obtain ⟨_, _, _, z⟩ := q; exact z.elim
    | cont => obtain ⟨_, _, _, z⟩ := q; exact z.elim
    | ret v => exact q
  · obtain ⟨H1, s1, I1, a, cls, H', B, rfl, x0, hE⟩ := hx
    obtain ⟨hexm, hsuite⟩ := hcatch cls H' hE
    have st := x0.sta
    rw [O.top] at st
    have noex : ∀ b ∈ frs X.stack, b ∉ ([] : List Addr) := fun b _ => by simp
    refine sta_note hfr O.fr st fun h4 a0 k4 u4 => ?_
    have x4 := x0.move (l' := X.stack) u4 (by rw [O.top]; exact ⟨a0, .inr (.inr ⟨_, _, _, rfl, O.fr, k4⟩)⟩) (fun b hb => hb) (fun b o _ hb => hb) noex
    refine wpAny_landsW (s := { s' with heap := h4 }) k4 fun h5 k5 u5 => ?_
    have x5 := x4.move (l' := X.stack) u5 (by rw [O.top]; exact ⟨a0, .inr (.inl k5)⟩) (fun b hb => hb) (fun b o _ hb => hb) noex
    have I5 : Inv X pins σ H' { s' with heap := h5 } := I1.call' (ch := []) x5.os x5.un x5.hok x5.bare fun b hb => absurd hb (by simp)
    have mk : ∀ {h6 : Heap}, Heap.FlyingW B (X.env :: X.outer) a cls a0 h6 → XAt X.prog X.w X.stack [] H1 s1 B a cls H' { s' with heap := h6 } → ∃ oe, h6.get? a = some oe ∧ oe.cls = cls ∧ Inv (cxSuite X a oe) pins σ H' { s' with heap := h6 } := fun {h6} k6 x6 => by
      obtain ⟨oe, vs, e1, e2, e3, _⟩ := k6.first
      have I6 : Inv X pins σ H' { s' with heap := h6 } := I1.call' (ch := []) x6.os x6.un x6.hok x6.bare fun b hb => absurd hb (by simp)
      refine ⟨oe, e1, e2, I6.suite e1 x6.na (fun z => ?_) (fun z => ?_) fun v z => by rw [e3] at z; cases z⟩
      · obtain ⟨m, ⟨o', es, ep, ho', hd', _⟩, _⟩ := I6.loc
        rw [← z] at ho'
        have ho' : h6.get? a = some o' := ho'
        rw [e1] at ho'; cases ho'
        rw [e3] at hd'; cases hd'
      · obtain ⟨_, o', ho', hd'⟩ := I6.funs.mem z
        have ho' : h6.get? a = some o' := ho'
        rw [e1] at ho'; cases ho'
        exact hd' _ e3
    obtain ⟨oe5, e51, e52, J5⟩ := mk k5 x5
    refine wpAny_handleBy_cons (codeAny_handlers_test (ld_glob (X := cxSuite X a oe5) J5 hg hm ?_ hdb)) (by intro q; cases q)
    have LT : PySem.W.Looks (model X.prog X.w) h5 (typeOf (.ref a)) cls := by
      have z : PySem.W.Looks (model X.prog X.w) h5 (typeOf (.ref a)) oe5.cls := (PySem.W.Looks.ld (M := model X.prog X.w) e51).andThen .now
      rw [e52] at z
      exact z
    refine (PySem.W.exm_one (M := model X.prog X.w) (h := h5) I5.kIn LT hexm).at ?_
    show codeAny _ _ _ _ _
    refine codeAny_handlers_suite_as ?_
    refine lands_againW (s := { s' with heap := h5 }) k5 fun h6 k6 u6 => ?_
    have x6 := x5.move (l' := X.stack) u6 (by rw [O.top]; exact ⟨a0, .inr (.inl k6)⟩) (fun b hb => hb) (fun b o _ hb => hb) noex
    obtain ⟨oe, e61, e62, J6⟩ := mk k6 x6
    refine store_ok (X := cxSuite X a oe) (i := i) (v := .ref a) J6 hN hi (.inl hloc) rfl (fun s7 J7 => ?_) (.inr hloc)
    refine quietX (hb cls a oe e62 pins s7 _ H' _ J7 (hsuite a x6.na)) fun f s8 q8 => ?_
    have go : ∀ {σ8 : St} {H8 : Hp} {Q8 : Unit → Shared → Prop}, Inv (cxSuite X a oe) pins σ8 H8 s8 → (∀ s9, Inv (cxAfter X a oe) pins (σ8.set i none) H8 s9 → Q8 () s9) → wpAny (model X.prog X.w) X.A (do bindName X.env n .none; unbindBehindTheSuite X.env n hpos) Q8 X.xe s8 := fun {σ8 H8 Q8} J8 hq => by
      have I8 := J8.afterS O.ok
      obtain ⟨m, hn, _⟩ := id I8.loc
      refine wpAny_nameGoes_keeps hloc hn hcls fun h9 v hn9 hs9 => ?_
      refine hq _ (I8.unname (h' := h9) (m' := m) (t' := s8.toks + 1) hN hi (fun m2 hn2 => ?_) hs9)
      have em : m2 = m := by
        obtain ⟨o1, es1, ep1, g1, g2, g3, g4⟩ := hn
        obtain ⟨o2, es2, ep2, j1, j2, j3, j4⟩ := hn2
        rw [g1] at j1; cases j1
        rw [g2] at j2; cases j2
        funext y
        rw [← g4 y, ← j4 y]
      subst em
      exact ⟨v, hn9⟩
    cases f with
    | next =>
      obtain ⟨σ8, H8, J8, q8⟩ := q8
      refine go J8 fun s9 I9 => ?_
      refine wpAny_mono (hR cls a oe e62 pins s9 _ H8 D I9 q8) (fun f' s' q' => ?_) fun _ _ x => x
      cases f' with
      | next => obtain ⟨σ', H', I', q⟩ := q'; exact ⟨σ', H', I'.unafter O.ok, q⟩
      | brk => obtain ⟨σ', H', I', q⟩ := q'; exact ⟨σ', H', I'.unafter O.ok, q⟩
      | cont => obtain ⟨σ', H', I', q⟩ := q'; exact ⟨σ', H', I'.unafter O.ok, q⟩
      | ret u => obtain ⟨v, σ', H', I', r, q⟩ := q'; exact ⟨v, σ', H', I'.unafter O.ok, r, q⟩
    | brk => obtain ⟨σ8, H8, J8, q8⟩ := q8; exact q8.elim
    | cont => obtain ⟨σ8, H8, J8, q8⟩ := q8; exact q8.elim
    | ret u =>
      obtain ⟨v8, σ8, H8, J8, r8, q8⟩ := q8
      exact go J8 fun s9 I9 => ⟨v8, _, H8, I9.unafter O.ok, r8, q8⟩
end L2

namespace L2
open PySem PySem.Spec PyProof.Rows
section
variable {X : Cx}
theorem tup_items {s : Shared} {A : Around} {ns ms : List Int} {i1 i2 : List Value} (r1 : Vals (ns.map V.int) i1) (r2 : Vals (ms.map V.int) i2) (j : Nat) (h1 : j < i1.toArray.size) (h2 : j < i2.toArray.size) :
    SeqAt.EqAt A.in1 s i1.toArray[j] i2.toArray[j] (ns.getD j 0 == ms.getD j 0) := by
  have l1 : ns.length = i1.length := by have z := r1.length; rwa [List.length_map] at z
  have l2 : ms.length = i2.length := by have z := r2.length; rwa [List.length_map] at z
  have hj : j < ns.length := by simp only [List.size_toArray] at h1; omega
  have hj2 : j < ms.length := by simp only [List.size_toArray] at h2; omega
  obtain ⟨x1, e1, t1⟩ := vals_at r1 h1
  obtain ⟨x2, e2, t2⟩ := vals_at r2 h2
  rw [List.getElem?_map, List.getElem?_eq_getElem hj] at e1
  rw [List.getElem?_map, List.getElem?_eq_getElem hj2] at e2
  obtain rfl := Option.some.inj e1
  obtain rfl := Option.some.inj e2
  obtain ⟨k1, q1⟩ := t1
  obtain ⟨k2, q2⟩ := t2
  rw [q1, q2]
  have g1 : ns.getD j 0 = ns[j] := by simp [List.getD, List.getElem?_eq_getElem hj]
  have g2 : ms.getD j 0 = ms[j] := by simp [List.getD, List.getElem?_eq_getElem hj2]
  rw [g1, g2]
  exact SeqAt.EqAt.int_int (A := A.in1) (s := s) ns[j] k1 ms[j] k2
theorem tup_answer {ns ms : List Int} {i1 i2 : List Value} (r1 : Vals (ns.map V.int) i1) (r2 : Vals (ms.map V.int) i2) :
    ((List.range (min i1.toArray.size i2.toArray.size)).all (fun j => ns.getD j 0 == ms.getD j 0) && i1.toArray.size == i2.toArray.size) = decide (ns = ms) := by
  have l1 : ns.length = i1.length := by have z := r1.length; rwa [List.length_map] at z
  have l2 : ms.length = i2.length := by have z := r2.length; rwa [List.length_map] at z
  by_cases c : ns = ms
  · subst c
    rw [decide_eq_true rfl, Bool.and_eq_true]
    exact ⟨List.all_eq_true.mpr fun _ _ => beq_self_eq_true _, by simp only [List.size_toArray, ← l1, ← l2]; exact beq_self_eq_true _⟩
  · rw [decide_eq_false c]
    refine Bool.eq_false_iff.mpr fun z => c ?_
    rw [Bool.and_eq_true] at z
    have hl : ns.length = ms.length := by have z2 := eq_of_beq z.2; simp only [List.size_toArray] at z2; omega
    refine List.ext_getElem hl fun j q1 q2 => ?_
    have z2 := List.all_eq_true.mp z.1 j (List.mem_range.mpr (by simp only [List.size_toArray]; omega))
    have g1 : ns.getD j 0 = ns[j] := by simp [List.getD, List.getElem?_eq_getElem q1]
    have g2 : ms.getD j 0 = ms[j] := by simp [List.getD, List.getElem?_eq_getElem q2]
    rw [← g1, ← g2]
    exact eq_of_beq z2
def rTupD (K : PySem.W.Frag) (neg : Bool) : R2 := fun x y H Q => ∃ (a b : Addr) (ns ms : List Int), x = .ref a ∧ y = .ref b ∧ SqT K H a (ns.map V.int) ∧ SqT K H b (ms.map V.int) ∧ Q (.bl (if neg then !decide (ns = ms) else decide (ns = ms))) H
theorem op_ne_tupD (hu : X.A.units < cLine) : OpR X (compareOp .NotEq) (rTupD X.K true) := by
  intro pins s σ H x y v u Q I rx ry h
  obtain ⟨a, b, ns, ms, rfl, rfl, ha, hb, q⟩ := h
  cases rx
  cases ry
  obtain ⟨i1, r1, p1, z1⟩ := I.tuple ha
  obtain ⟨i2, r2, p2, z2⟩ := I.tuple hb
  refine SeqAt.RcNeAt.tuples (A := X.A) (e := fun j => ns.getD j 0 == ms.getD j 0) (show s.heap.IsTuple a i1.toArray from p1) (show s.heap.IsTuple b i2.toArray from p2) hu (fun j h1 h2 => tup_items r1 r2 j h1 h2) X.prog X.w X.xe _ ⟨.bl (!decide (ns = ms)), H, I, ?_, q⟩
  show Value.bool _ = Value.bool _
  congr 1
  rw [tup_answer r1 r2]
end
end L2


namespace L2
open PySem PySem.Spec PyProof.Rows
theorem vals_strs : ∀ {ts : List Str} {its : List Value}, Vals (ts.map V.str) its → ∃ l : List (Str × Tok), strValues l = its ∧ l.map (·.1) = ts
  | [], _, .nil => ⟨[], rfl, rfl⟩
  | t :: ts, _ :: _, .cons r v => by
    obtain ⟨tk, rfl⟩ := r
    obtain ⟨l, e1, e2⟩ := vals_strs v
    exact ⟨(t, tk) :: l, by rw [← e1]; rfl, by rw [← e2]; rfl⟩
theorem vals_of_strs : ∀ (l : List (Str × Tok)), Vals ((l.map (·.1)).map V.str) (strValues l)
  | [] => .nil
  | (x, t) :: l => .cons ⟨t, rfl⟩ (vals_of_strs l)
section
variable {X : Cx}
def rJoin : V → List V → Hp → VK → Prop := fun x vs H Q => ∃ (sep : Str) (l : Addr) (ts : List Str), x = .str sep ∧ vs = [.ref l] ∧ H l = some (.lst (ts.map V.str)) ∧ JoinOk sep ts = true ∧ Q (.str (Txt.join sep ts)) H
theorem mt_join : MtM X "str.join" rJoin := by
  intro pins s σ H x vs v us Q I rx rv h
  obtain ⟨sep, l, ts, rfl, rfl, hl, hok, q⟩ := h
  obtain ⟨t, rfl⟩ := rx
  obtain ⟨u, rfl, ru⟩ := rv.one
  cases ru
  obtain ⟨z, its, n, r, hlen, e⟩ := I.lstM hl
  obtain ⟨lt, e1, e2⟩ := vals_strs r
  refine SC.join (l := lt) (texts := ts) ⟨_, e, rfl, n, by rw [e1]⟩ e2 hok fun t' k => ⟨.str _, H, I.tok k, ⟨_, rfl⟩, q⟩
def rSplit : V → List V → Hp → VK → Prop := fun x vs H Q => ∃ (z sep : Str), x = .str z ∧ vs = [.str sep] ∧ (sep.length == 0) = false ∧ z.length ≤ sizeLine ∧ (Txt.split z sep).length ≤ sizeLine ∧ (Builtin.Str.partsBetween z (Builtin.Str.occurrences z sep 0 z.length (z.length + 1)) sep.length).length ≤ sizeLine ∧ ∀ p, H p = none → Q (.ref p) (upd H p (.lst ((Txt.split z sep).map V.str)))
theorem mt_split : MtM X "str.split" rSplit := by
  intro pins s σ H x vs v us Q I rx rv h
  obtain ⟨z, sep, rfl, rfl, hy, hz, hn, hn2, q⟩ := h
  obtain ⟨t, rfl⟩ := rx
  obtain ⟨u, rfl, ru⟩ := rv.one
  obtain ⟨tu, rfl⟩ := ru
  have fr : H s.heap.objs.size = none := I.hok.fresh (Nat.le_refl _)
  have fin : ∀ (l : List (Str × Tok)) (k : Nat), l.map (·.1) = Txt.split z sep → EP X pins σ Q (.ref s.heap.objs.size) { s with toks := k, heap := s.heap.push { cls := .type "list", data := .seq (strValues l).toArray } } := fun l k e => by
    refine ⟨.ref s.heap.objs.size, _, I.laid (t' := k) (o := .lst ((Txt.split z sep).map V.str)) (fun b ob q => Heap.get?_push_of_some _ q) (Nat.le_refl _) ⟨by rw [List.length_map]; exact hn, strValues l, 0, ?_, Heap.get?_push_size _ rfl⟩, rfl, q _ fr⟩
    rw [← e]
    exact vals_of_strs l
  cases h1 : (decide (z.length < sep.length) || decide (Builtin.Str.strKind z < Builtin.Str.strKind sep))
  · cases hf : (Builtin.Str.occurrences z sep 0 z.length (z.length + 1)).isEmpty
    · refine call_meets F.slot_str_split (typeIs_str _ _ _) F.entry_str_split (F.args_str_split_2 _ _) (meets_str_split_sep z sep t tu h1 hy hf hz hn2) ?_
      have e3 := strsFrom_eq s.toks (Builtin.Str.partsBetween z (Builtin.Str.occurrences z sep 0 z.length (z.length + 1)) sep.length)
      have e4 := fin (numbered s.toks (Builtin.Str.partsBetween z (Builtin.Str.occurrences z sep 0 z.length (z.length + 1)) sep.length)) (s.toks + (Builtin.Str.partsBetween z (Builtin.Str.occurrences z sep 0 z.length (z.length + 1)) sep.length).length) ((numbered_texts _ _).trans ((if_neg (ne_true_of_eq_false h1)).trans (if_neg (ne_true_of_eq_false hf))).symm)
      rw [← e3] at e4
      exact e4
    · exact call_meets F.slot_str_split (typeIs_str _ _ _) F.entry_str_split (F.args_str_split_2 _ _) (meets_str_split_not_found z sep t tu h1 hy hf) (fin [(z, t)] s.toks ((if_neg (ne_true_of_eq_false h1)).trans (if_pos hf)).symm)
  · exact call_meets F.slot_str_split (typeIs_str _ _ _) F.entry_str_split (F.args_str_split_2 _ _) (meets_str_split_cannot_occur z sep t tu h1) (fin [(z, t)] s.toks (if_pos h1).symm)
def part3 (z y : Str) : List Str := match Builtin.Str.occurrences z y 0 z.length 1 with
  | i :: _ => [Builtin.Str.strSub z 0 i, y, Builtin.Str.strSub z (i + y.length) z.length]
  | [] => [z, Str.empty, Str.empty]
def rPart : V → List V → Hp → VK → Prop := fun x vs H Q => ∃ (z y : Str), x = .str z ∧ vs = [.str y] ∧ (y.length == 0) = false ∧ z.length ≤ sizeLine ∧ ∀ p, H p = none → Q (.ref p) (upd H p (.tup ((part3 z y).map V.str)))
theorem mt_part : MtM X "str.partition" rPart := by
  intro pins s σ H x vs v us Q I rx rv h
  obtain ⟨z, y, rfl, rfl, hy, hz, q⟩ := h
  obtain ⟨t, rfl⟩ := rx
  obtain ⟨u, rfl, ru⟩ := rv.one
  obtain ⟨tu, rfl⟩ := ru
  have fr : H s.heap.objs.size = none := I.hok.fresh (Nat.le_refl _)
  have fin : ∀ (l : List (Str × Tok)) (k : Nat), l.map (·.1) = part3 z y → l.length = 3 → EP X pins σ Q (.ref s.heap.objs.size) { s with toks := k, heap := s.heap.push { cls := .type "tuple", data := .seq (strValues l).toArray } } := fun l k e e3 => by
    refine ⟨.ref s.heap.objs.size, _, I.laid (t' := k) (o := .tup ((part3 z y).map V.str)) (fun b ob q => Heap.get?_push_of_some _ q) (Nat.le_refl _) ⟨by rw [← e, List.length_map, List.length_map, e3]; decide, strValues l, ?_, IsTup.new _ _⟩, rfl, q _ fr⟩
    rw [← e]
    exact vals_of_strs l
  refine call_meets F.slot_str_partition (typeIs_str _ _ _) F.entry_str_partition (F.args_str_partition_2 _ _) (meets_str_partition z y t tu hy hz) ?_
  unfold part3 at fin
  cases ho : Builtin.Str.occurrences z y 0 z.length 1 with
  | nil =>
    rw [ho] at fin
    exact fin [(z, t), (Str.empty, s.toks), (Str.empty, s.toks)] (s.toks + 1) rfl rfl
  | cons i r =>
    rw [ho] at fin
    exact fin [(Builtin.Str.strSub z 0 i, s.toks), (y, tu), (Builtin.Str.strSub z (i + y.length) z.length, s.toks + 1)] (s.toks + 1 + 1) rfl rfl
theorem call_int_text : CallR X (.type "int") (fun xs H Q => ∃ (z : Str) (n : Int), xs = [.str z] ∧ PySem.intText? z = some n ∧ z.length ≤ 640 ∧ Q (.int n) H) := by
  intro pins s σ H xs us Q I r h
  obtain ⟨z, n, rfl, hn, hl, q⟩ := h
  obtain ⟨u, rfl, t, rfl⟩ := r.one
  exact PySem.W.KIN.call_text hn hl ⟨.int n, H, I.tok _, ⟨_, rfl⟩, q⟩
theorem range_alls (bs : List Bool) : ((List.range bs.length).all fun i => (bs[i]?).getD true) = bs.all id := by
  rw [Bool.eq_iff_iff, List.all_eq_true, List.all_eq_true]
  constructor
  · intro h b hb
    obtain ⟨i, hi, rfl⟩ := List.mem_iff_getElem.mp hb
    have z := h i (List.mem_range.mpr hi)
    rw [List.getElem?_eq_getElem hi] at z
    exact z
  · intro h i hi
    have hi := List.mem_range.mp hi
    rw [List.getElem?_eq_getElem hi]
    exact h _ (List.getElem_mem hi)
theorem call_all_bl (hc : X.calm = true) : CallR X (.builtin "all") (fun xs H Q => ∃ (p : Addr) (bs : List Bool), xs = [.ref p] ∧ H p = some (.lst (bs.map V.bl)) ∧ Q (.bl (bs.all id)) H) := by
  intro pins s σ H xs us Q I r h
  obtain ⟨p, bs, rfl, hp, q⟩ := h
  obtain ⟨u, rfl, ru⟩ := r.one
  cases ru
  obtain ⟨z, its, n, rv, hlen, e⟩ := I.lstM hp
  have hl : s.heap.IsList p its.toArray := ⟨_, e, rfl, n, rfl⟩
  have hlt : p < s.heap.objs.size := Heap.lt_size e
  have hbl : bs.length = its.length := by rw [← hlen, List.length_map]
  refine call_all_walk (wpAny_pyIter_list hl ⟨s.heap.objs.size, [s.heap.objs.size, p], [s.heap.objs.size], its.toArray.size, _, _, fun i => (bs[i]?).getD true, rfl, Walks.list (A := X.A.in1) (I.ok.hd hc) _ p (Nat.ne_of_lt hlt) its.toArray,
    ⟨⟨_, Heap.get?_push_size _ rfl, rfl, rfl⟩, hl.push _⟩, fun i v s' Q' E' hP hQ => ?_, fun h' tk hk => ?_⟩)
  · have hP : its[i]? = some v := by simpa using hP
    have hi : i < bs.length := by rw [hbl]; exact (List.getElem?_eq_some_iff.mp hP).1
    have eb : (bs.map V.bl)[i]? = some (.bl bs[i]) := by rw [List.getElem?_map, List.getElem?_eq_getElem hi]; rfl
    obtain ⟨u, e1, r1⟩ := rv.get eb
    rw [hP] at e1
    obtain rfl := Option.some.inj e1
    cases r1
    dsimp only at hQ
    rw [List.getElem?_eq_getElem hi] at hQ
    exact wpAny_truthy_bool hQ
  · have e2 : ((List.range its.toArray.size).all fun i => (bs[i]?).getD true) = bs.all id := by rw [List.size_toArray, ← hbl]; exact range_alls bs
    rw [e2]
    exact ⟨.bl _, H, I.kept (t' := tk) fun b o eb => hk b o (fun hm => by rw [List.mem_singleton.mp hm] at eb; exact Nat.lt_irrefl _ (Heap.lt_size eb)) (Heap.get?_push_of_some _ eb), rfl, q⟩
end
def Ascii (z : Str) : Prop := z.cps.all (· < 128) = true
def Its (z : Str) : It := ⟨fun i _ => i < z.length, fun i H x H' => H' = H ∧ ∃ c, z.cps[i]? = some c ∧ x = .str ⟨#[c]⟩, fun i _ => z.length ≤ i⟩
theorem turn_str {P : Program} {w : World} {K : PySem.W.Frag} {tg : Expr} (z : Str) (t : Tok) (it : Addr) : Turn P w K tg (Its z) [it] it (fun i h => h.IsStrIter it "str_ascii_iterator" z t i) where
  mem := by simp
  obj := fun i h st b hb => by
    have e : b = it := by simpa using hb
    subst e
    obtain ⟨o, e, c, d⟩ := st
    exact ⟨o, e, fun v z => by rw [d] at z; cases z⟩
  keep := fun i h h' st k => by
    obtain ⟨o, e, c, d⟩ := st
    exact ⟨o, k it (by simp) o e, c, d⟩
  item := by
    intro X hP hw hK hc i pins s σ H E I hf st hg
    subst hP hw hK
    have hg : i < z.length := hg
    have hx : z.cps[i]? = some (z.cps[i]'hg) := Array.getElem?_eq_getElem hg
    obtain ⟨f0, f1, f2, f3, f4, f5⟩ := hf it (by simp)
    refine wpAny_pyNext_ascii_item st hx fun h' st' sb => ?_
    have I1 : Inv X pins σ H { s with heap := h', toks := s.toks + 1 } := I.turned (t' := s.toks + 1) (fun b o hb e => (sb.2 b hb).trans e) f0 f1 f3 f4 f5
    obtain ⟨o, e, c, d⟩ := id st'
    exact ⟨_, rfl, go_of (s := { s with heap := h', toks := s.toks + 1 }) e c d (by decide) ⟨.str ⟨#[z.cps[i]'hg]⟩, H, I1, ⟨_, rfl⟩, ⟨rfl, _, hx, rfl⟩, st', fun b hb => (hf b hb).1⟩⟩
  done := by
    intro X hP hw hK hc i pins s σ H E I hf st hg
    subst hP hw hK
    have hg : z.length ≤ i := hg
    obtain ⟨f0, f1, f2, f3, f4, f5⟩ := hf it (by simp)
    exact wpAny_pyNext_ascii_end (I.ok.hd hc) st (Array.getElem?_eq_none hg) fun h' eb => ⟨rfl, I.turned (t' := s.toks) (fun b o hb e => eb b o hb e) f0 f1 f3 f4 f5⟩
  self := fun _ _ _ _ _ st h => wpAny_pyIter_striter_ascii st h
section
variable {X : Cx}
def iStr (te : TE) : TI := fun σ H R => te σ H fun x H1 => ∃ z, x = .str z ∧ Ascii z ∧ R (Its z) H1
theorem pi_str {e tg : Expr} {te : TE} (he : PE X e te) : PI X tg e (iStr te) := by
  intro pins s σ H R I h
  refine thn (he pins s σ H _ I h) fun v s1 ⟨x, H1, I1, r1, z, ex, ha, q⟩ => ?_
  subst ex
  obtain ⟨t, rfl⟩ := r1
  refine wpAny_pyIter_ascii ha ?_
  refine ⟨s1.heap.objs.size, [s1.heap.objs.size], _, _, H1, rfl, I1.kept (t' := s1.toks) fun b o e => Heap.get?_push_of_some _ e, turn_str z t _, ⟨_, Heap.get?_push_size _ rfl, rfl, rfl⟩, fun b hb => ?_, q⟩
  have e : b = s1.heap.objs.size := by simpa using hb
  subst e
  exact I1.fpOk (Nat.le_refl _) (I1.hok.fresh (Nat.le_refl _))
theorem comp_str {z : Str} {g : TG} {tt : TT} {te : TE} {D : Addr} {Q : VK} {σ₀ : St} {H₀ : Hp} (Pv : Nat → St → Hp → Prop) (h0 : Pv 0 σ₀ H₀)
    (hs : ∀ i c σ H, z.cps[i]? = some c → Pv i σ H → g (.str ⟨#[c]⟩) σ H fun σ3 H3 => tt σ3 H3 fun b H4 => if b = true then te σ3 H4 fun v H5 => ∃ ys, H5 D = some (.lst ys) ∧ ys.length < sizeLine ∧ Pv (i + 1) σ3 (upd H5 D (.lst (ys ++ [v]))) else Pv (i + 1) σ3 H4)
    (hd : ∀ σ H, Pv z.length σ H → Q (.ref D) H) : CompW (Its z) g tt te D Q σ₀ H₀ := by
  refine ⟨fun i m σ H => m = z.length - i ∧ i ≤ z.length ∧ Pv i σ H, ⟨z.length, by simp, Nat.zero_le _, h0⟩, ?_⟩
  rintro i m σ H ⟨rfl, hi, p⟩
  by_cases hlt : i < z.length
  · refine .inr ⟨hlt, Pv (i + 1), fun σ' H' p' => ⟨z.length - (i + 1), by omega, rfl, hlt, p'⟩, fun x H' y => ?_⟩
    obtain ⟨e, c, hc, rfl⟩ := y
    subst e
    exact hs i c σ _ hc p
  · have e : i = z.length := by omega
    subst e
    exact .inl ⟨Nat.le_refl _, hd σ H p⟩
def tF1 (te : TE) : TE := fun σ H Q => te σ H fun v H' => ∃ i : Int, v = .int i ∧ i.natAbs.log2 < 1920 ∧ Q (.str (Str.ofString (toString i))) H'
theorem pe_fs1 {a : Expr} {p1 pos : Pos} {te : TE} (ha : PE X a te) : PE X (.JoinedStr [.FormattedValue a (-1) none p1] pos) (tF1 te) := fun pins s σ H Q I hw => by
  refine JoinedStr_one (FormattedValue_plain (thn (ha pins s σ H _ I hw) fun u s1 ⟨v, H1, I1, r, i, ev, hi, q⟩ => ?_))
  subst ev
  obtain ⟨tk, rfl⟩ := r
  exact formatField_int_small hi ⟨.str _, H1, I1.tok _, ⟨_, rfl⟩, q⟩
def tF3 (ta : TE) (x : Str) (tb : TE) : TE := fun σ H Q => ta σ H fun v H1 => ∃ i : Int, v = .int i ∧ i.natAbs.log2 < 1920 ∧ tb σ H1 fun u H2 => ∃ k : Int, u = .int k ∧ k.natAbs.log2 < 1920 ∧ Q (.str (Str.empty ++ Str.ofString (toString i) ++ x ++ Str.ofString (toString k))) H2
theorem pe_fs3 {a b : Expr} {x : Str} {j} {p1 p2 p3 pos : Pos} {ta tb : TE} (ha : PE X a ta) (hb : PE X b tb) (hx : x.length ≤ 1000) : PE X (.JoinedStr [.FormattedValue a (-1) none p1, .Constant (.str x) j p2, .FormattedValue b (-1) none p3] pos) (tF3 ta x tb) := fun pins s σ H Q I hw => by
  have z : sizeLine = 16777216 := sizeLine_eq
  have e0 : Str.empty.length = 0 := rfl
  refine JoinedStr_many ?_
  show wpAny _ _ (joinParts Str.empty [eval (.FormattedValue a (-1) none p1) X.env, eval (.Constant (.str x) j p2) X.env, eval (.FormattedValue b (-1) none p3) X.env]) _ _ s
  refine joinParts_cons (FormattedValue_plain (thn (ha pins s σ H _ I hw) fun u s1 ⟨v, H1, I1, r, i, ev, hi, q⟩ => ?_))
  subst ev
  obtain ⟨tk, rfl⟩ := r
  have l1 := int_text_length_le (k := 1920) (by decide) hi
  have e1 : (Str.empty ++ Str.ofString (toString i)).length = (toString i).length := by rw [strLen_append, PySem.ofString_length, e0]; omega
  refine formatField_int_small hi ⟨by rw [e1]; omega, ?_⟩
  have e2 : (Str.empty ++ Str.ofString (toString i) ++ x).length = (toString i).length + x.length := by rw [strLen_append, e1]
  refine joinParts_cons (Calls.Constant_str ⟨by rw [e2]; omega, ?_⟩)
  refine joinParts_cons (FormattedValue_plain (thn (hb pins _ σ H1 _ ((I1.tok _).tok _) q) fun u s2 ⟨v, H2, I2, r, k, ev, hk, q2⟩ => ?_))
  subst ev
  obtain ⟨tk2, rfl⟩ := r
  have l2 := int_text_length_le (k := 1920) (by decide) hk
  have e3 : (Str.empty ++ Str.ofString (toString i) ++ x ++ Str.ofString (toString k)).length = (toString i).length + x.length + (toString k).length := by rw [strLen_append, e2, PySem.ofString_length]
  refine formatField_int_small hk ⟨by rw [e3]; omega, ?_⟩
  exact joinParts_nil ⟨.str _, H2, (I2.tok _).tok _, ⟨_, rfl⟩, q2⟩ (by rw [e3]; omega)
def jSv (te : TE) (t : St → Hp → Prop) : St → Hp → Prop := fun σ H => te σ H fun v H' => H' = H ∧ (∃ z : Str, v = .str z ∧ z.length ≤ 5000 ∧ Ascii z) ∧ t σ H
theorem pj_sv {a : Expr} {pos : Pos} {es : List Expr} {m : Nat} {t : St → Hp → Prop} {te : TE} (ha : PE X a te) (h : PJ X es m t) : PJ X (.FormattedValue a (-1) none pos :: es) (60000 + m) (jSv te t) := fun pins s σ H out Q I ht hz q => by
  show wpAny _ _ (joinParts out (eval (.FormattedValue a (-1) none pos) X.env :: evalEach es X.env)) Q _ s
  refine joinParts_cons (FormattedValue_plain (thn (ha pins s σ H _ I ht) fun u s1 h1 => ?_))
  obtain ⟨v, H1, I1, r, rfl, ⟨z, rfl, hz2, _⟩, ht1⟩ := h1
  obtain ⟨tk, rfl⟩ := r
  have e : (out ++ z).length = out.length + z.length := strLen_append _ _
  have fin : ∀ (t' : Tok) (k' : Nat), (out ++ z).length ≤ sizeLine ∧ wpAny (model X.prog X.w) X.A (joinParts (out ++ z) (evalEach es X.env)) Q X.xe { s1 with toks := k' } := fun t' k' => ⟨by rw [e]; omega, h pins _ σ H1 (out ++ z) Q (I1.tok _) ht1 (by rw [e]; omega) q⟩
  exact SB.field_str (fun t' k' => fin t' k') (Nat.le_trans hz2 (by decide))
theorem pj_rv {a : Expr} {pos : Pos} {es : List Expr} {m : Nat} {t : St → Hp → Prop} {te : TE} (ha : PE X a te) (h : PJ X es m t) : PJ X (.FormattedValue a 114 none pos :: es) (60000 + m) (jSv te t) := fun pins s σ H out Q I ht hz q => by
  show wpAny _ _ (joinParts out (eval (.FormattedValue a 114 none pos) X.env :: evalEach es X.env)) Q _ s
  refine joinParts_cons (wpAny_FormattedValue_repr (thn (ha pins s σ H _ I ht) fun u s1 h1 => ?_))
  obtain ⟨v, H1, I1, r, rfl, ⟨z, rfl, hz2, hz3⟩, ht1⟩ := h1
  obtain ⟨tk, rfl⟩ := r
  have lr : (reprText z).length ≤ 10 * z.length + 2 := StrLaws.reprText_len z fun c hc => by
    have z3 : z.cps.toList.all (· < 128) = true := by rw [Array.all_toList]; exact hz3
    have := of_decide_eq_true (List.all_eq_true.mp z3 c hc)
    omega
  have e : (out ++ reprText z).length = out.length + (reprText z).length := strLen_append _ _
  have fin : ∀ (t' : Tok) (k' : Nat), (out ++ reprText z).length ≤ sizeLine ∧ wpAny (model X.prog X.w) X.A (joinParts (out ++ reprText z) (evalEach es X.env)) Q X.xe { s1 with toks := k' } := fun t' k' => ⟨by rw [e]; omega, h pins _ σ H1 (out ++ reprText z) Q (I1.tok _) ht1 (by rw [e]; omega) q⟩
  have szz : (reprText z).length ≤ sizeLine := Nat.le_trans (show (reprText z).length ≤ 100000 by omega) (by decide)
  exact pyReprObj_str (SB.field_str (s := { s1 with toks := s1.toks + 1 }) (fun t' k' => fin t' k') szz) szz
end
end L2

namespace Sx
open PySem Builtin Builtin.Str StrLaws
def tl (s : PySem.Str) : List Nat := s.cps.toList
theorem ext {a b : PySem.Str} (h : tl a = tl b) : a = b := by
  obtain ⟨⟨x⟩⟩ := a
  obtain ⟨⟨y⟩⟩ := b
  have h : x = y := h
  rw [h]
theorem tl_app (a b : PySem.Str) : tl (a ++ b) = tl a ++ tl b := by
  show (a.cps ++ b.cps).toList = _
  exact Array.toList_append
theorem tl_len (a : PySem.Str) : (tl a).length = a.length := rfl
def splitL (c : Nat) : List Nat → List (List Nat)
  | [] => [[]]
  | a :: r => if a = c then [] :: splitL c r else match splitL c r with
    | [] => [[a]]
    | p :: q => (a :: p) :: q
def joinL (c : Nat) : List (List Nat) → List Nat
  | [] => []
  | [w] => w
  | w :: v :: r => w ++ c :: joinL c (v :: r)
theorem splitL_plain {c : Nat} : ∀ {w : List Nat}, c ∉ w → splitL c w = [w]
  | [], _ => rfl
  | a :: r, h => by
    have h1 : a ≠ c := fun e => h (e ▸ List.mem_cons_self)
    have h2 : c ∉ r := fun z => h (List.mem_cons_of_mem _ z)
    conv => lhs; unfold splitL
    rw [if_neg h1, splitL_plain h2]
theorem splitL_at {c : Nat} : ∀ {p q : List Nat}, c ∉ p → splitL c (p ++ c :: q) = p :: splitL c q
  | [], q, _ => by
    show splitL c (c :: q) = _
    conv => lhs; unfold splitL
    rw [if_pos rfl]
  | a :: r, q, h => by
    have h1 : a ≠ c := fun e => h (e ▸ List.mem_cons_self)
    have h2 : c ∉ r := fun z => h (List.mem_cons_of_mem _ z)
    show splitL c (a :: (r ++ c :: q)) = _
    conv => lhs; unfold splitL
    rw [if_neg h1, splitL_at h2]
theorem split_join {c : Nat} : ∀ {ws : List (List Nat)}, ws ≠ [] → (∀ w ∈ ws, c ∉ w) → splitL c (joinL c ws) = ws
  | [], h, _ => absurd rfl h
  | [w], _, h => splitL_plain (h w List.mem_cons_self)
  | w :: v :: r, _, h => by
    show splitL c (w ++ c :: joinL c (v :: r)) = _
    rw [splitL_at (h w List.mem_cons_self), split_join (by simp) fun x hx => h x (List.mem_cons_of_mem _ hx)]
theorem tl_join (c : Nat) : ∀ ts : List PySem.Str, tl (PySem.Str.join ⟨#[c]⟩ ts) = joinL c (ts.map tl)
  | [] => rfl
  | [t] => rfl
  | t :: u :: r => by
    show tl (t ++ ⟨#[c]⟩ ++ PySem.Str.join ⟨#[c]⟩ (u :: r)) = tl t ++ c :: joinL c ((u :: r).map tl)
    rw [tl_app, tl_app, tl_join c (u :: r), List.append_assoc]
    rfl
inductive Cuts (x : PySem.Str) (c : Nat) : Nat → List Nat → Prop
  | nil {s : Nat} : (∀ i, s ≤ i → (tl x)[i]? ≠ some c) → Cuts x c s []
  | cons {s k : Nat} {r : List Nat} : s ≤ k → (∀ i, s ≤ i → i < k → (tl x)[i]? ≠ some c) → (tl x)[k]? = some c → Cuts x c (k + 1) r → Cuts x c s (k :: r)
theorem parts_cuts {x : PySem.Str} {c : Nat} : ∀ {cuts : List Nat} {s : Nat}, Cuts x c s cuts → s ≤ x.length → (partsFrom x 1 s cuts).map tl = splitL c ((tl x).drop s)
  | [], s, h, hs => by
    cases h with
    | nil h =>
      have e : tl (strSub x s x.length) = (tl x).drop s := by
        have z := strSub_toList x s x.length
        show (strSub x s x.length).cps.toList = _
        rw [z]
        exact List.take_of_length_le (by rw [List.length_drop]; exact Nat.le_refl _)
      show [tl (strSub x s x.length)] = _
      rw [e, splitL_plain]
      intro m
      obtain ⟨i, hi⟩ := List.mem_iff_getElem?.mp m
      rw [List.getElem?_drop] at hi
      exact h (s + i) (by omega) hi
  | k :: r, s, h, hs => by
    cases h with
    | cons h1 h2 h3 h4 =>
      have hk : k < x.length := (List.getElem?_eq_some_iff.mp h3).1
      have e : tl (strSub x s k) = ((tl x).drop s).take (k - s) := strSub_toList x s k
      show tl (strSub x s k) :: (partsFrom x 1 (k + 1) r).map tl = _
      rw [parts_cuts h4 (by omega), e]
      have d : (tl x).drop s = ((tl x).drop s).take (k - s) ++ c :: (tl x).drop (k + 1) := by
        conv => lhs; rw [← List.take_append_drop (k - s) ((tl x).drop s)]
        congr 1
        rw [List.drop_drop, show s + (k - s) = k by omega, List.drop_eq_getElem_cons (show k < (tl x).length from hk)]
        congr 1
        have z := h3
        rw [List.getElem?_eq_getElem (show k < (tl x).length from hk)] at z
        exact Option.some.inj z
      conv => rhs; rw [d]
      rw [splitL_at]
      intro m
      obtain ⟨i, hi⟩ := List.mem_iff_getElem?.mp m
      have hik : i < k - s := by
        have z := (List.getElem?_eq_some_iff.mp hi).1
        rw [List.length_take] at z
        omega
      rw [List.getElem?_take_of_lt hik, List.getElem?_drop] at hi
      exact h2 (s + i) (by omega) (by omega) hi
theorem subAt_one (x : PySem.Str) (c i : Nat) (hi : i < x.length) : subAt x ⟨#[c]⟩ i = decide ((tl x)[i]? = some c) := by
  rw [subAt_eq]
  show (((tl x).drop i).take 1 == [c]) = _
  rw [List.drop_eq_getElem_cons (show i < (tl x).length from hi), List.getElem?_eq_getElem (show i < (tl x).length from hi)]
  show ([(tl x)[i]] == [c]) = decide (some (tl x)[i] = some c)
  by_cases e : (tl x)[i] = c
  · rw [e]; simp
  · simp [e]
theorem scan (x : PySem.Str) (c : Nat) : ∀ (m a : Nat) (st : Array Nat × Nat), a + m = x.length + 1 → st.2 ≤ a → st.1.size ≤ a → (forIn (List.range' a m) st (occBody x ⟨#[c]⟩ x.length (x.length + 1))).run.fst.toList = st.1.toList ++ (List.range' a m).filter (fun i => decide ((tl x)[i]? = some c))
  | 0, a, st, _, _, _ => by simp
  | m + 1, a, st, h1, h2, h3 => by
    rw [List.range'_succ, List.forIn_cons, List.filter_cons]
    have one : (⟨#[c]⟩ : PySem.Str).length = 1 := rfl
    by_cases e : (tl x)[a]? = some c
    · have ha : a < x.length := (List.getElem?_eq_some_iff.mp e).1
      have hc : ((st.1.size < x.length + 1 ∧ st.2 ≤ a) ∧ a + (⟨#[c]⟩ : PySem.Str).length ≤ x.length) ∧ subAt x ⟨#[c]⟩ a = true := ⟨⟨⟨by omega, h2⟩, by rw [one]; omega⟩, by rw [subAt_one x c a ha]; exact decide_eq_true e⟩
      rw [if_pos (decide_eq_true e)]
      unfold occBody
      rw [if_pos hc]
      show (forIn (List.range' (a + 1) m) (st.1.push a, a + 1) (occBody x ⟨#[c]⟩ x.length (x.length + 1))).run.fst.toList = _
      rw [scan x c m (a + 1) _ (by omega) (Nat.le_refl _) (by rw [Array.size_push]; omega), Array.toList_push, List.append_assoc]
      rfl
    · have hc : ¬ (((st.1.size < x.length + 1 ∧ st.2 ≤ a) ∧ a + (⟨#[c]⟩ : PySem.Str).length ≤ x.length) ∧ subAt x ⟨#[c]⟩ a = true) := fun z => by
        have ha : a < x.length := by have := z.1.2; rw [one] at this; omega
        have y := z.2
        rw [subAt_one x c a ha] at y
        exact e (of_decide_eq_true y)
      have ed : ¬ decide ((tl x)[a]? = some c) = true := fun z => e (of_decide_eq_true z)
      rw [if_neg ed]
      unfold occBody
      rw [if_neg hc]
      show (forIn (List.range' (a + 1) m) (st.1, st.2) (occBody x ⟨#[c]⟩ x.length (x.length + 1))).run.fst.toList = _
      exact scan x c m (a + 1) _ (by omega) (by show st.2 ≤ a + 1; omega) (by show st.1.size ≤ a + 1; omega)
theorem cuts_less {x : PySem.Str} {c a : Nat} (e : ¬ (tl x)[a]? = some c) {r : List Nat} (q : Cuts x c (a + 1) r) : Cuts x c a r := by
  cases q with
  | nil q =>
    refine .nil fun i hi => ?_
    by_cases z : i = a
    · rw [z]; exact e
    · exact q i (by omega)
  | cons q1 q2 q3 q4 =>
    refine .cons (by omega) (fun i h1 h2 => ?_) q3 q4
    by_cases z : i = a
    · rw [z]; exact e
    · exact q2 i (by omega) h2
theorem cuts_filter (x : PySem.Str) (c : Nat) : ∀ (m a : Nat), a + m = x.length + 1 → Cuts x c a ((List.range' a m).filter (fun i => decide ((tl x)[i]? = some c)))
  | 0, a, h => .nil fun i hi z => by
    have := (List.getElem?_eq_some_iff.mp z).1
    rw [tl_len] at this
    omega
  | m + 1, a, h => by
    rw [List.range'_succ, List.filter_cons]
    have ih := cuts_filter x c m (a + 1) (by omega)
    by_cases e : (tl x)[a]? = some c
    · rw [if_pos (decide_eq_true e)]
      exact .cons (Nat.le_refl _) (fun i h1 h2 => by omega) e ih
    · rw [if_neg (fun z => e (of_decide_eq_true z))]
      exact cuts_less e ih
theorem occ_cuts (x : PySem.Str) (c : Nat) : Cuts x c 0 (occurrences x ⟨#[c]⟩ 0 x.length (x.length + 1)) := by
  rw [occ_eq, scan x c _ 0 (#[], 0) (by omega) (Nat.le_refl _) (Nat.le_refl _)]
  exact cuts_filter x c _ 0 (by omega)
theorem kind_ascii {x : PySem.Str} (h : L2.Ascii x) : Builtin.Str.strKind x = 1 := by
  unfold Builtin.Str.strKind
  rw [if_pos]
  have h : x.cps.all (· < 128) = true := h
  rw [Array.all_eq_true] at h ⊢
  intro i hi
  have z := of_decide_eq_true (h i hi)
  exact decide_eq_true (by omega)
theorem split_tl {x : PySem.Str} {c : Nat} (h : L2.Ascii x) (hc : c < 128) : (Txt.split x ⟨#[c]⟩).map tl = splitL c (tl x) := by
  have key := parts_cuts (occ_cuts x c) (Nat.zero_le _)
  rw [List.drop_zero] at key
  have hk : Builtin.Str.strKind (⟨#[c]⟩ : PySem.Str) = 1 := kind_ascii (by show (#[c]).all (· < 128) = true; simpa using hc)
  unfold Txt.split
  rw [kind_ascii h, hk]
  have whole : occurrences x ⟨#[c]⟩ 0 x.length (x.length + 1) = [] → [tl x] = splitL c (tl x) := fun e => by
    have z := occ_cuts x c
    rw [e] at z
    cases z with
    | nil z => rw [splitL_plain (fun m => by obtain ⟨i, hi⟩ := List.mem_iff_getElem?.mp m; exact z i (Nat.zero_le _) hi)]
  split
  · rename_i h1
    refine whole ?_
    have hz : x.length = 0 := by
      simp at h1
      have e1 : (⟨#[c]⟩ : PySem.Str).length = 1 := rfl
      omega
    have z := occ_cuts x c
    cases e : occurrences x ⟨#[c]⟩ 0 x.length (x.length + 1) with
    | nil => rfl
    | cons k r =>
      rw [e] at z
      cases z with
      | cons _ _ z3 _ =>
        have := (List.getElem?_eq_some_iff.mp z3).1
        rw [tl_len] at this
        omega
  · split
    · rename_i h2
      exact whole (List.isEmpty_iff.mp h2)
    · rw [partsBetween_eq]
      exact key
theorem splitL_len (c : Nat) : ∀ l : List Nat, (splitL c l).length ≤ l.length + 1
  | [] => Nat.le_refl _
  | a :: r => by
    have ih := splitL_len c r
    unfold splitL
    split
    · simp; omega
    · split
      · simp
      · rename_i p q e
        rw [e] at ih
        simp at ih ⊢
        omega
end Sx


namespace Mir
open PySem L2

theorem take_snoc {α : Type} {l : List α} {i : Nat} {x : α} (h : l[i]? = some x) : l.take (i + 1) = l.take i ++ [x] := by
  rw [List.take_add_one, h]; rfl
def spWhole : Sp := fun vs H Q _ => ∃ e : Int, vs = [.int e] ∧ Q (.bl true) H
end Mir


namespace Mir
open PySem L2
def spCellAt (K : PySem.W.Frag) : Sp := fun vs H Q _ => ∃ (a : Addr) (ns : List Int) (k : Nat), vs = [.ref a, .int k] ∧ SqL K H a (ns.map V.int) ∧ ∀ i : Int, Q (.int i) H
theorem cutV_ints (ns : List Int) (lo hi : Option Int) : ∃ cs : List Int, cutV (ns.map V.int) lo hi = cs.map V.int ∧ cs.length ≤ ns.length := by
  have h := cutV_length (ns.map V.int) lo hi
  rw [List.length_map] at h
  unfold cutV at h ⊢
  rw [← List.map_drop, ← List.map_take] at h ⊢
  exact ⟨_, rfl, by rw [List.length_map] at h; exact h⟩
end Mir




namespace Mir
open PySem L2
def Sm (i : Int) : Prop := i.natAbs < 10 ^ 40
theorem Sm.log {i : Int} (h : Sm i) : i.natAbs.log2 < 1920 := by
  unfold Sm at h
  by_cases z : i.natAbs = 0
  · rw [z]; decide
  · exact (Nat.log2_lt z).mpr (Nat.lt_of_lt_of_le h (by decide +kernel))
theorem Sm.of {i : Int} (h1 : -(10 ^ 32 : Int) < i) (h2 : i < (10 ^ 32 : Int)) : Sm i := by
  unfold Sm
  have e : (10 : Nat) ^ 40 = 100000000 * 10 ^ 32 := by decide +kernel
  rw [e]
  omega
def ClT (H : Hp) (l : Addr) (cs : List (Int × Int)) : Prop :=
  ∃ ts : List Addr, H l = some (.lst (ts.map V.ref)) ∧ ts.length = cs.length ∧ ∀ (i : Nat) (t : Addr) (p : Int × Int), ts[i]? = some t → cs[i]? = some p → H t = some (.tup [.int p.1, .int p.2])
theorem ClT.same {H H' : Hp} {l : Addr} {cs : List (Int × Int)} (h : ClT H l cs) (s : Same H H') : ClT H' l cs := by
  obtain ⟨ts, h1, h2, h3⟩ := h
  exact ⟨ts, s _ _ h1, h2, fun i t p e1 e2 => s _ _ (h3 i t p e1 e2)⟩
theorem ClT.nil {H : Hp} {l : Addr} (h : H l = some (.lst [])) : ClT H l [] := ⟨[], h, rfl, fun i t r e => by simp at e⟩
theorem ClT.snoc {H : Hp} {l t : Addr} {cs : List (Int × Int)} {p : Int × Int} (h : ClT H l cs) (ht : H t = some (.tup [.int p.1, .int p.2])) : ∃ xs, H l = some (.lst xs) ∧ xs.length = cs.length ∧ ClT (upd H l (.lst (xs ++ [.ref t]))) l (cs ++ [p]) := by
  obtain ⟨ts, h1, h2, h3⟩ := h
  refine ⟨_, h1, by rw [List.length_map]; exact h2, ts ++ [t], by rw [upd_same, List.map_append]; rfl, by rw [List.length_append, List.length_append, h2]; rfl, fun i u q e1 e2 => ?_⟩
  have key : H u = some (.tup [.int q.1, .int q.2]) := by
    by_cases hi : i < ts.length
    · rw [List.getElem?_append_left hi] at e1
      rw [List.getElem?_append_left (by omega)] at e2
      exact h3 i u q e1 e2
    · have hil := (List.getElem?_eq_some_iff.mp e1).1
      rw [List.length_append, List.length_singleton] at hil
      have e : i = ts.length := by omega
      subst e
      rw [List.getElem?_append_right (Nat.le_refl _), Nat.sub_self] at e1
      rw [List.getElem?_append_right (by omega), h2, Nat.sub_self] at e2
      obtain rfl : t = u := Option.some.inj e1
      obtain rfl : p = q := Option.some.inj e2
      exact ht
  rw [upd_ne (fun e => by rw [e, h1] at key; cases key)]
  exact key
end Mir






namespace Sx
open PySem Builtin Builtin.Str StrLaws
def dg (m : Nat) : List Nat := (Nat.toDigits 10 m).map Char.toNat
theorem tl_num (m : Nat) : tl (PySem.Str.ofString (toString ((m : Nat) : Int))) = dg m := PySem.W.KIN.signs_num m
end Sx

namespace Sx
open PySem Builtin Builtin.Str StrLaws L2 Mir
theorem len_tl (z : PySem.Str) : z.length = (tl z).length := rfl
theorem join_tl (ts : List PySem.Str) : tl (Txt.join ⟨#[32]⟩ ts) = joinL 32 (ts.map tl) := by
  show tl (glued ⟨#[32]⟩ ts) = _
  rw [glued_eq_join, tl_join]
theorem fold_le (d m : Nat) : ∀ (ts : List PySem.Str) (i : Nat), (∀ t ∈ ts, t.length ≤ m) → ts.foldl (fun n (t : PySem.Str) => n + t.length + d) i ≤ i + ts.length * (m + d)
  | [], i, _ => by simp
  | t :: r, i, h => by
    have z := fold_le d m r (i + t.length + d) fun x hx => h x (List.mem_cons_of_mem _ hx)
    have y := h t List.mem_cons_self
    rw [List.foldl_cons, List.length_cons, Nat.succ_mul]
    omega
theorem join_ok {ts : List PySem.Str} (h1 : ts.length ≤ 1000) (h2 : ∀ t ∈ ts, t.length ≤ 1000) : JoinOk ⟨#[32]⟩ ts = true := by
  have z := fold_le 1 1000 ts 0 h2
  have y : ts.length * (1000 + 1) ≤ 1000 * 1001 := Nat.mul_le_mul_right _ h1
  unfold JoinOk
  rw [List.foldl_toArray]
  have e : tooLong (ts.foldl (fun n (t : PySem.Str) => n + t.length + (⟨#[32]⟩ : PySem.Str).length) 0) = false := by
    unfold tooLong
    refine decide_eq_false ?_
    show ¬ ts.foldl (fun n (t : PySem.Str) => n + t.length + 1) 0 > 2 ^ 24
    have : (2 : Nat) ^ 24 = 16777216 := by decide
    omega
  rw [e]
  rfl
theorem blank : (" " : PySem.Str) = ⟨#[32]⟩ := by decide +kernel
theorem minus : ("-" : PySem.Str) = ⟨#[45]⟩ := by decide +kernel
theorem joinL_len {c m : Nat} : ∀ {ws : List (List Nat)}, (∀ w ∈ ws, w.length ≤ m) → (joinL c ws).length ≤ ws.length * (m + 1)
  | [], _ => Nat.zero_le _
  | [w], h => by
    have := h w List.mem_cons_self
    show w.length ≤ 1 * (m + 1)
    omega
  | w :: v :: r, h => by
    have z := joinL_len (c := c) (ws := v :: r) fun x hx => h x (List.mem_cons_of_mem _ hx)
    have y := h w List.mem_cons_self
    show (w ++ c :: joinL c (v :: r)).length ≤ _
    rw [List.length_append, List.length_cons, List.length_cons (a := w), Nat.succ_mul]
    omega
def spWordsT : Sp := fun vs H Q _ => ∃ (l : Addr) (ts : List PySem.Str), vs = [.ref l] ∧ H l = some (.lst (ts.map V.str)) ∧ ts.length ≤ 1000 ∧ (∀ t ∈ ts, t.length ≤ 1000) ∧ ∀ z, tl z = (if ts = [] then [46] else joinL 32 (ts.map tl)) → Q (.str z) H
def spWordsOf : Sp := fun vs H Q _ => ∃ (z : PySem.Str), vs = [.str z] ∧ Ascii z ∧ z.length ≤ 10000 ∧ ∀ (l : Addr) (ws : List PySem.Str) (H' : Hp), H l = none → Same H H' → H' l = some (.lst (ws.map V.str)) → ws.map tl = (if tl z = [46] then [] else splitL 32 (tl z)) → Q (.ref l) H'
end Sx
namespace Sx
open PySem Builtin Builtin.Str StrLaws L2 Mir
theorem dot : tl ("." : PySem.Str) = [46] := by decide +kernel
theorem eq_dot {z : PySem.Str} : z = "." ↔ tl z = [46] := ⟨fun h => by rw [h]; exact dot, fun h => ext (by rw [h, dot])⟩
theorem split_len {z : PySem.Str} (h : Ascii z) : (Txt.split z ⟨#[32]⟩).length ≤ z.length + 1 := by
  have e := congrArg List.length (split_tl (c := 32) h (by decide))
  rw [List.length_map] at e
  rw [e]
  exact splitL_len 32 (tl z)
theorem parts_len (z : PySem.Str) : (partsBetween z (occurrences z ⟨#[32]⟩ 0 z.length (z.length + 1)) (⟨#[32]⟩ : PySem.Str).length).length ≤ z.length + 1 := by
  rw [partsBetween_eq]
  have e := congrArg List.length (parts_cuts (occ_cuts z 32) (Nat.zero_le _))
  rw [List.length_map] at e
  show (partsFrom z 1 0 _).length ≤ _
  rw [e]
  exact splitL_len 32 _
def FIG : PySem.Str := "0123456789"
theorem is_num {z : PySem.Str} {m : Nat} (h : tl z = dg m) : z = PySem.Str.ofString (toString ((m : Nat) : Int)) := ext (by rw [h, tl_num])
theorem ascii_of {z : PySem.Str} (h : ∀ c ∈ tl z, c < 128) : Ascii z := by
  show z.cps.all (· < 128) = true
  rw [← Array.all_toList, List.all_eq_true]
  exact fun c hc => decide_eq_true (h c hc)
end Sx
namespace L2
theorem bb_all : PySem.bootBuiltins "all" = some (.builtin "all") := by decide +kernel
theorem bb_str : PySem.bootBuiltins "str" = some (.type "str") := by decide +kernel
theorem iteD {c A B : Prop} [Decidable c] (hc : ¬ c) (h : B) : if decide c = true then A else B := by
  rw [if_neg (fun z => hc (of_decide_eq_true z))]
  exact h
theorem iteE {c A B : Prop} [Decidable c] (hc : c) (h : A) : if decide c = true then A else B := by
  rw [if_pos (decide_eq_true hc)]
  exact h
end L2

namespace Sx
open PySem Builtin Builtin.Str StrLaws L2 Mir
theorem scan_full (x : PySem.Str) (c : Nat) : ∀ (m a : Nat) (st : Array Nat × Nat), 1 ≤ st.1.size → (forIn (List.range' a m) st (occBody x ⟨#[c]⟩ x.length 1)).run.fst.toList = st.1.toList
  | 0, a, st, _ => by simp
  | m + 1, a, st, h => by
    rw [List.range'_succ, List.forIn_cons]
    have hc : ¬ (((st.1.size < 1 ∧ st.2 ≤ a) ∧ a + (⟨#[c]⟩ : PySem.Str).length ≤ x.length) ∧ subAt x ⟨#[c]⟩ a = true) := fun z => by have := z.1.1.1; omega
    unfold occBody
    rw [if_neg hc]
    show (forIn (List.range' (a + 1) m) (st.1, st.2) (occBody x ⟨#[c]⟩ x.length 1)).run.fst.toList = _
    exact scan_full x c m (a + 1) _ h
theorem scan1 (x : PySem.Str) (c : Nat) : ∀ (m a f : Nat), a + m = x.length + 1 → f ≤ a → (forIn (List.range' a m) ((#[], f) : Array Nat × Nat) (occBody x ⟨#[c]⟩ x.length 1)).run.fst.toList = ((List.range' a m).filter (fun i => decide ((tl x)[i]? = some c))).take 1
  | 0, a, f, _, _ => by simp
  | m + 1, a, f, h1, h2 => by
    rw [List.range'_succ, List.forIn_cons, List.filter_cons]
    have one : (⟨#[c]⟩ : PySem.Str).length = 1 := rfl
    by_cases e : (tl x)[a]? = some c
    · have ha : a < x.length := (List.getElem?_eq_some_iff.mp e).1
      have hc : (((#[] : Array Nat).size < 1 ∧ f ≤ a) ∧ a + (⟨#[c]⟩ : PySem.Str).length ≤ x.length) ∧ subAt x ⟨#[c]⟩ a = true := ⟨⟨⟨by decide, h2⟩, by rw [one]; omega⟩, by rw [subAt_one x c a ha]; exact decide_eq_true e⟩
      rw [if_pos (decide_eq_true e)]
      unfold occBody
      rw [if_pos hc]
      show (forIn (List.range' (a + 1) m) (#[a], a + 1) (occBody x ⟨#[c]⟩ x.length 1)).run.fst.toList = _
      rw [scan_full x c m (a + 1) (#[a], a + 1) (Nat.le_refl 1)]
      rfl
    · have hc : ¬ ((((#[] : Array Nat).size < 1 ∧ f ≤ a) ∧ a + (⟨#[c]⟩ : PySem.Str).length ≤ x.length) ∧ subAt x ⟨#[c]⟩ a = true) := fun z => by
        have ha : a < x.length := by have := z.1.2; rw [one] at this; omega
        have y := z.2
        rw [subAt_one x c a ha] at y
        exact e (of_decide_eq_true y)
      have ed : ¬ decide ((tl x)[a]? = some c) = true := fun z => e (of_decide_eq_true z)
      rw [if_neg ed]
      unfold occBody
      rw [if_neg hc]
      show (forIn (List.range' (a + 1) m) (#[], f) (occBody x ⟨#[c]⟩ x.length 1)).run.fst.toList = _
      exact scan1 x c m (a + 1) f (by omega) (by omega)
theorem occ_one (x : PySem.Str) (c : Nat) : occurrences x ⟨#[c]⟩ 0 x.length 1 = ((List.range' 0 (x.length + 1)).filter (fun i => decide ((tl x)[i]? = some c))).take 1 := by
  rw [occ_eq]
  exact scan1 x c _ 0 0 (by omega) (Nat.le_refl _)
theorem part_no {z : PySem.Str} (h : 45 ∉ tl z) : part3 z ⟨#[45]⟩ = [z, PySem.Str.empty, PySem.Str.empty] := by
  have e : occurrences z ⟨#[45]⟩ 0 z.length 1 = [] := by
    rw [occ_one, List.filter_eq_nil_iff.mpr]
    · rfl
    · intro i _ q
      exact h (List.mem_of_getElem? (of_decide_eq_true q))
  unfold part3
  rw [e]
theorem part_at {z : PySem.Str} {p q : List Nat} (h : 45 ∉ p) (hz : tl z = p ++ 45 :: q) : ∃ a b : PySem.Str, part3 z ⟨#[45]⟩ = [a, ⟨#[45]⟩, b] ∧ tl a = p ∧ tl b = q := by
  have hl : z.length = p.length + 1 + q.length := by
    rw [len_tl, hz, List.length_append, List.length_cons]
    omega
  have e : ∃ r, occurrences z ⟨#[45]⟩ 0 z.length 1 = p.length :: r := by
    rw [occ_one, show z.length + 1 = p.length + (1 + (q.length + 1)) by omega, ← List.range'_append_1, List.filter_append, List.filter_eq_nil_iff.mpr (by
      intro i hi q2
      have hi := List.mem_range'_1.mp hi
      have q2 := of_decide_eq_true q2
      rw [hz, List.getElem?_append_left (by omega)] at q2
      exact h (List.mem_of_getElem? q2)), List.nil_append, show 1 + (q.length + 1) = (q.length + 1) + 1 by omega, List.range'_succ, List.filter_cons, if_pos (decide_eq_true (by rw [hz, Nat.zero_add, List.getElem?_append_right (Nat.le_refl _), Nat.sub_self]; rfl))]
    exact ⟨_, by rw [Nat.zero_add]; rfl⟩
  obtain ⟨r, e⟩ := e
  unfold part3
  rw [e]
  refine ⟨_, _, rfl, ?_, ?_⟩
  · rw [show tl (strSub z 0 p.length) = ((tl z).drop 0).take (p.length - 0) from strSub_toList z 0 p.length, hz]
    simp
  · rw [show tl (strSub z (p.length + (⟨#[45]⟩ : PySem.Str).length) z.length) = ((tl z).drop (p.length + 1)).take (z.length - (p.length + 1)) from strSub_toList z _ _, hz, hl]
    have : (p ++ 45 :: q).drop (p.length + 1) = q := by
      rw [List.drop_append, List.drop_eq_nil_of_le (by omega), show p.length + 1 - p.length = 1 by omega]
      rfl
    rw [this]
    exact List.take_of_length_le (by omega)

theorem dg100 : ∀ m : Nat, m < 100 → (∀ c ∈ dg m, 48 ≤ c ∧ c ≤ 57) ∧ dg m ≠ [] ∧ (dg m).length ≤ 2 ∧ ((dg m).head? = some 48 → dg m = [48]) := by decide +kernel
def rdN (l : List Nat) : Option Nat := (List.range 80).find? fun m => decide (dg m = l)
theorem rdN_dg : ∀ m : Nat, m < 80 → rdN (dg m) = some m := by decide +kernel
theorem rdN_of {l : List Nat} {m : Nat} (h : rdN l = some m) : m < 80 ∧ dg m = l := ⟨List.mem_range.mp (List.mem_of_find?_eq_some h), of_decide_eq_true (p := dg m = l) (List.find?_some (p := fun m => decide (dg m = l)) h)⟩
theorem dg_one : ∀ d : Nat, d < 10 → dg d = [48 + d] := by decide +kernel
theorem dg_two : ∀ a : Nat, a < 10 → ∀ b : Nat, b < 10 → 1 ≤ a → dg (10 * a + b) = [48 + a, 48 + b] := by decide +kernel
theorem num_of {l : List Nat} (h1 : l ≠ []) (h2 : ∀ c ∈ l, 48 ≤ c ∧ c ≤ 57) (h3 : l.head? = some 48 → l = [48]) (h4 : l.length ≤ 2) : ∃ m, m < 100 ∧ l = dg m := by
  match l, h1, h2, h3, h4 with
  | [c], _, h2, _, _ =>
    have := h2 c List.mem_cons_self
    refine ⟨c - 48, by omega, ?_⟩
    rw [dg_one (c - 48) (by omega), show 48 + (c - 48) = c by omega]
  | [c, d], _, h2, h3, _ =>
    have hc := h2 c List.mem_cons_self
    have hd := h2 d (List.mem_cons_of_mem _ List.mem_cons_self)
    have nz : c ≠ 48 := fun e => by have := h3 (congrArg some e); cases this
    refine ⟨10 * (c - 48) + (d - 48), by omega, ?_⟩
    rw [dg_two (c - 48) (by omega) (d - 48) (by omega) (by omega), show 48 + (c - 48) = c by omega, show 48 + (d - 48) = d by omega]
theorem fig_at : ∀ c : Nat, c < 128 → (!(occurrences FIG ⟨#[c]⟩ 0 FIG.length 1).isEmpty) = decide (48 ≤ c ∧ c ≤ 57) := by decide +kernel
def rdD (l : List Nat) : Option (Nat × Nat) :=
  if 45 ∈ l then match rdN (l.takeWhile fun c => decide (c ≠ 45)), rdN ((l.dropWhile fun c => decide (c ≠ 45)).tail) with
    | some a, some b => if a < b then some (a, b) else none
    | _, _ => none
  else (rdN l).map fun m => (m, m)
def dtx (d : Nat × Nat) : List Nat := if d.1 = d.2 then dg d.1 else dg d.1 ++ 45 :: dg d.2
theorem tw_at {q : List Nat} : ∀ {p : List Nat}, 45 ∉ p → ((p ++ 45 :: q).takeWhile fun c => decide (c ≠ 45)) = p ∧ ((p ++ 45 :: q).dropWhile fun c => decide (c ≠ 45)).tail = q
  | [], _ => ⟨rfl, rfl⟩
  | a :: p, h => by
    have ha : decide (a ≠ 45) = true := decide_eq_true fun e => h (e ▸ List.mem_cons_self)
    have ih := tw_at (q := q) (p := p) fun z => h (List.mem_cons_of_mem _ z)
    rw [List.cons_append, List.takeWhile_cons_of_pos (p := fun c => decide (c ≠ 45)) ha, List.dropWhile_cons_of_pos (p := fun c => decide (c ≠ 45)) ha]
    exact ⟨by rw [ih.1], ih.2⟩
theorem mem_cut : ∀ {l : List Nat}, 45 ∈ l → ∃ p q, l = p ++ 45 :: q ∧ 45 ∉ p
  | a :: r, h => by
    by_cases e : a = 45
    · exact ⟨[], r, by rw [e]; rfl, by simp⟩
    · rcases List.mem_cons.mp h with z | z
      · exact absurd z.symm e
      · obtain ⟨p, q, e1, e2⟩ := mem_cut z
        exact ⟨a :: p, q, by rw [e1]; rfl, fun m => (List.mem_cons.mp m).elim (fun z => e z.symm) e2⟩
theorem rdD_no {l : List Nat} (h : 45 ∉ l) : rdD l = (rdN l).map fun m => (m, m) := by unfold rdD; rw [if_neg h]
theorem rdD_at {p q : List Nat} (h : 45 ∉ p) : rdD (p ++ 45 :: q) = match rdN p, rdN q with
    | some a, some b => if a < b then some (a, b) else none
    | _, _ => none := by
  obtain ⟨e1, e2⟩ := tw_at (q := q) h
  unfold rdD
  rw [if_pos (by simp), e1, e2]
theorem dg_no {m : Nat} (h : m < 100) : 45 ∉ dg m ∧ 32 ∉ dg m := ⟨fun z => by have := (dg100 m h).1 _ z; omega, fun z => by have := (dg100 m h).1 _ z; omega⟩
theorem rdD_dtx {a b : Nat} (h1 : a ≤ b) (h2 : b < 80) : rdD (dtx (a, b)) = some (a, b) := by
  unfold dtx
  by_cases e : a = b
  · subst e
    rw [if_pos rfl, rdD_no (dg_no (by omega)).1, rdN_dg a h2]
    rfl
  · rw [if_neg e, rdD_at (dg_no (show a < 100 by omega)).1, rdN_dg a (by omega), rdN_dg b h2]
    exact if_pos (by omega)
theorem dtx_no {a b : Nat} (h1 : a < 80) (h2 : b < 80) : 32 ∉ dtx (a, b) := by
  unfold dtx
  split
  · exact (dg_no (by omega)).2
  · intro z
    rcases List.mem_append.mp z with z | z
    · exact (dg_no (show a < 100 by omega)).2 z
    · rcases List.mem_cons.mp z with z | z
      · cases z
      · exact (dg_no (show b < 100 by omega)).2 z
theorem dtx_len {a b : Nat} (h1 : a < 80) (h2 : b < 80) : (dtx (a, b)).length ≤ 5 := by
  have e1 := (dg100 a (by omega)).2.2.1
  have e2 := (dg100 b (by omega)).2.2.1
  unfold dtx
  split
  · show (dg a).length ≤ 5
    omega
  · rw [List.length_append, List.length_cons]
    show (dg a).length + ((dg b).length + 1) ≤ 5
    omega
theorem dtx_lt {a b : Nat} (h1 : a < 80) (h2 : b < 80) : ∀ c ∈ dtx (a, b), c < 128 := by
  intro c hc
  unfold dtx at hc
  split at hc
  · have := (dg100 a (by omega)).1 c hc; omega
  · rcases List.mem_append.mp hc with z | z
    · have := (dg100 a (by omega)).1 c z; omega
    · rcases List.mem_cons.mp z with z | z
      · omega
      · have := (dg100 b (by omega)).1 c z; omega
theorem splitL_ne (c : Nat) : ∀ l : List Nat, splitL c l ≠ []
  | [] => by simp [splitL]
  | a :: r => by
    unfold splitL
    split
    · simp
    · split <;> simp
theorem splitL_app {c : Nat} {v : List Nat} : ∀ (u : List Nat), splitL c (u ++ c :: v) = splitL c u ++ splitL c v
  | [] => by
    show splitL c (c :: v) = [[]] ++ splitL c v
    conv => lhs; unfold splitL
    rw [if_pos rfl]
    rfl
  | a :: u => by
    have ih := splitL_app (c := c) (v := v) u
    have un : ∀ l : List Nat, splitL c (a :: l) = if a = c then [] :: splitL c l else match splitL c l with
      | [] => [[a]]
      | p :: q => (a :: p) :: q := fun l => rfl
    rw [List.cons_append, un, un, ih]
    by_cases e : a = c
    · rw [if_pos e, if_pos e]
      rfl
    · rw [if_neg e, if_neg e]
      cases h : splitL c u with
      | nil => exact absurd h (splitL_ne c u)
      | cons x y => rfl
theorem split_join_all {c : Nat} : ∀ {ws : List (List Nat)}, ws ≠ [] → splitL c (joinL c ws) = (ws.map (splitL c)).flatten
  | [], h => absurd rfl h
  | [w], _ => by simp [joinL]
  | w :: v :: r, _ => by
    show splitL c (w ++ c :: joinL c (v :: r)) = _
    rw [splitL_app, split_join_all (by simp)]
    rfl
def oddL : List PySem.Str := ["", "80", "007", "01", "5-5", "7-3", "3-", "-3", "3-4-5", "a", "+3", "1_0", "100", "2-80", "--", "3:", "2-03", "4 - 5", "1 .", ". 1"]
theorem odd_bad : ∀ o ∈ oddL, ((splitL 32 (tl o)).any fun w => (rdD w).isNone) = true ∧ splitL 32 (tl o) ≠ [[46]] ∧ o.length ≤ 5 ∧ o.cps.all (· < 128) = true := by decide +kernel
theorem odd_dot {ws : List (List Nat)} {o : List Nat} (ho : o ∈ ws) (h : splitL 32 o ≠ [[46]]) : joinL 32 ws ≠ [46] := fun e => by
  have ne : ws ≠ [] := fun z => by rw [z] at ho; cases ho
  have z := split_join_all (c := 32) ne
  rw [e, show splitL 32 [46] = [[46]] from rfl] at z
  have sub : ∀ x ∈ splitL 32 o, x = [46] := fun x hx => by
    have : x ∈ (ws.map (splitL 32)).flatten := List.mem_flatten.mpr ⟨_, List.mem_map.mpr ⟨o, ho, rfl⟩, hx⟩
    rw [← z] at this
    exact List.mem_singleton.mp this
  have len : (splitL 32 o).length ≤ 1 := by
    obtain ⟨u, v, e2⟩ := List.append_of_mem (List.mem_map.mpr ⟨o, ho, rfl⟩ : splitL 32 o ∈ ws.map (splitL 32))
    have y := congrArg List.length z
    rw [e2, List.flatten_append, List.flatten_cons, List.length_append, List.length_append] at y
    have : ([[46]] : List (List Nat)).length = 1 := rfl
    omega
  cases h2 : splitL 32 o with
  | nil => exact splitL_ne 32 o h2
  | cons x r =>
    rw [h2] at len sub
    have : r = [] := List.length_eq_zero_iff.mp (by rw [List.length_cons] at len; omega)
    exact h (by rw [h2, this, sub x List.mem_cons_self])
theorem odd_word {ws : List (List Nat)} {o : PySem.Str} (ho : o ∈ oddL) (hm : tl o ∈ ws) : joinL 32 ws ≠ [46] ∧ ∃ w ∈ splitL 32 (joinL 32 ws), rdD w = none := by
  obtain ⟨b1, b2, _, _⟩ := odd_bad o ho
  refine ⟨odd_dot hm b2, ?_⟩
  obtain ⟨w, hw, hn⟩ := List.any_eq_true.mp b1
  refine ⟨w, ?_, Option.isNone_iff_eq_none.mp hn⟩
  rw [split_join_all (fun z => by rw [z] at hm; cases hm)]
  exact List.mem_flatten.mpr ⟨_, List.mem_map.mpr ⟨_, hm, rfl⟩, hw⟩
end Sx

namespace L2
open PySem PySem.Spec PyProof.Rows
theorem noteFrame_frame {x : Value} {e1 e2 : Env} (h : e1.frame = e2.frame) : noteFrame x e1 = noteFrame x e2 := by
  unfold noteFrame PySem.frameOf
  rw [h]
theorem funFrames_same {h h' base : Heap} : ∀ {l : List Env}, (∀ b ∈ frs l, h'.get? b = h.get? b) → h.FunFrames base l → h'.FunFrames base l
  | [], _, _ => trivial
  | env :: r, k, ⟨a, ⟨L, o, hf, hn, ho, hd⟩, hr⟩ => ⟨a, ⟨L, o, hf, hn, (k L (by unfold frs; rw [List.filterMap_cons, hf]; exact List.mem_cons_self)).trans ho, hd⟩, funFrames_same (fun b hb => k b (by unfold frs; rw [List.filterMap_cons, hf]; exact List.mem_cons_of_mem _ hb)) hr⟩
theorem held_pass {M : Model} {A : Around} {s : Shared} {B : Heap} {env cenv : Env} {outer : List Env} {L a : Addr} {cls : Value} {F : Value → Shared → Prop} {a0 : Value} {what : String} (hf : cenv.frame = some L) (x : Heap.HeldW B (env :: outer) a cls a0 L s.heap)
    (hQ : ∀ h', Heap.HeldW B (env :: outer) a cls a0 L h' → s.heap.UpToSlots h' → F (.ref a) { s with heap := h' }) : wpAny M A (PySem.passOn what (.ref a) cenv : Sem Value) (fun _ _ => False) F s := by
  obtain ⟨hkb, hen, hl, oe, vs, T, oT, ts, he, hcls, hd, h1, hnT, hTe, hT, hdT, h3⟩ := x
  have hsz3 : 3 < ts.size := (Array.getElem?_eq_some_iff.mp h3).1
  have oth : ∀ b, b ≠ T → (s.heap.update T (Obj.mapFields (·.setIfInBounds 3 ((some L).elim Value.none fun f => rawInt f)))).get? b = s.heap.get? b := fun b hb => Heap.get?_update_other _ _ (Ne.symm hb)
  have noR : ∀ b o, s.heap.get? b = some o → (∀ vs, o.data ≠ .fields vs) → b ≠ T := fun b o hb hnf q => by rw [q, hT] at hb; cases hb; exact hnf ts hdT
  unfold PySem.passOn
  refine wpAny_bind (wpAny_field he hd h1 ?_)
  rw [if_neg (show ¬ ((Value.ref T == Value.none) = true) from Bool.false_ne_true), hf]
  unfold setFlight
  refine wpAny_bind (wpAny_bind (wpAny_field he hd h1 ?_))
  rw [if_pos (show (Value.ref T != Value.none) = true from by simp)]
  refine wpAny_setField hT hdT hsz3 (wpAny_throw (hQ _ ⟨fun b o hbo => (oth b fun q => by rw [q, hnT] at hbo; cases hbo).trans (hkb b o hbo), hen, hl.of_keeps fun b o hb hnf => ⟨o, (oth b (noR b o hb hnf)).trans hb, rfl⟩, ?_⟩ fun b o hb hnf => ⟨o.slots, (oth b (noR b o hb hnf)).trans hb⟩))
  exact ⟨oe, vs, T, _, _, (oth a (Ne.symm hTe)).trans he, hcls, hd, h1, hnT, hTe, Heap.get?_update_self _ hT (Obj.isFreed_of_fields (Obj.data_mapFields hdT _)), Obj.data_mapFields hdT _, by simp [hsz3]⟩
def compEnd (M : Model) (A : Around) (E : Value → Shared → Prop) (Q : Value → Shared → Prop) (acc : Value) (cenv : Env) (r : Result) (s' : Shared) : Prop :=
  ∃ m, s'.heap.Ns cenv.locals m ∧ ∀ h', Heap.SameBut cenv.locals s'.heap h' → match r with
    | .ok _ => Q acc { s' with heap := h' }
    | .error x => wpAny M A (PySem.passOn "comprehension.variables-let-go" x cenv : Sem Value) (fun _ _ => False) E { s' with heap := h' }
theorem wp_compX {M : Model} {A : Around} {E : Value → Shared → Prop} {s : Shared} {env : Env} {e : Expr} {scope : Scope} {pos : Pos} {newAcc first : Sem Value} {g : Comprehension} {gs : List Comprehension} {cl : List (Str × Addr)} {Q : Value → Shared → Prop}
    (hcl : clausesOf e = g :: gs) (hs : ∀ x, foldedSetIterable g.iter env x = pure x) (hclos : closureFor scope env = pure cl) (hkind : scope.kind = .function) (hnames : ∀ x ∈ scope.names, x.2 = .local → scope.names.lookup x.1 = some .local)
    (h : wpAny M A first (fun x s₁ => wpAny M A (pyIter x) (fun it s₂ => wpAny M A newAcc (fun acc s₃ => wpAny M A (newFunctionEnv scope env.globals cl [] env.qual none .none (some env)) (fun cenv s₄ => codeAny M A (.compStart e 0 it acc { cenv with scope := relabel scope env }) (compEnd M A E Q acc { cenv with scope := relabel scope env }) s₄) E s₃) E s₂) E s₁) E s) :
    wpAny M A (comprehension e scope env pos newAcc false first none) Q E s := by
  unfold comprehension
  rw [hclos, hcl]
  refine wpAny_bind (wpAny_mono h (fun x s₁ h₁ => wpAny_bind (wpAny_standAt (wpAny_bind (wpAny_of_eq (hs x) (wpAny_bind (wpAny_holding (wpAny_mono h₁ (fun it s₂ h₂ => wpAny_standIf (wpAny_bind (wpAny_mono h₂ (fun acc s₃ h₃ => wpAny_bind (wpAny_pure (wpAny_bind (wpAny_mono h₃ (fun cenv s₄ h₄ => ?_) fun _ _ z => z)))) fun _ _ z => z))) fun _ _ z => z))))))) fun _ _ z => z)
  dsimp only
  have hv : ∀ x ∈ (scope.names.filter fun x => (x.2 == .local || x.2 == .cell) && x.1 != (".0" : Str)).reverse, x.2 = .local → Env.kindOf { cenv with scope := relabel scope env } x.1 = some .local := fun x hx hl => lookup_relabel_local (hnames x (List.mem_filter.mp (List.mem_reverse.mp hx)).1 hl)
  refine wpAny_holding (wpAny_bind (wpAny_attempt (wpAny_holding (wpAny_run (codeAny_mono h₄ fun r s5 hr => ?_)))))
  obtain ⟨m, hn, hr⟩ := hr
  cases r with
  | ok f => exact wpAny_bind (wpAny_holding (wpAny_comp_letGo (cenv := { cenv with scope := relabel scope env }) hkind _ s5 m hv hn fun h6 m6 _ hs6 => wpAny_pure (hr h6 hs6)))
  | error x => exact wpAny_bind (wpAny_holding (wpAny_comp_letGo (cenv := { cenv with scope := relabel scope env }) hkind _ s5 m hv hn fun h6 m6 _ hs6 => wpAny_mono (hr h6 hs6) (fun _ _ f => f.elim) fun _ _ y => y))

def BodyC (X : Cx) (fp : List Addr) (C : Addr) (s₀ : Shared) (H₀ : Hp) (E : XK) (e : Value) (s' : Shared) : Prop :=
  ∃ a cls H' B, e = .ref a ∧ XAt X.prog X.w X.stack fp H₀ s₀ B a cls H' s' ∧ (H' C = none ∧ ∃ m, s'.heap.Ns C m) ∧ E cls none H'
section
variable {X : Cx} {E : XK} {scope : Scope} {cl : List (Str × Addr)} {NC : List Str} {fp : List Addr} {C : Addr} {s₀ : Shared} {H₀ : Hp}
theorem passC : Passes (CXo X.prog X.w) ((cxComp X scope cl NC fp C s₀ H₀).wish (BodyC X fp C s₀ H₀ E)) E := fun pins σ H s e s' I h => by
  have I := I.unwish
  obtain ⟨a, cls, H', B, rfl, x, hE⟩ := h
  have x : XAt X.prog X.w X.stack [] H s B a cls H' s' := x
  have U : Un (frs X.stack) fp H₀ H s₀.heap s.heap := I.base
  have U2 : Un (frs X.stack) fp H H' s.heap s'.heap := x.un.mono (fun b hb => hb) fun b hb => absurd hb (by simp)
  obtain ⟨m, hn, _⟩ := I.loc
  have hn : s.heap.Ns C m := hn
  have hC : H C = none := I.free
  obtain ⟨o, es, ep, ho, hd, hk, hm⟩ := hn
  have nf : C ∉ frs X.stack := fun z => by
    obtain ⟨_, o', e', _⟩ := I.ok.funs.mem z
    exact absurd (Nat.lt_of_lt_of_le (Heap.lt_size e') I.ok.above) (Nat.lt_irrefl _)
  refine ⟨a, cls, H', B, rfl, ⟨x.os.trans I.os, x.bare, U.trans U2, x.hok, x.na, x.sta, fun b o q hb he => ?_, x.trk⟩, ⟨x.un.free C o ho hC (by simp), m, o, es, ep, x.un.keep C o ho hC nf (by simp), hd, hk, hm⟩, hE⟩
  obtain ⟨o1, e1⟩ := U.there b o q he
  exact x.old b o1 e1 hb (by simp)
theorem pe_fnC {x : Str} {st : Stmt} {ps : List Str} {f : Addr} {fd : FuncData} {k : Nat} {sp : Sp} {e : Expr} {es : List Expr} {t : TA} {p pos : Pos} (G : FnOk X.prog X.w X.K X.mg X.base (CXo X.prog X.w) k f fd ps sp) (F : Fn X.K X.mg x st ps f fd) (hr : Room k X.A) (ha : PA ((cxComp X scope cl NC fp C s₀ H₀).wish (BodyC X fp C s₀ H₀ E)) (e :: es) t)
    (hg : Gl (cxComp X scope cl NC fp C s₀ H₀) x := by rfl) (hdb : (x == ("__debug__" : Str)) = false := by decide) (he : starEach (e :: es) (compEnvC scope cl C X.env) = (false, eval e (compEnvC scope cl C X.env)) :: starEach es (compEnvC scope cl C X.env) := by rfl) (hpl : (backTo pos (starEach es (compEnvC scope cl C X.env))).any (·.1) = false := by rfl) :
    PE ((cxComp X scope cl NC fp C s₀ H₀).wish (BodyC X fp C s₀ H₀ E)) (.Call (.Name x p) (e :: es) [] pos) (tCall sp [] E t) := pe_call (X := (cxComp X scope cl NC fp C s₀ H₀).wish (BodyC X fp C s₀ H₀ E)) G hr hg F.g F.fn.kp F.b .nil passC ha hdb he hpl
end
section
variable {X : Cx} {pins : List (Addr × Obj)} {σ : St} {H3 H' : Hp} {s3 s1 : Shared} {fp : List Addr} {B h' : Heap} {a C L : Addr} {cls a0 : Value} {m : Str → Option Value}
theorem out_held (I3 : Inv X pins σ H3 s3) (hC : s3.heap.objs.size ≤ C) (top : X.stack = X.env :: X.outer) (k1 : Heap.HeldW B (X.env :: X.outer) a cls a0 L s1.heap) (hn : s1.heap.Ns C m) (sb : Heap.SameBut C s1.heap h') :
    Heap.HeldW (PySem.W.hideAll B [C]) (X.env :: X.outer) a cls a0 L h' := by
  obtain ⟨g1, g2, g3, oe, vs, T, oT, ts, he, hcls, hd, h1, hnT, hTe, hT, hdT, h3⟩ := k1
  obtain ⟨o, es, ep, ho, hdd, hk, hm⟩ := hn
  have aC : a ≠ C := by rintro rfl; rw [he] at ho; cases ho; rw [hd] at hdd; cases hdd
  have tC : T ≠ C := by rintro rfl; rw [hT] at ho; cases ho; rw [hdT] at hdd; cases hdd
  have sub : ∀ b o, (PySem.W.hideAll B [C]).get? b = some o → B.get? b = some o ∧ b ≠ C := fun b o e => ⟨PySem.W.of_hideAll _ e, by rintro rfl; rw [PySem.W.hideAll_none _ (List.mem_singleton_self _)] at e; cases e⟩
  have non : ∀ b, B.get? b = none → (PySem.W.hideAll B [C]).get? b = none := fun b q => by
    cases z : (PySem.W.hideAll B [C]).get? b with
    | none => rfl
    | some o => have := (sub _ _ z).1; rw [q] at this; cases this
  refine ⟨fun b o e => (sb.2 b (sub b o e).2).trans (g1 b o (sub b o e).1), non a g2, funFrames_same (fun b hb => sb.2 b ?_) (PySem.W.funFrames_base (fun b o e => (sub b o e).1) g3), oe, vs, T, oT, ts, (sb.2 a aC).trans he, hcls, hd, h1, non T hnT, hTe, (sb.2 T tC).trans hT, hdT, h3⟩
  rw [← top] at hb
  obtain ⟨_, o', e', _⟩ := I3.stack.mem hb
  exact Nat.ne_of_lt (Nat.lt_of_lt_of_le (Heap.lt_size e') hC)
theorem out_comp (I3 : Inv X pins σ H3 s3) (f3 : ∀ b ∈ fp, FpOk X pins H3 b) (hC : s3.heap.objs.size ≤ C) (top : X.stack = X.env :: X.outer) (fr : X.env.frame = some L) (x : XAt X.prog X.w X.stack fp H3 s3 B a cls H' s1) (k1 : Heap.HeldW B (X.env :: X.outer) a cls a0 L s1.heap) (hf : H' C = none) (hn : s1.heap.Ns C m) (sb : Heap.SameBut C s1.heap h') :
    XAt X.prog X.w X.stack X.ex X.H₀ X.s₀ (PySem.W.hideAll B [C]) a cls H' { s1 with heap := h' } := by
  have hd := out_held I3 hC top k1 hn sb
  have U : Un (frs X.stack) X.ex X.H₀ H3 X.s₀.heap s3.heap := I3.base.mono (fun b hb => by
    rw [top]; unfold frs; rw [List.filterMap_cons]; split
    · exact hb
    · exact List.mem_cons_of_mem _ hb) fun b hb => hb
  have nfp : ∀ b o, X.s₀.heap.get? b = some o → b ∉ X.ex → b ∉ fp := fun b o q hx z => by
    rcases (f3 b z).2.2.2.1 with y | y
    · exact hx y
    · exact absurd (Nat.lt_of_lt_of_le (Heap.lt_size q) y) (Nat.lt_irrefl _)
  have nC : ∀ b o, X.s₀.heap.get? b = some o → b ≠ C := fun b o q => Nat.ne_of_lt (Nat.lt_of_lt_of_le (Heap.lt_size q) (Nat.le_trans I3.sz hC))
  refine ⟨x.os.trans I3.os, x.bare, ⟨fun b o q n hb hx => ?_, fun b o q n hb hx => ?_, fun b o q n hx => ?_, fun b o q hx => ?_, fun b xs q => x.un.tups b xs (U.tups b xs q), fun b o u q => x.un.frzs b o u (U.frzs b o u q), fun b ps q => ?_⟩, fun b u e => ?_, x.na, ⟨a0, .inr (.inr ⟨L, X.env, X.outer, top, fr, by rw [top]; exact hd⟩)⟩, fun b o q hb hx => ?_, fun b hb => ?_⟩
  · exact (sb.2 b (nC b o q)).trans (x.un.keep b o (U.keep b o q n hb hx) (U.free b o q n hx) hb (nfp b o q hx))
  · obtain ⟨sl, e1⟩ := U.slot b o q n hb hx
    obtain ⟨sl', e2⟩ := x.un.slot b _ e1 (U.free b o q n hx) hb (nfp b o q hx)
    exact ⟨sl', (sb.2 b (nC b o q)).trans e2⟩
  · obtain ⟨o1, e1⟩ := U.there b o q hx
    exact x.un.free b o1 e1 (U.free b o q n hx) (nfp b o q hx)
  · obtain ⟨o1, e1⟩ := U.there b o q hx
    obtain ⟨o2, e2⟩ := x.un.there b o1 e1 (nfp b o q hx)
    exact ⟨o2, (sb.2 b (nC b o q)).trans e2⟩
  · obtain ⟨m1, e1⟩ := U.tbls b ps q
    obtain ⟨m2, e2⟩ := x.un.tbls b _ e1
    exact ⟨m1 ++ m2, by rw [← Array.append_assoc]; exact e2⟩
  · refine (x.hok b u e).stay (fun c v hc q => (sb.2 c ?_).trans q) (fun _ q => q) fun _ _ q => q
    rintro rfl
    rcases hc with hc | hc
    · rw [← hc, hf] at e; cases e
    · rw [hf] at hc; cases hc
  · obtain ⟨o1, e1⟩ := U.there b o q hx
    obtain ⟨o', e2, e3⟩ := x.old b o1 e1 hb (nfp b o q hx)
    exact ⟨o', (sb.2 b (nC b o q)).trans e2, PySem.W.hideAll_get _ e3 (by simpa using nC b o q)⟩
  · have ne : b ≠ C := by rintro rfl; exact hb hf
    obtain ⟨o', e2, e3⟩ := x.trk b hb
    exact ⟨o', (sb.2 b ne).trans e2, PySem.W.hideAll_get _ e3 (by simpa using ne)⟩
end
theorem pe_compX {X : Cx} {E : XK} {elt iter tg : Expr} {ifs : List Expr} {scope : Scope} {pos : Pos} {cl : List (Str × Addr)} {NC : List Str} {ini : List (Option Nat)} {wi : TI} {g : TG} {tt : TT} {te : TE}
    (hc : X.calm = true) (Ow : Own X) (O : CompOk X scope cl NC ini) (hi : PI (X.wish (BodyX X E)) tg iter wi)
    (hg : ∀ fp C s₀ H₀, PG (cxComp X scope cl NC fp C s₀ H₀) tg g) (ht : ∀ fp C s₀ H₀, PTs (cxComp X scope cl NC fp C s₀ H₀) ifs tt) (he : ∀ fp C s₀ H₀, PE ((cxComp X scope cl NC fp C s₀ H₀).wish (BodyC X fp C s₀ H₀ E)) elt te)
    (hs : ∀ x, foldedSetIterable iter X.env x = pure x := by intro _; rfl) : PE (X.wish (BodyX X E)) (.ListComp elt [⟨tg, iter, ifs, 0⟩] scope pos) (tComp wi g tt te ini) := by
  intro pins s σ H Q I h
  rw [eval_ListComp]
  refine wp_compX rfl hs O.clos O.kind O.names (thn (hi pins s σ H _ I h) fun v s1 h1 => thn h1 fun itv s2 h2 => ?_)
  obtain ⟨it, fp, tn, J, H2, e, I2w, T, st2, f2w, h2⟩ := h2
  subst e
  have I2 : Inv X pins σ H2 s2 := I2w.unwish
  have f2 : ∀ b ∈ fp, FpOk X pins H2 b := f2w
  have T : Turn X.prog X.w X.K tg J fp it tn := T
  have hD : H2 s2.heap.objs.size = none := I2.hok.fresh (Nat.le_refl _)
  obtain ⟨W, ⟨m0, w0⟩, turn⟩ := h2 _ hD
  refine wpAny_newObj_type (wpAny_newFunctionEnv O.cell (by intro y hy; simp at hy) (fun h₁ hns₁ hsb₁ => ?_) O.kind)
  dsimp only at hns₁ hsb₁ ⊢
  have I3 : Inv X pins σ (upd H2 s2.heap.objs.size (.lst [])) { s2 with heap := s2.heap.push { cls := .type "list", dict := none, data := .seq ([] : List Value).toArray } } := I2.lnew (its := []) (t' := s2.toks) .nil (by decide)
  have ob2 : ∀ b ∈ fp, ∃ o, s2.heap.get? b = some o := fun b hb => let ⟨o, e, _⟩ := T.obj 0 _ st2 b hb; ⟨o, e⟩
  have neD : ∀ b ∈ fp, b ≠ s2.heap.objs.size := fun b hb => let ⟨o, e⟩ := ob2 b hb; Nat.ne_of_lt (Heap.lt_size e)
  have f3 : ∀ b ∈ fp, FpOk X pins (upd H2 s2.heap.objs.size (.lst [])) b := fun b hb => ⟨by rw [upd_ne (neD b hb)]; exact (f2 b hb).1, (f2 b hb).2⟩
  generalize hs3 : ({ s2 with heap := s2.heap.push { cls := .type "list", dict := none, data := .seq ([] : List Value).toArray } } : Shared) = s3 at I3
  have hh3 : s2.heap.push { cls := .type "list", dict := none, data := .seq ([] : List Value).toArray } = s3.heap := by rw [← hs3]
  have ob3 : ∀ b ∈ fp, ∃ o, s3.heap.get? b = some o := fun b hb => let ⟨o, e⟩ := ob2 b hb; ⟨o, by rw [← hh3]; exact Heap.get?_push_of_some _ e⟩
  rw [hh3] at hns₁ hsb₁ ⊢
  have old : ∀ b o, s3.heap.get? b = some o → h₁.get? b = some o := fun b o e => hsb₁.extBut b o (Nat.ne_of_lt (Heap.lt_size e)) (Heap.get?_push_of_some _ e)
  have st1 : tn 0 h₁ := T.keep 0 _ _ st2 fun b hb o e => old b o (by rw [← hh3]; exact Heap.get?_push_of_some _ e)
  have IC : ∀ tk, Inv (cxComp X scope cl NC fp s3.heap.objs.size s3 (upd H2 s2.heap.objs.size (.lst []))) [] (iniSt ini σ) (upd H2 s2.heap.objs.size (.lst [])) { s3 with heap := h₁, toks := tk } := fun tk => inv_comp O I3 f3 ob3 hns₁ old
  have nst : ∀ b ∈ fp, b ∉ frs X.stack := fun b hb z => by
    rcases List.mem_cons.mp (I3.stkSub b z) with q | q
    · exact (f3 b hb).2.1 q
    · exact (f3 b hb).2.2.1 q
  have stat : ∀ {H' : Hp}, (∀ b ∈ fp, H' b = none) → ∀ b ∈ fp, FpOk (cxComp X scope cl NC fp s3.heap.objs.size s3 (upd H2 s2.heap.objs.size (.lst []))) [] H' b := fun {H'} hn b hb => by
    obtain ⟨o, e⟩ := ob3 b hb
    exact ⟨hn b hb, Nat.ne_of_lt (Heap.lt_size e), nst b hb, .inl hb, fun x c hx => (f3 b hb).2.2.2.2.1 x c (O.cls x c hx), fun p hp => absurd (show p ∈ ([] : List (Addr × Obj)) from hp) (by simp)⟩
  have loop : ∀ s₃ : Shared, s₃ = { s2 with heap := h₁, toks := s2.toks + ([] : List (Str × Value)).length } →
      codeAny (model X.prog X.w) X.A (.compLoop (.ListComp elt [⟨tg, iter, ifs, 0⟩] scope pos) 0 (.ref it) (.ref s2.heap.objs.size) (compEnvC scope cl s3.heap.objs.size X.env))
        (compEnd (model X.prog X.w) X.A (BodyX X E) (EP (X.wish (BodyX X E)) pins σ Q) (.ref s2.heap.objs.size) (compEnvC scope cl s3.heap.objs.size X.env)) s₃ := by
    rintro s₃ rfl
    refine codeAny_loop rfl (fun n s' => ∃ i σ' H', Inv (cxComp X scope cl NC fp s3.heap.objs.size s3 (upd H2 s2.heap.objs.size (.lst []))) [] σ' H' s' ∧ tn i s'.heap ∧ (∀ b ∈ fp, H' b = none) ∧ W i n σ' H') (fun n s' hI => ?_) m0
      ⟨0, _, _, by have z := IC (s2.toks + ([] : List (Str × Value)).length); rw [← hs3] at z ⊢; exact z, st1, fun b hb => (f3 b hb).1, w0⟩
    show wpAny _ X.A ((compTurn (.ListComp elt [⟨tg, iter, ifs, 0⟩] scope pos) 0 (.ref it) (.ref s2.heap.objs.size) (compEnvC scope cl s3.heap.objs.size X.env)).onRaise (fun x => do noteFrame x (compEnvC scope cl s3.heap.objs.size X.env); theTreesLotGoes x)) _ _ s'
    refine wpAny_noted ?_
    rw [compTurn_list]
    obtain ⟨i, σ3, H3, I3', st3, fr3, w3⟩ := hI
    rcases turn i n σ3 H3 w3 with ⟨stop, qn⟩ | ⟨go, N, hN, step⟩
    · refine wpAny_bind (wpAny_standAt (wpAny_bind (thn (T.done (cxComp X scope cl NC fp s3.heap.objs.size s3 (upd H2 s2.heap.objs.size (.lst []))) rfl rfl rfl hc i [] s' σ3 H3 _ I3' (stat fr3) st3 stop) fun r s4 ⟨hr, I4⟩ => ?_)))
      subst hr
      obtain ⟨m', hn', _⟩ := I4.loc
      exact wpAny_pure ⟨m', hn', fun h' hs' => ⟨.ref s2.heap.objs.size, H3, (comp_back I3 f3 I4 hs').wish _, rfl, qn⟩⟩
    · refine wpAny_bind (wpAny_standAt (wpAny_bind (thn (T.item (cxComp X scope cl NC fp s3.heap.objs.size s3 (upd H2 s2.heap.objs.size (.lst []))) rfl rfl rfl hc i [] s' σ3 H3 _ I3' (stat fr3) st3 go) fun r s4 ⟨u, hr, h4⟩ => ?_)))
      subst hr
      refine wpAny_bind (thn h4 fun _ s5 ⟨x, H5, I5, r5, y5, st5, fr5⟩ => ?_)
      have I5' := I5.pinned (stat fr5) (T.obj _ _ st5)
      refine wpAny_bind (quietX (hg fp _ s3 _ _ s5 σ3 H5 x u _ I5' r5 (step x H5 y5)) fun _ s6 ⟨σ6, H6, I6, q6⟩ => ?_)
      have again : ∀ {s7 : Shared} {H7 : Hp}, Inv (cxComp X scope cl NC fp s3.heap.objs.size s3 (upd H2 s2.heap.objs.size (.lst []))) ([] ++ pinsAt fp s5.heap) σ6 H7 s7 → N σ6 H7 →
          ∃ m, m < n ∧ ∃ i σ' H', Inv (cxComp X scope cl NC fp s3.heap.objs.size s3 (upd H2 s2.heap.objs.size (.lst []))) [] σ' H' s7 ∧ tn i s7.heap ∧ (∀ b ∈ fp, H' b = none) ∧ W i m σ' H' := fun {s7 H7} I7 n7 => by
        obtain ⟨m', hm, w7⟩ := hN σ6 H7 n7
        refine ⟨m', hm, i + 1, σ6, H7, I7.unpinned, T.keep _ _ _ st5 fun b hb o e => (I7.pin (b, o) (List.mem_append_right _ (List.mem_append_right _ (mem_pinsAt hb e)))).1, fun b hb => ?_, w7⟩
        obtain ⟨o, e, d⟩ := T.obj _ _ st5 b hb
        exact (I7.pin (b, o) (List.mem_append_right _ (List.mem_append_right _ (mem_pinsAt hb e)))).2.1
      refine wpAny_bind (quietX (ht fp _ s3 _ _ s6 σ6 H6 _ I6 q6) fun ok s7 ⟨H7, I7, q7⟩ => ?_)
      cases ok with
      | false => exact wpAny_pure ⟨rfl, again I7 q7⟩
      | true =>
        refine wpAny_bind (wpAny_bind (wpAny_mono (he fp _ s3 _ _ s7 σ6 H7 _ (I7.wish _) q7) (fun u8 s8 ⟨v8, H8, I8, r8, ys, hy, hz, n8⟩ => ?_) fun ev s8 hx => ?_))
        · refine wpAny_bind (quietX (mt_append _ s8 σ6 H8 (.ref s2.heap.objs.size) [v8] (.ref s2.heap.objs.size) [u8] (fun _ H9 => N σ6 H9) I8.unwish rfl (.cons r8 .nil) ⟨_, ys, v8, rfl, rfl, hy, hz, n8⟩) fun _ s9 ⟨_, H9, I9, _, n9⟩ => ?_)
          exact wpAny_pure (wpAny_pure ⟨rfl, again I9 n9⟩)
        · obtain ⟨a, cls, H', B, rfl, x, ⟨hf, m, hn⟩, hE⟩ := hx
          have hfr : X.A.frames = some (X.env :: X.outer) := by rw [← Ow.top]; exact Ow.ok.frames
          have st := x.sta
          rw [Ow.top] at st
          show wpAny _ _ (noteFrame (.ref a) (compEnvC scope cl s3.heap.objs.size X.env)) _ _ s8
          rw [noteFrame_frame (e1 := compEnvC scope cl s3.heap.objs.size X.env) (e2 := X.env) rfl]
          refine sta_note hfr Ow.fr st fun h4 a0 k4 u4 => ?_
          have x4 := x.move (l' := X.stack) u4 (by rw [Ow.top]; exact ⟨a0, .inr (.inr ⟨_, _, _, rfl, Ow.fr, k4⟩)⟩) (fun b hb => hb) (fun b o _ hb => hb) fun b hb z => nst b z hb
          obtain ⟨o, es, ep, ho, hdd, hk, hm⟩ := hn
          obtain ⟨sl, ho4⟩ := u4 _ o ho fun vs z => by rw [hdd] at z; cases z
          have hn4 : h4.Ns s3.heap.objs.size m := ⟨_, es, ep, ho4, hdd, hk, hm⟩
          refine ⟨m, hn4, fun h5 sb => ?_⟩
          have k5 := out_held (s1 := { s8 with heap := h4 }) I3 (Nat.le_refl _) Ow.top k4 hn4 sb
          have x5 := out_comp (s1 := { s8 with heap := h4 }) I3 f3 (Nat.le_refl _) Ow.top Ow.fr x4 k4 hf hn4 sb
          show wpAny _ _ (PySem.passOn _ (.ref a) (compEnvC scope cl s3.heap.objs.size X.env)) _ _ { s8 with heap := h5 }
          exact held_pass (s := { s8 with heap := h5 }) Ow.fr k5 fun h6 k6 u6 => ⟨a, cls, H', _, rfl, x5.move (l' := X.stack) u6 (by rw [Ow.top]; exact ⟨a0, .inr (.inr ⟨_, _, _, rfl, Ow.fr, k6⟩)⟩) (fun b hb => hb) (fun b o _ hb => hb) fun b _ => by rw [Ow.ex]; simp, hE⟩
  exact codeAny_compStart_list (loop _ rfl) (T.self _ 0 _ _ _ st1 (loop _ rfl))
end L2

namespace Sx
open PySem Builtin Builtin.Str StrLaws L2 Mir
theorem splitL_sub {c : Nat} : ∀ {l w : List Nat}, w ∈ splitL c l → (∀ x ∈ w, x ∈ l) ∧ w.length ≤ l.length
  | [], w, h => by
    have h : w ∈ [[]] := h
    rw [List.mem_singleton.mp h]
    exact ⟨fun x hx => (by cases hx), Nat.le_refl _⟩
  | a :: r, w, h => by
    unfold splitL at h
    split at h
    · rcases List.mem_cons.mp h with z | z
      · rw [z]; exact ⟨fun x hx => (by cases hx), Nat.zero_le _⟩
      · obtain ⟨i1, i2⟩ := splitL_sub z
        exact ⟨fun x hx => List.mem_cons_of_mem _ (i1 x hx), by rw [List.length_cons]; omega⟩
    · cases hs : splitL c r with
      | nil => exact absurd hs (splitL_ne c r)
      | cons p q =>
        rw [hs] at h
        rcases List.mem_cons.mp h with z | z
        · obtain ⟨i1, i2⟩ := splitL_sub (c := c) (l := r) (w := p) (by rw [hs]; exact List.mem_cons_self)
          rw [z]
          refine ⟨fun x hx => ?_, by rw [List.length_cons, List.length_cons]; omega⟩
          rcases List.mem_cons.mp hx with y | y
          · rw [y]; exact List.mem_cons_self
          · exact List.mem_cons_of_mem _ (i1 x y)
        · obtain ⟨i1, i2⟩ := splitL_sub (c := c) (l := r) (w := w) (by rw [hs]; exact List.mem_cons_of_mem _ z)
          exact ⟨fun x hx => List.mem_cons_of_mem _ (i1 x hx), by rw [List.length_cons]; omega⟩
theorem ascii_mem {z : PySem.Str} (h : Ascii z) : ∀ c ∈ tl z, c < 128 := fun c hc => by
  have z3 : z.cps.toList.all (· < 128) = true := by rw [Array.all_toList]; exact h
  exact of_decide_eq_true (List.all_eq_true.mp z3 c hc)
def wordsL (l : List Nat) : List (List Nat) := if l = [46] then [] else splitL 32 l
def ip (d : Nat × Nat) : Int × Int := ((d.1 : Int), (d.2 : Int))
def spReadNumX (C : Addr) : Sp := fun vs H Q E => ∃ z : PySem.Str, vs = [.str z, .int 79] ∧ Ascii z ∧ z.length ≤ 1000 ∧ (∀ (m : Nat) H', rdN (tl z) = some m → Same H H' → Q (.int (m : Int)) H') ∧ (∀ H', rdN (tl z) = none → Same H H' → E (.ref C) none H')
def spReadDeed (C : Addr) : Sp := fun vs H Q E => ∃ z : PySem.Str, vs = [.str z] ∧ Ascii z ∧ z.length ≤ 1000 ∧ (∀ (d : Nat × Nat) (t : Addr) (H' : Hp), rdD (tl z) = some d → Same H H' → H' t = some (.tup [.int (d.1 : Int), .int (d.2 : Int)]) → Q (.ref t) H') ∧ (∀ H', rdD (tl z) = none → Same H H' → E (.ref C) none H')
def spReadDeeds (C : Addr) : Sp := fun vs H Q E => ∃ z : PySem.Str, vs = [.str z] ∧ Ascii z ∧ z.length ≤ 1000 ∧ (∀ (ds : List (Nat × Nat)) (l : Addr) (H' : Hp), (wordsL (tl z)).map rdD = ds.map some → Same H H' → ClT H' l (ds.map ip) → Q (.ref l) H') ∧ (∀ H', (∃ w ∈ wordsL (tl z), rdD w = none) → Same H H' → E (.ref C) none H')
def spDeedText : Sp := fun vs H Q _ => ∃ d : Nat × Nat, vs = [.int (d.1 : Int), .int (d.2 : Int)] ∧ d.1 < 80 ∧ d.2 < 80 ∧ ∀ z H', Same H H' → tl z = dtx d → Q (.str z) H'
def Dd (ds : List (Nat × Nat)) : Prop := ds.length ≤ 300 ∧ ∀ d ∈ ds, d.1 ≤ d.2 ∧ d.2 < 80
def deedsL (ds : List (Nat × Nat)) : List Nat := if ds = [] then [46] else joinL 32 (ds.map dtx)
def spDeedsText : Sp := fun vs H Q _ => ∃ (l : Addr) (ds : List (Nat × Nat)), vs = [.ref l] ∧ ClT H l (ds.map ip) ∧ Dd ds ∧ ∀ z H', Same H H' → tl z = deedsL ds → Q (.str z) H'
def spLawDeed : Sp := fun vs H Q _ => ∃ c : Int, vs = [.int c] ∧ ∀ (t : Addr) (d : Nat × Nat) (H' : Hp), Same H H' → H' t = some (.tup [.int (d.1 : Int), .int (d.2 : Int)]) → d.1 ≤ d.2 → d.2 < 80 → Q (.ref t) H'
def spLawThing : Sp := fun vs H Q _ => ∃ (t : Addr) (d : Nat × Nat), vs = [.ref t] ∧ H t = some (.tup [.int (d.1 : Int), .int (d.2 : Int)]) ∧ d.1 < 80 ∧ d.2 < 80 ∧ ∀ z H', Same H H' → tl z = dtx d → Q (.str z) H'
def spRowIs15 : Sp := fun vs H Q _ => ∃ (a b : Addr) (ds : List (Nat × Nat)), vs = [.ref a, .ref b] ∧ ClT H a (ds.map ip) ∧ ClT H b (ds.map ip) ∧ ds.length ≤ 300 ∧ Q (.bl true) H
def spRefused15 : Sp := fun vs H Q _ => ∃ z : PySem.Str, vs = [.str z] ∧ Ascii z ∧ z.length ≤ 1000 ∧ (∃ w ∈ wordsL (tl z), rdD w = none) ∧ ∀ H', Same H H' → Q (.bl true) H'
end Sx
namespace L2
open PySem
inductive StrC : List Expr → List Str → Prop
  | nil : StrC [] []
  | cons {x : Str} {j : Nat} {pos : Pos} {es : List Expr} {xs : List Str} : StrC es xs → StrC (.Constant (.str x) j pos :: es) (x :: xs)
def tStrs (xs : List Str) : TA := fun _ H Q => Q (xs.map V.str) H
theorem pa_strs {X : Cx} {es : List Expr} {xs : List Str} (h : StrC es xs) : PA X es (tStrs xs) := by
  induction h with
  | nil => exact pa_nil
  | cons h ih => exact pa_cons pe_str ih
theorem iteNN {c A B : Prop} [Decidable c] (hc : ¬ c) (h : A) : if (!decide c) = true then A else B := by
  rw [decide_eq_false hc]
  exact iteT h
end L2
namespace Sx
open PySem Builtin Builtin.Str StrLaws L2 Mir
theorem dot_none : rdD [46] = none := by decide +kernel
theorem dtx_dot {d : Nat × Nat} (h1 : d.1 ≤ d.2) (h2 : d.2 < 80) : dtx d ≠ [46] := fun e => by
  have z := rdD_dtx h1 h2
  rw [show dtx (d.1, d.2) = dtx d from rfl, e, dot_none] at z
  cases z
theorem words_deeds {ds : List (Nat × Nat)} (D : Dd ds) : wordsL (deedsL ds) = ds.map dtx := by
  unfold deedsL
  by_cases e : ds = []
  · rw [if_pos e, e]; rfl
  rw [if_neg e]
  have ne : ds.map dtx ≠ [] := fun z => e (List.map_eq_nil_iff.mp z)
  have sp : splitL 32 (joinL 32 (ds.map dtx)) = ds.map dtx := split_join ne fun w hw => by
    obtain ⟨d, hd, rfl⟩ := List.mem_map.mp hw
    have := D.2 d hd
    exact dtx_no (a := d.1) (b := d.2) (by omega) (by omega)
  unfold wordsL
  split
  · rename_i z
    rw [z, show splitL 32 [46] = [[46]] from rfl] at sp
    exfalso
    have : [46] ∈ ds.map dtx := by rw [← sp]; exact List.mem_cons_self
    obtain ⟨d, hd, hd2⟩ := List.mem_map.mp this
    exact dtx_dot (D.2 d hd).1 (D.2 d hd).2 hd2
  · exact sp
theorem deeds_read {ds : List (Nat × Nat)} (D : Dd ds) : (wordsL (deedsL ds)).map rdD = ds.map some := by
  rw [words_deeds D, List.map_map]
  refine List.map_congr_left fun d hd => ?_
  exact rdD_dtx (D.2 d hd).1 (D.2 d hd).2
theorem joinL_mem {c : Nat} : ∀ {ws : List (List Nat)} {x : Nat}, x ∈ joinL c ws → x = c ∨ ∃ w ∈ ws, x ∈ w
  | [], x, h => by cases h
  | [w], x, h => .inr ⟨w, List.mem_cons_self, h⟩
  | w :: v :: r, x, h => by
    have h : x ∈ w ++ c :: joinL c (v :: r) := h
    rcases List.mem_append.mp h with z | z
    · exact .inr ⟨w, List.mem_cons_self, z⟩
    · rcases List.mem_cons.mp z with y | y
      · exact .inl y
      · rcases joinL_mem y with q | ⟨u, hu, q⟩
        · exact .inl q
        · exact .inr ⟨u, List.mem_cons_of_mem _ hu, q⟩
theorem row_ok {ws : List (List Nat)} {z : PySem.Str} (hz : tl z = joinL 32 ws) (h1 : ws.length ≤ 150) (h2 : ∀ w ∈ ws, w.length ≤ 5 ∧ ∀ c ∈ w, c < 128) : Ascii z ∧ z.length ≤ 1000 := by
  refine ⟨ascii_of fun c hc => ?_, ?_⟩
  · rw [hz] at hc
    rcases joinL_mem hc with q | ⟨w, hw, q⟩
    · omega
    · exact (h2 w hw).2 c q
  · have := joinL_len (c := 32) (m := 5) fun w hw => (h2 w hw).1
    rw [len_tl, hz]
    omega
theorem dtx_ok {d : Nat × Nat} (h1 : d.1 ≤ d.2) (h2 : d.2 < 80) : (dtx d).length ≤ 5 ∧ ∀ c ∈ dtx d, c < 128 := ⟨dtx_len (a := d.1) (b := d.2) (by omega) h2, dtx_lt (a := d.1) (b := d.2) (by omega) h2⟩
theorem deeds_ok {ds : List (Nat × Nat)} {z : PySem.Str} (D : Dd ds) (hl : ds.length ≤ 63) (hz : tl z = deedsL ds) : Ascii z ∧ z.length ≤ 1000 := by
  unfold deedsL at hz
  by_cases e : ds = []
  · rw [if_pos e] at hz
    exact row_ok (ws := [[46]]) hz (by decide) fun w hw => by rw [List.mem_singleton.mp hw]; decide
  · rw [if_neg e] at hz
    refine row_ok hz (by rw [List.length_map]; omega) fun w hw => ?_
    obtain ⟨d, hd, rfl⟩ := List.mem_map.mp hw
    exact dtx_ok (D.2 d hd).1 (D.2 d hd).2
theorem cut_strs (zs : List PySem.Str) (lo hi : Option Int) : ∃ us : List PySem.Str, cutV (zs.map V.str) lo hi = us.map V.str ∧ us.length ≤ zs.length ∧ ∀ u ∈ us, u ∈ zs := by
  unfold cutV
  rw [← List.map_drop, ← List.map_take]
  refine ⟨_, rfl, ?_, fun u hu => List.mem_of_mem_drop (List.mem_of_mem_take hu)⟩
  rw [List.length_take, List.length_drop]
  omega
end Sx
namespace Sx
open PySem Builtin Builtin.Str StrLaws L2 Mir
theorem deepL_of {K : PySem.W.Frag} {H : Hp} {a b : Addr} {ds : List (Nat × Nat)} (h1 : ClT H a (ds.map ip)) (h2 : ClT H b (ds.map ip)) : DeepL K H 1 a b := by
  obtain ⟨ts, a1, a2, a3⟩ := h1
  obtain ⟨us, b1, b2, b3⟩ := h2
  refine ⟨_, _, SqL.of a1, SqL.of b1, by rw [List.length_map, List.length_map, a2, b2], fun i u v hu hv => ?_⟩
  rw [List.getElem?_map] at hu hv
  obtain ⟨t1, e1, rfl⟩ := Option.map_eq_some_iff.mp hu
  obtain ⟨t2, e2, rfl⟩ := Option.map_eq_some_iff.mp hv
  have hi : i < (ds.map ip).length := by rw [← a2]; exact (List.getElem?_eq_some_iff.mp e1).1
  have hp := List.getElem?_eq_getElem hi
  refine .inr ⟨t1, t2, _, _, rfl, rfl, .inr ⟨SqT.of (a3 i t1 _ e1 hp), SqT.of (b3 i t2 _ e2 hp)⟩, rfl, fun j x y hx hy => ?_⟩
  rw [hx] at hy
  refine ⟨Option.some.inj hy, ?_⟩
  match j, hx with
  | 0, hx => cases hx; rfl
  | 1, hx => cases hx; rfl
def ThP (Hc : Hp) (D3 : Addr) (ds : List (Nat × Nat)) (i : Nat) (σ : St) (H : Hp) : Prop := ∃ (v : Option V) (zs : List PySem.Str), σ = [v] ∧ Same Hc H ∧ H D3 = some (.lst (zs.map V.str)) ∧ zs.map tl = (ds.take i).map dtx
theorem thing_step {Hc : Hp} {D3 : Addr} {us : List Addr} {ds : List (Nat × Nat)} (D0 : Dd ds) (hl : ds.length ≤ 63) (hD3 : Hc D3 = none) (g2 : us.length = ds.length) (g3 : ∀ (i : Nat) (t : Addr) (p : Int × Int), us[i]? = some t → (ds.map ip)[i]? = some p → Hc t = some (.tup [.int p.1, .int p.2])) :
    ∀ (i : Nat) (x : V) (σ : St) (H : Hp), (us.map V.ref)[i]? = some x → ThP Hc D3 ds i σ H →
      gName 0 x σ H fun σ3 H3 => tYes σ3 H3 fun b H4 => if b = true then tCall spLawThing [] E0 (tCons (tVar 0) tNil) σ3 H4 fun v H5 => ∃ ys, H5 D3 = some (.lst ys) ∧ ys.length < sizeLine ∧ ThP Hc D3 ds (i + 1) σ3 (upd H5 D3 (.lst (ys ++ [v]))) else ThP Hc D3 ds (i + 1) σ3 H4 := by
  rintro i x σ H hx ⟨v, zs, rfl, s2, hD2, hz⟩
  obtain ⟨t, hti, rfl⟩ : ∃ t, us[i]? = some t ∧ x = .ref t := by
    rw [List.getElem?_map] at hx
    obtain ⟨t, e1, e2⟩ := Option.map_eq_some_iff.mp hx
    exact ⟨t, e1, e2.symm⟩
  have hi : i < ds.length := by rw [← g2]; exact (List.getElem?_eq_some_iff.mp hti).1
  have hdi : ds[i]? = some ds[i] := List.getElem?_eq_getElem hi
  have htt := s2 _ _ (g3 i t _ hti (by rw [List.getElem?_map, hdi]; rfl))
  have hb := D0.2 _ (List.mem_of_getElem? hdi)
  generalize ds[i] = d at hdi htt hb
  have zl : zs.length = i := by
    have := congrArg List.length hz
    rw [List.length_map, List.length_map, List.length_take] at this
    omega
  refine gYes ⟨_, rfl, t, d, rfl, htt, by omega, by omega, fun z H3 s3 hz3 => ?_⟩
  refine ⟨_, s3 _ _ hD2, small1000 (by rw [List.length_map]; omega), _, zs ++ [z], rfl, (s2.trans s3).upd hD3, by rw [upd_same, List.map_append]; rfl, ?_⟩
  rw [take_snoc hdi, List.map_append, List.map_append, hz]
  show _ ++ [tl z] = _
  rw [hz3]
  rfl
theorem things_ok {ds : List (Nat × Nat)} {zs : List PySem.Str} (D0 : Dd ds) (hz : zs.map tl = ds.map dtx) : ∀ z ∈ zs, z.length ≤ 5 ∧ (∀ c ∈ tl z, c < 128) := fun z hm => by
  have : tl z ∈ ds.map dtx := by rw [← hz]; exact List.mem_map.mpr ⟨z, hm, rfl⟩
  obtain ⟨d, hd, e⟩ := List.mem_map.mp this
  have := dtx_ok (D0.2 d hd).1 (D0.2 d hd).2
  rw [e] at this
  exact this
end Sx

set_option maxHeartbeats 2000000
namespace Law
open PySem L2
def top (i : Nat) : Stmt := PySem.Challenge.pw_claspwork_k15_deeds_written.main.body.getD i (.Pass ⟨0, 0, 0, 0⟩)
abbrev s_text_of_words : Stmt := top 7
abbrev s_words_of_text : Stmt := top 8
abbrev s_read_number : Stmt := top 9
abbrev s_deeds_text : Stmt := top 11
abbrev s_deed_text : Stmt := top 12
abbrev s_read_deeds : Stmt := top 13
abbrev s_read_deed : Stmt := top 14
abbrev s_law_cell : Stmt := top 16
abbrev s_law_whole : Stmt := top 17
abbrev s_law_deed : Stmt := top 18
abbrev s_law_thing : Stmt := top 19
abbrev s_law_row_is : Stmt := top 20
abbrev s_law_refused : Stmt := top 21
abbrev s_law : Stmt := top 22
theorem sc_text_of_words : FnScope ["words"] ["words"] (defScope s_text_of_words) := ⟨rfl, rfl, rfl, by decide +kernel, rfl, by decide +kernel, by decide +kernel⟩
theorem sc_words_of_text : FnScope ["text"] ["text"] (defScope s_words_of_text) := ⟨rfl, rfl, rfl, by decide +kernel, rfl, by decide +kernel, by decide +kernel⟩
theorem sc_read_number : FnScope ["word", "most"] ["word", "most"] (defScope s_read_number) := ⟨rfl, rfl, rfl, by decide +kernel, rfl, by decide +kernel, by decide +kernel⟩
theorem sc_deeds_text : FnScope ["deeds"] ["deeds"] (defScope s_deeds_text) := ⟨rfl, rfl, rfl, by decide +kernel, rfl, by decide +kernel, by decide +kernel⟩
theorem sc_deed_text : FnScope ["low", "high"] ["low", "high"] (defScope s_deed_text) := ⟨rfl, rfl, rfl, by decide +kernel, rfl, by decide +kernel, by decide +kernel⟩
theorem sc_read_deeds : FnScope ["text"] ["text"] (defScope s_read_deeds) := ⟨rfl, rfl, rfl, by decide +kernel, rfl, by decide +kernel, by decide +kernel⟩
theorem sc_read_deed : FnScope ["word", "parts", "low", "high"] ["word"] (defScope s_read_deed) := ⟨rfl, rfl, rfl, by decide +kernel, rfl, by decide +kernel, by decide +kernel⟩
theorem sc_law_cell : FnScope ["script", "k"] ["script", "k"] (defScope s_law_cell) := ⟨rfl, rfl, rfl, by decide +kernel, rfl, by decide +kernel, by decide +kernel⟩
theorem sc_law_whole : FnScope ["found"] ["found"] (defScope s_law_whole) := ⟨rfl, rfl, rfl, by decide +kernel, rfl, by decide +kernel, by decide +kernel⟩
theorem sc_law_deed : FnScope ["cell", "one", "two"] ["cell"] (defScope s_law_deed) := ⟨rfl, rfl, rfl, by decide +kernel, rfl, by decide +kernel, by decide +kernel⟩
theorem sc_law_thing : FnScope ["deed"] ["deed"] (defScope s_law_thing) := ⟨rfl, rfl, rfl, by decide +kernel, rfl, by decide +kernel, by decide +kernel⟩
theorem sc_law_row_is : FnScope ["found", "due", "k"] ["found", "due"] (defScope s_law_row_is) := ⟨rfl, rfl, rfl, by decide +kernel, rfl, by decide +kernel, by decide +kernel⟩
theorem sc_law_refused : FnScope ["text", "caught", "e"] ["text"] (defScope s_law_refused) := ⟨rfl, rfl, rfl, by decide +kernel, rfl, by decide +kernel, by decide +kernel⟩
theorem sc_law : FnScope ["script", "deeds", "due", "handed", "found", "things", "place", "odd", "thing", "stead"] ["script"] (defScope s_law) := ⟨rfl, rfl, rfl, by decide +kernel, rfl, by decide +kernel, by decide +kernel⟩
structure Bl (mg : Str → Option Value) : Prop where
  «ValueError» : mg "ValueError" = none
  «all» : mg "all" = none
  «bool» : mg "bool" = none
  «int» : mg "int" = none
  «isinstance» : mg "isinstance" = none
  «len» : mg "len" = none
  «list» : mg "list" = none
  «range» : mg "range" = none
  «str» : mg "str" = none
  «tuple» : mg "tuple" = none
section
variable {P : Program} {w : World} {K : PySem.W.Frag} {mg : Str → Option Value} {base : Heap}
theorem ok_text_of_words {f : Addr} {fd : FuncData} (B : Bl mg) (F : Fn K mg "text_of_words" s_text_of_words ["words"] f fd) : FnOk P w K mg base CX0 1 f fd ["words"] Sx.spWordsT := by
  refine F.fn.ok sc_text_of_words (fun vs H Q E h => ?_) (fun cdv A outer s H vs Q E hr h => ?_)
  · obtain ⟨l, ts, rfl, _⟩ := h
    rfl
  · obtain ⟨l, ts, rfl, hl, h1, h2, k⟩ := h
    refine ⟨_, pss_one (ps_ret (pe_ifExp (pt_cmpR op_gt (pe_callB call_len_seq rfl B.len bb_len (pa_cons (pv 0) pa_nil)) pe_int (nomark _)) (pe_bm PySem.F.plainAttrs_str PySem.F.slot_str_join PySem.F.type_str_join mt_join pe_str (pa_cons (pv 0) pa_nil)) pe_str)), ?_⟩
    refine ⟨_, rfl, l, _, rfl, .inl (SqL.of hl), _, _, rfl, rfl, _, rfl, ?_⟩
    rw [List.length_map]
    refine ite2 (fun h3 => ?_) (fun h3 => ?_)
    · have h3 := of_decide_eq_true h3
      have ne : ts ≠ [] := fun z => by rw [z] at h3; simp at h3
      refine ⟨rfl, _, rfl, _, l, ts, rfl, rfl, hl, by rw [Sx.blank]; exact Sx.join_ok h1 h2, k _ ?_⟩
      rw [if_neg ne, Sx.blank, Sx.join_tl]
    · have ne : ts = [] := by
        cases ts with
        | nil => rfl
        | cons t r => exact absurd (decide_eq_true (by simp)) h3
      refine k _ ?_
      rw [if_pos ne]
      decide +kernel
end
section
variable {P : Program} {w : World} {K : PySem.W.Frag} {mg : Str → Option Value} {base : Heap}
theorem ok_words_of_text {f : Addr} {fd : FuncData} (F : Fn K mg "words_of_text" s_words_of_text ["text"] f fd) : FnOk P w K mg base CX0 1 f fd ["text"] Sx.spWordsOf := by
  refine F.fn.ok sc_words_of_text (fun vs H Q E h => ?_) (fun cdv A outer s H vs Q E hr h => ?_)
  · obtain ⟨z, rfl, _⟩ := h
    rfl
  · obtain ⟨z, rfl, hz, hl, k⟩ := h
    refine ⟨_, pss_one (ps_ret (pe_ifExp (pt_cmpR op_ne (pv 0) pe_str (nomark _)) (pe_bm PySem.F.plainAttrs_str PySem.F.slot_str_split PySem.F.type_str_split mt_split (pv 0) (pa_cons pe_str pa_nil)) (pe_lst pa_nil))), ?_⟩
    refine ⟨_, rfl, rfl, _, rfl, ?_⟩
    have sz : ∀ n : Nat, n ≤ 20000 → n ≤ sizeLine := fun n h => Nat.le_trans h (by decide)
    refine ite2 (fun h3 => ?_) (fun h3 => ?_)
    · have ne : z ≠ "." := fun e => by rw [e] at h3; simp at h3
      have l1 := Sx.split_len hz
      have l2 := Sx.parts_len z
      refine ⟨_, rfl, rfl, z, _, rfl, rfl, by rw [Sx.blank]; rfl, sz _ (by omega), sz _ (by rw [Sx.blank]; omega), sz _ (by rw [Sx.blank]; omega), fun p hp => k p _ _ hp (same_upd hp) upd_same ?_⟩
      rw [Sx.blank, Sx.split_tl hz (by decide), if_neg (fun e => ne (Sx.eq_dot.mpr e))]
    · have e : z = "." := by
        by_cases e : z = "."
        · exact e
        · exact absurd (by simp [e]) h3
      refine ⟨by show 0 ≤ sizeLine; decide, fun p hp => k p [] _ hp (same_upd hp) upd_same ?_⟩
      rw [if_pos (Sx.eq_dot.mp e)]
      rfl
end
section
variable {P : Program} {w : World} {K : PySem.W.Frag} {mg : Str → Option Value} {base : Heap}
theorem ok_read_number {f C : Addr} {fd : FuncData} {tf : Tok} (B : Bl mg) (MF : mg "FIGURES" = some (.str Sx.FIG tf)) (Z : ECls K mg "NoText" C) (F : Fn K mg "read_number" s_read_number ["word", "most"] f fd) : FnOk P w K mg base (CXo P w) 1 f fd ["word", "most"] (Sx.spReadNumX C) := by
  refine F.fn.okX2 sc_read_number (fun vs H Q E h => ?_) (fun cdv A outer s H vs Q E hr h own => ?_)
  · obtain ⟨z, rfl, _⟩ := h
    rfl
  · obtain ⟨z, rfl, hA, hl, kg, kb⟩ := h
    have nd1 : (["sign"] : List Str).Nodup := by decide +kernel
    have sz : ∀ n : Nat, n ≤ 20000 → n ≤ sizeLine := fun n h => Nat.le_trans h (by decide)
    have one : 1 ≤ sizeLine := by decide
    have l79 : (Str.ofString (toString (79 : Int))).length = 2 := by decide +kernel
    have g79 : (79 : Int).natAbs.log2 < 1920 := by decide +kernel
    have zero : Sx.tl ("0" : Str) = [48] := by decide +kernel
    refine ⟨_, pss_cons (ps_if (PW.pt (pw_or (pt_cmpR op_eq (pv 0) pe_str (nomark _)) (pw_or1 (pt_not (pt_val (pe_callB (call_all_bl rfl) rfl B.all bb_all (pa_cons (pe_comp (NC := ["sign"]) rfl (compOk0 rfl (by decide +kernel) (by decide +kernel)) (pi_str (pv 0)) (fun _ _ _ _ => pg_name (i := 0) nd1 rfl (Or.inl rfl)) (fun _ _ _ _ => pts_nil) (fun _ _ _ _ => pe_cmpR op_in_str (pv 0) (pe_glob (v := .str Sx.FIG) rfl MF ⟨_, rfl⟩) rfl)) pa_nil))))))) (pss_one (ps_raise rfl Z (pa_cons (pe_fs (pj_rv (pv 0) (pj_str pj_nil)) (by decide)) pa_nil))) pss_nil)
      (pss_cons (ps_if (PW.pt (pw_and (pt_cmpR op_eq (pe_item_str (pv 0) pe_int (fun _ _ => rfl)) pe_str (nomark _)) (pw_and1 (pt_cmpR op_ne (pv 0) pe_str (nomark _))))) (pss_one (ps_raise rfl Z (pa_cons (pe_fs (pj_sv (pv 0) (pj_str pj_nil)) (by decide)) pa_nil))) pss_nil)
      (ps_sem (R := fun D σ H2 => σ = [some (.str z), some (.int 79)] ∧ Same H H2 ∧ Sx.tl z ≠ [] ∧ (∀ c ∈ Sx.tl z, 48 ≤ c ∧ c ≤ 57) ∧ ((Sx.tl z).head? = some 48 → Sx.tl z = [48]) ∧ D.rt = Q) fun D σ H2 hR => ?rest)), ?_⟩
    case rest =>
      obtain ⟨rfl, s2, d2, d1, d4, hD⟩ := hR
      refine ⟨_, pss_cons (ps_if (PW.pt (pw_or (pt_cmpR op_gt (pe_callB call_len_str rfl B.len bb_len (pa_cons (pv 0) pa_nil)) (pe_callB call_len_str rfl B.len bb_len (pa_cons (pe_callTy call_str_int rfl B.str bb_str (pa_cons (pv 1) pa_nil)) pa_nil)) (nomark _)) (pw_or1 (pt_cmpR op_gt (pe_callTy call_int_text rfl B.int bb_int (pa_cons (pv 0) pa_nil)) (pv 1) (nomark _))))) (pss_one (ps_raise rfl Z (pa_cons (pe_fs (pj_sv (pv 0) (pj_str (pj_int (pv 1) pj_nil))) (by decide)) pa_nil))) pss_nil)
        (pss_one (ps_ret (pe_callTy call_int_text rfl B.int bb_int (pa_cons (pv 0) pa_nil)))), ?_⟩
      refine ⟨_, rfl, z, rfl, sz _ (by omega), _, rfl, 79, rfl, g79, _, rfl, sz _ (by omega), _, _, rfl, rfl, _, rfl, ?_⟩
      by_cases c2 : z.length ≤ 2
      · obtain ⟨m, hm, hz⟩ := Sx.num_of d2 d1 d4 c2
        have nr : PySem.intText? z = some (m : Int) := by rw [Sx.is_num hz]; exact PySem.W.KIN.num_reads (by omega) (by omega)
        refine iteD (by rw [l79]; omega) ⟨_, rfl, z, m, rfl, nr, by omega, _, rfl, _, _, rfl, rfl, _, rfl, ?_⟩
        by_cases c3 : m < 80
        · refine iteD (by omega) ⟨_, rfl, z, m, rfl, nr, by omega, ?_⟩
          rw [hD]
          exact kg m _ (by rw [hz]; exact Sx.rdN_dg m c3) s2
        · refine iteE (by omega) ⟨⟨_, rfl, rfl, ⟨z, rfl, by omega, hA⟩, _, rfl, rfl, ⟨_, rfl, g79⟩, trivial⟩, fun x => ⟨one, kb _ ?_ s2⟩⟩
          cases q : Sx.rdN (Sx.tl z) with
          | none => rfl
          | some m2 =>
            obtain ⟨q1, q2⟩ := Sx.rdN_of q
            have nr2 : PySem.intText? z = some (m2 : Int) := by rw [Sx.is_num q2.symm]; exact PySem.W.KIN.num_reads (by omega) (by omega)
            rw [nr] at nr2
            have := Option.some.inj nr2
            omega
      · refine iteE (by rw [l79]; omega) ⟨⟨_, rfl, rfl, ⟨z, rfl, by omega, hA⟩, _, rfl, rfl, ⟨_, rfl, g79⟩, trivial⟩, fun x => ⟨one, kb _ ?_ s2⟩⟩
        cases q : Sx.rdN (Sx.tl z) with
        | none => rfl
        | some m2 =>
          obtain ⟨q1, q2⟩ := Sx.rdN_of q
          have := (Sx.dg100 m2 (by omega)).2.2.1
          rw [q2] at this
          exact absurd this c2
    have bad : ∀ {H2 : Hp}, Sx.rdN (Sx.tl z) = none → Same H H2 → E (.ref C) none H2 := fun h1 h2 => kb _ h1 h2
    refine ⟨_, rfl, rfl, _, rfl, ?_⟩
    by_cases h0 : Sx.tl z = []
    · have e0 : z = "" := Sx.ext (by rw [h0]; decide +kernel)
      exact iteE (by rw [e0]) ⟨⟨_, rfl, rfl, ⟨z, rfl, by omega, hA⟩, trivial⟩, fun x => ⟨one, kb _ (by rw [h0]; decide +kernel) (Same.refl _)⟩⟩
    have nz : ¬ z = "" := fun e => h0 (by rw [e]; decide +kernel)
    refine iteD (fun e => nz (by injection e)) ?_
    refine ⟨_, rfl, z, rfl, hA, fun D hD => comp_str (z := z) (fun i σ H2 => ∃ (v : Option V), σ = [v] ∧ Same H H2 ∧ H2 D = some (.lst ((((Sx.tl z).take i).map fun c => decide (48 ≤ c ∧ c ≤ 57)).map V.bl)))
      ⟨none, rfl, same_upd hD, upd_same⟩ ?_ ?_⟩
    · rintro i c σ H2 hc ⟨v, rfl, s4, hD2⟩
      have hi : i < z.length := (Array.getElem?_eq_some_iff.mp hc).1
      have hci : (Sx.tl z)[i]? = some c := by rw [← hc]; exact Array.getElem?_toList
      refine gYes ⟨_, rfl, _, _, rfl, rfl, ?_⟩
      rw [Sx.fig_at c (Sx.ascii_mem hA c (List.mem_of_getElem? hci))]
      refine ⟨_, hD2, small1000 (by rw [List.length_map, List.length_map, List.length_take]; omega), _, rfl, s4.upd hD, ?_⟩
      rw [upd_same, Mir.take_snoc hci, List.map_append, List.map_append]
      rfl
    · rintro σ H2 ⟨v, rfl, s4, hD2⟩
      rw [List.take_of_length_le (show (Sx.tl z).length ≤ z.length from Nat.le_refl _)] at hD2
      refine ⟨D, _, rfl, hD2, _, rfl, ?_⟩
      by_cases d1 : ∀ c ∈ Sx.tl z, 48 ≤ c ∧ c ≤ 57
      · have e : ((Sx.tl z).map fun c => decide (48 ≤ c ∧ c ≤ 57)).all id = true := by
          rw [List.all_eq_true]
          intro b hb
          obtain ⟨c, hc, rfl⟩ := List.mem_map.mp hb
          exact decide_eq_true (d1 c hc)
        rw [e]
        refine iteF ?_
        have h1 : (Sx.tl z)[0]? = some ((Sx.tl z).headD 0) := by
          cases h : Sx.tl z with
          | nil => exact absurd h h0
          | cons a r => rfl
        have h2 : z.cps[(0 : Int).toNat]? = some ((Sx.tl z).headD 0) := by
          rw [← h1]
          exact Array.getElem?_toList.symm
        have hl1 : 1 ≤ z.length := List.length_pos_iff.mpr h0
        refine ⟨_, rfl, _, _, _, rfl, rfl, by decide, by decide, by show (0 : Int) < z.length; omega, h2, rfl, _, rfl, ?_⟩
        by_cases c0 : (Sx.tl z).headD 0 = 48
        · refine iteE (by rw [c0]; exact congrArg V.str (Sx.ext (by rw [zero]; rfl))) ⟨_, rfl, rfl, _, rfl, ?_⟩
          by_cases c1 : Sx.tl z = [48]
          · refine iteNS (by rw [show z = "0" from Sx.ext (by rw [zero, c1])]) ?_
            exact ⟨rfl, s4, h0, d1, fun _ => c1, rfl⟩
          · have e1 : ¬ V.str z = V.str "0" := fun e => c1 (by injection e with e; rw [e, zero])
            refine iteNN e1 ⟨⟨_, rfl, rfl, ⟨z, rfl, by omega, hA⟩, trivial⟩, fun x => ⟨one, bad ?_ s4⟩⟩
            cases q : Sx.rdN (Sx.tl z) with
            | none => rfl
            | some m2 =>
              obtain ⟨q1, q2⟩ := Sx.rdN_of q
              refine absurd ((Sx.dg100 m2 (by omega)).2.2.2 ?_) (by rw [q2]; exact c1)
              rw [q2]
              cases h : Sx.tl z with
              | nil => exact absurd h h0
              | cons a r => rw [h] at c0; exact congrArg some c0
        · refine iteD (fun e => c0 (by injection e with e; have := congrArg Sx.tl e; rw [zero] at this; exact (List.cons.inj this).1)) (iteF ?_)
          refine ⟨rfl, s4, h0, d1, fun h => absurd ?_ c0, rfl⟩
          rw [List.headD_eq_head?_getD, h]
          rfl
      · have e : ((Sx.tl z).map fun c => decide (48 ≤ c ∧ c ≤ 57)).all id = false := by
          rw [Bool.eq_false_iff]
          intro h
          rw [List.all_eq_true] at h
          exact d1 fun c hc => of_decide_eq_true (h _ (List.mem_map.mpr ⟨c, hc, rfl⟩))
        rw [e]
        refine iteT ⟨⟨_, rfl, rfl, ⟨z, rfl, by omega, hA⟩, trivial⟩, fun x => ⟨one, bad ?_ s4⟩⟩
        cases q : Sx.rdN (Sx.tl z) with
        | none => rfl
        | some m2 =>
          obtain ⟨q1, q2⟩ := Sx.rdN_of q
          exact absurd (by rw [← q2]; exact (Sx.dg100 m2 (by omega)).1) d1
end
section
variable {P : Program} {w : World} {K : PySem.W.Frag} {mg : Str → Option Value} {base : Heap}
theorem ok_deed_text {f : Addr} {fd : FuncData} (F : Fn K mg "deed_text" s_deed_text ["low", "high"] f fd) : FnOk P w K mg base CX0 1 f fd ["low", "high"] Sx.spDeedText := by
  refine F.fn.ok sc_deed_text (fun vs H Q E h => ?_) (fun cdv A outer s H vs Q E hr h => ?_)
  · obtain ⟨d, rfl, _⟩ := h
    rfl
  · obtain ⟨d, rfl, h1, h2, k⟩ := h
    have sm : ∀ k : Nat, k ≤ 1000 → ((k : Nat) : Int).natAbs.log2 < 1920 := fun k hk => (Mir.Sm.of (i := (k : Int)) (by omega) (by omega)).log
    refine ⟨_, pss_one (ps_ret (pe_ifExp (pt_cmpR op_eq (pv 0) (pv 1) (nomark _)) (pe_fs1 (pv 0)) (pe_fs3 (pv 0) (pv 1) (by decide)))), ?_⟩
    refine ⟨_, rfl, _, rfl, rfl, _, rfl, ?_⟩
    by_cases e : d.1 = d.2
    · refine iteE (by rw [e]) ⟨_, rfl, _, rfl, sm _ (by omega), k _ _ (Same.refl _) ?_⟩
      rw [Sx.tl_num]
      unfold Sx.dtx
      rw [if_pos e]
    · refine iteD (fun z => e (by injection z with z; omega)) ⟨_, rfl, _, rfl, sm _ (by omega), _, rfl, _, rfl, sm _ (by omega), k _ _ (Same.refl _) ?_⟩
      rw [Sx.tl_app, Sx.tl_app, Sx.tl_app, Sx.tl_num, Sx.tl_num, Sx.minus]
      unfold Sx.dtx
      rw [if_neg e]
      show [] ++ Sx.dg d.1 ++ [45] ++ Sx.dg d.2 = _
      simp
end
section
variable {P : Program} {w : World} {K : PySem.W.Frag} {mg : Str → Option Value} {base : Heap}
theorem ok_deeds_text {f f1 f2 : Addr} {fd fd1 fd2 : FuncData} (B : Bl mg) (F : Fn K mg "deeds_text" s_deeds_text ["deeds"] f fd) (F1 : Fn K mg "text_of_words" s_text_of_words ["words"] f1 fd1) (F2 : Fn K mg "deed_text" s_deed_text ["low", "high"] f2 fd2) : FnOk P w K mg base CX0 2 f fd ["deeds"] Sx.spDeedsText := by
  have G1 : FnOk P w K mg base CX0 1 f1 fd1 ["words"] Sx.spWordsT := ok_text_of_words B F1
  have G2 : FnOk P w K mg base CX0 1 f2 fd2 ["low", "high"] Sx.spDeedText := ok_deed_text F2
  refine F.fn.ok sc_deeds_text (fun vs H Q E h => ?_) (fun cdv A outer s H vs Q E hr h => ?_)
  · obtain ⟨l, ds, rfl, _⟩ := h
    rfl
  · obtain ⟨l, ds, rfl, hc, D, k⟩ := h
    have nd1 : (["deed"] : List Str).Nodup := by decide +kernel
    obtain ⟨ts, hl, tl1, ht⟩ := hc
    refine ⟨_, pss_one (ps_ret (pe_fn G1 F1 hr (pa_cons (pe_comp (NC := ["deed"]) rfl (compOk0 rfl (by decide +kernel) (by decide +kernel)) (pi_list (pv 0)) (fun _ _ _ _ => pg_name (i := 0) nd1 rfl (Or.inl rfl)) (fun _ _ _ _ => pts_nil) (fun _ _ _ _ => pe_fn G2 F2 hr (pa_cons (pe_ix (ix_tupK (K := K) rfl) (pv 0) pe_int (fun _ _ => rfl)) (pa_cons (pe_ix (ix_tupK (K := K) rfl) (pv 0) pe_int (fun _ _ => rfl)) pa_nil)))) pa_nil))), ?_⟩
    rw [List.length_map] at tl1
    refine ⟨_, rfl, l, rfl, ⟨_, SqL.of hl⟩, fun D2 hD => comp_list (K := K) (a := l) (xs := ts.map V.ref) (fun i σ H2 => ∃ (v : Option V) (zs : List Str), σ = [v] ∧ Same H H2 ∧ H2 D2 = some (.lst (zs.map V.str)) ∧ zs.map Sx.tl = (ds.take i).map Sx.dtx)
      ⟨none, [], rfl, same_upd hD, upd_same, rfl⟩ (fun i σ H2 _ ⟨_, _, _, s2, _⟩ => SqL.of (s2 _ _ hl)) ?_ ?_⟩
    · rintro i x σ H2 hx ⟨v, zs, rfl, s2, hD2, hz⟩
      obtain ⟨t, hti, rfl⟩ : ∃ t, ts[i]? = some t ∧ x = .ref t := by
        rw [List.getElem?_map] at hx
        obtain ⟨t, e1, e2⟩ := Option.map_eq_some_iff.mp hx
        exact ⟨t, e1, e2.symm⟩
      have hi : i < ds.length := by rw [← tl1]; exact (List.getElem?_eq_some_iff.mp hti).1
      have hdi : ds[i]? = some ds[i] := List.getElem?_eq_getElem hi
      have htt := s2 _ _ (ht i t _ hti (by rw [List.getElem?_map, hdi]; rfl))
      have hb := D.2 _ (List.mem_of_getElem? hdi)
      have d1 := D.1
      generalize ds[i] = d at hdi htt hb
      have zl : zs.length = i := by
        have := congrArg List.length hz
        rw [List.length_map, List.length_map, List.length_take] at this
        omega
      refine gYes ⟨_, rfl, t, _, _, _, rfl, rfl, SqT.of htt, rfl, _, rfl, t, _, _, _, rfl, rfl, SqT.of htt, rfl, d, rfl, by omega, by omega, fun z H3 s3 hz3 => ?_⟩
      refine ⟨_, s3 _ _ hD2, small1000 (by rw [List.length_map]; omega), _, zs ++ [z], rfl, (s2.trans s3).upd hD, by rw [upd_same, List.map_append]; rfl, ?_⟩
      rw [Mir.take_snoc hdi, List.map_append, List.map_append, hz]
      show _ ++ [Sx.tl z] = _
      rw [hz3]
      rfl
    · rintro σ H2 ⟨v, zs, rfl, s2, hD2, hz⟩
      rw [List.length_map, tl1, List.take_length] at hz
      have zl : zs.length = ds.length := by have := congrArg List.length hz; rwa [List.length_map, List.length_map] at this
      have d1 := D.1
      refine ⟨D2, zs, rfl, hD2, by omega, fun t htm => ?_, fun z hz3 => k z _ s2 ?_⟩
      · have : Sx.tl t ∈ ds.map Sx.dtx := by rw [← hz]; exact List.mem_map.mpr ⟨t, htm, rfl⟩
        obtain ⟨d, hd, e⟩ := List.mem_map.mp this
        have := (Sx.dtx_ok (D.2 d hd).1 (D.2 d hd).2).1
        rw [e, ← Sx.len_tl] at this
        omega
      · rw [hz3]
        unfold Sx.deedsL
        by_cases e : ds = []
        · have : zs = [] := List.length_eq_zero_iff.mp (by rw [zl, e]; rfl)
          rw [if_pos e, if_pos this]
        · have : zs ≠ [] := fun q => e (List.length_eq_zero_iff.mp (by rw [← zl, q]; rfl))
          rw [if_neg e, if_neg this, hz]
end
section
variable {P : Program} {w : World} {K : PySem.W.Frag} {mg : Str → Option Value} {base : Heap}
theorem ok_read_deed {f f1 C : Addr} {fd fd1 : FuncData} {tm : Tok} (MS : mg "MOST_STAVES" = some (.int 40 tm)) (Z : ECls K mg "NoText" C) (F : Fn K mg "read_deed" s_read_deed ["word"] f fd) (F1 : Fn K mg "read_number" s_read_number ["word", "most"] f1 fd1) (G1 : FnOk P w K mg base (CXo P w) 1 f1 fd1 ["word", "most"] (Sx.spReadNumX C)) : FnOk P w K mg base (CXo P w) 2 f fd ["word"] (Sx.spReadDeed C) := by
  refine F.fn.okX2 sc_read_deed (fun vs H Q E h => ?_) (fun cdv A outer s H vs Q E hr h own => ?_)
  · obtain ⟨z, rfl, _⟩ := h
    rfl
  · obtain ⟨z, rfl, hA, hl, kg, kb⟩ := h
    have sz : ∀ n : Nat, n ≤ 20000 → n ≤ sizeLine := fun n h => Nat.le_trans h (by decide)
    have one : 1 ≤ sizeLine := by decide
    have sm : ∀ k : Nat, k ≤ 1000 → ((k : Nat) : Int).natAbs.log2 < 1920 := fun k hk => (Mir.Sm.of (i := (k : Int)) (by omega) (by omega)).log
    refine ⟨_, pss_cons (ps_set (i := 1) sc_read_deed.nd rfl (Or.inl rfl) (pe_bm PySem.F.plainAttrs_str PySem.F.slot_str_partition PySem.F.type_str_partition mt_part (pv 0) (pa_cons pe_str pa_nil)))
      (pss_cons (ps_set (i := 2) sc_read_deed.nd rfl (Or.inl rfl) (pe_fnX G1 F1 hr (pa_cons (pe_ix ix_tup (pv 1) pe_int (fun _ _ => rfl)) (pa_cons (pe_op op_sub (pe_op op_mul pe_int (pe_glob (v := .int 40) rfl MS ⟨_, rfl⟩)) pe_int) pa_nil))))
      (pss_cons (ps_if (pt_cmpR op_eq (pe_ix ix_tup (pv 1) pe_int (fun _ _ => rfl)) pe_str (nomark _)) (pss_one (ps_ret (pe_tup (pa_cons (pv 2) (pa_cons (pv 2) pa_nil))))) pss_nil)
      (pss_cons (ps_set (i := 3) sc_read_deed.nd rfl (Or.inl rfl) (pe_fnX G1 F1 hr (pa_cons (pe_ix ix_tup (pv 1) pe_int (fun _ _ => rfl)) (pa_cons (pe_op op_sub (pe_op op_mul pe_int (pe_glob (v := .int 40) rfl MS ⟨_, rfl⟩)) pe_int) pa_nil))))
      (pss_cons (ps_if (pt_cmpR op_le (pv 3) (pv 2) (nomark _)) (pss_one (ps_raise rfl Z (pa_cons (pe_fs (pj_int (pv 3) (pj_str (pj_int (pv 2) pj_nil))) (by decide)) pa_nil))) pss_nil)
      (pss_one (ps_ret (pe_tup (pa_cons (pv 2) (pa_cons (pv 3) pa_nil))))))))), ?_⟩
    refine ⟨_, rfl, rfl, z, _, rfl, rfl, by rw [Sx.minus]; rfl, sz _ (by omega), fun p hp => ?_⟩
    have s1 : Same H (upd H p (.tup ((part3 z "-").map V.str))) := same_upd hp
    have hp1 : upd H p (.tup ((part3 z "-").map V.str)) p = some (.tup ((part3 z "-").map V.str)) := upd_same
    generalize upd H p (.tup ((part3 z "-").map V.str)) = H1 at s1 hp1
    rw [Sx.minus] at hp1
    by_cases hm : 45 ∈ Sx.tl z
    · obtain ⟨u, v, e1, e2⟩ := Sx.mem_cut hm
      obtain ⟨a, b, e3, ea, eb⟩ := Sx.part_at e2 e1
      rw [e3] at hp1
      have rd := Sx.rdD_at (q := v) e2
      rw [← e1] at rd
      have la : a.length ≤ 1000 := by rw [Sx.len_tl, ea]; have := congrArg List.length e1; rw [List.length_append, ← Sx.len_tl] at this; omega
      have lb : b.length ≤ 1000 := by rw [Sx.len_tl, eb]; have := congrArg List.length e1; rw [List.length_append, List.length_cons, ← Sx.len_tl] at this; omega
      have aa : Ascii a := Sx.ascii_of fun c hc => Sx.ascii_mem hA c (by rw [e1]; exact List.mem_append_left _ (by rw [← ea]; exact hc))
      have ab : Ascii b := Sx.ascii_of fun c hc => Sx.ascii_mem hA c (by rw [e1]; exact List.mem_append_right _ (List.mem_cons_of_mem _ (by rw [← eb]; exact hc)))
      refine ⟨_, rfl, p, _, _, _, rfl, rfl, SqT.of hp1, rfl, _, _, rfl, rfl, .inl ⟨by decide, by decide⟩, _, _, rfl, rfl, a, rfl, aa, la, fun m H2 hm1 s2 => ?_, fun H2 hn1 s2 => ?_⟩
      · rw [ea] at hm1
        refine ⟨_, rfl, p, _, _, _, rfl, rfl, SqT.of (s2 _ _ hp1), rfl, rfl, _, rfl, iteD (fun e => by injection e with e; exact absurd (congrArg Sx.tl e) (by decide +kernel)) ?_⟩
        refine ⟨_, rfl, p, _, _, _, rfl, rfl, SqT.of (s2 _ _ hp1), rfl, _, _, rfl, rfl, .inl ⟨by decide, by decide⟩, _, _, rfl, rfl, b, rfl, ab, lb, fun m2 H3 hm2 s3 => ?_, fun H3 hn2 s3 => ?_⟩
        · rw [eb] at hm2
          rw [hm1, hm2] at rd
          have rd : Sx.rdD (Sx.tl z) = if m < m2 then some (m, m2) else none := rd
          have b1 := (Sx.rdN_of hm1).1
          have b2 := (Sx.rdN_of hm2).1
          refine ⟨_, rfl, _, rfl, _, _, rfl, rfl, _, rfl, ?_⟩
          by_cases c : m < m2
          · rw [if_pos c] at rd
            refine iteD (by omega) ?_
            exact ⟨_, rfl, _, rfl, by show 2 ≤ sizeLine; decide, fun t ht => kg _ t _ rd (((s1.trans s2).trans s3).trans (same_upd ht)) upd_same⟩
          · rw [if_neg c] at rd
            exact iteE (by omega) ⟨⟨_, rfl, rfl, ⟨_, rfl, sm _ (by omega)⟩, _, rfl, rfl, ⟨_, rfl, sm _ (by omega)⟩, trivial⟩, fun x => ⟨one, kb _ rd ((s1.trans s2).trans s3)⟩⟩
        · rw [eb] at hn2
          rw [hm1, hn2] at rd
          exact kb _ rd ((s1.trans s2).trans s3)
      · rw [ea] at hn1
        rw [hn1] at rd
        exact kb _ rd (s1.trans s2)
    · rw [Sx.part_no hm] at hp1
      have rd := Sx.rdD_no hm
      refine ⟨_, rfl, p, _, _, _, rfl, rfl, SqT.of hp1, rfl, _, _, rfl, rfl, .inl ⟨by decide, by decide⟩, _, _, rfl, rfl, z, rfl, hA, hl, fun m H2 hm1 s2 => ?_, fun H2 hn1 s2 => ?_⟩
      · rw [hm1] at rd
        refine ⟨_, rfl, p, _, _, _, rfl, rfl, SqT.of (s2 _ _ hp1), rfl, rfl, _, rfl, iteE (congrArg V.str (Sx.ext (by decide +kernel))) ?_⟩
        exact ⟨_, rfl, _, rfl, by show 2 ≤ sizeLine; decide, fun t ht => kg _ t _ rd ((s1.trans s2).trans (same_upd ht)) upd_same⟩
      · rw [hn1] at rd
        exact kb _ rd (s1.trans s2)
end
section
variable {P : Program} {w : World} {K : PySem.W.Frag} {mg : Str → Option Value} {base : Heap}
theorem ok_read_deeds {f f1 f2 C : Addr} {fd fd1 fd2 : FuncData} (F : Fn K mg "read_deeds" s_read_deeds ["text"] f fd) (F1 : Fn K mg "read_deed" s_read_deed ["word"] f1 fd1) (G1 : FnOk P w K mg base (CXo P w) 2 f1 fd1 ["word"] (Sx.spReadDeed C)) (F2 : Fn K mg "words_of_text" s_words_of_text ["text"] f2 fd2) : FnOk P w K mg base (CXo P w) 3 f fd ["text"] (Sx.spReadDeeds C) := by
  have G2 : FnOk P w K mg base CX0 1 f2 fd2 ["text"] Sx.spWordsOf := ok_words_of_text F2
  refine F.fn.okX2 sc_read_deeds (fun vs H Q E h => ?_) (fun cdv A outer s H vs Q E hr h own => ?_)
  · obtain ⟨z, rfl, _⟩ := h
    rfl
  · obtain ⟨z, rfl, hA, hl, kg, kb⟩ := h
    have nd1 : (["word"] : List Str).Nodup := by decide +kernel
    have hr1 : Room 1 _ := hr.mono (by decide)
    refine ⟨_, pss_one (ps_ret (pe_compX (NC := ["word"]) rfl own (compOk0 rfl (by decide +kernel) (by decide +kernel)) (pi_list (pe_fn G2 F2 hr1 (pa_cons (pv 0) pa_nil))) (fun _ _ _ _ => pg_name (i := 0) nd1 rfl (Or.inl rfl)) (fun _ _ _ _ => pts_nil) (fun _ _ _ _ => pe_fnC G1 F1 hr (pa_cons (pv 0) pa_nil)))), ?_⟩
    refine ⟨_, rfl, z, rfl, hA, by omega, fun l ws H1 _ s1 hl1 hw => ?_⟩
    have hw : ws.map Sx.tl = Sx.wordsL (Sx.tl z) := hw
    refine ⟨l, rfl, ⟨_, SqL.of hl1⟩, fun D hD => comp_list (K := K) (a := l) (xs := ws.map V.str) (fun i σ H2 => ∃ (v : Option V) (ds : List (Nat × Nat)), σ = [v] ∧ Same H1 H2 ∧ Mir.ClT H2 D (ds.map Sx.ip) ∧ (((ws.take i).map Sx.tl).map Sx.rdD) = ds.map some)
      ⟨none, [], rfl, same_upd hD, Mir.ClT.nil upd_same, rfl⟩ (fun i σ H2 _ ⟨_, _, _, s2, _⟩ => SqL.of (s2 _ _ hl1)) ?_ ?_⟩
    · rintro i x σ H2 hx ⟨v, ds, rfl, s2, hD2, hds⟩
      obtain ⟨y, hy, rfl⟩ : ∃ y, ws[i]? = some y ∧ x = .str y := by
        rw [List.getElem?_map] at hx
        obtain ⟨y, e1, e2⟩ := Option.map_eq_some_iff.mp hx
        exact ⟨y, e1, e2.symm⟩
      have hmem : Sx.tl y ∈ Sx.wordsL (Sx.tl z) := by rw [← hw]; exact List.mem_map.mpr ⟨y, List.mem_of_getElem? hy, rfl⟩
      have hsub : (∀ c ∈ Sx.tl y, c ∈ Sx.tl z) ∧ (Sx.tl y).length ≤ (Sx.tl z).length := by
        have h := hmem
        unfold Sx.wordsL at h
        split at h
        · cases h
        · exact Sx.splitL_sub h
      have dl : ds.length = i := by
        have := congrArg List.length hds
        rw [List.length_map, List.length_map, List.length_map, List.length_take] at this
        have hi := (List.getElem?_eq_some_iff.mp hy).1
        omega
      have wl : ws.length ≤ 1001 := by
        have := congrArg List.length hw
        rw [List.length_map] at this
        unfold Sx.wordsL at this
        split at this
        · rw [this]; exact Nat.zero_le _
        · have := Sx.splitL_len 32 (Sx.tl z)
          rw [← Sx.len_tl] at this
          omega
      have hi := (List.getElem?_eq_some_iff.mp hy).1
      refine gYes ⟨_, rfl, y, rfl, Sx.ascii_of fun c hc => Sx.ascii_mem hA c (hsub.1 c hc), by rw [Sx.len_tl]; have := hsub.2; rw [← Sx.len_tl z] at this; omega, fun d t H3 hd s3 ht => ?_, fun H3 hn s3 => ?_⟩
      · obtain ⟨xs, e1, e2, e3⟩ := (hD2.same s3).snoc (p := Sx.ip d) ht
        refine ⟨xs, e1, Nat.lt_of_lt_of_le (show xs.length < 2000 by rw [e2, List.length_map]; omega) (by decide), _, ds ++ [d], rfl, (s2.trans s3).upd hD, by rw [List.map_append]; exact e3, ?_⟩
        rw [Mir.take_snoc hy, List.map_append, List.map_append, hds, List.map_append]
        show _ ++ [Sx.rdD (Sx.tl y)] = _
        rw [hd]
        rfl
      · exact kb _ ⟨_, hmem, hn⟩ ((s1.trans s2).trans s3)
    · rintro σ H2 ⟨v, ds, rfl, s2, hD2, hds⟩
      rw [List.length_map, List.take_length, hw] at hds
      exact kg ds D H2 hds (s1.trans s2) hD2
end
section
variable {P : Program} {w : World} {K : PySem.W.Frag} {mg : Str → Option Value} {base : Heap}
theorem ok_law_cell {f : Addr} {fd : FuncData} (B : Bl mg) (F : Fn K mg "_law_cell" s_law_cell ["script", "k"] f fd) : FnOk P w K mg base CX0 1 f fd ["script", "k"] (Mir.spCellAt K) := by
  refine F.fn.ok sc_law_cell (fun vs H Q E h => ?_) (fun cdv A outer s H vs Q E hr h => ?_)
  · obtain ⟨a, ns, k, rfl, _⟩ := h
    rfl
  · obtain ⟨a, ns, k, rfl, hS, q⟩ := h
    refine ⟨_, pss_cons (ps_if (pt_cmpR op_lt (pv 1) (pe_callB call_len_seq rfl B.len bb_len (pa_cons (pv 0) pa_nil)) (nomark _)) (pss_one (ps_ret (pe_ix ix_list (pv 0) (pv 1) (fun _ _ => rfl)))) pss_nil) (pss_one (ps_ret pe_int)), ?_⟩
    refine ⟨_, rfl, _, rfl, a, _, rfl, .inl hS, _, _, rfl, rfl, _, rfl, ?_⟩
    refine ite2 (fun h1 => ?_) (fun h1 => ?_)
    · have h1 := of_decide_eq_true h1
      rw [List.length_map] at h1
      have hk : k < ns.length := by omega
      have e : (ns.map V.int)[k]? = some (.int ns[k]) := by rw [List.getElem?_map, List.getElem?_eq_getElem hk]; rfl
      exact ⟨_, rfl, _, rfl, a, _, _, _, rfl, rfl, hS, atI_nat e, q _⟩
    · exact q 0
end
section
variable {P : Program} {w : World} {K : PySem.W.Frag} {mg : Str → Option Value} {base : Heap}
theorem ok_law_whole {f : Addr} {fd : FuncData} (B : Bl mg) (F : Fn K mg "_law_whole" s_law_whole ["found"] f fd) : FnOk P w K mg base CX0 1 f fd ["found"] Mir.spWhole := by
  refine F.fn.ok sc_law_whole (fun vs H Q E h => ?_) (fun cdv A outer s H vs Q E hr h => ?_)
  · obtain ⟨e, rfl, _⟩ := h
    rfl
  · obtain ⟨e, rfl, q⟩ := h
    refine ⟨_, pss_one (ps_ret (pe_and (pe_callB call_isi rfl B.isinstance bb_isinstance (pa_cons (pv 0) (pa_cons (pe_bltn (v := .ty "int") rfl B.int bb_int rfl) pa_nil)))
      (pe_one (pe_not (pe_callB call_isi rfl B.isinstance bb_isinstance (pa_cons (pv 0) (pa_cons (pe_bltn (v := .ty "bool") rfl B.bool bb_bool rfl) pa_nil))))))), ?_⟩
    refine ⟨_, rfl, _, _, _, _, rfl, .int e, kit_int_int _, _, rfl, iteT ?_⟩
    exact ⟨_, rfl, _, _, _, _, rfl, .int e, kit_int_bool _, _, rfl, q⟩
end
section
variable {P : Program} {w : World} {K : PySem.W.Frag} {mg : Str → Option Value} {base : Heap}
theorem ok_law_deed {f : Addr} {fd : FuncData} (F : Fn K mg "_law_deed" s_law_deed ["cell"] f fd) : FnOk P w K mg base CX0 1 f fd ["cell"] Sx.spLawDeed := by
  refine F.fn.ok sc_law_deed (fun vs H Q E h => ?_) (fun cdv A outer s H vs Q E hr h => ?_)
  · obtain ⟨c, rfl, _⟩ := h
    rfl
  · obtain ⟨c, rfl, k⟩ := h
    refine ⟨_, (pss_cons (ps_set (i := 1) sc_law_deed.nd rfl (Or.inl rfl) (pe_op op_mod (pv 0) pe_int))
      (pss_cons (ps_set (i := 2) sc_law_deed.nd rfl (Or.inl rfl) (pe_op op_add (pv 1) (pe_op op_mod (pe_op op_fdiv (pv 0) pe_int) (pe_op op_sub pe_int (pv 1)))))
      (pss_cons (ps_if (pt_cmpR op_eq (pe_op op_mod (pe_op op_fdiv (pv 0) pe_int) pe_int) pe_int (nomark _)) (pss_one (ps_set (i := 2) sc_law_deed.nd rfl (Or.inl rfl) (pv 1))) pss_nil)
      (pss_one (ps_ret (pe_tup (pa_cons (pv 1) (pa_cons (pv 2) pa_nil)))))))), ?_⟩
    obtain ⟨o, ho, hlt⟩ : ∃ o : Nat, c % 80 = (o : Int) ∧ o < 80 := ⟨(c % 80).toNat, by omega, by omega⟩
    refine ⟨_, rfl, _, _, rfl, rfl, (show (0 : Int) < 80 by decide), ?_⟩
    dsimp only
    rw [ho]
    have hpos : (0 : Int) < 80 - (o : Int) := by omega
    obtain ⟨q, hq, hq2⟩ : ∃ q : Nat, c / 80 % (80 - (o : Int)) = (q : Int) ∧ o + q < 80 := ⟨(c / 80 % (80 - (o : Int))).toNat, by have := Int.emod_nonneg (c / 80) (show (80 - (o : Int)) ≠ 0 by omega); omega, by have := Int.emod_lt_of_pos (c / 80) hpos; have := Int.emod_nonneg (c / 80) (show (80 - (o : Int)) ≠ 0 by omega); omega⟩
    refine ⟨_, rfl, _, rfl, _, _, rfl, rfl, ⟨by decide, by decide⟩, _, rfl, _, _, rfl, rfl, _, _, rfl, rfl, hpos, _, _, rfl, rfl, ?_⟩
    dsimp only
    rw [hq]
    refine ⟨_, rfl, _, _, rfl, rfl, ⟨by decide, by decide⟩, _, _, rfl, rfl, (show (0 : Int) < 4 by decide), rfl, _, rfl, ?_⟩
    refine ite2 (fun _ => ?_) (fun _ => ?_)
    · exact ⟨_, rfl, _, rfl, _, rfl, by show 2 ≤ sizeLine; decide, fun t ht => k t (o, o) _ (same_upd ht) upd_same (Nat.le_refl _) hlt⟩
    · exact ⟨_, rfl, _, rfl, by show 2 ≤ sizeLine; decide, fun t ht => k t (o, o + q) _ (same_upd ht) upd_same (Nat.le_add_right _ _) hq2⟩
end
section
variable {P : Program} {w : World} {K : PySem.W.Frag} {mg : Str → Option Value} {base : Heap}
theorem ok_law_thing {f : Addr} {fd : FuncData} (B : Bl mg) (F : Fn K mg "_law_thing" s_law_thing ["deed"] f fd) : FnOk P w K mg base CX0 1 f fd ["deed"] Sx.spLawThing := by
  refine F.fn.ok sc_law_thing (fun vs H Q E h => ?_) (fun cdv A outer s H vs Q E hr h => ?_)
  · obtain ⟨t, d, rfl, _⟩ := h
    rfl
  · obtain ⟨t, d, rfl, ht, h1, h2, k⟩ := h
    have sm : ∀ k : Nat, k ≤ 1000 → ((k : Nat) : Int).natAbs.log2 < 1920 := fun k hk => (Mir.Sm.of (i := (k : Int)) (by omega) (by omega)).log
    refine ⟨_, (pss_cons (ps_if (pt_cmpR op_eq (pe_ix ix_tup (pv 0) pe_int (fun _ _ => rfl)) (pe_ix ix_tup (pv 0) pe_int (fun _ _ => rfl)) (nomark _)) (pss_one (ps_ret (pe_callTy call_str_int rfl B.str bb_str (pa_cons (pe_ix ix_tup (pv 0) pe_int (fun _ _ => rfl)) pa_nil)))) pss_nil)
      (pss_one (ps_ret (pe_op op_add_str (pe_op op_add_str (pe_callTy call_str_int rfl B.str bb_str (pa_cons (pe_ix ix_tup (pv 0) pe_int (fun _ _ => rfl)) pa_nil)) pe_str) (pe_callTy call_str_int rfl B.str bb_str (pa_cons (pe_ix ix_tup (pv 0) pe_int (fun _ _ => rfl)) pa_nil)))))), ?_⟩
    refine ⟨_, rfl, t, _, _, _, rfl, rfl, SqT.of ht, rfl, _, rfl, t, _, _, _, rfl, rfl, SqT.of ht, rfl, rfl, _, rfl, ?_⟩
    have l1 : ∀ m : Nat, m < 80 → (Str.ofString (toString ((m : Nat) : Int))).length ≤ 2 := fun m hm => by
      rw [Sx.len_tl, Sx.tl_num]
      exact (Sx.dg100 m (by omega)).2.2.1
    have sz : ∀ n : Nat, n ≤ 20000 → n ≤ sizeLine := fun n h => Nat.le_trans h (by decide)
    by_cases e : d.1 = d.2
    · refine iteE (by rw [e]) ⟨_, rfl, t, _, _, _, rfl, rfl, SqT.of ht, rfl, _, rfl, sm _ (by omega), k _ _ (Same.refl _) ?_⟩
      show Sx.tl (Str.ofString (toString ((d.1 : Nat) : Int))) = _
      rw [Sx.tl_num]
      unfold Sx.dtx
      rw [if_pos e]
    · have m1 : ("-" : Str).length = 1 := by decide +kernel
      have a1 := l1 d.1 h1
      have a2 := l1 d.2 h2
      refine iteD (fun z => e (by injection z with z; omega)) ⟨_, rfl, t, _, _, _, rfl, rfl, SqT.of ht, rfl, _, rfl, sm _ (by omega), _, _, rfl, rfl, ?_, _, rfl, t, _, _, _, rfl, rfl, SqT.of ht, rfl, _, rfl, sm _ (by omega), _, _, rfl, rfl, ?_, k _ _ (Same.refl _) ?_⟩
      · exact sz _ (by rw [m1]; show (Str.ofString (toString ((d.1 : Nat) : Int))).length + 1 ≤ _; omega)
      · refine sz _ ?_
        show (Str.ofString (toString ((d.1 : Nat) : Int)) ++ "-").length + (Str.ofString (toString ((d.2 : Nat) : Int))).length ≤ _
        rw [strLen_append, m1]
        omega
      · show Sx.tl (Str.ofString (toString ((d.1 : Nat) : Int)) ++ "-" ++ Str.ofString (toString ((d.2 : Nat) : Int))) = _
        rw [Sx.tl_app, Sx.tl_app, Sx.tl_num, Sx.tl_num, Sx.minus]
        unfold Sx.dtx
        rw [if_neg e]
        show Sx.dg d.1 ++ [45] ++ Sx.dg d.2 = _
        simp
end
section
variable {P : Program} {w : World} {K : PySem.W.Frag} {mg : Str → Option Value} {base : Heap}
theorem ok_law_row_is {f f1 : Addr} {fd fd1 : FuncData} (B : Bl mg) (F : Fn K mg "_law_row_is" s_law_row_is ["found", "due"] f fd) (F_law_whole : Fn K mg "_law_whole" s_law_whole ["found"] f1 fd1) : FnOk P w K mg base CX0 2 f fd ["found", "due"] Sx.spRowIs15 := by
  have G_law_whole : FnOk P w K mg base CX0 1 f1 fd1 ["found"] Mir.spWhole := ok_law_whole B F_law_whole
  refine F.fn.ok sc_law_row_is (fun vs H Q E h => ?_) (fun cdv A outer s H vs Q E hr h => ?_)
  · obtain ⟨a, b, ds, rfl, _⟩ := h
    rfl
  · obtain ⟨a, b, ds, rfl, ⟨ts, ha, hta, hA⟩, ⟨us, hb, hub, hB⟩, hn, k⟩ := h
    rw [List.length_map] at hta hub
    refine ⟨_, (pss_cons (ps_if (PW.pt (pw_or (pt_not (pt_val (pe_callB call_isi rfl B.isinstance bb_isinstance (pa_cons (pv 0) (pa_cons (pe_bltn (v := .ty "list") rfl B.list bb_list rfl) pa_nil))))) (pw_or1 (pt_cmpR op_ne (pe_callB call_len_seq rfl B.len bb_len (pa_cons (pv 0) pa_nil)) (pe_callB call_len_seq rfl B.len bb_len (pa_cons (pv 1) pa_nil)) (nomark _))))) (pss_one (ps_ret pe_bl)) pss_nil)
      (pss_cons (ps_for PassesOwn.never rfl (pi_range1 rfl B.range (pa_cons (pe_callB call_len_seq rfl B.len bb_len (pa_cons (pv 1) pa_nil)) pa_nil)) (pg_name (i := 2) sc_law_row_is.nd rfl (Or.inl rfl)) (pss_cons (ps_if (PW.pt (pw_or (pt_not (pt_val (pe_callB call_isi rfl B.isinstance bb_isinstance (pa_cons (pe_ix ix_list (pv 0) (pv 2) (fun _ _ => rfl)) (pa_cons (pe_bltn (v := .ty "tuple") rfl B.tuple bb_tuple rfl) pa_nil))))) (pw_or1 (pt_cmpR (op_ne_tupD hr.units0) (pe_ix ix_list (pv 0) (pv 2) (fun _ _ => rfl)) (pe_ix ix_list (pv 1) (pv 2) (fun _ _ => rfl)) (nomark _))))) (pss_one (ps_ret pe_bl)) pss_nil)
      (pss_one (ps_if (PW.pt (pw_or (pt_not (pt_val (pe_fn G_law_whole F_law_whole (hr.mono (by decide)) (pa_cons (pe_ix ix_tup (pe_ix ix_list (pv 0) (pv 2) (fun _ _ => rfl)) pe_int (fun _ _ => rfl)) pa_nil)))) (pw_or1 (pt_not (pt_val (pe_fn G_law_whole F_law_whole (hr.mono (by decide)) (pa_cons (pe_ix ix_tup (pe_ix ix_list (pv 0) (pv 2) (fun _ _ => rfl)) pe_int (fun _ _ => rfl)) pa_nil))))))) (pss_one (ps_ret pe_bl)) pss_nil))))
      (pss_one (ps_ret pe_bl)))), ?_⟩
    refine ⟨_, rfl, _, _, _, _, rfl, .lst ha, kit_lst_lst _, _, rfl, iteF ?_⟩
    refine ⟨_, rfl, a, _, rfl, .inl (SqL.of ha), _, rfl, b, _, rfl, .inl (SqL.of hb), rfl, _, rfl, iteNS (by rw [List.length_map, List.length_map, hta, hub]) ?_⟩
    have hlen : (((us.map V.ref).length : Nat) : Int) = ds.length := by rw [List.length_map, hub]
    refine ⟨_, rfl, b, _, rfl, .inl (SqL.of hb), _, rfl, by rw [hlen]; omega, by rw [hlen]; omega, for_range (lo := 0) (n := (((us.map V.ref).length : Nat) : Int).toNat) (fun i σ H2 => ∃ v2 : Option V, σ = [some (.ref a), some (.ref b), v2] ∧ H2 = H) ⟨none, rfl, rfl⟩ ?_ ?_⟩
    · rintro i σ H2 hi ⟨v2, rfl, rfl⟩
      have hi' : i < ds.length := by rw [hlen] at hi; omega
      have e : ds[i]? = some ds[i] := List.getElem?_eq_getElem hi'
      have e1 : ts[i]? = some ts[i] := List.getElem?_eq_getElem (by omega)
      have e2 : us[i]? = some us[i] := List.getElem?_eq_getElem (by omega)
      have g1 := hA i _ (Sx.ip ds[i]) e1 (by rw [List.getElem?_map, e]; rfl)
      have g2 := hB i _ (Sx.ip ds[i]) e2 (by rw [List.getElem?_map, e]; rfl)
      have f1 : (ts.map V.ref)[i]? = some (.ref ts[i]) := by rw [List.getElem?_map, e1]; rfl
      have f2 : (us.map V.ref)[i]? = some (.ref us[i]) := by rw [List.getElem?_map, e2]; rfl
      rw [Int.zero_add]
      refine ⟨_, rfl, _, rfl, a, _, _, _, rfl, rfl, SqL.of ha, atI_nat f1, _, _, _, _, rfl, .tup g1, kit_tup_tup _, _, rfl, iteF ?_⟩
      refine ⟨_, rfl, _, rfl, a, _, _, _, rfl, rfl, SqL.of ha, atI_nat f1, _, rfl, _, rfl, b, _, _, _, rfl, rfl, SqL.of hb, atI_nat f2, _, _, [(ds[i].1 : Int), (ds[i].2 : Int)], [(ds[i].1 : Int), (ds[i].2 : Int)], rfl, rfl, SqT.of g1, SqT.of g2, _, rfl, iteNS rfl ?_⟩
      refine ⟨_, rfl, _, rfl, a, _, _, _, rfl, rfl, SqL.of ha, atI_nat f1, _, _, _, _, rfl, rfl, SqT.of g1, rfl, _, rfl, _, rfl, iteF ?_⟩
      refine ⟨_, rfl, _, rfl, a, _, _, _, rfl, rfl, SqL.of ha, atI_nat f1, _, _, _, _, rfl, rfl, SqT.of g1, rfl, _, rfl, _, rfl, iteF ?_⟩
      exact ⟨_, rfl, rfl⟩
    · rintro σ H2 ⟨v2, rfl, rfl⟩
      exact k
end
section
variable {P : Program} {w : World} {K : PySem.W.Frag} {mg : Str → Option Value} {base : Heap}
theorem ok_law_refused {f f1 C CE C1 : Addr} {fd fd1 : FuncData} (B : Bl mg) (ME : mg "ClaspError" = some (.ref CE)) (MD : mg "NoText" = some (.ref C)) (MR : mg "BadDeed" = some (.ref C1)) (X : ExK K C) (pe : PySem.W.exmOne K (.ref C) (.ref CE) = some true)
    (pb : PySem.W.kitOne K (.ref C) (.ref C) = some true) (pv' : PySem.W.kitOne K (.ref C) (.type "ValueError") = some true) (p1 : PySem.W.kitOne K (.ref C) (.ref C1) = some false)
    (F : Fn K mg "_law_refused" s_law_refused ["text"] f fd) (F1 : Fn K mg "read_deeds" s_read_deeds ["text"] f1 fd1) (G1 : FnOk P w K mg base (CXo P w) 3 f1 fd1 ["text"] (Sx.spReadDeeds C)) : FnOk P w K mg base CX0 4 f fd ["text"] Sx.spRefused15 := by
  refine F.fn.okO sc_law_refused (fun vs H Q E h => ?_) (fun cdv A outer s H vs Q E hr h own => ?_)
  · obtain ⟨z, rfl, _⟩ := h
    rfl
  · obtain ⟨z, rfl, hA, hl, hw, k⟩ := h
    refine ⟨_, pss_cons (ps_set (i := 1) sc_law_refused.nd rfl (Or.inl rfl) pe_non)
      (pss_tryR own sc_law_refused.nd (i := 2) rfl rfl ME (psx_expr (pex_fn G1 F1 hr (pa_cons (pv 0) pa_nil)))
        (tb := fun cls e D σ H' => ∃ v0 v2, σ = [v0, v2, some (.ref e)] ∧ D.nx [v0, some (.ref e), some (.ref e)] H')
        (tr := fun cls e D σ H' => cls = .ref C ∧ ∃ v0 v3, σ = [v0, some (.ref e), v3] ∧ D.rt (.bl true) H')
        (fun cls e oe he => ps_sem fun D σ H' hR => ?suite) (fun cls e oe he => ps_sem fun D σ H' hR => ?after)), ?_⟩
    case suite =>
      obtain ⟨v0, v2, rfl, q⟩ := hR
      exact ⟨_, pss_one (ps_set (i := 1) sc_law_refused.nd rfl (Or.inl rfl) (pv 2)), _, rfl, q⟩
    case after =>
      obtain ⟨rfl, v0, v3, rfl, q⟩ := hR
      refine ⟨_, pss_cons (ps_if (PW.pt (pw_or (pt_cmpR op_isN (pv 1) pe_non (nomark _)) (pw_or1 (pt_not (pt_val (pe_callB (call_isA he X) rfl B.isinstance bb_isinstance (pa_cons (pv 1) (pa_cons (pe_glob (v := .ref C) rfl MD rfl) pa_nil)))))))) (pss_one (ps_ret pe_bl)) pss_nil)
        (pss_one (ps_ret (pe_and (pe_callB (call_isA he X) rfl B.isinstance bb_isinstance (pa_cons (pv 1) (pa_cons (pe_bltn (v := .ty "ValueError") rfl B.ValueError bb_ValueError rfl) pa_nil)))
          (pe_one (pe_not (pe_callB (call_isA he X) rfl B.isinstance bb_isinstance (pa_cons (pv 1) (pa_cons (pe_glob (v := .ref C1) rfl MR rfl) pa_nil)))))))), ?_⟩
      refine ⟨_, rfl, rfl, _, rfl, iteF ?_⟩
      refine ⟨_, rfl, _, _, .inl ⟨_, rfl, pb⟩, rfl, _, rfl, iteF ?_⟩
      refine ⟨_, rfl, _, _, .inr ⟨_, rfl, pv'⟩, rfl, _, rfl, iteT ?_⟩
      exact ⟨_, rfl, _, _, .inl ⟨_, rfl, p1⟩, rfl, _, rfl, q⟩
    refine ⟨fun cls _ H' => cls = .ref C ∧ Same H H', ?_, ?_⟩
    · refine ⟨_, rfl, z, rfl, hA, hl, fun ds l H' h1 _ _ => ?_, fun H' _ s' => ⟨rfl, s'⟩⟩
      obtain ⟨w0, m1, m2⟩ := hw
      have : none ∈ (Sx.wordsL (Sx.tl z)).map Sx.rdD := List.mem_map.mpr ⟨w0, m1, m2⟩
      rw [h1] at this
      obtain ⟨d, _, e⟩ := List.mem_map.mp this
      cases e
    · rintro cls H' ⟨rfl, sH⟩
      exact ⟨pe, fun e he => ⟨_, _, rfl, rfl, _, _, rfl, k H' sH⟩⟩
end
section
seal L2.PSs L2.PS L2.PE L2.PT L2.PA
variable {P : Program} {w : World} {K : PySem.W.Frag} {mg : Str → Option Value} {base : Heap}
theorem kit_str_str (K : PySem.W.Frag) : PySem.W.kitOne K (.type "str") (.type "str") = some true := by unfold PySem.W.kitOne; rw [if_pos (by decide +kernel)]
theorem ok_law {C_NoText C_ClaspError C_BadDeed : Addr} {tMS tF : Tok} (B : Bl mg) (Z : ECls K mg "NoText" C_NoText) (ME : mg "ClaspError" = some (.ref C_ClaspError)) (MR : mg "BadDeed" = some (.ref C_BadDeed)) (MS : mg "MOST_STAVES" = some (.int 40 tMS)) (MF : mg "FIGURES" = some (.str "0123456789" tF))
    (X : ExK K C_NoText) (pe : PySem.W.exmOne K (.ref C_NoText) (.ref C_ClaspError) = some true) (pb : PySem.W.kitOne K (.ref C_NoText) (.ref C_NoText) = some true) (pv' : PySem.W.kitOne K (.ref C_NoText) (.type "ValueError") = some true)
    (p1 : PySem.W.kitOne K (.ref C_NoText) (.ref C_BadDeed) = some false)
    {f0 f1 f2 f3 f4 f5 f6 f7 f8 f9 f10 f11 f12 f13 : Addr} {fd0 fd1 fd2 fd3 fd4 fd5 fd6 fd7 fd8 fd9 fd10 fd11 fd12 fd13 : FuncData} (F_text_of_words : Fn K mg "text_of_words" s_text_of_words ["words"] f0 fd0) (F_words_of_text : Fn K mg "words_of_text" s_words_of_text ["text"] f1 fd1) (F_read_number : Fn K mg "read_number" s_read_number ["word", "most"] f2 fd2) (F_deeds_text : Fn K mg "deeds_text" s_deeds_text ["deeds"] f3 fd3) (F_deed_text : Fn K mg "deed_text" s_deed_text ["low", "high"] f4 fd4) (F_read_deeds : Fn K mg "read_deeds" s_read_deeds ["text"] f5 fd5) (F_read_deed : Fn K mg "read_deed" s_read_deed ["word"] f6 fd6) (F_law_cell : Fn K mg "_law_cell" s_law_cell ["script", "k"] f7 fd7) (F_law_whole : Fn K mg "_law_whole" s_law_whole ["found"] f8 fd8) (F_law_deed : Fn K mg "_law_deed" s_law_deed ["cell"] f9 fd9) (F_law_thing : Fn K mg "_law_thing" s_law_thing ["deed"] f10 fd10) (F_law_row_is : Fn K mg "_law_row_is" s_law_row_is ["found", "due"] f11 fd11) (F_law_refused : Fn K mg "_law_refused" s_law_refused ["text"] f12 fd12) (F_law : Fn K mg "law" s_law ["script"] f13 fd13) : FnOk P w K mg base CX0 5 f13 fd13 ["script"] (spLaw K) := by
  have G_law_cell : FnOk P w K mg base CX0 1 _ _ ["script", "k"] (Mir.spCellAt K) := ok_law_cell B F_law_cell
  have G_law_deed : FnOk P w K mg base CX0 1 _ _ ["cell"] Sx.spLawDeed := ok_law_deed F_law_deed
  have G_law_thing : FnOk P w K mg base CX0 1 _ _ ["deed"] Sx.spLawThing := ok_law_thing B F_law_thing
  have G_law_row_is : FnOk P w K mg base CX0 2 _ _ ["found", "due"] Sx.spRowIs15 := ok_law_row_is B F_law_row_is F_law_whole
  have G_deeds_text : FnOk P w K mg base CX0 2 _ _ ["deeds"] Sx.spDeedsText := ok_deeds_text B F_deeds_text F_text_of_words F_deed_text
  have G_read_number : FnOk P w K mg base (CXo P w) 1 _ _ ["word", "most"] (Sx.spReadNumX C_NoText) := ok_read_number B MF Z F_read_number
  have G_read_deed : FnOk P w K mg base (CXo P w) 2 _ _ ["word"] (Sx.spReadDeed C_NoText) := ok_read_deed MS Z F_read_deed F_read_number G_read_number
  have G_read_deeds : FnOk P w K mg base (CXo P w) 3 _ _ ["text"] (Sx.spReadDeeds C_NoText) := ok_read_deeds F_read_deeds F_read_deed G_read_deed F_words_of_text
  have G_law_refused : FnOk P w K mg base CX0 4 _ _ ["text"] Sx.spRefused15 := ok_law_refused B ME Z.g MR X pe pb pv' p1 F_law_refused F_read_deeds G_read_deeds
  refine F_law.fn.ok sc_law (fun vs H Q E h => ?_) (fun cdv A outer s H vs Q E hr h => ?_)
  · obtain ⟨a, ns, rfl, _⟩ := h
    rfl
  · obtain ⟨a, ns, rfl, hS, hlen, k⟩ := h
    have hu := hu_of hr
    refine ⟨_, (pss_cons (ps_comp (ix := 1) (NC := ["cell"]) sc_law.nd rfl (Or.inl rfl) rfl (compOk0 rfl (by decide +kernel) (by decide +kernel)) (pi_list (pe_slice sl_list (pv 0) po_none (po_some pe_int))) (fun _ _ _ _ => (pg_name (i := 0) (show (["cell"] : List Str).Nodup by decide +kernel) rfl (Or.inl rfl))) (fun _ _ _ _ => pts_nil) (fun _ _ _ _ => (pe_fn G_law_deed F_law_deed (hr.mono (by decide)) (pa_cons (pv 0) pa_nil))))
      (pss_cons (ps_set (i := 2) sc_law.nd rfl (Or.inl rfl) (pe_bm PySem.F.plainAttrs_str PySem.F.slot_str_join PySem.F.type_str_join mt_join pe_str (pa_cons (pe_comp (NC := ["deed"]) rfl (compOk0 rfl (by decide +kernel) (by decide +kernel)) (pi_list (pv 1)) (fun _ _ _ _ => (pg_name (i := 0) (show (["deed"] : List Str).Nodup by decide +kernel) rfl (Or.inl rfl))) (fun _ _ _ _ => pts_nil) (fun _ _ _ _ => (pe_fn G_law_thing F_law_thing (hr.mono (by decide)) (pa_cons (pv 0) pa_nil)))) pa_nil)))
      (pss_cons (ps_if (pt_cmpR op_eq (pe_callB call_len_seq rfl B.len bb_len (pa_cons (pv 1) pa_nil)) pe_int (nomark _)) (pss_one (ps_set (i := 2) sc_law.nd rfl (Or.inl rfl) pe_str)) pss_nil)
      (ps_sem (R := fun D σ H2 => ∃ (dl : Addr) (ds : List (Nat × Nat)) (zd : Str), σ = [some (.ref a), some (.ref dl), some (.str zd), none, none, none, none, none, none, none] ∧ Mir.ClT H2 dl (ds.map Sx.ip) ∧ Sx.Dd ds ∧ ds.length ≤ 63 ∧ Sx.tl zd = Sx.deedsL ds ∧ Same H H2 ∧ D.rt = Q) fun D σ H2 hR => ?rest)))), ?_⟩
    case rest =>
      obtain ⟨dl, ds, zd, rfl, hC, D0, hl63, hzd, sH, hD⟩ := hR
      refine ⟨_, (pss_cons (ps_set (i := 3) sc_law.nd rfl (Or.inl rfl) (pe_callTy call_list_of rfl B.list bb_list (pa_cons (pv 1) pa_nil)))
      (pss_cons (ps_set (i := 4) sc_law.nd rfl (Or.inl rfl) (pe_fn G_deeds_text F_deeds_text (hr.mono (by decide)) (pa_cons (pv 3) pa_nil)))
      (pss_cons (ps_if (PW.pt (pw_or (pt_not (pt_val (pe_callB call_isi rfl B.isinstance bb_isinstance (pa_cons (pv 4) (pa_cons (pe_bltn (v := .ty "str") rfl B.str bb_str rfl) pa_nil))))) (pw_or (pt_cmpR op_ne (pv 4) (pv 2) (nomark _)) (pw_or1 (pt_cmpR (op_ne_deep 1 (hr.lt 1 (by decide))) (pv 3) (pv 1) (nomark _)))))) (pss_one (ps_ret pe_bl)) pss_nil)
      (pss_cons (ps_if (pt_not (pt_val (pe_fn G_law_row_is F_law_row_is (hr.mono (by decide)) (pa_cons (pe_fnF G_read_deeds F_read_deeds (hr.mono (by decide)) (pa_cons (pv 2) pa_nil)) (pa_cons (pv 1) pa_nil))))) (pss_one (ps_ret pe_bl)) pss_nil)
      (pss_cons (ps_comp (ix := 5) (NC := ["deed"]) sc_law.nd rfl (Or.inl rfl) rfl (compOk0 rfl (by decide +kernel) (by decide +kernel)) (pi_list (pv 1)) (fun _ _ _ _ => (pg_name (i := 0) (show (["deed"] : List Str).Nodup by decide +kernel) rfl (Or.inl rfl))) (fun _ _ _ _ => pts_nil) (fun _ _ _ _ => (pe_fn G_law_thing F_law_thing (hr.mono (by decide)) (pa_cons (pv 0) pa_nil))))
      (pss_cons (ps_set (i := 6) sc_law.nd rfl (Or.inl rfl) (pe_op op_mod (pe_fn G_law_cell F_law_cell (hr.mono (by decide)) (pa_cons (pv 0) (pa_cons pe_int pa_nil))) (pe_op op_add (pe_callB call_len_seq rfl B.len bb_len (pa_cons (pv 5) pa_nil)) pe_int)))
      (pss_cons (ps_set (i := 7) sc_law.nd rfl (Or.inl rfl) (pe_lst (pa_strs (.cons (.cons (.cons (.cons (.cons (.cons (.cons (.cons (.cons (.cons (.cons (.cons (.cons (.cons (.cons (.cons .nil)))))))))))))))))))
      (pss_cons (ps_set (i := 7) sc_law.nd rfl (Or.inl rfl) (pe_op op_cat (pv 7) (pe_lst (pa_cons pe_str (pa_cons pe_str (pa_cons pe_str (pa_cons pe_str pa_nil)))))))
      (pss_cons (ps_set (i := 8) sc_law.nd rfl (Or.inl rfl) (pe_ix ix_list (pv 7) (pe_op op_mod (pe_fn G_law_cell F_law_cell (hr.mono (by decide)) (pa_cons (pv 0) (pa_cons pe_int pa_nil))) (pe_callB call_len_seq rfl B.len bb_len (pa_cons (pv 7) pa_nil))) (fun _ _ => rfl)))
      (pss_cons (ps_set (i := 9) sc_law.nd rfl (Or.inl rfl) (pe_op op_mod (pe_op op_fdiv (pe_fn G_law_cell F_law_cell (hr.mono (by decide)) (pa_cons (pv 0) (pa_cons pe_int pa_nil))) (pe_callB call_len_seq rfl B.len bb_len (pa_cons (pv 7) pa_nil))) pe_int))
      (pss_cons (ps_set (i := 5) sc_law.nd rfl (Or.inl rfl) (pe_op op_cat (pe_op op_cat (pe_slice sl_list (pv 5) po_none (po_some (pv 6))) (pe_lst (pa_cons (pv 8) pa_nil))) (pe_slice sl_list (pv 5) (po_some (pe_op op_add (pv 6) (pv 9))) po_none)))
      (pss_one (ps_ret (pe_fn G_law_refused F_law_refused (hr.mono (by decide)) (pa_cons (pe_bm PySem.F.plainAttrs_str PySem.F.slot_str_join PySem.F.type_str_join mt_join pe_str (pa_cons (pv 5) pa_nil)) pa_nil))))))))))))))), ?_⟩
      obtain ⟨ts, h1, h2, h3⟩ := id hC
      refine ⟨_, rfl, dl, _, rfl, .inl (SqL.of h1), fun hl hhl => ?_⟩
      have sa : Same H2 (upd H2 hl (.lst (ts.map V.ref))) := same_upd hhl
      have hCh : Mir.ClT (upd H2 hl (.lst (ts.map V.ref))) hl (ds.map Sx.ip) := ⟨ts, upd_same, h2, fun i t p e1 e2 => sa _ _ (h3 i t p e1 e2)⟩
      have hCd := hC.same sa
      generalize upd H2 hl (.lst (ts.map V.ref)) = Ha at sa hCh hCd
      obtain ⟨az, lz⟩ := Sx.deeds_ok D0 hl63 hzd
      refine ⟨_, rfl, hl, ds, rfl, hCh, D0, fun z Hb sb hz => ?_⟩
      have hCd2 := hCd.same sb
      have hCh2 := hCh.same sb
      refine ⟨_, rfl, _, _, _, _, rfl, .str z, kit_str_str _, _, rfl, iteF ?_⟩
      refine ⟨_, rfl, _, rfl, rfl, _, rfl, iteNS (congrArg V.str (Sx.ext (by rw [hz, hzd]))) ?_⟩
      refine ⟨_, rfl, _, rfl, hl, dl, rfl, rfl, Sx.deepL_of hCh2 hCd2, _, rfl, iteF ?_⟩
      refine ⟨_, rfl, zd, rfl, az, lz, fun ds2 l2 Hc h4 sc hc2 => ?_, fun H' hbad _ => ?_⟩
      rotate_left
      · obtain ⟨w0, m1, m2⟩ := hbad
        have : none ∈ (Sx.wordsL (Sx.tl zd)).map Sx.rdD := List.mem_map.mpr ⟨w0, m1, m2⟩
        rw [hzd, Sx.deeds_read D0] at this
        obtain ⟨d, _, e⟩ := List.mem_map.mp this
        cases e
      have e2 : ds2 = ds := by
        rw [hzd, Sx.deeds_read D0] at h4
        exact (List.map_inj_right (fun a b h => Option.some.inj h)).mp h4.symm
      subst e2
      have hCd3 := hCd2.same sc
      refine ⟨_, rfl, l2, dl, ds2, rfl, hc2, hCd3, D0.1, _, rfl, iteF ?_⟩
      have sX : Same H Hc := ((sH.trans sa).trans sb).trans sc
      obtain ⟨us, g1, g2, g3⟩ := id hCd3
      rw [List.length_map] at g2
      refine ⟨_, rfl, dl, rfl, ⟨_, SqL.of g1⟩, fun D3 hD3 => comp_list (K := K) (a := dl) (xs := us.map V.ref) (Sx.ThP Hc D3 ds2)
        ⟨none, [], rfl, same_upd hD3, upd_same, rfl⟩ (fun i σ H5 _ ⟨_, _, _, s2, _⟩ => SqL.of (s2 _ _ g1)) ?_ ?_⟩
      · exact Sx.thing_step D0 hl63 hD3 g2 g3
      rintro σ H5 ⟨v, zs, rfl, s5, hD5, hzs⟩
      rw [List.length_map, g2, List.take_length] at hzs
      have zl : zs.length = ds2.length := by have := congrArg List.length hzs; rwa [List.length_map, List.length_map] at this
      have sS : Same H H5 := sX.trans s5
      refine ⟨_, rfl, a, ns, 0, rfl, sS.seq hS, fun c0 => ?_⟩
      refine ⟨_, rfl, D3, _, rfl, .inl (SqL.of hD5), _, _, rfl, rfl, _, _, rfl, rfl, by rw [List.length_map]; omega, ?_⟩
      dsimp only
      generalize c0 % (((zs.map V.str).length : Nat) + 1 : Int) = place
      refine ⟨by show 16 ≤ sizeLine; decide, fun lo hlo => ?_⟩
      have s6 := same_upd (o := .lst (List.map V.str ["", "80", "007", "01", "5-5", "7-3", "3-", "-3", "3-4-5", "a", "+3", "1_0", "100", "2-80", "--", "3:"])) hlo
      have h6 : upd H5 lo (.lst (List.map V.str ["", "80", "007", "01", "5-5", "7-3", "3-", "-3", "3-4-5", "a", "+3", "1_0", "100", "2-80", "--", "3:"])) lo = some (.lst ((Sx.oddL.take 16).map V.str)) := upd_same
      generalize upd H5 lo (.lst (List.map V.str ["", "80", "007", "01", "5-5", "7-3", "3-", "-3", "3-4-5", "a", "+3", "1_0", "100", "2-80", "--", "3:"])) = H6 at s6 h6
      refine ⟨_, rfl, by show 4 ≤ sizeLine; decide, fun l4 h4 => ⟨lo, l4, _, _, rfl, rfl, same_upd h4 _ _ h6, upd_same, by show 20 ≤ sizeLine; decide, fun lc hlc => ?_⟩⟩
      have s7 : Same H6 (upd (upd H6 l4 (.lst [.str "2-03", .str "4 - 5", .str "1 .", .str ". 1"])) lc (.lst ((Sx.oddL.take 16).map V.str ++ [.str "2-03", .str "4 - 5", .str "1 .", .str ". 1"]))) := (same_upd h4).trans (same_upd hlc)
      have h7 : upd (upd H6 l4 (.lst [.str "2-03", .str "4 - 5", .str "1 .", .str ". 1"])) lc (.lst ((Sx.oddL.take 16).map V.str ++ [.str "2-03", .str "4 - 5", .str "1 .", .str ". 1"])) lc = some (.lst (Sx.oddL.map V.str)) := upd_same
      generalize upd (upd H6 l4 (.lst [.str "2-03", .str "4 - 5", .str "1 .", .str ". 1"])) lc (.lst ((Sx.oddL.take 16).map V.str ++ [.str "2-03", .str "4 - 5", .str "1 .", .str ". 1"])) = H7 at s7 h7
      have sT : Same H H7 := (sS.trans s6).trans s7
      have ol : (((Sx.oddL.map V.str).length : Nat) : Int) = 20 := by rw [List.length_map]; rfl
      refine ⟨_, rfl, _, rfl, a, ns, 1, rfl, sT.seq hS, fun c1 => ?_⟩
      refine ⟨_, rfl, lc, _, rfl, .inl (SqL.of h7), _, _, rfl, rfl, (by rw [ol]; show (0 : Int) < 20; decide), ?_⟩
      dsimp only
      rw [ol]
      obtain ⟨i, hi, hi2⟩ : ∃ i : Nat, c1 % 20 = (i : Int) ∧ i < 20 := ⟨(c1 % 20).toNat, by omega, by omega⟩
      rw [hi]
      have oi : Sx.oddL[i]? = some Sx.oddL[i] := List.getElem?_eq_getElem hi2
      have om : Sx.oddL[i] ∈ Sx.oddL := List.mem_of_getElem? oi
      have oj : (Sx.oddL.map V.str)[i]? = some (.str Sx.oddL[i]) := by rw [List.getElem?_map, oi]; rfl
      generalize Sx.oddL[i] = o at oi om oj
      refine ⟨lc, _, _, _, rfl, rfl, SqL.of h7, atI_nat oj, ?_⟩
      refine ⟨_, rfl, a, ns, 1, rfl, sT.seq hS, fun c2 => ?_⟩
      refine ⟨_, rfl, lc, _, rfl, .inl (SqL.of h7), _, _, rfl, rfl, by rw [ol]; exact ⟨by decide, by decide⟩, _, _, rfl, rfl, (show (0 : Int) < 2 by decide), ?_⟩
      dsimp only
      generalize c2 / (((Sx.oddL.map V.str).length : Nat) : Int) % 2 = stead
      have hD7 : H7 D3 = some (.lst (zs.map V.str)) := s7 _ _ (s6 _ _ hD5)
      obtain ⟨u1, eu1, lu1, mu1⟩ := Sx.cut_strs zs none (some place)
      obtain ⟨u2, eu2, lu2, mu2⟩ := Sx.cut_strs zs (some (place + stead)) none
      refine ⟨_, rfl, _, rfl, _, rfl, D3, _, rfl, SqL.of hD7, fun b1 hb1 => ?_⟩
      rw [eu1]
      refine ⟨_, rfl, by show 1 ≤ sizeLine; decide, fun b2 hb2 => ⟨b1, b2, _, _, rfl, rfl, same_upd hb2 _ _ upd_same, upd_same, ?_, fun b3 hb3 => ?_⟩⟩
      · rw [List.length_map]
        exact Nat.le_trans (show u1.length + 1 ≤ 1000 by omega) (by decide)
      have s8 : Same H7 (upd (upd (upd H7 b1 (.lst (u1.map V.str))) b2 (.lst [.str o])) b3 (.lst (u1.map V.str ++ [.str o]))) := ((same_upd hb1).trans (same_upd hb2)).trans (same_upd hb3)
      have h8 : upd (upd (upd H7 b1 (.lst (u1.map V.str))) b2 (.lst [.str o])) b3 (.lst (u1.map V.str ++ [.str o])) b3 = some (.lst ((u1 ++ [o]).map V.str)) := by rw [upd_same, List.map_append]; rfl
      generalize upd (upd (upd H7 b1 (.lst (u1.map V.str))) b2 (.lst [.str o])) b3 (.lst (u1.map V.str ++ [.str o])) = H8 at s8 h8
      refine ⟨_, rfl, _, rfl, _, rfl, _, _, rfl, rfl, _, rfl, D3, _, rfl, SqL.of (s8 _ _ hD7), fun b4 hb4 => ?_⟩
      rw [eu2]
      refine ⟨b3, b4, _, _, rfl, rfl, same_upd hb4 _ _ h8, upd_same, ?_, fun b5 hb5 => ?_⟩
      · rw [List.length_map, List.length_map, List.length_append]
        exact Nat.le_trans (show u1.length + 1 + u2.length ≤ 1000 by omega) (by decide)
      have h9 : upd (upd H8 b4 (.lst (u2.map V.str))) b5 (.lst ((u1 ++ [o]).map V.str ++ u2.map V.str)) b5 = some (.lst ((u1 ++ [o] ++ u2).map V.str)) := by rw [upd_same, List.map_append (l₂ := u2)]
      generalize upd (upd H8 b4 (.lst (u2.map V.str))) b5 (.lst ((u1 ++ [o]).map V.str ++ u2.map V.str)) = H9 at h9
      have tok := Sx.things_ok D0 hzs
      obtain ⟨ob1, ob2, ob3, ob4⟩ := Sx.odd_bad o om
      have all5 : ∀ x ∈ u1 ++ [o] ++ u2, x.length ≤ 5 ∧ (∀ c ∈ Sx.tl x, c < 128) := fun x hx => by
        rcases List.mem_append.mp hx with h | h
        · rcases List.mem_append.mp h with h | h
          · exact tok x (mu1 x h)
          · rw [List.mem_singleton.mp h]; exact ⟨ob3, Sx.ascii_mem ob4⟩
        · exact tok x (mu2 x h)
      have wl : (u1 ++ [o] ++ u2).length ≤ 130 := by rw [List.length_append, List.length_append]; show u1.length + 1 + u2.length ≤ 130; omega
      have ej : Sx.tl (Txt.join " " (u1 ++ [o] ++ u2)) = Sx.joinL 32 ((u1 ++ [o] ++ u2).map Sx.tl) := by rw [Sx.blank, Sx.join_tl]
      obtain ⟨ax, lx⟩ := Sx.row_ok ej (by rw [List.length_map]; omega) fun w hw => by
        obtain ⟨x, hx, rfl⟩ := List.mem_map.mp hw
        exact all5 x hx
      obtain ⟨nd, bad⟩ := Sx.odd_word (ws := (u1 ++ [o] ++ u2).map Sx.tl) om (List.mem_map.mpr ⟨o, by simp, rfl⟩)
      refine ⟨rfl, _, rfl, _, b5, _, rfl, rfl, h9, by rw [Sx.blank]; exact Sx.join_ok (by omega) fun x hx => by have := (all5 x hx).1; omega, _, rfl, ax, lx, ?_, fun H' _ => by rw [hD]; exact k H'⟩
      unfold Sx.wordsL
      rw [ej, if_neg nd]
      exact bad
    · obtain ⟨cs, hcs, hcl⟩ := Mir.cutV_ints ns none (some 300)
      refine ⟨_, rfl, _, rfl, a, _, rfl, hS, fun b hb => ?_⟩
      rw [hcs]
      have s0 : Same H (upd H b (.lst (cs.map V.int))) := same_upd hb
      have h0 : upd H b (.lst (cs.map V.int)) b = some (.lst (cs.map V.int)) := upd_same
      generalize upd H b (.lst (cs.map V.int)) = H0 at s0 h0
      refine ⟨b, rfl, ⟨_, SqL.of h0⟩, fun D1 hD1 => comp_list (K := K) (a := b) (xs := cs.map V.int) (fun i σ H2 => ∃ (v : Option V) (ds : List (Nat × Nat)), σ = [v] ∧ Same H0 H2 ∧ Mir.ClT H2 D1 (ds.map Sx.ip) ∧ ds.length = i ∧ ∀ d ∈ ds, d.1 ≤ d.2 ∧ d.2 < 80)
        ⟨none, [], rfl, same_upd hD1, Mir.ClT.nil upd_same, rfl, fun d hd => by cases hd⟩ (fun i σ H2 _ ⟨_, _, _, s2, _⟩ => SqL.of (s2 _ _ h0)) ?_ ?_⟩
      · rintro i x σ H2 hx ⟨v, ds, rfl, s2, hC, hi, hd⟩
        obtain ⟨c, hc, rfl⟩ : ∃ c, cs[i]? = some c ∧ x = .int c := by
          rw [List.getElem?_map] at hx
          obtain ⟨t, e1, e2⟩ := Option.map_eq_some_iff.mp hx
          exact ⟨t, e1, e2.symm⟩
        have hil := (List.getElem?_eq_some_iff.mp hc).1
        refine gYes ⟨_, rfl, c, rfl, fun t d H3 s3 ht l1 l2 => ?_⟩
        obtain ⟨xs, e1, e2, e3⟩ := (hC.same s3).snoc (p := Sx.ip d) ht
        refine ⟨xs, e1, small1000 (by rw [e2, List.length_map]; omega), _, ds ++ [d], rfl, (s2.trans s3).upd hD1, by rw [List.map_append]; exact e3, by rw [List.length_append, hi]; rfl, fun y hy => ?_⟩
        rcases List.mem_append.mp hy with h | h
        · exact hd y h
        · rw [List.mem_singleton.mp h]; exact ⟨l1, l2⟩
      rintro σ H2 ⟨v, ds, rfl, s2, hC, hi, hd⟩
      rw [List.length_map] at hi
      have D0 : Sx.Dd ds := ⟨by omega, hd⟩
      have hl63 : ds.length ≤ 63 := by omega
      obtain ⟨us, g1, g2, g3⟩ := id hC
      rw [List.length_map] at g2
      refine ⟨rfl, _, rfl, D1, rfl, ⟨_, SqL.of g1⟩, fun D3 hD3 => comp_list (K := K) (a := D1) (xs := us.map V.ref) (Sx.ThP H2 D3 ds)
        ⟨none, [], rfl, same_upd hD3, upd_same, rfl⟩ (fun i σ H5 _ ⟨_, _, _, s2, _⟩ => SqL.of (s2 _ _ g1)) ?_ ?_⟩
      · exact Sx.thing_step D0 hl63 hD3 g2 g3
      rintro σ H5 ⟨v, zs, rfl, s5, hD5, hzs⟩
      rw [List.length_map, g2, List.take_length] at hzs
      have zl : zs.length = ds.length := by have := congrArg List.length hzs; rwa [List.length_map, List.length_map] at this
      have tok := Sx.things_ok D0 hzs
      refine ⟨_, D3, zs, rfl, rfl, hD5, by rw [Sx.blank]; exact Sx.join_ok (by omega) fun x hx => by have := (tok x hx).1; omega, ?_⟩
      have ej : Sx.tl (Txt.join " " zs) = Sx.joinL 32 (ds.map Sx.dtx) := by rw [Sx.blank, Sx.join_tl, hzs]
      refine ⟨_, rfl, D1, _, rfl, .inl (SqL.of (s5 _ _ g1)), rfl, _, rfl, ?_⟩
      refine ite2 (fun h4 => ?_) (fun h4 => ?_)
      · have h4 := of_decide_eq_true h4
        have e0 : ds = [] := List.length_eq_zero_iff.mp (by injection h4 with h4; rw [List.length_map, g2] at h4; omega)
        exact ⟨D1, ds, _, rfl, hC.same s5, D0, hl63, by rw [e0]; decide +kernel, (s0.trans s2).trans s5, rfl⟩
      · have e0 : ds ≠ [] := fun e => h4 (decide_eq_true (by rw [List.length_map, g2, e]; rfl))
        exact ⟨D1, ds, _, rfl, hC.same s5, D0, hl63, by rw [ej]; unfold Sx.deedsL; rw [if_neg e0], (s0.trans s2).trans s5, rfl⟩
end
theorem all_mk {l : PySem.W.OpenLaw} {w : World} {K : PySem.W.Frag} {h : Heap} {mg : Str → Option Value} {fa : Addr} (X : K.In h) (G : h.Ns mainGlobals mg) (hfa : mg "law" = some (.ref fa))
    {f0 : Addr} {od0 an0 : Option Addr} {sl0 : Array (Option Value)} {oc0 kV0 dc0 pm0 cd0 ct0 : Value}
    {f1 : Addr} {od1 an1 : Option Addr} {sl1 : Array (Option Value)} {oc1 kV1 dc1 pm1 cd1 ct1 : Value}
    {f2 : Addr} {od2 an2 : Option Addr} {sl2 : Array (Option Value)} {oc2 kV2 dc2 pm2 cd2 ct2 : Value}
    {f3 : Addr} {od3 an3 : Option Addr} {sl3 : Array (Option Value)} {oc3 kV3 dc3 pm3 cd3 ct3 : Value}
    {f4 : Addr} {od4 an4 : Option Addr} {sl4 : Array (Option Value)} {oc4 kV4 dc4 pm4 cd4 ct4 : Value}
    {f5 : Addr} {od5 an5 : Option Addr} {sl5 : Array (Option Value)} {oc5 kV5 dc5 pm5 cd5 ct5 : Value}
    {f6 : Addr} {od6 an6 : Option Addr} {sl6 : Array (Option Value)} {oc6 kV6 dc6 pm6 cd6 ct6 : Value}
    {f7 : Addr} {od7 an7 : Option Addr} {sl7 : Array (Option Value)} {oc7 kV7 dc7 pm7 cd7 ct7 : Value}
    {f8 : Addr} {od8 an8 : Option Addr} {sl8 : Array (Option Value)} {oc8 kV8 dc8 pm8 cd8 ct8 : Value}
    {f9 : Addr} {od9 an9 : Option Addr} {sl9 : Array (Option Value)} {oc9 kV9 dc9 pm9 cd9 ct9 : Value}
    {f10 : Addr} {od10 an10 : Option Addr} {sl10 : Array (Option Value)} {oc10 kV10 dc10 pm10 cd10 ct10 : Value}
    {f11 : Addr} {od11 an11 : Option Addr} {sl11 : Array (Option Value)} {oc11 kV11 dc11 pm11 cd11 ct11 : Value}
    {f12 : Addr} {od12 an12 : Option Addr} {sl12 : Array (Option Value)} {oc12 kV12 dc12 pm12 cd12 ct12 : Value}
    {f13 : Addr} {od13 an13 : Option Addr} {sl13 : Array (Option Value)} {oc13 kV13 dc13 pm13 cd13 ct13 : Value}
    (a0 : PySem.W.nsIn K mainGlobals "text_of_words" = some (some (.ref f0))) (l0 : K.lookup f0 = some ⟨oc0, od0, .func (PySem.W.fnOf "text_of_words" "text_of_words" (defArgs s_text_of_words) (defBody s_text_of_words) (defScope s_text_of_words) .none kV0 dc0 pm0 an0 cd0 ct0), sl0⟩) (c0 : PySem.W.codeIn K cd0 "text_of_words" = true) (k0 : PySem.W.keepIn K (.ref f0) = true)
    (a1 : PySem.W.nsIn K mainGlobals "words_of_text" = some (some (.ref f1))) (l1 : K.lookup f1 = some ⟨oc1, od1, .func (PySem.W.fnOf "words_of_text" "words_of_text" (defArgs s_words_of_text) (defBody s_words_of_text) (defScope s_words_of_text) .none kV1 dc1 pm1 an1 cd1 ct1), sl1⟩) (c1 : PySem.W.codeIn K cd1 "words_of_text" = true) (k1 : PySem.W.keepIn K (.ref f1) = true)
    (a2 : PySem.W.nsIn K mainGlobals "read_number" = some (some (.ref f2))) (l2 : K.lookup f2 = some ⟨oc2, od2, .func (PySem.W.fnOf "read_number" "read_number" (defArgs s_read_number) (defBody s_read_number) (defScope s_read_number) .none kV2 dc2 pm2 an2 cd2 ct2), sl2⟩) (c2 : PySem.W.codeIn K cd2 "read_number" = true) (k2 : PySem.W.keepIn K (.ref f2) = true)
    (a3 : PySem.W.nsIn K mainGlobals "deeds_text" = some (some (.ref f3))) (l3 : K.lookup f3 = some ⟨oc3, od3, .func (PySem.W.fnOf "deeds_text" "deeds_text" (defArgs s_deeds_text) (defBody s_deeds_text) (defScope s_deeds_text) .none kV3 dc3 pm3 an3 cd3 ct3), sl3⟩) (c3 : PySem.W.codeIn K cd3 "deeds_text" = true) (k3 : PySem.W.keepIn K (.ref f3) = true)
    (a4 : PySem.W.nsIn K mainGlobals "deed_text" = some (some (.ref f4))) (l4 : K.lookup f4 = some ⟨oc4, od4, .func (PySem.W.fnOf "deed_text" "deed_text" (defArgs s_deed_text) (defBody s_deed_text) (defScope s_deed_text) .none kV4 dc4 pm4 an4 cd4 ct4), sl4⟩) (c4 : PySem.W.codeIn K cd4 "deed_text" = true) (k4 : PySem.W.keepIn K (.ref f4) = true)
    (a5 : PySem.W.nsIn K mainGlobals "read_deeds" = some (some (.ref f5))) (l5 : K.lookup f5 = some ⟨oc5, od5, .func (PySem.W.fnOf "read_deeds" "read_deeds" (defArgs s_read_deeds) (defBody s_read_deeds) (defScope s_read_deeds) .none kV5 dc5 pm5 an5 cd5 ct5), sl5⟩) (c5 : PySem.W.codeIn K cd5 "read_deeds" = true) (k5 : PySem.W.keepIn K (.ref f5) = true)
    (a6 : PySem.W.nsIn K mainGlobals "read_deed" = some (some (.ref f6))) (l6 : K.lookup f6 = some ⟨oc6, od6, .func (PySem.W.fnOf "read_deed" "read_deed" (defArgs s_read_deed) (defBody s_read_deed) (defScope s_read_deed) .none kV6 dc6 pm6 an6 cd6 ct6), sl6⟩) (c6 : PySem.W.codeIn K cd6 "read_deed" = true) (k6 : PySem.W.keepIn K (.ref f6) = true)
    (a7 : PySem.W.nsIn K mainGlobals "_law_cell" = some (some (.ref f7))) (l7 : K.lookup f7 = some ⟨oc7, od7, .func (PySem.W.fnOf "_law_cell" "_law_cell" (defArgs s_law_cell) (defBody s_law_cell) (defScope s_law_cell) .none kV7 dc7 pm7 an7 cd7 ct7), sl7⟩) (c7 : PySem.W.codeIn K cd7 "_law_cell" = true) (k7 : PySem.W.keepIn K (.ref f7) = true)
    (a8 : PySem.W.nsIn K mainGlobals "_law_whole" = some (some (.ref f8))) (l8 : K.lookup f8 = some ⟨oc8, od8, .func (PySem.W.fnOf "_law_whole" "_law_whole" (defArgs s_law_whole) (defBody s_law_whole) (defScope s_law_whole) .none kV8 dc8 pm8 an8 cd8 ct8), sl8⟩) (c8 : PySem.W.codeIn K cd8 "_law_whole" = true) (k8 : PySem.W.keepIn K (.ref f8) = true)
    (a9 : PySem.W.nsIn K mainGlobals "_law_deed" = some (some (.ref f9))) (l9 : K.lookup f9 = some ⟨oc9, od9, .func (PySem.W.fnOf "_law_deed" "_law_deed" (defArgs s_law_deed) (defBody s_law_deed) (defScope s_law_deed) .none kV9 dc9 pm9 an9 cd9 ct9), sl9⟩) (c9 : PySem.W.codeIn K cd9 "_law_deed" = true) (k9 : PySem.W.keepIn K (.ref f9) = true)
    (a10 : PySem.W.nsIn K mainGlobals "_law_thing" = some (some (.ref f10))) (l10 : K.lookup f10 = some ⟨oc10, od10, .func (PySem.W.fnOf "_law_thing" "_law_thing" (defArgs s_law_thing) (defBody s_law_thing) (defScope s_law_thing) .none kV10 dc10 pm10 an10 cd10 ct10), sl10⟩) (c10 : PySem.W.codeIn K cd10 "_law_thing" = true) (k10 : PySem.W.keepIn K (.ref f10) = true)
    (a11 : PySem.W.nsIn K mainGlobals "_law_row_is" = some (some (.ref f11))) (l11 : K.lookup f11 = some ⟨oc11, od11, .func (PySem.W.fnOf "_law_row_is" "_law_row_is" (defArgs s_law_row_is) (defBody s_law_row_is) (defScope s_law_row_is) .none kV11 dc11 pm11 an11 cd11 ct11), sl11⟩) (c11 : PySem.W.codeIn K cd11 "_law_row_is" = true) (k11 : PySem.W.keepIn K (.ref f11) = true)
    (a12 : PySem.W.nsIn K mainGlobals "_law_refused" = some (some (.ref f12))) (l12 : K.lookup f12 = some ⟨oc12, od12, .func (PySem.W.fnOf "_law_refused" "_law_refused" (defArgs s_law_refused) (defBody s_law_refused) (defScope s_law_refused) .none kV12 dc12 pm12 an12 cd12 ct12), sl12⟩) (c12 : PySem.W.codeIn K cd12 "_law_refused" = true) (k12 : PySem.W.keepIn K (.ref f12) = true)
    (a13 : PySem.W.nsIn K mainGlobals "law" = some (some (.ref f13))) (l13 : K.lookup f13 = some ⟨oc13, od13, .func (PySem.W.fnOf "law" "law" (defArgs s_law) (defBody s_law) (defScope s_law) .none kV13 dc13 pm13 an13 cd13 ct13), sl13⟩) (c13 : PySem.W.codeIn K cd13 "law" = true) (k13 : PySem.W.keepIn K (.ref f13) = true)
    (z0 : PySem.W.nsIn K mainGlobals "ValueError" = some none)
    (z1 : PySem.W.nsIn K mainGlobals "all" = some none)
    (z2 : PySem.W.nsIn K mainGlobals "bool" = some none)
    (z3 : PySem.W.nsIn K mainGlobals "int" = some none)
    (z4 : PySem.W.nsIn K mainGlobals "isinstance" = some none)
    (z5 : PySem.W.nsIn K mainGlobals "len" = some none)
    (z6 : PySem.W.nsIn K mainGlobals "list" = some none)
    (z7 : PySem.W.nsIn K mainGlobals "range" = some none)
    (z8 : PySem.W.nsIn K mainGlobals "str" = some none)
    (z9 : PySem.W.nsIn K mainGlobals "tuple" = some none)
    {C_NoText : Addr}
    {C_ClaspError : Addr}
    {C_BadDeed : Addr}
    {t_MOST_STAVES : Tok}
    {t_FIGURES : Tok}
    (g_NoText : PySem.W.nsIn K mainGlobals "NoText" = some (some (.ref C_NoText)))
    (x_NoText : PySem.W.excIn K C_NoText [.type "ValueError", .type "Exception", .type "BaseException", .type "object"] "ValueError.__new__" = true)
    (g_ClaspError : PySem.W.nsIn K mainGlobals "ClaspError" = some (some (.ref C_ClaspError)))
    (g_BadDeed : PySem.W.nsIn K mainGlobals "BadDeed" = some (some (.ref C_BadDeed)))
    (g_MOST_STAVES : PySem.W.nsIn K mainGlobals "MOST_STAVES" = some (some (.int 40 t_MOST_STAVES)))
    (g_FIGURES : PySem.W.nsIn K mainGlobals "FIGURES" = some (some (.str "0123456789" t_FIGURES)))
    (ga_NoText : PySem.W.findIn K (.ref C_NoText) "__getattribute__" = some (some (.builtin "BaseException.__getattribute__")))
    (gt_NoText : PySem.W.findIn K (.ref C_NoText) "__getattr__" = some none)
    (cl_NoText : PySem.W.findIn K (.ref C_NoText) "__class__" = some (some (.builtin "object.__class__")))
    (sp_NoText : PySem.W.specialIn K (.builtin "object.__class__") "__get__" = some (some (.builtin "getset_descriptor.__get__")))
    (tk_NoText : PySem.W.takesIn K (.builtin "object.__class__") = some true)
    (mo_NoText : PySem.W.mroIn K C_NoText (.type "object") = some true)
    (mb_NoText : PySem.W.mroIn K C_NoText (.type "BaseException") = some true)
    (hd_NoText : (PySem.W.clsIn K C_NoText).isSome = true)
    (p_pe : PySem.W.exmOne K (.ref C_NoText) (.ref C_ClaspError) = some true)
    (p_pb : PySem.W.kitOne K (.ref C_NoText) (.ref C_NoText) = some true)
    (p_pv : PySem.W.kitOne K (.ref C_NoText) (.type "ValueError") = some true)
    (p_p1 : PySem.W.kitOne K (.ref C_NoText) (.ref C_BadDeed) = some false)
    : ∃ fd : FuncData, (∀ (s : Shared) (v : Value), BindsTo s fd ⟨[v], []⟩ [("script", v)]) ∧ ∀ base : Heap, K.In base → base.Ns mainGlobals mg → FnOk l.prog w K mg base CX0 5 fa fd ["script"] (spLaw K) := by
  have e := hfa.symm.trans (PySem.W.mg_of X G a13)
  cases e
  have B : Bl mg := ⟨PySem.W.mg_none_of X G z0, PySem.W.mg_none_of X G z1, PySem.W.mg_none_of X G z2, PySem.W.mg_none_of X G z3, PySem.W.mg_none_of X G z4, PySem.W.mg_none_of X G z5, PySem.W.mg_none_of X G z6, PySem.W.mg_none_of X G z7, PySem.W.mg_none_of X G z8, PySem.W.mg_none_of X G z9⟩
  have F0 : Fn K mg "text_of_words" s_text_of_words ["words"] _ _ := Fn.mk' (fun_mk (st := s_text_of_words) l0 c0 k0) (fun _ _ _ _ _ _ us hl => match us, hl with | [_], _ => rfl) (PySem.W.mg_of X G a0)
  have F1 : Fn K mg "words_of_text" s_words_of_text ["text"] _ _ := Fn.mk' (fun_mk (st := s_words_of_text) l1 c1 k1) (fun _ _ _ _ _ _ us hl => match us, hl with | [_], _ => rfl) (PySem.W.mg_of X G a1)
  have F2 : Fn K mg "read_number" s_read_number ["word", "most"] _ _ := Fn.mk' (fun_mk (st := s_read_number) l2 c2 k2) (fun _ _ _ _ _ _ us hl => match us, hl with | [_, _], _ => rfl) (PySem.W.mg_of X G a2)
  have F3 : Fn K mg "deeds_text" s_deeds_text ["deeds"] _ _ := Fn.mk' (fun_mk (st := s_deeds_text) l3 c3 k3) (fun _ _ _ _ _ _ us hl => match us, hl with | [_], _ => rfl) (PySem.W.mg_of X G a3)
  have F4 : Fn K mg "deed_text" s_deed_text ["low", "high"] _ _ := Fn.mk' (fun_mk (st := s_deed_text) l4 c4 k4) (fun _ _ _ _ _ _ us hl => match us, hl with | [_, _], _ => rfl) (PySem.W.mg_of X G a4)
  have F5 : Fn K mg "read_deeds" s_read_deeds ["text"] _ _ := Fn.mk' (fun_mk (st := s_read_deeds) l5 c5 k5) (fun _ _ _ _ _ _ us hl => match us, hl with | [_], _ => rfl) (PySem.W.mg_of X G a5)
  have F6 : Fn K mg "read_deed" s_read_deed ["word"] _ _ := Fn.mk' (fun_mk (st := s_read_deed) l6 c6 k6) (fun _ _ _ _ _ _ us hl => match us, hl with | [_], _ => rfl) (PySem.W.mg_of X G a6)
  have F7 : Fn K mg "_law_cell" s_law_cell ["script", "k"] _ _ := Fn.mk' (fun_mk (st := s_law_cell) l7 c7 k7) (fun _ _ _ _ _ _ us hl => match us, hl with | [_, _], _ => rfl) (PySem.W.mg_of X G a7)
  have F8 : Fn K mg "_law_whole" s_law_whole ["found"] _ _ := Fn.mk' (fun_mk (st := s_law_whole) l8 c8 k8) (fun _ _ _ _ _ _ us hl => match us, hl with | [_], _ => rfl) (PySem.W.mg_of X G a8)
  have F9 : Fn K mg "_law_deed" s_law_deed ["cell"] _ _ := Fn.mk' (fun_mk (st := s_law_deed) l9 c9 k9) (fun _ _ _ _ _ _ us hl => match us, hl with | [_], _ => rfl) (PySem.W.mg_of X G a9)
  have F10 : Fn K mg "_law_thing" s_law_thing ["deed"] _ _ := Fn.mk' (fun_mk (st := s_law_thing) l10 c10 k10) (fun _ _ _ _ _ _ us hl => match us, hl with | [_], _ => rfl) (PySem.W.mg_of X G a10)
  have F11 : Fn K mg "_law_row_is" s_law_row_is ["found", "due"] _ _ := Fn.mk' (fun_mk (st := s_law_row_is) l11 c11 k11) (fun _ _ _ _ _ _ us hl => match us, hl with | [_, _], _ => rfl) (PySem.W.mg_of X G a11)
  have F12 : Fn K mg "_law_refused" s_law_refused ["text"] _ _ := Fn.mk' (fun_mk (st := s_law_refused) l12 c12 k12) (fun _ _ _ _ _ _ us hl => match us, hl with | [_], _ => rfl) (PySem.W.mg_of X G a12)
  have F13 : Fn K mg "law" s_law ["script"] _ _ := Fn.mk' (fun_mk (st := s_law) l13 c13 k13) (fun _ _ _ _ _ _ us hl => match us, hl with | [_], _ => rfl) (PySem.W.mg_of X G a13)
  have Z_NoText : ECls K mg "NoText" C_NoText := ⟨PySem.W.mg_of X G g_NoText, ⟨_, _, _, _, x_NoText, PySem.F.excBase_ValueError⟩⟩
  exact ⟨_, fun s v => .of_eq rfl, fun base _ _ => ok_law B Z_NoText (PySem.W.mg_of X G g_ClaspError) (PySem.W.mg_of X G g_BadDeed) (PySem.W.mg_of X G g_MOST_STAVES) (PySem.W.mg_of X G g_FIGURES) ⟨ga_NoText, gt_NoText, cl_NoText, sp_NoText, tk_NoText, mo_NoText, mb_NoText, hd_NoText⟩ p_pe p_pb p_pv p_p1 F0 F1 F2 F3 F4 F5 F6 F7 F8 F9 F10 F11 F12 F13⟩
theorem walk {l : PySem.W.OpenLaw} {q : Program} {loose : List Str} {XP : (Str → Option Value) → Heap → Prop} {YP : World → Heap → Prop} {d : DefRec} {K : Params → PySem.W.Frag} (hn : l.most = some 63) (hdf : d.params.defaults = [])
    (hY : ∀ (w : World) (h : Heap), YP w h → (K w.params).In h)
    (F : ∀ (w : World) (mg : Str → Option Value) (fa : Addr) (h : Heap), (K w.params).In h → h.Ns mainGlobals mg → mg d.name = some (.ref fa) →
      ∃ fd : FuncData, (∀ (s : Shared) (u : Value), BindsTo s fd ⟨[u], []⟩ [("script", u)]) ∧ ∀ base : Heap, (K w.params).In base → base.Ns mainGlobals mg → FnOk l.prog w (K w.params) mg base CX0 5 fa fd ["script"] (spLaw (K w.params))) :
    PySem.W.WalkO q loose XP YP l.row.toRowW d [] (fun f vs => PySem.call f vs) :=
  L2.walk_of (n := 63) (k := 5) (x := "script") (CX := fun _ => CX0) (sp := fun w => spLaw (K w.params)) hn (by decide) hdf ⟨rfl, by decide, by decide, rfl⟩ hY F (fun _ _ a ns hl _ hS => ⟨a, ns, rfl, hS, hl, fun _ => rfl⟩) fun _ _ _ _ _ z => z
end Law
open PySem PySem.W PyProof.Rows
set_option maxRecDepth 100000 in
set_option maxHeartbeats 0 in
theorem PySem.Challenge.cw_claspwork_k15_deeds_written_holds : PySem.Challenge.rw_claspwork_k15_deeds_written.Holds := by
  w_on; o_law; k_head; (case hw => w_witness2)
  k_fill
  refine Law.walk (l := PySem.Challenge.rw_claspwork_k15_deeds_written) rfl rfl (fun w h Y => PySem.W.kIn_of Y) ?F
  case F =>
    intro w mg fa h KX G hmg
    refine' Law.all_mk KX G hmg ?a0 ?l0 ?c0 ?k0 ?a1 ?l1 ?c1 ?k1 ?a2 ?l2 ?c2 ?k2 ?a3 ?l3 ?c3 ?k3 ?a4 ?l4 ?c4 ?k4 ?a5 ?l5 ?c5 ?k5 ?a6 ?l6 ?c6 ?k6 ?a7 ?l7 ?c7 ?k7 ?a8 ?l8 ?c8 ?k8 ?a9 ?l9 ?c9 ?k9 ?a10 ?l10 ?c10 ?k10 ?a11 ?l11 ?c11 ?k11 ?a12 ?l12 ?c12 ?k12 ?a13 ?l13 ?c13 ?k13 ?z0 ?z1 ?z2 ?z3 ?z4 ?z5 ?z6 ?z7 ?z8 ?z9 ?g_NoText ?x_NoText ?g_ClaspError ?g_BadDeed ?g_MOST_STAVES ?g_FIGURES ?ga_NoText ?gt_NoText ?cl_NoText ?sp_NoText ?tk_NoText ?mo_NoText ?mb_NoText ?hd_NoText ?p_pe ?p_pb ?p_pv ?p_p1
    (case a0 => k_is)
    (case l0 => k_is)
    (case c0 => k_is)
    (case k0 => k_is)
    (case a1 => k_is)
    (case l1 => k_is)
    (case c1 => k_is)
    (case k1 => k_is)
    (case a2 => k_is)
    (case l2 => k_is)
    (case c2 => k_is)
    (case k2 => k_is)
    (case a3 => k_is)
    (case l3 => k_is)
    (case c3 => k_is)
    (case k3 => k_is)
    (case a4 => k_is)
    (case l4 => k_is)
    (case c4 => k_is)
    (case k4 => k_is)
    (case a5 => k_is)
    (case l5 => k_is)
    (case c5 => k_is)
    (case k5 => k_is)
    (case a6 => k_is)
    (case l6 => k_is)
    (case c6 => k_is)
    (case k6 => k_is)
    (case a7 => k_is)
    (case l7 => k_is)
    (case c7 => k_is)
    (case k7 => k_is)
    (case a8 => k_is)
    (case l8 => k_is)
    (case c8 => k_is)
    (case k8 => k_is)
    (case a9 => k_is)
    (case l9 => k_is)
    (case c9 => k_is)
    (case k9 => k_is)
    (case a10 => k_is)
    (case l10 => k_is)
    (case c10 => k_is)
    (case k10 => k_is)
    (case a11 => k_is)
    (case l11 => k_is)
    (case c11 => k_is)
    (case k11 => k_is)
    (case a12 => k_is)
    (case l12 => k_is)
    (case c12 => k_is)
    (case k12 => k_is)
    (case a13 => k_is)
    (case l13 => k_is)
    (case c13 => k_is)
    (case k13 => k_is)
    (case z0 => k_is)
    (case z1 => k_is)
    (case z2 => k_is)
    (case z3 => k_is)
    (case z4 => k_is)
    (case z5 => k_is)
    (case z6 => k_is)
    (case z7 => k_is)
    (case z8 => k_is)
    (case z9 => k_is)
    (case g_NoText => k_is)
    (case x_NoText => kernel_rfl)
    (case g_ClaspError => k_is)
    (case g_BadDeed => k_is)
    (case g_MOST_STAVES => k_is)
    (case g_FIGURES => k_is)
    (case ga_NoText => k_is)
    (case gt_NoText => k_is)
    (case cl_NoText => k_is)
    (case sp_NoText => k_is)
    (case tk_NoText => k_is)
    (case mo_NoText => k_is)
    (case mb_NoText => k_is)
    (case hd_NoText => kernel_rfl)
    (case p_pe => kernel_rfl)
    (case p_pb => kernel_rfl)
    (case p_pv => kernel_rfl)
    (case p_p1 => kernel_rfl)


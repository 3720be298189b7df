import PyProof.Rows.All
import Wide.All
import OpenK.AllK
import Wide.FinOn
import Lean
import PyProof.EqAt
import PyProof.EqKinds
import PyProof.TupleCall
import KE.KSortTup
import KE.KIntText
import KE.KTryMore
import PyProof.ExcArgs
import KE.KIsAll
import PyProof.ReprNest
import PyProof.NsMap
import PyProof.Rows.Own
import PyProof.ReprStr
import PyProof.ExcBaseAll.ValueError
import PyProof.FitsInt
import PyProof.ZipIter
import KE.KDictOf
import PyProof.AttrMissHeap
import PyProof.WalksEnum
import PyProof.EnumMake
import KE.KEqDict
import KE.KItemsList
import KE.KSorted
import PyProof.SetScanFacts
import PyProof.Rows.SetFrom
import PyProof.Rows.SortShell
import PyProof.CollectWalk
import PyProof.MakeMany
import PyProof.WalksS
import PyProof.WalkLemmas
import PyProof.Rows.SortWalk
import PySem.Challenge.RW_posthouse_k46_due_ways
set_option Elab.async false
set_option linter.all false
set_option maxRecDepth 100000
set_option Elab.async false
set_option linter.all false
set_option maxRecDepth 100000
/-! THE HAND LAYER, for ints, bools, texts, own classes, LISTS and tuples (index, slices, in, append, pop ..), calls, loops. Paste it whole ahead of your own text; what your proof does not reach may be deleted. -/
namespace L2
open PySem PySem.Spec PyProof.Rows

/-- a key: an int or a str -/
abbrev Key := Sum Int Str
def keyIs : Key → Value → Bool
  | .inl k, v => Value.isInt k v
  | .inr x, v => Value.isStrOf x v
def keyH (w : World) : Key → Int
  | .inl k => hashInt k
  | .inr x => hashStr w x
theorem keyIs_shape : ∀ {k : Key} {v : Value}, keyIs k v = true → (∃ i t, k = Sum.inl i ∧ v = Value.int i t) ∨ (∃ x t, k = Sum.inr x ∧ v = Value.str x t)
  | .inl i, v, h => by
    obtain ⟨t, e⟩ := Value.isInt_shape (k := i) (v := v) h
    exact .inl ⟨i, t, rfl, e⟩
  | .inr x, v, h => by
    obtain ⟨t, e⟩ := Value.isStrOf_shape (x := x) (v := v) h
    exact .inr ⟨x, t, rfl, e⟩
theorem keyIs_int (i : Int) (t : Tok) : keyIs (.inl i) (.int i t) = true := by simp [keyIs, Value.isInt]
theorem keyIs_str (x : Str) (t : Tok) : keyIs (.inr x) (.str x t) = true := by simp [keyIs, Value.isStrOf]
theorem key_ll (a b : Int) : decide ((Sum.inl a : Key) = Sum.inl b) = (a == b) := by
  by_cases e : a = b
  · subst e; simp
  · have h : ¬ (Sum.inl a : Key) = Sum.inl b := fun q => e (Sum.inl.inj q)
    rw [decide_eq_false h]
    exact (beq_eq_false_iff_ne.mpr e).symm
theorem key_rr (a b : Str) : decide ((Sum.inr a : Key) = Sum.inr b) = decide (a = b) := by
  by_cases e : a = b
  · subst e; simp
  · have h : ¬ (Sum.inr a : Key) = Sum.inr b := fun q => e (Sum.inr.inj q)
    rw [decide_eq_false h, decide_eq_false e]
theorem key_lr (a : Int) (b : Str) : decide ((Sum.inl a : Key) = Sum.inr b) = false := decide_eq_false (fun q => nomatch q)
theorem key_rl (a : Str) (b : Int) : decide ((Sum.inr a : Key) = Sum.inl b) = false := decide_eq_false (fun q => nomatch q)

def mixKind (prog : Program) (w : World) : PySem.KeyKind prog w Key where
  is := keyIs
  hash := keyH w
  inj := fun v a b ha hb => by
    rcases keyIs_shape ha with ⟨i, t, rfl, rfl⟩ | ⟨x, t, rfl, rfl⟩
    · rcases keyIs_shape hb with ⟨j, u, rfl, e⟩ | ⟨y, u, rfl, e⟩
      · injection e with e1 _; rw [e1]
      · exact nomatch e
    · rcases keyIs_shape hb with ⟨j, u, rfl, e⟩ | ⟨y, u, rfl, e⟩
      · exact nomatch e
      · injection e with e1 _; rw [e1]
  byValue := fun k v h => by
    rcases keyIs_shape h with ⟨i, t, rfl, rfl⟩ | ⟨x, t, rfl, rfl⟩ <;> rfl
  pyHash := fun hv h => by
    rcases keyIs_shape hv with ⟨i, t, rfl, rfl⟩ | ⟨x, t, rfl, rfl⟩
    · exact wpAny_pyHash_int h
    · exact wpAny_pyHash_str h
  eqBool := fun hu hv h => by
    rcases keyIs_shape hu with ⟨i, t, rfl, rfl⟩ | ⟨x, t, rfl, rfl⟩
    · rcases keyIs_shape hv with ⟨j, u, rfl, rfl⟩ | ⟨y, u, rfl, rfl⟩
      · rw [key_ll] at h; exact wpAny_eqBool_int h
      · rw [key_lr] at h; exact SeqAt.EqAt.int_str i t y u _ _ _ _ h
    · rcases keyIs_shape hv with ⟨j, u, rfl, rfl⟩ | ⟨y, u, rfl, rfl⟩
      · rw [key_rl] at h; exact SeqAt.EqAt.str_int x t j u _ _ _ _ h
      · rw [key_rr] at h; exact wpAny_eqBool_str h
  «strs» := fun k x t v h => by
    rcases keyIs_shape h with ⟨i, u, rfl, e⟩ | ⟨y, u, rfl, e⟩
    · exact nomatch e
    · injection e with e1 _
      subst e1
      cases v <;> rfl

theorem mixKind_int (prog : Program) (w : World) (i : Int) (t : Tok) : (mixKind prog w).is (.inl i) (.int i t) = true := keyIs_int i t
theorem mixKind_str (prog : Program) (w : World) (x : Str) (t : Tok) : (mixKind prog w).is (.inr x) (.str x t) = true := keyIs_str x t
end L2

namespace L2
open PySem PySem.Spec PyProof.Rows

/-- a value, without the heap -/
inductive V where
  | non | bl (b : Bool) | int (i : Int) | str (x : Str) | byt (b : Array UInt8) | flt (b : UInt64) | ref (a : Addr) | ty (n : String)
  deriving DecidableEq

def RelV : V → Value → Prop
  | .non, u => u = Value.none
  | .bl b, u => u = Value.bool b
  | .int i, u => ∃ t, u = Value.int i t
  | .str x, u => ∃ t, u = Value.str x t
  | .byt b, u => ∃ t, u = Value.bytes b t
  | .flt b, u => ∃ t, u = Value.float b t
  | .ref a, u => u = Value.ref a
  | .ty n, u => u = Value.type n

abbrev Vals : List V → List Value → Prop := Paired RelV
theorem Vals.length {xs : List V} {us : List Value} (r : Vals xs us) : xs.length = us.length := Paired.length r
theorem Vals.get : ∀ {xs : List V} {us : List Value} {i : Nat} {x : V}, Vals xs us → xs[i]? = some x → ∃ u, us[i]? = some u ∧ RelV x u
  | _, _, _, _, .nil, e => by simp at e
  | _, _, 0, _, .cons r _, e => by simp at e; subst e; exact ⟨_, rfl, r⟩
  | _, _, i + 1, x, .cons _ t, e => by
    obtain ⟨u, h1, h2⟩ := Vals.get (i := i) (x := x) t (by simpa using e)
    exact ⟨u, by simpa using h1, h2⟩
theorem Vals.set {x : V} {u : Value} (r : RelV x u) : ∀ {xs : List V} {us : List Value} (i : Nat), Vals xs us → Vals (xs.set i x) (us.set i u)
  | _, _, _, .nil => .nil
  | _, _, 0, .cons _ t => .cons r t
  | _, _, i + 1, .cons q t => .cons q (Vals.set r i t)
theorem Vals.append : ∀ {xs ys : List V} {us ws : List Value}, Vals xs us → Vals ys ws → Vals (xs ++ ys) (us ++ ws)
  | _, _, _, _, .nil, s => s
  | _, _, _, _, .cons r t, s => .cons r (Vals.append t s)
theorem Vals.take : ∀ {xs : List V} {us : List Value} (n : Nat), Vals xs us → Vals (xs.take n) (us.take n)
  | _, _, 0, _ => .nil
  | _, _, _ + 1, .nil => .nil
  | _, _, n + 1, .cons r t => .cons r (Vals.take n t)
theorem Vals.drop : ∀ {xs : List V} {us : List Value} (n : Nat), Vals xs us → Vals (xs.drop n) (us.drop n)
  | _, _, 0, r => r
  | _, _, _ + 1, .nil => .nil
  | _, _, n + 1, .cons _ t => Vals.drop n t
def RelO : Option V → Option Value → Prop
  | some v, some u => RelV v u
  | none, none => True
  | _, _ => False
def KV {κ : Type} : List (κ × V) → List (κ × Value) → Prop := Paired fun (p : κ × V) (q : κ × Value) => p.1 = q.1 ∧ RelV p.2 q.2

/-- a key of a dict (00_mix): an int or a text -/
def kV : Key → V
  | .inl i => .int i
  | .inr x => .str x

/-- what stands at a tracked address -/
inductive HO where
  /-- a list -/
  | lst (xs : List V)
  /-- a tuple (never changes) -/
  | tup (xs : List V)
  /-- a dict whose keys are ints and texts; one whose keys are tuples of ints and texts (the empty one is both) -/
  | dK (kvs : List (Key × V)) | dT (kvs : List (List Key × V))
  /-- a set of ints: its members, its size -/
  | set (S : Int → Bool) (n : Nat)
  /-- an instance of the class at C, its dict at dx, its attributes -/
  | ins (C dx : Addr) (fs : List (Str × V))
  /-- the dict of the instance at x -/
  | own (x : Addr)
  /-- the dict of an exception -/
  | xd (fs : List (Str × V))
  /-- a bound method, f of x -/
  | met (f x : Addr)
  /-- a range object lo, lo + 1, .. below hi -/
  | rng (lo hi : Int)
  /-- a thing that is known to the object (the script; a dict while a loop walks it): read, never written while it is so -/
  | frz (o : Obj) (u : HO)
  /-- a code object's table -/
  | tbl (ps : Array Value)
  /-- any other thing, by what is true of its one object (a def of one's own: SetO a S n := HO.ext fun h => ..) -/
  | ext (φ : Heap → Prop)

abbrev Hp := Addr → Option HO
def upd (H : Hp) (a : Addr) (o : HO) : Hp := fun b => if b = a then some o else H b
theorem upd_same {H : Hp} {a : Addr} {o : HO} : upd H a o a = some o := by unfold upd; rw [if_pos rfl]
theorem upd_ne {H : Hp} {a b : Addr} {o : HO} (h : b ≠ a) : upd H a o b = H b := by unfold upd; rw [if_neg h]
/-- two objects of different content stand apart -/
theorem ne_of {H : Hp} {a b : Addr} {o u : HO} (h : H a = some o) (h' : H b = some u) (d : o ≠ u) : a ≠ b := by
  intro e; subst e; rw [h] at h'; exact d (Option.some.inj h')
theorem ne_of_none {H : Hp} {a b : Addr} {o : HO} (h : H a = some o) (h' : H b = none) : a ≠ b := by
  intro e; subst e; rw [h] at h'; cases h'

section
variable (P : Program) (w : World)
def ObjOk (H : Hp) (h : Heap) (a : Addr) : HO → Prop
  | .lst xs => xs.length ≤ sizeLine ∧ ∃ (its : List Value) (n : Nat), Vals xs its ∧ h.get? a = some { cls := .type "list", data := .seq its.toArray n }
  | .tup xs => xs.length ≤ sizeLine ∧ ∃ its : List Value, Vals xs its ∧ IsTup h a its.toArray
  | .dK kvs => kvs.length ≤ sizeLine ∧ (a == sysModules) = false ∧ ∃ vs, KV kvs vs ∧ h.DictOf (mixKind P w) a vs
  | .dT kvs => kvs.length ≤ sizeLine ∧ (a == sysModules) = false ∧ ∃ xs : List (List Key × Addr × Value),
      Paired (fun (p : List Key × V) (q : List Key × Addr × Value) => p.1 = q.1 ∧ H q.2.1 = some (.tup (p.1.map kV)) ∧ RelV p.2 q.2.2) kvs xs ∧
      ∃ o es ep, h.get? a = some o ∧ o.ExactDict ∧ o.data = .dict es ep ∧ es.toList = xs.map (entryOfKey (tupleKind (mixKind P w))) ∧ (xs.map (·.1)).Nodup
  | .set S n => h.SetOf (intKind P w) a S n
  | .ins C dx fs => H dx = some (.own a) ∧ fs.length ≤ 1000 ∧ dx ≠ a ∧ h.get? a = some (PySem.W.instObj C dx) ∧
      ∃ mA, h.Ns1 dx mA ∧ (∀ f, RelO (fs.lookup f) (mA f)) ∧ PySem.Within mA (fs.map (·.1))
  | .own _ => ∃ o, h.get? a = some o
  | .xd fs => ∃ mA, h.Ns1 a mA ∧ ∀ f, RelO (fs.lookup f) (mA f)
  | .rng lo hi => ∃ t u v, h.get? a = some { cls := .type "range", data := .fields #[.int lo t, .int hi u, .int 1 v] }
  | .frz o u => h.get? a = some o ∧ ObjOk H h a u
  | .tbl ps => h.get? a = some { cls := .none, data := .fields ps }
  | .met f x => h.get? a = some (PySem.W.methodObj (.ref f) (.ref x))
  | .ext φ => φ h ∧ (∃ o, h.get? a = some o) ∧ ∀ h1 h2 : Heap, φ h1 → (∀ o, h1.get? a = some o → h2.get? a = some o) → φ h2
/-- the abstract heap is held -/
def HOk (H : Hp) (h : Heap) : Prop := ∀ a o, H a = some o → ObjOk P w H h a o
end

section
variable {P : Program} {w : World} {H H' : Hp} {h h' : Heap} {a : Addr} {o : HO}
theorem ObjOk.lt (x : ObjOk P w H h a o) : a < h.objs.size := by
  cases o with
  | lst xs => obtain ⟨_, _, _, _, e⟩ := x; exact Heap.lt_size e
  | tup xs => obtain ⟨_, _, _, p⟩ := x; exact p.lt
  | dK kvs => obtain ⟨_, _, _, _, o, _, _, e, _⟩ := x; exact Heap.lt_size e
  | dT kvs => obtain ⟨_, _, _, _, o, _, _, e, _⟩ := x; exact Heap.lt_size e
  | set S n => obtain ⟨o, _, _, _, e, _⟩ := x; exact Heap.lt_size e
  | ins C dx fs => obtain ⟨_, _, _, e, _⟩ := x; exact Heap.lt_size e
  | own y => obtain ⟨_, e⟩ := x; exact Heap.lt_size e
  | xd fs => obtain ⟨_, ⟨_, _, _, e, _⟩, _⟩ := x; exact Heap.lt_size e
  | rng lo hi => obtain ⟨_, _, _, e⟩ := x; exact Heap.lt_size e
  | frz ob u => obtain ⟨e, _⟩ := x; exact Heap.lt_size e
  | tbl ps => exact Heap.lt_size (show h.get? a = some _ from x)
  | met f y => exact Heap.lt_size (show h.get? a = some _ from x)
  | ext φ => obtain ⟨_, ⟨_, e⟩, _⟩ := x; exact Heap.lt_size e
theorem Paired.mapP {α β : Type} {F G : α → β → Prop} : ∀ {l₁ : List α} {l₂ : List β}, Paired F l₁ l₂ → (∀ a b, F a b → G a b) → Paired G l₁ l₂
  | _, _, .nil, _ => .nil
  | _, _, .cons r t, f => .cons (f _ _ r) (Paired.mapP t f)
/-- what an object's description leans on: its own object, its own dict, the tuples -/
theorem ObjOk.stay (x : ObjOk P w H h a o) (k : ∀ b u, (b = a ∨ H b = some (.own a)) → h.get? b = some u → h'.get? b = some u)
    (ho : ∀ b, H b = some (.own a) → H' b = some (.own a)) (ht : ∀ b xs, H b = some (.tup xs) → H' b = some (.tup xs)) : ObjOk P w H' h' a o := by
  induction o with
  | lst xs => obtain ⟨z, its, n, r, e⟩ := x; exact ⟨z, its, n, r, k _ _ (.inl rfl) e⟩
  | tup xs => obtain ⟨z, its, r, ob, e, c⟩ := x; exact ⟨z, its, r, ob, k _ _ (.inl rfl) e, c⟩
  | dK kvs => obtain ⟨z, y, vs, r, ob, es, ep, e, c⟩ := x; exact ⟨z, y, vs, r, ob, es, ep, k _ _ (.inl rfl) e, c⟩
  | dT kvs =>
    obtain ⟨z, y, xs, r, ob, es, ep, e, c⟩ := x
    exact ⟨z, y, xs, Paired.mapP r fun p q z => ⟨z.1, ht _ _ z.2.1, z.2.2⟩, ob, es, ep, k _ _ (.inl rfl) e, c⟩
  | set S n => obtain ⟨ob, es, ep, t, e, c⟩ := x; exact ⟨ob, es, ep, t, k _ _ (.inl rfl) e, c⟩
  | ins C dx fs =>
    obtain ⟨d, z, ne, e, mA, ⟨od, es, ep, e2, c⟩, r⟩ := x
    exact ⟨ho _ d, z, ne, k _ _ (.inl rfl) e, mA, ⟨od, es, ep, k _ _ (.inr d) e2, c⟩, r⟩
  | own y => obtain ⟨ob, e⟩ := x; exact ⟨ob, k _ _ (.inl rfl) e⟩
  | xd fs => obtain ⟨mA, ⟨od, es, ep, e, c⟩, r⟩ := x; exact ⟨mA, ⟨od, es, ep, k _ _ (.inl rfl) e, c⟩, r⟩
  | rng lo hi => obtain ⟨t, u, v, e⟩ := x; exact ⟨t, u, v, k _ _ (.inl rfl) e⟩
  | frz ob u ih => obtain ⟨e, q⟩ := x; exact ⟨k _ _ (.inl rfl) e, ih q⟩
  | tbl ps =>
    have e : h.get? a = some { cls := .none, data := .fields ps } := x
    show h'.get? a = some { cls := .none, data := .fields ps }
    exact k a _ (.inl rfl) e
  | met f y =>
    have e : h.get? a = some (PySem.W.methodObj (.ref f) (.ref y)) := x
    show h'.get? a = some (PySem.W.methodObj (.ref f) (.ref y))
    exact k a _ (.inl rfl) e
  | ext φ => obtain ⟨p, ⟨o, e⟩, st⟩ := x; exact ⟨st _ _ p fun o q => k _ _ (.inl rfl) q, ⟨o, k _ _ (.inl rfl) e⟩, st⟩
theorem HOk.lt (x : HOk P w H h) (e : H a = some o) : a < h.objs.size := (x a o e).lt
theorem HOk.fresh (x : HOk P w H h) (e : h.objs.size ≤ a) : H a = none := by
  cases q : H a with
  | none => rfl
  | some u => exact absurd (Nat.lt_of_lt_of_le (x.lt q) e) (Nat.lt_irrefl _)
/-- every object of the heap is kept -/
theorem HOk.kept (x : HOk P w H h) (k : ∀ b u, h.get? b = some u → h'.get? b = some u) : HOk P w H h' := fun a o e =>
  (x a o e).stay (fun b u _ q => k b u q) (fun _ q => q) fun _ _ q => q
/-- a new object is laid and tracked -/
theorem HOk.laid (x : HOk P w H h) (k : ∀ b u, h.get? b = some u → h'.get? b = some u) (hp : h.objs.size ≤ a) (new : ObjOk P w (upd H a o) h' a o) : HOk P w (upd H a o) h' := fun b u e => by
  have hn := x.fresh hp
  by_cases hb : b = a
  · subst hb; rw [upd_same] at e; cases e; exact new
  · rw [upd_ne hb] at e
    exact (x b u e).stay (fun c v _ q => k c v q) (fun c q => by rw [upd_ne (ne_of_none q hn)]; exact q) fun c xs q => by rw [upd_ne (ne_of_none q hn)]; exact q
end

/-- what may be read as u: it is u, or a known u -/
def Rd (H : Hp) (a : Addr) (u : HO) : Prop := H a = some u ∨ ∃ o, H a = some (.frz o u)
theorem Rd.of {H : Hp} {a : Addr} {u : HO} (h : H a = some u) : Rd H a u := .inl h
theorem Rd.ok {P : Program} {w : World} {H : Hp} {h : Heap} {a : Addr} {u : HO} (r : Rd H a u) (x : HOk P w H h) : ObjOk P w H h a u := by
  rcases r with r | ⟨o, r⟩
  · exact x a u r
  · obtain ⟨_, q⟩ := x a _ r
    exact q
/-- what may be written -/
def Mut : Option HO → Prop
  | some (.lst _) => True
  | some (.dK _) => True
  | some (.dT _) => True
  | some (.set _ _) => True
  | some (.ins _ _ _) => True
  | some (.ext _) => True
  | _ => False
section
variable {P : Program} {w : World} {H : Hp} {h h' : Heap} {x e : Addr} {o' : HO}
/-- the object at e is changed: x itself, or the dict of the instance x -/
theorem HOk.write (ok : HOk P w H h) (mu : Mut (H x)) (he : e = x ∨ H e = some (.own x)) (k : ∀ b u, b ≠ e → h.get? b = some u → h'.get? b = some u) (heo : ∃ u, h'.get? e = some u)
    (new : ObjOk P w (upd H x o') h' x o') : HOk P w (upd H x o') h' := fun b u q => by
  have nown : ∀ c y, H c = some (.own y) → c ≠ x := fun c y r z => by subst z; rw [r] at mu; exact mu
  have ntup : ∀ c xs, H c = some (.tup xs) → c ≠ x := fun c xs r z => by subst z; rw [r] at mu; exact mu
  by_cases hb : b = x
  · subst hb; rw [upd_same] at q; cases q; exact new
  · rw [upd_ne hb] at q
    by_cases hbe : b = e
    · have q' : H b = some (.own x) := by
        rcases he with z | z
        · exact absurd (hbe.trans z) hb
        · rw [hbe]; exact z
      rw [q] at q'; cases q'
      obtain ⟨v, hv⟩ := heo
      exact ⟨v, by rw [hbe]; exact hv⟩
    · refine (ok b u q).stay (fun c v hc r => k c v ?_ r) (fun c r => by rw [upd_ne (nown c b r)]; exact r) fun c xs r => by rw [upd_ne (ntup c xs r)]; exact r
      rcases hc with rfl | hc
      · exact hbe
      · rintro rfl
        rcases he with z | z
        · exact nown c b hc z
        · rw [hc] at z; cases z; exact hb rfl
end

/-! ### kept unless tracked; of the frames at fs (the callers') the slots may change (an exception that passes writes there); of the records at ex (iterators) nothing is said -/
structure Un (fs ex : List Addr) (H H' : Hp) (h h' : Heap) : Prop where
  keep : ∀ b o, h.get? b = some o → H b = none → b ∉ fs → b ∉ ex → h'.get? b = some o
  slot : ∀ b o, h.get? b = some o → H b = none → b ∈ fs → b ∉ ex → ∃ sl, h'.get? b = some { o with slots := sl }
  free : ∀ b o, h.get? b = some o → H b = none → b ∉ ex → H' b = none
  there : ∀ b o, h.get? b = some o → b ∉ ex → ∃ o', h'.get? b = some o'
  tups : ∀ b xs, H b = some (.tup xs) → H' b = some (.tup xs)
  frzs : ∀ b o u, H b = some (.frz o u) → H' b = some (.frz o u)
  tbls : ∀ b ps, H b = some (.tbl ps) → ∃ more, H' b = some (.tbl (ps ++ more))
section
variable {fs fs' ex ex' : List Addr} {H H1 H2 : Hp} {h h1 h2 h' : Heap} {a x e : Addr} {o : HO}
theorem Un.any (u : Un fs ex H H1 h h1) {b : Addr} {ob : Obj} (q : h.get? b = some ob) (n : H b = none) (hx : b ∉ ex) : ∃ sl, h1.get? b = some { ob with slots := sl } := by
  by_cases hb : b ∈ fs
  · exact u.slot b ob q n hb hx
  · exact ⟨ob.slots, u.keep b ob q n hb hx⟩
theorem Un.trans (a : Un fs ex H H1 h h1) (b : Un fs ex H1 H2 h1 h2) : Un fs ex H H2 h h2 where
  keep := fun c ob q n hc hx => b.keep c ob (a.keep c ob q n hc hx) (a.free c ob q n hx) hc hx
  slot := fun c ob q n hc hx => by
    obtain ⟨sl, e1⟩ := a.slot c ob q n hc hx
    obtain ⟨sl', e2⟩ := b.slot c _ e1 (a.free c ob q n hx) hc hx
    exact ⟨sl', e2⟩
  free := fun c ob q n hx => by
    obtain ⟨o', e1⟩ := a.there c ob q hx
    exact b.free c o' e1 (a.free c ob q n hx) hx
  there := fun c ob q hx => by
    obtain ⟨o', e1⟩ := a.there c ob q hx
    exact b.there c o' e1 hx
  tups := fun c xs q => b.tups c xs (a.tups c xs q)
  frzs := fun c ob xs q => b.frzs c ob xs (a.frzs c ob xs q)
  tbls := fun c ps q => by
    obtain ⟨m1, e1⟩ := a.tbls c ps q
    obtain ⟨m2, e2⟩ := b.tbls c _ e1
    exact ⟨m1 ++ m2, by rw [e2, Array.append_assoc]⟩
theorem Un.kept (k : ∀ b u, h.get? b = some u → h'.get? b = some u) : Un fs ex H H h h' :=
  ⟨fun b ob q _ _ _ => k b ob q, fun b ob q _ _ _ => ⟨ob.slots, k b ob q⟩, fun _ _ _ n _ => n, fun b ob q _ => ⟨ob, k b ob q⟩, fun _ _ q => q, fun _ _ _ q => q, fun _ ps q => ⟨#[], by rw [q]; simp⟩⟩
theorem Un.refl : Un fs ex H H h h := Un.kept fun _ _ q => q
theorem Un.laid (k : ∀ b u, h.get? b = some u → h'.get? b = some u) (hp : h.objs.size ≤ a) (hn : H a = none) : Un fs ex H (upd H a o) h h' where
  keep := fun b u q _ _ _ => k b u q
  slot := fun b u q _ _ _ => ⟨u.slots, k b u q⟩
  free := fun b u q n _ => by rw [upd_ne (Nat.ne_of_lt (Nat.lt_of_lt_of_le (Heap.lt_size q) hp))]; exact n
  there := fun b u q _ => ⟨u, k b u q⟩
  tups := fun b xs q => by rw [upd_ne (ne_of_none q hn)]; exact q
  frzs := fun b u xs q => by rw [upd_ne (ne_of_none q hn)]; exact q
  tbls := fun b ps q => ⟨#[], by rw [upd_ne (ne_of_none q hn), q]; simp⟩
theorem Un.write (mu : Mut (H x)) (he : e = x ∨ H e = some (.own x)) (k : ∀ b u, b ≠ e → h.get? b = some u → h'.get? b = some u) (heo : ∃ u, h'.get? e = some u) : Un fs ex H (upd H x o) h h' := by
  have hx : ∀ b, H b = none → b ≠ x := fun b n z => by subst z; rw [n] at mu; exact mu
  have hb : ∀ b, H b = none → b ≠ e := fun b n z => by
    subst z
    rcases he with r | r
    · exact hx b n r
    · rw [n] at r; cases r
  have hm : ∀ b u, H b = some u → ¬ Mut (some u) → b ≠ x := fun b u q nm z => by subst z; rw [q] at mu; exact nm mu
  refine ⟨fun b u q n _ _ => k b u (hb b n) q, fun b u q n _ _ => ⟨u.slots, k b u (hb b n) q⟩, fun b u q n _ => by rw [upd_ne (hx b n)]; exact n, fun b u q _ => ?_,
    fun b xs q => by rw [upd_ne (hm b _ q fun z => z)]; exact q, fun b u xs q => by rw [upd_ne (hm b _ q fun z => z)]; exact q, fun b ps q => ⟨#[], by rw [upd_ne (hm b _ q fun z => z), q]; simp⟩⟩
  by_cases hbe : b = e
  · subst hbe; exact heo
  · exact ⟨u, k b u hbe q⟩
theorem Un.mono (u : Un fs ex H H1 h h1) (hs : ∀ b ∈ fs, b ∈ fs') (hx : ∀ b ∈ ex, b ∈ ex') : Un fs' ex' H H1 h h1 :=
  ⟨fun b ob q n hb he => u.keep b ob q n (fun z => hb (hs b z)) fun z => he (hx b z), fun _ _ q n _ he => u.any q n fun z => he (hx _ z), fun b ob q n he => u.free b ob q n fun z => he (hx b z), fun b ob q he => u.there b ob q fun z => he (hx b z), u.tups, u.frzs, u.tbls⟩
end

/-! ### the heap without what is tracked -/
def trk (h : Heap) (H : Hp) : List Addr := (List.range h.objs.size).filter fun a => (H a).isSome
def hidT (h : Heap) (H : Hp) : Heap := PySem.W.hideAll h (trk h H)
theorem hidT_size (h : Heap) (H : Hp) : (hidT h H).objs.size = h.objs.size := PySem.W.hideAll_size _ _
theorem hidT_get {h : Heap} {H : Hp} {b : Addr} {o : Obj} (e : h.get? b = some o) (n : H b = none) : (hidT h H).get? b = some o :=
  PySem.W.hideAll_get _ e fun hm => by
    have q : (H b).isSome = true := (List.mem_filter.mp hm).2
    rw [n] at q; simp at q
theorem of_hidT {h : Heap} {H : Hp} {b : Addr} {o : Obj} (e : (hidT h H).get? b = some o) : h.get? b = some o ∧ H b = none := by
  have e' : h.get? b = some o := PySem.W.of_hideAll (trk h H) e
  refine ⟨e', ?_⟩
  cases q : H b with
  | none => rfl
  | some x =>
    have hm : b ∈ trk h H := List.mem_filter.mpr ⟨List.mem_range.mpr (Heap.lt_size e'), by simp [q]⟩
    have z : (hidT h H).get? b = none := PySem.W.hideAll_none (trk h H) hm
    rw [z] at e; cases e

/-! ### OpenK's ledger, filled with every new object but one -/
def allNews (g h : Heap) (L : Addr) : List (Addr × Obj) := (List.range h.objs.size).filterMap fun a => if a = L ∨ (g.get? a).isSome = true then none else (h.get? a).map fun o => (a, o)
def rest (g h : Heap) (L d : Addr) : List (Addr × Obj) := (allNews g h L).filter fun p => decide (p.1 ≠ d)
end L2

namespace L2
open PySem PySem.Spec PyProof.Rows

/-- the module's facts, over the base: the heap at the law's entry without what is tracked there -/
structure Mod (K : PySem.W.Frag) (mg : Str → Option Value) (base : Heap) : Prop where
  kin : K.In base
  glob : base.Ns mainGlobals mg
  blt : ∃ mb, base.Ns builtinsNs mb ∧ ∀ x : Str, x ≠ "__name__" → mb x = bootBuiltins x
  nolimit : base.NoLimit

/-- the context: a def's body (or a comprehension's block) running. base: fixed through the whole law; s₀, H₀: the entry; outer: the frames whose slots others may change (a def's callers); stack: all frames that run;
   ex: iterators that were made ahead of the entry and are walked here (a comprehension's); fn: the names whose cells were made at the entry (a def: all; a comprehension's block: its own); calm: not within an except suite; pn: pins that every state bears; xe: what is wanted of an exception that leaves the code -/
structure Cx where
  prog : Program
  w : World
  K : PySem.W.Frag
  mg : Str → Option Value
  base : Heap
  A : Around
  N : List Str
  s₀ : Shared
  H₀ : Hp
  env : Env
  outer : List Env
  stack : List Env
  ex : List Addr
  fn : Str → Bool
  calm : Bool
  pn : List (Addr × Obj)
  xe : Value → Shared → Prop
/-- the callers' frames -/
def frs (l : List Env) : List Addr := l.filterMap (·.frame)
abbrev Cx.fs (X : Cx) : List Addr := frs X.outer

def Vis (sc : Scope) (x : Str) : Prop := sc.names.lookup x = some .local ∨ sc.names.lookup x = some .cell ∨ sc.names.lookup x = some .free
def Loc (sc : Scope) (x : Str) : Prop := sc.names.lookup x = some .local ∨ sc.names.lookup x = some .cell
def Look (env : Env) (h : Heap) (m : Str → Option Value) (x : Str) (u : Value) : Prop :=
  (env.kindOf x = some .local ∧ m x = some u) ∨ ((env.kindOf x = some .cell ∨ env.kindOf x = some .free) ∧ ∃ c, env.cells.lookup x = some c ∧ h.IsCell c (some u))

structure Cx.Ok (X : Cx) : Prop where
  mod : Mod X.K X.mg X.base
  kind : X.env.scope.kind = .function
  glob : X.env.globals = mainGlobals
  blt : X.env.builtins = builtinsNs
  above : X.s₀.heap.objs.size ≤ X.env.locals
  inj : ∀ x y c, X.env.cells.lookup x = some c → X.env.cells.lookup y = some c → x = y
  has : ∀ x, (X.env.kindOf x = some .cell ∨ X.env.kindOf x = some .free) → ∃ c, X.env.cells.lookup x = some c
  cab : ∀ x c, X.fn x = true → X.env.cells.lookup x = some c → X.s₀.heap.objs.size ≤ c
  hd : X.calm = true → X.A.handled = none
  frames : X.A.frames = some X.stack
  stk : X.stack = X.outer ∨ (X.stack = X.env :: X.outer ∧ X.env.frame = some X.env.locals)
  exf : ∀ b ∈ X.ex, b ≠ X.env.locals ∧ ∀ x c, X.env.cells.lookup x = some c → c ≠ b
  bs : ∀ b o, X.base.get? b = some o → X.s₀.heap.get? b = some o ∧ X.H₀ b = none
  bsz : X.base.objs.size ≤ X.s₀.heap.objs.size
  noex : ∀ b o, X.base.get? b = some o → b ∉ X.ex
  exfs : ∀ b ∈ X.ex, b ∉ X.fs
  funs : X.s₀.heap.FunFrames X.base X.outer
  frf : ∀ b ∈ X.fs, X.H₀ b = none

structure Inv (X : Cx) (pins : List (Addr × Obj)) (σ : List (Option V)) (H : Hp) (s : Shared) : Prop where
  ok : X.Ok
  os : s.os = X.s₀.os
  bare : AllBare s.gens
  base : Un X.fs X.ex X.H₀ H X.s₀.heap s.heap
  loc : ∃ m, s.heap.Ns X.env.locals m ∧ ∀ (i : Nat) (x : Str) (v : V), X.N[i]? = some x → σ[i]? = some (some v) → Vis X.env.scope x → ∃ u, RelV v u ∧ Look X.env s.heap m x u
  cell : ∀ x c, X.env.cells.lookup x = some c → ∃ v, s.heap.IsCell c v
  free : H X.env.locals = none
  freeC : ∀ x c, X.env.cells.lookup x = some c → H c = none
  pin : ∀ p ∈ X.pn ++ pins, s.heap.get? p.1 = some p.2 ∧ H p.1 = none ∧ p.1 ≠ X.env.locals ∧ p.1 ∉ X.fs ∧ ∀ v, p.2.data ≠ .cell v
  hok : HOk X.prog X.w H s.heap
  len : σ.length = X.N.length

section
variable {X : Cx} {pins : List (Addr × Obj)} {σ : List (Option V)} {H H' : Hp} {s : Shared} {h' : Heap}

theorem Cx.Ok.nofr (ok : X.Ok) {b : Addr} {o : Obj} (e : X.base.get? b = some o) : b ∉ X.fs := fun hb => by
  have := (ok.funs.mem hb).1
  rw [e] at this; cases this
theorem Inv.bs (I : Inv X pins σ H s) : ∀ b o, X.base.get? b = some o → s.heap.get? b = some o ∧ H b = none := fun b o e =>
  ⟨I.base.keep b o (I.ok.bs b o e).1 (I.ok.bs b o e).2 (I.ok.nofr e) (I.ok.noex b o e), I.base.free b o (I.ok.bs b o e).1 (I.ok.bs b o e).2 (I.ok.noex b o e)⟩
theorem Inv.bk (I : Inv X pins σ H s) : ∀ b o, X.base.get? b = some o → s.heap.get? b = some o := fun b o e => (I.bs b o e).1
theorem Inv.mod (I : Inv X pins σ H s) : Mod X.K X.mg X.base := I.ok.mod
theorem Inv.kIn (I : Inv X pins σ H s) : X.K.In s.heap := I.ok.mod.kin.keeps I.bk
theorem Inv.nolimit (I : Inv X pins σ H s) : s.heap.NoLimit := I.ok.mod.nolimit.keeps I.bk
theorem Inv.lt (I : Inv X pins σ H s) : X.env.locals < s.heap.objs.size := let ⟨_, hn, _⟩ := I.loc; hn.lt
theorem Inv.sz (I : Inv X pins σ H s) : X.s₀.heap.objs.size ≤ s.heap.objs.size := Nat.le_trans I.ok.above (Nat.le_of_lt I.lt)
theorem Inv.nofs (I : Inv X pins σ H s) {a : Addr} (h : s.heap.objs.size ≤ a) : a ∉ X.fs := fun hb => by
  obtain ⟨_, o, ho, _⟩ := I.ok.funs.mem hb
  exact absurd (Nat.lt_of_lt_of_le (Heap.lt_size ho) (Nat.le_trans I.sz h)) (Nat.lt_irrefl _)
theorem Inv.cne (I : Inv X pins σ H s) : ∀ x c, X.env.cells.lookup x = some c → c ≠ X.env.locals := fun x c e z => by
  obtain ⟨v, o, ho, hd⟩ := I.cell x c e
  obtain ⟨m, ⟨o', es, ep, ho', hd', _⟩, _⟩ := I.loc
  rw [z, ho'] at ho; cases ho; rw [hd'] at hd; cases hd
theorem Inv.funs (I : Inv X pins σ H s) : s.heap.FunFrames X.base X.outer := by
  have all : ∀ (l : List Env), (∀ b ∈ frs l, b ∈ X.fs) → X.s₀.heap.FunFrames X.base l → s.heap.FunFrames X.base l := by
    intro l
    induction l with
    | nil => intro _ _; trivial
    | cons env r ih =>
      intro hs hl
      obtain ⟨hk, ⟨L, o, hf, hn, ho, hd⟩, hr⟩ := hl
      have hL : L ∈ X.fs := hs L (by unfold frs; rw [List.filterMap_cons, hf]; exact List.mem_cons_self)
      obtain ⟨sl, e⟩ := I.base.slot L o ho (I.ok.frf L hL) hL fun z => I.ok.exfs L z hL
      exact ⟨hk, ⟨L, _, hf, hn, e, hd⟩, ih (fun b hb => hs b (by unfold frs; rw [List.filterMap_cons, hf]; exact List.mem_cons_of_mem _ hb)) hr⟩
  exact all X.outer (fun _ hb => hb) I.ok.funs

/-- the frames that run, for a call -/
theorem Inv.stack (I : Inv X pins σ H s) : s.heap.FunFrames X.base X.stack := by
  rcases I.ok.stk with e | ⟨e, hf⟩
  · rw [e]; exact I.funs
  · rw [e]
    obtain ⟨m, hn, _⟩ := I.loc
    refine .cons (by rw [I.ok.kind]; decide) hf hn ?_ I.funs
    exact Heap.get?_none_of_le (Nat.le_trans I.ok.bsz I.ok.above)
theorem Inv.stkSub (I : Inv X pins σ H s) : ∀ b ∈ frs X.stack, b ∈ X.env.locals :: X.fs := fun b hb => by
  rcases I.ok.stk with e | ⟨e, hf⟩
  · rw [e] at hb; exact List.mem_cons_of_mem _ hb
  · rw [e] at hb
    unfold frs at hb
    rw [List.filterMap_cons, hf] at hb
    exact hb
theorem Inv.stkFree (I : Inv X pins σ H s) : ∀ b ∈ frs X.stack, H b = none := fun b hb => by
  rcases List.mem_cons.mp (I.stkSub b hb) with e | hb
  · rw [e]; exact I.free
  · obtain ⟨_, o, ho, _⟩ := I.ok.funs.mem hb
    exact I.base.free b o ho (I.ok.frf b hb) fun z => I.ok.exfs b z hb

/-- THE STEP: the untracked objects but the frame and the records at ch are kept (the callers' frames up to slots), the frame's map is kept, the new abstract heap is held -/
theorem Inv.step {g' : Array GenState} {t' : Nat} {d' : Drawn} {ch : List Addr} (I : Inv X pins σ H s)
    (hch : ∀ b ∈ ch, (b ∈ X.ex ∨ X.s₀.heap.objs.size ≤ b) ∧ b ≠ X.env.locals ∧ (∀ x c, X.env.cells.lookup x = some c → c ≠ b) ∧ ∀ p ∈ X.pn ++ pins, p.1 ≠ b)
    (keep : ∀ b o, b ≠ X.env.locals → b ∉ X.fs → b ∉ ch → s.heap.get? b = some o → H b = none → h'.get? b = some o)
    (slot : ∀ b o, b ≠ X.env.locals → b ∈ X.fs → b ∉ ch → s.heap.get? b = some o → H b = none → ∃ sl, h'.get? b = some { o with slots := sl }) (free : ∀ b o, b ∉ ch → s.heap.get? b = some o → H b = none → H' b = none)
    (there : ∀ b o, b ∉ ch → s.heap.get? b = some o → ∃ o', h'.get? b = some o')
    (tups : ∀ b xs, H b = some (.tup xs) → H' b = some (.tup xs)) (frzs : ∀ b o u, H b = some (.frz o u) → H' b = some (.frz o u)) (tbls : ∀ b ps, H b = some (.tbl ps) → ∃ more, H' b = some (.tbl (ps ++ more)))
    (ns : ∀ m, s.heap.Ns X.env.locals m → h'.Ns X.env.locals m) (hok : HOk X.prog X.w H' h') (hg : AllBare g') :
    Inv X pins σ H' { s with heap := h', gens := g', drawn := d', toks := t' } := by
  have neL : ∀ b o, X.s₀.heap.get? b = some o → b ≠ X.env.locals := fun b o e => Nat.ne_of_lt (Nat.lt_of_lt_of_le (Heap.lt_size e) I.ok.above)
  have neC : ∀ b o, X.s₀.heap.get? b = some o → b ∉ X.ex → b ∉ ch := fun b o e hx hb => by
    rcases (hch b hb).1 with z | z
    · exact hx z
    · exact absurd (Nat.lt_of_lt_of_le (Heap.lt_size e) z) (Nat.lt_irrefl _)
  have cellK : ∀ x c, X.env.cells.lookup x = some c → ∀ v, s.heap.IsCell c v → h'.IsCell c v := fun x c e v hw' => by
    obtain ⟨o, ho, hd⟩ := hw'
    have nch : c ∉ ch := fun z => (hch c z).2.2.1 x c e rfl
    by_cases hc : c ∈ X.fs
    · obtain ⟨sl, q⟩ := slot c o (I.cne x c e) hc nch ho (I.freeC x c e)
      exact ⟨_, q, hd⟩
    · exact ⟨o, keep c o (I.cne x c e) hc nch ho (I.freeC x c e), hd⟩
  refine ⟨I.ok, I.os, hg, ⟨fun b o e n hb hx => ?_, fun b o e n hb hx => ?_, fun b o e n hx => ?_, fun b o e hx => ?_, fun b xs e => tups b xs (I.base.tups b xs e), fun b o xs e => frzs b o xs (I.base.frzs b o xs e), fun b ps e => ?_⟩, ?_, fun x c e => ?_, ?_, fun x c e => ?_, fun p hp => ?_, hok, I.len⟩
  · exact keep b o (neL b o e) hb (neC b o e hx) (I.base.keep b o e n hb hx) (I.base.free b o e n hx)
  · obtain ⟨sl, e1⟩ := I.base.slot b o e n hb hx
    obtain ⟨sl', e2⟩ := slot b _ (neL b o e) hb (neC b o e hx) e1 (I.base.free b o e n hx)
    exact ⟨sl', e2⟩
  · obtain ⟨o', e1⟩ := I.base.there b o e hx
    exact free b o' (neC b o e hx) e1 (I.base.free b o e n hx)
  · obtain ⟨o', e1⟩ := I.base.there b o e hx
    exact there b o' (neC b o e hx) e1
  · obtain ⟨m1, e1⟩ := I.base.tbls b ps e
    obtain ⟨m2, e2⟩ := tbls b _ e1
    exact ⟨m1 ++ m2, by rw [e2, Array.append_assoc]⟩
  · obtain ⟨m, hn, hl⟩ := I.loc
    refine ⟨m, ns m hn, fun i x v e1 e2 e3 => ?_⟩
    obtain ⟨u, r, l⟩ := hl i x v e1 e2 e3
    refine ⟨u, r, ?_⟩
    rcases l with l | ⟨k, c, e, z⟩
    · exact .inl l
    · exact .inr ⟨k, c, e, cellK x c e _ z⟩
  · obtain ⟨v, z⟩ := I.cell x c e
    exact ⟨v, cellK x c e v z⟩
  · obtain ⟨m, ⟨o, _, _, ho, _⟩, _⟩ := I.loc
    exact free _ o (fun z => (hch _ z).2.1 rfl) ho I.free
  · obtain ⟨v, o, ho, hd⟩ := I.cell x c e
    exact free c o (fun z => (hch c z).2.2.1 x c e rfl) ho (I.freeC x c e)
  · obtain ⟨e, n, ne, nf, d⟩ := I.pin p hp
    have nch : p.1 ∉ ch := fun z => (hch p.1 z).2.2.2 p hp rfl
    exact ⟨keep p.1 p.2 ne nf nch e n, free p.1 p.2 nch e n, ne, nf, d⟩
/-- .. where the frame's own object is kept too -/
theorem Inv.un {t' : Nat} (I : Inv X pins σ H s) (u : Un X.fs [] H H' s.heap h') (hok : HOk X.prog X.w H' h') : Inv X pins σ H' { s with heap := h', toks := t' } := by
  obtain ⟨m, ⟨o, es, ep, ho, r⟩, _⟩ := id I.loc
  obtain ⟨sl, hL⟩ := u.any ho I.free (by simp)
  exact I.step (g' := s.gens) (d' := s.drawn) (ch := []) (fun _ z => nomatch z) (fun b o _ hb _ e n => u.keep b o e n hb (by simp)) (fun b o _ hb _ e n => u.slot b o e n hb (by simp)) (fun b o _ e n => u.free b o e n (by simp)) (fun b o _ e => u.there b o e (by simp)) u.tups u.frzs u.tbls (fun m' hm => by
    obtain ⟨o', es', ep', ho', r'⟩ := hm
    rw [ho] at ho'; cases ho'
    exact ⟨_, es', ep', hL, r'⟩) hok I.bare
/-- behind a call (or a comprehension's block): the slots of this frame may have changed too, the records at ch may have turned -/
theorem Inv.call {g' : Array GenState} {t' : Nat} {d' : Drawn} {ch : List Addr} (I : Inv X pins σ H s) (u : Un (frs X.stack) ch H H' s.heap h') (hok : HOk X.prog X.w H' h') (hg : AllBare g')
    (hch : ∀ b ∈ ch, (b ∈ X.ex ∨ X.s₀.heap.objs.size ≤ b) ∧ b ≠ X.env.locals ∧ (∀ x c, X.env.cells.lookup x = some c → c ≠ b) ∧ ∀ p ∈ X.pn ++ pins, p.1 ≠ b) :
    Inv X pins σ H' { s with heap := h', gens := g', drawn := d', toks := t' } := by
  obtain ⟨m, ⟨o, es, ep, ho, r⟩, _⟩ := id I.loc
  obtain ⟨sl, hL⟩ := u.any ho I.free fun z => (hch _ z).2.1 rfl
  exact I.step (ch := ch) hch (fun b o hL hb hc e n => u.keep b o e n (fun z => (List.mem_cons.mp (I.stkSub b z)).elim hL hb) hc) (fun b o _ _ hc e n => u.any e n hc) (fun b o hc e n => u.free b o e n hc) (fun b o hc e => u.there b o e hc) u.tups u.frzs u.tbls (fun m' hm => by
    obtain ⟨o', es', ep', ho', r'⟩ := hm
    rw [ho] at ho'; cases ho'
    exact ⟨_, es', ep', hL, r'⟩) hok hg
/-- an untracked record of ours (an iterator) has turned -/
theorem Inv.turned {t' : Nat} {it : Addr} (I : Inv X pins σ H s) (k : ∀ b o, b ≠ it → s.heap.get? b = some o → h'.get? b = some o) (hn : H it = none) (hL : it ≠ X.env.locals)
    (h1 : it ∈ X.ex ∨ X.s₀.heap.objs.size ≤ it) (h2 : ∀ x c, X.env.cells.lookup x = some c → c ≠ it) (h3 : ∀ p ∈ X.pn ++ pins, p.1 ≠ it) : Inv X pins σ H { s with heap := h', toks := t' } := by
  have nit : ∀ b u, H b = some u → b ≠ it := fun b u e z => by rw [z, hn] at e; cases e
  refine I.step (g' := s.gens) (d' := s.drawn) (ch := [it]) (fun b hb => ?_) (fun b o _ _ hc e _ => k b o (fun z => hc (by simp [z])) e) (fun b o _ _ hc e _ => ⟨o.slots, k b o (fun z => hc (by simp [z])) e⟩) (fun _ _ _ _ n => n)
    (fun b o hc e => ⟨o, k b o (fun z => hc (by simp [z])) e⟩) (fun _ _ e => e) (fun _ _ _ e => e) (fun b ps e => ⟨#[], by rw [e]; simp⟩) (fun m hm => ?_) (fun b u e => ?_) I.bare
  · have e : b = it := by simpa using hb
    subst e
    exact ⟨h1, hL, h2, h3⟩
  · obtain ⟨o, es, ep, ho, r⟩ := hm
    exact ⟨o, es, ep, k _ o (Ne.symm hL) ho, r⟩
  · refine (I.hok b u e).stay (fun c v hc q => k c v ?_ q) (fun _ q => q) fun _ _ q => q
    rcases hc with z | z
    · rw [z]; exact nit b u e
    · exact nit c _ z
theorem Inv.tok (I : Inv X pins σ H s) (t : Nat) : Inv X pins σ H { s with toks := t } := I.un (h' := s.heap) (t' := t) Un.refl I.hok
/-- all objects kept -/
theorem Inv.kept {t' : Nat} (I : Inv X pins σ H s) (k : ∀ b u, s.heap.get? b = some u → h'.get? b = some u) : Inv X pins σ H { s with heap := h', toks := t' } := I.un (Un.kept k) (I.hok.kept k)
/-- a new object laid and tracked -/
theorem Inv.laid {a : Addr} {o : HO} {t' : Nat} (I : Inv X pins σ H s) (k : ∀ b u, s.heap.get? b = some u → h'.get? b = some u) (hp : s.heap.objs.size ≤ a) (new : ObjOk X.prog X.w (upd H a o) h' a o) :
    Inv X pins σ (upd H a o) { s with heap := h', toks := t' } := I.un (Un.laid k hp (I.hok.fresh hp)) (I.hok.laid k hp new)
/-- an object written -/
theorem Inv.write {x e : Addr} {o : HO} {t' : Nat} (I : Inv X pins σ H s) (mu : Mut (H x)) (he : e = x ∨ H e = some (.own x)) (k : ∀ b u, b ≠ e → s.heap.get? b = some u → h'.get? b = some u) (heo : ∃ u, h'.get? e = some u)
    (new : ObjOk X.prog X.w (upd H x o) h' x o) : Inv X pins σ (upd H x o) { s with heap := h', toks := t' } := I.un (Un.write mu he k heo) (I.hok.write mu he k heo new)
theorem Inv.pins_of {pins' : List (Addr × Obj)} (I : Inv X pins σ H s) (h : ∀ p ∈ pins', s.heap.get? p.1 = some p.2 ∧ H p.1 = none ∧ p.1 ≠ X.env.locals ∧ p.1 ∉ X.fs ∧ ∀ v, p.2.data ≠ .cell v) : Inv X pins' σ H s :=
  ⟨I.ok, I.os, I.bare, I.base, I.loc, I.cell, I.free, I.freeC, fun p hp => (List.mem_append.mp hp).elim (fun z => I.pin p (List.mem_append_left _ z)) (h p), I.hok, I.len⟩

theorem nodup_ix {N : List Str} (hN : N.Nodup) {i j : Nat} {x : Str} (a : N[i]? = some x) (b : N[j]? = some x) : i = j := by
  obtain ⟨h1, e1⟩ := List.getElem?_eq_some_iff.mp a
  obtain ⟨h2, e2⟩ := List.getElem?_eq_some_iff.mp b
  exact (List.getElem_inj hN).mp (e1.trans e2.symm)

/-- a name is stored; what changed -/
theorem store_ok2 {M : Model} {A : Around} {E : Value → Shared → Prop} {i : Nat} {x : Str} {v : V} {u : Value} {Q : Unit → Shared → Prop} (I : Inv X pins σ H s) (hN : X.N.Nodup) (hi : X.N[i]? = some x) (hx : Loc X.env.scope x) (r : RelV v u)
    (h : ∀ s', Inv X pins (σ.set i (some v)) H s' → (∃ a, Heap.SameBut a s.heap s'.heap ∧ (a = X.env.locals ∨ X.env.cells.lookup x = some a)) → Q () s') (hf : X.fn x = true ∨ X.env.scope.names.lookup x = some .local := by first | exact .inl rfl | exact .inr rfl | assumption) : wpAny M A (storeName X.env x u) Q E s := by
  obtain ⟨m, hn, hl⟩ := id I.loc
  have hcls : (X.env.scope.kind == .class || (X.env.scope.kind == .module && X.env.locals != X.env.globals)) = false := by rw [I.ok.kind]; rfl
  have hiσ : i < σ.length := by rw [I.len]; exact (List.getElem?_eq_some_iff.mp hi).1
  have cne := I.cne
  have tracked : ∀ {a : Addr} {h' : Heap}, (∃ o, s.heap.get? a = some o ∧ H a = none) → Heap.SameBut a s.heap h' → HOk X.prog X.w H h' := fun {a h'} ha hs b ob e => by
    obtain ⟨_, _, hfree⟩ := ha
    refine (I.hok b ob e).stay (fun c w' hc q => (hs.2 c ?_).trans q) (fun _ q => q) fun _ _ q => q
    rintro rfl
    rcases hc with rfl | hc
    · rw [hfree] at e; cases e
    · rw [hfree] at hc; cases hc
  rcases hx with hk | hk
  · refine wpAny_storeName_local hk hn (fun h' hn' hs => ?_) hcls
    obtain ⟨oL, _, _, hoL, _⟩ := id hn
    refine h _ ⟨I.ok, I.os, I.bare, ⟨fun b o e n hb hx => ?_, fun b o e n hb hx => ?_, I.base.free, fun b o e hx => ?_, I.base.tups, I.base.frzs, I.base.tbls⟩, ⟨_, hn', fun j y v' e1 e2 e3 => ?_⟩, fun y c e => ?_, I.free, I.freeC, fun p hp => ?_, tracked ⟨oL, hoL, I.free⟩ hs, by simpa using I.len⟩ ⟨_, hs, .inl rfl⟩
    · exact (hs.2 b (Nat.ne_of_lt (Nat.lt_of_lt_of_le (Heap.lt_size e) I.ok.above))).trans (I.base.keep b o e n hb hx)
    · obtain ⟨sl, e1⟩ := I.base.slot b o e n hb hx
      exact ⟨sl, (hs.2 b (Nat.ne_of_lt (Nat.lt_of_lt_of_le (Heap.lt_size e) I.ok.above))).trans e1⟩
    · obtain ⟨o', e1⟩ := I.base.there b o e hx
      exact ⟨o', (hs.2 b (Nat.ne_of_lt (Nat.lt_of_lt_of_le (Heap.lt_size e) I.ok.above))).trans e1⟩
    · by_cases hj : j = i
      · subst hj
        rw [hi] at e1; cases e1
        rw [List.getElem?_set_self hiσ] at e2
        cases e2
        exact ⟨u, r, .inl ⟨hk, by simp⟩⟩
      · rw [List.getElem?_set_ne (Ne.symm hj)] at e2
        obtain ⟨u', r', q⟩ := hl j y v' e1 e2 e3
        refine ⟨u', r', ?_⟩
        rcases q with ⟨k, e⟩ | ⟨k, c, e, z⟩
        · refine .inl ⟨k, ?_⟩
          have : y ≠ x := fun e => hj (nodup_ix hN e1 (e ▸ hi))
          simp [this, e]
        · exact .inr ⟨k, c, e, z.sameBut hs (cne y c e)⟩
    · obtain ⟨w', z⟩ := I.cell y c e
      exact ⟨w', z.sameBut hs (cne y c e)⟩
    · obtain ⟨e, n, ne, nf, d⟩ := I.pin p hp
      exact ⟨(hs.2 p.1 ne).trans e, n, ne, nf, d⟩
  · have hfn : X.fn x = true := by
      rcases hf with z | z
      · exact z
      · rw [z] at hk; cases hk
    obtain ⟨c, hc⟩ := I.ok.has x (.inl hk)
    obtain ⟨w', z⟩ := I.cell x c hc
    refine wpAny_storeName_cell I.ok.kind hk hc z (fun h' hc' hs => ?_)
    obtain ⟨oc, hoc, hocd⟩ := id z
    refine h { s with heap := h' } ⟨I.ok, I.os, I.bare, ⟨fun b o e n hb hx => ?_, fun b o e n hb hx => ?_, I.base.free, fun b o e hx => ?_, I.base.tups, I.base.frzs, I.base.tbls⟩, ⟨m, hn.sameBut hs (Ne.symm (cne x c hc)), fun j y v' e1 e2 e3 => ?_⟩, fun y c' e => ?_, I.free, I.freeC, fun p hp => ?_, tracked ⟨oc, hoc, I.freeC x c hc⟩ hs, by simpa using I.len⟩ ⟨c, hs, .inr hc⟩
    · exact (hs.2 b (Nat.ne_of_lt (Nat.lt_of_lt_of_le (Heap.lt_size e) (I.ok.cab x c hfn hc)))).trans (I.base.keep b o e n hb hx)
    · obtain ⟨sl, e1⟩ := I.base.slot b o e n hb hx
      exact ⟨sl, (hs.2 b (Nat.ne_of_lt (Nat.lt_of_lt_of_le (Heap.lt_size e) (I.ok.cab x c hfn hc)))).trans e1⟩
    · obtain ⟨o', e1⟩ := I.base.there b o e hx
      exact ⟨o', (hs.2 b (Nat.ne_of_lt (Nat.lt_of_lt_of_le (Heap.lt_size e) (I.ok.cab x c hfn hc)))).trans e1⟩
    · by_cases hj : j = i
      · subst hj
        rw [hi] at e1; cases e1
        rw [List.getElem?_set_self hiσ] at e2
        cases e2
        exact ⟨u, r, .inr ⟨.inl hk, c, hc, hc'⟩⟩
      · rw [List.getElem?_set_ne (Ne.symm hj)] at e2
        obtain ⟨u', r', q⟩ := hl j y v' e1 e2 e3
        refine ⟨u', r', ?_⟩
        rcases q with q | ⟨k, c', e, z'⟩
        · exact .inl q
        · refine .inr ⟨k, c', e, z'.sameBut hs ?_⟩
          rintro rfl
          exact hj (nodup_ix hN e1 (I.ok.inj _ _ _ e hc ▸ hi))
    · by_cases hcc : c' = c
      · subst hcc; exact ⟨_, hc'⟩
      · obtain ⟨w2, z2⟩ := I.cell y c' e
        exact ⟨w2, z2.sameBut hs hcc⟩
    · obtain ⟨e, n, ne, nf, d⟩ := I.pin p hp
      refine ⟨(hs.2 p.1 ?_).trans e, n, ne, nf, d⟩
      intro q
      rw [q, hoc] at e
      have q' : oc = p.2 := Option.some.inj e
      exact d w' (by rw [← q']; exact hocd)
theorem store_ok {M : Model} {A : Around} {E : Value → Shared → Prop} {i : Nat} {x : Str} {v : V} {u : Value} {Q : Unit → Shared → Prop} (I : Inv X pins σ H s) (hN : X.N.Nodup) (hi : X.N[i]? = some x) (hx : Loc X.env.scope x) (r : RelV v u)
    (h : ∀ s', Inv X pins (σ.set i (some v)) H s' → Q () s') (hf : X.fn x = true ∨ X.env.scope.names.lookup x = some .local := by first | exact .inl rfl | exact .inr rfl | assumption) : wpAny M A (storeName X.env x u) Q E s :=
  store_ok2 I hN hi hx r (fun s' I' _ => h s' I') hf
/-- behind a call or a block, the state as it is -/
theorem Inv.call' {s' : Shared} {ch : List Addr} (I : Inv X pins σ H s) (ho : s'.os = s.os) (u : Un (frs X.stack) ch H H' s.heap s'.heap) (hok : HOk X.prog X.w H' s'.heap) (hg : AllBare s'.gens)
    (hch : ∀ b ∈ ch, (b ∈ X.ex ∨ X.s₀.heap.objs.size ≤ b) ∧ b ≠ X.env.locals ∧ (∀ x c, X.env.cells.lookup x = some c → c ≠ b) ∧ ∀ p ∈ X.pn ++ pins, p.1 ≠ b) : Inv X pins σ H' s' := by
  obtain ⟨h', g', d', t', o'⟩ := s'
  have e : o' = s.os := ho
  subst e
  exact I.call (g' := g') (t' := t') (d' := d') u hok hg hch
end

/-! ### the judgements -/
/-- an exception: its class, its own dict's address (where it has one), the abstract heap behind it -/
abbrev XK := Value → Option Addr → Hp → Prop
abbrev St := List (Option V)
abbrev VK := V → Hp → Prop
/-- an expression's reading; a test's; an argument list's -/
abbrev TE := St → Hp → VK → Prop
abbrev TT := St → Hp → (Bool → Hp → Prop) → Prop
abbrev TA := St → Hp → (List V → Hp → Prop) → Prop
/-- what is wanted behind a statement -/
structure Ends where
  nx : St → Hp → Prop
  rt : VK
  bk : St → Hp → Prop := fun _ _ => False
  ct : St → Hp → Prop := fun _ _ => False
abbrev TS := Ends → St → Hp → Prop

def EP (X : Cx) (pins : List (Addr × Obj)) (σ : St) (Q : VK) (u : Value) (s' : Shared) : Prop := ∃ v H', Inv X pins σ H' s' ∧ RelV v u ∧ Q v H'
def TP (X : Cx) (pins : List (Addr × Obj)) (σ : St) (Q : Bool → Hp → Prop) (b : Bool) (s' : Shared) : Prop := ∃ H', Inv X pins σ H' s' ∧ Q b H'
def AP (X : Cx) (pins : List (Addr × Obj)) (σ : St) (Q : List V → Hp → Prop) (us : List Value) (s' : Shared) : Prop := ∃ vs H', Inv X pins σ H' s' ∧ Vals vs us ∧ Q vs H'
def SP (X : Cx) (pins : List (Addr × Obj)) (D : Ends) (f : Flow) (s' : Shared) : Prop :=
  match f with
  | .next => ∃ σ' H', Inv X pins σ' H' s' ∧ D.nx σ' H'
  | .brk => ∃ σ' H', Inv X pins σ' H' s' ∧ D.bk σ' H'
  | .cont => ∃ σ' H', Inv X pins σ' H' s' ∧ D.ct σ' H'
  | .ret u => ∃ v σ' H', Inv X pins σ' H' s' ∧ RelV v u ∧ D.rt v H'

def PE (X : Cx) (e : Expr) (t : TE) : Prop :=
  ∀ (pins : List (Addr × Obj)) (s : Shared) (σ : St) (H : Hp) (Q : VK), Inv X pins σ H s → t σ H Q → wpAny (model X.prog X.w) X.A (eval e X.env) (EP X pins σ Q) X.xe s
def PT (X : Cx) (e : Expr) (t : TT) : Prop :=
  ∀ (pins : List (Addr × Obj)) (s : Shared) (σ : St) (H : Hp) (Q : Bool → Hp → Prop), Inv X pins σ H s → t σ H Q → wpAny (model X.prog X.w) X.A (isTrue e X.env (eval e X.env)) (TP X pins σ Q) X.xe s
/-- a test whatever its 'whole' is (and, or) -/
def PW (X : Cx) (e : Expr) (t : TT) : Prop :=
  ∀ (whole : Sem Value) (pins : List (Addr × Obj)) (s : Shared) (σ : St) (H : Hp) (Q : Bool → Hp → Prop), Inv X pins σ H s → t σ H Q → wpAny (model X.prog X.w) X.A (isTrue e X.env whole) (TP X pins σ Q) X.xe s
theorem PW.pt {X : Cx} {e : Expr} {t : TT} (h : PW X e t) : PT X e t := h _
/-- an argument list (no star), from the left -/
def PA (X : Cx) (es : List Expr) (t : TA) : Prop :=
  ∀ (pos : Pos) (pins : List (Addr × Obj)) (s : Shared) (σ : St) (H : Hp) (Q : List V → Hp → Prop), Inv X pins σ H s → t σ H Q → wpAny (model X.prog X.w) X.A (spliced (backTo pos (starEach es X.env))) (AP X pins σ Q) X.xe s
def PS (X : Cx) (st : Stmt) (t : TS) : Prop :=
  ∀ (pins : List (Addr × Obj)) (s : Shared) (σ : St) (H : Hp) (D : Ends), Inv X pins σ H s → t D σ H → wpAny (model X.prog X.w) X.A (exec st X.env) (SP X pins D) X.xe s
def PSs (X : Cx) (st : List Stmt) (t : TS) : Prop :=
  ∀ (pins : List (Addr × Obj)) (s : Shared) (σ : St) (H : Hp) (D : Ends), Inv X pins σ H s → t D σ H → wpAny (model X.prog X.w) X.A (execs st X.env) (SP X pins D) X.xe s
/-- weaken the end -/
theorem thn {α : Type} {t : Sem α} {Q Q' : α → Shared → Prop} {M : Model} {A : Around} {E : Value → Shared → Prop} {s : Shared} (h : wpAny M A t Q E s) (hQ : ∀ a s, Q a s → Q' a s) : wpAny M A t Q' E s := wpAny_mono h hQ fun _ _ x => x
end L2

namespace L2
open PySem PySem.Spec PyProof.Rows
section
variable {X : Cx}

/-- two expressions in a row -/
theorem bin {a b : Expr} {ta tb : TE} (ha : PE X a ta) (hb : PE X b tb) {pins : List (Addr × Obj)} {s : Shared} {σ : St} {H : Hp} {R : V → V → Hp → Prop} (I : Inv X pins σ H s) (h : ta σ H fun x H1 => tb σ H1 fun y H2 => R x y H2)
    {α : Type} {Q : α → Shared → Prop} {f : Value → Value → Sem α}
    (hf : ∀ v u s2 x y H2, Inv X pins σ H2 s2 → RelV x v → RelV y u → R x y H2 → wpAny (model X.prog X.w) X.A (f v u) Q X.xe s2) :
    wpAny (model X.prog X.w) X.A (eval a X.env) (fun v s₁ => wpAny (model X.prog X.w) X.A (eval b X.env) (fun u s₂ => wpAny (model X.prog X.w) X.A (f v u) Q X.xe s₂) X.xe s₁) X.xe s := by
  refine thn (ha pins s σ H _ I h) fun v s1 hw' => ?_
  obtain ⟨x, H1, I1, r1, q1⟩ := hw'
  refine thn (hb pins s1 σ H1 _ I1 q1) fun u s2 hw' => ?_
  obtain ⟨y, H2, I2, r2, q2⟩ := hw'
  exact hf v u s2 x y H2 I2 r1 r2 q2

/-! ### names and constants -/
def tVar (i : Nat) : TE := fun σ H Q => ∃ v, σ[i]? = some (some v) ∧ Q v H
def tC (v : V) : TE := fun _ H Q => Q v H
theorem pe_var {i : Nat} {x : Str} {pos : Pos} (hN : X.N[i]? = some x) (hv : Vis X.env.scope x) (hd : (x == ("__debug__" : Str)) = false := by decide) (hcd : (x == ("__classdict__" : Str)) = false := by decide) : PE X (.Name x pos) (tVar i) := by
  intro pins s σ H Q I h
  obtain ⟨v, e, h⟩ := h
  obtain ⟨m, hn, hl⟩ := I.loc
  obtain ⟨u, r, l⟩ := hl i x v hN e hv
  have fin : EP X pins σ Q u s := ⟨v, H, I, r, h⟩
  rcases l with ⟨hk, hm⟩ | ⟨hk, c, hc, hcell⟩
  · exact wpAny_Name (wpAny_loadName_local I.ok.kind hk hn hm fin) hd
  · rcases hk with hk | hk
    · exact wpAny_Name (wpAny_loadName_cell I.ok.kind hk hc hcell fin) hd
    · exact wpAny_Name (wpAny_loadName_free I.ok.kind hk hc hcell fin hcd) hd
theorem pe_int {i j pos} : PE X (.Constant (.int i) j pos) (tC (.int i)) := fun _ _ _ H _ I h => wpAny_Constant_int ⟨.int i, H, I.tok _, ⟨_, rfl⟩, h⟩
theorem pe_bl {b j pos} : PE X (.Constant (.bool b) j pos) (tC (.bl b)) := fun _ _ _ H _ I h => Constant_bool ⟨.bl b, H, I, rfl, h⟩
theorem pe_non {j pos} : PE X (.Constant .none j pos) (tC .non) := fun _ _ _ H _ I h => Constant_none ⟨.non, H, I, rfl, h⟩
/-- a global name of the def -/
def Gl (X : Cx) (x : Str) : Prop := X.env.kindOf x = some .globalImplicit
theorem ld_glob {E : Value → Shared → Prop} {pins : List (Addr × Obj)} {s : Shared} {σ : St} {H : Hp} {x : Str} {u : Value} {pos : Pos} {Q : Value → Shared → Prop} (I : Inv X pins σ H s) (hg : Gl X x) (hm : X.mg x = some u) (h : Q u s)
    (hd : (x == ("__debug__" : Str)) = false := by decide) : wpAny (model X.prog X.w) X.A (eval (.Name x pos) X.env) Q E s :=
  Calls.Name_function_global I.ok.kind hg (Calls.loadGlobal_global (by rw [I.ok.glob]; exact I.mod.glob.keeps I.bk) hm h) hd
theorem ld_blt {E : Value → Shared → Prop} {pins : List (Addr × Obj)} {s : Shared} {σ : St} {H : Hp} {x : Str} {u : Value} {pos : Pos} {Q : Value → Shared → Prop} (I : Inv X pins σ H s) (hg : Gl X x) (hm : X.mg x = none) (hv : bootBuiltins x = some u) (h : Q u s)
    (hn : x ≠ "__name__" := by decide) (hd : (x == ("__debug__" : Str)) = false := by decide) : wpAny (model X.prog X.w) X.A (eval (.Name x pos) X.env) Q E s := by
  obtain ⟨mb, h1, h2⟩ := I.mod.blt
  exact Calls.Name_function_global I.ok.kind hg (Calls.loadGlobal_builtin (by rw [I.ok.glob]; exact I.mod.glob.keeps I.bk) hm (by rw [I.ok.blt]; exact h1.keeps I.bk) ((h2 x hn).trans hv) h) hd
theorem pe_bltn {x : Str} {v : V} {u : Value} {pos : Pos} (hg : Gl X x) (hm : X.mg x = none) (hv : bootBuiltins x = some u) (r : RelV v u) (hn : x ≠ "__name__" := by decide) (hd : (x == ("__debug__" : Str)) = false := by decide) : PE X (.Name x pos) (tC v) :=
  fun _ _ _ H _ I h => ld_blt I hg hm hv ⟨v, H, I, r, h⟩ hn hd

variable {a b : Expr} {ta tb : TE} {pos : Pos}
/-! ### comparisons -/
def PC (X : Cx) (op : CmpOp) (a b : Expr) (t : TE) : Prop :=
  ∀ (pins : List (Addr × Obj)) (s : Shared) (σ : St) (H : Hp) (Q : VK), Inv X pins σ H s → t σ H Q →
    wpAny (model X.prog X.w) X.A (eval a X.env) (fun v s₁ => wpAny (model X.prog X.w) X.A (eval b X.env) (fun u s₂ => wpAny (model X.prog X.w) X.A (compareOp op v u) (EP X pins σ Q) X.xe s₂) X.xe s₁) X.xe s
theorem nobehind (b : Expr) {op : CmpOp} (h : op ≠ .In) (h2 : op ≠ .NotIn) : behindInMarks op b = false := by
  have e1 : (op == CmpOp.In) = false := by cases op <;> first | rfl | exact absurd rfl h
  have e2 : (op == CmpOp.NotIn) = false := by cases op <;> first | rfl | exact absurd rfl h2
  cases b <;> simp [behindInMarks, e1, e2]
theorem RelV.none_iff {x : V} {v : Value} (r : RelV x v) : (v == Value.none) = decide (x = .non) := by
  cases x with
  | non => cases r; rfl
  | bl _ => cases r; rfl
  | int _ => obtain ⟨t, rfl⟩ := r; rfl
  | str _ => obtain ⟨t, rfl⟩ := r; rfl
  | byt _ => obtain ⟨t, rfl⟩ := r; rfl
  | flt _ => obtain ⟨t, rfl⟩ := r; rfl
  | ref _ => cases r; rfl
  | ty _ => cases r; rfl
/-- a comparison as a value, as a test -/
def tB (t : TE) : TT := fun σ H Q => t σ H fun x H1 => ∃ c, x = .bl c ∧ Q c H1
theorem pt_cmp {op : CmpOp} {t : TE} (h : PC X op a b t) (h1 : behindInMarks op b = false := by first | exact nobehind _ (by decide) (by decide) | rfl) : PT X (.Compare a [op] [b] pos) (tB t) := by
  intro pins s σ H Q I hw
  refine wpAny_isTrue_Compare1 (thn (h pins s σ H _ I hw) fun v s1 h1 => thn h1 fun u s2 h2 => thn h2 fun c s3 hw' => ?_) h1
  obtain ⟨x, H1, I1, r1, q1⟩ := hw'
  obtain ⟨d, rfl, q⟩ := q1
  cases r1
  exact wpAny_truthy_bool ⟨H1, I1, q⟩
/-- an expression whose value is a bool, as a test -/
theorem pt_val {e : Expr} {t : TE} (h : PE X e t) (he : ∀ whole, isTrue e X.env whole = (do let v ← whole; standAt e.pos; holding [v] (truthy v)) := by intro _; rfl) : PT X e (tB t) := by
  intro pins s σ H Q I hw
  refine isTrue_plain (thn (h pins s σ H _ I hw) fun v s1 ⟨x, H1, I1, r1, q1⟩ => ?_) (he _)
  obtain ⟨d, rfl, q⟩ := q1
  cases r1
  exact wpAny_truthy_bool ⟨H1, I1, q⟩

/-! ### and, or, not -/
variable {tA tB' : TT} {rest : List Expr}
def tAnd (t u : TT) : TT := fun σ H Q => t σ H fun c H1 => if c = true then u σ H1 Q else Q false H1
def tOr (t u : TT) : TT := fun σ H Q => t σ H fun c H1 => if c = true then Q true H1 else u σ H1 Q
def tNot (t : TT) : TT := fun σ H Q => t σ H fun c H1 => Q (!c) H1
theorem pw_and1 (ha : PT X a tA) : PW X (.BoolOp .And [a] pos) tA := by
  intro wh pins s σ H Q I h
  refine isTrue_and (thn (ha pins s σ H Q I h) fun c s1 e => ?_)
  cases c with
  | true => exact isTrue_and_nil e
  | false => exact e
theorem pw_or1 (ha : PT X a tA) : PW X (.BoolOp .Or [a] pos) tA := by
  intro wh pins s σ H Q I h
  refine isTrue_or (thn (ha pins s σ H Q I h) fun c s1 e => ?_)
  cases c with
  | false => exact isTrue_or_nil e
  | true => exact e
theorem pw_and (ha : PT X a tA) (hb : PW X (.BoolOp .And (b :: rest) pos) tB') : PW X (.BoolOp .And (a :: b :: rest) pos) (tAnd tA tB') := by
  intro wh pins s σ H Q I h
  refine isTrue_and (thn (ha pins s σ H _ I h) fun c s1 ⟨H1, I1, q1⟩ => ?_)
  cases c with
  | true => exact hb wh pins s1 σ H1 Q I1 q1
  | false => exact ⟨H1, I1, q1⟩
theorem pw_or (ha : PT X a tA) (hb : PW X (.BoolOp .Or (b :: rest) pos) tB') : PW X (.BoolOp .Or (a :: b :: rest) pos) (tOr tA tB') := by
  intro wh pins s σ H Q I h
  refine isTrue_or (thn (ha pins s σ H _ I h) fun c s1 ⟨H1, I1, q1⟩ => ?_)
  cases c with
  | true => exact ⟨H1, I1, q1⟩
  | false => exact hb wh pins s1 σ H1 Q I1 q1
theorem pt_not (ha : PT X a tA) : PT X (.UnaryOp .Not a pos) (tNot tA) := by
  intro pins s σ H Q I h
  exact isTrue_not (ha pins s σ H (fun c H1 => Q (!c) H1) I h)
/-- .. as values (bools) -/
def tAndV (ta tb : TE) : TE := fun σ H Q => ta σ H fun x H1 => ∃ c, x = .bl c ∧ if c = true then tb σ H1 Q else Q (.bl false) H1
theorem pe_one {op} {t : TE} (h : PE X a t) : PE X (.BoolOp op [a] pos) t := fun pins s σ H Q I hw => BoolOp_one (h pins s σ H Q I hw)
theorem pe_and (ha : PE X a ta) (hb : PE X (.BoolOp .And (b :: rest) pos) tb) : PE X (.BoolOp .And (a :: b :: rest) pos) (tAndV ta tb) := by
  intro pins s σ H Q I h
  refine BoolOp_and (thn (ha pins s σ H _ I h) fun v s1 hw' => ?_)
  obtain ⟨x, H1, I1, r1, q1⟩ := hw'
  obtain ⟨c, rfl, q1⟩ := q1
  cases r1
  refine wpAny_truthy_bool ?_
  cases c with
  | true => exact hb pins s1 σ H1 Q I1 q1
  | false => exact ⟨.bl false, H1, I1, rfl, q1⟩
end
end L2

namespace L2
open PySem PySem.Spec PyProof.Rows

/-! ### a list, a tuple that is read: tracked, frozen, or an object of the module -/
def SqL (K : PySem.W.Frag) (H : Hp) (a : Addr) (xs : List V) : Prop :=
  Rd H a (.lst xs) ∨
    ∃ (o : Obj) (its : Array Value) (n : Nat), K.lookup a = some o ∧ o.cls = .type "list" ∧ o.dict = none ∧ o.data = .seq its n ∧ its.size ≤ sizeLine ∧ Vals xs its.toList
def SqT (K : PySem.W.Frag) (H : Hp) (a : Addr) (xs : List V) : Prop :=
  Rd H a (.tup xs) ∨
    ∃ (o : Obj) (its : Array Value) (n : Nat), K.lookup a = some o ∧ o.cls = .type "tuple" ∧ o.data = .seq its n ∧ its.size ≤ sizeLine ∧ Vals xs its.toList
def absV : Value → Option V
  | .none => some .non
  | .bool b => some (.bl b)
  | .int i _ => some (.int i)
  | .str x _ => some (.str x)
  | .bytes b _ => some (.byt b)
  | .float b _ => some (.flt b)
  | .ref a => some (.ref a)
  | .type n => some (.ty n)
  | _ => none
theorem RelV.abs {x : V} {u : Value} (r : RelV x u) : absV u = some x := by
  cases x with
  | non => cases r; rfl
  | bl _ => cases r; rfl
  | int _ => obtain ⟨t, rfl⟩ := r; rfl
  | str _ => obtain ⟨t, rfl⟩ := r; rfl
  | byt _ => obtain ⟨t, rfl⟩ := r; rfl
  | flt _ => obtain ⟨t, rfl⟩ := r; rfl
  | ref _ => cases r; rfl
  | ty _ => cases r; rfl
theorem RelV.inj {x y : V} {u : Value} (r : RelV x u) (q : RelV y u) : x = y := Option.some.inj (r.abs.symm.trans q.abs)
theorem Vals.inj {xs ys : List V} {us : List Value} (h : Vals xs us) (h' : Vals ys us) : xs = ys := by
  induction h generalizing ys with
  | nil => cases h'; rfl
  | cons r t ih =>
    cases h' with
    | cons r' t' => rw [r.inj r', ih t']
section
variable {X : Cx} {pins : List (Addr × Obj)} {σ : St} {H : Hp} {s : Shared} {a : Addr} {xs ys : List V}
theorem SqL.of {K : PySem.W.Frag} (h : H a = some (.lst xs)) : SqL K H a xs := .inl (.inl h)
theorem SqT.of {K : PySem.W.Frag} (h : H a = some (.tup xs)) : SqT K H a xs := .inl (.inl h)
theorem Inv.list (I : Inv X pins σ H s) (h : SqL X.K H a xs) : ∃ its : List Value, Vals xs its ∧ PlainL s.heap a its.toArray ∧ xs.length ≤ sizeLine := by
  rcases h with h | ⟨o, its, n, hk, hc, hd, hs, hz, r⟩
  · obtain ⟨z, its, n, r, e⟩ := h.ok I.hok
    exact ⟨its, r, ⟨_, n, e, rfl, rfl, rfl⟩, z⟩
  · refine ⟨its.toList, r, ⟨o, n, I.kIn a o hk, hc, hd, by simpa using hs⟩, ?_⟩
    have e := r.length
    simp only [Array.length_toList] at e
    omega
theorem Inv.tuple (I : Inv X pins σ H s) (h : SqT X.K H a xs) : ∃ its : List Value, Vals xs its ∧ IsTup s.heap a its.toArray ∧ xs.length ≤ sizeLine := by
  rcases h with h | ⟨o, its, n, hk, hc, hs, hz, r⟩
  · obtain ⟨z, its, r, p⟩ := h.ok I.hok
    exact ⟨its, r, p, z⟩
  · refine ⟨its.toList, r, ⟨o, I.kIn a o hk, hc, n, by simpa using hs⟩, ?_⟩
    have e := r.length
    simp only [Array.length_toList] at e
    omega
theorem Inv.list_inj (I : Inv X pins σ H s) (h : SqL X.K H a xs) (h' : SqL X.K H a ys) : xs = ys := by
  obtain ⟨its, r, ⟨o, n, e, _, _, d⟩, _⟩ := I.list h
  obtain ⟨its', r', ⟨o', n', e', _, _, d'⟩, _⟩ := I.list h'
  rw [e] at e'; cases e'
  rw [d] at d'
  injection d' with d1 _
  have : its = its' := by simpa using congrArg Array.toList d1
  subst this
  exact r.inj r'
theorem Inv.tuple_inj (I : Inv X pins σ H s) (h : SqT X.K H a xs) (h' : SqT X.K H a ys) : xs = ys := by
  obtain ⟨its, r, ⟨o, e, _, n, d⟩, _⟩ := I.tuple h
  obtain ⟨its', r', ⟨o', e', _, n', d'⟩, _⟩ := I.tuple h'
  rw [e] at e'; cases e'
  rw [d] at d'
  injection d' with d1 _
  have : its = its' := by simpa using congrArg Array.toList d1
  subst this
  exact r.inj r'
end

/-! ### another wish about exceptions -/
abbrev Cx.wish (X : Cx) (E : Value → Shared → Prop) : Cx := { X with xe := E }
/-- no exception leaves -/
abbrev Cx.nox (X : Cx) : Cx := X.wish fun _ _ => False
theorem Cx.Ok.wish {X : Cx} (ok : X.Ok) (E : Value → Shared → Prop) : (X.wish E).Ok :=
  ⟨ok.mod, ok.kind, ok.glob, ok.blt, ok.above, ok.inj, ok.has, ok.cab, ok.hd, ok.frames, ok.stk, ok.exf, ok.bs, ok.bsz, ok.noex, ok.exfs, ok.funs, ok.frf⟩
theorem Cx.Ok.unwish {X : Cx} {E : Value → Shared → Prop} (ok : (X.wish E).Ok) : X.Ok :=
  ⟨ok.mod, ok.kind, ok.glob, ok.blt, ok.above, ok.inj, ok.has, ok.cab, ok.hd, ok.frames, ok.stk, ok.exf, ok.bs, ok.bsz, ok.noex, ok.exfs, ok.funs, ok.frf⟩
section
variable {X : Cx} {pins : List (Addr × Obj)} {σ : St} {H : Hp} {s : Shared} {E : Value → Shared → Prop}
theorem Inv.wish (I : Inv X pins σ H s) (E : Value → Shared → Prop) : Inv (X.wish E) pins σ H s := ⟨I.ok.wish E, I.os, I.bare, I.base, I.loc, I.cell, I.free, I.freeC, I.pin, I.hok, I.len⟩
theorem Inv.unwish (I : Inv (X.wish E) pins σ H s) : Inv X pins σ H s := ⟨I.ok.unwish, I.os, I.bare, I.base, I.loc, I.cell, I.free, I.freeC, I.pin, I.hok, I.len⟩
theorem SP.unwish {D : Ends} {f : Flow} {s' : Shared} (h : SP (X.wish E) pins D f s') : SP X pins D f s' := by
  cases f with
  | next => obtain ⟨σ', H', I, q⟩ := h; exact ⟨σ', H', I.unwish, q⟩
  | brk => obtain ⟨σ', H', I, q⟩ := h; exact ⟨σ', H', I.unwish, q⟩
  | cont => obtain ⟨σ', H', I, q⟩ := h; exact ⟨σ', H', I.unwish, q⟩
  | ret u => obtain ⟨v, σ', H', I, r, q⟩ := h; exact ⟨v, σ', H', I.unwish, r, q⟩
theorem PE.nox {e : Expr} {t : TE} (h : PE X.nox e t) : PE X e t := fun pins s σ H Q I hw =>
  wpAny_mono (h pins s σ H Q (I.wish _) hw) (fun _ _ ⟨v, H', I', r, q⟩ => ⟨v, H', I'.unwish, r, q⟩) fun _ _ z => False.elim z
theorem PT.nox {e : Expr} {t : TT} (h : PT X.nox e t) : PT X e t := fun pins s σ H Q I hw =>
  wpAny_mono (h pins s σ H Q (I.wish _) hw) (fun _ _ ⟨H', I', q⟩ => ⟨H', I'.unwish, q⟩) fun _ _ z => False.elim z
theorem PSs.nox {st : List Stmt} {t : TS} (h : PSs X.nox st t) : PSs X st t := fun pins s σ H D I hw =>
  wpAny_mono (h pins s σ H D (I.wish _) hw) (fun _ _ q => q.unwish) fun _ _ z => False.elim z
end

/-! ### blocks and small statements -/
section
variable {X : Cx} {st : Stmt} {rest : List Stmt} {t u : TS} {e : Expr} {te : TE} {pos : Pos}
def tNext : TS := fun D σ H => D.nx σ H
def tSeq (t u : TS) : TS := fun D σ H => t { D with nx := u D } σ H
theorem pss_nil : PSs X [] tNext := fun _ _ σ H _ I h => wpAny_execs_nil ⟨σ, H, I, h⟩
theorem pss_cons (h1 : PS X st t) (h2 : PSs X rest u) : PSs X (st :: rest) (tSeq t u) := by
  intro pins s σ H D I h
  refine wpAny_execs_cons (thn (h1 pins s σ H { D with nx := u D } I h) fun f s1 q => ?_)
  cases f with
  | next =>
    obtain ⟨σ', H', I', q⟩ := q
    exact h2 pins s1 σ' H' D I' q
  | ret v => exact q
  | brk => exact q
  | cont => exact q
theorem pss_one (h1 : PS X st t) : PSs X [st] t := by
  intro pins s σ H D I h
  refine wpAny_execs_cons (thn (h1 pins s σ H D I h) fun f s1 q => ?_)
  cases f with
  | next => exact wpAny_execs_nil q
  | ret v => exact q
  | brk => exact q
  | cont => exact q
/-- in a def's body nothing is shown -/
theorem Inv.quiet {pins : List (Addr × Obj)} {σ : St} {H : Hp} {s : Shared} (I : Inv X pins σ H s) : interactive X.env = false := by simp [interactive, I.ok.kind]
/-- an expression whose value is dropped -/
def tDrop (te : TE) : TS := fun D σ H => te σ H fun _ H1 => D.nx σ H1
theorem ps_expr (he : PE X e te) (hs : swapsWith e none pos.line X.env = pure false := by rfl) : PS X (.Expr e pos) (tDrop te) := by
  intro pins s σ H D I h
  exact wpAny_Expr_any (thn (he pins s σ H _ I h) fun v s1 ⟨x, H1, I1, r1, q1⟩ => ⟨σ, H1, I1, q1⟩) I.quiet hs
def tRet (te : TE) : TS := fun D σ H => te σ H D.rt
theorem ps_ret (he : PE X e te) : PS X (.Return (some e) pos) (tRet te) := by
  intro pins s σ H D I h
  exact wpAny_Return_some (thn (he pins s σ H _ I h) fun v s1 ⟨x, H1, I1, r1, q1⟩ => ⟨x, σ, H1, I1, r1, q1⟩)
def tIfS (c : TT) (t u : TS) : TS := fun D σ H => c σ H fun b H1 => if b = true then t D σ H1 else u D σ H1
theorem ps_if {c : Expr} {a b : List Stmt} {tc : TT} (hc : PT X c tc) (ha : PSs X a t) (hb : PSs X b u) : PS X (.If c a b pos) (tIfS tc t u) := by
  intro pins s σ H D I h
  refine wpAny_If (thn (hc pins s σ H _ I h) fun d s1 ⟨H1, I1, q1⟩ => ?_)
  cases d with
  | true => exact ha pins s1 σ H1 D I1 q1
  | false => exact hb pins s1 σ H1 D I1 q1
end

/-! ### targets -/
abbrev TG := V → St → Hp → (St → Hp → Prop) → Prop
abbrev TGs := List V → St → Hp → (St → Hp → Prop) → Prop
def PG (X : Cx) (target : Expr) (t : TG) : Prop :=
  ∀ (pins : List (Addr × Obj)) (s : Shared) (σ : St) (H : Hp) (v : V) (u : Value) (Q : St → Hp → Prop), Inv X pins σ H s → RelV v u → t v σ H Q →
    wpAny (model X.prog X.w) X.A (assign target X.env u) (fun _ s' => ∃ σ' H', Inv X pins σ' H' s' ∧ Q σ' H') X.xe s
/-- several targets, one after another -/
def PGs (X : Cx) (ts : List Expr) (t : TGs) : Prop :=
  ∀ (pins : List (Addr × Obj)) (s : Shared) (σ : St) (H : Hp) (vs : List V) (us : List Value) (Q : St → Hp → Prop), Inv X pins σ H s → Vals vs us → t vs σ H Q →
    wpAny (model X.prog X.w) X.A (assignInOrder ((assignEach ts X.env).map (·.2)) us) (fun _ s' => ∃ σ' H', Inv X pins σ' H' s' ∧ Q σ' H') X.xe s
/-- o[i] = v, by values -/
abbrev TSet := V → V → V → Hp → (Hp → Prop) → Prop
def PSet (X : Cx) (t : TSet) : Prop :=
  ∀ (pins : List (Addr × Obj)) (s : Shared) (σ : St) (H : Hp) (o i v : V) (ov iv u : Value) (Q : Hp → Prop), Inv X pins σ H s → RelV o ov → RelV i iv → RelV v u → t o i v H Q →
    wpAny (model X.prog X.w) X.A (setItem ov iv u) (fun _ s' => ∃ H', Inv X pins σ H' s' ∧ Q H') X.xe s
section
variable {X : Cx} {pos : Pos}
def gName (i : Nat) : TG := fun v σ H Q => Q (σ.set i (some v)) H
theorem pg_name {i : Nat} {x : Str} (hN : X.N.Nodup) (hi : X.N[i]? = some x) (hx : Loc X.env.scope x) (hf : X.fn x = true ∨ X.env.scope.names.lookup x = some .local := by first | exact .inl rfl | exact .inr rfl | assumption) : PG X (.Name x pos) (gName i) := by
  intro pins s σ H v u Q I r h
  exact wpAny_assign_Name (store_ok I hN hi hx r (fun s' I' => ⟨_, H, I', h⟩) hf)
def gNil : TGs := fun vs σ H Q => vs = [] ∧ Q σ H
def gCons (t : TG) (u : TGs) : TGs := fun vs σ H Q => ∃ v r, vs = v :: r ∧ t v σ H fun σ' H' => u r σ' H' Q
theorem pgs_nil : PGs X [] gNil := by
  intro pins s σ H vs us Q I r h
  obtain ⟨e, h⟩ := h
  subst e
  cases r
  exact assignInOrder_nil ⟨σ, H, I, h⟩
theorem pgs_cons {e : Expr} {es : List Expr} {t : TG} {u : TGs} (h1 : PG X e t) (h2 : PGs X es u)
    (hs : (assignEach (e :: es) X.env).map (·.2) = assign e X.env :: (assignEach es X.env).map (·.2) := by rfl) : PGs X (e :: es) (gCons t u) := by
  intro pins s σ H vs us Q I r h
  obtain ⟨v, vr, e1, h⟩ := h
  subst e1
  cases r with
  | cons r rr =>
    rw [hs]
    refine assignInOrder_cons (thn (h1 pins s σ H _ _ _ I r h) fun _ s1 hw' => ?_)
    obtain ⟨σ1, H1, I1, q1⟩ := hw'
    exact h2 pins s1 σ1 H1 _ _ Q I1 rr q1
/-- (a, b, ..) = a tuple of that length -/
def gTup (K : PySem.W.Frag) (n : Nat) (t : TGs) : TG := fun v σ H Q => ∃ a xs, v = .ref a ∧ SqT K H a xs ∧ xs.length = n ∧ t xs σ H Q
theorem pg_tup {es : List Expr} {k : Nat} {t : TGs} {n : Nat} (hc : X.calm = true) (h : PGs X es t)
    (hn : (assignEach es X.env).length = n := by rfl) (hst : (assignEach es X.env).findIdx? (·.1) = none := by rfl) : PG X (.Tuple es k pos) (gTup X.K n t) := by
  intro pins s σ H v u Q I r hw
  obtain ⟨a, xs, e1, hq, hl, hw⟩ := hw
  subst e1
  cases r
  obtain ⟨its, rv, ht, hz⟩ := I.tuple hq
  refine assign_Tuple_tuple (I.ok.hd hc) ht (by simp [hn, ← hl, rv.length]) hst fun h' hx => ?_
  have I1 : Inv X pins σ H { s with heap := h' } := I.kept (t' := s.toks) fun b o e => hx b o (Nat.ne_of_lt (Heap.lt_size e)) e
  exact h pins _ σ H xs _ Q I1 (by simpa using rv) hw
/-- o[i] = .. -/
def gSub (to ti : TE) (t : TSet) : TG := fun v σ H Q => to σ H fun o H1 => ti σ H1 fun i H2 => t o i v H2 fun H3 => Q σ H3
theorem pg_sub {o i : Expr} {to ti : TE} {t : TSet} (ho : PE X o to) (hi : PE X i ti) (hs : PSet X t)
    (ha : ∀ v, assign (.Subscript o i pos) X.env v = (do
      let ov ← holding [v] (eval o X.env)
      let iv ← holding [v, ov] (eval i X.env)
      standAt pos
      holding [v, ov, iv] (setItem ov iv v)
      release [v, ov, iv] []) := by intro _; rfl) : PG X (.Subscript o i pos) (gSub to ti t) := by
  intro pins s σ H v u Q I r h
  rw [ha]
  refine wpAny_bind (wpAny_holding (thn (ho pins s σ H _ I h) fun ov s1 hw' => ?_))
  obtain ⟨x, H1, I1, r1, q1⟩ := hw'
  refine wpAny_bind (wpAny_holding (thn (hi pins s1 σ H1 _ I1 q1) fun iv s2 hw' => ?_))
  obtain ⟨y, H2, I2, r2, q2⟩ := hw'
  refine wpAny_bind (wpAny_standAt (wpAny_bind (wpAny_holding (thn (hs pins s2 σ H2 x y v ov iv u _ I2 r1 r2 r q2) fun _ s3 ⟨H3, I3, q3⟩ => ?_))))
  exact wpAny_release ⟨σ, H3, I3, q3⟩
/-- target = value -/
def tAsg (te : TE) (g : TG) : TS := fun D σ H => te σ H fun x H1 => g x σ H1 D.nx
theorem ps_asg {tg e : Expr} {te : TE} {g : TG} (he : PE X e te) (hg : PG X tg g) (hs : swapsWithSole [tg] e pos.line X.env = pure false := by rfl) (hw : swappedStores [tg] e X.env = pure none := by rfl)
    (h1 : (assignEach [tg] X.env).map (·.2) = [assign tg X.env] := by rfl) : PS X (.Assign [tg] e pos) (tAsg te g) := by
  intro pins s σ H D I h
  refine wpAny_Assign_stores (thn (he pins s σ H _ I h) fun v s1 hw' => ?_) hs hw
  obtain ⟨x, H1, I1, r1, q1⟩ := hw'
  rw [h1]
  exact thn (hg pins s1 σ H1 x v _ I1 r1 q1) fun _ s2 q => q
/-- name = value -/
theorem ps_set {i : Nat} {x : Str} {e : Expr} {te : TE} {pos' : Pos} (hN : X.N.Nodup) (hi : X.N[i]? = some x) (hx : Loc X.env.scope x) (he : PE X e te) (hs : swapsWith e (some (.Name x pos')) pos.line X.env = pure false := by rfl) (hf : X.fn x = true ∨ X.env.scope.names.lookup x = some .local := by first | exact .inl rfl | exact .inr rfl | assumption) :
    PS X (.Assign [.Name x pos'] e pos) (tAsg te (gName i)) := by
  intro pins s σ H D I h
  refine wpAny_Assign_Name (thn (he pins s σ H _ I h) fun v s1 hw' => ?_) hs
  obtain ⟨y, H1, I1, r1, q1⟩ := hw'
  exact store_ok I1 hN hi hx r1 (fun s2 I2 => ⟨_, H1, I2, q1⟩) hf
end

/-! ### while -/
section
variable {X : Cx} {pos : Pos}
/-- the invariant W with its measure -/
def tWhile (c : TT) (tb : TS) : TS := fun D σ H => ∃ W : Nat → St → Hp → Prop, (∃ m, W m σ H) ∧ ∀ m σ H, W m σ H →
  c σ H fun b H1 => if b = true then ∃ N : St → Hp → Prop, (∀ σ' H', N σ' H' → ∃ m', m' < m ∧ W m' σ' H') ∧ tb { D with nx := N, ct := N, bk := D.nx } σ H1 else D.nx σ H1
theorem ps_while {c : Expr} {body : List Stmt} {tc : TT} {tb : TS} (hp : PassesOwn (model X.prog X.w) X.A X.env X.xe) (hc : PT X c tc) (hb : PSs X body tb) : PS X (.While c body [] pos) (tWhile tc tb) := by
  intro pins s σ H D I h
  obtain ⟨W, ⟨m0, w0⟩, turn⟩ := h
  refine wpAny_While (codeAny_whileLoop (fun n s' => ∃ σ' H', Inv X pins σ' H' s' ∧ W n σ' H') ?_ m0 ⟨σ, H, I, w0⟩)
  rintro n s1 ⟨σ1, H1, I1, w1⟩
  refine wpAny_passesOwn hp (thn (hc pins s1 σ1 H1 _ I1 (turn n σ1 H1 w1)) fun b s2 ⟨H2, I2, q2⟩ => ?_)
  cases b with
  | true =>
    obtain ⟨N, hN, q2⟩ := q2
    rw [if_pos rfl]
    refine wpAny_passesOwn hp (thn (hb pins s2 σ1 H2 _ I2 q2) fun f s3 q3 => ?_)
    cases f with
    | next =>
      obtain ⟨σ3, H3, I3, n3⟩ := q3
      obtain ⟨m', hm, w3⟩ := hN σ3 H3 n3
      exact ⟨m', hm, σ3, H3, I3, w3⟩
    | cont =>
      obtain ⟨σ3, H3, I3, n3⟩ := q3
      obtain ⟨m', hm, w3⟩ := hN σ3 H3 n3
      exact ⟨m', hm, σ3, H3, I3, w3⟩
    | brk => exact q3
    | ret v => exact q3
  | false =>
    rw [if_neg Bool.false_ne_true]
    exact wpAny_execs_nil ⟨σ1, H2, I2, q2⟩
end

/-! ### what a loop or a comprehension walks -/
/-- at turn i: it yields x (the heap may grow), or it stops -/
structure It where
  go : Nat → Hp → Prop
  yld : Nat → Hp → V → Hp → Prop
  stop : Nat → Hp → Prop
/-- the iterator's own objects may turn: they are not the frame's, not pinned, younger than the entry (or a comprehension's own) -/
def FpOk (X : Cx) (pins : List (Addr × Obj)) (H : Hp) (b : Addr) : Prop :=
  H b = none ∧ b ≠ X.env.locals ∧ b ∉ X.fs ∧ (b ∈ X.ex ∨ X.s₀.heap.objs.size ≤ b) ∧ (∀ x c, X.env.cells.lookup x = some c → c ≠ b) ∧ ∀ p ∈ X.pn ++ pins, p.1 ≠ b
theorem Inv.fpOk {X : Cx} {pins : List (Addr × Obj)} {σ : St} {H H' : Hp} {s : Shared} {b : Addr} (I : Inv X pins σ H s) (hb : s.heap.objs.size ≤ b) (hn : H' b = none) : FpOk X pins H' b := by
  refine ⟨hn, Nat.ne_of_gt (Nat.lt_of_lt_of_le I.lt hb), I.nofs hb, .inr (Nat.le_trans I.sz hb), fun x c e z => ?_, fun p hp z => ?_⟩
  · obtain ⟨v, q⟩ := I.cell x c e
    exact absurd (Nat.lt_of_lt_of_le q.lt (by rw [z]; exact hb)) (Nat.lt_irrefl _)
  · exact absurd (Nat.lt_of_lt_of_le (Heap.lt_size (I.pin p hp).1) (by rw [z]; exact hb)) (Nat.lt_irrefl _)
structure Turn (P : Program) (w : World) (K : PySem.W.Frag) (tg : Expr) (J : It) (fp : List Addr) (it : Addr) (tn : Nat → Heap → Prop) : Prop where
  mem : it ∈ fp
  obj : ∀ i h, tn i h → ∀ b ∈ fp, ∃ o, h.get? b = some o ∧ ∀ v, o.data ≠ .cell v
  keep : ∀ i h h', tn i h → (∀ b ∈ fp, ∀ o, h.get? b = some o → h'.get? b = some o) → tn i h'
  item : ∀ (X : Cx), X.prog = P → X.w = w → X.K = K → X.calm = true → ∀ (i : Nat) (pins : List (Addr × Obj)) (s : Shared) (σ : St) (H : Hp) (E : Value → Shared → Prop), Inv X pins σ H s → (∀ b ∈ fp, FpOk X pins H b) → tn i s.heap → J.go i H →
    wpAny (model P w) X.A (pyNext (.ref it)) (fun r s1 => ∃ u, r = some u ∧
      wpAny (model P w) X.A (letOwnedTupleGo tg (.ref it) u) (fun _ s2 => ∃ x H', Inv X pins σ H' s2 ∧ RelV x u ∧ J.yld i H x H' ∧ tn (i + 1) s2.heap ∧ ∀ b ∈ fp, H' b = none) E s1) E s
  done : ∀ (X : Cx), X.prog = P → X.w = w → X.K = K → X.calm = true → ∀ (i : Nat) (pins : List (Addr × Obj)) (s : Shared) (σ : St) (H : Hp) (E : Value → Shared → Prop), Inv X pins σ H s → (∀ b ∈ fp, FpOk X pins H b) → tn i s.heap → J.stop i H →
    wpAny (model P w) X.A (pyNext (.ref it)) (fun r s1 => r = none ∧ Inv X pins σ H s1) E s
  self : ∀ (A : Around) (i : Nat) (s : Shared) (Q : Value → Shared → Prop) (E : Value → Shared → Prop), tn i s.heap → Q (.ref it) s → wpAny (model P w) A (pyIter (.ref it)) Q E s
abbrev TI := St → Hp → (It → Hp → Prop) → Prop
/-- an iterator has come -/
def PIE (X : Cx) (pins : List (Addr × Obj)) (σ : St) (tg : Expr) (R : It → Hp → Prop) (itv : Value) (s2 : Shared) : Prop :=
  ∃ (it : Addr) (fp : List Addr) (tn : Nat → Heap → Prop) (J : It) (H' : Hp), itv = .ref it ∧ Inv X pins σ H' s2 ∧ Turn X.prog X.w X.K tg J fp it tn ∧ tn 0 s2.heap ∧ (∀ b ∈ fp, FpOk X pins H' b) ∧ R J H'
def PI (X : Cx) (tg iter : Expr) (wi : TI) : Prop :=
  ∀ (pins : List (Addr × Obj)) (s : Shared) (σ : St) (H : Hp) (R : It → Hp → Prop), Inv X pins σ H s → wi σ H R →
    wpAny (model X.prog X.w) X.A (eval iter X.env) (fun v s1 => wpAny (model X.prog X.w) X.A (pyIter v) (PIE X pins σ tg R) X.xe s1) X.xe s

/-- the step ahead of the store is nothing for an iterator that keeps no tuple -/
theorem go_of {M : Model} {A : Around} {E : Value → Shared → Prop} {s : Shared} {tg : Expr} {it : Addr} {u : Value} {o : Obj} {n : String} {vs : Array Value} {Q : Unit → Shared → Prop} (ho : s.heap.get? it = some o) (hc : o.cls = .type n) (hd : o.data = .fields vs)
    (hn : ["enumerate", "zip", "dict_itemiterator", "dict_reverseitemiterator", "odict_iterator", "itertools.zip_longest", "itertools.pairwise"].contains n = false) (hQ : Q () s) : wpAny M A (letOwnedTupleGo tg (.ref it) u) Q E s := by
  unfold letOwnedTupleGo
  cases tg <;> first
    | exact wpAny_pure hQ
    | (cases u <;> first
        | exact wpAny_pure hQ
        | (refine wpAny_bind (wpAny_load ho ?_)
           rw [hc, hd]
           show wpAny M A (if (["enumerate", "zip", "dict_itemiterator", "dict_reverseitemiterator", "odict_iterator", "itertools.zip_longest", "itertools.pairwise"].contains n && vs[0]? == some (rawInt _)) = true then _ else _) Q E s
           rw [if_neg (by intro h; rw [hn, Bool.false_and] at h; cases h)]
           exact wpAny_pure hQ))

/-- the list at a, as it stands at each turn (a loop may append to it) -/
def Itl (K : PySem.W.Frag) (a : Addr) : It :=
  ⟨fun i H => ∃ xs x, SqL K H a xs ∧ xs[i]? = some x, fun i H x H' => H' = H ∧ ∀ xs, SqL K H a xs → xs[i]? = some x, fun i H => ∃ xs, SqL K H a xs ∧ xs.length ≤ i⟩
def Itt (K : PySem.W.Frag) (a : Addr) : It :=
  ⟨fun i H => ∃ xs x, SqT K H a xs ∧ xs[i]? = some x, fun i H x H' => H' = H ∧ ∀ xs, SqT K H a xs → xs[i]? = some x, fun i H => ∃ xs, SqT K H a xs ∧ xs.length ≤ i⟩
/-- lo, lo + 1, .. (n of them) -/
def Itr (lo : Int) (n : Nat) : It := ⟨fun i _ => i < n, fun i H x H' => H' = H ∧ x = .int (lo + i), fun i _ => n ≤ i⟩
theorem turn_list {P : Program} {w : World} {K : PySem.W.Frag} {tg : Expr} (a it : Addr) : Turn P w K tg (Itl K a) [it] it (fun i h => h.IsListIter it a i) where
  mem := by simp
  obj := fun i h st b hb => by
    have e : b = it := by simpa using hb
    subst e
    obtain ⟨o, e, c, d⟩ := st
    exact ⟨o, e, fun v z => by rw [d] at z; cases z⟩
  keep := fun i h h' st k => st.at fun o e => k it (by simp) o e
  item := by
    intro X hP hw hK hc i pins s σ H E I hf st hg
    subst hP hw hK
    obtain ⟨xs, x, hq, hx⟩ := hg
    obtain ⟨its, rv, p, hz⟩ := I.list hq
    obtain ⟨u, hu, ru⟩ := rv.get hx
    obtain ⟨f0, f1, f2, f3, f4, f5⟩ := hf it (by simp)
    refine wpAny_pyNext_list_item st p.isList (x := u) (by simpa using hu) fun h' st' sb => ?_
    have I1 : Inv X pins σ H { s with heap := h' } := I.turned (t' := s.toks) (fun b o hb e => (sb.2 b hb).trans e) f0 f1 f3 f4 f5
    obtain ⟨o, e, c, d⟩ := id st'
    exact ⟨u, rfl, go_of (s := { s with heap := h' }) e c d (by decide) ⟨x, H, I1, ru, ⟨rfl, fun ys hy => by rw [I.list_inj hy hq]; exact hx⟩, st', fun b hb => (hf b hb).1⟩⟩
  done := by
    intro X hP hw hK hc i pins s σ H E I hf st hg
    subst hP hw hK
    obtain ⟨xs, hq, hx⟩ := hg
    obtain ⟨its, rv, p, hz⟩ := I.list hq
    obtain ⟨f0, f1, f2, f3, f4, f5⟩ := hf it (by simp)
    have hl := rv.length
    exact wpAny_pyNext_list_end (I.ok.hd hc) st p.isList (by simp; omega) fun h' eb => ⟨rfl, I.turned (t' := s.toks) (fun b o hb e => eb b o hb e) f0 f1 f3 f4 f5⟩
  self := fun _ _ _ _ _ st h => wpAny_pyIter_listiter st h
theorem turn_range {P : Program} {w : World} {K : PySem.W.Frag} {tg : Expr} (it : Addr) (lo : Int) (n : Nat) : Turn P w K tg (Itr lo n) [it] it (fun i h => IsRangeIter h it (lo + (i : Nat) * 1) ((n : Int) - (i : Nat)) 1) where
  mem := by simp
  obj := fun i h st b hb => by
    have e : b = it := by simpa using hb
    subst e
    exact ⟨_, st, fun v z => by
      have z' : Data.fields _ = Data.cell v := z
      cases z'⟩
  keep := fun i h h' st k => k it (by simp) _ st
  item := by
    intro X hP hw hK hc i pins s σ H E I hf st hg
    subst hP hw hK
    obtain ⟨f0, f1, f2, f3, f4, f5⟩ := hf it (by simp)
    have W := Walks.range (prog := X.prog) (w := X.w) (I.ok.hd hc) it lo 1 n
    refine W.item i s _ _ hg st fun v h' tk hv st' kk => ?_
    obtain ⟨t, rfl⟩ := hv
    have I1 : Inv X pins σ H { s with heap := h', toks := tk } := I.turned (fun b o hb e => kk b o (by simpa using hb) e) f0 f1 f3 f4 f5
    refine ⟨_, rfl, go_of (s := { s with heap := h', toks := tk }) (n := "range_iterator") st' rfl rfl (by decide) ⟨.int (lo + i), H, I1, ⟨t, ?_⟩, ⟨rfl, rfl⟩, st', fun b hb => (hf b hb).1⟩⟩
    rw [Int.mul_one]
  done := by
    intro X hP hw hK hc i pins s σ H E I hf st hg
    subst hP hw hK
    obtain ⟨f0, f1, f2, f3, f4, f5⟩ := hf it (by simp)
    exact wpAny_pyNext_range_end (I.ok.hd hc) st (by have : n ≤ i := hg; omega) fun h' eb => ⟨rfl, I.turned (t' := s.toks) (fun b o hb e => eb b o hb e) f0 f1 f3 f4 f5⟩
  self := fun _ _ _ _ _ st h => wpAny_pyIter_rangeiter st h
end L2

namespace L2
open PySem PySem.Spec PyProof.Rows
section
variable {X : Cx} {tg : Expr}
def iList (K : PySem.W.Frag) (tl : TE) : TI := fun σ H R => tl σ H fun x H1 => ∃ a, x = .ref a ∧ (∃ xs, SqL K H1 a xs) ∧ R (Itl K a) H1
theorem pi_list {l : Expr} {tl : TE} (hl : PE X l tl) : PI X tg l (iList X.K tl) := by
  intro pins s σ H R I h
  refine thn (hl pins s σ H _ I h) fun v s1 hw' => ?_
  obtain ⟨x, H1, I1, r1, q1⟩ := hw'
  obtain ⟨a, e, ⟨xs, hq⟩, q⟩ := q1
  subst e
  cases r1
  obtain ⟨its, rv, p, hz⟩ := I1.list hq
  refine wpAny_pyIter_list p.isList ?_
  refine ⟨s1.heap.objs.size, [s1.heap.objs.size], _, _, H1, rfl, I1.kept (t' := s1.toks) fun b o e => Heap.get?_push_of_some _ e, turn_list a _, ⟨_, Heap.get?_push_size _ rfl, rfl, rfl⟩, fun b hb => ?_, q⟩
  have e : b = s1.heap.objs.size := by simpa using hb
  subst e
  exact I1.fpOk (Nat.le_refl _) (I1.hok.fresh (Nat.le_refl _))
/-- a range object just made, walked -/
theorem range_it {pins : List (Addr × Obj)} {σ : St} {H : Hp} {s : Shared} {R : It → Hp → Prop} {E : Value → Shared → Prop} {lo hi : Int} {t u v : Tok} {tk : Nat} (I : Inv X pins σ H s) (h1 : -(2 ^ 62) ≤ lo) (h2 : lo < 2 ^ 62) (h3 : -(2 ^ 62) ≤ hi) (h4 : hi < 2 ^ 62)
    (q : R (Itr lo (hi - lo).toNat) H) : wpAny (model X.prog X.w) X.A (pyIter (.ref s.heap.objs.size)) (PIE X pins σ tg R) E { s with heap := s.heap.push { cls := .type "range", data := .fields #[.int lo t, .int hi u, .int 1 v] }, toks := tk } := by
  refine wpAny_pyIter_range (IsRange.new ..) (small_one h1 h2 h3 h4) ?_
  have I1 : Inv X pins σ H { s with heap := s.heap.push { cls := .type "range", data := .fields #[.int lo t, .int hi u, .int 1 v] }, toks := tk } := I.kept fun b o e => Heap.get?_push_of_some _ e
  refine ⟨(s.heap.push { cls := .type "range", data := .fields #[.int lo t, .int hi u, .int 1 v] }).objs.size, [(s.heap.push { cls := .type "range", data := .fields #[.int lo t, .int hi u, .int 1 v] }).objs.size], _, _, H, rfl,
    I1.kept (t' := tk) fun b o e => Heap.get?_push_of_some _ e, turn_range _ lo (hi - lo).toNat, ?_, fun b hb => ?_, q⟩
  · have e1 : lo + ((0 : Nat) : Int) * 1 = lo := by simp
    have e2 : (((hi - lo).toNat : Nat) : Int) - ((0 : Nat) : Int) = Builtin.Range.rangeSize lo hi 1 := by rw [rangeSize_one]; split <;> omega
    show IsRangeIter _ _ (lo + ((0 : Nat) : Int) * 1) ((((hi - lo).toNat : Nat) : Int) - ((0 : Nat) : Int)) 1
    rw [e1, e2]
    exact Heap.get?_push_size _ rfl
  · have e : b = (s.heap.push { cls := .type "range", data := .fields #[.int lo t, .int hi u, .int 1 v] }).objs.size := by simpa using hb
    subst e
    exact I1.fpOk (Nat.le_refl _) (I1.hok.fresh (Nat.le_refl _))
def iRng1 (ta : TA) : TI := fun σ H R => ta σ H fun vs H1 => ∃ j : Int, vs = [.int j] ∧ -(2 ^ 62) ≤ j ∧ j < 2 ^ 62 ∧ R (Itr 0 j.toNat) H1
def iRng2 (ta : TA) : TI := fun σ H R => ta σ H fun vs H1 => ∃ i j : Int, vs = [.int i, .int j] ∧ (-(2 ^ 62) ≤ i ∧ i < 2 ^ 62 ∧ -(2 ^ 62) ≤ j ∧ j < 2 ^ 62) ∧ R (Itr i (j - i).toNat) H1
theorem pi_range1 {a : Expr} {ta : TA} {p pos : Pos} (hg : Gl X "range") (hm : X.mg "range" = none) (ha : PA X [a] ta) (hs : starEach [a] X.env = [(false, eval a X.env)] := by rfl) : PI X tg (.Call (.Name "range" p) [a] [] pos) (iRng1 ta) := by
  intro pins s σ H R I h
  refine Call_ (ld_blt I hg hm boot_range (PyProof.Rows.callWith_type1 (thn (ha pos pins s σ H _ I h) fun us s1 hw' => ?_) hs rfl))
  obtain ⟨vs, H1, I1, r1, q1⟩ := hw'
  obtain ⟨j, e, q1, q2, q⟩ := q1
  subst e
  cases r1 with
  | cons r rr =>
    cases rr
    obtain ⟨t, rfl⟩ := r
    exact call_range_1 (range_it I1 (by omega) (by omega) q1 q2 (by simpa using q))
theorem pi_range2 {a b : Expr} {ta : TA} {p pos : Pos} (hg : Gl X "range") (hm : X.mg "range" = none) (ha : PA X [a, b] ta) (hs : starEach [a, b] X.env = [(false, eval a X.env), (false, eval b X.env)] := by rfl) (hs2 : starEach [b] X.env = [(false, eval b X.env)] := by rfl) :
    PI X tg (.Call (.Name "range" p) [a, b] [] pos) (iRng2 ta) := by
  intro pins s σ H R I h
  refine Call_ (ld_blt I hg hm boot_range (PyProof.Rows.callWith_type1 (thn (ha pos pins s σ H _ I h) fun us s1 ⟨vs, H1, I1, r1, q1⟩ => ?_) (by rw [hs, hs2]) (by rw [hs2]; rfl)))
  obtain ⟨i, j, e, ⟨q1, q2, q3, q4⟩, q⟩ := q1
  subst e
  cases r1 with
  | cons r rr =>
    cases rr with
    | cons r' rr =>
      cases rr
      obtain ⟨t, rfl⟩ := r
      obtain ⟨t', rfl⟩ := r'
      exact call_range_2 (range_it I1 q1 q2 q3 q4 q)

/-! ### for -/
/-- W: the invariant by the turn and a measure; N: what the body is to reach -/
def tFor (wi : TI) (g : TG) (tb : TS) : TS := fun D σ H => wi σ H fun J H1 => ∃ W : Nat → Nat → St → Hp → Prop, (∃ m, W 0 m σ H1) ∧ ∀ i m σ H, W i m σ H →
  (J.stop i H ∧ D.nx σ H) ∨ (J.go i H ∧ ∃ N : St → Hp → Prop, (∀ σ' H', N σ' H' → ∃ m', m' < m ∧ W (i + 1) m' σ' H') ∧ ∀ x H', J.yld i H x H' → g x σ H' fun σ2 H2 => tb { D with nx := N, ct := N, bk := D.nx } σ2 H2)
/-- the records at fp as they stand -/
def pinsAt (fp : List Addr) (h : Heap) : List (Addr × Obj) := fp.filterMap fun b => (h.get? b).map fun o => (b, o)
theorem mem_pinsAt {fp : List Addr} {h : Heap} {b : Addr} {o : Obj} (hb : b ∈ fp) (e : h.get? b = some o) : (b, o) ∈ pinsAt fp h := List.mem_filterMap.mpr ⟨b, hb, by rw [e]; rfl⟩
theorem of_pinsAt {fp : List Addr} {h : Heap} {p : Addr × Obj} (hp : p ∈ pinsAt fp h) : p.1 ∈ fp ∧ h.get? p.1 = some p.2 := by
  obtain ⟨b, hb, e⟩ := List.mem_filterMap.mp hp
  cases q : h.get? b with
  | none => rw [q] at e; cases e
  | some o =>
    rw [q] at e
    have e' : (b, o) = p := Option.some.inj e
    subst e'
    exact ⟨hb, q⟩
theorem Inv.pinned {pins : List (Addr × Obj)} {σ : St} {H : Hp} {s : Shared} {fp : List Addr} (I : Inv X pins σ H s) (hf : ∀ b ∈ fp, FpOk X pins H b) (ho : ∀ b ∈ fp, ∃ o, s.heap.get? b = some o ∧ ∀ v, o.data ≠ .cell v) : Inv X (pins ++ pinsAt fp s.heap) σ H s :=
  I.pins_of fun p hp => (List.mem_append.mp hp).elim (fun z => I.pin p (List.mem_append_right _ z)) fun z => by
    obtain ⟨hb, e⟩ := of_pinsAt z
    obtain ⟨f0, f1, f2, _⟩ := hf p.1 hb
    obtain ⟨o, e', d⟩ := ho p.1 hb
    rw [e] at e'; cases e'
    exact ⟨e, f0, f1, f2, d⟩
theorem Inv.unpinned {pins pl : List (Addr × Obj)} {σ : St} {H : Hp} {s : Shared} (I : Inv X (pins ++ pl) σ H s) : Inv X pins σ H s := I.pins_of fun p hp => I.pin p (List.mem_append_right _ (List.mem_append_left _ hp))
theorem ps_for {iter : Expr} {body : List Stmt} {wi : TI} {g : TG} {tb : TS} {pos : Pos} (hp : PassesOwn (model X.prog X.w) X.A X.env X.xe) (hc : X.calm = true) (hi : PI X tg iter wi) (hg : PG X tg g) (hb : PSs X body tb)
    (hs : ∀ x, foldedSetIterable iter X.env x = pure x := by intro _; rfl) : PS X (.For tg iter body [] pos) (tFor wi g tb) := by
  intro pins s σ H D I h
  refine wpAny_For (thn (hi pins s σ H _ I h) fun v s1 h1 => thn h1 fun itv s2 h2 => ?_) hs
  obtain ⟨it, fp, tn, J, H2, e, I2, T, st2, f2, W, ⟨m0, w0⟩, turn⟩ := h2
  subst e
  -- what stays true of the iterator's objects through the loop
  have stat : ∀ {H' : Hp}, (∀ b ∈ fp, H' b = none) → ∀ b ∈ fp, FpOk X pins H' b := fun hn b hb => ⟨hn b hb, (f2 b hb).2⟩
  refine codeAny_forLoop_any (fun n s' => ∃ i σ' H', Inv X pins σ' H' s' ∧ tn i s'.heap ∧ (∀ b ∈ fp, H' b = none) ∧ W i n σ' H') ?_ m0 ⟨0, σ, H2, I2, st2, fun b hb => (f2 b hb).1, w0⟩
  rintro n s3 ⟨i, σ3, H3, I3, st3, fr3, w3⟩
  rcases turn i n σ3 H3 w3 with ⟨stop, qn⟩ | ⟨go, N, hN, step⟩
  · refine wpAny_passesOwn hp (thn (T.done X rfl rfl rfl hc i pins s3 σ3 H3 X.xe I3 (stat fr3) st3 stop) fun r s4 ⟨hr, I4⟩ => ?_)
    subst hr
    exact wpAny_execs_nil ⟨σ3, H3, I4, qn⟩
  · refine wpAny_passesOwn hp (thn (T.item X rfl rfl rfl hc i pins s3 σ3 H3 X.xe I3 (stat fr3) st3 go) fun r s4 ⟨u, hr, h4⟩ => ?_)
    subst hr
    refine wpAny_passesOwn hp (thn h4 fun _ s5 hw' => ?_)
    obtain ⟨x, H5, I5, r5, y5, st5, fr5⟩ := hw'
    have I5' := I5.pinned (stat fr5) (T.obj _ _ st5)
    refine wpAny_passesOwn hp (thn (hg _ s5 σ3 H5 x u _ I5' r5 (step x H5 y5)) fun _ s6 hw' => ?_)
    obtain ⟨σ6, H6, I6, q6⟩ := hw'
    refine wpAny_passesOwn hp (thn (hb _ s6 σ6 H6 _ I6 q6) fun f s7 q7 => ?_)
    have again : ∀ {σ7 : St} {H7 : Hp}, Inv X (pins ++ pinsAt fp s5.heap) σ7 H7 s7 → N σ7 H7 → ∃ m, m < n ∧ ∃ i σ' H', Inv X pins σ' H' s7 ∧ tn i s7.heap ∧ (∀ b ∈ fp, H' b = none) ∧ W i m σ' H' := fun {σ7 H7} I7 n7 => by
      obtain ⟨m', hm, w7⟩ := hN σ7 H7 n7
      refine ⟨m', hm, i + 1, σ7, H7, I7.unpinned, T.keep _ _ _ st5 fun b hb o e => (I7.pin (b, o) (List.mem_append_right _ (List.mem_append_right _ (mem_pinsAt hb e)))).1, fun b hb => ?_, w7⟩
      obtain ⟨o, e, d⟩ := T.obj _ _ st5 b hb
      exact (I7.pin (b, o) (List.mem_append_right _ (List.mem_append_right _ (mem_pinsAt hb e)))).2.1
    cases f with
    | next => obtain ⟨σ7, H7, I7, n7⟩ := q7; exact again I7 n7
    | cont => obtain ⟨σ7, H7, I7, n7⟩ := q7; exact again I7 n7
    | brk => obtain ⟨σ7, H7, I7, q7⟩ := q7; exact ⟨σ7, H7, I7.unpinned, q7⟩
    | ret v => obtain ⟨x7, σ7, H7, I7, r7, q7⟩ := q7; exact ⟨x7, σ7, H7, I7.unpinned, r7, q7⟩
end

end L2

namespace L2
open PySem PySem.Spec PyProof.Rows

abbrev R2 := V → V → Hp → VK → Prop
/-- a two-place operation on values: f is binaryOp op, inplaceOp op or compareOp op -/
def OpR (X : Cx) (f : Value → Value → Sem Value) (r : R2) : Prop :=
  ∀ (pins : List (Addr × Obj)) (s : Shared) (σ : St) (H : Hp) (x y : V) (v u : Value) (Q : VK), Inv X pins σ H s → RelV x v → RelV y u → r x y H Q →
    wpAny (model X.prog X.w) X.A (f v u) (EP X pins σ Q) X.xe s
/-- a one-place operation -/
def UnR (X : Cx) (f : Value → Sem Value) (r : V → Hp → VK → Prop) : Prop :=
  ∀ (pins : List (Addr × Obj)) (s : Shared) (σ : St) (H : Hp) (x : V) (v : Value) (Q : VK), Inv X pins σ H s → RelV x v → r x H Q →
    wpAny (model X.prog X.w) X.A (f v) (EP X pins σ Q) X.xe s
/-- a call of a value that is known (a builtin, a type) with values -/
def CallR (X : Cx) (f : Value) (r : List V → Hp → VK → Prop) : Prop :=
  ∀ (pins : List (Addr × Obj)) (s : Shared) (σ : St) (H : Hp) (xs : List V) (us : List Value) (Q : VK), Inv X pins σ H s → Vals xs us → r xs H Q →
    wpAny (model X.prog X.w) X.A (call f us) (EP X pins σ Q) X.xe s
def tOp (r : R2) (ta tb : TE) : TE := fun σ H Q => ta σ H fun x H1 => tb σ H1 fun y H2 => r x y H2 Q
def tUn (r : V → Hp → VK → Prop) (ta : TE) : TE := fun σ H Q => ta σ H fun x H1 => r x H1 Q
/-- ints in, under C, and a value out -/
def rI (C : Int → Int → Prop) (g : Int → Int → V) : R2 := fun x y H Q => ∃ i j, x = .int i ∧ y = .int j ∧ C i j ∧ Q (g i j) H
def rI0 (g : Int → Int → V) : R2 := fun x y H Q => ∃ i j, x = .int i ∧ y = .int j ∧ Q (g i j) H
def rU (g : Int → V) : V → Hp → VK → Prop := fun x H Q => ∃ i, x = .int i ∧ Q (g i) H

section
variable {X : Cx} {a b c : Expr} {ta tb tc : TE} {pos : Pos}

theorem binT (ha : PE X a ta) (hb : PE X b tb) {pins : List (Addr × Obj)} {s : Shared} {σ : St} {H : Hp} {R : V → V → Hp → Prop} (I : Inv X pins σ H s)
    (h : ta σ H fun x H1 => tb σ H1 fun y H2 => R x y H2) {Q : Value → Shared → Prop} {f : Value → Value → Sem Value}
    (hf : ∀ v u s2 x y H2, Inv X pins σ H2 s2 → RelV x v → RelV y u → R x y H2 → wpAny (model X.prog X.w) X.A (f v u) Q X.xe s2) :
    wpAny (model X.prog X.w) X.A (eval a X.env) (fun v s₁ => wpAny (model X.prog X.w) X.A (eval b X.env) (fun u s₂ => wpAny (model X.prog X.w) X.A (f v u) Q X.xe s₂) X.xe s₁) X.xe s := by
  refine thn (ha pins s σ H _ I h) fun v s1 hw' => ?_
  obtain ⟨x, H1, I1, r1, q1⟩ := hw'
  refine thn (hb pins s1 σ H1 _ I1 q1) fun u s2 hw' => ?_
  obtain ⟨y, H2, I2, r2, q2⟩ := hw'
  exact hf v u s2 x y H2 I2 r1 r2 q2

theorem pe_op {op : Operator} {r : R2} (ho : OpR X (binaryOp op) r) (ha : PE X a ta) (hb : PE X b tb) : PE X (.BinOp a op b pos) (tOp r ta tb) := by
  intro pins s σ H Q I h
  exact wpAny_BinOp (binT ha hb I h fun v u s2 x y H2 I2 rx ry q => ho pins s2 σ H2 x y v u Q I2 rx ry q)
theorem pe_un {op : UnaryOp} {r : V → Hp → VK → Prop} (ho : UnR X (unaryOp op) r) (ha : PE X a ta) : PE X (.UnaryOp op a pos) (tUn r ta) := by
  intro pins s σ H Q I h
  exact UnaryOp_ (thn (ha pins s σ H _ I h) fun v s1 ⟨x, H1, I1, r1, q1⟩ => ho pins s1 σ H1 x v Q I1 r1 q1)
/-! ### ints -/
theorem opI {f : Value → Value → Sem Value} {C : Int → Int → Prop} {g : Int → Int → Int}
    (rule : ∀ (i j : Int) (t u : Tok) (s : Shared) (Q : Value → Shared → Prop) (E : Value → Shared → Prop), C i j → Q (.int (g i j) s.toks) { s with toks := s.toks + 1 } → wpAny (model X.prog X.w) X.A (f (.int i t) (.int j u)) Q E s) :
    OpR X f (rI C fun i j => .int (g i j)) := by
  intro pins s σ H x y v u Q I rx ry h
  obtain ⟨i, j, rfl, rfl, hc, q⟩ := h
  obtain ⟨t, rfl⟩ := rx
  obtain ⟨t', rfl⟩ := ry
  exact rule i j t t' s _ _ hc ⟨.int (g i j), H, I.tok _, ⟨_, rfl⟩, q⟩
theorem opI0 {f : Value → Value → Sem Value} {g : Int → Int → Int}
    (rule : ∀ (i j : Int) (t u : Tok) (s : Shared) (Q : Value → Shared → Prop) (E : Value → Shared → Prop), Q (.int (g i j) s.toks) { s with toks := s.toks + 1 } → wpAny (model X.prog X.w) X.A (f (.int i t) (.int j u)) Q E s) :
    OpR X f (rI0 fun i j => .int (g i j)) := by
  intro pins s σ H x y v u Q I rx ry h
  obtain ⟨i, j, rfl, rfl, q⟩ := h
  obtain ⟨t, rfl⟩ := rx
  obtain ⟨t', rfl⟩ := ry
  exact rule i j t t' s _ _ ⟨.int (g i j), H, I.tok _, ⟨_, rfl⟩, q⟩
theorem opB0 {f : Value → Value → Sem Value} {g : Int → Int → Bool}
    (rule : ∀ (i j : Int) (t u : Tok) (s : Shared) (Q : Value → Shared → Prop) (E : Value → Shared → Prop), Q (.bool (g i j)) s → wpAny (model X.prog X.w) X.A (f (.int i t) (.int j u)) Q E s) :
    OpR X f (rI0 fun i j => .bl (g i j)) := by
  intro pins s σ H x y v u Q I rx ry h
  obtain ⟨i, j, rfl, rfl, q⟩ := h
  obtain ⟨t, rfl⟩ := rx
  obtain ⟨t', rfl⟩ := ry
  exact rule i j t t' s _ _ ⟨.bl (g i j), H, I, rfl, q⟩

def CDiv (i j : Int) : Prop := 0 < j ∧ j < 1073741824
def CMul (i j : Int) : Prop := (-(2 ^ 64) < i ∧ i < 2 ^ 64) ∨ (-(2 ^ 64) < j ∧ j < 2 ^ 64)
theorem CMul.ok {i j : Int} (h : CMul i j) : IntMulOk i j := by
  rcases h with ⟨h1, h2⟩ | ⟨h1, h2⟩
  · exact .of_left (intBits_le_64 h1 h2)
  · exact .of_right (intBits_le_64 h1 h2)
theorem op_add : OpR X (binaryOp .Add) (rI0 fun i j => .int (i + j)) := opI0 fun _ _ _ _ _ _ _ q => add_int q
theorem op_mul : OpR X (binaryOp .Mult) (rI CMul fun i j => .int (i * j)) := opI fun _ _ _ _ _ _ _ hc q => mul_int q hc.ok
/-- // by a positive divisor -/
theorem op_fdiv : OpR X (binaryOp .FloorDiv) (rI CDiv fun i j => .int (i / j)) := opI fun i j _ _ _ _ _ hc q => by
  have h1 : (0 : Int) < j := hc.1
  have h2 : j < 1073741824 := hc.2
  exact floordiv_int (by omega) (by rw [Int.fdiv_eq_ediv_of_nonneg i (by omega)]; exact q) (.inl (PyProof.noPylong_small (by omega)))
/-- % by a positive divisor of any size -/
theorem op_mod : OpR X (binaryOp .Mod) (rI (fun _ j => 0 < j) fun i j => .int (i % j)) := opI fun i j _ _ _ _ _ hc q => by
  have h1 : (0 : Int) < j := hc
  exact mod_int' (by omega) (by rw [Int.fmod_eq_emod_of_nonneg i (by omega)]; exact q)
theorem unI {f : Value → Sem Value} {g : Int → Int}
    (rule : ∀ (i : Int) (t : Tok) (s : Shared) (Q : Value → Shared → Prop) (E : Value → Shared → Prop), Q (.int (g i) s.toks) { s with toks := s.toks + 1 } → wpAny (model X.prog X.w) X.A (f (.int i t)) Q E s) :
    UnR X f (rU fun i => .int (g i)) := by
  intro pins s σ H x v Q I rx h
  obtain ⟨i, rfl, q⟩ := h
  obtain ⟨t, rfl⟩ := rx
  exact rule i t s _ _ ⟨.int (g i), H, I.tok _, ⟨_, rfl⟩, q⟩
theorem un_neg : UnR X (unaryOp .USub) (rU fun i => .int (-i)) := unI fun _ _ _ _ _ q => neg_int q
end

section
variable {X : Cx} {a b c : Expr} {ta tb tc : TE} {pos : Pos}
theorem fin_bl {pins : List (Addr × Obj)} {σ : St} {H : Hp} {s : Shared} {Q : VK} {k k' : Bool} (I : Inv X pins σ H s) (q : Q (.bl k) H) (e : k = k') : EP X pins σ Q (.bool k') s := by
  subst e
  exact ⟨.bl k, H, I, rfl, q⟩
theorem op_lt : OpR X (compareOp .Lt) (rI0 fun i j => .bl (decide (i < j))) := opB0 fun _ _ _ _ _ _ _ q => lt_int q
/-- is None, is not None: the right side a value none -/
theorem op_isN : OpR X (compareOp .Is) (fun x y H Q => y = .non ∧ Q (.bl (decide (x = .non))) H) := by
  intro pins s σ H x y v u Q I rx ry h
  obtain ⟨rfl, q⟩ := h
  cases ry
  refine is_none_gen (fin_bl I q ?_)
  cases x <;> first
    | (cases rx; rfl)
    | (obtain ⟨t, rfl⟩ := rx; rfl)
/-- two rules for one operation: by cases -/
theorem OpR.or {f : Value → Value → Sem Value} {r r' : R2} (h : OpR X f r) (h' : OpR X f r') : OpR X f (fun x y H Q => r x y H Q ∨ r' x y H Q) := by
  intro pins s σ H x y v u Q I rx ry q
  rcases q with q | q
  · exact h pins s σ H x y v u Q I rx ry q
  · exact h' pins s σ H x y v u Q I rx ry q

theorem nomark (b : Expr) {op : CmpOp} (h : op ≠ .In := by decide) (h2 : op ≠ .NotIn := by decide) : behindInMarks op b = false := by
  have e1 : (op == CmpOp.In) = false := by cases op <;> first | rfl | exact absurd rfl h
  have e2 : (op == CmpOp.NotIn) = false := by cases op <;> first | rfl | exact absurd rfl h2
  cases b <;> simp [behindInMarks, e1, e2]
/-- a comparison as a value; hm: nomark b, or (for in, not in) by with_unfolding_all rfl -/
theorem pe_cmpR {op : CmpOp} {r : R2} (ho : OpR X (compareOp op) r) (ha : PE X a ta) (hb : PE X b tb) (hm : behindInMarks op b = false) : PE X (.Compare a [op] [b] pos) (tOp r ta tb) := by
  intro pins s σ H Q I h
  exact wpAny_Compare1 (binT ha hb I h fun v u s2 x y H2 I2 rx ry q => ho pins s2 σ H2 x y v u Q I2 rx ry q) hm
/-- a reading of a value as a test -/
def tTest (t : TE) : TT := fun σ H Q => t σ H fun x H' => ∃ k, x = .bl k ∧ Q k H'
theorem pt_cmpR {op : CmpOp} {r : R2} (ho : OpR X (compareOp op) r) (ha : PE X a ta) (hb : PE X b tb) (hm : behindInMarks op b = false) : PT X (.Compare a [op] [b] pos) (tTest (tOp r ta tb)) := by
  intro pins s σ H Q I h
  refine wpAny_isTrue_Compare1 (thn (ha pins s σ H _ I h) fun v s1 ⟨x, H1, I1, r1, q1⟩ => thn (hb pins s1 σ H1 _ I1 q1) fun u s2 ⟨y, H2, I2, r2, q2⟩ =>
    thn (ho pins s2 σ H2 x y v u _ I2 r1 r2 q2) fun c s3 hw' => ?_) hm
  obtain ⟨z, H3, I3, r3, k, e, q3⟩ := hw'
  subst e
  cases r3
  exact wpAny_truthy_bool ⟨H3, I3, q3⟩
theorem line63 : (sizeLine : Nat) < 2 ^ 63 := by rw [sizeLine_eq]; decide
theorem op_add_str : OpR X (binaryOp .Add) (fun x y H Q => ∃ i j, x = .str i ∧ y = .str j ∧ i.length + j.length ≤ sizeLine ∧ Q (.str (i ++ j)) H) := by
  intro pins s σ H x y v u Q I rx ry h
  obtain ⟨i, j, rfl, rfl, hz, q⟩ := h
  obtain ⟨t, rfl⟩ := rx
  obtain ⟨t', rfl⟩ := ry
  exact add_str (fun t' tk => ⟨.str (i ++ j), H, I.tok _, ⟨_, rfl⟩, q⟩) hz
/-! ### scalar builtins, by CallR -/
theorem vals1 {x : V} {us : List Value} (r : Vals [x] us) : ∃ u, us = [u] ∧ RelV x u := by
  cases r with
  | cons r1 r2 => cases r2; exact ⟨_, rfl, r1⟩
theorem vals2 {x y : V} {us : List Value} (r : Vals [x, y] us) : ∃ u w', us = [u, w'] ∧ RelV x u ∧ RelV y w' := by
  cases r with
  | cons r1 r2 =>
    cases r2 with
    | cons r3 r4 => cases r4; exact ⟨_, _, rfl, r1, r3⟩
theorem call_min2 (hc : X.calm = true) : CallR X (.builtin "min") (fun xs H Q => ∃ i j, xs = [.int i, .int j] ∧ Q (.int (if j < i then j else i)) H) := by
  intro pins s σ H xs us Q I r h
  obtain ⟨i, j, rfl, q⟩ := h
  obtain ⟨u, w', rfl, ⟨t, rfl⟩, ⟨t', rfl⟩⟩ := vals2 r
  refine min_two_ints (I.ok.hd hc) fun h' tk k => ⟨_, H, I.kept k, ?_, q⟩
  by_cases hj : j < i
  · rw [if_pos hj, if_pos hj]; exact ⟨_, rfl⟩
  · rw [if_neg hj, if_neg hj]; exact ⟨_, rfl⟩
end
end L2

namespace L2
open PySem PySem.Spec PyProof.Rows

/-! ### an instance, its attributes a map -/
structure ObjM (h : Heap) (x dx C : Addr) (mA : Str → Option Value) : Prop where
  obj : h.get? x = some (PySem.W.instObj C dx)
  ns : h.Ns1 dx mA
  ne : dx ≠ x

theorem lookIn_ns {h : Heap} {dx : Addr} {mA : Str → Option Value} (n : h.Ns1 dx mA) : ∃ od, h.get? dx = some od ∧ ∀ name, PySem.W.lookIn name od = some (mA name) := by
  obtain ⟨o, es, ep, ho, hd, hk, _, hm⟩ := n
  refine ⟨o, ho, fun name => ?_⟩
  have e := hm name
  unfold nsFind findBy at e
  rw [← Array.find?_toList] at e
  unfold PySem.W.lookIn
  rw [hd]
  dsimp only
  split
  · rename_i y q
    rw [q] at e
    exact congrArg some e
  · rename_i q
    rw [q] at e
    have a : es.toList.any (·.refKey) = false := by
      rw [List.any_eq_false]
      intro y hy
      obtain ⟨z, t, hkey⟩ := hk y (Array.mem_toList_iff.mp hy)
      simp [DictEntry.refKey, hkey]
    have a' : ¬ es.toList.any (·.refKey) = true := by rw [a]; exact Bool.false_ne_true
    rw [if_neg a']
    exact congrArg some e

theorem ObjM.look {h : Heap} {x dx C : Addr} {mA : Str → Option Value} (I : ObjM h x dx C mA) : ∃ od, PySem.W.InstAt h x (PySem.W.instObj C dx) C (some od) ∧ ∀ name, PySem.W.lookIn name od = some (mA name) :=
  let ⟨od, ho, hl⟩ := lookIn_ns I.ns
  ⟨od, ⟨I.obj, rfl, rfl, ho⟩, hl⟩

section
variable {prog : Program} {w : World} {A : Around} {E : Value → Shared → Prop} {s : Shared} {K : PySem.W.Frag} {x dx C f : Addr} {mA : Str → Option Value} {name : Str} {v : Value}

end

theorem RelO.some_of {v : V} {o : Option Value} (r : RelO (some v) o) : ∃ u, o = some u ∧ RelV v u := by
  cases o with
  | none => exact (show False from r).elim
  | some u => exact ⟨u, rfl, r⟩
section
variable {P : Program} {w : World} {H H' : Hp} {h h' : Heap} {a C dx : Addr} {fs fs' : List (Str × V)}
theorem ins_get (hok : HOk P w H h) (e : H a = some (.ins C dx fs)) : ∃ mA, ObjM h a dx C mA ∧ (∀ f, RelO (fs.lookup f) (mA f)) ∧ PySem.Within mA (fs.map (·.1)) ∧ fs.length ≤ 1000 ∧ H dx = some (.own a) := by
  obtain ⟨d, z, ne, ob, mA, n, r, q⟩ := (show ObjOk P w H h a (.ins C dx fs) from hok a _ e)
  exact ⟨mA, ⟨ob, n, ne⟩, r, q, z, d⟩
end

/-! ### what of the text a class must have -/
structure Cls (K : PySem.W.Frag) (C : Addr) : Prop where
  pg : PySem.W.plainGet K C Str.empty = true
  hd : PySem.W.hasDictIn K C = true
  po : PySem.W.plainOver K C = true
  sa : PySem.W.findIn K (.ref C) "__setattr__" = some (some (.builtin "object.__setattr__"))
theorem Cls.get {K : PySem.W.Frag} {C : Addr} (c : Cls K C) (f : Str) : PySem.W.plainGet K C f = true := c.pg
/-- a constant of the class -/
structure Con (K : PySem.W.Frag) (C : Addr) (f : Str) (v : V) (u : Value) : Prop where
  at_ : PySem.W.findIn K (.ref C) f = some (some u)
  rel : RelV v u
  get : PySem.W.specialIn K u "__get__" = some none
  cp : PySem.W.copiedNames.contains f = false
/-- a method: a plain def of the class or of one above it -/
structure Meth (K : PySem.W.Frag) (C : Addr) (m : Str) (f : Addr) : Prop where
  at_ : PySem.W.findIn K (.ref C) m = some (some (.ref f))
  fn : PySem.W.isFn K (.ref f) = true
  kp : PySem.W.keepIn K (.ref f) = true

section
variable {X : Cx} {pins : List (Addr × Obj)} {σ : St} {H : Hp} {s : Shared} {a C dx : Addr} {fs : List (Str × V)} {f : Str} {v : V} {A : Around} {E : Value → Shared → Prop}

/-- a new instance, tracked, without attributes -/
theorem Inv.made (I : Inv X pins σ H s) : Inv X pins σ (upd (upd H s.heap.objs.size (.own (s.heap.objs.size + 1))) (s.heap.objs.size + 1) (.ins C s.heap.objs.size []))
    { s with heap := (s.heap.push PySem.W.emptyDict).push (PySem.W.instObj C s.heap.objs.size) } := by
  have e1 : (s.heap.push PySem.W.emptyDict).get? s.heap.objs.size = some PySem.W.emptyDict := Heap.get?_push_size s.heap rfl
  have e2 : ((s.heap.push PySem.W.emptyDict).push (PySem.W.instObj C s.heap.objs.size)).get? (s.heap.objs.size + 1) = some (PySem.W.instObj C s.heap.objs.size) := by
    have := Heap.get?_push_size (s.heap.push PySem.W.emptyDict) (o := PySem.W.instObj C s.heap.objs.size) rfl
    rwa [Heap.size_push] at this
  have e3 : (s.heap.push PySem.W.emptyDict).Ns s.heap.objs.size (fun _ => none) := ⟨PySem.W.emptyDict, #[], _, e1, rfl, (fun e he => absurd he (by simp)), fun _ => rfl⟩
  have I1 := I.laid (a := s.heap.objs.size) (o := .own (s.heap.objs.size + 1)) (h' := s.heap.push PySem.W.emptyDict) (t' := s.toks) (fun b u q => Heap.get?_push_of_some _ q) (Nat.le_refl _) ⟨_, e1⟩
  refine I1.laid (a := s.heap.objs.size + 1) (o := .ins C s.heap.objs.size []) (t' := s.toks) (fun b u q => Heap.get?_push_of_some _ q) (Nat.le_of_eq (Heap.size_push _ _)) ?_
  have ne : s.heap.objs.size ≠ s.heap.objs.size + 1 := Nat.ne_of_lt (Nat.lt_succ_self _)
  refine ⟨by rw [upd_ne ne, upd_same], Nat.zero_le _, ne, e2, fun _ => none, (Heap.Ns1.of_empty e3).at fun o q => Heap.get?_push_of_some _ q, fun _ => True.intro, fun y hy => absurd rfl hy⟩

end

section
variable {X : Cx} {o e value : Expr} {f : Str} {pos pos' tpos : Pos} {ta tv : TE}
end

/-! ### isinstance -/
section
variable {X : Cx} {pins : List (Addr × Obj)} {σ : St} {H : Hp} {s : Shared} {A : Around} {E : Value → Shared → Prop} {Q : Value → Shared → Prop} {c : Value} {b : Bool}
/-- the type of a value, as the fragment's deciders take it; for an instance its class -/
inductive TyOf (K : PySem.W.Frag) (H : Hp) : V → Value → Prop where
  | non : TyOf K H .non (.type "NoneType")
  | bl (x : Bool) : TyOf K H (.bl x) (.type "bool")
  | int (i : Int) : TyOf K H (.int i) (.type "int")
  | str (x : Str) : TyOf K H (.str x) (.type "str")
  | flt (x : UInt64) : TyOf K H (.flt x) (.type "float")
  | lst {a : Addr} {xs : List V} (e : H a = some (.lst xs)) : TyOf K H (.ref a) (.type "list")
  | frz {a : Addr} {o : Obj} {xs : List V} (e : H a = some (.frz o (.lst xs))) : TyOf K H (.ref a) (.type "list")
  | tup {a : Addr} {xs : List V} (e : H a = some (.tup xs)) : TyOf K H (.ref a) (.type "tuple")
  | dK {a : Addr} {kvs : List (Key × V)} (e : H a = some (.dK kvs)) : TyOf K H (.ref a) (.type "dict")
  | dT {a : Addr} {kvs : List (List Key × V)} (e : H a = some (.dT kvs)) : TyOf K H (.ref a) (.type "dict")
  | ins {a C dx : Addr} {fs : List (Str × V)} (e : H a = some (.ins C dx fs)) (cl : Cls K C) (ha : PySem.W.findIn K (.ref C) "__class__" = some (some (.builtin "object.__class__")))
      (hn : PySem.W.specialIn K (.builtin "object.__class__") "__get__" = some (some (.builtin "getset_descriptor.__get__"))) (htk : PySem.W.takesIn K (.builtin "object.__class__") = some true)
      (hm : PySem.W.mroIn K C (.type "object") = some true) : TyOf K H (.ref a) (.ref C)
/-- isinstance(x, c) for one class c, a built-in or an own one: kitOne's answer -/
theorem isinst_ok {x : V} {u t : Value} (I : Inv X pins σ H s) (rx : RelV x u) (ty : TyOf X.K H x t) (e : PySem.W.kitOne X.K t c = some b) (h : ∀ tk, Q (.bool b) { s with toks := tk }) :
    wpAny (model X.prog X.w) A (call (.builtin "isinstance") [u, c]) Q E s := by
  cases ty with
  | non => cases (show u = Value.none from rx); exact PySem.W.kia_one PySem.W.kitx_none I.kIn True.intro e (fun z => nomatch z) h
  | bl y => cases (show u = Value.bool y from rx); exact PySem.W.kia_one PySem.W.kitx_bool I.kIn True.intro e (fun z => nomatch z) h
  | int i => obtain ⟨t, q⟩ := (show ∃ t, u = Value.int i t from rx); cases q; exact PySem.W.kia_one PySem.W.kitx_int I.kIn True.intro e (fun z => nomatch z) h
  | str y => obtain ⟨t, q⟩ := (show ∃ t, u = Value.str y t from rx); cases q; exact PySem.W.kia_one PySem.W.kitx_str I.kIn True.intro e (fun z => nomatch z) h
  | flt y => obtain ⟨t, q⟩ := (show ∃ t, u = Value.float y t from rx); cases q; exact PySem.W.kia_one PySem.W.kitx_float I.kIn True.intro e (fun z => nomatch z) h
  | @lst a xs ea =>
    cases (show u = Value.ref a from rx)
    obtain ⟨_, _, n, _, h1⟩ := (show ObjOk X.prog X.w H s.heap a (.lst xs) from I.hok a _ ea)
    exact PySem.W.kia_one PySem.W.kitx_list I.kIn ⟨_, h1, rfl⟩ e (fun z => nomatch z) h
  | @frz a ob xs ea =>
    cases (show u = Value.ref a from rx)
    obtain ⟨_, _, _, n, _, h1⟩ := (show ObjOk X.prog X.w H s.heap a (.frz ob (.lst xs)) from I.hok a _ ea)
    exact PySem.W.kia_one PySem.W.kitx_list I.kIn ⟨_, h1, rfl⟩ e (fun z => nomatch z) h
  | @tup a xs ea =>
    cases (show u = Value.ref a from rx)
    obtain ⟨_, _, _, p⟩ := (show ObjOk X.prog X.w H s.heap a (.tup xs) from I.hok a _ ea)
    obtain ⟨o, h1, h2, _⟩ := p
    exact PySem.W.kia_one PySem.W.kitx_tuple I.kIn ⟨o, h1, h2⟩ e (fun z => nomatch z) h
  | @dK a kvs ea =>
    cases (show u = Value.ref a from rx)
    obtain ⟨_, _, vs, _, p⟩ := (show ObjOk X.prog X.w H s.heap a (.dK kvs) from I.hok a _ ea)
    obtain ⟨o, es, ep, h1, h2, _⟩ := p
    exact PySem.W.kia_one PySem.W.kitx_dict I.kIn ⟨o, h1, h2.1⟩ e (fun z => nomatch z) h
  | @dT a kvs ea =>
    cases (show u = Value.ref a from rx)
    obtain ⟨_, _, xs, _, o, es, ep, h1, h2, _⟩ := (show ObjOk X.prog X.w H s.heap a (.dT kvs) from I.hok a _ ea)
    exact PySem.W.kia_one PySem.W.kitx_dict I.kIn ⟨o, h1, h2.1⟩ e (fun z => nomatch z) h
  | @ins a C dx fs ea cl ha hn htk hm =>
    cases (show u = Value.ref a from rx)
    obtain ⟨mA, O, _⟩ := ins_get I.hok ea
    obtain ⟨od, J, _⟩ := O.look
    exact PySem.W.kia_one (PySem.W.kitx_own (cl.get _) cl.hd ha hn htk hm) I.kIn J e (fun z => nomatch z) h
end
end L2

namespace L2
open PySem PySem.Spec PyProof.Rows

/-! ### room -/
structure Room (k : Nat) (A : Around) : Prop where
  hd : A.handled = none
  dp : A.depth + 3 * k + 5 < recursionLimit
  un : A.units + 16 * k + 200 < cLine
  gd : A.guards = some [] := by rfl
theorem Room.mono {j k : Nat} {A : Around} (r : Room k A) (h : j ≤ k) : Room j A := ⟨r.hd, by have := r.dp; omega, by have := r.un; omega, r.gd⟩
theorem Room.deeper {k : Nat} {A : Around} (r : Room (k + 1) A) (env : Env) : Room k (A.deeper env) :=
  ⟨r.hd, by have := r.dp; show A.depth + 1 + 3 * k + 5 < _; omega, by have := r.un; show A.units + 3 + 16 * k + 200 < _; omega, r.gd⟩
theorem Room.in1 {k : Nat} {A : Around} (r : Room (k + 1) A) : Room k A.in1 :=
  ⟨r.hd, by have := r.dp; show A.depth + 3 * k + 5 < _; omega, by have := r.un; show A.units + 1 + 16 * k + 200 < _; omega, r.gd⟩
theorem make_depth {A : Around} {C : Addr} {us : List Value} {kw : List (Str × Value)} : (A.under (.builtin "type.__call__" ⟨.ref C :: us, kw⟩)).depth = A.depth + 1 := by
  first | rfl | simp [Around.under, Code.weight, Code.isCreation, Code.isGuard, Code.isCaller, Code.frames, Code.isFrame, guardIds]
theorem make_units {A : Around} {C : Addr} {us : List Value} {kw : List (Str × Value)} : (A.under (.builtin "type.__call__" ⟨.ref C :: us, kw⟩)).units = A.units + 1 := by
  first | rfl | simp [Around.under, Code.cUnits, Code.frames, Code.isFrame]
theorem Room.make {k : Nat} {A : Around} (r : Room (k + 1) A) (C : Addr) (us : List Value) (kw : List (Str × Value)) : Room k (A.under (.builtin "type.__call__" ⟨.ref C :: us, kw⟩)) :=
  ⟨r.hd, by have := r.dp; rw [make_depth]; omega, by have := r.un; rw [make_units]; omega, by first | exact r.gd | simpa [Around.under, Code.isGuard, Code.frames, Code.isFrame, guardIds] using r.gd⟩
theorem Room.depth {k : Nat} {A : Around} (r : Room k A) : A.depth < recursionLimit := by have := r.dp; omega
theorem Room.units {k : Nat} {A : Around} (r : Room k A) : A.units + 64 < cLine := by have := r.un; omega
theorem Room.units0 {k : Nat} {A : Around} (r : Room k A) : A.units < cLine := by have := r.un; omega

/-! ### argument lists and displays -/
def tNil : TA := fun _ H Q => Q [] H
def tCons (ta : TE) (tr : TA) : TA := fun σ H Q => ta σ H fun x H1 => tr σ H1 fun xs H2 => Q (x :: xs) H2
section
variable {X : Cx} {e : Expr} {es : List Expr} {te : TE} {t : TA} {pos : Pos}
theorem pa_nil : PA X [] tNil := fun _ _ _ _ H Q I h => Calls.spliced_nil ⟨[], H, I, .nil, h⟩
theorem pa_cons (ha : PE X e te) (hr : PA X es t) (hs : starEach (e :: es) X.env = (false, eval e X.env) :: starEach es X.env := by rfl) : PA X (e :: es) (tCons te t) := by
  intro pos pins s σ H Q I h
  rw [hs]
  show wpAny _ _ (spliced ((false, eval e X.env) :: backTo pos (starEach es X.env))) _ _ s
  refine Calls.spliced_cons (thn (ha pins s σ H _ I h) fun u s1 hw' => ?_)
  obtain ⟨x, H1, I1, r1, q1⟩ := hw'
  exact thn (hr pos pins s1 σ H1 _ I1 q1) fun us s2 ⟨xs, H2, I2, r2, q2⟩ => ⟨x :: xs, H2, I2, .cons r1 r2, q2⟩

/-- a tuple, a list of written items -/
def tTup (t : TA) : TE := fun σ H Q => t σ H fun xs H1 => xs.length ≤ sizeLine ∧ ∀ p, H1 p = none → Q (.ref p) (upd H1 p (.tup xs))
def tLst (t : TA) : TE := fun σ H Q => t σ H fun xs H1 => xs.length ≤ sizeLine ∧ ∀ p, H1 p = none → Q (.ref p) (upd H1 p (.lst xs))
theorem pe_tup {x1} (h : PA X es t) : PE X (.Tuple es x1 pos) (tTup t) := by
  intro pins s σ H Q I hq
  refine wpAny_Tuple_spliced (thn (h pos pins s σ H _ I hq) fun us s1 ⟨xs, H1, I1, r, z, q⟩ => ⟨by rw [← r.length]; exact z, ?_⟩)
  have hf : H1 s1.heap.objs.size = none := I1.hok.fresh (Nat.le_refl _)
  refine ⟨.ref s1.heap.objs.size, upd H1 s1.heap.objs.size (.tup xs), I1.laid (t' := s1.toks) (fun b u e => Heap.get?_push_of_some _ e) (Nat.le_refl _) ?_, rfl, q _ hf⟩
  exact ⟨z, us, r, ⟨_, Heap.get?_push_size _ rfl, rfl, _, rfl⟩⟩
theorem pe_lst (h : PA X es t) : PE X (.List es pos) (tLst t) := by
  intro pins s σ H Q I hq
  refine wpAny_List_spliced (thn (h pos pins s σ H _ I hq) fun us s1 ⟨xs, H1, I1, r, z, q⟩ => ⟨by rw [← r.length]; exact z, ?_⟩)
  have hf : H1 s1.heap.objs.size = none := I1.hok.fresh (Nat.le_refl _)
  refine ⟨.ref s1.heap.objs.size, upd H1 s1.heap.objs.size (.lst xs), I1.laid (t' := s1.toks) (fun b u e => Heap.get?_push_of_some _ e) (Nat.le_refl _) ?_, rfl, q _ hf⟩
  exact ⟨z, us, 0, r, Heap.get?_push_size _ rfl⟩
end

/-! ### what a def promises -/
/-- a def's promise: the bound arguments in the parameters' order, the heap, the wanted end, the wanted exception -/
abbrev Sp := List V → Hp → VK → XK → Prop
/-- how an exception lies behind a call (file 08 gives it): the callers' frames, abstract heap and state ahead of the call, the wish, the exception, the state -/
abbrev CXT := List Env → Hp → Shared → XK → Value → Shared → Prop

/-- the state at a call -/
structure Env0 (P : Program) (w : World) (K : PySem.W.Frag) (mg : Str → Option Value) (base : Heap) (A : Around) (outer : List Env) (s : Shared) (H : Hp) : Prop where
  frames : A.frames = some outer
  mod : Mod K mg base
  bs : ∀ b o, base.get? b = some o → s.heap.get? b = some o ∧ H b = none
  bsz : base.objs.size ≤ s.heap.objs.size
  funs : s.heap.FunFrames base outer
  frf : ∀ b ∈ frs outer, H b = none
  hok : HOk P w H s.heap
  bare : AllBare s.gens
/-- a call's end -/
def CE (outer : List Env) (P : Program) (w : World) (H : Hp) (s : Shared) (Q : VK) (u : Value) (s' : Shared) : Prop :=
  ∃ v H', s'.os = s.os ∧ AllBare s'.gens ∧ Un (frs outer) [] H H' s.heap s'.heap ∧ HOk P w H' s'.heap ∧ RelV v u ∧ Q v H'
def CR (CX : CXT) (outer : List Env) (P : Program) (w : World) (H : Hp) (s : Shared) (Q : VK) (E : XK) (r : Result) (s' : Shared) : Prop :=
  match r with
  | .ok (.ret u) => CE outer P w H s Q u s'
  | .ok _ => False
  | .error e => CX outer H s E e s'
structure FnOk (P : Program) (w : World) (K : PySem.W.Frag) (mg : Str → Option Value) (base : Heap) (CX : CXT) (k : Nat) (f : Addr) (fd : FuncData) (ps : List Str) (sp : Sp) : Prop where
  len : ∀ vs H Q E, sp vs H Q E → vs.length = ps.length
  run : ∀ (A : Around) (outer : List Env) (s : Shared) (H : Hp) (args : Args) (us : List Value) (vs : List V) (Q : VK) (E : XK), Room k A → Env0 P w K mg base A outer s H → BindsTo s fd args (ps.zip us) → Vals vs us → sp vs H Q E →
    codeAny (model P w) A (.call (.ref f) args) (CR CX outer P w H s Q E) s
theorem FnOk.mono {P : Program} {w : World} {K : PySem.W.Frag} {mg : Str → Option Value} {base : Heap} {CX : CXT} {j k : Nat} {f : Addr} {fd : FuncData} {ps : List Str} {sp : Sp} (F : FnOk P w K mg base CX j f fd ps sp) (h : j ≤ k) :
    FnOk P w K mg base CX k f fd ps sp := ⟨F.len, fun A outer s H args us vs Q E hr => F.run A outer s H args us vs Q E (hr.mono h)⟩
/-- a weaker promise -/
theorem FnOk.imp {P : Program} {w : World} {K : PySem.W.Frag} {mg : Str → Option Value} {base : Heap} {CX : CXT} {k : Nat} {f : Addr} {fd : FuncData} {ps : List Str} {sp sp' : Sp} (F : FnOk P w K mg base CX k f fd ps sp)
    (h : ∀ vs H Q E, sp' vs H Q E → sp vs H Q E) : FnOk P w K mg base CX k f fd ps sp' :=
  ⟨fun vs H Q E q => F.len vs H Q E (h _ _ _ _ q), fun A outer s H args us vs Q E hr he hb hv hs => F.run A outer s H args us vs Q E hr he hb hv (h _ _ _ _ hs)⟩

theorem Env0.make {P : Program} {w : World} {K : PySem.W.Frag} {mg : Str → Option Value} {base : Heap} {A : Around} {outer : List Env} {s : Shared} {H : Hp} (e : Env0 P w K mg base A outer s H) (C : Addr) (us : List Value) (kw : List (Str × Value)) :
    Env0 P w K mg base (A.under (.builtin "type.__call__" ⟨.ref C :: us, kw⟩)) outer s H := ⟨by first | exact e.frames | (simpa [Around.under, Code.envs, Code.isFrame, pushEnvs] using e.frames), e.mod, e.bs, e.bsz, e.funs, e.frf, e.hok, e.bare⟩
theorem Env0.in1 {P : Program} {w : World} {K : PySem.W.Frag} {mg : Str → Option Value} {base : Heap} {A : Around} {outer : List Env} {s : Shared} {H : Hp} (e : Env0 P w K mg base A outer s H) :
    Env0 P w K mg base A.in1 outer s H := ⟨e.frames, e.mod, e.bs, e.bsz, e.funs, e.frf, e.hok, e.bare⟩

section
variable {X : Cx} {pins : List (Addr × Obj)} {σ : St} {H : Hp} {s s' : Shared}
/-- from a body: what a callee wants -/
theorem Inv.env0 (I : Inv X pins σ H s) : Env0 X.prog X.w X.K X.mg X.base X.A X.stack s H :=
  ⟨I.ok.frames, I.ok.mod, I.bs, Nat.le_trans I.ok.bsz I.sz, I.stack, I.stkFree, I.hok, I.bare⟩
/-- behind a call -/
theorem Inv.after {Q : VK} {u : Value} (I : Inv X pins σ H s) (h : CE X.stack X.prog X.w H s Q u s') : EP X pins σ Q u s' := by
  obtain ⟨v, H', os, bare, un, hok, r, q⟩ := h
  obtain ⟨hh, g, d, t, os'⟩ := s'
  obtain rfl : os' = s.os := os
  exact ⟨v, H', I.call (h' := hh) (g' := g) (d' := d) (t' := t) (ch := []) un hok bare (fun b z => absurd z (by simp)), r, q⟩
end

/-! ### calls -/
/-- f(..): the written arguments, then the defaults dvs; E: what is wanted of an exception -/
def tCall (sp : Sp) (dvs : List V) (E : XK) (t : TA) : TE := fun σ H Q => t σ H fun vs H1 => sp (vs ++ dvs) H1 Q E
/-- how the parameters are bound: us the positional arguments, kw the keywords' values by name, ds the defaults that fill up -/
def Binds (K : PySem.W.Frag) (fd : FuncData) (ps : List Str) (ds : List Value) : Prop :=
  ∀ (s : Shared) (us : List Value), K.In s.heap → (us ++ ds).length = ps.length → BindsTo s fd ⟨us, []⟩ (ps.zip (us ++ ds))
/-- every parameter is given -/
theorem Binds.all {K : PySem.W.Frag} {fd : FuncData} {ps : List Str} (h : ∀ us : List Value, us.length = ps.length → bindArgs fd ⟨us, []⟩ = pure (ps.zip us)) : Binds K fd ps [] := fun s us _ hl => by
  rw [List.append_nil] at hl ⊢
  exact .of_eq (h us hl)

/-- an exception of a callee reaches what this body wants of exceptions -/
def Passes (CX : CXT) (X : Cx) (E : XK) : Prop := ∀ (pins : List (Addr × Obj)) (σ : St) (H : Hp) (s : Shared) (e : Value) (s' : Shared), Inv X pins σ H s → CX X.stack H s E e s' → X.xe e s'

section
variable {X : Cx} {CX : CXT} {k : Nat} {f C : Addr} {fd : FuncData} {ps : List Str} {sp : Sp} {dvs : List V} {ds : List Value} {E : XK} {x m : Str} {p pos apos : Pos} {e o : Expr} {es : List Expr} {ta : TE} {t : TA}

/-- the callee runs -/
theorem run_fn {pins : List (Addr × Obj)} {σ : St} {H : Hp} {s : Shared} {Q : VK} {us : List Value} {vs : List V} (F : FnOk X.prog X.w X.K X.mg X.base CX k f fd ps sp) (hr : Room k X.A) (hb : Binds X.K fd ps ds) (hd : Vals dvs ds) (hx : Passes CX X E)
    (I : Inv X pins σ H s) (r : Vals vs us) (h : sp (vs ++ dvs) H Q E) : wpAny (model X.prog X.w) X.A (call (.ref f) us) (EP X pins σ Q) X.xe s := by
  have r2 : Vals (vs ++ dvs) (us ++ ds) := r.append hd
  have hl : (us ++ ds).length = ps.length := by rw [← r2.length]; exact F.len _ _ _ _ h
  refine wpAny_call (codeAny_mono (F.run X.A X.stack s H ⟨us, []⟩ (us ++ ds) (vs ++ dvs) Q E hr I.env0 (hb s us I.kIn hl) r2 h) fun r s' hq => ?_)
  cases r with
  | error e => exact hx pins σ H s e s' I hq
  | ok fl =>
    cases fl with
    | ret u => exact I.after hq
    | next => exact False.elim hq
    | brk => exact False.elim hq
    | cont => exact False.elim hq

theorem pe_call (F : FnOk X.prog X.w X.K X.mg X.base CX k f fd ps sp) (hr : Room k X.A) (hg : Gl X x) (hm : X.mg x = some (.ref f)) (hk : PySem.W.keepIn X.K (.ref f) = true) (hb : Binds X.K fd ps ds) (hd : Vals dvs ds) (hx : Passes CX X E)
    (ha : PA X (e :: es) t) (hdb : (x == ("__debug__" : Str)) = false := by decide) (he : starEach (e :: es) X.env = (false, eval e X.env) :: starEach es X.env := by rfl) (hpl : (backTo pos (starEach es X.env)).any (·.1) = false := by rfl) :
    PE X (.Call (.Name x p) (e :: es) [] pos) (tCall sp dvs E t) := by
  intro pins s σ H Q I h
  refine wpAny_Call_Name_kw (ld_glob I hg hm ?_ hdb)
  refine PySem.W.callWith_K (h₀ := X.base) I.ok.mod.kin hk (thn (ha pos pins s σ H _ I h) fun us s1 ⟨vs, H1, I1, r, q⟩ => ⟨I1.kIn, ?_⟩) he hpl
  exact run_fn F hr hb hd hx I1 r q
/-- what a class must have to be made -/
structure Mk (K : PySem.W.Frag) (C f : Addr) : Prop where
  makes : PySem.W.makesIn K C = true
  init : PySem.W.findIn K (.ref C) "__init__" = some (some (.ref f))
  fn : PySem.W.isFn K (.ref f) = true
  kp : PySem.W.keepIn K (.ref C) = true

end

section
variable {X : Cx} {CX : CXT} {k : Nat} {f C : Addr} {fd : FuncData} {ps ks : List Str} {sp : Sp} {E : XK} {x m : Str} {p pos apos kpos : Pos} {e o : Expr} {es : List Expr} {kws : List Keyword} {te ta : TE} {t tk : TA} {nm : Option Str}
/-- how a call with keywords binds: g puts the positional values us and the keywords' values ws (names ks) in the parameters' order, defaults among them -/
structure KBinds (K : PySem.W.Frag) (fd : FuncData) (ps ks : List Str) (g : List Value → List Value → List Value) (gV : List V → List V → List V) : Prop where
  to : ∀ (s : Shared) (us ws : List Value), K.In s.heap → (g us ws).length = ps.length → BindsTo s fd ⟨us, ks.zip ws⟩ (ps.zip (g us ws))
  rel : ∀ {vs : List V} {us : List Value} {zs : List V} {ws : List Value}, Vals vs us → Vals zs ws → Vals (gV vs zs) (g us ws)
variable {g : List Value → List Value → List Value} {gV : List V → List V → List V}
end

/-! ### a def's body keeps its promise -/
/-- names: the parameters first -/
structure FnScope (N P : List Str) (sc : Scope) : Prop where
  kind : sc.kind = .function
  co : sc.isCoroutine = false
  gen : sc.isGenerator = false
  nd : N.Nodup
  pre : N.take P.length = P
  par : ∀ x ∈ P, sc.names.lookup x = some .local ∨ sc.names.lookup x = some .cell
  nofree : ∀ y ∈ sc.names, y.2 ≠ .free

theorem bindL_out {kindOf : Str → Option NameKind} {x : Str} : ∀ {binds : List (Str × Value)} {m : Str → Option Value}, (∀ v, (x, v) ∉ binds) → bindL kindOf binds m x = m x
  | [], _, _ => rfl
  | (n, v) :: r, m, h => by
    unfold bindL
    rw [bindL_out fun w hw => h w (List.mem_cons_of_mem _ hw)]
    split
    · have : x ≠ n := by rintro rfl; exact h v List.mem_cons_self
      simp [this]
    · rfl
theorem bindC_out {kindOf : Str → Option NameKind} {x : Str} : ∀ {binds : List (Str × Value)} {m : Str → Option Value}, (∀ v, (x, v) ∉ binds) → bindC kindOf binds m x = m x
  | [], _, _ => rfl
  | (n, v) :: r, m, h => by
    unfold bindC
    rw [bindC_out fun w hw => h w (List.mem_cons_of_mem _ hw)]
    split
    · rfl
    · have : x ≠ n := by rintro rfl; exact h v List.mem_cons_self
      simp [this]
theorem bindL_get {kindOf : Str → Option NameKind} {x : Str} {v : Value} : ∀ {P : List Str} {vs : List Value} {i : Nat} {m : Str → Option Value}, P.Nodup → P[i]? = some x → vs[i]? = some v → kindOf x = some .local →
    bindL kindOf (P.zip vs) m x = some v
  | [], _, _, _, _, h, _, _ => by simp at h
  | _ :: _, [], _, _, _, _, h, _ => by simp at h
  | p :: P, w :: vs, 0, m, nd, h1, h2, hk => by
    simp at h1 h2; subst h1; subst h2
    show bindL kindOf ((p, w) :: P.zip vs) m p = _
    unfold bindL
    rw [bindL_out fun v hv => (List.nodup_cons.mp nd).1 (List.of_mem_zip hv).1, if_pos hk]
    simp
  | p :: P, w :: vs, i + 1, m, nd, h1, h2, hk => by
    show bindL kindOf ((p, w) :: P.zip vs) m x = _
    unfold bindL
    exact bindL_get (i := i) (List.nodup_cons.mp nd).2 (by simpa using h1) (by simpa using h2) hk
theorem bindC_get {kindOf : Str → Option NameKind} {x : Str} {v : Value} : ∀ {P : List Str} {vs : List Value} {i : Nat} {m : Str → Option Value}, P.Nodup → P[i]? = some x → vs[i]? = some v → kindOf x ≠ some .local →
    bindC kindOf (P.zip vs) m x = some v
  | [], _, _, _, _, h, _, _ => by simp at h
  | _ :: _, [], _, _, _, _, h, _ => by simp at h
  | p :: P, w :: vs, 0, m, nd, h1, h2, hk => by
    simp at h1 h2; subst h1; subst h2
    show bindC kindOf ((p, w) :: P.zip vs) m p = _
    unfold bindC
    rw [bindC_out fun v hv => (List.nodup_cons.mp nd).1 (List.of_mem_zip hv).1, if_neg hk]
    simp
  | p :: P, w :: vs, i + 1, m, nd, h1, h2, hk => by
    show bindC kindOf ((p, w) :: P.zip vs) m x = _
    unfold bindC
    exact bindC_get (i := i) (List.nodup_cons.mp nd).2 (by simpa using h1) (by simpa using h2) hk

/-- the names' values at the entry -/
def start (N : List Str) (vs : List V) : St := vs.map some ++ List.replicate (N.length - vs.length) none

/-- the context of a def's body, at its entry; an exception leaves the frame, then lies as CX says -/
def cxOf (CX : CXT) (P : Program) (w : World) (K : PySem.W.Frag) (mg : Str → Option Value) (base : Heap) (N : List Str) (qual : Str) (scope : Scope) (f : Addr) (cd : Value) (A : Around) (outer : List Env) (s : Shared) (H : Hp) (E : XK) : Cx where
  prog := P
  w := w
  K := K
  mg := mg
  base := base
  A := A.deeper (envOfC qual scope s.heap.objs.size f cd)
  N := N
  s₀ := s
  H₀ := H
  env := envOfC qual scope s.heap.objs.size f cd
  outer := outer
  stack := envOfC qual scope s.heap.objs.size f cd :: outer
  ex := []
  calm := true
  fn := fun _ => true
  pn := []
  xe := fun e s' => wpAny (model P w) (A.deeper (envOfC qual scope s.heap.objs.size f cd)) (leaving (envOfC qual scope s.heap.objs.size f cd) e) (fun _ s'' => CX outer H s E e s'') (fun e' s'' => CX outer H s E e' s'') s'

theorem cell_has {sc : Scope} {n : Nat} {x : Str} (h : sc.names.lookup x = some .cell) : ∃ c, (cellsFrom n sc.names []).lookup x = some c := by
  have q := PySem.W.cellsFrom_some sc.names n [] (.inl h)
  exact Option.isSome_iff_exists.mp q

theorem inv_start {CX : CXT} {P : Program} {w : World} {K : PySem.W.Frag} {mg : Str → Option Value} {base : Heap} {N ps : List Str} {qual : Str} {scope : Scope} {f : Addr} {cd : Value} {A : Around} {outer : List Env} {s s1 : Shared} {H : Hp} {E : XK} {us : List Value} {vs : List V}
    (S : FnScope N ps scope) (hd : A.handled = none) (e0 : Env0 P w K mg base A outer s H) (hl : vs.length = ps.length) (r : Vals vs us)
    (x : InCallC s s.heap.objs.size (bindL (envOfC qual scope s.heap.objs.size f cd).kindOf (ps.zip us) fun _ => none) (cellsFrom (s.heap.objs.size + 1) scope.names []) (bindC (envOfC qual scope s.heap.objs.size f cd).kindOf (ps.zip us) fun _ => none) s1) :
    Inv (cxOf CX P w K mg base N qual scope f cd A outer s H E) [] (start N vs) H s1 := by
  have hpl : ps.length ≤ N.length := by have := congrArg List.length S.pre; rw [List.length_take] at this; omega
  obtain ⟨h1, tk, rfl, hk⟩ := x.done
  have noA : ∀ b : Addr, b ∉ (cxOf CX P w K mg base N qual scope f cd A outer s H E).ex := fun b z => absurd (show b ∈ ([] : List Addr) from z) (by simp)
  refine ⟨⟨e0.mod, S.kind, rfl, rfl, Nat.le_refl _, fun y z c h1 h2 => ?_, fun y hy => ?_, fun y c _ h => ?_, fun _ => hd, Around.frames_deeper e0.frames, .inr ⟨rfl, rfl⟩, fun b z => absurd z (noA b), e0.bs, e0.bsz, fun b _ _ => noA b, fun b z => absurd z (noA b), e0.funs, e0.frf⟩,
    rfl, e0.bare, Un.kept hk, ⟨_, x.toInCall.ns, fun i y v h1 h2 h3 => ?_⟩, fun y c h => ⟨_, x.cell y c h⟩, e0.hok.fresh (Nat.le_refl _), fun y c h => ?_, fun p hp => absurd (show p ∈ ([] : List (Addr × Obj)) from hp) (by simp), e0.hok.kept hk, ?_⟩
  · exact name_of_addr x.apart (PySem.mem_of_lookup h1) (PySem.mem_of_lookup h2)
  · have hy : scope.names.lookup y = some .cell ∨ scope.names.lookup y = some .free := hy
    rcases hy with hy | hy
    · exact cell_has hy
    · exact absurd rfl (S.nofree _ (PySem.mem_of_lookup hy))
  · exact Nat.le_of_lt (x.above y c (PySem.mem_of_lookup h))
  · have hi : i < vs.length := by
      unfold start at h2
      by_cases hi : i < vs.length
      · exact hi
      · rw [List.getElem?_append_right (by simpa using hi)] at h2
        rw [List.getElem?_replicate] at h2
        split at h2 <;> cases h2
    have ha : vs[i]? = some v := by
      unfold start at h2
      rw [List.getElem?_append_left (by simpa using hi), List.getElem?_map] at h2
      cases e : vs[i]? with
      | none => rw [e] at h2; cases h2
      | some a => rw [e] at h2; cases h2; rfl
    obtain ⟨u, hu, rv⟩ := r.get ha
    have hp : ps[i]? = some y := by
      rw [← S.pre, List.getElem?_take_of_lt (by omega)]; exact h1
    have ndP : ps.Nodup := by rw [← S.pre]; exact S.nd.sublist (List.take_sublist _ _)
    refine ⟨u, rv, ?_⟩
    rcases S.par y (List.mem_of_getElem? hp) with k | k
    · exact .inl ⟨k, bindL_get ndP hp hu k⟩
    · obtain ⟨c, e⟩ := cell_has (n := s.heap.objs.size + 1) k
      refine .inr ⟨.inl k, c, e, ?_⟩
      have q := x.cell y c e
      rw [bindC_get ndP hp hu (by show scope.names.lookup y ≠ _; rw [k]; decide)] at q
      exact q
  · exact e0.hok.fresh (Nat.le_of_lt (x.above y c (PySem.mem_of_lookup h)))
  · unfold start
    show _ = N.length
    rw [List.length_append, List.length_map, List.length_replicate]
    omega

/-- THE RULE: a def (or a method) of the text, by its body. The body's reading t is chosen for each entry; it is run at the parameters' values -/
theorem fn_of {CX : CXT} {P : Program} {w : World} {K : PySem.W.Frag} {mg : Str → Option Value} {base : Heap} {k : Nat} {f : Addr} {name qual : Str} {params : Arguments} {body : List Stmt} {scope : Scope} {dV kV doc pm cdv ct oc : Value} {an od : Option Addr}
    {osl : Array (Option Value)} {N ps : List Str} {sp : Sp} (lk : K.lookup f = some ⟨oc, od, .func (PySem.W.fnOf name qual params body scope dV kV doc pm an cdv ct), osl⟩) (hcd : PySem.W.codeIn K cdv qual = true) (S : FnScope N ps scope)
    (len : ∀ vs H Q E, sp vs H Q E → vs.length = ps.length)
    (hbody : ∀ (A : Around) (outer : List Env) (s : Shared) (H : Hp) (vs : List V) (Q : VK) (E : XK), Room k (A.deeper (envOfC qual scope s.heap.objs.size f cdv)) → sp vs H Q E →
      ∃ t, PSs (cxOf CX P w K mg base N qual scope f cdv A outer s H E) body t ∧ t { nx := fun _ H' => Q .non H', rt := Q } (start N vs) H) :
    FnOk P w K mg base CX (k + 1) f (PySem.W.fnOf name qual params body scope dV kV doc pm an cdv ct) ps sp := by
  refine ⟨len, fun A outer s H args us vs Q E hr e0 hb r hsp => ?_⟩
  have hl := len _ _ _ _ hsp
  have KX : K.In s.heap := e0.mod.kin.keeps fun b o e => (e0.bs b o e).1
  have lim : s.heap.NoLimit := e0.mod.nolimit.keeps fun b o e => (e0.bs b o e).1
  have hkind : ∀ y ∈ ps.zip us, scope.names.lookup y.1 = some .local ∨ (scope.names.lookup y.1 = some .cell ∧ ((cellsFrom (s.heap.objs.size + 1) scope.names []).lookup y.1).isSome = true) := fun hw' hy => by
    obtain ⟨n, v⟩ := hw'
    rcases S.par n (List.of_mem_zip hy).1 with q | q
    · exact .inl q
    · exact .inr ⟨q, PySem.W.cellsFrom_some _ _ _ (.inl q)⟩
  refine codeAny_call_function hr.depth (KX _ _ lk) rfl S.co S.gen rfl (PySem.W.codeRec_of KX hcd) (hb _ _ _ _ ?_)
  refine wpAny_newFunctionEnv_cells S.kind hkind fun env he s1 x => ?_
  subst he
  refine ⟨lim.keeps x.toInCall.keep, codeAny_func ?_⟩
  obtain ⟨t, ht, hq⟩ := hbody A outer s H vs Q E (hr.deeper _) hsp
  have I : Inv (cxOf CX P w K mg base N qual scope f cdv A outer s H E) [] (start N vs) H s1 := inv_start S hr.hd e0 hl r x
  refine wpAny_mono (ht [] s1 (start N vs) H _ I hq) (fun fl s' hs => ?_) fun e s' hs => hs
  have fin : ∀ {σ' : St} {H' : Hp} {v : V} {u : Value}, Inv (cxOf CX P w K mg base N qual scope f cdv A outer s H E) [] σ' H' s' → RelV v u → Q v H' → CE outer P w H s Q u s' :=
    fun {σ' H' v u} J rv q => ⟨v, H', J.os, J.bare, J.base, J.hok, rv, q⟩
  cases fl with
  | ret u =>
    obtain ⟨v, σ', H', J, rv, q⟩ := hs
    exact fin J rv q
  | next =>
    obtain ⟨σ', H', J, q⟩ := hs
    exact fin (v := V.non) (u := Value.none) J rfl q
  | brk =>
    obtain ⟨_, _, _, q⟩ := hs
    exact False.elim q
  | cont =>
    obtain ⟨_, _, _, q⟩ := hs
    exact False.elim q
end L2

namespace L2
open PySem PySem.Spec PyProof.Rows
section
variable {X : Cx} {x : Str} {p pos : Pos} {e : Expr} {es : List Expr} {t : TA} {id T : String} {r : List V → Hp → VK → Prop}

def tCB (r : List V → Hp → VK → Prop) (t : TA) : TE := fun σ H Q => t σ H fun vs H1 => r vs H1 Q
/-- f(e, ..), f a built-in function -/
theorem pe_callB (hc : CallR X (.builtin id) r) (hg : Gl X x) (hm : X.mg x = none) (hv : bootBuiltins x = some (.builtin id)) (ha : PA X (e :: es) t) (hn : x ≠ "__name__" := by decide) (hdb : (x == ("__debug__" : Str)) = false := by decide)
    (he : starEach (e :: es) X.env = (false, eval e X.env) :: starEach es X.env := by rfl) (hpl : (backTo pos (starEach es X.env)).any (·.1) = false := by rfl) : PE X (.Call (.Name x p) (e :: es) [] pos) (tCB r t) := by
  intro pins s σ H Q I h
  refine wpAny_Call_Name_kw (ld_blt I hg hm hv ?_ hn hdb)
  exact PyProof.Rows.callWith_builtin1 (thn (ha pos pins s σ H _ I h) fun us s1 ⟨vs, H1, I1, r1, q1⟩ => hc pins s1 σ H1 vs us Q I1 r1 q1) he hpl
/-- T(e, ..), T a built-in type -/
theorem pe_callTy (hc : CallR X (.type T) r) (hg : Gl X x) (hm : X.mg x = none) (hv : bootBuiltins x = some (.type T)) (ha : PA X (e :: es) t) (hn : x ≠ "__name__" := by decide) (hdb : (x == ("__debug__" : Str)) = false := by decide)
    (he : starEach (e :: es) X.env = (false, eval e X.env) :: starEach es X.env := by rfl) (hpl : (backTo pos (starEach es X.env)).any (·.1) = false := by rfl) : PE X (.Call (.Name x p) (e :: es) [] pos) (tCB r t) := by
  intro pins s σ H Q I h
  refine wpAny_Call_Name_kw (ld_blt I hg hm hv ?_ hn hdb)
  exact PyProof.Rows.callWith_type1 (thn (ha pos pins s σ H _ I h) fun us s1 ⟨vs, H1, I1, r1, q1⟩ => hc pins s1 σ H1 vs us Q I1 r1 q1) he hpl
end
end L2

namespace HT
open PySem PyProof.Rows

/-- t < u of tuples of ints -/
def lexLt : List Int → List Int → Bool
  | [], [] => false
  | [], _ :: _ => true
  | _ :: _, [] => false
  | x :: xs, y :: ys => if x = y then lexLt xs ys else decide (x < y)
theorem lexLt_cons (x y : Int) (xs ys : List Int) : lexLt (x :: xs) (y :: ys) = if x = y then lexLt xs ys else decide (x < y) := rfl
theorem lexLt_nil_nil : lexLt [] [] = false := rfl
theorem lexLt_nil_cons (y : Int) (ys : List Int) : lexLt [] (y :: ys) = true := rfl
theorem lexLt_cons_nil (x : Int) (xs : List Int) : lexLt (x :: xs) [] = false := rfl

theorem eqAt_int (A : Around) (s : Shared) (a : Int) (t : Tok) (c : Int) (u : Tok) : ∃ e, SeqAt.EqAt A s (.int a t) (.int c u) e ∧ (e = true ↔ a = c) :=
  ⟨(a == c), SeqAt.EqAt.int_int a t c u, by simp⟩
theorem rcLt_int (A : Around) (s : Shared) (a : Int) (t : Tok) (c : Int) (u : Tok) (prog : Program) (w : World) (E : Value → Shared → Prop) (Q : Value → Shared → Prop) (h : Q (.bool (decide (a < c))) s) :
    wpAny (model prog w) A (richCompare .Lt (.int a t) (.int c u)) Q E s :=
  (PyProof.Rows.lt_int h : wpAny (model prog w) A (compareOp .Lt (.int a t) (.int c u)) Q E s)

section
open PySem.SeqAt
open PySem.AutoSeq1 (wpAny_loadPart')
open PySem.MeetsSeq PySem.MeetsSeq2 PySem.MeetsSeq3

theorem tuple_lt_ints (l b : Addr) (items items2 : Array Value) (n n2 : Nat) (dd dd2 : Option Addr) (sl sl2 : Array (Option Value)) (ns ms : List Int) (hi : IntsAre items.toList ns) (hj : IntsAre items2.toList ms) :
    Meets (Builtin.«tuple.__lt__» ⟨[.ref l, .ref b], []⟩)
      (fun _ R s => s.heap.get? l = some { cls := .type "tuple", dict := dd, data := .seq items n, slots := sl } ∧ s.heap.get? b = some { cls := .type "tuple", dict := dd2, data := .seq items2 n2, slots := sl2 } ∧
        R (.ok (.ret (.bool (lexLt ns ms)))) s) :=
  .of_wp fun prog w A R s h => by
    obtain ⟨hp, g, d, tk, os⟩ := s; obtain ⟨hl, hb, h⟩ := h
    have f2 := AutoSeq1.sub_tuple_tuple
    have z1 : items.size = ns.length := by rw [← hi.length]; simp
    have z2 : items2.size = ms.length := by rw [← hj.length]; simp
    wp_walk using wpAny_loadPart' hl, wpAny_loadPart' hb, wpAny_forIn_list _ (fun rest b s' => b.1 = none ∧ s' = ⟨hp, g, d, tk, os⟩ ∧ ∃ (vs ws : List Value) (ns' ms' : List Int), rest = vs.zip ws ∧
      IntsAre vs ns' ∧ IntsAre ws ms' ∧ ns'.length + items2.size = ms'.length + items.size ∧ R (.ok (.ret (.bool (lexLt ns' ms')))) ⟨hp, g, d, tk, os⟩) _
    case turn =>
      rintro ⟨y, x⟩ rest b s' ⟨hb', rfl, vs, ws, ns', ms', hz, hvi, hwi, hlen, hR⟩
      cases hvi with
      | nil => rw [List.zip_nil_left] at hz; cases hz
      | cons a t hvi' =>
        cases hwi with
        | nil => rw [List.zip_nil_right] at hz; cases hz
        | cons c u hwi' =>
          rw [List.zip_cons_cons] at hz
          injection hz with hyx hrest
          injection hyx with hy hx
          subst hy hx
          rw [lexLt_cons] at hR
          simp only [List.length_cons] at hlen
          obtain ⟨e, he, hiff⟩ := eqAt_int A.in1 ⟨hp, g, d, tk, os⟩ a t c u
          refine wpAny_bind (he prog w _ _ ?_)
          cases e with
          | true =>
            rw [if_pos (hiff.mp rfl)] at hR
            wp_walk
            exact ⟨rfl, rfl, _, _, _, _, hrest, hvi', hwi', by omega, hR⟩
          | false =>
            rw [if_neg (fun q => absurd (hiff.mpr q) Bool.false_ne_true)] at hR
            have hri := rcLt_int A.in1 ⟨hp, g, d, tk, os⟩ a t c u prog w
            wp_walk using hri
            exact ⟨_, rfl, by simpa using hR⟩
    case fin =>
      rintro ⟨b1, b2⟩ s' ⟨hb', rfl, vs, ws, ns', ms', hz, hvi, hwi, hlen, hR⟩
      simp only at hb'
      subst hb'
      have hv : lexLt ns' ms' = decide (items.size < items2.size) := by
        cases hvi with
        | nil =>
          cases hwi with
          | nil =>
            simp only [List.length_nil] at hlen
            rw [lexLt_nil_nil]
            exact (decide_eq_false (by omega)).symm
          | cons c u hw =>
            simp only [List.length_nil, List.length_cons] at hlen
            rw [lexLt_nil_cons]
            exact (decide_eq_true (by omega)).symm
        | cons a t hv =>
          cases hwi with
          | nil =>
            simp only [List.length_nil, List.length_cons] at hlen
            rw [lexLt_cons_nil]
            exact (decide_eq_false (by omega)).symm
          | cons c u hw =>
            rw [List.zip_cons_cons] at hz
            cases hz
      rw [hv] at hR
      wp_walk
      exact ⟨_, rfl, by simpa [Builtin.Tuple.tupleCompareSizes] using hR⟩
    case h =>
      exact ⟨rfl, rfl, items.toList, items2.toList, ns, ms, rfl, hi, hj, by omega, h⟩
end

section
variable {prog : Program} {w : World} {A : Around} {E : Value → Shared → Prop} {s : Shared}

theorem lt_tupInts {l b : Addr} {items items2 : Array Value} {ns ms : List Int} {Q : Value → Shared → Prop} (hl : IsTup s.heap l items) (hb : IsTup s.heap b items2) (hi : IntsAre items.toList ns) (hj : IntsAre items2.toList ms)
    (hu : A.units < cLine) (h : Q (.bool (lexLt ns ms)) s) : wpAny (model prog w) A (compareOp .Lt (.ref l) (.ref b)) Q E s := by
  obtain ⟨⟨cls, dd, data, sl⟩, ho, hc, n, hd⟩ := id hl
  obtain ⟨⟨cls2, dd2, data2, sl2⟩, ho2, hc2, n2, hd2⟩ := id hb
  simp only at hc hd hc2 hd2
  subst hc hd hc2 hd2
  exact richCompare_meets_room (op := .Lt) ⟨_, ho, rfl⟩ ⟨_, ho2, rfl⟩ PySem.F.slot_tuple_lt PySem.F.entry_tuple_lt (PySem.F.args_tuple_lt_2 _ _) (tuple_lt_ints l b items items2 n n2 dd dd2 sl sl2 ns ms hi hj)
    ⟨ho, ho2, show Value.bool (lexLt ns ms) ≠ Value.notImplemented ∧ Q (.bool (lexLt ns ms)) s from ⟨(fun x => nomatch x), h⟩⟩ hu

end
end HT

namespace L2
open PySem PySem.Spec PyProof.Rows

/-! ### the parts of a slice -/
abbrev TO := St → Hp → (Option Int → Hp → Prop) → Prop
theorem intsAre_of {ns : List Int} : ∀ {us : List Value}, Vals (ns.map V.int) us → IntsAre us ns := by
  induction ns with
  | nil => intro us r; rw [List.map_nil] at r; cases r; exact .nil
  | cons n ns ih =>
    intro us r
    rw [List.map_cons] at r
    cases r with
    | cons r1 r2 =>
      obtain ⟨t, e⟩ := r1
      subst e
      exact .cons n t (ih r2)

section
variable {X : Cx} {e : Expr} {te : TE} {lo hi : Option Expr} {tl th : TO} {pos p2 : Pos}

/-- what a slice of a value is, by values: the slice object stands at sl -/
def SlR (X : Cx) (r : V → Option Int → Option Int → Hp → VK → Prop) : Prop :=
  ∀ (pins : List (Addr × Obj)) (s : Shared) (σ : St) (H : Hp) (x : V) (v vl vu : Value) (lo hi : Option Int) (sl : Addr) (Q : VK), Inv X pins σ H s → RelV x v → s.heap.IsSliceOf sl vl vu .none → IsPart vl lo → IsPart vu hi → r x lo hi H Q →
    ∃ T id, typeLookup (.type T) "__getitem__" = pure (some (.builtin id)) ∧ s.TypeIs v T ∧ wpAny (model X.prog X.w) X.A (getItem v (.ref sl)) (EP X pins σ Q) X.xe s
theorem SlR.or {r r' : V → Option Int → Option Int → Hp → VK → Prop} (h : SlR X r) (h' : SlR X r') : SlR X (fun x lo hi H Q => r x lo hi H Q ∨ r' x lo hi H Q) := by
  intro pins s σ H x v vl vu lo hi sl Q I rx hs pl pu q
  rcases q with q | q
  · exact h pins s σ H x v vl vu lo hi sl Q I rx hs pl pu q
  · exact h' pins s σ H x v vl vu lo hi sl Q I rx hs pl pu q
/-! ### t < u, t + u -/
def rLtT (K : PySem.W.Frag) : R2 := fun x y H Q => ∃ a b ns ms, x = .ref a ∧ y = .ref b ∧ SqT K H a (ns.map V.int) ∧ SqT K H b (ms.map V.int) ∧ Q (.bl (HT.lexLt ns ms)) H
theorem op_ltT (hu : X.A.units < cLine) : OpR X (compareOp .Lt) (rLtT X.K) := by
  intro pins s σ H x y v u Q I rx ry h
  obtain ⟨a, b, ns, ms, rfl, rfl, ha, hb, q⟩ := h
  cases rx
  cases ry
  obtain ⟨its, r1, p1, _⟩ := I.tuple ha
  obtain ⟨its2, r2, p2, _⟩ := I.tuple hb
  have i1 : IntsAre its.toArray.toList ns := intsAre_of r1
  have i2 : IntsAre its2.toArray.toList ms := intsAre_of r2
  exact HT.lt_tupInts p1 p2 i1 i2 hu ⟨.bl (HT.lexLt ns ms), H, I, rfl, q⟩
end
end L2

namespace L2
open PySem PySem.Spec PyProof.Rows

/-! ### places -/
/-- the place that an index of any sign means -/
def ixN (n : Nat) (i : Int) : Option Nat := if 0 ≤ i then (if i < n then some i.toNat else none) else if -(n : Int) ≤ i then some (i + n).toNat else none
def atI {α : Type} (xs : List α) (i : Int) : Option α := (ixN xs.length i).bind fun j => xs[j]?
theorem ixN_seq {n : Nat} {i : Int} {j : Nat} (h : ixN n i = some j) : seqIndex? i n = some j ∧ j < n ∧ -(n : Int) ≤ i ∧ i < n := by
  unfold ixN at h
  by_cases h0 : 0 ≤ i
  · rw [if_pos h0] at h
    by_cases h1 : i < n
    · rw [if_pos h1] at h
      have e : i.toNat = j := Option.some.inj h
      exact ⟨by rw [seqIndex_of h0 h1, e], by omega, by omega, h1⟩
    · rw [if_neg h1] at h; cases h
  · rw [if_neg h0] at h
    by_cases h1 : -(n : Int) ≤ i
    · rw [if_pos h1] at h
      have e : (i + n).toNat = j := Option.some.inj h
      exact ⟨by rw [seqIndex_neg (by omega) h1, e], by omega, h1, by omega⟩
    · rw [if_neg h1] at h; cases h
theorem atI_get {α : Type} {xs : List α} {i : Int} {v : α} (h : atI xs i = some v) : ∃ j, seqIndex? i xs.length = some j ∧ xs[j]? = some v ∧ j < xs.length ∧ -(xs.length : Int) ≤ i ∧ i < xs.length := by
  unfold atI at h
  cases e : ixN xs.length i with
  | none => rw [e] at h; cases h
  | some j =>
    rw [e] at h
    obtain ⟨h1, h2, h3, h4⟩ := ixN_seq e
    exact ⟨j, h1, h, h2, h3, h4⟩
theorem atI_nat {α : Type} {xs : List α} {j : Nat} {v : α} (h : xs[j]? = some v) : atI xs (j : Int) = some v := by
  have hj : j < xs.length := (List.getElem?_eq_some_iff.mp h).1
  have e : ixN xs.length (j : Int) = some j := by
    unfold ixN
    rw [if_pos (by omega), if_pos (by omega)]; simp
  unfold atI; rw [e]; exact h
/-! ### what may be subscripted -/
/-- what stands as an index of a plain subscript -/
def PlainIx (b : Expr) : Prop := ∀ o i, subscripted b false o i = operate [o, i] (getItem o i)
/-- a subscript by values -/
def IxR (X : Cx) (r : R2) : Prop :=
  ∀ (value slice : Expr) (pins : List (Addr × Obj)) (s : Shared) (σ : St) (H : Hp) (x y : V) (v u : Value) (Q : VK), Inv X pins σ H s → RelV x v → RelV y u → r x y H Q →
    subscripted slice false v u = operate [v, u] (getItem v u) → wpAny (model X.prog X.w) X.A (subscriptTail value slice v u) (EP X pins σ Q) X.xe s
/-- a call of a builtin's method by values: the receiver, the arguments -/
def MtR (X : Cx) (id : String) (r : V → List V → Hp → VK → Prop) : Prop :=
  ∀ (pins : List (Addr × Obj)) (s : Shared) (σ : St) (H : Hp) (x : V) (xs : List V) (v : Value) (us : List Value) (Q : VK), Inv X pins σ H s → RelV x v → Vals xs us → r x xs H Q →
    wpAny (model X.prog X.w) X.A (call (.builtin id) (v :: us)) (EP X pins σ Q) X.xe s
section
variable {X : Cx} {a b : Expr} {ta tb : TE} {pos : Pos}
theorem IxR.or {r r' : R2} (h : IxR X r) (h' : IxR X r') : IxR X (fun x y H Q => r x y H Q ∨ r' x y H Q) := by
  intro value slice pins s σ H x y v u Q I rx ry q hs
  rcases q with q | q
  · exact h value slice pins s σ H x y v u Q I rx ry q hs
  · exact h' value slice pins s σ H x y v u Q I rx ry q hs
theorem MtR.or {id : String} {r r' : V → List V → Hp → VK → Prop} (h : MtR X id r) (h' : MtR X id r') : MtR X id (fun x xs H Q => r x xs H Q ∨ r' x xs H Q) := by
  intro pins s σ H x xs v us Q I rx rs q
  rcases q with q | q
  · exact h pins s σ H x xs v us Q I rx rs q
  · exact h' pins s σ H x xs v us Q I rx rs q
/-- a[b] -/
theorem pe_ix {r : R2} (hr : IxR X r) (ha : PE X a ta) (hb : PE X b tb) (hs : PlainIx b) : PE X (.Subscript a b pos) (tOp r ta tb) := by
  intro pins s σ H Q I h
  exact Subscript_ (binT ha hb I h fun v u s2 x y H2 I2 rx ry q => hr a b pins s2 σ H2 x y v u Q I2 rx ry q (hs _ _))

def rIxL (K : PySem.W.Frag) : R2 := fun x y H Q => ∃ p xs i v, x = .ref p ∧ y = .int i ∧ SqL K H p xs ∧ atI xs i = some v ∧ Q v H
def rIxT (K : PySem.W.Frag) : R2 := fun x y H Q => ∃ p xs i v, x = .ref p ∧ y = .int i ∧ SqT K H p xs ∧ atI xs i = some v ∧ Q v H
def rIxS : R2 := fun x y H Q => ∃ z i c, x = .str z ∧ y = .int i ∧ z.length ≤ sizeLine ∧ atI z.cps.toList i = some c ∧ Q (.str ⟨#[c]⟩) H
theorem ix_list : IxR X (rIxL X.K) := by
  intro value slice pins s σ H x y v u Q I rx ry h hs
  obtain ⟨p, xs, i, z, rfl, rfl, hq, he, q⟩ := h
  cases rx
  obtain ⟨t, rfl⟩ := ry
  obtain ⟨its, r, pl, hz⟩ := I.list hq
  obtain ⟨j, h1, h2, h3, h4, h5⟩ := atI_get he
  obtain ⟨w, ew, rw'⟩ := r.get h2
  have hl := r.length
  have hn := line63
  have fin : EP X pins σ Q w s := ⟨z, H, I, rw', q⟩
  by_cases h0 : 0 ≤ i
  · have hj : i.toNat = j := by
      rw [seqIndex_of h0 h5] at h1
      exact Option.some.inj h1
    exact item_listR pl.isList h0 (by omega) (by rw [hj]; simpa using ew) fin hs
  · have hj : (i + (its.toArray.size : Int)).toNat = j := by
      rw [seqIndex_neg (by omega) h4] at h1
      rw [List.size_toArray, ← hl]
      exact Option.some.inj h1
    exact subscriptTail_builtinR (x := w) pl.isList.typeIs slot_list_getitem.lookup
      (wpAny_getItem_list_neg (Q := fun r s' => r = w ∧ EP X pins σ Q r s') pl.isList (by omega) (by rw [List.size_toArray] <;> omega) (by omega) (by rw [hj]; simpa using ew) ⟨rfl, fin⟩) hs
theorem ix_tup : IxR X (rIxT X.K) := by
  intro value slice pins s σ H x y v u Q I rx ry h hs
  obtain ⟨p, xs, i, z, rfl, rfl, hq, he, q⟩ := h
  cases rx
  obtain ⟨t, rfl⟩ := ry
  obtain ⟨its, r, pl, hz⟩ := I.tuple hq
  obtain ⟨j, h1, h2, h3, h4, h5⟩ := atI_get he
  obtain ⟨w, ew, rw'⟩ := r.get h2
  have hl := r.length
  have hn := line63
  have fin : EP X pins σ Q w s := ⟨z, H, I, rw', q⟩
  exact subscriptTail_builtinR (x := w) pl.typeIs slot_tuple_getitem.lookup
    (getItem_tuple (j := j) (Q := fun r s' => r = w ∧ EP X pins σ Q r s') pl (by omega) (by omega) (by rw [List.size_toArray, ← hl]; exact h1) (by simpa using ew) ⟨rfl, fin⟩) hs
theorem ix_str : IxR X rIxS := by
  intro value slice pins s σ H x y v u Q I rx ry h hs
  obtain ⟨z, i, c, rfl, rfl, hz, he, q⟩ := h
  obtain ⟨t, rfl⟩ := rx
  obtain ⟨t', rfl⟩ := ry
  obtain ⟨j, h1, h2, h3, h4, h5⟩ := atI_get he
  have hl : z.cps.toList.length = z.length := by simp [Str.length]
  rw [hl] at h1 h4 h5
  have hn := line63
  exact tail_any (typeIs_str s z t) slot_str_getitem.lookup (getItem_str (c := c) (by
    have e1 : decide (i < -(2 ^ 63 : Int)) = false := decide_eq_false (by omega)
    have e2 : decide (i ≥ 2 ^ 63) = false := decide_eq_false (by omega)
    rw [e1, e2, Bool.or_false]) (by rw [h1]; simpa using h2) ⟨.str ⟨#[c]⟩, H, I.tok _, ⟨_, rfl⟩, q⟩) hs
/-- list, tuple or str -/
def rIx (K : PySem.W.Frag) : R2 := fun x y H Q => rIxL K x y H Q ∨ rIxT K x y H Q ∨ rIxS x y H Q
theorem ix_seq : IxR X (rIx X.K) := ix_list.or (ix_tup.or ix_str)

/-! ### xs[i] = v, any sign -/
/-- the list's object behind a store -/
theorem mapSeq_set (its : List Value) (n j : Nat) (u : Value) : Obj.mapSeq (·.setIfInBounds j u) { cls := .type "list", data := .seq its.toArray n } = { cls := .type "list", data := .seq (its.set j u).toArray n } := by
  simp [Obj.mapSeq]
theorem Inv.lst {pins : List (Addr × Obj)} {σ : St} {H : Hp} {s : Shared} {p : Addr} {xs : List V} (I : Inv X pins σ H s) (h : H p = some (.lst xs)) :
    ∃ (its : List Value) (n : Nat), Vals xs its ∧ s.heap.get? p = some { cls := .type "list", data := .seq its.toArray n } ∧ xs.length ≤ sizeLine := by
  obtain ⟨z, its, n, r, e⟩ := I.hok p _ h
  exact ⟨its, n, r, e, z⟩
/-- the list at p is written by an update of its object -/
theorem Inv.lstUpd {pins : List (Addr × Obj)} {σ : St} {H : Hp} {s : Shared} {p : Addr} {xs ys : List V} {its its' : List Value} {n n' : Nat} {f : Obj → Obj} (I : Inv X pins σ H s) (h : H p = some (.lst xs))
    (ho : s.heap.get? p = some { cls := .type "list", data := .seq its.toArray n }) (hf : f { cls := .type "list", data := .seq its.toArray n } = { cls := .type "list", data := .seq its'.toArray n' }) (r : Vals ys its') (hz : ys.length ≤ sizeLine) (t : Nat) :
    Inv X pins σ (upd H p (.lst ys)) { s with heap := s.heap.update p f, toks := t } := by
  have e : (s.heap.update p f).get? p = some { cls := .type "list", data := .seq its'.toArray n' } := by
    rw [Heap.get?_update_self f ho (by rw [hf] <;> rfl), hf]
  refine I.write (x := p) (e := p) (by rw [h]; trivial) (.inl rfl) (fun b u hb q => (Heap.get?_update_other _ _ (Ne.symm hb)).trans q) ⟨_, e⟩ ?_
  exact ⟨hz, its', n', r, e⟩
def rSetL : V → V → V → Hp → (Hp → Prop) → Prop := fun o i v H Q => ∃ p xs k j, o = .ref p ∧ i = .int k ∧ H p = some (.lst xs) ∧ ixN xs.length k = some j ∧ Q (upd H p (.lst (xs.set j v)))
theorem set_list : PSet X rSetL := by
  intro pins s σ H o i v ov iv u Q I ro ri rv h
  obtain ⟨p, xs, k, j, rfl, rfl, hp, hj, q⟩ := h
  cases ro
  obtain ⟨t, rfl⟩ := ri
  obtain ⟨its, n, r, ho, hz⟩ := I.lst hp
  obtain ⟨h1, h2, h3, h4⟩ := ixN_seq hj
  have hl := r.length
  have hn := line63
  have I' : Inv X pins σ (upd H p (.lst (xs.set j v))) { s with heap := s.heap.update p (Obj.mapSeq (·.setIfInBounds j u)) } :=
    I.lstUpd hp ho (mapSeq_set its n j u) (r.set rv j) (by rw [List.length_set]; exact hz) s.toks
  by_cases h0 : 0 ≤ k
  · have hk : k.toNat = j := by
      rw [seqIndex_of h0 h4] at h1
      exact Option.some.inj h1
    exact PySem.W.ki_setAt ho h0 (by omega) (by rw [List.size_toArray, ← hl]; exact h4) (by rw [hk]; exact ⟨_, I', q⟩)
  · have hk : (k + (its.toArray.size : Int)).toNat = j := by
      rw [seqIndex_neg (by omega) h3] at h1
      rw [List.size_toArray, ← hl]
      exact Option.some.inj h1
    exact PySem.W.ki_setBack ho (by omega) (by rw [List.size_toArray, ← hl]; exact h3) (by omega) (by rw [hk]; exact ⟨_, I', q⟩)

/-- == of flat values -/
def eqV : V → V → Bool
  | .non, .non => true
  | .bl a, .bl b => a == b
  | .bl a, .int b => (if a then 1 else 0) == b
  | .int a, .bl b => a == (if b then 1 else 0)
  | .int a, .int b => a == b
  | .str a, .str b => a == b
  | _, _ => false
def inV (x : V) (xs : List V) : Bool := xs.any fun y => eqV y x
/-! ### len, list(x), tuple(x) of any list or tuple that is read -/
theorem call_len_seq : CallR X (.builtin "len") (fun xs H Q => ∃ p ys, xs = [.ref p] ∧ (SqL X.K H p ys ∨ SqT X.K H p ys) ∧ Q (.int ys.length) H) := by
  intro pins s σ H xs us Q I r h
  obtain ⟨p, ys, rfl, hq, q⟩ := h
  obtain ⟨u, rfl, rx⟩ := vals1 r
  cases rx
  have hn := line63
  rcases hq with hq | hq
  · obtain ⟨its, r', pl, hz⟩ := I.list hq
    have hlen := r'.length
    exact Calls.call_len_list pl.isList (by simp only [List.size_toArray] <;> omega) ⟨.int ys.length, H, I.tok _, ⟨s.toks + 1, by rw [List.size_toArray, hlen]⟩, q⟩
  · obtain ⟨its, r', pl, hz⟩ := I.tuple hq
    have hlen := r'.length
    exact len_tuple pl (by simp only [List.size_toArray] <;> omega) ⟨.int ys.length, H, I.tok _, ⟨s.toks + 1, by rw [List.size_toArray, hlen]⟩, q⟩
theorem call_len_str : CallR X (.builtin "len") (fun xs H Q => ∃ z, xs = [.str z] ∧ z.length ≤ sizeLine ∧ Q (.int z.length) H) := by
  intro pins s σ H xs us Q I r h
  obtain ⟨z, rfl, hz, q⟩ := h
  obtain ⟨u, rfl, t, rfl⟩ := vals1 r
  have hn := line63
  exact len_str (by omega) ⟨.int z.length, H, I.tok _, ⟨_, rfl⟩, q⟩
theorem CallR.or {f : Value} {r r' : List V → Hp → VK → Prop} (h : CallR X f r) (h' : CallR X f r') : CallR X f (fun xs H Q => r xs H Q ∨ r' xs H Q) := by
  intro pins s σ H xs us Q I rs q
  rcases q with q | q
  · exact h pins s σ H xs us Q I rs q
  · exact h' pins s σ H xs us Q I rs q
theorem call_list_of : CallR X (.type "list") (fun xs H Q => ∃ p ys, xs = [.ref p] ∧ (SqL X.K H p ys ∨ SqT X.K H p ys) ∧ ∀ l, H l = none → Q (.ref l) (upd H l (.lst ys))) := by
  intro pins s σ H xs us Q I r h
  obtain ⟨p, ys, rfl, hq, q⟩ := h
  obtain ⟨u, rfl, rx⟩ := vals1 r
  cases rx
  have fin : ∀ (its : List Value), Vals ys its → ys.length ≤ sizeLine → ∀ (h' : Heap) (c' : Nat), (∀ b o', s.heap.get? b = some o' → h'.get? b = some o') →
      h'.get? s.heap.objs.size = some { cls := .type "list", dict := none, data := .seq its.toArray c', slots := #[] } → EP X pins σ Q (.ref s.heap.objs.size) { s with heap := h' } := fun its r' hz h' c' kp e =>
    ⟨.ref s.heap.objs.size, _, I.laid (t' := s.toks) kp (Nat.le_refl _) (show ObjOk X.prog X.w _ h' _ (.lst ys) from ⟨hz, its, c', r', e⟩), rfl, q _ (I.hok.fresh (Nat.le_refl _))⟩
  rcases hq with hq | hq
  · obtain ⟨its, r', pl, hz⟩ := I.list hq
    have hlen := r'.length
    obtain ⟨o, ho, hc, n, hd⟩ := pl.isList
    exact call_list_seq p (.inl rfl) ho hc hd (fun h' c' kp e => fin its r' hz h' c' kp e) (by simp only [List.size_toArray] <;> omega)
  · obtain ⟨its, r', pl, hz⟩ := I.tuple hq
    have hlen := r'.length
    obtain ⟨o, ho, hc, n, hd⟩ := pl
    exact call_list_seq p (.inr rfl) ho hc hd (fun h' c' kp e => fin its r' hz h' c' kp e) (by simp only [List.size_toArray] <;> omega)
/-! ### the call of a builtin's method: o.m(..) -/
/-- the value is of that builtin type -/
def tyV (K : PySem.W.Frag) (T : String) (x : V) (H : Hp) : Prop := match x with
  | .str _ => T = "str"
  | .int _ => T = "int"
  | .ref p => (T = "list" ∧ ∃ xs, SqL K H p xs) ∨ (T = "tuple" ∧ ∃ o, K.lookup p = some o ∧ o.cls = .type "tuple" ∧ o.dict = none) ∨
      (T = "dict" ∧ ((∃ kvs, H p = some (.dK kvs)) ∨ ∃ kvs, H p = some (.dT kvs))) ∨ (T = "set" ∧ ∃ S n, H p = some (.set S n))
  | _ => False
theorem tyV_is {pins : List (Addr × Obj)} {σ : St} {H : Hp} {s : Shared} {T : String} {x : V} {v : Value} (I : Inv X pins σ H s) (r : RelV x v) (ty : tyV X.K T x H) :
    s.TypeIs v T ∧ ∀ a, v = .ref a → ∃ ob, s.heap.get? a = some ob ∧ ob.dict = none := by
  cases x with
  | str z =>
    obtain ⟨t, rfl⟩ := r
    cases (show T = "str" from ty)
    exact ⟨typeIs_str s z t, fun _ e => nomatch e⟩
  | int i =>
    obtain ⟨t, rfl⟩ := r
    cases (show T = "int" from ty)
    exact ⟨typeIs_int s i t, fun _ e => nomatch e⟩
  | ref p =>
    cases r
    rcases ty with ⟨rfl, xs, hq⟩ | ⟨rfl, o, hk, hc, hd⟩ | ⟨rfl, hk⟩ | ⟨rfl, S, n, hk⟩
    · obtain ⟨its, _, pl, _⟩ := I.list hq
      refine ⟨pl.isList.typeIs, fun a e => ?_⟩
      cases e
      obtain ⟨o, n, e, c, hd, _⟩ := pl
      exact ⟨o, e, hd⟩
    · refine ⟨⟨o, I.kIn p o hk, hc⟩, fun a e => ?_⟩
      cases e
      exact ⟨o, I.kIn _ o hk, hd⟩
    · have z : ∃ o, s.heap.get? p = some o ∧ o.ExactDict := by
        rcases hk with ⟨kvs, hk⟩ | ⟨kvs, hk⟩
        · obtain ⟨_, _, _, _, o, _, _, e, ex, _⟩ := I.hok p _ hk
          exact ⟨o, e, ex⟩
        · obtain ⟨_, _, _, _, o, _, _, e, ex, _⟩ := I.hok p _ hk
          exact ⟨o, e, ex⟩
      obtain ⟨o, e, ex⟩ := z
      refine ⟨⟨o, e, ex.1⟩, fun a e2 => ?_⟩
      cases e2
      exact ⟨o, e, ex.2.1⟩
    · obtain ⟨o, _, _, _, e, ex, _⟩ := I.hok p _ hk
      refine ⟨⟨o, e, ex.1⟩, fun a e2 => ?_⟩
      cases e2
      exact ⟨o, e, ex.2.1⟩
  | _ => exact False.elim ty
def tBM (K : PySem.W.Frag) (T : String) (r : V → List V → Hp → VK → Prop) (to : TE) (t : TA) : TE := fun σ H Q => to σ H fun x H1 => tyV K T x H1 ∧ t σ H1 fun xs H2 => r x xs H2 Q
variable {o e : Expr} {es : List Expr} {to : TE} {t : TA} {name : Str} {apos cpos : Pos} {T id : String} {r : V → List V → Hp → VK → Prop}
theorem pe_bm (pa : PlainAttrs T) (slot : Slot T name id) (hty : typeOf (.builtin id) = pure (.type "method_descriptor")) (hm : MtR X id r) (ho : PE X o to) (ha : PA X (e :: es) t)
    (hbase : attributeBase o name X.env (eval o X.env) = eval o X.env := by rfl)
    (hfew : ((backTo cpos (starEach (e :: es) X.env)).all (fun x => !x.1) && (backToKw cpos (keywordEach [] X.env)).all (fun x => x.1.isSome)
      && decide ((e :: es).length + ([] : List Keyword).length + (if ([] : List Keyword).isEmpty then 0 else 1) < 30)) = true := by rfl)
    (hline : (apos.endLine == cpos.line) = true := by rfl) (hs : starEach (e :: es) X.env = (false, eval e X.env) :: starEach es X.env := by rfl) (hplain : (backTo cpos (starEach es X.env)).any (·.1) = false := by rfl) :
    PE X (.Call (.Attribute o name apos) (e :: es) [] cpos) (tBM X.K T r to t) := by
  intro pins s σ H Q I h
  refine wpAny_Call_method_late hbase hfew hline rfl (thn (ho pins s σ H _ I h) fun v s1 hw' => ?_)
  obtain ⟨x, H1, I1, r1, ty, q1⟩ := hw'
  obtain ⟨h1, h2⟩ := tyV_is I1 r1 ty
  refine ⟨T, id, pa, slot, hty, h1, h2, ?_⟩
  have hA := ha cpos pins s1 σ H1 _ I1 q1
  rw [hs] at hA ⊢
  refine Calls.callWith_builtin (by show (false || (backTo cpos (starEach es X.env)).any (·.1)) = false; rw [hplain] <;> rfl) (Calls.evalArgs_plain ?_)
  exact thn hA fun us s2 ⟨vs, H2, I2, r2, q2⟩ => hm pins s2 σ H2 x vs v us Q I2 r1 r2 q2
/- xs.append(e), list.index on a module's tuple .. are MtR facts of 06m -/
end
end L2

namespace L2
open PySem PySem.Spec PyProof.Rows

def MtM (X : Cx) (id : String) (r : V → List V → Hp → VK → Prop) : Prop :=
  ∀ (pins : List (Addr × Obj)) (s : Shared) (σ : St) (H : Hp) (x : V) (xs : List V) (v : Value) (us : List Value) (Q : VK), Inv X pins σ H s → RelV x v → Vals xs us → r x xs H Q →
    wpAny (model X.prog X.w) X.A (call (.builtin id) (v :: us)) (EP X pins σ Q) X.xe s

/-! ### lists of values -/
theorem Vals.one {x : V} {us : List Value} (h : Vals [x] us) : ∃ u, us = [u] ∧ RelV x u := vals1 h
theorem Vals.two {x y : V} {us : List Value} (h : Vals [x, y] us) : ∃ u v, us = [u, v] ∧ RelV x u ∧ RelV y v := vals2 h
theorem Vals.zero : ∀ {us : List Value}, Vals [] us → us = []
  | _, .nil => rfl
theorem Vals.eraseIdx : ∀ {xs : List V} {us : List Value} (i : Nat), Vals xs us → Vals (xs.eraseIdx i) (us.eraseIdx i)
  | _, _, _, .nil => .nil
  | _, _, 0, .cons _ t => t
  | _, _, i + 1, .cons r t => .cons r (Vals.eraseIdx i t)
theorem Vals.reverse {xs : List V} {us : List Value} (h : Vals xs us) : Vals xs.reverse us.reverse := by
  induction h with
  | nil => exact .nil
  | cons r t ih => rw [List.reverse_cons, List.reverse_cons]; exact Vals.append ih (.cons r .nil)
theorem Vals.rep {xs : List V} {us : List Value} (h : Vals xs us) : ∀ k : Nat, Vals (List.replicate k xs).flatten (List.replicate k us).flatten
  | 0 => .nil
  | k + 1 => by
    rw [List.replicate_succ, List.replicate_succ, List.flatten_cons, List.flatten_cons]
    exact Vals.append h (Vals.rep h k)
theorem foldl_rep (its : List Value) : ∀ (k : Nat) (acc : List Value),
    List.foldl (fun x1 x2 => x1 ++ x2) acc.toArray (List.replicate k its.toArray) = (acc ++ (List.replicate k its).flatten).toArray
  | 0, acc => by simp
  | k + 1, acc => by
    have e : acc.toArray ++ its.toArray = (acc ++ its).toArray := by simp
    have e2 : (acc ++ its) ++ (List.replicate k its).flatten = acc ++ (List.replicate (k + 1) its).flatten := by
      rw [List.replicate_succ, List.flatten_cons, List.append_assoc]
    rw [← e2, ← foldl_rep its k (acc ++ its), ← e, List.replicate_succ, List.foldl_cons]

section
variable {X : Cx} {pins : List (Addr × Obj)} {σ : St} {H : Hp} {s : Shared} {l b : Addr} {xs ys zs : List V}

/-! ### the two steps: a tracked list is rewritten, a new list is laid -/
theorem Inv.lset {its its' : List Value} {n : Nat} {f : Array Value → Array Value} {t' : Nat} (I : Inv X pins σ H s) (hH : H l = some (.lst xs))
    (e : s.heap.get? l = some { cls := .type "list", data := .seq its.toArray n }) (hf : f its.toArray = its'.toArray) (hv : Vals ys its') (hz : ys.length ≤ sizeLine) :
    Inv X pins σ (upd H l (.lst ys)) { s with heap := s.heap.update l (Obj.mapSeq f), toks := t' } := by
  have q := PySem.IsL.update e f
  rw [hf] at q
  refine I.write (x := l) (e := l) (by rw [hH]; exact trivial) (.inl rfl) (fun b' u hb hu => (Heap.get?_update_other s.heap (Obj.mapSeq f) (Ne.symm hb)).trans hu) ⟨_, q⟩ ?_
  exact ⟨hz, its', _, hv, q⟩
theorem Inv.lnew {its : List Value} {t' : Nat} (I : Inv X pins σ H s) (hv : Vals ys its) (hz : ys.length ≤ sizeLine) :
    Inv X pins σ (upd H s.heap.objs.size (.lst ys)) { s with heap := s.heap.push { cls := .type "list", data := .seq its.toArray }, toks := t' } :=
  I.laid (fun _ _ q => Heap.get?_push_of_some _ q) (Nat.le_refl _) ⟨hz, its, 0, hv, Heap.get?_push_size _ rfl⟩
theorem Inv.fresh (I : Inv X pins σ H s) : H s.heap.objs.size = none := I.hok.fresh (Nat.le_refl _)
theorem Inv.lstM (I : Inv X pins σ H s) (hH : H l = some (.lst xs)) : xs.length ≤ sizeLine ∧ ∃ (its : List Value) (n : Nat), Vals xs its ∧ xs.length = its.length ∧ s.heap.get? l = some { cls := .type "list", data := .seq its.toArray n } := by
  obtain ⟨z, its, n, r, e⟩ := I.hok l _ hH
  exact ⟨z, its, n, r, r.length, e⟩

theorem notLongL {n : Nat} (h : n ≤ sizeLine) : Builtin.List.listTooLong n = false := by
  unfold Builtin.List.listTooLong
  exact decide_eq_false (by omega)
end

section
variable {X : Cx}

/-! ### methods -/
def rAppend : V → List V → Hp → VK → Prop := fun x vs H Q => ∃ l xs y, x = .ref l ∧ vs = [y] ∧ H l = some (.lst xs) ∧ xs.length < sizeLine ∧ Q .non (upd H l (.lst (xs ++ [y])))
theorem mt_append : MtM X "list.append" rAppend := by
  intro pins s σ H x vs v us Q I rx rv h
  obtain ⟨l, xs, y, rfl, rfl, hH, hz, q⟩ := h
  cases rx
  obtain ⟨u, rfl, ru⟩ := rv.one
  obtain ⟨z, its, n, r, hl, e⟩ := I.lstM hH
  refine call_meets F.slot_list_append ⟨_, e, rfl⟩ F.entry_list_append (F.args_list_append_2 _ _) (PySem.list_append l its.toArray n u (by rw [List.size_toArray]; omega)) ⟨e, ?_⟩
  refine ⟨.non, _, I.lset (its' := its ++ [u]) hH e (by simp) (r.append (.cons ru .nil)) ?_, rfl, q⟩
  rw [List.length_append, List.length_singleton]
  omega

/-! ### list + list, list += list, list * int -/
def rCat : R2 := fun x y H Q => ∃ l b xs zs, x = .ref l ∧ y = .ref b ∧ H l = some (.lst xs) ∧ H b = some (.lst zs) ∧ xs.length + zs.length ≤ sizeLine ∧ ∀ p, H p = none → Q (.ref p) (upd H p (.lst (xs ++ zs)))
theorem op_cat : OpR X (binaryOp .Add) rCat := by
  intro pins s σ H x y v u Q I rx ry h
  obtain ⟨l, b, xs, zs, rfl, rfl, hH, hB, hz, q⟩ := h
  cases rx
  cases ry
  obtain ⟨z, its, n, r, hl, e⟩ := I.lstM hH
  obtain ⟨z2, its2, n2, r2, hl2, e2⟩ := I.lstM hB
  refine PySem.P.add_list e e2 ?_ (by rw [List.size_toArray, List.size_toArray]; omega)
  have ea : its.toArray ++ its2.toArray = (its ++ its2).toArray := by simp
  rw [ea]
  exact ⟨.ref _, _, I.lnew (t' := s.toks) (r.append r2) (by rw [List.length_append]; omega), rfl, q _ I.fresh⟩
/-- a list times an int (a negative one is nothing) -/
def rRep : R2 := fun x y H Q => ∃ l k xs, x = .ref l ∧ y = .int k ∧ H l = some (.lst xs) ∧ -(2 ^ 63) ≤ k ∧ k < 2 ^ 63 ∧ xs.length * k.toNat ≤ sizeLine ∧
  ∀ p, H p = none → Q (.ref p) (upd H p (.lst (List.replicate k.toNat xs).flatten))
theorem len_rep {α : Type} (xs : List α) (k : Nat) : (List.replicate k xs).flatten.length = k * xs.length := by
  induction k with
  | zero => simp
  | succ k ih => rw [List.replicate_succ, List.flatten_cons, List.length_append, ih, Nat.succ_mul, Nat.add_comm]
theorem op_rep : OpR X (binaryOp .Mult) rRep := by
  intro pins s σ H x y v u Q I rx ry h
  obtain ⟨l, k, xs, rfl, rfl, hH, h1, h2, hz, q⟩ := h
  cases rx
  obtain ⟨t, rfl⟩ := ry
  obtain ⟨z, its, n, r, hl, e⟩ := I.lstM hH
  have hlen : its.toArray.size * k.toNat ≤ sizeLine := by rw [List.size_toArray, ← hl]; exact hz
  have hcap : ¬ its.toArray.size * k.toNat > (2 ^ 63 - 1) / 8 := by
    have : (sizeLine : Nat) ≤ (2 ^ 63 - 1) / 8 := by decide
    omega
  have hfit : ¬ (!Builtin.List.listFitsIndex k) = true := by
    rw [fitsIndex_both h1 h2]
    exact Bool.false_ne_true
  have hlong : ¬ Builtin.List.listTooLong (its.toArray.size * k.toNat) = true := by
    rw [notLongL hlen]
    exact Bool.false_ne_true
  have hnew : List.foldl (fun x1 x2 => x1 ++ x2) #[] (List.replicate (if its.toArray.isEmpty = true then 0 else k.toNat) its.toArray) = (List.replicate k.toNat its).flatten.toArray := by
    have f0 : ∀ m : Nat, List.foldl (fun x1 x2 => x1 ++ x2) #[] (List.replicate m its.toArray) = (List.replicate m its).flatten.toArray := fun m => by
      have := foldl_rep its m []
      rw [List.nil_append] at this
      exact this
    rw [f0]
    cases its with
    | nil => simp
    | cons a r' => rw [if_neg (by simp)]
  refine wpAny_binaryOp_repeat_ref (T := "list") (U := "int") (by decide) ⟨_, e, rfl⟩ (fun s' => typeIs_int s' k t) noFill_list_mul F.fills_int_mul F.slot_int_rmul repeat_list F.slot_int_index.lookup
    (call_meets F.slot_int_rmul (typeIs_int s k t) F.entry_int_rmul (F.args_int_rmul_2 _ _) (int___rmul___int_list k t l its.toArray n)
      ⟨e, rfl, ⟨_, e, rfl⟩, call_meets F.slot_list_mul ⟨_, e, rfl⟩ F.entry_list_mul (F.args_list_mul_2 _ _) (AutoListH.list___mul___list_int_3 l its.toArray n k t hfit hcap hlong) ⟨e, ?_⟩⟩)
  rw [hnew]
  exact ⟨.ref _, _, I.lnew (t' := s.toks) (r.rep k.toNat) (by rw [len_rep, Nat.mul_comm]; exact hz), rfl, q _ I.fresh⟩

end

/-! ### xs[a:b] = ys -/
section
variable {prog : Program} {w : World} {A : Around} {E : Value → Shared → Prop} {s : Shared}
set_option maxRecDepth 100000 in
end

section
variable {X : Cx}
end
end L2

namespace L2
open PySem PySem.Spec PyProof.Rows

/-! ### lists of pairs as tables -/
section
variable {κ : Type} [DecidableEq κ]
def valV (kvs : List (κ × V)) (k : κ) : Option V := (kvs.find? fun kv => decide (kv.1 = k)).map (·.2)
/-- in its place, or at the end -/
def putK (kvs : List (κ × V)) (k : κ) (v : V) : List (κ × V) :=
  if (kvs.any fun kv => decide (kv.1 = k)) = true then kvs.map (fun kv => if kv.1 = k then (kv.1, v) else kv) else kvs ++ [(k, v)]
def dropK (kvs : List (κ × V)) (k : κ) : List (κ × V) := kvs.filter fun kv => decide (kv.1 ≠ k)

theorem valV_pos {p : κ × V} {r : List (κ × V)} {k : κ} (e : p.1 = k) : valV (p :: r) k = some p.2 := by simp [valV, List.find?_cons, e]
theorem valV_neg {p : κ × V} {r : List (κ × V)} {k : κ} (e : ¬ p.1 = k) : valV (p :: r) k = valV r k := by simp [valV, List.find?_cons, e]
theorem valV_any (k : κ) : ∀ kvs : List (κ × V), (kvs.any fun kv => decide (kv.1 = k)) = (valV kvs k).isSome
  | [] => rfl
  | p :: r => by
    rw [List.any_cons]
    by_cases e : p.1 = k
    · simp only [valV_pos e, decide_eq_true e, Bool.true_or, Option.isSome_some]
    · rw [valV_neg e, decide_eq_false e, Bool.false_or]; exact valV_any k r
theorem length_putK (kvs : List (κ × V)) (k : κ) (v : V) : (putK kvs k v).length ≤ kvs.length + 1 := by
  unfold putK
  split
  · rw [List.length_map]; omega
  · rw [List.length_append, List.length_cons, List.length_nil]; omega
theorem RelO.isSome_eq {o : Option V} {u : Option Value} (r : RelO o u) : o.isSome = u.isSome := by
  cases o with
  | none => cases u with
    | none => rfl
    | some _ => exact (show False from r).elim
  | some _ => cases u with
    | none => exact (show False from r).elim
    | some _ => rfl
theorem RelO.getD {o : Option V} {u : Option Value} {d : V} {d' : Value} (r : RelO o u) (rd : RelV d d') : RelV (o.getD d) (u.getD d') := by
  cases o with
  | none => cases u with
    | none => exact rd
    | some _ => exact (show False from r).elim
  | some _ => cases u with
    | none => exact (show False from r).elim
    | some _ => exact r

/-- raw tables of the same keys -/
theorem KV.val {kvs : List (κ × V)} {vs : List (κ × Value)} (r : KV kvs vs) (k : κ) : RelO (valV kvs k) (valueAt vs k) := by
  unfold KV at r
  induction r with
  | nil => exact True.intro
  | @cons p q ps qs h t ih =>
    obtain ⟨h1, h2⟩ := h
    by_cases e : p.1 = k
    · have e' : q.1 = k := h1.symm.trans e
      have b : valueAt (q :: qs) k = some q.2 := by simp [valueAt, List.find?_cons, e']
      rw [valV_pos e, b]; exact h2
    · have e' : ¬ q.1 = k := fun z => e (h1.trans z)
      have b : valueAt (q :: qs) k = valueAt qs k := by simp [valueAt, List.find?_cons, e']
      rw [valV_neg e, b]; exact ih
theorem KV.any {kvs : List (κ × V)} {vs : List (κ × Value)} (r : KV kvs vs) (k : κ) : (kvs.any fun kv => decide (kv.1 = k)) = vs.any fun kv => decide (kv.1 = k) := by
  unfold KV at r
  induction r with
  | nil => rfl
  | cons h t ih => rw [List.any_cons, List.any_cons, ih, h.1]
theorem KV.repl {kvs : List (κ × V)} {vs : List (κ × Value)} (r : KV kvs vs) (k : κ) {y : V} {u : Value} (ry : RelV y u) :
    KV (kvs.map fun kv => if kv.1 = k then (kv.1, y) else kv) (vs.map fun kv => if kv.1 = k then (kv.1, u) else kv) := by
  unfold KV at r ⊢
  induction r with
  | nil => exact .nil
  | @cons p q ps qs h t ih =>
    rw [List.map_cons, List.map_cons]
    refine .cons ?_ ih
    obtain ⟨h1, h2⟩ := h
    by_cases e : p.1 = k
    · rw [if_pos e, if_pos (h1.symm.trans e)]; exact ⟨h1, ry⟩
    · rw [if_neg e, if_neg (fun z => e (h1.trans z))]; exact ⟨h1, h2⟩
theorem KV.put {kvs : List (κ × V)} {vs : List (κ × Value)} (r : KV kvs vs) (k : κ) {y : V} {u : Value} (ry : RelV y u) : KV (putK kvs k y) (stored vs k u) := by
  unfold putK stored
  rw [r.any k]
  by_cases e : (vs.any fun kv => decide (kv.1 = k)) = true
  · rw [if_pos e, if_pos e]; exact r.repl k ry
  · rw [if_neg e, if_neg e]; exact Paired.snoc r ⟨rfl, ry⟩
theorem KV.drop {kvs : List (κ × V)} {vs : List (κ × Value)} (r : KV kvs vs) (k : κ) : KV (dropK kvs k) (without vs k) := by
  unfold KV at r ⊢
  unfold dropK without
  induction r with
  | nil => exact .nil
  | @cons p q ps qs h t ih =>
    obtain ⟨h1, h2⟩ := h
    rw [List.filter_cons, List.filter_cons]
    by_cases e : p.1 = k
    · have a : ¬ decide (p.1 ≠ k) = true := by simp [e]
      have b : ¬ decide (q.1 ≠ k) = true := by simp [h1.symm.trans e]
      rw [if_neg a, if_neg b]; exact ih
    · have e' : ¬ q.1 = k := fun z => e (h1.trans z)
      have a : decide (p.1 ≠ k) = true := by simp [e]
      have b : decide (q.1 ≠ k) = true := by simp [e']
      rw [if_pos a, if_pos b]; exact .cons ⟨h1, h2⟩ ih
theorem KV.keys {kvs : List (κ × V)} {vs : List (κ × Value)} (r : KV kvs vs) : kvs.map (·.1) = vs.map (·.1) := by
  unfold KV at r
  induction r with
  | nil => rfl
  | cons h t ih => rw [List.map_cons, List.map_cons, ih, h.1]
theorem KV.length {kvs : List (κ × V)} {vs : List (κ × Value)} (r : KV kvs vs) : kvs.length = vs.length := Paired.length r
theorem dropK_le (kvs : List (κ × V)) (k : κ) : (dropK kvs k).length ≤ kvs.length := List.length_filter_le _ _
end


/-! ### a tracked dict, its keys ints and texts or tuples of these -/
theorem kV_is {P : Program} {w : World} {k : Key} {u : Value} (r : RelV (kV k) u) : (mixKind P w).is k u = true := by
  cases k with
  | inl i => obtain ⟨t, e⟩ := (show ∃ t, u = Value.int i t from r); subst e; exact mixKind_int P w i t
  | inr x => obtain ⟨t, e⟩ := (show ∃ t, u = Value.str x t from r); subst e; exact mixKind_str P w x t
theorem items_are {P : Program} {w : World} : ∀ {ks : List Key} {us : List Value}, Vals (ks.map kV) us → ItemsAre (mixKind P w) ks us
  | [], _, r => by rw [List.map_nil] at r; cases r; exact .nil
  | k :: ks, _, r => by
    rw [List.map_cons] at r
    cases r with
    | cons h t => exact .cons (kV_is h) (items_are t)

/-- raw entries of a dict with tuple keys -/
abbrev KT (H : Hp) : List (List Key × V) → List (List Key × Addr × Value) → Prop := Paired fun p q => p.1 = q.1 ∧ H q.2.1 = some (.tup (p.1.map kV)) ∧ RelV p.2 q.2.2
theorem KT.val {H : Hp} {kvs : List (List Key × V)} {xs : List (List Key × Addr × Value)} (r : KT H kvs xs) (k : List Key) : RelO (valV kvs k) ((atKey xs k).map (·.2)) := by
  induction r with
  | nil => exact True.intro
  | @cons p q ps qs h t ih =>
    obtain ⟨h1, _, h2⟩ := h
    by_cases e : p.1 = k
    · have e' : q.1 = k := h1.symm.trans e
      have b : atKey (q :: qs) k = some q.2 := by simp [atKey, List.find?_cons, e']
      rw [valV_pos e, b]; exact h2
    · have e' : ¬ q.1 = k := fun z => e (h1.trans z)
      have b : atKey (q :: qs) k = atKey qs k := by simp [atKey, List.find?_cons, e']
      rw [valV_neg e, b]; exact ih
theorem KT.repl {H : Hp} {kvs : List (List Key × V)} {xs : List (List Key × Addr × Value)} (r : KT H kvs xs) (k : List Key) {y : V} {u : Value} (ry : RelV y u) :
    KT H (kvs.map fun kv => if kv.1 = k then (kv.1, y) else kv) (xs.map (putAt k u)) := by
  induction r with
  | nil => exact .nil
  | @cons p q ps qs h t ih =>
    rw [List.map_cons, List.map_cons]
    refine .cons ?_ ih
    obtain ⟨h1, h2, h3⟩ := h
    unfold putAt
    by_cases e : p.1 = k
    · rw [if_pos e, if_pos (h1.symm.trans e)]; exact ⟨h1, h2, ry⟩
    · rw [if_neg e, if_neg (fun z => e (h1.trans z))]; exact ⟨h1, h2, h3⟩
theorem KT.put {H : Hp} {kvs : List (List Key × V)} {xs : List (List Key × Addr × Value)} (r : KT H kvs xs) (k : List Key) {b : Addr} {y : V} {u : Value} (hb : H b = some (.tup (k.map kV))) (ry : RelV y u) :
    KT H (putK kvs k y) (storedH xs k b u) := by
  have e : (kvs.any fun kv => decide (kv.1 = k)) = (atKey xs k).isSome := by
    rw [valV_any, (r.val k).isSome_eq, Option.isSome_map]
  unfold putK storedH
  rw [e]
  by_cases q : (atKey xs k).isSome = true
  · rw [if_pos q, if_pos q]; exact r.repl k ry
  · rw [if_neg q, if_neg q]; exact Paired.snoc r ⟨rfl, hb, ry⟩
theorem KT.keeps {H H' : Hp} {kvs : List (List Key × V)} {xs : List (List Key × Addr × Value)} (r : KT H kvs xs) (ht : ∀ b ys, H b = some (.tup ys) → H' b = some (.tup ys)) : KT H' kvs xs :=
  Paired.mapP r fun _ _ z => ⟨z.1, ht _ _ z.2.1, z.2.2⟩

section
variable {P : Program} {w : World} {H : Hp} {h : Heap} {a : Addr}
theorem rd_of {u : HO} (ok : HOk P w H h) (e : Rd H a u) : ObjOk P w H h a u := e.ok ok
theorem dk_rd {kvs : List (Key × V)} (ok : HOk P w H h) (e : Rd H a (.dK kvs)) : kvs.length ≤ sizeLine ∧ (a == sysModules) = false ∧ ∃ vs, KV kvs vs ∧ h.DictOf (mixKind P w) a vs :=
  show ObjOk P w H h a (.dK kvs) from rd_of ok e
theorem dk_of {kvs : List (Key × V)} (ok : HOk P w H h) (e : H a = some (.dK kvs)) : kvs.length ≤ sizeLine ∧ (a == sysModules) = false ∧ ∃ vs, KV kvs vs ∧ h.DictOf (mixKind P w) a vs := dk_rd ok (.inl e)
/-- a tracked tuple of ints and texts is a key -/
theorem key_of {ks : List Key} (ok : HOk P w H h) (e : H a = some (.tup (ks.map kV))) : (tupleKind (mixKind P w)).is h ks a := by
  obtain ⟨_, its, r, o, h1, h2, n, h3⟩ := (show ObjOk P w H h a (.tup (ks.map kV)) from ok a _ e)
  exact ⟨o, its.toArray, n, h1, h2, h3, by simpa using items_are r⟩
theorem dt_rd {kvs : List (List Key × V)} (ok : HOk P w H h) (e : Rd H a (.dT kvs)) : kvs.length ≤ sizeLine ∧ (a == sysModules) = false ∧
    ∃ xs, KT H kvs xs ∧ h.DictOfH (tupleKind (mixKind P w)) a xs := by
  obtain ⟨z, y, xs, r, o, es, ep, h1, h2, h3, h4, h5⟩ := (show ObjOk P w H h a (.dT kvs) from rd_of ok e)
  refine ⟨z, y, xs, r, o, es, ep, h1, h2, h3, h4, fun x hx => ?_, h5⟩
  have all : ∀ {l : List (List Key × V)} {m : List (List Key × Addr × Value)}, KT H l m → ∀ x ∈ m, (tupleKind (mixKind P w)).is h x.1 x.2.1 := by
    intro l m q
    induction q with
    | nil => intro x hx; exact nomatch hx
    | @cons p q ps qs hq t ih =>
      intro x hx
      rcases List.mem_cons.mp hx with e | hx
      · subst e
        exact key_of ok (by rw [← hq.1]; exact hq.2.1)
      · exact ih x hx
  exact all r x hx
theorem dt_of {kvs : List (List Key × V)} (ok : HOk P w H h) (e : H a = some (.dT kvs)) : kvs.length ≤ sizeLine ∧ (a == sysModules) = false ∧
    ∃ xs, KT H kvs xs ∧ h.DictOfH (tupleKind (mixKind P w)) a xs := dt_rd ok (.inl e)
end

/-- what the dict at a holds at the key y -/
def DGet (H : Hp) (a : Addr) (y : V) (r : Option V) : Prop :=
  (∃ kvs k, Rd H a (.dK kvs) ∧ y = kV k ∧ r = valV kvs k) ∨ ∃ kvs k b, Rd H a (.dT kvs) ∧ y = .ref b ∧ H b = some (.tup (k.map kV)) ∧ r = valV kvs k
/-- the heap behind a[y] = v -/
def DPut (H : Hp) (a : Addr) (y v : V) (H' : Hp) : Prop :=
  (∃ kvs k, H a = some (.dK kvs) ∧ y = kV k ∧ kvs.length < sizeLine ∧ H' = upd H a (.dK (putK kvs k v))) ∨
  ∃ kvs k b, H a = some (.dT kvs) ∧ y = .ref b ∧ H b = some (.tup (k.map kV)) ∧ kvs.length < sizeLine ∧ H' = upd H a (.dT (putK kvs k v))
theorem DGet.k {H : Hp} {a : Addr} {kvs : List (Key × V)} {k : Key} (e : H a = some (.dK kvs)) : DGet H a (kV k) (valV kvs k) := .inl ⟨kvs, k, .inl e, rfl, rfl⟩
theorem DGet.t {H : Hp} {a b : Addr} {kvs : List (List Key × V)} {k : List Key} (e : H a = some (.dT kvs)) (eb : H b = some (.tup (k.map kV))) : DGet H a (.ref b) (valV kvs k) := .inr ⟨kvs, k, b, .inl e, rfl, eb, rfl⟩
theorem DPut.k {H : Hp} {a : Addr} {kvs : List (Key × V)} {k : Key} {v : V} (e : H a = some (.dK kvs)) (hl : kvs.length < sizeLine) : DPut H a (kV k) v (upd H a (.dK (putK kvs k v))) := .inl ⟨kvs, k, e, rfl, hl, rfl⟩
theorem DPut.t {H : Hp} {a b : Addr} {kvs : List (List Key × V)} {k : List Key} {v : V} (e : H a = some (.dT kvs)) (eb : H b = some (.tup (k.map kV))) (hl : kvs.length < sizeLine) :
    DPut H a (.ref b) v (upd H a (.dT (putK kvs k v))) := .inr ⟨kvs, k, b, e, rfl, eb, hl, rfl⟩


section
variable {X : Cx} {pins : List (Addr × Obj)} {σ : St} {H : Hp} {s : Shared} {a : Addr} {y v : V} {u r : Value} {o : Option V} {A : Around} {E : Value → Shared → Prop}

theorem Inv.big (I : Inv X pins σ H s) : sysModules < s.heap.objs.size := by
  have h : mainGlobals < s.heap.objs.size := (I.mod.glob.keeps I.bk).lt
  exact Nat.lt_trans (by decide) h

/-- d[y], there -/
theorem d_getItem {Q : Value → Shared → Prop} (hu : A.units + 1 < cLine) (I : Inv X pins σ H s) (g : DGet H a y (some v)) (ry : RelV y u) (h : ∀ w' s', Inv X pins σ H s' → RelV v w' → Q w' s') :
    wpAny (model X.prog X.w) A (getItem (.ref a) u) Q E s := by
  rcases g with ⟨kvs, k, e, ey, l⟩ | ⟨kvs, k, b, e, ey, eb, l⟩
  · subst ey
    obtain ⟨z, hd, vs, rel, dd⟩ := dk_rd I.hok e
    obtain ⟨w', hw, rw'⟩ := RelO.some_of (v := v) (o := valueAt vs k) (by rw [l]; exact rel.val k)
    exact wpAny_getItem_of (kV_is ry) dd.mapOf hw (h w' _ (I.tok _) rw')
  · subst ey
    cases (show u = Value.ref b from ry)
    obtain ⟨z, hd, xs, rel, dd⟩ := dt_rd I.hok e
    obtain ⟨w', hw, rw'⟩ := RelO.some_of (v := v) (o := (atKey xs k).map (·.2)) (by rw [l]; exact rel.val k)
    obtain ⟨p, hp, hp2⟩ := Option.map_eq_some_iff.mp hw
    refine wpAny_getItem_heap (tupleKind_room_in1 hu) (key_of I.hok eb) dd hp ?_
    rw [hp2]
    exact h w' _ (I.tok _) rw'
/-- y in d -/
theorem d_in {Q : Value → Shared → Prop} (hu : A.units + 1 < cLine) (I : Inv X pins σ H s) (g : DGet H a y o) (ry : RelV y u) (h : ∀ s', Inv X pins σ H s' → Q (.bool o.isSome) s') :
    wpAny (model X.prog X.w) A (compareOp .In u (.ref a)) Q E s := by
  rcases g with ⟨kvs, k, e, ey, l⟩ | ⟨kvs, k, b, e, ey, eb, l⟩
  · subst ey
    obtain ⟨z, hd, vs, rel, dd⟩ := dk_rd I.hok e
    refine wpAny_in_of (kV_is ry) hd dd.mapOf ?_
    rw [← (rel.val k).isSome_eq, ← l]
    exact h _ (I.tok _)
  · subst ey
    cases (show u = Value.ref b from ry)
    obtain ⟨z, hd, xs, rel, dd⟩ := dt_rd I.hok e
    refine wpAny_in_heap (tupleKind_room_in1 hu) (key_of I.hok eb) hd dd ?_
    have q := (rel.val k).isSome_eq
    rw [Option.isSome_map] at q
    rw [← q, ← l]
    exact h _ (I.tok _)
theorem d_notIn {Q : Value → Shared → Prop} (hu : A.units + 1 < cLine) (I : Inv X pins σ H s) (g : DGet H a y o) (ry : RelV y u) (h : ∀ s', Inv X pins σ H s' → Q (.bool (!o.isSome)) s') :
    wpAny (model X.prog X.w) A (compareOp .NotIn u (.ref a)) Q E s := by
  rcases g with ⟨kvs, k, e, ey, l⟩ | ⟨kvs, k, b, e, ey, eb, l⟩
  · subst ey
    obtain ⟨z, hd, vs, rel, dd⟩ := dk_rd I.hok e
    refine wpAny_notIn_of (kV_is ry) hd dd.mapOf ?_
    rw [← (rel.val k).isSome_eq, ← l]
    exact h _ (I.tok _)
  · subst ey
    cases (show u = Value.ref b from ry)
    obtain ⟨z, hd, xs, rel, dd⟩ := dt_rd I.hok e
    refine wpAny_notIn_heap (tupleKind_room_in1 hu) (key_of I.hok eb) hd dd ?_
    have q := (rel.val k).isSome_eq
    rw [Option.isSome_map] at q
    rw [← q, ← l]
    exact h _ (I.tok _)
/-- a dict's object is replaced -/
theorem d_write {h' : Heap} {t' : Nat} {ob : HO} (I : Inv X pins σ H s) (mu : Mut (H a)) (hs : Heap.SameBut a s.heap h') (he : ∃ q, h'.get? a = some q) (new : ObjOk X.prog X.w (upd H a ob) h' a ob) :
    Inv X pins σ (upd H a ob) { s with heap := h', toks := t' } :=
  I.write (x := a) (e := a) mu (.inl rfl) (fun b q hb z => (hs.2 b hb).trans z) he new
theorem dk_new {P : Program} {w : World} {H' : Hp} {h' : Heap} {kvs : List (Key × V)} {vs : List (Key × Value)} (z : kvs.length ≤ sizeLine) (hd : (a == sysModules) = false) (rel : KV kvs vs) (dd : h'.DictOf (mixKind P w) a vs) :
    ObjOk P w H' h' a (.dK kvs) := ⟨z, hd, vs, rel, dd⟩
/-- d[y] = v -/
theorem d_setItem {H' : Hp} {Q : Unit → Shared → Prop} (hu : A.units + 1 < cLine) (I : Inv X pins σ H s) (g : DPut H a y v H') (ry : RelV y u) (rv : RelV v r) (h : ∀ s', Inv X pins σ H' s' → Q () s') :
    wpAny (model X.prog X.w) A (setItem (.ref a) u r) Q E s := by
  rcases g with ⟨kvs, k, e, ey, l, eH⟩ | ⟨kvs, k, b, e, ey, eb, l, eH⟩
  · subst ey eH
    obtain ⟨z, hd, vs, rel, dd⟩ := dk_of I.hok e
    have hz : vs.length ≤ sizeLine := by rw [← rel.length]; exact z
    have hl : (putK kvs k v).length ≤ sizeLine := by have := length_putK kvs k v; omega
    refine wpAny_setItem_pairs (hsz := hz) (kV_is ry) dd fun h' dd' hs => h _ ?_
    have he : ∃ q, h'.get? a = some q := let ⟨q, _, _, hq, _⟩ := dd'; ⟨q, hq⟩
    exact d_write I (by rw [e]; exact True.intro) hs he (dk_new hl hd (rel.put k rv) dd')
  · subst ey eH
    cases (show u = Value.ref b from ry)
    obtain ⟨z, hd, xs, rel, dd⟩ := dt_of I.hok e
    have hz : xs.length ≤ sizeLine := by rw [← Paired.length rel]; exact z
    have hl : (putK kvs k v).length ≤ sizeLine := by have := length_putK kvs k v; omega
    refine wpAny_setItem_heap (hsz := hz) (tupleKind_room_in1 hu) (key_of I.hok eb) dd fun h' dd' hs => h _ ?_
    obtain ⟨q, es, ep, hq, h2, h3, h4, _, h5⟩ := dd'
    refine d_write I (by rw [e]; exact True.intro) hs ⟨q, hq⟩ ⟨hl, hd, _, (rel.put k eb rv).keeps fun c ys ec => ?_, q, es, ep, hq, h2, h3, h4, h5⟩
    rw [upd_ne (ne_of ec e (fun z => nomatch z))]
    exact ec
end

section
variable {X : Cx} {pins : List (Addr × Obj)} {σ : St} {H : Hp} {s : Shared} {a : Addr} {kvs : List (Key × V)} {k : Key} {u : Value} {A : Around} {E : Value → Shared → Prop}
/-- d.pop(k[, x]), there -/
theorem d_pop {v : V} {more : List Value} {Q : Value → Shared → Prop} (I : Inv X pins σ H s) (e : H a = some (.dK kvs)) (ry : RelV (kV k) u) (l : valV kvs k = some v) (hm : more = [] ∨ ∃ x, more = [x])
    (h : ∀ w' s', Inv X pins σ (upd H a (.dK (dropK kvs k))) s' → RelV v w' → Q w' s') : wpAny (model X.prog X.w) A (call (.builtin "dict.pop") (.ref a :: u :: more)) Q E s := by
  obtain ⟨z, hd, vs, rel, dd⟩ := dk_of I.hok e
  obtain ⟨w', hw, rw'⟩ := RelO.some_of (v := v) (o := valueAt vs k) (by rw [← l]; exact rel.val k)
  have hp : (keyPart u).isSome = true := by
    cases k with
    | inl i => obtain ⟨t, q⟩ := (show ∃ t, u = Value.int i t from ry); subst q; rfl
    | inr x => obtain ⟨t, q⟩ := (show ∃ t, u = Value.str x t from ry); subst q; rfl
  have ha : argsOk "dict.pop" ⟨.ref a :: u :: more, []⟩ := by
    rcases hm with q | ⟨x, q⟩
    · subst q; exact PySem.F.args_dict_pop_2 _ _
    · subst q; exact PySem.F.args_dict_pop_3 _ _ _
  refine call_meetsIn PySem.F.slot_dict_pop dd.typeIs PySem.F.entry_dict_pop ha (meets_dict_pop_there (mixKind X.prog X.w) a (kV_is ry) more hm hp)
    ⟨vs, w', dd, by rw [← rel.length]; exact z, hw, fun h' dd' hs => h w' _ ?_ rw'⟩
  have he : ∃ q, h'.get? a = some q := let ⟨q, _, _, hq, _⟩ := dd'; ⟨q, hq⟩
  exact d_write I (by rw [e]; exact True.intro) hs he (dk_new (Nat.le_trans (dropK_le kvs k) z) hd (rel.drop k) dd')
end


/-! ### readings and rules -/
/-- the element of a subscription, not a slice -/
def NoSl (i : Expr) : Prop := ∀ ov iv, subscripted i false ov iv = operate [ov, iv] (getItem ov iv)
theorem subD_of {prog : Program} {w : World} {A : Around} {E : Value → Shared → Prop} {s : Shared} {env : Env} {value slice : Expr} {pos : Pos} {T id : String} {Q : Value → Shared → Prop}
    (hl : typeLookup (.type T) "__getitem__" = pure (some (.builtin id))) (hs : NoSl slice)
    (h : wpAny (model prog w) A (eval value env) (fun o s₁ => wpAny (model prog w) A (eval slice env) (fun i s₂ => s₂.TypeIs o T ∧ wpAny (model prog w) A (getItem o i) Q E s₂) E s₁) E s) :
    wpAny (model prog w) A (eval (.Subscript value slice pos) env) Q E s := by
  refine Subscript_ (wpAny_mono h (fun o s₁ h₁ => wpAny_mono h₁ (fun i s₂ h₂ => ?_) fun _ _ x => x) fun _ _ x => x)
  obtain ⟨hT, h₂⟩ := h₂
  unfold subscriptTail
  refine wpAny_bind ?_
  rw [getitemInPython_of_ne hT.not_modules]
  refine wpAny_bind (wpAny_specialOf hT hl ?_)
  have fin : wpAny (model prog w) A (subscripted slice false o i) (fun r s₃ => wpAny (model prog w) A (letTemporaryGo value o r >>= fun _ => pure r) Q E s₃) E s₂ := by
    rw [hs o i]
    exact wpAny_operating (wpAny_mono h₂ (fun r s₃ h₃ => wpAny_bind (wpAny_letTemporaryGo (wpAny_pure h₃))) fun _ _ x => x)
  first
    | exact wpAny_pure (wpAny_bind fin)
    | exact wpAny_bind (wpAny_pure (wpAny_bind fin))
    | exact wpAny_bind fin

theorem dict_typeIs {X : Cx} {pins : List (Addr × Obj)} {σ : St} {H : Hp} {s : Shared} {a : Addr} {y : V} {o : Option V} (I : Inv X pins σ H s) (g : DGet H a y o) : s.TypeIs (.ref a) "dict" := by
  rcases g with ⟨kvs, k, e, _, _⟩ | ⟨kvs, k, b, e, _, _, _⟩
  · obtain ⟨_, _, vs, _, dd⟩ := dk_rd I.hok e
    exact dd.typeIs
  · obtain ⟨_, _, xs, _, dd⟩ := dt_rd I.hok e
    exact dd.typeIs
/-- d[y] -/
def tDGet (td ty : TE) : TE := fun σ H Q => td σ H fun x H1 => ty σ H1 fun y H2 => ∃ a v, x = .ref a ∧ DGet H2 a y (some v) ∧ Q v H2
/-- y in d, y not in d -/
def tDIn (ty td : TE) : TE := fun σ H Q => ty σ H fun y H1 => td σ H1 fun x H2 => ∃ a o, x = .ref a ∧ DGet H2 a y o ∧ Q (.bl o.isSome) H2
def tDNotIn (ty td : TE) : TE := fun σ H Q => ty σ H fun y H1 => td σ H1 fun x H2 => ∃ a o, x = .ref a ∧ DGet H2 a y o ∧ Q (.bl (!o.isSome)) H2
/-- d[y] = v -/
def sDPut (td ty tv : TE) : TS := fun D σ H => tv σ H fun v H1 => td σ H1 fun x H2 => ty σ H2 fun y H3 => ∃ a H4, x = .ref a ∧ DPut H3 a y v H4 ∧ D.nx σ H4
section
variable {X : Cx} {o i e value : Expr} {pos pos' tpos : Pos} {td ty tv : TE}
theorem pe_dget (hu : X.A.units + 1 < cLine) (ho : PE X o td) (hi : PE X i ty) (hs : NoSl i) : PE X (.Subscript o i pos) (tDGet td ty) := by
  intro pins s σ H Q I h
  refine subD_of PySem.F.slot_dict_getitem.lookup hs (thn (ho pins s σ H _ I h) fun u s1 ⟨x, H1, I1, rx, q1⟩ => thn (hi pins s1 σ H1 _ I1 q1) fun iv s2 hw' => ?_)
  obtain ⟨y, H2, I2, ry, a, v, ex, g, q2⟩ := hw'
  subst ex
  obtain rfl : u = Value.ref a := rx
  exact ⟨dict_typeIs I2 g, d_getItem hu I2 g ry fun w' s3 I3 rw' => ⟨v, H2, I3, rw', q2⟩⟩
theorem pc_din (hu : X.A.units + 1 < cLine) (hi : PE X i ty) (ho : PE X o td) : PC X .In i o (tDIn ty td) := by
  intro pins s σ H Q I h
  refine thn (hi pins s σ H _ I h) fun iv s1 ⟨y, H1, I1, ry, q1⟩ => thn (ho pins s1 σ H1 _ I1 q1) fun u s2 hw' => ?_
  obtain ⟨x, H2, I2, rx, a, ov, ex, g, q2⟩ := hw'
  subst ex
  obtain rfl : u = Value.ref a := rx
  exact d_in hu I2 g ry fun s3 I3 => ⟨.bl ov.isSome, H2, I3, rfl, q2⟩
theorem pc_dnotin (hu : X.A.units + 1 < cLine) (hi : PE X i ty) (ho : PE X o td) : PC X .NotIn i o (tDNotIn ty td) := by
  intro pins s σ H Q I h
  refine thn (hi pins s σ H _ I h) fun iv s1 ⟨y, H1, I1, ry, q1⟩ => thn (ho pins s1 σ H1 _ I1 q1) fun u s2 hw' => ?_
  obtain ⟨x, H2, I2, rx, a, ov, ex, g, q2⟩ := hw'
  subst ex
  obtain rfl : u = Value.ref a := rx
  exact d_notIn hu I2 g ry fun s3 I3 => ⟨.bl (!ov.isSome), H2, I3, rfl, q2⟩
theorem ps_dput (hu : X.A.units + 1 < cLine) (ho : PE X o td) (hi : PE X i ty) (hv : PE X value tv) (hs : swapsWith value (some (.Subscript o i pos')) pos.line X.env = pure false) :
    PS X (.Assign [.Subscript o i pos'] value pos) (sDPut td ty tv) := by
  intro pins s σ H D I h
  refine wpAny_Assign_Subscript (thn (hv pins s σ H _ I h) fun r s1 ⟨v, H1, I1, rv, q1⟩ => thn (ho pins s1 σ H1 _ I1 q1) fun u s2 ⟨x, H2, I2, rx, q2⟩ => thn (hi pins s2 σ H2 _ I2 q2) fun iv s3 hw' => ?_) hs
  obtain ⟨y, H3, I3, ry, a, H4, ex, g, q3⟩ := hw'
  subst ex
  obtain rfl : u = Value.ref a := rx
  exact d_setItem hu I3 g ry rv fun s4 I4 => ⟨σ, H4, I4, q3⟩
end


/-! ### displays -/
theorem dk_empty {P : Program} {w : World} {H : Hp} (h : Heap) (hb : sysModules < h.objs.size) : ObjOk P w H (h.push { cls := .type "dict", data := .dict #[] }) h.objs.size (.dK []) :=
  ⟨Nat.zero_le _, beq_eq_false_iff_ne.mpr (Ne.symm (Nat.ne_of_lt hb)), [], .nil, Heap.DictOf.new h⟩
/-- {}, to be a dict of the kind that is wanted -/
def tDNewK : TE := fun _ H Q => ∀ p, H p = none → Q (.ref p) (upd H p (.dK []))
section
variable {X : Cx} {pos : Pos}
theorem pe_dnewK : PE X (.Dict [] [] pos) tDNewK := fun pins s σ H Q I h =>
  wpAny_Dict_empty ⟨.ref s.heap.objs.size, _, I.laid (a := s.heap.objs.size) (o := .dK []) (t' := s.toks) (fun _ _ q => Heap.get?_push_of_some _ q) (Nat.le_refl _) (dk_empty s.heap I.big), rfl, h _ (I.hok.fresh (Nat.le_refl _))⟩
end

/-- the pairs of a display, from the left -/
def tPairs : List (TE × TE) → St → Hp → (List (V × V) → Hp → Prop) → Prop
  | [], _, H, Q => Q [] H
  | (tk, tv) :: r, σ, H, Q => tk σ H fun x H1 => tv σ H1 fun y H2 => tPairs r σ H2 fun ps H3 => Q ((x, y) :: ps) H3
abbrev VV : List (V × V) → List (Value × Value) → Prop := Paired fun p q => RelV p.1 q.1 ∧ RelV p.2 q.2
def PPs (X : Cx) (pos : Pos) (keys : List (Option Expr)) (values : List Expr) (trs : List (TE × TE)) : Prop :=
  ∀ (pins : List (Addr × Obj)) (s : Shared) (σ : St) (H : Hp) (Q : List (V × V) → Hp → Prop), Inv X pins σ H s → tPairs trs σ H Q →
    wpAny (model X.prog X.w) X.A (evalPairs (pairTrees keys values X.env pos)) (fun vs s' => ∃ ps H', Inv X pins σ H' s' ∧ VV ps vs ∧ Q ps H') X.xe s
theorem pps_nil {X : Cx} {pos : Pos} : PPs X pos [] [] [] := fun pins s σ H Q I h => pairTrees_nil_walk ⟨[], H, I, .nil, h⟩
theorem pps_cons {X : Cx} {pos : Pos} {k v : Expr} {ks : List (Option Expr)} {vs : List Expr} {tk tv : TE} {trs : List (TE × TE)} (hk : PE X k tk) (hv : PE X v tv) (hr : PPs X pos ks vs trs) :
    PPs X pos (some k :: ks) (v :: vs) ((tk, tv) :: trs) := fun pins s σ H Q I h =>
  pairTrees_cons_walk (thn (hk pins s σ H _ I h) fun u s1 ⟨x, H1, I1, rx, q1⟩ => thn (hv pins s1 σ H1 _ I1 q1) fun w2 s2 ⟨y, H2, I2, ry, q2⟩ =>
    thn (hr pins s2 σ H2 _ I2 q2) fun ws s3 ⟨ps, H3, I3, rel, q3⟩ => ⟨(x, y) :: ps, H3, I3, .cons ⟨rx, ry⟩ rel, q3⟩)

def mergeK (kvs more : List (Key × V)) : List (Key × V) := more.foldl (fun acc kv => putK acc kv.1 kv.2) kvs
theorem KV.merge : ∀ {more : List (Key × V)} {rs : List (Key × Value)} {kvs : List (Key × V)} {vs : List (Key × Value)}, KV more rs → KV kvs vs → KV (mergeK kvs more) (merged vs rs) := by
  intro more rs kvs vs r
  unfold KV at r
  induction r generalizing kvs vs with
  | nil => intro q; exact q
  | @cons p q ps qs h t ih =>
    intro r0
    have e : KV (putK kvs p.1 p.2) (stored vs q.1 q.2) := by
      have := r0.put p.1 h.2
      rw [← h.1]; exact this
    exact ih e
theorem length_mergeK : ∀ (more kvs : List (Key × V)), (mergeK kvs more).length ≤ kvs.length + more.length
  | [], kvs => by show kvs.length ≤ kvs.length + 0; omega
  | p :: r, kvs => by
    have h1 := length_mergeK r (putK kvs p.1 p.2)
    have h2 := length_putK kvs p.1 p.2
    show (mergeK (putK kvs p.1 p.2) r).length ≤ _
    rw [List.length_cons]; omega
theorem carries_of {P : Program} {w : World} : ∀ {kvs : List (Key × V)} {ws : List (Value × Value)}, VV (kvs.map fun kv => (kV kv.1, kv.2)) ws → ∃ rs, Carries (mixKind P w) ws rs ∧ KV kvs rs
  | [], _, r => by rw [List.map_nil] at r; cases r; exact ⟨[], True.intro, .nil⟩
  | p :: kvs, _, r => by
    rw [List.map_cons] at r
    cases r with
    | @cons a b as bs h t =>
      obtain ⟨rs, c, q⟩ := carries_of (P := P) (w := w) t
      obtain ⟨b1, b2⟩ := b
      exact ⟨(p.1, b2) :: rs, ⟨kV_is h.1, rfl, c⟩, .cons ⟨rfl, h.2⟩ q⟩
/-- {k: v, ..} with keys ints and texts; the new dict stands empty while the pairs are made -/
def tDisp (trs : List (TE × TE)) : TE := fun σ H Q => ∀ p, H p = none → tPairs trs σ (upd H p (.dK [])) fun ps H2 => H2 p = some (.dK []) ∧ ∃ kvs : List (Key × V), ps = kvs.map (fun kv => (kV kv.1, kv.2)) ∧ kvs.length ≤ 15 ∧ Q (.ref p) (upd H2 p (.dK (mergeK [] kvs)))
theorem pe_disp {X : Cx} {pos : Pos} {keys : List (Option Expr)} {values : List Expr} {trs : List (TE × TE)} (h : PPs X pos keys values trs) (hall : keys.all (·.isSome) = true) (hl : keys.length = values.length) (h0 : keys ≠ [])
    (h15 : keys.length ≤ 15) : PE X (.Dict keys values pos) (tDisp trs) := by
  intro pins s σ H Q I q
  have hn := I.hok.fresh (Nat.le_refl s.heap.objs.size)
  have I1 := I.laid (a := s.heap.objs.size) (o := .dK []) (h' := s.heap.push { cls := .type "dict", data := .dict #[] }) (t' := s.toks) (fun _ _ q => Heap.get?_push_of_some _ q) (Nat.le_refl _) (dk_empty s.heap I.big)
  refine wpAny_Dict_walk (knd := mixKind X.prog X.w) hall hl h0 h15 (thn (h pins _ σ _ _ I1 (q _ hn)) fun ws s2 hw' => ?_)
  obtain ⟨ps, H2, I2, rel, e, kvs, ep, lk, q2⟩ := hw'
  subst ep
  obtain ⟨rs, c, rk⟩ := carries_of (P := X.prog) (w := X.w) rel
  obtain ⟨z, hd, vs0, r0, dd⟩ := dk_of I2.hok e
  cases r0
  refine ⟨rs, c, dd, fun h' dd' hs => ⟨.ref s.heap.objs.size, _, ?_, rfl, q2⟩⟩
  have hz : (mergeK [] kvs).length ≤ sizeLine := by
    have h1 := length_mergeK kvs []
    rw [List.length_nil] at h1
    rw [sizeLine_eq]; omega
  have he : ∃ q, h'.get? s.heap.objs.size = some q := let ⟨q, _, _, hq, _⟩ := dd'; ⟨q, hq⟩
  exact d_write I2 (by rw [e]; exact True.intro) hs he (dk_new hz hd (rk.merge .nil) dd')


/-! ### methods -/
/-- a method call o.m(e) of a built-in, with one argument: what must be seen of the text -/
structure M1 (X : Cx) (o : Expr) (m : Str) (apos : Pos) (e : Expr) (cpos : Pos) : Prop where
  base : attributeBase o m X.env (eval o X.env) = eval o X.env
  few : ((backTo cpos (starEach [e] X.env)).all (fun x => !x.1) && (backToKw cpos (keywordEach [] X.env)).all (fun x => x.1.isSome)
    && decide (([e] : List Expr).length + ([] : List Keyword).length + (if ([] : List Keyword).isEmpty then 0 else 1) < 30)) = true
  line : (apos.endLine == cpos.line) = true
  trees : backTo cpos (starEach [e] X.env) = [(false, eval e X.env)]
structure M2 (X : Cx) (o : Expr) (m : Str) (apos : Pos) (e f : Expr) (cpos : Pos) : Prop where
  base : attributeBase o m X.env (eval o X.env) = eval o X.env
  few : ((backTo cpos (starEach [e, f] X.env)).all (fun x => !x.1) && (backToKw cpos (keywordEach [] X.env)).all (fun x => x.1.isSome)
    && decide (([e, f] : List Expr).length + ([] : List Keyword).length + (if ([] : List Keyword).isEmpty then 0 else 1) < 30)) = true
  line : (apos.endLine == cpos.line) = true
  trees : backTo cpos (starEach [e, f] X.env) = [(false, eval e X.env), (false, eval f X.env)]

/-- a is a dict, whatever its keys -/
def IsD (H : Hp) (a : Addr) : Prop := (∃ kvs, Rd H a (.dK kvs)) ∨ ∃ kvs, Rd H a (.dT kvs)
theorem isD_at {X : Cx} {pins : List (Addr × Obj)} {σ : St} {H : Hp} {s : Shared} {a : Addr} (I : Inv X pins σ H s) (d : IsD H a) :
    s.TypeIs (.ref a) "dict" ∧ (∀ b, Value.ref a = .ref b → ∃ ob, s.heap.get? b = some ob ∧ ob.dict = none) ∧ (a == sysModules) = false := by
  rcases d with ⟨kvs, e⟩ | ⟨kvs, e⟩
  · obtain ⟨_, hd, vs, _, dd⟩ := dk_rd I.hok e
    refine ⟨dd.typeIs, fun b q => ?_, hd⟩
    cases q
    obtain ⟨ob, _, _, h1, h2, _⟩ := dd
    exact ⟨ob, h1, h2.2.1⟩
  · obtain ⟨_, hd, xs, _, dd⟩ := dt_rd I.hok e
    refine ⟨dd.typeIs, fun b q => ?_, hd⟩
    cases q
    obtain ⟨ob, _, _, h1, h2, _⟩ := dd
    exact ⟨ob, h1, h2.2.1⟩

section
variable {X : Cx} {pins : List (Addr × Obj)} {σ : St} {H : Hp} {s : Shared} {a : Addr} {y d : V} {u r : Value} {o : Option V} {A : Around} {E : Value → Shared → Prop}
/-- d.get(y, x) -/
theorem d_get2 {Q : Value → Shared → Prop} (hu : A.units + 1 < cLine) (I : Inv X pins σ H s) (g : DGet H a y o) (ry : RelV y u) (rd : RelV d r) (h : ∀ w' s', Inv X pins σ H s' → RelV (o.getD d) w' → Q w' s') :
    wpAny (model X.prog X.w) A (call (.builtin "dict.get") [.ref a, u, r]) Q E s := by
  rcases g with ⟨kvs, k, e, ey, l⟩ | ⟨kvs, k, b, e, ey, eb, l⟩
  · subst ey
    obtain ⟨z, hd, vs, rel, dd⟩ := dk_rd I.hok e
    refine call_meetsIn PySem.F.slot_dict_get dd.typeIs PySem.F.entry_dict_get (PySem.F.args_dict_get_3 _ _ _) (meets_dict_get_default (mixKind X.prog X.w) a (kV_is ry) hd r) ⟨_, dd.mapOf, h _ _ (I.tok _) ?_⟩
    rw [l]
    exact (rel.val k).getD rd
  · subst ey
    cases (show u = Value.ref b from ry)
    obtain ⟨z, hd, xs, rel, dd⟩ := dt_rd I.hok e
    refine call_meetsIn PySem.F.slot_dict_get dd.typeIs PySem.F.entry_dict_get (PySem.F.args_dict_get_3 _ _ _) (meetsH_dict_get_default (tupleKind (mixKind X.prog X.w)) a b hd r) ⟨tupleKind_room_in1 hu, k, xs, key_of I.hok eb, dd, h _ _ (I.tok _) ?_⟩
    rw [l]
    exact (rel.val k).getD rd
end

def tDGet2 (td ty tx : TE) : TE := fun σ H Q => td σ H fun x H1 => ∃ a, x = .ref a ∧ IsD H1 a ∧ ty σ H1 fun y H2 => tx σ H2 fun z H3 => ∃ o, DGet H3 a y o ∧ Q (o.getD z) H3
section
variable {X : Cx} {o e f : Expr} {apos cpos : Pos} {td ty tx : TE}
theorem pe_dget2 (hu : X.A.units + 1 < cLine) (ho : PE X o td) (he : PE X e ty) (hf : PE X f tx) (m : M2 X o "get" apos e f cpos) : PE X (.Call (.Attribute o "get" apos) [e, f] [] cpos) (tDGet2 td ty tx) := by
  intro pins s σ H Q I h
  refine wpAny_Call_method m.base m.few m.line PySem.F.plainAttrs_dict PySem.F.slot_dict_get PySem.F.type_dict_get (thn (ho pins s σ H _ I h) fun u s1 hw' => ?_)
  obtain ⟨x, H1, I1, rx, a, ex, d, q1⟩ := hw'
  subst ex
  obtain rfl : u = Value.ref a := rx
  obtain ⟨t1, t2, _⟩ := isD_at I1 d
  refine ⟨t1, t2, ?_⟩
  rw [m.trees]
  refine Calls.callWith_builtin rfl (Calls.evalArgs_plain (Calls.spliced_cons (thn (he pins s1 σ H1 _ I1 q1) fun iv s2 ⟨y, H2, I2, ry, q2⟩ =>
    Calls.spliced_cons (thn (hf pins s2 σ H2 _ I2 q2) fun fv s3 ⟨z, H3, I3, rz, ov, g, q3⟩ => Calls.spliced_nil ?_))))
  exact d_get2 hu I3 g ry rz fun w' s4 I4 rw' => ⟨_, H3, I4, rw', q3⟩
end

/-! ### dict(d): a copy -/
section
variable {X : Cx} {pins : List (Addr × Obj)} {σ : St} {H : Hp} {s : Shared} {a : Addr} {kvs : List (Key × V)} {A : Around} {E : Value → Shared → Prop}
end


section
variable {X : Cx} {pins : List (Addr × Obj)} {σ : St} {H : Hp} {s : Shared} {a : Addr} {y : V} {u : Value} {A : Around} {E : Value → Shared → Prop}
end
end L2

namespace Att
open PySem PySem.W PySem.Calls PyProof.Rows

/-! ### the script -/
theorem ints_of_wellAll {P : Params} {h : Heap} : ∀ (ns : List Int) (vs : List Value), WellAll P h vs (ns.map WData.int) → IntsAre vs ns := by
  intro ns
  induction ns with
  | nil =>
    intro vs w
    rw [List.map_nil] at w
    cases w
    exact .nil
  | cons n ns ih =>
    intro vs w
    rw [List.map_cons] at w
    cases w with
    | cons a b =>
      cases a
      exact .cons _ _ (ih _ b)

theorem script_of {l : OpenLaw} {n : Nat} (hn : l.most = some n) {P : Params} {h : Heap} {args : List WData} {vals : List Value}
    (hpre : l.row.toRowW.claim.pre args = true) (hwl : WellAll P h vals args) :
    ∃ a vs ns, vals = [Value.ref a] ∧ args = [WData.list (ns.map WData.int)] ∧ h.get? a = some { cls := .type "list", data := .seq vs.toArray } ∧ IntsAre vs ns ∧ ns.length ≤ n := by
  have hsh : WShape.hasAll [] args [.list .int] = true := (pre_splitW hpre).1
  have hc : l.pre.holds [] { args := args } = true := (pre_splitW hpre).2
  obtain ⟨d, r, rfl, h1, h2⟩ := hasAllW_cons hsh
  obtain rfl := hasAllW_nil h2
  obtain ⟨xs, rfl, h3⟩ := hasW_list h1
  obtain ⟨ns, rfl⟩ := items_int h3
  have hlen : ns.length ≤ n := by
    unfold OpenLaw.pre at hc
    have h4 : (WTm.not (.lt (.lit (.int (n : Int))) (.len (.arg 0)))).holds [] { args := [.list (ns.map .int)] } = true := by
      have h4 := (holds_andW hc).1
      rw [hn] at h4
      exact h4
    have h5 := condW_of h4 (w_not (w_lt w_lit (w_len_list (w_arg rfl))))
    rw [List.length_map] at h5
    refine Nat.le_of_not_lt fun q => ?_
    have q' : (n : Int) < ((ns.length : Nat) : Int) := by omega
    first
      | (rw [decide_eq_true q'] at h5; exact absurd h5 (by decide))
      | (simp at h5; omega)
  cases hwl with
  | cons w1 w2 =>
    cases w2
    cases w1 with
    | list ho hall => exact ⟨_, _, ns, rfl, rfl, ho, ints_of_wellAll ns _ hall, hlen⟩

theorem post_true (l : OpenLaw) (args : List WData) : l.row.toRowW.claim.post args (.bool true) args = true :=
  postW_of (r := l.row.toRowW) (X := (true == true))
    (show WShape.has [] (.bool true) .bool = true by first | rfl | decide | simp [WShape.has, WShape.arms, WShape.armsAll])
    (show (WTm.eq .res (.lit (.bool true))).value [] { args := args, res := some (.bool true), after := args } = some (.bool (true == true)) from w_eq_bool (w_res rfl) w_lit) rfl

/-- the same from a codeAny of the CALL (for a layer whose function contracts speak of calls) -/
theorem attach_call {l : OpenLaw} {n : Nat} {q : Program} {loose : List Str} {XP : (Str → Option Value) → Heap → Prop} {YP : World → Heap → Prop} {d : DefRec}
    (hn : l.most = some n) (hdf : d.params.defaults = [])
    (call : ∀ (w : World) (s₀ s₁ : Shared) (mg mb : Str → Option Value) (fa : Addr) (o : Obj) (pm cd doc : Value) (a : Addr) (vs : List Value) (ns : List Int),
      Ground q loose [] XP w s₀ mg mb s₁.heap → YP w s₁.heap →
      s₁.heap.get? fa = some o → o.data = .func (docDef d.name d.params d.body d.scope pm cd doc) → s₁.heap.CodeRec cd d.name → mg d.name = some (.ref fa) →
      s₁.heap.get? a = some { cls := .type "list", data := .seq vs.toArray } → IntsAre vs ns → ns.length ≤ n → s₁.gens = #[] →
      codeAny (model l.prog w) callerA (.call (.ref fa) ⟨[.ref a], []⟩) (fun r s' => r = .ok (.ret (.bool true)) ∧ OldK s₁.heap s'.heap ∧ s'.os = s₁.os ∧ AllBare s'.gens) s₁) :
    WalkO q loose XP YP l.row.toRowW d [] (fun f vs => PySem.call f vs) := by
  intro w s₀ s₁ mg mb G Y fa o pm cd doc dV kV ho hd hcd hD hmg hg args vals as hpre hlay hrd hwl hlo
  obtain rfl : dV = .none := Dflts.none hD hdf
  obtain rfl : kV = .none := Dflts.noKw hD
  obtain ⟨a, vs, ns, rfl, rfl, hobj, hints, hlen⟩ := script_of hn hpre hwl
  refine enter_call (codeAny_mono (call w s₀ s₁ mg mb fa o pm cd doc a vs ns G Y ho (fd_plain hd) hcd hmg hobj hints hlen hg) fun r s' hq => ?_)
  obtain ⟨rfl, h2, h3, h4⟩ := hq
  exact ⟨.inl ⟨.bool true, .bool true, [], rfl, fun _ => rfl, .bool true, post_true l _, fun _ => ⟨List.Pairwise.nil, fun _ hm => (nomatch hm)⟩⟩, h2, h3, h4⟩

/-! ### rules over ANY heap (no ledger) from facts about the written part K: the library's own take a ledger (News) for what they write -/
section
variable {prog : Program} {w : World} {A : Around} {E : Value → Shared → Prop} {s : Shared} {K : Frag}

def ledger (h : Heap) (L d : Addr) : List (Addr × Obj) := (List.range h.objs.size).filterMap fun a => if a = L ∨ a = d then none else (h.get? a).map fun o => (a, o)
end
end Att

namespace L2
open PySem PySem.Spec PyProof.Rows

theorem vals_ints : ∀ {vs : List Value} {ns : List Int}, IntsAre vs ns → Vals (ns.map V.int) vs
  | _, _, .nil => .nil
  | _, _, .cons n t h => .cons ⟨t, rfl⟩ (vals_ints h)

/-- nothing is tracked but the script, known to the object (or it is an object of the module) -/
def Only (H : Hp) : Prop := ∀ b, H b = none ∨ ∃ o xs, H b = some (.frz o (.lst xs))

/-- THE HEAD: the law's promise, at the heap behind the top. F, the promise of the law's def, may use that base is part of the heap (so K.In base, base.Ns mainGlobals mg stand in Mod) -/
theorem law_call {P : Program} {w : World} {K : PySem.W.Frag} {mg mb : Str → Option Value} {CX : CXT} {k : Nat} {fa a : Addr} {fd : FuncData} {x : Str} {sp : Sp} {s₁ : Shared} {vs : List Value} {ns : List Int}
    (KX : K.In s₁.heap) (hns : s₁.heap.Ns mainGlobals mg) (hb : s₁.heap.Ns builtinsNs mb) (hbb : ∀ x : Str, x ≠ "__name__" → mb x = bootBuiltins x) (hlim : s₁.heap.NoLimit) (hg : s₁.gens = #[])
    (ha : s₁.heap.get? a = some { cls := .type "list", data := .seq vs.toArray }) (hi : IntsAre vs ns) (hl : ns.length ≤ sizeLine) (hr : Room k callerA)
    (F : ∀ base : Heap, K.In base → base.Ns mainGlobals mg → FnOk P w K mg base CX k fa fd [x] sp) (hbind : ∀ (s : Shared) (u : Value), BindsTo s fd ⟨[u], []⟩ [(x, u)])
    (hsp : ∀ H : Hp, Only H → SqL K H a (ns.map V.int) → sp [.ref a] H (fun v _ => v = .bl true) fun _ _ _ => False)
    (hCX : ∀ H e s', CX [] H s₁ (fun _ _ _ => False) e s' → False) :
    codeAny (model P w) callerA (.call (.ref fa) ⟨[.ref a], []⟩) (fun r s' => r = .ok (.ret (.bool true)) ∧ OldK s₁.heap s'.heap ∧ s'.os = s₁.os ∧ AllBare s'.gens) s₁ := by
  have rv := vals_ints hi
  have lenV := hi.length
  -- from an abstract heap in which nothing but the script may be tracked
  have core : ∀ H : Hp, Only H → SqL K H a (ns.map V.int) → HOk P w H s₁.heap → (∀ b, H b ≠ none → b = a) → (H a ≠ none → K.lookup a = none) →
      codeAny (model P w) callerA (.call (.ref fa) ⟨[.ref a], []⟩) (fun r s' => r = .ok (.ret (.bool true)) ∧ OldK s₁.heap s'.heap ∧ s'.os = s₁.os ∧ AllBare s'.gens) s₁ := by
    intro H hO hS hok hA hK
    have base_of : ∀ {b : Addr} {o : Obj}, s₁.heap.get? b = some o → H b = none → (hidT s₁.heap H).get? b = some o := fun e n => hidT_get e n
    have noA : ∀ {b : Addr} {o : Obj} {es : Array DictEntry} {ep : Nat}, s₁.heap.get? b = some o → o.data = .dict es ep → H b = none := fun {b o es ep} e d => by
      cases q : H b with
      | none => rfl
      | some u =>
        have e' : b = a := hA b (by rw [q]; simp)
        subst e'
        rw [ha] at e; cases e
        have d' : Data.seq vs.toArray _ = Data.dict es ep := d
        cases d'
    have nsK : ∀ {b : Addr} {m : Str → Option Value}, s₁.heap.Ns b m → (hidT s₁.heap H).Ns b m := fun {b m} ⟨o, es, ep, e, d, r⟩ => ⟨o, es, ep, base_of e (noA e d), d, r⟩
    have hKb : K.In (hidT s₁.heap H) := fun b o e => base_of (KX b o e) (by
      cases q : H b with
      | none => rfl
      | some u =>
        have e' : b = a := hA b (by rw [q]; simp)
        subst e'
        rw [hK (by rw [q]; simp)] at e; cases e)
    have hM : Mod K mg (hidT s₁.heap H) := ⟨hKb, nsK hns, ⟨mb, nsK hb, hbb⟩, let ⟨mc, h1, h2⟩ := hlim; ⟨mc, nsK h1, h2⟩⟩
    have e0 : Env0 P w K mg (hidT s₁.heap H) callerA [] s₁ H := ⟨rfl, hM, fun b o e => of_hidT e, Nat.le_of_eq (hidT_size _ _), trivial, fun b hb => absurd (show b ∈ ([] : List Addr) from hb) (by simp), hok, .of_eq hg⟩
    refine codeAny_mono ((F _ hKb (nsK hns)).run callerA [] s₁ H ⟨[.ref a], []⟩ [.ref a] [.ref a] _ _ hr e0 (hbind s₁ (.ref a)) (.cons rfl .nil) (hsp H hO hS)) fun r s' h => ?_
    cases r with
    | error e => exact (hCX H e s' h).elim
    | ok fl =>
      cases fl with
      | next => exact False.elim h
      | brk => exact False.elim h
      | cont => exact False.elim h
      | ret u =>
        obtain ⟨v, H', os, bare, un, hok', r', q⟩ := h
        have q' : v = .bl true := q
        subst q'
        obtain rfl : u = Value.bool true := r'
        refine ⟨rfl, OldK.of_keep fun b o e => ?_, os, bare⟩
        cases q : H b with
        | none => exact un.keep b o e q (by intro z; exact absurd (show b ∈ ([] : List Addr) from z) (by simp)) (by simp)
        | some u =>
          rcases hO b with z | ⟨ob, xs, z⟩
          · rw [q] at z; cases z
          · have z2 := un.frzs b ob _ z
            obtain ⟨e1, _⟩ := hok b _ z
            obtain ⟨e2, _⟩ := hok' b _ z2
            rw [e] at e1; cases e1
            exact e2
  cases hk : K.lookup a with
  | some o =>
    -- the script is one of the module's own objects
    have e := KX a o hk
    rw [ha] at e
    cases e
    refine core (fun _ => none) (fun _ => .inl rfl) (.inr ⟨_, vs.toArray, _, hk, rfl, rfl, rfl, by rw [List.size_toArray, lenV]; exact hl, by simpa using rv⟩) (fun b u z => by have z' : (none : Option HO) = some u := z; cases z') (fun b z => absurd rfl z) fun z => absurd rfl z
  | none =>
    refine core (fun b => if b = a then some (.frz { cls := .type "list", data := .seq vs.toArray } (.lst (ns.map V.int))) else none) (fun b => ?_) (.inl (.inr ⟨{ cls := .type "list", data := .seq vs.toArray }, if_pos rfl⟩)) (fun b u z => ?_) (fun b z => ?_) fun _ => hk
    · by_cases hb : b = a
      · exact .inr ⟨_, _, if_pos hb⟩
      · exact .inl (if_neg hb)
    · by_cases hb : b = a
      · have z' := (if_pos hb).symm.trans z
        cases z'
        subst hb
        exact ⟨ha, by rw [List.length_map]; exact hl, vs, _, rv, ha⟩
      · have z' := (if_neg hb).symm.trans z
        cases z'
    · by_cases hb : b = a
      · exact hb
      · exact absurd (if_neg hb) z
end L2

namespace L2
open PySem PySem.Spec PyProof.Rows

abbrev KOf {K : PySem.W.Frag} {h : Heap} (_ : K.In h) : PySem.W.Frag := K

/-- the goal that k_head leaves (case hc), from the law's promise. F gives the function object fd (K's own) once, then the promise over every base -/
theorem walk_of {l : PySem.W.OpenLaw} {n k : Nat} {q : Program} {loose : List Str} {XP : (Str → Option Value) → Heap → Prop} {YP : World → Heap → Prop} {d : DefRec} {K : Params → PySem.W.Frag} {CX : World → CXT} {sp : World → Sp} {x : Str}
    (hn : l.most = some n) (hn2 : n ≤ sizeLine) (hdf : d.params.defaults = []) (hr : Room k callerA)
    (hY : ∀ (w : World) (h : Heap), YP w h → (K w.params).In h)
    (F : ∀ (w : World) (mg : Str → Option Value) (fa : Addr) (h : Heap), (K w.params).In h → h.Ns mainGlobals mg → mg d.name = some (.ref fa) →
      ∃ fd : FuncData, (∀ (s : Shared) (u : Value), BindsTo s fd ⟨[u], []⟩ [(x, u)]) ∧
        ∀ base : Heap, (K w.params).In base → base.Ns mainGlobals mg → FnOk l.prog w (K w.params) mg base (CX w) k fa fd [x] (sp w))
    (hsp : ∀ (w : World) (H : Hp) (a : Addr) (ns : List Int), ns.length ≤ n → Only H → SqL (K w.params) H a (ns.map V.int) → sp w [.ref a] H (fun v _ => v = .bl true) fun _ _ _ => False)
    (hCX : ∀ (w : World) (H : Hp) (s : Shared) (e : Value) (s' : Shared), CX w [] H s (fun _ _ _ => False) e s' → False) :
    PySem.W.WalkO q loose XP YP l.row.toRowW d [] (fun f vs => PySem.call f vs) := by
  refine Att.attach_call hn hdf fun w s₀ s₁ mg mb fa o pm cd doc a vs ns G Y ho hd hcd hmg hobj hints hlen hg => ?_
  have KX := hY w _ Y
  obtain ⟨fd, hb, hF⟩ := F w mg fa _ KX G.T.g hmg
  exact law_call KX G.T.g G.T.b G.T.builtins G.T.nolimit hg hobj hints (Nat.le_trans hlen hn2) hr hF hb (fun H hO hS => hsp w H a ns hlen hO hS) fun H e s' => hCX w H s₁ e s'
end L2

/- THE LAST THEOREM (shape; LID, My.* are yours):
   My.Adr: a structure of the addresses that your layer names (classes, functions); My.Txt K t: a structure (Prop) of the equations over K;
   My.txt_mk : {K} {implicit addresses ..} (e1 : nsIn K mainGlobals "law" = some (some (.ref f))) (e2 : K.lookup f = some ⟨oc, od, .func (fnOf "law" "law" params body scope dV kV doc pm an cdv ct), sl⟩) (e3 : codeIn K cdv "law" = true) .. : ∃ t, My.Txt K t

set_option maxRecDepth 100000 in
set_option maxHeartbeats 0 in
theorem PySem.Challenge.cw_LID_holds : PySem.Challenge.rw_LID.Holds := by
  w_on; o_law; k_head; (case hw => w_witness2)
  k_fill
  refine L2.walk_of (l := PySem.Challenge.rw_LID) (n := 63) (k := 40) (x := "script") (CX := fun w => ..) (sp := fun _ => My.sp_law) rfl (by decide) rfl ⟨rfl, by decide, by decide⟩ (fun w h Y => PySem.W.kIn_of Y) ?F ?S ?C
  case F =>
    intro w mg fa h KX G hmg
    have T : ∃ t, My.Txt (L2.KOf KX) t := by
      dsimp only [L2.KOf]                          -- K must stand as «<heap const> w.params» for k_is
      refine' My.txt_mk ?e1 ?e2 ?e3 ..
      (case e1 => PySem.W.k_is)                    -- in the order: a name -> its address -> its object -> its parts
      (case e2 => PySem.W.k_is)
      ..
    obtain ⟨t, T⟩ := T
    have e0 := hmg.symm.trans (PySem.W.mg_of KX G T.law)
    cases e0                                       -- fa is the law's own address
    exact ⟨_, fun s u => .of_eq rfl, fun base kb nb => My.law_fn T kb nb⟩     -- if «.of_eq rfl» comes too early: refine' ⟨_, ?b, fun base kb nb => My.law_fn T kb nb⟩; exact fun s u => .of_eq rfl
  case S => exact fun w H a ns hl hO hS => ..
  case C => exact ..
(the tactic k_is has no namespace: write k_is) -/

/-! SHORT WORDS over the layer: a def of the text, its body, what a loop and a test want. -/
namespace L2
open PySem PySem.Spec PyProof.Rows

def defArgs (s : Stmt) : Arguments := match s with
  | .FunctionDef _ a _ _ _ _ _ _ _ _ => a
  | _ => { posonlyargs := [], args := [], vararg := none, kwonlyargs := [], kw_defaults := [], kwarg := none, defaults := [] }
def defBody (s : Stmt) : List Stmt := match s with
  | .FunctionDef _ _ b _ _ _ _ _ _ _ => b
  | _ => []
def defScope (s : Stmt) : Scope := match s with
  | .FunctionDef _ _ _ _ _ _ sc _ _ _ => sc
  | _ => { kind := .function, names := [], isGenerator := false, isCoroutine := false }

/-! ### no exception leaves a def -/
abbrev CX0 : CXT := fun _ _ _ _ _ _ => False
abbrev E0 : XK := fun _ _ _ => False
theorem pass0 {X : Cx} : Passes CX0 X E0 := fun _ _ _ _ _ _ _ h => h.elim

/-! ### a def (or method) of the text as it stands behind the top -/
structure Fun (K : PySem.W.Frag) (x qual : Str) (st : Stmt) (f : Addr) (fd : FuncData) : Prop where
  ex : ∃ (oc : Value) (od : Option Addr) (kV doc pm : Value) (an : Option Addr) (cdv ct : Value) (osl : Array (Option Value)),
    fd = PySem.W.fnOf x qual (defArgs st) (defBody st) (defScope st) .none kV doc pm an cdv ct ∧ K.lookup f = some ⟨oc, od, .func fd, osl⟩ ∧ PySem.W.codeIn K cdv qual = true
  kp : PySem.W.keepIn K (.ref f) = true
section
variable {P : Program} {w : World} {K : PySem.W.Frag} {mg : Str → Option Value} {base : Heap}
/-- THE RULE for a def: its body as a term of rules, and the reading of that term -/
theorem Fun.ok {x qual : Str} {st : Stmt} {f : Addr} {fd : FuncData} {N ps : List Str} {k : Nat} {sp : Sp} (F : Fun K x qual st f fd) (S : FnScope N ps (defScope st)) (len : ∀ vs H Q E, sp vs H Q E → vs.length = ps.length)
    (hbody : ∀ (cdv : Value) (A : Around) (outer : List Env) (s : Shared) (H : Hp) (vs : List V) (Q : VK) (E : XK), Room k (A.deeper (envOfC qual (defScope st) s.heap.objs.size f cdv)) → sp vs H Q E →
      ∃ t, PSs (cxOf CX0 P w K mg base N qual (defScope st) f cdv A outer s H E).nox (defBody st) t ∧ t { nx := fun _ H' => Q .non H', rt := Q } (start N vs) H) : FnOk P w K mg base CX0 (k + 1) f fd ps sp := by
  obtain ⟨oc, od, kV, doc, pm, an, cdv, ct, osl, rfl, lk, hcd⟩ := F.ex
  refine fn_of lk hcd S len fun A outer s H vs Q E hr hsp => ?_
  obtain ⟨t, h, q⟩ := hbody cdv A outer s H vs Q E hr hsp
  exact ⟨t, h.nox, q⟩
/-- how its arguments bind (no defaults): h is «fun _ _ _ _ _ _ us hl => match us, hl with | [_, _], _ => rfl», one _ a parameter -/
theorem Fun.binds {x qual : Str} {st : Stmt} {f : Addr} {fd : FuncData} {ps : List Str} (F : Fun K x qual st f fd)
    (h : ∀ (kV doc pm : Value) (an : Option Addr) (cdv ct : Value) (us : List Value), us.length = ps.length → bindArgs (PySem.W.fnOf x qual (defArgs st) (defBody st) (defScope st) .none kV doc pm an cdv ct) ⟨us, []⟩ = pure (ps.zip us)) : Binds K fd ps [] := by
  obtain ⟨oc, od, kV, doc, pm, an, cdv, ct, osl, rfl, lk, hcd⟩ := F.ex
  exact .all (h kV doc pm an cdv ct)
theorem fun_mk {x qual : Str} {st : Stmt} {f : Addr} {oc : Value} {od an : Option Addr} {osl : Array (Option Value)} {kV doc pm cdv ct : Value} (l : K.lookup f = some ⟨oc, od, .func (PySem.W.fnOf x qual (defArgs st) (defBody st) (defScope st) .none kV doc pm an cdv ct), osl⟩)
    (c : PySem.W.codeIn K cdv qual = true) (k : PySem.W.keepIn K (.ref f) = true) : Fun K x qual st f (PySem.W.fnOf x qual (defArgs st) (defBody st) (defScope st) .none kV doc pm an cdv ct) := ⟨⟨oc, od, kV, doc, pm, an, cdv, ct, osl, rfl, l, c⟩, k⟩
end
theorem hu_of {A : Around} {k : Nat} (hr : Room k A) : A.units + 1 < cLine := Nat.lt_of_le_of_lt (Nat.add_le_add_left (by decide : 1 ≤ 64) _) hr.units
/-! ### expressions in short: the name that stands in the i-th slot -/
section
variable {X : Cx}
theorem pv (i : Nat) {x : Str} {pos : Pos} (hN : X.N[i]? = some x := by rfl) (hv : Vis X.env.scope x := by first | exact Or.inl rfl | exact Or.inr (Or.inl rfl) | exact Or.inr (Or.inr rfl)) (hd : (x == ("__debug__" : Str)) = false := by decide)
    (hcd : (x == ("__classdict__" : Str)) = false := by decide) : PE X (.Name x pos) (tVar i) := pe_var hN hv hd hcd
end

/-! ### tests -/
theorem iteF {A B : Prop} (h : B) : if false = true then A else B := by
  rw [if_neg Bool.false_ne_true]
  exact h
theorem iteT {A B : Prop} (h : A) : if true = true then A else B := by
  rw [if_pos rfl]
  exact h
/-! ### heaps -/
/-- all that was tracked is as it was -/
def Same (H H' : Hp) : Prop := ∀ b o, H b = some o → H' b = some o
theorem Same.refl (H : Hp) : Same H H := fun _ _ h => h
theorem Same.trans {H H1 H2 : Hp} (a : Same H H1) (b : Same H1 H2) : Same H H2 := fun c o h => b c o (a c o h)
theorem Same.free {H H' : Hp} (e : Same H H') {l : Addr} (h : H' l = Option.none) : H l = Option.none := by
  cases q : H l with
  | none => rfl
  | some o =>
    rw [e l o q] at h
    cases h
theorem Same.seq {K : PySem.W.Frag} {H H' : Hp} {a : Addr} {xs : List V} (e : Same H H') (h : SqL K H a xs) : SqL K H' a xs := by
  rcases h with (h | ⟨o, h⟩) | h
  · exact .inl (.inl (e _ _ h))
  · exact .inl (.inr ⟨o, e _ _ h⟩)
  · exact .inr h

end L2
namespace L2
open PySem PySem.Spec PyProof.Rows
section
variable {X : Cx}
end
/-! ### a dict's pairs: keys that differ -/
section
variable {κ : Type} [DecidableEq κ]
end
end L2
set_option Elab.async false
set_option linter.all false
set_option maxRecDepth 100000
/-! A LIST COMPREHENSION with one generator, over the layer. -/
namespace L2
open PySem PySem.Spec PyProof.Rows

/-- the closure's cells -/
def clos (cells : List (Str × Addr)) : List (Str × NameKind) → List (Str × Addr) → List (Str × Addr)
  | [], acc => acc
  | (n, k) :: r, acc => clos cells r (if k == .free then (n, (cells.lookup n).getD 0) :: acc else acc)
theorem clos_run {env : Env} : ∀ (names : List (Str × NameKind)) (acc : List (Str × Addr)), (∀ y ∈ names, y.2 = .free → ∃ c, env.cells.lookup y.1 = some c) →
    (forIn names acc (fun (x : Str × NameKind) (r : List (Str × Addr)) => if (x.2 == NameKind.free) = true then (do let a ← cellOf env x.1; pure (ForInStep.yield ((x.1, a) :: r))) else pure (ForInStep.yield r)) : Sem (List (Str × Addr))) = pure (clos env.cells names acc)
  | [], acc, _ => rfl
  | (n, k) :: r, acc, h => by
    rw [List.forIn_cons]
    have ih := fun a => clos_run r a fun y hy => h y (List.mem_cons_of_mem _ hy)
    cases hk : (k == NameKind.free) with
    | true =>
      have hk' : k = .free := by cases k <;> first | rfl | exact absurd hk (by decide)
      obtain ⟨c, hc⟩ := h (n, k) List.mem_cons_self hk'
      have hc' : env.cells.lookup n = some c := hc
      have e : cellOf env n = pure c := by unfold cellOf; rw [hc']
      dsimp only
      rw [if_pos rfl, e]
      show (forIn r ((n, c) :: acc) _ : Sem _) = _
      rw [ih]
      conv => rhs; unfold clos
      rw [if_pos hk, hc']
      rfl
    | false =>
      dsimp only
      rw [if_neg (by decide)]
      show (forIn r acc _ : Sem _) = _
      rw [ih]
      conv => rhs; unfold clos
      rw [if_neg (by rw [hk]; decide)]
theorem closure_of {scope : Scope} {env : Env} (h : ∀ y ∈ scope.names, y.2 = .free → ∃ c, env.cells.lookup y.1 = some c) : closureFor scope env = pure (clos env.cells scope.names []) := by
  have e := clos_run scope.names [] h
  simp only [closureFor]
  rw [e]
  rfl
theorem clos_in {cells : List (Str × Addr)} : ∀ {names : List (Str × NameKind)} {acc : List (Str × Addr)} {x : Str} {c : Addr}, (∀ y ∈ names, y.2 = .free → ∃ c, cells.lookup y.1 = some c) → (∀ x c, acc.lookup x = some c → cells.lookup x = some c) →
    (clos cells names acc).lookup x = some c → cells.lookup x = some c
  | [], acc, x, c, _, ha, h => ha x c h
  | (n, k) :: r, acc, x, c, hn, ha, h => by
    unfold clos at h
    refine clos_in (fun y hy => hn y (List.mem_cons_of_mem _ hy)) (fun y d hy => ?_) h
    split at hy
    · rename_i hk
      have hk' : k = .free := by cases k <;> first | rfl | exact absurd hk (by decide)
      obtain ⟨c', hc⟩ := hn (n, k) List.mem_cons_self hk'
      have hc' : cells.lookup n = some c' := hc
      rw [List.lookup_cons] at hy
      cases e : (y == n) with
      | true =>
        rw [e] at hy
        have ey : y = n := by simpa using e
        subst ey
        rw [hc'] at hy ⊢
        exact hy
      | false =>
        rw [e] at hy
        exact ha y d hy
    · exact ha y d hy
theorem clos_acc {cells : List (Str × Addr)} : ∀ {names : List (Str × NameKind)} {acc : List (Str × Addr)} {x : Str}, (∃ c, acc.lookup x = some c) → ∃ c, (clos cells names acc).lookup x = some c
  | [], _, _, h => h
  | (n, k) :: r, acc, x, h => by
    unfold clos
    refine clos_acc ?_
    split
    · rw [List.lookup_cons]
      cases (x == n) with
      | true => exact ⟨_, rfl⟩
      | false => exact h
    · exact h
theorem clos_has {cells : List (Str × Addr)} : ∀ {names : List (Str × NameKind)} {acc : List (Str × Addr)} {x : Str}, (x, NameKind.free) ∈ names → ∃ c, (clos cells names acc).lookup x = some c
  | [], _, _, h => by cases h
  | (n, k) :: r, acc, x, h => by
    unfold clos
    rcases List.mem_cons.mp h with e | e
    · cases e
      refine clos_acc ?_
      rw [if_pos (by decide), List.lookup_cons]
      simp
    · exact clos_has e

/-- the context of a comprehension's block -/
def cxComp (X : Cx) (N : List Str) (scope : Scope) (cl : List (Str × Addr)) (C : Addr) (fp : List Addr) (s : Shared) (H : Hp) : Cx :=
  { X with N := N, s₀ := s, H₀ := H, env := compEnvC scope cl C X.env, outer := X.stack, stack := X.stack, ex := fp, fn := fun _ => false, pn := [], xe := fun _ _ => False }

/-- the block's names: its own (none) and the ones of the def about it (their slots there) -/
def inner (μ : List (Option Nat)) (σ : St) : St := μ.map fun o => o.bind fun j => (σ[j]?).join
def muOk (oN : List Str) (osc : Scope) (N : List Str) (isc : Scope) (μ : List (Option Nat)) : Bool :=
  decide (μ.length = N.length) && (μ.zip N).all fun (o, x) => match o with
    | none => true
    | some j => decide (oN[j]? = some x) && decide (osc.names.lookup x = some .cell) && (decide (isc.names.lookup x = some .cell) || decide (isc.names.lookup x = some .free))
theorem muOk.get {oN N : List Str} {osc isc : Scope} {μ : List (Option Nat)} (h : muOk oN osc N isc μ = true) {i j : Nat} {x : Str} (h1 : μ[i]? = some (some j)) (h2 : N[i]? = some x) :
    oN[j]? = some x ∧ osc.names.lookup x = some .cell ∧ (isc.names.lookup x = some .cell ∨ isc.names.lookup x = some .free) := by
  unfold muOk at h
  rw [Bool.and_eq_true] at h
  have hz : (μ.zip N)[i]? = some (some j, x) := by rw [List.getElem?_zip_eq_some]; exact ⟨h1, h2⟩
  have q := List.all_eq_true.mp h.2 _ (List.mem_of_getElem? hz)
  simp only [Bool.and_eq_true, Bool.or_eq_true, decide_eq_true_eq] at q
  exact ⟨q.1.1, q.1.2, q.2⟩

section
variable {prog : Program} {w : World} {A : Around} {R : Result → Shared → Prop} {s : Shared}
/-- the block's loop, the iterator's step as it is -/
theorem compLoop_go {elt target iter : Expr} {ifs : List Expr} {scope : Scope} {pos : Pos} {it acc : Value} {env : Env} (I : Nat → Shared → Prop)
    (turn : ∀ n s, I n s → wpAny (model prog w) A (pyNext it) (fun r s₁ => match r with
      | none => R (.ok .next) s₁
      | some v => wpAny (model prog w) A (letOwnedTupleGo target it v) (fun _ s₂ => wpAny (model prog w) A (assign target env v) (fun _ s₂ =>
          wpAny (model prog w) A (forIn ifs true fun c r => if r = true then do let ok ← isTrue c env (eval c env); pure (ForInStep.yield ok) else pure (ForInStep.yield r)) (fun ok s₃ =>
            if ok = true then wpAny (model prog w) A (eval elt env) (fun x s₄ =>
              wpAny (model prog w) A (call (.builtin "list.append") [acc, x]) (fun _ s₅ => ∃ m, m < n ∧ I m s₅) (fun _ _ => False) s₄) (fun _ _ => False) s₃
            else ∃ m, m < n ∧ I m s₃) (fun _ _ => False) s₂) (fun _ _ => False) s₂) (fun _ _ => False) s₁) (fun _ _ => False) s)
    (n : Nat) (h : I n s) :
    codeAny (model prog w) A (.compLoop (.ListComp elt [⟨target, iter, ifs, 0⟩] scope pos) 0 it acc env) R s := by
  refine codeAny_loop rfl I (fun n s hI => ?_) n h
  show wpAny _ A ((compTurn (.ListComp elt [⟨target, iter, ifs, 0⟩] scope pos) 0 it acc env).onRaise (fun x => do noteFrame x env; theTreesLotGoes x)) _ _ s
  refine wpAny_noted ?_
  rw [compTurn_list]
  refine wpAny_bind (wpAny_standAt (wpAny_bind (wpAny_mono (turn n s hI) (fun r s₁ h₁ => ?_) fun _ _ h' => h'.elim)))
  cases r with
  | none => exact wpAny_pure h₁
  | some v =>
    refine wpAny_bind (wpAny_mono h₁ (fun _ s₂ h₂ => wpAny_bind (wpAny_mono h₂ (fun _ s₃ h₃ => wpAny_bind (wpAny_mono h₃ (fun ok s₄ h₄ => ?_) fun _ _ h' => h'.elim)) fun _ _ h' => h'.elim)) fun _ _ h' => h'.elim)
    cases ok with
    | false => exact wpAny_pure ⟨rfl, h₄⟩
    | true =>
      exact wpAny_bind (wpAny_bind (wpAny_mono h₄ (fun x s₅ h₅ => wpAny_bind (wpAny_mono h₅ (fun _ s₆ h₆ => wpAny_pure (wpAny_pure ⟨rfl, h₆⟩)) fun _ _ h' => h'.elim)) fun _ _ h' => h'.elim))
end

/-- the block's tests -/
def PTs (X : Cx) (ifs : List Expr) (t : TT) : Prop :=
  ∀ (pins : List (Addr × Obj)) (s : Shared) (σ : St) (H : Hp) (Q : Bool → Hp → Prop), Inv X pins σ H s → t σ H Q →
    wpAny (model X.prog X.w) X.A (forIn ifs true fun c r => if r = true then do let ok ← isTrue c X.env (eval c X.env); pure (ForInStep.yield ok) else pure (ForInStep.yield r)) (TP X pins σ Q) X.xe s
theorem pts_nil {X : Cx} : PTs X [] (fun _ H Q => Q true H) := fun pins s σ H Q I h => wpAny_tests_nil ⟨H, I, h⟩
/-- what a comprehension wants: p the new list -/
def compW (μ : List (Option Nat)) (g : TG) (tt : TT) (te : TE) (σ : St) (Q : VK) (J : It) (H1 : Hp) : Prop :=
  ∀ p, H1 p = none → ∃ W : Nat → Nat → St → Hp → Prop, (∃ m, W 0 m (inner μ σ) (upd H1 p (.lst []))) ∧ ∀ i m σ' H', W i m σ' H' →
    (J.stop i H' ∧ Q (.ref p) H') ∨ (J.go i H' ∧ ∃ Nn : St → Hp → Prop, (∀ σ2 H2, Nn σ2 H2 → ∃ m', m' < m ∧ W (i + 1) m' σ2 H2) ∧
      ∀ x H2, J.yld i H' x H2 → g x σ' H2 fun σ3 H3 => tt σ3 H3 fun b H4 => if b = true then te σ3 H4 fun y H5 => ∃ ys, H5 p = some (.lst ys) ∧ ys.length < sizeLine ∧ Nn σ3 (upd H5 p (.lst (ys ++ [y]))) else Nn σ3 H4)
def tComp (μ : List (Option Nat)) (wi : TI) (g : TG) (tt : TT) (te : TE) : TE := fun σ H Q => wi σ H (compW μ g tt te σ Q)

section
variable {X : Cx} {pins : List (Addr × Obj)} {σ : St} {H2 : Hp} {s2 : Shared} {tg iter elt : Expr} {ifs : List Expr} {scope : Scope} {pos : Pos} {it : Addr} {fp : List Addr} {tn : Nat → Heap → Prop} {J : It} {N : List Str} {μ : List (Option Nat)} {g : TG} {tt : TT} {te : TE} {Q : VK}
theorem comp_core {RR : Value → Addr → Result → Shared → Prop} (I2 : Inv X pins σ H2 s2) (T : Turn X.prog X.w X.K tg J fp it tn) (st2 : tn 0 s2.heap) (f2 : ∀ b ∈ fp, FpOk X pins H2 b) (hc : X.calm = true)
    (hcell : ∀ y ∈ scope.names, y.2 ≠ .cell) (hkind : scope.kind = .function) (hfr : ∀ y ∈ scope.names, y.2 = .free → ∃ c, X.env.cells.lookup y.1 = some c)
    (hhas : ∀ x, ((relabel scope X.env).names.lookup x = some .cell ∨ (relabel scope X.env).names.lookup x = some .free) → (x, NameKind.free) ∈ scope.names)
    (hμ : muOk X.N X.env.scope N (relabel scope X.env) μ = true)
    (hg : ∀ C s H, PG (cxComp X N scope (clos X.env.cells scope.names []) C fp s H) tg g) (ht : ∀ C s H, PTs (cxComp X N scope (clos X.env.cells scope.names []) C fp s H) ifs tt) (he : ∀ C s H, PE (cxComp X N scope (clos X.env.cells scope.names []) C fp s H) elt te)
    (hW : compW μ g tt te σ Q J H2)
    (hRR : ∀ p C s' H' m, Inv X pins σ H' s' → s'.heap.Ns C m → FpOk X pins H' C → Q (.ref p) H' → RR (.ref p) C (.ok .next) s') :
    wpAny (model X.prog X.w) X.A (newList []) (fun acc s₃ => wpAny (model X.prog X.w) X.A (newFunctionEnv scope X.env.globals (clos X.env.cells scope.names []) [] X.env.qual none .none (some X.env)) (fun cenv s₄ =>
      codeAny (model X.prog X.w) X.A (.compStart (.ListComp elt [⟨tg, iter, ifs, 0⟩] scope pos) 0 (.ref it) acc { cenv with scope := relabel scope X.env }) (RR acc cenv.locals) s₄) X.xe s₃) X.xe s2 := by
  refine wpAny_newObj_type (wpAny_newFunctionEnv hcell (by intro y hy; simp at hy) (fun h₁ hns₁ hsb₁ => ?_) hkind)
  dsimp only at hns₁ hsb₁ ⊢
  generalize hH2 : s2.heap.push { cls := .type "list", dict := none, data := .seq ([] : List Value).toArray } = G at hns₁ hsb₁ ⊢
  have hC : G.objs.size = s2.heap.objs.size + 1 := by rw [← hH2, Heap.size_push]
  have hDC : s2.heap.objs.size ≠ G.objs.size := by rw [hC]; exact Nat.ne_of_lt (Nat.lt_succ_self _)
  have hCle : s2.heap.objs.size ≤ G.objs.size := by rw [hC]; exact Nat.le_succ _
  have below : ∀ b, b < s2.heap.objs.size → b ≠ G.objs.size ∧ b ≠ s2.heap.objs.size := fun b hb => ⟨by rw [hC]; exact Nat.ne_of_lt (Nat.lt_succ_of_lt hb), Nat.ne_of_lt hb⟩
  have old : ∀ b o, s2.heap.get? b = some o → h₁.get? b = some o := fun b o e => hsb₁.extBut b o (below b (Heap.lt_size e)).1 (Heap.get?_push_of_some _ (hH2 ▸ Heap.get?_push_of_some _ e))
  have hobj : h₁.get? s2.heap.objs.size = some { cls := .type "list", dict := none, data := .seq ([] : List Value).toArray } := hsb₁.extBut _ _ hDC (Heap.get?_push_of_some _ (hH2 ▸ Heap.get?_push_size _ rfl))
  have hclin : ∀ x c, (clos X.env.cells scope.names []).lookup x = some c → X.env.cells.lookup x = some c := fun x c h => clos_in hfr (fun _ _ z => by simp at z) h
  have cellt : ∀ x c, (clos X.env.cells scope.names []).lookup x = some c → c < s2.heap.objs.size := fun x c h => by
    obtain ⟨v, o, ho, _⟩ := I2.cell x c (hclin x c h)
    exact Heap.lt_size ho
  have fplt : ∀ b ∈ fp, b < s2.heap.objs.size := fun b hb => by
    obtain ⟨o, ho, _⟩ := T.obj 0 _ st2 b hb
    exact Heap.lt_size ho
  have Hn : ∀ a, s2.heap.objs.size ≤ a → H2 a = none := fun a ha => I2.hok.fresh ha
  obtain ⟨W, ⟨m0, w0⟩, turn⟩ := hW s2.heap.objs.size (Hn _ (Nat.le_refl _))
  have okc : (cxComp X N scope (clos X.env.cells scope.names []) G.objs.size fp s2 H2).Ok := by
    refine ⟨I2.ok.mod, by show (relabel scope X.env).kind = _; exact hkind, I2.ok.glob, I2.ok.blt, hCle, fun x y c h1 h2 => ?_, fun x hx => ?_, fun _ _ z => (by cases z), I2.ok.hd, I2.ok.frames, .inl rfl, fun b hb => ⟨?_, fun x c h z => ?_⟩, I2.bs, Nat.le_trans I2.ok.bsz I2.sz, fun b o e hb => ?_, fun b hb z => ?_, I2.stack, I2.stkFree⟩
    · exact I2.ok.inj x y c (hclin x c h1) (hclin y c h2)
    · exact clos_has (hhas x hx)
    · exact (below b (fplt b hb)).1
    · exact (f2 b hb).2.2.2.2.1 x c (hclin x c h) z
    · rcases (f2 b hb).2.2.2.1 with z | z
      · exact I2.ok.noex b o e z
      · exact absurd (Nat.lt_of_lt_of_le (Heap.lt_size e) (Nat.le_trans I2.ok.bsz z)) (Nat.lt_irrefl _)
    · rcases List.mem_cons.mp (I2.stkSub b z) with e | e
      · exact (f2 b hb).2.1 e
      · exact (f2 b hb).2.2.1 e
  have Hfree : ∀ b, b ≠ s2.heap.objs.size → H2 b = none → (upd H2 s2.heap.objs.size (.lst [])) b = none := fun b h1 h2 => by rw [upd_ne h1]; exact h2
  have I3 : Inv (cxComp X N scope (clos X.env.cells scope.names []) G.objs.size fp s2 H2) [] (inner μ σ) (upd H2 s2.heap.objs.size (.lst [])) { s2 with heap := h₁, toks := s2.toks + ([] : List (Str × Value)).length } := by
    refine ⟨okc, rfl, I2.bare, Un.laid old (Nat.le_refl _) (Hn _ (Nat.le_refl _)), ⟨_, hns₁, fun i x v e1 e2 e3 => ?_⟩, fun x c h => ?_, Hfree _ hDC.symm (Hn _ hCle), fun x c h => Hfree _ (below c (cellt x c h)).2 (I2.freeC x c (hclin x c h)), fun p hp => absurd (show p ∈ ([] : List (Addr × Obj)) from hp) (by simp), I2.hok.laid old (Nat.le_refl _) ⟨by decide, [], 0, .nil, hobj⟩, ?_⟩
    · have e1' : N[i]? = some x := e1
      have e2' : (μ.map fun o => o.bind fun j => (σ[j]?).join)[i]? = some (some v) := e2
      rw [List.getElem?_map] at e2'
      cases q : μ[i]? with
      | none => rw [q] at e2'; cases e2'
      | some o =>
        rw [q] at e2'
        cases o with
        | none => cases e2'
        | some j =>
          have e4 : (σ[j]?).join = some v := Option.some.inj e2'
          have e5 : σ[j]? = some (some v) := by
            cases z : σ[j]? with
            | none => rw [z] at e4; cases e4
            | some y => rw [z] at e4; cases y with
              | none => cases e4
              | some y => rw [show y = v from Option.some.inj e4]
          obtain ⟨a1, a2, a3⟩ := muOk.get hμ q e1'
          obtain ⟨m, hn, hl⟩ := I2.loc
          obtain ⟨u, r, l⟩ := hl j x v a1 e5 (.inr (.inl a2))
          refine ⟨u, r, ?_⟩
          rcases l with ⟨k, _⟩ | ⟨_, c, hcc, hce⟩
          · exact absurd ((show X.env.scope.names.lookup x = some .local from k).symm.trans a2) (by intro z; cases z)
          · obtain ⟨c', hc'⟩ : ∃ c, (clos X.env.cells scope.names []).lookup x = some c := clos_has (hhas x a3)
            have ec : c' = c := Option.some.inj ((hclin x c' hc').symm.trans hcc)
            subst ec
            exact .inr ⟨a3, c', hc', hce.keeps old⟩
    · obtain ⟨v, z⟩ := I2.cell x c (hclin x c h)
      exact ⟨v, z.keeps old⟩
    · show (μ.map _).length = N.length
      rw [List.length_map]
      have q := hμ
      unfold muOk at q
      rw [Bool.and_eq_true] at q
      exact of_decide_eq_true q.1
  have fin : ∀ {σ' : St} {H' : Hp} {s' : Shared}, Inv (cxComp X N scope (clos X.env.cells scope.names []) G.objs.size fp s2 H2) [] σ' H' s' → Q (.ref s2.heap.objs.size) H' → RR (.ref s2.heap.objs.size) G.objs.size (.ok .next) s' := fun {σ' H' s'} I4 q => by
    have I5 : Inv X pins σ H' s' := I2.call' (ch := fp) I4.os I4.base I4.hok I4.bare fun b hb => ⟨(f2 b hb).2.2.2.1, (f2 b hb).2.1, (f2 b hb).2.2.2.2.1, (f2 b hb).2.2.2.2.2⟩
    obtain ⟨m, hn, _⟩ := I4.loc
    have hn' : s'.heap.Ns G.objs.size m := hn
    refine hRR _ _ s' H' m I5 hn' ⟨I4.free, Nat.ne_of_gt (Nat.lt_of_lt_of_le I2.lt hCle), I2.nofs hCle, .inr (Nat.le_trans I2.sz hCle), fun x c h z => ?_, fun p hp z => ?_⟩ q
    · obtain ⟨v, o, ho, _⟩ := I2.cell x c h
      exact (below c (Heap.lt_size ho)).1 z
    · exact (below p.1 (Heap.lt_size (I2.pin p hp).1)).1 z
  have stat : ∀ {H' : Hp}, (∀ b ∈ fp, H' b = none) → ∀ b ∈ fp, FpOk (cxComp X N scope (clos X.env.cells scope.names []) G.objs.size fp s2 H2) [] H' b := fun {H'} hn b hb => by
    refine ⟨hn b hb, (below b (fplt b hb)).1, fun z => ?_, .inl hb, fun x c h z => (f2 b hb).2.2.2.2.1 x c (hclin x c h) z, fun p hp => absurd (show p ∈ ([] : List (Addr × Obj)) from hp) (by simp)⟩
    exact okc.exfs b hb z
  have loop : codeAny (model X.prog X.w) X.A (.compLoop (.ListComp elt [⟨tg, iter, ifs, 0⟩] scope pos) 0 (.ref it) (.ref s2.heap.objs.size) (compEnvC scope (clos X.env.cells scope.names []) G.objs.size X.env))
      (RR (.ref s2.heap.objs.size) G.objs.size) { s2 with heap := h₁, toks := s2.toks + ([] : List (Str × Value)).length } := by
    refine compLoop_go (fun n s' => ∃ i σ' H', Inv (cxComp X N scope (clos X.env.cells scope.names []) G.objs.size fp s2 H2) [] σ' H' s' ∧ tn i s'.heap ∧ (∀ b ∈ fp, H' b = none) ∧ W i n σ' H') ?_ m0
      ⟨0, inner μ σ, _, I3, T.keep _ _ _ st2 (fun b hb o e => old b o e), fun b hb => Hfree b (below b (fplt b hb)).2 (f2 b hb).1, w0⟩
    rintro n s3 ⟨i, σ3, H3, I3, st3, fr3, w3⟩
    rcases turn i n σ3 H3 w3 with ⟨stop, qn⟩ | ⟨go, Nn, hN, step⟩
    · refine thn (T.done (cxComp X N scope (clos X.env.cells scope.names []) G.objs.size fp s2 H2) rfl rfl rfl hc i [] s3 σ3 H3 _ I3 (stat fr3) st3 stop) fun r s4 ⟨hr, I4⟩ => ?_
      subst hr
      exact fin I4 qn
    · refine thn (T.item (cxComp X N scope (clos X.env.cells scope.names []) G.objs.size fp s2 H2) rfl rfl rfl hc i [] s3 σ3 H3 _ I3 (stat fr3) st3 go) fun r s4 ⟨u, hr, h4⟩ => ?_
      subst hr
      refine thn h4 fun _ s5 hw' => ?_
      obtain ⟨x, H5, I5, r5, y5, st5, fr5⟩ := hw'
      have I5' := I5.pinned (stat fr5) (T.obj _ _ st5)
      have again : ∀ {σ7 : St} {H7 : Hp} {s7 : Shared}, Inv (cxComp X N scope (clos X.env.cells scope.names []) G.objs.size fp s2 H2) ([] ++ pinsAt fp s5.heap) σ7 H7 s7 → Nn σ7 H7 →
          ∃ m, m < n ∧ ∃ i σ' H', Inv (cxComp X N scope (clos X.env.cells scope.names []) G.objs.size fp s2 H2) [] σ' H' s7 ∧ tn i s7.heap ∧ (∀ b ∈ fp, H' b = none) ∧ W i m σ' H' := fun {σ7 H7 s7} I7 n7 => by
        obtain ⟨m', hm, w7⟩ := hN σ7 H7 n7
        refine ⟨m', hm, i + 1, σ7, H7, I7.unpinned, T.keep _ _ _ st5 fun b hb o e => (I7.pin (b, o) (List.mem_append_right _ (List.mem_append_right _ (mem_pinsAt hb e)))).1, fun b hb => ?_, w7⟩
        obtain ⟨o, e, d⟩ := T.obj _ _ st5 b hb
        exact (I7.pin (b, o) (List.mem_append_right _ (List.mem_append_right _ (mem_pinsAt hb e)))).2.1
      refine thn (hg G.objs.size s2 H2 _ s5 σ3 H5 x u _ I5' r5 (step x H5 y5)) fun _ s6 hw' => ?_
      obtain ⟨σ6, H6, I6, q6⟩ := hw'
      refine thn (ht G.objs.size s2 H2 _ s6 σ6 H6 _ I6 q6) fun ok s7 ⟨H7, I7, q7⟩ => ?_
      cases ok with
      | false =>
        rw [if_neg (by decide)] at q7 ⊢
        exact again I7 q7
      | true =>
        rw [if_pos rfl] at q7 ⊢
        refine thn (he G.objs.size s2 H2 _ s7 σ6 H7 _ I7 q7) fun u8 s8 hw' => ?_
        obtain ⟨y, H8, I8, r8, ys, e8, l8, q8⟩ := hw'
        have ma := mt_append (X := cxComp X N scope (clos X.env.cells scope.names []) G.objs.size fp s2 H2) _ s8 σ6 H8 (.ref s2.heap.objs.size) [y] (.ref s2.heap.objs.size) [u8]
          (fun _ H9 => Nn σ6 H9) I8 rfl (.cons r8 .nil) ⟨_, ys, y, rfl, rfl, e8, l8, q8⟩
        exact thn ma fun _ s9 ⟨_, H9, I9, _, q9⟩ => again I9 q9
  exact codeAny_compStart_list loop (T.self _ 0 _ _ _ (T.keep _ _ _ st2 (fun b hb o e => old b o e)) loop)

theorem pe_comp {wi : TI} (hc : X.calm = true) (hcell : ∀ y ∈ scope.names, y.2 ≠ .cell) (hkind : scope.kind = .function) (hnames : ∀ y ∈ scope.names, y.2 = .local → scope.names.lookup y.1 = some .local)
    (hfree : ∀ y ∈ scope.names, y.2 = .free → X.env.kindOf y.1 = some .cell ∨ X.env.kindOf y.1 = some .free)
    (hhas : ∀ x, ((relabel scope X.env).names.lookup x = some .cell ∨ (relabel scope X.env).names.lookup x = some .free) → (x, NameKind.free) ∈ scope.names)
    (hμ : muOk X.N X.env.scope N (relabel scope X.env) μ = true) (hi : PI X tg iter wi)
    (hg : ∀ fp C s H, PG (cxComp X N scope (clos X.env.cells scope.names []) C fp s H) tg g) (ht : ∀ fp C s H, PTs (cxComp X N scope (clos X.env.cells scope.names []) C fp s H) ifs tt) (he : ∀ fp C s H, PE (cxComp X N scope (clos X.env.cells scope.names []) C fp s H) elt te)
    (hs : ∀ x, foldedSetIterable iter X.env x = pure x := by intro _; rfl) : PE X (.ListComp elt [⟨tg, iter, ifs, 0⟩] scope pos) (tComp μ wi g tt te) := by
  intro pins s σ H Q I h
  have hfr : ∀ y ∈ scope.names, y.2 = .free → ∃ c, X.env.cells.lookup y.1 = some c := fun y hy hk => I.ok.has y.1 (hfree y hy hk)
  rw [eval_ListComp]
  refine wpAny_comprehension_free (use := none) rfl hs (closure_of hfr) hkind hnames (thn (hi pins s σ H _ I h) fun v s1 h1 => thn h1 fun itv s2 h2 => ?_)
  obtain ⟨it, fp, tn, J, H2, rfl, I2, T, st2, f2, W⟩ := h2
  refine comp_core (RR := fun acc C => compPost (model X.prog X.w) X.A X.xe none (EP X pins σ Q) acc C) I2 T st2 f2 hc hcell hkind hfr hhas hμ (hg fp) (ht fp) (he fp) W ?_
  intro p C s' H' m I' hn fc q
  exact ⟨m, hn, fun h' hsb => ⟨.ref p, H', I'.turned (t' := s'.toks) (fun b o ne e => (hsb.2 b ne).trans e) fc.1 (Ne.symm fc.2.1).symm fc.2.2.2.1 fc.2.2.2.2.1 fc.2.2.2.2.2, rfl, q⟩⟩
end
end L2
set_option Elab.async false
set_option linter.all false
set_option maxRecDepth 100000
/-! PLAIN DATA OVER THE LAYER: what an expression, a block, a def is worth as a total Lean function over plain data. -/
namespace DL
open PySem PySem.Spec PyProof.Rows L2

abbrev St := L2.St
/-- plain data; scr: the script; obj: the n-th object that may change -/
inductive D where
  | non | bl (b : Bool) | int (i : Int) | str (x : Str) | tup (xs : List D) | lst (xs : List D) | scr (ns : List Int) | obj (n : Nat)

mutual
def Is (K : PySem.W.Frag) (α : List Addr) (F : Hp) : D → V → Prop
  | .non, v => v = .non
  | .bl b, v => v = .bl b
  | .int i, v => v = .int i
  | .str x, v => v = .str x
  | .tup xs, v => ∃ a vs, v = .ref a ∧ F a = some (.tup vs) ∧ IsL K α F xs vs
  | .lst xs, v => ∃ a vs, v = .ref a ∧ F a = some (.lst vs) ∧ IsL K α F xs vs
  | .scr ns, v => ∃ a, v = .ref a ∧ SqL K F a (ns.map V.int)
  | .obj n, v => ∃ a, α[n]? = some a ∧ v = .ref a
def IsL (K : PySem.W.Frag) (α : List Addr) (F : Hp) : List D → List V → Prop
  | [], vs => vs = []
  | d :: ds, vs => ∃ v r, vs = v :: r ∧ Is K α F d v ∧ IsL K α F ds r
end

section
variable {K : PySem.W.Frag} {α α' : List Addr} {F F' : Hp}
mutual
theorem Is.mono (ff : Same F F') (al : ∃ more, α' = α ++ more) : ∀ (d : D) {v : V}, Is K α F d v → Is K α' F' d v
  | .non, _, h => by rw [Is] at h ⊢; exact h
  | .bl _, _, h => by rw [Is] at h ⊢; exact h
  | .int _, _, h => by rw [Is] at h ⊢; exact h
  | .str _, _, h => by rw [Is] at h ⊢; exact h
  | .tup xs, _, h => by
    rw [Is] at h ⊢
    obtain ⟨a, vs, e, q, r⟩ := h
    exact ⟨a, vs, e, ff _ _ q, IsL.mono ff al xs r⟩
  | .lst xs, _, h => by
    rw [Is] at h ⊢
    obtain ⟨a, vs, e, q, r⟩ := h
    exact ⟨a, vs, e, ff _ _ q, IsL.mono ff al xs r⟩
  | .scr ns, _, h => by
    rw [Is] at h ⊢
    obtain ⟨a, e, q⟩ := h
    exact ⟨a, e, ff.seq q⟩
  | .obj n, _, h => by
    rw [Is] at h ⊢
    obtain ⟨a, e, q⟩ := h
    obtain ⟨more, rfl⟩ := al
    refine ⟨a, ?_, q⟩
    rw [List.getElem?_append_left (List.getElem?_eq_some_iff.mp e).1]
    exact e
theorem IsL.mono (ff : Same F F') (al : ∃ more, α' = α ++ more) : ∀ (ds : List D) {vs : List V}, IsL K α F ds vs → IsL K α' F' ds vs
  | [], _, h => by rw [IsL] at h ⊢; exact h
  | d :: ds, _, h => by
    rw [IsL] at h ⊢
    obtain ⟨v, r, e, h1, h2⟩ := h
    exact ⟨v, r, e, Is.mono ff al d h1, IsL.mono ff al ds h2⟩
end
theorem IsL.nil : IsL K α F [] [] := by rw [IsL]
theorem IsL.cons {d : D} {v : V} {ds : List D} {vs : List V} (h : Is K α F d v) (r : IsL K α F ds vs) : IsL K α F (d :: ds) (v :: vs) := by rw [IsL]; exact ⟨v, vs, rfl, h, r⟩
theorem IsL.of_nil {vs : List V} (h : IsL K α F [] vs) : vs = [] := by rw [IsL] at h; exact h
theorem IsL.of_cons {d : D} {ds : List D} {vs : List V} (h : IsL K α F (d :: ds) vs) : ∃ v r, vs = v :: r ∧ Is K α F d v ∧ IsL K α F ds r := by rw [IsL] at h; exact h
theorem IsL.length : ∀ {ds : List D} {vs : List V}, IsL K α F ds vs → ds.length = vs.length
  | [], vs, h => by rw [h.of_nil]; rfl
  | d :: ds, vs, h => by
    obtain ⟨v, r, rfl, _, t⟩ := h.of_cons
    rw [List.length_cons, List.length_cons, t.length]
theorem IsL.append : ∀ {ds es : List D} {vs us : List V}, IsL K α F ds vs → IsL K α F es us → IsL K α F (ds ++ es) (vs ++ us)
  | [], _, _, _, h, q => by rw [h.of_nil]; exact q
  | d :: ds, es, vs, us, h, q => by
    obtain ⟨v, r, rfl, h1, t⟩ := h.of_cons
    exact .cons h1 (t.append q)
theorem IsL.take : ∀ {ds : List D} {vs : List V} (n : Nat), IsL K α F ds vs → IsL K α F (ds.take n) (vs.take n)
  | [], _, n, h => by rw [h.of_nil, List.take_nil, List.take_nil]; exact .nil
  | d :: ds, vs, 0, h => by rw [List.take_zero, List.take_zero]; exact .nil
  | d :: ds, vs, n + 1, h => by
    obtain ⟨v, r, rfl, h1, t⟩ := h.of_cons
    exact .cons h1 (t.take n)
theorem IsL.drop : ∀ {ds : List D} {vs : List V} (n : Nat), IsL K α F ds vs → IsL K α F (ds.drop n) (vs.drop n)
  | [], _, n, h => by rw [h.of_nil, List.drop_nil, List.drop_nil]; exact .nil
  | d :: ds, vs, 0, h => h
  | d :: ds, vs, n + 1, h => by
    obtain ⟨v, r, rfl, h1, t⟩ := h.of_cons
    exact t.drop n
theorem IsL.get : ∀ {ds : List D} {vs : List V} {i : Nat} {d : D}, IsL K α F ds vs → ds[i]? = some d → ∃ v, vs[i]? = some v ∧ Is K α F d v
  | [], _, _, _, _, e => by simp at e
  | d :: ds, vs, 0, x, h, e => by
    obtain ⟨v, r, rfl, h1, t⟩ := h.of_cons
    rw [List.getElem?_cons_zero] at e
    cases e
    exact ⟨v, rfl, h1⟩
  | d :: ds, vs, i + 1, x, h, e => by
    obtain ⟨v, r, rfl, h1, t⟩ := h.of_cons
    rw [List.getElem?_cons_succ] at e
    obtain ⟨u, e1, q⟩ := t.get e
    exact ⟨u, by rw [List.getElem?_cons_succ]; exact e1, q⟩
theorem IsL.rep {ds : List D} {vs : List V} (h : IsL K α F ds vs) : ∀ n : Nat, IsL K α F (List.replicate n ds).flatten (List.replicate n vs).flatten
  | 0 => .nil
  | n + 1 => by
    rw [List.replicate_succ, List.replicate_succ, List.flatten_cons, List.flatten_cons]
    exact h.append (h.rep n)
theorem IsL.ints : ∀ (ns : List Int), IsL K α F (ns.map D.int) (ns.map V.int)
  | [] => .nil
  | n :: ns => .cons (by rw [Is]) (IsL.ints ns)
end

/-- the state at a place: the objects' places, what stands for ever, what belongs to the objects, the whole -/
structure E4 where
  α : List Addr
  F : Hp
  A : Addr → Prop
  H : Hp
structure Ext (e e' : E4) : Prop where
  fz : ∀ b o u, e.H b = some (.frz o u) → e'.H b = some (.frz o u)
  hk : ∀ b o, e.H b = some o → ¬ e.A b → e'.H b = some o
  dm : ∀ b o, e.H b = some o → ∃ o', e'.H b = some o'
  ff : Same e.F e'.F
  fn : ∀ b o, e'.F b = some o → e.F b = some o ∨ e.H b = none ∨ ((∃ xs, o = .tup xs) ∧ e.H b = some o ∧ ¬ e.A b)
  an : ∀ b, e'.A b → e.A b ∨ e.H b = none
  aa : ∀ b, e.A b → e'.A b
  al : ∃ more, e'.α = e.α ++ more
theorem Ext.refl (e : E4) : Ext e e := ⟨fun _ _ _ h => h, fun _ _ h _ => h, fun _ o h => ⟨o, h⟩, Same.refl _, fun _ _ h => .inl h, fun _ h => .inl h, fun _ h => h, [], by simp⟩
theorem Ext.back {e e' : E4} (x : Ext e e') {b : Addr} (h : e'.H b = none) : e.H b = none := by
  cases q : e.H b with
  | none => rfl
  | some o => obtain ⟨o', z⟩ := x.dm b o q; rw [h] at z; cases z
theorem Ext.trans {a b c : E4} (x : Ext a b) (y : Ext b c) : Ext a c := by
  refine ⟨fun p o u h => y.fz p o u (x.fz p o u h), fun p o h hn => y.hk p o (x.hk p o h hn) fun z => ?_, fun p o h => ?_, x.ff.trans y.ff, fun p o h => ?_, fun p h => ?_, fun p h => y.aa p (x.aa p h), ?_⟩
  · rcases x.an p z with q | q
    · exact hn q
    · rw [q] at h; cases h
  · obtain ⟨o', h'⟩ := x.dm p o h
    exact y.dm p o' h'
  · rcases y.fn p o h with q | q | ⟨q1, q2, q3⟩
    · exact x.fn p o q
    · exact .inr (.inl (x.back q))
    · have n : ¬ a.A p := fun z => q3 (x.aa p z)
      cases z : a.H p with
      | none => exact .inr (.inl rfl)
      | some o' =>
        have z' := x.hk p o' z n
        rw [q2] at z'
        cases z'
        exact .inr (.inr ⟨q1, rfl, n⟩)
  · rcases y.an p h with q | q
    · exact x.an p q
    · exact .inr (x.back q)
  · obtain ⟨m, e1⟩ := x.al
    obtain ⟨n, e2⟩ := y.al
    exact ⟨m ++ n, by rw [e2, e1, List.append_assoc]⟩

/-- a list of one's own stays so -/
theorem Ext.keepOwn {e e' : E4} (x : Ext e e') {a : Addr} {vs : List V} (h : e.H a = some (.lst vs)) (hF : e.F a = none) (hA : ¬ e.A a) : e'.H a = some (.lst vs) ∧ e'.F a = none ∧ ¬ e'.A a := by
  refine ⟨x.hk a _ h hA, ?_, fun z => ?_⟩
  · cases z : e'.F a with
    | none => rfl
    | some o =>
      rcases x.fn a o z with y | y | ⟨⟨xs, rfl⟩, y, _⟩
      · rw [hF] at y; cases y
      · rw [h] at y; cases y
      · rw [h] at y; cases y
  · rcases x.an a z with y | y
    · exact hA y
    · rw [h] at y; cases y

/-- an object that may change -/
inductive OS where
  | mls (xs : List D) | dead | exc (c : Str) | ins (c : Str) (fs : List (Str × D)) | fzK (kvs : List (Key × D)) | dK (kvs : List (Key × D)) | dT (kvs : List (List Key × D))
/-- pairs by their keys -/
def PsIs (K : PySem.W.Frag) (α : List Addr) (F : Hp) {κ : Type} : List (κ × D) → List (κ × V) → Prop
  | [], vs => vs = []
  | p :: r, vs => ∃ v t, vs = (p.1, v) :: t ∧ Is K α F p.2 v ∧ PsIs K α F r t
theorem PsIs.mono {K : PySem.W.Frag} {α α' : List Addr} {F F' : Hp} {κ : Type} (ff : Same F F') (al : ∃ more, α' = α ++ more) : ∀ {ps : List (κ × D)} {vs : List (κ × V)}, PsIs K α F ps vs → PsIs K α' F' ps vs
  | [], _, h => h
  | p :: r, _, ⟨v, t, e, i, q⟩ => ⟨v, t, e, Is.mono ff al _ i, PsIs.mono ff al q⟩
abbrev Cl := Str → Option Addr
def OSIs (K : PySem.W.Frag) (C : Cl) (e : E4) (a : Addr) : OS → Prop
  | .mls xs => ∃ vs, e.H a = some (.lst vs) ∧ IsL K e.α e.F xs vs
  | .dead => True
  | .exc c => ∃ Ca ob u, C c = some Ca ∧ e.H a = some (.frz ob u) ∧ ob.cls = .ref Ca
  | .ins c fs => ∃ Ca dx fvs, C c = some Ca ∧ e.H a = some (.ins Ca dx fvs) ∧ PsIs K e.α e.F fs fvs
  | .fzK kvs => ∃ vs o, e.H a = some (.frz o (.dK vs)) ∧ PsIs K e.α e.F kvs vs
  | .dK kvs => ∃ vs, e.H a = some (.dK vs) ∧ PsIs K e.α e.F kvs vs
  | .dT kvs => ∃ vs, e.H a = some (.dT vs) ∧ PsIs K e.α e.F kvs vs
structure Wf (K : PySem.W.Frag) (C : Cl) (e : E4) (Ω : List OS) : Prop where
  fh : Same e.F e.H
  fa : ∀ b, e.A b → e.F b = none
  ah : ∀ b, e.A b → e.H b ≠ none ∧ ∀ xs, e.H b ≠ some (.tup xs)
  ol : e.α.length = Ω.length
  nd : e.α.Nodup
  ob : ∀ (n : Nat) (a : Addr) (o : OS), e.α[n]? = some a → Ω[n]? = some o → e.A a ∧ OSIs K C e a o
section
variable {K : PySem.W.Frag} {C : Cl} {e e' : E4} {Ω Ω' : List OS}
theorem Is.ext (x : Ext e e') {d : D} {v : V} (h : Is K e.α e.F d v) : Is K e'.α e'.F d v := Is.mono x.ff x.al d h
theorem IsL.ext (x : Ext e e') {d : List D} {v : List V} (h : IsL K e.α e.F d v) : IsL K e'.α e'.F d v := IsL.mono x.ff x.al d h
/-- a new thing that stands for ever -/
def E4.new (e : E4) (p : Addr) (o : HO) : E4 := ⟨e.α, upd e.F p o, e.A, upd e.H p o⟩
theorem Wf.nF (w : Wf K C e Ω) {p : Addr} (hp : e.H p = none) : e.F p = none := by
  cases q : e.F p with
  | none => rfl
  | some o => rw [w.fh p o q] at hp; cases hp
theorem Wf.new_ext (w : Wf K C e Ω) {p : Addr} {o : HO} (hp : e.H p = none) : Ext e (e.new p o) := by
  refine ⟨fun b o' u h => ?_, fun b u h _ => ?_, fun b u h => ⟨u, ?_⟩, fun b u h => ?_, fun b u h => ?_, fun b h => .inl h, fun b h => h, [], by simp [E4.new]⟩
  · show upd e.H p o b = some (.frz o' u); rw [upd_ne (ne_of_none h hp)]; exact h
  · show upd e.H p o b = some u; rw [upd_ne (ne_of_none h hp)]; exact h
  · show upd e.H p o b = some u; rw [upd_ne (ne_of_none h hp)]; exact h
  · show upd e.F p o b = some u; rw [upd_ne (ne_of_none h (w.nF hp))]; exact h
  · have h : upd e.F p o b = some u := h
    by_cases hb : b = p
    · subst hb; exact .inr (.inl hp)
    · rw [upd_ne hb] at h; exact .inl h
theorem OSIs.keep {a : Addr} {o : OS} (h : OSIs K C e a o) (hH : ∀ u, e.H a = some u → e'.H a = some u) (ff : Same e.F e'.F) (al : ∃ more, e'.α = e.α ++ more) : OSIs K C e' a o := by
  cases o with
  | mls xs => obtain ⟨vs, h1, h2⟩ := h; exact ⟨vs, hH _ h1, IsL.mono ff al xs h2⟩
  | dead => trivial
  | exc c => obtain ⟨Ca, ob, u, h1, h2, h3⟩ := h; exact ⟨Ca, ob, u, h1, hH _ h2, h3⟩
  | ins c fs => obtain ⟨Ca, dx, fvs, h1, h2, h3⟩ := h; exact ⟨Ca, dx, fvs, h1, hH _ h2, h3.mono ff al⟩
  | fzK kvs => obtain ⟨vs, ob, h1, h2⟩ := h; exact ⟨vs, ob, hH _ h1, h2.mono ff al⟩
  | dK kvs => obtain ⟨vs, h1, h2⟩ := h; exact ⟨vs, hH _ h1, h2.mono ff al⟩
  | dT kvs => obtain ⟨vs, h1, h2⟩ := h; exact ⟨vs, hH _ h1, h2.mono ff al⟩
theorem Wf.new (w : Wf K C e Ω) {p : Addr} {o : HO} (hp : e.H p = none) : Wf K C (e.new p o) Ω := by
  have x : Ext e (e.new p o) := w.new_ext hp
  have ne : ∀ b, e.A b → b ≠ p := fun b h z => by subst z; exact (w.ah b h).1 hp
  refine ⟨fun b u h => ?_, fun b h => ?_, fun b h => ?_, w.ol, w.nd, fun n a u h1 h2 => ⟨(w.ob n a u h1 h2).1, (w.ob n a u h1 h2).2.keep (fun v hv => ?_) x.ff x.al⟩⟩
  · have h : upd e.F p o b = some u := h
    show upd e.H p o b = some u
    by_cases hb : b = p
    · subst hb; rw [upd_same] at h ⊢; exact h
    · rw [upd_ne hb] at h ⊢; exact w.fh b u h
  · show upd e.F p o b = none
    rw [upd_ne (ne b h)]; exact w.fa b h
  · show upd e.H p o b ≠ none ∧ ∀ xs, upd e.H p o b ≠ some (.tup xs)
    rw [upd_ne (ne b h)]; exact w.ah b h
  · show upd e.H p o a = some v
    rw [upd_ne (ne a (w.ob n a u h1 h2).1)]; exact hv
end

/-- a name: nothing known, data, a list of its own -/
inductive Sl where
  | und | dat (d : D) | own (xs : List D)
structure RelE (K : PySem.W.Frag) (e : E4) (σ : St) (ρ : List Sl) : Prop where
  len : σ.length = ρ.length
  dat : ∀ (i : Nat) (d : D), ρ[i]? = some (.dat d) → ∃ v, σ[i]? = some (some v) ∧ Is K e.α e.F d v
  own : ∀ (i : Nat) (ds : List D), ρ[i]? = some (.own ds) → ∃ a vs, σ[i]? = some (some (.ref a)) ∧ e.H a = some (.lst vs) ∧ IsL K e.α e.F ds vs ∧ e.F a = none ∧ ¬ e.A a
  sep : ∀ (i j : Nat) (ds es : List D) (a : Addr), ρ[i]? = some (.own ds) → ρ[j]? = some (.own es) → σ[i]? = some (some (.ref a)) → σ[j]? = some (some (.ref a)) → i = j
section
variable {K : PySem.W.Frag} {C : Cl} {e e' e₀ : E4} {Ω Ω' : List OS} {σ : St} {ρ : List Sl}
theorem RelE.ext (r : RelE K e σ ρ) (x : Ext e e') : RelE K e' σ ρ := by
  refine ⟨r.len, fun i d h => ?_, fun i ds h => ?_, r.sep⟩
  · obtain ⟨v, e1, q⟩ := r.dat i d h
    exact ⟨v, e1, q.ext x⟩
  · obtain ⟨a, vs, e1, e2, q, n1, n2⟩ := r.own i ds h
    obtain ⟨z1, z2, z3⟩ := x.keepOwn e2 n1 n2
    exact ⟨a, vs, e1, z1, q.ext x, z2, z3⟩
theorem RelE.set (r : RelE K e σ ρ) (i : Nat) {d : D} {v : V} (h : Is K e.α e.F d v) : RelE K e (σ.set i (some v)) (ρ.set i (.dat d)) := by
  refine ⟨by simp [r.len], fun j d' hj => ?_, fun j ds hj => ?_, fun j k ds es a hj hk h1 h2 => ?_⟩
  · by_cases e1 : i = j
    · subst e1
      have hl : i < ρ.length := by
        have := (List.getElem?_eq_some_iff.mp hj).1
        simpa using this
      rw [List.getElem?_set_self hl] at hj
      cases hj
      exact ⟨v, List.getElem?_set_self (by rw [r.len]; exact hl), h⟩
    · rw [List.getElem?_set_ne e1] at hj ⊢
      exact r.dat j d' hj
  · by_cases e1 : i = j
    · subst e1
      have hl : i < ρ.length := by
        have := (List.getElem?_eq_some_iff.mp hj).1
        simpa using this
      rw [List.getElem?_set_self hl] at hj
      cases hj
    · rw [List.getElem?_set_ne e1] at hj ⊢
      exact r.own j ds hj
  · have ne : ∀ (j : Nat) (ds : List D), (ρ.set i (.dat d))[j]? = some (.own ds) → i ≠ j := fun j ds hj e1 => by
      subst e1
      have hl : i < ρ.length := by
        have := (List.getElem?_eq_some_iff.mp hj).1
        simpa using this
      rw [List.getElem?_set_self hl] at hj
      cases hj
    have n1 := ne j ds hj
    have n2 := ne k es hk
    rw [List.getElem?_set_ne n1] at hj h1
    rw [List.getElem?_set_ne n2] at hk h2
    exact r.sep j k ds es a hj hk h1 h2
end

/-! ### the readings -/
abbrev Den := List Sl → List OS → Option (D × List OS)
abbrev TDen := List Sl → List OS → Option (Bool × List OS)
abbrev ADen := List Sl → List OS → Option (List D × List OS)
def tD (K : PySem.W.Frag) (C : Cl) (g : Den) : TE := fun σ H Q => ∃ e Ω ρ d Ω', e.H = H ∧ Wf K C e Ω ∧ RelE K e σ ρ ∧ g ρ Ω = some (d, Ω') ∧ ∀ v e', Ext e e' → Wf K C e' Ω' → Is K e'.α e'.F d v → Q v e'.H
def tDT (K : PySem.W.Frag) (C : Cl) (g : TDen) : TT := fun σ H Q => ∃ e Ω ρ b Ω', e.H = H ∧ Wf K C e Ω ∧ RelE K e σ ρ ∧ g ρ Ω = some (b, Ω') ∧ ∀ e', Ext e e' → Wf K C e' Ω' → Q b e'.H
def tDA (K : PySem.W.Frag) (C : Cl) (g : ADen) : TA := fun σ H Q => ∃ e Ω ρ ds Ω', e.H = H ∧ Wf K C e Ω ∧ RelE K e σ ρ ∧ g ρ Ω = some (ds, Ω') ∧ ∀ vs e', Ext e e' → Wf K C e' Ω' → IsL K e'.α e'.F ds vs → Q vs e'.H
def PD (X : Cx) (C : Cl) (x : Expr) (g : Den) : Prop := PE X x (tD X.K C g)
def PDT (X : Cx) (C : Cl) (x : Expr) (g : TDen) : Prop := PT X x (tDT X.K C g)
def PDW (X : Cx) (C : Cl) (x : Expr) (g : TDen) : Prop := PW X x (tDT X.K C g)
def PDA (X : Cx) (C : Cl) (xs : List Expr) (g : ADen) : Prop := PA X xs (tDA X.K C g)
section
variable {X : Cx} {C : Cl} {x : Expr}
theorem pe_imp {t t' : TE} (h : PE X x t) (i : ∀ σ H Q, t' σ H Q → t σ H Q) : PE X x t' := fun pins s σ H Q I hw => h pins s σ H Q I (i σ H Q hw)
theorem pt_imp {t t' : TT} (h : PT X x t) (i : ∀ σ H Q, t' σ H Q → t σ H Q) : PT X x t' := fun pins s σ H Q I hw => h pins s σ H Q I (i σ H Q hw)
theorem pw_imp {t t' : TT} (h : PW X x t) (i : ∀ σ H Q, t' σ H Q → t σ H Q) : PW X x t' := fun whole pins s σ H Q I hw => h whole pins s σ H Q I (i σ H Q hw)
theorem pa_imp {xs : List Expr} {t t' : TA} (h : PA X xs t) (i : ∀ σ H Q, t' σ H Q → t σ H Q) : PA X xs t' := fun pos pins s σ H Q I hw => h pos pins s σ H Q I (i σ H Q hw)
theorem ps_imp {st : Stmt} {t t' : TS} (h : PS X st t) (i : ∀ D σ H, t' D σ H → t D σ H) : PS X st t' := fun pins s σ H D I hw => h pins s σ H D I (i D σ H hw)
theorem pss_imp {st : List Stmt} {t t' : TS} (h : PSs X st t) (i : ∀ D σ H, t' D σ H → t D σ H) : PSs X st t' := fun pins s σ H D I hw => h pins s σ H D I (i D σ H hw)

/-! ### names, constants -/
def gVar (i : Nat) : Den := fun ρ Ω => match ρ[i]? with | some (.dat d) => some (d, Ω) | _ => none
theorem pd_var {i : Nat} (h : PE X x (tVar i)) : PD X C x (gVar i) := pe_imp h fun σ H Q hw' => by
  obtain ⟨e, Ω, ρ, d, Ω', eH, w, r, g, k⟩ := hw'
  subst eH
  unfold gVar at g
  cases q : ρ[i]? with
  | none => rw [q] at g; cases g
  | some s =>
    rw [q] at g
    cases s with
    | dat d' =>
      cases g
      obtain ⟨v, e1, i1⟩ := r.dat _ _ q
      exact ⟨v, e1, k v e (Ext.refl e) w i1⟩
    | und => cases g
    | own _ => cases g
def gC (d : D) : Den := fun _ Ω => some (d, Ω)
theorem pd_c {v : V} {d : D} (h : PE X x (tC v)) (hd : ∀ α F, Is X.K α F d v) : PD X C x (gC d) := pe_imp h fun σ H Q hw' => by
  obtain ⟨e, Ω, ρ, d', Ω', eH, w, r, g, k⟩ := hw'
  subst eH
  cases g
  exact k v e (Ext.refl e) w (hd _ _)
theorem pd_int {i : Int} {j pos} : PD X C (.Constant (.int i) j pos) (gC (.int i)) := pd_c pe_int fun _ _ => by rw [Is]
theorem pd_bl {b : Bool} {j pos} : PD X C (.Constant (.bool b) j pos) (gC (.bl b)) := pd_c pe_bl fun _ _ => by rw [Is]
theorem pd_non {j pos} : PD X C (.Constant .none j pos) (gC .non) := pd_c pe_non fun _ _ => by rw [Is]
end

/-! ### two-place operations -/
def OpD (X : Cx) (C : Cl) (f : Value → Value → Sem Value) (r : D → D → Option D) : Prop :=
  OpR X f fun x y H Q => ∃ e Ω d₁ d₂ z, e.H = H ∧ Wf X.K C e Ω ∧ Is X.K e.α e.F d₁ x ∧ Is X.K e.α e.F d₂ y ∧ r d₁ d₂ = some z ∧ ∀ v e', Ext e e' → Wf X.K C e' Ω → Is X.K e'.α e'.F z v → Q v e'.H
def gOp (r : D → D → Option D) (f g : Den) : Den := fun ρ Ω => match f ρ Ω with
  | some (x, Ω₁) => match g ρ Ω₁ with
    | some (y, Ω₂) => match r x y with
      | some z => some (z, Ω₂)
      | none => none
    | none => none
  | none => none
section
variable {X : Cx} {C : Cl} {a b : Expr} {f g : Den} {r : D → D → Option D} {pos : Pos}
theorem op_read {K : PySem.W.Frag} {r' : R2} (hr : ∀ x y H Q, (∃ e Ω d₁ d₂ z, e.H = H ∧ Wf K C e Ω ∧ Is K e.α e.F d₁ x ∧ Is K e.α e.F d₂ y ∧ r d₁ d₂ = some z ∧ ∀ v e', Ext e e' → Wf K C e' Ω → Is K e'.α e'.F z v → Q v e'.H) → r' x y H Q)
    {σ : St} {H : Hp} {Q : VK} (h : tD K C (gOp r f g) σ H Q) : tOp r' (tD K C f) (tD K C g) σ H Q := by
  obtain ⟨e, Ω, ρ, d, Ω', eH, w, rl, q, k⟩ := h
  unfold gOp at q
  cases q1 : f ρ Ω with
  | none => rw [q1] at q; cases q
  | some p1 =>
    obtain ⟨x, Ω₁⟩ := p1
    rw [q1] at q
    dsimp only at q
    cases q2 : g ρ Ω₁ with
    | none => rw [q2] at q; cases q
    | some p2 =>
      obtain ⟨y, Ω₂⟩ := p2
      rw [q2] at q
      dsimp only at q
      cases q3 : r x y with
      | none => rw [q3] at q; cases q
      | some z =>
        rw [q3] at q
        cases q
        refine ⟨e, Ω, ρ, x, Ω₁, eH, w, rl, q1, fun v e1 x1 w1 i1 => ?_⟩
        refine ⟨e1, Ω₁, ρ, y, _, rfl, w1, rl.ext x1, q2, fun u e2 x2 w2 i2 => ?_⟩
        exact hr v u e2.H Q ⟨e2, _, x, y, d, rfl, w2, i1.ext x2, i2, q3, fun v' e3 x3 w3 i3 => k v' e3 ((x1.trans x2).trans x3) w3 i3⟩
theorem pd_op {op : Operator} (ho : OpD X C (binaryOp op) r) (ha : PD X C a f) (hb : PD X C b g) : PD X C (.BinOp a op b pos) (gOp r f g) :=
  pe_imp (pe_op ho ha hb) fun σ H Q h => op_read (fun _ _ _ _ h => h) h
theorem pd_cmp {op : CmpOp} (ho : OpD X C (compareOp op) r) (ha : PD X C a f) (hb : PD X C b g) (hm : behindInMarks op b = false) : PD X C (.Compare a [op] [b] pos) (gOp r f g) :=
  pe_imp (pe_cmpR ho ha hb hm) fun σ H Q h => op_read (fun _ _ _ _ h => h) h
/-- a value's truth, where it is a bool -/
def gT (g : Den) : TDen := fun ρ Ω => match g ρ Ω with
  | some (.bl b, Ω') => some (b, Ω')
  | _ => none
theorem gT_read {K : PySem.W.Frag} {σ : St} {H : Hp} {Q : Bool → Hp → Prop} (h : tDT K C (gT g) σ H Q) : tD K C g σ H fun x H' => ∃ c, x = V.bl c ∧ Q c H' := by
  obtain ⟨e, Ω, ρ, b, Ω', eH, w, rl, q, k⟩ := h
  unfold gT at q
  cases q1 : g ρ Ω with
  | none => rw [q1] at q; cases q
  | some p1 =>
    obtain ⟨x, Ω₁⟩ := p1
    rw [q1] at q
    cases x with
    | bl c =>
      cases q
      refine ⟨e, Ω, ρ, _, _, eH, w, rl, q1, fun v e1 x1 w1 i1 => ?_⟩
      rw [Is] at i1
      exact ⟨b, i1, k e1 x1 w1⟩
    | _ => cases q
theorem pdt_cmp {op : CmpOp} (ho : OpD X C (compareOp op) r) (ha : PD X C a f) (hb : PD X C b g) (hm : behindInMarks op b = false) : PDT X C (.Compare a [op] [b] pos) (gT (gOp r f g)) :=
  pt_imp (pt_cmpR ho ha hb hm) fun σ H Q h => op_read (fun _ _ _ _ h => h) (gT_read h)
theorem pdt_val {x : Expr} (h : PD X C x g) (he : ∀ whole, isTrue x X.env whole = (do let v ← whole; standAt x.pos; holding [v] (truthy v)) := by intro _; rfl) : PDT X C x (gT g) :=
  pt_imp (pt_val h he) fun σ H Q h => gT_read h
/-- ints -/
def dI (c : Int → Int → Bool) (f : Int → Int → Int) : D → D → Option D
  | .int i, .int j => if c i j = true then some (.int (f i j)) else none
  | _, _ => none
def dB (f : Int → Int → Bool) : D → D → Option D
  | .int i, .int j => some (.bl (f i j))
  | _, _ => none
theorem dI_inv {c : Int → Int → Bool} {f : Int → Int → Int} {d₁ d₂ z : D} (h : dI c f d₁ d₂ = some z) : ∃ i j, d₁ = .int i ∧ d₂ = .int j ∧ c i j = true ∧ z = .int (f i j) := by
  unfold dI at h
  split at h
  · split at h
    · cases h; exact ⟨_, _, rfl, rfl, ‹_›, rfl⟩
    · cases h
  · cases h
theorem dB_inv {f : Int → Int → Bool} {d₁ d₂ z : D} (h : dB f d₁ d₂ = some z) : ∃ i j, d₁ = .int i ∧ d₂ = .int j ∧ z = .bl (f i j) := by
  unfold dB at h
  split at h
  · cases h; exact ⟨_, _, rfl, rfl, rfl⟩
  · cases h
theorem is_i {K : PySem.W.Frag} {α : List Addr} {F : Hp} {i : Int} {v : V} (h : Is K α F (.int i) v) : v = .int i := by rw [Is] at h; exact h
theorem opD_I {h : Value → Value → Sem Value} {P : Int → Int → Prop} {c : Int → Int → Bool} {k : Int → Int → Int} (ho : OpR X h (rI P fun i j => .int (k i j))) (hc : ∀ i j, c i j = true → P i j) : OpD X C h (dI c k) := by
  rintro pins s σ H x y v u Q I rx ry ⟨e, Ω, d₁, d₂, z, eH, w, i1, i2, q, kk⟩
  obtain ⟨i, j, e1, e2, hcc, e3⟩ := dI_inv q
  rw [e1] at i1
  rw [e2] at i2
  refine ho pins s σ _ x y v u Q I rx ry ⟨i, j, is_i i1, is_i i2, hc i j hcc, ?_⟩
  rw [← eH]
  exact kk _ e (Ext.refl e) w (by rw [e3, Is])
theorem opD_B {h : Value → Value → Sem Value} {k : Int → Int → Bool} (ho : OpR X h (rI0 fun i j => .bl (k i j))) : OpD X C h (dB k) := by
  rintro pins s σ H x y v u Q I rx ry ⟨e, Ω, d₁, d₂, z, eH, w, i1, i2, q, kk⟩
  obtain ⟨i, j, e1, e2, e3⟩ := dB_inv q
  rw [e1] at i1
  rw [e2] at i2
  refine ho pins s σ _ x y v u Q I rx ry ⟨i, j, is_i i1, is_i i2, ?_⟩
  rw [← eH]
  exact kk _ e (Ext.refl e) w (by rw [e3, Is])
end
end DL
set_option Elab.async false
set_option linter.all false
set_option maxRecDepth 100000
namespace DL
open PySem PySem.Spec PyProof.Rows L2

/-- how long lists and texts may grow here -/
abbrev big : Nat := 100000
theorem big_line {n : Nat} (h : n ≤ big) : n ≤ sizeLine := Nat.le_trans h (by decide)
theorem big_lt {n : Nat} (h : n < big) : n < sizeLine := Nat.lt_of_lt_of_le h (by decide)

open Classical in
/-- a bound: nothing here is reckoned by evaluation -/
noncomputable def grd {β : Type} (P : Prop) (x : Option β) : Option β := if P then x else none
theorem grd_pos {β : Type} {P : Prop} {x : Option β} (h : P) : grd P x = x := if_pos h
theorem grd_some {β : Type} {P : Prop} {x : Option β} {z : β} (h : grd P x = some z) : P ∧ x = some z := by
  by_cases q : P
  · rw [grd_pos q] at h; exact ⟨q, h⟩
  · have e : grd P x = none := if_neg q
    rw [e] at h; cases h
section
variable {X : Cx} {C : Cl} {a b c x : Expr} {f g h : Den} {r : D → D → Option D} {pos : Pos}

/-! ### the kinds of + and * -/
def addD : D → D → Option D
  | .int i, .int j => some (.int (i + j))
  | .lst xs, .lst ys => if xs.length + ys.length ≤ big then some (.lst (xs ++ ys)) else none
  | .str p, .str q => if p.length + q.length ≤ big then some (.str (p ++ q)) else none
  | _, _ => none
theorem add_inv {d₁ d₂ z : D} (q : addD d₁ d₂ = some z) : (∃ i j, d₁ = .int i ∧ d₂ = .int j ∧ z = .int (i + j)) ∨ (∃ xs ys, d₁ = .lst xs ∧ d₂ = .lst ys ∧ xs.length + ys.length ≤ big ∧ z = .lst (xs ++ ys)) ∨
    ∃ xs ys, d₁ = .str xs ∧ d₂ = .str ys ∧ xs.length + ys.length ≤ big ∧ z = .str (xs ++ ys) := by
  unfold addD at q
  split at q
  · cases q; exact .inl ⟨_, _, rfl, rfl, rfl⟩
  · split at q
    · cases q; exact .inr (.inl ⟨_, _, rfl, rfl, ‹_›, rfl⟩)
    · cases q
  · split at q
    · cases q; exact .inr (.inr ⟨_, _, rfl, rfl, ‹_›, rfl⟩)
    · cases q
  · cases q
theorem opD_add : OpD X C (binaryOp .Add) addD := by
  intro pins s σ H x y v u Q I rx ry hw
  obtain ⟨e, Ω, d₁, d₂, z, eH, w, i1, i2, q, kk⟩ := hw
  subst eH
  rcases add_inv q with ⟨i, j, rfl, rfl, rfl⟩ | ⟨xs, ys, rfl, rfl, hl, rfl⟩ | ⟨i, j, rfl, rfl, hl, rfl⟩
  · rw [Is] at i1 i2
    subst i1 i2
    exact op_add pins s σ _ _ _ v u Q I rx ry ⟨i, j, rfl, rfl, kk _ e (Ext.refl e) w (by rw [Is])⟩
  · rw [Is] at i1 i2
    obtain ⟨l, vs, rfl, h1, r1⟩ := i1
    obtain ⟨m, us, rfl, h2, r2⟩ := i2
    refine op_cat pins s σ _ _ _ v u Q I rx ry ⟨l, m, vs, us, rfl, rfl, w.fh _ _ h1, w.fh _ _ h2, by rw [← r1.length, ← r2.length]; exact big_line hl, fun p hp => ?_⟩
    refine kk _ (e.new p _) (w.new_ext hp) (w.new hp) ?_
    rw [Is]
    exact ⟨p, _, rfl, upd_same, (r1.append r2).ext (w.new_ext hp)⟩
  · rw [Is] at i1 i2
    subst i1 i2
    exact op_add_str pins s σ _ _ _ v u Q I rx ry ⟨i, j, rfl, rfl, big_line hl, kk _ e (Ext.refl e) w (by rw [Is])⟩
noncomputable def mulD : D → D → Option D
  | .int i, .int j => grd ((-(2 ^ 64) < i ∧ i < 2 ^ 64) ∨ (-(2 ^ 64) < j ∧ j < 2 ^ 64)) (some (.int (i * j)))
  | .lst xs, .int k => grd (-(2 ^ 62) ≤ k ∧ k < 2 ^ 62 ∧ xs.length * k.toNat ≤ big) (some (.lst (List.replicate k.toNat xs).flatten))
  | _, _ => none
theorem mul_inv {d₁ d₂ z : D} (q : mulD d₁ d₂ = some z) : (∃ i j, d₁ = .int i ∧ d₂ = .int j ∧ ((-(2 ^ 64) < i ∧ i < 2 ^ 64) ∨ (-(2 ^ 64) < j ∧ j < 2 ^ 64)) ∧ z = .int (i * j)) ∨
    ∃ xs k, d₁ = .lst xs ∧ d₂ = .int k ∧ (-(2 ^ 62) ≤ k ∧ k < 2 ^ 62 ∧ xs.length * k.toNat ≤ big) ∧ z = .lst (List.replicate k.toNat xs).flatten := by
  unfold mulD at q
  split at q
  · obtain ⟨hl, q⟩ := grd_some q; cases q; exact .inl ⟨_, _, rfl, rfl, hl, rfl⟩
  · obtain ⟨hl, q⟩ := grd_some q; cases q; exact .inr ⟨_, _, rfl, rfl, hl, rfl⟩
  · cases q
theorem opD_mul : OpD X C (binaryOp .Mult) mulD := by
  intro pins s σ H x y v u Q I rx ry hw
  obtain ⟨e, Ω, d₁, d₂, z, eH, w, i1, i2, q, kk⟩ := hw
  subst eH
  rcases mul_inv q with ⟨i, j, rfl, rfl, hl, rfl⟩ | ⟨xs, k, rfl, rfl, hl, rfl⟩
  · rw [Is] at i1 i2
    subst i1 i2
    exact op_mul pins s σ _ _ _ v u Q I rx ry ⟨i, j, rfl, rfl, hl, kk _ e (Ext.refl e) w (by rw [Is])⟩
  · rw [Is] at i1
    rw [Is] at i2
    obtain ⟨l, vs, rfl, h1, r1⟩ := i1
    subst i2
    refine op_rep pins s σ _ _ _ v u Q I rx ry ⟨l, k, vs, rfl, rfl, w.fh _ _ h1, by omega, by omega, by rw [← r1.length]; exact big_line hl.2.2, fun p hp => ?_⟩
    refine kk _ (e.new p _) (w.new_ext hp) (w.new hp) ?_
    rw [Is]
    exact ⟨p, _, rfl, upd_same, (r1.rep _).ext (w.new_ext hp)⟩
abbrev modD : D → D → Option D := dI (fun _ j => decide (0 < j)) fun i j => i % j
theorem opD_mod : OpD X C (binaryOp .Mod) modD := opD_I op_mod fun _ _ h => of_decide_eq_true h
abbrev divD : D → D → Option D := dI (fun _ j => decide (0 < j) && decide (j < 1073741824)) fun i j => i / j
theorem opD_div : OpD X C (binaryOp .FloorDiv) divD := opD_I op_fdiv fun _ _ h => by
  rw [Bool.and_eq_true, decide_eq_true_eq, decide_eq_true_eq] at h
  exact h
abbrev ltD : D → D → Option D := dB fun i j => decide (i < j)
theorem opD_lt : OpD X C (compareOp .Lt) ltD := opD_B op_lt
/-! ### == and in, of data of any make -/
mutual
def toP : D → PyData
  | .non => .none
  | .bl b => .bool b
  | .int i => .int i
  | .str x => .str x
  | .tup xs => .tuple (toPs xs)
  | .lst xs => .list (toPs xs)
  | .scr ns => .list (ns.map PyData.int)
  | .obj _ => .dict []
def toPs : List D → List PyData
  | [] => []
  | d :: ds => toP d :: toPs ds
end
end

section
variable {X : Cx} {pins : List (Addr × Obj)} {σ : St} {H : Hp} {s : Shared} {K : PySem.W.Frag} {α : List Addr} {F : Hp}
mutual
theorem reads_of (I : Inv X pins σ H s) (hK : K = X.K) (ff : Same F H) : ∀ (d : D) {v : V} {u : Value}, (toP d).canLay0 = true → Is K α F d v → RelV v u → ∃ as, Reads s.heap u (toP d) as
  | .non, v, u, _, h, r => by
    rw [Is] at h; subst h; cases (show u = Value.none from r); rw [toP]; exact ⟨_, .none⟩
  | .bl b, v, u, _, h, r => by
    rw [Is] at h; subst h; cases (show u = Value.bool b from r); rw [toP]; exact ⟨_, .bool b⟩
  | .int i, v, u, _, h, r => by
    rw [Is] at h; subst h; obtain ⟨t, q⟩ := (show ∃ t, u = Value.int i t from r); subst q; rw [toP]; exact ⟨_, .int i t⟩
  | .str x, v, u, _, h, r => by
    rw [Is] at h; subst h; obtain ⟨t, q⟩ := (show ∃ t, u = Value.str x t from r); subst q; rw [toP]; exact ⟨_, .str x t⟩
  | .tup xs, v, u, hc, h, r => by
    rw [Is] at h
    obtain ⟨a, vs, rfl, e, q⟩ := h
    cases (show u = Value.ref a from r)
    obtain ⟨_, its, rv, o, e1, e2, n, e3⟩ := (show ObjOk X.prog X.w H s.heap a (.tup vs) from I.hok a _ (ff _ _ e))
    rw [toP] at hc ⊢
    obtain ⟨as, z⟩ := readsL_of I hK ff xs (by simpa [PyData.canLay0] using hc) q rv
    exact ⟨as, .tuple e1 e2 e3 (by simpa using z)⟩
  | .lst xs, v, u, hc, h, r => by
    rw [Is] at h
    obtain ⟨a, vs, rfl, e, q⟩ := h
    cases (show u = Value.ref a from r)
    obtain ⟨_, its, n, rv, e1⟩ := (show ObjOk X.prog X.w H s.heap a (.lst vs) from I.hok a _ (ff _ _ e))
    rw [toP] at hc ⊢
    obtain ⟨as, z⟩ := readsL_of I hK ff xs (by simpa [PyData.canLay0] using hc) q rv
    exact ⟨_, .list e1 rfl rfl (by simpa using z)⟩
  | .scr ns, v, u, hc, h, r => by
    rw [Is] at h
    obtain ⟨a, rfl, q⟩ := h
    cases (show u = Value.ref a from r)
    subst hK
    obtain ⟨its, rv, pl, _⟩ := I.list (ff.seq q)
    rw [toP]
    exact ⟨_, reads_newData pl.isList (PySem.W.ke_carried (intsAre_of rv))⟩
  | .obj n, v, u, hc, h, r => by rw [toP] at hc; simp [PyData.canLay0] at hc
theorem readsL_of (I : Inv X pins σ H s) (hK : K = X.K) (ff : Same F H) : ∀ (ds : List D) {vs : List V} {us : List Value}, PyData.canLayAll0 (toPs ds) = true → IsL K α F ds vs → Vals vs us → ∃ as, ReadsAll s.heap us (toPs ds) as
  | [], vs, us, _, h, r => by
    rw [h.of_nil] at r; cases r; rw [toPs]; exact ⟨_, .nil⟩
  | d :: ds, vs, us, hc, h, r => by
    obtain ⟨v, t, rfl, h1, h2⟩ := h.of_cons
    cases r with
    | cons r1 r2 =>
      rw [toPs] at hc ⊢
      have hc' : (toP d).canLay0 = true ∧ PyData.canLayAll0 (toPs ds) = true := by simpa [PyData.canLayAll0] using hc
      obtain ⟨as, z1⟩ := reads_of I hK ff d hc'.1 h1 r1
      obtain ⟨bs, z2⟩ := readsL_of I hK ff ds hc'.2 h2 r2
      exact ⟨_, .cons z1 z2⟩
end
end
end DL
set_option Elab.async false
set_option linter.all false
set_option maxRecDepth 100000
namespace DL
open PySem PySem.Spec PyProof.Rows L2

section
variable {X : Cx} {C : Cl} {a b c x : Expr} {f g h : Den} {r : D → D → Option D} {pos : Pos}
/-! ### ==, != -/
def eqD (neg : Bool) (p q : D) : Option D := if SeqAt.shaped (toP p) && SeqAt.shaped (toP q) then some (.bl (if neg then !PyData.eqv (toP p) (toP q) else PyData.eqv (toP p) (toP q))) else none
theorem opD_eq (hu : X.A.units + 64 < cLine) : OpD X C (compareOp .Eq) (eqD false) := by
  intro pins s σ H x y v u Q I rx ry hw
  obtain ⟨e, Ω, d₁, d₂, z, eH, w, i1, i2, q, kk⟩ := hw
  subst eH
  unfold eqD at q
  split at q
  · rename_i hs
    rw [Bool.and_eq_true] at hs
    cases q
    obtain ⟨as, r1⟩ := reads_of I rfl w.fh d₁ (SeqAt.canLay_of_shaped hs.1) i1 rx
    obtain ⟨bs, r2⟩ := reads_of I rfl w.fh d₂ (SeqAt.canLay_of_shaped hs.2) i2 ry
    exact eq_dataH r1 r2 hs.1 hs.2 hu ⟨.bl _, e.H, I, rfl, kk _ e (Ext.refl e) w (by rw [Is]; rfl)⟩
  · cases q
theorem opD_ne (hu : X.A.units + 64 < cLine) : OpD X C (compareOp .NotEq) (eqD true) := by
  intro pins s σ H x y v u Q I rx ry hw
  obtain ⟨e, Ω, d₁, d₂, z, eH, w, i1, i2, q, kk⟩ := hw
  subst eH
  unfold eqD at q
  split at q
  · rename_i hs
    rw [Bool.and_eq_true] at hs
    cases q
    obtain ⟨as, r1⟩ := reads_of I rfl w.fh d₁ (SeqAt.canLay_of_shaped hs.1) i1 rx
    obtain ⟨bs, r2⟩ := reads_of I rfl w.fh d₂ (SeqAt.canLay_of_shaped hs.2) i2 ry
    exact ne_dataH r1 r2 hs.1 hs.2 hu ⟨.bl _, e.H, I, rfl, kk _ e (Ext.refl e) w (by rw [Is]; rfl)⟩
  · cases q
/-! ### is -/
def isNone : D → Bool
  | .non => true
  | _ => false
def othB : D → Bool
  | .non => true
  | .int _ => true
  | .tup _ => true
  | .lst _ => true
  | _ => false
def isB (neg p : Bool) : D → Option D
  | .bl q => some (.bl (if neg then !(q == p) else q == p))
  | d => if othB d then some (.bl neg) else none
def isD (neg : Bool) (d : D) : D → Option D
  | .non => some (.bl (if neg then !isNone d else isNone d))
  | .bl p => isB neg p d
  | _ => none
theorem none_iff {K : PySem.W.Frag} {α : List Addr} {F : Hp} {d : D} {v : V} (h : Is K α F d v) : decide (v = .non) = isNone d := by
  cases d <;> rw [Is] at h
  · subst h; rfl
  · subst h; rfl
  · subst h; rfl
  · subst h; rfl
  · obtain ⟨a, vs, rfl, _⟩ := h; rfl
  · obtain ⟨a, vs, rfl, _⟩ := h; rfl
  · obtain ⟨a, rfl, _⟩ := h; rfl
  · obtain ⟨a, _, rfl⟩ := h; rfl
@[simp] theorem isB_bl (neg p q : Bool) : isB neg p (.bl q) = some (.bl (if neg then !(q == p) else q == p)) := rfl
@[simp] theorem isB_non (neg p : Bool) : isB neg p .non = some (.bl neg) := rfl
@[simp] theorem isB_int (neg p : Bool) (i : Int) : isB neg p (.int i) = some (.bl neg) := rfl
@[simp] theorem isB_tup (neg p : Bool) (xs : List D) : isB neg p (.tup xs) = some (.bl neg) := rfl
@[simp] theorem isB_lst (neg p : Bool) (xs : List D) : isB neg p (.lst xs) = some (.bl neg) := rfl
theorem oth_val {K : PySem.W.Frag} {α : List Addr} {F : Hp} {d : D} {v : V} {u : Value} {p : Bool} (h : othB d = true) (i : Is K α F d v) (r : RelV v u) : plainIs u (.bool p) = true ∧ u ≠ .bool p := by
  cases d with
  | non => rw [Is] at i; subst i; cases (show u = Value.none from r); exact ⟨rfl, fun z => by cases z⟩
  | int i' => rw [Is] at i; subst i; obtain ⟨t, rfl⟩ := (show ∃ t, u = Value.int i' t from r); exact ⟨rfl, fun z => by cases z⟩
  | tup _ => rw [Is] at i; obtain ⟨l, vs, rfl, _⟩ := i; cases (show u = Value.ref l from r); exact ⟨rfl, fun z => by cases z⟩
  | lst _ => rw [Is] at i; obtain ⟨l, vs, rfl, _⟩ := i; cases (show u = Value.ref l from r); exact ⟨rfl, fun z => by cases z⟩
  | _ => cases h
theorem isB_inv {neg p : Bool} {d z : D} (q : isB neg p d = some z) : (∃ r, d = .bl r ∧ z = .bl (if neg then !(r == p) else r == p)) ∨ (othB d = true ∧ z = .bl neg) := by
  unfold isB at q
  split at q
  · cases q; exact .inl ⟨_, rfl, rfl⟩
  · split at q
    · cases q; exact .inr ⟨‹_›, rfl⟩
    · cases q
theorem isD_inv {neg : Bool} {d₁ d₂ z : D} (q : isD neg d₁ d₂ = some z) : (d₂ = .non ∧ z = .bl (if neg then !isNone d₁ else isNone d₁)) ∨ ∃ p, d₂ = .bl p ∧ isB neg p d₁ = some z := by
  unfold isD at q
  split at q
  · cases q; exact .inl ⟨rfl, rfl⟩
  · exact .inr ⟨_, rfl, q⟩
  · cases q
theorem beq_bools (p r : Bool) : (Value.bool p == Value.bool r) = (p == r) := by cases p <;> cases r <;> rfl
theorem opD_is : OpD X C (compareOp .Is) (isD false) := by
  intro pins s σ H x y v u Q I rx ry hw
  obtain ⟨e, Ω, d₁, d₂, z, eH, w, i1, i2, q, kk⟩ := hw
  subst eH
  rcases isD_inv q with ⟨rfl, rfl⟩ | ⟨p, rfl, q⟩
  · rw [Is] at i2
    subst i2
    refine op_isN pins s σ _ _ _ v u Q I rx ry ⟨rfl, ?_⟩
    rw [none_iff i1]
    exact kk _ e (Ext.refl e) w (by rw [Is]; rfl)
  · rw [Is] at i2
    subst i2
    cases (show u = Value.bool p from ry)
    rcases isB_inv q with ⟨r, rfl, rfl⟩ | ⟨ho, rfl⟩
    · rw [Is] at i1
      subst i1
      cases (show v = Value.bool r from rx)
      refine wpAny_is_plain rfl ?_
      rw [beq_bools]
      exact ⟨.bl _, e.H, I, rfl, kk _ e (Ext.refl e) w (by rw [Is]; rfl)⟩
    · obtain ⟨h1, h2⟩ := oth_val (p := p) ho i1 rx
      exact wpAny_is_other h1 h2 ⟨.bl _, e.H, I, rfl, kk _ e (Ext.refl e) w (by rw [Is])⟩
/-! ### and, or, not, if -/
def gAndT (p q : TDen) : TDen := fun ρ Ω => match p ρ Ω with
  | some (true, Ω') => q ρ Ω'
  | some (false, Ω') => some (false, Ω')
  | none => none
def gOrT (p q : TDen) : TDen := fun ρ Ω => match p ρ Ω with
  | some (true, Ω') => some (true, Ω')
  | some (false, Ω') => q ρ Ω'
  | none => none
def gNotT (p : TDen) : TDen := fun ρ Ω => match p ρ Ω with
  | some (k, Ω') => some (!k, Ω')
  | none => none
variable {p q : TDen} {rest : List Expr}
theorem and_read {K : PySem.W.Frag} {σ : St} {H : Hp} {Q : Bool → Hp → Prop} (hw : tDT K C (gAndT p q) σ H Q) : tAnd (tDT K C p) (tDT K C q) σ H Q := by
  obtain ⟨e, Ω, ρ, k, Ω', eH, w, rl, e1, kk⟩ := hw
  unfold gAndT at e1
  cases e2 : p ρ Ω with
  | none => rw [e2] at e1; cases e1
  | some z =>
    obtain ⟨k1, Ω1⟩ := z
    rw [e2] at e1
    refine ⟨e, Ω, ρ, k1, Ω1, eH, w, rl, e2, fun e' x' w' => ?_⟩
    cases k1 with
    | true =>
      rw [if_pos rfl]
      exact ⟨e', Ω1, ρ, k, Ω', rfl, w', rl.ext x', e1, fun e'' x'' w'' => kk e'' (x'.trans x'') w''⟩
    | false =>
      rw [if_neg (by decide)]
      cases e1
      exact kk e' x' w'
theorem or_read {K : PySem.W.Frag} {σ : St} {H : Hp} {Q : Bool → Hp → Prop} (hw : tDT K C (gOrT p q) σ H Q) : tOr (tDT K C p) (tDT K C q) σ H Q := by
  obtain ⟨e, Ω, ρ, k, Ω', eH, w, rl, e1, kk⟩ := hw
  unfold gOrT at e1
  cases e2 : p ρ Ω with
  | none => rw [e2] at e1; cases e1
  | some z =>
    obtain ⟨k1, Ω1⟩ := z
    rw [e2] at e1
    refine ⟨e, Ω, ρ, k1, Ω1, eH, w, rl, e2, fun e' x' w' => ?_⟩
    cases k1 with
    | true =>
      rw [if_pos rfl]
      cases e1
      exact kk e' x' w'
    | false =>
      rw [if_neg (by decide)]
      exact ⟨e', Ω1, ρ, k, Ω', rfl, w', rl.ext x', e1, fun e'' x'' w'' => kk e'' (x'.trans x'') w''⟩
theorem pdw_and1 (ha : PDT X C a p) : PDW X C (.BoolOp .And [a] pos) p := pw_and1 ha
theorem pdw_or1 (ha : PDT X C a p) : PDW X C (.BoolOp .Or [a] pos) p := pw_or1 ha
theorem pdw_and (ha : PDT X C a p) (hb : PDW X C (.BoolOp .And (b :: rest) pos) q) : PDW X C (.BoolOp .And (a :: b :: rest) pos) (gAndT p q) := pw_imp (pw_and ha hb) fun _ _ _ h => and_read h
theorem pdw_or (ha : PDT X C a p) (hb : PDW X C (.BoolOp .Or (b :: rest) pos) q) : PDW X C (.BoolOp .Or (a :: b :: rest) pos) (gOrT p q) := pw_imp (pw_or ha hb) fun _ _ _ h => or_read h
theorem PDW.pt (h : PDW X C x p) : PDT X C x p := PW.pt h
theorem pdt_not (ha : PDT X C a p) : PDT X C (.UnaryOp .Not a pos) (gNotT p) := pt_imp (pt_not ha) fun σ H Q hw' => by
  obtain ⟨e, Ω, ρ, k, Ω', eH, w, rl, e1, kk⟩ := hw'
  unfold gNotT at e1
  cases e2 : p ρ Ω with
  | none => rw [e2] at e1; cases e1
  | some z =>
    obtain ⟨k1, Ω1⟩ := z
    rw [e2] at e1
    cases e1
    exact ⟨e, Ω, ρ, k1, _, eH, w, rl, e2, kk⟩
/-- as values: bools -/
def gAndV (f g : Den) : Den := fun ρ Ω => match f ρ Ω with
  | some (.bl true, Ω') => g ρ Ω'
  | some (.bl false, Ω') => some (.bl false, Ω')
  | _ => none
theorem pd_one {op} (h : PD X C a f) : PD X C (.BoolOp op [a] pos) f := pe_one h
theorem pd_and (ha : PD X C a f) (hb : PD X C (.BoolOp .And (b :: rest) pos) g) : PD X C (.BoolOp .And (a :: b :: rest) pos) (gAndV f g) := pe_imp (pe_and ha hb) fun σ H Q hw' => by
  obtain ⟨e, Ω, ρ, d, Ω', eH, w, rl, e1, kk⟩ := hw'
  unfold gAndV at e1
  cases e2 : f ρ Ω with
  | none => rw [e2] at e1; cases e1
  | some z =>
    obtain ⟨d1, Ω1⟩ := z
    rw [e2] at e1
    refine ⟨e, Ω, ρ, d1, Ω1, eH, w, rl, e2, fun v e' x' w' i' => ?_⟩
    cases d1 with
    | bl k1 =>
      rw [Is] at i'
      refine ⟨k1, i', ?_⟩
      cases k1 with
      | true =>
        rw [if_pos rfl]
        exact ⟨e', Ω1, ρ, d, Ω', rfl, w', rl.ext x', e1, fun v e'' x'' w'' => kk v e'' (x'.trans x'') w''⟩
      | false =>
        rw [if_neg (by decide)]
        cases e1
        exact kk _ e' x' w' (by rw [Is])
    | _ => cases e1
end
end DL
set_option Elab.async false
set_option linter.all false
set_option maxRecDepth 100000
namespace DL
open PySem PySem.Spec PyProof.Rows L2

section
variable {X : Cx} {C : Cl} {a b c x : Expr} {es : List Expr} {f g h : Den} {ga : ADen} {pos : Pos}
/-! ### argument lists, displays -/
def gNil : ADen := fun _ Ω => some ([], Ω)
def gCons (f : Den) (g : ADen) : ADen := fun ρ Ω => match f ρ Ω with
  | some (d, Ω1) => match g ρ Ω1 with
    | some (ds, Ω2) => some (d :: ds, Ω2)
    | none => none
  | none => none
theorem pda_nil : PDA X C [] gNil := pa_imp pa_nil fun σ H Q hw' => by
  obtain ⟨e, Ω, ρ, ds, Ω', eH, w, rl, e1, kk⟩ := hw'
  subst eH
  cases e1
  exact kk [] e (Ext.refl e) w .nil
theorem pda_cons (ha : PD X C x f) (hr : PDA X C es ga) (hs : starEach (x :: es) X.env = (false, eval x X.env) :: starEach es X.env := by rfl) : PDA X C (x :: es) (gCons f ga) :=
  pa_imp (pa_cons ha hr hs) fun σ H Q hw' => by
    obtain ⟨e, Ω, ρ, ds, Ω', eH, w, rl, e1, kk⟩ := hw'
    unfold gCons at e1
    cases q1 : f ρ Ω with
    | none => rw [q1] at e1; cases e1
    | some p1 =>
      obtain ⟨d, Ω1⟩ := p1
      rw [q1] at e1
      dsimp only at e1
      cases q2 : ga ρ Ω1 with
      | none => rw [q2] at e1; cases e1
      | some p2 =>
        obtain ⟨ds', Ω2⟩ := p2
        rw [q2] at e1
        cases e1
        refine ⟨e, Ω, ρ, d, Ω1, eH, w, rl, q1, fun v e' x' w' i' => ?_⟩
        exact ⟨e', Ω1, ρ, ds', _, rfl, w', rl.ext x', q2, fun vs e'' x'' w'' i'' => kk _ e'' (x'.trans x'') w'' (.cons (i'.ext x'') i'')⟩
def gTup (g : ADen) : Den := fun ρ Ω => match g ρ Ω with
  | some (ds, Ω') => if ds.length ≤ big then some (.tup ds, Ω') else none
  | none => none
def gLst (g : ADen) : Den := fun ρ Ω => match g ρ Ω with
  | some (ds, Ω') => if ds.length ≤ big then some (.lst ds, Ω') else none
  | none => none
theorem pd_tup {x1} (ha : PDA X C es ga) : PD X C (.Tuple es x1 pos) (gTup ga) := pe_imp (pe_tup ha) fun σ H Q hw' => by
  obtain ⟨e, Ω, ρ, d, Ω', eH, w, rl, e1, kk⟩ := hw'
  unfold gTup at e1
  cases q1 : ga ρ Ω with
  | none => rw [q1] at e1; cases e1
  | some p1 =>
    obtain ⟨ds, Ω1⟩ := p1
    rw [q1] at e1
    dsimp only at e1
    split at e1
    · rename_i hl
      cases e1
      refine ⟨e, Ω, ρ, ds, _, eH, w, rl, q1, fun vs e' x' w' i' => ⟨by rw [← i'.length]; exact big_line hl, fun p hp => ?_⟩⟩
      refine kk _ (e'.new p (.tup vs)) (x'.trans (w'.new_ext hp)) (w'.new hp) ?_
      rw [Is]
      exact ⟨p, vs, rfl, upd_same, i'.ext (w'.new_ext hp)⟩
    · cases e1
theorem pd_lst (ha : PDA X C es ga) : PD X C (.List es pos) (gLst ga) := pe_imp (pe_lst ha) fun σ H Q hw' => by
  obtain ⟨e, Ω, ρ, d, Ω', eH, w, rl, e1, kk⟩ := hw'
  unfold gLst at e1
  cases q1 : ga ρ Ω with
  | none => rw [q1] at e1; cases e1
  | some p1 =>
    obtain ⟨ds, Ω1⟩ := p1
    rw [q1] at e1
    dsimp only at e1
    split at e1
    · rename_i hl
      cases e1
      refine ⟨e, Ω, ρ, ds, _, eH, w, rl, q1, fun vs e' x' w' i' => ⟨by rw [← i'.length]; exact big_line hl, fun p hp => ?_⟩⟩
      refine kk _ (e'.new p (.lst vs)) (x'.trans (w'.new_ext hp)) (w'.new hp) ?_
      rw [Is]
      exact ⟨p, vs, rfl, upd_same, i'.ext (w'.new_ext hp)⟩
    · cases e1

/-! ### a[i] -/
def ixD : D → D → Option D
  | .lst xs, .int i => atI xs i
  | .tup xs, .int i => atI xs i
  | .scr ns, .int i => (atI ns i).map D.int
  | .str z, .int i => if z.length ≤ big then (atI z.cps.toList i).map fun c => D.str ⟨#[c]⟩ else none
  | _, _ => none
theorem atI_is {K : PySem.W.Frag} {α : List Addr} {F : Hp} {ds : List D} {vs : List V} {i : Int} {d : D} (r : IsL K α F ds vs) (h : atI ds i = some d) : ∃ v, atI vs i = some v ∧ Is K α F d v := by
  unfold atI at h ⊢
  rw [← r.length]
  cases q : ixN ds.length i with
  | none => rw [q] at h; cases h
  | some j =>
    rw [q] at h
    exact r.get h
theorem ixD_read {K : PySem.W.Frag} : ∀ x y H Q, (∃ e Ω d₁ d₂ z, e.H = H ∧ Wf K C e Ω ∧ Is K e.α e.F d₁ x ∧ Is K e.α e.F d₂ y ∧ ixD d₁ d₂ = some z ∧ ∀ v e', Ext e e' → Wf K C e' Ω → Is K e'.α e'.F z v → Q v e'.H) → rIx K x y H Q := by
  rintro x y H Q ⟨e, Ω, d₁, d₂, z, eH, w, i1, i2, q, kk⟩
  subst eH
  unfold ixD at q
  cases d₁ <;> cases d₂ <;> first | cases q | skip
  · rename_i zz i
    dsimp only at q
    simp only [Is] at i1 i2
    subst i1 i2
    split at q
    · rename_i hl
      cases e2 : atI zz.cps.toList i with
      | none => rw [e2] at q; cases q
      | some c =>
        rw [e2] at q
        cases q
        exact .inr (.inr ⟨zz, i, c, rfl, rfl, big_line hl, e2, kk _ e (Ext.refl e) w (by rw [Is])⟩)
    · cases q
  · rename_i xs i
    simp only [Is] at i1 i2
    obtain ⟨p, vs, rfl, h1, r1⟩ := i1
    subst i2
    obtain ⟨v, e1, i3⟩ := atI_is r1 q
    exact .inr (.inl ⟨p, vs, i, v, rfl, rfl, SqT.of (w.fh _ _ h1), e1, kk v e (Ext.refl e) w i3⟩)
  · rename_i xs i
    simp only [Is] at i1 i2
    obtain ⟨p, vs, rfl, h1, r1⟩ := i1
    subst i2
    obtain ⟨v, e1, i3⟩ := atI_is r1 q
    exact .inl ⟨p, vs, i, v, rfl, rfl, SqL.of (w.fh _ _ h1), e1, kk v e (Ext.refl e) w i3⟩
  · rename_i ns i
    simp only [Is] at i1 i2
    obtain ⟨p, rfl, h1⟩ := i1
    subst i2
    dsimp only at q
    cases e2 : atI ns i with
    | none => rw [e2] at q; cases q
    | some n =>
      rw [e2] at q
      cases q
      refine .inl ⟨p, ns.map V.int, i, .int n, rfl, rfl, w.fh.seq h1, ?_, kk _ e (Ext.refl e) w (by rw [Is])⟩
      unfold atI at e2 ⊢
      rw [List.length_map]
      cases e3 : ixN ns.length i with
      | none => rw [e3] at e2; cases e2
      | some j =>
        rw [e3] at e2
        show (ns.map V.int)[j]? = _
        rw [List.getElem?_map, show ns[j]? = some n from e2]
        rfl
theorem pd_ix (ha : PD X C a f) (hb : PD X C b g) (hs : PlainIx b := by intro _ _; rfl) : PD X C (.Subscript a b pos) (gOp ixD f g) :=
  pe_imp (pe_ix ix_seq ha hb hs) fun σ H Q hw => op_read ixD_read hw

/-! ### calls of built-ins -/
def CallD (X : Cx) (C : Cl) (f : Value) (r : List D → Option D) : Prop :=
  CallR X f fun xs H Q => ∃ e Ω ds z, e.H = H ∧ Wf X.K C e Ω ∧ IsL X.K e.α e.F ds xs ∧ r ds = some z ∧ ∀ v e', Ext e e' → Wf X.K C e' Ω → Is X.K e'.α e'.F z v → Q v e'.H
def gCB (r : List D → Option D) (g : ADen) : Den := fun ρ Ω => match g ρ Ω with
  | some (ds, Ω1) => match r ds with
    | some z => some (z, Ω1)
    | none => none
  | none => none
theorem cb_read {K : PySem.W.Frag} {r : List D → Option D} {σ : St} {H : Hp} {Q : VK} (hw : tD K C (gCB r ga) σ H Q) :
    tCB (fun xs H Q => ∃ e Ω ds z, e.H = H ∧ Wf K C e Ω ∧ IsL K e.α e.F ds xs ∧ r ds = some z ∧ ∀ v e', Ext e e' → Wf K C e' Ω → Is K e'.α e'.F z v → Q v e'.H) (tDA K C ga) σ H Q := by
  obtain ⟨e, Ω, ρ, d, Ω', eH, w, rl, e1, kk⟩ := hw
  unfold gCB at e1
  cases q1 : ga ρ Ω with
  | none => rw [q1] at e1; cases e1
  | some p1 =>
    obtain ⟨ds, Ω1⟩ := p1
    rw [q1] at e1
    dsimp only at e1
    cases q2 : r ds with
    | none => rw [q2] at e1; cases e1
    | some z =>
      rw [q2] at e1
      cases e1
      exact ⟨e, Ω, ρ, ds, _, eH, w, rl, q1, fun vs e' x' w' i' => ⟨e', _, ds, _, rfl, w', i', q2, fun v e'' x'' w'' => kk v e'' (x'.trans x'') w''⟩⟩
theorem pd_callB {id : String} {n : Str} {p : Pos} {r : List D → Option D} (hc : CallD X C (.builtin id) r) (hg : Gl X n) (hm : X.mg n = none) (hv : bootBuiltins n = some (.builtin id)) (ha : PDA X C (x :: es) ga) (hn : n ≠ "__name__" := by decide) (hdb : (n == ("__debug__" : Str)) = false := by decide)
    (he : starEach (x :: es) X.env = (false, eval x X.env) :: starEach es X.env := by rfl) (hpl : (backTo pos (starEach es X.env)).any (·.1) = false := by rfl) : PD X C (.Call (.Name n p) (x :: es) [] pos) (gCB r ga) :=
  pe_imp (pe_callB hc hg hm hv ha hn hdb he hpl) fun _ _ _ hw => cb_read hw
theorem pd_callTy {T : String} {n : Str} {p : Pos} {r : List D → Option D} (hc : CallD X C (.type T) r) (hg : Gl X n) (hm : X.mg n = none) (hv : bootBuiltins n = some (.type T)) (ha : PDA X C (x :: es) ga) (hn : n ≠ "__name__" := by decide) (hdb : (n == ("__debug__" : Str)) = false := by decide)
    (he : starEach (x :: es) X.env = (false, eval x X.env) :: starEach es X.env := by rfl) (hpl : (backTo pos (starEach es X.env)).any (·.1) = false := by rfl) : PD X C (.Call (.Name n p) (x :: es) [] pos) (gCB r ga) :=
  pe_imp (pe_callTy hc hg hm hv ha hn hdb he hpl) fun _ _ _ hw => cb_read hw
theorem isL_one {K : PySem.W.Frag} {α : List Addr} {F : Hp} {d : D} {vs : List V} (h : IsL K α F [d] vs) : ∃ v, vs = [v] ∧ Is K α F d v := by
  obtain ⟨v, r, rfl, i, t⟩ := h.of_cons
  rw [t.of_nil]
  exact ⟨v, rfl, i⟩
theorem isL_two {K : PySem.W.Frag} {α : List Addr} {F : Hp} {d d' : D} {vs : List V} (h : IsL K α F [d, d'] vs) : ∃ v u, vs = [v, u] ∧ Is K α F d v ∧ Is K α F d' u := by
  obtain ⟨v, r, rfl, i, t⟩ := h.of_cons
  obtain ⟨u, rfl, i2⟩ := isL_one t
  exact ⟨v, u, rfl, i, i2⟩
def lenD : List D → Option D
  | [.lst xs] => some (.int xs.length)
  | [.tup xs] => some (.int xs.length)
  | [.scr ns] => some (.int ns.length)
  | [.str z] => if z.length ≤ big then some (.int z.length) else none
  | _ => none
theorem callD_len : CallD X C (.builtin "len") lenD := by
  intro pins s σ H xs us Q I r hw
  obtain ⟨e, Ω, ds, z, eH, w, i, q, kk⟩ := hw
  subst eH
  match ds, q with
  | [.lst ys], q =>
    obtain ⟨v, rfl, iv⟩ := isL_one i
    rw [Is] at iv
    obtain ⟨p, vs, rfl, h1, r1⟩ := iv
    cases q
    exact call_len_seq pins s σ _ _ us Q I r ⟨p, vs, rfl, .inl (SqL.of (w.fh _ _ h1)), kk _ e (Ext.refl e) w (by rw [Is, r1.length])⟩
  | [.tup ys], q =>
    obtain ⟨v, rfl, iv⟩ := isL_one i
    rw [Is] at iv
    obtain ⟨p, vs, rfl, h1, r1⟩ := iv
    cases q
    exact call_len_seq pins s σ _ _ us Q I r ⟨p, vs, rfl, .inr (SqT.of (w.fh _ _ h1)), kk _ e (Ext.refl e) w (by rw [Is, r1.length])⟩
  | [.scr ns], q =>
    obtain ⟨v, rfl, iv⟩ := isL_one i
    rw [Is] at iv
    obtain ⟨p, rfl, h1⟩ := iv
    cases q
    exact call_len_seq pins s σ _ _ us Q I r ⟨p, _, rfl, .inl (w.fh.seq h1), kk _ e (Ext.refl e) w (by rw [Is, List.length_map])⟩
  | [.str zz], q =>
    obtain ⟨v, rfl, iv⟩ := isL_one i
    rw [Is] at iv
    subst iv
    have q : (if zz.length ≤ big then some (D.int zz.length) else none) = some z := q
    split at q
    · rename_i hl
      cases q
      exact call_len_str pins s σ _ _ us Q I r ⟨zz, rfl, big_line hl, kk _ e (Ext.refl e) w (by rw [Is])⟩
    · cases q
def min2D : List D → Option D
  | [.int i, .int j] => some (.int (if j < i then j else i))
  | _ => none
theorem callD_min (hc : X.calm = true) : CallD X C (.builtin "min") min2D := by
  intro pins s σ H xs us Q I r hw
  obtain ⟨e, Ω, ds, z, eH, w, i, q, kk⟩ := hw
  subst eH
  obtain ⟨k, j, rfl, rfl⟩ : ∃ k j, ds = [.int k, .int j] ∧ z = .int (if j < k then j else k) := by
    unfold min2D at q
    split at q
    · cases q; exact ⟨_, _, rfl, rfl⟩
    · cases q
  · obtain ⟨v, u, rfl, i1, i2⟩ := isL_two i
    rw [Is] at i1 i2
    subst i1 i2
    exact call_min2 hc pins s σ _ _ us Q I r ⟨k, j, rfl, kk _ e (Ext.refl e) w (by rw [Is])⟩
def list1D : List D → Option D
  | [.lst xs] => some (.lst xs)
  | [.tup xs] => some (.lst xs)
  | [.scr ns] => some (.lst (ns.map D.int))
  | _ => none
theorem callD_list : CallD X C (.type "list") list1D := by
  intro pins s σ H xs us Q I r hw
  obtain ⟨e, Ω, ds, z, eH, w, i, q, kk⟩ := hw
  subst eH
  match ds, q with
  | [.lst ys], q =>
    obtain ⟨v, rfl, iv⟩ := isL_one i
    rw [Is] at iv
    obtain ⟨p, vs, rfl, h1, r1⟩ := iv
    cases q
    refine call_list_of pins s σ _ _ us Q I r ⟨p, vs, rfl, .inl (SqL.of (w.fh _ _ h1)), fun l hl => kk _ (e.new l _) (w.new_ext hl) (w.new hl) ?_⟩
    rw [Is]
    exact ⟨l, vs, rfl, upd_same, r1.ext (w.new_ext hl)⟩
  | [.tup ys], q =>
    obtain ⟨v, rfl, iv⟩ := isL_one i
    rw [Is] at iv
    obtain ⟨p, vs, rfl, h1, r1⟩ := iv
    cases q
    refine call_list_of pins s σ _ _ us Q I r ⟨p, vs, rfl, .inr (SqT.of (w.fh _ _ h1)), fun l hl => kk _ (e.new l _) (w.new_ext hl) (w.new hl) ?_⟩
    rw [Is]
    exact ⟨l, vs, rfl, upd_same, r1.ext (w.new_ext hl)⟩
  | [.scr ns], q =>
    obtain ⟨v, rfl, iv⟩ := isL_one i
    rw [Is] at iv
    obtain ⟨p, rfl, h1⟩ := iv
    cases q
    refine call_list_of pins s σ _ _ us Q I r ⟨p, _, rfl, .inl (w.fh.seq h1), fun l hl => kk _ (e.new l _) (w.new_ext hl) (w.new hl) ?_⟩
    rw [Is]
    exact ⟨l, _, rfl, upd_same, IsL.ints ns⟩
/-! ### isinstance(x, T), T a built-in type -/
def tyD : D → Option String
  | .non => some "NoneType"
  | .bl _ => some "bool"
  | .int _ => some "int"
  | .str _ => some "str"
  | .tup _ => some "tuple"
  | .lst _ => some "list"
  | _ => none
def instD (T : String) (d : D) : Option D := match tyD d with
  | some t => some (.bl (decide (t = T) || (decide (t = "bool") && decide (T = "int"))))
  | none => none
def gUn (r : D → Option D) (g : Den) : Den := fun ρ Ω => match g ρ Ω with
  | some (d, Ω1) => match r d with
    | some z => some (z, Ω1)
    | none => none
  | none => none
theorem tyOf_of {K : PySem.W.Frag} {α : List Addr} {F H : Hp} (ff : Same F H) {d : D} {v : V} {t : String} (i : Is K α F d v) (h : tyD d = some t) : TyOf K H v (.type t) := by
  cases d <;> rw [Is] at i <;> (try cases h)
  · subst i; exact .non
  · subst i; exact .bl _
  · subst i; exact .int _
  · subst i; exact .str _
  · obtain ⟨a, vs, rfl, e, _⟩ := i; exact .tup (ff _ _ e)
  · obtain ⟨a, vs, rfl, e, _⟩ := i; exact .lst (ff _ _ e)
theorem pd_isinst {T : String} {n : Str} {p : Pos} {y : Expr} (ha : PD X C x g) (hy : PE X y (tC (.ty T))) (hg : Gl X n) (hm : X.mg n = none) (hv : bootBuiltins n = some (.builtin "isinstance"))
    (hk : ∀ t ∈ ["NoneType", "bool", "int", "str", "tuple", "list"], PySem.W.kitOne X.K (.type t) (.type T) = some (decide (t = T) || (decide (t = "bool") && decide (T = "int"))))
    (hn : n ≠ "__name__" := by decide) (hdb : (n == ("__debug__" : Str)) = false := by decide)
    (he : starEach [x, y] X.env = (false, eval x X.env) :: starEach [y] X.env := by rfl) (he2 : starEach [y] X.env = (false, eval y X.env) :: starEach [] X.env := by rfl) (hpl : (backTo pos (starEach [y] X.env)).any (·.1) = false := by rfl) :
    PD X C (.Call (.Name n p) [x, y] [] pos) (gUn (instD T) g) := by
  have hc : CallR X (.builtin "isinstance") (fun xs H Q => ∃ v t k, xs = [v, .ty T] ∧ TyOf X.K H v (.type t) ∧ PySem.W.kitOne X.K (.type t) (.type T) = some k ∧ Q (.bl k) H) := by
    intro pins s σ H xs us Q I r hw
    obtain ⟨v, t, k, rfl, ty, e, q⟩ := hw
    obtain ⟨u, w', rfl, r1, r2⟩ := vals2 r
    cases (show w' = Value.type T from r2)
    exact isinst_ok I r1 ty e fun tk => ⟨.bl k, H, I.tok tk, rfl, q⟩
  refine pe_imp (pe_callB hc hg hm hv (pa_cons ha (pa_cons hy pa_nil he2) he) hn hdb he hpl) fun σ H Q hw' => ?_
  obtain ⟨e, Ω, ρ, d, Ω', eH, w, rl, e1, kk⟩ := hw'
  unfold gUn at e1
  cases q1 : g ρ Ω with
  | none => rw [q1] at e1; cases e1
  | some p1 =>
    obtain ⟨d1, Ω1⟩ := p1
    rw [q1] at e1
    dsimp only at e1
    unfold instD at e1
    cases q2 : tyD d1 with
    | none => rw [q2] at e1; cases e1
    | some t =>
      rw [q2] at e1
      cases e1
      refine ⟨e, Ω, ρ, d1, _, eH, w, rl, q1, fun v e' x' w' i' => ?_⟩
      refine ⟨v, t, _, rfl, tyOf_of w'.fh i' q2, hk t ?_, kk _ e' x' w' (by rw [Is])⟩
      cases d1 <;> cases q2 <;> simp
end
end DL
set_option Elab.async false
set_option linter.all false
set_option maxRecDepth 100000
namespace DL
open PySem PySem.Spec PyProof.Rows L2

/-! ### blocks -/
inductive Out where
  | nx (ρ : List Sl) (Ω : List OS) | rt (d : D) (Ω : List OS) | bk (ρ : List Sl) (Ω : List OS) | ct (ρ : List Sl) (Ω : List OS)
abbrev SDen := List Sl → List OS → Option Out
structure RelS (K : PySem.W.Frag) (C : Cl) (e₀ e : E4) (Ω : List OS) (σ : St) (ρ : List Sl) : Prop where
  wf : Wf K C e Ω
  rel : RelE K e σ ρ
  ext : Ext e₀ e
  fresh : ∀ (i : Nat) (ds : List D) (a : Addr), ρ[i]? = some (.own ds) → σ[i]? = some (some (.ref a)) → e₀.H a = none
def OutOk (K : PySem.W.Frag) (C : Cl) (e₀ : E4) (Dn : Ends) : Out → Prop
  | .nx ρ Ω => ∀ e σ, RelS K C e₀ e Ω σ ρ → Dn.nx σ e.H
  | .bk ρ Ω => ∀ e σ, RelS K C e₀ e Ω σ ρ → Dn.bk σ e.H
  | .ct ρ Ω => ∀ e σ, RelS K C e₀ e Ω σ ρ → Dn.ct σ e.H
  | .rt d Ω => ∀ e v, Ext e₀ e → Wf K C e Ω → Is K e.α e.F d v → Dn.rt v e.H
def tDS (K : PySem.W.Frag) (C : Cl) (e₀ : E4) (g : SDen) : TS := fun Dn σ H => ∃ e Ω ρ o, e.H = H ∧ RelS K C e₀ e Ω σ ρ ∧ g ρ Ω = some o ∧ OutOk K C e₀ Dn o
def PDS (X : Cx) (C : Cl) (st : Stmt) (g : SDen) : Prop := ∀ e₀, PS X st (tDS X.K C e₀ g)
def PDB (X : Cx) (C : Cl) (st : List Stmt) (g : SDen) : Prop := ∀ e₀, PSs X st (tDS X.K C e₀ g)
section
variable {K : PySem.W.Frag} {C : Cl} {e₀ e e' : E4} {Ω Ω' : List OS} {σ : St} {ρ : List Sl}
theorem RelS.to (r : RelS K C e₀ e Ω σ ρ) (x : Ext e e') (w : Wf K C e' Ω') : RelS K C e₀ e' Ω' σ ρ := ⟨w, r.rel.ext x, r.ext.trans x, r.fresh⟩
theorem set_own_ne {i j : Nat} {d : D} {ds : List D} (h : (ρ.set i (.dat d))[j]? = some (.own ds)) : i ≠ j := fun e1 => by
  subst e1
  have hl : i < ρ.length := by
    have := (List.getElem?_eq_some_iff.mp h).1
    simpa using this
  rw [List.getElem?_set_self hl] at h
  cases h
theorem RelS.set (r : RelS K C e₀ e Ω σ ρ) (i : Nat) {d : D} {v : V} (h : Is K e.α e.F d v) : RelS K C e₀ e Ω (σ.set i (some v)) (ρ.set i (.dat d)) :=
  ⟨r.wf, r.rel.set i h, r.ext, fun j ds a h1 h2 => by
    have n := set_own_ne h1
    rw [List.getElem?_set_ne n] at h1 h2
    exact r.fresh j ds a h1 h2⟩
end
section
variable {X : Cx} {C : Cl} {a b c x : Expr} {f g : Den} {p : TDen} {st : Stmt} {rest sts sts' : List Stmt} {s t : SDen} {pos : Pos}
def sNext : SDen := fun ρ Ω => some (.nx ρ Ω)
def sSeq (s t : SDen) : SDen := fun ρ Ω => match s ρ Ω with
  | some (.nx ρ' Ω') => t ρ' Ω'
  | r => r
theorem pdb_nil : PDB X C [] sNext := fun e₀ => pss_imp pss_nil fun Dn σ H hw' => by
  obtain ⟨e, Ω, ρ, o, eH, r, q, k⟩ := hw'
  subst eH
  cases q
  exact k e σ r
theorem pdb_cons (h1 : PDS X C st s) (h2 : PDB X C rest t) : PDB X C (st :: rest) (sSeq s t) := fun e₀ => pss_imp (pss_cons (h1 e₀) (h2 e₀)) fun Dn σ H hw' => by
  obtain ⟨e, Ω, ρ, o, eH, r, q, k⟩ := hw'
  unfold sSeq at q
  cases q1 : s ρ Ω with
  | none => rw [q1] at q; cases q
  | some o1 =>
    rw [q1] at q
    refine ⟨e, Ω, ρ, o1, eH, r, q1, ?_⟩
    cases o1 with
    | nx ρ' Ω' => exact fun e' σ' r' => ⟨e', Ω', ρ', o, rfl, r', q, k⟩
    | rt d Ω' => cases q; exact k
    | bk ρ' Ω' => cases q; exact k
    | ct ρ' Ω' => cases q; exact k
theorem pdb_one (h1 : PDS X C st s) : PDB X C [st] s := fun e₀ => pss_one (h1 e₀)
/-- what is known is forgotten or turned, between two statements -/
def sGhost (γ : List Sl → Option (List Sl)) (s : SDen) : SDen := fun ρ Ω => match γ ρ with
  | some ρ' => s ρ' Ω
  | none => none
def Ghost (γ : List Sl → Option (List Sl)) : Prop := ∀ (K : PySem.W.Frag) (C : Cl) (e₀ e : E4) (Ω : List OS) (σ : St) (ρ ρ' : List Sl), γ ρ = some ρ' → RelS K C e₀ e Ω σ ρ → ∃ e', e'.H = e.H ∧ RelS K C e₀ e' Ω σ ρ'
theorem pdb_ghost {γ : List Sl → Option (List Sl)} (hγ : Ghost γ) (h : PDB X C sts s) : PDB X C sts (sGhost γ s) := fun e₀ => pss_imp (h e₀) fun Dn σ H hw' => by
  obtain ⟨e, Ω, ρ, o, eH, r, q, k⟩ := hw'
  unfold sGhost at q
  cases q1 : γ ρ with
  | none => rw [q1] at q; cases q
  | some ρ' =>
    rw [q1] at q
    obtain ⟨e', he, r'⟩ := hγ _ _ _ _ _ _ _ _ q1 r
    exact ⟨e', Ω, ρ', o, he.trans eH, r', q, k⟩
/-- a list of one's own is changed no more -/
def frz (i : Nat) : List Sl → Option (List Sl) := fun ρ => match ρ[i]? with
  | some (.own ds) => some (ρ.set i (.dat (.lst ds)))
  | _ => some ρ
theorem ghost_frz (i : Nat) : Ghost (frz i) := by
  intro K C e₀ e Ω σ ρ ρ' h r
  unfold frz at h
  cases q : ρ[i]? with
  | none => rw [q] at h; cases h; exact ⟨e, rfl, r⟩
  | some sl =>
    rw [q] at h
    cases sl with
    | und => cases h; exact ⟨e, rfl, r⟩
    | dat d => cases h; exact ⟨e, rfl, r⟩
    | own ds =>
      cases h
      obtain ⟨a, vs, e1, e2, i1, n1, n2⟩ := r.rel.own i ds q
      have h0 := r.fresh i ds a q e1
      have ff : Same e.F (upd e.F a (.lst vs)) := fun b o hb => by rw [upd_ne (ne_of_none hb n1)]; exact hb
      have fh : Same (upd e.F a (.lst vs)) e.H := fun b o hb => by
        by_cases hba : b = a
        · subst hba; rw [upd_same] at hb; cases hb; exact e2
        · rw [upd_ne hba] at hb; exact r.wf.fh b o hb
      have fn : ∀ b o, (upd e.F a (.lst vs)) b = some o → e.F b = some o ∨ b = a := fun b o hb => by
        by_cases hba : b = a
        · exact .inr hba
        · rw [upd_ne hba] at hb; exact .inl hb
      refine ⟨⟨e.α, upd e.F a (.lst vs), e.A, e.H⟩, rfl, ⟨fh, fun b hb => ?_, r.wf.ah, r.wf.ol, r.wf.nd, fun n b o h1 h2 => ⟨(r.wf.ob n b o h1 h2).1, (r.wf.ob n b o h1 h2).2.keep (fun u hu => hu) ff ⟨[], by simp⟩⟩⟩, ⟨by simp [r.rel.len], fun j d hj => ?_, fun j es hj => ?_, fun j k ds' es b hj hk hj' hk' => ?_⟩, ⟨r.ext.fz, r.ext.hk, r.ext.dm, r.ext.ff.trans ff, fun b o hb => ?_, r.ext.an, r.ext.aa, r.ext.al⟩, fun j es b hj hj' => ?_⟩
      · show upd e.F a _ b = none
        rw [upd_ne (fun z => n2 (by rw [← z]; exact hb))]
        exact r.wf.fa b hb
      · by_cases e3 : i = j
        · subst e3
          have hl : i < ρ.length := (List.getElem?_eq_some_iff.mp q).1
          rw [List.getElem?_set_self hl] at hj
          cases hj
          refine ⟨.ref a, e1, ?_⟩
          rw [Is]
          exact ⟨a, vs, rfl, upd_same, IsL.mono ff ⟨[], by simp⟩ ds i1⟩
        · rw [List.getElem?_set_ne e3] at hj
          obtain ⟨v, z1, z2⟩ := r.rel.dat j d hj
          exact ⟨v, z1, Is.mono ff ⟨[], by simp⟩ d z2⟩
      · have n := set_own_ne hj
        rw [List.getElem?_set_ne n] at hj
        obtain ⟨a', vs', z1, z2, z3, z4, z5⟩ := r.rel.own j es hj
        have na : a' ≠ a := fun z => n (r.rel.sep i j ds es a q hj e1 (by rw [← z]; exact z1))
        exact ⟨a', vs', z1, z2, IsL.mono ff ⟨[], by simp⟩ es z3, by show upd e.F a _ a' = none; rw [upd_ne na]; exact z4, z5⟩
      · have n := set_own_ne hj
        have n' := set_own_ne hk
        rw [List.getElem?_set_ne n] at hj
        rw [List.getElem?_set_ne n'] at hk
        exact r.rel.sep j k ds' es b hj hk hj' hk'
      · rcases fn b o hb with z | z
        · exact r.ext.fn b o z
        · subst z; exact .inr (.inl h0)
      · have n := set_own_ne hj
        rw [List.getElem?_set_ne n] at hj
        exact r.fresh j es b hj hj'

/-! ### statements -/
def sSet (i : Nat) (g : Den) : SDen := fun ρ Ω => match g ρ Ω with
  | some (d, Ω') => some (.nx (ρ.set i (.dat d)) Ω')
  | none => none
theorem set_read {K : PySem.W.Frag} {e₀ : E4} {i : Nat} {Dn : Ends} {σ : St} {H : Hp} (hw : tDS K C e₀ (sSet i g) Dn σ H) : tAsg (tD K C g) (gName i) Dn σ H := by
  obtain ⟨e, Ω, ρ, o, eH, r, q, k⟩ := hw
  unfold sSet at q
  cases q1 : g ρ Ω with
  | none => rw [q1] at q; cases q
  | some p1 =>
    obtain ⟨d, Ω'⟩ := p1
    rw [q1] at q
    cases q
    exact ⟨e, Ω, ρ, d, Ω', eH, r.wf, r.rel, q1, fun v e' x' w' i' => k e' _ ((r.to x' w').set i i')⟩
theorem pds_set {i : Nat} {n : Str} {pos' : Pos} (hN : X.N.Nodup) (hi : X.N[i]? = some n) (hx : Loc X.env.scope n) (he : PD X C x g) (hs : swapsWith x (some (.Name n pos')) pos.line X.env = pure false := by rfl) (hf : X.fn n = true ∨ X.env.scope.names.lookup n = some .local := by first | exact .inl rfl | exact .inr rfl | assumption) :
    PDS X C (.Assign [.Name n pos'] x pos) (sSet i g) := fun e₀ => ps_imp (ps_set hN hi hx he hs hf) fun Dn σ H h => set_read h
def sRet (g : Den) : SDen := fun ρ Ω => match g ρ Ω with
  | some (d, Ω') => some (.rt d Ω')
  | none => none
theorem pds_ret (he : PD X C x g) : PDS X C (.Return (some x) pos) (sRet g) := fun e₀ => ps_imp (ps_ret he) fun Dn σ H hw' => by
  obtain ⟨e, Ω, ρ, o, eH, r, q, k⟩ := hw'
  unfold sRet at q
  cases q1 : g ρ Ω with
  | none => rw [q1] at q; cases q
  | some p1 =>
    obtain ⟨d, Ω'⟩ := p1
    rw [q1] at q
    cases q
    exact ⟨e, Ω, ρ, d, Ω', eH, r.wf, r.rel, q1, fun v e' x' w' i' => k e' v (r.ext.trans x') w' i'⟩
def sIf (p : TDen) (s t : SDen) : SDen := fun ρ Ω => match p ρ Ω with
  | some (true, Ω') => s ρ Ω'
  | some (false, Ω') => t ρ Ω'
  | none => none
theorem pds_if (hc : PDT X C c p) (ha : PDB X C sts s) (hb : PDB X C sts' t) : PDS X C (.If c sts sts' pos) (sIf p s t) := fun e₀ => ps_imp (ps_if hc (ha e₀) (hb e₀)) fun Dn σ H hw' => by
  obtain ⟨e, Ω, ρ, o, eH, r, q, k⟩ := hw'
  unfold sIf at q
  cases q1 : p ρ Ω with
  | none => rw [q1] at q; cases q
  | some p1 =>
    obtain ⟨d, Ω'⟩ := p1
    rw [q1] at q
    refine ⟨e, Ω, ρ, d, Ω', eH, r.wf, r.rel, q1, fun e' x' w' => ?_⟩
    cases d with
    | true => rw [if_pos rfl]; exact ⟨e', Ω', ρ, o, rfl, r.to x' w', q, k⟩
    | false => rw [if_neg (by decide)]; exact ⟨e', Ω', ρ, o, rfl, r.to x' w', q, k⟩
/-! ### a list of one's own -/
def sOwn (i : Nat) (g : ADen) : SDen := fun ρ Ω => match g ρ Ω with
  | some (ds, Ω') => if ds.length ≤ big then some (.nx (ρ.set i (.own ds)) Ω') else none
  | none => none
theorem pds_own {i : Nat} {n : Str} {pos' lp : Pos} {es : List Expr} {ga : ADen} (hN : X.N.Nodup) (hi : X.N[i]? = some n) (hx : Loc X.env.scope n) (he : PDA X C es ga) (hs : swapsWith (.List es lp) (some (.Name n pos')) pos.line X.env = pure false := by rfl) (hf : X.fn n = true ∨ X.env.scope.names.lookup n = some .local := by first | exact .inl rfl | exact .inr rfl | assumption) :
    PDS X C (.Assign [.Name n pos'] (.List es lp) pos) (sOwn i ga) := fun e₀ => ps_imp (ps_set hN hi hx (pe_lst he) hs hf) fun Dn σ H hw' => by
  obtain ⟨e, Ω, ρ, o, eH, r, q, k⟩ := hw'
  unfold sOwn at q
  cases q1 : ga ρ Ω with
  | none => rw [q1] at q; cases q
  | some p1 =>
    obtain ⟨ds, Ω'⟩ := p1
    rw [q1] at q
    dsimp only at q
    split at q
    · rename_i hl
      cases q
      refine ⟨e, Ω, ρ, ds, Ω', eH, r.wf, r.rel, q1, fun vs e' x' w' i' => ⟨by rw [← i'.length]; exact big_line hl, fun a ha => ?_⟩⟩
      have r' := r.to x' w'
      have hne : ∀ b u, e'.H b = some u → b ≠ a := fun b u hb => ne_of_none hb ha
      have hF : e'.F a = none := w'.nF ha
      have hA : ¬ e'.A a := fun z => (w'.ah a z).1 ha
      have own1 : ∀ (j : Nat) (es : List D), (ρ.set i (.own ds))[j]? = some (.own es) → (j = i ∧ es = ds ∧ i < ρ.length) ∨ (j ≠ i ∧ ρ[j]? = some (.own es)) := fun j es hj => by
        by_cases e1 : i = j
        · subst e1
          have hl : i < ρ.length := by
            have := (List.getElem?_eq_some_iff.mp hj).1
            simpa using this
          rw [List.getElem?_set_self hl] at hj
          cases hj
          exact .inl ⟨rfl, rfl, hl⟩
        · rw [List.getElem?_set_ne e1] at hj
          exact .inr ⟨fun z => e1 z.symm, hj⟩
      refine k ⟨e'.α, e'.F, e'.A, upd e'.H a (.lst vs)⟩ _ ⟨⟨fun b u hb => ?_, w'.fa, fun b hb => ?_, w'.ol, w'.nd, fun n b u h1 h2 => ⟨(w'.ob n b u h1 h2).1, (w'.ob n b u h1 h2).2.keep (fun z hz => ?_) (Same.refl _) ⟨[], by simp⟩⟩⟩, ⟨by simp [r'.rel.len], fun j d hj => ?_, fun j es hj => ?_, fun j m es fs b hj hm h1 h2 => ?_⟩, ⟨fun b o' u hb => by show upd e'.H a _ b = some (.frz o' u); rw [upd_ne (hne b _ (r'.ext.fz b o' u hb))]; exact r'.ext.fz b o' u hb, fun b u hb hn => ?_, fun b u hb => ?_, r'.ext.ff, r'.ext.fn, r'.ext.an, r'.ext.aa, r'.ext.al⟩, fun j es b hj h1 => ?_⟩
      · show upd e'.H a _ b = some u
        rw [upd_ne (hne b u (w'.fh b u hb))]; exact w'.fh b u hb
      · show upd e'.H a _ b ≠ none ∧ ∀ xs, upd e'.H a _ b ≠ some (.tup xs)
        rw [upd_ne (fun z => hA (by rw [← z]; exact hb))]; exact w'.ah b hb
      · show upd e'.H a _ b = some z
        rw [upd_ne (hne b z hz)]; exact hz
      · have n : i ≠ j := fun e1 => by
          subst e1
          have hl : i < ρ.length := by
            have := (List.getElem?_eq_some_iff.mp hj).1
            simpa using this
          rw [List.getElem?_set_self hl] at hj
          cases hj
        rw [List.getElem?_set_ne n] at hj ⊢
        exact r'.rel.dat j d hj
      · rcases own1 j es hj with ⟨rfl, rfl, hq⟩ | ⟨n, hj'⟩
        · exact ⟨a, vs, List.getElem?_set_self (by rw [r'.rel.len]; exact hq), upd_same, i', hF, hA⟩
        · obtain ⟨b, us, z1, z2, z3, z4, z5⟩ := r'.rel.own j es hj'
          exact ⟨b, us, by rw [List.getElem?_set_ne n.symm]; exact z1, by show upd e'.H a _ b = _; rw [upd_ne (hne b _ z2)]; exact z2, z3, z4, z5⟩
      · rcases own1 j es hj with ⟨rfl, rfl, hq⟩ | ⟨n, hj'⟩
        · rcases own1 m fs hm with ⟨rfl, _, _⟩ | ⟨n', hm'⟩
          · rfl
          · rw [List.getElem?_set_self (by rw [r'.rel.len]; exact hq)] at h1
            rw [List.getElem?_set_ne n'.symm] at h2
            obtain ⟨b', us, z1, z2, _⟩ := r'.rel.own m fs hm'
            rw [h2] at z1
            cases h1
            cases z1
            exact absurd rfl (hne _ _ z2)
        · rcases own1 m fs hm with ⟨rfl, _, hq⟩ | ⟨n', hm'⟩
          · rw [List.getElem?_set_self (by rw [r'.rel.len]; exact hq)] at h2
            rw [List.getElem?_set_ne n.symm] at h1
            obtain ⟨b', us, z1, z2, _⟩ := r'.rel.own j es hj'
            rw [h1] at z1
            cases h2
            cases z1
            exact absurd rfl (hne _ _ z2)
          · rw [List.getElem?_set_ne n.symm] at h1
            rw [List.getElem?_set_ne n'.symm] at h2
            exact r'.rel.sep j m es fs b hj' hm' h1 h2
      · show upd e'.H a _ b = some u
        have z := r'.ext.hk b u hb hn
        rw [upd_ne (hne b u z)]; exact z
      · obtain ⟨u', z⟩ := r'.ext.dm b u hb
        exact ⟨u', by show upd e'.H a _ b = some u'; rw [upd_ne (hne b u' z)]; exact z⟩
      · rcases own1 j es hj with ⟨rfl, rfl, hq⟩ | ⟨n, hj'⟩
        · rw [List.getElem?_set_self (by rw [r'.rel.len]; exact hq)] at h1
          cases h1
          exact r'.ext.back ha
        · rw [List.getElem?_set_ne n.symm] at h1
          exact r'.fresh j es b hj' h1
    · cases q
/-- found.append(e), found a list of one's own -/
def sApp (i : Nat) (g : Den) : SDen := fun ρ Ω => match g ρ Ω with
  | some (d, Ω') => match ρ[i]? with
    | some (.own ds) => if ds.length < big then some (.nx (ρ.set i (.own (ds ++ [d]))) Ω') else none
    | _ => none
  | none => none
theorem app_read {K : PySem.W.Frag} {e₀ : E4} {i : Nat} {Dn : Ends} {σ : St} {H : Hp} (hw : tDS K C e₀ (sApp i g) Dn σ H) :
    tDrop (tBM K "list" rAppend (tVar i) (tCons (tD K C g) tNil)) Dn σ H := by
  obtain ⟨e, Ω, ρ, o, eH, r, q, k⟩ := hw
  subst eH
  unfold sApp at q
  cases q1 : g ρ Ω with
  | none => rw [q1] at q; cases q
  | some p1 =>
    obtain ⟨d, Ω'⟩ := p1
    rw [q1] at q
    dsimp only at q
    cases q2 : ρ[i]? with
    | none => rw [q2] at q; cases q
    | some sl =>
      rw [q2] at q
      cases sl with
      | own ds =>
        dsimp only at q
        split at q
        · rename_i hl
          cases q
          obtain ⟨a, vs, e1, e2, i1, n1, n2⟩ := r.rel.own i ds q2
          refine ⟨.ref a, e1, .inl ⟨rfl, _, SqL.of e2⟩, ?_⟩
          refine ⟨e, Ω, ρ, d, Ω', rfl, r.wf, r.rel, q1, fun v e' x' w' i' => ?_⟩
          have r' := r.to x' w'
          obtain ⟨a', vs', e1', e2', i1', n1', n2'⟩ := r'.rel.own i ds q2
          rw [e1] at e1'
          cases e1'
          refine ⟨a, vs', v, rfl, rfl, e2', by rw [← i1'.length]; exact big_lt hl, ?_⟩
          have hil : i < ρ.length := (List.getElem?_eq_some_iff.mp q2).1
          have neH : ∀ (j : Nat) (es : List D) (b : Addr), j ≠ i → ρ[j]? = some (.own es) → σ[j]? = some (some (.ref b)) → b ≠ a := fun j es b n hj h1 z => by
            subst z
            exact n (r'.rel.sep j i es ds b hj q2 h1 e1)
          have own1 : ∀ (j : Nat) (es : List D), (ρ.set i (.own (ds ++ [d])))[j]? = some (.own es) → (j = i ∧ es = ds ++ [d]) ∨ (j ≠ i ∧ ρ[j]? = some (.own es)) := fun j es hj => by
            by_cases e3 : i = j
            · subst e3
              rw [List.getElem?_set_self hil] at hj
              cases hj
              exact .inl ⟨rfl, rfl⟩
            · rw [List.getElem?_set_ne e3] at hj
              exact .inr ⟨fun z => e3 z.symm, hj⟩
          refine k ⟨e'.α, e'.F, e'.A, upd e'.H a (.lst (vs' ++ [v]))⟩ σ ⟨⟨fun b u hb => ?_, w'.fa, fun b hb => ?_, w'.ol, w'.nd, fun n b u h1 h2 => ⟨(w'.ob n b u h1 h2).1, (w'.ob n b u h1 h2).2.keep (fun z hz => ?_) (Same.refl _) ⟨[], by simp⟩⟩⟩, ⟨by simp [r'.rel.len], fun j d' hj => ?_, fun j es hj => ?_, fun j m es fs b hj hm h1 h2 => ?_⟩, ⟨fun b o' u hb => by have q := r'.ext.fz b o' u hb; show upd e'.H a _ b = some (.frz o' u); rw [upd_ne (fun z => by rw [z, e2'] at q; cases q)]; exact q, fun b u hb hn => ?_, fun b u hb => ?_, r'.ext.ff, r'.ext.fn, r'.ext.an, r'.ext.aa, r'.ext.al⟩, fun j es b hj h1 => ?_⟩
          · show upd e'.H a _ b = some u
            rw [upd_ne (fun z => by subst z; rw [n1'] at hb; cases hb)]
            exact w'.fh b u hb
          · show upd e'.H a _ b ≠ none ∧ ∀ xs, upd e'.H a _ b ≠ some (.tup xs)
            rw [upd_ne (fun z => n2' (by rw [← z]; exact hb))]
            exact w'.ah b hb
          · show upd e'.H a _ b = some z
            rw [upd_ne (fun y => n2' (by rw [← y]; exact (w'.ob n b u h1 h2).1))]
            exact hz
          · have n : i ≠ j := fun e3 => by
              subst e3
              rw [List.getElem?_set_self hil] at hj
              cases hj
            rw [List.getElem?_set_ne n] at hj
            exact r'.rel.dat j d' hj
          · rcases own1 j es hj with ⟨rfl, rfl⟩ | ⟨n, hj'⟩
            · exact ⟨a, _, e1, upd_same, i1'.append (.cons i' .nil), n1', n2'⟩
            · obtain ⟨b, us, z1, z2, z3, z4, z5⟩ := r'.rel.own j es hj'
              exact ⟨b, us, z1, by show upd e'.H a _ b = _; rw [upd_ne (neH j es b n hj' z1)]; exact z2, z3, z4, z5⟩
          · rcases own1 j es hj with ⟨rfl, _⟩ | ⟨n, hj'⟩
            · rcases own1 m fs hm with ⟨rfl, _⟩ | ⟨n', hm'⟩
              · rfl
              · exact r'.rel.sep _ m ds fs b q2 hm' h1 h2
            · rcases own1 m fs hm with ⟨rfl, _⟩ | ⟨n', hm'⟩
              · exact r'.rel.sep j _ es ds b hj' q2 h1 h2
              · exact r'.rel.sep j m es fs b hj' hm' h1 h2
          · show upd e'.H a _ b = some u
            have h0 := r'.fresh i ds a q2 e1
            rw [upd_ne (ne_of_none hb h0)]
            exact r'.ext.hk b u hb hn
          · have h0 := r'.fresh i ds a q2 e1
            obtain ⟨u', z⟩ := r'.ext.dm b u hb
            exact ⟨u', by show upd e'.H a _ b = some u'; rw [upd_ne (ne_of_none hb h0)]; exact z⟩
          · rcases own1 j es hj with ⟨rfl, _⟩ | ⟨n, hj'⟩
            · exact r'.fresh _ ds b q2 h1
            · exact r'.fresh j es b hj' h1
        · cases q
      | und => cases q
      | dat _ => cases q
end
end DL
set_option Elab.async false
set_option linter.all false
set_option maxRecDepth 100000
namespace DL
open PySem PySem.Spec PyProof.Rows L2

open Classical in
noncomputable def hid (P : Addr → Prop) (H : Hp) : Hp := fun b => if P b then none else H b
theorem hid_pos {P : Addr → Prop} {H : Hp} {b : Addr} (h : P b) : hid P H b = none := if_pos h
theorem hid_neg {P : Addr → Prop} {H : Hp} {b : Addr} (h : ¬ P b) : hid P H b = H b := if_neg h
theorem hid_some {P : Addr → Prop} {H : Hp} {b : Addr} {o : HO} (h : hid P H b = some o) : H b = some o := by
  by_cases q : P b
  · rw [hid_pos q] at h; cases h
  · rw [hid_neg q] at h; exact h
section
variable {K : PySem.W.Frag} {C : Cl} {e₀ e e' : E4} {Ω Ω' : List OS} {σ : St} {ρ : List Sl}
/-- a mark in the middle of a body: what stands there stands from there on -/
theorem RelS.mark (r : RelS K C e₀ e Ω σ ρ) : ∃ e₁ : E4, e₁.F = e.F ∧ e₁.α = e.α ∧ RelS K C e₁ e Ω σ ρ ∧ (∀ e', Ext e₁ e' → Ext e₀ e') ∧ (∀ b, e₁.H b = none → e₀.H b = none) ∧ ∀ b o u, e.H b = some (.frz o u) → e₁.H b = some (.frz o u) := by
  have ho : ∀ b, (∃ (i : Nat) (ds : List D), ρ[i]? = some (Sl.own ds) ∧ σ[i]? = some (some (V.ref b))) → e₀.H b = none := fun b ⟨i, ds, h1, h2⟩ => r.fresh i ds b h1 h2
  generalize hP : (fun b : Addr => ∃ (i : Nat) (ds : List D), ρ[i]? = some (Sl.own ds) ∧ σ[i]? = some (some (V.ref b))) = P
  have ho' : ∀ b, P b → e₀.H b = none := fun b h => ho b (by rw [← hP] at h; exact h)
  have hno : ∀ b, hid P e.H b = none → e₀.H b = none := fun b h => by
    by_cases q : P b
    · exact ho' b q
    · rw [hid_neg q] at h; exact r.ext.back h
  have hs : ∀ b o, e₀.H b = some o → hid P e.H b = e.H b := fun b o h => hid_neg (fun q => by rw [ho' b q] at h; cases h)
  refine ⟨⟨e.α, e.F, e.A, hid P e.H⟩, rfl, rfl, ⟨r.wf, r.rel, ⟨fun b o u h => hid_some h, fun b o h _ => hid_some h, fun b o h => ⟨o, hid_some h⟩, Same.refl _, fun b o h => .inl h, fun b h => .inl h, fun b h => h, [], by simp⟩, fun i ds a h1 h2 => ?_⟩, fun e' x => ⟨fun b o u h => x.fz b o u ((hs b _ h).trans (r.ext.fz b o u h)), fun b o h hn => ?_, fun b o h => ?_, r.ext.ff.trans x.ff, fun b o h => ?_, fun b h => ?_, fun b h => x.aa b (r.ext.aa b h), ?_⟩, hno, fun b o u h => (hid_neg (fun q => ?_)).trans h⟩
  · exact hid_pos (by rw [← hP]; exact ⟨i, ds, h1, h2⟩)
  · have z := r.ext.hk b o h hn
    refine x.hk b o ((hs b o h).trans z) fun hA => ?_
    rcases r.ext.an b hA with q | q
    · exact hn q
    · rw [q] at h; cases h
  · obtain ⟨o', z⟩ := r.ext.dm b o h
    exact x.dm b o' ((hs b o h).trans z)
  · rcases x.fn b o h with q | q | ⟨q1, q2, q3⟩
    · exact r.ext.fn b o q
    · exact .inr (.inl (hno b q))
    · have n : ¬ e₀.A b := fun z => q3 (r.ext.aa b z)
      cases z : e₀.H b with
      | none => exact .inr (.inl rfl)
      | some o' =>
        have z' := r.ext.hk b o' z n
        rw [hid_some q2] at z'
        cases z'
        exact .inr (.inr ⟨q1, rfl, n⟩)
  · rcases x.an b h with q | q
    · exact r.ext.an b q
    · exact .inr (hno b q)
  · obtain ⟨m, e1⟩ := r.ext.al
    obtain ⟨n, e2⟩ := x.al
    exact ⟨m ++ n, by rw [e2]; show e.α ++ n = _; rw [e1, List.append_assoc]⟩
  · rw [← hP] at q
    obtain ⟨i, ds, h1, h2⟩ := q
    obtain ⟨a', vs, e1, e2, _⟩ := r.rel.own i ds h1
    rw [h2] at e1
    cases e1
    rw [h] at e2
    cases e2
end

/-! ### targets -/
abbrev BDen := D → List Sl → Option (List Sl)
def tDG (K : PySem.W.Frag) (C : Cl) (β : BDen) : TG := fun v σ H Q => ∃ e Ω ρ d ρ', e.H = H ∧ Wf K C e Ω ∧ RelE K e σ ρ ∧ Is K e.α e.F d v ∧ β d ρ = some ρ' ∧
  ∀ σ', RelE K e σ' ρ' → (∀ (j : Nat) (ds : List D), ρ'[j]? = some (.own ds) → ρ[j]? = some (.own ds) ∧ σ'[j]? = σ[j]?) → Q σ' e.H
def PDG (X : Cx) (C : Cl) (tg : Expr) (β : BDen) : Prop := PG X tg (tDG X.K C β)
theorem pg_imp {X : Cx} {tg : Expr} {t t' : TG} (h : PG X tg t) (i : ∀ v σ H Q, t' v σ H Q → t v σ H Q) : PG X tg t' := fun pins s σ H v u Q I r hw => h pins s σ H v u Q I r (i v σ H Q hw)
theorem pgs_imp {X : Cx} {ts : List Expr} {t t' : TGs} (h : PGs X ts t) (i : ∀ v σ H Q, t' v σ H Q → t v σ H Q) : PGs X ts t' := fun pins s σ H v u Q I r hw => h pins s σ H v u Q I r (i v σ H Q hw)
def bName (i : Nat) : BDen := fun d ρ => some (ρ.set i (.dat d))
theorem own_set {ρ : List Sl} {σ : St} {i : Nat} {d : D} {v : V} (j : Nat) (ds : List D) (h : (ρ.set i (.dat d))[j]? = some (.own ds)) : ρ[j]? = some (.own ds) ∧ (σ.set i (some v))[j]? = σ[j]? := by
  have n := set_own_ne h
  rw [List.getElem?_set_ne n] at h
  exact ⟨h, List.getElem?_set_ne n⟩
section
variable {X : Cx} {C : Cl} {pos : Pos}
theorem pdg_name {i : Nat} {x : Str} (hN : X.N.Nodup) (hi : X.N[i]? = some x) (hx : Loc X.env.scope x) (hf : X.fn x = true ∨ X.env.scope.names.lookup x = some .local := by first | exact .inl rfl | exact .inr rfl | assumption) : PDG X C (.Name x pos) (bName i) :=
  pg_imp (pg_name hN hi hx hf) fun v σ H Q hw' => by
    obtain ⟨e, Ω, ρ, d, ρ', eH, w, r, is, b, k⟩ := hw'
    subst eH
    cases b
    exact k _ (r.set i is) own_set
/-- a tuple of names -/
def bNames : List Nat → List D → List Sl → Option (List Sl)
  | [], [], ρ => some ρ
  | i :: is, d :: ds, ρ => bNames is ds (ρ.set i (.dat d))
  | _, _, _ => none
def tDGs (K : PySem.W.Frag) (C : Cl) (is : List Nat) : TGs := fun vs σ H Q => ∃ e Ω ρ ds ρ', e.H = H ∧ Wf K C e Ω ∧ RelE K e σ ρ ∧ IsL K e.α e.F ds vs ∧ bNames is ds ρ = some ρ' ∧
  ∀ σ', RelE K e σ' ρ' → (∀ (j : Nat) (ds : List D), ρ'[j]? = some (.own ds) → ρ[j]? = some (.own ds) ∧ σ'[j]? = σ[j]?) → Q σ' e.H
def PDGs (X : Cx) (C : Cl) (ts : List Expr) (is : List Nat) : Prop := PGs X ts (tDGs X.K C is)
theorem pdgs_nil : PDGs X C [] [] := pgs_imp pgs_nil fun vs σ H Q hw' => by
  obtain ⟨e, Ω, ρ, ds, ρ', eH, w, r, is, b, k⟩ := hw'
  subst eH
  cases ds with
  | nil => cases b; exact ⟨is.of_nil, k _ r fun _ _ h => ⟨h, rfl⟩⟩
  | cons => cases b
theorem pdgs_cons {i : Nat} {is : List Nat} {x : Str} {ts : List Expr} {px : Pos} (hN : X.N.Nodup) (hi : X.N[i]? = some x) (hx : Loc X.env.scope x) (h2 : PDGs X C ts is) (hf : X.fn x = true ∨ X.env.scope.names.lookup x = some .local := by first | exact .inl rfl | exact .inr rfl | assumption)
    (hs : (assignEach (.Name x px :: ts) X.env).map (·.2) = assign (.Name x px) X.env :: (assignEach ts X.env).map (·.2) := by rfl) : PDGs X C (.Name x px :: ts) (i :: is) := by
  refine pgs_imp (pgs_cons (pg_name hN hi hx hf) h2 hs) fun vs σ H Q hw' => ?_
  obtain ⟨e, Ω, ρ, ds, ρ', eH, w, r, il, b, k⟩ := hw'
  subst eH
  cases ds with
  | nil => cases b
  | cons d ds =>
    obtain ⟨v, vr, rfl, i1, i2⟩ := il.of_cons
    refine ⟨v, vr, rfl, ?_⟩
    refine ⟨e, Ω, _, ds, ρ', rfl, w, r.set i i1, i2, b, fun σ' r' o' => k σ' r' fun j es hj => ?_⟩
    obtain ⟨z1, z2⟩ := o' j es hj
    obtain ⟨y1, y2⟩ := own_set (σ := σ) (v := v) j es z1
    exact ⟨y1, z2.trans y2⟩
def bTup (is : List Nat) : BDen := fun d ρ => match d with
  | .tup ds => bNames is ds ρ
  | _ => none
theorem bNames_len : ∀ {is : List Nat} {ds : List D} {ρ ρ' : List Sl}, bNames is ds ρ = some ρ' → ds.length = is.length
  | [], [], _, _, _ => rfl
  | i :: is, d :: ds, ρ, ρ', h => by
    rw [List.length_cons, List.length_cons, bNames_len (is := is) (ds := ds) h]
  | [], _ :: _, _, _, h => by cases h
  | _ :: _, [], _, _, h => by cases h
theorem pdg_tup {es : List Expr} {k : Nat} {is : List Nat} (hc : X.calm = true) (h : PDGs X C es is)
    (hn : (assignEach es X.env).length = is.length := by rfl) (hst : (assignEach es X.env).findIdx? (·.1) = none := by rfl) : PDG X C (.Tuple es k pos) (bTup is) := by
  refine pg_imp (pg_tup hc h hn hst) fun v σ H Q hw' => ?_
  obtain ⟨e, Ω, ρ, d, ρ', eH, w, r, il, b, k⟩ := hw'
  subst eH
  unfold bTup at b
  cases d with
  | tup ds =>
    rw [Is] at il
    obtain ⟨a, vs, rfl, e1, i1⟩ := il
    exact ⟨a, vs, rfl, SqT.of (w.fh _ _ e1), by rw [← i1.length]; exact bNames_len b, e, Ω, ρ, ds, ρ', rfl, w, r, i1, b, k⟩
  | _ => cases b
theorem RelS.by {K : PySem.W.Frag} {e₀ e : E4} {Ω : List OS} {σ σ' : St} {ρ ρ' : List Sl} (r : RelS K C e₀ e Ω σ ρ) (r' : RelE K e σ' ρ') (o : ∀ (j : Nat) (ds : List D), ρ'[j]? = some (.own ds) → ρ[j]? = some (.own ds) ∧ σ'[j]? = σ[j]?) : RelS K C e₀ e Ω σ' ρ' :=
  ⟨r.wf, r', r.ext, fun i ds a h1 h2 => by
    obtain ⟨z1, z2⟩ := o i ds h1
    rw [z2] at h2
    exact r.fresh i ds a z1 h2⟩
end

/-! ### what is walked -/
def Walk (K : PySem.W.Frag) (e : E4) (J : It) (ds : List D) : Prop := ∀ (i : Nat) (e2 : E4), Same e.F e2.F → (∃ more, e2.α = e.α ++ more) → Same e2.F e2.H →
  (i = ds.length → J.stop i e2.H) ∧ ∀ d, ds[i]? = some d → J.go i e2.H ∧ ∀ x H', J.yld i e2.H x H' → ∃ e3 : E4, e3.H = H' ∧ Is K e3.α e3.F d x ∧ ∀ (C : Cl) (Ω : List OS), Wf K C e2 Ω → Ext e2 e3 ∧ Wf K C e3 Ω
theorem Walk.still {K : PySem.W.Frag} {e : E4} {J : It} {ds : List D} (h : ∀ (i : Nat) (e2 : E4), Same e.F e2.F → (∃ more, e2.α = e.α ++ more) → Same e2.F e2.H →
    (i = ds.length → J.stop i e2.H) ∧ ∀ d, ds[i]? = some d → J.go i e2.H ∧ ∀ x H', J.yld i e2.H x H' → H' = e2.H ∧ Is K e2.α e2.F d x) : Walk K e J ds := fun i e2 h1 h2 h3 => by
  obtain ⟨a, b⟩ := h i e2 h1 h2 h3
  refine ⟨a, fun d hd => ⟨(b d hd).1, fun x H' hy => ?_⟩⟩
  obtain ⟨z, q⟩ := (b d hd).2 x H' hy
  exact ⟨e2, z.symm, q, fun C Ω w => ⟨Ext.refl _, w⟩⟩
def tDI (K : PySem.W.Frag) (C : Cl) (γ : ADen) : TI := fun σ H R => ∃ e Ω ρ ds Ω', e.H = H ∧ Wf K C e Ω ∧ RelE K e σ ρ ∧ γ ρ Ω = some (ds, Ω') ∧ ∀ e' J, Ext e e' → Wf K C e' Ω' → Walk K e' J ds → R J e'.H
def PDI (X : Cx) (C : Cl) (tg iter : Expr) (γ : ADen) : Prop := PI X tg iter (tDI X.K C γ)
theorem pi_imp {X : Cx} {tg iter : Expr} {t t' : TI} (h : PI X tg iter t) (i : ∀ σ H R, t' σ H R → t σ H R) : PI X tg iter t' := fun pins s σ H R I hw => h pins s σ H R I (i σ H R hw)
section
variable {X : Cx} {C : Cl} {tg iter : Expr} {g : Den} {ga : ADen} {pos p : Pos}
def seqD : D → Option (List D)
  | .lst xs => some xs
  | .scr ns => some (ns.map D.int)
  | _ => none
def gSeq (g : Den) : ADen := fun ρ Ω => match g ρ Ω with
  | some (d, Ω') => match seqD d with
    | some ds => some (ds, Ω')
    | none => none
  | none => none
theorem walk_list {K : PySem.W.Frag} {e : E4} {a : Addr} {vs : List V} {ds : List D} (h : SqL K e.F a vs) (r : IsL K e.α e.F ds vs) : Walk K e (Itl K a) ds := by
  refine Walk.still ?_
  intro i e2 ff al fh
  have h2 : SqL K e2.H a vs := fh.seq (ff.seq h)
  refine ⟨fun z => ⟨vs, h2, by rw [← r.length]; exact Nat.le_of_eq z.symm⟩, fun d hd => ?_⟩
  obtain ⟨v, hv, iv⟩ := (IsL.mono ff al ds r).get hd
  exact ⟨⟨vs, v, h2, hv⟩, fun x H' ⟨z1, z2⟩ => ⟨z1, by
    have := z2 vs h2
    rw [hv] at this
    cases this
    exact iv⟩⟩
theorem pdi_list (h : PD X C iter g) : PDI X C tg iter (gSeq g) := pi_imp (pi_list h) fun σ H R hw' => by
  obtain ⟨e, Ω, ρ, ds, Ω', eH, w, rl, q, k⟩ := hw'
  unfold gSeq at q
  cases q1 : g ρ Ω with
  | none => rw [q1] at q; cases q
  | some p1 =>
    obtain ⟨d, Ω1⟩ := p1
    rw [q1] at q
    dsimp only at q
    refine ⟨e, Ω, ρ, d, Ω1, eH, w, rl, q1, fun v e' x' w' i' => ?_⟩
    cases d with
    | lst xs =>
      cases q
      rw [Is] at i'
      obtain ⟨a, vs, rfl, h1, r1⟩ := i'
      exact ⟨a, rfl, ⟨vs, SqL.of (w'.fh _ _ h1)⟩, k e' _ x' w' (walk_list (SqL.of h1) r1)⟩
    | scr ns =>
      cases q
      rw [Is] at i'
      obtain ⟨a, rfl, h1⟩ := i'
      exact ⟨a, rfl, ⟨_, w'.fh.seq h1⟩, k e' _ x' w' (walk_list h1 (IsL.ints ns))⟩
    | _ => cases q
theorem sameT {K : PySem.W.Frag} {H H' : Hp} {a : Addr} {xs : List V} (e : Same H H') (h : SqT K H a xs) : SqT K H' a xs := by
  rcases h with (h | ⟨o, h⟩) | h
  · exact .inl (.inl (e _ _ h))
  · exact .inl (.inr ⟨o, e _ _ h⟩)
  · exact .inr h
theorem walk_tup {K : PySem.W.Frag} {e : E4} {a : Addr} {vs : List V} {ds : List D} (h : SqT K e.F a vs) (r : IsL K e.α e.F ds vs) : Walk K e (Itt K a) ds := by
  refine Walk.still ?_
  intro i e2 ff al fh
  have h2 : SqT K e2.H a vs := sameT fh (sameT ff h)
  refine ⟨fun z => ⟨vs, h2, by rw [← r.length]; exact Nat.le_of_eq z.symm⟩, fun d hd => ?_⟩
  obtain ⟨v, hv, iv⟩ := (IsL.mono ff al ds r).get hd
  exact ⟨⟨vs, v, h2, hv⟩, fun x H' ⟨z1, z2⟩ => ⟨z1, by
    have := z2 vs h2
    rw [hv] at this
    cases this
    exact iv⟩⟩
/-- lo, lo + 1 .. -/
def upD (lo : Int) (n : Nat) : List D := (List.range n).map fun (k : Nat) => D.int (lo + (k : Int))
theorem walk_range {K : PySem.W.Frag} {e : E4} {lo : Int} {n : Nat} : Walk K e (Itr lo n) (upD lo n) := by
  refine Walk.still ?_
  intro i e2 _ _ _
  refine ⟨fun z => Nat.le_of_eq (by rw [z]; simp [upD]), fun d hd => ?_⟩
  have hi : i < n := by
    have := (List.getElem?_eq_some_iff.mp hd).1
    simpa [upD] using this
  refine ⟨hi, fun x H' ⟨z1, z2⟩ => ⟨z1, ?_⟩⟩
  have : d = D.int (lo + (i : Int)) := by
    simp [upD, hi] at hd
    exact hd.symm
  subst this z2
  rw [Is]
noncomputable def rng1 : List D → Option (List D)
  | [.int j] => grd (-(2 ^ 62) ≤ j ∧ j < 2 ^ 62) (some (upD 0 j.toNat))
  | _ => none
noncomputable def rng2 : List D → Option (List D)
  | [.int i, .int j] => grd (-(2 ^ 62) ≤ i ∧ i < 2 ^ 62 ∧ -(2 ^ 62) ≤ j ∧ j < 2 ^ 62) (some (upD i (j - i).toNat))
  | _ => none
def gRng (r : List D → Option (List D)) (g : ADen) : ADen := fun ρ Ω => match g ρ Ω with
  | some (ds, Ω') => match r ds with
    | some es => some (es, Ω')
    | none => none
  | none => none
theorem pdi_range1 {a : Expr} (hg : Gl X "range") (hm : X.mg "range" = none) (ha : PDA X C [a] ga) (hs : starEach [a] X.env = [(false, eval a X.env)] := by rfl) : PDI X C tg (.Call (.Name "range" p) [a] [] pos) (gRng rng1 ga) :=
  pi_imp (pi_range1 hg hm ha hs) fun σ H R hw' => by
    obtain ⟨e, Ω, ρ, ds, Ω', eH, w, rl, q, k⟩ := hw'
    unfold gRng at q
    cases q1 : ga ρ Ω with
    | none => rw [q1] at q; cases q
    | some p1 =>
      obtain ⟨es, Ω1⟩ := p1
      rw [q1] at q
      dsimp only at q
      refine ⟨e, Ω, ρ, es, Ω1, eH, w, rl, q1, fun v e' x' w' i' => ?_⟩
      match es, q, i' with
      | [.int j], q, i' =>
        obtain ⟨v, rfl, iv⟩ := isL_one i'
        rw [Is] at iv
        subst iv
        have ez : rng1 [D.int j] = grd (-(2 ^ 62) ≤ j ∧ j < 2 ^ 62) (some (upD 0 j.toNat)) := rfl
        rw [ez] at q
        by_cases hb : (-(2 ^ 62) ≤ j ∧ j < 2 ^ 62)
        · rw [grd_pos hb] at q
          cases q
          exact ⟨j, rfl, hb.1, hb.2, k e' _ x' w' walk_range⟩
        · have en : grd (-(2 ^ 62) ≤ j ∧ j < 2 ^ 62) (some (upD 0 j.toNat)) = none := if_neg hb
          rw [en] at q
          cases q
theorem pdi_range2 {a b : Expr} (hg : Gl X "range") (hm : X.mg "range" = none) (ha : PDA X C [a, b] ga) (hs : starEach [a, b] X.env = [(false, eval a X.env), (false, eval b X.env)] := by rfl) (hs2 : starEach [b] X.env = [(false, eval b X.env)] := by rfl) : PDI X C tg (.Call (.Name "range" p) [a, b] [] pos) (gRng rng2 ga) :=
  pi_imp (pi_range2 hg hm ha hs hs2) fun σ H R hw' => by
    obtain ⟨e, Ω, ρ, ds, Ω', eH, w, rl, q, k⟩ := hw'
    unfold gRng at q
    cases q1 : ga ρ Ω with
    | none => rw [q1] at q; cases q
    | some p1 =>
      obtain ⟨es, Ω1⟩ := p1
      rw [q1] at q
      dsimp only at q
      refine ⟨e, Ω, ρ, es, Ω1, eH, w, rl, q1, fun v e' x' w' i' => ?_⟩
      match es, q, i' with
      | [.int i, .int j], q, i' =>
        obtain ⟨v, u, rfl, iv, iu⟩ := isL_two i'
        rw [Is] at iv iu
        subst iv iu
        have ez : rng2 [D.int i, D.int j] = grd (-(2 ^ 62) ≤ i ∧ i < 2 ^ 62 ∧ -(2 ^ 62) ≤ j ∧ j < 2 ^ 62) (some (upD i (j - i).toNat)) := rfl
        rw [ez] at q
        by_cases hb : (-(2 ^ 62) ≤ i ∧ i < 2 ^ 62 ∧ -(2 ^ 62) ≤ j ∧ j < 2 ^ 62)
        · rw [grd_pos hb] at q
          cases q
          exact ⟨i, j, rfl, hb, k e' _ x' w' walk_range⟩
        · have en : grd (-(2 ^ 62) ≤ i ∧ i < 2 ^ 62 ∧ -(2 ^ 62) ≤ j ∧ j < 2 ^ 62) (some (upD i (j - i).toNat)) = none := if_neg hb
          rw [en] at q
          cases q
end

/-! ### for, while -/
def forD (β : BDen) (s : SDen) : List D → SDen
  | [], ρ, Ω => some (.nx ρ Ω)
  | d :: ds, ρ, Ω => match β d ρ with
    | some ρ1 => match s ρ1 Ω with
      | some (.nx ρ' Ω') => forD β s ds ρ' Ω'
      | some (.ct ρ' Ω') => forD β s ds ρ' Ω'
      | some (.bk ρ' Ω') => some (.nx ρ' Ω')
      | some (.rt z Ω') => some (.rt z Ω')
      | none => none
    | none => none
def sFor (γ : ADen) (β : BDen) (s : SDen) : SDen := fun ρ Ω => match γ ρ Ω with
  | some (ds, Ω') => forD β s ds ρ Ω'
  | none => none
section
variable {X : Cx} {C : Cl} {tg iter c : Expr} {γ : ADen} {β : BDen} {s : SDen} {body : List Stmt} {pos : Pos} {p : TDen}
theorem pdb_ex {sts : List Stmt} (h : PDB X C sts s) : PSs X sts (fun Dn σ H => ∃ e₁, tDS X.K C e₁ s Dn σ H) := fun pins sh σ H Dn I ⟨e₁, hw⟩ => h e₁ pins sh σ H Dn I hw
theorem pds_for (hp : PassesOwn (model X.prog X.w) X.A X.env X.xe) (hc : X.calm = true) (hi : PDI X C tg iter γ) (hg : PDG X C tg β) (hb : PDB X C body s)
    (hs : ∀ x, foldedSetIterable iter X.env x = pure x := by intro _; rfl) : PDS X C (.For tg iter body [] pos) (sFor γ β s) := by
  refine fun e₀ => ps_imp (ps_for hp hc hi hg (pdb_ex hb) hs) fun Dn σ H hw' => ?_
  obtain ⟨e, Ω, ρ, o, eH, r, q, k⟩ := hw'
  unfold sFor at q
  cases q1 : γ ρ Ω with
  | none => rw [q1] at q; cases q
  | some p1 =>
    obtain ⟨ds, Ω'⟩ := p1
    rw [q1] at q
    dsimp only at q
    refine ⟨e, Ω, ρ, ds, Ω', eH, r.wf, r.rel, q1, fun e' J x' w' wk => ?_⟩
    refine ⟨fun i m σ H => m = ds.length - i ∧ i ≤ ds.length ∧ ∃ e2 Ω2 ρ2, e2.H = H ∧ RelS X.K C e₀ e2 Ω2 σ ρ2 ∧ Same e'.F e2.F ∧ (∃ more, e2.α = e'.α ++ more) ∧ forD β s (ds.drop i) ρ2 Ω2 = some o, ⟨ds.length, by simp, Nat.zero_le _, e', Ω', ρ, rfl, r.to x' w', Same.refl _, ⟨[], by simp⟩, by simpa using q⟩, ?_⟩
    rintro i m σ2 H2 ⟨rfl, hil, e2, Ω2, ρ2, rfl, r2, ff, al, q2⟩
    obtain ⟨stop, go⟩ := wk i e2 ff al r2.wf.fh
    by_cases hlt : i < ds.length
    · have hd : ds[i]? = some ds[i] := List.getElem?_eq_getElem hlt
      obtain ⟨g1, y1⟩ := go _ hd
      have edrop : ds.drop i = ds[i] :: ds.drop (i + 1) := List.drop_eq_getElem_cons hlt
      rw [edrop] at q2
      refine .inr ⟨g1, fun σ' H' => ∃ e3 Ω3 ρ3, e3.H = H' ∧ RelS X.K C e₀ e3 Ω3 σ' ρ3 ∧ Same e'.F e3.F ∧ (∃ more, e3.α = e'.α ++ more) ∧ forD β s (ds.drop (i + 1)) ρ3 Ω3 = some o, fun σ' H' hN => ⟨ds.length - (i + 1), by omega, rfl, hlt, hN⟩, fun x H' hy => ?_⟩
      obtain ⟨e2', rfl, ix, up⟩ := y1 x H' hy
      obtain ⟨x2', w2'⟩ := up C Ω2 r2.wf
      replace r2 := r2.to x2' w2'
      replace ff := ff.trans x2'.ff
      replace al : ∃ more, e2'.α = e'.α ++ more := by
        obtain ⟨m1, z1⟩ := al
        obtain ⟨m2, z2⟩ := x2'.al
        exact ⟨m1 ++ m2, by rw [z2, z1, List.append_assoc]⟩
      clear y1 g1 stop go
      revert r2 ff al ix
      generalize e2' = e2
      intro ix r2 ff al
      unfold forD at q2
      cases q3 : β ds[i] ρ2 with
      | none => rw [q3] at q2; cases q2
      | some ρ3 =>
        rw [q3] at q2
        dsimp only at q2
        refine ⟨e2, Ω2, ρ2, _, ρ3, rfl, r2.wf, r2.rel, ix, q3, fun σ3 r3 o3 => ?_⟩
        have r3' := r2.by r3 o3
        obtain ⟨e₁, hF, hα, r4, toE, toN, _⟩ := r3'.mark
        cases q4 : s ρ3 Ω2 with
        | none => rw [q4] at q2; cases q2
        | some o4 =>
          rw [q4] at q2
          refine ⟨e₁, e2, Ω2, ρ3, o4, rfl, r4, q4, ?_⟩
          have back : ∀ {e5 : E4} {Ω5 : List OS} {σ5 : St} {ρ5 : List Sl}, RelS X.K C e₁ e5 Ω5 σ5 ρ5 → RelS X.K C e₀ e5 Ω5 σ5 ρ5 ∧ Same e'.F e5.F ∧ ∃ more, e5.α = e'.α ++ more := fun {e5 Ω5 σ5 ρ5} r5 => by
            refine ⟨⟨r5.wf, r5.rel, toE _ r5.ext, fun i ds a h1 h2 => toN _ (r5.fresh i ds a h1 h2)⟩, ff.trans (hF ▸ r5.ext.ff), ?_⟩
            obtain ⟨m1, z1⟩ := al
            obtain ⟨m2, z2⟩ := r5.ext.al
            exact ⟨m1 ++ m2, by rw [z2, hα, z1, List.append_assoc]⟩
          cases o4 with
          | nx ρ5 Ω5 => exact fun e5 σ5 r5 => ⟨e5, Ω5, ρ5, rfl, (back r5).1, (back r5).2.1, (back r5).2.2, q2⟩
          | ct ρ5 Ω5 => exact fun e5 σ5 r5 => ⟨e5, Ω5, ρ5, rfl, (back r5).1, (back r5).2.1, (back r5).2.2, q2⟩
          | bk ρ5 Ω5 => cases q2; exact fun e5 σ5 r5 => k e5 σ5 (back r5).1
          | rt z Ω5 => cases q2; exact fun e5 v5 x5 w5 i5 => k e5 v5 (toE _ x5) w5 i5
    · have ei : i = ds.length := by omega
      subst ei
      rw [List.drop_length] at q2
      cases q2
      exact .inl ⟨stop rfl, k e2 σ2 r2⟩
def whileD (p : TDen) (s : SDen) : Nat → SDen
  | 0, _, _ => none
  | n + 1, ρ, Ω => match p ρ Ω with
    | some (true, Ω1) => match s ρ Ω1 with
      | some (.nx ρ' Ω') => whileD p s n ρ' Ω'
      | some (.ct ρ' Ω') => whileD p s n ρ' Ω'
      | some (.bk ρ' Ω') => some (.nx ρ' Ω')
      | some (.rt z Ω') => some (.rt z Ω')
      | none => none
    | some (false, Ω1) => some (.nx ρ Ω1)
    | none => none
theorem pds_while (fuel : Nat) (hp : PassesOwn (model X.prog X.w) X.A X.env X.xe) (hc : PDT X C c p) (hb : PDB X C body s) : PDS X C (.While c body [] pos) (whileD p s fuel) := by
  refine fun e₀ => ps_imp (ps_while hp hc (pdb_ex hb)) fun Dn σ H hw' => ?_
  obtain ⟨e, Ω, ρ, o, eH, r, q, k⟩ := hw'
  refine ⟨fun m σ H => ∃ e2 Ω2 ρ2, e2.H = H ∧ RelS X.K C e₀ e2 Ω2 σ ρ2 ∧ whileD p s m ρ2 Ω2 = some o, ⟨fuel, e, Ω, ρ, eH, r, q⟩, ?_⟩
  rintro m σ2 H2 ⟨e2, Ω2, ρ2, rfl, r2, q2⟩
  cases m with
  | zero => cases q2
  | succ m =>
    unfold whileD at q2
    cases q3 : p ρ2 Ω2 with
    | none => rw [q3] at q2; cases q2
    | some p3 =>
      obtain ⟨b, Ω3⟩ := p3
      rw [q3] at q2
      refine ⟨e2, Ω2, ρ2, b, Ω3, rfl, r2.wf, r2.rel, q3, fun e3 x3 w3 => ?_⟩
      have r3 := r2.to x3 w3
      cases b with
      | false =>
        refine iteF ?_
        cases q2
        exact k e3 σ2 r3
      | true =>
        refine iteT ?_
        dsimp only at q2
        refine ⟨fun σ' H' => ∃ e5 Ω5 ρ5, e5.H = H' ∧ RelS X.K C e₀ e5 Ω5 σ' ρ5 ∧ whileD p s m ρ5 Ω5 = some o, fun σ' H' hN => ⟨m, Nat.lt_succ_self m, hN⟩, e₀, ?_⟩
        cases q4 : s ρ2 Ω3 with
        | none => rw [q4] at q2; cases q2
        | some o4 =>
          rw [q4] at q2
          refine ⟨e3, Ω3, ρ2, o4, rfl, r3, q4, ?_⟩
          cases o4 with
          | nx ρ5 Ω5 => exact fun e5 σ5 r5 => ⟨e5, Ω5, ρ5, rfl, r5, q2⟩
          | ct ρ5 Ω5 => exact fun e5 σ5 r5 => ⟨e5, Ω5, ρ5, rfl, r5, q2⟩
          | bk ρ5 Ω5 => cases q2; exact fun e5 σ5 r5 => k e5 σ5 r5
          | rt z Ω5 => cases q2; exact k
end
end DL
set_option Elab.async false
set_option linter.all false
set_option maxRecDepth 100000
namespace DL
open PySem PySem.Spec PyProof.Rows L2

/-! ### defs -/
abbrev FDen := List D → List OS → Option (D × List OS)
def spD (K : PySem.W.Frag) (C : Cl) (f : FDen) : Sp := fun vs H Q _ => ∃ e Ω ds d Ω', e.H = H ∧ Wf K C e Ω ∧ IsL K e.α e.F ds vs ∧ f ds Ω = some (d, Ω') ∧ ∀ v e', Ext e e' → Wf K C e' Ω' → Is K e'.α e'.F d v → Q v e'.H
/-- a def of n parameters and m names in all, by its body -/
def runD (n m : Nat) (s : SDen) : FDen := fun ds Ω => if ds.length = n then match s (ds.map Sl.dat ++ List.replicate (m - n) Sl.und) Ω with
    | some (.rt d Ω') => some (d, Ω')
    | some (.nx _ Ω') => some (.non, Ω')
    | _ => none
  else none
theorem start_rel {K : PySem.W.Frag} {C : Cl} {e : E4} {Ω : List OS} {N : List Str} {ds : List D} {vs : List V} (w : Wf K C e Ω) (i : IsL K e.α e.F ds vs) : RelS K C e e Ω (L2.start N vs) (ds.map Sl.dat ++ List.replicate (N.length - ds.length) Sl.und) := by
  have noown : ∀ (j : Nat) (es : List D), (ds.map Sl.dat ++ List.replicate (N.length - ds.length) Sl.und)[j]? ≠ some (.own es) := fun j es h => by
    by_cases hj : j < ds.length
    · rw [List.getElem?_append_left (by simpa using hj), List.getElem?_map] at h
      cases q : ds[j]? with
      | none => rw [q] at h; cases h
      | some d => rw [q] at h; cases h
    · rw [List.getElem?_append_right (by simpa using hj), List.getElem?_replicate] at h
      split at h <;> cases h
  refine ⟨w, ⟨?_, fun j d h => ?_, fun j es h => absurd h (noown j es), fun j k es fs a h => absurd h (noown j es)⟩, Ext.refl e, fun j es a h => absurd h (noown j es)⟩
  · unfold L2.start
    simp [i.length]
  · by_cases hj : j < ds.length
    · rw [List.getElem?_append_left (by simpa using hj), List.getElem?_map] at h
      cases q : ds[j]? with
      | none => rw [q] at h; cases h
      | some d' =>
        rw [q] at h
        cases h
        obtain ⟨v, hv, iv⟩ := i.get q
        refine ⟨v, ?_, iv⟩
        unfold L2.start
        rw [List.getElem?_append_left (by simpa [← i.length] using hj), List.getElem?_map, hv]
        rfl
    · rw [List.getElem?_append_right (by simpa using hj), List.getElem?_replicate] at h
      split at h <;> cases h
theorem fn_D {P : Program} {w : World} {K : PySem.W.Frag} {mg : Str → Option Value} {base : Heap} {C : Cl} {x qual : Str} {st : Stmt} {f : Addr} {fd : FuncData} {N ps : List Str} {k n m : Nat} {s : SDen} (F : Fun K x qual st f fd) (S : FnScope N ps (defScope st)) (hn : ps.length = n) (hm : N.length = m)
    (hbody : ∀ (cdv : Value) (A : Around) (outer : List Env) (sh : Shared) (H : Hp) (E : XK), Room k (A.deeper (envOfC qual (defScope st) sh.heap.objs.size f cdv)) →
      PDB (cxOf CX0 P w K mg base N qual (defScope st) f cdv A outer sh H E).nox C (defBody st) s) : FnOk P w K mg base CX0 (k + 1) f fd ps (spD K C (runD n m s)) := by
  refine F.ok S (fun vs H Q E h => ?_) (fun cdv A outer sh H vs Q E hr h => ?_)
  · obtain ⟨e, Ω, ds, d, Ω', _, _, i, q, _⟩ := h
    unfold runD at q
    by_cases hl : ds.length = n
    · rw [← i.length, hl, hn]
    · rw [if_neg hl] at q; cases q
  · obtain ⟨e, Ω, ds, d, Ω', eH, wf, i, q, kk⟩ := h
    unfold runD at q
    by_cases hl : ds.length = n
    · rw [if_pos hl] at q
      cases q1 : s (ds.map Sl.dat ++ List.replicate (m - n) Sl.und) Ω with
      | none => rw [q1] at q; cases q
      | some o =>
        rw [q1] at q
        refine ⟨_, hbody cdv A outer sh H E hr e, e, Ω, _, o, eH, start_rel wf i, by rw [hl, hm]; exact q1, ?_⟩
        cases o with
        | rt d' Ω2 => cases q; exact fun e' v x' w' i' => kk v e' x' w' i'
        | nx ρ' Ω2 => cases q; exact fun e' σ' r' => kk .non e' r'.ext r'.wf (by rw [Is])
        | bk ρ' Ω2 => cases q
        | ct ρ' Ω2 => cases q
    · rw [if_neg hl] at q; cases q
def gCall (f : FDen) (g : ADen) : Den := fun ρ Ω => match g ρ Ω with
  | some (ds, Ω1) => f ds Ω1
  | none => none
section
variable {X : Cx} {C : Cl} {k : Nat} {f : Addr} {fd : FuncData} {ps : List Str} {F : FDen} {n : Str} {p pos : Pos} {x : Expr} {es : List Expr} {ga : ADen}
theorem call_read {K : PySem.W.Frag} {σ : St} {H : Hp} {Q : VK} {E : XK} (hw : tD K C (gCall F ga) σ H Q) : tCall (spD K C F) [] E (tDA K C ga) σ H Q := by
  obtain ⟨e, Ω, ρ, d, Ω', eH, w, rl, q, kk⟩ := hw
  unfold gCall at q
  cases q1 : ga ρ Ω with
  | none => rw [q1] at q; cases q
  | some p1 =>
    obtain ⟨ds, Ω1⟩ := p1
    rw [q1] at q
    refine ⟨e, Ω, ρ, ds, Ω1, eH, w, rl, q1, fun vs e' x' w' i' => ?_⟩
    show spD K C F (vs ++ []) e'.H Q E
    rw [List.append_nil]
    exact ⟨e', Ω1, ds, d, Ω', rfl, w', i', q, fun v e'' x'' w'' i'' => kk v e'' (x'.trans x'') w'' i''⟩
theorem pd_call (G : FnOk X.prog X.w X.K X.mg X.base CX0 k f fd ps (spD X.K C F)) (hr : Room k X.A) (hg : Gl X n) (hm : X.mg n = some (.ref f)) (hk : PySem.W.keepIn X.K (.ref f) = true) (hb : Binds X.K fd ps [])
    (ha : PDA X C (x :: es) ga) (hdb : (n == ("__debug__" : Str)) = false := by decide) (he : starEach (x :: es) X.env = (false, eval x X.env) :: starEach es X.env := by rfl) (hpl : (backTo pos (starEach es X.env)).any (·.1) = false := by rfl) :
    PD X C (.Call (.Name n p) (x :: es) [] pos) (gCall F ga) :=
  pe_imp (pe_call G hr hg hm hk hb .nil pass0 ha hdb he hpl) fun _ _ _ hw => call_read hw
end

/-! ### comprehensions -/
def PDTs (X : Cx) (C : Cl) (ifs : List Expr) (p : TDen) : Prop := PTs X ifs (tDT X.K C p)
def gTrue : TDen := fun _ Ω => some (true, Ω)
theorem pdts_nil {X : Cx} {C : Cl} : PDTs X C [] gTrue := fun pins s σ H Q I hw' => by
  obtain ⟨e, Ω, ρ, b, Ω', eH, w, rl, q, k⟩ := hw'
  subst eH
  cases q
  exact pts_nil pins s σ _ Q I (k e (Ext.refl e) w)
def compD (β : BDen) (p : TDen) (g : Den) : List D → List Sl → List OS → Option (List D × List OS)
  | [], _, Ω => some ([], Ω)
  | d :: ds, ρ, Ω => match β d ρ with
    | some ρ1 => match p ρ1 Ω with
      | some (true, Ω1) => match g ρ1 Ω1 with
        | some (y, Ω2) => match compD β p g ds ρ1 Ω2 with
          | some (ys, Ω3) => some (y :: ys, Ω3)
          | none => none
        | none => none
      | some (false, Ω1) => compD β p g ds ρ1 Ω1
      | none => none
    | none => none
def innerD (μ : List (Option Nat)) (ρ : List Sl) : List Sl := μ.map fun o => match o with
  | none => Sl.und
  | some j => match ρ[j]? with
    | some (.dat d) => .dat d
    | _ => .und
def gComp (μ : List (Option Nat)) (γ : ADen) (β : BDen) (p : TDen) (g : Den) : Den := fun ρ Ω => match γ ρ Ω with
  | some (ds, Ω1) => if ds.length ≤ big then match compD β p g ds (innerD μ ρ) Ω1 with
      | some (ys, Ω2) => some (.lst ys, Ω2)
      | none => none
    else none
  | none => none
section
variable {K : PySem.W.Frag} {C : Cl} {e : E4} {σ : St} {ρ : List Sl} {μ : List (Option Nat)}
theorem inner_dat {j : Nat} {d : D} (h : (innerD μ ρ)[j]? = some (.dat d)) : ∃ i, μ[j]? = some (some i) ∧ ρ[i]? = some (.dat d) := by
  unfold innerD at h
  rw [List.getElem?_map] at h
  cases q : μ[j]? with
  | none => rw [q] at h; cases h
  | some o =>
    rw [q] at h
    cases o with
    | none => cases h
    | some i =>
      cases q2 : ρ[i]? with
      | none => simp [q2] at h
      | some sl =>
        cases sl with
        | dat d' => simp [q2] at h; subst h; exact ⟨i, rfl, q2⟩
        | und => simp [q2] at h
        | own _ => simp [q2] at h
theorem inner_own {j : Nat} {ds : List D} : (innerD μ ρ)[j]? ≠ some (.own ds) := fun h => by
  unfold innerD at h
  rw [List.getElem?_map] at h
  cases q : μ[j]? with
  | none => rw [q] at h; cases h
  | some o =>
    rw [q] at h
    cases o with
    | none => cases h
    | some i =>
      cases q2 : ρ[i]? with
      | none => simp [q2] at h
      | some sl => cases sl <;> simp [q2] at h
theorem inner_rel (r : RelE K e σ ρ) : RelE K e (inner μ σ) (innerD μ ρ) := by
  refine ⟨by simp [inner, innerD], fun j d h => ?_, fun j ds h => absurd h inner_own, fun j k ds es a h => absurd h inner_own⟩
  obtain ⟨i, h1, h2⟩ := inner_dat h
  obtain ⟨v, e1, iv⟩ := r.dat i d h2
  refine ⟨v, ?_, iv⟩
  unfold inner
  rw [List.getElem?_map, h1]
  show some ((σ[i]?).join) = _
  rw [e1]
  rfl
end
section
variable {K : PySem.W.Frag} {C : Cl} {γ : ADen} {β : BDen} {p : TDen} {g : Den} {μ : List (Option Nat)}
/-- within a comprehension: the list so far, what is still to come -/
structure CI (K : PySem.W.Frag) (C : Cl) (β : BDen) (p : TDen) (g : Den) (ds : List D) (a : Addr) (ysAll : List D) (Ωf : List OS) (e' : E4) (i : Nat) (σ' : St) (e2 : E4) (Ω2 : List OS) (ρ2 : List Sl) (vs : List V) (ys0 ys1 : List D) : Prop where
  w : Wf K C e2 Ω2
  r : RelE K e2 σ' ρ2
  no : ∀ (j : Nat) (es : List D), ρ2[j]? ≠ some (.own es)
  ha : e2.H a = some (.lst vs)
  hF : e2.F a = none
  hA : ¬ e2.A a
  iy : IsL K e2.α e2.F ys0 vs
  x : Ext e' e2
  q : compD β p g (ds.drop i) ρ2 Ω2 = some (ys1, Ωf)
  ey : ys0 ++ ys1 = ysAll
  hy : ys0.length ≤ i
def CInv (K : PySem.W.Frag) (C : Cl) (β : BDen) (p : TDen) (g : Den) (ds : List D) (a : Addr) (ysAll : List D) (Ωf : List OS) (e' : E4) (i : Nat) (σ' : St) (H' : Hp) : Prop :=
  ∃ e2 Ω2 ρ2 vs ys0 ys1, e2.H = H' ∧ CI K C β p g ds a ysAll Ωf e' i σ' e2 Ω2 ρ2 vs ys0 ys1
theorem comp_gen {σ : St} {H : Hp} {Q : VK} {e : E4} {Ω Ω1 Ωf : List OS} {ρ : List Sl} {ds ysAll : List D} (eH : e.H = H) (w : Wf K C e Ω) (rl : RelE K e σ ρ) (q1 : γ ρ Ω = some (ds, Ω1)) (hbig : ds.length ≤ big) (q2 : compD β p g ds (innerD μ ρ) Ω1 = some (ysAll, Ωf))
    (fin : ∀ a vs e2, Ext e e2 → Wf K C e2 Ωf → e2.H a = some (.lst vs) → e2.F a = none → ¬ e2.A a → e.H a = none → IsL K e2.α e2.F ysAll vs → Q (.ref a) e2.H) : tComp μ (tDI K C γ) (tDG K C β) (tDT K C p) (tD K C g) σ H Q := by
  refine ⟨e, Ω, ρ, ds, Ω1, eH, w, rl, q1, fun e' J x' w' wk a ha => ?_⟩
  refine ⟨fun i m σ' H' => m = ds.length - i ∧ i ≤ ds.length ∧ CInv K C β p g ds a ysAll Ωf e' i σ' H', ⟨ds.length, by simp, Nat.zero_le _, ⟨e'.α, e'.F, e'.A, upd e'.H a (.lst [])⟩, Ω1, innerD μ ρ, [], [], ysAll, rfl, ⟨?_, ?_, fun j es => inner_own, upd_same, w'.nF ha, fun z => (w'.ah a z).1 ha, .nil, ?_, by simpa using q2, rfl, Nat.zero_le _⟩⟩, ?_⟩
  · refine ⟨fun b u hb => ?_, w'.fa, fun b hb => ?_, w'.ol, w'.nd, fun n b u h1 h2 => ⟨(w'.ob n b u h1 h2).1, (w'.ob n b u h1 h2).2.keep (fun z hz => ?_) (Same.refl _) ⟨[], by simp⟩⟩⟩
    · show upd e'.H a _ b = some u
      rw [upd_ne (ne_of_none (w'.fh b u hb) ha)]; exact w'.fh b u hb
    · show upd e'.H a _ b ≠ none ∧ ∀ xs, upd e'.H a _ b ≠ some (.tup xs)
      rw [upd_ne (fun z => (w'.ah b hb).1 (by rw [z]; exact ha))]; exact w'.ah b hb
    · show upd e'.H a _ b = some z
      rw [upd_ne (ne_of_none hz ha)]; exact hz
  · have r1 := inner_rel (μ := μ) (rl.ext x')
    exact ⟨r1.len, r1.dat, fun j es h => absurd h inner_own, r1.sep⟩
  · refine ⟨fun b o' u hb => by show upd e'.H a _ b = some (.frz o' u); rw [upd_ne (ne_of_none hb ha)]; exact hb, fun b u hb _ => ?_, fun b u hb => ⟨u, ?_⟩, Same.refl _, fun b u hb => .inl hb, fun b hb => .inl hb, fun b hb => hb, [], by simp⟩
    · show upd e'.H a _ b = some u
      rw [upd_ne (ne_of_none hb ha)]; exact hb
    · show upd e'.H a _ b = some u
      rw [upd_ne (ne_of_none hb ha)]; exact hb
  · rintro i m σ2 H2 ⟨rfl, hil, e2, Ω2, ρ2, vs, ys0, ys1, rfl, ⟨w2, r2, no2, ha2, hF2, hA2, iy, x2, q3, ey, hy⟩⟩
    obtain ⟨stop, go⟩ := wk i e2 x2.ff x2.al w2.fh
    by_cases hlt : i < ds.length
    · have hd : ds[i]? = some ds[i] := List.getElem?_eq_getElem hlt
      obtain ⟨g1, y1⟩ := go _ hd
      have edrop : ds.drop i = ds[i] :: ds.drop (i + 1) := List.drop_eq_getElem_cons hlt
      rw [edrop] at q3
      refine .inr ⟨g1, fun σ' H' => i + 1 ≤ ds.length ∧ CInv K C β p g ds a ysAll Ωf e' (i + 1) σ' H', fun σ' H' hN => ⟨ds.length - (i + 1), by omega, rfl, hN⟩, fun x H' hyl => ?_⟩
      obtain ⟨e2', rfl, ix, up⟩ := y1 x H' hyl
      obtain ⟨xx, ww⟩ := up C Ω2 w2
      obtain ⟨hh', hf', ha'⟩ := xx.keepOwn ha2 hF2 hA2
      replace r2 := r2.ext xx
      replace iy := iy.ext xx
      replace x2 := x2.trans xx
      clear y1 g1 stop go w2 ha2 hF2 hA2
      revert r2 iy x2 ww hh' hf' ha' ix
      generalize e2' = e2
      intro ix w2 ha2 hF2 hA2 r2 iy x2
      unfold compD at q3
      cases q4 : β ds[i] ρ2 with
      | none => rw [q4] at q3; cases q3
      | some ρ3 =>
        rw [q4] at q3
        dsimp only at q3
        refine ⟨e2, Ω2, ρ2, _, ρ3, rfl, w2, r2, ix, q4, fun σ3 r3 o3 => ?_⟩
        have no3 : ∀ (j : Nat) (es : List D), ρ3[j]? ≠ some (.own es) := fun j es h => no2 j es (o3 j es h).1
        cases q5 : p ρ3 Ω2 with
        | none => rw [q5] at q3; cases q3
        | some p5 =>
          obtain ⟨b, Ω3⟩ := p5
          rw [q5] at q3
          refine ⟨e2, Ω2, ρ3, b, Ω3, rfl, w2, r3, q5, fun e3 x3 w3 => ?_⟩
          cases b with
          | false =>
            refine iteF ?_
            obtain ⟨z1, z2, z3⟩ := x3.keepOwn ha2 hF2 hA2
            exact ⟨hlt, e3, Ω3, ρ3, vs, ys0, ys1, rfl, ⟨w3, r3.ext x3, no3, z1, z2, z3, iy.ext x3, x2.trans x3, q3, ey, Nat.le_succ_of_le hy⟩⟩
          | true =>
            refine iteT ?_
            dsimp only at q3
            cases q6 : g ρ3 Ω3 with
            | none => rw [q6] at q3; cases q3
            | some p6 =>
              obtain ⟨y, Ω4⟩ := p6
              rw [q6] at q3
              dsimp only at q3
              cases q7 : compD β p g (ds.drop (i + 1)) ρ3 Ω4 with
              | none => rw [q7] at q3; cases q3
              | some p7 =>
                obtain ⟨ys2, Ω5⟩ := p7
                rw [q7] at q3
                cases q3
                refine ⟨e3, Ω3, ρ3, y, Ω4, rfl, w3, r3.ext x3, q6, fun v e4 x4 w4 i4 => ?_⟩
                obtain ⟨z1, z2, z3⟩ := (x3.trans x4).keepOwn ha2 hF2 hA2
                have x24 := x3.trans x4
                refine ⟨vs, z1, by rw [← iy.length]; exact big_lt (by omega), hlt, ⟨e4.α, e4.F, e4.A, upd e4.H a (.lst (vs ++ [v]))⟩, Ω4, ρ3, _, ys0 ++ [y], ys2, rfl, ⟨⟨fun b u hb => ?_, w4.fa, fun b hb => ?_, w4.ol, w4.nd, fun n b u h1 h2 => ⟨(w4.ob n b u h1 h2).1, (w4.ob n b u h1 h2).2.keep (fun z hz => ?_) (Same.refl _) ⟨[], by simp⟩⟩⟩,
                  ⟨((r3.ext x3).ext x4).len, ((r3.ext x3).ext x4).dat, fun j es h => absurd h (no3 j es), ((r3.ext x3).ext x4).sep⟩, no3, upd_same, z2, z3, (iy.ext x24).append (.cons i4 .nil), ⟨fun b o' u hb => by show upd e4.H a _ b = some (.frz o' u); rw [upd_ne (ne_of_none hb ha)]; exact (x2.trans x24).fz b o' u hb, fun b u hb hn => ?_, fun b u hb => ?_, (x2.trans x24).ff, (x2.trans x24).fn, (x2.trans x24).an, (x2.trans x24).aa, (x2.trans x24).al⟩, q7, by rw [← ey]; simp, by simp; omega⟩⟩
                · show upd e4.H a _ b = some u
                  rw [upd_ne (fun z => by subst z; rw [z2] at hb; cases hb)]; exact w4.fh b u hb
                · show upd e4.H a _ b ≠ none ∧ ∀ xs, upd e4.H a _ b ≠ some (.tup xs)
                  rw [upd_ne (fun z => z3 (by rw [← z]; exact hb))]; exact w4.ah b hb
                · show upd e4.H a _ b = some z
                  rw [upd_ne (fun y => z3 (by rw [← y]; exact (w4.ob n b u h1 h2).1))]; exact hz
                · show upd e4.H a _ b = some u
                  rw [upd_ne (ne_of_none hb ha)]; exact (x2.trans x24).hk b u hb hn
                · obtain ⟨u', z⟩ := (x2.trans x24).dm b u hb
                  exact ⟨u', by show upd e4.H a _ b = some u'; rw [upd_ne (ne_of_none hb ha)]; exact z⟩
    · have ei : i = ds.length := by omega
      subst ei
      rw [List.drop_length] at q3
      cases q3
      rw [List.append_nil] at ey
      subst ey
      refine .inl ⟨stop rfl, ?_⟩
      exact fin a vs e2 (x'.trans x2) w2 ha2 hF2 hA2 (x'.back ha) iy
theorem comp_read {σ : St} {H : Hp} {Q : VK} (hw : tD K C (gComp μ γ β p g) σ H Q) : tComp μ (tDI K C γ) (tDG K C β) (tDT K C p) (tD K C g) σ H Q := by
  obtain ⟨e, Ω, ρ, d, Ωf, eH, w, rl, q, kk⟩ := hw
  unfold gComp at q
  cases q1 : γ ρ Ω with
  | none => rw [q1] at q; cases q
  | some p1 =>
    obtain ⟨ds, Ω1⟩ := p1
    rw [q1] at q
    dsimp only at q
    split at q
    · rename_i hbig
      cases q2 : compD β p g ds (innerD μ ρ) Ω1 with
      | none => rw [q2] at q; cases q
      | some p2 =>
        obtain ⟨ysAll, Ω2⟩ := p2
        rw [q2] at q
        cases q
        refine comp_gen eH w rl q1 hbig q2 fun a vs e2 x2 w2 ha2 hF2 hA2 ha iy => ?_
        have ff : Same e2.F (upd e2.F a (.lst vs)) := fun b o hb => by rw [upd_ne (ne_of_none hb hF2)]; exact hb
        refine kk (.ref a) ⟨e2.α, upd e2.F a (.lst vs), e2.A, e2.H⟩ ⟨x2.fz, x2.hk, x2.dm, x2.ff.trans ff, fun b u hb => ?_, x2.an, x2.aa, x2.al⟩ ⟨fun b u hb => ?_, fun b hb => ?_, w2.ah, w2.ol, w2.nd, fun n b u h1 h2 => ⟨(w2.ob n b u h1 h2).1, (w2.ob n b u h1 h2).2.keep (fun z hz => hz) ff ⟨[], by simp⟩⟩⟩ ?_
        · have hb : upd e2.F a (.lst vs) b = some u := hb
          by_cases hba : b = a
          · subst hba; exact .inr (.inl ha)
          · rw [upd_ne hba] at hb; exact x2.fn b u hb
        · have hb : upd e2.F a (.lst vs) b = some u := hb
          by_cases hba : b = a
          · subst hba; rw [upd_same] at hb; cases hb; exact ha2
          · rw [upd_ne hba] at hb; exact w2.fh b u hb
        · show upd e2.F a _ b = none
          rw [upd_ne (fun z => hA2 (by rw [← z]; exact hb))]; exact w2.fa b hb
        · rw [Is]
          exact ⟨a, vs, rfl, upd_same, IsL.mono ff ⟨[], by simp⟩ _ iy⟩
    · cases q
end
section
variable {X : Cx} {C : Cl} {tg iter elt : Expr} {ifs : List Expr} {scope : Scope} {pos : Pos} {N : List Str} {μ : List (Option Nat)} {γ : ADen} {β : BDen} {p : TDen} {g : Den}
theorem pd_comp (hc : X.calm = true) (hcell : ∀ y ∈ scope.names, y.2 ≠ .cell) (hkind : scope.kind = .function) (hnames : ∀ y ∈ scope.names, y.2 = .local → scope.names.lookup y.1 = some .local)
    (hfree : ∀ y ∈ scope.names, y.2 = .free → X.env.kindOf y.1 = some .cell ∨ X.env.kindOf y.1 = some .free)
    (hhas : ∀ x, ((relabel scope X.env).names.lookup x = some .cell ∨ (relabel scope X.env).names.lookup x = some .free) → (x, NameKind.free) ∈ scope.names)
    (hμ : muOk X.N X.env.scope N (relabel scope X.env) μ = true) (hi : PDI X C tg iter γ)
    (hg : ∀ fp A s H, PDG (cxComp X N scope (clos X.env.cells scope.names []) A fp s H) C tg β) (ht : ∀ fp A s H, PDTs (cxComp X N scope (clos X.env.cells scope.names []) A fp s H) C ifs p) (he : ∀ fp A s H, PD (cxComp X N scope (clos X.env.cells scope.names []) A fp s H) C elt g)
    (hs : ∀ x, foldedSetIterable iter X.env x = pure x := by intro _; rfl) : PD X C (.ListComp elt [⟨tg, iter, ifs, 0⟩] scope pos) (gComp μ γ β p g) :=
  pe_imp (pe_comp (g := tDG X.K C β) (tt := tDT X.K C p) (te := tD X.K C g) hc hcell hkind hnames hfree hhas hμ hi hg ht he hs) fun _ _ _ hw => comp_read hw
end
end DL
set_option Elab.async false
set_option linter.all false
set_option maxRecDepth 100000
namespace DL
open PySem PySem.Spec PyProof.Rows L2

/-! ### a def of the text, as its callers need it -/
structure Fn (P : Program) (w : World) (K : PySem.W.Frag) (mg : Str → Option Value) (base : Heap) (C : Cl) (k : Nat) (n : Str) (F : FDen) : Prop where
  ex : ∃ f fd ps, mg n = some (.ref f) ∧ PySem.W.keepIn K (.ref f) = true ∧ Binds K fd ps [] ∧ FnOk P w K mg base CX0 k f fd ps (spD K C F)
/-- the def st stands at the top under its name -/
structure TF (K : PySem.W.Frag) (mg : Str → Option Value) (n : Str) (st : Stmt) : Prop where
  ex : ∃ f fd, mg n = some (.ref f) ∧ Fun K n n st f fd
theorem fn_F {P : Program} {w : World} {K : PySem.W.Frag} {mg : Str → Option Value} {base : Heap} {C : Cl} {x : Str} {st : Stmt} {N ps : List Str} {k n m : Nat} {s : SDen} (T : TF K mg x st) (S : FnScope N ps (defScope st)) (hn : ps.length = n) (hm : N.length = m)
    (hb : ∀ (kV doc pm : Value) (an : Option Addr) (cdv ct : Value) (us : List Value), us.length = ps.length → bindArgs (PySem.W.fnOf x x (defArgs st) (defBody st) (defScope st) .none kV doc pm an cdv ct) ⟨us, []⟩ = pure (ps.zip us))
    (hbody : ∀ (f : Addr) (cdv : Value) (A : Around) (outer : List Env) (sh : Shared) (H : Hp) (E : XK), Room k (A.deeper (envOfC x (defScope st) sh.heap.objs.size f cdv)) →
      PDB (cxOf CX0 P w K mg base N x (defScope st) f cdv A outer sh H E).nox C (defBody st) s) : Fn P w K mg base C (k + 1) x (runD n m s) := by
  obtain ⟨f, fd, hm', F⟩ := T.ex
  exact ⟨f, fd, ps, hm', F.kp, F.binds hb, fn_D F S hn hm (hbody f)⟩
section
variable {X : Cx} {C : Cl} {k : Nat} {F : FDen} {n : Str} {p pos : Pos} {x : Expr} {es : List Expr} {ga : ADen}
theorem pd_callF (G : Fn X.prog X.w X.K X.mg X.base C k n F) (hr : Room k X.A) (hg : Gl X n)
    (ha : PDA X C (x :: es) ga) (hdb : (n == ("__debug__" : Str)) = false := by decide) (he : starEach (x :: es) X.env = (false, eval x X.env) :: starEach es X.env := by rfl) (hpl : (backTo pos (starEach es X.env)).any (·.1) = false := by rfl) :
    PD X C (.Call (.Name n p) (x :: es) [] pos) (gCall F ga) := by
  obtain ⟨f, fd, ps, hm, hk, hb, ok⟩ := G.ex
  exact pd_call ok hr hg hm hk hb ha hdb he hpl
end
/-! ### comprehensions: one look -/
def relabelS (scope osc : Scope) : Scope :=
  { scope with names := scope.names.map fun (n, k) => if (k == .free && osc.kind == .function && osc.names.lookup n == some .cell) then (n, .cell) else (n, k) }
def compOk (oN : List Str) (osc : Scope) (N : List Str) (scope : Scope) (μ : List (Option Nat)) : Bool :=
  scope.names.all (fun y => decide (y.2 ≠ .cell)) && decide (scope.kind = .function) && scope.names.all (fun y => !decide (y.2 = .local) || decide (scope.names.lookup y.1 = some .local)) &&
    scope.names.all (fun y => !decide (y.2 = .free) || decide (osc.names.lookup y.1 = some .cell)) &&
    (relabelS scope osc).names.all (fun y => !(decide (y.2 = .cell) || decide (y.2 = .free)) || decide ((y.1, NameKind.free) ∈ scope.names)) && muOk oN osc N (relabelS scope osc) μ
structure CompOk (X : Cx) (N : List Str) (scope : Scope) (μ : List (Option Nat)) : Prop where
  cell : ∀ y ∈ scope.names, y.2 ≠ .cell
  kind : scope.kind = .function
  names : ∀ y ∈ scope.names, y.2 = .local → scope.names.lookup y.1 = some .local
  free : ∀ y ∈ scope.names, y.2 = .free → X.env.kindOf y.1 = some .cell ∨ X.env.kindOf y.1 = some .free
  has : ∀ x, ((relabel scope X.env).names.lookup x = some .cell ∨ (relabel scope X.env).names.lookup x = some .free) → (x, NameKind.free) ∈ scope.names
  mu : muOk X.N X.env.scope N (relabel scope X.env) μ = true
theorem compOk_of {X : Cx} {oN : List Str} {osc : Scope} {N : List Str} {scope : Scope} {μ : List (Option Nat)} (hN : X.N = oN) (hs : X.env.scope = osc) (h : compOk oN osc N scope μ = true) : CompOk X N scope μ := by
  subst hN hs
  unfold compOk at h
  simp only [Bool.and_eq_true] at h
  obtain ⟨⟨⟨⟨⟨h1, h2⟩, h3⟩, h4⟩, h5⟩, h6⟩ := h
  refine ⟨fun y hy => of_decide_eq_true (List.all_eq_true.mp h1 y hy), of_decide_eq_true h2, fun y hy e => ?_, fun y hy e => .inl ?_, fun x hx => ?_, h6⟩
  · have := List.all_eq_true.mp h3 y hy
    simp only [Bool.or_eq_true, Bool.not_eq_true', decide_eq_false_iff_not, decide_eq_true_eq] at this
    exact this.resolve_left fun z => z e
  · have := List.all_eq_true.mp h4 y hy
    simp only [Bool.or_eq_true, Bool.not_eq_true', decide_eq_false_iff_not, decide_eq_true_eq] at this
    exact this.resolve_left fun z => z e
  · have hx : (relabelS scope X.env.scope).names.lookup x = some .cell ∨ (relabelS scope X.env.scope).names.lookup x = some .free := hx
    have q : ∀ k : NameKind, (k = .cell ∨ k = .free) → (relabelS scope X.env.scope).names.lookup x = some k → (x, NameKind.free) ∈ scope.names := fun k hk hl => by
      have := List.all_eq_true.mp h5 (x, k) (PySem.mem_of_lookup hl)
      simp only [Bool.or_eq_true, Bool.not_eq_true', Bool.or_eq_false_iff, decide_eq_false_iff_not, decide_eq_true_eq] at this
      rcases this with ⟨a, b⟩ | c
      · exact (hk.elim a b).elim
      · exact c
    rcases hx with hx | hx
    · exact q _ (.inl rfl) hx
    · exact q _ (.inr rfl) hx
section
variable {X : Cx} {C : Cl} {tg iter elt : Expr} {ifs : List Expr} {scope : Scope} {pos : Pos} {N : List Str} {μ : List (Option Nat)} {γ : ADen} {β : BDen} {p : TDen} {g : Den}
theorem pd_compN (hc : X.calm = true) (ok : CompOk X N scope μ) (hi : PDI X C tg iter γ)
    (hg : ∀ fp A s H, PDG (cxComp X N scope (clos X.env.cells scope.names []) A fp s H) C tg β) (ht : ∀ fp A s H, PDTs (cxComp X N scope (clos X.env.cells scope.names []) A fp s H) C ifs p) (he : ∀ fp A s H, PD (cxComp X N scope (clos X.env.cells scope.names []) A fp s H) C elt g)
    (hs : ∀ x, foldedSetIterable iter X.env x = pure x := by intro _; rfl) : PD X C (.ListComp elt [⟨tg, iter, ifs, 0⟩] scope pos) (gComp μ γ β p g) :=
  pd_comp hc ok.cell ok.kind ok.names ok.free ok.has ok.mu hi hg ht he hs
end
/-! ### more of one's own lists; -x -/
section
variable {X : Cx} {C : Cl} {x b : Expr} {g : Den} {pos : Pos}
theorem pds_app {i : Nat} {n : Str} {p ap cp : Pos} (hv : PE X (.Name n p) (tVar i)) (he : PD X C x g)
    (hbase : attributeBase (.Name n p) "append" X.env (eval (.Name n p) X.env) = eval (.Name n p) X.env := by rfl)
    (hline : (ap.endLine == cp.line) = true := by rfl) (hs1 : starEach [x] X.env = (false, eval x X.env) :: starEach [] X.env := by rfl)
    (hfew : ((backTo cp (starEach [x] X.env)).all (fun x => !x.1) && (backToKw cp (keywordEach [] X.env)).all (fun x => x.1.isSome)
      && decide ([x].length + ([] : List Keyword).length + (if ([] : List Keyword).isEmpty then 0 else 1) < 30)) = true := by rfl)
    (hpl : (backTo cp (starEach [] X.env)).any (·.1) = false := by rfl)
    (hs : swapsWith (.Call (.Attribute (.Name n p) "append" ap) [x] [] cp) none pos.line X.env = pure false := by rfl) :
    PDS X C (.Expr (.Call (.Attribute (.Name n p) "append" ap) [x] [] cp) pos) (sApp i g) := fun e₀ =>
  ps_imp (ps_expr (pe_bm PySem.F.plainAttrs_list PySem.F.slot_list_append PySem.F.type_list_append mt_append hv (pa_cons he pa_nil hs1) hbase hfew hline hs1 hpl) hs) fun Dn σ H hw => app_read hw
def gNeg (g : Den) : Den := fun ρ Ω => match g ρ Ω with
  | some (.int i, Ω') => some (.int (-i), Ω')
  | _ => none
theorem pd_neg (h : PD X C x g) : PD X C (.UnaryOp .USub x pos) (gNeg g) := pe_imp (pe_un un_neg h) fun σ H Q hw' => by
  obtain ⟨e, Ω, ρ, d, Ω', eH, w, rl, q, kk⟩ := hw'
  unfold gNeg at q
  cases q1 : g ρ Ω with
  | none => rw [q1] at q; cases q
  | some p1 =>
    obtain ⟨d1, Ω1⟩ := p1
    rw [q1] at q
    refine ⟨e, Ω, ρ, d1, Ω1, eH, w, rl, q1, fun v e' x' w' i' => ?_⟩
    cases d1 with
    | int i =>
      rw [Is] at i'
      cases q
      exact ⟨i, i', kk _ e' x' w' (by rw [Is])⟩
    | _ => cases q
end
abbrev C0 : Cl := fun _ => none
end DL
set_option Elab.async false
set_option linter.all false
set_option maxRecDepth 100000
/-! what each word is worth at a place -/
namespace DL
open PySem
section
variable (ρ : List Sl) (Ω : List OS)
@[simp] theorem ap_var (i : Nat) : gVar i ρ Ω = match ρ[i]? with | some (.dat d) => some (d, Ω) | _ => none := (rfl)
@[simp] theorem ap_c (d : D) : gC d ρ Ω = some (d, Ω) := (rfl)
@[simp] theorem ap_op (r : D → D → Option D) (f g : Den) : gOp r f g ρ Ω = match f ρ Ω with
  | some (x, Ω₁) => (match g ρ Ω₁ with
    | some (y, Ω₂) => (match r x y with
      | some z => some (z, Ω₂)
      | none => none)
    | none => none)
  | none => none := (rfl)
@[simp] theorem ap_T (g : Den) : gT g ρ Ω = match g ρ Ω with | some (.bl b, Ω') => some (b, Ω') | _ => none := (rfl)
@[simp] theorem ap_andT (p q : TDen) : gAndT p q ρ Ω = match p ρ Ω with | some (true, Ω') => q ρ Ω' | some (false, Ω') => some (false, Ω') | none => none := (rfl)
@[simp] theorem ap_orT (p q : TDen) : gOrT p q ρ Ω = match p ρ Ω with | some (true, Ω') => some (true, Ω') | some (false, Ω') => q ρ Ω' | none => none := (rfl)
@[simp] theorem ap_notT (p : TDen) : gNotT p ρ Ω = match p ρ Ω with | some (k, Ω') => some (!k, Ω') | none => none := (rfl)
@[simp] theorem ap_andV (f g : Den) : gAndV f g ρ Ω = match f ρ Ω with | some (.bl true, Ω') => g ρ Ω' | some (.bl false, Ω') => some (.bl false, Ω') | _ => none := (rfl)
@[simp] theorem ap_nil : gNil ρ Ω = some ([], Ω) := (rfl)
@[simp] theorem ap_cons (f : Den) (g : ADen) : gCons f g ρ Ω = match f ρ Ω with
  | some (d, Ω1) => (match g ρ Ω1 with | some (ds, Ω2) => some (d :: ds, Ω2) | none => none)
  | none => none := (rfl)
@[simp] theorem ap_tup (g : ADen) : gTup g ρ Ω = match g ρ Ω with | some (ds, Ω') => (if ds.length ≤ 100000 then some (.tup ds, Ω') else none) | none => none := (rfl)
@[simp] theorem ap_lst (g : ADen) : gLst g ρ Ω = match g ρ Ω with | some (ds, Ω') => (if ds.length ≤ 100000 then some (.lst ds, Ω') else none) | none => none := (rfl)
@[simp] theorem ap_CB (r : List D → Option D) (g : ADen) : gCB r g ρ Ω = match g ρ Ω with | some (ds, Ω1) => (match r ds with | some z => some (z, Ω1) | none => none) | none => none := (rfl)
@[simp] theorem ap_un (r : D → Option D) (g : Den) : gUn r g ρ Ω = match g ρ Ω with | some (d, Ω1) => (match r d with | some z => some (z, Ω1) | none => none) | none => none := (rfl)
@[simp] theorem ap_neg (g : Den) : gNeg g ρ Ω = match g ρ Ω with | some (.int i, Ω') => some (.int (-i), Ω') | _ => none := (rfl)
@[simp] theorem ap_call (f : FDen) (g : ADen) : gCall f g ρ Ω = match g ρ Ω with | some (ds, Ω1) => f ds Ω1 | none => none := (rfl)
@[simp] theorem ap_seq (g : Den) : gSeq g ρ Ω = match g ρ Ω with | some (d, Ω') => (match seqD d with | some ds => some (ds, Ω') | none => none) | none => none := (rfl)
@[simp] theorem ap_rng (r : List D → Option (List D)) (g : ADen) : gRng r g ρ Ω = match g ρ Ω with | some (ds, Ω') => (match r ds with | some es => some (es, Ω') | none => none) | none => none := (rfl)
@[simp] theorem ap_comp (μ : List (Option Nat)) (γ : ADen) (β : BDen) (p : TDen) (g : Den) : gComp μ γ β p g ρ Ω = match γ ρ Ω with
  | some (ds, Ω1) => (if ds.length ≤ 100000 then (match compD β p g ds (innerD μ ρ) Ω1 with | some (ys, Ω2) => some (.lst ys, Ω2) | none => none) else none)
  | none => none := (rfl)
@[simp] theorem ap_true : gTrue ρ Ω = some (true, Ω) := (rfl)
@[simp] theorem ap_next : sNext ρ Ω = some (.nx ρ Ω) := (rfl)
@[simp] theorem ap_sSeq (s t : SDen) : sSeq s t ρ Ω = match s ρ Ω with | some (.nx ρ' Ω') => t ρ' Ω' | r => r := (rfl)
@[simp] theorem ap_ghost (γ : List Sl → Option (List Sl)) (s : SDen) : sGhost γ s ρ Ω = match γ ρ with | some ρ' => s ρ' Ω | none => none := (rfl)
@[simp] theorem ap_set (i : Nat) (g : Den) : sSet i g ρ Ω = match g ρ Ω with | some (d, Ω') => some (.nx (ρ.set i (.dat d)) Ω') | none => none := (rfl)
@[simp] theorem ap_ret (g : Den) : sRet g ρ Ω = match g ρ Ω with | some (d, Ω') => some (.rt d Ω') | none => none := (rfl)
@[simp] theorem ap_sIf (p : TDen) (s t : SDen) : sIf p s t ρ Ω = match p ρ Ω with | some (true, Ω') => s ρ Ω' | some (false, Ω') => t ρ Ω' | none => none := (rfl)
@[simp] theorem ap_own (i : Nat) (g : ADen) : sOwn i g ρ Ω = match g ρ Ω with | some (ds, Ω') => (if ds.length ≤ 100000 then some (.nx (ρ.set i (.own ds)) Ω') else none) | none => none := (rfl)
@[simp] theorem ap_app (i : Nat) (g : Den) : sApp i g ρ Ω = match g ρ Ω with
  | some (d, Ω') => (match ρ[i]? with | some (.own ds) => (if ds.length < 100000 then some (.nx (ρ.set i (.own (ds ++ [d]))) Ω') else none) | _ => none)
  | none => none := (rfl)
@[simp] theorem ap_for (γ : ADen) (β : BDen) (s : SDen) : sFor γ β s ρ Ω = match γ ρ Ω with | some (ds, Ω') => forD β s ds ρ Ω' | none => none := (rfl)
@[simp] theorem ap_bName (i : Nat) (d : D) : bName i d ρ = some (ρ.set i (.dat d)) := (rfl)
@[simp] theorem ap_bTup (is : List Nat) (ds : List D) : bTup is (.tup ds) ρ = bNames is ds ρ := (rfl)
@[simp] theorem for_nil (β : BDen) (s : SDen) : forD β s [] ρ Ω = some (.nx ρ Ω) := (rfl)
theorem for_cons (β : BDen) (s : SDen) (d : D) (ds : List D) : forD β s (d :: ds) ρ Ω = match β d ρ with
    | some ρ1 => (match s ρ1 Ω with
      | some (.nx ρ' Ω') => forD β s ds ρ' Ω'
      | some (.ct ρ' Ω') => forD β s ds ρ' Ω'
      | some (.bk ρ' Ω') => some (.nx ρ' Ω')
      | some (.rt z Ω') => some (.rt z Ω')
      | none => none)
    | none => none := (rfl)
@[simp] theorem comp_nil (β : BDen) (p : TDen) (g : Den) : compD β p g [] ρ Ω = some ([], Ω) := (rfl)
theorem comp_cons (β : BDen) (p : TDen) (g : Den) (d : D) (ds : List D) : compD β p g (d :: ds) ρ Ω = match β d ρ with
    | some ρ1 => (match p ρ1 Ω with
      | some (true, Ω1) => (match g ρ1 Ω1 with
        | some (y, Ω2) => (match compD β p g ds ρ1 Ω2 with
          | some (ys, Ω3) => some (y :: ys, Ω3)
          | none => none)
        | none => none)
      | some (false, Ω1) => compD β p g ds ρ1 Ω1
      | none => none)
    | none => none := (rfl)
theorem ap_run (n m : Nat) (s : SDen) (ds : List D) : runD n m s ds Ω = if ds.length = n then (match s (ds.map Sl.dat ++ List.replicate (m - n) Sl.und) Ω with
    | some (.rt d Ω') => some (d, Ω')
    | some (.nx _ Ω') => some (.non, Ω')
    | _ => none)
  else none := (rfl)
@[simp] theorem ap_dI (c : Int → Int → Bool) (f : Int → Int → Int) (i j : Int) : dI c f (.int i) (.int j) = if c i j = true then some (.int (f i j)) else none := (rfl)
@[simp] theorem ap_dB (f : Int → Int → Bool) (i j : Int) : dB f (.int i) (.int j) = some (.bl (f i j)) := (rfl)
@[simp] theorem add_int (i j : Int) : addD (.int i) (.int j) = some (.int (i + j)) := (rfl)
@[simp] theorem add_lst (xs ys : List D) : addD (.lst xs) (.lst ys) = if xs.length + ys.length ≤ 100000 then some (.lst (xs ++ ys)) else none := (rfl)
@[simp] theorem ix_lst (xs : List D) (i : Int) : ixD (.lst xs) (.int i) = L2.atI xs i := (rfl)
@[simp] theorem ix_tup (xs : List D) (i : Int) : ixD (.tup xs) (.int i) = L2.atI xs i := (rfl)
@[simp] theorem ix_scr (ns : List Int) (i : Int) : ixD (.scr ns) (.int i) = (L2.atI ns i).map D.int := (rfl)
@[simp] theorem len_lst (xs : List D) : lenD [.lst xs] = some (.int xs.length) := (rfl)
@[simp] theorem len_tup (xs : List D) : lenD [.tup xs] = some (.int xs.length) := (rfl)
@[simp] theorem len_scr (ns : List Int) : lenD [.scr ns] = some (.int ns.length) := (rfl)
@[simp] theorem min_2 (i j : Int) : min2D [.int i, .int j] = some (.int (if j < i then j else i)) := (rfl)
@[simp] theorem seq_lst (xs : List D) : seqD (.lst xs) = some xs := (rfl)
@[simp] theorem seq_scr (ns : List Int) : seqD (.scr ns) = some (ns.map D.int) := (rfl)
theorem rng_1 {j : Int} (h0 : -1000000 ≤ j) (h : j ≤ 1000000) : rng1 [.int j] = some (upD 0 j.toNat) := grd_pos (by omega)
theorem rng_2 {i j : Int} (h0 : -1000000 ≤ i) (h : i ≤ 1000000) (h1 : -1000000 ≤ j) (h2 : j ≤ 1000000) : rng2 [.int i, .int j] = some (upD i (j - i).toNat) := grd_pos (by omega)
end
theorem run_rt {n m : Nat} {s : SDen} {ds : List D} {Ω Ω' : List OS} {d : D} (hl : ds.length = n) (h : s (ds.map Sl.dat ++ List.replicate (m - n) Sl.und) Ω = some (.rt d Ω')) : runD n m s ds Ω = some (d, Ω') := by
  rw [ap_run, if_pos hl, h]
theorem seq_nx {s t : SDen} {ρ ρ' : List Sl} {Ω Ω' : List OS} (h : s ρ Ω = some (.nx ρ' Ω')) : sSeq s t ρ Ω = t ρ' Ω' := by rw [ap_sSeq, h]
theorem seq_rt {s t : SDen} {ρ : List Sl} {Ω Ω' : List OS} {d : D} (h : s ρ Ω = some (.rt d Ω')) : sSeq s t ρ Ω = some (.rt d Ω') := by rw [ap_sSeq, h]
@[simp] theorem upD_length (lo : Int) (n : Nat) : (upD lo n).length = n := by simp [upD]
/-! places -/
theorem atI_nat' {β : Type} (xs : List β) (i : Nat) (h : i < xs.length) : L2.atI xs (i : Int) = some xs[i] := L2.atI_nat (List.getElem?_eq_getElem h)
theorem atI_of {β : Type} {xs : List β} {i : Int} (h0 : 0 ≤ i) (h : i.toNat < xs.length) : L2.atI xs i = some xs[i.toNat] := by
  have e : i = (i.toNat : Int) := by omega
  have q := atI_nat' xs i.toNat h
  rw [← e] at q
  exact q
theorem atI_map {β γ : Type} (f : β → γ) (xs : List β) (i : Int) : L2.atI (xs.map f) i = (L2.atI xs i).map f := by
  unfold L2.atI
  rw [List.length_map]
  cases L2.ixN xs.length i with
  | none => rfl
  | some j => simp
theorem shaped_int (i : Int) : SeqAt.shaped (toP (.int i)) = true := by rw [toP]; rfl
theorem shaped_bl (b : Bool) : SeqAt.shaped (toP (.bl b)) = true := by rw [toP]; rfl
@[simp] theorem eq_int_int (neg : Bool) (i j : Int) : eqD neg (.int i) (.int j) = some (.bl (if neg then !decide (i = j) else decide (i = j))) := by
  unfold eqD
  rw [shaped_int, shaped_int]
  have e : PyData.eqv (toP (.int i)) (toP (.int j)) = decide (i = j) := by
    rw [toP, toP, PyData.eqv]
    by_cases h : i = j <;> simp [h]
  rw [e]
  rfl
@[simp] theorem eq_bl_bl (neg : Bool) (i j : Bool) : eqD neg (.bl i) (.bl j) = some (.bl (if neg then !decide (i = j) else decide (i = j))) := by
  unfold eqD
  rw [shaped_bl, shaped_bl]
  have e : PyData.eqv (toP (.bl i)) (toP (.bl j)) = decide (i = j) := by
    rw [toP, toP]
    cases i <;> cases j <;> rfl
  rw [e]
  rfl
end DL
set_option Elab.async false
set_option linter.all false
set_option maxRecDepth 100000
namespace DL
open PySem PySem.Spec PyProof.Rows L2
section
variable {X : Cx} {C : Cl} {x : Expr} {g : Den} {cp ap : Pos}
end
@[simp] theorem is_bl (neg p q : Bool) : isD neg (.bl p) (.bl q) = some (.bl (if neg then !(p == q) else p == q)) := (rfl)
theorem while_def (p : TDen) (s : SDen) (n : Nat) (ρ : List Sl) (Ω : List OS) : whileD p s (n + 1) ρ Ω = match p ρ Ω with
    | some (true, Ω1) => (match s ρ Ω1 with
      | some (.nx ρ' Ω') => whileD p s n ρ' Ω'
      | some (.ct ρ' Ω') => whileD p s n ρ' Ω'
      | some (.bk ρ' Ω') => some (.nx ρ' Ω')
      | some (.rt z Ω') => some (.rt z Ω')
      | none => none)
    | some (false, Ω1) => some (.nx ρ Ω1)
    | none => none := (rfl)
end DL
set_option Elab.async false
set_option linter.all false
set_option maxRecDepth 100000
/-! OBJECTS: instances, dicts. -/
namespace DL
open PySem PySem.Spec PyProof.Rows L2

def OIs (K : PySem.W.Frag) (α : List Addr) (F : Hp) : Option D → Option V → Prop
  | none, none => True
  | some d, some v => Is K α F d v
  | _, _ => False
section
variable {κ : Type} [DecidableEq κ]
def valD (kvs : List (κ × D)) (k : κ) : Option D := (kvs.find? fun kv => decide (kv.1 = k)).map (·.2)
def putD (kvs : List (κ × D)) (k : κ) (v : D) : List (κ × D) :=
  if (kvs.any fun kv => decide (kv.1 = k)) = true then kvs.map (fun kv => if kv.1 = k then (kv.1, v) else kv) else kvs ++ [(k, v)]
def dropD (kvs : List (κ × D)) (k : κ) : List (κ × D) := kvs.filter fun kv => decide (kv.1 ≠ k)
variable {K : PySem.W.Frag} {α : List Addr} {F : Hp}
theorem PsIs.len : ∀ {ps : List (κ × D)} {vs : List (κ × V)}, PsIs K α F ps vs → ps.length = vs.length
  | [], _, h => by rw [show _ = [] from h]; rfl
  | p :: r, _, ⟨v, t, e, _, q⟩ => by rw [e, List.length_cons, List.length_cons, q.len]
theorem PsIs.keys : ∀ {ps : List (κ × D)} {vs : List (κ × V)}, PsIs K α F ps vs → ps.map (·.1) = vs.map (·.1)
  | [], _, h => by rw [show _ = [] from h]; rfl
  | p :: r, _, ⟨v, t, e, _, q⟩ => by rw [e, List.map_cons, List.map_cons, q.keys]
theorem PsIs.val (k : κ) : ∀ {ps : List (κ × D)} {vs : List (κ × V)}, PsIs K α F ps vs → OIs K α F (valD ps k) (valV vs k)
  | [], _, h => by rw [show _ = [] from h]; exact trivial
  | p :: r, _, ⟨v, t, e, i, q⟩ => by
    subst e
    by_cases h : p.1 = k
    · have e1 : valD (p :: r) k = some p.2 := by simp [valD, List.find?_cons, h]
      rw [e1, valV_pos h]; exact i
    · have e1 : valD (p :: r) k = valD r k := by simp [valD, List.find?_cons, h]
      rw [e1, valV_neg h]; exact q.val k
theorem PsIs.repl (k : κ) {d : D} {y : V} (iy : Is K α F d y) : ∀ {ps : List (κ × D)} {vs : List (κ × V)}, PsIs K α F ps vs → PsIs K α F (ps.map fun kv => if kv.1 = k then (kv.1, d) else kv) (vs.map fun kv => if kv.1 = k then (kv.1, y) else kv)
  | [], _, h => by rw [show _ = [] from h]; exact rfl
  | p :: r, _, ⟨v, t, e, i, q⟩ => by
    subst e
    rw [List.map_cons, List.map_cons]
    by_cases h : p.1 = k
    · rw [if_pos h, if_pos h]; exact ⟨y, _, rfl, iy, q.repl k iy⟩
    · rw [if_neg h, if_neg h]; exact ⟨v, _, rfl, i, q.repl k iy⟩
theorem PsIs.snoc (k : κ) {d : D} {y : V} (iy : Is K α F d y) : ∀ {ps : List (κ × D)} {vs : List (κ × V)}, PsIs K α F ps vs → PsIs K α F (ps ++ [(k, d)]) (vs ++ [(k, y)])
  | [], _, h => by rw [show _ = [] from h]; exact ⟨y, [], rfl, iy, rfl⟩
  | p :: r, _, ⟨v, t, e, i, q⟩ => by
    subst e
    exact ⟨v, _, rfl, i, q.snoc k iy⟩
theorem PsIs.any (k : κ) : ∀ {ps : List (κ × D)} {vs : List (κ × V)}, PsIs K α F ps vs → (ps.any fun kv => decide (kv.1 = k)) = vs.any fun kv => decide (kv.1 = k)
  | [], _, h => by rw [show _ = [] from h]; rfl
  | p :: r, _, ⟨v, t, e, i, q⟩ => by
    subst e
    rw [List.any_cons, List.any_cons, q.any k]
theorem PsIs.put {ps : List (κ × D)} {vs : List (κ × V)} (h : PsIs K α F ps vs) (k : κ) {d : D} {y : V} (iy : Is K α F d y) : PsIs K α F (putD ps k d) (putK vs k y) := by
  unfold putD putK
  rw [h.any k]
  split
  · exact h.repl k iy
  · exact h.snoc k iy
theorem PsIs.drop (k : κ) : ∀ {ps : List (κ × D)} {vs : List (κ × V)}, PsIs K α F ps vs → PsIs K α F (dropD ps k) (dropK vs k)
  | [], _, h => by rw [show _ = [] from h]; exact rfl
  | p :: r, _, ⟨v, t, e, i, q⟩ => by
    subst e
    unfold dropD dropK
    by_cases h : p.1 = k
    · rw [List.filter_cons_of_neg (by simp [h]), List.filter_cons_of_neg (by simp [h])]; exact q.drop k
    · rw [List.filter_cons_of_pos (by simp [h]), List.filter_cons_of_pos (by simp [h])]; exact ⟨v, _, rfl, i, q.drop k⟩
end
section
variable {K : PySem.W.Frag} {α : List Addr} {F : Hp}
theorem PsIs.look (f : Str) : ∀ {ps : List (Str × D)} {vs : List (Str × V)}, PsIs K α F ps vs → OIs K α F (ps.lookup f) (vs.lookup f)
  | [], _, h => by rw [show _ = [] from h]; exact trivial
  | (g, d) :: r, _, ⟨v, t, e, i, q⟩ => by
    subst e
    by_cases h : (f == g) = true
    · rw [List.lookup_cons, List.lookup_cons, h]; exact i
    · have h' : (f == g) = false := by cases z : (f == g) with | true => exact absurd z h | false => rfl
      rw [List.lookup_cons, List.lookup_cons, h']; exact q.look f
end

/-! ### a new object, an object changed -/
def E4.obj (e : E4) (p : Addr) (H' : Hp) : E4 := ⟨e.α ++ [p], e.F, fun b => e.A b ∨ b = p, H'⟩
def E4.at (e : E4) (a : Addr) (o : HO) : E4 := ⟨e.α, e.F, e.A, upd e.H a o⟩
section
variable {K : PySem.W.Frag} {C : Cl} {e : E4} {Ω : List OS}
theorem Wf.objA (w : Wf K C e Ω) {n : Nat} {a : Addr} (h : e.α[n]? = some a) : e.A a ∧ ∃ o, Ω[n]? = some o := by
  have hl : n < Ω.length := by rw [← w.ol]; exact (List.getElem?_eq_some_iff.mp h).1
  exact ⟨(w.ob n a _ h (List.getElem?_eq_getElem hl)).1, _, List.getElem?_eq_getElem hl⟩
theorem Wf.obj (w : Wf K C e Ω) {p : Addr} {H' : Hp} {o : OS} (hp : e.H p = none) (hk : ∀ b u, e.H b = some u → H' b = some u) (hn : H' p ≠ none ∧ ∀ xs, H' p ≠ some (.tup xs)) (ho : OSIs K C (e.obj p H') p o) :
    Wf K C (e.obj p H') (Ω ++ [o]) ∧ Ext e (e.obj p H') := by
  have nA : ¬ e.A p := fun z => (w.ah p z).1 hp
  have npα : p ∉ e.α := fun z => by
    obtain ⟨n, h⟩ := List.getElem?_of_mem z
    exact nA (w.objA h).1
  refine ⟨⟨fun b u h => hk b u (w.fh b u h), fun b h => ?_, fun b h => ?_, ?_, ?_, fun n b u h1 h2 => ?_⟩, ⟨fun b o' u h => hk b _ h, fun b u h _ => hk b u h, fun b u h => ⟨u, hk b u h⟩, Same.refl _, fun b u h => .inl h, fun b h => ?_, fun b h => .inl h, [p], rfl⟩⟩
  · rcases h with h | rfl
    · exact w.fa b h
    · exact w.nF hp
  · rcases h with h | rfl
    · obtain ⟨h1, h2⟩ := w.ah b h
      cases q : e.H b with
      | none => exact absurd q h1
      | some u =>
        show H' b ≠ none ∧ ∀ xs, H' b ≠ some (.tup xs)
        rw [hk b u q, ← q]
        exact ⟨h1, h2⟩
    · exact hn
  · show (e.α ++ [p]).length = (Ω ++ [o]).length
    rw [List.length_append, List.length_append, w.ol]; rfl
  · show (e.α ++ [p]).Nodup
    rw [List.nodup_append]
    refine ⟨w.nd, by simp, fun x hx y hy => ?_⟩
    simp only [List.mem_singleton] at hy
    subst hy
    exact fun z => npα (z ▸ hx)
  · have h1 : (e.α ++ [p])[n]? = some b := h1
    by_cases hl : n < e.α.length
    · rw [List.getElem?_append_left hl] at h1
      rw [List.getElem?_append_left (by rw [← w.ol]; exact hl)] at h2
      exact ⟨.inl (w.ob n b u h1 h2).1, (w.ob n b u h1 h2).2.keep (fun v hv => hk b v hv) (Same.refl _) ⟨[p], rfl⟩⟩
    · have en : n = e.α.length := by
        have := (List.getElem?_eq_some_iff.mp h1).1
        rw [List.length_append] at this
        simp at this
        omega
      subst en
      rw [List.getElem?_append_right (Nat.le_refl _), Nat.sub_self] at h1
      rw [w.ol, List.getElem?_append_right (Nat.le_refl _), Nat.sub_self] at h2
      cases h1
      cases h2
      exact ⟨.inr rfl, ho⟩
  · rcases h with h | rfl
    · exact .inl h
    · exact .inr hp
theorem Wf.atW (w : Wf K C e Ω) {n : Nat} {a : Addr} {o' : OS} {ho : HO} (hα : e.α[n]? = some a) (hn : ∀ xs, ho ≠ .tup xs) (h' : OSIs K C (e.at a ho) a o') : Wf K C (e.at a ho) (Ω.set n o') := by
  have hA := (w.objA hα).1
  have hF := w.fa a hA
  have neF : ∀ b u, e.F b = some u → b ≠ a := fun b u h z => by subst z; rw [hF] at h; cases h
  refine ⟨fun b u h => ?_, w.fa, fun b h => ?_, by simp [E4.at, w.ol], w.nd, fun m b u h1 h2 => ?_⟩
  · show upd e.H a ho b = some u
    rw [upd_ne (neF b u h)]; exact w.fh b u h
  · show upd e.H a ho b ≠ none ∧ ∀ xs, upd e.H a ho b ≠ some (.tup xs)
    by_cases z : b = a
    · subst z; rw [upd_same]; exact ⟨by simp, fun xs q => hn xs (Option.some.inj q)⟩
    · rw [upd_ne z]; exact w.ah b h
  · by_cases z : m = n
    · subst z
      have h1 : e.α[m]? = some b := h1
      rw [hα] at h1
      cases h1
      have hl : m < Ω.length := by rw [← w.ol]; exact (List.getElem?_eq_some_iff.mp hα).1
      rw [List.getElem?_set_self hl] at h2
      cases h2
      exact ⟨hA, h'⟩
    · rw [List.getElem?_set_ne (fun q => z q.symm)] at h2
      have nb : b ≠ a := fun q => by
        subst q
        exact z ((List.getElem?_inj (List.getElem?_eq_some_iff.mp h1).1 w.nd).mp (h1.trans hα.symm))
      refine ⟨(w.ob m b u h1 h2).1, (w.ob m b u h1 h2).2.keep (fun v hv => ?_) (Same.refl _) ⟨[], by simp [E4.at]⟩⟩
      show upd e.H a ho b = some v
      rw [upd_ne nb]; exact hv
theorem Wf.at (w : Wf K C e Ω) {n : Nat} {a : Addr} {o' : OS} {ho : HO} (hα : e.α[n]? = some a) (hn : ∀ xs, ho ≠ .tup xs) (h' : OSIs K C (e.at a ho) a o') (hz : ∀ o u, e.H a ≠ some (.frz o u)) :
    Wf K C (e.at a ho) (Ω.set n o') ∧ Ext e (e.at a ho) := by
  have hA := (w.objA hα).1
  refine ⟨w.atW hα hn h', ⟨fun b o' u h => ?_, fun b u h hn => ?_, fun b u h => ?_, Same.refl _, fun b u h => .inl h, fun b h => .inl h, fun b h => h, [], by simp [E4.at]⟩⟩
  · show upd e.H a ho b = some (.frz o' u)
    rw [upd_ne (fun z => hz o' u (by rw [← z]; exact h))]; exact h
  · show upd e.H a ho b = some u
    rw [upd_ne (fun z => hn (by rw [z]; exact hA))]; exact h
  · by_cases z : b = a
    · subst z; exact ⟨ho, upd_same⟩
    · exact ⟨u, by show upd e.H a ho b = some u; rw [upd_ne z]; exact h⟩
end

/-! ### keys -/
def keyD : D → Option Key
  | .int i => some (.inl i)
  | .str x => some (.inr x)
  | _ => none
def keysD : List D → Option (List Key)
  | [] => some []
  | d :: ds => match keyD d with
    | some k => (match keysD ds with | some ks => some (k :: ks) | none => none)
    | none => none
def tkeyD : D → Option (List Key)
  | .tup xs => keysD xs
  | _ => none
def ofK : Key → D
  | .inl i => .int i
  | .inr x => .str x
section
variable {K : PySem.W.Frag} {α : List Addr} {F : Hp}
theorem keyD_v {d : D} {k : Key} {v : V} (h : keyD d = some k) (i : Is K α F d v) : v = kV k := by
  cases d <;> first | cases h | skip
  · rw [Is] at i; exact i
  · rw [Is] at i; exact i
theorem keysD_v : ∀ {ds : List D} {ks : List Key} {vs : List V}, keysD ds = some ks → IsL K α F ds vs → vs = ks.map kV
  | [], ks, vs, h, i => by cases h; rw [i.of_nil]; rfl
  | d :: ds, ks, vs, h, i => by
    obtain ⟨v, r, rfl, i1, i2⟩ := i.of_cons
    unfold keysD at h
    cases q : keyD d with
    | none => rw [q] at h; cases h
    | some k =>
      rw [q] at h
      dsimp only at h
      cases q2 : keysD ds with
      | none => rw [q2] at h; cases h
      | some ks' =>
        rw [q2] at h
        cases h
        rw [List.map_cons, keyD_v q i1, keysD_v q2 i2]
theorem tkeyD_v {d : D} {ks : List Key} {v : V} (h : tkeyD d = some ks) (i : Is K α F d v) : ∃ b, v = .ref b ∧ F b = some (.tup (ks.map kV)) := by
  cases d <;> first | cases h | skip
  rw [Is] at i
  obtain ⟨a, vs, rfl, e, q⟩ := i
  rw [keysD_v h q] at e
  exact ⟨a, rfl, e⟩
theorem ofK_is (k : Key) : Is K α F (ofK k) (kV k) := by
  cases k with
  | inl i => show Is K α F (.int i) (.int i); rw [Is]
  | inr x => show Is K α F (.str x) (.str x); rw [Is]
end

/-! ### what a dict holds -/
def lookO : OS → D → Option (Option D)
  | .fzK kvs, d => (match keyD d with | some k => some (valD kvs k) | none => none)
  | .dK kvs, d => (match keyD d with | some k => some (valD kvs k) | none => none)
  | .dT kvs, d => (match tkeyD d with | some k => some (valD kvs k) | none => none)
  | _, _ => none
def putO : OS → D → D → Option OS
  | .dK kvs, d, v => (match keyD d with | some k => if kvs.length < 100000 then some (.dK (putD kvs k v)) else none | none => none)
  | .dT kvs, d, v => (match tkeyD d with | some k => if kvs.length < 100000 then some (.dT (putD kvs k v)) else none | none => none)
  | _, _, _ => none
def isDct : OS → Bool
  | .fzK _ => true
  | .dK _ => true
  | .dT _ => true
  | _ => false
section
variable {K : PySem.W.Frag} {C : Cl} {e : E4} {Ω : List OS}
theorem dget_of (w : Wf K C e Ω) {n : Nat} {a : Addr} {o : OS} {d : D} {r : Option D} {y : V} (hα : e.α[n]? = some a) (hΩ : Ω[n]? = some o) (hl : lookO o d = some r) (i : Is K e.α e.F d y) :
    ∃ r', DGet e.H a y r' ∧ OIs K e.α e.F r r' := by
  have ob := (w.ob n a o hα hΩ).2
  unfold lookO at hl
  cases o with
  | fzK kvs =>
    obtain ⟨vs, ob', h1, h2⟩ := ob
    dsimp only at hl
    cases q : keyD d with
    | none => rw [q] at hl; cases hl
    | some k =>
      rw [q] at hl
      cases hl
      rw [keyD_v q i]
      exact ⟨_, .inl ⟨vs, k, .inr ⟨_, h1⟩, rfl, rfl⟩, h2.val k⟩
  | dK kvs =>
    obtain ⟨vs, h1, h2⟩ := ob
    dsimp only at hl
    cases q : keyD d with
    | none => rw [q] at hl; cases hl
    | some k =>
      rw [q] at hl
      cases hl
      rw [keyD_v q i]
      exact ⟨_, DGet.k h1, h2.val k⟩
  | dT kvs =>
    obtain ⟨vs, h1, h2⟩ := ob
    dsimp only at hl
    cases q : tkeyD d with
    | none => rw [q] at hl; cases hl
    | some k =>
      rw [q] at hl
      cases hl
      obtain ⟨b, rfl, hb⟩ := tkeyD_v q i
      exact ⟨_, DGet.t h1 (w.fh _ _ hb), h2.val k⟩
  | _ => cases hl
theorem isD_of (w : Wf K C e Ω) {n : Nat} {a : Addr} {o : OS} (hα : e.α[n]? = some a) (hΩ : Ω[n]? = some o) (h : isDct o = true) : IsD e.H a := by
  have ob := (w.ob n a o hα hΩ).2
  cases o with
  | fzK kvs => obtain ⟨vs, ob', h1, _⟩ := ob; exact .inl ⟨vs, .inr ⟨_, h1⟩⟩
  | dK kvs => obtain ⟨vs, h1, _⟩ := ob; exact .inl ⟨vs, .inl h1⟩
  | dT kvs => obtain ⟨vs, h1, _⟩ := ob; exact .inr ⟨vs, .inl h1⟩
  | _ => cases h
theorem dput_of (w : Wf K C e Ω) {n : Nat} {a : Addr} {o o' : OS} {d x : D} {y v : V} (hα : e.α[n]? = some a) (hΩ : Ω[n]? = some o) (hp : putO o d x = some o') (i : Is K e.α e.F d y) (ix : Is K e.α e.F x v) :
    ∃ H', DPut e.H a y v H' ∧ ∃ e', e'.H = H' ∧ Wf K C e' (Ω.set n o') ∧ Ext e e' := by
  have ob := (w.ob n a o hα hΩ).2
  unfold putO at hp
  cases o with
  | dK kvs =>
    obtain ⟨vs, h1, h2⟩ := ob
    dsimp only at hp
    cases q : keyD d with
    | none => rw [q] at hp; cases hp
    | some k =>
      rw [q] at hp
      dsimp only at hp
      split at hp
      · rename_i hl
        cases hp
        rw [keyD_v q i]
        refine ⟨_, DPut.k h1 (by rw [← h2.len]; exact big_lt hl), e.at a _, rfl, w.at hα (fun xs z => nomatch z) ⟨_, upd_same, h2.put k ix⟩ fun o u z => by rw [h1] at z; cases z⟩
      · cases hp
  | dT kvs =>
    obtain ⟨vs, h1, h2⟩ := ob
    dsimp only at hp
    cases q : tkeyD d with
    | none => rw [q] at hp; cases hp
    | some k =>
      rw [q] at hp
      dsimp only at hp
      split at hp
      · rename_i hl
        cases hp
        obtain ⟨b, rfl, hb⟩ := tkeyD_v q i
        refine ⟨_, DPut.t h1 (w.fh _ _ hb) (by rw [← h2.len]; exact big_lt hl), e.at a _, rfl, w.at hα (fun xs z => nomatch z) ⟨_, upd_same, h2.put k ix⟩ fun o u z => by rw [h1] at z; cases z⟩
      · cases hp
  | _ => cases hp
end

/-! ### the rules: dicts -/
def gNewK : Den := fun _ Ω => some (.obj Ω.length, Ω ++ [.dK []])
def gDGet (go gi : Den) : Den := fun ρ Ω => match go ρ Ω with
  | some (.obj n, Ω1) => (match gi ρ Ω1 with
    | some (k, Ω2) => (match Ω2[n]? with
      | some o => (match lookO o k with | some (some d) => some (d, Ω2) | _ => none)
      | none => none)
    | none => none)
  | _ => none
def gDIn (neg : Bool) (gk go : Den) : Den := fun ρ Ω => match gk ρ Ω with
  | some (k, Ω1) => (match go ρ Ω1 with
    | some (.obj n, Ω2) => (match Ω2[n]? with
      | some o => (match lookO o k with | some r => some (.bl (if neg then !r.isSome else r.isSome), Ω2) | none => none)
      | none => none)
    | _ => none)
  | none => none
def gDGet2 (go gk gx : Den) : Den := fun ρ Ω => match go ρ Ω with
  | some (.obj n, Ω1) => (match Ω1[n]? with
    | some o => if isDct o = true then (match gk ρ Ω1 with
      | some (k, Ω2) => (match gx ρ Ω2 with
        | some (x, Ω3) => (match Ω3[n]? with
          | some o2 => (match lookO o2 k with | some r => some (r.getD x, Ω3) | none => none)
          | none => none)
        | none => none)
      | none => none) else none
    | none => none)
  | _ => none
def sDPut (go gi gv : Den) : SDen := fun ρ Ω => match gv ρ Ω with
  | some (v, Ω1) => (match go ρ Ω1 with
    | some (.obj n, Ω2) => (match gi ρ Ω2 with
      | some (k, Ω3) => (match Ω3[n]? with
        | some o => (match putO o k v with | some o' => some (.nx ρ (Ω3.set n o')) | none => none)
        | none => none)
      | none => none)
    | _ => none)
  | none => none
section
variable {X : Cx} {C : Cl} {a b c x y : Expr} {f g h : Den} {pos pos' ap cp : Pos}
theorem pd_newK : PD X C (.Dict [] [] pos) gNewK := pe_imp pe_dnewK fun σ H Q hw' => by
  obtain ⟨e, Ω, ρ, d, Ω', eH, w, rl, q, kk⟩ := hw'
  subst eH
  cases q
  intro p hp
  obtain ⟨w', x'⟩ := w.obj (H' := upd e.H p (.dK [])) (o := .dK []) hp (fun b u hb => by rw [upd_ne (ne_of_none hb hp)]; exact hb) (by rw [upd_same]; exact ⟨by simp, fun xs z => nomatch z⟩) ⟨[], upd_same, rfl⟩
  refine kk _ (e.obj p _) x' w' ?_
  rw [Is]
  exact ⟨p, by show (e.α ++ [p])[Ω.length]? = some p; rw [← w.ol]; simp, rfl⟩
theorem OIs.some_of {K : PySem.W.Frag} {α : List Addr} {F : Hp} {d : D} {r : Option V} (h : OIs K α F (some d) r) : ∃ v, r = some v ∧ Is K α F d v := by
  cases r with
  | none => exact h.elim
  | some v => exact ⟨v, rfl, h⟩
theorem OIs.isSome {K : PySem.W.Frag} {α : List Addr} {F : Hp} {d : Option D} {r : Option V} (h : OIs K α F d r) : r.isSome = d.isSome := by
  cases r <;> cases d <;> first | rfl | exact h.elim
theorem OIs.getD {K : PySem.W.Frag} {α : List Addr} {F : Hp} {d : Option D} {r : Option V} {x : D} {v : V} (h : OIs K α F d r) (i : Is K α F x v) : Is K α F (d.getD x) (r.getD v) := by
  cases r <;> cases d <;> first | exact h.elim | exact i | exact h
theorem pd_dget (hu : X.A.units + 1 < cLine) (ho : PD X C a f) (hi : PD X C b g) (hs : NoSl b) : PD X C (.Subscript a b pos) (gDGet f g) := pe_imp (pe_dget hu ho hi hs) fun σ H Q hw' => by
  obtain ⟨e, Ω, ρ, d, Ω', eH, w, rl, q, kk⟩ := hw'
  unfold gDGet at q
  cases q1 : f ρ Ω with
  | none => rw [q1] at q; cases q
  | some p1 =>
    obtain ⟨d1, Ω1⟩ := p1
    rw [q1] at q
    cases d1 with
    | obj n =>
      dsimp only at q
      cases q2 : g ρ Ω1 with
      | none => rw [q2] at q; cases q
      | some p2 =>
        obtain ⟨k, Ω2⟩ := p2
        rw [q2] at q
        dsimp only at q
        cases q3 : Ω2[n]? with
        | none => rw [q3] at q; cases q
        | some o =>
          rw [q3] at q
          dsimp only at q
          cases q4 : lookO o k with
          | none => rw [q4] at q; cases q
          | some r =>
            rw [q4] at q
            cases r with
            | none => cases q
            | some d' =>
              cases q
              refine ⟨e, Ω, ρ, _, Ω1, eH, w, rl, q1, fun v e1 x1 w1 i1 => ?_⟩
              refine ⟨e1, Ω1, ρ, k, _, rfl, w1, rl.ext x1, q2, fun u e2 x2 w2 i2 => ?_⟩
              have i3 := i1.ext x2
              rw [Is] at i3
              obtain ⟨p, hα, rfl⟩ := i3
              obtain ⟨r', g1, o1⟩ := dget_of w2 hα q3 q4 i2
              obtain ⟨v', rfl, iv⟩ := o1.some_of
              exact ⟨p, v', rfl, g1, kk v' e2 (x1.trans x2) w2 iv⟩
    | _ => cases q
theorem din_read {K : PySem.W.Frag} {neg : Bool} {σ : St} {H : Hp} {Q : VK} (h : tD K C (gDIn neg f g) σ H Q) :
    tD K C f σ H fun y H1 => tD K C g σ H1 fun x H2 => ∃ a o, x = .ref a ∧ DGet H2 a y o ∧ Q (.bl (if neg then !o.isSome else o.isSome)) H2 := by
  obtain ⟨e, Ω, ρ, d, Ω', eH, w, rl, q, kk⟩ := h
  unfold gDIn at q
  cases q1 : f ρ Ω with
  | none => rw [q1] at q; cases q
  | some p1 =>
    obtain ⟨k, Ω1⟩ := p1
    rw [q1] at q
    dsimp only at q
    cases q2 : g ρ Ω1 with
    | none => rw [q2] at q; cases q
    | some p2 =>
      obtain ⟨d2, Ω2⟩ := p2
      rw [q2] at q
      cases d2 with
      | obj n =>
        dsimp only at q
        cases q3 : Ω2[n]? with
        | none => rw [q3] at q; cases q
        | some o =>
          rw [q3] at q
          dsimp only at q
          cases q4 : lookO o k with
          | none => rw [q4] at q; cases q
          | some r =>
            rw [q4] at q
            cases q
            refine ⟨e, Ω, ρ, k, Ω1, eH, w, rl, q1, fun v e1 x1 w1 i1 => ?_⟩
            refine ⟨e1, Ω1, ρ, _, _, rfl, w1, rl.ext x1, q2, fun u e2 x2 w2 i2 => ?_⟩
            rw [Is] at i2
            obtain ⟨p, hα, rfl⟩ := i2
            obtain ⟨r', g1, o1⟩ := dget_of w2 hα q3 q4 (i1.ext x2)
            refine ⟨p, r', rfl, g1, ?_⟩
            rw [o1.isSome]
            exact kk _ e2 (x1.trans x2) w2 (by rw [Is])
      | _ => cases q
theorem pdt_din (hu : X.A.units + 1 < cLine) (hk : PD X C a f) (ho : PD X C b g) (h1 : behindInMarks .In b = false := by rfl) : PDT X C (.Compare a [.In] [b] pos) (gT (gDIn false f g)) :=
  pt_imp (pt_cmp (pc_din hu hk ho) h1) fun σ H Q h => din_read (gT_read h)
theorem pdt_dnotin (hu : X.A.units + 1 < cLine) (hk : PD X C a f) (ho : PD X C b g) (h1 : behindInMarks .NotIn b = false := by rfl) : PDT X C (.Compare a [.NotIn] [b] pos) (gT (gDIn true f g)) :=
  pt_imp (pt_cmp (pc_dnotin hu hk ho) h1) fun σ H Q h => din_read (gT_read h)
theorem pd_dget2 (hu : X.A.units + 1 < cLine) (ho : PD X C a f) (hi : PD X C b g) (hx : PD X C c h) (m : M2 X a "get" ap b c cp) : PD X C (.Call (.Attribute a "get" ap) [b, c] [] cp) (gDGet2 f g h) := pe_imp (pe_dget2 hu ho hi hx m) fun σ H Q hw' => by
  obtain ⟨e, Ω, ρ, d, Ω', eH, w, rl, q, kk⟩ := hw'
  unfold gDGet2 at q
  cases q1 : f ρ Ω with
  | none => rw [q1] at q; cases q
  | some p1 =>
    obtain ⟨d1, Ω1⟩ := p1
    rw [q1] at q
    cases d1 with
    | obj n =>
      dsimp only at q
      cases q0 : Ω1[n]? with
      | none => rw [q0] at q; cases q
      | some o0 =>
        rw [q0] at q
        dsimp only at q
        by_cases hd : isDct o0 = true
        · rw [if_pos hd] at q
          cases q2 : g ρ Ω1 with
          | none => rw [q2] at q; cases q
          | some p2 =>
            obtain ⟨k, Ω2⟩ := p2
            rw [q2] at q
            dsimp only at q
            cases q5 : h ρ Ω2 with
            | none => rw [q5] at q; cases q
            | some p5 =>
              obtain ⟨xd, Ω3⟩ := p5
              rw [q5] at q
              dsimp only at q
              cases q3 : Ω3[n]? with
              | none => rw [q3] at q; cases q
              | some o =>
                rw [q3] at q
                dsimp only at q
                cases q4 : lookO o k with
                | none => rw [q4] at q; cases q
                | some r =>
                  rw [q4] at q
                  cases q
                  refine ⟨e, Ω, ρ, _, Ω1, eH, w, rl, q1, fun v e1 x1 w1 i1 => ?_⟩
                  rw [Is] at i1
                  obtain ⟨p, hα, rfl⟩ := i1
                  refine ⟨p, rfl, isD_of w1 hα q0 hd, ?_⟩
                  refine ⟨e1, Ω1, ρ, k, _, rfl, w1, rl.ext x1, q2, fun u e2 x2 w2 i2 => ?_⟩
                  refine ⟨e2, Ω2, ρ, xd, _, rfl, w2, (rl.ext x1).ext x2, q5, fun u3 e3 x3 w3 i3' => ?_⟩
                  have hα2 : e3.α[n]? = some p := by
                    have i3 : Is X.K e3.α e3.F (.obj n) (.ref p) := Is.ext (x2.trans x3) (by rw [Is]; exact ⟨p, hα, rfl⟩)
                    rw [Is] at i3
                    obtain ⟨p', z, zz⟩ := i3
                    cases zz
                    exact z
                  obtain ⟨r', g1, o1⟩ := dget_of w3 hα2 q3 q4 (i2.ext x3)
                  exact ⟨r', g1, kk _ e3 ((x1.trans x2).trans x3) w3 (o1.getD i3')⟩
        · rw [if_neg hd] at q; cases q
    | _ => cases q
theorem pds_dput (hu : X.A.units + 1 < cLine) (ho : PD X C a f) (hi : PD X C b g) (hv : PD X C x h) (hs : swapsWith x (some (.Subscript a b pos')) pos.line X.env = pure false := by rfl) :
    PDS X C (.Assign [.Subscript a b pos'] x pos) (sDPut f g h) := fun e₀ => ps_imp (ps_dput hu ho hi hv hs) fun Dn σ H hw' => by
  obtain ⟨e, Ω, ρ, o, eH, r, q, k⟩ := hw'
  unfold sDPut at q
  cases q1 : h ρ Ω with
  | none => rw [q1] at q; cases q
  | some p1 =>
    obtain ⟨v, Ω1⟩ := p1
    rw [q1] at q
    dsimp only at q
    cases q2 : f ρ Ω1 with
    | none => rw [q2] at q; cases q
    | some p2 =>
      obtain ⟨d2, Ω2⟩ := p2
      rw [q2] at q
      cases d2 with
      | obj n =>
        dsimp only at q
        cases q3 : g ρ Ω2 with
        | none => rw [q3] at q; cases q
        | some p3 =>
          obtain ⟨kd, Ω3⟩ := p3
          rw [q3] at q
          dsimp only at q
          cases q4 : Ω3[n]? with
          | none => rw [q4] at q; cases q
          | some ob =>
            rw [q4] at q
            dsimp only at q
            cases q5 : putO ob kd v with
            | none => rw [q5] at q; cases q
            | some ob' =>
              rw [q5] at q
              cases q
              refine ⟨e, Ω, ρ, v, Ω1, eH, r.wf, r.rel, q1, fun uv e1 x1 w1 i1 => ?_⟩
              refine ⟨e1, Ω1, ρ, _, Ω2, rfl, w1, r.rel.ext x1, q2, fun uo e2 x2 w2 i2 => ?_⟩
              refine ⟨e2, Ω2, ρ, kd, Ω3, rfl, w2, (r.rel.ext x1).ext x2, q3, fun uk e3 x3 w3 i3 => ?_⟩
              have i2' := i2.ext x3
              rw [Is] at i2'
              obtain ⟨p, hα, rfl⟩ := i2'
              obtain ⟨H', hp, e4, rfl, w4, x4⟩ := dput_of w3 hα q4 q5 i3 (i1.ext (x2.trans x3))
              exact ⟨p, e4.H, rfl, hp, k e4 σ (r.to (((x1.trans x2).trans x3).trans x4) w4)⟩
      | _ => cases q
end
end DL
set_option Elab.async false
set_option linter.all false
set_option maxRecDepth 100000
/-! A DICT BY ITS ENTRIES: walked, counted; a pair taken out by a tuple. -/
namespace DR
open PySem PyProof.Rows
open Sem (wp)

def RawD (h : Heap) (a : Addr) (es : Array DictEntry) (ep : Nat) : Prop := ∃ o, h.get? a = some o ∧ o.ExactDict ∧ o.data = .dict es ep
theorem RawD.ty {s : Shared} {a : Addr} {es : Array DictEntry} {ep : Nat} (r : RawD s.heap a es ep) : s.TypeIs (.ref a) "dict" := let ⟨o, h1, h2, _⟩ := r; ⟨o, h1, h2.1⟩
theorem RawD.to {h h' : Heap} {a : Addr} {es : Array DictEntry} {ep : Nat} (r : RawD h a es ep) (k : ∀ o, h.get? a = some o → h'.get? a = some o) : RawD h' a es ep := let ⟨o, h1, h2⟩ := r; ⟨o, k o h1, h2⟩
theorem RawD.lt {h : Heap} {a : Addr} {es : Array DictEntry} {ep : Nat} (r : RawD h a es ep) : a < h.objs.size := let ⟨_, h1, _⟩ := r; Heap.lt_size h1
section
variable {prog : Program} {w : World} {A : Around} {E : Value → Shared → Prop} {s : Shared} {d it : Addr} {es : Array DictEntry} {ep i : Nat}
theorem raw_iter {Q : Value → Shared → Prop} (hd : (d == sysModules) = false) (hm : RawD s.heap d es ep)
    (hq : Q (.ref s.heap.objs.size) { s with heap := s.heap.push { cls := .type "dict_keyiterator", data := .fields #[.ref d, .int 0 0, .int es.size 0, .int ep 0] } }) : wpAny (model prog w) A (pyIter (.ref d)) Q E s := by
  obtain ⟨o, ho, hc, hx⟩ := id hm
  have ty := hm.ty
  refine wpAny_pyIter_slot ty F.slot_dict_iter (wpAny_call_entry F.slot_dict_iter ty F.entry_dict_iter ?_ (F.args_dict_iter_1 _))
  unfold Builtin.«dict.__iter__»; refine wpAny_bind ?_
  unfold Builtin.Dict.dictSlotNone; refine wpAny_bind (wpAny_notOrdered_dict ty ?_)
  show wpAny _ _ (pure (Value.ref d)) _ _ s; refine wpAny_pure ?_
  show wpAny _ _ (Builtin.Dict.showsAll d >>= _) _ _ s; unfold Builtin.Dict.showsAll
  rw [if_neg (by rw [hd]; exact Bool.false_ne_true)]; refine wpAny_bind (wpAny_pure ?_)
  refine wpAny_bind (wpAny_dictEntries ho hx ?_); refine wpAny_bind (wpAny_dictEpoch ho hx ?_)
  refine wpAny_bind (wpAny_newObj_type (wpAny_pure ⟨_, rfl, "dict_keyiterator", _, ⟨_, Heap.get?_push_size _ rfl, rfl⟩, F.slot_dict_keyiterator_next.lookup, ?_⟩)); simpa [rawInt] using hq
theorem raw_item {Q : Option Value → Shared → Prop} (hit : s.heap.IsKeyIter it d i es.size ep) (hm : RawD s.heap d es ep) (hl : i < es.size)
    (hq : ∀ h', h'.IsKeyIter it d (i + 1) es.size ep → Heap.SameBut it s.heap h' → Q (some es[i].key) { s with heap := h' }) : wpAny (model prog w) A (pyNext (.ref it)) Q E s := by
  obtain ⟨o, ho, hc, hd⟩ := id hit
  obtain ⟨od, hod, hcd, hdd⟩ := id hm
  unfold pyNext
  refine wpAny_bind (wpAny_attempt (wpAny_callSpecial?_slot (name := Str.ofString "__next__") hit.typeIs F.slot_dict_keyiterator_next (wpAny_call_entry F.slot_dict_keyiterator_next hit.typeIs F.entry_dict_keyiterator_next ?_ (F.args_dict_keyiterator_next_1 _))))
  refine wpAny_bind (wpAny_pure ?_); refine wpAny_bind ?_; refine wpAny_bind ?_
  first | exact (wpAny_bind (wpAny_typeNameOfWhole_keyiter hit.typeIs (wpAny_pure (by fail)))) | (first | refine wpAny_bind (wpAny_typeNameOfWhole_keyiter hit.typeIs (wpAny_pure ?_)) | refine wpAny_bind (wpAny_typeNameOf_keyiter hit.typeIs (wpAny_pure ?_)))
  refine wpAny_bind (wpAny_fieldsOf ho hd ?_); have own0 : Builtin.Dict_items.ownsTuple "dict_keyiterator" = false := by decide
  simp only [own0, Bool.false_eq_true, if_false]; show wpAny _ _ (if (Value.ref d == Value.none) = true then _ else _) _ _ s
  rw [if_neg (show ¬ ((Value.ref d == Value.none) = true) from Bool.false_ne_true)]; refine wpAny_bind (wpAny_pure ?_)
  refine wpAny_bind (wpAny_dictEntries hod hdd ?_); rw [if_neg (by simp)]
  refine wpAny_bind (wpAny_pure ?_); refine wpAny_bind (wpAny_dictEpoch hod hdd ?_)
  rw [if_neg (by simp)]; refine wpAny_pure ?_
  simp only [show ¬ ((i : Int) < 0) from by omega, if_false, Int.toNat_natCast, Array.getElem?_eq_getElem hl]; refine wpAny_bind ?_
  first | refine wpAny_bind (wpAny_typeNameOfWhole_keyiter hit.typeIs (wpAny_pure ?_)) | skip
  first | refine wpAny_bind (wpAny_typeNameOf_keyiter hit.typeIs (wpAny_pure ?_)) | skip
  refine wpAny_bind (wpAny_isOneOf_keyiter hit.typeIs ?_); show wpAny _ _ (setField (.ref it) 1 (rawInt ((i : Int) + 1)) >>= _) _ _ s
  refine wpAny_bind (wpAny_setField ho hd (by simp) ?_)
  have it2 : (s.heap.update it (Obj.mapFields (·.setIfInBounds 1 (rawInt ((i : Int) + 1))))).IsKeyIter it d (i + 1) es.size ep :=
    ⟨_, Heap.get?_update_self _ ho (Obj.isFreed_of_fields (Obj.data_mapFields hd _)), (Obj.cls_mapFields ..).trans hc, by rw [Obj.data_mapFields hd]; simp [rawInt]⟩
  refine wpAny_bind (wpAny_holding ?_); refine wpAny_bind (wpAny_isOneOf_keyiter (s := { s with heap := s.heap.update it (Obj.mapFields (·.setIfInBounds 1 (rawInt ((i : Int) + 1)))) }) it2.typeIs ?_)
  show wpAny _ _ (pure es[i].key) _ _ _; exact wpAny_pure (wpAny_pure ⟨_, rfl, wpAny_pure (hq _ it2 (Heap.SameBut.update ..))⟩)
theorem raw_end {Q : Option Value → Shared → Prop} (hh : A.handled = none) (hit : s.heap.IsKeyIter it d i es.size ep) (hm : RawD s.heap d es ep) (hl : es.size ≤ i)
    (hq : ∀ h', Heap.ExtBut it s.heap h' → Q none { s with heap := h' }) : wpAny (model prog w) A (pyNext (.ref it)) Q E s := by
  obtain ⟨o, ho, hc, hd⟩ := id hit
  obtain ⟨od, hod, hcd, hdd⟩ := id hm
  unfold pyNext
  refine wpAny_bind (wpAny_attempt (wpAny_callSpecial?_slot (name := Str.ofString "__next__") hit.typeIs F.slot_dict_keyiterator_next (wpAny_call_entry F.slot_dict_keyiterator_next hit.typeIs F.entry_dict_keyiterator_next ?_ (F.args_dict_keyiterator_next_1 _))))
  refine wpAny_bind (wpAny_pure ?_); refine wpAny_bind ?_; refine wpAny_bind ?_
  first | exact (wpAny_bind (wpAny_typeNameOfWhole_keyiter hit.typeIs (wpAny_pure (by fail)))) | (first | refine wpAny_bind (wpAny_typeNameOfWhole_keyiter hit.typeIs (wpAny_pure ?_)) | refine wpAny_bind (wpAny_typeNameOf_keyiter hit.typeIs (wpAny_pure ?_)))
  refine wpAny_bind (wpAny_fieldsOf ho hd ?_); have own0 : Builtin.Dict_items.ownsTuple "dict_keyiterator" = false := by decide
  simp only [own0, Bool.false_eq_true, if_false]; show wpAny _ _ (if (Value.ref d == Value.none) = true then _ else _) _ _ s
  rw [if_neg (show ¬ ((Value.ref d == Value.none) = true) from Bool.false_ne_true)]; refine wpAny_bind (wpAny_pure ?_)
  refine wpAny_bind (wpAny_dictEntries hod hdd ?_); rw [if_neg (by simp)]
  refine wpAny_bind (wpAny_pure ?_); refine wpAny_bind (wpAny_dictEpoch hod hdd ?_)
  rw [if_neg (by simp)]; refine wpAny_pure ?_
  simp only [show ¬ ((i : Int) < 0) from by omega, if_false, Int.toNat_natCast, Array.getElem?_eq_none hl]; refine wpAny_bind ?_
  first | refine wpAny_bind (wpAny_typeNameOfWhole_keyiter hit.typeIs (wpAny_pure ?_)) | skip
  first | refine wpAny_bind (wpAny_typeNameOf_keyiter hit.typeIs (wpAny_pure ?_)) | skip
  show wpAny _ _ (setField (.ref it) 0 .none >>= _) _ _ s; refine wpAny_bind (wpAny_setField ho hd (by simp) ?_)
  show wpAny _ _ (newExc (.type "StopIteration") [] >>= _) _ _ _; refine wpAny_bind ?_
  simp only [newExc, newTuple]; refine wpAny_bind (wpAny_newObj_type ?_ (by size_fits))
  refine wpAny_bind (m := firstArgMember _ _) (wpAny_of_eq (a := Value.none) (by first | rfl | (simp only [firstArgMember]; rfl)) ?_); refine wpAny_newObj_type ?_ (by size_fits)
  simp only [raiseNew]; refine wpAny_bind (wpAny_handled ?_)
  rw [show A.in1.handled = none from hh]; refine wpAny_bind (wpAny_pure (wpAny_throw ?_))
  refine wpAny_bind (wpAny_isInstance (T := "StopIteration") (b := true) ⟨_, Heap.get?_push_size _ rfl, rfl⟩ isSubtype_stop ?_); exact wpAny_pure (hq _ (((Heap.SameBut.update ..).extBut.push _).push _))
end

/-! ### pop of a heap key -/
section
variable {κ : Type} [DecidableEq κ]
def outH (xs : List (κ × Addr × Value)) (k : κ) : List (κ × Addr × Value) := xs.filter fun x => decide (x.1 ≠ k)
theorem outH_no : ∀ {xs : List (κ × Addr × Value)} {k : κ}, k ∉ xs.map (·.1) → outH xs k = xs := fun {xs k} h => by
  unfold outH
  rw [List.filter_eq_self]
  intro x hx
  exact decide_eq_true fun e => h (List.mem_map.mpr ⟨x, hx, e⟩)
theorem outH_erase : ∀ {xs : List (κ × Addr × Value)} {k : κ} {j : Nat} {p : Addr × Value}, (xs.map (·.1)).Nodup → xs[j]? = some (k, p) → outH xs k = xs.eraseIdx j
  | [], _, _, _, _, h => by simp at h
  | x :: r, k, 0, p, hn, h => by
    rw [List.getElem?_cons_zero] at h
    cases h
    rw [List.map_cons, List.nodup_cons] at hn
    rw [List.eraseIdx_cons_zero]
    show List.filter _ _ = _
    rw [List.filter_cons_of_neg (by simp)]
    exact outH_no hn.1
  | x :: r, k, j + 1, p, hn, h => by
    rw [List.getElem?_cons_succ] at h
    rw [List.map_cons, List.nodup_cons] at hn
    have ne : ¬ x.1 = k := fun e => hn.1 (e ▸ List.mem_map.mpr ⟨(k, p), List.mem_of_getElem? h, rfl⟩)
    rw [List.eraseIdx_cons_succ, ← outH_erase hn.2 h]
    show List.filter _ _ = _
    rw [List.filter_cons_of_pos (by simp [ne])]
    rfl
theorem map_erase {α β : Type} (f : α → β) : ∀ (l : List α) (j : Nat), (l.eraseIdx j).map f = (l.map f).eraseIdx j
  | [], _ => rfl
  | _ :: _, 0 => rfl
  | x :: l, j + 1 => by rw [List.eraseIdx_cons_succ, List.map_cons, List.map_cons, List.eraseIdx_cons_succ, map_erase f l j]
variable {prog : Program} {w : World} {knd : HeapKind prog w κ} {A : Around} {E : Value → Shared → Prop} {s : Shared}
theorem out_heap {d a : Addr} {xs : List (κ × Addr × Value)} {k : κ} {p : Addr × Value} {Q : Option DictEntry → Shared → Prop} (hu : knd.room A) (hkey : knd.is s.heap k a) (hm : s.heap.DictOfH knd d xs) (hp : atKey xs k = some p)
    (hsome : ∀ e h', e.val = p.2 → h'.DictOfH knd d (outH xs k) → Heap.SameBut d s.heap h' → Q (some e) { s with heap := h', toks := s.toks + knd.draws k }) (hsz : xs.length ≤ sizeLine) :
    wpAny (model prog w) A (Builtin.Dict.takeOut d (.ref a)) Q E s := by
  obtain ⟨o, es, ep, ho, hc, hd, he, his, hn⟩ := hm
  unfold Builtin.Dict.takeOut
  try with_reducible refine wpAny_holding ?_
  refine wpAny_bind (knd.pyHash hu hkey (wpAny_bind (wpAny_dictFind_heap (s := { s with toks := s.toks + knd.draws k }) hu hkey ho hd he his hn (fun hno => ?_) (fun j p' hj => ?_))))
  · rw [atKey_none_of_get hno] at hp; cases hp
  · rw [atKey_of_get hn hj] at hp
    cases hp
    refine wpAny_bind (wpAny_dictEntries (s := { s with toks := s.toks + knd.draws k }) ho hd ?_)
    rw [entry_at he j, hj]
    refine wpAny_bind (wpAny_updateDictKeys (hz := by have e := size_of_entries he; omega) (s := { s with toks := s.toks + knd.draws k }) ho hd (wpAny_pure (hsome _ _ rfl ⟨_, _, ep + 1, Heap.get?_update_self _ ho (Obj.isFreed_of_dict (Obj.data_mapDictKeys hd _)), hc.mapDictKeys _, Obj.data_mapDictKeys hd _, ?_, ?_, ?_⟩ (Heap.SameBut.update ..))))
    · rw [outH_erase hn hj, map_erase, ← he]
      obtain ⟨l⟩ := es
      simp
    · intro x hx
      exact knd.keeps (his x (List.mem_filter.mp hx).1) ho hd (Heap.SameBut.update ..)
    · exact hn.sublist (List.filter_sublist.map _)
theorem pop_heap {d a : Addr} {xs : List (κ × Addr × Value)} {k : κ} {p : Addr × Value} {R : Result → Shared → Prop} (hu : knd.room A.in1) (hkey : knd.is s.heap k a) (hm : s.heap.DictOfH knd d xs) (hp : atKey xs k = some p) (hsz : xs.length ≤ sizeLine)
    (h : ∀ h', h'.DictOfH knd d (outH xs k) → Heap.SameBut d s.heap h' → R (.ok (.ret p.2)) { s with heap := h', toks := s.toks + knd.draws k }) :
    wpAny (model prog w) A.in1 (Builtin.«dict.pop» ⟨[.ref d, .ref a], []⟩) (fun fin s' => match fin with | .done f => R (.ok f) s' | .again c' => c'.quiet = true ∧ codeAny (model prog w) A c' R s') (fun e s' => R (.error e) s') s := by
  obtain ⟨o, es, ep, ho, hc, hd, he, his, hn⟩ := id hm
  have ne : es.isEmpty = false := by
    rw [Array.isEmpty_eq_false_iff]
    intro z
    rw [z] at he
    have e2 : xs = [] := by
      cases xs with
      | nil => rfl
      | cons x r => simp at he
    rw [e2] at hp
    cases hp
  unfold Builtin.«dict.pop»; refine wpAny_bind ?_
  unfold Builtin.Dict.keyAndDefault; refine wpAny_bind (wpAny_notOrdered_dict hm.typeIs ?_)
  show wpAny _ _ (pure (d, Value.ref a, none)) _ _ s; refine wpAny_pure ?_
  dsimp only; rw [if_neg (show ¬ ((keyPart (Value.ref a)).isSome = true) from by simp [keyPart])]
  refine wpAny_bind (wpAny_dictEntries ho hd ?_); refine wpAny_bind (wpAny_pure ?_)
  rw [ne]; simp only [Bool.false_eq_true, if_false]
  refine wpAny_bind (out_heap hu hkey hm hp (fun e h' hv hm' hs' => ?_) hsz)
  simp only [Option.isNone_some, Bool.false_eq_true, if_false]; refine wpAny_bind (wpAny_letGo (wpAny_pure ?_))
  show R (.ok (.ret e.val)) _
  rw [hv]; exact h h' hm' hs'
theorem popH (d a : Addr) : MeetsIn prog w (Builtin.«dict.pop» ⟨[.ref d, .ref a], []⟩) (fun A R s => knd.room A.in1 ∧ ∃ k xs p, knd.is s.heap k a ∧ s.heap.DictOfH knd d xs ∧ atKey xs k = some p ∧ xs.length ≤ sizeLine ∧
    ∀ h', h'.DictOfH knd d (outH xs k) → Heap.SameBut d s.heap h' → R (.ok (.ret p.2)) { s with heap := h', toks := s.toks + knd.draws k }) :=
  fun A R s hw' => by obtain ⟨hu, k, xs, p, h1, h2, h3, h4, h⟩ := hw'; exact pop_heap hu h1 h2 h3 h4 h
end
end DR
set_option Elab.async false
set_option linter.all false
set_option maxRecDepth 100000
namespace L2
open PySem PySem.Spec PyProof.Rows
theorem KT.out {H : Hp} {kvs : List (List Key × V)} {xs : List (List Key × Addr × Value)} (r : KT H kvs xs) (k : List Key) : KT H (dropK kvs k) (DR.outH xs k) := by
  induction r with
  | nil => exact .nil
  | @cons p q ps qs h t ih =>
    unfold dropK DR.outH
    by_cases e : p.1 = k
    · rw [List.filter_cons_of_neg (by simp [e]), List.filter_cons_of_neg (by simp [← h.1, e])]; exact ih
    · rw [List.filter_cons_of_pos (by simp [e]), List.filter_cons_of_pos (by simp [← h.1, e])]; exact .cons h ih
section
variable {X : Cx} {pins : List (Addr × Obj)} {σ : St} {H : Hp} {s : Shared} {a b : Addr} {A : Around} {E : Value → Shared → Prop}
/-- d.pop(t), t a tuple that is there -/
theorem d_popT {kvs : List (List Key × V)} {k : List Key} {v : V} {Q : Value → Shared → Prop} (hu : A.units + 1 < cLine) (I : Inv X pins σ H s) (e : H a = some (.dT kvs)) (eb : H b = some (.tup (k.map kV))) (l : valV kvs k = some v)
    (h : ∀ w' s', Inv X pins σ (upd H a (.dT (dropK kvs k))) s' → RelV v w' → Q w' s') : wpAny (model X.prog X.w) A (call (.builtin "dict.pop") [.ref a, .ref b]) Q E s := by
  obtain ⟨z, hd, xs, rel, dd⟩ := dt_of I.hok e
  obtain ⟨w', hw, rw'⟩ := RelO.some_of (v := v) (o := (atKey xs k).map (·.2)) (by rw [← l]; exact rel.val k)
  obtain ⟨p, hp, hp2⟩ := Option.map_eq_some_iff.mp hw
  have hz : xs.length ≤ sizeLine := by rw [← Paired.length rel]; exact z
  have hl : (dropK kvs k).length ≤ sizeLine := Nat.le_trans (dropK_le kvs k) z
  refine call_meetsIn PySem.F.slot_dict_pop dd.typeIs PySem.F.entry_dict_pop (PySem.F.args_dict_pop_2 _ _) (DR.popH (knd := tupleKind (mixKind X.prog X.w)) a b) ⟨tupleKind_room_in1 hu, k, xs, p, key_of I.hok eb, dd, hp, hz, fun h' dd' hs => ?_⟩
  obtain ⟨q, es, ep, hq, h2, h3, h4, _, h5⟩ := dd'
  show Q p.2 _
  rw [hp2]
  refine h w' _ (d_write I (by rw [e]; exact True.intro) hs ⟨q, hq⟩ ⟨hl, hd, _, (rel.out k).keeps fun c ys ec => ?_, q, es, ep, hq, h2, h3, h4, h5⟩) rw'
  rw [upd_ne (ne_of ec e (fun z => nomatch z))]
  exact ec
end
/-- d.pop(e), the key there -/
def tPop (td ty : TE) : TE := fun σ H Q => td σ H fun x H1 => ∃ a, x = .ref a ∧ IsD H1 a ∧ ty σ H1 fun y H2 => (∃ kvs k v, H2 a = some (.dK kvs) ∧ y = kV k ∧ valV kvs k = some v ∧ Q v (upd H2 a (.dK (dropK kvs k)))) ∨
  ∃ kvs k b v, H2 a = some (.dT kvs) ∧ y = .ref b ∧ H2 b = some (.tup (k.map kV)) ∧ valV kvs k = some v ∧ Q v (upd H2 a (.dT (dropK kvs k)))
section
variable {X : Cx} {o e : Expr} {apos cpos : Pos} {td ty : TE}
theorem pe_pop (hu : X.A.units + 1 < cLine) (ho : PE X o td) (he : PE X e ty) (m : M1 X o "pop" apos e cpos) : PE X (.Call (.Attribute o "pop" apos) [e] [] cpos) (tPop td ty) := by
  intro pins s σ H Q I h
  refine wpAny_Call_method m.base m.few m.line PySem.F.plainAttrs_dict PySem.F.slot_dict_pop PySem.F.type_dict_pop (thn (ho pins s σ H _ I h) fun u s1 hw' => ?_)
  obtain ⟨x, H1, I1, rx, a, ex, d, q1⟩ := hw'
  subst ex; obtain rfl : u = Value.ref a := rx
  obtain ⟨t1, t2, _⟩ := isD_at I1 d
  refine ⟨t1, t2, ?_⟩; rw [m.trees]
  refine Calls.callWith_builtin rfl (Calls.evalArgs_plain (Calls.spliced_cons (thn (he pins s1 σ H1 _ I1 q1) fun iv s2 ⟨y, H2, I2, ry, q2⟩ => Calls.spliced_nil ?_)))
  rcases q2 with ⟨kvs, k, v, ea, ey, l, q2⟩ | ⟨kvs, k, b, v, ea, ey, eb, l, q2⟩
  · subst ey; exact d_pop I2 ea ry l (.inl rfl) fun w' s3 I3 rw' => ⟨v, _, I3, rw', q2⟩
  · subst ey; obtain rfl : iv = Value.ref b := ry; exact d_popT hu I2 ea eb l fun w' s3 I3 rw' => ⟨v, _, I3, rw', q2⟩
end
end L2
set_option Elab.async false
set_option linter.all false
set_option maxRecDepth 100000
namespace DL
open PySem PySem.Spec PyProof.Rows L2

/-! ### d.pop(k), len(d), list(d) -/
def dropO : OS → D → Option (D × OS)
  | .dK kvs, d => (match keyD d with | some k => (match valD kvs k with | some v => some (v, .dK (dropD kvs k)) | none => none) | none => none)
  | .dT kvs, d => (match tkeyD d with | some k => (match valD kvs k with | some v => some (v, .dT (dropD kvs k)) | none => none) | none => none)
  | _, _ => none
def gDPop (go gk : Den) : Den := fun ρ Ω => match go ρ Ω with
  | some (.obj n, Ω1) => (match Ω1[n]? with
    | some o => if isDct o = true then (match gk ρ Ω1 with
      | some (k, Ω2) => (match Ω2[n]? with
        | some o2 => (match dropO o2 k with | some (v, o3) => some (v, Ω2.set n o3) | none => none)
        | none => none)
      | none => none) else none
    | none => none)
  | _ => none
section
variable {K : PySem.W.Frag} {C : Cl} {e : E4} {Ω : List OS}
theorem Wf.tups (w : Wf K C e Ω) : ∃ e1 : E4, e1.H = e.H ∧ e1.α = e.α ∧ Ext e e1 ∧ Wf K C e1 Ω ∧ ∀ b xs, e.H b = some (.tup xs) → e1.F b = some (.tup xs) := by
  let F' : Hp := fun b => match e.H b with
    | some (.tup xs) => some (.tup xs)
    | _ => e.F b
  have ft : ∀ b xs, e.H b = some (.tup xs) → F' b = some (.tup xs) := fun b xs h => by show (match e.H b with | some (.tup xs) => some (HO.tup xs) | _ => e.F b) = _; rw [h]
  have fo : ∀ b, (∀ xs, e.H b ≠ some (.tup xs)) → F' b = e.F b := fun b h => by
    show (match e.H b with | some (.tup xs) => some (HO.tup xs) | _ => e.F b) = _
    cases q : e.H b with
    | none => rfl
    | some o => cases o <;> first | rfl | exact absurd q (h _)
  have ff : Same e.F F' := fun b o h => by
    by_cases q : ∃ xs, e.H b = some (.tup xs)
    · obtain ⟨xs, q⟩ := q
      rw [ft b xs q, ← q]; exact w.fh b o h
    · rw [fo b fun xs z => q ⟨xs, z⟩]; exact h
  have fh : Same F' e.H := fun b o h => by
    by_cases q : ∃ xs, e.H b = some (.tup xs)
    · obtain ⟨xs, q⟩ := q
      rw [ft b xs q] at h; rw [q]; exact h
    · rw [fo b fun xs z => q ⟨xs, z⟩] at h; exact w.fh b o h
  refine ⟨⟨e.α, F', e.A, e.H⟩, rfl, rfl, ⟨fun _ _ _ h => h, fun _ _ h _ => h, fun _ o h => ⟨o, h⟩, ff, fun b o h => ?_, fun _ h => .inl h, fun _ h => h, [], by simp⟩, ⟨fh, fun b h => ?_, w.ah, w.ol, w.nd, fun n a o h1 h2 => ⟨(w.ob n a o h1 h2).1, (w.ob n a o h1 h2).2.keep (fun _ z => z) ff ⟨[], by simp⟩⟩⟩, ft⟩
  · have h : F' b = some o := h
    by_cases q : ∃ xs, e.H b = some (.tup xs)
    · obtain ⟨xs, q⟩ := q
      rw [ft b xs q] at h
      cases h
      exact .inr (.inr ⟨⟨xs, rfl⟩, q, fun z => (w.ah b z).2 xs q⟩)
    · rw [fo b fun xs z => q ⟨xs, z⟩] at h; exact .inl h
  · show F' b = none
    rw [fo b (w.ah b h).2]; exact w.fa b h
theorem dpop_of (w : Wf K C e Ω) {n : Nat} {a : Addr} {o o' : OS} {d x : D} {y : V} {Q : VK} (hα : e.α[n]? = some a) (hΩ : Ω[n]? = some o) (hp : dropO o d = some (x, o')) (i : Is K e.α e.F d y)
    (k : ∀ v e', Ext e e' → Wf K C e' (Ω.set n o') → Is K e'.α e'.F x v → Q v e'.H) :
    (∃ kvs k v, e.H a = some (.dK kvs) ∧ y = kV k ∧ valV kvs k = some v ∧ Q v (upd e.H a (.dK (dropK kvs k)))) ∨
    ∃ kvs k b v, e.H a = some (.dT kvs) ∧ y = .ref b ∧ e.H b = some (.tup (k.map kV)) ∧ valV kvs k = some v ∧ Q v (upd e.H a (.dT (dropK kvs k))) := by
  have ob := (w.ob n a o hα hΩ).2
  unfold dropO at hp
  cases o with
  | dK kvs =>
    obtain ⟨vs, h1, h2⟩ := ob
    dsimp only at hp
    cases q : keyD d with
    | none => rw [q] at hp; cases hp
    | some kk =>
      rw [q] at hp
      dsimp only at hp
      cases q2 : valD kvs kk with
      | none => rw [q2] at hp; cases hp
      | some v0 =>
        rw [q2] at hp
        cases hp
        have ov := h2.val kk
        rw [q2] at ov
        obtain ⟨v, e1, iv⟩ := ov.some_of
        obtain ⟨w', x'⟩ := w.at (o' := .dK (dropD kvs kk)) (ho := .dK (dropK vs kk)) hα (fun xs z => nomatch z) ⟨_, upd_same, h2.drop kk⟩ fun o u z => by rw [h1] at z; cases z
        exact .inl ⟨vs, kk, v, h1, keyD_v q i, e1, k v (e.at a _) x' w' iv⟩
  | dT kvs =>
    obtain ⟨vs, h1, h2⟩ := ob
    dsimp only at hp
    cases q : tkeyD d with
    | none => rw [q] at hp; cases hp
    | some kk =>
      rw [q] at hp
      dsimp only at hp
      cases q2 : valD kvs kk with
      | none => rw [q2] at hp; cases hp
      | some v0 =>
        rw [q2] at hp
        cases hp
        have ov := h2.val kk
        rw [q2] at ov
        obtain ⟨v, e1, iv⟩ := ov.some_of
        obtain ⟨b, rfl, hb⟩ := tkeyD_v q i
        obtain ⟨w', x'⟩ := w.at (o' := .dT (dropD kvs kk)) (ho := .dT (dropK vs kk)) hα (fun xs z => nomatch z) ⟨_, upd_same, h2.drop kk⟩ fun o u z => by rw [h1] at z; cases z
        exact .inr ⟨vs, kk, b, v, h1, rfl, w.fh _ _ hb, e1, k v (e.at a _) x' w' iv⟩
  | _ => cases hp
end
theorem obj_ext {K : PySem.W.Frag} {e e' : E4} {n : Nat} {p : Addr} (x : Ext e e') (h : e.α[n]? = some p) : e'.α[n]? = some p := by
  obtain ⟨more, z⟩ := x.al
  rw [z, List.getElem?_append_left (List.getElem?_eq_some_iff.mp h).1]; exact h
section
variable {X : Cx} {C : Cl} {a b x : Expr} {f g h : Den} {ga : ADen} {pos pos' ap cp : Pos}
theorem pd_dpop (hu : X.A.units + 1 < cLine) (ho : PD X C a f) (hi : PD X C b g) (m : M1 X a "pop" ap b cp) : PD X C (.Call (.Attribute a "pop" ap) [b] [] cp) (gDPop f g) := pe_imp (pe_pop hu ho hi m) fun σ H Q hw' => by
  obtain ⟨e, Ω, ρ, d, Ω', eH, w, rl, q, kk⟩ := hw'
  unfold gDPop at q
  cases q1 : f ρ Ω with
  | none => rw [q1] at q; cases q
  | some p1 =>
    obtain ⟨d1, Ω1⟩ := p1
    rw [q1] at q
    cases d1 with
    | obj n =>
      dsimp only at q
      cases q0 : Ω1[n]? with
      | none => rw [q0] at q; cases q
      | some o0 =>
        rw [q0] at q
        dsimp only at q
        by_cases hd : isDct o0 = true
        · rw [if_pos hd] at q
          cases q2 : g ρ Ω1 with
          | none => rw [q2] at q; cases q
          | some p2 =>
            obtain ⟨k, Ω2⟩ := p2
            rw [q2] at q
            dsimp only at q
            cases q3 : Ω2[n]? with
            | none => rw [q3] at q; cases q
            | some o =>
              rw [q3] at q
              dsimp only at q
              cases q4 : dropO o k with
              | none => rw [q4] at q; cases q
              | some r =>
                obtain ⟨v0, o3⟩ := r
                rw [q4] at q
                cases q
                refine ⟨e, Ω, ρ, _, Ω1, eH, w, rl, q1, fun v e1 x1 w1 i1 => ?_⟩
                rw [Is] at i1
                obtain ⟨p, hα, rfl⟩ := i1
                refine ⟨p, rfl, isD_of w1 hα q0 hd, ?_⟩
                refine ⟨e1, Ω1, ρ, k, _, rfl, w1, rl.ext x1, q2, fun u e2 x2 w2 i2 => ?_⟩
                exact dpop_of w2 (obj_ext (K := X.K) x2 hα) q3 q4 i2 fun v e' x' w' iv => kk v e' ((x1.trans x2).trans x') w' iv
        · rw [if_neg hd] at q; cases q
    | _ => cases q
/-! ### fields -/
structure ClD (K : PySem.W.Frag) (C : Cl) (c : Str) : Prop where
  ex : ∃ Ca, C c = some Ca ∧ Cls K Ca
/-! ### methods -/
structure Mt (P : Program) (w : World) (K : PySem.W.Frag) (mg : Str → Option Value) (base : Heap) (C : Cl) (k : Nat) (c m : Str) (F : FDen) (dfl : List D) : Prop where
  ex : ∃ Ca f fd ps ds dvs, C c = some Ca ∧ Cls K Ca ∧ Meth K Ca m f ∧ Binds K fd ps ds ∧ Vals dvs ds ∧ (∀ α H, IsL K α H dfl dvs) ∧ FnOk P w K mg base CX0 k f fd ps (spD K C F)
/-! ### a new instance -/
structure MkD (P : Program) (w : World) (K : PySem.W.Frag) (mg : Str → Option Value) (base : Heap) (C : Cl) (k : Nat) (c : Str) (F : FDen) (dfl : List D) : Prop where
  ex : ∃ Ca f fd ps ds dvs, C c = some Ca ∧ mg c = some (.ref Ca) ∧ Mk K Ca f ∧ Binds K fd ps ds ∧ Vals dvs ds ∧ (∀ α H, IsL K α H dfl dvs) ∧ FnOk P w K mg base CX0 k f fd ps (spD K C F)
end
/-! ### a def of no parameter is called; the law with objects -/
theorem law_okO {K : PySem.W.Frag} {C : Cl} {F : FDen} {H : Hp} {a : Addr} {ns : List Int} {E : XK} (hS : SqL K H a (ns.map V.int)) (h : ∃ Ω, F [.scr ns] [] = some (.bl true, Ω)) : spD K C F [.ref a] H (fun v _ => v = .bl true) E := by
  obtain ⟨Ω, h⟩ := h
  refine ⟨⟨[], H, fun _ => False, H⟩, [], [.scr ns], .bl true, Ω, rfl, ⟨Same.refl _, fun _ h => h.elim, fun _ h => h.elim, rfl, List.nodup_nil, fun n a o h => by simp at h⟩, ?_, h, fun v e' _ _ i => ?_⟩
  · exact .cons (by rw [Is]; exact ⟨a, rfl, hS⟩) .nil
  · rw [Is] at i; exact i
end DL
set_option Elab.async false
set_option linter.all false
set_option maxRecDepth 100000
namespace DL
open PySem PySem.Spec PyProof.Rows L2
/-! ### a def with defaults; methods -/
structure FunV (K : PySem.W.Frag) (x qual : Str) (st : Stmt) (dV : Value) (f : Addr) (fd : FuncData) : Prop where
  ex : ∃ (oc : Value) (od : Option Addr) (kV doc pm : Value) (an : Option Addr) (cdv ct : Value) (osl : Array (Option Value)),
    fd = PySem.W.fnOf x qual (defArgs st) (defBody st) (defScope st) dV kV doc pm an cdv ct ∧ K.lookup f = some ⟨oc, od, .func fd, osl⟩ ∧ PySem.W.codeIn K cdv qual = true
/-- the law, whatever the classes' places are -/
def spC (K : PySem.W.Frag) (F : FDen) : Sp := fun vs H Q E => ∀ C : Cl, spD K C F vs H Q E
theorem law_okC {K : PySem.W.Frag} {F : FDen} {H : Hp} {a : Addr} {ns : List Int} {E : XK} (hS : SqL K H a (ns.map V.int)) (h : ∃ Ω, F [.scr ns] [] = some (.bl true, Ω)) : spC K F [.ref a] H (fun v _ => v = .bl true) E := fun C => law_okO hS h
/-! what each word is worth at a place -/
section
variable (ρ : List Sl) (Ω : List OS)
@[simp] theorem ap_newK : gNewK ρ Ω = some (.obj Ω.length, Ω ++ [.dK []]) := (rfl)
@[simp] theorem ap_dget (go gi : Den) : gDGet go gi ρ Ω = match go ρ Ω with
  | some (.obj n, Ω1) => (match gi ρ Ω1 with
    | some (k, Ω2) => (match Ω2[n]? with
      | some o => (match lookO o k with | some (some d) => some (d, Ω2) | _ => none)
      | none => none)
    | none => none)
  | _ => none := (rfl)
@[simp] theorem ap_din (neg : Bool) (gk go : Den) : gDIn neg gk go ρ Ω = match gk ρ Ω with
  | some (k, Ω1) => (match go ρ Ω1 with
    | some (.obj n, Ω2) => (match Ω2[n]? with
      | some o => (match lookO o k with | some r => some (.bl (if neg then !r.isSome else r.isSome), Ω2) | none => none)
      | none => none)
    | _ => none)
  | none => none := (rfl)
@[simp] theorem ap_dget2 (go gk gx : Den) : gDGet2 go gk gx ρ Ω = match go ρ Ω with
  | some (.obj n, Ω1) => (match Ω1[n]? with
    | some o => (if isDct o = true then (match gk ρ Ω1 with
      | some (k, Ω2) => (match gx ρ Ω2 with
        | some (x, Ω3) => (match Ω3[n]? with
          | some o2 => (match lookO o2 k with | some r => some (r.getD x, Ω3) | none => none)
          | none => none)
        | none => none)
      | none => none) else none)
    | none => none)
  | _ => none := (rfl)
@[simp] theorem ap_dput (go gi gv : Den) : sDPut go gi gv ρ Ω = match gv ρ Ω with
  | some (v, Ω1) => (match go ρ Ω1 with
    | some (.obj n, Ω2) => (match gi ρ Ω2 with
      | some (k, Ω3) => (match Ω3[n]? with
        | some o => (match putO o k v with | some o' => some (.nx ρ (Ω3.set n o')) | none => none)
        | none => none)
      | none => none)
    | _ => none)
  | none => none := (rfl)
@[simp] theorem ap_dpop (go gk : Den) : gDPop go gk ρ Ω = match go ρ Ω with
  | some (.obj n, Ω1) => (match Ω1[n]? with
    | some o => (if isDct o = true then (match gk ρ Ω1 with
      | some (k, Ω2) => (match Ω2[n]? with
        | some o2 => (match dropO o2 k with | some (v, o3) => some (v, Ω2.set n o3) | none => none)
        | none => none)
      | none => none) else none)
    | none => none)
  | _ => none := (rfl)
@[simp] theorem look_dT (kvs : List (List Key × D)) (xs : List D) : lookO (.dT kvs) (.tup xs) = (match keysD xs with | some k => some (valD kvs k) | none => none) := (rfl)
@[simp] theorem put_dT (kvs : List (List Key × D)) (xs : List D) (v : D) : putO (.dT kvs) (.tup xs) v = (match keysD xs with | some k => (if kvs.length < 100000 then some (.dT (putD kvs k v)) else none) | none => none) := (rfl)
@[simp] theorem drop_dT (kvs : List (List Key × D)) (xs : List D) : dropO (.dT kvs) (.tup xs) = (match keysD xs with | some k => (match valD kvs k with | some v => some (v, .dT (dropD kvs k)) | none => none) | none => none) := (rfl)
@[simp] theorem keys_2 (i j : Int) : keysD [.int i, .int j] = some [.inl i, .inl j] := (rfl)
@[simp] theorem isDct_dT (kvs : List (List Key × D)) : isDct (.dT kvs) = true := (rfl)
end
end DL
set_option Elab.async false
set_option linter.all false
set_option maxRecDepth 100000
namespace L2
open PySem PySem.Spec PyProof.Rows
section
variable {X : Cx} {tg : Expr}
end
end L2
namespace DL
open PySem PySem.Spec PyProof.Rows L2
section
variable {X : Cx} {C : Cl} {tg : Expr} {ga : ADen} {pos p : Pos}
end
end DL
set_option Elab.async false
set_option linter.all false
set_option maxRecDepth 100000
/-! the tree of questions of a sort, answered by ranks -/
namespace KS
open PySem PySem.W PyProof.Rows

def kw {α : Type} (N : Nat) (lt : Nat → Nat → Bool) : KasT α → (α → Prop) → Prop
  | .ret a, Q => Q a
  | .ask i j k, Q => i < N ∧ j < N ∧ kw N lt (k (lt i j)) Q
theorem kw_bind {α β : Type} {N : Nat} {lt : Nat → Nat → Bool} {f : α → KasT β} {Q : β → Prop} : ∀ t : KasT α, kw N lt t (fun a => kw N lt (f a) Q) → kw N lt (t.bind f) Q
  | .ret _, h => h
  | .ask i j k, ⟨h1, h2, h3⟩ => ⟨h1, h2, kw_bind (k (lt i j)) h3⟩
abbrev rk (r : Nat → Nat) (p : Array Nat) (m : Nat) : Nat := r (p.getD m 0)
structure Pm (N : Nat) (p : Array Nat) : Prop where
  perm : p.Perm (List.range N).toArray
  pos : 0 < N
theorem Pm.size {N : Nat} {p : Array Nat} (h : Pm N p) : p.size = N := by rw [h.perm.size_eq]; simp
theorem Pm.lt {N : Nat} {p : Array Nat} (h : Pm N p) (m : Nat) : p.getD m 0 < N := by
  by_cases hm : m < p.size
  · have e : p.getD m 0 = p[m] := by simp [Array.getD, hm]
    rw [e]
    have : p[m] ∈ (List.range N).toArray := h.perm.mem_iff.mp (Array.getElem_mem hm)
    simpa using this
  · have e : p.getD m 0 = 0 := by simp [Array.getD, hm]
    rw [e]; exact h.pos
theorem getD_of {p : Array Nat} (m : Nat) : p.getD m 0 = (p[m]?).getD 0 := by simp [Array.getD_eq_getD_getElem?]
theorem rk_mirror (r : Nat → Nat) {p : Array Nat} {i j : Nat} (hj : j ≤ p.size) (k : Nat) : rk r (kas_rev p i j) k = if i ≤ k ∧ k < j then rk r p (i + j - 1 - k) else rk r p k := by
  have e := getElem?_mirror_all (i := i) hj k
  unfold rk kas_rev
  rw [getD_of, getD_of, getD_of, e]
  split <;> rfl
theorem rk_bubble (r : Nat → Nat) {p : Array Nat} {src d : Nat} (hs : src < p.size) (hd : d ≤ src) (k : Nat) :
    rk r (bubble p src d) k = if k = src - d then rk r p src else if src - d < k ∧ k ≤ src then rk r p (k - 1) else rk r p k := by
  have e := getElem?_bubble hs d hd k
  unfold rk
  rw [getD_of, getD_of, getD_of, getD_of, e]
  split
  · rfl
  · split <;> rfl
def Up (r : Nat → Nat) (p : Array Nat) (n : Nat) : Prop := ∀ i j, i ≤ j → j < n → rk r p i ≤ rk r p j
def Dn (r : Nat → Nat) (p : Array Nat) (n : Nat) : Prop := ∀ i j, i ≤ j → j < n → rk r p j ≤ rk r p i
section
variable {N : Nat} {r : Nat → Nat}
abbrev ltR (r : Nat → Nat) (i j : Nat) : Bool := decide (r i < r j)
theorem Pm.rev {p : Array Nat} (h : Pm N p) (i j : Nat) : Pm N (kas_rev p i j) := ⟨(mirror_perm p i j _).trans h.perm, h.pos⟩
theorem Pm.bub {p : Array Nat} (h : Pm N p) (i j : Nat) : Pm N (bubble p i j) := ⟨(bubble_perm p i j).trans h.perm, h.pos⟩
theorem up_succ {p : Array Nat} {n : Nat} (h : Up r p n) (h1 : 1 ≤ n) (hl : rk r p (n - 1) ≤ rk r p n) : Up r p (n + 1) := fun i j hij hj => by
  by_cases hjn : j < n
  · exact h i j hij hjn
  · have : j = n := by omega
    subst this
    by_cases hi : i = j
    · subst hi; exact Nat.le_refl _
    · exact Nat.le_trans (h i (j - 1) (by omega) (by omega)) hl
theorem dn_succ {p : Array Nat} {n : Nat} (h : Dn r p n) (h1 : 1 ≤ n) (hl : rk r p n ≤ rk r p (n - 1)) : Dn r p (n + 1) := fun i j hij hj => by
  by_cases hjn : j < n
  · exact h i j hij hjn
  · have : j = n := by omega
    subst this
    by_cases hi : i = j
    · subst hi; exact Nat.le_refl _
    · exact Nat.le_trans hl (h i (j - 1) (by omega) (by omega))
theorem asc {p : Array Nat} {Q : Nat → Prop} (hB : Pm N p) : ∀ (f n : Nat), 1 ≤ n → n + f ≤ N → Up r p n → (∀ m, n ≤ m → m ≤ n + f → Up r p m → (m = n + f ∨ rk r p m < rk r p (m - 1)) → Q m) → kw N (ltR r) (kas_asc p f n) Q
  | 0, n, h1, hn, hs, h => h n (Nat.le_refl _) (Nat.le_refl _) hs (.inl rfl)
  | f + 1, n, h1, hn, hs, h => by
    refine ⟨hB.lt n, hB.lt (n - 1), ?_⟩
    by_cases hc : rk r p n < rk r p (n - 1)
    · have e : ltR r (p.getD n 0) (p.getD (n - 1) 0) = true := decide_eq_true hc
      rw [e]; dsimp only; rw [if_pos rfl]
      exact h n (Nat.le_refl _) (by omega) hs (.inr hc)
    · have e : ltR r (p.getD n 0) (p.getD (n - 1) 0) = false := decide_eq_false hc
      rw [e]; dsimp only; rw [if_neg (by decide)]
      exact asc hB f (n + 1) (by omega) (by omega) (up_succ hs h1 (by omega)) fun m a b c d => h m (by omega) (by omega) c (d.elim (fun d => .inl (by omega)) .inr)
theorem mirror_same {p : Array Nat} {i j : Nat} (hj : j ≤ p.size) (he : ∀ k, i ≤ k → k < j → rk r p k = rk r p (j - 1)) (k : Nat) : rk r (kas_rev p i j) k = rk r p k := by
  rw [rk_mirror r hj]
  split
  · rw [he _ (by omega) (by omega), he k (by omega) (by omega)]
  · rfl
theorem desc {Q : Array Nat × Nat × Nat → Prop} {hi : Nat} : ∀ (f : Nat) (p : Array Nat) (n q : Nat), Pm N p → 1 ≤ n → n + f = hi → hi ≤ N → Dn r p n → q + 1 ≤ n → (∀ i, n - (q + 1) ≤ i → i < n → rk r p i = rk r p (n - 1)) →
    (∀ p' m q', Pm N p' → 1 ≤ m → m ≤ hi → Dn r p' m → q' + 1 ≤ m → (∀ i, m - (q' + 1) ≤ i → i < m → rk r p' i = rk r p' (m - 1)) → Q (p', m, q')) → kw N (ltR r) (kas_desc f p n q) Q
  | 0, p, n, q, hB, h1, hn, hN, hs, hq, he, h => h p n q hB h1 (by omega) hs hq he
  | f + 1, p, n, q, hB, h1, hn, hN, hs, hq, he, h => by
    have hsz := hB.size
    refine ⟨hB.lt n, hB.lt (n - 1), ?_⟩
    by_cases hc : rk r p n < rk r p (n - 1)
    · have e : ltR r (p.getD n 0) (p.getD (n - 1) 0) = true := decide_eq_true hc
      rw [e]; dsimp only; rw [if_pos rfl]
      by_cases hq0 : q > 0
      · rw [if_pos hq0]
        have same := mirror_same (r := r) (p := p) (i := n - (q + 1)) (j := n) (by omega) he
        refine desc f _ (n + 1) 0 (hB.rev _ _) (by omega) (by omega) hN ?_ (by omega) (fun i a b => by congr 1; congr 1; omega) h
        refine dn_succ (fun i j a b => ?_) h1 ?_
        · rw [same, same]; exact hs i j a b
        · rw [same, same]; omega
      · rw [if_neg hq0]
        exact desc f p (n + 1) 0 hB (by omega) (by omega) hN (dn_succ hs h1 (by omega)) (by omega) (fun i a b => by congr 1; congr 1; omega) h
    · have e : ltR r (p.getD n 0) (p.getD (n - 1) 0) = false := decide_eq_false hc
      rw [e]; dsimp only; rw [if_neg (by decide)]
      refine ⟨hB.lt (n - 1), hB.lt n, ?_⟩
      by_cases hd : rk r p (n - 1) < rk r p n
      · have e : ltR r (p.getD (n - 1) 0) (p.getD n 0) = true := decide_eq_true hd
        rw [e]; dsimp only; rw [if_pos rfl]
        exact h p n q hB h1 (by omega) hs hq he
      · have e : ltR r (p.getD (n - 1) 0) (p.getD n 0) = false := decide_eq_false hd
        rw [e]; dsimp only; rw [if_neg (by decide)]
        refine desc f p (n + 1) (q + 1) hB (by omega) (by omega) hN (dn_succ hs h1 (by omega)) (by omega) (fun i a b => ?_) h
        show rk r p i = rk r p n
        by_cases hi : i = n
        · rw [hi]
        · rw [he i (by omega) (by omega)]; omega
theorem tail3 {p : Array Nat} {Q : Nat × Array Nat → Prop} {n nrem : Nat} (hB : Pm N p) (h1 : 1 ≤ n) (hn : n ≤ nrem) (hN : nrem ≤ N) (hs : Dn r p n)
    (h : ∀ m p', Pm N p' → 1 ≤ m → m ≤ nrem → Up r p' m → Q (m, p')) : kw N (ltR r) (kas_tail3 n nrem p) Q := by
  have hsz := hB.size
  unfold kas_tail3
  refine kw_bind _ (asc (hB.rev 0 n) _ n h1 (by omega) (fun i j a b => ?_) fun m a b c _ => h m _ (hB.rev 0 n) (by omega) (by omega) c)
  rw [rk_mirror r (by omega), rk_mirror r (by omega), if_pos (by omega), if_pos (by omega)]
  exact hs _ _ (by omega) (by omega)
theorem descPart {p : Array Nat} {Q : Nat × Array Nat → Prop} {n nrem : Nat} (hB : Pm N p) (hn : n + 1 ≤ nrem) (hN : nrem ≤ N) (hs : Dn r p (n + 1))
    (h : ∀ m p', Pm N p' → 1 ≤ m → m ≤ nrem → Up r p' m → Q (m, p')) : kw N (ltR r) (kas_descPart n nrem p) Q := by
  unfold kas_descPart
  refine kw_bind _ (desc (hi := nrem) _ p (n + 1) 0 hB (by omega) (by omega) hN hs (by omega) (fun i a b => by congr 1; congr 1; omega) fun p' m q' hB' m1 m2 hs' hq' he' => ?_)
  dsimp only
  have hsz := hB'.size
  by_cases hq0 : q' > 0
  · rw [if_pos hq0]
    have same := mirror_same (r := r) (p := p') (i := m - (q' + 1)) (j := m) (by omega) he'
    exact tail3 (hB'.rev _ _) m1 m2 hN (fun i j a b => by rw [same, same]; exact hs' i j a b) h
  · rw [if_neg hq0]
    exact tail3 hB' m1 m2 hN hs' h
theorem count {p : Array Nat} {Q : Nat × Array Nat → Prop} {nrem : Nat} (hB : Pm N p) (h1 : 1 ≤ nrem) (hN : nrem ≤ N)
    (h : ∀ m p', Pm N p' → 1 ≤ m → m ≤ nrem → Up r p' m → Q (m, p')) : kw N (ltR r) (kas_count nrem p) Q := by
  have hsz := hB.size
  unfold kas_count
  refine kw_bind _ (asc hB _ 1 (Nat.le_refl _) (by omega) (fun i j a b => by have : i = j := (by omega); subst this; exact Nat.le_refl _) fun n n1 n2 hs hor => ?_)
  by_cases hnn : n = nrem
  · rw [if_pos (by simpa using hnn)]
    exact h n p hB n1 (by omega) hs
  · rw [if_neg (by simpa using hnn)]
    have hlt : rk r p n < rk r p (n - 1) := hor.resolve_left (by omega)
    by_cases hg : n > 1
    · rw [if_pos hg]
      refine ⟨hB.lt 0, hB.lt (n - 1), ?_⟩
      by_cases hc : rk r p 0 < rk r p (n - 1)
      · have e : ltR r (p.getD 0 0) (p.getD (n - 1) 0) = true := decide_eq_true hc
        rw [e]; dsimp only; rw [if_pos rfl]
        exact h n p hB n1 (by omega) hs
      · have e : ltR r (p.getD 0 0) (p.getD (n - 1) 0) = false := decide_eq_false hc
        rw [e]; dsimp only; rw [if_neg (by decide)]
        have all : ∀ k, 0 ≤ k → k < n → rk r p k = rk r p (n - 1) := fun k _ hk => by
          have a1 := hs 0 k (by omega) hk
          have a2 := hs k (n - 1) (by omega) (by omega)
          omega
        have same := mirror_same (r := r) (p := p) (i := 0) (j := n) (by omega) all
        refine descPart (hB.rev _ _) (by omega) hN (dn_succ (fun i j a b => ?_) n1 ?_) h
        · rw [same, same, all i (by omega) (by omega), all j (by omega) b]; exact Nat.le_refl _
        · rw [same, same]; omega
    · rw [if_neg hg]
      have : n = 1 := by omega
      subst this
      exact descPart hB (by omega) hN (dn_succ (fun i j a b => by have : i = j := (by omega); subst this; exact Nat.le_refl _) (Nat.le_refl _) (by omega)) h
theorem place {p : Array Nat} {Q : Nat → Prop} {k : Nat} (hB : Pm N p) (hs : Up r p k) : ∀ (f l q : Nat), l ≤ q → q ≤ k → q - l ≤ f → (∀ i, i < l → rk r p i ≤ rk r p k) → (∀ i, q ≤ i → i < k → rk r p k < rk r p i) →
    (∀ m, m ≤ k → (∀ i, i < m → rk r p i ≤ rk r p k) → (∀ i, m ≤ i → i < k → rk r p k < rk r p i) → Q m) → kw N (ltR r) (kas_place p k f l q) Q
  | 0, l, q, a, b, c, lo, hi, h => h l (by omega) lo (fun i x y => hi i (by omega) y)
  | f + 1, l, q, a, b, c, lo, hi, h => by
    unfold kas_place
    by_cases hge : l ≥ q
    · rw [if_pos hge]
      exact h l (by omega) lo (fun i x y => hi i (by omega) y)
    · rw [if_neg hge]
      refine ⟨hB.lt k, hB.lt _, ?_⟩
      by_cases hc : rk r p k < rk r p ((l + q) / 2)
      · have e : ltR r (p.getD k 0) (p.getD ((l + q) / 2) 0) = true := decide_eq_true hc
        rw [e]; dsimp only; rw [if_pos rfl]
        exact place hB hs f l ((l + q) / 2) (by omega) (by omega) (by omega) lo (fun i x y => Nat.lt_of_lt_of_le hc (hs _ _ x y)) h
      · have e : ltR r (p.getD k 0) (p.getD ((l + q) / 2) 0) = false := decide_eq_false hc
        rw [e]; dsimp only; rw [if_neg (by decide)]
        exact place hB hs f ((l + q) / 2 + 1) q (by omega) (by omega) (by omega) (fun i x => Nat.le_trans (hs i ((l + q) / 2) (by omega) (by omega)) (by omega)) hi h
theorem ins {p : Array Nat} {k l : Nat} (hB : Pm N p) (hk : k < N) (hl : l ≤ k) (hs : Up r p k) (lo : ∀ i, i < l → rk r p i ≤ rk r p k) (hi : ∀ i, l ≤ i → i < k → rk r p k < rk r p i) : Up r (bubble p k (k - l)) (k + 1) := fun i j a b => by
  have hsz := hB.size
  rw [rk_bubble r (by omega) (by omega), rk_bubble r (by omega) (by omega), show k - (k - l) = l by omega]
  by_cases c1 : i = l
  · rw [if_pos c1]
    by_cases d1 : j = l
    · rw [if_pos d1]; exact Nat.le_refl _
    · rw [if_neg d1, if_pos (by omega)]
      exact Nat.le_of_lt (hi (j - 1) (by omega) (by omega))
  · rw [if_neg c1]
    by_cases c2 : l < i ∧ i ≤ k
    · rw [if_pos c2, if_neg (by omega), if_pos (by omega)]
      exact hs _ _ (by omega) (by omega)
    · rw [if_neg c2]
      by_cases d1 : j = l
      · rw [if_pos d1]; exact lo i (by omega)
      · rw [if_neg d1]
        by_cases d2 : l < j ∧ j ≤ k
        · rw [if_pos d2]; exact hs _ _ (by omega) (by omega)
        · rw [if_neg d2]; exact hs _ _ (by omega) (by omega)
theorem bin {Q : Array Nat → Prop} : ∀ (f : Nat) (p : Array Nat) (k : Nat), Pm N p → k + f = N → 1 ≤ k → Up r p k → (∀ p', Pm N p' → Up r p' N → Q p') → kw N (ltR r) (kas_bin f p k) Q
  | 0, p, k, hB, hf, h1, hs, h => h p hB (by rw [← hf]; exact hs)
  | f + 1, p, k, hB, hf, h1, hs, h => by
    unfold kas_bin
    exact kw_bind _ (place hB hs k 0 k (by omega) (Nat.le_refl _) (by omega) (fun i x => by omega) (fun i x y => by omega) fun m hm lo hi =>
      bin f _ (k + 1) (hB.bub _ _) (by omega) (by omega) (ins hB (by omega) hm hs lo hi) h)
theorem sort {Q : Array Nat → Prop} (h2 : 2 ≤ N) (h : ∀ p, Pm N p → Up r p N → Q p) : kw N (ltR r) (kas_sort N) Q := by
  unfold kas_sort
  have hB : Pm N (List.toArray (List.range N)) := ⟨Array.Perm.refl _, by omega⟩
  refine kw_bind _ (count hB (by omega) (Nat.le_refl _) fun m p' hB' m1 m2 hs => ?_)
  dsimp only
  by_cases hm : m < N
  · rw [if_pos hm]
    rw [show max m 1 = m by omega]
    exact bin _ p' m hB' (by omega) m1 hs h
  · rw [if_neg hm]
    exact h p' hB' (by have : m = N := (by omega); subst this; exact hs)
end

/-! ranks -/
section
variable {β : Type} (lt : β → β → Bool)
end
end KS
set_option Elab.async false
set_option linter.all false
set_option maxRecDepth 100000
/-! sorted(xs, key=f), over any heap -/
namespace KS
open PySem PySem.W PySem.Calls PyProof.Rows
section
variable {prog : Program} {w : World} {A : Around} {E : Value → Shared → Prop} {s : Shared} {a kS : Addr} {vs ks : List Value} {κ : SortKind}
def Kept (s : Shared) (h' : Heap) (bs : List Addr) : Prop := ∀ b o, b ∉ bs → s.heap.get? b = some o → h'.get? b = some o
end
end KS
set_option Elab.async false
set_option linter.all false
set_option maxRecDepth 100000
namespace L2
open PySem PySem.Spec PyProof.Rows KS PySem.W
theorem getD_get {β : Type} {l : List β} {i : Nat} {d : β} (h : i < l.length) : l.getD i d = l[i] := by rw [List.getD_eq_getElem?_getD, List.getElem?_eq_getElem h]; rfl
theorem fp_to {X : Cx} {pins : List (Addr × Obj)} {H H' : Hp} {b : Addr} (f : FpOk X pins H b) (h : H' b = none) : FpOk X pins H' b := ⟨h, f.2⟩
/-- an untracked list of ours is filled and tracked, another record has turned -/
theorem Inv.adopt {X : Cx} {pins : List (Addr × Obj)} {σ : St} {H : Hp} {s : Shared} {h' : Heap} {kS D : Addr} {its : List Value} {xs : List V} {c : Nat} (I : Inv X pins σ H s) (fk : FpOk X pins H kS) (fd : FpOk X pins H D) (k : Kept s h' [kS, D])
    (hD : h'.get? D = some (seqObj "list" (List.toArray its) c)) (hv : Vals xs its) (hz : xs.length ≤ sizeLine) : Inv X pins σ (upd H D (.lst xs)) { s with heap := h' } := by
  obtain ⟨k0, k1, k2, k3, k4, k5⟩ := fk
  obtain ⟨d0, d1, d2, d3, d4, d5⟩ := fd
  have nk : ∀ b u, H b = some u → b ≠ kS := fun b u e z => by rw [z, k0] at e; cases e
  have nD : ∀ b u, H b = some u → b ≠ D := fun b u e z => by rw [z, d0] at e; cases e
  have kp : ∀ b o, b ∉ [kS, D] → s.heap.get? b = some o → h'.get? b = some o := k
  refine I.step (g' := s.gens) (d' := s.drawn) (t' := s.toks) (ch := [kS, D]) (fun b hb => ?_) (fun b o _ _ hc e _ => kp b o hc e) (fun b o _ _ hc e _ => ⟨o.slots, kp b o hc e⟩) (fun b o hc e n => ?_) (fun b o hc e => ⟨o, kp b o hc e⟩)
    (fun b ys e => by rw [upd_ne (nD b _ e)]; exact e) (fun b o u e => by rw [upd_ne (nD b _ e)]; exact e) (fun b ps e => ⟨#[], by rw [upd_ne (nD b _ e), e]; simp⟩) (fun m hm => ?_) (fun b u e => ?_) I.bare
  · rw [List.mem_cons, List.mem_singleton] at hb
    rcases hb with rfl | rfl
    · exact ⟨k3, k1, k4, k5⟩
    · exact ⟨d3, d1, d4, d5⟩
  · rw [upd_ne (fun z => hc (by simp [z]))]; exact n
  · obtain ⟨o, es, ep, ho, r⟩ := hm
    exact ⟨o, es, ep, kp _ o (by simp [Ne.symm k1, Ne.symm d1]) ho, r⟩
  · by_cases z : b = D
    · subst z
      rw [upd_same] at e
      cases e
      exact ⟨hz, its, c, hv, hD⟩
    · rw [upd_ne z] at e
      refine (I.hok b u e).stay (fun c v hc q => kp c v ?_ q) (fun c q => by rw [upd_ne (nD c _ q)]; exact q) fun c ys q => by rw [upd_ne (nD c _ q)]; exact q
      rw [List.mem_cons, List.mem_singleton, not_or]
      rcases hc with z | z
      · rw [z]; exact ⟨nk b u e, nD b u e⟩
      · exact ⟨nk c _ z, nD c _ z⟩
/-- a tuple of ints, none empty, at each place -/
def KeysAre (H : Hp) (vks : List V) (nss : List (List Int)) : Prop := Paired (fun (v : V) (ns : List Int) => ∃ b, v = .ref b ∧ H b = some (.tup (ns.map V.int)) ∧ ns ≠ []) vks nss
section
variable {X : Cx} {k : Nat} {f : Addr} {fd : FuncData} {ps : List Str} {sp : Sp} {pins : List (Addr × Obj)} {σ : St} {H : Hp} {s : Shared}
theorem Paired.get {α β : Type} {R : α → β → Prop} : ∀ {xs : List α} {ys : List β} {i : Nat} {x : α}, Paired R xs ys → xs[i]? = some x → ∃ y, ys[i]? = some y ∧ R x y
  | _, _, 0, _, .cons r _, e => by cases e; exact ⟨_, rfl, r⟩
  | _, _, i + 1, x, .cons _ t, e => by
    obtain ⟨y, h1, h2⟩ := Paired.get (i := i) (x := x) t e
    exact ⟨y, h1, h2⟩
  | _, _, _, _, .nil, e => by simp at e
theorem lexLt_irrefl : ∀ a, HT.lexLt a a = false
  | [] => rfl
  | x :: a => by rw [HT.lexLt_cons, if_pos rfl]; exact lexLt_irrefl a
theorem lexLt_trans : ∀ a b c, HT.lexLt a b = true → HT.lexLt b c = true → HT.lexLt a c = true
  | [], [], _, h, _ => by cases h
  | [], _ :: _, [], _, h => by cases h
  | [], _ :: _, _ :: _, _, _ => rfl
  | _ :: _, [], _, h, _ => by cases h
  | x :: a, y :: b, [], _, h => by cases h
  | x :: a, y :: b, z :: c, h1, h2 => by
    rw [HT.lexLt_cons] at h1 h2 ⊢
    split at h1
    · rename_i e
      subst e
      split at h2
      · rename_i e
        subst e
        rw [if_pos rfl]; exact lexLt_trans a b c h1 h2
      · rename_i ne
        rw [if_neg ne]; exact h2
    · rename_i ne
      split at h2
      · rename_i e
        subst e
        rw [if_neg ne]; exact h1
      · have h1 := of_decide_eq_true h1
        have h2 := of_decide_eq_true h2
        rw [if_neg (by omega)]; exact decide_eq_true (by omega)
theorem lexLt_eq : ∀ a b, HT.lexLt a b = false → HT.lexLt b a = false → a = b
  | [], [], _, _ => rfl
  | [], _ :: _, h, _ => by cases h
  | _ :: _, [], _, h => by cases h
  | x :: a, y :: b, h1, h2 => by
    rw [HT.lexLt_cons] at h1 h2
    by_cases e : x = y
    · subst e
      rw [if_pos rfl] at h1 h2
      rw [lexLt_eq a b h1 h2]
    · rw [if_neg e] at h1
      rw [if_neg (fun z => e z.symm)] at h2
      have h1 := of_decide_eq_false h1
      have h2 := of_decide_eq_false h2
      omega
end
end L2
set_option Elab.async false
set_option linter.all false
set_option maxRecDepth 100000
/-! == of plain data: as it stands -/
namespace DL
open PySem
mutual
def pl : D → Bool
  | .non => true
  | .int _ => true
  | .str x => (PyData.str x).canLay0
  | .tup xs => plL xs
  | .lst xs => plL xs
  | _ => false
def plL : List D → Bool
  | [] => true
  | d :: ds => pl d && plL ds
end
mutual
def dep : D → Nat
  | .tup xs => depL xs + 1
  | .lst xs => depL xs + 1
  | _ => 0
def depL : List D → Nat
  | [] => 0
  | d :: ds => max (dep d) (depL ds)
end
mutual
theorem lay_pl : ∀ d : D, pl d = true → (toP d).canLay0 = true
  | .non, _ => by rw [toP]; rfl
  | .int _, _ => by rw [toP]; rfl
  | .str x, h => by rw [pl] at h; rw [toP]; exact h
  | .tup xs, h => by rw [pl] at h; rw [toP, PyData.canLay0]; exact lay_plL xs h
  | .lst xs, h => by rw [pl] at h; rw [toP, PyData.canLay0]; exact lay_plL xs h
  | .bl _, h => by simp [pl] at h
  | .scr _, h => by simp [pl] at h
  | .obj _, h => by simp [pl] at h
theorem lay_plL : ∀ ds : List D, plL ds = true → PyData.canLayAll0 (toPs ds) = true
  | [], _ => by rw [toPs]; rfl
  | d :: ds, h => by
    rw [plL, Bool.and_eq_true] at h
    rw [toPs, PyData.canLayAll0, Bool.and_eq_true]
    exact ⟨lay_pl d h.1, lay_plL ds h.2⟩
end
mutual
theorem dep_pl : ∀ d : D, pl d = true → (toP d).depth = dep d
  | .non, _ => by rw [toP, dep]; rfl; all_goals (intro _ z; cases z)
  | .int _, _ => by rw [toP, dep]; rfl; all_goals (intro _ z; cases z)
  | .str x, h => by rw [toP, dep]; rfl; all_goals (intro _ z; cases z)
  | .tup xs, h => by rw [pl] at h; rw [toP, dep, PyData.depth, dep_plL xs h]
  | .lst xs, h => by rw [pl] at h; rw [toP, dep, PyData.depth, dep_plL xs h]
  | .bl _, h => by simp [pl] at h
  | .scr _, h => by simp [pl] at h
  | .obj _, h => by simp [pl] at h
theorem dep_plL : ∀ ds : List D, plL ds = true → PyData.depthAll (toPs ds) = depL ds
  | [], _ => by rw [toPs, depL]; rfl
  | d :: ds, h => by
    rw [plL, Bool.and_eq_true] at h
    rw [toPs, depL, PyData.depthAll, dep_pl d h.1, dep_plL ds h.2]
end
theorem shaped_pl {d : D} (h : pl d = true) (hd : dep d ≤ 64) : SeqAt.shaped (toP d) = true := by
  unfold SeqAt.shaped
  rw [lay_pl d h, dep_pl d h]
  simp [hd]
mutual
theorem eqv_pl : ∀ (p q : D), pl p = true → pl q = true → (PyData.eqv (toP p) (toP q) = true ↔ p = q)
  | .non, q, _, hq => by cases q <;> simp [toP, PyData.eqv, pl] at hq ⊢
  | .int i, q, _, hq => by cases q <;> simp [toP, PyData.eqv, pl] at hq ⊢
  | .str x, q, _, hq => by cases q <;> simp [toP, PyData.eqv, pl] at hq ⊢
  | .tup xs, q, hp, hq => by
    cases q with
    | tup ys =>
      rw [pl] at hp hq
      rw [toP, toP, PyData.eqv, eqv_plL xs ys hp hq]
      exact ⟨fun h => by rw [h], fun h => by injection h⟩
    | _ => simp [toP, PyData.eqv, pl] at hq ⊢
  | .lst xs, q, hp, hq => by
    cases q with
    | lst ys =>
      rw [pl] at hp hq
      rw [toP, toP, PyData.eqv, eqv_plL xs ys hp hq]
      exact ⟨fun h => by rw [h], fun h => by injection h⟩
    | _ => simp [toP, PyData.eqv, pl] at hq ⊢
  | .bl _, _, h, _ => by simp [pl] at h
  | .scr _, _, h, _ => by simp [pl] at h
  | .obj _, _, h, _ => by simp [pl] at h
theorem eqv_plL : ∀ (ps qs : List D), plL ps = true → plL qs = true → (PyData.eqvAll (toPs ps) (toPs qs) = true ↔ ps = qs)
  | [], [], _, _ => by simp [toPs, PyData.eqvAll]
  | [], _ :: _, _, _ => by simp [toPs, PyData.eqvAll]
  | _ :: _, [], _, _ => by simp [toPs, PyData.eqvAll]
  | p :: ps, q :: qs, hp, hq => by
    rw [plL, Bool.and_eq_true] at hp hq
    rw [toPs, toPs, PyData.eqvAll, Bool.and_eq_true, eqv_pl p q hp.1 hq.1, eqv_plL ps qs hp.2 hq.2]
    exact ⟨fun h => by rw [h.1, h.2], fun h => by injection h with a b; exact ⟨a, b⟩⟩
end
theorem eq_self_pl (neg : Bool) {p : D} (h : pl p = true) (hd : dep p ≤ 64) : eqD neg p p = some (.bl (!neg)) := by
  unfold eqD
  rw [shaped_pl h hd, (eqv_pl p p h h).mpr rfl]
  cases neg <;> rfl
end DL
set_option Elab.async false
set_option linter.all false
set_option maxRecDepth 100000
/-! sorted(xs), over any heap -/
namespace KS
open PySem PySem.W PySem.Calls PyProof.Rows
section
variable {prog : Program} {w : World} {A : Around} {E : Value → Shared → Prop} {s : Shared} {a : Addr} {vs : List Value}
end
end KS
set_option Elab.async false
set_option linter.all false
set_option maxRecDepth 100000
namespace L2
open PySem PySem.Spec PyProof.Rows KS PySem.W
section
variable {X : Cx} {pins : List (Addr × Obj)} {σ : St} {H : Hp} {s : Shared}
end
end L2
set_option Elab.async false
set_option linter.all false
set_option maxRecDepth 100000
namespace DL
open PySem PySem.Spec PyProof.Rows L2
section
variable {X : Cx} {C : Cl} {n : Str} {p pos kpos npos : Pos} {a : Expr} {g : Den} {k : Nat}
/-! ### sorted(.., key = f) -/
def intsD : List D → Option (List Int)
  | [] => some []
  | .int i :: r => match intsD r with
    | some ns => some (i :: ns)
    | none => none
  | _ => none
def keyI : D → Option (List Int)
  | .tup ds => match intsD ds with
    | some (n :: ns) => some (n :: ns)
    | _ => none
  | _ => none
theorem intsD_map : ∀ {ds : List D} {ns : List Int}, intsD ds = some ns → ds = ns.map D.int
  | [], ns, h => by cases h; rfl
  | .int i :: r, ns, h => by
    unfold intsD at h
    cases q : intsD r with
    | none => rw [q] at h; cases h
    | some ms => rw [q] at h; cases h; rw [intsD_map q]; rfl
  | .non :: _, _, h => nomatch h
  | .bl _ :: _, _, h => nomatch h
  | .str _ :: _, _, h => nomatch h
  | .tup _ :: _, _, h => nomatch h
  | .lst _ :: _, _, h => nomatch h
  | .scr _ :: _, _, h => nomatch h
  | .obj _ :: _, _, h => nomatch h
theorem keyI_of {d : D} {ns : List Int} (h : keyI d = some ns) : d = .tup (ns.map D.int) ∧ ns ≠ [] := by
  unfold keyI at h
  split at h
  · split at h
    · rename_i e
      cases h
      exact ⟨by rw [intsD_map e], by simp⟩
    · cases h
  · cases h
theorem isL_ints {K : PySem.W.Frag} {α : List Addr} {F : Hp} : ∀ {ns : List Int} {vs : List V}, IsL K α F (ns.map D.int) vs → vs = ns.map V.int
  | [], _, h => h.of_nil
  | n :: ns, _, h => by
    obtain ⟨v, r, rfl, h1, t⟩ := h.of_cons
    rw [Is] at h1
    rw [isL_ints t, h1]; rfl
theorem keys_of {K : PySem.W.Frag} {α : List Addr} {F H : Hp} (ff : Same F H) : ∀ {nss : List (List Int)} {vs : List V}, (∀ ns ∈ nss, ns ≠ []) → IsL K α F (nss.map fun ns => D.tup (ns.map D.int)) vs → KeysAre H vs nss
  | [], vs, _, h => by rw [h.of_nil]; exact .nil
  | ns :: nss, vs, hn, h => by
    obtain ⟨v, r, rfl, h1, t⟩ := h.of_cons
    refine .cons ?_ (keys_of ff (fun m hm => hn m (List.mem_cons_of_mem _ hm)) t)
    rw [Is] at h1
    obtain ⟨b, us, rfl, hb, ib⟩ := h1
    rw [isL_ints ib] at hb
    exact ⟨b, rfl, ff _ _ hb, hn ns List.mem_cons_self⟩
end
end DL
set_option Elab.async false
set_option linter.all false
set_option maxRecDepth 100000
namespace HT
open PySem PySem.Spec PyProof.Rows PySem.SeqAt
open PySem.AutoSeq1 (wpAny_loadPart')
open PySem.MeetsSeq PySem.MeetsSeq2 PySem.MeetsSeq3
end HT
set_option Elab.async false
set_option linter.all false
set_option maxRecDepth 100000
namespace L2
open PySem PySem.Spec PyProof.Rows
section
variable {X : Cx}
open Classical in
open Classical in
end
end L2
namespace DL
open PySem PySem.Spec PyProof.Rows L2
section
variable {X : Cx} {C : Cl} {x a b : Expr} {f g : Den} {gl : ADen} {n : Str} {p pos : Pos}
end
end DL
set_option Elab.async false
set_option linter.all false
set_option maxRecDepth 100000
namespace DL
open PySem PySem.Spec PyProof.Rows L2
/-! ### lists that are new -/
def tDN (K : PySem.W.Frag) (C : Cl) (g : ADen) : TE := fun σ H Q => ∃ e Ω ρ ds Ω', e.H = H ∧ Wf K C e Ω ∧ RelE K e σ ρ ∧ g ρ Ω = some (ds, Ω') ∧
  ∀ a vs e', Ext e e' → Wf K C e' Ω' → IsL K e'.α e'.F ds vs → e'.H a = none → Q (.ref a) (upd e'.H a (.lst vs))
def PDN (X : Cx) (C : Cl) (x : Expr) (g : ADen) : Prop := PE X x (tDN X.K C g)
abbrev NDen := List D → List OS → Option (List D × List OS)
def spN (K : PySem.W.Frag) (C : Cl) (f : NDen) : Sp := fun vs H Q _ => ∃ e Ω ds xs Ω', e.H = H ∧ Wf K C e Ω ∧ IsL K e.α e.F ds vs ∧ f ds Ω = some (xs, Ω') ∧
  ∀ a us e', Ext e e' → Wf K C e' Ω' → IsL K e'.α e'.F xs us → e'.H a = none → Q (.ref a) (upd e'.H a (.lst us))
def frN (f : NDen) : FDen := fun ds Ω => match f ds Ω with
  | some (xs, Ω') => some (.lst xs, Ω')
  | none => none
structure FnN (P : Program) (w : World) (K : PySem.W.Frag) (mg : Str → Option Value) (base : Heap) (C : Cl) (k : Nat) (n : Str) (F : NDen) : Prop where
  ex : ∃ f fd ps, mg n = some (.ref f) ∧ PySem.W.keepIn K (.ref f) = true ∧ Binds K fd ps [] ∧ FnOk P w K mg base CX0 k f fd ps (spN K C F)
theorem FnN.fn {P : Program} {w : World} {K : PySem.W.Frag} {mg : Str → Option Value} {base : Heap} {C : Cl} {k : Nat} {n : Str} {F : NDen} (G : FnN P w K mg base C k n F) : Fn P w K mg base C k n (frN F) := by
  obtain ⟨f, fd, ps, h1, h2, h3, ok⟩ := G.ex
  refine ⟨f, fd, ps, h1, h2, h3, ok.imp fun vs H Q E ⟨e, Ω, ds, d, Ω', eH, w, il, q, kk⟩ => ?_⟩
  unfold frN at q
  cases q1 : F ds Ω with
  | none => rw [q1] at q; cases q
  | some p1 =>
    obtain ⟨xs, Ω1⟩ := p1
    rw [q1] at q
    cases q
    refine ⟨e, Ω, ds, xs, _, eH, w, il, q1, fun a us e' x' w' iu ha => ?_⟩
    refine kk _ (e'.new a _) (x'.trans (w'.new_ext ha)) (w'.new ha) ?_
    rw [Is]
    exact ⟨a, us, rfl, upd_same, iu.ext (w'.new_ext ha)⟩
section
variable {X : Cx} {C : Cl} {k : Nat} {n : Str} {p pos kpos npos : Pos} {x a : Expr} {es : List Expr} {ga : ADen} {g : Den}
end
end DL
set_option Elab.async false
set_option linter.all false
set_option maxRecDepth 100000
/-! texts -/
namespace L2
open PySem PySem.Spec PyProof.Rows
section
variable {X : Cx} {tg : Expr}
end
end L2
set_option Elab.async false
set_option linter.all false
set_option maxRecDepth 100000
namespace L2
open PySem PySem.Spec PyProof.Rows
section
variable {X : Cx}
theorem call_allB (hh : X.A.handled = none) : CallR X (.builtin "all") (fun xs H Q => ∃ (p : Addr) (bs : List Bool), xs = [V.ref p] ∧ SqL X.K H p (bs.map V.bl) ∧ Q (.bl (bs.all id)) H) := by
  intro pins s σ H xs us Q I r h
  obtain ⟨p, bs, rfl, hp, q⟩ := h
  obtain ⟨u, rfl, ru⟩ := vals1 r
  cases ru
  obtain ⟨its, rv, pl, _⟩ := I.list hp
  have hlt : p < s.heap.objs.size := by obtain ⟨_, _, e, _⟩ := pl; exact Heap.lt_size e
  have hl := rv.length
  rw [List.length_map] at hl
  refine call_all_walk (wpAny_pyIter_list pl.isList ?_)
  refine ⟨s.heap.objs.size, [s.heap.objs.size, p], [s.heap.objs.size], its.toArray.size, _, _, fun i => (bs[i]?).getD true, rfl, Walks.list (A := X.A.in1) hh _ p (Nat.ne_of_lt hlt) its.toArray, ⟨⟨_, Heap.get?_push_size _ rfl, rfl, rfl⟩, pl.isList.push _⟩, fun i v s' Q' E' hP hQ => ?_, fun h' tk hk => ?_⟩
  · have hi : i < its.length := by
      have : its.toArray[i]? = some v := hP
      have := (Array.getElem?_eq_some_iff.mp this).1
      simpa using this
    have hb : i < bs.length := by omega
    obtain ⟨u, e1, e2⟩ := rv.get (i := i) (x := V.bl bs[i]) (by rw [List.getElem?_map, List.getElem?_eq_getElem hb]; rfl)
    have e3 : its.toArray[i]? = some v := hP
    rw [show its.toArray[i]? = its[i]? by simp, e1] at e3
    cases e3
    cases (show v = Value.bool bs[i] from e2)
    dsimp only at hQ
    rw [List.getElem?_eq_getElem hb, Option.getD_some] at hQ
    exact wpAny_truthy_bool hQ
  · have e : ((List.range its.toArray.size).all fun i => (bs[i]?).getD true) = bs.all id := by
      rw [List.size_toArray, ← hl]
      have : ∀ l : List Bool, ((List.range l.length).all fun i => (l[i]?).getD true) = l.all id := by
        intro l
        induction l with
        | nil => rfl
        | cons b l ih =>
          rw [List.length_cons, List.range_succ_eq_map, List.all_cons, List.all_map, List.all_cons, ← ih]
          rfl
      exact this bs
    rw [e]
    refine ⟨.bl _, H, I.kept (t' := tk) fun b o q => ?_, rfl, q⟩
    exact hk b o (fun hm => by rw [List.mem_singleton.mp hm] at q; exact Nat.lt_irrefl _ (Heap.lt_size q)) (Heap.get?_push_of_some _ q)
end
end L2
set_option Elab.async false
set_option linter.all false
set_option maxRecDepth 100000
namespace DL
open PySem PySem.Spec PyProof.Rows L2
def blsD : List D → Option (List Bool)
  | [] => some []
  | .bl b :: r => match blsD r with
    | some bs => some (b :: bs)
    | none => none
  | _ => none
def allD : List D → Option D
  | [.lst ds] => match blsD ds with
    | some bs => some (.bl (bs.all id))
    | none => none
  | _ => none
theorem isL_bls {K : PySem.W.Frag} {α : List Addr} {F : Hp} : ∀ {ds : List D} {bs : List Bool} {vs : List V}, blsD ds = some bs → IsL K α F ds vs → vs = bs.map V.bl
  | [], zs, vs, h, i => by cases h; exact i.of_nil
  | .bl z :: r, zs, vs, h, i => by
    obtain ⟨v, t, rfl, i1, i2⟩ := i.of_cons
    unfold blsD at h
    cases q : blsD r with
    | none => rw [q] at h; cases h
    | some ys =>
      rw [q] at h
      cases h
      rw [Is] at i1
      rw [i1, isL_bls q i2]
      rfl
  | .non :: _, _, _, h, _ => nomatch h
  | .str _ :: _, _, _, h, _ => nomatch h
  | .int _ :: _, _, _, h, _ => nomatch h
  | .tup _ :: _, _, _, h, _ => nomatch h
  | .lst _ :: _, _, _, h, _ => nomatch h
  | .scr _ :: _, _, _, h, _ => nomatch h
  | .obj _ :: _, _, _, h, _ => nomatch h
section
variable {X : Cx} {C : Cl} {x a b tg : Expr} {f g : Den} {n : Str} {p pos ap cp : Pos}
theorem callD_all (hh : X.A.handled = none) : CallD X C (.builtin "all") allD := by
  rintro pins s σ H xs us Q I r ⟨e, Ω, ds, z, eH, w, i, q, kk⟩
  subst eH
  match ds, q with
  | [.lst es], q =>
    obtain ⟨v, rfl, iv⟩ := isL_one i
    rw [Is] at iv
    obtain ⟨l, vs, rfl, hF, il⟩ := iv
    unfold allD at q
    dsimp only at q
    cases q1 : blsD es with
    | none => rw [q1] at q; cases q
    | some bs =>
      rw [q1] at q
      cases q
      rw [isL_bls q1 il] at hF
      exact call_allB hh pins s σ _ _ us Q I r ⟨l, bs, rfl, SqL.of (w.fh _ _ hF), kk _ e (Ext.refl e) w (by rw [Is])⟩
end
end DL
set_option Elab.async false
set_option linter.all false
set_option maxRecDepth 100000
/-! an exception of a class of the text is raised -/
namespace L2
open PySem PySem.Spec PyProof.Rows
section
variable {X : Cx} {x : Str} {C : Addr} {bmB : List Value} {B newId initId : String} {np cpos pos : Pos} {e : Expr} {te : TE}
end
/-- how an exception of a class of the text lies behind a call: its object flies over the callers' frames, what is tracked lies as H' tells -/
def CXr (P : Program) (w : World) : CXT := fun outer H s E e s' => ∃ (ea C t : Addr) (H' : Hp) (B : Heap), e = .ref ea ∧ E (.ref C) none H' ∧ s'.os = s.os ∧ AllBare s'.gens ∧ Un (frs outer) [] H H' s.heap s'.heap ∧ HOk P w H' s'.heap ∧
  Heap.FlyingW B outer ea (.ref C) (.ref t) s'.heap ∧ (∀ b o, H' b = some o → ∃ ob, B.get? b = some ob) ∧ H' ea = none ∧ ∀ b o, s.heap.get? b = some o → H b = none → b ∉ frs outer → B.get? b = some o
end L2
set_option Elab.async false
set_option linter.all false
set_option maxRecDepth 100000
/-! an exception of a class of the text is caught -/
namespace L2
open PySem PySem.Spec PyProof.Rows
/-- what has come of a call that raised: whatever is noted of the exception, the state is as H' tells -/
structure Flown (X : Cx) (pins : List (Addr × Obj)) (σ : St) (ea C t : Addr) (H : Hp) (B : Heap) (s : Shared) : Prop where
  fl : Heap.FlyingW B X.stack ea (.ref C) (.ref t) s.heap
  nea : H ea = none
  inv : ∀ h', B.StaysIn h' → s.heap.UpToSlots h' → Inv X pins σ H { s with heap := h' }
  new : ∀ b o, X.s₀.heap.get? b = some o → X.H₀ b = none → b ∉ X.ex → b ≠ ea
  pne : ∀ p ∈ X.pn ++ pins, p.1 ≠ ea
/-- within an except suite -/
abbrev Cx.mark (X : Cx) (v : Value) : Cx := { X with A := X.A.mark (some v), calm := false }
theorem Inv.mark {X : Cx} {pins : List (Addr × Obj)} {σ : St} {H : Hp} {s : Shared} (I : Inv X pins σ H s) (v : Value) : Inv (X.mark v) pins σ H s :=
  ⟨⟨I.ok.mod, I.ok.kind, I.ok.glob, I.ok.blt, I.ok.above, I.ok.inj, I.ok.has, I.ok.cab, (fun z => absurd z Bool.false_ne_true), I.ok.frames, I.ok.stk, I.ok.exf, I.ok.bs, I.ok.bsz, I.ok.noex, I.ok.exfs, I.ok.funs, I.ok.frf⟩, I.os, I.bare, I.base, I.loc, I.cell, I.free, I.freeC, I.pin, I.hok, I.len⟩
section
variable {X : Cx} {pins : List (Addr × Obj)} {σ : St} {ea C t : Addr} {H : Hp} {B : Heap} {s : Shared} {x n : Str} {np hpos : Pos} {cv : Value} {i : Nat} {b₀ : Stmt} {suite : List Stmt} {rest : List ExceptHandler} {Q : Flow → Shared → Prop} {E : Value → Shared → Prop} {b : Bool}
end
end L2
set_option Elab.async false
set_option linter.all false
set_option maxRecDepth 100000
/-! calls that may raise; try: .. return, except C as n: .. return -/
namespace L2
open PySem PySem.Spec PyProof.Rows
section
variable {X : Cx} {k : Nat} {f C : Addr} {fd : FuncData} {ps : List Str} {sp : Sp} {dvs : List V} {ds : List Value} {x m : Str} {p pos apos : Pos} {e o : Expr} {es : List Expr} {ta : TE} {t : TA}
end
/-- only a return is wanted -/
def Ends.only (r : VK) : Ends := { nx := fun _ _ => False, rt := r, bk := fun _ _ => False, ct := fun _ _ => False }
section
variable {X : Cx} {body : List Stmt} {x n : Str} {np hpos pos : Pos} {cv : Value} {i : Nat} {b₀ : Stmt} {suite : List Stmt} {tb : List (Addr × Obj) → (Value → Shared → Prop) → TS} {th : TS}
end
end L2
set_option Elab.async false
set_option linter.all false
set_option maxRecDepth 100000
/-! isinstance of an exception of a class of the text -/
namespace PySem.W
open PySem PySem.Spec PySem.Calls PyProof.Rows PySem.Builtin.ObjectAttr PySem PySem.Calls PyProof.Rows Builtin Builtin.ObjectAttr Builtin.Getset_descriptor
/-- an object of the class D, whatever its dict -/
def ObAt (h : Heap) (x D : Addr) : Prop := ∃ ox, h.get? x = some ox ∧ ox.cls = .ref D
theorem ObAt.type {M : Model} {h : Heap} {x D : Addr} (I : ObAt h x D) : Looks M h (typeOf (.ref x)) (.ref D) := by
  obtain ⟨ox, h1, h2⟩ := I
  exact h2 ▸ (Looks.ld h1).andThen .now
section
variable {prog : Program} {w : World} {A : Around} {E : Value → Shared → Prop} {s : Shared} {K : Frag} {x D : Addr}
/-- what isinstance wants to know of an exception class of the text -/
structure ExcLook (K : Frag) (D : Addr) : Prop where
  cl : (clsIn K D).isSome = true
  ga : findIn K (.ref D) "__getattribute__" = some (some (.builtin "BaseException.__getattribute__"))
  hk : findIn K (.ref D) "__getattr__" = some none
  sub : subIn K (.ref D) (.type "BaseException") = some true
  ha : findIn K (.ref D) "__class__" = some (some (.builtin "object.__class__"))
  hn : specialIn K (.builtin "object.__class__") "__get__" = some (some (.builtin "getset_descriptor.__get__"))
  tk : takesIn K (.builtin "object.__class__") = some true
  hm : mroIn K D (.type "object") = some true
theorem ExcLook.find {M : Model} {h : Heap} (T : ExcLook K D) (X : K.In h) : Looks M h (find (.ref x) (.ref D) "__class__") (.bind (.builtin "getset_descriptor.__get__") (.builtin "object.__class__")) := by
  have L1 := looks_findIn (M := M) X T.ha
  have L2 : Looks M h (getOf (some (.builtin "object.__class__"))) (some (.builtin "getset_descriptor.__get__")) := looks_specialIn X T.hn
  have L3 := looks_takesIn (M := M) X T.tk
  unfold Builtin.ObjectAttr.find
  refine L1.andThen (L2.andThen ?_)
  have L4 : Looks M h (dataDescriptor? (some (.builtin "object.__class__")) (some (.builtin "getset_descriptor.__get__"))) (some (.builtin "getset_descriptor.__get__", .builtin "object.__class__")) := L3.andThen .now
  exact L4.andThen (Looks.tag .now)
end
end PySem.W
set_option Elab.async false
set_option linter.all false
set_option maxRecDepth 100000
namespace DL
open PySem PySem.Spec PyProof.Rows L2
section
variable {X : Cx} {C : Cl} {x y : Expr} {g : Den} {pos p : Pos} {n : Str} {t : Str → Option Bool}
end
end DL
set_option Elab.async false
set_option linter.all false
set_option maxRecDepth 100000
/-! THE WAY OUT BY AN EXCEPTION, beside the way through (PD, PDS, PDB): what raises, of which class, with which objects. -/
namespace DL
open PySem PySem.Spec PyProof.Rows L2
abbrev RDen := List Sl → List OS → Option (Str × List OS)
abbrev XFDen := List D → List OS → Option (Str × List OS)
abbrev SRDen := List Sl → List OS → Option (Str × List Sl × List OS)
abbrev XWt := St → Addr → Hp → Prop
def tR (K : PySem.W.Frag) (C : Cl) (XW : XWt) (r : RDen) : TE := fun σ H _ => ∃ e Ω ρ c Ω' Ca, e.H = H ∧ Wf K C e Ω ∧ RelE K e σ ρ ∧ r ρ Ω = some (c, Ω') ∧ C c = some Ca ∧ ∀ e', Ext e e' → Wf K C e' Ω' → XW σ Ca e'.H
def RD (X : Cx) (C : Cl) (XW : XWt) (x : Expr) (r : RDen) : Prop := PE X x (tR X.K C XW r)
def tRS (K : PySem.W.Frag) (C : Cl) (XW : XWt) (e₀ : E4) (r : SRDen) : TS := fun _ σ H => ∃ e Ω ρ c ρ' Ω' Ca, e.H = H ∧ RelS K C e₀ e Ω σ ρ ∧ r ρ Ω = some (c, ρ', Ω') ∧ C c = some Ca ∧ ∀ e' σ', RelS K C e₀ e' Ω' σ' ρ' → XW σ' Ca e'.H
def RDS (X : Cx) (C : Cl) (XW : XWt) (st : Stmt) (r : SRDen) : Prop := ∀ e₀, PS X st (tRS X.K C XW e₀ r)
def RDB (X : Cx) (C : Cl) (XW : XWt) (sts : List Stmt) (r : SRDen) : Prop := ∀ e₀, PSs X sts (tRS X.K C XW e₀ r)
section
variable {X : Cx} {C : Cl} {XW : XWt} {a b c x : Expr} {f g : Den} {p : TDen} {st : Stmt} {rest sts sts' : List Stmt} {s : SDen} {r r1 r2 : SRDen} {rx : RDen} {pos : Pos}
end
end DL
set_option Elab.async false
set_option linter.all false
set_option maxRecDepth 100000
namespace DL
open PySem PySem.Spec PyProof.Rows L2
/-! ### defs that may raise -/
def spX (K : PySem.W.Frag) (C : Cl) (F : FDen) (R : XFDen) : Sp := fun vs H Q E => spD K C F vs H Q E ∨ ∃ e Ω ds c Ω' Ca, e.H = H ∧ Wf K C e Ω ∧ IsL K e.α e.F ds vs ∧ R ds Ω = some (c, Ω') ∧ C c = some Ca ∧ ∀ e', Ext e e' → Wf K C e' Ω' → E (.ref Ca) none e'.H
/-! ### methods that may raise -/
structure MtX (P : Program) (w : World) (K : PySem.W.Frag) (mg : Str → Option Value) (base : Heap) (C : Cl) (k : Nat) (c m : Str) (F : FDen) (R : XFDen) (dfl : List D) : Prop where
  ex : ∃ Ca f fd ps ds dvs, C c = some Ca ∧ Cls K Ca ∧ Meth K Ca m f ∧ Binds K fd ps ds ∧ Vals dvs ds ∧ (∀ α H, IsL K α H dfl dvs) ∧ FnOk P w K mg base (CXr P w) k f fd ps (spX K C F R)
section
variable {X : Cx} {C : Cl} {XW : XWt} {a b x : Expr} {f g : Den} {ga : ADen} {r : RDen} {pos ap cp : Pos}
/-! ### calls of defs that may raise -/
end
structure FnX (P : Program) (w : World) (K : PySem.W.Frag) (mg : Str → Option Value) (base : Heap) (C : Cl) (k : Nat) (n : Str) (F : FDen) (R : XFDen) : Prop where
  ex : ∃ f fd ps, mg n = some (.ref f) ∧ PySem.W.keepIn K (.ref f) = true ∧ Binds K fd ps [] ∧ FnOk P w K mg base (CXr P w) k f fd ps (spX K C F R)
section
variable {X : Cx} {C : Cl} {XW : XWt} {k : Nat} {F : FDen} {R : XFDen} {n : Str} {p pos : Pos} {a b x : Expr} {es : List Expr} {ga : ADen} {f g : Den} {r : RDen}
end
end DL
set_option Elab.async false
set_option linter.all false
set_option maxRecDepth 100000
namespace L2
open PySem PySem.Spec PyProof.Rows
end L2
namespace DL
open PySem PySem.Spec PyProof.Rows L2
section
variable {X : Cx} {C : Cl} {body : List Stmt} {x n : Str} {np hpos pos : Pos} {cv : Value} {i : Nat} {b₀ : Stmt} {suite : List Stmt} {s t : SDen} {r : SRDen} {tc : Str → Bool}
end
/-! ### more places where a part raises -/
section
variable {X : Cx} {C : Cl} {XW : XWt} {a b x : Expr} {es : List Expr} {rx : RDen} {n : Str} {p pos : Pos}
end
end DL
set_option Elab.async false
set_option linter.all false
set_option maxRecDepth 100000
namespace L2
open PySem PySem.Spec PyProof.Rows
section
variable {X : Cx} {a : Expr} {ta : TE} {z : Str} {kk : Nat} {p1 p2 pos : Pos}
end
end L2
namespace DL
open PySem PySem.Spec PyProof.Rows L2
/-! ### what has a value that is not told -/
abbrev VDen := List Sl → List OS → Option (List OS)
def tV (K : PySem.W.Frag) (C : Cl) (p : VDen) : TE := fun σ H Q => ∃ e Ω ρ Ω', e.H = H ∧ Wf K C e Ω ∧ RelE K e σ ρ ∧ p ρ Ω = some Ω' ∧ ∀ v e', Ext e e' → Wf K C e' Ω' → Q v e'.H
def PV (X : Cx) (C : Cl) (x : Expr) (p : VDen) : Prop := PE X x (tV X.K C p)
section
variable {X : Cx} {C : Cl} {XW : XWt} {a x : Expr} {f g : Den} {p : VDen} {pos p1 p2 : Pos}
def smallI (i : Int) : Prop := i.natAbs.log2 < 1920 ∧ (Str.ofString (toString i)).length ≤ 1000
instance (i : Int) : Decidable (smallI i) := by unfold smallI; infer_instance
end
end DL
set_option Elab.async false
set_option linter.all false
set_option maxRecDepth 100000
/-! the exception classes of the text, told by the fragment -/
namespace L2
open PySem PySem.Spec PyProof.Rows
section
variable {K : PySem.W.Frag} {h : Heap} {bmB : List Value} {newId : String} {mg : Str → Option Value} {x : Str}
end
end L2
set_option Elab.async false
set_option linter.all false
set_option maxRecDepth 100000
/-! an exception that a callee raised leaves a def that does not catch it -/
namespace L2
open PySem PySem.Spec PyProof.Rows
end L2
namespace DL
open PySem PySem.Spec PyProof.Rows L2
end DL
set_option Elab.async false
set_option linter.all false
set_option maxRecDepth 100000
/-! a for loop that an item's turn leaves by an exception -/
namespace DL
open PySem PySem.Spec PyProof.Rows L2
section
variable {X : Cx} {C : Cl} {XW : XWt} {tg iter c : Expr} {γ : ADen} {β : BDen} {s : SDen} {r : SRDen} {body : List Stmt} {pos : Pos}
end
end DL
set_option Elab.async false
set_option linter.all false
set_option maxRecDepth 100000
namespace L2
open PySem PySem.Spec PyProof.Rows
section
variable {X : Cx} {a : Expr} {ta : TE} {z : Str} {kk : Nat} {p1 p2 pos : Pos}
end
end L2
namespace DL
open PySem PySem.Spec PyProof.Rows L2
section
variable {X : Cx} {C : Cl} {a : Expr} {f : Den} {pos p1 p2 : Pos}
end
end DL
set_option Elab.async false
set_option linter.all false
set_option maxRecDepth 100000
namespace DL
open PySem PySem.Spec PyProof.Rows L2
/-! ### a list of a known length -/
@[elab_as_elim] theorem len0 {p : List Value → Prop} (us : List Value) (hl : us.length = 0) (h : p []) : p us := by
  cases us with
  | nil => exact h
  | cons a us => cases hl
@[elab_as_elim] theorem len1 {p : List Value → Prop} (us : List Value) (hl : us.length = 1) (h : ∀ a, p [a]) : p us := by
  cases us with
  | nil => cases hl
  | cons a us => exact len0 (p := fun us => p (a :: us)) us (Nat.succ.inj hl) (h a)
@[elab_as_elim] theorem len2 {p : List Value → Prop} (us : List Value) (hl : us.length = 2) (h : ∀ a b, p [a, b]) : p us := by
  cases us with
  | nil => cases hl
  | cons a us => exact len1 (p := fun us => p (a :: us)) us (Nat.succ.inj hl) (fun b => h a b)
@[elab_as_elim] theorem len3 {p : List Value → Prop} (us : List Value) (hl : us.length = 3) (h : ∀ a b c, p [a, b, c]) : p us := by
  cases us with
  | nil => cases hl
  | cons a us => exact len2 (p := fun us => p (a :: us)) us (Nat.succ.inj hl) (fun b c => h a b c)
@[elab_as_elim] theorem len4 {p : List Value → Prop} (us : List Value) (hl : us.length = 4) (h : ∀ a b c d, p [a, b, c, d]) : p us := by
  cases us with
  | nil => cases hl
  | cons a us => exact len3 (p := fun us => p (a :: us)) us (Nat.succ.inj hl) (fun b c d => h a b c d)
@[elab_as_elim] theorem len5 {p : List Value → Prop} (us : List Value) (hl : us.length = 5) (h : ∀ a b c d e, p [a, b, c, d, e]) : p us := by
  cases us with
  | nil => cases hl
  | cons a us => exact len4 (p := fun us => p (a :: us)) us (Nat.succ.inj hl) (fun b c d e => h a b c d e)
@[elab_as_elim] theorem len6 {p : List Value → Prop} (us : List Value) (hl : us.length = 6) (h : ∀ a b c d e f, p [a, b, c, d, e, f]) : p us := by
  cases us with
  | nil => cases hl
  | cons a us => exact len5 (p := fun us => p (a :: us)) us (Nat.succ.inj hl) (fun b c d e f => h a b c d e f)
@[elab_as_elim] theorem len7 {p : List Value → Prop} (us : List Value) (hl : us.length = 7) (h : ∀ a b c d e f g, p [a, b, c, d, e, f, g]) : p us := by
  cases us with
  | nil => cases hl
  | cons a us => exact len6 (p := fun us => p (a :: us)) us (Nat.succ.inj hl) (fun b c d e f g => h a b c d e f g)
end DL
set_option Elab.async false
set_option linter.all false
set_option maxRecDepth 100000
namespace L2
open PySem PySem.Spec PyProof.Rows
/-! ### zip over two sequences, each a list or a tuple -/
def sqN (b : Bool) : String := match b with | true => "tuple" | false => "list"
def itN (b : Bool) : String := match b with | true => "tuple_iterator" | false => "list_iterator"
def SqB (b : Bool) (h : Heap) (a : Addr) (xs : Array Value) : Prop := ∃ o, h.get? a = some o ∧ o.cls = .type (sqN b) ∧ ∃ n, o.data = .seq xs n
def ItB (b : Bool) (h : Heap) (a l : Addr) (i : Nat) : Prop := ∃ o, h.get? a = some o ∧ o.cls = .type (itN b) ∧ o.data = .fields #[.ref l, .int i 0]
section
variable {b : Bool} {h h' : Heap} {a l c : Addr} {i : Nat} {xs : Array Value}
theorem SqB.go (x : SqB b h a xs) (e : ∀ o, h.get? a = some o → h'.get? a = some o) : SqB b h' a xs := let ⟨o, ho, r⟩ := x; ⟨o, e o ho, r⟩
theorem ItB.go (x : ItB b h a l i) (e : ∀ o, h.get? a = some o → h'.get? a = some o) : ItB b h' a l i := let ⟨o, ho, r⟩ := x; ⟨o, e o ho, r⟩
theorem SqB.eb (x : SqB b h a xs) (e : Heap.ExtBut c h h') (n : a ≠ c) : SqB b h' a xs := x.go fun o q => e a o n q
theorem ItB.eb (x : ItB b h a l i) (e : Heap.ExtBut c h h') (n : a ≠ c) : ItB b h' a l i := x.go fun o q => e a o n q
theorem SqB.lt (x : SqB b h a xs) : a < h.objs.size := let ⟨_, ho, _⟩ := x; Heap.lt_size ho
theorem ItB.lt (x : ItB b h a l i) : a < h.objs.size := let ⟨_, ho, _⟩ := x; Heap.lt_size ho
end
section
variable {prog : Program} {w : World} {A : Around} {E : Value → Shared → Prop} {s : Shared} {b : Bool}
theorem zb_item {it l : Addr} {i : Nat} {items : Array Value} {x : Value} {Q : Value → Shared → Prop} (hit : ItB b s.heap it l i) (hl : SqB b s.heap l items) (hx : items[i]? = some x)
    (hQ : ∀ g, ItB b g it l (i + 1) → Heap.SameBut it s.heap g → Q x { s with heap := g }) : wpAny (model prog w) A (Builtin.SmallTypes.nextOf (.ref it)) Q E s := by
  cases b with
  | false => exact wpAny_nextOf_list_item hit hl hx hQ
  | true =>
    obtain ⟨o, e1, e2, e3⟩ := id hit
    obtain ⟨u, e4, _, n, e5⟩ := hl
    have hT : s.TypeIs (.ref it) "tuple_iterator" := ⟨o, e1, e2⟩
    unfold Builtin.SmallTypes.nextOf
    refine wpAny_bind (wpAny_callSpecial?_slot (name := Str.ofString "__next__") hT F.slot_tuple_iterator_next (wpAny_call_entry F.slot_tuple_iterator_next hT F.entry_tuple_iterator_next ?_ (F.args_tuple_iterator_next_1 _)))
    show wpAny _ _ (field (.ref it) 0 >>= fun _ => _) _ _ s
    refine wpAny_bind (wpAny_field e1 e3 (x := .ref l) rfl ?_)
    show wpAny _ _ (if (Value.ref l == Value.none) = true then (_ : Sem _) else _) _ _ s
    refine (if_neg (show ¬ ((Value.ref l == Value.none) = true) from Bool.false_ne_true)) ▸ ?_
    show wpAny _ _ (field (.ref it) 1 >>= fun _ => _) _ _ s
    refine wpAny_bind (wpAny_field e1 e3 (x := .int i 0) rfl ?_)
    show wpAny _ _ (seqItems? (.ref l) >>= fun _ => _) _ _ s
    refine wpAny_bind (wpAny_seqItems e4 e5 ?_)
    simp only [hx, Int.toNat_natCast]
    refine wpAny_bind (wpAny_setField e1 e3 (by simp) (wpAny_pure ⟨x, rfl, wpAny_pure (hQ _ ⟨_, Heap.get?_update_self _ e1 (Obj.isFreed_of_fields (Obj.data_mapFields e3 _)), (Obj.cls_mapFields ..).trans e2, ?_⟩ (Heap.SameBut.update ..))⟩))
    rw [Obj.data_mapFields e3]; simp [rawInt]
theorem zb_end {it l : Addr} {i : Nat} {items : Array Value} {Q : Value → Shared → Prop} (hh : A.handled = none) (hit : ItB b s.heap it l i) (hl : SqB b s.heap l items) (hx : items[i]? = none)
    (hE : ∀ g e, Heap.ExtBut it s.heap g → (∃ o, g.get? e = some o ∧ o.cls = .type "StopIteration") → E (.ref e) { s with heap := g }) : wpAny (model prog w) A (Builtin.SmallTypes.nextOf (.ref it)) Q E s := by
  cases b with
  | false => exact wpAny_nextOf_list_end hh hit hl hx hE
  | true =>
    obtain ⟨o, e1, e2, e3⟩ := id hit
    obtain ⟨u, e4, _, n, e5⟩ := hl
    have hT : s.TypeIs (.ref it) "tuple_iterator" := ⟨o, e1, e2⟩
    unfold Builtin.SmallTypes.nextOf
    refine wpAny_bind (wpAny_callSpecial?_slot (name := Str.ofString "__next__") hT F.slot_tuple_iterator_next (wpAny_call_entry F.slot_tuple_iterator_next hT F.entry_tuple_iterator_next ?_ (F.args_tuple_iterator_next_1 _)))
    show wpAny _ _ (field (.ref it) 0 >>= fun _ => _) _ _ s
    refine wpAny_bind (wpAny_field e1 e3 (x := .ref l) rfl ?_)
    show wpAny _ _ (if (Value.ref l == Value.none) = true then (_ : Sem _) else _) _ _ s
    refine (if_neg (show ¬ ((Value.ref l == Value.none) = true) from Bool.false_ne_true)) ▸ ?_
    show wpAny _ _ (field (.ref it) 1 >>= fun _ => _) _ _ s
    refine wpAny_bind (wpAny_field e1 e3 (x := .int i 0) rfl ?_)
    show wpAny _ _ (seqItems? (.ref l) >>= fun _ => _) _ _ s
    refine wpAny_bind (wpAny_seqItems e4 e5 ?_)
    simp only [hx, Int.toNat_natCast]
    refine wpAny_bind (wpAny_rule (wpAny_bind (wpAny_setField e1 e3 (by simp) ?_)))
    show wpAny _ _ (newExc (.type "StopIteration") [] >>= fun _ => _) _ _ _
    refine wpAny_bind ?_
    simp only [newTuple, newExc]
    refine wpAny_bind (wpAny_newObj_type ?_ (by size_fits)); refine wpAny_bind (m := firstArgMember _ _) (wpAny_of_eq (a := Value.none) (by first | rfl | (simp only [firstArgMember]; rfl)) ?_)
    refine wpAny_newObj_type ?_ (by size_fits); simp only [raiseNew]; refine wpAny_bind (wpAny_handled ?_)
    first | rw [hh] | rw [show A.in1.handled = none from hh]
    refine wpAny_bind (wpAny_pure (wpAny_throw (hE _ _ (((Heap.SameBut.update ..).extBut.push _).push _) ⟨_, Heap.get?_push_size _ rfl, rfl⟩)))
end
end L2
set_option Elab.async false
set_option linter.all false
set_option maxRecDepth 100000
namespace L2
open PySem PySem.Spec PyProof.Rows
section
variable {prog : Program} {w : World} {A : Around} {E : Value → Shared → Prop} {s : Shared} {b1 b2 : Bool} {z TI TO i1 i2 l1 l2 : Addr} {k : Nat} {xs ys : Array Value} {x y a b : Value}
theorem zb_next {Q : Value → Shared → Prop} (D : ZipApart z TI TO i1 i2 l1 l2) (hz : IsZip s.heap z TI TO .none) (hTI : IsPair s.heap TI (.ref i1) (.ref i2)) (hTO : IsPair s.heap TO a b)
    (p1 : ItB b1 s.heap i1 l1 k) (p2 : ItB b2 s.heap i2 l2 k) (q1 : SqB b1 s.heap l1 xs) (q2 : SqB b2 s.heap l2 ys) (hx : xs[k]? = some x) (hy : ys[k]? = some y)
    (hQ : ∀ g, IsZip g z TI TO (rawInt s.heap.objs.size) → IsPair g TO x y → ItB b1 g i1 l1 (k + 1) → ItB b2 g i2 l2 (k + 1) → IsPair g s.heap.objs.size x y → g.objs.size = s.heap.objs.size + 1 →
      (∀ c o, c ≠ z → c ≠ TO → c ≠ i1 → c ≠ i2 → s.heap.get? c = some o → g.get? c = some o) → Q (.ref s.heap.objs.size) { s with heap := g }) :
    wpAny (model prog w) A (Builtin.«zip.__next__» ⟨[.ref z], []⟩) (fun fin s' => ∃ v, fin = .done (.ret v) ∧ Q v s') E s := by
  show wpAny _ _ (field (.ref z) 2 >>= fun _ => _) _ _ _
  refine wpAny_bind (wpAny_field hz rfl (x := .bool false) rfl (?_ : wpAny _ _ (field (.ref z) 3 >>= fun _ => _) _ _ _))
  refine wpAny_bind (wpAny_field hz rfl (x := .ref TI) rfl (wpAny_bind (wpAny_seqItems hTI rfl ?_)))
  show wpAny _ _ (Builtin.SmallTypes.ownedTupleIsFree (.ref z) >>= fun _ => _) _ _ _
  refine wpAny_bind ?_
  unfold Builtin.SmallTypes.ownedTupleIsFree
  refine wpAny_bind (wpAny_field hz rfl (x := Value.none) rfl (wpAny_pure ?_))
  simp only [if_true]
  refine wpAny_bind (wpAny_rule (wpAny_bind (wpAny_field hz rfl (x := .ref TO) rfl (wpAny_bind (wpAny_setField_rec hz (by simp) fun g1 z1 m1 => ?_)))))
  replace z1 : IsZip g1 z TI TO .ellipsis := z1
  refine wpAny_bind ?_
  simp only [List.forIn_cons, List.forIn_nil, List.zipIdx_cons, List.zipIdx_nil]
  refine wpAny_bind (wpAny_bind (wpAny_onRaise (?_ : wpAny _ _ (Builtin.SmallTypes.nextOf (.ref i1) >>= fun _ => _) _ _ _)))
  refine wpAny_bind (zb_item (p1.eb m1.extBut D.i1z) (q1.eb m1.extBut D.l1z) hx fun g2 r2 m2 => wpAny_pure ?_)
  have t2 : IsPair g2 TO a b := m2.extBut TO _ D.TOi1 (m1.extBut TO _ D.TOz hTO)
  refine wpAny_bind (wpAny_seqItems t2 rfl (wpAny_bind (wpAny_updateSeq_pair t2 fun g3 t3 m3 => wpAny_bind (wpAny_letGo (wpAny_pure ?_)))))
  replace t3 : IsPair g3 TO x b := t3
  refine wpAny_bind (wpAny_bind (wpAny_onRaise (?_ : wpAny _ _ (Builtin.SmallTypes.nextOf (.ref i2) >>= fun _ => _) _ _ _)))
  refine wpAny_bind (zb_item (((p2.eb m1.extBut D.i2z).eb m2.extBut D.i12.symm).eb m3.extBut D.TOi2.symm) (((q2.eb m1.extBut D.l2z).eb m2.extBut D.l2i1).eb m3.extBut D.l2TO) hy fun g4 r4 m4 => wpAny_pure ?_)
  have t4 : IsPair g4 TO x b := m4.extBut TO _ D.TOi2 t3
  refine wpAny_bind (wpAny_seqItems t4 rfl (wpAny_bind (wpAny_updateSeq_pair t4 fun g5 t5 m5 => wpAny_bind (wpAny_letGo (wpAny_pure (wpAny_pure ?_))))))
  replace t5 : IsPair g5 TO x y := t5
  refine wpAny_bind (wpAny_seqItems t5 rfl (wpAny_bind (wpAny_newTuple ?_)))
  have sz : g5.objs.size = s.heap.objs.size := by rw [m5.1, m4.1, m3.1, m2.1, m1.1]
  have z5 : IsZip g5 z TI TO .ellipsis := m5.extBut z _ D.TOz.symm (m4.extBut z _ D.i2z.symm (m3.extBut z _ D.TOz.symm (m2.extBut z _ D.i1z.symm z1)))
  have all : ∀ c o, c ≠ z → c ≠ TO → c ≠ i1 → c ≠ i2 → s.heap.get? c = some o → g5.get? c = some o := fun c o c1 c2 c3 c4 e => m5.extBut c o c2 (m4.extBut c o c4 (m3.extBut c o c2 (m2.extBut c o c3 (m1.extBut c o c1 e))))
  have r1' : ItB b1 g5 i1 l1 (k + 1) := ((r2.eb m3.extBut D.TOi1.symm).eb m4.extBut D.i12).eb m5.extBut D.TOi1.symm
  have r2' : ItB b2 g5 i2 l2 (k + 1) := r4.eb m5.extBut D.TOi2.symm
  have lz : z < g5.objs.size := Heap.lt_size z5
  show wpAny _ _ (Builtin.SmallTypes.ownedTupleHandOut (.ref z) (.ref g5.objs.size) >>= fun _ => _) _ _ _
  refine wpAny_bind ?_
  unfold Builtin.SmallTypes.ownedTupleHandOut
  have z6 : IsZip (g5.push { cls := .type "tuple", data := .seq #[x, y] }) z TI TO .ellipsis := Heap.get?_push_of_some _ z5
  refine wpAny_bind (wpAny_setField_rec z6 (by simp) fun g7 z7 m7 => ?_)
  replace z7 : IsZip g7 z TI TO (rawInt g5.objs.size) := z7
  refine wpAny_setField_rec z7 (by simp) fun g8 z8 m8 => ?_
  replace z8 : IsZip g8 z TI TO (rawInt g5.objs.size) := z8
  have up : ∀ c o, c ≠ z → g5.get? c = some o → g8.get? c = some o := fun c o c1 e => m8.extBut c o c1 (m7.extBut c o c1 (Heap.get?_push_of_some _ e))
  have t8 : IsPair g8 g5.objs.size x y := m8.extBut _ _ (Nat.ne_of_gt lz) (m7.extBut _ _ (Nat.ne_of_gt lz) (Heap.get?_push_size _ rfl))
  have s8 : g8.objs.size = g5.objs.size + 1 := by rw [m8.1, m7.1, Heap.size_push]
  rw [sz] at z8 t8 s8
  refine wpAny_pure ⟨_, rfl, ?_⟩
  show Q (.ref g5.objs.size) _
  rw [sz]
  exact hQ g8 z8 (up TO _ D.TOz t5) (r1'.go fun o e => up _ o D.i1z e) (r2'.go fun o e => up _ o D.i2z e) t8 s8 fun c o c1 c2 c3 c4 e => up c o c1 (all c o c1 c2 c3 c4 e)
theorem zb_stop {Q : Fin → Shared → Prop} (hh : A.handled = none) (D : ZipApart z TI TO i1 i2 l1 l2) (hz : IsZip s.heap z TI TO .none) (hTI : IsPair s.heap TI (.ref i1) (.ref i2)) (hTO : IsPair s.heap TO a b)
    (p1 : ItB b1 s.heap i1 l1 k) (p2 : ItB b2 s.heap i2 l2 k) (q1 : SqB b1 s.heap l1 xs) (q2 : SqB b2 s.heap l2 ys) (hend : xs[k]? = none ∨ ys[k]? = none)
    (hE : ∀ g e, (∀ c o, c ≠ z → c ≠ TO → c ≠ i1 → c ≠ i2 → s.heap.get? c = some o → g.get? c = some o) → (∃ o, g.get? e = some o ∧ o.cls = .type "StopIteration") → E (.ref e) { s with heap := g }) :
    wpAny (model prog w) A (Builtin.«zip.__next__» ⟨[.ref z], []⟩) Q E s := by
  show wpAny _ _ (field (.ref z) 2 >>= fun _ => _) _ _ _
  refine wpAny_bind (wpAny_field hz rfl (x := .bool false) rfl (?_ : wpAny _ _ (field (.ref z) 3 >>= fun _ => _) _ _ _))
  refine wpAny_bind (wpAny_field hz rfl (x := .ref TI) rfl (wpAny_bind (wpAny_seqItems hTI rfl ?_)))
  show wpAny _ _ (Builtin.SmallTypes.ownedTupleIsFree (.ref z) >>= fun _ => _) _ _ _
  refine wpAny_bind ?_
  unfold Builtin.SmallTypes.ownedTupleIsFree
  refine wpAny_bind (wpAny_field hz rfl (x := Value.none) rfl (wpAny_pure ?_))
  simp only [if_true]
  refine wpAny_bind (wpAny_rule (wpAny_bind (wpAny_field hz rfl (x := .ref TO) rfl (wpAny_bind (wpAny_setField_rec hz (by simp) fun g1 z1 m1 => ?_)))))
  replace z1 : IsZip g1 z TI TO .ellipsis := z1
  refine wpAny_bind ?_
  simp only [List.forIn_cons, List.forIn_nil, List.zipIdx_cons, List.zipIdx_nil]
  refine wpAny_bind (wpAny_bind (wpAny_onRaise (?_ : wpAny _ _ (Builtin.SmallTypes.nextOf (.ref i1) >>= fun _ => _) _ _ _)))
  cases hx : xs[k]? with
  | none =>
    refine wpAny_bind (zb_end hh (p1.eb m1.extBut D.i1z) (q1.eb m1.extBut D.l1z) hx fun g2 e m2 he => ?_)
    obtain ⟨oe, e1, e2⟩ := he
    have z2 : IsZip g2 z TI TO .ellipsis := m2 z _ D.i1z.symm z1
    have ne : e ≠ z := fun q => by subst q; rw [z2] at e1; cases e1; simp at e2
    exact wpAny_setField_rec z2 (by simp) fun g3 _ m3 => hE g3 e (fun c o c1 _ c3 _ q => m3.extBut c o c1 (m2 c o c3 (m1.extBut c o c1 q))) ⟨oe, m3.extBut e oe ne e1, e2⟩
  | some x =>
    have hy : ys[k]? = none := by rcases hend with q | q; (rw [hx] at q; cases q); exact q
    refine wpAny_bind (zb_item (p1.eb m1.extBut D.i1z) (q1.eb m1.extBut D.l1z) hx fun g2 r2 m2 => wpAny_pure ?_)
    have t2 : IsPair g2 TO a b := m2.extBut TO _ D.TOi1 (m1.extBut TO _ D.TOz hTO)
    refine wpAny_bind (wpAny_seqItems t2 rfl (wpAny_bind (wpAny_updateSeq_pair t2 fun g3 t3 m3 => wpAny_bind (wpAny_letGo (wpAny_pure ?_)))))
    refine wpAny_bind (wpAny_bind (wpAny_onRaise (?_ : wpAny _ _ (Builtin.SmallTypes.nextOf (.ref i2) >>= fun _ => _) _ _ _)))
    refine wpAny_bind (zb_end hh (((p2.eb m1.extBut D.i2z).eb m2.extBut D.i12.symm).eb m3.extBut D.TOi2.symm) (((q2.eb m1.extBut D.l2z).eb m2.extBut D.l2i1).eb m3.extBut D.l2TO) hy fun g4 e m4 he => ?_)
    obtain ⟨oe, e1, e2⟩ := he
    have z4 : IsZip g4 z TI TO .ellipsis := m4 z _ D.i2z.symm (m3.extBut z _ D.TOz.symm (m2.extBut z _ D.i1z.symm z1))
    have ne : e ≠ z := fun q => by subst q; rw [z4] at e1; cases e1; simp at e2
    exact wpAny_setField_rec z4 (by simp) fun g5 _ m5 => hE g5 e (fun c o c1 c2 c3 c4 q => m5.extBut c o c1 (m4 c o c4 (m3.extBut c o c2 (m2.extBut c o c3 (m1.extBut c o c1 q))))) ⟨oe, m5.extBut e oe ne e1, e2⟩
theorem zb_pyNext {Q : Option Value → Shared → Prop} (D : ZipApart z TI TO i1 i2 l1 l2) (hz : IsZip s.heap z TI TO .none) (hTI : IsPair s.heap TI (.ref i1) (.ref i2)) (hTO : IsPair s.heap TO a b)
    (p1 : ItB b1 s.heap i1 l1 k) (p2 : ItB b2 s.heap i2 l2 k) (q1 : SqB b1 s.heap l1 xs) (q2 : SqB b2 s.heap l2 ys) (hx : xs[k]? = some x) (hy : ys[k]? = some y)
    (hQ : ∀ g, IsZip g z TI TO (rawInt s.heap.objs.size) → IsPair g TO x y → ItB b1 g i1 l1 (k + 1) → ItB b2 g i2 l2 (k + 1) → IsPair g s.heap.objs.size x y → g.objs.size = s.heap.objs.size + 1 →
      (∀ c o, c ≠ z → c ≠ TO → c ≠ i1 → c ≠ i2 → s.heap.get? c = some o → g.get? c = some o) → Q (some (.ref s.heap.objs.size)) { s with heap := g }) :
    wpAny (model prog w) A (pyNext (.ref z)) Q E s := by
  have hT : s.TypeIs (.ref z) "zip" := ⟨_, hz, rfl⟩
  unfold pyNext
  exact wpAny_bind (wpAny_attempt (wpAny_callSpecial?_slot (name := Str.ofString "__next__") hT F.slot_zip_next (wpAny_call_entry F.slot_zip_next hT F.entry_zip_next
    (zb_next D hz hTI hTO p1 p2 q1 q2 hx hy fun g a1 a2 a3 a4 a5 a6 a7 => wpAny_pure (hQ g a1 a2 a3 a4 a5 a6 a7)) (F.args_zip_next_1 _))))
theorem zb_pyStop {Q : Option Value → Shared → Prop} (hh : A.handled = none) (D : ZipApart z TI TO i1 i2 l1 l2) (hz : IsZip s.heap z TI TO .none) (hTI : IsPair s.heap TI (.ref i1) (.ref i2)) (hTO : IsPair s.heap TO a b)
    (p1 : ItB b1 s.heap i1 l1 k) (p2 : ItB b2 s.heap i2 l2 k) (q1 : SqB b1 s.heap l1 xs) (q2 : SqB b2 s.heap l2 ys) (hend : xs[k]? = none ∨ ys[k]? = none)
    (hQ : ∀ g, (∀ c o, c ≠ z → c ≠ TO → c ≠ i1 → c ≠ i2 → s.heap.get? c = some o → g.get? c = some o) → Q none { s with heap := g }) : wpAny (model prog w) A (pyNext (.ref z)) Q E s := by
  have hT : s.TypeIs (.ref z) "zip" := ⟨_, hz, rfl⟩
  unfold pyNext
  refine wpAny_bind (wpAny_attempt (wpAny_callSpecial?_slot (name := Str.ofString "__next__") hT F.slot_zip_next (wpAny_call_entry F.slot_zip_next hT F.entry_zip_next
    (zb_stop hh D hz hTI hTO p1 p2 q1 q2 hend fun g e hk he => ?_) (F.args_zip_next_1 _))))
  obtain ⟨o, e1, e2⟩ := he
  exact wpAny_bind (wpAny_isInstance (T := "StopIteration") (b := true) ⟨o, e1, e2⟩ isSubtype_stop (wpAny_pure (hQ _ hk)))
end
/-! making one -/
def itO (b : Bool) (l : Addr) : Obj := { cls := .type (itN b), data := .fields #[.ref l, .int 0 0] }
abbrev zb1 (h : Heap) (b1 : Bool) (l1 : Addr) : Heap := h.push (itO b1 l1)
abbrev zb2 (h : Heap) (b1 b2 : Bool) (l1 l2 : Addr) : Heap := (zb1 h b1 l1).push (itO b2 l2)
abbrev zb3 (h : Heap) (b1 b2 : Bool) (l1 l2 : Addr) : Heap := (zb2 h b1 b2 l1 l2).push { cls := .type "tuple", data := .seq #[.ref h.objs.size, .ref (zb1 h b1 l1).objs.size] }
abbrev zb4 (h : Heap) (b1 b2 : Bool) (l1 l2 : Addr) : Heap := (zb3 h b1 b2 l1 l2).push { cls := .type "tuple", data := .seq #[.none, .none] }
abbrev zb5 (h : Heap) (b1 b2 : Bool) (l1 l2 : Addr) : Heap := (zb4 h b1 b2 l1 l2).push { cls := .type "zip", data := .fields #[.none, .bool false, .bool false, .ref (zb2 h b1 b2 l1 l2).objs.size, .ref (zb3 h b1 b2 l1 l2).objs.size] }
theorem zb_iter {prog : Program} {w : World} {A : Around} {E : Value → Shared → Prop} {s : Shared} {b : Bool} {l : Addr} {xs : Array Value} {Q : Value → Shared → Prop} (hl : SqB b s.heap l xs)
    (h : Q (.ref s.heap.objs.size) { s with heap := s.heap.push (itO b l) }) : wpAny (model prog w) A (pyIter (.ref l)) Q E s := by
  cases b with
  | false => exact wpAny_pyIter_list hl h
  | true => exact wpAny_pyIter_tuple hl h
theorem zb_meets (b1 b2 : Bool) (l1 l2 : Addr) (xs ys : Array Value) : Meets (Builtin.«zip.__new__» ⟨[.type "zip", .ref l1, .ref l2], []⟩) (fun _ R s => SqB b1 s.heap l1 xs ∧ SqB b2 s.heap l2 ys ∧
      R (.ok (.ret (.ref (zb4 s.heap b1 b2 l1 l2).objs.size))) { s with heap := zb5 s.heap b1 b2 l1 l2 }) :=
  .of_wp fun prog w A R s h => by
    obtain ⟨hp, g, d, tk, os⟩ := s; obtain ⟨e1, e2, h⟩ := h
    have hsub := sub_zip
    have L1 : SqB b1 (Shared.heap ⟨hp, g, d, tk, os⟩) l1 xs := e1
    have L2 : SqB b2 (Shared.heap ⟨hp.push (itO b1 l1), g, d, tk, os⟩) l2 ys := e2.go fun o q => Heap.get?_push_of_some _ q
    wp_walk using zb_iter L1, zb_iter L2
    exact ⟨_, rfl, h⟩
theorem zb_call {prog : Program} {w : World} {A : Around} {E : Value → Shared → Prop} {s : Shared} {b1 b2 : Bool} {l1 l2 : Addr} {xs ys : Array Value} {Q : Value → Shared → Prop} (e1 : SqB b1 s.heap l1 xs) (e2 : SqB b2 s.heap l2 ys)
    (h : ∀ g, IsZip g (s.heap.objs.size + 4) (s.heap.objs.size + 2) (s.heap.objs.size + 3) .none → IsPair g (s.heap.objs.size + 2) (.ref s.heap.objs.size) (.ref (s.heap.objs.size + 1)) →
      IsPair g (s.heap.objs.size + 3) .none .none → ItB b1 g s.heap.objs.size l1 0 → ItB b2 g (s.heap.objs.size + 1) l2 0 → g.objs.size = s.heap.objs.size + 5 →
      (∀ c o, s.heap.get? c = some o → g.get? c = some o) → Q (.ref (s.heap.objs.size + 4)) { s with heap := g }) : wpAny (model prog w) A (call (.type "zip") [.ref l1, .ref l2]) Q E s := by
  refine callType_new F.called_zip (by decide) (F.typeCall_zip_2 _ _) (F.newCall_zip_2 _ _) (fun obj => F.args_object_init_3 obj _ _) F.entry_zip_new (zb_meets b1 b2 l1 l2 xs ys) ⟨e1, e2, ?_⟩
  have n1 : (zb1 s.heap b1 l1).objs.size = s.heap.objs.size + 1 := Heap.size_push ..
  have n2 : (zb2 s.heap b1 b2 l1 l2).objs.size = s.heap.objs.size + 2 := by rw [Heap.size_push, n1]
  have n3 : (zb3 s.heap b1 b2 l1 l2).objs.size = s.heap.objs.size + 3 := by rw [Heap.size_push, n2]
  have n4 : (zb4 s.heap b1 b2 l1 l2).objs.size = s.heap.objs.size + 4 := by rw [Heap.size_push, n3]
  have n5 : (zb5 s.heap b1 b2 l1 l2).objs.size = s.heap.objs.size + 5 := by rw [Heap.size_push, n4]
  have up : ∀ (h : Heap) (o u : Obj) c, h.get? c = some o → (h.push u).get? c = some o := fun h o u c q => Heap.get?_push_of_some _ q
  have g5 : (zb5 s.heap b1 b2 l1 l2).get? (zb4 s.heap b1 b2 l1 l2).objs.size = some _ := Heap.get?_push_size _ rfl
  have g4 : (zb5 s.heap b1 b2 l1 l2).get? (zb3 s.heap b1 b2 l1 l2).objs.size = some _ := up _ _ _ _ (Heap.get?_push_size _ rfl)
  have g3 : (zb5 s.heap b1 b2 l1 l2).get? (zb2 s.heap b1 b2 l1 l2).objs.size = some _ := up _ _ _ _ (up _ _ _ _ (Heap.get?_push_size _ rfl))
  have g2 : (zb5 s.heap b1 b2 l1 l2).get? (zb1 s.heap b1 l1).objs.size = some (itO b2 l2) := up _ _ _ _ (up _ _ _ _ (up _ _ _ _ (Heap.get?_push_size _ rfl)))
  have g1 : (zb5 s.heap b1 b2 l1 l2).get? s.heap.objs.size = some (itO b1 l1) := up _ _ _ _ (up _ _ _ _ (up _ _ _ _ (up _ _ _ _ (Heap.get?_push_size _ rfl))))
  show _ ∧ _
  rw [n2, n3, n4] at g5
  rw [n1, n2] at g3
  rw [n3] at g4
  rw [n1] at g2
  rw [n4]
  exact ⟨⟨_, g5, rfl⟩, h _ g5 g3 g4 ⟨_, g1, rfl, rfl⟩ ⟨_, g2, rfl, rfl⟩ n5 fun c o q => up _ _ _ _ (up _ _ _ _ (up _ _ _ _ (up _ _ _ _ (up _ _ _ _ q))))⟩
end L2
set_option Elab.async false
set_option linter.all false
set_option maxRecDepth 100000
namespace L2
open PySem PySem.Spec PyProof.Rows
section
variable {X : Cx} {pins : List (Addr × Obj)} {σ : St} {H : Hp} {s : Shared} {h' : Heap}
/-- several objects of an iterator have turned -/
theorem Inv.turnL {t' : Nat} {ch : List Addr} (I : Inv X pins σ H s) (k : ∀ b o, b ∉ ch → s.heap.get? b = some o → h'.get? b = some o) (hf : ∀ b ∈ ch, FpOk X pins H b) : Inv X pins σ H { s with heap := h', toks := t' } := by
  have nit : ∀ b u, H b = some u → b ∉ ch := fun b u e z => by rw [(hf b z).1] at e; cases e
  have nl : X.env.locals ∉ ch := fun z => (hf _ z).2.1 rfl
  refine I.step (g' := s.gens) (d' := s.drawn) (ch := ch) (fun b hb => ?_) (fun b o _ _ hc e _ => k b o hc e) (fun b o _ _ hc e _ => ⟨o.slots, k b o hc e⟩) (fun _ _ _ _ n => n) (fun b o hc e => ⟨o, k b o hc e⟩) (fun _ _ e => e) (fun _ _ _ e => e) (fun b ps e => ⟨#[], by rw [e]; simp⟩) (fun m hm => ?_) (fun b u e => ?_) I.bare
  · obtain ⟨f0, f1, f2, f3, f4, f5⟩ := hf b hb
    exact ⟨f3, f1, f4, f5⟩
  · obtain ⟨o, es, ep, ho, r⟩ := hm
    exact ⟨o, es, ep, k _ o nl ho, r⟩
  · refine (I.hok b u e).stay (fun c v hc q => k c v ?_ q) (fun _ q => q) fun _ _ q => q
    rcases hc with z | z
    · rw [z]; exact nit b u e
    · exact nit c _ z
/-- and a new tuple is tracked -/
theorem Inv.turnT {t' : Nat} {ch : List Addr} {p : Addr} {xs : List V} {us : List Value} (I : Inv X pins σ H s) (k : ∀ b o, b ∉ ch → s.heap.get? b = some o → h'.get? b = some o) (hf : ∀ b ∈ ch, FpOk X pins H b)
    (hp : s.heap.objs.size ≤ p) (hz : xs.length ≤ sizeLine) (r : Vals xs us) (ht : IsTup h' p us.toArray) : Inv X pins σ (upd H p (.tup xs)) { s with heap := h', toks := t' } := by
  have hn : H p = none := I.hok.fresh hp
  have ne : ∀ b o, s.heap.get? b = some o → b ≠ p := fun b o e z => absurd (Heap.lt_size e) (by rw [z]; exact Nat.not_lt.mpr hp)
  have neH : ∀ b u, H b = some u → b ≠ p := fun b u e z => by rw [z, hn] at e; cases e
  have nit : ∀ b u, H b = some u → b ∉ ch := fun b u e z => by rw [(hf b z).1] at e; cases e
  have nl : X.env.locals ∉ ch := fun z => (hf _ z).2.1 rfl
  refine I.step (g' := s.gens) (d' := s.drawn) (ch := ch) (fun b hb => ?_) (fun b o _ _ hc e _ => k b o hc e) (fun b o _ _ hc e _ => ⟨o.slots, k b o hc e⟩) (fun b o _ e n => by rw [upd_ne (ne b o e)]; exact n) (fun b o hc e => ⟨o, k b o hc e⟩)
    (fun b xs e => by rw [upd_ne (neH b _ e)]; exact e) (fun b o u e => by rw [upd_ne (neH b _ e)]; exact e) (fun b ps e => ⟨#[], by rw [upd_ne (neH b _ e), e]; simp⟩) (fun m hm => ?_) (fun b u e => ?_) I.bare
  · obtain ⟨f0, f1, f2, f3, f4, f5⟩ := hf b hb
    exact ⟨f3, f1, f4, f5⟩
  · obtain ⟨o, es, ep, ho, r⟩ := hm
    exact ⟨o, es, ep, k _ o nl ho, r⟩
  · by_cases z : b = p
    · subst z
      rw [upd_same] at e
      cases e
      exact ⟨hz, us, r, ht⟩
    · rw [upd_ne z] at e
      refine (I.hok b u e).stay (fun c v hc q => k c v ?_ q) (fun c q => by rw [upd_ne (neH c _ q)]; exact q) fun c xs q => by rw [upd_ne (neH c _ q)]; exact q
      rcases hc with z | z
      · rw [z]; exact nit b u e
      · exact nit c _ z
end
def SqD (K : PySem.W.Frag) (b : Bool) (H : Hp) (a : Addr) (xs : List V) : Prop := match b with | true => SqT K H a xs | false => SqL K H a xs
theorem sqB_of {X : Cx} {pins : List (Addr × Obj)} {σ : St} {H : Hp} {s : Shared} {b : Bool} {a : Addr} {xs : List V} (I : Inv X pins σ H s) (h : SqD X.K b H a xs) : ∃ its : List Value, Vals xs its ∧ SqB b s.heap a its.toArray := by
  cases b with
  | false =>
    obtain ⟨its, r, p, _⟩ := I.list h
    exact ⟨its, r, p.isList⟩
  | true =>
    obtain ⟨its, r, p, _⟩ := I.tuple h
    exact ⟨its, r, p⟩
theorem sqD_one {X : Cx} {pins : List (Addr × Obj)} {σ : St} {H : Hp} {s : Shared} {b : Bool} {a : Addr} {xs ys : List V} (I : Inv X pins σ H s) (h : SqD X.K b H a xs) (h' : SqD X.K b H a ys) : xs = ys := by
  cases b with
  | false => exact I.list_inj h h'
  | true => exact I.tuple_inj h h'
def Itz (K : PySem.W.Frag) (b1 b2 : Bool) (l1 l2 : Addr) : It :=
  ⟨fun i H => ∃ xs ys x y, SqD K b1 H l1 xs ∧ SqD K b2 H l2 ys ∧ xs[i]? = some x ∧ ys[i]? = some y,
   fun i H v H' => ∃ p x y, v = .ref p ∧ H p = none ∧ H' = upd H p (.tup [x, y]) ∧ (∀ xs, SqD K b1 H l1 xs → xs[i]? = some x) ∧ ∀ ys, SqD K b2 H l2 ys → ys[i]? = some y,
   fun i H => ∃ xs ys, SqD K b1 H l1 xs ∧ SqD K b2 H l2 ys ∧ (xs.length ≤ i ∨ ys.length ≤ i)⟩
def ZipAt (b1 b2 : Bool) (z TI TO i1 i2 l1 l2 : Addr) (i : Nat) (h : Heap) : Prop := IsZip h z TI TO .none ∧ IsPair h TI (.ref i1) (.ref i2) ∧ (∃ a b, IsPair h TO a b) ∧ ItB b1 h i1 l1 i ∧ ItB b2 h i2 l2 i
theorem turn_zip {P : Program} {w : World} {K : PySem.W.Frag} {es : List Expr} {kk : Nat} {pt : Pos} {b1 b2 : Bool} {z TI TO i1 i2 l1 l2 : Addr} (D : ZipApart z TI TO i1 i2 l1 l2) :
    Turn P w K (.Tuple es kk pt) (Itz K b1 b2 l1 l2) [z, TI, TO, i1, i2] z (ZipAt b1 b2 z TI TO i1 i2 l1 l2) where
  mem := by simp
  obj := fun i h st b hb => by
    obtain ⟨hz, hTI, ⟨a, c, hTO⟩, ⟨o1, e1, _, d1⟩, ⟨o2, e2, _, d2⟩⟩ := st
    simp only [List.mem_cons, List.not_mem_nil, or_false] at hb
    rcases hb with rfl | rfl | rfl | rfl | rfl
    · exact ⟨_, hz, fun v q => nomatch q⟩
    · exact ⟨_, hTI, fun v q => nomatch q⟩
    · exact ⟨_, hTO, fun v q => nomatch q⟩
    · exact ⟨_, e1, fun v q => by rw [d1] at q; cases q⟩
    · exact ⟨_, e2, fun v q => by rw [d2] at q; cases q⟩
  keep := fun i h h' st k => by
    obtain ⟨hz, hTI, ⟨a, c, hTO⟩, p1, p2⟩ := st
    exact ⟨k z (by simp) _ hz, k TI (by simp) _ hTI, ⟨a, c, k TO (by simp) _ hTO⟩, p1.go fun o e => k i1 (by simp) o e, p2.go fun o e => k i2 (by simp) o e⟩
  item := by
    intro X hP hw hK hc i pins s σ H E I hf st hg
    subst hP hw hK
    obtain ⟨hz, hTI, ⟨a, b, hTO⟩, p1, p2⟩ := st
    obtain ⟨xs, ys, x, y, s1, s2, hx, hy⟩ := hg
    obtain ⟨its1, rv1, q1⟩ := sqB_of I s1
    obtain ⟨its2, rv2, q2⟩ := sqB_of I s2
    obtain ⟨u, hu, ru⟩ := rv1.get hx
    obtain ⟨v, hv, rv⟩ := rv2.get hy
    refine zb_pyNext D hz hTI hTO p1 p2 q1 q2 (x := u) (y := v) (by simpa using hu) (by simpa using hv) fun g a1 a2 a3 a4 a5 a6 a7 => ⟨_, rfl, wpAny_letOwnedTupleGo_zip a1 fun g' z' m' => ?_⟩
    have lz : z < s.heap.objs.size := Heap.lt_size hz
    have k' : ∀ c o, c ∉ [z, TI, TO, i1, i2] → s.heap.get? c = some o → g'.get? c = some o := fun c o hc e => by
      simp only [List.mem_cons, List.not_mem_nil, or_false, not_or] at hc
      exact m'.extBut c o hc.1 (a7 c o hc.1 hc.2.2.1 hc.2.2.2.1 hc.2.2.2.2 e)
    have t' : IsTup g' s.heap.objs.size [u, v].toArray := ⟨_, m'.extBut _ _ (Nat.ne_of_gt lz) a5, rfl, _, rfl⟩
    have J := I.turnT (t' := s.toks) (xs := [x, y]) (us := [u, v]) (p := s.heap.objs.size) k' hf (Nat.le_refl _) (by show 2 ≤ sizeLine; rw [sizeLine_eq]; decide) (.cons ru (.cons rv .nil)) t'
    have hn : H s.heap.objs.size = none := I.hok.fresh (Nat.le_refl _)
    refine ⟨.ref s.heap.objs.size, _, J, rfl, ⟨_, x, y, rfl, hn, rfl, fun us hu => by rw [sqD_one I hu s1]; exact hx, fun us hu => by rw [sqD_one I hu s2]; exact hy⟩, ⟨z', m'.extBut _ _ D.TIz (a7 _ _ D.TIz D.TITO D.TIi1 D.TIi2 hTI), ⟨_, _, m'.extBut _ _ D.TOz a2⟩, a3.eb m'.extBut D.i1z, a4.eb m'.extBut D.i2z⟩, fun b hb => ?_⟩
    have lb : b < s.heap.objs.size := by
      simp only [List.mem_cons, List.not_mem_nil, or_false] at hb
      rcases hb with rfl | rfl | rfl | rfl | rfl
      · exact lz
      · exact Heap.lt_size hTI
      · exact Heap.lt_size hTO
      · exact p1.lt
      · exact p2.lt
    rw [upd_ne (Nat.ne_of_lt lb)]
    exact (hf b hb).1
  done := by
    intro X hP hw hK hc i pins s σ H E I hf st hg
    subst hP hw hK
    obtain ⟨hz, hTI, ⟨a, b, hTO⟩, p1, p2⟩ := st
    obtain ⟨xs, ys, s1, s2, he⟩ := hg
    obtain ⟨its1, rv1, q1⟩ := sqB_of I s1
    obtain ⟨its2, rv2, q2⟩ := sqB_of I s2
    have n1 := rv1.length
    have n2 := rv2.length
    refine zb_pyStop (I.ok.hd hc) D hz hTI hTO p1 p2 q1 q2 (he.imp (fun q => by simp; omega) fun q => by simp; omega) fun g hk => ⟨rfl, I.turnL (t' := s.toks) (ch := [z, TI, TO, i1, i2]) (fun c o hc e => ?_) hf⟩
    simp only [List.mem_cons, List.not_mem_nil, or_false, not_or] at hc
    exact hk c o hc.1 hc.2.2.1 hc.2.2.2.1 hc.2.2.2.2 e
  self := fun _ _ _ _ _ st h => wpAny_pyIter_zip st.1 h
theorem zip_apart (I l1 l2 : Nat) (h1 : l1 < I) (h2 : l2 < I) : ZipApart (I + 4) (I + 2) (I + 3) I (I + 1) l1 l2 := zipApart_new h1 h2
theorem boot_zip : bootBuiltins "zip" = some (.type "zip") := by decide +kernel
def iZip (K : PySem.W.Frag) (ta : TA) : TI := fun σ H R => ta σ H fun vs H1 => ∃ b1 b2 l1 l2 xs ys, vs = [.ref l1, .ref l2] ∧ SqD K b1 H1 l1 xs ∧ SqD K b2 H1 l2 ys ∧ R (Itz K b1 b2 l1 l2) H1
theorem pi_zip {X : Cx} {es : List Expr} {kk : Nat} {pt : Pos} {a b : Expr} {ta : TA} {p pos : Pos} (hg : Gl X "zip") (hm : X.mg "zip" = none) (ha : PA X [a, b] ta) (hs : starEach [a, b] X.env = [(false, eval a X.env), (false, eval b X.env)] := by rfl) (hs2 : starEach [b] X.env = [(false, eval b X.env)] := by rfl) :
    PI X (.Tuple es kk pt) (.Call (.Name "zip" p) [a, b] [] pos) (iZip X.K ta) := by
  intro pins s σ H R I h
  refine Call_ (ld_blt I hg hm boot_zip (PyProof.Rows.callWith_type1 (thn (ha pos pins s σ H _ I h) fun us s1 ⟨vs, H1, I1, r1, q1⟩ => ?_) (by rw [hs, hs2]) (by rw [hs2]; rfl)))
  obtain ⟨b1, b2, l1, l2, xs, ys, e, s1', s2', q⟩ := q1
  subst e
  cases r1 with
  | cons r rr =>
    cases rr with
    | cons r' rr =>
      cases rr
      cases r
      cases r'
      obtain ⟨its1, rv1, c1⟩ := sqB_of I1 s1'
      obtain ⟨its2, rv2, c2⟩ := sqB_of I1 s2'
      refine zb_call c1 c2 fun g hz hTI hTO p1 p2 sz kk' => wpAny_pyIter_zip hz ⟨_, _, _, _, H1, rfl, I1.kept (t' := s1.toks) kk', turn_zip (zip_apart _ _ _ c1.lt c2.lt), ⟨hz, hTI, ⟨_, _, hTO⟩, p1, p2⟩, fun b hb => ?_, q⟩
      have lb : s1.heap.objs.size ≤ b := by
        simp only [List.mem_cons, List.not_mem_nil, or_false] at hb
        rcases hb with rfl | rfl | rfl | rfl | rfl
        · exact Nat.le_add_right _ _
        · exact Nat.le_add_right _ _
        · exact Nat.le_add_right _ _
        · exact Nat.le_refl _
        · exact Nat.le_add_right _ _
      exact I1.fpOk lb (I1.hok.fresh lb)
end L2
namespace DL
open PySem PySem.Spec PyProof.Rows L2
def itmsD : D → Option (List D)
  | .lst xs => some xs
  | .scr ns => some (ns.map D.int)
  | .tup xs => some xs
  | _ => none
def pairD (x y : D) : D := .tup [x, y]
def zipD : List D → Option (List D)
  | [a, b] => match itmsD a, itmsD b with
    | some xs, some ys => some (List.zipWith pairD xs ys)
    | _, _ => none
  | _ => none
theorem sqD_same {K : PySem.W.Frag} {H H' : Hp} {b : Bool} {a : Addr} {xs : List V} (e : Same H H') (h : SqD K b H a xs) : SqD K b H' a xs := by
  cases b with
  | false => exact e.seq h
  | true => exact sameT e h
theorem itms_is {K : PySem.W.Frag} {α : List Addr} {F : Hp} {d : D} {xs : List D} {v : V} (h : itmsD d = some xs) (i : Is K α F d v) : ∃ b a vs, v = .ref a ∧ SqD K b F a vs ∧ IsL K α F xs vs := by
  cases d with
  | lst ys =>
    cases h
    rw [Is] at i
    obtain ⟨a, vs, rfl, h1, r1⟩ := i
    exact ⟨false, a, vs, rfl, SqL.of h1, r1⟩
  | scr ns =>
    cases h
    rw [Is] at i
    obtain ⟨a, rfl, h1⟩ := i
    exact ⟨false, a, _, rfl, h1, IsL.ints ns⟩
  | tup ys =>
    cases h
    rw [Is] at i
    obtain ⟨a, vs, rfl, h1, r1⟩ := i
    exact ⟨true, a, vs, rfl, SqT.of h1, r1⟩
  | _ => cases h
theorem walk_zip {K : PySem.W.Frag} {e : E4} {b1 b2 : Bool} {l1 l2 : Addr} {vs1 vs2 : List V} {ds1 ds2 : List D} (s1 : SqD K b1 e.F l1 vs1) (s2 : SqD K b2 e.F l2 vs2) (r1 : IsL K e.α e.F ds1 vs1) (r2 : IsL K e.α e.F ds2 vs2) : Walk K e (Itz K b1 b2 l1 l2) (List.zipWith pairD ds1 ds2) := by
  intro i e2 ff al fh
  have t1 := sqD_same fh (sqD_same ff s1)
  have t2 := sqD_same fh (sqD_same ff s2)
  have n1 := r1.length
  have n2 := r2.length
  refine ⟨fun z => ⟨vs1, vs2, t1, t2, ?_⟩, fun d hd => ?_⟩
  · rw [List.length_zipWith] at z
    omega
  · rw [List.getElem?_zipWith] at hd
    cases q1 : ds1[i]? with
    | none => rw [q1] at hd; cases hd
    | some x =>
      cases q2 : ds2[i]? with
      | none => rw [q1, q2] at hd; cases hd
      | some y =>
        rw [q1, q2] at hd
        cases hd
        obtain ⟨vx, hvx, ivx⟩ := (IsL.mono ff al ds1 r1).get q1
        obtain ⟨vy, hvy, ivy⟩ := (IsL.mono ff al ds2 r2).get q2
        refine ⟨⟨vs1, vs2, vx, vy, t1, t2, hvx, hvy⟩, fun v H' ⟨p, x', y', e1, e2', e3, u1, u2⟩ => ?_⟩
        subst e1 e3
        have u1' := u1 vs1 t1
        have u2' := u2 vs2 t2
        rw [hvx] at u1'
        rw [hvy] at u2'
        cases u1'
        cases u2'
        have nF : e2.F p = none := by
          cases q : e2.F p with
          | none => rfl
          | some o => rw [fh p o q] at e2'; cases e2'
        have sm : Same e2.F (e2.new p (.tup [vx, vy])).F := fun b o hb => by
          show upd e2.F p _ b = some o
          rw [upd_ne (fun z => by rw [z, nF] at hb; cases hb)]
          exact hb
        refine ⟨e2.new p (.tup [vx, vy]), rfl, ?_, fun C Ω w => ⟨w.new_ext e2', w.new e2'⟩⟩
        unfold pairD
        rw [Is]
        exact ⟨p, [vx, vy], rfl, upd_same, .cons (Is.mono sm ⟨[], by simp [E4.new]⟩ _ ivx) (.cons (Is.mono sm ⟨[], by simp [E4.new]⟩ _ ivy) .nil)⟩
end DL
namespace DL
open PySem PySem.Spec PyProof.Rows L2
section
variable {X : Cx} {C : Cl} {ga : ADen} {pos p pt : Pos} {es : List Expr} {kk : Nat} {a b : Expr}
theorem pdi_zip (hg : Gl X "zip") (hm : X.mg "zip" = none) (ha : PDA X C [a, b] ga) (hs : starEach [a, b] X.env = [(false, eval a X.env), (false, eval b X.env)] := by rfl) (hs2 : starEach [b] X.env = [(false, eval b X.env)] := by rfl) :
    PDI X C (.Tuple es kk pt) (.Call (.Name "zip" p) [a, b] [] pos) (gRng zipD ga) :=
  pi_imp (pi_zip hg hm ha hs hs2) fun σ H R hw' => by
    obtain ⟨e, Ω, ρ, ds, Ω', eH, w, rl, q, k⟩ := hw'
    unfold gRng at q
    cases q1 : ga ρ Ω with
    | none => rw [q1] at q; cases q
    | some p1 =>
      obtain ⟨fs, Ω1⟩ := p1
      rw [q1] at q
      dsimp only at q
      refine ⟨e, Ω, ρ, fs, Ω1, eH, w, rl, q1, fun v e' x' w' i' => ?_⟩
      match fs, q, i' with
      | [d1, d2], q, i' =>
        obtain ⟨v1, v2, rfl, iv1, iv2⟩ := isL_two i'
        have ez : zipD [d1, d2] = match itmsD d1, itmsD d2 with | some xs, some ys => some (List.zipWith pairD xs ys) | _, _ => none := rfl
        rw [ez] at q
        cases z1 : itmsD d1 with
        | none => rw [z1] at q; cases q
        | some xs =>
          cases z2 : itmsD d2 with
          | none => rw [z1, z2] at q; cases q
          | some ys =>
            rw [z1, z2] at q
            cases q
            obtain ⟨b1, l1, vs1, rfl, t1, r1⟩ := itms_is z1 iv1
            obtain ⟨b2, l2, vs2, rfl, t2, r2⟩ := itms_is z2 iv2
            exact ⟨b1, b2, l1, l2, vs1, vs2, rfl, sqD_same w'.fh t1, sqD_same w'.fh t2, k e' _ x' w' (walk_zip t1 t2 r1 r2)⟩
end
end DL
set_option Elab.async false
set_option linter.all false
set_option maxRecDepth 100000
namespace DL
open PySem PySem.Spec PyProof.Rows L2
/-! ### isinstance(x, (T, U ..)), built-in types -/
def instsD (Ts : List String) (d : D) : Option D := match tyD d with
  | some t => some (.bl (Ts.any fun T => decide (t = T) || (decide (t = "bool") && decide (T = "int"))))
  | none => none
theorem vals_tys : ∀ {Ts : List String} {us : List Value}, Vals (Ts.map V.ty) us → us = Ts.map Value.type
  | [], _, .nil => rfl
  | T :: Ts, _, .cons r t => by rw [vals_tys t]; cases (show _ = Value.type T from r); rfl
section
variable {X : Cx} {C : Cl} {x : Expr} {g : Den} {pos p : Pos} {n : Str}
theorem isinsts_ok {pins : List (Addr × Obj)} {σ : St} {H : Hp} {s : Shared} {A : Around} {E : Value → Shared → Prop} {Q : Value → Shared → Prop} {K' : PySem.W.Frag} {α : List Addr} {F : Hp} {d : D} {v : V} {u : Value} {t : String} {b : Bool} {tp : Addr} {its : List Value} {oc : Option Addr} {m : Nat} {sl : Array (Option Value)}
    (I : Inv X pins σ H s) (rx : RelV v u) (ff : Same F H) (i : Is K' α F d v) (ty : tyD d = some t) (htp : s.heap.get? tp = some ⟨.type "tuple", oc, .seq its.toArray m, sl⟩) (e : PySem.W.kitAny X.K (.type t) its = some b) (h : ∀ tk, Q (.bool b) { s with toks := tk }) :
    wpAny (model X.prog X.w) A (call (.builtin "isinstance") [u, .ref tp]) Q E s := by
  cases d <;> rw [Is] at i <;> (try cases ty)
  · subst i; cases (show u = Value.none from rx); exact PySem.W.kia_tup PySem.W.kitx_none I.kIn True.intro htp e (fun z => nomatch z) h
  · subst i; cases (show u = Value.bool _ from rx); exact PySem.W.kia_tup PySem.W.kitx_bool I.kIn True.intro htp e (fun z => nomatch z) h
  · subst i; obtain ⟨t, q⟩ := (show ∃ t, u = Value.int _ t from rx); cases q; exact PySem.W.kia_tup PySem.W.kitx_int I.kIn True.intro htp e (fun z => nomatch z) h
  · subst i; obtain ⟨t, q⟩ := (show ∃ t, u = Value.str _ t from rx); cases q; exact PySem.W.kia_tup PySem.W.kitx_str I.kIn True.intro htp e (fun z => nomatch z) h
  · obtain ⟨a, vs, rfl, e1, _⟩ := i
    cases (show u = Value.ref a from rx)
    obtain ⟨_, _, _, ⟨o, g1, g2, _⟩⟩ := (show ObjOk X.prog X.w H s.heap a (.tup vs) from I.hok a _ (ff _ _ e1))
    exact PySem.W.kia_tup PySem.W.kitx_tuple I.kIn ⟨o, g1, g2⟩ htp e (fun z => nomatch z) h
  · obtain ⟨a, vs, rfl, e1, _⟩ := i
    cases (show u = Value.ref a from rx)
    obtain ⟨_, _, n, _, h1⟩ := (show ObjOk X.prog X.w H s.heap a (.lst vs) from I.hok a _ (ff _ _ e1))
    exact PySem.W.kia_tup PySem.W.kitx_list I.kIn ⟨_, h1, rfl⟩ htp e (fun z => nomatch z) h
theorem tyD_mem {d : D} {t : String} (h : tyD d = some t) : t ∈ ["NoneType", "bool", "int", "str", "tuple", "list"] := by
  cases d <;> first | (injection h with h; subst h; decide) | cases h
theorem pd_isinsts {ys : List Expr} {tt : TA} {Ts : List String} {x1} {ypos : Pos} (ha : PD X C x g) (hy : PA X ys tt) (htt : ∀ σ H Q, Q (Ts.map V.ty) H → tt σ H Q) (hlen : Ts.length ≤ sizeLine) (hg : Gl X n) (hm : X.mg n = none) (hv : bootBuiltins n = some (.builtin "isinstance"))
    (hk : ∀ t ∈ ["NoneType", "bool", "int", "str", "tuple", "list"], PySem.W.kitAny X.K (.type t) (Ts.map Value.type) = some (Ts.any fun T => decide (t = T) || (decide (t = "bool") && decide (T = "int"))))
    (hn : n ≠ "__name__" := by decide) (hdb : (n == ("__debug__" : Str)) = false := by decide)
    (he : starEach [x, .Tuple ys x1 ypos] X.env = (false, eval x X.env) :: starEach [.Tuple ys x1 ypos] X.env := by rfl) (he2 : starEach [.Tuple ys x1 ypos] X.env = (false, eval (.Tuple ys x1 ypos) X.env) :: starEach [] X.env := by rfl) (hpl : (backTo pos (starEach [.Tuple ys x1 ypos] X.env)).any (·.1) = false := by rfl) :
    PD X C (.Call (.Name n p) [x, .Tuple ys x1 ypos] [] pos) (gUn (instsD Ts) g) := by
  have hc : CallR X (.builtin "isinstance") (fun xs H Q => ∃ v tp t k α F d, xs = [v, .ref tp] ∧ H tp = some (.tup (Ts.map V.ty)) ∧ Same F H ∧ Is X.K α F d v ∧ tyD d = some t ∧ PySem.W.kitAny X.K (.type t) (Ts.map Value.type) = some k ∧ Q (.bl k) H) := by
    intro pins s σ H xs us Q I r hw
    obtain ⟨v, tp, t, k, α, F, d, rfl, h0, ff, i, ty, e, q⟩ := hw
    obtain ⟨u1, w', rfl, r1, r2⟩ := vals2 r
    obtain rfl : w' = Value.ref tp := r2
    obtain ⟨_, its, ri, ⟨oc, od, odt, osl⟩, g1, g2, m, g3⟩ := (show ObjOk X.prog X.w H s.heap tp (.tup (Ts.map V.ty)) from I.hok tp _ h0)
    obtain rfl := vals_tys ri
    dsimp only at g2 g3
    subst g2 g3
    exact isinsts_ok I r1 ff i ty g1 e fun tk => ⟨.bl k, H, I.tok tk, rfl, q⟩
  refine pe_imp (pe_callB hc hg hm hv (pa_cons ha (pa_cons (pe_tup hy) pa_nil he2) he) hn hdb he hpl) fun σ H Q hw' => ?_
  obtain ⟨e, Ω, ρ, d, Ω', eH, w, rl, e1, kk⟩ := hw'
  unfold gUn at e1
  cases q1 : g ρ Ω with
  | none => rw [q1] at e1; cases e1
  | some p1 =>
    obtain ⟨d1, Ω1⟩ := p1
    rw [q1] at e1
    dsimp only at e1
    unfold instsD at e1
    cases q2 : tyD d1 with
    | none => rw [q2] at e1; cases e1
    | some t =>
      rw [q2] at e1
      cases e1
      refine ⟨e, Ω, ρ, d1, _, eH, w, rl, q1, fun v e' x' w' i' => ?_⟩
      refine htt _ _ _ ⟨by rw [List.length_map]; exact hlen, fun tp hp => ?_⟩
      have wn := w'.new (o := .tup (Ts.map V.ty)) hp
      have xn := w'.new_ext (o := .tup (Ts.map V.ty)) hp
      refine ⟨v, tp, t, _, _, _, d1, rfl, upd_same, wn.fh, i'.ext xn, q2, hk t ?_, kk _ _ (x'.trans xn) wn (by rw [Is])⟩
      exact tyD_mem q2
def gNo : Den := fun _ _ => none
theorem pd_no {y : Expr} : PD X C y gNo := fun pins s σ H Q I ⟨e, Ω, ρ, d, Ω', eH, w, rl, q, k⟩ => nomatch q
end
end DL
set_option Elab.async false
set_option linter.all false
set_option maxRecDepth 100000
namespace L2
open PySem PySem.Spec PyProof.Rows
section
variable {X : Cx} {a : Expr} {ta : TE} {z : Str} {kk : Nat} {p1 p2 pos : Pos}
end
section
variable {X : Cx} {body : List Stmt} {x n : Str} {np hpos pos : Pos} {cv : Value} {i : Nat} {b₀ : Stmt} {suite : List Stmt} {tb : List (Addr × Obj) → (Value → Shared → Prop) → TS} {th : TS}
end
end L2
namespace DL
open PySem PySem.Spec PyProof.Rows L2
section
variable {X : Cx} {C : Cl} {a : Expr} {f : Den} {pos p1 p2 : Pos}
end
section
variable {X : Cx} {C : Cl} {body : List Stmt} {x n : Str} {np hpos pos : Pos} {cv : Value} {i : Nat} {b₀ : Stmt} {suite : List Stmt} {s t : SDen} {r : SRDen} {tc : Str → Bool}
end
end DL
set_option Elab.async false
set_option linter.all false
set_option maxRecDepth 100000
namespace DL
open PySem PySem.Spec PyProof.Rows L2
section
variable {X : Cx} {C : Cl}
end
end DL
set_option Elab.async false
set_option linter.all false
set_option maxRecDepth 100000
namespace L2
open PySem PySem.Spec PyProof.Rows
/-! ### a dict held still while it is walked -/
section
variable {X : Cx} {pins : List (Addr × Obj)} {σ : St} {H : Hp} {s : Shared} {a : Addr}
/-- held still: the very object -/
theorem Inv.freeze {kvs : List (Key × V)} {o : Obj} (I : Inv X pins σ H s) (e : H a = some (.dK kvs)) (ho : s.heap.get? a = some o) : Inv X pins σ (upd H a (.frz o (.dK kvs))) s := by
  have neA : ∀ b u, H b = some u → (∀ k, u ≠ .dK k) → b ≠ a := fun b u h n z => by rw [z, e] at h; cases h; exact n _ rfl
  refine I.write (x := a) (e := a) (o := .frz o (.dK kvs)) (t' := s.toks) (h' := s.heap) (by rw [e]; trivial) (.inl rfl) (fun b u _ q => q) ⟨o, ho⟩ ⟨ho, ?_⟩
  exact (I.hok a _ e).stay (fun _ _ _ q => q) (fun b q => by rw [upd_ne (neA b _ q fun k z => nomatch z)]; exact q) fun b xs q => by rw [upd_ne (neA b _ q fun k z => nomatch z)]; exact q
/-- let go: it may change again -/
theorem Inv.thaw {o : Obj} {u : HO} (I : Inv X pins σ H s) (e : H a = some (.frz o u)) (h0 : ∀ o u, X.H₀ a ≠ some (.frz o u)) (hu : ∀ b, u ≠ .own b) : Inv X pins σ (upd H a u) s := by
  have nn : ∀ b, H b = none → b ≠ a := fun b q z => by rw [z, e] at q; cases q
  have neA : ∀ b v, H b = some v → (∀ o u, v ≠ .frz o u) → b ≠ a := fun b v h n z => by rw [z, e] at h; cases h; exact n _ _ rfl
  refine ⟨I.ok, I.os, I.bare, ⟨I.base.keep, I.base.slot, fun b ob h1 h2 h3 => ?_, I.base.there, fun b xs h => ?_, fun b ob v h => ?_, fun b ps h => ?_⟩, I.loc, I.cell, ?_, fun x c h => ?_, fun p hp => ?_, fun b v h => ?_, I.len⟩
  · have q := I.base.free b ob h1 h2 h3
    rw [upd_ne (nn b q)]; exact q
  · have q := I.base.tups b xs h
    rw [upd_ne (neA b _ q fun _ _ z => nomatch z)]; exact q
  · have q := I.base.frzs b ob v h
    rw [upd_ne (fun z => by rw [z] at h; exact h0 _ _ h)]; exact q
  · obtain ⟨more, q⟩ := I.base.tbls b ps h
    exact ⟨more, by rw [upd_ne (neA b _ q fun _ _ z => nomatch z)]; exact q⟩
  · rw [upd_ne (nn _ I.free)]; exact I.free
  · rw [upd_ne (nn _ (I.freeC x c h))]; exact I.freeC x c h
  · obtain ⟨p1, p2, p3⟩ := I.pin p hp
    exact ⟨p1, by rw [upd_ne (nn _ p2)]; exact p2, p3⟩
  · have ow : ∀ c d, H c = some (.own d) → upd H a u c = some (.own d) := fun c d q => by rw [upd_ne (neA c _ q fun _ _ z => nomatch z)]; exact q
    have tp : ∀ c xs, H c = some (.tup xs) → upd H a u c = some (.tup xs) := fun c xs q => by rw [upd_ne (neA c _ q fun _ _ z => nomatch z)]; exact q
    by_cases z : b = a
    · subst z
      rw [upd_same] at h
      cases h
      exact (show ObjOk X.prog X.w H s.heap b (.frz o u) from I.hok b _ e).2.stay (fun _ _ _ q => q) (fun c q => ow c b q) fun c xs q => tp c xs q
    · rw [upd_ne z] at h
      exact (I.hok b v h).stay (fun _ _ _ q => q) (fun c q => ow c b q) fun c xs q => tp c xs q
end
/-- the ends of a statement within which a is held still -/
def Ends.thaw (D : Ends) (a : Addr) : Ends :=
  { nx := fun σ H => ∃ o u, H a = some (.frz o u) ∧ (∀ b, u ≠ .own b) ∧ D.nx σ (upd H a u), rt := fun v H => ∃ o u, H a = some (.frz o u) ∧ (∀ b, u ≠ .own b) ∧ D.rt v (upd H a u),
    bk := fun σ H => ∃ o u, H a = some (.frz o u) ∧ (∀ b, u ≠ .own b) ∧ D.bk σ (upd H a u), ct := fun σ H => ∃ o u, H a = some (.frz o u) ∧ (∀ b, u ≠ .own b) ∧ D.ct σ (upd H a u) }
/-! the walk over the keys -/
theorem pairs_key {P : Program} {w : World} {es : List DictEntry} {vs : List (Key × Value)} (h : Pairs (mixKind P w) es vs) : ∀ (i : Nat) (e : DictEntry), es[i]? = some e → ∃ k, (vs[i]?).map (·.1) = some k ∧ RelV (kV k) e.key := by
  induction h with
  | nil => intro i e q; simp at q
  | cons h1 h2 _ ih =>
    intro i e q
    cases i with
    | zero =>
      simp at q
      subst q
      rename_i e kv _ _ _
      refine ⟨kv.1, rfl, ?_⟩
      rcases keyIs_shape h1 with ⟨j, t, e1, e2⟩ | ⟨x, t, e1, e2⟩
      · rw [e1]; exact ⟨t, e2⟩
      · rw [e1]; exact ⟨t, e2⟩
    | succ i => simpa using ih i e (by simpa using q)
def Itk (a : Addr) (o : Obj) (kvs : List (Key × V)) : It :=
  ⟨fun i H => H a = some (.frz o (.dK kvs)) ∧ i < kvs.length, fun i H x H' => H' = H ∧ ∃ k, (kvs[i]?).map (·.1) = some k ∧ x = kV k, fun i H => H a = some (.frz o (.dK kvs)) ∧ i = kvs.length⟩
theorem turn_dict {P : Program} {w : World} {K : PySem.W.Frag} {tg : Expr} (a it : Addr) {o : Obj} {es : Array DictEntry} {ep : Nat} {kvs : List (Key × V)} (hx : o.ExactDict) (hd : o.data = .dict es ep) (hlen : es.size = kvs.length)
    (hkey : ∀ (i : Nat) (e : DictEntry), es[i]? = some e → ∃ k, (kvs[i]?).map (·.1) = some k ∧ RelV (kV k) e.key) (hne : a ≠ it) :
    Turn P w K tg (Itk a o kvs) [it] it (fun i h => h.IsKeyIter it a i es.size ep) where
  mem := by simp
  obj := fun i h st b hb => by
    have e : b = it := by simpa using hb
    subst e
    obtain ⟨ob, h1, h2, h3⟩ := st
    exact ⟨ob, h1, fun v z => by rw [h3] at z; cases z⟩
  keep := fun i h h' st k => by
    obtain ⟨ob, h1, h2⟩ := st
    exact ⟨ob, k it (by simp) _ h1, h2⟩
  item := by
    intro X hP hw hK hc i pins s σ H E I hf st hg
    subst hP hw hK
    obtain ⟨hg, hi⟩ := hg
    obtain ⟨f0, f1, f2, f3, f4, f5⟩ := hf it (by simp)
    have ho : s.heap.get? a = some o := (show ObjOk X.prog X.w H s.heap a (.frz o (.dK kvs)) from I.hok a _ hg).1
    have hl : i < es.size := by rw [hlen]; exact hi
    refine DR.raw_item st ⟨o, ho, hx, hd⟩ hl fun h' st' sb => ?_
    obtain ⟨k, hk, rk⟩ := hkey i es[i] (Array.getElem?_eq_getElem hl)
    have J1 : Inv X pins σ H { s with heap := h' } := I.turned (t' := s.toks) (fun b ob hb e => (sb.2 b hb).trans e) f0 f1 f3 f4 f5
    obtain ⟨ob, g1, g2, g3⟩ := id st'
    exact ⟨_, rfl, go_of (s := { s with heap := h' }) (n := "dict_keyiterator") g1 g2 g3 (by decide) ⟨kV k, H, J1, rk, ⟨rfl, k, hk, rfl⟩, st', fun b hb => (hf b hb).1⟩⟩
  done := by
    intro X hP hw hK hc i pins s σ H E I hf st hg
    subst hP hw hK
    obtain ⟨hg, hi⟩ := hg
    obtain ⟨f0, f1, f2, f3, f4, f5⟩ := hf it (by simp)
    have ho : s.heap.get? a = some o := (show ObjOk X.prog X.w H s.heap a (.frz o (.dK kvs)) from I.hok a _ hg).1
    exact DR.raw_end (I.ok.hd hc) st ⟨o, ho, hx, hd⟩ (by rw [hlen, hi]; exact Nat.le_refl _) fun h' eb => ⟨rfl, I.turned (t' := s.toks) (fun b ob hb e => eb b ob hb e) f0 f1 f3 f4 f5⟩
  self := fun A i s Q E st h => by
    obtain ⟨ob, h1, h2, h3⟩ := id st
    exact wpAny_pyIter_keyiter st h
def iFd (tl : TE) : TI := fun σ H R => tl σ H fun x H1 => ∃ a kvs, x = .ref a ∧ H1 a = some (.dK kvs) ∧ ∀ o, R (Itk a o kvs) (upd H1 a (.frz o (.dK kvs)))
theorem pi_fd {X : Cx} {tg l : Expr} {tl : TE} (hl : PE X l tl) : PI X tg l (iFd tl) := by
  intro pins s σ H R I h
  refine thn (hl pins s σ H _ I h) fun v s1 hw' => ?_
  obtain ⟨x, H1, I1, r1, q1⟩ := hw'
  obtain ⟨a, kvs, e, ha, q⟩ := q1
  subst e
  cases r1
  obtain ⟨hz, hm, vs, rel, o, es, ep, ho, hx, hd, _, hp, _⟩ := dk_of I1.hok ha
  have hlen : es.size = kvs.length := by
    have := hp.length
    rw [rel.length, ← this]
    simp
  have hkey : ∀ (i : Nat) (e : DictEntry), es[i]? = some e → ∃ k, (kvs[i]?).map (·.1) = some k ∧ RelV (kV k) e.key := fun i e hi => by
    obtain ⟨k, hk, rk⟩ := pairs_key hp i e (by simpa using hi)
    refine ⟨k, ?_, rk⟩
    have q2 : (kvs.map (·.1))[i]? = (vs.map (·.1))[i]? := by rw [rel.keys]
    rw [List.getElem?_map, List.getElem?_map, hk] at q2
    exact q2
  have lt : a < s1.heap.objs.size := Heap.lt_size ho
  have I2 := I1.freeze ha ho
  refine DR.raw_iter hm ⟨o, ho, hx, hd⟩ ⟨s1.heap.objs.size, [s1.heap.objs.size], _, _, _, rfl, I2.kept (t' := s1.toks) fun b ob e => Heap.get?_push_of_some _ e, turn_dict a _ hx hd hlen hkey (Nat.ne_of_lt lt), ⟨_, Heap.get?_push_size _ rfl, rfl, rfl⟩, fun b hb => ?_, q o⟩
  have e : b = s1.heap.objs.size := by simpa using hb
  subst e
  exact I2.fpOk (Nat.le_refl _) (I2.hok.fresh (Nat.le_refl _))
end L2
set_option Elab.async false
set_option linter.all false
set_option maxRecDepth 100000
namespace DL
open PySem PySem.Spec PyProof.Rows L2
/-! ### for k in d: the dict is held still through the loop -/
/-- the dict n is let go again -/
def thawO (n : Nat) (kvs : List (Key × D)) (Ω : List OS) : Option (List OS) := match Ω[n]? with
  | some (.fzK kvs') => if kvs'.map (·.1) = kvs.map (·.1) then some (Ω.set n (.dK kvs')) else none
  | _ => none
theorem thaw_to {K : PySem.W.Frag} {C : Cl} {e₀ e : E4} {Ω Ω' : List OS} {n : Nat} {a : Addr} {o : Obj} {kvs : List (Key × D)} {vs : List (Key × V)} (w : Wf K C e Ω) (hα : e.α[n]? = some a) (ha : e.H a = some (.frz o (.dK vs))) (h : thawO n kvs Ω = some Ω') :
    Wf K C (e.at a (.dK vs)) Ω' := by
  unfold thawO at h
  cases q : Ω[n]? with
  | none => rw [q] at h; cases h
  | some os =>
    rw [q] at h
    cases os with
    | fzK kvs' =>
      dsimp only at h
      split at h
      · cases h
        obtain ⟨vs', o', h1, h2⟩ := (w.ob n a _ hα q).2
        rw [ha] at h1
        cases h1
        exact w.atW hα (fun xs z => nomatch z) ⟨vs, upd_same, h2⟩
      · cases h
    | _ => cases h
theorem thaw_ext {e₀ e : E4} {a : Addr} {o : Obj} {u : HO} (x : Ext e₀ e) (ha : e.H a = some (.frz o u)) (h0 : ∀ o u, e₀.H a ≠ some (.frz o u)) : Ext e₀ (e.at a u) := by
  refine ⟨fun b o' u' h => ?_, fun b v h hn => ?_, fun b v h => ?_, x.ff, x.fn, x.an, x.aa, x.al⟩
  · show upd e.H a u b = some (.frz o' u')
    rw [upd_ne (fun z => h0 o' u' (by rw [← z]; exact h))]; exact x.fz b o' u' h
  · show upd e.H a u b = some v
    have q := x.hk b v h hn
    rw [upd_ne (fun z => by rw [z] at q h; rw [ha] at q; cases q; exact h0 _ _ h)]; exact q
  · by_cases z : b = a
    · subst z; exact ⟨u, upd_same⟩
    · obtain ⟨v', q⟩ := x.dm b v h
      exact ⟨v', by show upd e.H a u b = some v'; rw [upd_ne z]; exact q⟩
section
variable {X : Cx} {C : Cl} {tg iter : Expr} {g : Den} {β : BDen} {s : SDen} {body : List Stmt} {pos : Pos}
end
end DL
set_option Elab.async false
set_option linter.all false
set_option maxRecDepth 100000
/-! min(xs), min(xs, key = f, default = d), over any heap -/
namespace KS
open PySem PySem.W PySem.Calls PyProof.Rows
def bArr : Option (Value × Value) → Array Value
  | none => #[]
  | some (v, k) => #[v, k]
def upS (s : Shared) (S : Addr) (xs : Array Value) : Shared := { s with heap := s.heap.update S (Obj.mapSeq fun _ => xs) }
section
variable {prog : Program} {w : World} {A : Around} {R : Result → Shared → Prop} {I S : Addr} {kv : Value} {kw : List (Str × Value)} {n : Nat}
def KeyRun (prog : Program) (w : World) (A : Around) (kv v : Value) (Q : Value → Shared → Prop) (s : Shared) : Prop := match kv with
  | .none => Q v s
  | _ => ∀ E, wpAny (model prog w) A (call kv [v]) Q E s
theorem min_loop (hkv : kv = .none ∨ ∃ q, kv = .ref q) (J : Nat → Option (Value × Value) → Shared → Prop) (JK : Nat → Option (Value × Value) → Value → Value → Shared → Prop)
    (hS : ∀ i b s, J i b s → ∃ c, s.heap.get? S = some (seqObj "list" (bArr b) c))
    (hSK : ∀ i b v k s, JK i b v k s → ∃ c, s.heap.get? S = some (seqObj "list" (bArr b) c))
    (item : ∀ i b s (Q : Option Value → Shared → Prop) (E : Value → Shared → Prop), i < n → J i b s → (∀ v s1, KeyRun prog w A.in1 kv v (fun k s2 => JK i b v k s2) s1 → Q (some v) s1) → wpAny (model prog w) A.in1 (pyNext (.ref I)) Q E s)
    (cmp : ∀ i vb kb v k s (Q : Value → Shared → Prop) (E : Value → Shared → Prop), JK i (some (vb, kb)) v k s → (∀ b : Bool, (b = true → J (i + 1) (some (v, k)) (upS s S #[v, k])) → (b = false → J (i + 1) (some (vb, kb)) s) → Q (.bool b) s) → wpAny (model prog w) A.in1 (richCompare .Lt k kb) Q E s)
    (put : ∀ i v k s, JK i none v k s → J (i + 1) (some (v, k)) (upS s S #[v, k]))
    (done : ∀ b s (Q : Option Value → Shared → Prop) (E : Value → Shared → Prop), J n b s → (∀ s1, (∀ v k, b = some (v, k) → (∃ c, s1.heap.get? S = some (seqObj "list" #[v, k] c)) ∧ R (.ok (.ret v)) (upS s1 S #[])) → (b = none → ∃ x d, kw = [(x, d)] ∧ R (.ok (.ret d)) s1) → Q none s1) → wpAny (model prog w) A.in1 (pyNext (.ref I)) Q E s) :
    ∀ (r i : Nat) (b : Option (Value × Value)) (s : Shared), n - i = r → i ≤ n → J i b s → codeAny (model prog w) A (.builtin "min.loop" ⟨[.ref I, kv, .ref S], kw⟩) R s := by
  have hname : (toString "min" ++ toString ".loop" : String) = "min.loop" := by decide
  intro r
  induction r with
  | zero =>
    intro i b s hr hi hJ
    have hin : i = n := by omega
    subst hin
    obtain ⟨c, oS⟩ := hS _ _ _ hJ
    refine codeAny_builtin PySem.F.entry_min_loop ?_
    rw [Around.under_plainId PySem.F.plain_min_loop _]
    show wpAny _ A.in1 (seqItems? (.ref S) >>= _) _ _ s
    refine wpAny_bind (wpAny_seqItems oS rfl ?_)
    show wpAny _ A.in1 (tryCatch (pyNext (.ref I)) _ >>= _) _ _ s
    refine wpAny_bind (wpAny_tryCatch (done b s _ _ hJ fun s1 h1 h2 => ?_))
    cases b with
    | none =>
      obtain ⟨x, d, rfl, hR⟩ := h2 rfl
      show wpAny _ A.in1 (rule _ >>= _) _ _ _
      refine wpAny_bind (wpAny_rule ?_)
      exact wpAny_pure hR
    | some p =>
      obtain ⟨v, k⟩ := p
      obtain ⟨⟨c', o'⟩, hR⟩ := h1 v k rfl
      show wpAny _ A.in1 (updateSeq S (fun _ => #[]) >>= _) _ _ _
      refine wpAny_bind ?_
      refine wpAny_updateSeq o' rfl (wpAny_bind (wpAny_letGo (wpAny_pure ?_)))
      exact hR
  | succ r ih =>
    intro i b s hr hi hJ
    have hlt : i < n := by omega
    obtain ⟨c, oS⟩ := hS _ _ _ hJ
    refine codeAny_builtin PySem.F.entry_min_loop ?_
    rw [Around.under_plainId PySem.F.plain_min_loop _]
    show wpAny _ A.in1 (seqItems? (.ref S) >>= _) _ _ s
    refine wpAny_bind (wpAny_seqItems oS rfl ?_)
    show wpAny _ A.in1 (tryCatch (pyNext (.ref I)) _ >>= _) _ _ s
    refine wpAny_bind (wpAny_tryCatch (item i b s _ _ hlt hJ fun v s1 hK => ?_))
    have rest : ∀ k s2, JK i b v k s2 → wpAny (model prog w) A.in1 (do
        let old := (bArr b).toList
        let failing {α : Type} (first : List Value) (m : Sem α) : Sem α := m.tryCatch fun e => do
          updateSeq S fun _ => #[]
          letGo (first ++ old.reverse) [e]
          throw e
        match old with
        | [oldItem, oldVal] =>
          let better ← failing [k, v] <| holding [v, k] do
            let answer ← richCompare .Lt k oldVal
            let yes ← holding [answer] (truthy answer)
            letGo [answer]
            pure yes
          if better then
            updateSeq S fun _ => #[v, k]
            letGo [oldVal, oldItem]
          else letGo [v, k]
        | _ => updateSeq S fun _ => #[v, k]
        again (.builtin (toString "min" ++ toString ".loop") ⟨[.ref I, kv, .ref S], kw⟩)) (fun fin s' => match fin with
          | .done f => R (.ok f) s'
          | .again c' => c'.quiet = true ∧ codeAny (model prog w) A c' R s') (fun e s' => R (.error e) s') s2 := by
      intro k s2 hJK
      obtain ⟨c2, o2⟩ := hSK _ _ _ _ _ hJK
      cases b with
      | none =>
        show wpAny _ A.in1 (updateSeq S (fun _ => #[v, k]) >>= _) _ _ _
        refine wpAny_bind ?_
        refine wpAny_updateSeq o2 rfl ?_
        rw [hname]
        exact wpAny_pure ⟨plainId_quiet PySem.F.plain_min_loop _, ih (i + 1) _ _ (by omega) hlt (put i v k s2 hJK)⟩
      | some p =>
        obtain ⟨vb, kb⟩ := p
        show wpAny _ A.in1 (tryCatch (holding [v, k] (richCompare .Lt k kb >>= _)) _ >>= _) _ _ _
        refine wpAny_bind (wpAny_tryCatch (wpAny_holding (wpAny_bind (cmp i vb kb v k s2 _ _ hJK fun bb hT hF => ?_))))
        refine wpAny_bind (wpAny_holding (wpAny_truthy_bool ?_))
        refine wpAny_bind (wpAny_letGo (wpAny_pure ?_))
        cases bb with
        | true =>
          simp only [if_true]
          refine wpAny_bind ?_
          refine wpAny_updateSeq o2 rfl (wpAny_bind (wpAny_letGo ?_)) (by show 2 ≤ sizeLine; decide)
          rw [hname]
          exact wpAny_pure ⟨plainId_quiet PySem.F.plain_min_loop _, ih (i + 1) _ _ (by omega) hlt (hT rfl)⟩
        | false =>
          simp only [Bool.false_eq_true, if_false]
          refine wpAny_bind (wpAny_letGo ?_)
          rw [hname]
          exact wpAny_pure ⟨plainId_quiet PySem.F.plain_min_loop _, ih (i + 1) _ _ (by omega) hlt (hF rfl)⟩
    rcases hkv with rfl | ⟨q, rfl⟩
    · exact rest v s1 hK
    · show wpAny _ A.in1 (tryCatch (holding [v] (call (.ref q) [v])) _ >>= _) _ _ _
      refine wpAny_bind (wpAny_tryCatch (wpAny_holding (wpAny_mono (hK (fun _ _ => False)) (fun k s2 hJK => ?_) fun _ _ hF => hF.elim)))
      exact rest k s2 hJK
end
end KS
set_option Elab.async false
set_option linter.all false
set_option maxRecDepth 100000
namespace L2
open PySem PySem.Spec PyProof.Rows KS PySem.W
/-- the first least one among the first k + 1 -/
def mIx (nss : List (List Int)) : Nat → Nat
  | 0 => 0
  | k + 1 => if HT.lexLt (nss.getD (k + 1) []) (nss.getD (mIx nss k) []) then k + 1 else mIx nss k
theorem mIx_le (nss : List (List Int)) : ∀ k, mIx nss k ≤ k
  | 0 => Nat.le_refl _
  | k + 1 => by
    unfold mIx
    split
    · exact Nat.le_refl _
    · exact Nat.le_succ_of_le (mIx_le nss k)
section
variable {X : Cx} {pins : List (Addr × Obj)} {σ : St} {H : Hp} {s : Shared}
/-- what stands in the list of the best one behind i items -/
def Bst (nss : List (List Int)) (xs vks : List V) : Nat → Option (Value × Value) → Prop
  | 0, b => b = none
  | i + 1, b => ∃ v k, b = some (v, k) ∧ RelV (xs.getD (mIx nss i) .non) v ∧ RelV (vks.getD (mIx nss i) .non) k
theorem keys_at {vks : List V} {nss : List (List Int)} {H : Hp} {i j : Nat} (h : KeysAre H vks (nss.take i)) (hj : j < i) (hn : j < nss.length) : ∃ b, vks.getD j .non = .ref b ∧ H b = some (.tup ((nss.getD j []).map V.int)) := by
  have hl := Paired.length h
  rw [List.length_take] at hl
  have hjv : j < vks.length := by omega
  obtain ⟨ns, e1, b, e2, e3, e4⟩ := Paired.get h (List.getElem?_eq_getElem hjv)
  rw [List.getElem?_take_of_lt hj, List.getElem?_eq_getElem hn] at e1
  cases e1
  exact ⟨b, by rw [getD_get hjv, e2], by rw [getD_get hn]; exact e3⟩
theorem getD_app {β : Type} {l : List β} {x d : β} {j : Nat} (h : j < l.length) : (l ++ [x]).getD j d = l.getD j d := by
  rw [getD_get h, getD_get (by rw [List.length_append]; omega), List.getElem_append_left h]
theorem getD_app_last {β : Type} {l : List β} {x d : β} : (l ++ [x]).getD l.length d = x := by
  rw [getD_get (by simp)]; simp
theorem run_min {l : Addr} {xs : List V} {nss : List (List Int)} {Q : VK} {kv : Value} {kws kw : List (Str × Value)} {R : Result → Shared → Prop} (hkv : kv = .none ∨ ∃ q, kv = .ref q) (hh : X.A.handled = none) (hu : X.A.units + 64 < cLine)
    (W : Nat → List V → Hp → Prop)
    (KR : ∀ (pins' : List (Addr × Obj)) (i : Nat) (x : V) (v : Value) (vks : List V) (H' : Hp) (s' : Shared), xs[i]? = some x → RelV x v → W i vks H' → Inv X pins' σ H' s' → KeyRun X.prog X.w X.A.in1 kv v (fun k s2 => ∃ vk H2, Inv X pins' σ H2 s2 ∧ RelV vk k ∧ W (i + 1) (vks ++ [vk]) H2) s')
    (wl : ∀ i vks H', W i vks H' → H' l = some (.lst xs)) (wk : ∀ i vks H', W i vks H' → KeysAre H' vks (nss.take i)) (hn : nss.length = xs.length)
    (wend : ∀ vks H', W xs.length vks H' → xs ≠ [] → Q (xs.getD (mIx nss (xs.length - 1)) .non) H')
    (wnil : ∀ vks H', W xs.length vks H' → xs = [] → ∃ x, kw = [(x, .none)] ∧ Q .non H')
    (hR : ∀ v s', EP X pins σ Q v s' → R (.ok (.ret v)) s')
    {I0 S0 : Addr} (hIS : S0 ≠ I0) (h0 : ∃ H', Inv X pins σ H' s ∧ FpOk X pins H' I0 ∧ FpOk X pins H' S0 ∧ W 0 [] H') (hI0 : s.heap.IsListIter I0 l 0) (hS0 : ∃ c, s.heap.get? S0 = some (seqObj "list" #[] c)) :
    codeAny (model X.prog X.w) X.A (.builtin "min.loop" ⟨[.ref I0, kv, .ref S0], kw⟩) R s := by
  have hh1 : X.A.in1.handled = none := hh
  have hu1 : X.A.in1.units < cLine := by show X.A.units + 1 < cLine; omega
  have turn : ∀ {H' : Hp} {s' : Shared} {h2 : Heap} {t2 : Nat} {b : Addr}, Inv X pins σ H' s' → FpOk X pins H' b → (∀ c o, c ≠ b → s'.heap.get? c = some o → h2.get? c = some o) → Inv X pins σ H' { s' with heap := h2, toks := t2 } :=
    fun I' f kp => I'.turned kp f.1 f.2.1 f.2.2.2.1 f.2.2.2.2.1 f.2.2.2.2.2
  refine min_loop (n := xs.length) hkv
    (fun i b s' => ∃ vks H', Inv X pins σ H' s' ∧ FpOk X pins H' I0 ∧ FpOk X pins H' S0 ∧ s'.heap.IsListIter I0 l i ∧ (∃ c, s'.heap.get? S0 = some (seqObj "list" (bArr b) c)) ∧ W i vks H' ∧ Bst nss xs vks i b)
    (fun i b v k s' => ∃ vks vk x H', i < xs.length ∧ Inv X pins σ H' s' ∧ FpOk X pins H' I0 ∧ FpOk X pins H' S0 ∧ s'.heap.IsListIter I0 l (i + 1) ∧ (∃ c, s'.heap.get? S0 = some (seqObj "list" (bArr b) c)) ∧ W (i + 1) (vks ++ [vk]) H' ∧ vks.length = i ∧ xs[i]? = some x ∧ RelV x v ∧ RelV vk k ∧ Bst nss xs vks i b)
    (fun i b s' hw' => by obtain ⟨_, _, _, _, _, _, h, _⟩ := hw'; exact h) (fun i b v k s' hw' => by obtain ⟨_, _, _, _, _, _, _, _, _, h, _⟩ := hw'; exact h) ?item ?cmp ?put ?done xs.length 0 none s (by omega) (Nat.zero_le _) ?init
  case init =>
    obtain ⟨H', I', f1, f2, hW⟩ := h0
    exact ⟨[], H', I', f1, f2, hI0, hS0, hW, rfl⟩
  case item =>
    rintro i b s' Q' E' hi ⟨vks, H', I', f1, f2, hit, ⟨c, oS⟩, hW, hB⟩ hQ
    obtain ⟨its, r, ⟨o, m, e1, e2, _, e3⟩, hz⟩ := I'.list (SqL.of (wl _ _ _ hW))
    have hlI : l ≠ I0 := fun z => by have := wl _ _ _ hW; rw [z, f1.1] at this; cases this
    have Wk := Walks.list (prog := X.prog) (w := X.w) (A := X.A.in1) hh1 I0 l hlI its.toArray
    have hsz : its.toArray.size = xs.length := by rw [List.size_toArray]; exact r.length.symm
    refine Wk.item i s' _ _ (by rw [hsz]; exact hi) ⟨hit, ⟨o, e1, e2, m, e3⟩⟩ fun v h' tk hP hst hk => ?_
    have ex : xs[i]? = some xs[i] := List.getElem?_eq_getElem hi
    obtain ⟨u, q1, q2⟩ := r.get ex
    have hv : its[i]? = some v := by simpa using hP
    rw [hv] at q1
    cases q1
    have I1 : Inv X pins σ H' { s' with heap := h', toks := tk } := turn I' f1 fun c o hc q => hk c o (by simpa using hc) q
    have oS1 := hk S0 _ (by simpa using hIS) oS
    obtain ⟨oI, hoI, hoc, hod⟩ := id hst.1
    have pk : ∀ p ∈ pins ++ [(S0, seqObj "list" (bArr b) c), (I0, oI)], h'.get? p.1 = some p.2 ∧ H' p.1 = none ∧ p.1 ≠ X.env.locals ∧ p.1 ∉ X.fs ∧ ∀ v, p.2.data ≠ .cell v := fun p hp => by
      rcases List.mem_append.mp hp with z | z
      · exact I1.pin p (List.mem_append_right _ z)
      · rw [List.mem_cons, List.mem_singleton] at z
        rcases z with rfl | rfl
        · exact ⟨oS1, f2.1, f2.2.1, f2.2.2.1, fun v z => nomatch z⟩
        · exact ⟨hoI, f1.1, f1.2.1, f1.2.2.1, fun v z => by rw [hod] at z; cases z⟩
    have Ip := I1.pins_of pk
    have lv : vks.length = i := by
      have := Paired.length (wk _ _ _ hW)
      rw [List.length_take] at this
      omega
    have goal : ∀ k s2, (∃ vk H2, Inv X (pins ++ [(S0, seqObj "list" (bArr b) c), (I0, oI)]) σ H2 s2 ∧ RelV vk k ∧ W (i + 1) (vks ++ [vk]) H2) → ∃ vks vk x H', i < xs.length ∧ Inv X pins σ H' s2 ∧ FpOk X pins H' I0 ∧ FpOk X pins H' S0 ∧ s2.heap.IsListIter I0 l (i + 1) ∧ (∃ c, s2.heap.get? S0 = some (seqObj "list" (bArr b) c)) ∧ W (i + 1) (vks ++ [vk]) H' ∧ vks.length = i ∧ xs[i]? = some x ∧ RelV x v ∧ RelV vk k ∧ Bst nss xs vks i b := by
      rintro k s2 ⟨vk, H2, I2, rk, hW2⟩
      have p1 := I2.pin (S0, seqObj "list" (bArr b) c) (List.mem_append_right _ (List.mem_append_right _ (.head _)))
      have p2 := I2.pin (I0, oI) (List.mem_append_right _ (List.mem_append_right _ (.tail _ (.head _))))
      exact ⟨vks, vk, xs[i], H2, hi, I2.unpinned, fp_to f1 p2.2.1, fp_to f2 p1.2.1, ⟨oI, p2.1, hoc, hod⟩, ⟨c, p1.1⟩, hW2, lv, ex, q2, rk, hB⟩
    have hK := KR _ i xs[i] v vks H' _ ex q2 hW Ip
    refine hQ v _ ?_
    rcases hkv with rfl | ⟨q, rfl⟩
    · exact goal v _ hK
    · exact fun E => wpAny_mono (hK E) (fun k s2 z => goal k s2 z) fun _ _ e => e
  case cmp =>
    rintro i vb kb v k s' Q' E' ⟨vks, vk, x, H', hi, I', f1, f2, hit, ⟨c, oS⟩, hW, lv, ex, rx, rk, hB⟩ hQ
    cases i with
    | zero => cases hB
    | succ j =>
      obtain ⟨v', k', e', r1, r2⟩ := hB
      cases e'
      have hm := mIx_le nss j
      have K := wk _ _ _ hW
      obtain ⟨b1, z1, t1⟩ := keys_at (j := j + 1) K (by omega) (by omega)
      obtain ⟨b2, z2, t2⟩ := keys_at (j := mIx nss j) K (by omega) (by omega)
      rw [← lv, getD_app_last] at z1
      rw [getD_app (by omega)] at z2
      subst z1
      rw [z2] at r2
      cases rk
      cases r2
      obtain ⟨its1, ra, p1, _⟩ := I'.tuple (SqT.of t1)
      obtain ⟨its2, rb, p2, _⟩ := I'.tuple (SqT.of t2)
      refine HT.lt_tupInts p1 p2 (intsAre_of ra) (intsAre_of rb) hu1 (hQ _ (fun hT => ?_) fun hF => ?_)
      · have s1 := Heap.SameBut.update s'.heap S0 (Obj.mapSeq fun _ => #[v, .ref b1])
        obtain ⟨c2, hc2⟩ : ∃ c2, (s'.heap.update S0 (Obj.mapSeq fun _ => #[v, .ref b1])).get? S0 = some (seqObj "list" #[v, .ref b1] c2) := ⟨_, get?_update_seq oS fun _ => #[v, .ref b1]⟩
        refine ⟨vks ++ [.ref b1], H', turn (t2 := s'.toks) I' f2 fun c o hc q => (s1.2 c hc).trans q, f1, f2, hit.at fun o q => (s1.2 I0 hIS.symm).trans q, ⟨c2, hc2⟩, hW, v, .ref b1, rfl, ?_, ?_⟩
        · rw [show mIx nss (j + 1) = j + 1 from if_pos hT, List.getD_eq_getElem?_getD, ex]; exact rx
        · rw [show mIx nss (j + 1) = j + 1 from if_pos hT, ← lv, getD_app_last]; rfl
      · have em : mIx nss (j + 1) = mIx nss j := if_neg (by rw [hF]; simp)
        refine ⟨vks ++ [.ref b1], H', I', f1, f2, hit, ⟨c, oS⟩, hW, vb, .ref b2, rfl, by rw [em]; exact r1, ?_⟩
        rw [em, getD_app (by omega), z2]; rfl
  case put =>
    rintro i v k s' ⟨vks, vk, x, H', hi, I', f1, f2, hit, ⟨c, oS⟩, hW, lv, ex, rx, rk, hB⟩
    cases i with
    | succ j => obtain ⟨v', k', e', r1, r2⟩ := hB; cases e'
    | zero =>
      have s1 := Heap.SameBut.update s'.heap S0 (Obj.mapSeq fun _ => #[v, k])
      obtain ⟨c2, hc2⟩ : ∃ c2, (s'.heap.update S0 (Obj.mapSeq fun _ => #[v, k])).get? S0 = some (seqObj "list" #[v, k] c2) := ⟨_, get?_update_seq oS fun _ => #[v, k]⟩
      have ez : vks = [] := List.length_eq_zero_iff.mp lv
      subst ez
      exact ⟨[] ++ [vk], H', turn (t2 := s'.toks) I' f2 fun c o hc q => (s1.2 c hc).trans q, f1, f2, hit.at fun o q => (s1.2 I0 hIS.symm).trans q, ⟨c2, hc2⟩, hW, v, k, rfl, by rw [show mIx nss 0 = 0 from rfl, List.getD_eq_getElem?_getD, ex]; exact rx, rk⟩
  case done =>
    rintro b s' Q' E' ⟨vks, H', I', f1, f2, hit, ⟨c, oS⟩, hW, hB⟩ hQ
    obtain ⟨its, r, ⟨o, m, e1, e2, _, e3⟩, hz⟩ := I'.list (SqL.of (wl _ _ _ hW))
    have hlI : l ≠ I0 := fun z => by have := wl _ _ _ hW; rw [z, f1.1] at this; cases this
    have Wk := Walks.list (prog := X.prog) (w := X.w) (A := X.A.in1) hh1 I0 l hlI its.toArray
    have hsz : its.toArray.size = xs.length := by rw [List.size_toArray]; exact r.length.symm
    refine Wk.done s' _ _ ⟨by rw [hsz]; exact hit, ⟨o, e1, e2, m, e3⟩⟩ fun h' tk hk => ?_
    have I1 : Inv X pins σ H' { s' with heap := h', toks := tk } := turn I' f1 fun c o hc q => hk c o (by simpa using hc) q
    have oS1 := hk S0 _ (by simpa using hIS) oS
    refine hQ _ (fun v k eb => ?_) fun eb => ?_
    · subst eb
      refine ⟨⟨c, oS1⟩, ?_⟩
      have s1 := Heap.SameBut.update h' S0 (Obj.mapSeq fun _ => (#[] : Array Value))
      cases hx : xs.length with
      | zero => rw [hx] at hB; cases hB
      | succ j =>
        rw [hx] at hB
        obtain ⟨v', k', e', r1, r2⟩ := hB
        cases e'
        have hne : xs ≠ [] := fun z => by rw [z] at hx; cases hx
        have := wend _ _ hW hne
        rw [hx] at this
        exact hR _ _ ⟨_, H', turn (t2 := tk) I1 f2 fun c o hc q => (s1.2 c hc).trans q, r1, this⟩
    · subst eb
      cases hx : xs.length with
      | succ j => rw [hx] at hB; obtain ⟨v', k', e', _⟩ := hB; cases e'
      | zero =>
        obtain ⟨x, ek, hq⟩ := wnil _ _ hW (List.length_eq_zero_iff.mp hx)
        exact ⟨x, .none, ek, hR _ _ ⟨.non, H', I1, rfl, hq⟩⟩
end
end L2
set_option Elab.async false
set_option linter.all false
set_option maxRecDepth 100000
namespace L2
open PySem PySem.Spec PyProof.Rows KS PySem.W
section
variable {X : Cx} {k : Nat} {f : Addr} {fd : FuncData} {ps : List Str} {sp : Sp} {pins : List (Addr × Obj)} {σ : St} {H : Hp} {s : Shared}
/-- the two new objects: the walk and the best one so far -/
theorem min_begin {l : Addr} {xs : List V} {kv : Value} {kws kw : List (Str × Value)} {Q : Value → Shared → Prop} {E : Value → Shared → Prop} (I : Inv X pins σ H s) (hl : H l = some (.lst xs))
    (ha : argsOk "min" ⟨[.ref l], kws⟩) {ok od : Option Value} (hb : Builtin.Builtins.bindParams "min" ["key", "default"] 0 ⟨[], kws⟩ = pure [ok, od]) (ek : ok.getD .none = kv) (ed : (od.toList.map fun d => (Str.ofString "default", d)) = kw)
    (go : ∀ (I0 S0 : Addr) (s1 : Shared) (R : Result → Shared → Prop), S0 ≠ I0 → Inv X pins σ H s1 → FpOk X pins H I0 → FpOk X pins H S0 → s1.heap.IsListIter I0 l 0 → (∃ c, s1.heap.get? S0 = some (seqObj "list" #[] c)) → (∀ v s', Q v s' → R (.ok (.ret v)) s') →
      codeAny (model X.prog X.w) X.A (.builtin "min.loop" ⟨[.ref I0, kv, .ref S0], kw⟩) R s1) :
    wpAny (model X.prog X.w) X.A (call (.builtin "min") [.ref l] kws) Q E s := by
  have hname : (toString "min" ++ toString ".loop" : String) = "min.loop" := by decide
  obtain ⟨its, r, ⟨o, m, e1, e2, _, e3⟩, hz⟩ := I.list (SqL.of hl)
  refine kmk_tree PySem.F.kind_min PySem.F.plain_min PySem.F.entry_min ha ?_
  show wpAny _ X.A.in1 (Builtin.Builtins.bindParams "min" ["key", "default"] 0 ⟨[], kws⟩ >>= _) _ _ s
  refine wpAny_bind (wpAny_of_eq hb ?_)
  refine wpAny_bind (wpAny_pure ?_)
  refine wpAny_bind (wpAny_pyIter_list ⟨o, e1, e2, m, e3⟩ ?_)
  refine wpAny_bind (wpAny_newList ?_ (Nat.zero_le _))
  rw [hname, ek]
  have ed' : (od.toList.map fun d => (("default" : Str), d)) = kw := ed
  rw [ed']
  have gI : ((s.heap.push { cls := .type "list_iterator", data := .fields #[.ref l, .int 0 0] }).push (seqObj "list" #[] 0)).get? s.heap.objs.size = some { cls := .type "list_iterator", data := .fields #[.ref l, .int 0 0] } :=
    Heap.get?_push_of_some _ (Heap.get?_push_size _ rfl)
  have gS : ((s.heap.push { cls := .type "list_iterator", data := .fields #[.ref l, .int 0 0] }).push (seqObj "list" #[] 0)).get? (s.heap.push { cls := .type "list_iterator", data := .fields #[.ref l, .int 0 0] }).objs.size = some (seqObj "list" #[] 0) := Heap.get?_push_size _ rfl
  have hS : (s.heap.push { cls := .type "list_iterator", data := .fields #[.ref l, .int 0 0] }).objs.size = s.heap.objs.size + 1 := size_push' ..
  have hSI : (s.heap.push { cls := .type "list_iterator", data := .fields #[.ref l, .int 0 0] }).objs.size ≠ s.heap.objs.size := by rw [hS]; exact Nat.ne_of_gt (Nat.lt_succ_self _)
  have hle : s.heap.objs.size ≤ (s.heap.push { cls := .type "list_iterator", data := .fields #[.ref l, .int 0 0] }).objs.size := by rw [hS]; exact Nat.le_succ _
  refine wpAny_pure ⟨plainId_quiet PySem.F.plain_min_loop _, ?_⟩
  exact go _ _ _ _ hSI (I.kept (t' := s.toks) fun b u q => Heap.get?_push_of_some _ (Heap.get?_push_of_some _ q)) (I.fpOk (Nat.le_refl _) (I.hok.fresh (Nat.le_refl _))) (I.fpOk hle (I.hok.fresh hle)) ⟨_, gI, rfl, rfl⟩ ⟨0, gS⟩ fun v s' q => q
theorem call_minP (hh : X.A.handled = none) (hu : X.A.units + 64 < cLine) : CallR X (.builtin "min") (fun xs H Q => ∃ l ys nss, xs = [V.ref l] ∧ H l = some (.lst ys) ∧ ys ≠ [] ∧ KeysAre H ys nss ∧ Q (ys.getD (mIx nss (ys.length - 1)) .non) H) := by
  intro pins s σ H xs us Q I r h
  obtain ⟨l, ys, nss, rfl, hl, hne, hK, fin⟩ := h
  obtain ⟨u, rfl, ru⟩ := vals1 r
  cases ru
  have hn : nss.length = ys.length := (Paired.length hK).symm
  refine min_begin (kv := .none) (kw := []) I hl (PySem.F.args_min1 _) (ok := none) (od := none) rfl rfl rfl fun I0 S0 s1 R hne' I1 f1 f2 hI hS hR => ?_
  have tk : ∀ i, KeysAre H (ys.take i) (nss.take i) := fun i => by
    have : ∀ (ys : List V) (nss : List (List Int)) (i : Nat), KeysAre H ys nss → KeysAre H (ys.take i) (nss.take i) := fun ys nss i h => by
      induction h generalizing i with
      | nil => rw [List.take_nil, List.take_nil]; exact .nil
      | cons r t ih =>
        cases i with
        | zero => exact .nil
        | succ i => exact .cons r (ih i)
    exact this ys nss i hK
  refine run_min (Q := Q) (kws := []) (.inl rfl) hh hu (fun i vks H' => H' = H ∧ i ≤ ys.length ∧ vks = ys.take i) ?_ (fun i vks H' ⟨e, _⟩ => by rw [e]; exact hl) (fun i vks H' ⟨e, _, e2⟩ => by rw [e, e2]; exact tk i) hn (fun vks H' ⟨e, _⟩ _ => by rw [e]; exact fin) (fun vks H' _ z => absurd z hne) hR hne' ⟨H, I1, f1, f2, rfl, Nat.zero_le _, rfl⟩ hI hS
  rintro pins' i x v vks H' s' ex rx ⟨rfl, hi, rfl⟩ I'
  have hix : i < ys.length := (List.getElem?_eq_some_iff.mp ex).1
  refine ⟨x, H', I', rx, rfl, hix, ?_⟩
  rw [List.take_succ, ex]; rfl
end
end L2
set_option Elab.async false
set_option linter.all false
set_option maxRecDepth 100000
namespace DL
open PySem PySem.Spec PyProof.Rows L2
/-! ### min(xs) of tuples of ints; min(xs, key = f, default = None); tuple < tuple of ints -/
def keysT : List D → Option (List (List Int))
  | [] => some []
  | d :: ds => match keyI d with
    | some ns => match keysT ds with
      | some nss => some (ns :: nss)
      | none => none
    | none => none
theorem keysT_of : ∀ {ds : List D} {nss : List (List Int)}, keysT ds = some nss → ds = nss.map (fun ns => D.tup (ns.map D.int)) ∧ ∀ ns ∈ nss, ns ≠ []
  | [], nss, h => by cases h; exact ⟨rfl, fun _ h => nomatch h⟩
  | d :: ds, nss, h => by
    unfold keysT at h
    cases q : keyI d with
    | none => rw [q] at h; cases h
    | some ns =>
      rw [q] at h
      dsimp only at h
      cases q2 : keysT ds with
      | none => rw [q2] at h; cases h
      | some ms =>
        rw [q2] at h
        cases h
        obtain ⟨e1, e2⟩ := keyI_of q
        obtain ⟨e3, e4⟩ := keysT_of q2
        refine ⟨by rw [e1, e3]; rfl, fun m hm => ?_⟩
        rcases List.mem_cons.mp hm with rfl | hm
        · exact e2
        · exact e4 m hm
def minD (nss : List (List Int)) (ds : List D) : D := ds.getD (mIx nss (ds.length - 1)) .non
def gMin (g : Den) : Den := fun ρ Ω => match g ρ Ω with
  | some (.lst (d :: ds), Ω1) => match keysT (d :: ds) with
    | some nss => some (minD nss (d :: ds), Ω1)
    | none => none
  | _ => none
def ltTD : D → D → Option D
  | .tup xs, .tup ys => match intsD xs, intsD ys with
    | some ns, some ms => some (.bl (HT.lexLt ns ms))
    | _, _ => none
  | _, _ => none
section
variable {X : Cx} {C : Cl} {n : Str} {p pos kpos npos kpos2 cpos : Pos} {a : Expr} {g : Den} {k : Nat}
theorem opD_ltT (hu : X.A.units + 64 < cLine) : OpD X C (compareOp .Lt) ltTD := by
  rintro pins s σ H x y v u Q I rx ry ⟨e, Ω, d₁, d₂, z, eH, w, i1, i2, q, kk⟩
  subst eH
  cases d₁ with
  | tup xs =>
    cases d₂ with
    | tup ys =>
      cases q1 : intsD xs with
      | none => simp only [ltTD, q1] at q; cases q
      | some ns =>
        cases q2 : intsD ys with
        | none => simp only [ltTD, q1, q2] at q; cases q
        | some ms =>
          simp only [ltTD, q1, q2] at q
          cases q
          rw [intsD_map q1, Is] at i1
          rw [intsD_map q2, Is] at i2
          obtain ⟨b1, vs1, rfl, h1, r1⟩ := i1
          obtain ⟨b2, vs2, rfl, h2, r2⟩ := i2
          rw [isL_ints r1] at h1
          rw [isL_ints r2] at h2
          exact op_ltT (by omega) pins s σ _ _ _ v u Q I rx ry ⟨b1, b2, ns, ms, rfl, rfl, SqT.of (w.fh _ _ h1), SqT.of (w.fh _ _ h2), kk _ e (Ext.refl e) w (by rw [Is])⟩
    | _ => cases q
  | _ => cases q
theorem is_getD {K : PySem.W.Frag} {α : List Addr} {F : Hp} {ds : List D} {vs : List V} (h : IsL K α F ds vs) (i : Nat) : Is K α F (ds.getD i .non) (vs.getD i .non) := by
  by_cases hi : i < ds.length
  · obtain ⟨v, e1, e2⟩ := h.get (List.getElem?_eq_getElem hi)
    rw [getD_get hi, List.getD_eq_getElem?_getD, e1]
    exact e2
  · have hl := h.length
    rw [List.getD_eq_getElem?_getD, List.getElem?_eq_none (Nat.le_of_not_lt hi), List.getD_eq_getElem?_getD, List.getElem?_eq_none (by omega)]
    show Is K α F .non .non
    rw [Is]
theorem pd_min (hr : Room k X.A) (hg : Gl X n) (hm : X.mg n = none) (hv : bootBuiltins n = some (.builtin "min")) (ho : PD X C a g) (hn : n ≠ "__name__" := by decide) (hdb : (n == ("__debug__" : Str)) = false := by decide)
    (he : starEach [a] X.env = (false, eval a X.env) :: starEach [] X.env := by rfl) (hpl : (backTo pos (starEach [] X.env)).any (·.1) = false := by rfl) : PD X C (.Call (.Name n p) [a] [] pos) (gMin g) :=
  pe_imp (pe_callB (call_minP hr.hd hr.units) hg hm hv (pa_cons ho pa_nil he) hn hdb he hpl) fun σ H Q hw' => by
    obtain ⟨e, Ω, ρ, d, Ω', eH, w, rl, q, kk⟩ := hw'
    unfold gMin at q
    cases q1 : g ρ Ω with
    | none => rw [q1] at q; cases q
    | some p1 =>
      obtain ⟨d1, Ω1⟩ := p1
      rw [q1] at q
      cases d1 with
      | lst ds =>
        cases ds with
        | nil => cases q
        | cons d0 ds =>
          dsimp only at q
          cases q2 : keysT (d0 :: ds) with
          | none => rw [q2] at q; cases q
          | some nss =>
            rw [q2] at q
            cases q
            refine ⟨e, Ω, ρ, _, _, eH, w, rl, q1, fun v e1 x1 w1 i1 => ?_⟩
            rw [Is] at i1
            obtain ⟨l, vs, rfl, hF, il⟩ := i1
            have len := il.length
            obtain ⟨em, ne⟩ := keysT_of q2
            have il' := il
            rw [em] at il'
            refine ⟨l, vs, nss, rfl, w1.fh _ _ hF, fun z => ?_, keys_of w1.fh ne il', kk _ e1 x1 w1 ?_⟩
            · rw [z] at len; simp at len
            · have hb := is_getD il (mIx nss ((d0 :: ds).length - 1))
              rw [← len]; exact hb
      | _ => cases q
end
end DL
set_option Elab.async false
set_option linter.all false
set_option maxRecDepth 100000
namespace DL
open PySem PySem.Spec PyProof.Rows L2
section
variable {X : Cx} {C : Cl} {k : Nat} {F : FDen} {n : Str} {p pos : Pos}
end
def mergeD (kvs more : List (Key × D)) : List (Key × D) := more.foldl (fun acc kv => putD acc kv.1 kv.2) kvs
theorem PsIs.merge {K : PySem.W.Frag} {α : List Addr} {F : Hp} : ∀ {more : List (Key × D)} {ms : List (Key × V)} {kvs : List (Key × D)} {vs : List (Key × V)}, PsIs K α F more ms → PsIs K α F kvs vs → PsIs K α F (mergeD kvs more) (mergeK vs ms)
  | [], ms, kvs, vs, h, h2 => by rw [show ms = [] from h]; exact h2
  | p :: r, ms, kvs, vs, ⟨v, t, e, i, q⟩, h2 => by
    rw [e]
    exact PsIs.merge (kvs := putD kvs p.1 p.2) (vs := putK vs p.1 v) q (h2.put p.1 i)
section
variable {X : Cx} {C : Cl} {pos : Pos}
/-- the texts and values of a display, one by one -/
inductive PDP (X : Cx) (C : Cl) : List (Option Expr) → List Expr → List (Str × Den) → Prop
  | nil : PDP X C [] [] []
  | cons {z : Str} {j : Nat} {p : Pos} {x : Expr} {g : Den} {ks : List (Option Expr)} {vs : List Expr} {kgs : List (Str × Den)} : PD X C x g → PDP X C ks vs kgs → PDP X C (some (.Constant (.str z) j p) :: ks) (x :: vs) ((z, g) :: kgs)
theorem PDP.all {ks : List (Option Expr)} {vs : List Expr} {kgs : List (Str × Den)} (h : PDP X C ks vs kgs) : ks.all (·.isSome) = true ∧ ks.length = vs.length ∧ kgs.length = ks.length := by
  induction h with
  | nil => exact ⟨rfl, rfl, rfl⟩
  | cons _ _ ih => exact ⟨by rw [List.all_cons, ih.1]; rfl, by rw [List.length_cons, List.length_cons, ih.2.1], by rw [List.length_cons, List.length_cons, ih.2.2]⟩
end
end DL
set_option Elab.async false
set_option linter.all false
set_option maxRecDepth 100000
/-! TUPLES: t + u (either may be empty), t[a:b] (also the whole, which is t itself) -/
namespace DL
open PySem PySem.Spec PyProof.Rows L2

section
variable {prog : Program} {w : World} {A : Around} {E : Value → Shared → Prop} {s : Shared}
end

section
variable {X : Cx} {C : Cl} {a b c x : Expr} {f g h : Den} {pos : Pos}
/-! ### x in a list or tuple of plain data -/
open Classical in
end
end DL
set_option Elab.async false
set_option linter.all false
set_option maxRecDepth 100000
/-! dict(l), l a list of pairs whose keys are tuples, each once -/
namespace L2
open PySem PySem.Spec PyProof.Rows
section
variable {prog : Program} {w : World} {A : Around} {E : Value → Shared → Prop} {s : Shared}
end
/-- the items of a list of pairs: their keys and things -/
inductive Prs (H : Hp) : List V → List (List Key × V) → Prop where
  | nil : Prs H [] []
  | cons {p b : Addr} {k : List Key} {y : V} {vs : List V} {kvs : List (List Key × V)} : H p = some (.tup [.ref b, y]) → H b = some (.tup (k.map kV)) → Prs H vs kvs → Prs H (.ref p :: vs) ((k, y) :: kvs)
theorem Prs.length {H : Hp} {vs : List V} {kvs : List (List Key × V)} (h : Prs H vs kvs) : vs.length = kvs.length := by
  induction h with
  | nil => rfl
  | cons _ _ _ ih => rw [List.length_cons, List.length_cons, ih]
theorem Prs.get {H : Hp} {vs : List V} {kvs : List (List Key × V)} (h : Prs H vs kvs) : ∀ (i : Nat) (v : V), vs[i]? = some v → ∃ p b k y, v = .ref p ∧ kvs[i]? = some (k, y) ∧ H p = some (.tup [.ref b, y]) ∧ H b = some (.tup (k.map kV)) := by
  induction h with
  | nil => intro i v h; simp at h
  | cons h1 h2 t ih =>
    intro i v h
    cases i with
    | zero => rw [List.getElem?_cons_zero] at h; cases h; exact ⟨_, _, _, _, rfl, rfl, h1, h2⟩
    | succ i =>
      rw [List.getElem?_cons_succ] at h
      obtain ⟨p, b, k, y, e1, e2, e3, e4⟩ := ih i v h
      exact ⟨p, b, k, y, e1, by rw [List.getElem?_cons_succ]; exact e2, e3, e4⟩
section
variable {X : Cx} {pins : List (Addr × Obj)} {σ : St} {H : Hp} {s₀ : Shared} {A : Around}
end
end L2
set_option Elab.async false
set_option linter.all false
set_option maxRecDepth 100000
/-! LISTS AS OBJECTS, dict(list of pairs) -/
namespace DL
open PySem PySem.Spec PyProof.Rows L2
def mlsO : OS → Option (List D)
  | .mls xs => some xs
  | _ => none
def objN : D → Option Nat
  | .obj n => some n
  | _ => none
def intN : D → Option Int
  | .int i => some i
  | _ => none
theorem mls_of {o : OS} {xs : List D} (h : mlsO o = some xs) : o = .mls xs := by
  unfold mlsO at h
  split at h
  · cases h; rfl
  · cases h
theorem obj_of {d : D} {n : Nat} (h : objN d = some n) : d = .obj n := by
  unfold objN at h
  split at h
  · cases h; rfl
  · cases h
theorem int_of {d : D} {n : Int} (h : intN d = some n) : d = .int n := by
  unfold intN at h
  split at h
  · cases h; rfl
  · cases h
/-- a list that may change -/
def gNewM (ga : ADen) : Den := fun ρ Ω => (ga ρ Ω).bind fun p => if p.1.length ≤ big then some (.obj p.2.length, p.2 ++ [.mls p.1]) else none
def gMIx (f g : Den) : Den := fun ρ Ω => (f ρ Ω).bind fun p => (objN p.1).bind fun n => (g ρ p.2).bind fun r => (intN r.1).bind fun i => (r.2[n]?).bind fun o => (mlsO o).bind fun xs => (atI xs i).bind fun d => some (d, r.2)
def sAppM (f g : Den) : SDen := fun ρ Ω => (f ρ Ω).bind fun p => (objN p.1).bind fun n => (p.2[n]?).bind fun o1 => (mlsO o1).bind fun _ => (g ρ p.2).bind fun r => (r.2[n]?).bind fun o => (mlsO o).bind fun xs =>
  if xs.length < big then some (.nx ρ (r.2.set n (.mls (xs ++ [r.1])))) else none
def sSetM (f g h : Den) : SDen := fun ρ Ω => (h ρ Ω).bind fun v => (f ρ v.2).bind fun p => (objN p.1).bind fun n => (g ρ p.2).bind fun r => (intN r.1).bind fun i => (r.2[n]?).bind fun o => (mlsO o).bind fun xs =>
  (ixN xs.length i).bind fun j => some (.nx ρ (r.2.set n (.mls (xs.set j v.1))))
theorem Wf.mls {K : PySem.W.Frag} {C : Cl} {e : E4} {Ω : List OS} (w : Wf K C e Ω) {n : Nat} {a : Addr} {xs : List D} (hα : e.α[n]? = some a) (h : Ω[n]? = some (.mls xs)) : ∃ vs, e.H a = some (.lst vs) ∧ IsL K e.α e.F xs vs := (w.ob n a _ hα h).2
theorem IsL.setAt {K : PySem.W.Frag} {α : List Addr} {F : Hp} : ∀ {ds : List D} {vs : List V} (j : Nat) {d : D} {v : V}, IsL K α F ds vs → Is K α F d v → IsL K α F (ds.set j d) (vs.set j v)
  | [], vs, j, d, v, h, i => by rw [h.of_nil]; exact .nil
  | x :: ds, vs, 0, d, v, h, i => by
    obtain ⟨u, r, rfl, _, t⟩ := h.of_cons
    exact .cons i t
  | x :: ds, vs, j + 1, d, v, h, i => by
    obtain ⟨u, r, rfl, i1, t⟩ := h.of_cons
    exact .cons i1 (IsL.setAt j t i)
section
variable {X : Cx} {C : Cl} {a b x : Expr} {es : List Expr} {f g h : Den} {ga : ADen} {pos pos' : Pos}
theorem pd_newM (ha : PDA X C es ga) : PD X C (.List es pos) (gNewM ga) := pe_imp (pe_lst ha) fun σ H Q hw' => by
  obtain ⟨e, Ω, ρ, d, Ω', eH, w, rl, q, kk⟩ := hw'
  obtain ⟨⟨ds, Ω1⟩, q1, q⟩ := Option.bind_eq_some_iff.mp q
  dsimp only at q
  split at q
  · rename_i hl
    cases q
    refine ⟨e, Ω, ρ, ds, _, eH, w, rl, q1, fun vs e' x' w' i' => ⟨by rw [← i'.length]; exact big_line hl, fun p hp => ?_⟩⟩
    obtain ⟨w2, x2⟩ := w'.obj (H' := upd e'.H p (.lst vs)) (o := .mls ds) hp (fun b u hb => by rw [upd_ne (ne_of_none hb hp)]; exact hb) (by rw [upd_same]; exact ⟨by simp, fun xs z => nomatch z⟩) ⟨vs, upd_same, IsL.mono (Same.refl _) ⟨[p], rfl⟩ _ i'⟩
    refine kk _ (e'.obj p _) (x'.trans x2) w2 ?_
    rw [Is]
    exact ⟨p, by show (e'.α ++ [p])[Ω1.length]? = some p; rw [← w'.ol]; simp, rfl⟩
  · cases q
theorem pd_mix (ha : PD X C a f) (hb : PD X C b g) (hs : PlainIx b := by intro _ _; rfl) : PD X C (.Subscript a b pos) (gMIx f g) := pe_imp (pe_ix ix_list ha hb hs) fun σ H Q hw' => by
  obtain ⟨e, Ω, ρ, d, Ω', eH, w, rl, q, kk⟩ := hw'
  obtain ⟨⟨d1, Ω1⟩, q1, q⟩ := Option.bind_eq_some_iff.mp q
  obtain ⟨n, q2, q⟩ := Option.bind_eq_some_iff.mp q
  obtain ⟨⟨d3, Ω3⟩, q3, q⟩ := Option.bind_eq_some_iff.mp q
  obtain ⟨i, q4, q⟩ := Option.bind_eq_some_iff.mp q
  obtain ⟨o, q5, q⟩ := Option.bind_eq_some_iff.mp q
  obtain ⟨xs, q6, q⟩ := Option.bind_eq_some_iff.mp q
  obtain ⟨z, q7, q⟩ := Option.bind_eq_some_iff.mp q
  cases q
  have e2 := obj_of q2
  have e4 := int_of q4
  have e6 := mls_of q6
  dsimp only at e2 e4 q5
  subst e2 e4 e6
  refine ⟨e, Ω, ρ, _, Ω1, eH, w, rl, q1, fun v e1 x1 w1 i1 => ?_⟩
  refine ⟨e1, Ω1, ρ, _, Ω3, rfl, w1, rl.ext x1, q3, fun u e2 x2 w2 i2 => ?_⟩
  have i1' := i1.ext x2
  rw [Is] at i1'
  rw [Is] at i2
  obtain ⟨p, hα, rfl⟩ := i1'
  subst i2
  obtain ⟨vs, hH, il⟩ := w2.mls hα q5
  obtain ⟨u, hu, iu⟩ := atI_is il q7
  exact ⟨p, vs, i, u, rfl, rfl, SqL.of hH, hu, kk u e2 (x1.trans x2) w2 iu⟩
theorem pds_appM {ap cp : Pos} (ha : PD X C a f) (hb : PD X C b g) (hbase : attributeBase a "append" X.env (eval a X.env) = eval a X.env := by rfl)
    (hfew : ((backTo cp (starEach [b] X.env)).all (fun x => !x.1) && (backToKw cp (keywordEach [] X.env)).all (fun x => x.1.isSome)
      && decide (([b] : List Expr).length + ([] : List Keyword).length + (if ([] : List Keyword).isEmpty then 0 else 1) < 30)) = true := by rfl)
    (hline : (ap.endLine == cp.line) = true := by rfl) (hst : starEach [b] X.env = (false, eval b X.env) :: starEach [] X.env := by rfl) (hplain : (backTo cp (starEach [] X.env)).any (·.1) = false := by rfl)
    (hs : swapsWith (.Call (.Attribute a "append" ap) [b] [] cp) none pos.line X.env = pure false := by rfl) :
    PDS X C (.Expr (.Call (.Attribute a "append" ap) [b] [] cp) pos) (sAppM f g) := fun e₀ =>
  ps_imp (ps_expr (pe_bm PySem.F.plainAttrs_list PySem.F.slot_list_append PySem.F.type_list_append mt_append ha (pa_cons hb pa_nil hst) hbase hfew hline hst hplain) hs) fun Dn σ H hw' => by
    obtain ⟨e, Ω, ρ, o, eH, r, q, k⟩ := hw'
    obtain ⟨⟨d1, Ω1⟩, q1, q⟩ := Option.bind_eq_some_iff.mp q
    obtain ⟨n, q2, q⟩ := Option.bind_eq_some_iff.mp q
    obtain ⟨o1, q3, q⟩ := Option.bind_eq_some_iff.mp q
    obtain ⟨xs1, q4, q⟩ := Option.bind_eq_some_iff.mp q
    obtain ⟨⟨d5, Ω5⟩, q5, q⟩ := Option.bind_eq_some_iff.mp q
    obtain ⟨o6, q6, q⟩ := Option.bind_eq_some_iff.mp q
    obtain ⟨xs, q7, q⟩ := Option.bind_eq_some_iff.mp q
    split at q
    · rename_i hl
      cases q
      have e2 := obj_of q2
      have e4 := mls_of q4
      have e7 := mls_of q7
      dsimp only at e2 q3 q5 q6 hl
      subst e2 e4 e7
      refine ⟨e, Ω, ρ, _, Ω1, eH, r.wf, r.rel, q1, fun v e1 x1 w1 i1 => ?_⟩
      have i1' := i1
      rw [Is] at i1'
      obtain ⟨p, hα, rfl⟩ := i1'
      obtain ⟨vs1, hH1, _⟩ := w1.mls hα q3
      refine ⟨.inl ⟨rfl, _, SqL.of hH1⟩, ?_⟩
      refine ⟨e1, Ω1, ρ, d5, Ω5, rfl, w1, r.rel.ext x1, q5, fun u e2 x2 w2 i2 => ?_⟩
      have i3 := i1.ext x2
      rw [Is] at i3
      obtain ⟨p', hα2, ep⟩ := i3
      cases ep
      obtain ⟨vs, hH, il⟩ := w2.mls hα2 q6
      refine ⟨p, vs, u, rfl, rfl, hH, by rw [← il.length]; exact big_lt hl, ?_⟩
      obtain ⟨w3, x3⟩ := w2.at (ho := .lst (vs ++ [u])) (o' := .mls (xs ++ [d5])) hα2 (fun _ z => nomatch z) ⟨_, upd_same, il.append (.cons i2 .nil)⟩ (fun o u z => by rw [hH] at z; cases z)
      exact k (e2.at p _) σ (r.to ((x1.trans x2).trans x3) w3)
    · cases q
theorem pds_setM (ha : PD X C a f) (hb : PD X C b g) (hx : PD X C x h) (hst : ∀ v, assign (.Subscript a b pos') X.env v = (do
      let ov ← holding [v] (eval a X.env)
      let iv ← holding [v, ov] (eval b X.env)
      standAt pos'
      holding [v, ov, iv] (setItem ov iv v)
      release [v, ov, iv] []) := by intro _; rfl) (hs : swapsWithSole [.Subscript a b pos'] x pos.line X.env = pure false := by rfl) (hw : swappedStores [.Subscript a b pos'] x X.env = pure none := by rfl)
    (h1 : (assignEach [.Subscript a b pos'] X.env).map (·.2) = [assign (.Subscript a b pos') X.env] := by rfl) : PDS X C (.Assign [.Subscript a b pos'] x pos) (sSetM f g h) := fun e₀ =>
  ps_imp (ps_asg hx (pg_sub ha hb set_list hst) hs hw h1) fun Dn σ H hw' => by
    obtain ⟨e, Ω, ρ, o, eH, r, q, k⟩ := hw'
    obtain ⟨⟨d0, Ω0⟩, q0, q⟩ := Option.bind_eq_some_iff.mp q
    obtain ⟨⟨d1, Ω1⟩, q1, q⟩ := Option.bind_eq_some_iff.mp q
    obtain ⟨n, q2, q⟩ := Option.bind_eq_some_iff.mp q
    obtain ⟨⟨d3, Ω3⟩, q3, q⟩ := Option.bind_eq_some_iff.mp q
    obtain ⟨i, q4, q⟩ := Option.bind_eq_some_iff.mp q
    obtain ⟨o5, q5, q⟩ := Option.bind_eq_some_iff.mp q
    obtain ⟨xs, q6, q⟩ := Option.bind_eq_some_iff.mp q
    obtain ⟨j, q7, q⟩ := Option.bind_eq_some_iff.mp q
    cases q
    have e2 := obj_of q2
    have e4 := int_of q4
    have e6 := mls_of q6
    dsimp only at e2 e4 q1 q3 q5
    subst e2 e4 e6
    refine ⟨e, Ω, ρ, d0, Ω0, eH, r.wf, r.rel, q0, fun v0 e0 x0 w0 i0 => ?_⟩
    refine ⟨e0, Ω0, ρ, _, Ω1, rfl, w0, r.rel.ext x0, q1, fun v1 e1 x1 w1 i1 => ?_⟩
    refine ⟨e1, Ω1, ρ, _, Ω3, rfl, w1, (r.rel.ext x0).ext x1, q3, fun v3 e3 x3 w3 i3 => ?_⟩
    have i1' := i1.ext x3
    rw [Is] at i1'
    rw [Is] at i3
    obtain ⟨p, hα, rfl⟩ := i1'
    subst i3
    obtain ⟨vs, hH, il⟩ := w3.mls hα q5
    refine ⟨p, vs, i, j, rfl, rfl, hH, by rw [← il.length]; exact q7, ?_⟩
    obtain ⟨w4, x4⟩ := w3.at (ho := .lst (vs.set j v0)) (o' := .mls (xs.set j d0)) hα (fun _ z => nomatch z) ⟨_, upd_same, il.setAt j (i0.ext (x1.trans x3))⟩ (fun o u z => by rw [hH] at z; cases z)
    exact k (e3.at p _) σ (r.to (((x0.trans x1).trans x3).trans x4) w4)

/-! ### for x in l, l a list that may change: it must not, while the loop goes -/
noncomputable def forM (β : BDen) (s : SDen) (n : Nat) (xs : List D) : List D → SDen
  | [], ρ, Ω => grd (Ω[n]? = some (.mls xs)) (some (.nx ρ Ω))
  | d :: ds, ρ, Ω => grd (Ω[n]? = some (.mls xs)) (match β d ρ with
    | some ρ1 => match s ρ1 Ω with
      | some (.nx ρ' Ω') => forM β s n xs ds ρ' Ω'
      | some (.ct ρ' Ω') => forM β s n xs ds ρ' Ω'
      | some (.bk ρ' Ω') => some (.nx ρ' Ω')
      | some (.rt z Ω') => some (.rt z Ω')
      | none => none
    | none => none)
noncomputable def sForM (f : Den) (β : BDen) (s : SDen) : SDen := fun ρ Ω => (f ρ Ω).bind fun p => (objN p.1).bind fun n => (p.2[n]?).bind fun o => (mlsO o).bind fun xs => forM β s n xs xs ρ p.2
theorem pds_forM {tg iter : Expr} {β : BDen} {s : SDen} {body : List Stmt} (hp : PassesOwn (model X.prog X.w) X.A X.env X.xe) (hc : X.calm = true) (hi : PD X C iter f) (hg : PDG X C tg β) (hb : PDB X C body s)
    (hs : ∀ x, foldedSetIterable iter X.env x = pure x := by intro _; rfl) : PDS X C (.For tg iter body [] pos) (sForM f β s) := by
  refine fun e₀ => ps_imp (ps_for hp hc (pi_list hi) hg (pdb_ex hb) hs) fun Dn σ H hw' => ?_
  obtain ⟨e, Ω, ρ, o, eH, r, q, k⟩ := hw'
  obtain ⟨⟨d1, Ω'⟩, q1, qa⟩ := Option.bind_eq_some_iff.mp q
  obtain ⟨n, q2, qb⟩ := Option.bind_eq_some_iff.mp qa
  obtain ⟨o3, q3, qc⟩ := Option.bind_eq_some_iff.mp qb
  obtain ⟨ds, q4, qd⟩ := Option.bind_eq_some_iff.mp qc
  clear q qa qb qc
  have e2 := obj_of q2
  have e4 := mls_of q4
  dsimp only at e2 q3 qd
  subst e2 e4
  refine ⟨e, Ω, ρ, _, Ω', eH, r.wf, r.rel, q1, fun v e' x' w' i' => ?_⟩
  rw [Is] at i'
  obtain ⟨a, hα, rfl⟩ := i'
  obtain ⟨vs0, hH0, il0⟩ := w'.mls hα q3
  refine ⟨a, rfl, ⟨vs0, SqL.of hH0⟩, ?_⟩
  refine ⟨fun i m σ H => m = ds.length - i ∧ i ≤ ds.length ∧ ∃ e2 Ω2 ρ2, e2.H = H ∧ RelS X.K C e₀ e2 Ω2 σ ρ2 ∧ e2.α[n]? = some a ∧ forM β s n ds (ds.drop i) ρ2 Ω2 = some o, ⟨ds.length, by simp, Nat.zero_le _, e', Ω', ρ, rfl, r.to x' w', hα, by simpa using qd⟩, ?_⟩
  rintro i m σ2 H2 ⟨rfl, hil, e2, Ω2, ρ2, rfl, r2, al, q5⟩
  by_cases hlt : i < ds.length
  · have hd : ds[i]? = some ds[i] := List.getElem?_eq_getElem hlt
    have edrop : ds.drop i = ds[i] :: ds.drop (i + 1) := List.drop_eq_getElem_cons hlt
    rw [edrop] at q5
    unfold forM at q5
    obtain ⟨hg, q5⟩ := grd_some q5
    obtain ⟨vs, hH, il⟩ := r2.wf.mls al hg
    obtain ⟨u, hu, iu⟩ := il.get hd
    refine .inr ⟨⟨vs, u, SqL.of hH, hu⟩, fun σ' H' => ∃ e3 Ω3 ρ3, e3.H = H' ∧ RelS X.K C e₀ e3 Ω3 σ' ρ3 ∧ e3.α[n]? = some a ∧ forM β s n ds (ds.drop (i + 1)) ρ3 Ω3 = some o, fun σ' H' hN => ⟨ds.length - (i + 1), by omega, rfl, hlt, hN⟩, fun x H' hy => ?_⟩
    obtain ⟨rfl, hx⟩ := hy
    have hx' := hx vs (SqL.of hH)
    rw [hu] at hx'
    cases hx'
    cases q6 : β ds[i] ρ2 with
    | none => rw [q6] at q5; cases q5
    | some ρ3 =>
      rw [q6] at q5
      dsimp only at q5
      refine ⟨e2, Ω2, ρ2, _, ρ3, rfl, r2.wf, r2.rel, iu, q6, fun σ3 r3 o3 => ?_⟩
      have r3' := r2.by r3 o3
      obtain ⟨e₁, hF, hα1, r4, toE, toN, _⟩ := r3'.mark
      cases q7 : s ρ3 Ω2 with
      | none => rw [q7] at q5; cases q5
      | some o7 =>
        rw [q7] at q5
        refine ⟨e₁, e2, Ω2, ρ3, o7, rfl, r4, q7, ?_⟩
        have back : ∀ {e5 : E4} {Ω5 : List OS} {σ5 : St} {ρ5 : List Sl}, RelS X.K C e₁ e5 Ω5 σ5 ρ5 → RelS X.K C e₀ e5 Ω5 σ5 ρ5 ∧ e5.α[n]? = some a := fun {e5 Ω5 σ5 ρ5} r5 => by
          refine ⟨⟨r5.wf, r5.rel, toE _ r5.ext, fun i ds a h1 h2 => toN _ (r5.fresh i ds a h1 h2)⟩, ?_⟩
          obtain ⟨m2, z2⟩ := r5.ext.al
          rw [z2, hα1, List.getElem?_append_left (List.getElem?_eq_some_iff.mp al).1]
          exact al
        cases o7 with
        | nx ρ5 Ω5 => exact fun e5 σ5 r5 => ⟨e5, Ω5, ρ5, rfl, (back r5).1, (back r5).2, q5⟩
        | ct ρ5 Ω5 => exact fun e5 σ5 r5 => ⟨e5, Ω5, ρ5, rfl, (back r5).1, (back r5).2, q5⟩
        | bk ρ5 Ω5 => cases q5; exact fun e5 σ5 r5 => k e5 σ5 (back r5).1
        | rt z Ω5 => cases q5; exact fun e5 v5 x5 w5 i5 => k e5 v5 (toE _ x5) w5 i5
  · have ei : i = ds.length := by omega
    subst ei
    rw [List.drop_length] at q5
    unfold forM at q5
    obtain ⟨hg, q5⟩ := grd_some q5
    cases q5
    obtain ⟨vs, hH, il⟩ := r2.wf.mls al hg
    exact .inl ⟨⟨vs, SqL.of hH, by rw [← il.length]; exact Nat.le_refl _⟩, k e2 σ2 r2⟩

end
end DL
set_option Elab.async false
set_option linter.all false
set_option maxRecDepth 100000
/-! METHODS THAT GIVE NEW LISTS; a new list that is changed and let go -/
namespace DL
open PySem PySem.Spec PyProof.Rows L2
section
variable {K : PySem.W.Frag} {C : Cl} {e e' : E4} {Ω : List OS} {a : Addr} {o : HO}
/-- without what lies at a -/
def E4.bare (e : E4) (a : Addr) : E4 := ⟨e.α, e.F, e.A, fun b => if b = a then none else e.H b⟩
theorem bare_upd (h : e.H a = some o) : upd (e.bare a).H a o = e.H := by
  funext b
  by_cases z : b = a
  · subst z; rw [upd_same]; exact h.symm
  · rw [upd_ne z]; show (if b = a then none else e.H b) = e.H b; rw [if_neg z]
theorem Wf.bare (w : Wf K C e Ω) (hF : e.F a = none) (hA : ¬ e.A a) : Wf K C (e.bare a) Ω := by
  have hb : ∀ b, b ≠ a → (e.bare a).H b = e.H b := fun b z => by show (if b = a then none else e.H b) = e.H b; rw [if_neg z]
  refine ⟨fun b u h => ?_, w.fa, fun b h => ?_, w.ol, w.nd, fun n b u h1 h2 => ⟨(w.ob n b u h1 h2).1, (w.ob n b u h1 h2).2.keep (fun v hv => ?_) (Same.refl _) ⟨[], by simp [E4.bare]⟩⟩⟩
  · rw [hb b (fun z => by subst z; rw [show e.F b = some u from h] at hF; cases hF)]; exact w.fh b u h
  · rw [hb b (fun z => hA (by rw [← z]; exact h))]; exact w.ah b h
  · rw [hb b (fun z => hA (by rw [← z]; exact (w.ob n b u h1 h2).1))]; exact hv
theorem Ext.bare (x : Ext e e') (ha : e.H a = none) : Ext e (e'.bare a) := by
  have hb : ∀ b, b ≠ a → (e'.bare a).H b = e'.H b := fun b z => by show (if b = a then none else e'.H b) = e'.H b; rw [if_neg z]
  refine ⟨fun b o' u h => ?_, fun b u h hn => ?_, fun b u h => ?_, x.ff, x.fn, x.an, x.aa, x.al⟩
  · rw [hb b (ne_of_none h ha)]; exact x.fz b o' u h
  · rw [hb b (ne_of_none h ha)]; exact x.hk b u h hn
  · obtain ⟨u', z⟩ := x.dm b u h
    exact ⟨u', by rw [hb b (ne_of_none h ha)]; exact z⟩
end
section
variable {X : Cx} {C : Cl} {tg iter elt : Expr} {ifs : List Expr} {scope : Scope} {pos : Pos} {N : List Str} {μ : List (Option Nat)} {γ : ADen} {β : BDen} {p : TDen} {g : Den}
end
/-- what a def that gives a new list promises -/
def spL (K : PySem.W.Frag) (C : Cl) (F : FDen) : Sp := fun vs H Q _ => ∃ e Ω ds xs Ω', e.H = H ∧ Wf K C e Ω ∧ IsL K e.α e.F ds vs ∧ F ds Ω = some (.lst xs, Ω') ∧
  ∀ a us e', Ext e e' → Wf K C e' Ω' → IsL K e'.α e'.F xs us → e'.H a = none → Q (.ref a) (upd e'.H a (.lst us))
def Lst (F : FDen) : Prop := ∀ ds Ω d Ω', F ds Ω = some (d, Ω') → ∃ xs, d = .lst xs
section
variable {P : Program} {w : World} {K : PySem.W.Frag} {mg : Str → Option Value} {base : Heap} {C : Cl}
theorem spL.sp {F : FDen} (hF : Lst F) {vs : List V} {H : Hp} {Q : VK} {E : XK} (h : spD K C F vs H Q E) : spL K C F vs H Q E := by
  obtain ⟨e, Ω, ds, d, Ω', eH, w, i, q, kk⟩ := h
  obtain ⟨xs, rfl⟩ := hF _ _ _ _ q
  refine ⟨e, Ω, ds, xs, Ω', eH, w, i, q, fun a us e' x' w' iu ha => kk (.ref a) (e'.new a _) (x'.trans (w'.new_ext ha)) (w'.new ha) ?_⟩
  rw [Is]
  exact ⟨a, us, rfl, upd_same, iu.ext (w'.new_ext ha)⟩
end
structure MtL (P : Program) (w : World) (K : PySem.W.Frag) (mg : Str → Option Value) (base : Heap) (C : Cl) (k : Nat) (c m : Str) (F : FDen) (dfl : List D) : Prop where
  ex : ∃ Ca f fd ps ds dvs, C c = some Ca ∧ Cls K Ca ∧ Meth K Ca m f ∧ Binds K fd ps ds ∧ Vals dvs ds ∧ (∀ α H, IsL K α H dfl dvs) ∧ FnOk P w K mg base CX0 k f fd ps (spL K C F)
section
variable {X : Cx} {C : Cl} {a x b : Expr} {f g : Den} {ga gl : ADen} {ap cp pos : Pos}
end
end DL
set_option Elab.async false
set_option linter.all false
set_option maxRecDepth 100000
/-! SORTED, of tuples of ints: of a list, of a dict -/
namespace KS
open PySem PySem.W PySem.Calls PyProof.Rows
section
variable {prog : Program} {w : World} {A : Around} {E : Value → Shared → Prop} {s : Shared} {a : Addr} {vs : List Value}
end
end KS
namespace L2
open PySem PySem.Spec PyProof.Rows KS PySem.W
section
variable {X : Cx} {pins : List (Addr × Obj)} {σ : St} {H : Hp} {s : Shared}
end
end L2
set_option Elab.async false
set_option linter.all false
set_option maxRecDepth 100000
/-! sorted(list), sorted(dict) of tuples of ints; list.count, list.index of plain data -/
namespace L2
open PySem PySem.Spec PyProof.Rows KS PySem.W
section
variable {X : Cx}
end
end L2
namespace DL
open PySem PySem.Spec PyProof.Rows L2
def lstD : D → Option (List D)
  | .lst xs => some xs
  | _ => none
theorem lst_of {d : D} {xs : List D} (h : lstD d = some xs) : d = .lst xs := by
  unfold lstD at h
  split at h
  · cases h; rfl
  · cases h
section
variable {X : Cx} {C : Cl} {n : Str} {p pos : Pos} {a b : Expr} {f g : Den} {k : Nat}
end
end DL
set_option Elab.async false
set_option linter.all false
set_option maxRecDepth 100000
/-! list.count, list.index of plain data; lists as objects: made of new ones, asked, compared -/
namespace DL
open PySem PySem.Spec PyProof.Rows L2
section
variable {X : Cx} {C : Cl} {a b x : Expr} {f g : Den} {ga : ADen} {n : Str} {p pos : Pos} {k : Nat}
/-! ### a new list, as an object -/
def gObjN (ga : ADen) : Den := fun ρ Ω => (ga ρ Ω).bind fun p => some (.obj p.2.length, p.2 ++ [.mls p.1])
theorem pd_objN (h : PDN X C x ga) : PD X C x (gObjN ga) := pe_imp h fun σ H Q hw' => by
  obtain ⟨e, Ω, ρ, d, Ω', eH, w, rl, q, kk⟩ := hw'
  obtain ⟨⟨ds, Ω1⟩, q1, qa⟩ := Option.bind_eq_some_iff.mp q
  cases qa
  refine ⟨e, Ω, ρ, ds, Ω1, eH, w, rl, q1, fun p vs e' x' w' i' hp => ?_⟩
  obtain ⟨w2, x2⟩ := w'.obj (H' := upd e'.H p (.lst vs)) (o := .mls ds) hp (fun b u hb => by rw [upd_ne (ne_of_none hb hp)]; exact hb) (by rw [upd_same]; exact ⟨by simp, fun xs z => nomatch z⟩) ⟨vs, upd_same, IsL.mono (Same.refl _) ⟨[p], rfl⟩ _ i'⟩
  refine kk _ (e'.obj p _) (x'.trans x2) w2 ?_
  rw [Is]
  exact ⟨p, by show (e'.α ++ [p])[Ω1.length]? = some p; rw [← w'.ol]; simp, rfl⟩
end
end DL
set_option Elab.async false
set_option linter.all false
set_option maxRecDepth 100000
/-! A COMPREHENSION OVER A LIST THAT IS AN OBJECT (it must not change meanwhile) -/
namespace DL
open PySem PySem.Spec PyProof.Rows L2
noncomputable def compM (n : Nat) (xs : List D) (β : BDen) (p : TDen) (g : Den) : List D → List Sl → List OS → Option (List D × List OS)
  | [], _, Ω => grd (Ω[n]? = some (.mls xs)) (some ([], Ω))
  | d :: ds, ρ, Ω => grd (Ω[n]? = some (.mls xs)) (match β d ρ with
    | some ρ1 => match p ρ1 Ω with
      | some (true, Ω1) => match g ρ1 Ω1 with
        | some (y, Ω2) => match compM n xs β p g ds ρ1 Ω2 with
          | some (ys, Ω3) => some (y :: ys, Ω3)
          | none => none
        | none => none
      | some (false, Ω1) => compM n xs β p g ds ρ1 Ω1
      | none => none
    | none => none)
noncomputable def gCompM (μ : List (Option Nat)) (f : Den) (β : BDen) (p : TDen) (g : Den) : Den := fun ρ Ω => (f ρ Ω).bind fun q => (objN q.1).bind fun n => (q.2[n]?).bind fun o => (mlsO o).bind fun xs =>
  if xs.length ≤ big then (compM n xs β p g xs (innerD μ ρ) q.2).bind fun r => some (.lst r.1, r.2) else none
section
variable {K : PySem.W.Frag} {C : Cl} {β : BDen} {p : TDen} {g : Den} {μ : List (Option Nat)}
structure CIM (nn : Nat) (K : PySem.W.Frag) (C : Cl) (β : BDen) (p : TDen) (g : Den) (ds : List D) (a : Addr) (ysAll : List D) (Ωf : List OS) (e' : E4) (i : Nat) (σ' : St) (e2 : E4) (Ω2 : List OS) (ρ2 : List Sl) (vs : List V) (ys0 ys1 : List D) : Prop where
  w : Wf K C e2 Ω2
  r : RelE K e2 σ' ρ2
  no : ∀ (j : Nat) (es : List D), ρ2[j]? ≠ some (.own es)
  ha : e2.H a = some (.lst vs)
  hF : e2.F a = none
  hA : ¬ e2.A a
  iy : IsL K e2.α e2.F ys0 vs
  x : Ext e' e2
  q : compM nn ds β p g (ds.drop i) ρ2 Ω2 = some (ys1, Ωf)
  ey : ys0 ++ ys1 = ysAll
  hy : ys0.length ≤ i
def CInvM (nn : Nat) (K : PySem.W.Frag) (C : Cl) (β : BDen) (p : TDen) (g : Den) (ds : List D) (a : Addr) (ysAll : List D) (Ωf : List OS) (e' : E4) (i : Nat) (σ' : St) (H' : Hp) : Prop :=
  ∃ e2 Ω2 ρ2 vs ys0 ys1, e2.H = H' ∧ CIM nn K C β p g ds a ysAll Ωf e' i σ' e2 Ω2 ρ2 vs ys0 ys1
theorem comp_genM {nn : Nat} {f : Den} {σ : St} {H : Hp} {Q : VK} {e : E4} {Ω Ω1 Ωf : List OS} {ρ : List Sl} {ds ysAll : List D} (eH : e.H = H) (w : Wf K C e Ω) (rl : RelE K e σ ρ) (q1 : f ρ Ω = some (.obj nn, Ω1)) (q0 : Ω1[nn]? = some (.mls ds)) (hbig : ds.length ≤ big) (q2 : compM nn ds β p g ds (innerD μ ρ) Ω1 = some (ysAll, Ωf))
    (fin : ∀ a vs e2, Ext e e2 → Wf K C e2 Ωf → e2.H a = some (.lst vs) → e2.F a = none → ¬ e2.A a → e.H a = none → IsL K e2.α e2.F ysAll vs → Q (.ref a) e2.H) : tComp μ (iList K (tD K C f)) (tDG K C β) (tDT K C p) (tD K C g) σ H Q := by
  refine ⟨e, Ω, ρ, _, Ω1, eH, w, rl, q1, fun v e' x' w' i' => ?_⟩
  rw [Is] at i'
  obtain ⟨ax, hα, rfl⟩ := i'
  obtain ⟨vs0, hH0, _⟩ := w'.mls hα q0
  refine ⟨ax, rfl, ⟨vs0, SqL.of hH0⟩, fun a ha => ?_⟩
  refine ⟨fun i m σ' H' => m = ds.length - i ∧ i ≤ ds.length ∧ CInvM nn K C β p g ds a ysAll Ωf e' i σ' H', ⟨ds.length, by simp, Nat.zero_le _, ⟨e'.α, e'.F, e'.A, upd e'.H a (.lst [])⟩, Ω1, innerD μ ρ, [], [], ysAll, rfl, ⟨?_, ?_, fun j es => inner_own, upd_same, w'.nF ha, fun z => (w'.ah a z).1 ha, .nil, ?_, by simpa using q2, rfl, Nat.zero_le _⟩⟩, ?_⟩
  · refine ⟨fun b u hb => ?_, w'.fa, fun b hb => ?_, w'.ol, w'.nd, fun n b u h1 h2 => ⟨(w'.ob n b u h1 h2).1, (w'.ob n b u h1 h2).2.keep (fun z hz => ?_) (Same.refl _) ⟨[], by simp⟩⟩⟩
    · show upd e'.H a _ b = some u
      rw [upd_ne (ne_of_none (w'.fh b u hb) ha)]; exact w'.fh b u hb
    · show upd e'.H a _ b ≠ none ∧ ∀ xs, upd e'.H a _ b ≠ some (.tup xs)
      rw [upd_ne (fun z => (w'.ah b hb).1 (by rw [z]; exact ha))]; exact w'.ah b hb
    · show upd e'.H a _ b = some z
      rw [upd_ne (ne_of_none hz ha)]; exact hz
  · have r1 := inner_rel (μ := μ) (rl.ext x')
    exact ⟨r1.len, r1.dat, fun j es h => absurd h inner_own, r1.sep⟩
  · refine ⟨fun b o' u hb => by show upd e'.H a _ b = some (.frz o' u); rw [upd_ne (ne_of_none hb ha)]; exact hb, fun b u hb _ => ?_, fun b u hb => ⟨u, ?_⟩, Same.refl _, fun b u hb => .inl hb, fun b hb => .inl hb, fun b hb => hb, [], by simp⟩
    · show upd e'.H a _ b = some u
      rw [upd_ne (ne_of_none hb ha)]; exact hb
    · show upd e'.H a _ b = some u
      rw [upd_ne (ne_of_none hb ha)]; exact hb
  · rintro i m σ2 H2 ⟨rfl, hil, e2, Ω2, ρ2, vs, ys0, ys1, rfl, ⟨w2, r2, no2, ha2, hF2, hA2, iy, x2, q3, ey, hy⟩⟩
    have al : e2.α[nn]? = some ax := obj_ext (K := K) x2 hα
    by_cases hlt : i < ds.length
    · have hd : ds[i]? = some ds[i] := List.getElem?_eq_getElem hlt
      have edrop : ds.drop i = ds[i] :: ds.drop (i + 1) := List.drop_eq_getElem_cons hlt
      rw [edrop] at q3
      unfold compM at q3
      obtain ⟨hgd, q3⟩ := grd_some q3
      obtain ⟨us, hU, iU⟩ := w2.mls al hgd
      obtain ⟨u0, hu0, ix⟩ := iU.get hd
      refine .inr ⟨⟨us, u0, SqL.of hU, hu0⟩, fun σ' H' => i + 1 ≤ ds.length ∧ CInvM nn K C β p g ds a ysAll Ωf e' (i + 1) σ' H', fun σ' H' hN => ⟨ds.length - (i + 1), by omega, rfl, hN⟩, fun x H' hyl => ?_⟩
      obtain ⟨rfl, hx⟩ := hyl
      have hx' := hx us (SqL.of hU)
      rw [hu0] at hx'
      cases hx'
      cases q4 : β ds[i] ρ2 with
      | none => rw [q4] at q3; cases q3
      | some ρ3 =>
        rw [q4] at q3
        dsimp only at q3
        refine ⟨e2, Ω2, ρ2, _, ρ3, rfl, w2, r2, ix, q4, fun σ3 r3 o3 => ?_⟩
        have no3 : ∀ (j : Nat) (es : List D), ρ3[j]? ≠ some (.own es) := fun j es h => no2 j es (o3 j es h).1
        cases q5 : p ρ3 Ω2 with
        | none => rw [q5] at q3; cases q3
        | some p5 =>
          obtain ⟨b, Ω3⟩ := p5
          rw [q5] at q3
          refine ⟨e2, Ω2, ρ3, b, Ω3, rfl, w2, r3, q5, fun e3 x3 w3 => ?_⟩
          cases b with
          | false =>
            refine iteF ?_
            obtain ⟨z1, z2, z3⟩ := x3.keepOwn ha2 hF2 hA2
            exact ⟨hlt, e3, Ω3, ρ3, vs, ys0, ys1, rfl, ⟨w3, r3.ext x3, no3, z1, z2, z3, iy.ext x3, x2.trans x3, q3, ey, Nat.le_succ_of_le hy⟩⟩
          | true =>
            refine iteT ?_
            dsimp only at q3
            cases q6 : g ρ3 Ω3 with
            | none => rw [q6] at q3; cases q3
            | some p6 =>
              obtain ⟨y, Ω4⟩ := p6
              rw [q6] at q3
              dsimp only at q3
              cases q7 : compM nn ds β p g (ds.drop (i + 1)) ρ3 Ω4 with
              | none => rw [q7] at q3; cases q3
              | some p7 =>
                obtain ⟨ys2, Ω5⟩ := p7
                rw [q7] at q3
                cases q3
                refine ⟨e3, Ω3, ρ3, y, Ω4, rfl, w3, r3.ext x3, q6, fun v e4 x4 w4 i4 => ?_⟩
                obtain ⟨z1, z2, z3⟩ := (x3.trans x4).keepOwn ha2 hF2 hA2
                have x24 := x3.trans x4
                refine ⟨vs, z1, by rw [← iy.length]; exact big_lt (by omega), hlt, ⟨e4.α, e4.F, e4.A, upd e4.H a (.lst (vs ++ [v]))⟩, Ω4, ρ3, _, ys0 ++ [y], ys2, rfl, ⟨⟨fun b u hb => ?_, w4.fa, fun b hb => ?_, w4.ol, w4.nd, fun n b u h1 h2 => ⟨(w4.ob n b u h1 h2).1, (w4.ob n b u h1 h2).2.keep (fun z hz => ?_) (Same.refl _) ⟨[], by simp⟩⟩⟩,
                  ⟨((r3.ext x3).ext x4).len, ((r3.ext x3).ext x4).dat, fun j es h => absurd h (no3 j es), ((r3.ext x3).ext x4).sep⟩, no3, upd_same, z2, z3, (iy.ext x24).append (.cons i4 .nil), ⟨fun b o' u hb => by show upd e4.H a _ b = some (.frz o' u); rw [upd_ne (ne_of_none hb ha)]; exact (x2.trans x24).fz b o' u hb, fun b u hb hn => ?_, fun b u hb => ?_, (x2.trans x24).ff, (x2.trans x24).fn, (x2.trans x24).an, (x2.trans x24).aa, (x2.trans x24).al⟩, q7, by rw [← ey]; simp, by simp; omega⟩⟩
                · show upd e4.H a _ b = some u
                  rw [upd_ne (fun z => by subst z; rw [z2] at hb; cases hb)]; exact w4.fh b u hb
                · show upd e4.H a _ b ≠ none ∧ ∀ xs, upd e4.H a _ b ≠ some (.tup xs)
                  rw [upd_ne (fun z => z3 (by rw [← z]; exact hb))]; exact w4.ah b hb
                · show upd e4.H a _ b = some z
                  rw [upd_ne (fun y => z3 (by rw [← y]; exact (w4.ob n b u h1 h2).1))]; exact hz
                · show upd e4.H a _ b = some u
                  rw [upd_ne (ne_of_none hb ha)]; exact (x2.trans x24).hk b u hb hn
                · obtain ⟨u', z⟩ := (x2.trans x24).dm b u hb
                  exact ⟨u', by show upd e4.H a _ b = some u'; rw [upd_ne (ne_of_none hb ha)]; exact z⟩
    · have ei : i = ds.length := by omega
      subst ei
      rw [List.drop_length] at q3
      unfold compM at q3
      obtain ⟨hgd, q3⟩ := grd_some q3
      cases q3
      rw [List.append_nil] at ey
      subst ey
      obtain ⟨us, hU, iU⟩ := w2.mls al hgd
      refine .inl ⟨⟨us, SqL.of hU, by rw [← iU.length]; exact Nat.le_refl _⟩, ?_⟩
      exact fin a vs e2 (x'.trans x2) w2 ha2 hF2 hA2 (x'.back ha) iy
end
section
variable {X : Cx} {C : Cl} {tg iter elt : Expr} {ifs : List Expr} {scope : Scope} {pos : Pos} {N : List Str} {μ : List (Option Nat)} {f : Den} {β : BDen} {p : TDen} {g : Den}
theorem pd_compM (hc : X.calm = true) (ok : CompOk X N scope μ) (hi : PD X C iter f)
    (hg : ∀ fp A s H, PDG (cxComp X N scope (clos X.env.cells scope.names []) A fp s H) C tg β) (ht : ∀ fp A s H, PDTs (cxComp X N scope (clos X.env.cells scope.names []) A fp s H) C ifs p) (he : ∀ fp A s H, PD (cxComp X N scope (clos X.env.cells scope.names []) A fp s H) C elt g)
    (hs : ∀ x, foldedSetIterable iter X.env x = pure x := by intro _; rfl) : PD X C (.ListComp elt [⟨tg, iter, ifs, 0⟩] scope pos) (gCompM μ f β p g) :=
  pe_imp (pe_comp (g := tDG X.K C β) (tt := tDT X.K C p) (te := tD X.K C g) hc ok.cell ok.kind ok.names ok.free ok.has ok.mu (pi_list hi) hg ht he hs) fun σ H Q hw => by
    obtain ⟨e, Ω, ρ, d, Ωf, eH, w, rl, q, kk⟩ := hw
    obtain ⟨⟨d1, Ω1⟩, q1, qa⟩ := Option.bind_eq_some_iff.mp q
    obtain ⟨n, q2, qb⟩ := Option.bind_eq_some_iff.mp qa
    obtain ⟨o, q3, qc⟩ := Option.bind_eq_some_iff.mp qb
    obtain ⟨xs, q4, qd⟩ := Option.bind_eq_some_iff.mp qc
    clear q qa qb qc
    have e2 := obj_of q2
    have e4 := mls_of q4
    dsimp only at e2 q3 qd
    subst e2 e4
    split at qd
    · rename_i hbig
      obtain ⟨⟨ys, Ω5⟩, q5, qe⟩ := Option.bind_eq_some_iff.mp qd
      cases qe
      refine comp_genM eH w rl q1 q3 hbig q5 fun a vs e2 x2 w2 ha2 hF2 hA2 ha iy => ?_
      have w3 := w2.bare hF2 hA2
      have z := kk (.ref a) ((e2.bare a).new a (.lst vs)) ((x2.bare ha).trans (w3.new_ext (if_pos rfl))) (w3.new (if_pos rfl)) (by
        rw [Is]
        exact ⟨a, vs, rfl, upd_same, IsL.ext (w3.new_ext (if_pos rfl)) iy⟩)
      have eq : ((e2.bare a).new a (.lst vs)).H = e2.H := bare_upd ha2
      rw [← eq]; exact z
    · cases qd
end
end DL
set_option Elab.async false
set_option linter.all false
set_option maxRecDepth 100000
/-! d.pop(t, x), t a tuple; f'{a}z{b}y' of ints; [e], e raises -/
namespace DR
open PySem PySem.Spec PyProof.Rows
section
variable {κ : Type} [DecidableEq κ] {prog : Program} {w : World} {knd : HeapKind prog w κ} {A : Around} {E : Value → Shared → Prop} {s : Shared}
end
end DR
namespace L2
open PySem PySem.Spec PyProof.Rows
section
variable {X : Cx} {pins : List (Addr × Obj)} {σ : St} {H : Hp} {s : Shared} {a b : Addr} {A : Around} {E : Value → Shared → Prop}
end
section
variable {X : Cx} {o e f a b : Expr} {apos cpos pos p1 p2 p3 p4 : Pos} {td ty tx ta tb : TE} {z y : Str} {kk kl : Nat}
end
end L2
namespace DL
open PySem PySem.Spec PyProof.Rows L2
section
variable {X : Cx} {C : Cl} {XW : XWt} {a b x : Expr} {f g h : Den} {r : RDen} {ap cp pos p1 p2 p3 p4 : Pos}
end
end DL
set_option Elab.async false
set_option linter.all false
set_option maxRecDepth 100000
/-! d.setdefault(t, x), t a tuple; l.pop(i); list(l); data == list; n += e -/
namespace DR
open PySem PySem.Spec PyProof.Rows
section
variable {κ : Type} [DecidableEq κ] {prog : Program} {w : World} {knd : HeapKind prog w κ} {A : Around} {E : Value → Shared → Prop} {s : Shared}
end
end DR
namespace L2
open PySem PySem.Spec PyProof.Rows
section
variable {X : Cx} {pins : List (Addr × Obj)} {σ : St} {H : Hp} {s : Shared} {a b : Addr} {A : Around} {E : Value → Shared → Prop}
end
section
variable {X : Cx} {o e f a b : Expr} {apos cpos pos : Pos} {td ty tx : TE}
end
end L2
namespace DL
open PySem PySem.Spec PyProof.Rows L2
section
variable {X : Cx} {C : Cl} {a b x : Expr} {f g h : Den} {ap cp pos : Pos}
end
end DL
set_option Elab.async false
set_option linter.all false
set_option maxRecDepth 100000
/-! enumerate(list), with a tuple of names -/
namespace L2
open PySem PySem.Spec PyProof.Rows
end L2
namespace DL
open PySem PySem.Spec PyProof.Rows L2
section
variable {X : Cx} {C : Cl} {ga : ADen} {pos p pt : Pos} {es : List Expr} {kk : Nat} {a b : Expr}
end
end DL
set_option Elab.async false
set_option linter.all false
set_option maxRecDepth 100000
/-! l.pop(0), list(l), l an object; data == l; n += e -/
namespace DL
open PySem PySem.Spec PyProof.Rows L2
section
variable {X : Cx} {C : Cl} {a b x : Expr} {f g : Den} {n : Str} {p pos ap cp : Pos} {k : Nat}
end
end DL
set_option Elab.async false
set_option linter.all false
set_option maxRecDepth 100000
/-! f'z{a}y{b}' of ints -/
namespace L2
open PySem PySem.Spec PyProof.Rows
section
variable {X : Cx} {a b : Expr} {pos p1 p2 p3 p4 : Pos} {ta tb : TE} {z y : Str} {kk kl : Nat}
end
end L2
namespace DL
open PySem PySem.Spec PyProof.Rows L2
section
variable {X : Cx} {C : Cl} {a b : Expr} {f g : Den} {pos p1 p2 p3 p4 : Pos}
end
end DL
set_option Elab.async false
set_option linter.all false
set_option maxRecDepth 100000
/-! DICTS OF INTS: d.setdefault(k, x); {k: x}; d != {}; isinstance(d, dict) -/
namespace L2
open PySem PySem.Spec PyProof.Rows
section
variable {X : Cx} {pins : List (Addr × Obj)} {σ : St} {H : Hp} {s : Shared} {a : Addr} {A : Around} {E : Value → Shared → Prop}
theorem d_sdefK {kvs : List (Key × V)} {k : Key} {x : V} {u dv : Value} {Q : Value → Shared → Prop} (I : Inv X pins σ H s) (e : H a = some (.dK kvs)) (ry : RelV (kV k) u) (rd : RelV x dv) (hl : kvs.length < sizeLine)
    (h : ∀ v w' s', valV kvs k = some v → Inv X pins σ H s' → RelV v w' → Q w' s') (h0 : valV kvs k = none → ∀ s', Inv X pins σ (upd H a (.dK (putK kvs k x))) s' → Q dv s') : wpAny (model X.prog X.w) A (call (.builtin "dict.setdefault") [.ref a, u, dv]) Q E s := by
  obtain ⟨z, hd, vs, rel, dd⟩ := dk_of I.hok e
  have hl' : (putK kvs k x).length ≤ sizeLine := by have := length_putK kvs k x; omega
  refine call_meetsIn PySem.F.slot_dict_setdefault dd.typeIs PySem.F.entry_dict_setdefault (PySem.F.args_dict_setdefault_3 _ _ _) (kt_meets_setdefault (mixKind X.prog X.w) a (kV_is ry) hd dv) ⟨vs, dd, by rw [← rel.length]; exact z, fun v hv => ?_, fun hv h' dd' hs => ?_⟩
  · have ov := rel.val k
    rw [hv] at ov
    cases l : valV kvs k with
    | none => rw [l] at ov; exact ov.elim
    | some v' => rw [l] at ov; exact h v' v _ l (I.tok _) ov
  · have ov := rel.val k
    rw [hv] at ov
    cases l : valV kvs k with
    | some v => rw [l] at ov; exact ov.elim
    | none =>
      have he : ∃ q, h'.get? a = some q := let ⟨q, _, _, hq, _⟩ := dd'; ⟨q, hq⟩
      exact h0 l _ (d_write I (by rw [e]; exact True.intro) hs he (dk_new hl' hd (rel.put k rd) dd'))
end
def tSdefK (td ty tx : TE) : TE := fun σ H Q => td σ H fun x H1 => ∃ a, x = .ref a ∧ IsD H1 a ∧ ty σ H1 fun y H2 => tx σ H2 fun z H3 => ∃ kvs k, H3 a = some (.dK kvs) ∧ y = kV k ∧ kvs.length < sizeLine ∧
  (∀ v, valV kvs k = some v → Q v H3) ∧ (valV kvs k = none → Q z (upd H3 a (.dK (putK kvs k z))))
section
variable {X : Cx} {o e f : Expr} {apos cpos : Pos} {td ty tx : TE}
theorem pe_sdefK (ho : PE X o td) (he : PE X e ty) (hf : PE X f tx) (m : M2 X o "setdefault" apos e f cpos) : PE X (.Call (.Attribute o "setdefault" apos) [e, f] [] cpos) (tSdefK td ty tx) := by
  intro pins s σ H Q I h
  refine wpAny_Call_method m.base m.few m.line PySem.F.plainAttrs_dict PySem.F.slot_dict_setdefault PySem.F.type_dict_setdefault (thn (ho pins s σ H _ I h) fun u s1 hw' => ?_)
  obtain ⟨x, H1, I1, rx, a, ex, d, q1⟩ := hw'
  subst ex; obtain rfl : u = Value.ref a := rx
  obtain ⟨t1, t2, _⟩ := isD_at I1 d
  refine ⟨t1, t2, ?_⟩; rw [m.trees]
  refine Calls.callWith_builtin rfl (Calls.evalArgs_plain (Calls.spliced_cons (thn (he pins s1 σ H1 _ I1 q1) fun iv s2 hy => ?_)))
  obtain ⟨y, H2, I2, ry, q2⟩ := hy
  refine Calls.spliced_cons (thn (hf pins s2 σ H2 _ I2 q2) fun fv s3 hz => Calls.spliced_nil ?_)
  obtain ⟨z, H3, I3, rz, kvs, k, ea, ey, hl, q3, q4⟩ := hz
  subst ey
  exact d_sdefK I3 ea ry rz hl (fun v w' s4 l I4 rw' => ⟨v, _, I4, rw', q3 v l⟩) fun l s4 I4 => ⟨z, _, I4, rz, q4 l⟩
/-- d != {} -/
def rNeE : R2 := fun x y H Q => ∃ a b kvs, x = .ref a ∧ y = .ref b ∧ H a = some (.dK kvs) ∧ H b = some (.dK []) ∧ Q (.bl (decide (kvs ≠ []))) H
theorem op_neE (hu : X.A.units < cLine) : OpR X (compareOp .NotEq) rNeE := by
  intro pins s σ H x y v u Q I rx ry h
  obtain ⟨a, b, kvs, rfl, rfl, ha, hb, kk⟩ := h
  cases rx
  cases ry
  obtain ⟨_, za, vs, rel, dd⟩ := dk_of I.hok ha
  obtain ⟨_, zb, ws, rel', dd'⟩ := dk_of I.hok hb
  have e0 : ws = [] := by have := rel'.length; cases ws with | nil => rfl | cons _ _ => cases this
  subst e0
  have el := rel.length
  refine PySem.W.keq_ne (r := true) za zb dd dd' hu (fun z => ?_) ⟨.bl _, H, I, rfl, ?_⟩
  · have : vs = [] := by cases vs with | nil => rfl | cons _ _ => cases z
    subst this
    exact PySem.W.KeqHits.nil
  · have e1 : (!(vs.length == ([] : List (Key × Value)).length && true)) = decide (kvs ≠ []) := by
      cases vs with
      | nil => cases kvs with | nil => rfl | cons _ _ => cases el
      | cons _ _ => cases kvs with | nil => cases el | cons _ _ => rfl
    rw [e1]; exact kk
end
end L2
namespace DL
open PySem PySem.Spec PyProof.Rows L2
def dKO : OS → Option (List (Key × D))
  | .dK kvs => some kvs
  | _ => none
theorem dK_of {o : OS} {kvs : List (Key × D)} (h : dKO o = some kvs) : o = .dK kvs := by
  unfold dKO at h
  split at h
  · cases h; rfl
  · cases h
section
variable {X : Cx} {C : Cl} {a b x y : Expr} {f g h : Den} {ap cp pos p : Pos} {n : Str}
/-- d.setdefault(k, x), int or text keys -/
def gSdefK (f g h : Den) : Den := fun ρ Ω => (f ρ Ω).bind fun p => (objN p.1).bind fun n => (p.2[n]?).bind fun o1 => (dKO o1).bind fun _ => (g ρ p.2).bind fun q => (keyD q.1).bind fun k => (h ρ q.2).bind fun y => (y.2[n]?).bind fun o => (dKO o).bind fun kvs =>
  if kvs.length < big then (match valD kvs k with
  | some v => some (v, y.2)
  | none => some (y.1, y.2.set n (.dK (putD kvs k y.1)))) else none
theorem pd_sdefK (ho : PD X C a f) (hi : PD X C b g) (hx : PD X C x h) (m : M2 X a "setdefault" ap b x cp) : PD X C (.Call (.Attribute a "setdefault" ap) [b, x] [] cp) (gSdefK f g h) := pe_imp (pe_sdefK ho hi hx m) fun σ H Q hw' => by
  obtain ⟨e, Ω, ρ, d, Ω', eH, w, rl, q, kk⟩ := hw'
  obtain ⟨⟨d1, Ω1⟩, q1, qa⟩ := Option.bind_eq_some_iff.mp q
  obtain ⟨n, q2, qb⟩ := Option.bind_eq_some_iff.mp qa
  obtain ⟨o1, q3, qc⟩ := Option.bind_eq_some_iff.mp qb
  obtain ⟨kv1, q4, qd⟩ := Option.bind_eq_some_iff.mp qc
  obtain ⟨⟨d5, Ω5⟩, q5, qe⟩ := Option.bind_eq_some_iff.mp qd
  obtain ⟨k, q6, qf⟩ := Option.bind_eq_some_iff.mp qe
  obtain ⟨⟨d7, Ω7⟩, q7, qg⟩ := Option.bind_eq_some_iff.mp qf
  obtain ⟨o8, q8, qh⟩ := Option.bind_eq_some_iff.mp qg
  obtain ⟨kvs, q9, qi⟩ := Option.bind_eq_some_iff.mp qh
  clear q qa qb qc qd qe qf qg qh
  have e2 := obj_of q2
  have e4 := dK_of q4
  have e9 := dK_of q9
  dsimp only at e2 q3 q5 q6 q7 q8 qi
  subst e2 e4 e9
  split at qi
  · rename_i hb
    refine ⟨e, Ω, ρ, _, Ω1, eH, w, rl, q1, fun v e1 x1 w1 i1 => ?_⟩
    have i1' := i1
    rw [Is] at i1'
    obtain ⟨p, hα, rfl⟩ := i1'
    refine ⟨p, rfl, isD_of w1 hα q3 rfl, e1, Ω1, ρ, d5, Ω5, rfl, w1, rl.ext x1, q5, fun u e2 x2 w2 i2 => ?_⟩
    refine ⟨e2, Ω5, ρ, d7, Ω7, rfl, w2, rl.ext (x1.trans x2), q7, fun t e3 x3 w3 i3 => ?_⟩
    have i4 := i1.ext (x2.trans x3)
    rw [Is] at i4
    obtain ⟨p', hα3, ep⟩ := i4
    cases ep
    obtain ⟨vs, hH, ps⟩ := (w3.ob n p _ hα3 q8).2
    refine ⟨vs, k, hH, keyD_v q6 i2, by rw [← ps.len]; exact big_lt hb, fun v hv => ?_, fun hv => ?_⟩
    · have ov := ps.val k
      rw [hv] at ov
      cases z : valD kvs k with
      | none => rw [z] at ov; exact ov.elim
      | some dv =>
        rw [z] at ov qi
        cases qi
        exact kk v e3 ((x1.trans x2).trans x3) w3 ov
    · have ov := ps.val k
      rw [hv] at ov
      cases z : valD kvs k with
      | some dv => rw [z] at ov; exact ov.elim
      | none =>
        rw [z] at qi
        cases qi
        obtain ⟨w4, x4⟩ := w3.at (ho := .dK (putK vs k t)) (o' := .dK (putD kvs k _)) hα3 (fun _ z => nomatch z) ⟨_, upd_same, ps.put k i3⟩ (fun o u z => by rw [hH] at z; cases z)
        exact kk t (e3.at p _) (((x1.trans x2).trans x3).trans x4) w4 (i3.ext x4)
  · cases qi
/-- {k: x} -/
def gDisp1 (g h : Den) : Den := fun ρ Ω => (g ρ (Ω ++ [.dK []])).bind fun p => (keyD p.1).bind fun k => (h ρ p.2).bind fun q => (q.2[Ω.length]?).bind fun o => (dKO o).bind fun kvs => if kvs = [] then some (.obj Ω.length, q.2.set Ω.length (.dK [(k, q.1)])) else none
theorem pd_disp1 (hk : PD X C a g) (hx : PD X C x h) : PD X C (.Dict [some a] [x] pos) (gDisp1 g h) :=
  pe_imp (pe_disp (pps_cons hk hx pps_nil) rfl rfl (by intro z; cases z) (Nat.le_of_ble_eq_true rfl)) fun σ H Q hw' => by
    obtain ⟨e, Ω, ρ, d, Ω', eH, w, rl, q, kk⟩ := hw'
    subst eH
    obtain ⟨⟨d1, Ω1⟩, q1, qa⟩ := Option.bind_eq_some_iff.mp q
    obtain ⟨k, q2, qb⟩ := Option.bind_eq_some_iff.mp qa
    obtain ⟨⟨d3, Ω3⟩, q3, qc⟩ := Option.bind_eq_some_iff.mp qb
    obtain ⟨o, q4, qd⟩ := Option.bind_eq_some_iff.mp qc
    obtain ⟨kvs, q5, qe⟩ := Option.bind_eq_some_iff.mp qd
    clear q qa qb qc qd
    have e5 := dK_of q5
    dsimp only at q2 q3 q4 qe
    subst e5
    split at qe
    · rename_i hz
      subst hz
      cases qe
      intro p hp
      obtain ⟨w', x'⟩ := w.obj (H' := upd e.H p (.dK [])) (o := .dK []) hp (fun b u hb => by rw [upd_ne (ne_of_none hb hp)]; exact hb) (by rw [upd_same]; exact ⟨by simp, fun xs z => nomatch z⟩) ⟨[], upd_same, rfl⟩
      refine ⟨e.obj p _, _, ρ, d1, Ω1, rfl, w', rl.ext x', q1, fun v e1 x1 w1 i1 => ?_⟩
      refine ⟨e1, Ω1, ρ, d3, Ω3, rfl, w1, (rl.ext x').ext x1, q3, fun u e2 x2 w2 i2 => ?_⟩
      have hα : e2.α[Ω.length]? = some p := by
        obtain ⟨more, em⟩ := (x1.trans x2).al
        rw [em, List.getElem?_append_left]
        · show (e.α ++ [p])[Ω.length]? = some p
          rw [← w.ol]; simp
        · show Ω.length < (e.α ++ [p]).length
          rw [← w.ol]; simp
      obtain ⟨vs0, h1, h2⟩ := (w2.ob _ p _ hα q4).2
      have e0 : vs0 = [] := h2
      subst e0
      refine ⟨h1, [(k, u)], ?_, (Nat.le_of_ble_eq_true rfl), ?_⟩
      · rw [keyD_v q2 i1]; rfl
      · obtain ⟨w3, x3⟩ := w2.at (o' := .dK [(k, d3)]) (ho := .dK [(k, u)]) hα (fun xs z => nomatch z) ⟨_, upd_same, u, [], rfl, i2, rfl⟩ fun o u z => by rw [h1] at z; cases z
        refine kk _ (e2.at p _) (((x'.trans x1).trans x2).trans x3) w3 ?_
        rw [Is]
        exact ⟨p, hα, rfl⟩
    · cases qe
/-- d != {} -/
def gNeE (f : Den) : Den := fun ρ Ω => (f ρ Ω).bind fun p => (objN p.1).bind fun n => (p.2[n]?).bind fun o => (dKO o).bind fun kvs => some (.bl (decide (kvs ≠ [])), p.2)
theorem neE_read {σ : St} {H : Hp} {Q : VK} (hw : tD X.K C (gNeE f) σ H Q) : tOp rNeE (tD X.K C f) tDNewK σ H Q := by
  obtain ⟨e, Ω, ρ, d, Ω', eH, w, rl, q, kk⟩ := hw
  obtain ⟨⟨d1, Ω1⟩, q1, qa⟩ := Option.bind_eq_some_iff.mp q
  obtain ⟨m, q2, qb⟩ := Option.bind_eq_some_iff.mp qa
  obtain ⟨o, q3, qc⟩ := Option.bind_eq_some_iff.mp qb
  obtain ⟨kvs, q4, qd⟩ := Option.bind_eq_some_iff.mp qc
  clear q qa qb qc
  have e2 := obj_of q2
  have e4 := dK_of q4
  dsimp only at e2 q3 qd
  subst e2 e4
  cases qd
  refine ⟨e, Ω, ρ, _, _, eH, w, rl, q1, fun v e1 x1 w1 i1 p hp => ?_⟩
  have i1' := i1
  rw [Is] at i1'
  obtain ⟨l, hα, rfl⟩ := i1'
  obtain ⟨vs, hH, ps⟩ := (w1.ob m l _ hα q3).2
  have ne : l ≠ p := fun z => by rw [z, hp] at hH; cases hH
  have ek : decide (vs ≠ []) = decide (kvs ≠ []) := by
    have el := ps.len
    cases vs with
    | nil => cases kvs with | nil => rfl | cons _ _ => cases el
    | cons _ _ => cases kvs with | nil => cases el | cons _ _ => rfl
  refine ⟨l, p, vs, rfl, rfl, by rw [upd_ne ne]; exact hH, upd_same, ?_⟩
  rw [ek]
  refine kk _ ⟨e1.α, e1.F, e1.A, upd e1.H p (.dK [])⟩ (x1.trans ?_) ?_ (by rw [Is])
  · refine ⟨fun b o' u hb => by show upd e1.H p _ b = some (.frz o' u); rw [upd_ne (ne_of_none hb hp)]; exact hb, fun b u hb _ => ?_, fun b u hb => ⟨u, ?_⟩, Same.refl _, fun b u hb => .inl hb, fun b hb => .inl hb, fun b hb => hb, [], by simp⟩
    · show upd e1.H p _ b = some u
      rw [upd_ne (ne_of_none hb hp)]; exact hb
    · show upd e1.H p _ b = some u
      rw [upd_ne (ne_of_none hb hp)]; exact hb
  · refine ⟨fun b u hb => ?_, w1.fa, fun b hb => ?_, w1.ol, w1.nd, fun n b u h1 h2 => ⟨(w1.ob n b u h1 h2).1, (w1.ob n b u h1 h2).2.keep (fun z hz => ?_) (Same.refl _) ⟨[], by simp⟩⟩⟩
    · show upd e1.H p _ b = some u
      rw [upd_ne (ne_of_none (w1.fh b u hb) hp)]; exact w1.fh b u hb
    · show upd e1.H p _ b ≠ none ∧ ∀ xs, upd e1.H p _ b ≠ some (.tup xs)
      rw [upd_ne (fun z => (w1.ah b hb).1 (by rw [z]; exact hp))]; exact w1.ah b hb
    · show upd e1.H p _ b = some z
      rw [upd_ne (ne_of_none hz hp)]; exact hz
theorem pdt_neE (hu : X.A.units < cLine) (ha : PD X C a f) (hm : behindInMarks .NotEq (.Dict [] [] p) = false := by rfl) : PDT X C (.Compare a [.NotEq] [.Dict [] [] p] pos) (gT (gNeE f)) :=
  pt_imp (pt_cmpR (op_neE hu) ha pe_dnewK hm) fun _ _ _ h => neE_read (gT_read h)
end
end DL
set_option Elab.async false
set_option linter.all false
set_option maxRecDepth 100000
/-! A COMPREHENSION OVER A DICT'S KEYS (it is held still meanwhile) -/
namespace L2
open PySem PySem.Spec PyProof.Rows
theorem pe_thaw {X : Cx} {x : Expr} {t : TE} (h : PE X x t) : PE X x (fun σ H Q => ∃ a, (∀ o u, H a ≠ some (.frz o u)) ∧ t σ H fun v H' => ∃ o u, H' a = some (.frz o u) ∧ (∀ b, u ≠ .own b) ∧ Q v (upd H' a u)) := by
  rintro pins s σ H Q I ⟨a, hn, q⟩
  have h0 : ∀ o u, X.H₀ a ≠ some (.frz o u) := fun o u z => hn o u (I.base.frzs a o u z)
  refine wpAny_mono (h pins s σ H _ I q) (fun v s1 r => ?_) fun _ _ z => z
  obtain ⟨x, H', I', rv, o, u, e, hu, d⟩ := r
  exact ⟨x, _, I'.thaw e h0 hu, rv, d⟩
end L2
namespace DL
open PySem PySem.Spec PyProof.Rows L2
def gCompK (μ : List (Option Nat)) (f : Den) (β : BDen) (p : TDen) (g : Den) : Den := fun ρ Ω => (f ρ Ω).bind fun q => (objN q.1).bind fun n => (Ω[n]?).bind fun o0 => (dKO o0).bind fun _ => (q.2[n]?).bind fun o => (dKO o).bind fun kvs =>
  if kvs.length ≤ big then (compD β p g (kvs.map fun x => ofK x.1) (innerD μ ρ) (q.2.set n (.fzK kvs))).bind fun r => (thawO n kvs r.2).bind fun Ω' => some (.lst r.1, Ω') else none
section
variable {K : PySem.W.Frag} {C : Cl} {β : BDen} {p : TDen} {g : Den} {μ : List (Option Nat)}
structure CIK (K : PySem.W.Frag) (C : Cl) (β : BDen) (p : TDen) (g : Den) (ds : List D) (a : Addr) (ysAll : List D) (Ωf : List OS) (e' : E4) (i : Nat) (σ' : St) (e2 : E4) (Ω2 : List OS) (ρ2 : List Sl) (vs : List V) (ys0 ys1 : List D) : Prop where
  w : Wf K C e2 Ω2
  r : RelE K e2 σ' ρ2
  no : ∀ (j : Nat) (es : List D), ρ2[j]? ≠ some (.own es)
  ha : e2.H a = some (.lst vs)
  hF : e2.F a = none
  hA : ¬ e2.A a
  iy : IsL K e2.α e2.F ys0 vs
  x : Ext e' e2
  q : compD β p g (ds.drop i) ρ2 Ω2 = some (ys1, Ωf)
  ey : ys0 ++ ys1 = ysAll
  hy : ys0.length ≤ i
def CInvK (K : PySem.W.Frag) (C : Cl) (β : BDen) (p : TDen) (g : Den) (ds : List D) (a : Addr) (ysAll : List D) (Ωf : List OS) (e' : E4) (i : Nat) (σ' : St) (H' : Hp) : Prop :=
  ∃ e2 Ω2 ρ2 vs ys0 ys1, e2.H = H' ∧ CIK K C β p g ds a ysAll Ωf e' i σ' e2 Ω2 ρ2 vs ys0 ys1
theorem comp_genK {σ : St} {Q : VK} {ob : Obj} {ax : Addr} {e' : E4} {Ω1 Ωf : List OS} {ρ : List Sl} {ksv : List (Key × V)} {ds ysAll : List D} (w' : Wf K C e' Ω1) (rl : RelE K e' σ ρ) (hz : e'.H ax = some (.frz ob (.dK ksv))) (hds : ds = ksv.map fun x => ofK x.1) (hbig : ds.length ≤ big) (q2 : compD β p g ds (innerD μ ρ) Ω1 = some (ysAll, Ωf))
    (fin : ∀ a vs e2, Ext e' e2 → Wf K C e2 Ωf → e2.H a = some (.lst vs) → e2.F a = none → ¬ e2.A a → e'.H a = none → IsL K e2.α e2.F ysAll vs → Q (.ref a) e2.H) : compW μ (tDG K C β) (tDT K C p) (tD K C g) σ Q (Itk ax ob ksv) e'.H := by
  have dl : ds.length = ksv.length := by rw [hds, List.length_map]
  intro a ha
  refine ⟨fun i m σ' H' => m = ds.length - i ∧ i ≤ ds.length ∧ CInvK K C β p g ds a ysAll Ωf e' i σ' H', ⟨ds.length, by simp, Nat.zero_le _, ⟨e'.α, e'.F, e'.A, upd e'.H a (.lst [])⟩, Ω1, innerD μ ρ, [], [], ysAll, rfl, ⟨?_, ?_, fun j es => inner_own, upd_same, w'.nF ha, fun z => (w'.ah a z).1 ha, .nil, ?_, by simpa using q2, rfl, Nat.zero_le _⟩⟩, ?_⟩
  · refine ⟨fun b u hb => ?_, w'.fa, fun b hb => ?_, w'.ol, w'.nd, fun n b u h1 h2 => ⟨(w'.ob n b u h1 h2).1, (w'.ob n b u h1 h2).2.keep (fun z hz => ?_) (Same.refl _) ⟨[], by simp⟩⟩⟩
    · show upd e'.H a _ b = some u
      rw [upd_ne (ne_of_none (w'.fh b u hb) ha)]; exact w'.fh b u hb
    · show upd e'.H a _ b ≠ none ∧ ∀ xs, upd e'.H a _ b ≠ some (.tup xs)
      rw [upd_ne (fun z => (w'.ah b hb).1 (by rw [z]; exact ha))]; exact w'.ah b hb
    · show upd e'.H a _ b = some z
      rw [upd_ne (ne_of_none hz ha)]; exact hz
  · have r1 := inner_rel (μ := μ) rl
    exact ⟨r1.len, r1.dat, fun j es h => absurd h inner_own, r1.sep⟩
  · refine ⟨fun b o' u hb => by show upd e'.H a _ b = some (.frz o' u); rw [upd_ne (ne_of_none hb ha)]; exact hb, fun b u hb _ => ?_, fun b u hb => ⟨u, ?_⟩, Same.refl _, fun b u hb => .inl hb, fun b hb => .inl hb, fun b hb => hb, [], by simp⟩
    · show upd e'.H a _ b = some u
      rw [upd_ne (ne_of_none hb ha)]; exact hb
    · show upd e'.H a _ b = some u
      rw [upd_ne (ne_of_none hb ha)]; exact hb
  · rintro i m σ2 H2 ⟨rfl, hil, e2, Ω2, ρ2, vs, ys0, ys1, rfl, ⟨w2, r2, no2, ha2, hF2, hA2, iy, x2, q3, ey, hy⟩⟩
    have hz2 : e2.H ax = some (.frz ob (.dK ksv)) := x2.fz _ _ _ hz
    by_cases hlt : i < ds.length
    · have edrop : ds.drop i = ds[i] :: ds.drop (i + 1) := List.drop_eq_getElem_cons hlt
      rw [edrop] at q3
      unfold compD at q3
      refine .inr ⟨⟨hz2, by omega⟩, fun σ' H' => i + 1 ≤ ds.length ∧ CInvK K C β p g ds a ysAll Ωf e' (i + 1) σ' H', fun σ' H' hN => ⟨ds.length - (i + 1), by omega, rfl, hN⟩, fun x H' hyl => ?_⟩
      obtain ⟨rfl, kk, hk, rfl⟩ := hyl
      have ekk : ds[i] = ofK kk := by
        have z : ds[i]? = some (ofK kk) := by
          rw [hds, List.getElem?_map]
          cases z2 : ksv[i]? with
          | none => rw [z2] at hk; cases hk
          | some kv => rw [z2] at hk; cases hk; rfl
        rw [List.getElem?_eq_getElem hlt] at z
        exact Option.some.inj z
      have ix : Is K e2.α e2.F ds[i] (kV kk) := by rw [ekk]; exact ofK_is kk
      cases q4 : β ds[i] ρ2 with
      | none => rw [q4] at q3; cases q3
      | some ρ3 =>
        rw [q4] at q3
        dsimp only at q3
        refine ⟨e2, Ω2, ρ2, _, ρ3, rfl, w2, r2, ix, q4, fun σ3 r3 o3 => ?_⟩
        have no3 : ∀ (j : Nat) (es : List D), ρ3[j]? ≠ some (.own es) := fun j es h => no2 j es (o3 j es h).1
        cases q5 : p ρ3 Ω2 with
        | none => rw [q5] at q3; cases q3
        | some p5 =>
          obtain ⟨b, Ω3⟩ := p5
          rw [q5] at q3
          refine ⟨e2, Ω2, ρ3, b, Ω3, rfl, w2, r3, q5, fun e3 x3 w3 => ?_⟩
          cases b with
          | false =>
            refine iteF ?_
            obtain ⟨z1, z2, z3⟩ := x3.keepOwn ha2 hF2 hA2
            exact ⟨hlt, e3, Ω3, ρ3, vs, ys0, ys1, rfl, ⟨w3, r3.ext x3, no3, z1, z2, z3, iy.ext x3, x2.trans x3, q3, ey, Nat.le_succ_of_le hy⟩⟩
          | true =>
            refine iteT ?_
            dsimp only at q3
            cases q6 : g ρ3 Ω3 with
            | none => rw [q6] at q3; cases q3
            | some p6 =>
              obtain ⟨y, Ω4⟩ := p6
              rw [q6] at q3
              dsimp only at q3
              cases q7 : compD β p g (ds.drop (i + 1)) ρ3 Ω4 with
              | none => rw [q7] at q3; cases q3
              | some p7 =>
                obtain ⟨ys2, Ω5⟩ := p7
                rw [q7] at q3
                cases q3
                refine ⟨e3, Ω3, ρ3, y, Ω4, rfl, w3, r3.ext x3, q6, fun v e4 x4 w4 i4 => ?_⟩
                obtain ⟨z1, z2, z3⟩ := (x3.trans x4).keepOwn ha2 hF2 hA2
                have x24 := x3.trans x4
                refine ⟨vs, z1, by rw [← iy.length]; exact big_lt (by omega), hlt, ⟨e4.α, e4.F, e4.A, upd e4.H a (.lst (vs ++ [v]))⟩, Ω4, ρ3, _, ys0 ++ [y], ys2, rfl, ⟨⟨fun b u hb => ?_, w4.fa, fun b hb => ?_, w4.ol, w4.nd, fun n b u h1 h2 => ⟨(w4.ob n b u h1 h2).1, (w4.ob n b u h1 h2).2.keep (fun z hz => ?_) (Same.refl _) ⟨[], by simp⟩⟩⟩,
                  ⟨((r3.ext x3).ext x4).len, ((r3.ext x3).ext x4).dat, fun j es h => absurd h (no3 j es), ((r3.ext x3).ext x4).sep⟩, no3, upd_same, z2, z3, (iy.ext x24).append (.cons i4 .nil), ⟨fun b o' u hb => by show upd e4.H a _ b = some (.frz o' u); rw [upd_ne (ne_of_none hb ha)]; exact (x2.trans x24).fz b o' u hb, fun b u hb hn => ?_, fun b u hb => ?_, (x2.trans x24).ff, (x2.trans x24).fn, (x2.trans x24).an, (x2.trans x24).aa, (x2.trans x24).al⟩, q7, by rw [← ey]; simp, by simp; omega⟩⟩
                · show upd e4.H a _ b = some u
                  rw [upd_ne (fun z => by subst z; rw [z2] at hb; cases hb)]; exact w4.fh b u hb
                · show upd e4.H a _ b ≠ none ∧ ∀ xs, upd e4.H a _ b ≠ some (.tup xs)
                  rw [upd_ne (fun z => z3 (by rw [← z]; exact hb))]; exact w4.ah b hb
                · show upd e4.H a _ b = some z
                  rw [upd_ne (fun y => z3 (by rw [← y]; exact (w4.ob n b u h1 h2).1))]; exact hz
                · show upd e4.H a _ b = some u
                  rw [upd_ne (ne_of_none hb ha)]; exact (x2.trans x24).hk b u hb hn
                · obtain ⟨u', z⟩ := (x2.trans x24).dm b u hb
                  exact ⟨u', by show upd e4.H a _ b = some u'; rw [upd_ne (ne_of_none hb ha)]; exact z⟩
    · have ei : i = ds.length := by omega
      subst ei
      rw [List.drop_length] at q3
      unfold compD at q3
      cases q3
      rw [List.append_nil] at ey
      subst ey
      refine .inl ⟨⟨hz2, dl⟩, ?_⟩
      exact fin a vs e2 x2 w2 ha2 hF2 hA2 ha iy
end
section
variable {X : Cx} {C : Cl} {tg iter elt : Expr} {ifs : List Expr} {scope : Scope} {pos : Pos} {N : List Str} {μ : List (Option Nat)} {f : Den} {β : BDen} {p : TDen} {g : Den}
theorem pd_compK (hc : X.calm = true) (ok : CompOk X N scope μ) (hi : PD X C iter f)
    (hg : ∀ fp A s H, PDG (cxComp X N scope (clos X.env.cells scope.names []) A fp s H) C tg β) (ht : ∀ fp A s H, PDTs (cxComp X N scope (clos X.env.cells scope.names []) A fp s H) C ifs p) (he : ∀ fp A s H, PD (cxComp X N scope (clos X.env.cells scope.names []) A fp s H) C elt g)
    (hs : ∀ x, foldedSetIterable iter X.env x = pure x := by intro _; rfl) : PD X C (.ListComp elt [⟨tg, iter, ifs, 0⟩] scope pos) (gCompK μ f β p g) :=
  pe_imp (pe_thaw (pe_comp (g := tDG X.K C β) (tt := tDT X.K C p) (te := tD X.K C g) hc ok.cell ok.kind ok.names ok.free ok.has ok.mu (pi_fd hi) hg ht he hs)) fun σ H Q hw => by
    obtain ⟨e, Ω, ρ, d, Ωf, eH, w, rl, q, kk⟩ := hw
    obtain ⟨⟨d1, Ω1⟩, q1, qa⟩ := Option.bind_eq_some_iff.mp q
    obtain ⟨n, q2, qb⟩ := Option.bind_eq_some_iff.mp qa
    obtain ⟨o0, q3, qc⟩ := Option.bind_eq_some_iff.mp qb
    obtain ⟨kv0, q4, qd⟩ := Option.bind_eq_some_iff.mp qc
    obtain ⟨o, q5, qe⟩ := Option.bind_eq_some_iff.mp qd
    obtain ⟨kvs, q6, qf⟩ := Option.bind_eq_some_iff.mp qe
    clear q qa qb qc qd qe
    have e2 := obj_of q2
    have e4 := dK_of q4
    have e6 := dK_of q6
    dsimp only at e2 q5 qf
    subst e2 e4 e6
    split at qf
    · rename_i hbig
      obtain ⟨⟨ys, Ω5⟩, q7, qg⟩ := Option.bind_eq_some_iff.mp qf
      obtain ⟨Ω6, q8, qh⟩ := Option.bind_eq_some_iff.mp qg
      clear qf qg
      dsimp only at q8 qh
      cases qh
      have hn : n < e.α.length := by rw [w.ol]; exact (List.getElem?_eq_some_iff.mp q3).1
      have hα : e.α[n]? = some e.α[n] := List.getElem?_eq_getElem hn
      generalize e.α[n] = a at hα
      obtain ⟨vs0, ha0, _⟩ := (w.ob n a _ hα q3).2
      have nz : ∀ o u, e.H a ≠ some (.frz o u) := fun o u z => by rw [ha0] at z; cases z
      refine ⟨a, by rw [← eH]; exact nz, e, Ω, ρ, .obj n, Ω1, eH, w, rl, q1, fun v e' x' w' i' => ?_⟩
      rw [Is] at i'
      obtain ⟨a', hα', rfl⟩ := i'
      have ea : a' = a := by
        obtain ⟨more, z⟩ := x'.al
        rw [z, List.getElem?_append_left hn, hα] at hα'
        exact (Option.some.inj hα').symm
      subst ea
      obtain ⟨vs, ha, hps⟩ := (w'.ob n a' _ hα' q5).2
      refine ⟨a', vs, rfl, ha, fun ob => ?_⟩
      have nz' : ∀ o u, e'.H a' ≠ some (.frz o u) := fun o u z => by rw [ha] at z; cases z
      obtain ⟨wf, xf⟩ := w'.at (o' := .fzK kvs) (ho := .frz ob (.dK vs)) hα' (fun xs z => nomatch z) ⟨vs, ob, upd_same, hps⟩ nz'
      have hkeys : (kvs.map fun x => ofK x.1) = vs.map fun x => ofK x.1 := by
        have z : kvs.map (·.1) = vs.map (·.1) := hps.keys
        have z2 := congrArg (List.map ofK) z
        rw [List.map_map, List.map_map] at z2
        exact z2
      refine comp_genK (e' := e'.at a' (.frz ob (.dK vs))) (ρ := ρ) wf ((rl.ext x').ext xf) upd_same hkeys (by rw [List.length_map]; exact hbig) q7 fun a vs' e2 x2 w2 ha2 hF2 hA2 hn2 iy => ?_
      have hz2 : e2.H a' = some (.frz ob (.dK vs)) := x2.fz _ _ _ upd_same
      have hα2 : e2.α[n]? = some a' := by
        obtain ⟨more, z⟩ := x2.al
        rw [z]
        show (e'.α ++ more)[n]? = some a'
        rw [List.getElem?_append_left (List.getElem?_eq_some_iff.mp hα').1]; exact hα'
      refine ⟨ob, .dK vs, hz2, (fun b z => nomatch z), ?_⟩
      have x3 : Ext e (e2.at a' (.dK vs)) := thaw_ext (x'.trans (xf.trans x2)) hz2 nz
      have w3 := thaw_to (e₀ := e) w2 hα2 hz2 q8
      have nea : a ≠ a' := fun z => by rw [z, hz2] at ha2; cases ha2
      have ha3 : (e2.at a' (.dK vs)).H a = some (.lst vs') := by show upd e2.H a' _ a = _; rw [upd_ne nea]; exact ha2
      have hne : e.H a = none := by
        cases z : e.H a with
        | none => rfl
        | some u =>
          obtain ⟨u', z'⟩ := (x'.trans xf).dm a u z
          rw [hn2] at z'; cases z'
      have w4 := w3.bare (a := a) hF2 hA2
      have z := kk (.ref a) (((e2.at a' (.dK vs)).bare a).new a (.lst vs')) ((x3.bare hne).trans (w4.new_ext (if_pos rfl))) (w4.new (if_pos rfl)) (by
        rw [Is]
        exact ⟨a, vs', rfl, upd_same, IsL.ext (w4.new_ext (if_pos rfl)) iy⟩)
      have eq : (((e2.at a' (.dK vs)).bare a).new a (.lst vs')).H = (e2.at a' (.dK vs)).H := bare_upd ha3
      exact Eq.mp (congrArg (Q (.ref a)) eq) z
    · cases qf
end
end DL
set_option Elab.async false
set_option linter.all false
set_option maxRecDepth 100000
/-! sorted(list of ints), sorted(d.items()) -/
namespace L2
open PySem PySem.Spec PyProof.Rows KS PySem.W
section
variable {X : Cx} {pins : List (Addr × Obj)} {σ : St} {s : Shared} {o : Expr} {td : TE} {apos cpos : Pos}
theorem vals_intsA {us : List Value} {ns : List Int} (h : IntsAre us ns) : Vals (ns.map V.int) us := by
  induction h with
  | nil => exact .nil
  | cons n t _ ih => exact .cons ⟨t, rfl⟩ ih
theorem call_sortN : CallR X (.builtin "sorted") (fun xs H Q => ∃ (l : Addr) (ns : List Int), xs = [V.ref l] ∧ SqL X.K H l (ns.map V.int) ∧ ns.length < 64 ∧ ∀ (ns' : List Int) (p : Addr), H p = none → ns'.Perm ns → ns'.Pairwise (· ≤ ·) → Q (.ref p) (upd H p (.lst (ns'.map V.int)))) := by
  intro pins s σ H xs us Q I r h
  obtain ⟨l, ns, rfl, hl, h64, fin⟩ := h
  obtain ⟨u, rfl, ru⟩ := vals1 r
  cases ru
  obtain ⟨its, rv, pl, _⟩ := I.list hl
  have len := rv.length
  rw [List.length_map] at len
  refine sorted_ints pl.isList (intsAre_of rv) (by omega) fun out ns' hi hp hs => ?_
  obtain ⟨c, oD⟩ := sortedAll_at s.heap its out
  have zD : s.heap.objs.size ≤ s.heap.objs.size + 1 := Nat.le_succ _
  have fD := I.fpOk zD (I.hok.fresh zD)
  refine ⟨.ref _, upd H (s.heap.objs.size + 1) (.lst (ns'.map V.int)), ?_, rfl, fin ns' _ fD.1 hp hs⟩
  exact I.adopt (its := out.toList) fD fD (fun b o _ q => sortedAll_old q) oD (vals_intsA hi) (by rw [List.length_map, hp.length_eq, sizeLine_eq]; omega)
/-- pairs are laid -/
inductive NewT : Hp → List Addr → List (Key × V) → Hp → Prop
  | nil {H : Hp} : NewT H [] [] H
  | cons {H H' : Hp} {a : Addr} {kv : Key × V} {as : List Addr} {kvs : List (Key × V)} : H a = none → NewT (upd H a (.tup [kV kv.1, kv.2])) as kvs H' → NewT H (a :: as) (kv :: kvs) H'
theorem NewT.keep {H H' : Hp} {as : List Addr} {kvs : List (Key × V)} (h : NewT H as kvs H') : ∀ b u, H b = some u → H' b = some u := by
  induction h with
  | nil => exact fun b u e => e
  | cons hn _ ih => exact fun b u e => ih b u (by rw [upd_ne (ne_of_none e hn)]; exact e)
end
end L2
set_option Elab.async false
set_option linter.all false
set_option maxRecDepth 100000
namespace DL
open PySem PySem.Spec PyProof.Rows L2
theorem intsD_ints : ∀ ns : List Int, intsD (ns.map D.int) = some ns
  | [] => rfl
  | n :: ns => by
    show (match intsD (ns.map D.int) with | some is => some (n :: is) | none => none) = _
    rw [intsD_ints ns]
def isrt (ns : List Int) : List Int := ns.mergeSort (fun a b => decide (a ≤ b))
theorem isrt_unique {ns ns' : List Int} (hp : ns'.Perm ns) (hs : ns'.Pairwise (· ≤ ·)) : ns' = isrt ns := by
  refine List.Perm.eq_of_pairwise (le := fun a b : Int => a ≤ b) (fun a b _ _ h1 h2 => Int.le_antisymm h1 h2) hs ?_ (hp.trans (List.mergeSort_perm ns _).symm)
  have := List.pairwise_mergeSort (le := fun a b : Int => decide (a ≤ b)) (fun a b c h1 h2 => by simp at *; omega) (fun a b => by simp; omega) ns
  exact this.imp fun h => by simpa using h
theorem ints_isL {K : PySem.W.Frag} {α : List Addr} {F : Hp} : ∀ ns : List Int, IsL K α F (ns.map D.int) (ns.map V.int)
  | [] => .nil
  | n :: ns => .cons (by rw [Is]) (ints_isL ns)
/-- sorted(list of ints) -/
def gSortZ (g : Den) : Den := fun ρ Ω => (g ρ Ω).bind fun p => (lstD p.1).bind fun ds => (intsD ds).bind fun ns => if ds.length < 64 then some (.lst ((isrt ns).map D.int), p.2) else none
section
variable {K : PySem.W.Frag} {C : Cl} {e : E4} {Ω : List OS}
end
section
variable {X : Cx} {C : Cl} {n : Str} {p pos ap cp : Pos} {a b : Expr} {f g : Den} {k : Nat}
theorem pd_sortZ (hg : Gl X n) (hm : X.mg n = none) (hv : bootBuiltins n = some (.builtin "sorted")) (ho : PD X C a g) (hn : n ≠ "__name__" := by decide) (hdb : (n == ("__debug__" : Str)) = false := by decide)
    (he : starEach [a] X.env = (false, eval a X.env) :: starEach [] X.env := by rfl) (hpl : (backTo pos (starEach [] X.env)).any (·.1) = false := by rfl) : PD X C (.Call (.Name n p) [a] [] pos) (gSortZ g) :=
  pe_imp (pe_callB call_sortN hg hm hv (pa_cons ho pa_nil he) hn hdb he hpl) fun σ H Q hw' => by
    obtain ⟨e, Ω, ρ, d, Ω', eH, w, rl, q, kk⟩ := hw'
    obtain ⟨⟨d1, Ω1⟩, q1, qa⟩ := Option.bind_eq_some_iff.mp q
    obtain ⟨ds, q2, qb⟩ := Option.bind_eq_some_iff.mp qa
    obtain ⟨ns, q3, qc⟩ := Option.bind_eq_some_iff.mp qb
    clear q qa qb
    have e2 := lst_of q2
    have e3 := intsD_map q3
    dsimp only at e2 qc
    subst e2 e3
    split at qc
    · rename_i h64
      cases qc
      refine ⟨e, Ω, ρ, _, _, eH, w, rl, q1, fun v e1 x1 w1 i1 => ?_⟩
      rw [Is] at i1
      obtain ⟨l, vs, rfl, hF, il⟩ := i1
      have ev := isL_ints il
      subst ev
      refine ⟨l, ns, rfl, SqL.of (w1.fh _ _ hF), by simpa using h64, fun ns' p' hp hpm hs => ?_⟩
      refine kk _ (e1.new p' _) (x1.trans (w1.new_ext hp)) (w1.new hp) ?_
      rw [isrt_unique hpm hs, Is]
      exact ⟨p', _, rfl, upd_same, ints_isL _⟩
    · cases qc
end
end DL
set_option Elab.async false
set_option linter.all false
set_option maxRecDepth 100000
/-! a set's table: its places rise -/
namespace SS
open PySem
def Ris (xs : Array Nat) : Prop := xs.toList.Pairwise (· < ·)
theorem Ris.lt {xs : Array Nat} (h : Ris xs) {i k : Nat} (hk : k < xs.size) (hik : i < k) : xs[i]'(Nat.lt_trans hik hk) < xs[k] := by
  have := List.pairwise_iff_getElem.mp h i k (by simpa using Nat.lt_trans hik hk) (by simpa using hk) hik
  simpa using this
theorem go_spec {xs : Array Nat} {j : Nat} (hs : Ris xs) : ∀ (fuel lo hi : Nat), hi ≤ lo + fuel → lo ≤ hi → hi ≤ xs.size → (∀ i (h : i < xs.size), i < lo → xs[i] < j) → (∀ i (h : i < xs.size), hi ≤ i → j ≤ xs[i]) →
    SetTable.below.go xs j fuel lo hi ≤ xs.size ∧ (∀ i (h : i < xs.size), i < SetTable.below.go xs j fuel lo hi → xs[i] < j) ∧ (∀ i (h : i < xs.size), SetTable.below.go xs j fuel lo hi ≤ i → j ≤ xs[i]) := by
  intro fuel
  induction fuel with
  | zero =>
    intro lo hi h1 h2 h3 h4 h5
    have e : lo = hi := by omega
    subst e
    exact ⟨h3, h4, h5⟩
  | succ fuel ih =>
    intro lo hi h1 h2 h3 h4 h5
    unfold SetTable.below.go
    by_cases c : lo < hi
    · rw [if_pos c]
      have hm : (lo + hi) / 2 < xs.size := by omega
      have eg : xs.getD ((lo + hi) / 2) j = xs[(lo + hi) / 2] := by simp [Array.getD, hm]
      dsimp only
      rw [eg]
      by_cases c2 : xs[(lo + hi) / 2] < j
      · rw [if_pos c2]
        refine ih _ _ (by omega) (by omega) h3 (fun i h hi' => ?_) h5
        by_cases q : i = (lo + hi) / 2
        · subst q; exact c2
        · have := hs.lt hm (show i < (lo + hi) / 2 by omega)
          omega
      · rw [if_neg c2]
        refine ih _ _ (by omega) (by omega) (by omega) h4 fun i h hi' => ?_
        by_cases q : i = (lo + hi) / 2
        · subst q; omega
        · have := hs.lt h (show (lo + hi) / 2 < i by omega)
          omega
    · rw [if_neg c]
      have e : lo = hi := by omega
      subst e
      exact ⟨h3, h4, h5⟩
theorem below_spec {xs : Array Nat} (hs : Ris xs) (j : Nat) : SetTable.below xs j ≤ xs.size ∧ (∀ i (h : i < xs.size), i < SetTable.below xs j → xs[i] < j) ∧ (∀ i (h : i < xs.size), SetTable.below xs j ≤ i → j ≤ xs[i]) :=
  go_spec hs xs.size 0 xs.size (by omega) (by omega) (Nat.le_refl _) (fun i h q => absurd q (by omega)) (fun i h q => absurd q (by omega))
theorem below_eq {xs : Array Nat} (hs : Ris xs) {j i : Nat} (hi : i ≤ xs.size) (h1 : ∀ k (h : k < xs.size), k < i → xs[k] < j) (h2 : ∀ k (h : k < xs.size), i ≤ k → j ≤ xs[k]) : SetTable.below xs j = i := by
  obtain ⟨a, b, c⟩ := below_spec hs j
  rcases Nat.lt_trichotomy (SetTable.below xs j) i with h | h | h
  · have q1 := h1 (SetTable.below xs j) (by omega) h
    have q2 := c (SetTable.below xs j) (by omega) (Nat.le_refl _)
    omega
  · exact h
  · have q1 := b i (by omega) h
    have q2 := h2 i (by omega) (Nat.le_refl _)
    omega
theorem ris_put {xs : Array Nat} (hs : Ris xs) {j : Nat} (hj : xs[SetTable.below xs j]? ≠ some j) : Ris (SetTable.insertAt xs (SetTable.below xs j) j) := by
  obtain ⟨a, b, c⟩ := below_spec hs j
  unfold Ris
  rw [SetTable.toList_insertAt]
  have lt : ∀ x ∈ xs.toList.take (SetTable.below xs j), x < j := fun x hx => by
    obtain ⟨k, hk, rfl⟩ := List.mem_take_iff_getElem.mp hx
    have := b k (by simp at hk; omega) (by omega)
    simpa using this
  have gt : ∀ x ∈ xs.toList.drop (SetTable.below xs j), j < x := fun x hx => by
    obtain ⟨k, hk, rfl⟩ := List.mem_drop_iff_getElem.mp hx
    have hk' : SetTable.below xs j + k < xs.size := by simpa [Nat.add_comm] using hk
    have q := c (SetTable.below xs j + k) hk' (by omega)
    have q0 := c (SetTable.below xs j) (by omega) (Nat.le_refl _)
    have ne : xs[SetTable.below xs j]'(by omega) ≠ j := fun e => hj (by rw [Array.getElem?_eq_getElem (by omega), e])
    by_cases z : k = 0
    · subst z
      simp only [Nat.add_zero, Array.getElem_toList] at *
      omega
    · have := hs.lt hk' (show SetTable.below xs j < SetTable.below xs j + k by omega)
      simp only [Array.getElem_toList] at *
      omega
  refine List.pairwise_append.mpr ⟨hs.sublist (List.take_sublist _ _), List.pairwise_cons.mpr ⟨gt, hs.sublist (List.drop_sublist _ _)⟩, fun x hx y hy => ?_⟩
  rcases List.mem_cons.mp hy with rfl | hy
  · exact lt x hx
  · exact Nat.lt_trans (lt x hx) (gt y hy)
theorem ris_range (n : Nat) : Ris (Array.range n) := by
  unfold Ris
  rw [Array.toList_range]
  exact List.pairwise_lt_range
structure TI (led : Bool) (t : SetTable) : Prop where
  ris : Ris t.place
  du : t.dummies = #[]
  ld : t.led = led
variable {led : Bool} {t : SetTable}
theorem TI.fresh (f m : Nat) : TI led (.fresh f m led) := ⟨List.Pairwise.nil, rfl, rfl⟩
theorem TI.standIn (h : TI led t) (n : Nat) : TI led (t.standIn n) := ⟨ris_range n, rfl, h.ld⟩
theorem TI.orStandIn (h : TI led t) (n : Nat) : TI led (t.orStandIn n) := by
  unfold SetTable.orStandIn
  split
  · exact h
  · exact h.standIn n
theorem TI.put (h : TI led t) {j : Nat} (hj : t.place[SetTable.below t.place j]? ≠ some j) : TI led (t.put j).1 := by
  refine ⟨ris_put h.ris hj, ?_, h.ld⟩
  show (if SetTable.has t.dummies j then _ else t.dummies) = #[]
  rw [h.du]
  rfl
theorem probe_go (h : TI led t) (f : Nat → Int) (x : Int) : ∀ (fuel : Nat) (p : SetTable.Probe) (j : Nat) (d : Option Nat), p.dummy = none → SetTable.probe.go t f x fuel p = some (.empty j d) → d = none ∧ t.slot j = .empty := by
  intro fuel
  induction fuel with
  | zero => intro p j d _ e; cases e
  | succ fuel ih =>
    intro p j d hp e
    unfold SetTable.probe.go at e
    have adv : ∀ q : SetTable.Probe, (t.advance q).dummy = q.dummy := fun q => by
      unfold SetTable.advance
      split <;> rfl
    split at e
    · rename_i hs
      cases e
      exact ⟨hp, hs⟩
    · rename_i hs
      exfalso
      unfold SetTable.slot at hs
      rw [h.du] at hs
      dsimp only at hs
      split at hs
      · cases hs
      · cases hs
    · split at e
      · cases e
      · exact ih _ _ _ ((adv p).trans hp) e
theorem free_spec (h : TI led t) {x : Int} {j : Nat} {d : Bool} (e : t.freeSlot x = some (j, d)) : d = false ∧ t.place[SetTable.below t.place j]? ≠ some j := by
  unfold SetTable.freeSlot at e
  split at e
  · rename_i j' d' hp
    obtain ⟨rfl, hs⟩ := probe_go h _ _ _ _ _ _ rfl hp
    cases e
    refine ⟨rfl, fun q => ?_⟩
    unfold SetTable.slot at hs
    dsimp only at hs
    rw [if_pos (by rw [beq_iff_eq]; exact q)] at hs
    cases hs
  · cases e
theorem TI.layNew (h : TI led t) (es : Array (Int × Value)) (x : Int) (v : Value) : TI led (layNew t es x v).2.1 ∧ (PySem.layNew t es x v).2.2.1 = false := by
  unfold PySem.layNew
  split
  · rename_i j d e
    obtain ⟨rfl, q⟩ := free_spec h e
    exact ⟨(h.put q).orStandIn _, rfl⟩
  · exact ⟨h.standIn _, rfl⟩
theorem laid_ris {mask finger moves : Nat} {plain : Bool} {hs : Array Int} {t' : SetTable} {o : Array Nat} (e : SetTable.laid mask finger moves led plain hs = some (t', o)) : TI led t' := by
  unfold SetTable.laid at e
  obtain ⟨ow, _, e⟩ := Option.bind_eq_some_iff.mp e
  cases e
  refine ⟨?_, rfl, rfl⟩
  unfold Ris
  dsimp only
  have sub : ∀ l : List Nat, ((l.filterMap fun j => (ow.getD j none).map (j, ·)).map (·.1)).Sublist l := by
    intro l
    induction l with
    | nil => exact .slnil
    | cons a l ih =>
      rw [List.filterMap_cons]
      cases ow.getD a none with
      | none => exact ih.cons _
      | some k => exact ih.cons₂ _
  exact (List.pairwise_lt_range (n := mask + 1)).sublist (sub _)
theorem TI.relayAll (h : TI led t) (es : Array (Int × Value)) (n : Nat) : TI led (relayAll t es n).2.1 := by
  unfold PySem.relayAll
  split
  · rename_i t' o e
    dsimp only
    split
    · unfold SetTable.relaid at e
      rw [h.ld] at e
      exact laid_ris e
    · exact h.standIn _
  · exact h.standIn _
theorem erase_perm {α : Type} : ∀ (l : List α) (i : Nat) (x : α), l[i]? = some x → (x :: l.eraseIdx i).Perm l
  | [], i, x, e => by simp at e
  | a :: l, 0, x, e => by simp at e; subst e; exact .rfl
  | a :: l, i + 1, x, e => by
    rw [List.eraseIdx_cons_succ]
    exact (List.Perm.swap a x _).trans ((erase_perm l i x (by simpa using e)).cons a)
theorem pick_go {α : Type} (next : Nat → Nat) : ∀ (fuel k : Nat) (left : List α) (out : Array α), fuel = left.length → (pickOrder.go next fuel k left out).toList.Perm (out.toList ++ left) := by
  intro fuel
  induction fuel with
  | zero =>
    intro k left out e
    have : left = [] := List.eq_nil_of_length_eq_zero e.symm
    subst this
    unfold pickOrder.go
    simp
  | succ fuel ih =>
    intro k left out e
    unfold pickOrder.go
    have hlt : next k % left.length < left.length := Nat.mod_lt _ (by omega)
    rw [List.getElem?_eq_getElem hlt]
    dsimp only
    refine (ih _ _ _ (by rw [List.length_eraseIdx_of_lt hlt]; omega)).trans ?_
    rw [Array.toList_push, List.append_assoc]
    exact (erase_perm left _ _ (List.getElem?_eq_getElem hlt)).append_left _
theorem pick_perm {α : Type} (next : Nat → Nat) (xs : Array α) : (pickOrder next xs).toList.Perm xs.toList := by
  unfold pickOrder
  exact (pick_go next xs.size 0 xs.toList #[] (by simp)).trans (by simp)
end SS
set_option Elab.async false
set_option linter.all false
set_option maxRecDepth 100000
/-! a set of ints: made of a list, walked, sorted -/
namespace SS
open PySem PySem.Spec PyProof.Rows
def intOf : Value → Int
  | .int n _ => n
  | _ => 0
def byT (w : World) : Bool := w.params.followText "set-order"
structure SetOb (prog : Program) (w : World) (o : Obj) (es : Array (Int × Value)) (ep : Nat) (t : SetTable) (ns : List Int) : Prop where
  ex : o.ExactSet
  dat : o.data = .set es ep t
  el : ElemsOf (intKind prog w) es.toList
  fits : t.fits es.size = true
  ti : TI (!byT w) t
  perm : (es.toList.map fun e => intOf e.2).Perm ns
  bnd : es.size < scanBound
def IsSet (prog : Program) (w : World) (o : Obj) (ns : List Int) : Prop := ∃ es ep t, SetOb prog w o es ep t ns
section
variable {prog : Program} {w : World} {A : Around} {E : Value → Shared → Prop} {s : Shared}
theorem el_int {l : List (Int × Value)} (h : ElemsOf (intKind prog w) l) {e : Int × Value} (he : e ∈ l) : ∃ n t, e.2 = .int n t := by
  obtain ⟨⟨k, hk, _⟩, _⟩ := h e he
  obtain ⟨t, q⟩ := Value.isInt_shape hk
  exact ⟨k, t, q⟩
theorem el_any {l : List (Int × Value)} (h : ElemsOf (intKind prog w) l) (n : Int) : (l.findIdx? fun e => (intKind prog w).is n e.2).isSome = (l.map fun e => intOf e.2).any (· == n) := by
  induction l with
  | nil => rfl
  | cons e l ih =>
    obtain ⟨m, t, q⟩ := el_int h List.mem_cons_self
    have i1 : (intKind prog w).is n e.2 = (m == n) := by rw [q]; rfl
    have i2 : intOf e.2 = m := by rw [q]; rfl
    rw [List.findIdx?_cons, List.map_cons, List.any_cons, i1, i2, ← ih h.tail]
    cases m == n with
    | true => rfl
    | false => simp
theorem any_perm {l l' : List Int} (h : l.Perm l') (n : Int) : l.any (· == n) = l'.any (· == n) := by
  rw [Bool.eq_iff_iff, List.any_eq_true, List.any_eq_true]
  exact ⟨fun ⟨x, hx, q⟩ => ⟨x, h.mem_iff.mp hx, q⟩, fun ⟨x, hx, q⟩ => ⟨x, h.mem_iff.mpr hx, q⟩⟩
theorem put_at {S : Addr} {h : Heap} {o : Obj} {es : Array (Int × Value)} {ep : Nat} {t : SetTable} (ho : h.get? S = some o) (hd : o.data = .set es ep t) (es' : Array (Int × Value)) (t' : SetTable) :
    (h.update S (Obj.putSet es' t')).get? S = some { o with data := .set es' (ep + 1) t' } := by
  have q := Heap.get?_update_self (Obj.putSet es' t') ho (by rw [putSet_of es' t' hd]; rfl)
  rw [putSet_of es' t' hd] at q
  exact q
/-- one int is added -/
theorem set_add {S : Addr} {o : Obj} {ns : List Int} {n : Int} {tk : Tok} {Q : Bool → Shared → Prop} (ho : s.heap.get? S = some o) (h : IsSet prog w o ns) (hb : ns.length + 1 < scanBound)
    (hQ : ∀ b h' o', Heap.SameBut S s.heap h' → h'.get? S = some o' → IsSet prog w o' (step_dedup ns n) → Q b { s with heap := h' }) :
    wpAny (model prog w) A (setAddHashed S (.int n tk) ((intKind prog w).hash n)) Q E s := by
  obtain ⟨es, ep, t, so⟩ := h
  have len : es.size = ns.length := by have := so.perm.length_eq; simpa using this
  have any : (es.toList.findIdx? fun e => (intKind prog w).is n e.2).isSome = ns.any (· == n) := (el_any so.el n).trans (any_perm so.perm n)
  unfold setAddHashed setAddHashedIn
  refine wpAny_holding (wpAny_bind (wpAny_setState_of ho so.dat so.fits ?_))
  dsimp only
  rw [byScan_of (knd := intKind prog w) (x := .int n tk) rfl so.bnd so.el]
  simp only [↓reduceIte]
  unfold setAddByScan
  refine wpAny_bind ?_
  refine wpAny_bind (wpAny_rule ?_)
  refine wpAny_bind (wpAny_setScan_of (k := n) (intKind_is _ _ _ _) ho so.dat so.fits so.el ?_)
  cases hr : es.toList.findIdx? fun e => (intKind prog w).is n e.2 with
  | some j =>
    rw [hr] at any
    dsimp only
    refine wpAny_pure (wpAny_pure ?_)
    have q := hQ false s.heap o (Heap.SameBut.refl S s.heap) ho ⟨es, ep, t, so.ex, so.dat, so.el, so.fits, so.ti, by unfold step_dedup; rw [← any]; exact so.perm, so.bnd⟩
    exact q
  | none =>
    rw [hr] at any
    dsimp only
    have e0 : step_dedup ns n = ns ++ [n] := by unfold step_dedup; rw [← any]; rfl
    have l1 := so.ti.layNew es ((intKind prog w).hash n) (.int n tk)
    have l2 := layNew_perm t es ((intKind prog w).hash n) (.int n tk)
    have l3 := layNew_fits t es ((intKind prog w).hash n) (.int n tk)
    generalize PySem.layNew t es ((intKind prog w).hash n) (.int n tk) = L at l1 l2 l3 ⊢
    obtain ⟨es1, t1, wd, gv⟩ := L
    dsimp only at l1 l2 l3 ⊢
    obtain ⟨l1, rfl⟩ := l1
    rw [Array.toList_push] at l2
    have k1 : ElemsOf (intKind prog w) es1.toList := (so.el.push (intKind_is _ _ _ _) rfl).perm l2
    have k2 : (es1.toList.map fun e => intOf e.2).Perm (step_dedup ns n) := by
      rw [e0]
      refine (l2.map _).trans ?_
      rw [List.map_append]
      exact so.perm.append_right _
    have k3 : es1.size = ns.length + 1 := by have := l2.length_eq; simp at this; omega
    have k4 : es1.size < scanBound := by omega
    have fin : ∀ t2 : SetTable, t2.fits es1.size = true → TI (!byT w) t2 → wpAny (model prog w) A (do
        storeSet S es1 t2
        if (!false && t2.tooFull) = true then do
            (match (relayAll t2 es1 (SetTable.grown es1.size)).2.2 with | true => rule "set.scan.the-table-gave-way" | false => pure ())
            storeSet S (relayAll t2 es1 (SetTable.grown es1.size)).1 (relayAll t2 es1 (SetTable.grown es1.size)).2.1
            pure (some true)
          else pure (some true)) (fun r s' => wpAny (model prog w) A (match r with | some added => pure added | none => setAddHashedIn S (.int n tk) ((intKind prog w).hash n) 99999) Q E s') E s := fun t2 f2 i2 => by
      have o1 := put_at ho so.dat es1 t2
      have b1 := Heap.SameBut.update s.heap S (Obj.putSet es1 t2)
      refine wpAny_bind (wpAny_storeSet_of ho so.dat ?_ (fits_of_scanBound k4))
      split
      · have r1 := relayAll_perm t2 es1 (SetTable.grown es1.size)
        have r2 := relayAll_fits t2 es1 (SetTable.grown es1.size)
        have r3 := i2.relayAll es1 (SetTable.grown es1.size)
        generalize PySem.relayAll t2 es1 (SetTable.grown es1.size) = M at r1 r2 r3 ⊢
        obtain ⟨es2, t3, g2⟩ := M
        dsimp only at r1 r2 r3 ⊢
        have z2 : es2.size = es1.size := by have := r1.length_eq; simpa using this
        refine wpAny_bind (?_ : wpAny _ _ _ _ _ _)
        have go : wpAny (model prog w) A (storeSet S es2 t3 >>= fun _ => pure (some true)) (fun r s' => wpAny (model prog w) A (match r with | some added => pure added | none => setAddHashedIn S (.int n tk) ((intKind prog w).hash n) 99999) Q E s') E { s with heap := s.heap.update S (Obj.putSet es1 t2) } := by
          refine wpAny_bind (wpAny_storeSet_of o1 rfl ?_ (fits_of_scanBound (by omega)))
          refine wpAny_pure (wpAny_pure ?_)
          exact hQ true _ _ (b1.trans (Heap.SameBut.update _ S _)) (put_at o1 rfl es2 t3) ⟨es2, _, t3, so.ex, rfl, k1.perm r1, r2, r3, (r1.map _).trans k2, by omega⟩
        cases g2
        · exact wpAny_pure go
        · exact wpAny_rule go
      · refine wpAny_pure (wpAny_pure ?_)
        exact hQ true _ _ b1 o1 ⟨es1, _, t2, so.ex, rfl, k1, f2, i2, k2, k4⟩
    have more : ∀ Q' : Unit → Shared → Prop, Q' () s → wpAny (model prog w) A (match gv with | true => rule "set.scan.the-table-gave-way" | false => pure ()) Q' E s := fun Q' q => by
      cases gv
      · exact wpAny_pure q
      · exact wpAny_rule q
    refine wpAny_bind (more _ ?_)
    split
    · refine wpAny_bind ?_
      rw [hashByValue_scannable 8 (x := .int n tk) rfl]
      refine wpAny_pure ?_
      exact fin t1 l3 l1
    · refine wpAny_bind (wpAny_pure ?_)
      exact fin t1 l3 l1
theorem len_dedup (val : Nat → Int) (i : Nat) : (firstMet val i).length ≤ i := firstMet_length_le val i
section
variable {R : Result → Shared → Prop} {I : Addr} {fp wr : List Addr} {G : Array GenState → Array GenState → Prop} {n : Nat} {P : Nat → Value → Prop} {St : Nat → Shared → Prop}
theorem set_loop (W : WalksS prog w A.in1 I fp wr G n P St) (S : Addr) (off : S ∉ fp) (val : Nat → Int) (hv : ∀ i v, P i v → ∃ t, v = .int (val i) t) (hb : n + 1 < scanBound) :
    ∀ (k i : Nat) (s : Shared) (o : Obj), n - i = k → i ≤ n → St i s → s.heap.get? S = some o → IsSet prog w o (firstMet val i) →
      (∀ s' o', Moved (S :: wr) G s s' → s'.heap.get? S = some o' → IsSet prog w o' (firstMet val n) → R (.ok (.ret .none)) s') →
      codeAny (model prog w) A (.builtin "set.update.loop" ⟨[.ref S, .ref I], []⟩) R s := by
  have offw : S ∉ wr := fun q => off (W.sub _ q)
  have sub : ∀ b ∈ wr, b ∈ S :: wr := fun b q => List.mem_cons_of_mem _ q
  intro k
  induction k with
  | zero =>
    intro i s o hk hi st ho hs fin
    have e : i = n := by omega
    subst e
    refine codeAny_builtin PyProof.Rows.F.entry_set_update_loop ?_
    rw [Around.under_plainId PyProof.Rows.F.plain_set_update_loop _]
    show wpAny _ A.in1 (pyNext (.ref I) >>= _) _ _ s
    refine wpAny_bind (W.done s _ _ st fun s' m => ?_)
    show wpAny _ A.in1 (ret Value.none) _ _ s'
    exact wpAny_pure (fin s' o (m.mono sub) (m.heap S o offw ho) hs)
  | succ k ih =>
    intro i s o hk hi st ho hs fin
    have lt : i < n := by omega
    refine codeAny_builtin PyProof.Rows.F.entry_set_update_loop ?_
    rw [Around.under_plainId PyProof.Rows.F.plain_set_update_loop _]
    show wpAny _ A.in1 (pyNext (.ref I) >>= _) _ _ s
    refine wpAny_bind (W.item i s _ _ lt st fun v s' hP st' m => ?_)
    obtain ⟨t, rfl⟩ := hv i v hP
    have ho' := m.heap S o offw ho
    show wpAny _ A.in1 (holding [Value.int (val i) t] (setAdd S (.int (val i) t)) >>= _) _ _ s'
    refine wpAny_bind (wpAny_holding ?_)
    unfold setAdd
    refine wpAny_holding (wpAny_bind ((intKind prog w).pyHash (k := val i) (intKind_is _ _ _ _) ?_))
    have room : (firstMet val i).length + 1 < scanBound := by have := len_dedup val i; omega
    refine set_add (s := { s' with toks := s'.toks + 1 }) ho' hs room fun b h' o' sb g is => ?_
    refine wpAny_pure ⟨plainId_quiet PyProof.Rows.F.plain_set_update_loop _, ih (i + 1) _ o' (by omega) lt (W.frame _ s' _ _ st' (Nat.le_succ _) fun c hc u e => ?_) g (by rw [firstMet_succ]; exact is) fun s'' o'' m2 g2 is2 => ?_⟩
    · rw [sb.2 c fun q => off (q ▸ hc)]; exact e
    · refine fin s'' o'' (Moved.trans W.gtrans ((m.mono sub).then_heap (Nat.le_succ _) fun c u hc e => ?_) m2) g2 is2
      rw [sb.2 c fun q => hc (q ▸ List.mem_cons_self)]; exact e
end
end
end SS
set_option Elab.async false
set_option linter.all false
set_option maxRecDepth 100000
/-! a set of ints is walked -/
namespace SS
open PySem PyProof.Rows
theorem own_si : Manifest.owners.lookup (String.ofList ['r', 'o', 't', 'a', 'r', 'e', 't', 'i', '_', 't', 'e', 's'].reverse) = some Manifest.sig_set_iterator := by kernel_rfl
theorem slot_next : Slot "set_iterator" "__next__" "set_iterator.__next__" := .of (owner := "set_iterator") (n := "__next__") (by rw [typeLookup_type, builtinLookup_eq_fast]; kernel_rfl) (by decide +kernel) (by decide +kernel)
  (by decide +kernel) (by first | exact .inl (by decide +kernel) | exact .inr (by decide +kernel)) (by rw [isSubtype_type]; kernel_rfl)
theorem entry_next : entryFor table "set_iterator.__next__" = some Builtin.«set_iterator.__next__» := entryFor_of_tree (by kernel_rfl)
theorem args_next (a : Value) : argsOk "set_iterator.__next__" ⟨[a], []⟩ := by
  unfold argsOk
  rw [signature?_of (id := "set_iterator.__next__") (n := ['_', '_', 't', 'x', 'e', 'n', '_', '_']) (o := ['r', 'o', 't', 'a', 'r', 'e', 't', 'i', '_', 't', 'e', 's']) (by kernel_rfl) own_si]
  kernel_rfl
theorem slot_self : Slot "set_iterator" "__iter__" "set_iterator.__iter__" := .of (owner := "set_iterator") (n := "__iter__") (by rw [typeLookup_type, builtinLookup_eq_fast]; kernel_rfl) (by decide +kernel) (by decide +kernel)
  (by decide +kernel) (by first | exact .inl (by decide +kernel) | exact .inr (by decide +kernel)) (by rw [isSubtype_type]; kernel_rfl)
theorem entry_self : entryFor table "set_iterator.__iter__" = some Builtin.«dict_keyiterator.__iter__» := entryFor_alias (id' := "dict_keyiterator.__iter__") (by kernel_rfl) rfl (by decide +kernel) (by kernel_rfl)
theorem args_self (a : Value) : argsOk "set_iterator.__iter__" ⟨[a], []⟩ := by
  unfold argsOk
  rw [signature?_of (id := "set_iterator.__iter__") (n := ['_', '_', 'r', 'e', 't', 'i', '_', '_']) (o := ['r', 'o', 't', 'a', 'r', 'e', 't', 'i', '_', 't', 'e', 's']) (by kernel_rfl) own_si]
  kernel_rfl
theorem entry_iter : entryFor table "set.__iter__" = some Builtin.«frozenset.__iter__» := entryFor_alias (id' := "frozenset.__iter__") (by kernel_rfl) rfl (by decide +kernel) (by kernel_rfl)
end SS
namespace SS
open PySem PyProof.Rows
def itO (first : Value) (i : Nat) (a : Addr) (n ep : Nat) : Obj := { cls := .type "set_iterator", dict := none, data := .fields #[first, .int i 0, .ref a, .int n 0, .int ep 0], slots := #[] }
section
variable {prog : Program} {w : World} {A : Around} {E : Value → Shared → Prop} {s : Shared} {I a : Addr} {o : Obj} {es : Array (Int × Value)} {ep : Nat} {t : SetTable} {ns : List Int}
/-- one more, where the place is a number -/
theorem next_int {k k' i : Nat} {x : Value} {Q : Option Value → Shared → Prop} (hI : s.heap.get? I = some (itO (.int k 0) i a es.size ep)) (ho : s.heap.get? a = some o) (so : SetOb prog w o es ep t ns)
    (hN : ∀ (A : Around) (E : Value → Shared → Prop) (Q : Option (Value × Nat) → Shared → Prop), Q (some (x, k')) s → wpAny (model prog w) A (setNext a k i ep) Q E s)
    (hQ : ∀ h', h'.get? I = some (itO (.int k' 0) (i + 1) a es.size ep) → Heap.SameBut I s.heap h' → Q (some x) { s with heap := h' }) : wpAny (model prog w) A (pyNext (.ref I)) Q E s := by
  have hT : s.TypeIs (.ref I) "set_iterator" := ⟨_, hI, rfl⟩
  unfold pyNext
  refine wpAny_bind (wpAny_attempt (wpAny_callSpecial?_slot (name := Str.ofString "__next__") hT slot_next (wpAny_call_entry slot_next hT entry_next ?_ (args_next _))))
  unfold Builtin.«set_iterator.__next__»; refine wpAny_bind (wpAny_pure ?_)
  refine wpAny_bind (wpAny_fieldsOf hI rfl ?_)
  show wpAny _ _ (setEntries a >>= _) _ _ s
  refine wpAny_bind (wpAny_setEntries_of ho so.dat so.fits ?_)
  rw [if_neg (by simp)]
  show wpAny _ _ (setNext a (Int.toNat (k : Int)) (Int.toNat (i : Int)) (Int.toNat (ep : Int)) >>= _) _ _ s
  rw [Int.toNat_natCast, Int.toNat_natCast, Int.toNat_natCast]
  refine wpAny_bind (hN _ _ _ ?_)
  show wpAny _ _ (setField (.ref I) 0 (rawInt (k' : Int)) >>= _) _ _ s
  refine wpAny_bind (wpAny_setField_rec hI (by simp) fun h1 g1 b1 => ?_)
  refine wpAny_bind (wpAny_setField_rec g1 (by simp) fun h2 g2 b2 => ?_)
  refine wpAny_pure ⟨_, rfl, wpAny_pure (hQ h2 ?_ (b1.trans b2))⟩
  rw [g2]
  rfl
/-- the end, where the place is a number -/
theorem end_int {k i : Nat} {Q : Option Value → Shared → Prop} (hh : A.handled = none) (hI : s.heap.get? I = some (itO (.int k 0) i a es.size ep)) (ho : s.heap.get? a = some o) (so : SetOb prog w o es ep t ns)
    (hN : ∀ (A : Around) (E : Value → Shared → Prop) (Q : Option (Value × Nat) → Shared → Prop), Q none s → wpAny (model prog w) A (setNext a k i ep) Q E s)
    (hQ : ∀ h', Heap.ExtBut I s.heap h' → Q none { s with heap := h' }) : wpAny (model prog w) A (pyNext (.ref I)) Q E s := by
  have hT : s.TypeIs (.ref I) "set_iterator" := ⟨_, hI, rfl⟩
  unfold pyNext
  refine wpAny_bind (wpAny_attempt (wpAny_callSpecial?_slot (name := Str.ofString "__next__") hT slot_next (wpAny_call_entry slot_next hT entry_next ?_ (args_next _))))
  unfold Builtin.«set_iterator.__next__»; refine wpAny_bind (wpAny_pure ?_)
  refine wpAny_bind (wpAny_fieldsOf hI rfl ?_)
  show wpAny _ _ (setEntries a >>= _) _ _ s
  refine wpAny_bind (wpAny_setEntries_of ho so.dat so.fits ?_)
  rw [if_neg (by simp)]
  show wpAny _ _ (setNext a (Int.toNat (k : Int)) (Int.toNat (i : Int)) (Int.toNat (ep : Int)) >>= _) _ _ s
  rw [Int.toNat_natCast, Int.toNat_natCast, Int.toNat_natCast]
  refine wpAny_bind (hN _ _ _ ?_)
  show wpAny _ _ (setField (.ref I) 2 .none >>= _) _ _ s
  refine wpAny_bind (wpAny_setField_rec hI (by simp) fun h1 g1 b1 => ?_)
  show wpAny _ _ (newExc (.type "StopIteration") [] >>= _) _ _ _; refine wpAny_bind ?_
  simp only [newExc, newTuple]; refine wpAny_bind (wpAny_newObj_type ?_ (by size_fits))
  refine wpAny_bind (m := firstArgMember _ _) (wpAny_of_eq (a := Value.none) (by first | rfl | (simp only [firstArgMember]; rfl)) (wpAny_newObj_type ?_ (by size_fits)))
  simp only [raiseNew]; refine wpAny_bind (wpAny_handled ?_)
  rw [show A.in1.handled = none from hh]
  refine wpAny_bind (wpAny_pure (wpAny_throw ?_))
  refine wpAny_bind (wpAny_isInstance (T := "StopIteration") (b := true) ⟨_, Heap.get?_push_size _ rfl, rfl⟩ isSubtype_stop (wpAny_pure ?_))
  exact hQ _ ((b1.extBut.push _).push _)
theorem self_si {first : Value} {i : Nat} {Q : Value → Shared → Prop} (hI : s.heap.get? I = some (itO first i a es.size ep)) (h : Q (.ref I) s) : wpAny (model prog w) A (pyIter (.ref I)) Q E s := by
  have hT : s.TypeIs (.ref I) "set_iterator" := ⟨_, hI, rfl⟩
  refine wpAny_pyIter_slot hT slot_self (wpAny_call_entry slot_self hT entry_self ?_ (args_self _))
  show wpAny _ _ (ret (.ref I)) _ _ s
  exact wpAny_pure ⟨_, rfl, "set_iterator", _, hT, slot_next.lookup, h⟩
/-- what the next one is, the places being in order -/
theorem nx_place (ho : s.heap.get? a = some o) (so : SetOb prog w o es ep t ns) (hp : (!t.plain && decide (es.size > 1)) = false) (hb : byT w = false) {i k : Nat} (hk : SetTable.below t.place k = i) {Q : Option (Value × Nat) → Shared → Prop}
    (hQ : Q (match es[i]?, t.place[i]? with | some (_, x), some j => some (x, j + 1) | _, _ => none) s) : wpAny (model prog w) A (setNext a k i ep) Q E s := by
  unfold setNext
  refine wpAny_bind (wpAny_setState_of ho so.dat so.fits ?_)
  dsimp only
  unfold setsByText
  refine wpAny_bind (wpAny_bind (wpAny_askSetting (wpAny_pure ?_)))
  have e1 : (model prog w).w.params.followText "set-order" = false := hb
  dsimp only
  rw [e1]
  simp only [Bool.false_eq_true, if_false]
  refine wpAny_ite ?_
  rw [if_neg (fun q => by have q' : (!t.plain && decide (es.size > 1)) = true := q; rw [hp] at q'; cases q')]
  refine wpAny_bind ?_
  show wpAny _ _ (if (!t.led && !es.isEmpty) = true then unsupported _ else pure ()) _ _ _
  rw [so.ti.ld, hb]
  refine wpAny_pure ?_
  rw [hk]
  exact wpAny_pure hQ
/-- what the next one is, by the text's order -/
theorem nx_text (ho : s.heap.get? a = some o) (so : SetOb prog w o es ep t ns) (hb : byT w = true) {i k : Nat} {Q : Option (Value × Nat) → Shared → Prop}
    (hQ : Q (((pickOrder (w.params.setOrder a ep) es)[i]?).map fun e => (e.2, k)) s) : wpAny (model prog w) A (setNext a k i ep) Q E s := by
  have e1 : (model prog w).w.params.followText "set-order" = true := hb
  unfold setNext setWalk
  refine wpAny_bind (wpAny_setState_of ho so.dat so.fits ?_)
  dsimp only
  unfold setsByText
  refine wpAny_bind (wpAny_bind (wpAny_askSetting (wpAny_pure ?_)))
  dsimp only
  rw [e1]
  simp only [if_true]
  rw [if_neg (by simp)]
  refine wpAny_bind (wpAny_bind (wpAny_setState_of ho so.dat so.fits ?_))
  dsimp only
  refine wpAny_bind (wpAny_bind (wpAny_askSetting (wpAny_pure ?_)))
  dsimp only
  rw [e1]
  simp only [if_true]
  refine wpAny_bind (wpAny_askSetting (wpAny_pure ?_))
  exact wpAny_pure hQ
theorem wp_draw {α : Type} : ∀ (n : Nat) (xs : List α) {s : Shared} {Q : List α → Shared → Prop}, xs.length = n → (∀ ys d, ys.Perm xs → Q ys { s with drawn := d }) → wpAny (model prog w) A (drawOrder n xs) Q E s
  | 0, xs, s, Q, hl, h => by
    have : xs = [] := List.eq_nil_of_length_eq_zero hl
    subst this
    exact wpAny_pure (h [] s.drawn .nil)
  | n + 1, [], s, Q, hl, h => by simp at hl
  | n + 1, x :: xs, s, Q, hl, h => by
    unfold drawOrder
    refine wpAny_bind (fun Γ p hΓ => ?_)
    show Sem.wp _ _ (.choose .order (x :: xs).length .pure) _ _ p s
    rw [Sem.wp_choose]
    refine ⟨by simp, ?_⟩
    generalize hi : (model prog w).w.draws .order (s.drawn.get .order) % (x :: xs).length = i
    have hlt : i < (x :: xs).length := by rw [← hi]; exact Nat.mod_lt _ (by simp)
    show wpAny _ _ _ _ _ _
    rw [List.getElem?_eq_getElem hlt]
    dsimp only
    refine wpAny_bind (wp_draw n ((x :: xs).eraseIdx i) (by rw [List.length_eraseIdx_of_lt hlt]; omega) fun ys d hp => ?_)
    exact wpAny_pure (h _ d ((hp.cons _).trans (erase_perm _ i _ (List.getElem?_eq_getElem hlt))))
/-- one more, where the places are drawn -/
theorem next_tup {T : Addr} {ps : List Nat} {i p : Nat} {x : Int × Value} {Q : Option Value → Shared → Prop} (hI : s.heap.get? I = some (itO (.ref T) i a es.size ep)) (ho : s.heap.get? a = some o) (so : SetOb prog w o es ep t ns)
    (hT0 : s.heap.get? T = some { cls := .type "tuple", dict := none, data := .seq (ps.map fun (i : Nat) => Value.int i 0).toArray, slots := #[] }) (hp : ps[i]? = some p) (hx : es[p]? = some x)
    (hQ : ∀ h', h'.get? I = some (itO (.ref T) (i + 1) a es.size ep) → Heap.SameBut I s.heap h' → Q (some x.2) { s with heap := h' }) : wpAny (model prog w) A (pyNext (.ref I)) Q E s := by
  have hT : s.TypeIs (.ref I) "set_iterator" := ⟨_, hI, rfl⟩
  unfold pyNext
  refine wpAny_bind (wpAny_attempt (wpAny_callSpecial?_slot (name := Str.ofString "__next__") hT slot_next (wpAny_call_entry slot_next hT entry_next ?_ (args_next _))))
  unfold Builtin.«set_iterator.__next__»; refine wpAny_bind (wpAny_pure ?_)
  refine wpAny_bind (wpAny_fieldsOf hI rfl ?_)
  show wpAny _ _ (setEntries a >>= _) _ _ s
  refine wpAny_bind (wpAny_setEntries_of ho so.dat so.fits ?_)
  rw [if_neg (by simp)]
  show wpAny _ _ (seqItems? (.ref T) >>= _) _ _ s
  refine wpAny_bind (wpAny_seqItems hT0 rfl ?_)
  have e2 : (List.map (fun (i : Nat) => Value.int i 0) ps).toArray[(Int.ofNat i).toNat]? = some (.int p 0) := by simp [hp]
  show wpAny _ _ (match (List.map (fun (i : Nat) => Value.int i 0) ps).toArray[(Int.ofNat i).toNat]? with | some (Value.int place tok) => _ | some val => _ | none => _) _ _ s
  rw [e2]
  show wpAny _ _ (setNextDrawn a (Int.toNat (p : Int)) (Int.toNat (ep : Int)) >>= _) _ _ s
  rw [Int.toNat_natCast, Int.toNat_natCast]
  refine wpAny_bind ?_
  unfold setNextDrawn
  refine wpAny_bind (wpAny_setState_of ho so.dat so.fits ?_)
  dsimp only
  rw [if_neg (by simp), hx]
  refine wpAny_pure ?_
  show wpAny _ _ (setField (.ref I) 1 (rawInt ((i : Int) + 1)) >>= _) _ _ s
  refine wpAny_bind (wpAny_setField_rec hI (by simp) fun h1 g1 b1 => ?_)
  refine wpAny_pure ⟨_, rfl, wpAny_pure (hQ h1 ?_ b1)⟩
  rw [g1]
  rfl
theorem end_tup {T : Addr} {ps : List Nat} {i : Nat} {Q : Option Value → Shared → Prop} (hh : A.handled = none) (hI : s.heap.get? I = some (itO (.ref T) i a es.size ep)) (ho : s.heap.get? a = some o) (so : SetOb prog w o es ep t ns)
    (hT0 : s.heap.get? T = some { cls := .type "tuple", dict := none, data := .seq (ps.map fun (i : Nat) => Value.int i 0).toArray, slots := #[] }) (hp : ps[i]? = none)
    (hQ : ∀ h', Heap.ExtBut I s.heap h' → Q none { s with heap := h' }) : wpAny (model prog w) A (pyNext (.ref I)) Q E s := by
  have hT : s.TypeIs (.ref I) "set_iterator" := ⟨_, hI, rfl⟩
  unfold pyNext
  refine wpAny_bind (wpAny_attempt (wpAny_callSpecial?_slot (name := Str.ofString "__next__") hT slot_next (wpAny_call_entry slot_next hT entry_next ?_ (args_next _))))
  unfold Builtin.«set_iterator.__next__»; refine wpAny_bind (wpAny_pure ?_)
  refine wpAny_bind (wpAny_fieldsOf hI rfl ?_)
  show wpAny _ _ (setEntries a >>= _) _ _ s
  refine wpAny_bind (wpAny_setEntries_of ho so.dat so.fits ?_)
  rw [if_neg (by simp)]
  show wpAny _ _ (seqItems? (.ref T) >>= _) _ _ s
  refine wpAny_bind (wpAny_seqItems hT0 rfl ?_)
  have e2 : (List.map (fun (i : Nat) => Value.int i 0) ps).toArray[(Int.ofNat i).toNat]? = none := by simpa using hp
  show wpAny _ _ (match (List.map (fun (i : Nat) => Value.int i 0) ps).toArray[(Int.ofNat i).toNat]? with | some (Value.int place tok) => _ | some val => _ | none => _) _ _ s
  rw [e2]
  show wpAny _ _ (setField (.ref I) 0 (rawInt 0) >>= _) _ _ s
  refine wpAny_bind (wpAny_setField_rec hI (by simp) fun h0 g0 b0 => ?_)
  show wpAny _ _ (setField (.ref I) 2 .none >>= _) _ _ _
  refine wpAny_bind (wpAny_setField_rec g0 (by simp) fun h1 g1 b1 => ?_)
  show wpAny _ _ (newExc (.type "StopIteration") [] >>= _) _ _ _; refine wpAny_bind ?_
  simp only [newExc, newTuple]; refine wpAny_bind (wpAny_newObj_type ?_ (by size_fits))
  refine wpAny_bind (m := firstArgMember _ _) (wpAny_of_eq (a := Value.none) (by first | rfl | (simp only [firstArgMember]; rfl)) (wpAny_newObj_type ?_ (by size_fits)))
  simp only [raiseNew]; refine wpAny_bind (wpAny_handled ?_)
  rw [show A.in1.handled = none from hh]
  refine wpAny_bind (wpAny_pure (wpAny_throw ?_))
  refine wpAny_bind (wpAny_isInstance (T := "StopIteration") (b := true) ⟨_, Heap.get?_push_size _ rfl, rfl⟩ isSubtype_stop (wpAny_pure ?_))
  exact hQ _ (((b0.trans b1).extBut.push _).push _)
/-! the three ways to walk it -/
def sl (t : SetTable) : Nat → Nat
  | 0 => 0
  | i + 1 => t.place.getD i 0 + 1
theorem sl_below (so : SetOb prog w o es ep t ns) {i : Nat} (hi : i ≤ es.size) : SetTable.below t.place (sl t i) = i := by
  have hz : t.place.size = es.size := by
    have := so.fits
    simp only [SetTable.fits, Bool.and_eq_true, beq_iff_eq] at this
    exact this.1
  have ris := so.ti.ris
  cases i with
  | zero => exact below_eq ris (Nat.zero_le _) (fun k _ h => absurd h (Nat.not_lt_zero _)) fun k _ _ => Nat.zero_le _
  | succ i =>
    have hi' : i < t.place.size := by omega
    have e : sl t (i + 1) = t.place[i] + 1 := by simp [sl, Array.getD, hi']
    rw [e]
    refine below_eq ris (by omega) (fun k hk h => ?_) fun k hk h => ?_
    · by_cases z : k = i
      · subst z; omega
      · have := ris.lt hi' (show k < i by omega)
        omega
    · have := ris.lt hk (show i < k by omega)
      omega
theorem walk_int {f : Nat → Nat} {ws : List Value} (hh : A.handled = none) (hne : a ≠ I) (so : SetOb prog w o es ep t ns) (hl : ws.length = es.size)
    (hN : ∀ (s : Shared) (i : Nat), s.heap.get? a = some o → i ≤ es.size → ∀ (A : Around) (E : Value → Shared → Prop) (Q : Option (Value × Nat) → Shared → Prop), Q ((ws[i]?).map fun x => (x, f (i + 1))) s → wpAny (model prog w) A (setNext a (f i) i ep) Q E s) :
    Walks prog w A I [I, a] [I] es.size (fun i v => ws[i]? = some v) fun i h => h.get? I = some (itO (.int (f i) 0) i a es.size ep) ∧ h.get? a = some o where
  sub := fun b hb => by simp at hb; simp [hb]
  frame := fun i h h' st hk => ⟨hk I (by simp) _ st.1, hk a (by simp) _ st.2⟩
  item := fun i s Q E hi st hQ => by
    have hx : ws[i]? = some ws[i] := List.getElem?_eq_getElem (by omega)
    refine next_int st.1 st.2 so (x := ws[i]) (k' := f (i + 1)) (fun A E Q q => hN s i st.2 (by omega) A E Q (by rw [hx]; exact q)) fun h' g b => ?_
    refine hQ _ h' s.toks hx ⟨g, ?_⟩ fun c u hc e => ?_
    · rw [b.2 a hne]; exact st.2
    · rw [b.2 c (fun z => hc (by simp [z]))]; exact e
  done := fun s Q E st hQ => by
    have hx : ws[es.size]? = none := List.getElem?_eq_none (by omega)
    exact end_int hh st.1 st.2 so (fun A E Q q => hN s es.size st.2 (Nat.le_refl _) A E Q (by rw [hx]; exact q)) fun h' b => hQ h' s.toks fun c u hc e => b c u (fun z => hc (by simp [z])) e
  self := fun i s Q E st hQ => self_si st.1 hQ
theorem walk_tup {T : Addr} {ps : List Nat} (hh : A.handled = none) (hne : a ≠ I) (hnT : T ≠ I) (so : SetOb prog w o es ep t ns) (hl : ps.length = es.size) (hp : ∀ p ∈ ps, p < es.size) :
    Walks prog w A I [I, a, T] [I] es.size (fun i v => (ps.map fun p => (es.getD p (0, .none)).2)[i]? = some v) fun i h => h.get? I = some (itO (.ref T) i a es.size ep) ∧ h.get? a = some o ∧ h.get? T = some { cls := .type "tuple", dict := none, data := .seq (ps.map fun (i : Nat) => Value.int i 0).toArray, slots := #[] } where
  sub := fun b hb => by simp at hb; simp [hb]
  frame := fun i h h' st hk => ⟨hk I (by simp) _ st.1, hk a (by simp) _ st.2.1, hk T (by simp) _ st.2.2⟩
  item := fun i s Q E hi st hQ => by
    have hx : ps[i]? = some ps[i] := List.getElem?_eq_getElem (by omega)
    have hlt := hp ps[i] (List.getElem_mem _)
    have hy : es[ps[i]]? = some es[ps[i]] := Array.getElem?_eq_getElem hlt
    refine next_tup st.1 st.2.1 so st.2.2 hx hy fun h' g b => ?_
    refine hQ _ h' s.toks (by rw [List.getElem?_map, hx]; simp [Array.getD, hlt]) ⟨g, ?_, ?_⟩ fun c u hc e => ?_
    · rw [b.2 a hne]; exact st.2.1
    · rw [b.2 T hnT]; exact st.2.2
    · rw [b.2 c (fun z => hc (by simp [z]))]; exact e
  done := fun s Q E st hQ => end_tup hh st.1 st.2.1 so st.2.2 (List.getElem?_eq_none (by omega)) fun h' b => hQ h' s.toks fun c u hc e => b c u (fun z => hc (by simp [z])) e
  self := fun i s Q E st hQ => self_si st.1 hQ
theorem iter_set {Q : Value → Shared → Prop} (ho : s.heap.get? a = some o) (so : SetOb prog w o es ep t ns) (hh : A.handled = none)
    (h : ∀ (I : Addr) (fp : List Addr) (h1 : Heap) (d : Drawn) (ws : List Value) (St : Nat → Heap → Prop), ws.Perm (es.toList.map (·.2)) → Walks prog w A I fp [I] es.size (fun i v => ws[i]? = some v) St → St 0 h1 →
      (∀ b ∈ fp, b = a ∨ s.heap.objs.size ≤ b) → s.heap.objs.size ≤ I → (∀ b u, s.heap.get? b = some u → h1.get? b = some u) → Q (.ref I) { s with heap := h1, drawn := d }) : wpAny (model prog w) A (pyIter (.ref a)) Q E s := by
  have hT : s.TypeIs (.ref a) "set" := ⟨o, ho, so.ex.1⟩
  have la : a < s.heap.objs.size := Heap.lt_size ho
  refine wpAny_pyIter_slot hT F.slot_set_iter (wpAny_call_entry F.slot_set_iter hT entry_iter ?_ (F.args_set_iter_1 _))
  unfold Builtin.«frozenset.__iter__» Builtin.Frozenset.slot0 slotArgs
  simp only [List.isEmpty_nil, Bool.not_true, Bool.false_eq_true, ↓reduceIte, bind_assoc, List.length_nil, bne_self_eq_false]
  unfold Builtin.Frozenset.addrOf Builtin.Frozenset.sizeOf setDrawn setsByText
  refine wpAny_bind (wpAny_pure ?_); try dsimp only
  refine wpAny_bind (wpAny_pure ?_)
  refine wpAny_bind (wpAny_bind (wpAny_setEntries_of ho so.dat so.fits (wpAny_pure ?_)))
  refine wpAny_bind (wpAny_bind (wpAny_setState_of ho so.dat so.fits (wpAny_bind (wpAny_bind (wpAny_askSetting (wpAny_pure (wpAny_pure ?_)))))))
  show wpAny _ _ (if (!byT w && (!t.plain && decide (es.size > 1))) = true then _ else _) _ _ s
  have hz := fits_of_scanBound so.bnd
  by_cases c : (!byT w && (!t.plain && decide (es.size > 1))) = true
  · rw [if_pos c]
    refine wpAny_bind (wp_draw es.size (List.range es.size) (by simp) fun ps d hp => ?_)
    have hl : ps.length = es.size := by rw [hp.length_eq]; simp
    refine wpAny_bind (wpAny_newTuple ?_ (by rw [List.length_map, hl]; exact hz))
    have g1 := Heap.get?_push_size s.heap (o := { cls := .type "tuple", data := .seq (ps.map fun (i : Nat) => rawInt i).toArray }) rfl
    have k1 : ∀ b u, s.heap.get? b = some u → (s.heap.push { cls := .type "tuple", data := .seq (ps.map fun (i : Nat) => rawInt i).toArray }).get? b = some u := fun b u e => Heap.get?_push_of_some _ e
    refine wpAny_bind (wpAny_setEpoch_of (k1 a o ho) so.dat so.fits ?_)
    refine wpAny_bind (wpAny_newObj_type (wpAny_pure ⟨_, rfl, "set_iterator", _, ⟨_, Heap.get?_push_size _ rfl, rfl⟩, slot_next.lookup, ?_⟩))
    refine h _ [_, a, s.heap.objs.size] _ d (ps.map fun p => (es.getD p (0, .none)).2) _ ?_ (walk_tup (T := s.heap.objs.size) hh ?_ ?_ so hl fun p q => by have := hp.mem_iff.mp q; simpa using this) ⟨Heap.get?_push_size _ rfl, Heap.get?_push_of_some _ (k1 a o ho), Heap.get?_push_of_some _ g1⟩ (fun b q => ?_) ?_ fun b u e => Heap.get?_push_of_some _ (k1 b u e)
    · refine (hp.map _).trans ?_
      rw [show (List.range es.size).map (fun p => (es.getD p (0, .none)).2) = es.toList.map (·.2) from ?_]
      refine List.ext_getElem (by simp) fun i h1 h2 => ?_
      have hi : i < es.size := by simpa using h2
      simp [Array.getD, hi]
    · rw [Heap.size_push]; exact Nat.ne_of_lt (Nat.lt_succ_of_lt la)
    · rw [Heap.size_push]; exact Nat.ne_of_lt (Nat.lt_succ_self _)
    · simp only [List.mem_cons, List.not_mem_nil, or_false] at q
      rcases q with rfl | rfl | rfl
      · right; rw [Heap.size_push]; exact Nat.le_succ _
      · left; rfl
      · right; exact Nat.le_refl _
    · rw [Heap.size_push]; exact Nat.le_succ _
  · rw [if_neg c]
    refine wpAny_bind (wpAny_pure ?_)
    refine wpAny_bind (wpAny_setEpoch_of ho so.dat so.fits ?_)
    refine wpAny_bind (wpAny_newObj_type (wpAny_pure ⟨_, rfl, "set_iterator", _, ⟨_, Heap.get?_push_size _ rfl, rfl⟩, slot_next.lookup, ?_⟩))
    have fin : ∀ (f : Nat → Nat) (ws : List Value), f 0 = 0 → ws.Perm (es.toList.map (·.2)) →
        (∀ (s : Shared) (i : Nat), s.heap.get? a = some o → i ≤ es.size → ∀ (A : Around) (E : Value → Shared → Prop) (Q : Option (Value × Nat) → Shared → Prop), Q ((ws[i]?).map fun x => (x, f (i + 1))) s → wpAny (model prog w) A (setNext a (f i) i ep) Q E s) →
        Q (.ref s.heap.objs.size) { s with heap := s.heap.push { cls := .type "set_iterator", data := .fields [rawInt 0, rawInt 0, Value.ref a, rawInt es.size, rawInt ep].toArray } } := fun f ws f0 hw hN => by
      have hl : ws.length = es.size := by rw [hw.length_eq]; simp
      refine h _ [_, a] _ s.drawn ws _ hw (walk_int hh (Nat.ne_of_lt la) so hl hN) ⟨?_, Heap.get?_push_of_some _ ho⟩ (fun b q => ?_) (Nat.le_refl _) fun b u e => Heap.get?_push_of_some _ e
      · rw [f0]; exact Heap.get?_push_size _ rfl
      · simp only [List.mem_cons, List.not_mem_nil, or_false] at q
        rcases q with rfl | rfl
        · right; exact Nat.le_refl _
        · left; rfl
    cases hb : byT w with
    | true =>
      refine fin (fun _ => 0) ((pickOrder (w.params.setOrder a ep) es).toList.map (·.2)) rfl ((pick_perm _ _).map _) fun s i hs hi A E Q q => nx_text hs so hb ?_
      rw [List.getElem?_map, Array.getElem?_toList] at q
      cases e : (pickOrder (w.params.setOrder a ep) es)[i]? with
      | none => rw [e] at q; exact q
      | some x => rw [e] at q; exact q
    | false =>
      rw [hb] at c
      have hp : (!t.plain && decide (es.size > 1)) = false := by simpa using c
      refine fin (sl t) (es.toList.map (·.2)) rfl (.refl _) fun s i hs hi A E Q q => nx_place hs so hp hb (sl_below so hi) ?_
      have hz2 : t.place.size = es.size := by
        have := so.fits
        simp only [SetTable.fits, Bool.and_eq_true, beq_iff_eq] at this
        exact this.1
      rw [List.getElem?_map, Array.getElem?_toList] at q
      by_cases lt : i < es.size
      · rw [Array.getElem?_eq_getElem lt] at q ⊢
        rw [Array.getElem?_eq_getElem (show i < t.place.size by omega)]
        have e : sl t (i + 1) = t.place[i] + 1 := by simp [sl, Array.getD, show i < t.place.size by omega]
        rw [e] at q
        exact q
      · rw [Array.getElem?_eq_none (by omega)] at q ⊢
        exact q
end
end SS
set_option Elab.async false
set_option linter.all false
set_option maxRecDepth 100000
/-! a set of ints is gathered -/
namespace SS
open PySem PyProof.Rows
section
variable {prog : Program} {w : World} {A : Around} {E : Value → Shared → Prop} {s : Shared} {I a : Addr} {o : Obj} {es : Array (Int × Value)} {ep : Nat} {t : SetTable} {ns : List Int}
theorem hint_set {r : Addr} {Q : Bool → Shared → Prop} (hT : s.TypeIs (.ref r) "set") (h : Q false s) : wpAny (model prog w) A (Builtin.List.listLengthHint (.ref r)) Q E s := by
  unfold Builtin.List.listLengthHint; refine wpAny_bind (wpAny_specialOf hT F.slot_set_len.lookup ?_)
  generalize hid : ("set.__len__" : String) = i0; wp_delta
  rw [show splitId i0 = some ("set", "__len__") from by subst hid; decide +kernel]; subst hid
  refine wpAny_bind (wpAny_isInstance (T := "set") (b := true) hT (by rw [isSubtype_type]; kernel_rfl) ?_)
  refine wpAny_ite_split (fun q => absurd q (by decide)) (fun _ => wpAny_ite_split (fun _ => ?_) (fun q => absurd (by decide +kernel) q))
  exact wpAny_bind (wpAny_typeOf hT (wpAny_pure h))
theorem items_eq {ws : List Value} {acc : Array Value} {n : Nat} (hl : ws.length = n) (h : ItemsOf (fun i v => ws[i]? = some v) acc n) : acc.toList = ws := by
  refine List.ext_getElem? fun i => ?_
  rw [Array.getElem?_toList]
  by_cases z : i < n
  · have lt : i < acc.size := by rw [h.1]; exact z
    rw [Array.getElem?_eq_getElem lt]
    exact (h.2 i acc[i] (Array.getElem?_eq_getElem lt)).symm
  · rw [Array.getElem?_eq_none (by rw [h.1]; omega), List.getElem?_eq_none (by omega)]
theorem collect_set {Q : List Value → Shared → Prop} (ho : s.heap.get? a = some o) (so : SetOb prog w o es ep t ns) (hh : A.handled = none)
    (hQ : ∀ ws h1 tk d, ws.Perm (es.toList.map (·.2)) → s.heap.objs.size < h1.objs.size → (∀ b u, s.heap.get? b = some u → h1.get? b = some u) → Q ws { s with heap := h1, toks := tk, drawn := d }) : wpAny (model prog w) A (collect (.ref a)) Q E s := by
  have la : a < s.heap.objs.size := Heap.lt_size ho
  unfold collect
  refine wpAny_bind (wpAny_runValue (codeAny_builtin F.entry_proto_collect ?_)); rw [Around.under_plainId F.plain_proto_collect _]
  show wpAny _ A.in1 (newList [] >>= fun l => again (.builtin "list.__iadd__" ⟨[l, .ref a], []⟩)) _ _ s
  refine wpAny_bind (wpAny_newObj_type ?_)
  refine wpAny_pure ⟨plainId_quiet F.plain_list_iadd _, codeAny_builtin F.entry_list_iadd ?_⟩
  rw [Around.under_plainId F.plain_list_iadd _]
  show wpAny _ A.in1 (Builtin.List.listExtendWith (.ref s.heap.objs.size) (.ref a) (.ref s.heap.objs.size)) _ _ _
  have g0 : (s.heap.push { cls := .type "list", data := .seq ([] : List Value).toArray }).get? s.heap.objs.size = some { cls := .type "list", data := .seq #[] } := Heap.get?_push_size _ rfl
  have k0 : ∀ b u, s.heap.get? b = some u → (s.heap.push { cls := .type "list", data := .seq ([] : List Value).toArray }).get? b = some u := fun b u e => Heap.get?_push_of_some _ e
  have z0 : (s.heap.push { cls := .type "list", data := .seq ([] : List Value).toArray }).objs.size = s.heap.objs.size + 1 := Heap.size_push _ _
  generalize s.heap.push { cls := .type "list", data := .seq ([] : List Value).toArray } = hp at g0 k0 z0
  unfold Builtin.List.listExtendWith
  refine wpAny_bind (wpAny_typeOf (T := "set") ⟨o, k0 a o ho, so.ex.1⟩ ?_)
  have e1 : Builtin.List.listSameRef (.ref s.heap.objs.size) (.ref a) = false := by simp [Builtin.List.listSameRef, Nat.ne_of_gt la]
  have e2 : (Value.type "set" == Value.type "list") = false := by decide
  have e3 : (Value.type "set" == Value.type "tuple") = false := by decide
  simp only [e1, e2, e3, Bool.or_false, Bool.false_eq_true, if_false]
  refine wpAny_bind (iter_set (s := { s with heap := hp }) (k0 a o ho) so hh fun I fp h1 d ws St hw W st hf hI k1 => ?_)
  have hl : ws.length = es.size := by rw [hw.length_eq]; simp
  refine wpAny_bind (wpAny_holding (hint_set ⟨o, k1 a o (k0 a o ho), so.ex.1⟩ ?_))
  have off : s.heap.objs.size ∉ fp := fun q => by
    rcases hf _ q with z | z
    · exact Nat.ne_of_gt la z
    · exact absurd (Nat.le_trans (Nat.le_of_eq z0.symm) z) (Nat.not_succ_le_self _)
  have g1 := k1 _ _ g0
  have key : ∀ (h : Heap) (c tk : Nat), St 0 h → (∀ b u, b ≠ s.heap.objs.size → h1.get? b = some u → h.get? b = some u) → h.get? s.heap.objs.size = some { cls := .type "list", data := .seq #[] c } →
      codeAny (model prog w) A (.builtin "list.extend.loop" ⟨[.ref s.heap.objs.size, .ref I, .ref s.heap.objs.size], []⟩) (fun r s' => match r with | Except.ok (Flow.ret v) => wpAny (model prog w) A (match v with | Value.ref a => (do match (← load a).data with | .seq xs _ => pure xs.toList | _ => unsupported "internal:collect") | _ => unsupported "internal:collect") Q E s' | Except.ok a => False | Except.error e => E e s') { s with heap := h, toks := tk, drawn := d } := fun h c tk st0 kp gS => by
    refine codeAny_extend_loopS W.toS (fits_of_scanBound so.bnd) _ off _ es.size 0 _ #[] c rfl (Nat.zero_le _) st0 gS (ItemsOf.nil _) fun s' acc c' hm hS hacc => ?_
    obtain ⟨hp', g', d', tk', os'⟩ := s'
    have q1 : g' = s.gens := hm.gens
    have q2 : d' = d := hm.drawn
    have q3 : os' = s.os := hm.os
    subst q1 q2 q3
    show wpAny _ A (load s.heap.objs.size >>= _) _ _ _
    refine wpAny_bind (wpAny_load hS ?_)
    show wpAny _ A (pure acc.toList) _ _ _
    rw [items_eq hl hacc]
    refine wpAny_pure (hQ ws _ _ _ hw (Heap.lt_size hS) fun b u e => ?_)
    have lb := Heap.lt_size e
    refine hm.heap b u (fun q => ?_) (kp b u (Nat.ne_of_lt lb) (k1 b u (k0 b u e)))
    rcases List.mem_cons.mp q with z | z
    · exact Nat.ne_of_lt lb z
    · rw [List.mem_singleton.mp z] at lb
      exact absurd (Nat.lt_of_lt_of_le lb (Nat.le_trans (Nat.le_succ _) (Nat.le_trans (Nat.le_of_eq z0.symm) hI))) (Nat.lt_irrefl _)
  refine wpAny_ite_split (fun _ => ?_) (fun _ => wpAny_pure ⟨plainId_quiet F.plain_extend_loop _, key _ _ _ st (fun b u _ e => e) g1⟩)
  refine wpAny_bind (wpAny_rule (wpAny_bind ?_))
  show wpAny _ _ (updateSeq s.heap.objs.size (·.push .none) >>= fun _ => updateSeq s.heap.objs.size (·.pop)) _ _ _
  refine wpAny_bind (wpAny_updateSeq g1 rfl ?_)
  have g2 := Heap.get?_update_self (Obj.mapSeq (·.push Value.none)) g1 rfl
  refine wpAny_updateSeq (hz := by seq_fits) g2 rfl ?_
  have g3 := Heap.get?_update_self (Obj.mapSeq (·.pop)) g2 rfl
  have oth : ∀ b u, b ≠ s.heap.objs.size → h1.get? b = some u → ((h1.update s.heap.objs.size (Obj.mapSeq (·.push Value.none))).update s.heap.objs.size (Obj.mapSeq (·.pop))).get? b = some u := fun b u hb e => (Heap.get?_update_other _ _ (Ne.symm hb)).trans ((Heap.get?_update_other _ _ (Ne.symm hb)).trans e)
  exact wpAny_pure ⟨plainId_quiet F.plain_extend_loop _, key _ _ _ (W.frame 0 _ _ st fun b hb u e => oth b u (fun z => off (z ▸ hb)) e) oth g3⟩
end
end SS
set_option Elab.async false
set_option linter.all false
set_option maxRecDepth 100000
/-! set(list of ints), sorted(set of ints) -/
namespace SS
open PySem PySem.Spec PyProof.Rows
theorem ints_all : ∀ {vs : List Value}, (∀ v ∈ vs, ∃ n t, v = Value.int n t) → IntsAre vs (vs.map intOf)
  | [], _ => .nil
  | v :: vs, h => by
    obtain ⟨n, t, rfl⟩ := h v List.mem_cons_self
    exact .cons n t (ints_all fun x hx => h x (List.mem_cons_of_mem _ hx))
section
variable {prog : Program} {w : World} {A : Around} {E : Value → Shared → Prop} {s : Shared} {a : Addr} {o : Obj} {ns : List Int}
theorem sorted_set {Q : Value → Shared → Prop} (hh : A.handled = none) (ho : s.heap.get? a = some o) (so : IsSet prog w o ns) (h64 : ns.length < 64)
    (h : ∀ D h' tk d (out : Array Value) (ns' : List Int) c, s.heap.objs.size ≤ D → (∀ b u, s.heap.get? b = some u → h'.get? b = some u) → h'.get? D = some (seqObj "list" out c) → IntsAre out.toList ns' → ns'.Perm ns → ns'.Pairwise (· ≤ ·) →
      Q (.ref D) { s with heap := h', toks := tk, drawn := d }) : wpAny (model prog w) A (call (.builtin "sorted") [.ref a]) Q E s := by
  obtain ⟨es, ep, t, so⟩ := so
  refine Calls.call_function_entry kind_sorted plain_sorted entry_sorted (args_sorted1 _) ?_
  unfold Builtin.«sorted»; refine wpAny_bind (m := checkCount "sorted" 1 1 _) (wpAny_pure ?_)
  refine wpAny_bind (collect_set ho so hh fun ws h1 tk d hw zs k1 => ?_)
  have al : ∀ v ∈ ws, ∃ n t, v = Value.int n t := fun v hv => by
    obtain ⟨e, he, rfl⟩ := List.mem_map.mp (hw.mem_iff.mp hv)
    exact el_int so.el he
  have pm : (ws.map intOf).Perm ns := by
    refine (hw.map intOf).trans ?_
    rw [List.map_map]
    exact so.perm
  have lw : ws.length < 64 := by have := pm.length_eq; rw [List.length_map] at this; omega
  refine wpAny_bind (wpAny_newList ?_ (by rw [sizeLine_eq]; omega))
  have gL : (h1.push (seqObj "list" ws.toArray 0)).get? h1.objs.size = some (seqObj "list" ws.toArray 0) := Heap.get?_push_size _ rfl
  show wpAny _ _ _ _ _ { s with heap := h1.push (seqObj "list" ws.toArray 0), toks := tk, drawn := d }
  refine wpAny_bind (wpAny_holding (wpAny_call_entry slot_list_sort ⟨_, gL, rfl⟩ entry_list_sort (list_sort_tree gL (ints_all al) lw fun out ns' i1 i2 i3 => ⟨_, rfl, ?_⟩) (args_list_sort _)))
  obtain ⟨c, gD⟩ := sortedHeap_at (out := out) gL
  refine wpAny_pure ⟨_, rfl, h _ _ tk d out ns' c (Nat.le_of_lt zs) (fun b u e => ?_) gD i1 (i2.trans pm) i3⟩
  have lb := Heap.lt_size (k1 b u e)
  rw [sortedHeap_old (Nat.ne_of_lt lb) (by rw [size_push']; exact Nat.lt_succ_of_lt lb)]
  exact Heap.get?_push_of_some _ (k1 b u e)
/-- a new set -/
def newO (w : World) : Obj := { cls := .type "set", dict := none, data := .set #[] 0 (.fresh 0 0 (!byT w)) }
theorem newO_is (prog : Program) (w : World) : IsSet prog w (newO w) [] := ⟨#[], 0, _, ⟨rfl, rfl, rfl⟩, rfl, fun e he => by simp at he, rfl, TI.fresh 0 0, .nil, by decide⟩
theorem code_new (v : Value) {Q₁ : Value → Shared → Prop} (h : Q₁ (.ref s.heap.objs.size) { s with heap := s.heap.push (newO w) }) : codeAny (model prog w) A (.call (.builtin "set.__new__") ⟨[.type "set", v], []⟩) (wants Q₁ E) s := by
  refine codeAny_of_tree ?_; show wpAny _ A.in1 (do checkBuiltinCall "set.__new__" ⟨[.type "set", v], []⟩; again (.builtin "set.__new__" ⟨[.type "set", v], []⟩)) _ _ s
  refine wpAny_bind (wpAny_of_eq (F.newCall_set_1 v) (wpAny_pure ⟨plainId_quiet F.plain_set_new _, codeAny_builtin F.entry_set_new ?_⟩)); rw [Around.under_plainId F.plain_set_new _]
  unfold Builtin.«set.__new__» Builtin.Frozenset.newClass; have hsub := sub_set_self
  obtain ⟨hp, g, d, tk, os⟩ := s
  dsimp only; wp_walk
  refine wpAny_askSetting (wpAny_pure ?_); dsimp only; simp only [newObj]
  exact wpAny_bind (wpAny_alloc (wpAny_pure (wpAny_pure h)))
theorem firstMet_is {vs : List Value} {ms : List Int} (hi : IntsAre vs ms) : firstMet (fun i => ms.getD i 0) vs.length = ms.foldl step_dedup [] := by
  unfold firstMet
  rw [IntsAre.length hi]
  congr 1
  refine List.ext_getElem (by simp) fun i h1 h2 => ?_
  have : i < ms.length := by simpa using h2
  simp [this]
set_option maxHeartbeats 3200000 in
theorem call_setL {l : Addr} {vs : List Value} {ms : List Int} {Q : Value → Shared → Prop} (hh : A.handled = none) (hl : s.heap.IsList l vs.toArray) (hi : IntsAre vs ms) (hb : vs.length + 1 < scanBound)
    (h : ∀ h' tk o, h'.get? s.heap.objs.size = some o → IsSet prog w o (ms.foldl step_dedup []) → (∀ b u, s.heap.get? b = some u → h'.get? b = some u) → Q (.ref s.heap.objs.size) { s with heap := h', toks := tk }) :
    wpAny (model prog w) A (call (.type "set") [.ref l]) Q E s := by
  obtain ⟨c, tl, hmro⟩ := F.called_set.mro; have hmade := F.called_set.made; have hsub := F.called_set.sub
  refine wpAny_call (codeAny_of_tree ?_); show wpAny _ _ (callAny (.type "set") _) _ _ _
  refine wpAny_pure ⟨Code.quiet_builtin _ (by decide +kernel), codeAny_builtin F.entry_type_call ?_⟩; rw [Around.under_plain (weight_type_call_type "set" [.ref l] []) rfl]
  have f1 := F.called_set.notType; have f2 := F.called_set.canCreate; have f3 := F.typeCall_set_1 (.ref l)
  repeat (any_goals (first | assumption | wp_step))
  have gS : (s.heap.push (newO w)).get? s.heap.objs.size = some (newO w) := Heap.get?_push_size _ rfl
  have kS : ∀ b u, s.heap.get? b = some u → (s.heap.push (newO w)).get? b = some u := fun b u e => Heap.get?_push_of_some _ e
  have zS : (s.heap.push (newO w)).objs.size = s.heap.objs.size + 1 := Heap.size_push _ _
  refine codeAny_mono (code_new (.ref l) (E := E) (Q₁ := fun obj s₁ => obj = .ref s.heap.objs.size ∧ s₁ = { s with heap := s.heap.push (newO w) }) ⟨rfl, rfl⟩) fun r s₁ hr => ?_
  generalize s.heap.push (newO w) = hp at gS kS zS hr
  cases r with
  | error e => exact hr
  | ok fl =>
    cases fl with
    | ret obj =>
      obtain ⟨rfl, rfl⟩ := hr
      have hT : Shared.TypeIs { s with heap := hp } (.ref s.heap.objs.size) "set" := ⟨_, gS, rfl⟩
      have hli := F.called_set.init.lookup; have hbi := F.called_set.init.bind (.ref s.heap.objs.size)
      repeat (any_goals (first | assumption | wp_step))
      refine codeAny_mono (codeAny_call_builtin (R := wants (fun r s₂ => r = .none ∧ ∃ h' tk o, s₂ = { s with heap := h', toks := tk } ∧ h'.get? s.heap.objs.size = some o ∧ IsSet prog w o (ms.foldl step_dedup []) ∧ ∀ b u, s.heap.get? b = some u → h'.get? b = some u) E)
        F.called_set.init.plain F.entry_set_init (check_set_init_1 hT ?_)) fun r₂ s₂ hr₂ => ?_
      · obtain ⟨ol, hol, hcl, nl, hdl⟩ := hl
        obtain ⟨ocls, odict, odata, oslots⟩ := ol
        simp only at hcl hdl
        subst hcl hdl
        have hol' := kS l _ hol
        have n1 := F.sub_list_set; have n2 := F.sub_list_frozenset
        have n3 : (Value.type "list" == Value.type "dict") = false := by decide
        have hl1 : hp.IsList l vs.toArray := ⟨_, hol', rfl, nl, rfl⟩
        unfold Builtin.«set.__init__» noKeywords Builtin.Frozenset.updateFrom
        generalize hPI : pyIter = PI
        wp_walk
        subst hPI
        refine wpAny_pyIter_list hl1 (wpAny_bind (wpAny_runValue ?_))
        have lS : l < s.heap.objs.size := Heap.lt_size hol
        have ne1 : l ≠ hp.objs.size := by rw [zS]; exact Nat.ne_of_lt (Nat.lt_succ_of_lt lS)
        have off : s.heap.objs.size ∉ [hp.objs.size, l] := by
          rw [zS]; simp only [List.mem_cons, List.not_mem_nil, or_false, not_or]
          exact ⟨Nat.ne_of_lt (Nat.lt_succ_self _), Nat.ne_of_gt lS⟩
        have hv : ∀ (i : Nat) (v : Value), vs.toArray[i]? = some v → ∃ t, v = .int ((fun i => ms.getD i 0) i) t := fun i v q => PyProof.Rows.IntsAre.int_at hi i v (by simpa using q)
        have hh3 : A.in1.in1.in1.handled = none := by simp [hh]
        refine set_loop ((Walks.list hh3 _ l ne1 vs.toArray).toS) s.heap.objs.size off (fun i => ms.getD i 0) hv (by simpa using hb) (vs.toArray.size - 0) 0 _ (newO w) (by omega) (Nat.zero_le _) ⟨⟨_, Heap.get?_push_size _ rfl, rfl, rfl⟩, (hl1.push _)⟩ (Heap.get?_push_of_some _ gS) (newO_is prog w) ?_
        intro s' o' hm g' is'
        rw [List.size_toArray, firstMet_is hi] at is'
        obtain ⟨h', g2, d2, tk', os2⟩ := s'
        have q1 : g2 = s.gens := hm.gens
        have q2 : d2 = s.drawn := hm.drawn
        have q3 : os2 = s.os := hm.os
        subst q1 q2 q3
        show wpAny _ _ _ _ _ _; refine wpAny_pure ?_
        show wpAny _ _ (ret Value.none) _ _ _; refine wpAny_pure ⟨rfl, h', tk', o', rfl, g', is', fun b u e => ?_⟩
        have lb := Heap.lt_size e
        refine hm.heap b u ?_ (Heap.get?_push_of_some _ (kS b u e))
        rw [show (⟨hp, s.gens, s.drawn, s.toks, s.os⟩ : Shared).heap.objs.size = s.heap.objs.size + 1 from zS]
        simp only [List.mem_cons, List.not_mem_nil, or_false, not_or]
        exact ⟨Nat.ne_of_lt lb, Nat.ne_of_lt (Nat.lt_succ_of_lt lb)⟩
      · cases r₂ with
        | error e => exact hr₂
        | ok fl₂ =>
          cases fl₂ with
          | ret r =>
            obtain ⟨rfl, h', tk, o', rfl, g', is', k'⟩ := hr₂
            repeat (any_goals (first | assumption | wp_step))
            exact h _ _ o' g' is' k'
          | _ => exact hr₂.elim
    | _ => exact hr.elim
end
end SS
set_option Elab.async false
set_option linter.all false
set_option maxRecDepth 100000
/-! sorted(set(list of ints)), a list that is a sum, len of a list as an object -/
namespace L2
open PySem PySem.Spec PyProof.Rows KS PySem.W
section
variable {X : Cx} {pins : List (Addr × Obj)} {σ : St} {H : Hp} {s : Shared}
theorem Inv.drew {d : Drawn} (I : Inv X pins σ H s) : Inv X pins σ H { s with drawn := d } := ⟨I.ok, I.os, I.bare, I.base, I.loc, I.cell, I.free, I.freeC, I.pin, I.hok, I.len⟩
theorem call_setN (hh : X.A.handled = none) : CallR X (.type "set") (fun xs H Q => ∃ (l : Addr) (ns : List Int), xs = [V.ref l] ∧ SqL X.K H l (ns.map V.int) ∧ ns.length < 1000 ∧ ∀ r ob, H r = none → SS.IsSet X.prog X.w ob (ns.foldl step_dedup []) → Q (.ref r) (upd H r (.frz ob (.own 0)))) := by
  intro pins s σ H xs us Q I rr h
  obtain ⟨l, ns, rfl, hl, h64, fin⟩ := h
  obtain ⟨u, rfl, ru⟩ := vals1 rr
  cases ru
  obtain ⟨its, rv, pl, _⟩ := I.list hl
  have len := rv.length
  rw [List.length_map] at len
  refine SS.call_setL hh pl.isList (intsAre_of rv) (by show its.length + 1 < 4096; omega) fun h' tk o g is k => ?_
  exact ⟨.ref s.heap.objs.size, _, I.laid (o := .frz o (.own 0)) (t' := tk) k (Nat.le_refl _) ⟨g, _, g⟩, rfl, fin _ o (I.hok.fresh (Nat.le_refl _)) is⟩
theorem call_sortS (hh : X.A.handled = none) : CallR X (.builtin "sorted") (fun xs H Q => ∃ (r : Addr) (ob : Obj) (ns : List Int), xs = [V.ref r] ∧ H r = some (.frz ob (.own 0)) ∧ SS.IsSet X.prog X.w ob ns ∧ ns.length < 64 ∧ ∀ (ns' : List Int) (p : Addr), H p = none → ns'.Perm ns → ns'.Pairwise (· ≤ ·) → Q (.ref p) (upd H p (.lst (ns'.map V.int)))) := by
  intro pins s σ H xs us Q I rr h
  obtain ⟨r, ob, ns, rfl, hr, is, h64, fin⟩ := h
  obtain ⟨u, rfl, ru⟩ := vals1 rr
  cases ru
  have g : s.heap.get? r = some ob := (show ObjOk X.prog X.w H s.heap r (.frz ob (.own 0)) from I.hok r _ hr).1
  refine SS.sorted_set hh g is h64 fun D h' tk d out ns' c zD k gD hi hp hs => ?_
  have I1 : Inv X pins σ H { s with toks := tk, drawn := d } := (I.tok tk).drew
  have fD := I1.fpOk (b := D) zD (I1.hok.fresh (h := s.heap) zD)
  refine ⟨.ref D, upd H D (.lst (ns'.map V.int)), ?_, rfl, fin ns' D fD.1 hp hs⟩
  exact I1.adopt (its := out.toList) fD fD (fun b o _ q => k b o q) gD (vals_intsA hi) (by rw [List.length_map, hp.length_eq, sizeLine_eq]; omega)
end
end L2
namespace DL
open PySem PySem.Spec PyProof.Rows L2
/-- each once -/
def oneZ (ns : List Int) : List Int := ns.foldl step_dedup []
/-- sorted(set(list of ints)) -/
def gSortS (g : Den) : Den := fun ρ Ω => (g ρ Ω).bind fun p => (lstD p.1).bind fun ds => (intsD ds).bind fun ns => if ds.length < 1000 ∧ (oneZ ns).length < 64 then some (.lst ((isrt (oneZ ns)).map D.int), p.2) else none
/-- a + b, a list of its own -/
def gCatN (f g : Den) : ADen := fun ρ Ω => (f ρ Ω).bind fun p => (lstD p.1).bind fun xs => (g ρ p.2).bind fun q => (lstD q.1).bind fun ys => if xs.length + ys.length ≤ big then some (xs ++ ys, q.2) else none
def gLenM (f : Den) : Den := fun ρ Ω => (f ρ Ω).bind fun p => (objN p.1).bind fun n => (p.2[n]?).bind fun o => (mlsO o).bind fun xs => some (.int xs.length, p.2)
section
variable {X : Cx} {C : Cl} {n m : Str} {p pos ap cp : Pos} {a b : Expr} {f g : Den} {k : Nat}
theorem pd_sortS (hr : Room k X.A) (hg : Gl X n) (hm : X.mg n = none) (hv : bootBuiltins n = some (.builtin "sorted")) (hg2 : Gl X m) (hm2 : X.mg m = none) (hv2 : bootBuiltins m = some (.type "set")) (ho : PD X C a g)
    (hn : n ≠ "__name__" := by decide) (hdb : (n == ("__debug__" : Str)) = false := by decide) (hn2 : m ≠ "__name__" := by decide) (hdb2 : (m == ("__debug__" : Str)) = false := by decide)
    (he2 : starEach [a] X.env = (false, eval a X.env) :: starEach [] X.env := by rfl) (hpl2 : (backTo cp (starEach [] X.env)).any (·.1) = false := by rfl)
    (he : starEach [.Call (.Name m ap) [a] [] cp] X.env = (false, eval (.Call (.Name m ap) [a] [] cp) X.env) :: starEach [] X.env := by rfl) (hpl : (backTo pos (starEach [] X.env)).any (·.1) = false := by rfl) :
    PD X C (.Call (.Name n p) [.Call (.Name m ap) [a] [] cp] [] pos) (gSortS g) :=
  pe_imp (pe_callB (call_sortS hr.hd) hg hm hv (pa_cons (pe_callTy (call_setN hr.hd) hg2 hm2 hv2 (pa_cons ho pa_nil he2) hn2 hdb2 he2 hpl2) pa_nil he) hn hdb he hpl) fun σ H Q hw' => by
    obtain ⟨e, Ω, ρ, d, Ω', eH, w, rl, q, kk⟩ := hw'
    obtain ⟨⟨d1, Ω1⟩, q1, qa⟩ := Option.bind_eq_some_iff.mp q
    obtain ⟨ds, q2, qb⟩ := Option.bind_eq_some_iff.mp qa
    obtain ⟨ns, q3, qc⟩ := Option.bind_eq_some_iff.mp qb
    clear q qa qb
    have e2 := lst_of q2
    have e3 := intsD_map q3
    dsimp only at e2 qc
    subst e2 e3
    split at qc
    · rename_i h64
      obtain ⟨h1000, h64⟩ := h64
      cases qc
      rw [List.length_map] at h1000
      refine ⟨e, Ω, ρ, _, _, eH, w, rl, q1, fun v e1 x1 w1 i1 => ?_⟩
      rw [Is] at i1
      obtain ⟨l, vs, rfl, hF, il⟩ := i1
      have ev := isL_ints il
      subst ev
      refine ⟨l, ns, rfl, SqL.of (w1.fh _ _ hF), h1000, fun r ob hrn is => ?_⟩
      have xv : Ext e1 ⟨e1.α, e1.F, e1.A, upd e1.H r (.frz ob (.own 0))⟩ := by
        refine ⟨fun b o' u hb => by show upd e1.H r _ b = some (.frz o' u); rw [upd_ne (ne_of_none hb hrn)]; exact hb, fun b u hb _ => ?_, fun b u hb => ⟨u, ?_⟩, Same.refl _, fun b u hb => .inl hb, fun b hb => .inl hb, fun b hb => hb, [], by simp⟩
        · show upd e1.H r _ b = some u
          rw [upd_ne (ne_of_none hb hrn)]; exact hb
        · show upd e1.H r _ b = some u
          rw [upd_ne (ne_of_none hb hrn)]; exact hb
      have wv : Wf X.K C ⟨e1.α, e1.F, e1.A, upd e1.H r (.frz ob (.own 0))⟩ Ω' := by
        refine ⟨fun b u hb => ?_, w1.fa, fun b hb => ?_, w1.ol, w1.nd, fun n b u h1 h2 => ⟨(w1.ob n b u h1 h2).1, (w1.ob n b u h1 h2).2.keep (fun z hz => ?_) (Same.refl _) ⟨[], by simp⟩⟩⟩
        · show upd e1.H r _ b = some u
          rw [upd_ne (ne_of_none (w1.fh b u hb) hrn)]; exact w1.fh b u hb
        · show upd e1.H r _ b ≠ none ∧ ∀ xs, upd e1.H r _ b ≠ some (.tup xs)
          rw [upd_ne (fun z => (w1.ah b hb).1 (by rw [z]; exact hrn))]; exact w1.ah b hb
        · show upd e1.H r _ b = some z
          rw [upd_ne (ne_of_none hz hrn)]; exact hz
      refine ⟨r, ob, oneZ ns, rfl, upd_same, is, h64, fun ns' p' hp hpm hs => ?_⟩
      refine kk _ (E4.new ⟨e1.α, e1.F, e1.A, upd e1.H r (.frz ob (.own 0))⟩ p' _) ((x1.trans xv).trans (wv.new_ext hp)) (wv.new hp) ?_
      rw [isrt_unique hpm hs, Is]
      exact ⟨p', _, rfl, upd_same, ints_isL _⟩
    · cases qc
theorem pdn_cat (ha : PD X C a f) (hb : PD X C b g) : PDN X C (.BinOp a .Add b pos) (gCatN f g) :=
  pe_imp (pe_op op_cat ha hb) fun σ H Q hw' => by
    obtain ⟨e, Ω, ρ, ds, Ω', eH, w, rl, q, kk⟩ := hw'
    obtain ⟨⟨d1, Ω1⟩, q1, qa⟩ := Option.bind_eq_some_iff.mp q
    obtain ⟨xs, q2, qb⟩ := Option.bind_eq_some_iff.mp qa
    obtain ⟨⟨d3, Ω3⟩, q3, qc⟩ := Option.bind_eq_some_iff.mp qb
    obtain ⟨ys, q4, qd⟩ := Option.bind_eq_some_iff.mp qc
    clear q qa qb qc
    have e2 := lst_of q2
    have e4 := lst_of q4
    dsimp only at e2 e4 qd q3
    subst e2 e4
    split at qd
    · rename_i hl
      cases qd
      refine ⟨e, Ω, ρ, _, Ω1, eH, w, rl, q1, fun v e1 x1 w1 i1 => ?_⟩
      refine ⟨e1, Ω1, ρ, _, Ω', rfl, w1, rl.ext x1, q3, fun u e2 x2 w2 i2 => ?_⟩
      have i1' := i1.ext x2
      rw [Is] at i1' i2
      obtain ⟨l, vs, rfl, h1, r1⟩ := i1'
      obtain ⟨l2, us, rfl, h2, r2⟩ := i2
      exact ⟨l, l2, vs, us, rfl, rfl, w2.fh _ _ h1, w2.fh _ _ h2, by rw [← r1.length, ← r2.length]; exact big_line hl, fun p hp => kk p _ e2 (x1.trans x2) w2 (r1.append r2) hp⟩
    · cases qd
theorem pd_lenM (hg : Gl X n) (hm : X.mg n = none) (hv : bootBuiltins n = some (.builtin "len")) (ha : PD X C a f) (hn : n ≠ "__name__" := by decide) (hdb : (n == ("__debug__" : Str)) = false := by decide)
    (he : starEach [a] X.env = (false, eval a X.env) :: starEach [] X.env := by rfl) (hpl : (backTo pos (starEach [] X.env)).any (·.1) = false := by rfl) : PD X C (.Call (.Name n p) [a] [] pos) (gLenM f) :=
  pe_imp (pe_callB call_len_seq hg hm hv (pa_cons ha pa_nil he) hn hdb he hpl) fun σ H Q hw' => by
    obtain ⟨e, Ω, ρ, d, Ω', eH, w, rl, q, kk⟩ := hw'
    obtain ⟨⟨d1, Ω1⟩, q1, q⟩ := Option.bind_eq_some_iff.mp q
    obtain ⟨m, q2, q⟩ := Option.bind_eq_some_iff.mp q
    obtain ⟨o, q3, q⟩ := Option.bind_eq_some_iff.mp q
    obtain ⟨xs, q4, q⟩ := Option.bind_eq_some_iff.mp q
    have e2 := obj_of q2
    have e4 := mls_of q4
    dsimp only at e2 q3 q
    subst e2 e4
    cases q
    refine ⟨e, Ω, ρ, _, _, eH, w, rl, q1, fun v e1 x1 w1 i1 => ?_⟩
    rw [Is] at i1
    obtain ⟨p, hα, rfl⟩ := i1
    obtain ⟨vs, hH, il⟩ := w1.mls hα q3
    exact ⟨p, vs, rfl, .inl (SqL.of hH), kk _ e1 x1 w1 (by rw [Is, il.length])⟩
end
end DL
namespace Law
open PySem DL
noncomputable def d_l_mixed : FDen := runD 1 4 (sSeq (sOwn 1 gNil) (sSeq (sSet 2 (gC (.int 1))) (sSeq (sFor (gSeq (gVar 0)) (bName 3) (sSeq (sSet 2 (gOp modD (gOp addD (gOp addD (gOp mulD (gVar 2) (gC (.int 6364136223846793005))) (gVar 3)) (gC (.int 1442695040888963407))) (gC (.int 1000000000000000003)))) (sApp 1 (gVar 2)))) (sGhost (frz 1) (sRet (gVar 1))))))
noncomputable def d_l_cell_at : FDen := runD 2 2 (sSeq (sIf (gT (gOp ltD (gVar 1) (gCB lenD (gCons (gVar 0) gNil)))) (sRet (gOp ixD (gVar 0) (gVar 1))) sNext) (sRet (gOp mulD (gOp mulD (gOp addD (gVar 1) (gC (.int 3))) (gOp addD (gVar 1) (gC (.int 7)))) (gC (.int 7919)))))
noncomputable def d_l_mix : FDen := runD 2 3 (sSeq (sSet 2 (gOp modD (gOp addD (gOp addD (gVar 0) (gOp mulD (gC (.int 104729)) (gVar 1))) (gOp mulD (gOp mulD (gC (.int 7919)) (gVar 1)) (gVar 1))) (gC (.int 998244353)))) (sRet (gOp modD (gOp mulD (gOp modD (gOp mulD (gVar 2) (gVar 2)) (gC (.int 998244353))) (gC (.int 1000003))) (gC (.int 998244353)))))
noncomputable def d_l_ties : FDen := runD 3 13 (sSeq (sSet 3 (gCall d_l_cell_at (gCons (gVar 0) (gCons (gVar 1) gNil)))) (sSeq (sSet 4 (gOp addD (gC (.int 1)) (gOp mulD (gC (.int 2)) (gOp modD (gCall d_l_mix (gCons (gVar 3) (gCons (gC (.int 1)) gNil))) (gC (.int 16)))))) (sSeq (sSet 5 (gOp addD (gC (.int 2)) (gOp modD (gCall d_l_mix (gCons (gVar 3) (gCons (gC (.int 2)) gNil))) (gC (.int 7))))) (sSeq (sSet 6 (gSortZ (gComp [none, some 3, some 4] (gRng rng1 (gCons (gVar 5) gNil)) (bName 0) gTrue (gOp modD (gOp addD (gCall d_l_mix (gCons (gVar 1) (gCons (gC (.int 3)) gNil))) (gOp mulD (gVar 0) (gVar 2))) (gC (.int 32)))))) (sSeq (sOwn 7 gNil) (sSeq (sFor (gRng rng1 (gCons (gVar 5) gNil)) (bName 8) (sFor (gRng rng2 (gCons (gOp addD (gVar 8) (gC (.int 1))) (gCons (gVar 5) gNil))) (bName 9) (sSeq (sSet 10 (gOp addD (gOp mulD (gVar 8) (gC (.int 8))) (gVar 9))) (sSeq (sSet 11 (gCall d_l_cell_at (gCons (gVar 0) (gCons (gOp addD (gOp addD (gVar 1) (gC (.int 1))) (gOp modD (gVar 10) (gC (.int 24)))) gNil)))) (sIf (gT (gOp ltD (gOp modD (gCall d_l_mix (gCons (gVar 11) (gCons (gOp addD (gC (.int 4)) (gVar 10)) gNil))) (gC (.int 5))) (gOp addD (gC (.int 1)) (gOp modD (gCall d_l_mix (gCons (gVar 3) (gCons (gC (.int 5)) gNil))) (gC (.int 4)))))) (sSeq (sSet 12 (gOp addD (gC (.int 1)) (gOp modD (gCall d_l_mix (gCons (gVar 11) (gCons (gOp addD (gC (.int 70)) (gVar 10)) gNil))) (gOp ixD (gLst (gCons (gC (.int 3)) (gCons (gC (.int 3)) (gCons (gVar 2) gNil)))) (gOp modD (gCall d_l_mix (gCons (gVar 3) (gCons (gC (.int 6)) gNil))) (gC (.int 3))))))) (sApp 7 (gTup (gCons (gOp ixD (gVar 6) (gVar 8)) (gCons (gOp ixD (gVar 6) (gVar 9)) (gCons (gVar 12) gNil)))))) sNext))))) (sGhost (frz 7) (sRet (gVar 7)))))))))
noncomputable def d_l_fars : FDen := runD 2 10 (sSeq (sSet 2 (gDisp1 (gVar 1) (gC (.int 0)))) (sSeq (sFor (gRng rng1 (gCons (gC (.int 8)) gNil)) (bName 3) (sFor (gSeq (gVar 0)) (bTup [4, 5, 6]) (sFor (gSeq (gLst (gCons (gTup (gCons (gVar 4) (gCons (gVar 5) gNil))) (gCons (gTup (gCons (gVar 5) (gCons (gVar 4) gNil))) gNil)))) (bTup [7, 8]) (sIf (gT (gDIn false (gVar 7) (gVar 2))) (sSeq (sSet 9 (gOp addD (gDGet (gVar 2) (gVar 7)) (gVar 6))) (sDPut (gVar 2) (gVar 8) (gCB min2D (gCons (gDGet2 (gVar 2) (gVar 8) (gVar 9)) (gCons (gVar 9) gNil))))) sNext)))) (sRet (gVar 2))))
noncomputable def d_l_way : FDen := runD 3 10 (sSeq (sSet 3 (gCall d_l_fars (gCons (gVar 0) (gCons (gVar 2) gNil)))) (sSeq (sSet 4 (gC .non)) (sSeq (sFor (gSeq (gVar 0)) (bTup [5, 6, 7]) (sFor (gSeq (gLst (gCons (gTup (gCons (gVar 5) (gCons (gVar 6) gNil))) (gCons (gTup (gCons (gVar 6) (gCons (gVar 5) gNil))) gNil)))) (bTup [8, 9]) (sIf (gAndT (gT (gOp (eqD false) (gVar 8) (gVar 1))) (gAndT (gT (gDIn false (gVar 9) (gVar 3))) (gOrT (gT (gOp (isD false) (gVar 4) (gC .non))) (gT (gOp ltTD (gTup (gCons (gOp addD (gDGet (gVar 3) (gVar 9)) (gVar 7)) (gCons (gVar 9) gNil))) (gVar 4)))))) (sSet 4 (gTup (gCons (gOp addD (gDGet (gVar 3) (gVar 9)) (gVar 7)) (gCons (gVar 9) gNil)))) sNext))) (sRet (gVar 4)))))
noncomputable def d_l_alike_r0 : FDen := runD 2 2 (sSeq (sIf (gT (gOp (isD false) (gVar 1) (gC .non))) (sRet (gOp (isD false) (gVar 0) (gC .non))) sNext) (sSeq (sIf (gT (gUn (instsD ["tuple", "list"]) (gVar 1))) (sSeq (sIf (gOrT (gT (gOp (eqD true) (gUn (instD "tuple") (gVar 1)) (gUn (instD "tuple") (gVar 0)))) (gT (gOp (eqD true) (gUn (instD "list") (gVar 1)) (gUn (instD "list") (gVar 0))))) (sRet (gC (.bl false))) sNext) (sRet (gAndV (gOp (eqD false) (gCB lenD (gCons (gVar 0) gNil)) (gCB lenD (gCons (gVar 1) gNil))) (gCB allD (gCons (gComp [none, none] (gRng zipD (gCons (gVar 0) (gCons (gVar 1) gNil))) (bTup [0, 1]) gTrue gNo) gNil))))) sNext) (sSeq (sIf (gOrT (gT (gOp (eqD true) (gUn (instD "bool") (gVar 0)) (gUn (instD "bool") (gVar 1)))) (gT (gOp (eqD true) (gUn (instD "str") (gVar 0)) (gUn (instD "str") (gVar 1))))) (sRet (gC (.bl false))) sNext) (sRet (gOp (eqD false) (gVar 0) (gVar 1))))))
noncomputable def d_l_alike_r1 : FDen := runD 2 2 (sSeq (sIf (gT (gOp (isD false) (gVar 1) (gC .non))) (sRet (gOp (isD false) (gVar 0) (gC .non))) sNext) (sSeq (sIf (gT (gUn (instsD ["tuple", "list"]) (gVar 1))) (sSeq (sIf (gOrT (gT (gOp (eqD true) (gUn (instD "tuple") (gVar 1)) (gUn (instD "tuple") (gVar 0)))) (gT (gOp (eqD true) (gUn (instD "list") (gVar 1)) (gUn (instD "list") (gVar 0))))) (sRet (gC (.bl false))) sNext) (sRet (gAndV (gOp (eqD false) (gCB lenD (gCons (gVar 0) gNil)) (gCB lenD (gCons (gVar 1) gNil))) (gCB allD (gCons (gComp [none, none] (gRng zipD (gCons (gVar 0) (gCons (gVar 1) gNil))) (bTup [0, 1]) gTrue (gCall d_l_alike_r0 (gCons (gVar 0) (gCons (gVar 1) gNil)))) gNil))))) sNext) (sSeq (sIf (gOrT (gT (gOp (eqD true) (gUn (instD "bool") (gVar 0)) (gUn (instD "bool") (gVar 1)))) (gT (gOp (eqD true) (gUn (instD "str") (gVar 0)) (gUn (instD "str") (gVar 1))))) (sRet (gC (.bl false))) sNext) (sRet (gOp (eqD false) (gVar 0) (gVar 1))))))
noncomputable def d_steps_by_house : FDen := runD 1 5 (sSeq (sSet 1 gNewK) (sSeq (sFor (gSeq (gVar 0)) (bTup [2, 3, 4]) (sSeq (sAppM (gSdefK (gVar 1) (gVar 2) (gNewM gNil)) (gTup (gCons (gVar 3) (gCons (gVar 4) gNil)))) (sAppM (gSdefK (gVar 1) (gVar 3) (gNewM gNil)) (gTup (gCons (gVar 2) (gCons (gVar 4) gNil)))))) (sRet (gVar 1))))
noncomputable def d_fars : FDen := runD 2 9 (sSeq (sSet 2 (gCall d_steps_by_house (gCons (gVar 0) gNil))) (sSeq (sSet 3 gNewK) (sSeq (sSet 4 (gDisp1 (gVar 1) (gC (.int 0)))) (sSeq (whileD (gT (gNeE (gVar 4))) (sSeq (sSet 5 (gOp ixD (gMin (gCompK [none, some 4] (gVar 4) (bName 0) gTrue (gTup (gCons (gDGet (gVar 1) (gVar 0)) (gCons (gVar 0) gNil))))) (gC (.int 1)))) (sSeq (sSet 6 (gDPop (gVar 4) (gVar 5))) (sSeq (sDPut (gVar 3) (gVar 5) (gVar 6)) (sForM (gDGet2 (gVar 2) (gVar 5) (gNewM gNil)) (bTup [7, 8]) (sIf (gT (gDIn true (gVar 7) (gVar 3))) (sDPut (gVar 4) (gVar 7) (gCB min2D (gCons (gOp addD (gVar 6) (gVar 8)) (gCons (gDGet2 (gVar 4) (gVar 7) (gOp addD (gVar 6) (gVar 8))) gNil)))) sNext))))) 1000) (sRet (gVar 3))))))
noncomputable def d_due_way : FDen := runD 3 5 (sSeq (sSet 3 (gCall d_fars (gCons (gVar 0) (gCons (gVar 2) gNil)))) (sSeq (sIf (gT (gDIn true (gVar 1) (gVar 3))) (sRet (gC .non)) sNext) (sSeq (sSet 4 (gDGet2 (gCall d_steps_by_house (gCons (gVar 0) gNil)) (gVar 1) (gNewM gNil))) (sRet (gMin (gCompM [none, none, some 3] (gVar 4) (bTup [0, 1]) gTrue (gTup (gCons (gOp addD (gVar 1) (gDGet (gVar 2) (gVar 0))) (gCons (gVar 0) gNil)))))))))
noncomputable def d_law : FDen := runD 1 12 (sSeq (sSet 1 (gCall d_l_mixed (gCons (gVar 0) gNil))) (sSeq (sSet 2 (gCall d_l_ties (gCons (gVar 1) (gCons (gC (.int 1)) (gCons (gC (.int 99)) gNil))))) (sSeq (sSet 3 (gCB list1D (gCons (gVar 2) gNil))) (sSeq (sSet 4 (gObjN (gCatN (gSortS (gOp addD (gComp [none] (gSeq (gVar 2)) (bName 0) gTrue (gOp ixD (gVar 0) (gC (.int 0)))) (gComp [none] (gSeq (gVar 2)) (bName 0) gTrue (gOp ixD (gVar 0) (gC (.int 1)))))) (gLst (gCons (gC (.int 40)) gNil))))) (sSeq (sSetM (gVar 4) (gNeg (gC (.int 1))) (gOp modD (gCall d_l_mix (gCons (gCall d_l_cell_at (gCons (gVar 1) (gCons (gC (.int 0)) gNil))) (gCons (gC (.int 1)) gNil))) (gC (.int 32)))) (sSeq (sFor (gRng rng1 (gCons (gC (.int 4)) gNil)) (bName 5) (sSeq (sSet 6 (gCall d_l_mix (gCons (gCall d_l_cell_at (gCons (gVar 1) (gCons (gC (.int 0)) gNil))) (gCons (gOp addD (gC (.int 2)) (gVar 5)) gNil)))) (sSeq (sSet 7 (gMIx (gVar 4) (gOp modD (gVar 6) (gLenM (gVar 4))))) (sSeq (sSet 8 (gMIx (gVar 4) (gOp modD (gOp divD (gVar 6) (gC (.int 64))) (gLenM (gVar 4))))) (sFor (gSeq (gLst (gCons (gTup (gCons (gVar 7) (gCons (gVar 8) gNil))) (gCons (gTup (gCons (gVar 8) (gCons (gVar 7) gNil))) gNil)))) (bTup [9, 10]) (sSeq (sSet 11 (gCall d_l_way (gCons (gVar 2) (gCons (gVar 9) (gCons (gVar 10) gNil))))) (sIf (gAndT (gT (gOp (eqD true) (gVar 9) (gVar 10))) (gNotT (gT (gCall d_l_alike_r1 (gCons (gCall d_due_way (gCons (gVar 3) (gCons (gVar 9) (gCons (gVar 10) gNil)))) (gCons (gVar 11) gNil)))))) (sRet (gC (.bl false))) sNext))))))) (sRet (gOp (eqD false) (gVar 3) (gVar 2)))))))))
end Law

namespace Law
open PySem DL
/-! ### association lists -/
section
variable {κ κ' β : Type} [DecidableEq κ] [DecidableEq κ']
def getA (xs : List (κ × β)) (k : κ) : Option β := (xs.find? fun r => decide (r.1 = k)).map (·.2)
def putA (xs : List (κ × β)) (k : κ) (v : β) : List (κ × β) := if (xs.any fun r => decide (r.1 = k)) = true then xs.map (fun r => if r.1 = k then (r.1, v) else r) else xs ++ [(k, v)]
def cutA (xs : List (κ × β)) (k : κ) : List (κ × β) := xs.filter fun r => decide (r.1 ≠ k)
def mpA (e : κ → κ') (f : β → D) (xs : List (κ × β)) : List (κ' × D) := xs.map fun r => (e r.1, f r.2)
theorem getA_cons (r : κ × β) (xs : List (κ × β)) (k : κ) : getA (r :: xs) k = if r.1 = k then some r.2 else getA xs k := by
  unfold getA
  rw [List.find?_cons]
  by_cases h : r.1 = k
  · simp [h]
  · simp [h]
theorem val_mp {e : κ → κ'} (he : ∀ a b, e a = e b ↔ a = b) (f : β → D) (k : κ) : ∀ xs : List (κ × β), valD (mpA e f xs) (e k) = (getA xs k).map f
  | [] => rfl
  | r :: xs => by
    have ih := val_mp he f k xs
    rw [getA_cons]
    unfold valD mpA at ih ⊢
    rw [List.map_cons, List.find?_cons]
    by_cases h : r.1 = k
    · simp [h]
    · have h' : ¬ e r.1 = e k := fun z => h ((he _ _).mp z)
      simpa [h, h'] using ih
theorem any_mp {e : κ → κ'} (he : ∀ a b, e a = e b ↔ a = b) (f : β → D) (k : κ) : ∀ xs : List (κ × β), ((mpA e f xs).any fun kv => decide (kv.1 = e k)) = xs.any fun r => decide (r.1 = k)
  | [] => rfl
  | r :: xs => by
    have ih := any_mp he f k xs
    unfold mpA at ih ⊢
    rw [List.map_cons, List.any_cons, List.any_cons, ih]
    congr 1
    exact decide_eq_decide.mpr (he _ _)
theorem put_mp {e : κ → κ'} (he : ∀ a b, e a = e b ↔ a = b) (f : β → D) (xs : List (κ × β)) (k : κ) (v : β) : putD (mpA e f xs) (e k) (f v) = mpA e f (putA xs k v) := by
  unfold putD putA
  rw [any_mp he]
  split
  · unfold mpA
    rw [List.map_map, List.map_map]
    apply List.map_congr_left
    intro r _
    show (if e r.1 = e k then (e r.1, f v) else (e r.1, f r.2)) = _
    by_cases h : r.1 = k
    · rw [if_pos (by rw [h])]; simp [h]
    · rw [if_neg (fun z => h ((he _ _).mp z))]; simp [h]
  · simp [mpA]
theorem drop_mp {e : κ → κ'} (he : ∀ a b, e a = e b ↔ a = b) (f : β → D) (xs : List (κ × β)) (k : κ) : dropD (mpA e f xs) (e k) = mpA e f (cutA xs k) := by
  unfold dropD cutA mpA
  rw [List.filter_map]
  congr 1
  apply List.filter_congr
  intro r _
  exact decide_eq_decide.mpr (not_congr (he _ _))
@[simp] theorem mpA_length (e : κ → κ') (f : β → D) (xs : List (κ × β)) : (mpA e f xs).length = xs.length := by simp [mpA]
theorem getA_mem {xs : List (κ × β)} {k : κ} {v : β} (h : getA xs k = some v) : (k, v) ∈ xs := by
  induction xs with
  | nil => cases h
  | cons r xs ih =>
    rw [getA_cons] at h
    split at h
    · rename_i e
      cases h
      rw [← e]; exact List.mem_cons_self
    · exact List.mem_cons_of_mem _ (ih h)
theorem getA_none {xs : List (κ × β)} {k : κ} : getA xs k = none ↔ k ∉ xs.map (·.1) := by
  induction xs with
  | nil => simp [getA]
  | cons r xs ih =>
    rw [getA_cons, List.map_cons, List.mem_cons, not_or, ← ih]
    by_cases h : r.1 = k
    · rw [if_pos h]; simp [h]
    · rw [if_neg h]
      exact ⟨fun z => ⟨fun y => h y.symm, z⟩, fun z => z.2⟩
theorem getA_of {xs : List (κ × β)} {k : κ} {v : β} (hn : (xs.map (·.1)).Nodup) (h : (k, v) ∈ xs) : getA xs k = some v := by
  induction xs with
  | nil => cases h
  | cons r xs ih =>
    rw [List.map_cons, List.nodup_cons] at hn
    rw [getA_cons]
    rcases List.mem_cons.mp h with rfl | h
    · rw [if_pos rfl]
    · rw [if_neg (fun z => hn.1 (by rw [z]; exact List.mem_map.mpr ⟨_, h, rfl⟩)), ih hn.2 h]
theorem any_key {xs : List (κ × β)} {k : κ} : (xs.any fun r => decide (r.1 = k)) = true ↔ k ∈ xs.map (·.1) := by
  rw [List.any_eq_true]
  constructor
  · rintro ⟨r, h1, h2⟩
    exact List.mem_map.mpr ⟨r, h1, by simpa using h2⟩
  · intro h
    obtain ⟨r, h1, h2⟩ := List.mem_map.mp h
    exact ⟨r, h1, by simpa using h2⟩
theorem getA_map_put (xs : List (κ × β)) (k k' : κ) (v : β) : getA (xs.map fun r => if r.1 = k then (r.1, v) else r) k' = if k' = k then (getA xs k).map fun _ => v else getA xs k' := by
  induction xs with
  | nil => simp [getA]
  | cons r xs ih =>
    rw [List.map_cons, getA_cons, ih, getA_cons, getA_cons]
    by_cases h : r.1 = k
    · by_cases h2 : k' = k
      · subst h2; simp [h]
      · have h3 : ¬ r.1 = k' := fun z => h2 (by rw [← z, h])
        have h4 : ¬ k = k' := fun z => h2 z.symm
        simp [h, h2, h4]
    · by_cases h2 : k' = k
      · subst h2; simp [h]
      · simp [h, h2]
theorem getA_app (xs ys : List (κ × β)) (k : κ) : getA (xs ++ ys) k = match getA xs k with | some v => some v | none => getA ys k := by
  induction xs with
  | nil => rfl
  | cons r xs ih =>
    rw [List.cons_append, getA_cons, getA_cons, ih]
    by_cases h : r.1 = k
    · simp [h]
    · simp [h]
theorem getA_put (xs : List (κ × β)) (k k' : κ) (v : β) : getA (putA xs k v) k' = if k' = k then some v else getA xs k' := by
  unfold putA
  split
  · rename_i h
    rw [getA_map_put]
    by_cases h2 : k' = k
    · rw [if_pos h2, if_pos h2]
      have := any_key.mp h
      cases q : getA xs k with
      | none => exact absurd this (getA_none.mp q)
      | some w => rfl
    · rw [if_neg h2, if_neg h2]
  · rename_i h
    have hn : k ∉ xs.map (·.1) := fun z => h (any_key.mpr z)
    rw [getA_app, getA_cons]
    by_cases h2 : k' = k
    · subst h2
      rw [getA_none.mpr hn]; simp
    · have h3 : ¬ k = k' := fun z => h2 z.symm
      rw [if_neg h2]
      show (match getA xs k' with | some v => some v | none => if k = k' then some v else getA [] k') = _
      rw [if_neg h3]
      cases getA xs k' <;> rfl
theorem getA_cut (xs : List (κ × β)) (k k' : κ) : getA (cutA xs k) k' = if k' = k then none else getA xs k' := by
  induction xs with
  | nil => simp [cutA, getA]
  | cons r xs ih =>
    unfold cutA at ih ⊢
    rw [List.filter_cons, getA_cons]
    by_cases h : r.1 = k
    · simp only [h, ne_eq, not_true, decide_false, Bool.false_eq_true, if_false, ih]
      by_cases h2 : k' = k
      · simp [h2]
      · have h3 : ¬ k = k' := fun z => h2 z.symm
        simp [h2, h3]
    · simp only [h, ne_eq, not_false_eq_true, decide_true, if_true, getA_cons, ih]
      by_cases h2 : k' = k
      · subst h2; simp [h]
      · simp [h2]
theorem keys_putA (xs : List (κ × β)) (k : κ) (v : β) : (putA xs k v).map (·.1) = if k ∈ xs.map (·.1) then xs.map (·.1) else xs.map (·.1) ++ [k] := by
  unfold putA
  by_cases h : k ∈ xs.map (·.1)
  · rw [if_pos (any_key.mpr h), if_pos h, List.map_map]
    apply List.map_congr_left
    intro r _
    show (if r.1 = k then (r.1, v) else r).1 = r.1
    split <;> rfl
  · rw [if_neg (fun z => h (any_key.mp z)), if_neg h]; simp
theorem nodup_putA {xs : List (κ × β)} (h : (xs.map (·.1)).Nodup) (k : κ) (v : β) : ((putA xs k v).map (·.1)).Nodup := by
  rw [keys_putA]
  split
  · exact h
  · rename_i hn
    rw [List.nodup_append]
    refine ⟨h, by simp, fun a ha b hb z => hn ?_⟩
    rw [List.mem_singleton] at hb
    rw [← hb, ← z]; exact ha
theorem keys_cutA (xs : List (κ × β)) (k : κ) : (cutA xs k).map (·.1) = (xs.map (·.1)).filter fun x => decide (x ≠ k) := by
  unfold cutA
  rw [List.filter_map]; rfl
theorem nodup_cutA {xs : List (κ × β)} (h : (xs.map (·.1)).Nodup) (k : κ) : ((cutA xs k).map (·.1)).Nodup := by
  rw [keys_cutA]; exact h.filter _
theorem len_putA (xs : List (κ × β)) (k : κ) (v : β) : (putA xs k v).length ≤ xs.length + 1 := by
  unfold putA
  split <;> simp
theorem len_cutA (xs : List (κ × β)) (k : κ) : (cutA xs k).length ≤ xs.length := List.length_filter_le _ _
theorem putA_new {xs : List (κ × β)} {k : κ} (h : k ∉ xs.map (·.1)) (v : β) : putA xs k v = xs ++ [(k, v)] := if_neg fun z => h (any_key.mp z)
end
end Law
namespace Law
open PySem DL
/-! ### ways over the ties -/
abbrev Tie := Int × Int × Int
def Stp (T : List Tie) (u v l : Int) : Prop := (u, v, l) ∈ T ∨ (v, u, l) ∈ T
inductive Wk (T : List Tie) (s : Int) : Int → Int → Nat → Prop
  | nil : Wk T s s 0 0
  | snoc {u v l w : Int} {k : Nat} : Wk T s u w k → Stp T u v l → Wk T s v (w + l) (k + 1)
inductive WkV (T : List Tie) (s : Int) (V : List Int) : Int → Int → Prop
  | nil : WkV T s V s 0
  | snoc {u v l w : Int} : WkV T s V u w → u ∈ V → Stp T u v l → WkV T s V v (w + l)
section
variable {T : List Tie} {s : Int}
theorem wkv_cut {V : List Int} (h0 : ∀ u v l, Stp T u v l → 0 ≤ l) (x : Int) {h w : Int} (q : WkV T s V h w) : WkV T s (V.filter fun y => decide (y ≠ x)) h w ∨ ∃ w', w' ≤ w ∧ WkV T s (V.filter fun y => decide (y ≠ x)) x w' := by
  induction q with
  | nil => exact .inl .nil
  | snoc q hu st ih =>
    have l0 := h0 _ _ _ st
    rcases ih with a | ⟨w', le, a⟩
    · rename_i u v l w
      by_cases z : u = x
      · subst z; exact .inr ⟨w, by omega, a⟩
      · exact .inl (.snoc a (List.mem_filter.mpr ⟨hu, by simpa using z⟩) st)
    · exact .inr ⟨w', by omega, a⟩
theorem wk_short (h0 : ∀ u v l, Stp T u v l → 0 ≤ l) : ∀ (n : Nat) (V : List Int) (h w : Int), V.length ≤ n → WkV T s V h w → ∃ w' k, w' ≤ w ∧ k ≤ n ∧ Wk T s h w' k := by
  intro n
  induction n with
  | zero =>
    intro V h w hn q
    have e : V = [] := List.length_eq_zero_iff.mp (Nat.le_zero.mp hn)
    subst e
    cases q with
    | nil => exact ⟨0, 0, Int.le_refl _, Nat.le_refl _, .nil⟩
    | snoc _ hu _ => exact absurd hu List.not_mem_nil
  | succ n ih =>
    intro V h w hn q
    cases q with
    | nil => exact ⟨0, 0, Int.le_refl _, Nat.zero_le _, .nil⟩
    | snoc q hu st =>
      rename_i u l w
      obtain ⟨w1, le1, q1⟩ : ∃ w', w' ≤ w ∧ WkV T s (V.filter fun y => decide (y ≠ u)) u w' := by
        rcases wkv_cut h0 u q with a | a
        · exact ⟨w, Int.le_refl _, a⟩
        · exact a
      have hl : (V.filter fun y => decide (y ≠ u)).length ≤ n := by
        have : (V.filter fun y => decide (y ≠ u)).length < V.length := List.length_filter_lt_length_iff_exists.mpr ⟨u, hu, by simp⟩
        omega
      obtain ⟨w2, k, le2, lk, q2⟩ := ih _ u w1 hl q1
      exact ⟨w2 + l, k + 1, by omega, by omega, .snoc q2 st⟩
theorem wk_wkv {V : List Int} (hV : ∀ u v l, Stp T u v l → u ∈ V) {h w : Int} {k : Nat} (q : Wk T s h w k) : WkV T s V h w := by
  induction q with
  | nil => exact .nil
  | snoc _ st ih => exact .snoc ih (hV _ _ _ st) st
/-- every way can be made with n ties at most -/
theorem wk_few {V : List Int} {n : Nat} (h0 : ∀ u v l, Stp T u v l → 0 ≤ l) (hV : ∀ u v l, Stp T u v l → u ∈ V) (hn : V.length ≤ n) {h w : Int} {k : Nat} (q : Wk T s h w k) : ∃ w' k', w' ≤ w ∧ k' ≤ n ∧ Wk T s h w' k' := wk_short h0 n V h w hn (wk_wkv hV q)
end
abbrev Far := List (Int × Int)
def Sound (T : List Tie) (s : Int) (m : Far) : Prop := ∀ h d, getA m h = some d → ∃ k, Wk T s h d k
def Full (T : List Tie) (s : Int) (m : Far) : Prop := ∀ h w k, Wk T s h w k → ∃ d, getA m h = some d ∧ d ≤ w
theorem far_same {T : List Tie} {s : Int} {m m' : Far} (a : Sound T s m) (b : Full T s m) (a' : Sound T s m') (b' : Full T s m') (h : Int) : getA m h = getA m' h := by
  cases q : getA m h with
  | none =>
    cases q' : getA m' h with
    | none => rfl
    | some d' =>
      obtain ⟨k, w⟩ := a' h d' q'
      obtain ⟨d, e, _⟩ := b h d' k w
      rw [q] at e; cases e
  | some d =>
    obtain ⟨k, w⟩ := a h d q
    obtain ⟨d', e', l'⟩ := b' h d k w
    obtain ⟨k', w'⟩ := a' h d' e'
    obtain ⟨d2, e2, l2⟩ := b h d' k' w'
    rw [q] at e2; cases e2
    rw [e']
    congr 1
    omega
/-! ### the law's reckoning: over all ties again and again -/
def Lef (m m' : Far) : Prop := ∀ h d, getA m h = some d → ∃ d', getA m' h = some d' ∧ d' ≤ d
theorem Lef.refl (m : Far) : Lef m m := fun h d q => ⟨d, q, Int.le_refl _⟩
theorem Lef.trans {a b c : Far} (x : Lef a b) (y : Lef b c) : Lef a c := fun h d q => by
  obtain ⟨d1, q1, l1⟩ := x h d q
  obtain ⟨d2, q2, l2⟩ := y h d1 q1
  exact ⟨d2, q2, by omega⟩
/-- the lesser of x and what is there -/
def lowA (m : Far) (v x : Int) : Far := putA m v (if x < (getA m v).getD x then x else (getA m v).getD x)
theorem lowA_get (m : Far) (v x h : Int) : getA (lowA m v x) h = if h = v then some (if x < (getA m v).getD x then x else (getA m v).getD x) else getA m h := getA_put m v h _
theorem lowA_le (m : Far) (v x : Int) : Lef m (lowA m v x) := fun h d q => by
  rw [lowA_get]
  by_cases z : h = v
  · subst z
    rw [if_pos rfl, q]
    refine ⟨_, rfl, ?_⟩
    show (if x < d then x else d) ≤ d
    split <;> omega
  · rw [if_neg z]; exact ⟨d, q, Int.le_refl _⟩
theorem lowA_hit (m : Far) (v x : Int) : ∃ d', getA (lowA m v x) v = some d' ∧ d' ≤ x := by
  rw [lowA_get, if_pos rfl]
  refine ⟨_, rfl, ?_⟩
  split <;> omega
theorem lowA_or (m : Far) (v x h d : Int) (q : getA (lowA m v x) h = some d) : getA m h = some d ∨ (h = v ∧ d = x) := by
  rw [lowA_get] at q
  by_cases z : h = v
  · subst z
    rw [if_pos rfl] at q
    cases q2 : getA m h with
    | none => rw [q2] at q; simp at q; exact .inr ⟨rfl, q.symm⟩
    | some e =>
      rw [q2] at q
      replace q : (if x < e then x else e) = d := Option.some.inj q
      split at q
      · exact .inr ⟨rfl, q.symm⟩
      · exact .inl (by rw [q])
  · rw [if_neg z] at q; exact .inl q
def rlx (m : Far) (u v l : Int) : Far := match getA m u with
  | none => m
  | some d => lowA m v (d + l)
theorem rlx_le (m : Far) (u v l : Int) : Lef m (rlx m u v l) := by
  unfold rlx
  split
  · exact Lef.refl m
  · exact lowA_le m v _
theorem rlx_hit {m : Far} {u v l d : Int} (h : getA m u = some d) : ∃ d', getA (rlx m u v l) v = some d' ∧ d' ≤ d + l := by
  unfold rlx
  rw [h]
  exact lowA_hit m v _
section
variable {T : List Tie} {s : Int}
theorem lowA_sound {m : Far} {u v l d : Int} (h : Sound T s m) (hu : getA m u = some d) (st : Stp T u v l) : Sound T s (lowA m v (d + l)) := fun x e q => by
  rcases lowA_or m v _ x e q with q | ⟨rfl, rfl⟩
  · exact h x e q
  · obtain ⟨k, w⟩ := h u d hu
    exact ⟨k + 1, .snoc w st⟩
theorem rlx_sound {m : Far} {u v l : Int} (h : Sound T s m) (st : Stp T u v l) : Sound T s (rlx m u v l) := by
  unfold rlx
  cases q : getA m u with
  | none => exact h
  | some d => exact lowA_sound h q st
end
def tieR (m : Far) (t : Tie) : Far := rlx (rlx m t.1 t.2.1 t.2.2) t.2.1 t.1 t.2.2
theorem tieR_le (m : Far) (t : Tie) : Lef m (tieR m t) := (rlx_le m _ _ _).trans (rlx_le _ _ _ _)
def rnd (T : List Tie) (m : Far) : Far := T.foldl tieR m
theorem rnd_le : ∀ (T : List Tie) (m : Far), Lef m (rnd T m)
  | [], m => Lef.refl m
  | t :: T, m => (tieR_le m t).trans (rnd_le T (tieR m t))
theorem rnd_hit {u v l : Int} : ∀ (T : List Tie) (m : Far) (d : Int), Stp T u v l → getA m u = some d → ∃ d', getA (rnd T m) v = some d' ∧ d' ≤ d + l
  | [], m, d, h, _ => by rcases h with h | h <;> exact absurd h List.not_mem_nil
  | t :: T, m, d, h, q => by
    have go : (t = (u, v, l) ∨ t = (v, u, l)) ∨ Stp T u v l := by
      rcases h with h | h
      · rcases List.mem_cons.mp h with h | h
        · exact .inl (.inl h.symm)
        · exact .inr (.inl h)
      · rcases List.mem_cons.mp h with h | h
        · exact .inl (.inr h.symm)
        · exact .inr (.inr h)
    rcases go with (rfl | rfl) | st
    · obtain ⟨d1, q1, l1⟩ := rlx_hit (v := v) (l := l) q
      obtain ⟨d2, q2, l2⟩ := rlx_le (rlx m u v l) v u l v d1 q1
      obtain ⟨d3, q3, l3⟩ := rnd_le T (tieR m (u, v, l)) v d2 q2
      exact ⟨d3, q3, by omega⟩
    · obtain ⟨d1, q1, l1⟩ := rlx_le m v u l u d q
      obtain ⟨d2, q2, l2⟩ := rlx_hit (v := v) (l := l) q1
      obtain ⟨d3, q3, l3⟩ := rnd_le T (tieR m (v, u, l)) v d2 q2
      exact ⟨d3, q3, by omega⟩
    · obtain ⟨d1, q1, l1⟩ := tieR_le m t u d q
      obtain ⟨d2, q2, l2⟩ := rnd_hit T (tieR m t) d1 st q1
      exact ⟨d2, q2, by omega⟩
def rnds (T : List Tie) : Nat → Far → Far
  | 0, m => m
  | n + 1, m => rnds T n (rnd T m)
theorem rnds_le (T : List Tie) : ∀ (n : Nat) (m : Far), Lef m (rnds T n m)
  | 0, m => Lef.refl m
  | n + 1, m => (rnd_le T m).trans (rnds_le T n (rnd T m))
theorem rnds_snoc (T : List Tie) : ∀ (n : Nat) (m : Far), rnds T (n + 1) m = rnd T (rnds T n m)
  | 0, m => rfl
  | n + 1, m => rnds_snoc T n (rnd T m)
section
variable {T : List Tie} {s : Int}
theorem foldl_sound : ∀ (L : List Tie) (m : Far), (∀ t ∈ L, t ∈ T) → Sound T s m → Sound T s (L.foldl tieR m)
  | [], m, _, h => h
  | t :: L, m, hL, h => by
    have ht : (t.1, t.2.1, t.2.2) ∈ T := hL t List.mem_cons_self
    exact foldl_sound L _ (fun x hx => hL x (List.mem_cons_of_mem _ hx)) (rlx_sound (rlx_sound h (.inl ht)) (.inr ht))
theorem rnds_sound : ∀ (n : Nat) (m : Far), Sound T s m → Sound T s (rnds T n m)
  | 0, m, h => h
  | n + 1, m, h => rnds_sound n _ (foldl_sound T m (fun _ h => h) h)
theorem rnds_hit {m : Far} (h0 : ∃ d, getA m s = some d ∧ d ≤ 0) {h w : Int} {k : Nat} (q : Wk T s h w k) : ∀ n, k ≤ n → ∃ d, getA (rnds T n m) h = some d ∧ d ≤ w := by
  induction q with
  | nil =>
    intro n _
    obtain ⟨d, e, l⟩ := h0
    obtain ⟨d', e', l'⟩ := rnds_le T n m s d e
    exact ⟨d', e', by omega⟩
  | snoc _ st ih =>
    intro n hn
    obtain ⟨n, rfl⟩ : ∃ j, n = j + 1 := ⟨n - 1, by omega⟩
    obtain ⟨d, e, l⟩ := ih n (by omega)
    rw [rnds_snoc]
    obtain ⟨d', e', l'⟩ := rnd_hit T _ d st e
    exact ⟨d', e', by omega⟩
theorem start_sound (T : List Tie) (s : Int) : Sound T s [(s, 0)] := fun h d q => by
  rw [getA_cons] at q
  split at q
  · rename_i e
    cases q
    exact ⟨0, by rw [← e]; exact .nil⟩
  · cases q
theorem bf_full {V : List Int} (h0 : ∀ u v l, Stp T u v l → 0 ≤ l) (hV : ∀ u v l, Stp T u v l → u ∈ V) (hn : V.length ≤ 8) : Full T s (rnds T 8 [(s, 0)]) := fun h w k q => by
  obtain ⟨w', k', l, lk, q'⟩ := wk_few h0 hV hn q
  obtain ⟨d, e, l'⟩ := rnds_hit (m := [(s, 0)]) ⟨0, by rw [getA_cons, if_pos rfl], Int.le_refl _⟩ q' 8 lk
  exact ⟨d, e, by omega⟩
/-! ### the program's: the nearest one first -/
/-- A: the ones whose way is known; B: those found -/
structure Dj (T : List Tie) (s : Int) (A B : Far) : Prop where
  sa : Sound T s A
  sb : Sound T s B
  ap : ∀ h, getA B h ≠ none → getA A h = none
  cl : ∀ u d, getA A u = some d → ∀ v l, Stp T u v l → ∃ d', (getA A v = some d' ∨ getA B v = some d') ∧ d' ≤ d + l
  or : ∀ u d, getA A u = some d → ∀ v d', getA B v = some d' → d ≤ d'
  st : ∃ d, (getA A s = some d ∨ getA B s = some d) ∧ d ≤ 0
theorem dj_start (T : List Tie) (s : Int) : Dj T s [] [(s, 0)] :=
  ⟨fun h d q => (by cases q), start_sound T s, fun h _ => rfl, fun u d q => (by cases q), fun u d q => (by cases q), ⟨0, .inr (by rw [getA_cons, if_pos rfl]), Int.le_refl _⟩⟩
theorem dj_full {A : Far} (h : Dj T s A []) : Full T s A := fun x w k q => by
  induction q with
  | nil =>
    obtain ⟨d, e | e, l⟩ := h.st
    · exact ⟨d, e, l⟩
    · cases e
  | snoc _ st ih =>
    obtain ⟨d, e, l⟩ := ih
    obtain ⟨d', e' | e', l'⟩ := h.cl _ d e _ _ st
    · exact ⟨d', e', by omega⟩
    · cases e'
def djS (A : Far) (d : Int) (B : Far) (x : Int × Int) : Far := if getA A x.1 = none then lowA B x.1 (d + x.2) else B
/-- the steps from one house -/
def stepsOf (T : List Tie) (h : Int) : List (Int × Int) := T.flatMap fun t => (if t.1 = h then [(t.2.1, t.2.2)] else []) ++ (if t.2.1 = h then [(t.1, t.2.2)] else [])
theorem stepsOf_mem {h v l : Int} : (v, l) ∈ stepsOf T h ↔ Stp T h v l := by
  unfold stepsOf Stp
  rw [List.mem_flatMap]
  constructor
  · rintro ⟨⟨a, b, c⟩, ht, hm⟩
    rcases List.mem_append.mp hm with hm | hm
    · split at hm
      · rename_i e
        simp at hm e
        obtain ⟨rfl, rfl⟩ := hm
        subst e
        exact .inl ht
      · cases hm
    · split at hm
      · rename_i e
        simp at hm e
        obtain ⟨rfl, rfl⟩ := hm
        subst e
        exact .inr ht
      · cases hm
  · rintro (h1 | h1)
    · exact ⟨_, h1, List.mem_append.mpr (.inl (by simp))⟩
    · exact ⟨_, h1, List.mem_append.mpr (.inr (by simp))⟩
theorem djS_le (A : Far) (d : Int) (B : Far) (x : Int × Int) : Lef B (djS A d B x) := by
  unfold djS
  split
  · exact lowA_le B _ _
  · exact Lef.refl B
theorem fold_le (A : Far) (d : Int) : ∀ (L : List (Int × Int)) (B : Far), Lef B (L.foldl (djS A d) B)
  | [], B => Lef.refl B
  | x :: L, B => (djS_le A d B x).trans (fold_le A d L _)
theorem fold_hit (A : Far) (d : Int) {v l : Int} (hv : getA A v = none) : ∀ (L : List (Int × Int)) (B : Far), (v, l) ∈ L → ∃ d', getA (L.foldl (djS A d) B) v = some d' ∧ d' ≤ d + l
  | [], B, h => absurd h List.not_mem_nil
  | x :: L, B, h => by
    rcases List.mem_cons.mp h with rfl | h
    · obtain ⟨d1, q1, l1⟩ : ∃ d', getA (djS A d B (v, l)) v = some d' ∧ d' ≤ d + l := by
        unfold djS
        rw [if_pos hv]
        exact lowA_hit B v _
      obtain ⟨d2, q2, l2⟩ := fold_le A d L _ v d1 q1
      exact ⟨d2, q2, by omega⟩
    · exact fold_hit A d hv L _ h
theorem fold_or (A : Far) (d : Int) {v e : Int} : ∀ (L : List (Int × Int)) (B : Far), getA (L.foldl (djS A d) B) v = some e → getA B v = some e ∨ (getA A v = none ∧ ∃ l, (v, l) ∈ L ∧ e = d + l)
  | [], B, h => .inl h
  | x :: L, B, h => by
    rcases fold_or A d L _ h with h | ⟨h1, l, h2, h3⟩
    · unfold djS at h
      split at h
      · rename_i z
        rcases lowA_or B _ _ v e h with h | ⟨rfl, rfl⟩
        · exact .inl h
        · exact .inr ⟨z, x.2, List.mem_cons_self, rfl⟩
      · exact .inl h
    · exact .inr ⟨h1, l, List.mem_cons_of_mem _ h2, h3⟩
/-- one more is known: the nearest of those found -/
theorem dj_next (h0 : ∀ u v l, Stp T u v l → 0 ≤ l) {A B : Far} {h d : Int} (D : Dj T s A B) (hb : getA B h = some d) (hm : ∀ v e, getA B v = some e → d ≤ e) :
    Dj T s (putA A h d) ((stepsOf T h).foldl (djS (putA A h d) d) (cutA B h)) := by
  have ga : ∀ x, getA (putA A h d) x = if x = h then some d else getA A x := fun x => getA_put A h x d
  have gc : ∀ x, getA (cutA B h) x = if x = h then none else getA B x := fun x => getA_cut B h x
  have na : getA A h = none := D.ap h (by rw [hb]; intro z; cases z)
  obtain ⟨kh, wh⟩ := D.sb h d hb
  refine ⟨fun x e q => ?_, fun x e q => ?_, fun x q => ?_, fun u e q v l st => ?_, fun u e q v e' q' => ?_, ?_⟩
  · rw [ga] at q
    split at q
    · rename_i z; cases q; rw [z]; exact ⟨kh, wh⟩
    · exact D.sa x e q
  · rcases fold_or _ _ _ _ q with q | ⟨_, l, hl, rfl⟩
    · rw [gc] at q
      split at q
      · cases q
      · exact D.sb x e q
    · exact ⟨kh + 1, .snoc wh (stepsOf_mem.mp hl)⟩
  · cases q' : getA ((stepsOf T h).foldl (djS (putA A h d) d) (cutA B h)) x with
    | none => exact absurd q' q
    | some e =>
      rcases fold_or _ _ _ _ q' with q2 | ⟨q2, _⟩
      · rw [gc] at q2
        split at q2
        · cases q2
        · rename_i z
          rw [ga, if_neg z]
          exact D.ap x (by rw [q2]; intro y; cases y)
      · exact q2
  · rw [ga] at q
    have l0 := h0 _ _ _ st
    by_cases z : u = h
    · rw [if_pos z] at q
      cases q
      subst z
      cases qv : getA (putA A u d) v with
      | some e' =>
        refine ⟨e', .inl rfl, ?_⟩
        rw [ga] at qv
        split at qv
        · cases qv; omega
        · have := D.or v e' qv u d hb
          omega
      | none =>
        obtain ⟨d', q1, q2⟩ := fold_hit _ d qv _ (cutA B u) (stepsOf_mem.mpr st)
        exact ⟨d', .inr q1, q2⟩
    · rw [if_neg z] at q
      obtain ⟨d', q1, q2⟩ := D.cl u e q v l st
      by_cases zv : v = h
      · subst zv
        rcases q1 with q1 | q1
        · rw [na] at q1; cases q1
        · rw [hb] at q1; cases q1
          exact ⟨d, .inl (by rw [ga, if_pos rfl]), q2⟩
      · rcases q1 with q1 | q1
        · exact ⟨d', .inl (by rw [ga, if_neg zv]; exact q1), q2⟩
        · obtain ⟨d2, q3, q4⟩ := fold_le (putA A h d) d (stepsOf T h) (cutA B h) v d' (by rw [gc, if_neg zv]; exact q1)
          exact ⟨d2, .inr q3, by omega⟩
  · have le1 : e ≤ d := by
      rw [ga] at q
      split at q
      · cases q; omega
      · exact D.or u e q h d hb
    have le2 : d ≤ e' := by
      rcases fold_or _ _ _ _ q' with q2 | ⟨_, l, hl, rfl⟩
      · rw [gc] at q2
        split at q2
        · cases q2
        · exact hm v e' q2
      · have := h0 _ _ _ (stepsOf_mem.mp hl)
        omega
    omega
  · obtain ⟨e, q, l⟩ := D.st
    by_cases z : s = h
    · subst z
      refine ⟨d, .inl (by rw [ga, if_pos rfl]), ?_⟩
      rcases q with q | q
      · rw [na] at q; cases q
      · rw [hb] at q; cases q; exact l
    · rcases q with q | q
      · exact ⟨e, .inl (by rw [ga, if_neg z]; exact q), l⟩
      · obtain ⟨d2, q3, q4⟩ := fold_le (putA A h d) d (stepsOf T h) (cutA B h) s e (by rw [gc, if_neg z]; exact q)
        exact ⟨d2, .inr q3, by omega⟩
end
end Law
namespace Law
open PySem DL
/-! ### dicts of ints as they are worth -/
def kI (i : Int) : L2.Key := .inl i
theorem kI_inj (a b : Int) : kI a = kI b ↔ a = b := by simp [kI]
def dF (m : Far) : OS := .dK (mpA kI D.int m)
@[simp] theorem look_F (m : Far) (h : Int) : lookO (dF m) (.int h) = some ((getA m h).map D.int) := by
  show some (valD (mpA kI D.int m) (kI h)) = _
  rw [val_mp kI_inj]
theorem put_F {m : Far} (hl : m.length < 100000) (h v : Int) : putO (dF m) (.int h) (.int v) = some (dF (putA m h v)) := by
  show (if (mpA kI D.int m).length < 100000 then some (OS.dK (putD (mpA kI D.int m) (kI h) (D.int v))) else none) = _
  rw [if_pos (by simpa using hl), put_mp kI_inj]
  rfl
@[simp] theorem isDct_F (m : Far) : isDct (dF m) = true := rfl
@[simp] theorem dKO_F (m : Far) : dKO (dF m) = some (mpA kI D.int m) := rfl
theorem drop_F {m : Far} {h v : Int} (q : getA m h = some v) : dropO (dF m) (.int h) = some (.int v, dF (cutA m h)) := by
  show (match valD (mpA kI D.int m) (kI h) with | some v => some (v, OS.dK (dropD (mpA kI D.int m) (kI h))) | none => none) = _
  rw [val_mp kI_inj, drop_mp kI_inj, q]
  rfl
theorem set_same {β : Type} : ∀ {l : List β} {n : Nat} {x : β}, l[n]? = some x → l.set n x = l
  | [], n, x, h => by cases n <;> cases h
  | a :: l, 0, x, h => by cases h; rfl
  | a :: l, n + 1, x, h => by
    rw [List.getElem?_cons_succ] at h
    rw [List.set_cons_succ, set_same h]
theorem get_set {β : Type} {l : List β} {n : Nat} {x y : β} (h : l[n]? = some x) : (l.set n y)[n]? = some y := by
  obtain ⟨hn, _⟩ := List.getElem?_eq_some_iff.mp h
  simp [hn]
theorem lt_of_get {β : Type} {l : List β} {n : Nat} {x : β} (h : l[n]? = some x) : n < l.length := (List.getElem?_eq_some_iff.mp h).1
theorem len_lowA (m : Far) (v x : Int) : (lowA m v x).length ≤ m.length + 1 := len_putA m v _
theorem len_rlx (m : Far) (u v l : Int) : (rlx m u v l).length ≤ m.length + 1 := by
  unfold rlx
  split
  · omega
  · exact len_lowA m v _
theorem len_tieR (m : Far) (t : Tie) : (tieR m t).length ≤ m.length + 2 := by
  have h1 := len_rlx m t.1 t.2.1 t.2.2
  have h2 := len_rlx (rlx m t.1 t.2.1 t.2.2) t.2.1 t.1 t.2.2
  unfold tieR
  omega
theorem len_rnd : ∀ (T : List Tie) (m : Far), (rnd T m).length ≤ m.length + 2 * T.length
  | [], m => Nat.le_refl _
  | t :: T, m => by
    have h1 := len_tieR m t
    have h2 := len_rnd T (tieR m t)
    rw [List.length_cons]
    show (rnd T (tieR m t)).length ≤ _
    omega
def tieD (t : Tie) : D := .tup [.int t.1, .int t.2.1, .int t.2.2]
/-! ### the law's fars -/
noncomputable def relS : SDen := sIf (gT (gDIn false (gVar 7) (gVar 2))) (sSeq (sSet 9 (gOp addD (gDGet (gVar 2) (gVar 7)) (gVar 6))) (sDPut (gVar 2) (gVar 8) (gCB min2D (gCons (gDGet2 (gVar 2) (gVar 8) (gVar 9)) (gCons (gVar 9) gNil))))) sNext
theorem relS_den {x0 x1 x3 x4 x5 x9 : Sl} {n : Nat} {Ω : List OS} {m : Far} {u v l : Int} (hn : Ω[n]? = some (dF m)) (hl : m.length < 100000) :
    ∃ y9, relS [x0, x1, .dat (.obj n), x3, x4, x5, .dat (.int l), .dat (.int u), .dat (.int v), x9] Ω = some (.nx [x0, x1, .dat (.obj n), x3, x4, x5, .dat (.int l), .dat (.int u), .dat (.int v), y9] (Ω.set n (dF (rlx m u v l)))) := by
  unfold rlx
  cases q : getA m u with
  | none => exact ⟨x9, by simp [relS, hn, q, set_same hn]⟩
  | some d =>
    refine ⟨.dat (.int (d + l)), ?_⟩
    have e : ((getA m v).map D.int).getD (.int (d + l)) = .int ((getA m v).getD (d + l)) := by cases getA m v <;> rfl
    simp only [relS, ap_sIf, ap_T, ap_din, ap_var, List.getElem?_cons_zero, List.getElem?_cons_succ, hn, look_F, q, Option.map_some, Option.isSome_some, ap_sSeq, ap_set, ap_op, ap_dget, add_int, ap_dput, ap_CB, ap_cons, ap_nil, ap_dget2, isDct_F, List.set_cons_succ, List.set_cons_zero, if_true, e, min_2, put_F hl, Bool.false_eq_true, if_false]
    rfl
noncomputable def tieS : SDen := sFor (gSeq (gLst (gCons (gTup (gCons (gVar 4) (gCons (gVar 5) gNil))) (gCons (gTup (gCons (gVar 5) (gCons (gVar 4) gNil))) gNil)))) (bTup [7, 8]) relS
theorem tieS_den {x0 x1 x3 x7 x8 x9 : Sl} {n : Nat} {Ω : List OS} {m : Far} {a b l : Int} (hn : Ω[n]? = some (dF m)) (hl : m.length + 1 < 100000) :
    ∃ y7 y8 y9, tieS [x0, x1, .dat (.obj n), x3, .dat (.int a), .dat (.int b), .dat (.int l), x7, x8, x9] Ω = some (.nx [x0, x1, .dat (.obj n), x3, .dat (.int a), .dat (.int b), .dat (.int l), y7, y8, y9] (Ω.set n (dF (tieR m (a, b, l))))) := by
  obtain ⟨y9, h1⟩ := relS_den (x0 := x0) (x1 := x1) (x3 := x3) (x4 := .dat (.int a)) (x5 := .dat (.int b)) (x9 := x9) (u := a) (v := b) (l := l) hn (by omega)
  have l1 := len_rlx m a b l
  obtain ⟨z9, h2⟩ := relS_den (x0 := x0) (x1 := x1) (x3 := x3) (x4 := .dat (.int a)) (x5 := .dat (.int b)) (x9 := y9) (u := b) (v := a) (l := l) (get_set (y := dF (rlx m a b l)) hn) (by omega)
  refine ⟨.dat (.int b), .dat (.int a), z9, ?_⟩
  rw [List.set_set] at h2
  simp [tieS, for_cons, bNames, h1, h2]
  rfl
theorem tiesS_den {x0 x1 x3 : Sl} {n : Nat} : ∀ (L : List Tie) (Ω : List OS) (m : Far) (x4 x5 x6 x7 x8 x9 : Sl), Ω[n]? = some (dF m) → m.length + 2 * L.length < 100000 →
    ∃ y4 y5 y6 y7 y8 y9, forD (bTup [4, 5, 6]) tieS (L.map tieD) [x0, x1, .dat (.obj n), x3, x4, x5, x6, x7, x8, x9] Ω = some (.nx [x0, x1, .dat (.obj n), x3, y4, y5, y6, y7, y8, y9] (Ω.set n (dF (rnd L m))))
  | [], Ω, m, x4, x5, x6, x7, x8, x9, hn, _ => ⟨x4, x5, x6, x7, x8, x9, by rw [show rnd [] m = m from rfl, set_same hn]; rfl⟩
  | (a, b, l) :: L, Ω, m, x4, x5, x6, x7, x8, x9, hn, hl => by
    rw [List.length_cons] at hl
    obtain ⟨y7, y8, y9, h1⟩ := tieS_den (x0 := x0) (x1 := x1) (x3 := x3) (x7 := x7) (x8 := x8) (x9 := x9) (a := a) (b := b) (l := l) hn (by omega)
    have l1 := len_tieR m (a, b, l)
    obtain ⟨z4, z5, z6, z7, z8, z9, h2⟩ := tiesS_den (x0 := x0) (x1 := x1) (x3 := x3) (n := n) L (Ω.set n (dF (tieR m (a, b, l)))) (tieR m (a, b, l)) (.dat (.int a)) (.dat (.int b)) (.dat (.int l)) y7 y8 y9 (get_set hn) (by omega)
    refine ⟨z4, z5, z6, z7, z8, z9, ?_⟩
    rw [List.set_set] at h2
    rw [List.map_cons, for_cons]
    simp only [tieD, ap_bTup, bNames, List.set_cons_succ, List.set_cons_zero, h1]
    exact h2
theorem rndsS_den {x0 x1 : Sl} {n : Nat} {T : List Tie} (h0 : x0 = .dat (.lst (T.map tieD))) : ∀ (ds : List D) (Ω : List OS) (m : Far) (x3 x4 x5 x6 x7 x8 x9 : Sl), Ω[n]? = some (dF m) → m.length + 2 * T.length * ds.length < 100000 →
    ∃ y3 y4 y5 y6 y7 y8 y9, forD (bName 3) (sFor (gSeq (gVar 0)) (bTup [4, 5, 6]) tieS) ds [x0, x1, .dat (.obj n), x3, x4, x5, x6, x7, x8, x9] Ω = some (.nx [x0, x1, .dat (.obj n), y3, y4, y5, y6, y7, y8, y9] (Ω.set n (dF (rnds T ds.length m))))
  | [], Ω, m, x3, x4, x5, x6, x7, x8, x9, hn, _ => ⟨x3, x4, x5, x6, x7, x8, x9, by rw [show rnds T ([] : List D).length m = m from rfl, set_same hn]; rfl⟩
  | d :: ds, Ω, m, x3, x4, x5, x6, x7, x8, x9, hn, hl => by
    rw [List.length_cons, Nat.mul_add, Nat.mul_one] at hl
    obtain ⟨y4, y5, y6, y7, y8, y9, h1⟩ := tiesS_den (x0 := x0) (x1 := x1) (x3 := .dat d) T Ω m x4 x5 x6 x7 x8 x9 hn (by omega)
    have l1 := len_rnd T m
    obtain ⟨z3, z4, z5, z6, z7, z8, z9, h2⟩ := rndsS_den (x1 := x1) (n := n) h0 ds (Ω.set n (dF (rnd T m))) (rnd T m) (.dat d) y4 y5 y6 y7 y8 y9 (get_set hn) (by omega)
    refine ⟨z3, z4, z5, z6, z7, z8, z9, ?_⟩
    rw [List.set_set] at h2
    subst h0
    rw [for_cons]
    simp only [ap_bName, List.set_cons_succ, List.set_cons_zero, ap_for, ap_seq, ap_var, List.getElem?_cons_zero, seq_lst, h1]
    exact h2
theorem lfars_den {T : List Tie} (hT : T.length ≤ 1000) (s : Int) (Ω : List OS) : d_l_fars [.lst (T.map tieD), .int s] Ω = some (.obj Ω.length, Ω ++ [dF (rnds T 8 [(s, 0)])]) := by
  have hn : (Ω ++ [dF [(s, 0)]])[Ω.length]? = some (dF [(s, 0)]) := by simp
  obtain ⟨z3, z4, z5, z6, z7, z8, z9, h2⟩ := rndsS_den (x0 := .dat (.lst (T.map tieD))) (x1 := .dat (.int s)) (n := Ω.length) (T := T) rfl [.int 0, .int 1, .int 2, .int 3, .int 4, .int 5, .int 6, .int 7] (Ω ++ [dF [(s, 0)]]) [(s, 0)] .und .und .und .und .und .und .und hn (by show 1 + 2 * T.length * 8 < 100000; omega)
  refine run_rt rfl ?_
  refine (seq_nx (ρ' := [.dat (.lst (T.map tieD)), .dat (.int s), .dat (.obj Ω.length), .und, .und, .und, .und, .und, .und, .und]) (Ω' := Ω ++ [dF [(s, 0)]]) ?_).trans ?_
  · simp [gDisp1, keyD, dKO, dF, mpA, kI]
  refine (seq_nx (ρ' := [.dat (.lst (T.map tieD)), .dat (.int s), .dat (.obj Ω.length), z3, z4, z5, z6, z7, z8, z9]) (Ω' := Ω ++ [dF (rnds T 8 [(s, 0)])]) ?_).trans ?_
  · have e : (Ω ++ [dF [(s, 0)]]).set Ω.length (dF (rnds T 8 [(s, 0)])) = Ω ++ [dF (rnds T 8 [(s, 0)])] := by simp
    rw [← e]
    have e8 : rng1 [.int 8] = some [.int 0, .int 1, .int 2, .int 3, .int 4, .int 5, .int 6, .int 7] := by rw [rng_1 (by decide) (by decide)]; rfl
    simp only [ap_for, ap_rng, ap_cons, ap_c, ap_nil, e8]
    exact h2
  simp
end Law
namespace Law
open PySem DL
/-! ### the steps by house -/
def prD (x : Int × Int) : D := .tup [.int x.1, .int x.2]
def dS (kvs : List (Int × Nat)) : OS := .dK (mpA kI D.obj kvs)
@[simp] theorem look_S (kvs : List (Int × Nat)) (h : Int) : lookO (dS kvs) (.int h) = some ((getA kvs h).map D.obj) := by
  show some (valD (mpA kI D.obj kvs) (kI h)) = _
  rw [val_mp kI_inj]
@[simp] theorem isDct_S (kvs : List (Int × Nat)) : isDct (dS kvs) = true := rfl
structure SI (Ω0 Ω : List OS) (kvs : List (Int × Nat)) (st : Int → List (Int × Int)) (N : Nat) : Prop where
  pre : ∀ i, i < Ω0.length → Ω[i]? = Ω0[i]?
  here : Ω[Ω0.length]? = some (dS kvs)
  yes : ∀ h j, getA kvs h = some j → Ω0.length < j ∧ Ω[j]? = some (.mls ((st h).map prD))
  no : ∀ h, getA kvs h = none → st h = []
  inj : ∀ h h' j, getA kvs h = some j → getA kvs h' = some j → h = h'
  len : kvs.length ≤ N
  sl : ∀ h, (st h).length ≤ N
def addS (st : Int → List (Int × Int)) (u v l : Int) : Int → List (Int × Int) := fun h => if u = h then st h ++ [(v, l)] else st h
theorem half_den {Ω0 Ω : List OS} {kvs : List (Int × Nat)} {st : Int → List (Int × Int)} {N : Nat} {ρ : List Sl} {gu gv gl : Den} {u v l : Int} (S : SI Ω0 Ω kvs st N) (hN : N < 100000) (h1 : ρ[1]? = some (.dat (.obj Ω0.length)))
    (hu : ∀ Ω, gu ρ Ω = some (.int u, Ω)) (hv : ∀ Ω, gv ρ Ω = some (.int v, Ω)) (hl : ∀ Ω, gl ρ Ω = some (.int l, Ω)) :
    ∃ Ω' kvs', sAppM (gSdefK (gVar 1) gu (gNewM gNil)) (gTup (gCons gv (gCons gl gNil))) ρ Ω = some (.nx ρ Ω') ∧ SI Ω0 Ω' kvs' (addS st u v l) (N + 1) := by
  have n0 : Ω0.length < Ω.length := lt_of_get S.here
  have hk : kvs.length < big := by have := S.len; show kvs.length < 100000; omega
  have hx : (Ω ++ [OS.mls []])[Ω0.length]? = some (dS kvs) := by rw [List.getElem?_append_left n0]; exact S.here
  have hval : valD (mpA kI D.obj kvs) (.inl u) = (getA kvs u).map D.obj := val_mp kI_inj D.obj u kvs
  have hkl : (mpA kI D.obj kvs).length < big := by simpa using hk
  have et : ∀ Ω, gTup (gCons gv (gCons gl gNil)) ρ Ω = some (prD (v, l), Ω) := fun Ω => by simp [hv, hl, prD]
  cases q : getA kvs u with
  | some j =>
    obtain ⟨j1, j2⟩ := S.yes u j q
    have jl : j < Ω.length := lt_of_get j2
    have hj : (Ω ++ [OS.mls []])[j]? = some (.mls ((st u).map prD)) := by rw [List.getElem?_append_left jl]; exact j2
    have hsl : ((st u).map prD).length < big := by rw [List.length_map]; have := S.sl u; show (st u).length < 100000; omega
    refine ⟨(Ω ++ [OS.mls []]).set j (OS.mls ((st u ++ [(v, l)]).map prD)), kvs, ?_, ?_⟩
    · have e : gSdefK (gVar 1) gu (gNewM gNil) ρ Ω = some (.obj j, Ω ++ [.mls []]) := by
        simp only [gSdefK, ap_var, h1, Option.bind_some, objN, S.here, dKO, dS, hu, keyD, gNewM, ap_nil, List.length_nil, Nat.zero_le, if_true, List.getElem?_append_left n0]
        have := S.here
        simp only [dS] at this
        simp only [this, Option.bind_some, dKO, hkl, if_true, hval, q, Option.map_some]
      simp only [sAppM, e, Option.bind_some, objN, hj, mlsO, et, hsl, if_true]
      rw [List.map_append]
      rfl
    · refine ⟨fun i hi => ?_, ?_, fun h j' q' => ?_, fun h q' => ?_, S.inj, by have := S.len; omega, fun h => ?_⟩
      · rw [List.getElem?_set_ne (by omega), List.getElem?_append_left (by omega)]; exact S.pre i hi
      · rw [List.getElem?_set_ne (by omega)]; exact hx
      · obtain ⟨k1, k2⟩ := S.yes h j' q'
        refine ⟨k1, ?_⟩
        unfold addS
        by_cases z : u = h
        · subst z
          rw [q] at q'; cases q'
          rw [if_pos rfl]
          exact get_set hj
        · rw [if_neg z]
          have ne : j ≠ j' := fun y => z (S.inj u h j q (by rw [y]; exact q'))
          rw [List.getElem?_set_ne ne, List.getElem?_append_left (lt_of_get k2)]; exact k2
      · unfold addS
        by_cases z : u = h
        · subst z; rw [q] at q'; cases q'
        · rw [if_neg z]; exact S.no h q'
      · unfold addS
        have := S.sl h
        split
        · rw [List.length_append]; simp; omega
        · omega
  | none =>
    have e0 : st u = [] := S.no u q
    have hn : u ∉ kvs.map (·.1) := getA_none.mp q
    have hset : (Ω ++ [OS.mls []]).set Ω0.length (dS (putA kvs u Ω.length)) = Ω.set Ω0.length (dS (putA kvs u Ω.length)) ++ [.mls []] := List.set_append_left _ _ n0
    have hj : (Ω.set Ω0.length (dS (putA kvs u Ω.length)) ++ [OS.mls []])[Ω.length]? = some (.mls []) := by simp
    refine ⟨Ω.set Ω0.length (dS (putA kvs u Ω.length)) ++ [OS.mls [prD (v, l)]], putA kvs u Ω.length, ?_, ?_⟩
    · have e : gSdefK (gVar 1) gu (gNewM gNil) ρ Ω = some (.obj Ω.length, Ω.set Ω0.length (dS (putA kvs u Ω.length)) ++ [.mls []]) := by
        simp only [gSdefK, ap_var, h1, Option.bind_some, objN, S.here, dKO, dS, hu, keyD, gNewM, ap_nil, List.length_nil, Nat.zero_le, if_true, List.getElem?_append_left n0]
        have := S.here
        simp only [dS] at this
        simp only [this, Option.bind_some, dKO, hkl, if_true, hval, q, Option.map_none]
        have e1 : putD (mpA kI D.obj kvs) (Sum.inl u) (D.obj Ω.length) = mpA kI D.obj (putA kvs u Ω.length) := put_mp kI_inj D.obj kvs u Ω.length
        rw [e1]
        exact congrArg (fun z => some (D.obj Ω.length, z)) hset
      simp only [sAppM, e, Option.bind_some, objN, hj, mlsO, et, List.length_nil, big, Nat.zero_lt_succ, if_true]
      simp
    · have gp : ∀ h, getA (putA kvs u Ω.length) h = if h = u then some Ω.length else getA kvs h := fun h => getA_put kvs u h _
      refine ⟨fun i hi => ?_, ?_, fun h j' q' => ?_, fun h q' => ?_, fun h h' j' q1 q2 => ?_, ?_, fun h => ?_⟩
      · rw [List.getElem?_append_left (by rw [List.length_set]; omega), List.getElem?_set_ne (by omega)]; exact S.pre i hi
      · rw [List.getElem?_append_left (by rw [List.length_set]; omega)]; exact get_set S.here
      · rw [gp] at q'
        unfold addS
        by_cases z : h = u
        · subst z
          rw [if_pos rfl] at q'; cases q'
          rw [if_pos rfl, e0]
          exact ⟨n0, by simp⟩
        · rw [if_neg z] at q'
          rw [if_neg (fun y => z y.symm)]
          obtain ⟨k1, k2⟩ := S.yes h j' q'
          refine ⟨k1, ?_⟩
          rw [List.getElem?_append_left (by rw [List.length_set]; exact lt_of_get k2), List.getElem?_set_ne (by omega)]; exact k2
      · rw [gp] at q'
        unfold addS
        by_cases z : h = u
        · rw [if_pos z] at q'; cases q'
        · rw [if_neg z] at q'
          rw [if_neg (fun y => z y.symm)]; exact S.no h q'
      · rw [gp] at q1 q2
        have old : ∀ x j, getA kvs x = some j → j < Ω.length := fun x j qx => lt_of_get (S.yes x j qx).2
        by_cases z : h = u
        · by_cases z' : h' = u
          · rw [z, z']
          · rw [if_pos z] at q1; rw [if_neg z'] at q2; cases q1
            exact absurd (old h' _ q2) (Nat.lt_irrefl _)
        · by_cases z' : h' = u
          · rw [if_neg z] at q1; rw [if_pos z'] at q2; cases q2
            exact absurd (old h _ q1) (Nat.lt_irrefl _)
          · rw [if_neg z] at q1; rw [if_neg z'] at q2
            exact S.inj h h' j' q1 q2
      · have := len_putA kvs u Ω.length
        have := S.len
        omega
      · unfold addS
        have := S.sl h
        split
        · rw [List.length_append]; simp; omega
        · omega
theorem SI.congr {Ω0 Ω : List OS} {kvs : List (Int × Nat)} {st st' : Int → List (Int × Int)} {N : Nat} (S : SI Ω0 Ω kvs st N) (h : ∀ x, st x = st' x) : SI Ω0 Ω kvs st' N := by
  have e : st = st' := funext h
  rw [← e]; exact S
theorem steps_loop {Ω0 : List OS} {x0 : Sl} : ∀ (L : List Tie) (Ω : List OS) (kvs : List (Int × Nat)) (st : Int → List (Int × Int)) (N : Nat) (x2 x3 x4 : Sl), SI Ω0 Ω kvs st N → N + 2 * L.length < 100000 →
    ∃ Ω' kvs' y2 y3 y4, forD (bTup [2, 3, 4]) (sSeq (sAppM (gSdefK (gVar 1) (gVar 2) (gNewM gNil)) (gTup (gCons (gVar 3) (gCons (gVar 4) gNil)))) (sAppM (gSdefK (gVar 1) (gVar 3) (gNewM gNil)) (gTup (gCons (gVar 2) (gCons (gVar 4) gNil))))) (L.map tieD) [x0, .dat (.obj Ω0.length), x2, x3, x4] Ω
      = some (.nx [x0, .dat (.obj Ω0.length), y2, y3, y4] Ω') ∧ SI Ω0 Ω' kvs' (fun h => st h ++ stepsOf L h) (N + 2 * L.length)
  | [], Ω, kvs, st, N, x2, x3, x4, S, _ => ⟨Ω, kvs, x2, x3, x4, rfl, S.congr fun h => by simp [stepsOf]⟩
  | (a, b, l) :: L, Ω, kvs, st, N, x2, x3, x4, S, hN => by
    rw [List.length_cons] at hN
    obtain ⟨Ω1, k1, e1, S1⟩ := half_den (ρ := [x0, .dat (.obj Ω0.length), .dat (.int a), .dat (.int b), .dat (.int l)]) (gu := gVar 2) (gv := gVar 3) (gl := gVar 4) S (by omega) rfl (fun _ => rfl) (fun _ => rfl) fun _ => rfl
    obtain ⟨Ω2, k2, e2, S2⟩ := half_den (ρ := [x0, .dat (.obj Ω0.length), .dat (.int a), .dat (.int b), .dat (.int l)]) (gu := gVar 3) (gv := gVar 2) (gl := gVar 4) S1 (by omega) rfl (fun _ => rfl) (fun _ => rfl) fun _ => rfl
    obtain ⟨Ω3, k3, y2, y3, y4, e3, S3⟩ := steps_loop (x0 := x0) L Ω2 k2 _ (N + 1 + 1) (.dat (.int a)) (.dat (.int b)) (.dat (.int l)) S2 (by omega)
    refine ⟨Ω3, k3, y2, y3, y4, ?_, ?_⟩
    · rw [List.map_cons, for_cons]
      simp only [tieD, ap_bTup, bNames, List.set_cons_succ, List.set_cons_zero, ap_sSeq, e1, e2]
      exact e3
    · rw [List.length_cons, show N + 2 * (L.length + 1) = N + 1 + 1 + 2 * L.length by omega]
      refine S3.congr fun h => ?_
      unfold addS stepsOf
      rw [List.flatMap_cons, ← List.append_assoc]
      congr 1
      by_cases z1 : a = h
      · by_cases z2 : b = h
        · simp [z1, z2]
        · simp [z1, z2]
      · by_cases z2 : b = h
        · simp [z1, z2]
        · simp [z1, z2]
theorem steps_den {T : List Tie} (hT : T.length ≤ 1000) (Ω : List OS) : ∃ Ω' kvs, d_steps_by_house [.lst (T.map tieD)] Ω = some (.obj Ω.length, Ω') ∧ SI Ω Ω' kvs (stepsOf T) (2 * T.length) := by
  have S0 : SI Ω (Ω ++ [dS []]) [] (fun _ => []) 0 := ⟨fun i hi => List.getElem?_append_left hi, by simp, fun h j q => (by cases q), fun h _ => rfl, fun h h' j q => (by cases q), Nat.le_refl _, fun _ => Nat.le_refl _⟩
  obtain ⟨Ω', kvs, y2, y3, y4, e, S⟩ := steps_loop (Ω0 := Ω) (x0 := .dat (.lst (T.map tieD))) T _ _ _ 0 .und .und .und S0 (by omega)
  refine ⟨Ω', kvs, run_rt rfl ?_, by rw [Nat.zero_add] at S; exact S.congr fun h => List.nil_append _⟩
  refine (seq_nx (ρ' := [.dat (.lst (T.map tieD)), .dat (.obj Ω.length), .und, .und, .und]) (Ω' := Ω ++ [dS []]) (by simp [dS, mpA])).trans ?_
  refine (seq_nx (ρ' := [.dat (.lst (T.map tieD)), .dat (.obj Ω.length), y2, y3, y4]) (Ω' := Ω') ?_).trans ?_
  · simp only [ap_for, ap_seq, ap_var, List.getElem?_cons_zero, seq_lst]
    exact e
  simp
end Law
namespace Law
open PySem DL
/-! ### the program's fars -/
theorem nodup_le : ∀ {l m : List Int}, l.Nodup → (∀ x ∈ l, x ∈ m) → l.length ≤ m.length
  | [], m, _, _ => Nat.zero_le _
  | a :: l, m, hn, h => by
    obtain ⟨h1, h2⟩ := List.nodup_cons.mp hn
    have hm : a ∈ m := h a List.mem_cons_self
    have := nodup_le (l := l) (m := m.erase a) h2 fun x hx => (List.mem_erase_of_ne (fun z => h1 (by rw [← z]; exact hx))).mpr (h x (List.mem_cons_of_mem _ hx))
    rw [List.length_erase_of_mem hm] at this
    have : 0 < m.length := List.length_pos_of_mem hm
    rw [List.length_cons]
    omega
def In32 (x : Int) : Prop := 0 ≤ x ∧ x < 32
theorem in32_le {l : List Int} (hn : l.Nodup) (h : ∀ x ∈ l, In32 x) : l.length ≤ 32 := by
  have := nodup_le (m := (List.range 32).map fun (k : Nat) => (k : Int)) hn fun x hx => by
    obtain ⟨h1, h2⟩ := h x hx
    exact List.mem_map.mpr ⟨x.toNat, List.mem_range.mpr (by omega), by omega⟩
  simpa using this
section
variable {T : List Tie} {s : Int}
theorem wk_in (hs : In32 s) (hT : ∀ u v l, Stp T u v l → In32 v) {h w : Int} {k : Nat} (q : Wk T s h w k) : In32 h := by
  cases q with
  | nil => exact hs
  | snoc _ st => exact hT _ _ _ st
theorem far_len (hs : In32 s) (hT : ∀ u v l, Stp T u v l → In32 v) {m : Far} (hm : Sound T s m) (hn : (m.map (·.1)).Nodup) : m.length ≤ 32 := by
  have := in32_le hn fun x hx => by
    cases q : getA m x with
    | none => exact absurd hx (getA_none.mp q)
    | some d =>
      obtain ⟨k, w⟩ := hm x d q
      exact wk_in hs hT w
  rwa [List.length_map] at this
end
theorem nodup_lowA {m : Far} (h : (m.map (·.1)).Nodup) (v x : Int) : ((lowA m v x).map (·.1)).Nodup := nodup_putA h v _
theorem nodup_djS {B : Far} (h : (B.map (·.1)).Nodup) (A : Far) (d : Int) (x : Int × Int) : ((djS A d B x).map (·.1)).Nodup := by
  unfold djS
  split
  · exact nodup_lowA h _ _
  · exact h
theorem nodup_fold (A : Far) (d : Int) : ∀ (L : List (Int × Int)) (B : Far), (B.map (·.1)).Nodup → ((L.foldl (djS A d) B).map (·.1)).Nodup
  | [], B, h => h
  | x :: L, B, h => nodup_fold A d L _ (nodup_djS h A d x)
theorem len_djS (A : Far) (d : Int) (B : Far) (x : Int × Int) : (djS A d B x).length ≤ B.length + 1 := by
  unfold djS
  split
  · exact len_lowA _ _ _
  · omega
noncomputable def inS : SDen := sIf (gT (gDIn true (gVar 7) (gVar 3))) (sDPut (gVar 4) (gVar 7) (gCB min2D (gCons (gOp addD (gVar 6) (gVar 8)) (gCons (gDGet2 (gVar 4) (gVar 7) (gOp addD (gVar 6) (gVar 8))) gNil)))) sNext
theorem inS_den {x0 x1 x2 x5 : Sl} {a b : Nat} {Ω : List OS} {A B : Far} {d v l : Int} (ha : Ω[a]? = some (dF A)) (hb : Ω[b]? = some (dF B)) (hl : B.length < 100000) :
    inS [x0, x1, x2, .dat (.obj a), .dat (.obj b), x5, .dat (.int d), .dat (.int v), .dat (.int l)] Ω = some (.nx [x0, x1, x2, .dat (.obj a), .dat (.obj b), x5, .dat (.int d), .dat (.int v), .dat (.int l)] (Ω.set b (dF (djS A d B (v, l))))) := by
  unfold djS
  cases q : getA A v with
  | some e =>
    rw [if_neg (by intro z; cases z), set_same hb]
    simp [inS, ha, q]
  | none =>
    rw [if_pos rfl]
    have e : ((getA B v).map D.int).getD (.int (d + l)) = .int ((getA B v).getD (d + l)) := by cases getA B v <;> rfl
    have e2 : (if (getA B v).getD (d + l) < d + l then (getA B v).getD (d + l) else d + l) = (if d + l < (getA B v).getD (d + l) then d + l else (getA B v).getD (d + l)) := by split <;> split <;> omega
    simp only [inS, ap_sIf, ap_T, ap_din, ap_var, List.getElem?_cons_zero, List.getElem?_cons_succ, ha, hb, look_F, q, Option.map_none, Option.isSome_none, ap_op, ap_dget2, add_int, ap_dput, ap_CB, ap_cons, ap_nil, isDct_F, if_true, e, min_2, e2, put_F hl, Bool.not_false]
    rfl
theorem inL_den {x0 x1 x2 x5 : Sl} {a b j : Nat} {A : Far} {d : Int} {xs : List D} (hab : a ≠ b) (hjb : j ≠ b) : ∀ (L : List (Int × Int)) (Ω : List OS) (B : Far) (x7 x8 : Sl), Ω[a]? = some (dF A) → Ω[b]? = some (dF B) → Ω[j]? = some (.mls xs) → B.length + L.length < 100000 →
    ∃ y7 y8, DL.forM (bTup [7, 8]) inS j xs (L.map prD) [x0, x1, x2, .dat (.obj a), .dat (.obj b), x5, .dat (.int d), x7, x8] Ω = some (.nx [x0, x1, x2, .dat (.obj a), .dat (.obj b), x5, .dat (.int d), y7, y8] (Ω.set b (dF (L.foldl (djS A d) B))))
  | [], Ω, B, x7, x8, ha, hb, hj, _ => ⟨x7, x8, by
    rw [List.map_nil, List.foldl_nil, set_same hb]
    exact grd_pos hj⟩
  | (v, l) :: L, Ω, B, x7, x8, ha, hb, hj, hl => by
    rw [List.length_cons] at hl
    have l1 := len_djS A d B (v, l)
    obtain ⟨y7, y8, e⟩ := inL_den (x0 := x0) (x1 := x1) (x2 := x2) (x5 := x5) (a := a) (b := b) (j := j) (A := A) (d := d) (xs := xs) hab hjb L (Ω.set b (dF (djS A d B (v, l)))) (djS A d B (v, l)) (.dat (.int v)) (.dat (.int l))
      (by rw [List.getElem?_set_ne (Ne.symm hab)]; exact ha) (get_set hb) (by rw [List.getElem?_set_ne (Ne.symm hjb)]; exact hj) (by omega)
    refine ⟨y7, y8, ?_⟩
    rw [List.set_set] at e
    rw [List.map_cons, List.foldl_cons]
    unfold DL.forM
    rw [grd_pos hj]
    simp only [prD, ap_bTup, bNames, List.set_cons_succ, List.set_cons_zero, inS_den ha hb (show B.length < 100000 by omega)]
    exact e
/-! ### the nearest one -/
theorem mIx_best (nss : List (List Int)) : ∀ k j : Nat, j ≤ k → HT.lexLt (nss.getD j []) (nss.getD (L2.mIx nss k) []) = false
  | 0, j, h => by
    obtain rfl : j = 0 := by omega
    exact L2.lexLt_irrefl _
  | k + 1, j, h => by
    show HT.lexLt (nss.getD j []) (nss.getD (if HT.lexLt (nss.getD (k + 1) []) (nss.getD (L2.mIx nss k) []) then k + 1 else L2.mIx nss k) []) = false
    cases q : HT.lexLt (nss.getD (k + 1) []) (nss.getD (L2.mIx nss k) []) with
    | true =>
      simp only [if_true]
      by_cases e : j = k + 1
      · rw [e]; exact L2.lexLt_irrefl _
      · cases z : HT.lexLt (nss.getD j []) (nss.getD (k + 1) []) with
        | false => rfl
        | true =>
          have := L2.lexLt_trans _ _ _ z q
          rw [mIx_best nss k j (by omega)] at this
          cases this
    | false =>
      simp only [Bool.false_eq_true, if_false]
      by_cases e : j = k + 1
      · rw [e]; exact q
      · exact mIx_best nss k j (by omega)
theorem lex2 {a b c d : Int} (h : HT.lexLt [a, b] [c, d] = false) : c ≤ a := by
  simp only [HT.lexLt] at h
  by_cases z : a < c
  · simp [z] at h; omega
  · omega
def fnD (p : Int × Int) : D := .tup [.int p.2, .int p.1]
theorem keysT_fn : ∀ B : Far, keysT (B.map fnD) = some (B.map fun p => [p.2, p.1])
  | [] => rfl
  | p :: B => by
    show (match keyI (fnD p) with | some ns => (match keysT (B.map fnD) with | some nss => some (ns :: nss) | none => none) | none => none) = _
    rw [keysT_fn B]
    rfl
noncomputable def pickG : Den := gOp ixD (gMin (gCompK [none, some 4] (gVar 4) (bName 0) gTrue (gTup (gCons (gDGet (gVar 1) (gVar 0)) (gCons (gVar 0) gNil))))) (gC (.int 1))
theorem comp_fn {b : Nat} {Ω : List OS} {B : Far} (hb : Ω[b]? = some (.fzK (mpA kI D.int B))) : ∀ (L : Far) (x : Sl), (∀ p ∈ L, getA B p.1 = some p.2) → compD (bName 0) gTrue (gTup (gCons (gDGet (gVar 1) (gVar 0)) (gCons (gVar 0) gNil))) (L.map fun p => D.int p.1) [x, .dat (.obj b)] Ω = some (L.map fnD, Ω)
  | [], _, _ => rfl
  | p :: L, x, h => by
    have ih := comp_fn hb L (.dat (.int p.1)) fun q hq => h q (List.mem_cons_of_mem _ hq)
    have hv : lookO (.fzK (mpA kI D.int B)) (.int p.1) = some (some (.int p.2)) := by
      show some (valD (mpA kI D.int B) (kI p.1)) = _
      rw [val_mp kI_inj, h p List.mem_cons_self]; rfl
    have hg : gTup (gCons (gDGet (gVar 1) (gVar 0)) (gCons (gVar 0) gNil)) [.dat (.int p.1), .dat (.obj b)] Ω = some (fnD p, Ω) := by
      simp [hb, hv, fnD]
    rw [List.map_cons, comp_cons]
    simp only [ap_bName, List.set_cons_zero, ap_true, hg, ih]
    rfl
theorem pick_den {x0 x1 x2 x3 x5 x6 x7 x8 : Sl} {b : Nat} {Ω : List OS} {B : Far} (hb : Ω[b]? = some (dF B)) (hne : B ≠ []) (hn : (B.map (·.1)).Nodup) (hl : B.length ≤ 100000) :
    ∃ h d, getA B h = some d ∧ (∀ v e, getA B v = some e → d ≤ e) ∧ pickG [x0, x1, x2, x3, .dat (.obj b), x5, x6, x7, x8] Ω = some (.int h, Ω) := by
  have hz : (Ω.set b (.fzK (mpA kI D.int B)))[b]? = some (.fzK (mpA kI D.int B)) := get_set hb
  have hk : ((mpA kI D.int B).map fun x => ofK x.1) = B.map fun p => D.int p.1 := by unfold mpA; rw [List.map_map]; rfl
  have hc : gCompK [none, some 4] (gVar 4) (bName 0) gTrue (gTup (gCons (gDGet (gVar 1) (gVar 0)) (gCons (gVar 0) gNil))) [x0, x1, x2, x3, .dat (.obj b), x5, x6, x7, x8] Ω = some (.lst (B.map fnD), Ω) := by
    have e := comp_fn hz B .und fun p hp => getA_of hn hp
    rw [← hk] at e
    have ht : thawO b (mpA kI D.int B) (Ω.set b (.fzK (mpA kI D.int B))) = some Ω := by
      unfold thawO
      rw [hz]
      show (if (mpA kI D.int B).map (·.1) = (mpA kI D.int B).map (·.1) then some ((Ω.set b (.fzK (mpA kI D.int B))).set b (.dK (mpA kI D.int B))) else none) = _
      rw [if_pos rfl, List.set_set]
      exact congrArg some (set_same hb)
    have hi : innerD [none, some 4] [x0, x1, x2, x3, .dat (.obj b), x5, x6, x7, x8] = [.und, .dat (.obj b)] := rfl
    simp only [gCompK, ap_var, List.getElem?_cons_zero, List.getElem?_cons_succ, Option.bind_some, objN, hb, dKO_F]
    rw [if_pos (by rw [mpA_length]; exact hl), hi, e]
    simp only [Option.bind_some, ht]
  have hlp : 0 < B.length := by cases B with | nil => exact absurd rfl hne | cons _ _ => exact Nat.zero_lt_succ _
  have hm := L2.mIx_le (B.map fun p => [p.2, p.1]) (B.length - 1)
  have hlt : L2.mIx (B.map fun p => [p.2, p.1]) (B.length - 1) < B.length := by omega
  have gg : ∀ j, (hj : j < B.length) → (B.map fun p => [p.2, p.1]).getD j [] = [B[j].2, B[j].1] := fun j hj => by
    rw [List.getD_eq_getElem?_getD, List.getElem?_map, List.getElem?_eq_getElem hj]; rfl
  refine ⟨B[L2.mIx (B.map fun p => [p.2, p.1]) (B.length - 1)].1, B[L2.mIx (B.map fun p => [p.2, p.1]) (B.length - 1)].2, getA_of hn (List.getElem_mem _), fun v e q => ?_, ?_⟩
  · obtain ⟨j, hj, ej⟩ := List.mem_iff_getElem.mp (getA_mem q)
    have := mIx_best (B.map fun p => [p.2, p.1]) (B.length - 1) j (by omega)
    rw [gg j hj, gg _ hlt, ej] at this
    exact lex2 this
  · have e1 : gMin (gCompK [none, some 4] (gVar 4) (bName 0) gTrue (gTup (gCons (gDGet (gVar 1) (gVar 0)) (gCons (gVar 0) gNil)))) [x0, x1, x2, x3, .dat (.obj b), x5, x6, x7, x8] Ω = some (fnD B[L2.mIx (B.map fun p => [p.2, p.1]) (B.length - 1)], Ω) := by
      unfold gMin
      rw [hc]
      have em : minD (B.map fun p => [p.2, p.1]) (B.map fnD) = fnD B[L2.mIx (B.map fun p => [p.2, p.1]) (B.length - 1)] := by
        unfold minD
        rw [List.length_map, List.getD_eq_getElem?_getD, List.getElem?_map, List.getElem?_eq_getElem hlt]; rfl
      rw [← em]
      have ek := keysT_fn B
      cases B with
      | nil => exact absurd rfl hne
      | cons p B =>
        show (match keysT (fnD p :: B.map fnD) with | some nss => some (minD nss (fnD p :: B.map fnD), Ω) | none => none) = _
        rw [show fnD p :: B.map fnD = (p :: B).map fnD from rfl, ek]
    have ei : L2.atI [D.int B[L2.mIx (B.map fun p => [p.2, p.1]) (B.length - 1)].2, D.int B[L2.mIx (B.map fun p => [p.2, p.1]) (B.length - 1)].1] 1 = some (.int B[L2.mIx (B.map fun p => [p.2, p.1]) (B.length - 1)].1) := by
      have := atI_nat' [D.int B[L2.mIx (B.map fun p => [p.2, p.1]) (B.length - 1)].2, D.int B[L2.mIx (B.map fun p => [p.2, p.1]) (B.length - 1)].1] 1 (by simp)
      simpa using this
    simp only [pickG, ap_op, e1, ap_c, fnD, ix_tup, ei]
end Law
namespace Law
open PySem DL
noncomputable def bodyS : SDen := sSeq (sSet 5 pickG) (sSeq (sSet 6 (gDPop (gVar 4) (gVar 5))) (sSeq (sDPut (gVar 3) (gVar 5) (gVar 6)) (sForM (gDGet2 (gVar 2) (gVar 5) (gNewM gNil)) (bTup [7, 8]) inS)))
structure FI (Ω1 Ω : List OS) (A B : Far) : Prop where
  keep : ∀ i, i < Ω1.length → Ω[i]? = Ω1[i]?
  a : Ω[Ω1.length]? = some (dF A)
  b : Ω[Ω1.length + 1]? = some (dF B)
/-- what the ties are -/
structure OkT (T : List Tie) (s : Int) : Prop where
  s32 : In32 s
  t32 : ∀ u v l, Stp T u v l → In32 v
  pos : ∀ u v l, Stp T u v l → 0 ≤ l
  few : T.length ≤ 1000
structure WI (T : List Tie) (s : Int) (Ω1 Ω : List OS) (A B : Far) : Prop where
  F : FI Ω1 Ω A B
  D : Dj T s A B
  na : (A.map (·.1)).Nodup
  nb : (B.map (·.1)).Nodup
section
variable {T : List Tie} {s : Int} {Ω0 Ω1 Ω : List OS} {kvs : List (Int × Nat)} {A B : Far} {x0 x1 x5 x6 x7 x8 : Sl}
theorem body_den (O : OkT T s) (S : SI Ω0 Ω1 kvs (stepsOf T) (2 * T.length)) (W : WI T s Ω1 Ω A B) (hne : B ≠ []) :
    ∃ Ω' A' B' y5 y6 y7 y8, bodyS [x0, x1, .dat (.obj Ω0.length), .dat (.obj Ω1.length), .dat (.obj (Ω1.length + 1)), x5, x6, x7, x8] Ω = some (.nx [x0, x1, .dat (.obj Ω0.length), .dat (.obj Ω1.length), .dat (.obj (Ω1.length + 1)), y5, y6, y7, y8] Ω') ∧ WI T s Ω1 Ω' A' B' ∧ A'.length = A.length + 1 := by
  have lA := far_len O.s32 O.t32 W.D.sa W.na
  have lB := far_len O.s32 O.t32 W.D.sb W.nb
  have n0 : Ω0.length < Ω1.length := lt_of_get S.here
  obtain ⟨h, d, hb, hm, e1⟩ := pick_den (x0 := x0) (x1 := x1) (x2 := .dat (.obj Ω0.length)) (x3 := .dat (.obj Ω1.length)) (x5 := x5) (x6 := x6) (x7 := x7) (x8 := x8) W.F.b hne W.nb (by omega)
  have D' := dj_next O.pos W.D hb hm
  have noA : getA A h = none := W.D.ap h (by rw [hb]; intro z; cases z)
  have g2b : (Ω.set (Ω1.length + 1) (dF (cutA B h)))[Ω1.length + 1]? = some (dF (cutA B h)) := get_set W.F.b
  have g2a : (Ω.set (Ω1.length + 1) (dF (cutA B h)))[Ω1.length]? = some (dF A) := by rw [List.getElem?_set_ne (by omega)]; exact W.F.a
  generalize hΩ3 : (Ω.set (Ω1.length + 1) (dF (cutA B h))).set Ω1.length (dF (putA A h d)) = Ω3
  have g3a : Ω3[Ω1.length]? = some (dF (putA A h d)) := by rw [← hΩ3]; exact get_set g2a
  have g3b : Ω3[Ω1.length + 1]? = some (dF (cutA B h)) := by rw [← hΩ3, List.getElem?_set_ne (by omega)]; exact g2b
  have g3k : ∀ i, i < Ω1.length → Ω3[i]? = Ω1[i]? := fun i hi => by rw [← hΩ3, List.getElem?_set_ne (by omega), List.getElem?_set_ne (by omega)]; exact W.F.keep i hi
  have l3 : Ω1.length + 1 < Ω3.length := lt_of_get g3b
  have g3s : Ω3[Ω0.length]? = some (dS kvs) := by rw [g3k _ n0]; exact S.here
  have g4s : (Ω3 ++ [OS.mls []])[Ω0.length]? = some (dS kvs) := by rw [List.getElem?_append_left (by omega)]; exact g3s
  obtain ⟨j, ej, gj, jb⟩ : ∃ j, ((getA kvs h).map D.obj).getD (.obj Ω3.length) = .obj j ∧ (Ω3 ++ [OS.mls []])[j]? = some (.mls ((stepsOf T h).map prD)) ∧ j ≠ Ω1.length + 1 := by
    cases q : getA kvs h with
    | none => exact ⟨Ω3.length, rfl, by rw [S.no h q]; simp, by omega⟩
    | some j =>
      obtain ⟨j1, j2⟩ := S.yes h j q
      have jl := lt_of_get j2
      exact ⟨j, rfl, by rw [List.getElem?_append_left (by omega), g3k j jl]; exact j2, by omega⟩
  have g4a : (Ω3 ++ [OS.mls []])[Ω1.length]? = some (dF (putA A h d)) := by rw [List.getElem?_append_left (by omega)]; exact g3a
  have g4b : (Ω3 ++ [OS.mls []])[Ω1.length + 1]? = some (dF (cutA B h)) := by rw [List.getElem?_append_left l3]; exact g3b
  have lc := len_cutA B h
  have ls := S.sl h
  have fw := O.few
  obtain ⟨y7, y8, e4⟩ := inL_den (x0 := x0) (x1 := x1) (x2 := .dat (.obj Ω0.length)) (x5 := .dat (.int h)) (a := Ω1.length) (b := Ω1.length + 1) (A := putA A h d) (d := d) (xs := (stepsOf T h).map prD) (by omega) jb (stepsOf T h) (Ω3 ++ [.mls []]) (cutA B h) x7 x8 g4a g4b gj (by omega)
  refine ⟨(Ω3 ++ [OS.mls []]).set (Ω1.length + 1) (dF ((stepsOf T h).foldl (djS (putA A h d) d) (cutA B h))), _, _, .dat (.int h), .dat (.int d), y7, y8, ?_, ⟨⟨fun i hi => ?_, ?_, ?_⟩, D', nodup_putA W.na h d, nodup_fold _ _ _ _ (nodup_cutA W.nb h)⟩, ?_⟩
  · unfold bodyS
    refine (seq_nx (ρ' := [x0, x1, .dat (.obj Ω0.length), .dat (.obj Ω1.length), .dat (.obj (Ω1.length + 1)), .dat (.int h), x6, x7, x8]) (Ω' := Ω) ?_).trans ?_
    · simp only [ap_set, e1, List.set_cons_succ, List.set_cons_zero]
    refine (seq_nx (ρ' := [x0, x1, .dat (.obj Ω0.length), .dat (.obj Ω1.length), .dat (.obj (Ω1.length + 1)), .dat (.int h), .dat (.int d), x7, x8]) (Ω' := Ω.set (Ω1.length + 1) (dF (cutA B h))) ?_).trans ?_
    · simp only [ap_set, ap_dpop, ap_var, List.getElem?_cons_zero, List.getElem?_cons_succ, W.F.b, isDct_F, if_true, drop_F hb, List.set_cons_succ, List.set_cons_zero]
    refine (seq_nx (ρ' := [x0, x1, .dat (.obj Ω0.length), .dat (.obj Ω1.length), .dat (.obj (Ω1.length + 1)), .dat (.int h), .dat (.int d), x7, x8]) (Ω' := Ω3) ?_).trans ?_
    · simp only [ap_dput, ap_var, List.getElem?_cons_zero, List.getElem?_cons_succ, g2a, put_F (show A.length < 100000 by omega), hΩ3]
    have e5 : gDGet2 (gVar 2) (gVar 5) (gNewM gNil) [x0, x1, .dat (.obj Ω0.length), .dat (.obj Ω1.length), .dat (.obj (Ω1.length + 1)), .dat (.int h), .dat (.int d), x7, x8] Ω3 = some (.obj j, Ω3 ++ [.mls []]) := by
      simp only [ap_dget2, ap_var, List.getElem?_cons_zero, List.getElem?_cons_succ, g3s, isDct_S, if_true, gNewM, ap_nil, Option.bind_some, List.length_nil, Nat.zero_le, g4s, look_S, ej]
    simp only [sForM, e5, Option.bind_some, objN, gj, mlsO]
    exact e4
  · rw [List.getElem?_set_ne (by omega), List.getElem?_append_left (by omega)]; exact g3k i hi
  · rw [List.getElem?_set_ne (by omega)]; exact g4a
  · exact get_set g4b
  · rw [putA_new (getA_none.mp noA), List.length_append]; rfl
theorem loop_den (O : OkT T s) (S : SI Ω0 Ω1 kvs (stepsOf T) (2 * T.length)) : ∀ (n : Nat) (Ω : List OS) (A B : Far) (x5 x6 x7 x8 : Sl), WI T s Ω1 Ω A B → 33 - A.length < n →
    ∃ Ω' A' y5 y6 y7 y8, whileD (gT (gNeE (gVar 4))) bodyS n [x0, x1, .dat (.obj Ω0.length), .dat (.obj Ω1.length), .dat (.obj (Ω1.length + 1)), x5, x6, x7, x8] Ω = some (.nx [x0, x1, .dat (.obj Ω0.length), .dat (.obj Ω1.length), .dat (.obj (Ω1.length + 1)), y5, y6, y7, y8] Ω') ∧ WI T s Ω1 Ω' A' []
  | 0, Ω, A, B, x5, x6, x7, x8, W, hn => absurd hn (Nat.not_lt_zero _)
  | n + 1, Ω, A, B, x5, x6, x7, x8, W, hn => by
    have lA := far_len O.s32 O.t32 W.D.sa W.na
    rw [while_def]
    by_cases z : B = []
    · subst z
      refine ⟨Ω, A, x5, x6, x7, x8, ?_, W⟩
      have e : gT (gNeE (gVar 4)) [x0, x1, .dat (.obj Ω0.length), .dat (.obj Ω1.length), .dat (.obj (Ω1.length + 1)), x5, x6, x7, x8] Ω = some (false, Ω) := by
        simp [gNeE, W.F.b, objN, mpA]
      rw [e]
    · obtain ⟨Ω2, A2, B2, y5, y6, y7, y8, e2, W2, l2⟩ := body_den (x0 := x0) (x1 := x1) (x5 := x5) (x6 := x6) (x7 := x7) (x8 := x8) O S W z
      obtain ⟨Ω3, A3, z5, z6, z7, z8, e3, W3⟩ := loop_den O S n Ω2 A2 B2 y5 y6 y7 y8 W2 (by omega)
      refine ⟨Ω3, A3, z5, z6, z7, z8, ?_, W3⟩
      have hz : mpA kI D.int B ≠ [] := fun y => z (by cases B with | nil => rfl | cons _ _ => cases y)
      have e : gT (gNeE (gVar 4)) [x0, x1, .dat (.obj Ω0.length), .dat (.obj Ω1.length), .dat (.obj (Ω1.length + 1)), x5, x6, x7, x8] Ω = some (true, Ω) := by
        simp [gNeE, W.F.b, objN, hz]
      rw [e]
      simp only [e2]
      exact e3
theorem fars_den (O : OkT T s) (Ω : List OS) : ∃ (Ω' : List OS) (n : Nat) (F : Far), d_fars [.lst (T.map tieD), .int s] Ω = some (.obj n, Ω') ∧ Ω.length ≤ n ∧ (∀ i, i < Ω.length → Ω'[i]? = Ω[i]?) ∧ Ω'[n]? = some (dF F) ∧ Sound T s F ∧ Full T s F ∧ (F.map (·.1)).Nodup := by
  obtain ⟨Ω1, kvs, e1, S⟩ := steps_den O.few Ω
  have n0 : Ω.length < Ω1.length := lt_of_get S.here
  have W0 : WI T s Ω1 (Ω1 ++ [dF []] ++ [dF [(s, 0)]]) [] [(s, 0)] := ⟨⟨fun i hi => by rw [List.append_assoc, List.getElem?_append_left hi], by simp, by simp⟩, dj_start T s, by simp, by simp⟩
  obtain ⟨Ω', A, y5, y6, y7, y8, e2, W⟩ := loop_den (x0 := .dat (.lst (T.map tieD))) (x1 := .dat (.int s)) O S 1000 _ [] [(s, 0)] .und .und .und .und W0 (by simp)
  refine ⟨Ω', Ω1.length, A, run_rt rfl ?_, by omega, fun i hi => by rw [W.F.keep i (by omega)]; exact S.pre i hi, W.F.a, W.D.sa, dj_full W.D, W.na⟩
  refine (seq_nx (ρ' := [.dat (.lst (T.map tieD)), .dat (.int s), .dat (.obj Ω.length), .und, .und, .und, .und, .und, .und]) (Ω' := Ω1) (by simp [e1])).trans ?_
  refine (seq_nx (ρ' := [.dat (.lst (T.map tieD)), .dat (.int s), .dat (.obj Ω.length), .dat (.obj Ω1.length), .und, .und, .und, .und, .und]) (Ω' := Ω1 ++ [dF []]) (by simp [dF, mpA])).trans ?_
  refine (seq_nx (ρ' := [.dat (.lst (T.map tieD)), .dat (.int s), .dat (.obj Ω.length), .dat (.obj Ω1.length), .dat (.obj (Ω1.length + 1)), .und, .und, .und, .und]) (Ω' := Ω1 ++ [dF []] ++ [dF [(s, 0)]]) ?_).trans ?_
  · simp [gDisp1, keyD, dKO, dF, mpA, kI]
  refine (seq_nx e2).trans ?_
  simp
end
end Law
namespace Law
open PySem DL
/-! ### the draws -/
theorem mulK (a : Int) : mulD (.int a) (.int 6364136223846793005) = some (.int (a * 6364136223846793005)) := grd_pos (.inr ⟨by decide, by decide⟩)
theorem mulL {a : Int} (b : Int) (h : -1000000000000 ≤ a ∧ a ≤ 1000000000000) : mulD (.int a) (.int b) = some (.int (a * b)) := grd_pos (.inl ⟨by omega, by omega⟩)
theorem mulR (a : Int) {b : Int} (h : -1000000000000 ≤ b ∧ b ≤ 1000000000000) : mulD (.int a) (.int b) = some (.int (a * b)) := grd_pos (.inr ⟨by omega, by omega⟩)
theorem mixA (X0 : Sl) (Ω : List OS) : ∀ (ns : List Int) (fs : List Int) (m : Int) (x : Sl), fs.length + ns.length ≤ 63 → ∃ (gs : List Int) (m' : Int) (y : Sl), gs.length = fs.length + ns.length ∧
    forD (bName 3) (sSeq (sSet 2 (gOp modD (gOp addD (gOp addD (gOp mulD (gVar 2) (gC (.int 6364136223846793005))) (gVar 3)) (gC (.int 1442695040888963407))) (gC (.int 1000000000000000003)))) (sApp 1 (gVar 2))) (ns.map D.int) [X0, .own (fs.map D.int), .dat (.int m), x] Ω
      = some (.nx [X0, .own (gs.map D.int), .dat (.int m'), y] Ω)
  | [], fs, m, x, _ => ⟨fs, m, x, by simp, rfl⟩
  | n :: ns, fs, m, x, hl => by
    rw [List.length_cons] at hl
    obtain ⟨gs, m', y, h1, h3⟩ := mixA X0 Ω ns (fs ++ [(m * 6364136223846793005 + n + 1442695040888963407) % 1000000000000000003]) ((m * 6364136223846793005 + n + 1442695040888963407) % 1000000000000000003) (.dat (.int n)) (by simp; omega)
    refine ⟨gs, m', y, by simp at h1 ⊢; omega, ?_⟩
    have hb : fs.length < 100000 := by omega
    rw [← h3, List.map_cons, for_cons]
    simp [mulK, hb]
theorem mixed_den {ns : List Int} (hn : ns.length ≤ 63) (Ω : List OS) : ∃ xs : List Int, xs.length ≤ 63 ∧ d_l_mixed [.scr ns] Ω = some (.lst (xs.map D.int), Ω) := by
  obtain ⟨gs, m, y, h1, h3⟩ := mixA (.dat (.scr ns)) Ω ns [] 1 .und (by simpa using hn)
  rw [List.length_nil, Nat.zero_add] at h1
  refine ⟨gs, by omega, run_rt rfl ?_⟩
  refine (seq_nx (ρ' := [.dat (.scr ns), .own [], .und, .und]) (Ω' := Ω) (by simp)).trans ?_
  refine (seq_nx (ρ' := [.dat (.scr ns), .own [], .dat (.int 1), .und]) (Ω' := Ω) (by simp)).trans ?_
  refine (seq_nx (ρ' := [.dat (.scr ns), .own (gs.map D.int), .dat (.int m), y]) (Ω' := Ω) ?_).trans ?_
  · simp only [ap_for, ap_seq, ap_var, List.getElem?_cons_zero, seq_scr]
    exact h3
  simp [frz]
theorem cell_den (xs : List Int) {k : Int} (h0 : 0 ≤ k) (h1 : k ≤ 1000) : ∃ c : Int, ∀ Ω, d_l_cell_at [.lst (xs.map D.int), .int k] Ω = some (.int c, Ω) := by
  by_cases hk : k < (xs.length : Int)
  · have hl : k.toNat < xs.length := by omega
    have h2 : L2.atI (xs.map D.int) k = some (.int xs[k.toNat]) := by rw [atI_map, atI_of h0 hl]; rfl
    exact ⟨xs[k.toNat], fun Ω => run_rt rfl (seq_rt (by simp [hk, h2]))⟩
  · refine ⟨(k + 3) * (k + 7) * 7919, fun Ω => run_rt rfl ((seq_nx (ρ' := [.dat (.lst (xs.map D.int)), .dat (.int k)]) (Ω' := Ω) (by simp [hk])).trans ?_)⟩
    simp [mulL (k + 7) (a := k + 3) (by omega), mulR ((k + 3) * (k + 7)) (b := 7919) (by decide)]
def mixX (c k : Int) : Int := (c + 104729 * k + 7919 * k * k) % 998244353
def mixZ (c k : Int) : Int := mixX c k * mixX c k % 998244353 * 1000003 % 998244353
theorem mix_den (c : Int) {k : Int} (h0 : -1000 ≤ k) (h1 : k ≤ 1000) (Ω : List OS) : d_l_mix [.int c, .int k] Ω = some (.int (mixZ c k), Ω) := by
  have b0 : 0 ≤ mixX c k := Int.emod_nonneg _ (by decide)
  have b1 : mixX c k < 998244353 := Int.emod_lt_of_pos _ (by decide)
  refine run_rt rfl ((seq_nx (ρ' := [.dat (.int c), .dat (.int k), .dat (.int (mixX c k))]) (Ω' := Ω) ?_).trans ?_)
  · simp [mulL k (a := 104729) (by decide), mulL k (a := 7919) (by decide), mulR (7919 * k) (b := k) (by omega), mixX]
  · simp [mulL (mixX c k) (a := mixX c k) (by omega), mulR (mixX c k * mixX c k % 998244353) (b := 1000003) (by decide), mixZ]
end Law
namespace Law
open PySem DL
/-! ### the ties drawn -/
structure GdT (V : List Int) (fs : List Tie) : Prop where
  a : ∀ t ∈ fs, t.1 ∈ V
  b : ∀ t ∈ fs, t.2.1 ∈ V
  l : ∀ t ∈ fs, 1 ≤ t.2.2
theorem GdT.snoc {V : List Int} {fs : List Tie} (h : GdT V fs) {t : Tie} (h1 : t.1 ∈ V) (h2 : t.2.1 ∈ V) (h3 : 1 ≤ t.2.2) : GdT V (fs ++ [t]) := by
  constructor
  · intro x hx; rcases List.mem_append.mp hx with hx | hx
    · exact h.a x hx
    · rw [List.mem_singleton.mp hx]; exact h1
  · intro x hx; rcases List.mem_append.mp hx with hx | hx
    · exact h.b x hx
    · rw [List.mem_singleton.mp hx]; exact h2
  · intro x hx; rcases List.mem_append.mp hx with hx | hx
    · exact h.l x hx
    · rw [List.mem_singleton.mp hx]; exact h3
noncomputable def addB : SDen := sSeq (sSet 10 (gOp addD (gOp mulD (gVar 8) (gC (.int 8))) (gVar 9))) (sSeq (sSet 11 (gCall d_l_cell_at (gCons (gVar 0) (gCons (gOp addD (gOp addD (gVar 1) (gC (.int 1))) (gOp modD (gVar 10) (gC (.int 24)))) gNil)))) (sIf (gT (gOp ltD (gOp modD (gCall d_l_mix (gCons (gVar 11) (gCons (gOp addD (gC (.int 4)) (gVar 10)) gNil))) (gC (.int 5))) (gOp addD (gC (.int 1)) (gOp modD (gCall d_l_mix (gCons (gVar 3) (gCons (gC (.int 5)) gNil))) (gC (.int 4)))))) (sSeq (sSet 12 (gOp addD (gC (.int 1)) (gOp modD (gCall d_l_mix (gCons (gVar 11) (gCons (gOp addD (gC (.int 70)) (gVar 10)) gNil))) (gOp ixD (gLst (gCons (gC (.int 3)) (gCons (gC (.int 3)) (gCons (gVar 2) gNil)))) (gOp modD (gCall d_l_mix (gCons (gVar 3) (gCons (gC (.int 6)) gNil))) (gC (.int 3))))))) (sApp 7 (gTup (gCons (gOp ixD (gVar 6) (gVar 8)) (gCons (gOp ixD (gVar 6) (gVar 9)) (gCons (gVar 12) gNil)))))) sNext))
theorem at3 {β : Type} {a b c : β} {i : Int} (h : i = 0 ∨ i = 1 ∨ i = 2) : L2.atI [a, b, c] i = some (if i = 2 then c else if i = 1 then b else a) := by
  rcases h with rfl | rfl | rfl
  · have := atI_nat' [a, b, c] 0 (by simp)
    simpa using this
  · have := atI_nat' [a, b, c] 1 (by simp)
    simpa using this
  · have := atI_nat' [a, b, c] 2 (by simp)
    simpa using this
section
variable {xs V : List Int} {c st mn : Int} {Ω : List OS}
theorem addB_den {fs : List Tie} {k j : Int} {x10 x11 x12 : Sl} (hV : V.length ≤ 8) (hk0 : 0 ≤ k) (hk : k < V.length) (hj0 : 0 ≤ j) (hj : j < V.length) (hf : fs.length < 1000) (G : GdT V fs) :
    ∃ gs y10 y11 y12, addB [.dat (.lst (xs.map D.int)), .dat (.int 1), .dat (.int 99), .dat (.int c), .dat (.int st), .dat (.int mn), .dat (.lst (V.map D.int)), .own (fs.map tieD), .dat (.int k), .dat (.int j), x10, x11, x12] Ω
      = some (.nx [.dat (.lst (xs.map D.int)), .dat (.int 1), .dat (.int 99), .dat (.int c), .dat (.int st), .dat (.int mn), .dat (.lst (V.map D.int)), .own (gs.map tieD), .dat (.int k), .dat (.int j), y10, y11, y12] Ω) ∧ GdT V gs ∧ gs.length ≤ fs.length + 1 := by
  obtain ⟨m, hm⟩ := cell_den xs (k := 2 + (k * 8 + j) % 24) (by omega) (by omega)
  have i3 : mixZ c 6 % 3 = 0 ∨ mixZ c 6 % 3 = 1 ∨ mixZ c 6 % 3 = 2 := by omega
  have vk : L2.atI (V.map D.int) k = some (.int V[k.toNat]) := by rw [atI_map, atI_of hk0 (by omega)]; rfl
  have vj : L2.atI (V.map D.int) j = some (.int V[j.toNat]) := by rw [atI_map, atI_of hj0 (by omega)]; rfl
  have m1 := mix_den m (k := 4 + (k * 8 + j)) (by omega) (by omega)
  have m2 := mix_den m (k := 70 + (k * 8 + j)) (by omega) (by omega)
  have m3 := mix_den c (k := 5) (by decide) (by decide)
  have m4 := mix_den c (k := 6) (by decide) (by decide)
  have hfl : fs.length < 100000 := by omega
  have mk8 := mulR k (b := 8) (by decide)
  unfold addB
  by_cases hc : mixZ m (4 + (k * 8 + j)) % 5 < 1 + mixZ c 5 % 4
  · have ge : 1 ≤ 1 + mixZ m (70 + (k * 8 + j)) % (if mixZ c 6 % 3 = 2 then 99 else 3) := by
      have : 0 ≤ mixZ m (70 + (k * 8 + j)) % (if mixZ c 6 % 3 = 2 then 99 else 3) := Int.emod_nonneg _ (by split <;> decide)
      omega
    refine ⟨fs ++ [(V[k.toNat], V[j.toNat], 1 + mixZ m (70 + (k * 8 + j)) % (if mixZ c 6 % 3 = 2 then 99 else 3))], .dat (.int (k * 8 + j)), .dat (.int m), .dat (.int (1 + mixZ m (70 + (k * 8 + j)) % (if mixZ c 6 % 3 = 2 then 99 else 3))), ?_, G.snoc (List.getElem_mem _) (List.getElem_mem _) ge, by simp⟩
    have e3 : L2.atI [D.int 3, D.int 3, D.int 99] (mixZ c 6 % 3) = some (.int (if mixZ c 6 % 3 = 2 then 99 else 3)) := by
      rw [at3 i3]
      rcases i3 with z | z | z <;> rw [z] <;> rfl
    have e4 : modD (.int (mixZ m (70 + (k * 8 + j)))) (.int (if mixZ c 6 % 3 = 2 then 99 else 3)) = some (.int (mixZ m (70 + (k * 8 + j)) % (if mixZ c 6 % 3 = 2 then 99 else 3))) := by
      split <;> simp
    simp [mk8, hm, m1, m2, m3, m4, hc, e3, e4, vk, vj, hfl, tieD]
  · refine ⟨fs, .dat (.int (k * 8 + j)), .dat (.int m), x12, ?_, G, by omega⟩
    simp [mk8, hm, m1, m3, hc]
theorem inner_den (hV : V.length ≤ 8) {k : Int} (hk0 : 0 ≤ k) (hk : k < V.length) : ∀ (js : List Int) (fs : List Tie) (x9 x10 x11 x12 : Sl), (∀ j ∈ js, 0 ≤ j ∧ j < V.length) → fs.length + js.length ≤ 1000 → GdT V fs →
    ∃ gs y9 y10 y11 y12, forD (bName 9) addB (js.map D.int) [.dat (.lst (xs.map D.int)), .dat (.int 1), .dat (.int 99), .dat (.int c), .dat (.int st), .dat (.int mn), .dat (.lst (V.map D.int)), .own (fs.map tieD), .dat (.int k), x9, x10, x11, x12] Ω
      = some (.nx [.dat (.lst (xs.map D.int)), .dat (.int 1), .dat (.int 99), .dat (.int c), .dat (.int st), .dat (.int mn), .dat (.lst (V.map D.int)), .own (gs.map tieD), .dat (.int k), y9, y10, y11, y12] Ω) ∧ GdT V gs ∧ gs.length ≤ fs.length + js.length
  | [], fs, x9, x10, x11, x12, _, _, G => ⟨fs, x9, x10, x11, x12, rfl, G, Nat.le_refl _⟩
  | j :: js, fs, x9, x10, x11, x12, hj, hf, G => by
    rw [List.length_cons] at hf
    obtain ⟨gs, y10, y11, y12, e1, G1, l1⟩ := addB_den (xs := xs) (V := V) (c := c) (st := st) (mn := mn) (Ω := Ω) (k := k) (j := j) (x10 := x10) (x11 := x11) (x12 := x12) hV hk0 hk (hj j List.mem_cons_self).1 (hj j List.mem_cons_self).2 (by omega) G
    obtain ⟨hs, z9, z10, z11, z12, e2, G2, l2⟩ := inner_den hV hk0 hk js gs (.dat (.int j)) y10 y11 y12 (fun x hx => hj x (List.mem_cons_of_mem _ hx)) (by omega) G1
    refine ⟨hs, z9, z10, z11, z12, ?_, G2, by rw [List.length_cons]; omega⟩
    rw [List.map_cons, for_cons]
    simp only [ap_bName, List.set_cons_succ, List.set_cons_zero, e1]
    exact e2
theorem upD_ints (lo : Int) (n : Nat) : upD lo n = ((List.range n).map fun (k : Nat) => lo + (k : Int)).map D.int := by simp [upD]
theorem outer_den (hV : V.length ≤ 8) (hmn : mn = V.length) : ∀ (ks : List Int) (fs : List Tie) (x8 x9 x10 x11 x12 : Sl), (∀ k ∈ ks, 0 ≤ k ∧ k < V.length) → fs.length + 8 * ks.length ≤ 1000 → GdT V fs →
    ∃ gs y8 y9 y10 y11 y12, forD (bName 8) (sFor (gRng rng2 (gCons (gOp addD (gVar 8) (gC (.int 1))) (gCons (gVar 5) gNil))) (bName 9) addB) (ks.map D.int) [.dat (.lst (xs.map D.int)), .dat (.int 1), .dat (.int 99), .dat (.int c), .dat (.int st), .dat (.int mn), .dat (.lst (V.map D.int)), .own (fs.map tieD), x8, x9, x10, x11, x12] Ω
      = some (.nx [.dat (.lst (xs.map D.int)), .dat (.int 1), .dat (.int 99), .dat (.int c), .dat (.int st), .dat (.int mn), .dat (.lst (V.map D.int)), .own (gs.map tieD), y8, y9, y10, y11, y12] Ω) ∧ GdT V gs ∧ gs.length ≤ fs.length + 8 * ks.length
  | [], fs, x8, x9, x10, x11, x12, _, _, G => ⟨fs, x8, x9, x10, x11, x12, rfl, G, Nat.le_refl _⟩
  | k :: ks, fs, x8, x9, x10, x11, x12, hk, hf, G => by
    rw [List.length_cons] at hf
    obtain ⟨hk0, hk1⟩ := hk k List.mem_cons_self
    have er : rng2 [.int (k + 1), .int mn] = some (((List.range (mn - (k + 1)).toNat).map fun (i : Nat) => k + 1 + (i : Int)).map D.int) := by rw [rng_2 (by omega) (by omega) (by omega) (by omega), upD_ints]
    have lr : ((List.range (mn - (k + 1)).toNat).map fun (i : Nat) => k + 1 + (i : Int)).length ≤ 8 := by simp; omega
    obtain ⟨gs, y9, y10, y11, y12, e1, G1, l1⟩ := inner_den (xs := xs) (V := V) (c := c) (st := st) (mn := mn) (Ω := Ω) hV hk0 hk1 ((List.range (mn - (k + 1)).toNat).map fun (i : Nat) => k + 1 + (i : Int)) fs x9 x10 x11 x12 (by
      intro j hj
      obtain ⟨i, hi, rfl⟩ := List.mem_map.mp hj
      rw [List.mem_range] at hi
      omega) (by omega) G
    obtain ⟨hs, z8, z9, z10, z11, z12, e2, G2, l2⟩ := outer_den hV hmn ks gs (.dat (.int k)) y9 y10 y11 y12 (fun x hx => hk x (List.mem_cons_of_mem _ hx)) (by omega) G1
    refine ⟨hs, z8, z9, z10, z11, z12, ?_, G2, by rw [List.length_cons]; omega⟩
    rw [List.map_cons, for_cons]
    simp only [ap_bName, List.set_cons_succ, List.set_cons_zero, ap_for, ap_rng, ap_cons, ap_op, ap_var, ap_c, ap_nil, List.getElem?_cons_zero, List.getElem?_cons_succ, add_int, er, e1]
    exact e2
end
theorem houses_comp {c st : Int} {Ω : List OS} (hst : -1000 ≤ st ∧ st ≤ 1000) : ∀ (ks : List Int) (x : Sl), compD (bName 0) gTrue (gOp modD (gOp addD (gCall d_l_mix (gCons (gVar 1) (gCons (gC (.int 3)) gNil))) (gOp mulD (gVar 0) (gVar 2))) (gC (.int 32))) (ks.map D.int) [x, .dat (.int c), .dat (.int st)] Ω = some ((ks.map fun k => (mixZ c 3 + k * st) % 32).map D.int, Ω)
  | [], _ => rfl
  | k :: ks, x => by
    have ih := houses_comp (c := c) (st := st) (Ω := Ω) hst ks (.dat (.int k))
    have m := mix_den c (k := 3) (by decide) (by decide)
    rw [List.map_cons, comp_cons]
    simp [m, mulR k (b := st) (by omega), ih]
theorem ties_den (xs : List Int) (Ω : List OS) : ∃ (V : List Int) (T : List Tie), V.length ≤ 8 ∧ (∀ v ∈ V, In32 v) ∧ GdT V T ∧ T.length ≤ 64 ∧ d_l_ties [.lst (xs.map D.int), .int 1, .int 99] Ω = some (.lst (T.map tieD), Ω) := by
  obtain ⟨c, hc⟩ := cell_den xs (k := 1) (by decide) (by decide)
  have m1 := mix_den c (k := 1) (by decide) (by decide)
  have m2 := mix_den c (k := 2) (by decide) (by decide)
  generalize hst : 1 + 2 * (mixZ c 1 % 16) = st
  generalize hmn : 2 + mixZ c 2 % 7 = mn
  have bst : -1000 ≤ st ∧ st ≤ 1000 := by omega
  have bmn : 2 ≤ mn ∧ mn ≤ 8 := by omega
  generalize hhs : ((List.range mn.toNat).map fun (k : Nat) => 0 + (k : Int)).map (fun k => (mixZ c 3 + k * st) % 32) = hs
  have lh : hs.length = mn.toNat := by rw [← hhs]; simp
  have pm : (isrt hs).Perm hs := List.mergeSort_perm _ _
  have lV : (isrt hs).length = mn.toNat := by rw [pm.length_eq, lh]
  have inV : ∀ v ∈ isrt hs, In32 v := fun v hv => by
    have := pm.mem_iff.mp hv
    rw [← hhs] at this
    obtain ⟨k, _, rfl⟩ := List.mem_map.mp this
    exact ⟨Int.emod_nonneg _ (by decide), Int.emod_lt_of_pos _ (by decide)⟩
  have er : rng1 [.int mn] = some (((List.range mn.toNat).map fun (k : Nat) => 0 + (k : Int)).map D.int) := by rw [rng_1 (by omega) (by omega), upD_ints]
  obtain ⟨gs, y8, y9, y10, y11, y12, e, G, l⟩ := outer_den (xs := xs) (V := isrt hs) (c := c) (st := st) (mn := mn) (Ω := Ω) (by omega) (by omega) ((List.range mn.toNat).map fun (k : Nat) => 0 + (k : Int)) [] .und .und .und .und .und (by
    intro k hk
    obtain ⟨i, hi, rfl⟩ := List.mem_map.mp hk
    rw [List.mem_range] at hi
    omega) (by simp; omega) ⟨fun _ h => absurd h List.not_mem_nil, fun _ h => absurd h List.not_mem_nil, fun _ h => absurd h List.not_mem_nil⟩
  refine ⟨isrt hs, gs, by omega, inV, G, by simp at l; omega, run_rt rfl ?_⟩
  refine (seq_nx (ρ' := [.dat (.lst (xs.map D.int)), .dat (.int 1), .dat (.int 99), .dat (.int c), .und, .und, .und, .und, .und, .und, .und, .und, .und]) (Ω' := Ω) (by simp [hc])).trans ?_
  refine (seq_nx (ρ' := [.dat (.lst (xs.map D.int)), .dat (.int 1), .dat (.int 99), .dat (.int c), .dat (.int st), .und, .und, .und, .und, .und, .und, .und, .und]) (Ω' := Ω) (by simp [m1, mulL (mixZ c 1 % 16) (a := 2) (by decide), hst])).trans ?_
  refine (seq_nx (ρ' := [.dat (.lst (xs.map D.int)), .dat (.int 1), .dat (.int 99), .dat (.int c), .dat (.int st), .dat (.int mn), .und, .und, .und, .und, .und, .und, .und]) (Ω' := Ω) (by simp [m2, hmn])).trans ?_
  refine (seq_nx (ρ' := [.dat (.lst (xs.map D.int)), .dat (.int 1), .dat (.int 99), .dat (.int c), .dat (.int st), .dat (.int mn), .dat (.lst ((isrt hs).map D.int)), .und, .und, .und, .und, .und, .und]) (Ω' := Ω) ?_).trans ?_
  · have hi : innerD [none, some 3, some 4] [.dat (.lst (xs.map D.int)), .dat (.int 1), .dat (.int 99), .dat (.int c), .dat (.int st), .dat (.int mn), .und, .und, .und, .und, .und, .und, .und] = [.und, .dat (.int c), .dat (.int st)] := rfl
    have e1 : gComp [none, some 3, some 4] (gRng rng1 (gCons (gVar 5) gNil)) (bName 0) gTrue (gOp modD (gOp addD (gCall d_l_mix (gCons (gVar 1) (gCons (gC (.int 3)) gNil))) (gOp mulD (gVar 0) (gVar 2))) (gC (.int 32))) [.dat (.lst (xs.map D.int)), .dat (.int 1), .dat (.int 99), .dat (.int c), .dat (.int st), .dat (.int mn), .und, .und, .und, .und, .und, .und, .und] Ω = some (.lst (hs.map D.int), Ω) := by
      simp only [ap_comp, ap_rng, ap_cons, ap_var, ap_nil, List.getElem?_cons_zero, List.getElem?_cons_succ, er, hi, houses_comp bst, hhs]
      rw [if_pos (by simp; omega)]
    simp only [ap_set, gSortZ, e1, Option.bind_some, lstD, intsD_ints, List.set_cons_succ, List.set_cons_zero]
    rw [if_pos (by rw [List.length_map]; omega)]
  refine (seq_nx (ρ' := [.dat (.lst (xs.map D.int)), .dat (.int 1), .dat (.int 99), .dat (.int c), .dat (.int st), .dat (.int mn), .dat (.lst ((isrt hs).map D.int)), .own [], .und, .und, .und, .und, .und]) (Ω' := Ω) (by simp)).trans ?_
  refine (seq_nx (ρ' := [.dat (.lst (xs.map D.int)), .dat (.int 1), .dat (.int 99), .dat (.int c), .dat (.int st), .dat (.int mn), .dat (.lst ((isrt hs).map D.int)), .own (gs.map tieD), y8, y9, y10, y11, y12]) (Ω' := Ω) ?_).trans ?_
  · simp only [ap_for, ap_rng, ap_cons, ap_var, ap_nil, List.getElem?_cons_zero, List.getElem?_cons_succ, er]
    exact e
  simp [frz]
end Law
namespace Law
open PySem DL
/-! ### the least pair -/
def lt2 (p q : Int × Int) : Bool := HT.lexLt [p.1, p.2] [q.1, q.2]
theorem lt2_eq {p q : Int × Int} (h1 : lt2 p q = false) (h2 : lt2 q p = false) : p = q := by
  have h := L2.lexLt_eq _ _ h1 h2
  simp only [List.cons.injEq, and_true] at h
  exact Prod.ext h.1 h.2
def cand (G : Far) (x : Int × Int) : Option (Int × Int) := (getA G x.1).map fun d => (d + x.2, x.1)
def bst (G : Far) (b : Option (Int × Int)) (x : Int × Int) : Option (Int × Int) := match cand G x with
  | none => b
  | some p => match b with
    | none => some p
    | some q => if lt2 p q = true then some p else some q
theorem bst_no {G : Far} {b : Option (Int × Int)} {x : Int × Int} (h : cand G x = none) : bst G b x = b := by unfold bst; rw [h]
theorem bst_new {G : Far} {x p : Int × Int} (h : cand G x = some p) : bst G none x = some p := by unfold bst; rw [h]
theorem bst_old {G : Far} {x p q : Int × Int} (h : cand G x = some p) : bst G (some q) x = if lt2 p q = true then some p else some q := by unfold bst; rw [h]
theorem bst_gen {G : Far} {p : Int × Int} : ∀ (xs : List (Int × Int)) (b : Option (Int × Int)), (∀ q, b = some q → lt2 q p = false) → (∀ x ∈ xs, ∀ q, cand G x = some q → lt2 q p = false) → (b = some p ∨ ∃ x ∈ xs, cand G x = some p) → xs.foldl (bst G) b = some p
  | [], b, _, _, h => by
    rcases h with h | ⟨x, hx, _⟩
    · exact h
    · cases hx
  | x :: xs, b, h1, h2, h3 => by
    rw [List.foldl_cons]
    have hx := h2 x List.mem_cons_self
    refine bst_gen xs (bst G b x) (fun q e => ?_) (fun y hy => h2 y (List.mem_cons_of_mem _ hy)) ?_
    · cases c : cand G x with
      | none => rw [bst_no c] at e; exact h1 q e
      | some r =>
        cases b with
        | none => rw [bst_new c] at e; cases e; exact hx _ c
        | some r2 =>
          rw [bst_old c] at e
          split at e
          · cases e; exact hx _ c
          · cases e; exact h1 _ rfl
    · rcases h3 with rfl | ⟨y, hy, ey⟩
      · left
        cases c : cand G x with
        | none => exact bst_no c
        | some r => rw [bst_old c, if_neg (by rw [hx r c]; exact Bool.false_ne_true)]
      · rcases List.mem_cons.mp hy with rfl | hy
        · left
          cases b with
          | none => exact bst_new ey
          | some q =>
            rw [bst_old ey]
            cases z : lt2 p q with
            | true => rfl
            | false => rw [lt2_eq z (h1 q rfl)]; simp
        · exact .inr ⟨y, hy, ey⟩
theorem bst_none {G : Far} : ∀ xs : List (Int × Int), (∀ x ∈ xs, cand G x = none) → xs.foldl (bst G) none = none
  | [], _ => rfl
  | x :: xs, h => by rw [List.foldl_cons, bst_no (h x List.mem_cons_self)]; exact bst_none xs fun y hy => h y (List.mem_cons_of_mem _ hy)
theorem stepsOf_fold (G : Far) (h a b l : Int) (L : List Tie) (β : Option (Int × Int)) : (stepsOf ((a, b, l) :: L) h).foldl (bst G) β = (stepsOf L h).foldl (bst G) (if b = h then bst G (if a = h then bst G β (b, l) else β) (a, l) else if a = h then bst G β (b, l) else β) := by
  unfold stepsOf
  rw [List.flatMap_cons, List.foldl_append, List.foldl_append]
  congr 1
  by_cases z1 : a = h
  · by_cases z2 : b = h
    · simp [z1, z2]
    · simp [z1, z2]
  · by_cases z2 : b = h
    · simp [z1, z2]
    · simp [z1, z2]
theorem Stp.symm {T : List Tie} {u v l : Int} (h : Stp T u v l) : Stp T v u l := h.elim .inr .inl
end Law
namespace Law
open PySem DL
/-! ### the law's way -/
def bD : Option (Int × Int) → D
  | none => .non
  | some p => prD p
noncomputable def wayG : Den := gTup (gCons (gOp addD (gDGet (gVar 3) (gVar 9)) (gVar 7)) (gCons (gVar 9) gNil))
noncomputable def wayS : SDen := sIf (gAndT (gT (gOp (eqD false) (gVar 8) (gVar 1))) (gAndT (gT (gDIn false (gVar 9) (gVar 3))) (gOrT (gT (gOp (isD false) (gVar 4) (gC .non))) (gT (gOp ltTD wayG (gVar 4)))))) (sSet 4 wayG) sNext
theorem wayS_den {x0 x2 x5 x6 : Sl} {n : Nat} {Ω : List OS} {G : Far} {h u v l : Int} (b : Option (Int × Int)) (hn : Ω[n]? = some (dF G)) :
    wayS [x0, .dat (.int h), x2, .dat (.obj n), .dat (bD b), x5, x6, .dat (.int l), .dat (.int u), .dat (.int v)] Ω
      = some (.nx [x0, .dat (.int h), x2, .dat (.obj n), .dat (bD (if u = h then bst G b (v, l) else b)), x5, x6, .dat (.int l), .dat (.int u), .dat (.int v)] Ω) := by
  by_cases z : u = h
  · rw [if_pos z]
    cases q : getA G v with
    | none =>
      have c : cand G (v, l) = none := by unfold cand; rw [q]; rfl
      rw [bst_no c]
      simp [wayS, z, hn, q]
    | some d =>
      have c : cand G (v, l) = some (d + l, v) := by unfold cand; rw [q]; rfl
      have e : ∀ x4, wayG [x0, .dat (.int h), x2, .dat (.obj n), x4, x5, x6, .dat (.int l), .dat (.int u), .dat (.int v)] Ω = some (prD (d + l, v), Ω) := fun x4 => by simp [wayG, hn, q, prD]
      subst z
      cases b with
      | none =>
        rw [bst_new c]
        simp [wayS, hn, q, e, bD, isD, isNone]
      | some p =>
        have lt : ltTD (prD (d + l, v)) (prD p) = some (.bl (lt2 (d + l, v) p)) := rfl
        have nn : isD false (prD p) .non = some (.bl false) := by simp [prD, isD, isNone]
        rw [bst_old c]
        cases y : lt2 (d + l, v) p with
        | true => simp [wayS, hn, q, e, bD, lt, nn, y]
        | false => simp [wayS, hn, q, e, bD, lt, nn, y]
  · rw [if_neg z]
    simp [wayS, z]
noncomputable def wayT : SDen := sFor (gSeq (gLst (gCons (gTup (gCons (gVar 5) (gCons (gVar 6) gNil))) (gCons (gTup (gCons (gVar 6) (gCons (gVar 5) gNil))) gNil)))) (bTup [8, 9]) wayS
theorem wayT_den {x0 x2 x8 x9 : Sl} {n : Nat} {Ω : List OS} {G : Far} {h a b l : Int} (β : Option (Int × Int)) (hn : Ω[n]? = some (dF G)) :
    wayT [x0, .dat (.int h), x2, .dat (.obj n), .dat (bD β), .dat (.int a), .dat (.int b), .dat (.int l), x8, x9] Ω
      = some (.nx [x0, .dat (.int h), x2, .dat (.obj n), .dat (bD (if b = h then bst G (if a = h then bst G β (b, l) else β) (a, l) else if a = h then bst G β (b, l) else β)), .dat (.int a), .dat (.int b), .dat (.int l), .dat (.int b), .dat (.int a)] Ω) := by
  have h1 := wayS_den (x0 := x0) (x2 := x2) (x5 := .dat (.int a)) (x6 := .dat (.int b)) (h := h) (u := a) (v := b) (l := l) β hn
  have h2 := wayS_den (x0 := x0) (x2 := x2) (x5 := .dat (.int a)) (x6 := .dat (.int b)) (h := h) (u := b) (v := a) (l := l) (if a = h then bst G β (b, l) else β) hn
  simp only [wayT, ap_for, ap_seq, ap_lst, ap_cons, ap_tup, ap_var, ap_nil, List.getElem?_cons_zero, List.getElem?_cons_succ, List.length_cons, List.length_nil, seq_lst]
  simp [for_cons, bNames, h1, h2]
theorem wayL_den {x0 x2 : Sl} {n : Nat} {Ω : List OS} {G : Far} {h : Int} (hn : Ω[n]? = some (dF G)) : ∀ (L : List Tie) (β : Option (Int × Int)) (x5 x6 x7 x8 x9 : Sl),
    ∃ y5 y6 y7 y8 y9, forD (bTup [5, 6, 7]) wayT (L.map tieD) [x0, .dat (.int h), x2, .dat (.obj n), .dat (bD β), x5, x6, x7, x8, x9] Ω = some (.nx [x0, .dat (.int h), x2, .dat (.obj n), .dat (bD ((stepsOf L h).foldl (bst G) β)), y5, y6, y7, y8, y9] Ω)
  | [], β, x5, x6, x7, x8, x9 => ⟨x5, x6, x7, x8, x9, rfl⟩
  | (a, b, l) :: L, β, x5, x6, x7, x8, x9 => by
    obtain ⟨z5, z6, z7, z8, z9, h2⟩ := wayL_den (x0 := x0) (x2 := x2) hn L (if b = h then bst G (if a = h then bst G β (b, l) else β) (a, l) else if a = h then bst G β (b, l) else β) (.dat (.int a)) (.dat (.int b)) (.dat (.int l)) (.dat (.int b)) (.dat (.int a))
    refine ⟨z5, z6, z7, z8, z9, ?_⟩
    rw [stepsOf_fold, List.map_cons, for_cons]
    simp only [tieD, ap_bTup, bNames, List.set_cons_succ, List.set_cons_zero, wayT_den β hn]
    exact h2
theorem way_den {T : List Tie} (hT : T.length ≤ 1000) (h g : Int) (Ω : List OS) : d_l_way [.lst (T.map tieD), .int h, .int g] Ω = some (bD ((stepsOf T h).foldl (bst (rnds T 8 [(g, 0)])) none), Ω ++ [dF (rnds T 8 [(g, 0)])]) := by
  have e1 := lfars_den hT g Ω
  obtain ⟨y5, y6, y7, y8, y9, e2⟩ := wayL_den (x0 := .dat (.lst (T.map tieD))) (x2 := .dat (.int g)) (n := Ω.length) (Ω := Ω ++ [dF (rnds T 8 [(g, 0)])]) (G := rnds T 8 [(g, 0)]) (h := h) (by simp) T none .und .und .und .und .und
  refine run_rt rfl ?_
  refine (seq_nx (ρ' := [.dat (.lst (T.map tieD)), .dat (.int h), .dat (.int g), .dat (.obj Ω.length), .und, .und, .und, .und, .und, .und]) (Ω' := Ω ++ [dF (rnds T 8 [(g, 0)])]) (by simp [e1])).trans ?_
  refine (seq_nx (ρ' := [.dat (.lst (T.map tieD)), .dat (.int h), .dat (.int g), .dat (.obj Ω.length), .dat .non, .und, .und, .und, .und, .und]) (Ω' := Ω ++ [dF (rnds T 8 [(g, 0)])]) (by simp)).trans ?_
  refine (seq_nx (ρ' := [.dat (.lst (T.map tieD)), .dat (.int h), .dat (.int g), .dat (.obj Ω.length), .dat (bD ((stepsOf T h).foldl (bst (rnds T 8 [(g, 0)])) none)), y5, y6, y7, y8, y9]) (Ω' := Ω ++ [dF (rnds T 8 [(g, 0)])]) ?_).trans ?_
  · simp only [ap_for, ap_seq, ap_var, List.getElem?_cons_zero, seq_lst]
    exact e2
  simp
end Law
namespace Law
open PySem DL
/-! ### the program's way -/
noncomputable def dueG : Den := gTup (gCons (gOp addD (gVar 1) (gDGet (gVar 2) (gVar 0))) (gCons (gVar 0) gNil))
def valF (F : Far) (p : Int × Int) : Int × Int := (p.2 + (getA F p.1).getD 0, p.1)
theorem comp_st {j n : Nat} {Ω : List OS} {F : Far} {xs : List D} (hj : Ω[j]? = some (.mls xs)) (hn : Ω[n]? = some (dF F)) : ∀ (L : List (Int × Int)) (x y : Sl), (∀ p ∈ L, getA F p.1 ≠ none) →
    compM j xs (bTup [0, 1]) gTrue dueG (L.map prD) [x, y, .dat (.obj n)] Ω = some ((L.map (valF F)).map prD, Ω)
  | [], x, y, _ => grd_pos hj
  | p :: L, x, y, h => by
    have ih := comp_st hj hn L (.dat (.int p.1)) (.dat (.int p.2)) fun q hq => h q (List.mem_cons_of_mem _ hq)
    obtain ⟨d, hd⟩ : ∃ d, getA F p.1 = some d := by
      cases q : getA F p.1 with
      | none => exact absurd q (h p List.mem_cons_self)
      | some d => exact ⟨d, rfl⟩
    have e : dueG [.dat (.int p.1), .dat (.int p.2), .dat (.obj n)] Ω = some (prD (valF F p), Ω) := by simp [dueG, hn, hd, prD, valF]
    rw [List.map_cons, List.map_cons, List.map_cons]
    unfold compM
    rw [grd_pos hj]
    simp only [prD, ap_bTup, bNames, List.set_cons_succ, List.set_cons_zero, ap_true] at ih ⊢
    simp only [e, ih]
    rfl
theorem keysT_pr : ∀ L : List (Int × Int), keysT (L.map prD) = some (L.map fun p => [p.1, p.2])
  | [] => rfl
  | p :: L => by
    show (match keyI (prD p) with | some ns => (match keysT (L.map prD) with | some nss => some (ns :: nss) | none => none) | none => none) = _
    rw [keysT_pr L]
    rfl
theorem min_pr {L : List (Int × Int)} (hne : L ≠ []) : ∃ p ∈ L, (∀ q ∈ L, lt2 q p = false) ∧ ∀ (g : Den) (ρ : List Sl) (Ω Ω' : List OS), g ρ Ω = some (.lst (L.map prD), Ω') → gMin g ρ Ω = some (prD p, Ω') := by
  have hlp : 0 < L.length := by cases L with | nil => exact absurd rfl hne | cons _ _ => exact Nat.zero_lt_succ _
  have hm := L2.mIx_le (L.map fun p => [p.1, p.2]) (L.length - 1)
  have hlt : L2.mIx (L.map fun p => [p.1, p.2]) (L.length - 1) < L.length := by omega
  have gg : ∀ j, (hj : j < L.length) → (L.map fun p => [p.1, p.2]).getD j [] = [L[j].1, L[j].2] := fun j hj => by
    rw [List.getD_eq_getElem?_getD, List.getElem?_map, List.getElem?_eq_getElem hj]; rfl
  refine ⟨L[L2.mIx (L.map fun p => [p.1, p.2]) (L.length - 1)], List.getElem_mem _, fun q hq => ?_, fun g ρ Ω Ω' hg => ?_⟩
  · obtain ⟨j, hj, ej⟩ := List.mem_iff_getElem.mp hq
    have := mIx_best (L.map fun p => [p.1, p.2]) (L.length - 1) j (by omega)
    rw [gg j hj, gg _ hlt, ej] at this
    exact this
  · unfold gMin
    rw [hg]
    have em : minD (L.map fun p => [p.1, p.2]) (L.map prD) = prD L[L2.mIx (L.map fun p => [p.1, p.2]) (L.length - 1)] := by
      unfold minD
      rw [List.length_map, List.getD_eq_getElem?_getD, List.getElem?_map, List.getElem?_eq_getElem hlt]; rfl
    rw [← em]
    have ek := keysT_pr L
    cases L with
    | nil => exact absurd rfl hne
    | cons p L =>
      show (match keysT (prD p :: L.map prD) with | some nss => some (minD nss (prD p :: L.map prD), Ω') | none => none) = _
      rw [show prD p :: L.map prD = (p :: L).map prD from rfl, ek]
section
variable {T : List Tie} {g : Int} {V : List Int}
theorem due_den (O : OkT T g) (hV8 : V.length ≤ 8) (hVT : ∀ u v l, Stp T u v l → u ∈ V) {h : Int} (hne : h ≠ g) (Ω : List OS) :
    ∃ Ω', d_due_way [.lst (T.map tieD), .int h, .int g] Ω = some (bD ((stepsOf T h).foldl (bst (rnds T 8 [(g, 0)])) none), Ω') ∧ ∀ i, i < Ω.length → Ω'[i]? = Ω[i]? := by
  obtain ⟨Ω1, n, F, e1, hn, kp, hF, a, b, nF⟩ := fars_den O Ω
  have sB : Sound T g (rnds T 8 [(g, 0)]) := rnds_sound 8 _ (start_sound T g)
  have fB : Full T g (rnds T 8 [(g, 0)]) := bf_full O.pos hVT hV8
  have same : ∀ x, getA F x = getA (rnds T 8 [(g, 0)]) x := fun x => far_same a b sB fB x
  have n1 : n < Ω1.length := lt_of_get hF
  cases q : getA F h with
  | none =>
    have all : ∀ x ∈ stepsOf T h, cand (rnds T 8 [(g, 0)]) x = none := fun x hx => by
      unfold cand
      rw [← same]
      cases qv : getA F x.1 with
      | none => rfl
      | some d =>
        exfalso
        obtain ⟨k, wk⟩ := a _ _ qv
        obtain ⟨d', e', _⟩ := b h _ _ (.snoc wk (Stp.symm (stepsOf_mem.mp hx)))
        rw [q] at e'
        cases e'
    refine ⟨Ω1, run_rt rfl ?_, kp⟩
    rw [bst_none _ all]
    refine (seq_nx (ρ' := [.dat (.lst (T.map tieD)), .dat (.int h), .dat (.int g), .dat (.obj n), .und]) (Ω' := Ω1) (by simp [e1])).trans ?_
    exact seq_rt (by simp [hF, q, bD])
  | some d =>
    obtain ⟨k, wk⟩ := a h d q
    have reach : ∀ x ∈ stepsOf T h, getA F x.1 ≠ none := fun x hx => by
      obtain ⟨d', e', _⟩ := b x.1 _ _ (.snoc wk (stepsOf_mem.mp hx))
      rw [e']; intro z; cases z
    have ne : stepsOf T h ≠ [] := by
      cases wk with
      | nil => exact absurd rfl hne
      | snoc _ st =>
        intro z
        have := stepsOf_mem.mpr st.symm
        rw [z] at this
        cases this
    obtain ⟨p, hp, hmin, gm⟩ := min_pr (L := (stepsOf T h).map (valF F)) (by simpa using ne)
    have cv : ∀ x ∈ stepsOf T h, cand (rnds T 8 [(g, 0)]) x = some (valF F x) := fun x hx => by
      unfold cand valF
      rw [← same]
      cases qv : getA F x.1 with
      | none => exact absurd qv (reach x hx)
      | some e => show some (e + x.2, x.1) = some (x.2 + e, x.1); rw [Int.add_comm]
    have eb : (stepsOf T h).foldl (bst (rnds T 8 [(g, 0)])) none = some p := by
      refine bst_gen _ none (fun q e => by cases e) (fun x hx q e => ?_) (.inr ?_)
      · rw [cv x hx] at e
        cases e
        exact hmin _ (List.mem_map_of_mem hx)
      · obtain ⟨x, hx, rfl⟩ := List.mem_map.mp hp
        exact ⟨x, hx, cv x hx⟩
    obtain ⟨Ω2, kvs, e2, S⟩ := steps_den O.few Ω1
    have n0 : Ω1.length < Ω2.length := lt_of_get S.here
    have g4s : (Ω2 ++ [OS.mls []])[Ω1.length]? = some (dS kvs) := by rw [List.getElem?_append_left n0]; exact S.here
    obtain ⟨j, ej, gj⟩ : ∃ j, ((getA kvs h).map D.obj).getD (.obj Ω2.length) = .obj j ∧ (Ω2 ++ [OS.mls []])[j]? = some (.mls ((stepsOf T h).map prD)) := by
      cases qk : getA kvs h with
      | none => exact ⟨Ω2.length, rfl, by rw [S.no h qk]; simp⟩
      | some j =>
        obtain ⟨j1, j2⟩ := S.yes h j qk
        exact ⟨j, rfl, by rw [List.getElem?_append_left (lt_of_get j2)]; exact j2⟩
    have gF : (Ω2 ++ [OS.mls []])[n]? = some (dF F) := by rw [List.getElem?_append_left (by omega), S.pre n n1]; exact hF
    have hl : (stepsOf T h).length ≤ 100000 := by have := S.sl h; have := O.few; omega
    refine ⟨Ω2 ++ [.mls []], run_rt rfl ?_, fun i hi => ?_⟩
    · rw [eb]
      refine (seq_nx (ρ' := [.dat (.lst (T.map tieD)), .dat (.int h), .dat (.int g), .dat (.obj n), .und]) (Ω' := Ω1) (by simp [e1])).trans ?_
      refine (seq_nx (ρ' := [.dat (.lst (T.map tieD)), .dat (.int h), .dat (.int g), .dat (.obj n), .und]) (Ω' := Ω1) (by simp [hF, q])).trans ?_
      refine (seq_nx (ρ' := [.dat (.lst (T.map tieD)), .dat (.int h), .dat (.int g), .dat (.obj n), .dat (.obj j)]) (Ω' := Ω2 ++ [.mls []]) ?_).trans ?_
      · simp only [ap_set, ap_dget2, ap_call, ap_cons, ap_nil, ap_var, List.getElem?_cons_zero, List.getElem?_cons_succ, e2, S.here, isDct_S, if_true, gNewM, Option.bind_some, List.length_nil, Nat.zero_le, g4s, look_S, ej, List.set_cons_succ, List.set_cons_zero]
      have ec : gCompM [none, none, some 3] (gVar 4) (bTup [0, 1]) gTrue dueG [.dat (.lst (T.map tieD)), .dat (.int h), .dat (.int g), .dat (.obj n), .dat (.obj j)] (Ω2 ++ [.mls []]) = some (.lst (((stepsOf T h).map (valF F)).map prD), Ω2 ++ [.mls []]) := by
        have hi : innerD [none, none, some 3] [.dat (.lst (T.map tieD)), .dat (.int h), .dat (.int g), .dat (.obj n), .dat (.obj j)] = [.und, .und, .dat (.obj n)] := rfl
        simp only [gCompM, ap_var, List.getElem?_cons_zero, List.getElem?_cons_succ, Option.bind_some, objN, gj, mlsO]
        rw [if_pos (by rw [List.length_map]; exact hl), hi, comp_st gj gF _ _ _ reach]
        rfl
      have em := gm _ _ _ _ ec
      simp only [ap_ret]
      rw [show gTup (gCons (gOp addD (gVar 1) (gDGet (gVar 2) (gVar 0))) (gCons (gVar 0) gNil)) = dueG from rfl, em]
      rfl
    · rw [List.getElem?_append_left (by omega), S.pre i (by omega)]; exact kp i hi
end
end Law
namespace Law
open PySem DL
/-! ### alike -/
theorem alike0 (i : Int) (Ω : List OS) : d_l_alike_r0 [.int i, .int i] Ω = some (.bl true, Ω) := by
  refine run_rt rfl ?_
  simp [isD, isNone, instsD, instD, tyD]
theorem alikeB (b : Option (Int × Int)) (Ω : List OS) : d_l_alike_r1 [bD b, bD b] Ω = some (.bl true, Ω) := by
  refine run_rt rfl ?_
  cases b with
  | none => exact seq_rt (by simp [bD, isD, isNone])
  | some p => simp [bD, prD, isD, isNone, instsD, instD, tyD, zipD, itmsD, pairD, comp_cons, alike0, bNames, allD, blsD, innerD]
/-! ### the houses -/
theorem nodup_step {σ : List Int} (h : σ.Nodup) (k : Int) : (PyProof.Rows.step_dedup σ k).Nodup := by
  unfold PyProof.Rows.step_dedup
  split
  · exact h
  · rename_i z
    refine List.nodup_append.mpr ⟨h, by simp, fun a ha b hb => ?_⟩
    rw [List.mem_singleton] at hb
    subst hb
    intro e
    subst e
    exact z (List.any_eq_true.mpr ⟨a, ha, by simp⟩)
theorem mem_step {σ : List Int} {k x : Int} (h : x ∈ PyProof.Rows.step_dedup σ k) : x ∈ σ ∨ x = k := by
  unfold PyProof.Rows.step_dedup at h
  split at h
  · exact .inl h
  · rcases List.mem_append.mp h with h | h
    · exact .inl h
    · exact .inr (List.mem_singleton.mp h)
theorem fold_step : ∀ (ns σ : List Int), σ.Nodup → (ns.foldl PyProof.Rows.step_dedup σ).Nodup ∧ ∀ x ∈ ns.foldl PyProof.Rows.step_dedup σ, x ∈ σ ∨ x ∈ ns
  | [], σ, h => ⟨h, fun x hx => .inl hx⟩
  | k :: ns, σ, h => by
    obtain ⟨a, b⟩ := fold_step ns _ (nodup_step h k)
    refine ⟨a, fun x hx => ?_⟩
    rcases b x hx with q | q
    · rcases mem_step q with q | q
      · exact .inl q
      · exact .inr (by rw [q]; exact List.mem_cons_self)
    · exact .inr (List.mem_cons_of_mem _ q)
theorem oneZ_in {ns : List Int} (h : ∀ x ∈ ns, In32 x) : (oneZ ns).length < 64 ∧ ∀ x ∈ oneZ ns, In32 x := by
  obtain ⟨a, b⟩ := fold_step ns [] .nil
  have c : ∀ x ∈ oneZ ns, In32 x := fun x hx => by
    rcases b x hx with q | q
    · cases q
    · exact h x q
  have := in32_le a c
  exact ⟨by show (ns.foldl PyProof.Rows.step_dedup []).length < 64; omega, c⟩
theorem comp_e0 {Ω : List OS} : ∀ (L : List Tie) (x : Sl), compD (bName 0) gTrue (gOp ixD (gVar 0) (gC (.int 0))) (L.map tieD) [x] Ω = some ((L.map (·.1)).map D.int, Ω)
  | [], _ => rfl
  | t :: L, x => by
    have ih := comp_e0 (Ω := Ω) L (.dat (tieD t))
    have e : L2.atI [D.int t.1, D.int t.2.1, D.int t.2.2] 0 = some (.int t.1) := by simpa using atI_nat' [D.int t.1, D.int t.2.1, D.int t.2.2] 0 (by simp)
    have e' : ixD (tieD t) (.int 0) = some (.int t.1) := by rw [tieD, ix_tup]; exact e
    rw [List.map_cons, comp_cons]
    simp only [ap_bName, List.set_cons_zero, ap_true, ap_op, ap_var, List.getElem?_cons_zero, ap_c, e', ih]
    rfl
theorem comp_e1 {Ω : List OS} : ∀ (L : List Tie) (x : Sl), compD (bName 0) gTrue (gOp ixD (gVar 0) (gC (.int 1))) (L.map tieD) [x] Ω = some ((L.map (·.2.1)).map D.int, Ω)
  | [], _ => rfl
  | t :: L, x => by
    have ih := comp_e1 (Ω := Ω) L (.dat (tieD t))
    have e : L2.atI [D.int t.1, D.int t.2.1, D.int t.2.2] 1 = some (.int t.2.1) := by simpa using atI_nat' [D.int t.1, D.int t.2.1, D.int t.2.2] 1 (by simp)
    have e' : ixD (tieD t) (.int 1) = some (.int t.2.1) := by rw [tieD, ix_tup]; exact e
    rw [List.map_cons, comp_cons]
    simp only [ap_bName, List.set_cons_zero, ap_true, ap_op, ap_var, List.getElem?_cons_zero, ap_c, e', ih]
    rfl
end Law
namespace Law
open PySem DL
/-! ### the law -/
theorem stp_ok {V : List Int} {T : List Tie} (G : GdT V T) {u v l : Int} (h : Stp T u v l) : u ∈ V ∧ v ∈ V ∧ 1 ≤ l := by
  rcases h with h | h
  · exact ⟨G.a _ h, G.b _ h, G.l _ h⟩
  · exact ⟨G.b _ h, G.a _ h, G.l _ h⟩
theorem pl_tie (t : Tie) : pl (tieD t) = true := by simp [tieD, pl, plL]
theorem plL_ties : ∀ T : List Tie, plL (T.map tieD) = true
  | [] => rfl
  | t :: T => by rw [List.map_cons]; simp [plL, pl_tie, plL_ties T]
theorem depL_ties : ∀ T : List Tie, depL (T.map tieD) ≤ 1
  | [] => by simp [depL]
  | t :: T => by
    have h1 := depL_ties T
    have h2 : dep (tieD t) ≤ 1 := by simp [tieD, dep, depL]
    rw [List.map_cons]
    simp only [depL]
    omega
theorem eq_ties (neg : Bool) (T : List Tie) : eqD neg (.lst (T.map tieD)) (.lst (T.map tieD)) = some (.bl (!neg)) := by
  refine eq_self_pl neg ?_ ?_
  · simp only [pl]; exact plL_ties T
  · have := depL_ties T
    simp only [dep]; omega
noncomputable def turnW : SDen := sSeq (sSet 11 (gCall d_l_way (gCons (gVar 2) (gCons (gVar 9) (gCons (gVar 10) gNil))))) (sIf (gAndT (gT (gOp (eqD true) (gVar 9) (gVar 10))) (gNotT (gT (gCall d_l_alike_r1 (gCons (gCall d_due_way (gCons (gVar 3) (gCons (gVar 9) (gCons (gVar 10) gNil)))) (gCons (gVar 11) gNil)))))) (sRet (gC (.bl false))) sNext)
noncomputable def pairW : SDen := sFor (gSeq (gLst (gCons (gTup (gCons (gVar 7) (gCons (gVar 8) gNil))) (gCons (gTup (gCons (gVar 8) (gCons (gVar 7) gNil))) gNil)))) (bTup [9, 10]) turnW
noncomputable def rowW : SDen := sSeq (sSet 6 (gCall d_l_mix (gCons (gCall d_l_cell_at (gCons (gVar 1) (gCons (gC (.int 0)) gNil))) (gCons (gOp addD (gC (.int 2)) (gVar 5)) gNil)))) (sSeq (sSet 7 (gMIx (gVar 4) (gOp modD (gVar 6) (gLenM (gVar 4))))) (sSeq (sSet 8 (gMIx (gVar 4) (gOp modD (gOp divD (gVar 6) (gC (.int 64))) (gLenM (gVar 4))))) pairW))
section
variable {T : List Tie} {V : List Int} {x0 x1 x4 x5 x6 x7 x8 x9 x10 x11 : Sl}
theorem turnW_den (ok : ∀ s, In32 s → OkT T s) (hV8 : V.length ≤ 8) (hVT : ∀ u v l, Stp T u v l → u ∈ V) {h g : Int} (hg : In32 g) (Ω : List OS) :
    ∃ Ω' y11, turnW [x0, x1, .dat (.lst (T.map tieD)), .dat (.lst (T.map tieD)), x4, x5, x6, x7, x8, .dat (.int h), .dat (.int g), x11] Ω
      = some (.nx [x0, x1, .dat (.lst (T.map tieD)), .dat (.lst (T.map tieD)), x4, x5, x6, x7, x8, .dat (.int h), .dat (.int g), y11] Ω') ∧ ∀ i, i < Ω.length → Ω'[i]? = Ω[i]? := by
  have e1 := way_den (ok g hg).few h g Ω
  unfold turnW
  by_cases z : h = g
  · refine ⟨Ω ++ [dF (rnds T 8 [(g, 0)])], .dat (bD ((stepsOf T h).foldl (bst (rnds T 8 [(g, 0)])) none)), (seq_nx (ρ' := [x0, x1, .dat (.lst (T.map tieD)), .dat (.lst (T.map tieD)), x4, x5, x6, x7, x8, .dat (.int h), .dat (.int g), .dat (bD ((stepsOf T h).foldl (bst (rnds T 8 [(g, 0)])) none))]) (Ω' := Ω ++ [dF (rnds T 8 [(g, 0)])]) (by simp [e1])).trans (by simp [z]), fun i hi => List.getElem?_append_left hi⟩
  · obtain ⟨Ω2, e2, k2⟩ := due_den (ok g hg) hV8 hVT z (Ω ++ [dF (rnds T 8 [(g, 0)])])
    refine ⟨Ω2, .dat (bD ((stepsOf T h).foldl (bst (rnds T 8 [(g, 0)])) none)), (seq_nx (ρ' := [x0, x1, .dat (.lst (T.map tieD)), .dat (.lst (T.map tieD)), x4, x5, x6, x7, x8, .dat (.int h), .dat (.int g), .dat (bD ((stepsOf T h).foldl (bst (rnds T 8 [(g, 0)])) none))]) (Ω' := Ω ++ [dF (rnds T 8 [(g, 0)])]) (by simp [e1])).trans (by simp [z, e2, alikeB]), fun i hi => ?_⟩
    rw [k2 i (by simp; omega), List.getElem?_append_left hi]
theorem pairW_den (ok : ∀ s, In32 s → OkT T s) (hV8 : V.length ≤ 8) (hVT : ∀ u v l, Stp T u v l → u ∈ V) {a b : Int} (ha : In32 a) (hb : In32 b) (Ω : List OS) :
    ∃ Ω' y9 y10 y11, pairW [x0, x1, .dat (.lst (T.map tieD)), .dat (.lst (T.map tieD)), x4, x5, x6, .dat (.int a), .dat (.int b), x9, x10, x11] Ω
      = some (.nx [x0, x1, .dat (.lst (T.map tieD)), .dat (.lst (T.map tieD)), x4, x5, x6, .dat (.int a), .dat (.int b), y9, y10, y11] Ω') ∧ ∀ i, i < Ω.length → Ω'[i]? = Ω[i]? := by
  obtain ⟨Ω1, y11, e1, k1⟩ := turnW_den (x0 := x0) (x1 := x1) (x4 := x4) (x5 := x5) (x6 := x6) (x7 := .dat (.int a)) (x8 := .dat (.int b)) (x11 := x11) ok hV8 hVT (h := a) hb Ω
  obtain ⟨Ω2, z11, e2, k2⟩ := turnW_den (x0 := x0) (x1 := x1) (x4 := x4) (x5 := x5) (x6 := x6) (x7 := .dat (.int a)) (x8 := .dat (.int b)) (x11 := y11) ok hV8 hVT (h := b) ha Ω1
  refine ⟨Ω2, .dat (.int b), .dat (.int a), z11, ?_, fun i hi => ?_⟩
  · unfold pairW
    simp only [ap_for, ap_seq, ap_lst, ap_cons, ap_tup, ap_var, ap_nil, List.getElem?_cons_zero, List.getElem?_cons_succ, List.length_cons, List.length_nil, seq_lst]
    simp [for_cons, bNames, e1, e2]
  · have l : i < Ω1.length := by
      by_cases q : i < Ω1.length
      · exact q
      · have := k1 i hi
        rw [List.getElem?_eq_none (by omega), List.getElem?_eq_getElem hi] at this
        cases this
    rw [k2 i l, k1 i hi]
theorem rowW_den (ok : ∀ s, In32 s → OkT T s) (hV8 : V.length ≤ 8) (hVT : ∀ u v l, Stp T u v l → u ∈ V) {xs hs : List Int} {c k : Int} (hc : ∀ Ω, d_l_cell_at [.lst (xs.map D.int), .int 0] Ω = some (.int c, Ω)) (hk0 : 0 ≤ k) (hk : k ≤ 900)
    (hne : 0 < hs.length) (hin : ∀ x ∈ hs, In32 x) {Ω : List OS} (h0 : Ω[0]? = some (.mls (hs.map D.int))) :
    ∃ Ω' y6 y7 y8 y9 y10 y11, rowW [x0, .dat (.lst (xs.map D.int)), .dat (.lst (T.map tieD)), .dat (.lst (T.map tieD)), .dat (.obj 0), .dat (.int k), x6, x7, x8, x9, x10, x11] Ω
      = some (.nx [x0, .dat (.lst (xs.map D.int)), .dat (.lst (T.map tieD)), .dat (.lst (T.map tieD)), .dat (.obj 0), .dat (.int k), y6, y7, y8, y9, y10, y11] Ω') ∧ Ω'[0]? = some (.mls (hs.map D.int)) := by
  have m := mix_den c (k := 2 + k) (by omega) (by omega)
  generalize hz : mixZ c (2 + k) = z at m
  have lp : 0 < (hs.length : Int) := by omega
  have ix : ∀ y : Int, L2.atI (hs.map D.int) (y % hs.length) = some (.int hs[(y % hs.length).toNat]!) := fun y => by
    have a0 : 0 ≤ y % (hs.length : Int) := Int.emod_nonneg _ (by omega)
    have a1 : y % (hs.length : Int) < hs.length := Int.emod_lt_of_pos _ lp
    have l : (y % (hs.length : Int)).toNat < hs.length := by omega
    rw [atI_map, atI_of a0 l, getElem!_pos hs _ l]; rfl
  have ii : ∀ y : Int, In32 hs[(y % hs.length).toNat]! := fun y => by
    have a0 : 0 ≤ y % (hs.length : Int) := Int.emod_nonneg _ (by omega)
    have a1 : y % (hs.length : Int) < hs.length := Int.emod_lt_of_pos _ lp
    have l : (y % (hs.length : Int)).toNat < hs.length := by omega
    rw [getElem!_pos hs _ l]
    exact hin _ (List.getElem_mem _)
  have hl : (hs.map D.int).length = hs.length := List.length_map _
  have md : ∀ y : Int, modD (.int y) (.int hs.length) = some (.int (y % hs.length)) := fun y => by
    have : hs ≠ [] := fun z => by rw [z] at hne; cases hne
    simp [this]
  obtain ⟨Ω', y9, y10, y11, e, kp⟩ := pairW_den (x0 := x0) (x1 := .dat (.lst (xs.map D.int))) (x4 := .dat (.obj 0)) (x5 := .dat (.int k)) (x6 := .dat (.int z)) (x9 := x9) (x10 := x10) (x11 := x11) ok hV8 hVT (ii z) (ii (z / 64)) Ω
  refine ⟨Ω', .dat (.int z), .dat (.int hs[(z % hs.length).toNat]!), .dat (.int hs[(z / 64 % hs.length).toNat]!), y9, y10, y11, ?_, by rw [kp 0 (lt_of_get h0)]; exact h0⟩
  unfold rowW
  refine (seq_nx (ρ' := [x0, .dat (.lst (xs.map D.int)), .dat (.lst (T.map tieD)), .dat (.lst (T.map tieD)), .dat (.obj 0), .dat (.int k), .dat (.int z), x7, x8, x9, x10, x11]) (Ω' := Ω) (by simp [hc, m])).trans ?_
  refine (seq_nx (ρ' := [x0, .dat (.lst (xs.map D.int)), .dat (.lst (T.map tieD)), .dat (.lst (T.map tieD)), .dat (.obj 0), .dat (.int k), .dat (.int z), .dat (.int hs[(z % hs.length).toNat]!), x8, x9, x10, x11]) (Ω' := Ω) ?_).trans ?_
  · simp only [ap_set, gMIx, gLenM, ap_var, ap_op, List.getElem?_cons_zero, List.getElem?_cons_succ, Option.bind_some, objN, h0, mlsO, hl, md, intN, ix, List.set_cons_succ, List.set_cons_zero]
  refine (seq_nx (ρ' := [x0, .dat (.lst (xs.map D.int)), .dat (.lst (T.map tieD)), .dat (.lst (T.map tieD)), .dat (.obj 0), .dat (.int k), .dat (.int z), .dat (.int hs[(z % hs.length).toNat]!), .dat (.int hs[(z / 64 % hs.length).toNat]!), x9, x10, x11]) (Ω' := Ω) ?_).trans e
  · have dv : divD (.int z) (.int 64) = some (.int (z / 64)) := by simp
    simp only [ap_set, gMIx, gLenM, ap_var, ap_op, ap_c, List.getElem?_cons_zero, List.getElem?_cons_succ, Option.bind_some, objN, h0, mlsO, hl, dv, md, intN, ix, List.set_cons_succ, List.set_cons_zero]
theorem rowsW_den (ok : ∀ s, In32 s → OkT T s) (hV8 : V.length ≤ 8) (hVT : ∀ u v l, Stp T u v l → u ∈ V) {xs hs : List Int} {c : Int} (hc : ∀ Ω, d_l_cell_at [.lst (xs.map D.int), .int 0] Ω = some (.int c, Ω))
    (hne : 0 < hs.length) (hin : ∀ x ∈ hs, In32 x) : ∀ (ks : List Int) (Ω : List OS) (x5 x6 x7 x8 x9 x10 x11 : Sl), (∀ k ∈ ks, 0 ≤ k ∧ k ≤ 900) → Ω[0]? = some (.mls (hs.map D.int)) →
    ∃ Ω' y5 y6 y7 y8 y9 y10 y11, forD (bName 5) rowW (ks.map D.int) [x0, .dat (.lst (xs.map D.int)), .dat (.lst (T.map tieD)), .dat (.lst (T.map tieD)), .dat (.obj 0), x5, x6, x7, x8, x9, x10, x11] Ω
      = some (.nx [x0, .dat (.lst (xs.map D.int)), .dat (.lst (T.map tieD)), .dat (.lst (T.map tieD)), .dat (.obj 0), y5, y6, y7, y8, y9, y10, y11] Ω')
  | [], Ω, x5, x6, x7, x8, x9, x10, x11, _, _ => ⟨Ω, x5, x6, x7, x8, x9, x10, x11, rfl⟩
  | k :: ks, Ω, x5, x6, x7, x8, x9, x10, x11, hk, h0 => by
    obtain ⟨Ω1, y6, y7, y8, y9, y10, y11, e1, h1⟩ := rowW_den (x0 := x0) (x6 := x6) (x7 := x7) (x8 := x8) (x9 := x9) (x10 := x10) (x11 := x11) ok hV8 hVT hc (hk k List.mem_cons_self).1 (hk k List.mem_cons_self).2 hne hin h0
    obtain ⟨Ω2, z5, z6, z7, z8, z9, z10, z11, e2⟩ := rowsW_den ok hV8 hVT hc hne hin ks Ω1 (.dat (.int k)) y6 y7 y8 y9 y10 y11 (fun x hx => hk x (List.mem_cons_of_mem _ hx)) h1
    refine ⟨Ω2, z5, z6, z7, z8, z9, z10, z11, ?_⟩
    rw [List.map_cons, for_cons]
    simp only [ap_bName, List.set_cons_succ, List.set_cons_zero, e1]
    exact e2
end
theorem holds (ns : List Int) (hn : ns.length ≤ 63) : ∃ Ω, d_law [.scr ns] [] = some (.bl true, Ω) := by
  obtain ⟨xs, hx, e1⟩ := mixed_den hn []
  obtain ⟨V, T, hV8, hV, G, lT, e2⟩ := ties_den xs []
  obtain ⟨c, hc⟩ := cell_den xs (k := 0) (by decide) (by decide)
  have m1 := mix_den c (k := 1) (by decide) (by decide)
  have stp : ∀ u v l, Stp T u v l → u ∈ V ∧ v ∈ V ∧ 1 ≤ l := fun u v l h => stp_ok G h
  have ok : ∀ s, In32 s → OkT T s := fun s hs => ⟨hs, fun u v l h => hV _ (stp u v l h).2.1, fun u v l h => by have := (stp u v l h).2.2; omega, by omega⟩
  have ends : ∀ x ∈ T.map (·.1) ++ T.map (·.2.1), In32 x := fun x hx => by
    rcases List.mem_append.mp hx with h | h
    · obtain ⟨t, ht, rfl⟩ := List.mem_map.mp h
      exact hV _ (G.a t ht)
    · obtain ⟨t, ht, rfl⟩ := List.mem_map.mp h
      exact hV _ (G.b t ht)
  obtain ⟨o64, oin⟩ := oneZ_in ends
  have pm : (isrt (oneZ (T.map (·.1) ++ T.map (·.2.1)))).Perm (oneZ (T.map (·.1) ++ T.map (·.2.1))) := List.mergeSort_perm _ _
  have hin : ∀ x ∈ isrt (oneZ (T.map (·.1) ++ T.map (·.2.1))) ++ [mixZ c 1 % 32], In32 x := fun x hx => by
    rcases List.mem_append.mp hx with h | h
    · exact oin x (pm.mem_iff.mp h)
    · rw [List.mem_singleton.mp h]; exact ⟨Int.emod_nonneg _ (by decide), Int.emod_lt_of_pos _ (by decide)⟩
  have li := pm.length_eq
  generalize hh : isrt (oneZ (T.map (·.1) ++ T.map (·.2.1))) = hs0 at hin li pm
  have eS : gSortS (gOp addD (gComp [none] (gSeq (gVar 2)) (bName 0) gTrue (gOp ixD (gVar 0) (gC (.int 0)))) (gComp [none] (gSeq (gVar 2)) (bName 0) gTrue (gOp ixD (gVar 0) (gC (.int 1))))) [.dat (.scr ns), .dat (.lst (xs.map D.int)), .dat (.lst (T.map tieD)), .dat (.lst (T.map tieD)), .und, .und, .und, .und, .und, .und, .und, .und] [] = some (.lst (hs0.map D.int), []) := by
    have hi : innerD [none] [.dat (.scr ns), .dat (.lst (xs.map D.int)), .dat (.lst (T.map tieD)), .dat (.lst (T.map tieD)), .und, .und, .und, .und, .und, .und, .und, .und] = [.und] := rfl
    have c0 : gComp [none] (gSeq (gVar 2)) (bName 0) gTrue (gOp ixD (gVar 0) (gC (.int 0))) [.dat (.scr ns), .dat (.lst (xs.map D.int)), .dat (.lst (T.map tieD)), .dat (.lst (T.map tieD)), .und, .und, .und, .und, .und, .und, .und, .und] [] = some (.lst ((T.map (·.1)).map D.int), []) := by
      simp only [ap_comp, ap_seq, ap_var, List.getElem?_cons_zero, List.getElem?_cons_succ, seq_lst, hi, comp_e0, List.length_map]
      rw [if_pos (by omega)]
    have c1 : gComp [none] (gSeq (gVar 2)) (bName 0) gTrue (gOp ixD (gVar 0) (gC (.int 1))) [.dat (.scr ns), .dat (.lst (xs.map D.int)), .dat (.lst (T.map tieD)), .dat (.lst (T.map tieD)), .und, .und, .und, .und, .und, .und, .und, .und] [] = some (.lst ((T.map (·.2.1)).map D.int), []) := by
      simp only [ap_comp, ap_seq, ap_var, List.getElem?_cons_zero, List.getElem?_cons_succ, seq_lst, hi, comp_e1, List.length_map]
      rw [if_pos (by omega)]
    have ad : addD (.lst ((T.map (·.1)).map D.int)) (.lst ((T.map (·.2.1)).map D.int)) = some (.lst ((T.map (·.1) ++ T.map (·.2.1)).map D.int)) := by
      rw [List.map_append]
      show (if _ ≤ big then _ else _) = _
      rw [if_pos (by simp only [List.length_map]; show T.length + T.length ≤ 100000; omega)]
    simp only [gSortS, ap_op, c0, c1, ad, Option.bind_some, lstD, intsD_ints]
    rw [if_pos ⟨by simp only [List.length_map, List.length_append]; omega, o64⟩, hh]
  obtain ⟨Ω2, y5, y6, y7, y8, y9, y10, y11, e5⟩ := rowsW_den (x0 := .dat (.scr ns)) ok hV8 (fun u v l h => (stp u v l h).1) hc (hs := hs0 ++ [mixZ c 1 % 32]) (by simp) hin [0, 1, 2, 3] [.mls ((hs0 ++ [mixZ c 1 % 32]).map D.int)] .und .und .und .und .und .und .und (by decide) rfl
  refine ⟨Ω2, run_rt rfl ?_⟩
  refine (seq_nx (ρ' := [.dat (.scr ns), .dat (.lst (xs.map D.int)), .und, .und, .und, .und, .und, .und, .und, .und, .und, .und]) (Ω' := []) (by simp [e1])).trans ?_
  refine (seq_nx (ρ' := [.dat (.scr ns), .dat (.lst (xs.map D.int)), .dat (.lst (T.map tieD)), .und, .und, .und, .und, .und, .und, .und, .und, .und]) (Ω' := []) (by simp [e2])).trans ?_
  refine (seq_nx (ρ' := [.dat (.scr ns), .dat (.lst (xs.map D.int)), .dat (.lst (T.map tieD)), .dat (.lst (T.map tieD)), .und, .und, .und, .und, .und, .und, .und, .und]) (Ω' := []) (by simp [list1D])).trans ?_
  refine (seq_nx (ρ' := [.dat (.scr ns), .dat (.lst (xs.map D.int)), .dat (.lst (T.map tieD)), .dat (.lst (T.map tieD)), .dat (.obj 0), .und, .und, .und, .und, .und, .und, .und]) (Ω' := [.mls ((hs0 ++ [40]).map D.int)]) ?_).trans ?_
  · have hb : hs0.length + 1 ≤ big := by show hs0.length + 1 ≤ 100000; omega
    simp only [ap_set, gObjN, gCatN, eS, Option.bind_some, lstD, ap_lst, ap_cons, ap_c, ap_nil, List.length_cons, List.length_nil]
    simp [hb]
  refine (seq_nx (ρ' := [.dat (.scr ns), .dat (.lst (xs.map D.int)), .dat (.lst (T.map tieD)), .dat (.lst (T.map tieD)), .dat (.obj 0), .und, .und, .und, .und, .und, .und, .und]) (Ω' := [.mls ((hs0 ++ [mixZ c 1 % 32]).map D.int)]) ?_).trans ?_
  · have ei : L2.ixN ((hs0 ++ [40]).map D.int).length (-1) = some hs0.length := by
      rw [List.length_map, List.length_append]
      unfold L2.ixN
      rw [if_neg (by omega), if_pos (by simp; omega)]
      congr 1
      simp
      omega
    have es : ((hs0 ++ [40]).map D.int).set hs0.length (.int (mixZ c 1 % 32)) = (hs0 ++ [mixZ c 1 % 32]).map D.int := by
      rw [List.map_append, List.set_append_right _ _ (by simp)]
      simp
    have ev : gOp modD (gCall d_l_mix (gCons (gCall d_l_cell_at (gCons (gVar 1) (gCons (gC (.int 0)) gNil))) (gCons (gC (.int 1)) gNil))) (gC (.int 32)) [.dat (.scr ns), .dat (.lst (xs.map D.int)), .dat (.lst (T.map tieD)), .dat (.lst (T.map tieD)), .dat (.obj 0), .und, .und, .und, .und, .und, .und, .und] [.mls ((hs0 ++ [40]).map D.int)] = some (.int (mixZ c 1 % 32), [.mls ((hs0 ++ [40]).map D.int)]) := by simp [hc, m1]
    simp only [sSetM, ev, Option.bind_some, ap_var, List.getElem?_cons_zero, List.getElem?_cons_succ, objN, ap_neg, ap_c, intN, mlsO, ei, List.set_cons_zero, es]
  refine (seq_nx (ρ' := [.dat (.scr ns), .dat (.lst (xs.map D.int)), .dat (.lst (T.map tieD)), .dat (.lst (T.map tieD)), .dat (.obj 0), y5, y6, y7, y8, y9, y10, y11]) (Ω' := Ω2) ?_).trans ?_
  · have e4 : rng1 [.int 4] = some ([0, 1, 2, 3].map D.int) := by rw [rng_1 (by decide) (by decide)]; rfl
    simp only [ap_for, ap_rng, ap_cons, ap_c, ap_nil, e4]
    exact e5
  simp [eq_ties]
end Law
namespace Law
open PySem PySem.Spec PyProof.Rows L2 DL
set_option maxHeartbeats 4000000
seal PD PDA PDS PDB PDT PDI PDG RD RDS RDB PV
def top (i : Nat) : Stmt := PySem.Challenge.pw_posthouse_k46_due_ways.main.body.getD i (.Pass ⟨0, 0, 0, 0⟩)
abbrev s_l_mixed : Stmt := top 5
abbrev s_l_cell_at : Stmt := top 6
abbrev s_l_mix : Stmt := top 7
abbrev s_l_ties : Stmt := top 9
abbrev s_l_fars : Stmt := top 10
abbrev s_l_way : Stmt := top 11
abbrev s_l_alike_r0 : Stmt := top 8
abbrev s_l_alike_r1 : Stmt := top 8
abbrev s_steps_by_house : Stmt := top 1
abbrev s_fars : Stmt := top 2
abbrev s_due_way : Stmt := top 3
abbrev s_law : Stmt := top 12
section
variable {P : Program} {w : World} {K : PySem.W.Frag} {mg : Str → Option Value} {base : Heap} {C : Cl}
theorem kit_bool : ∀ t ∈ ["NoneType", "bool", "int", "str", "tuple", "list"], PySem.W.kitOne K (.type t) (.type "bool") = some (decide (t = "bool") || (decide (t = "bool") && decide ("bool" = "int"))) := by
  intro t ht
  simp only [List.mem_cons, List.not_mem_nil, or_false] at ht
  rcases ht with rfl | rfl | rfl | rfl | rfl | rfl <;> rfl
theorem kit_list : ∀ t ∈ ["NoneType", "bool", "int", "str", "tuple", "list"], PySem.W.kitOne K (.type t) (.type "list") = some (decide (t = "list") || (decide (t = "bool") && decide ("list" = "int"))) := by
  intro t ht
  simp only [List.mem_cons, List.not_mem_nil, or_false] at ht
  rcases ht with rfl | rfl | rfl | rfl | rfl | rfl <;> rfl
theorem kit_str : ∀ t ∈ ["NoneType", "bool", "int", "str", "tuple", "list"], PySem.W.kitOne K (.type t) (.type "str") = some (decide (t = "str") || (decide (t = "bool") && decide ("str" = "int"))) := by
  intro t ht
  simp only [List.mem_cons, List.not_mem_nil, or_false] at ht
  rcases ht with rfl | rfl | rfl | rfl | rfl | rfl <;> rfl
theorem kit_tuple : ∀ t ∈ ["NoneType", "bool", "int", "str", "tuple", "list"], PySem.W.kitOne K (.type t) (.type "tuple") = some (decide (t = "tuple") || (decide (t = "bool") && decide ("tuple" = "int"))) := by
  intro t ht
  simp only [List.mem_cons, List.not_mem_nil, or_false] at ht
  rcases ht with rfl | rfl | rfl | rfl | rfl | rfl <;> rfl
theorem kits_tuple_list : ∀ t ∈ ["NoneType", "bool", "int", "str", "tuple", "list"], PySem.W.kitAny K (.type t) (["tuple", "list"].map Value.type) = some (["tuple", "list"].any fun T => decide (t = T) || (decide (t = "bool") && decide (T = "int"))) := by
  intro t ht
  simp only [List.mem_cons, List.not_mem_nil, or_false] at ht
  rcases ht with rfl | rfl | rfl | rfl | rfl | rfl <;> rfl
theorem sc_l_mixed : FnScope ["_law_script", "_law_found", "_law_more", "_law_cell"] ["_law_script"] (defScope s_l_mixed) := ⟨rfl, rfl, rfl, by decide +kernel, rfl, by decide +kernel, by decide +kernel⟩
theorem ok_l_mixed (T : TF K mg "_law_mixed" s_l_mixed) : Fn P w K mg base C 1 "_law_mixed" d_l_mixed :=
  fn_F T sc_l_mixed rfl rfl (fun _ _ _ _ _ _ us hl => len1 us hl (fun _ => rfl)) fun f cdv A outer sh H E hr =>
    have nd : (cxOf CX0 P w K mg base ["_law_script", "_law_found", "_law_more", "_law_cell"] "_law_mixed" (defScope s_l_mixed) f cdv A outer sh H E).nox.N.Nodup := sc_l_mixed.nd
    (pdb_cons (pds_own (i := 1) nd rfl (by first | exact Or.inl rfl | exact Or.inr rfl) pda_nil) (pdb_cons (pds_set (i := 2) nd rfl (by first | exact Or.inl rfl | exact Or.inr rfl) pd_int) (pdb_cons (pds_for PassesOwn.never rfl (pdi_list (pd_var (pv 0))) (pdg_name nd rfl (by first | exact Or.inl rfl | exact Or.inr rfl)) (pdb_cons (pds_set (i := 2) nd rfl (by first | exact Or.inl rfl | exact Or.inr rfl) (pd_op opD_mod (pd_op opD_add (pd_op opD_add (pd_op opD_mul (pd_var (pv 2)) pd_int) (pd_var (pv 3))) pd_int) pd_int)) (pdb_one (pds_app (pv 1) (pd_var (pv 2)))))) (pdb_ghost (ghost_frz 1) (pdb_one (pds_ret (pd_var (pv 1))))))))
theorem sc_l_cell_at : FnScope ["_law_cells", "_law_k"] ["_law_cells", "_law_k"] (defScope s_l_cell_at) := ⟨rfl, rfl, rfl, by decide +kernel, rfl, by decide +kernel, by decide +kernel⟩
theorem ok_l_cell_at (T : TF K mg "_law_cell_at" s_l_cell_at) (b_len : mg "len" = none) : Fn P w K mg base C 1 "_law_cell_at" d_l_cell_at :=
  fn_F T sc_l_cell_at rfl rfl (fun _ _ _ _ _ _ us hl => len2 us hl (fun _ _ => rfl)) fun f cdv A outer sh H E hr =>
    have nd : (cxOf CX0 P w K mg base ["_law_cells", "_law_k"] "_law_cell_at" (defScope s_l_cell_at) f cdv A outer sh H E).nox.N.Nodup := sc_l_cell_at.nd
    (pdb_cons (pds_if (pdt_cmp opD_lt (pd_var (pv 1)) (pd_callB callD_len rfl b_len PySem.boot_len (pda_cons (pd_var (pv 0)) pda_nil)) (nomark _)) (pdb_one (pds_ret (pd_ix (pd_var (pv 0)) (pd_var (pv 1))))) pdb_nil) (pdb_one (pds_ret (pd_op opD_mul (pd_op opD_mul (pd_op opD_add (pd_var (pv 1)) pd_int) (pd_op opD_add (pd_var (pv 1)) pd_int)) pd_int))))
theorem sc_l_mix : FnScope ["_law_cell", "_law_k", "_law_x"] ["_law_cell", "_law_k"] (defScope s_l_mix) := ⟨rfl, rfl, rfl, by decide +kernel, rfl, by decide +kernel, by decide +kernel⟩
theorem ok_l_mix (T : TF K mg "_law_mix" s_l_mix) : Fn P w K mg base C 1 "_law_mix" d_l_mix :=
  fn_F T sc_l_mix rfl rfl (fun _ _ _ _ _ _ us hl => len2 us hl (fun _ _ => rfl)) fun f cdv A outer sh H E hr =>
    have nd : (cxOf CX0 P w K mg base ["_law_cell", "_law_k", "_law_x"] "_law_mix" (defScope s_l_mix) f cdv A outer sh H E).nox.N.Nodup := sc_l_mix.nd
    (pdb_cons (pds_set (i := 2) nd rfl (by first | exact Or.inl rfl | exact Or.inr rfl) (pd_op opD_mod (pd_op opD_add (pd_op opD_add (pd_var (pv 0)) (pd_op opD_mul pd_int (pd_var (pv 1)))) (pd_op opD_mul (pd_op opD_mul pd_int (pd_var (pv 1))) (pd_var (pv 1)))) pd_int)) (pdb_one (pds_ret (pd_op opD_mod (pd_op opD_mul (pd_op opD_mod (pd_op opD_mul (pd_var (pv 2)) (pd_var (pv 2))) pd_int) pd_int) pd_int))))
theorem sc_l_ties : FnScope ["_law_cells", "_law_first", "_law_most", "_law_cell", "_law_step", "_law_many", "_law_houses", "_law_found", "_law_k", "_law_j", "_law_at", "_law_more", "_law_length"] ["_law_cells", "_law_first", "_law_most"] (defScope s_l_ties) := ⟨rfl, rfl, rfl, by decide +kernel, rfl, by decide +kernel, by decide +kernel⟩
theorem ok_l_ties (T : TF K mg "_law_ties" s_l_ties) (b_range : mg "range" = none) (b_sorted : mg "sorted" = none) (G_l_cell_at : Fn P w K mg base C 1 "_law_cell_at" d_l_cell_at) (G_l_mix : Fn P w K mg base C 1 "_law_mix" d_l_mix) : Fn P w K mg base C 2 "_law_ties" d_l_ties :=
  fn_F T sc_l_ties rfl rfl (fun _ _ _ _ _ _ us hl => len3 us hl (fun _ _ _ => rfl)) fun f cdv A outer sh H E hr =>
    have nd : (cxOf CX0 P w K mg base ["_law_cells", "_law_first", "_law_most", "_law_cell", "_law_step", "_law_many", "_law_houses", "_law_found", "_law_k", "_law_j", "_law_at", "_law_more", "_law_length"] "_law_ties" (defScope s_l_ties) f cdv A outer sh H E).nox.N.Nodup := sc_l_ties.nd
    (pdb_cons (pds_set (i := 3) nd rfl (by first | exact Or.inl rfl | exact Or.inr rfl) (pd_callF G_l_cell_at (hr.mono (by decide)) rfl (pda_cons (pd_var (pv 0)) (pda_cons (pd_var (pv 1)) pda_nil)))) (pdb_cons (pds_set (i := 4) nd rfl (by first | exact Or.inl rfl | exact Or.inr rfl) (pd_op opD_add pd_int (pd_op opD_mul pd_int (pd_op opD_mod (pd_callF G_l_mix (hr.mono (by decide)) rfl (pda_cons (pd_var (pv 3)) (pda_cons pd_int pda_nil))) pd_int)))) (pdb_cons (pds_set (i := 5) nd rfl (by first | exact Or.inl rfl | exact Or.inr rfl) (pd_op opD_add pd_int (pd_op opD_mod (pd_callF G_l_mix (hr.mono (by decide)) rfl (pda_cons (pd_var (pv 3)) (pda_cons pd_int pda_nil))) pd_int))) (pdb_cons (pds_set (i := 6) nd rfl (by first | exact Or.inl rfl | exact Or.inr rfl) (pd_sortZ rfl b_sorted boot_sorted (pd_compN rfl (compOk_of (oN := ["_law_cells", "_law_first", "_law_most", "_law_cell", "_law_step", "_law_many", "_law_houses", "_law_found", "_law_k", "_law_j", "_law_at", "_law_more", "_law_length"]) (osc := defScope s_l_ties) (N := ["_law_k", "_law_cell", "_law_step"]) (μ := [none, some 3, some 4]) rfl rfl (by decide +kernel)) (pdi_range1 rfl b_range (pda_cons (pd_var (pv 5)) pda_nil)) (fun _ _ _ _ => (pdg_name (show List.Nodup (["_law_k", "_law_cell", "_law_step"] : List Str) by decide +kernel) rfl (by first | exact Or.inl rfl | exact Or.inr rfl))) (fun _ _ _ _ => pdts_nil) (fun _ _ _ _ => (pd_op opD_mod (pd_op opD_add (pd_callF G_l_mix (hr.mono (by decide)) rfl (pda_cons (pd_var (pv 1)) (pda_cons pd_int pda_nil))) (pd_op opD_mul (pd_var (pv 0)) (pd_var (pv 2)))) pd_int))))) (pdb_cons (pds_own (i := 7) nd rfl (by first | exact Or.inl rfl | exact Or.inr rfl) pda_nil) (pdb_cons (pds_for PassesOwn.never rfl (pdi_range1 rfl b_range (pda_cons (pd_var (pv 5)) pda_nil)) (pdg_name nd rfl (by first | exact Or.inl rfl | exact Or.inr rfl)) (pdb_one (pds_for PassesOwn.never rfl (pdi_range2 rfl b_range (pda_cons (pd_op opD_add (pd_var (pv 8)) pd_int) (pda_cons (pd_var (pv 5)) pda_nil))) (pdg_name nd rfl (by first | exact Or.inl rfl | exact Or.inr rfl)) (pdb_cons (pds_set (i := 10) nd rfl (by first | exact Or.inl rfl | exact Or.inr rfl) (pd_op opD_add (pd_op opD_mul (pd_var (pv 8)) pd_int) (pd_var (pv 9)))) (pdb_cons (pds_set (i := 11) nd rfl (by first | exact Or.inl rfl | exact Or.inr rfl) (pd_callF G_l_cell_at (hr.mono (by decide)) rfl (pda_cons (pd_var (pv 0)) (pda_cons (pd_op opD_add (pd_op opD_add (pd_var (pv 1)) pd_int) (pd_op opD_mod (pd_var (pv 10)) pd_int)) pda_nil)))) (pdb_one (pds_if (pdt_cmp opD_lt (pd_op opD_mod (pd_callF G_l_mix (hr.mono (by decide)) rfl (pda_cons (pd_var (pv 11)) (pda_cons (pd_op opD_add pd_int (pd_var (pv 10))) pda_nil))) pd_int) (pd_op opD_add pd_int (pd_op opD_mod (pd_callF G_l_mix (hr.mono (by decide)) rfl (pda_cons (pd_var (pv 3)) (pda_cons pd_int pda_nil))) pd_int)) (nomark _)) (pdb_cons (pds_set (i := 12) nd rfl (by first | exact Or.inl rfl | exact Or.inr rfl) (pd_op opD_add pd_int (pd_op opD_mod (pd_callF G_l_mix (hr.mono (by decide)) rfl (pda_cons (pd_var (pv 11)) (pda_cons (pd_op opD_add pd_int (pd_var (pv 10))) pda_nil))) (pd_ix (pd_lst (pda_cons pd_int (pda_cons pd_int (pda_cons (pd_var (pv 2)) pda_nil)))) (pd_op opD_mod (pd_callF G_l_mix (hr.mono (by decide)) rfl (pda_cons (pd_var (pv 3)) (pda_cons pd_int pda_nil))) pd_int))))) (pdb_one (pds_app (pv 7) (pd_tup (pda_cons (pd_ix (pd_var (pv 6)) (pd_var (pv 8))) (pda_cons (pd_ix (pd_var (pv 6)) (pd_var (pv 9))) (pda_cons (pd_var (pv 12)) pda_nil))))))) pdb_nil))))))) (pdb_ghost (ghost_frz 7) (pdb_one (pds_ret (pd_var (pv 7)))))))))))
theorem sc_l_fars : FnScope ["_law_ties_here", "_law_start", "_law_found", "_law_turn", "_law_one", "_law_other", "_law_length", "_law_here", "_law_there", "_law_far"] ["_law_ties_here", "_law_start"] (defScope s_l_fars) := ⟨rfl, rfl, rfl, by decide +kernel, rfl, by decide +kernel, by decide +kernel⟩
theorem ok_l_fars (T : TF K mg "_law_fars" s_l_fars) (b_min : mg "min" = none) (b_range : mg "range" = none) : Fn P w K mg base C 1 "_law_fars" d_l_fars :=
  fn_F T sc_l_fars rfl rfl (fun _ _ _ _ _ _ us hl => len2 us hl (fun _ _ => rfl)) fun f cdv A outer sh H E hr =>
    have nd : (cxOf CX0 P w K mg base ["_law_ties_here", "_law_start", "_law_found", "_law_turn", "_law_one", "_law_other", "_law_length", "_law_here", "_law_there", "_law_far"] "_law_fars" (defScope s_l_fars) f cdv A outer sh H E).nox.N.Nodup := sc_l_fars.nd
    (pdb_cons (pds_set (i := 2) nd rfl (by first | exact Or.inl rfl | exact Or.inr rfl) (pd_disp1 (pd_var (pv 1)) pd_int)) (pdb_cons (pds_for PassesOwn.never rfl (pdi_range1 rfl b_range (pda_cons pd_int pda_nil)) (pdg_name nd rfl (by first | exact Or.inl rfl | exact Or.inr rfl)) (pdb_one (pds_for PassesOwn.never rfl (pdi_list (pd_var (pv 0))) (pdg_tup rfl (pdgs_cons (i := 4) nd rfl (by first | exact Or.inl rfl | exact Or.inr rfl) (pdgs_cons (i := 5) nd rfl (by first | exact Or.inl rfl | exact Or.inr rfl) (pdgs_cons (i := 6) nd rfl (by first | exact Or.inl rfl | exact Or.inr rfl) pdgs_nil)))) (pdb_one (pds_for PassesOwn.never rfl (pdi_list (pd_lst (pda_cons (pd_tup (pda_cons (pd_var (pv 4)) (pda_cons (pd_var (pv 5)) pda_nil))) (pda_cons (pd_tup (pda_cons (pd_var (pv 5)) (pda_cons (pd_var (pv 4)) pda_nil))) pda_nil)))) (pdg_tup rfl (pdgs_cons (i := 7) nd rfl (by first | exact Or.inl rfl | exact Or.inr rfl) (pdgs_cons (i := 8) nd rfl (by first | exact Or.inl rfl | exact Or.inr rfl) pdgs_nil))) (pdb_one (pds_if (pdt_din (hu_of hr) (pd_var (pv 7)) (pd_var (pv 2))) (pdb_cons (pds_set (i := 9) nd rfl (by first | exact Or.inl rfl | exact Or.inr rfl) (pd_op opD_add (pd_dget (hu_of hr) (pd_var (pv 2)) (pd_var (pv 7)) (fun _ _ => rfl)) (pd_var (pv 6)))) (pdb_one (pds_dput (hu_of hr) (pd_var (pv 2)) (pd_var (pv 8)) (pd_callB (callD_min rfl) rfl b_min boot_min (pda_cons (pd_dget2 (hu_of hr) (pd_var (pv 2)) (pd_var (pv 8)) (pd_var (pv 9)) ⟨rfl, rfl, rfl, rfl⟩) (pda_cons (pd_var (pv 9)) pda_nil)))))) pdb_nil))))))) (pdb_one (pds_ret (pd_var (pv 2))))))
theorem sc_l_way : FnScope ["_law_ties_here", "_law_house", "_law_goal", "_law_found", "_law_best", "_law_one", "_law_other", "_law_length", "_law_here", "_law_there"] ["_law_ties_here", "_law_house", "_law_goal"] (defScope s_l_way) := ⟨rfl, rfl, rfl, by decide +kernel, rfl, by decide +kernel, by decide +kernel⟩
theorem ok_l_way (T : TF K mg "_law_way" s_l_way) (G_l_fars : Fn P w K mg base C 1 "_law_fars" d_l_fars) : Fn P w K mg base C 2 "_law_way" d_l_way :=
  fn_F T sc_l_way rfl rfl (fun _ _ _ _ _ _ us hl => len3 us hl (fun _ _ _ => rfl)) fun f cdv A outer sh H E hr =>
    have nd : (cxOf CX0 P w K mg base ["_law_ties_here", "_law_house", "_law_goal", "_law_found", "_law_best", "_law_one", "_law_other", "_law_length", "_law_here", "_law_there"] "_law_way" (defScope s_l_way) f cdv A outer sh H E).nox.N.Nodup := sc_l_way.nd
    (pdb_cons (pds_set (i := 3) nd rfl (by first | exact Or.inl rfl | exact Or.inr rfl) (pd_callF G_l_fars (hr.mono (by decide)) rfl (pda_cons (pd_var (pv 0)) (pda_cons (pd_var (pv 2)) pda_nil)))) (pdb_cons (pds_set (i := 4) nd rfl (by first | exact Or.inl rfl | exact Or.inr rfl) pd_non) (pdb_cons (pds_for PassesOwn.never rfl (pdi_list (pd_var (pv 0))) (pdg_tup rfl (pdgs_cons (i := 5) nd rfl (by first | exact Or.inl rfl | exact Or.inr rfl) (pdgs_cons (i := 6) nd rfl (by first | exact Or.inl rfl | exact Or.inr rfl) (pdgs_cons (i := 7) nd rfl (by first | exact Or.inl rfl | exact Or.inr rfl) pdgs_nil)))) (pdb_one (pds_for PassesOwn.never rfl (pdi_list (pd_lst (pda_cons (pd_tup (pda_cons (pd_var (pv 5)) (pda_cons (pd_var (pv 6)) pda_nil))) (pda_cons (pd_tup (pda_cons (pd_var (pv 6)) (pda_cons (pd_var (pv 5)) pda_nil))) pda_nil)))) (pdg_tup rfl (pdgs_cons (i := 8) nd rfl (by first | exact Or.inl rfl | exact Or.inr rfl) (pdgs_cons (i := 9) nd rfl (by first | exact Or.inl rfl | exact Or.inr rfl) pdgs_nil))) (pdb_one (pds_if (PDW.pt (pdw_and (pdt_cmp (opD_eq hr.units) (pd_var (pv 8)) (pd_var (pv 1)) (nomark _)) (pdw_and (pdt_din (hu_of hr) (pd_var (pv 9)) (pd_var (pv 3))) (pdw_and1 (PDW.pt (pdw_or (pdt_cmp opD_is (pd_var (pv 4)) pd_non (nomark _)) (pdw_or1 (pdt_cmp (opD_ltT hr.units) (pd_tup (pda_cons (pd_op opD_add (pd_dget (hu_of hr) (pd_var (pv 3)) (pd_var (pv 9)) (fun _ _ => rfl)) (pd_var (pv 7))) (pda_cons (pd_var (pv 9)) pda_nil))) (pd_var (pv 4)) (nomark _))))))))) (pdb_one (pds_set (i := 4) nd rfl (by first | exact Or.inl rfl | exact Or.inr rfl) (pd_tup (pda_cons (pd_op opD_add (pd_dget (hu_of hr) (pd_var (pv 3)) (pd_var (pv 9)) (fun _ _ => rfl)) (pd_var (pv 7))) (pda_cons (pd_var (pv 9)) pda_nil))))) pdb_nil))))) (pdb_one (pds_ret (pd_var (pv 4)))))))
theorem sc_l_alike_r0 : FnScope ["_law_found", "_law_due"] ["_law_found", "_law_due"] (defScope s_l_alike_r0) := ⟨rfl, rfl, rfl, by decide +kernel, rfl, by decide +kernel, by decide +kernel⟩
theorem ok_l_alike_r0 (T : TF K mg "_law_alike" s_l_alike_r0) (b_all : mg "all" = none) (b_bool : mg "bool" = none) (b_isinstance : mg "isinstance" = none) (b_len : mg "len" = none) (b_list : mg "list" = none) (b_str : mg "str" = none) (b_tuple : mg "tuple" = none) (b_zip : mg "zip" = none) : Fn P w K mg base C 1 "_law_alike" d_l_alike_r0 :=
  fn_F T sc_l_alike_r0 rfl rfl (fun _ _ _ _ _ _ us hl => len2 us hl (fun _ _ => rfl)) fun f cdv A outer sh H E hr =>
    have nd : (cxOf CX0 P w K mg base ["_law_found", "_law_due"] "_law_alike" (defScope s_l_alike_r0) f cdv A outer sh H E).nox.N.Nodup := sc_l_alike_r0.nd
    (pdb_cons (pds_if (pdt_cmp opD_is (pd_var (pv 1)) pd_non (nomark _)) (pdb_one (pds_ret (pd_cmp opD_is (pd_var (pv 0)) pd_non (nomark _)))) pdb_nil) (pdb_cons (pds_if (pdt_val (pd_isinsts (Ts := ["tuple", "list"]) (pd_var (pv 1)) (pa_cons (pe_bltn (v := .ty "tuple") rfl b_tuple boot_tuple rfl) (pa_cons (pe_bltn (v := .ty "list") rfl b_list boot_list rfl) pa_nil)) (fun _ _ _ q => q) (by show 2 ≤ sizeLine; rw [sizeLine_eq]; decide) rfl b_isinstance boot_isinstance kits_tuple_list)) (pdb_cons (pds_if (PDW.pt (pdw_or (pdt_cmp (opD_ne hr.units) (pd_isinst (pd_var (pv 1)) (pe_bltn rfl b_tuple boot_tuple rfl) rfl b_isinstance boot_isinstance kit_tuple) (pd_isinst (pd_var (pv 0)) (pe_bltn rfl b_tuple boot_tuple rfl) rfl b_isinstance boot_isinstance kit_tuple) (nomark _)) (pdw_or1 (pdt_cmp (opD_ne hr.units) (pd_isinst (pd_var (pv 1)) (pe_bltn rfl b_list boot_list rfl) rfl b_isinstance boot_isinstance kit_list) (pd_isinst (pd_var (pv 0)) (pe_bltn rfl b_list boot_list rfl) rfl b_isinstance boot_isinstance kit_list) (nomark _))))) (pdb_one (pds_ret pd_bl)) pdb_nil) (pdb_one (pds_ret (pd_and (pd_cmp (opD_eq hr.units) (pd_callB callD_len rfl b_len PySem.boot_len (pda_cons (pd_var (pv 0)) pda_nil)) (pd_callB callD_len rfl b_len PySem.boot_len (pda_cons (pd_var (pv 1)) pda_nil)) (nomark _)) (pd_one (pd_callB (callD_all hr.hd) rfl b_all boot_all (pda_cons (pd_compN rfl (compOk_of (oN := ["_law_found", "_law_due"]) (osc := defScope s_l_alike_r0) (N := ["_law_one", "_law_other"]) (μ := [none, none]) rfl rfl (by decide +kernel)) (pdi_zip rfl b_zip (pda_cons (pd_var (pv 0)) (pda_cons (pd_var (pv 1)) pda_nil))) (fun _ _ _ _ => (pdg_tup rfl (pdgs_cons (i := 0) (show List.Nodup (["_law_one", "_law_other"] : List Str) by decide +kernel) rfl (by first | exact Or.inl rfl | exact Or.inr rfl) (pdgs_cons (i := 1) (show List.Nodup (["_law_one", "_law_other"] : List Str) by decide +kernel) rfl (by first | exact Or.inl rfl | exact Or.inr rfl) pdgs_nil)))) (fun _ _ _ _ => pdts_nil) (fun _ _ _ _ => pd_no)) pda_nil))))))) pdb_nil) (pdb_cons (pds_if (PDW.pt (pdw_or (pdt_cmp (opD_ne hr.units) (pd_isinst (pd_var (pv 0)) (pe_bltn rfl b_bool boot_bool rfl) rfl b_isinstance boot_isinstance kit_bool) (pd_isinst (pd_var (pv 1)) (pe_bltn rfl b_bool boot_bool rfl) rfl b_isinstance boot_isinstance kit_bool) (nomark _)) (pdw_or1 (pdt_cmp (opD_ne hr.units) (pd_isinst (pd_var (pv 0)) (pe_bltn rfl b_str boot_str rfl) rfl b_isinstance boot_isinstance kit_str) (pd_isinst (pd_var (pv 1)) (pe_bltn rfl b_str boot_str rfl) rfl b_isinstance boot_isinstance kit_str) (nomark _))))) (pdb_one (pds_ret pd_bl)) pdb_nil) (pdb_one (pds_ret (pd_cmp (opD_eq hr.units) (pd_var (pv 0)) (pd_var (pv 1)) (nomark _)))))))
theorem sc_l_alike_r1 : FnScope ["_law_found", "_law_due"] ["_law_found", "_law_due"] (defScope s_l_alike_r1) := ⟨rfl, rfl, rfl, by decide +kernel, rfl, by decide +kernel, by decide +kernel⟩
theorem ok_l_alike_r1 (T : TF K mg "_law_alike" s_l_alike_r1) (b_all : mg "all" = none) (b_bool : mg "bool" = none) (b_isinstance : mg "isinstance" = none) (b_len : mg "len" = none) (b_list : mg "list" = none) (b_str : mg "str" = none) (b_tuple : mg "tuple" = none) (b_zip : mg "zip" = none) (G_l_alike_r0 : Fn P w K mg base C 1 "_law_alike" d_l_alike_r0) : Fn P w K mg base C 2 "_law_alike" d_l_alike_r1 :=
  fn_F T sc_l_alike_r1 rfl rfl (fun _ _ _ _ _ _ us hl => len2 us hl (fun _ _ => rfl)) fun f cdv A outer sh H E hr =>
    have nd : (cxOf CX0 P w K mg base ["_law_found", "_law_due"] "_law_alike" (defScope s_l_alike_r1) f cdv A outer sh H E).nox.N.Nodup := sc_l_alike_r1.nd
    (pdb_cons (pds_if (pdt_cmp opD_is (pd_var (pv 1)) pd_non (nomark _)) (pdb_one (pds_ret (pd_cmp opD_is (pd_var (pv 0)) pd_non (nomark _)))) pdb_nil) (pdb_cons (pds_if (pdt_val (pd_isinsts (Ts := ["tuple", "list"]) (pd_var (pv 1)) (pa_cons (pe_bltn (v := .ty "tuple") rfl b_tuple boot_tuple rfl) (pa_cons (pe_bltn (v := .ty "list") rfl b_list boot_list rfl) pa_nil)) (fun _ _ _ q => q) (by show 2 ≤ sizeLine; rw [sizeLine_eq]; decide) rfl b_isinstance boot_isinstance kits_tuple_list)) (pdb_cons (pds_if (PDW.pt (pdw_or (pdt_cmp (opD_ne hr.units) (pd_isinst (pd_var (pv 1)) (pe_bltn rfl b_tuple boot_tuple rfl) rfl b_isinstance boot_isinstance kit_tuple) (pd_isinst (pd_var (pv 0)) (pe_bltn rfl b_tuple boot_tuple rfl) rfl b_isinstance boot_isinstance kit_tuple) (nomark _)) (pdw_or1 (pdt_cmp (opD_ne hr.units) (pd_isinst (pd_var (pv 1)) (pe_bltn rfl b_list boot_list rfl) rfl b_isinstance boot_isinstance kit_list) (pd_isinst (pd_var (pv 0)) (pe_bltn rfl b_list boot_list rfl) rfl b_isinstance boot_isinstance kit_list) (nomark _))))) (pdb_one (pds_ret pd_bl)) pdb_nil) (pdb_one (pds_ret (pd_and (pd_cmp (opD_eq hr.units) (pd_callB callD_len rfl b_len PySem.boot_len (pda_cons (pd_var (pv 0)) pda_nil)) (pd_callB callD_len rfl b_len PySem.boot_len (pda_cons (pd_var (pv 1)) pda_nil)) (nomark _)) (pd_one (pd_callB (callD_all hr.hd) rfl b_all boot_all (pda_cons (pd_compN rfl (compOk_of (oN := ["_law_found", "_law_due"]) (osc := defScope s_l_alike_r1) (N := ["_law_one", "_law_other"]) (μ := [none, none]) rfl rfl (by decide +kernel)) (pdi_zip rfl b_zip (pda_cons (pd_var (pv 0)) (pda_cons (pd_var (pv 1)) pda_nil))) (fun _ _ _ _ => (pdg_tup rfl (pdgs_cons (i := 0) (show List.Nodup (["_law_one", "_law_other"] : List Str) by decide +kernel) rfl (by first | exact Or.inl rfl | exact Or.inr rfl) (pdgs_cons (i := 1) (show List.Nodup (["_law_one", "_law_other"] : List Str) by decide +kernel) rfl (by first | exact Or.inl rfl | exact Or.inr rfl) pdgs_nil)))) (fun _ _ _ _ => pdts_nil) (fun _ _ _ _ => (pd_callF G_l_alike_r0 (hr.mono (by decide)) rfl (pda_cons (pd_var (pv 0)) (pda_cons (pd_var (pv 1)) pda_nil))))) pda_nil))))))) pdb_nil) (pdb_cons (pds_if (PDW.pt (pdw_or (pdt_cmp (opD_ne hr.units) (pd_isinst (pd_var (pv 0)) (pe_bltn rfl b_bool boot_bool rfl) rfl b_isinstance boot_isinstance kit_bool) (pd_isinst (pd_var (pv 1)) (pe_bltn rfl b_bool boot_bool rfl) rfl b_isinstance boot_isinstance kit_bool) (nomark _)) (pdw_or1 (pdt_cmp (opD_ne hr.units) (pd_isinst (pd_var (pv 0)) (pe_bltn rfl b_str boot_str rfl) rfl b_isinstance boot_isinstance kit_str) (pd_isinst (pd_var (pv 1)) (pe_bltn rfl b_str boot_str rfl) rfl b_isinstance boot_isinstance kit_str) (nomark _))))) (pdb_one (pds_ret pd_bl)) pdb_nil) (pdb_one (pds_ret (pd_cmp (opD_eq hr.units) (pd_var (pv 0)) (pd_var (pv 1)) (nomark _)))))))
theorem sc_steps_by_house : FnScope ["ties", "steps_from", "one", "other", "length"] ["ties"] (defScope s_steps_by_house) := ⟨rfl, rfl, rfl, by decide +kernel, rfl, by decide +kernel, by decide +kernel⟩
theorem ok_steps_by_house (T : TF K mg "steps_by_house" s_steps_by_house) : Fn P w K mg base C 1 "steps_by_house" d_steps_by_house :=
  fn_F T sc_steps_by_house rfl rfl (fun _ _ _ _ _ _ us hl => len1 us hl (fun _ => rfl)) fun f cdv A outer sh H E hr =>
    have nd : (cxOf CX0 P w K mg base ["ties", "steps_from", "one", "other", "length"] "steps_by_house" (defScope s_steps_by_house) f cdv A outer sh H E).nox.N.Nodup := sc_steps_by_house.nd
    (pdb_cons (pds_set (i := 1) nd rfl (by first | exact Or.inl rfl | exact Or.inr rfl) pd_newK) (pdb_cons (pds_for PassesOwn.never rfl (pdi_list (pd_var (pv 0))) (pdg_tup rfl (pdgs_cons (i := 2) nd rfl (by first | exact Or.inl rfl | exact Or.inr rfl) (pdgs_cons (i := 3) nd rfl (by first | exact Or.inl rfl | exact Or.inr rfl) (pdgs_cons (i := 4) nd rfl (by first | exact Or.inl rfl | exact Or.inr rfl) pdgs_nil)))) (pdb_cons (pds_appM (pd_sdefK (pd_var (pv 1)) (pd_var (pv 2)) (pd_newM pda_nil) ⟨rfl, rfl, rfl, rfl⟩) (pd_tup (pda_cons (pd_var (pv 3)) (pda_cons (pd_var (pv 4)) pda_nil)))) (pdb_one (pds_appM (pd_sdefK (pd_var (pv 1)) (pd_var (pv 3)) (pd_newM pda_nil) ⟨rfl, rfl, rfl, rfl⟩) (pd_tup (pda_cons (pd_var (pv 2)) (pda_cons (pd_var (pv 4)) pda_nil))))))) (pdb_one (pds_ret (pd_var (pv 1))))))
theorem sc_fars : FnScope ["ties", "start", "steps_from", "far_of", "found", "house", "far", "neighbour", "length"] ["ties", "start"] (defScope s_fars) := ⟨rfl, rfl, rfl, by decide +kernel, rfl, by decide +kernel, by decide +kernel⟩
theorem ok_fars (T : TF K mg "fars" s_fars) (b_min : mg "min" = none) (G_steps_by_house : Fn P w K mg base C 1 "steps_by_house" d_steps_by_house) : Fn P w K mg base C 2 "fars" d_fars :=
  fn_F T sc_fars rfl rfl (fun _ _ _ _ _ _ us hl => len2 us hl (fun _ _ => rfl)) fun f cdv A outer sh H E hr =>
    have nd : (cxOf CX0 P w K mg base ["ties", "start", "steps_from", "far_of", "found", "house", "far", "neighbour", "length"] "fars" (defScope s_fars) f cdv A outer sh H E).nox.N.Nodup := sc_fars.nd
    (pdb_cons (pds_set (i := 2) nd rfl (by first | exact Or.inl rfl | exact Or.inr rfl) (pd_callF G_steps_by_house (hr.mono (by decide)) rfl (pda_cons (pd_var (pv 0)) pda_nil))) (pdb_cons (pds_set (i := 3) nd rfl (by first | exact Or.inl rfl | exact Or.inr rfl) pd_newK) (pdb_cons (pds_set (i := 4) nd rfl (by first | exact Or.inl rfl | exact Or.inr rfl) (pd_disp1 (pd_var (pv 1)) pd_int)) (pdb_cons (pds_while 1000 PassesOwn.never (pdt_neE hr.units0 (pd_var (pv 4))) (pdb_cons (pds_set (i := 5) nd rfl (by first | exact Or.inl rfl | exact Or.inr rfl) (pd_ix (pd_min hr rfl b_min boot_min (pd_compK rfl (compOk_of (oN := ["ties", "start", "steps_from", "far_of", "found", "house", "far", "neighbour", "length"]) (osc := defScope s_fars) (N := ["number", "found"]) (μ := [none, some 4]) rfl rfl (by decide +kernel)) (pd_var (pv 4)) (fun _ _ _ _ => (pdg_name (show List.Nodup (["number", "found"] : List Str) by decide +kernel) rfl (by first | exact Or.inl rfl | exact Or.inr rfl))) (fun _ _ _ _ => pdts_nil) (fun _ _ _ _ => (pd_tup (pda_cons (pd_dget (hu_of hr) (pd_var (pv 1)) (pd_var (pv 0)) (fun _ _ => rfl)) (pda_cons (pd_var (pv 0)) pda_nil)))))) pd_int)) (pdb_cons (pds_set (i := 6) nd rfl (by first | exact Or.inl rfl | exact Or.inr rfl) (pd_dpop (hu_of hr) (pd_var (pv 4)) (pd_var (pv 5)) ⟨rfl, rfl, rfl, rfl⟩)) (pdb_cons (pds_dput (hu_of hr) (pd_var (pv 3)) (pd_var (pv 5)) (pd_var (pv 6))) (pdb_one (pds_forM PassesOwn.never rfl (pd_dget2 (hu_of hr) (pd_var (pv 2)) (pd_var (pv 5)) (pd_newM pda_nil) ⟨rfl, rfl, rfl, rfl⟩) (pdg_tup rfl (pdgs_cons (i := 7) nd rfl (by first | exact Or.inl rfl | exact Or.inr rfl) (pdgs_cons (i := 8) nd rfl (by first | exact Or.inl rfl | exact Or.inr rfl) pdgs_nil))) (pdb_one (pds_if (pdt_dnotin (hu_of hr) (pd_var (pv 7)) (pd_var (pv 3))) (pdb_one (pds_dput (hu_of hr) (pd_var (pv 4)) (pd_var (pv 7)) (pd_callB (callD_min rfl) rfl b_min boot_min (pda_cons (pd_op opD_add (pd_var (pv 6)) (pd_var (pv 8))) (pda_cons (pd_dget2 (hu_of hr) (pd_var (pv 4)) (pd_var (pv 7)) (pd_op opD_add (pd_var (pv 6)) (pd_var (pv 8))) ⟨rfl, rfl, rfl, rfl⟩) pda_nil))))) pdb_nil)))))))) (pdb_one (pds_ret (pd_var (pv 3))))))))
theorem sc_due_way : FnScope ["ties", "house", "goal", "far_of", "steps"] ["ties", "house", "goal"] (defScope s_due_way) := ⟨rfl, rfl, rfl, by decide +kernel, rfl, by decide +kernel, by decide +kernel⟩
theorem ok_due_way (T : TF K mg "due_way" s_due_way) (b_min : mg "min" = none) (G_fars : Fn P w K mg base C 2 "fars" d_fars) (G_steps_by_house : Fn P w K mg base C 1 "steps_by_house" d_steps_by_house) : Fn P w K mg base C 3 "due_way" d_due_way :=
  fn_F T sc_due_way rfl rfl (fun _ _ _ _ _ _ us hl => len3 us hl (fun _ _ _ => rfl)) fun f cdv A outer sh H E hr =>
    have nd : (cxOf CX0 P w K mg base ["ties", "house", "goal", "far_of", "steps"] "due_way" (defScope s_due_way) f cdv A outer sh H E).nox.N.Nodup := sc_due_way.nd
    (pdb_cons (pds_set (i := 3) nd rfl (by first | exact Or.inl rfl | exact Or.inr rfl) (pd_callF G_fars (hr.mono (by decide)) rfl (pda_cons (pd_var (pv 0)) (pda_cons (pd_var (pv 2)) pda_nil)))) (pdb_cons (pds_if (pdt_dnotin (hu_of hr) (pd_var (pv 1)) (pd_var (pv 3))) (pdb_one (pds_ret pd_non)) pdb_nil) (pdb_cons (pds_set (i := 4) nd rfl (by first | exact Or.inl rfl | exact Or.inr rfl) (pd_dget2 (hu_of hr) (pd_callF G_steps_by_house (hr.mono (by decide)) rfl (pda_cons (pd_var (pv 0)) pda_nil)) (pd_var (pv 1)) (pd_newM pda_nil) ⟨rfl, rfl, rfl, rfl⟩)) (pdb_one (pds_ret (pd_min hr rfl b_min boot_min (pd_compM rfl (compOk_of (oN := ["ties", "house", "goal", "far_of", "steps"]) (osc := defScope s_due_way) (N := ["neighbour", "length", "far_of"]) (μ := [none, none, some 3]) rfl rfl (by decide +kernel)) (pd_var (pv 4)) (fun _ _ _ _ => (pdg_tup rfl (pdgs_cons (i := 0) (show List.Nodup (["neighbour", "length", "far_of"] : List Str) by decide +kernel) rfl (by first | exact Or.inl rfl | exact Or.inr rfl) (pdgs_cons (i := 1) (show List.Nodup (["neighbour", "length", "far_of"] : List Str) by decide +kernel) rfl (by first | exact Or.inl rfl | exact Or.inr rfl) pdgs_nil)))) (fun _ _ _ _ => pdts_nil) (fun _ _ _ _ => (pd_tup (pda_cons (pd_op opD_add (pd_var (pv 1)) (pd_dget (hu_of hr) (pd_var (pv 2)) (pd_var (pv 0)) (fun _ _ => rfl))) (pda_cons (pd_var (pv 0)) pda_nil)))))))))))
theorem sc_law : FnScope ["_law_script", "_law_cells", "_law_ties_here", "_law_given", "_law_houses", "_law_k", "_law_cell", "_law_one", "_law_other", "_law_here", "_law_there", "_law_due"] ["_law_script"] (defScope s_law) := ⟨rfl, rfl, rfl, by decide +kernel, rfl, by decide +kernel, by decide +kernel⟩
end
theorem law_fn {P : Program} {w : World} {K : PySem.W.Frag} {mg : Str → Option Value} {base : Heap} {C : Cl} {f : Addr} {fd : FuncData} (F : Fun K "law" "law" s_law f fd) (b_len : mg "len" = none) (b_list : mg "list" = none) (b_range : mg "range" = none) (b_set : mg "set" = none) (b_sorted : mg "sorted" = none) (G_l_mixed : Fn P w K mg base C 1 "_law_mixed" d_l_mixed) (G_l_ties : Fn P w K mg base C 2 "_law_ties" d_l_ties) (G_l_mix : Fn P w K mg base C 1 "_law_mix" d_l_mix) (G_l_cell_at : Fn P w K mg base C 1 "_law_cell_at" d_l_cell_at) (G_l_way : Fn P w K mg base C 2 "_law_way" d_l_way) (G_l_alike_r1 : Fn P w K mg base C 2 "_law_alike" d_l_alike_r1) (G_due_way : Fn P w K mg base C 3 "due_way" d_due_way) : FnOk P w K mg base CX0 4 f fd ["_law_script"] (spD K C d_law) :=
  fn_D F sc_law rfl rfl fun cdv A outer sh H E hr =>
    have nd : (cxOf CX0 P w K mg base ["_law_script", "_law_cells", "_law_ties_here", "_law_given", "_law_houses", "_law_k", "_law_cell", "_law_one", "_law_other", "_law_here", "_law_there", "_law_due"] "law" (defScope s_law) f cdv A outer sh H E).nox.N.Nodup := sc_law.nd
    (pdb_cons (pds_set (i := 1) nd rfl (by first | exact Or.inl rfl | exact Or.inr rfl) (pd_callF G_l_mixed (hr.mono (by decide)) rfl (pda_cons (pd_var (pv 0)) pda_nil))) (pdb_cons (pds_set (i := 2) nd rfl (by first | exact Or.inl rfl | exact Or.inr rfl) (pd_callF G_l_ties (hr.mono (by decide)) rfl (pda_cons (pd_var (pv 1)) (pda_cons pd_int (pda_cons pd_int pda_nil))))) (pdb_cons (pds_set (i := 3) nd rfl (by first | exact Or.inl rfl | exact Or.inr rfl) (pd_callTy callD_list rfl b_list boot_list (pda_cons (pd_var (pv 2)) pda_nil))) (pdb_cons (pds_set (i := 4) nd rfl (by first | exact Or.inl rfl | exact Or.inr rfl) (pd_objN (pdn_cat (pd_sortS hr rfl b_sorted boot_sorted rfl b_set boot_set (pd_op opD_add (pd_compN rfl (compOk_of (oN := ["_law_script", "_law_cells", "_law_ties_here", "_law_given", "_law_houses", "_law_k", "_law_cell", "_law_one", "_law_other", "_law_here", "_law_there", "_law_due"]) (osc := defScope s_law) (N := ["_law_tie"]) (μ := [none]) rfl rfl (by decide +kernel)) (pdi_list (pd_var (pv 2))) (fun _ _ _ _ => (pdg_name (show List.Nodup (["_law_tie"] : List Str) by decide +kernel) rfl (by first | exact Or.inl rfl | exact Or.inr rfl))) (fun _ _ _ _ => pdts_nil) (fun _ _ _ _ => (pd_ix (pd_var (pv 0)) pd_int))) (pd_compN rfl (compOk_of (oN := ["_law_script", "_law_cells", "_law_ties_here", "_law_given", "_law_houses", "_law_k", "_law_cell", "_law_one", "_law_other", "_law_here", "_law_there", "_law_due"]) (osc := defScope s_law) (N := ["_law_tie"]) (μ := [none]) rfl rfl (by decide +kernel)) (pdi_list (pd_var (pv 2))) (fun _ _ _ _ => (pdg_name (show List.Nodup (["_law_tie"] : List Str) by decide +kernel) rfl (by first | exact Or.inl rfl | exact Or.inr rfl))) (fun _ _ _ _ => pdts_nil) (fun _ _ _ _ => (pd_ix (pd_var (pv 0)) pd_int))))) (pd_lst (pda_cons pd_int pda_nil))))) (pdb_cons (pds_setM (pd_var (pv 4)) (pd_neg pd_int) (pd_op opD_mod (pd_callF G_l_mix (hr.mono (by decide)) rfl (pda_cons (pd_callF G_l_cell_at (hr.mono (by decide)) rfl (pda_cons (pd_var (pv 1)) (pda_cons pd_int pda_nil))) (pda_cons pd_int pda_nil))) pd_int)) (pdb_cons (pds_for PassesOwn.never rfl (pdi_range1 rfl b_range (pda_cons pd_int pda_nil)) (pdg_name nd rfl (by first | exact Or.inl rfl | exact Or.inr rfl)) (pdb_cons (pds_set (i := 6) nd rfl (by first | exact Or.inl rfl | exact Or.inr rfl) (pd_callF G_l_mix (hr.mono (by decide)) rfl (pda_cons (pd_callF G_l_cell_at (hr.mono (by decide)) rfl (pda_cons (pd_var (pv 1)) (pda_cons pd_int pda_nil))) (pda_cons (pd_op opD_add pd_int (pd_var (pv 5))) pda_nil)))) (pdb_cons (pds_set (i := 7) nd rfl (by first | exact Or.inl rfl | exact Or.inr rfl) (pd_mix (pd_var (pv 4)) (pd_op opD_mod (pd_var (pv 6)) (pd_lenM rfl b_len PySem.boot_len (pd_var (pv 4)))))) (pdb_cons (pds_set (i := 8) nd rfl (by first | exact Or.inl rfl | exact Or.inr rfl) (pd_mix (pd_var (pv 4)) (pd_op opD_mod (pd_op opD_div (pd_var (pv 6)) pd_int) (pd_lenM rfl b_len PySem.boot_len (pd_var (pv 4)))))) (pdb_one (pds_for PassesOwn.never rfl (pdi_list (pd_lst (pda_cons (pd_tup (pda_cons (pd_var (pv 7)) (pda_cons (pd_var (pv 8)) pda_nil))) (pda_cons (pd_tup (pda_cons (pd_var (pv 8)) (pda_cons (pd_var (pv 7)) pda_nil))) pda_nil)))) (pdg_tup rfl (pdgs_cons (i := 9) nd rfl (by first | exact Or.inl rfl | exact Or.inr rfl) (pdgs_cons (i := 10) nd rfl (by first | exact Or.inl rfl | exact Or.inr rfl) pdgs_nil))) (pdb_cons (pds_set (i := 11) nd rfl (by first | exact Or.inl rfl | exact Or.inr rfl) (pd_callF G_l_way (hr.mono (by decide)) rfl (pda_cons (pd_var (pv 2)) (pda_cons (pd_var (pv 9)) (pda_cons (pd_var (pv 10)) pda_nil))))) (pdb_one (pds_if (PDW.pt (pdw_and (pdt_cmp (opD_ne hr.units) (pd_var (pv 9)) (pd_var (pv 10)) (nomark _)) (pdw_and1 (pdt_not (pdt_val (pd_callF G_l_alike_r1 (hr.mono (by decide)) rfl (pda_cons (pd_callF G_due_way (hr.mono (by decide)) rfl (pda_cons (pd_var (pv 3)) (pda_cons (pd_var (pv 9)) (pda_cons (pd_var (pv 10)) pda_nil)))) (pda_cons (pd_var (pv 11)) pda_nil)))))))) (pdb_one (pds_ret pd_bl)) pdb_nil))))))))) (pdb_one (pds_ret (pd_cmp (opD_eq hr.units) (pd_var (pv 3)) (pd_var (pv 2)) (nomark _))))))))))
theorem all_mk {P : Program} {w : World} {K : PySem.W.Frag} {h : Heap} {mg : Str → Option Value} {fa f_l_mixed f_l_cell_at f_l_mix f_l_ties f_l_fars f_l_way f_l_alike_r0 f_l_alike_r1 f_steps_by_house f_fars f_due_way f_law : Addr} (X : K.In h) (G : h.Ns mainGlobals mg) (hfa : mg "law" = some (.ref fa))
    {od_l_mixed an_l_mixed : Option Addr} {sl_l_mixed : Array (Option Value)} {oc_l_mixed kV_l_mixed dc_l_mixed pm_l_mixed cd_l_mixed ct_l_mixed : Value}
    {od_l_cell_at an_l_cell_at : Option Addr} {sl_l_cell_at : Array (Option Value)} {oc_l_cell_at kV_l_cell_at dc_l_cell_at pm_l_cell_at cd_l_cell_at ct_l_cell_at : Value}
    {od_l_mix an_l_mix : Option Addr} {sl_l_mix : Array (Option Value)} {oc_l_mix kV_l_mix dc_l_mix pm_l_mix cd_l_mix ct_l_mix : Value}
    {od_l_ties an_l_ties : Option Addr} {sl_l_ties : Array (Option Value)} {oc_l_ties kV_l_ties dc_l_ties pm_l_ties cd_l_ties ct_l_ties : Value}
    {od_l_fars an_l_fars : Option Addr} {sl_l_fars : Array (Option Value)} {oc_l_fars kV_l_fars dc_l_fars pm_l_fars cd_l_fars ct_l_fars : Value}
    {od_l_way an_l_way : Option Addr} {sl_l_way : Array (Option Value)} {oc_l_way kV_l_way dc_l_way pm_l_way cd_l_way ct_l_way : Value}
    {od_l_alike_r0 an_l_alike_r0 : Option Addr} {sl_l_alike_r0 : Array (Option Value)} {oc_l_alike_r0 kV_l_alike_r0 dc_l_alike_r0 pm_l_alike_r0 cd_l_alike_r0 ct_l_alike_r0 : Value}
    {od_l_alike_r1 an_l_alike_r1 : Option Addr} {sl_l_alike_r1 : Array (Option Value)} {oc_l_alike_r1 kV_l_alike_r1 dc_l_alike_r1 pm_l_alike_r1 cd_l_alike_r1 ct_l_alike_r1 : Value}
    {od_steps_by_house an_steps_by_house : Option Addr} {sl_steps_by_house : Array (Option Value)} {oc_steps_by_house kV_steps_by_house dc_steps_by_house pm_steps_by_house cd_steps_by_house ct_steps_by_house : Value}
    {od_fars an_fars : Option Addr} {sl_fars : Array (Option Value)} {oc_fars kV_fars dc_fars pm_fars cd_fars ct_fars : Value}
    {od_due_way an_due_way : Option Addr} {sl_due_way : Array (Option Value)} {oc_due_way kV_due_way dc_due_way pm_due_way cd_due_way ct_due_way : Value}
    {od_law an_law : Option Addr} {sl_law : Array (Option Value)} {oc_law kV_law dc_law pm_law cd_law ct_law : Value}
    (a_l_mixed : PySem.W.nsIn K mainGlobals "_law_mixed" = some (some (.ref f_l_mixed)))
    (l_l_mixed : K.lookup f_l_mixed = some ⟨oc_l_mixed, od_l_mixed, .func (PySem.W.fnOf "_law_mixed" "_law_mixed" (defArgs s_l_mixed) (defBody s_l_mixed) (defScope s_l_mixed) .none kV_l_mixed dc_l_mixed pm_l_mixed an_l_mixed cd_l_mixed ct_l_mixed), sl_l_mixed⟩) (cc_l_mixed : PySem.W.codeIn K cd_l_mixed "_law_mixed" = true) (k_l_mixed : PySem.W.keepIn K (.ref f_l_mixed) = true)
    (a_l_cell_at : PySem.W.nsIn K mainGlobals "_law_cell_at" = some (some (.ref f_l_cell_at)))
    (l_l_cell_at : K.lookup f_l_cell_at = some ⟨oc_l_cell_at, od_l_cell_at, .func (PySem.W.fnOf "_law_cell_at" "_law_cell_at" (defArgs s_l_cell_at) (defBody s_l_cell_at) (defScope s_l_cell_at) .none kV_l_cell_at dc_l_cell_at pm_l_cell_at an_l_cell_at cd_l_cell_at ct_l_cell_at), sl_l_cell_at⟩) (cc_l_cell_at : PySem.W.codeIn K cd_l_cell_at "_law_cell_at" = true) (k_l_cell_at : PySem.W.keepIn K (.ref f_l_cell_at) = true)
    (a_l_mix : PySem.W.nsIn K mainGlobals "_law_mix" = some (some (.ref f_l_mix)))
    (l_l_mix : K.lookup f_l_mix = some ⟨oc_l_mix, od_l_mix, .func (PySem.W.fnOf "_law_mix" "_law_mix" (defArgs s_l_mix) (defBody s_l_mix) (defScope s_l_mix) .none kV_l_mix dc_l_mix pm_l_mix an_l_mix cd_l_mix ct_l_mix), sl_l_mix⟩) (cc_l_mix : PySem.W.codeIn K cd_l_mix "_law_mix" = true) (k_l_mix : PySem.W.keepIn K (.ref f_l_mix) = true)
    (a_l_ties : PySem.W.nsIn K mainGlobals "_law_ties" = some (some (.ref f_l_ties)))
    (l_l_ties : K.lookup f_l_ties = some ⟨oc_l_ties, od_l_ties, .func (PySem.W.fnOf "_law_ties" "_law_ties" (defArgs s_l_ties) (defBody s_l_ties) (defScope s_l_ties) .none kV_l_ties dc_l_ties pm_l_ties an_l_ties cd_l_ties ct_l_ties), sl_l_ties⟩) (cc_l_ties : PySem.W.codeIn K cd_l_ties "_law_ties" = true) (k_l_ties : PySem.W.keepIn K (.ref f_l_ties) = true)
    (a_l_fars : PySem.W.nsIn K mainGlobals "_law_fars" = some (some (.ref f_l_fars)))
    (l_l_fars : K.lookup f_l_fars = some ⟨oc_l_fars, od_l_fars, .func (PySem.W.fnOf "_law_fars" "_law_fars" (defArgs s_l_fars) (defBody s_l_fars) (defScope s_l_fars) .none kV_l_fars dc_l_fars pm_l_fars an_l_fars cd_l_fars ct_l_fars), sl_l_fars⟩) (cc_l_fars : PySem.W.codeIn K cd_l_fars "_law_fars" = true) (k_l_fars : PySem.W.keepIn K (.ref f_l_fars) = true)
    (a_l_way : PySem.W.nsIn K mainGlobals "_law_way" = some (some (.ref f_l_way)))
    (l_l_way : K.lookup f_l_way = some ⟨oc_l_way, od_l_way, .func (PySem.W.fnOf "_law_way" "_law_way" (defArgs s_l_way) (defBody s_l_way) (defScope s_l_way) .none kV_l_way dc_l_way pm_l_way an_l_way cd_l_way ct_l_way), sl_l_way⟩) (cc_l_way : PySem.W.codeIn K cd_l_way "_law_way" = true) (k_l_way : PySem.W.keepIn K (.ref f_l_way) = true)
    (a_l_alike_r0 : PySem.W.nsIn K mainGlobals "_law_alike" = some (some (.ref f_l_alike_r0)))
    (l_l_alike_r0 : K.lookup f_l_alike_r0 = some ⟨oc_l_alike_r0, od_l_alike_r0, .func (PySem.W.fnOf "_law_alike" "_law_alike" (defArgs s_l_alike_r0) (defBody s_l_alike_r0) (defScope s_l_alike_r0) .none kV_l_alike_r0 dc_l_alike_r0 pm_l_alike_r0 an_l_alike_r0 cd_l_alike_r0 ct_l_alike_r0), sl_l_alike_r0⟩) (cc_l_alike_r0 : PySem.W.codeIn K cd_l_alike_r0 "_law_alike" = true) (k_l_alike_r0 : PySem.W.keepIn K (.ref f_l_alike_r0) = true)
    (a_l_alike_r1 : PySem.W.nsIn K mainGlobals "_law_alike" = some (some (.ref f_l_alike_r1)))
    (l_l_alike_r1 : K.lookup f_l_alike_r1 = some ⟨oc_l_alike_r1, od_l_alike_r1, .func (PySem.W.fnOf "_law_alike" "_law_alike" (defArgs s_l_alike_r1) (defBody s_l_alike_r1) (defScope s_l_alike_r1) .none kV_l_alike_r1 dc_l_alike_r1 pm_l_alike_r1 an_l_alike_r1 cd_l_alike_r1 ct_l_alike_r1), sl_l_alike_r1⟩) (cc_l_alike_r1 : PySem.W.codeIn K cd_l_alike_r1 "_law_alike" = true) (k_l_alike_r1 : PySem.W.keepIn K (.ref f_l_alike_r1) = true)
    (a_steps_by_house : PySem.W.nsIn K mainGlobals "steps_by_house" = some (some (.ref f_steps_by_house)))
    (l_steps_by_house : K.lookup f_steps_by_house = some ⟨oc_steps_by_house, od_steps_by_house, .func (PySem.W.fnOf "steps_by_house" "steps_by_house" (defArgs s_steps_by_house) (defBody s_steps_by_house) (defScope s_steps_by_house) .none kV_steps_by_house dc_steps_by_house pm_steps_by_house an_steps_by_house cd_steps_by_house ct_steps_by_house), sl_steps_by_house⟩) (cc_steps_by_house : PySem.W.codeIn K cd_steps_by_house "steps_by_house" = true) (k_steps_by_house : PySem.W.keepIn K (.ref f_steps_by_house) = true)
    (a_fars : PySem.W.nsIn K mainGlobals "fars" = some (some (.ref f_fars)))
    (l_fars : K.lookup f_fars = some ⟨oc_fars, od_fars, .func (PySem.W.fnOf "fars" "fars" (defArgs s_fars) (defBody s_fars) (defScope s_fars) .none kV_fars dc_fars pm_fars an_fars cd_fars ct_fars), sl_fars⟩) (cc_fars : PySem.W.codeIn K cd_fars "fars" = true) (k_fars : PySem.W.keepIn K (.ref f_fars) = true)
    (a_due_way : PySem.W.nsIn K mainGlobals "due_way" = some (some (.ref f_due_way)))
    (l_due_way : K.lookup f_due_way = some ⟨oc_due_way, od_due_way, .func (PySem.W.fnOf "due_way" "due_way" (defArgs s_due_way) (defBody s_due_way) (defScope s_due_way) .none kV_due_way dc_due_way pm_due_way an_due_way cd_due_way ct_due_way), sl_due_way⟩) (cc_due_way : PySem.W.codeIn K cd_due_way "due_way" = true) (k_due_way : PySem.W.keepIn K (.ref f_due_way) = true)
    (a_law : PySem.W.nsIn K mainGlobals "law" = some (some (.ref f_law)))
    (l_law : K.lookup f_law = some ⟨oc_law, od_law, .func (PySem.W.fnOf "law" "law" (defArgs s_law) (defBody s_law) (defScope s_law) .none kV_law dc_law pm_law an_law cd_law ct_law), sl_law⟩) (cc_law : PySem.W.codeIn K cd_law "law" = true) (k_law : PySem.W.keepIn K (.ref f_law) = true)
    (z_all : PySem.W.nsIn K mainGlobals "all" = some none)
    (z_bool : PySem.W.nsIn K mainGlobals "bool" = some none)
    (z_isinstance : PySem.W.nsIn K mainGlobals "isinstance" = some none)
    (z_len : PySem.W.nsIn K mainGlobals "len" = some none)
    (z_list : PySem.W.nsIn K mainGlobals "list" = some none)
    (z_min : PySem.W.nsIn K mainGlobals "min" = some none)
    (z_range : PySem.W.nsIn K mainGlobals "range" = some none)
    (z_set : PySem.W.nsIn K mainGlobals "set" = some none)
    (z_sorted : PySem.W.nsIn K mainGlobals "sorted" = some none)
    (z_str : PySem.W.nsIn K mainGlobals "str" = some none)
    (z_tuple : PySem.W.nsIn K mainGlobals "tuple" = some none)
    (z_zip : PySem.W.nsIn K mainGlobals "zip" = some none) :
    ∃ fd : FuncData, (∀ (s : Shared) (v : Value), BindsTo s fd ⟨[v], []⟩ [("_law_script", v)]) ∧ ∀ base : Heap, K.In base → base.Ns mainGlobals mg → FnOk P w K mg base CX0 4 fa fd ["_law_script"] (spC K d_law) := by
  have e := hfa.symm.trans (PySem.W.mg_of X G a_law)
  cases e
  have T_l_mixed : TF K mg "_law_mixed" s_l_mixed := ⟨f_l_mixed, _, PySem.W.mg_of X G a_l_mixed, fun_mk (st := s_l_mixed) l_l_mixed cc_l_mixed k_l_mixed⟩
  have T_l_cell_at : TF K mg "_law_cell_at" s_l_cell_at := ⟨f_l_cell_at, _, PySem.W.mg_of X G a_l_cell_at, fun_mk (st := s_l_cell_at) l_l_cell_at cc_l_cell_at k_l_cell_at⟩
  have T_l_mix : TF K mg "_law_mix" s_l_mix := ⟨f_l_mix, _, PySem.W.mg_of X G a_l_mix, fun_mk (st := s_l_mix) l_l_mix cc_l_mix k_l_mix⟩
  have T_l_ties : TF K mg "_law_ties" s_l_ties := ⟨f_l_ties, _, PySem.W.mg_of X G a_l_ties, fun_mk (st := s_l_ties) l_l_ties cc_l_ties k_l_ties⟩
  have T_l_fars : TF K mg "_law_fars" s_l_fars := ⟨f_l_fars, _, PySem.W.mg_of X G a_l_fars, fun_mk (st := s_l_fars) l_l_fars cc_l_fars k_l_fars⟩
  have T_l_way : TF K mg "_law_way" s_l_way := ⟨f_l_way, _, PySem.W.mg_of X G a_l_way, fun_mk (st := s_l_way) l_l_way cc_l_way k_l_way⟩
  have T_l_alike_r0 : TF K mg "_law_alike" s_l_alike_r0 := ⟨f_l_alike_r0, _, PySem.W.mg_of X G a_l_alike_r0, fun_mk (st := s_l_alike_r0) l_l_alike_r0 cc_l_alike_r0 k_l_alike_r0⟩
  have T_l_alike_r1 : TF K mg "_law_alike" s_l_alike_r1 := ⟨f_l_alike_r1, _, PySem.W.mg_of X G a_l_alike_r1, fun_mk (st := s_l_alike_r1) l_l_alike_r1 cc_l_alike_r1 k_l_alike_r1⟩
  have T_steps_by_house : TF K mg "steps_by_house" s_steps_by_house := ⟨f_steps_by_house, _, PySem.W.mg_of X G a_steps_by_house, fun_mk (st := s_steps_by_house) l_steps_by_house cc_steps_by_house k_steps_by_house⟩
  have T_fars : TF K mg "fars" s_fars := ⟨f_fars, _, PySem.W.mg_of X G a_fars, fun_mk (st := s_fars) l_fars cc_fars k_fars⟩
  have T_due_way : TF K mg "due_way" s_due_way := ⟨f_due_way, _, PySem.W.mg_of X G a_due_way, fun_mk (st := s_due_way) l_due_way cc_due_way k_due_way⟩
  refine ⟨PySem.W.fnOf "law" "law" (defArgs s_law) (defBody s_law) (defScope s_law) .none kV_law dc_law pm_law an_law cd_law ct_law, fun s v => .of_eq rfl, fun base KB _ => ?_⟩
  have G_l_mixed : Fn P w K mg base C0 1 "_law_mixed" d_l_mixed := ok_l_mixed T_l_mixed 
  have G_l_cell_at : Fn P w K mg base C0 1 "_law_cell_at" d_l_cell_at := ok_l_cell_at T_l_cell_at (PySem.W.mg_none_of X G z_len)
  have G_l_mix : Fn P w K mg base C0 1 "_law_mix" d_l_mix := ok_l_mix T_l_mix 
  have G_l_ties : Fn P w K mg base C0 2 "_law_ties" d_l_ties := ok_l_ties T_l_ties (PySem.W.mg_none_of X G z_range) (PySem.W.mg_none_of X G z_sorted) G_l_cell_at G_l_mix
  have G_l_fars : Fn P w K mg base C0 1 "_law_fars" d_l_fars := ok_l_fars T_l_fars (PySem.W.mg_none_of X G z_min) (PySem.W.mg_none_of X G z_range)
  have G_l_way : Fn P w K mg base C0 2 "_law_way" d_l_way := ok_l_way T_l_way G_l_fars
  have G_l_alike_r0 : Fn P w K mg base C0 1 "_law_alike" d_l_alike_r0 := ok_l_alike_r0 T_l_alike_r0 (PySem.W.mg_none_of X G z_all) (PySem.W.mg_none_of X G z_bool) (PySem.W.mg_none_of X G z_isinstance) (PySem.W.mg_none_of X G z_len) (PySem.W.mg_none_of X G z_list) (PySem.W.mg_none_of X G z_str) (PySem.W.mg_none_of X G z_tuple) (PySem.W.mg_none_of X G z_zip)
  have G_l_alike_r1 : Fn P w K mg base C0 2 "_law_alike" d_l_alike_r1 := ok_l_alike_r1 T_l_alike_r1 (PySem.W.mg_none_of X G z_all) (PySem.W.mg_none_of X G z_bool) (PySem.W.mg_none_of X G z_isinstance) (PySem.W.mg_none_of X G z_len) (PySem.W.mg_none_of X G z_list) (PySem.W.mg_none_of X G z_str) (PySem.W.mg_none_of X G z_tuple) (PySem.W.mg_none_of X G z_zip) G_l_alike_r0
  have G_steps_by_house : Fn P w K mg base C0 1 "steps_by_house" d_steps_by_house := ok_steps_by_house T_steps_by_house 
  have G_fars : Fn P w K mg base C0 2 "fars" d_fars := ok_fars T_fars (PySem.W.mg_none_of X G z_min) G_steps_by_house
  have G_due_way : Fn P w K mg base C0 3 "due_way" d_due_way := ok_due_way T_due_way (PySem.W.mg_none_of X G z_min) G_fars G_steps_by_house
  exact (law_fn (C := C0) (fun_mk (st := s_law) l_law cc_law k_law) (PySem.W.mg_none_of X G z_len) (PySem.W.mg_none_of X G z_list) (PySem.W.mg_none_of X G z_range) (PySem.W.mg_none_of X G z_set) (PySem.W.mg_none_of X G z_sorted) G_l_mixed G_l_ties G_l_mix G_l_cell_at G_l_way G_l_alike_r1 G_due_way).imp fun vs H Q E h => h _
theorem walk {l : PySem.W.OpenLaw} {q : Program} {loose : List Str} {XP : (Str → Option Value) → Heap → Prop} {YP : World → Heap → Prop} {d : DefRec} {K : Params → PySem.W.Frag} (hn : l.most = some 63) (hdf : d.params.defaults = [])
    (hY : ∀ (w : World) (h : Heap), YP w h → (K w.params).In h) (holds : ∀ ns : List Int, ns.length ≤ 63 → ∃ Ω, d_law [.scr ns] [] = some (.bl true, Ω))
    (F : ∀ (w : World) (mg : Str → Option Value) (fa : Addr) (h : Heap), (K w.params).In h → h.Ns mainGlobals mg → mg d.name = some (.ref fa) →
      ∃ fd : FuncData, (∀ (s : Shared) (u : Value), BindsTo s fd ⟨[u], []⟩ [("_law_script", u)]) ∧ ∀ base : Heap, (K w.params).In base → base.Ns mainGlobals mg → FnOk l.prog w (K w.params) mg base CX0 4 fa fd ["_law_script"] (spC (K w.params) d_law)) :
    PySem.W.WalkO q loose XP YP l.row.toRowW d [] (fun f vs => PySem.call f vs) :=
  L2.walk_of (n := 63) (k := 4) (x := "_law_script") (CX := fun _ => CX0) (sp := fun w => spC (K w.params) d_law) hn (by decide) hdf ⟨rfl, by decide, by decide, rfl⟩ hY F (fun _ _ a ns hl _ hS => law_okC hS (holds ns hl)) fun _ _ _ _ _ z => z
end Law

open PySem PySem.W PyProof.Rows
set_option maxRecDepth 100000 in
set_option maxHeartbeats 0 in
theorem PySem.Challenge.cw_posthouse_k46_due_ways_holds : PySem.Challenge.rw_posthouse_k46_due_ways.Holds := by
  w_on; o_law; k_head; (case hw => w_witness2)
  k_fill
  refine Law.walk (l := PySem.Challenge.rw_posthouse_k46_due_ways) rfl rfl (fun w h Y => PySem.W.kIn_of Y) Law.holds ?F
  case F =>
    intro w mg fa h KX G hmg
    refine' Law.all_mk KX G hmg ?a_l_mixed ?l_l_mixed ?cc_l_mixed ?k_l_mixed ?a_l_cell_at ?l_l_cell_at ?cc_l_cell_at ?k_l_cell_at ?a_l_mix ?l_l_mix ?cc_l_mix ?k_l_mix ?a_l_ties ?l_l_ties ?cc_l_ties ?k_l_ties ?a_l_fars ?l_l_fars ?cc_l_fars ?k_l_fars ?a_l_way ?l_l_way ?cc_l_way ?k_l_way ?a_l_alike_r0 ?l_l_alike_r0 ?cc_l_alike_r0 ?k_l_alike_r0 ?a_l_alike_r1 ?l_l_alike_r1 ?cc_l_alike_r1 ?k_l_alike_r1 ?a_steps_by_house ?l_steps_by_house ?cc_steps_by_house ?k_steps_by_house ?a_fars ?l_fars ?cc_fars ?k_fars ?a_due_way ?l_due_way ?cc_due_way ?k_due_way ?a_law ?l_law ?cc_law ?k_law ?z_all ?z_bool ?z_isinstance ?z_len ?z_list ?z_min ?z_range ?z_set ?z_sorted ?z_str ?z_tuple ?z_zip
    (case a_l_mixed => k_is)
    (case l_l_mixed => k_is)
    (case cc_l_mixed => k_is)
    (case k_l_mixed => k_is)
    (case a_l_cell_at => k_is)
    (case l_l_cell_at => k_is)
    (case cc_l_cell_at => k_is)
    (case k_l_cell_at => k_is)
    (case a_l_mix => k_is)
    (case l_l_mix => k_is)
    (case cc_l_mix => k_is)
    (case k_l_mix => k_is)
    (case a_l_ties => k_is)
    (case l_l_ties => k_is)
    (case cc_l_ties => k_is)
    (case k_l_ties => k_is)
    (case a_l_fars => k_is)
    (case l_l_fars => k_is)
    (case cc_l_fars => k_is)
    (case k_l_fars => k_is)
    (case a_l_way => k_is)
    (case l_l_way => k_is)
    (case cc_l_way => k_is)
    (case k_l_way => k_is)
    (case a_l_alike_r0 => k_is)
    (case l_l_alike_r0 => k_is)
    (case cc_l_alike_r0 => k_is)
    (case k_l_alike_r0 => k_is)
    (case a_l_alike_r1 => k_is)
    (case l_l_alike_r1 => k_is)
    (case cc_l_alike_r1 => k_is)
    (case k_l_alike_r1 => k_is)
    (case a_steps_by_house => k_is)
    (case l_steps_by_house => k_is)
    (case cc_steps_by_house => k_is)
    (case k_steps_by_house => k_is)
    (case a_fars => k_is)
    (case l_fars => k_is)
    (case cc_fars => k_is)
    (case k_fars => k_is)
    (case a_due_way => k_is)
    (case l_due_way => k_is)
    (case cc_due_way => k_is)
    (case k_due_way => k_is)
    (case a_law => k_is)
    (case l_law => k_is)
    (case cc_law => k_is)
    (case k_law => k_is)
    (case z_all => k_is)
    (case z_bool => k_is)
    (case z_isinstance => k_is)
    (case z_len => k_is)
    (case z_list => k_is)
    (case z_min => k_is)
    (case z_range => k_is)
    (case z_set => k_is)
    (case z_sorted => k_is)
    (case z_str => k_is)
    (case z_tuple => k_is)
    (case z_zip => k_is)

import PyProof.Rows.All
import Wide.All
import OpenK.AllK
import Wide.FinOn
import Lean
import PyProof.EqAt
import PyProof.EqKinds
import PyProof.TupleCall
import KE.KNest
import KE.KSortTup
import KE.KIntText
import KE.KTryMore
import PyProof.ExcArgs
import KE.KIsAll
import PyProof.ReprNest
import PyProof.NsMap
import PyProof.Rows.Own
import PyProof.ReprStr
import PyProof.ExcBaseAll.ValueError
import PyProof.FitsInt
import PyProof.ZipIter
import KE.KDictOf
import PyProof.AttrMissHeap
import PyProof.WalksEnum
import PyProof.EnumMake
import KE.KEqDict
import KE.KItemsList
import KE.KSorted
import PySem.Challenge.RW_posthouse_k38_picks
set_option Elab.async false
set_option linter.all false
set_option maxRecDepth 100000
set_option Elab.async false
set_option linter.all false
set_option maxRecDepth 100000
/-! THE HAND LAYER, for ints, bools, texts, own classes, LISTS and tuples (index, slices, in, append, pop ..), calls, loops. Paste it whole ahead of your own text; what your proof does not reach may be deleted. -/
namespace L2
open PySem PySem.Spec PyProof.Rows

/-- a key: an int or a str -/
abbrev Key := Sum Int Str
def keyIs : Key → Value → Bool
  | .inl k, v => Value.isInt k v
  | .inr x, v => Value.isStrOf x v
def keyH (w : World) : Key → Int
  | .inl k => hashInt k
  | .inr x => hashStr w x
theorem keyIs_shape : ∀ {k : Key} {v : Value}, keyIs k v = true → (∃ i t, k = Sum.inl i ∧ v = Value.int i t) ∨ (∃ x t, k = Sum.inr x ∧ v = Value.str x t)
  | .inl i, v, h => by
    obtain ⟨t, e⟩ := Value.isInt_shape (k := i) (v := v) h
    exact .inl ⟨i, t, rfl, e⟩
  | .inr x, v, h => by
    obtain ⟨t, e⟩ := Value.isStrOf_shape (x := x) (v := v) h
    exact .inr ⟨x, t, rfl, e⟩
theorem key_ll (a b : Int) : decide ((Sum.inl a : Key) = Sum.inl b) = (a == b) := by
  by_cases e : a = b
  · subst e; simp
  · have h : ¬ (Sum.inl a : Key) = Sum.inl b := fun q => e (Sum.inl.inj q)
    rw [decide_eq_false h]
    exact (beq_eq_false_iff_ne.mpr e).symm
theorem key_rr (a b : Str) : decide ((Sum.inr a : Key) = Sum.inr b) = decide (a = b) := by
  by_cases e : a = b
  · subst e; simp
  · have h : ¬ (Sum.inr a : Key) = Sum.inr b := fun q => e (Sum.inr.inj q)
    rw [decide_eq_false h, decide_eq_false e]
theorem key_lr (a : Int) (b : Str) : decide ((Sum.inl a : Key) = Sum.inr b) = false := decide_eq_false (fun q => nomatch q)
theorem key_rl (a : Str) (b : Int) : decide ((Sum.inr a : Key) = Sum.inl b) = false := decide_eq_false (fun q => nomatch q)

def mixKind (prog : Program) (w : World) : PySem.KeyKind prog w Key where
  is := keyIs
  hash := keyH w
  inj := fun v a b ha hb => by
    rcases keyIs_shape ha with ⟨i, t, rfl, rfl⟩ | ⟨x, t, rfl, rfl⟩
    · rcases keyIs_shape hb with ⟨j, u, rfl, e⟩ | ⟨y, u, rfl, e⟩
      · injection e with e1 _; rw [e1]
      · exact nomatch e
    · rcases keyIs_shape hb with ⟨j, u, rfl, e⟩ | ⟨y, u, rfl, e⟩
      · exact nomatch e
      · injection e with e1 _; rw [e1]
  byValue := fun k v h => by
    rcases keyIs_shape h with ⟨i, t, rfl, rfl⟩ | ⟨x, t, rfl, rfl⟩ <;> rfl
  pyHash := fun hv h => by
    rcases keyIs_shape hv with ⟨i, t, rfl, rfl⟩ | ⟨x, t, rfl, rfl⟩
    · exact wpAny_pyHash_int h
    · exact wpAny_pyHash_str h
  eqBool := fun hu hv h => by
    rcases keyIs_shape hu with ⟨i, t, rfl, rfl⟩ | ⟨x, t, rfl, rfl⟩
    · rcases keyIs_shape hv with ⟨j, u, rfl, rfl⟩ | ⟨y, u, rfl, rfl⟩
      · rw [key_ll] at h; exact wpAny_eqBool_int h
      · rw [key_lr] at h; exact SeqAt.EqAt.int_str i t y u _ _ _ _ h
    · rcases keyIs_shape hv with ⟨j, u, rfl, rfl⟩ | ⟨y, u, rfl, rfl⟩
      · rw [key_rl] at h; exact SeqAt.EqAt.str_int x t j u _ _ _ _ h
      · rw [key_rr] at h; exact wpAny_eqBool_str h
  «strs» := fun k x t v h => by
    rcases keyIs_shape h with ⟨i, u, rfl, e⟩ | ⟨y, u, rfl, e⟩
    · exact nomatch e
    · injection e with e1 _
      subst e1
      cases v <;> rfl

end L2

namespace L2
open PySem PySem.Spec PyProof.Rows

/-- a value, without the heap -/
inductive V where
  | non | bl (b : Bool) | int (i : Int) | str (x : Str) | byt (b : Array UInt8) | flt (b : UInt64) | ref (a : Addr) | ty (n : String)
  deriving DecidableEq

def RelV : V → Value → Prop
  | .non, u => u = Value.none
  | .bl b, u => u = Value.bool b
  | .int i, u => ∃ t, u = Value.int i t
  | .str x, u => ∃ t, u = Value.str x t
  | .byt b, u => ∃ t, u = Value.bytes b t
  | .flt b, u => ∃ t, u = Value.float b t
  | .ref a, u => u = Value.ref a
  | .ty n, u => u = Value.type n

abbrev Vals : List V → List Value → Prop := Paired RelV
theorem Vals.length {xs : List V} {us : List Value} (r : Vals xs us) : xs.length = us.length := Paired.length r
theorem Vals.get : ∀ {xs : List V} {us : List Value} {i : Nat} {x : V}, Vals xs us → xs[i]? = some x → ∃ u, us[i]? = some u ∧ RelV x u
  | _, _, _, _, .nil, e => by simp at e
  | _, _, 0, _, .cons r _, e => by simp at e; subst e; exact ⟨_, rfl, r⟩
  | _, _, i + 1, x, .cons _ t, e => by
    obtain ⟨u, h1, h2⟩ := Vals.get (i := i) (x := x) t (by simpa using e)
    exact ⟨u, by simpa using h1, h2⟩
theorem Vals.set {x : V} {u : Value} (r : RelV x u) : ∀ {xs : List V} {us : List Value} (i : Nat), Vals xs us → Vals (xs.set i x) (us.set i u)
  | _, _, _, .nil => .nil
  | _, _, 0, .cons _ t => .cons r t
  | _, _, i + 1, .cons q t => .cons q (Vals.set r i t)
theorem Vals.append : ∀ {xs ys : List V} {us ws : List Value}, Vals xs us → Vals ys ws → Vals (xs ++ ys) (us ++ ws)
  | _, _, _, _, .nil, s => s
  | _, _, _, _, .cons r t, s => .cons r (Vals.append t s)
theorem Vals.take : ∀ {xs : List V} {us : List Value} (n : Nat), Vals xs us → Vals (xs.take n) (us.take n)
  | _, _, 0, _ => .nil
  | _, _, _ + 1, .nil => .nil
  | _, _, n + 1, .cons r t => .cons r (Vals.take n t)
theorem Vals.drop : ∀ {xs : List V} {us : List Value} (n : Nat), Vals xs us → Vals (xs.drop n) (us.drop n)
  | _, _, 0, r => r
  | _, _, _ + 1, .nil => .nil
  | _, _, n + 1, .cons _ t => Vals.drop n t
theorem Vals.none_of : ∀ {xs : List V} {us : List Value} {i : Nat}, Vals xs us → xs[i]? = none → us[i]? = none := fun {xs us i} r e => by
  have h1 := r.length
  have h2 : xs.length ≤ i := List.getElem?_eq_none_iff.mp e
  exact List.getElem?_eq_none_iff.mpr (by omega)

def RelO : Option V → Option Value → Prop
  | some v, some u => RelV v u
  | none, none => True
  | _, _ => False
def KV {κ : Type} : List (κ × V) → List (κ × Value) → Prop := Paired fun (p : κ × V) (q : κ × Value) => p.1 = q.1 ∧ RelV p.2 q.2

/-- a key of a dict (00_mix): an int or a text -/
def kV : Key → V
  | .inl i => .int i
  | .inr x => .str x

/-- what stands at a tracked address -/
inductive HO where
  /-- a list -/
  | lst (xs : List V)
  /-- a tuple (never changes) -/
  | tup (xs : List V)
  /-- a dict whose keys are ints and texts; one whose keys are tuples of ints and texts (the empty one is both) -/
  | dK (kvs : List (Key × V)) | dT (kvs : List (List Key × V))
  /-- a set of ints: its members, its size -/
  | set (S : Int → Bool) (n : Nat)
  /-- an instance of the class at C, its dict at dx, its attributes -/
  | ins (C dx : Addr) (fs : List (Str × V))
  /-- the dict of the instance at x -/
  | own (x : Addr)
  /-- the dict of an exception -/
  | xd (fs : List (Str × V))
  /-- a bound method, f of x -/
  | met (f x : Addr)
  /-- a range object lo, lo + 1, .. below hi -/
  | rng (lo hi : Int)
  /-- a thing that is known to the object (the script; a dict while a loop walks it): read, never written while it is so -/
  | frz (o : Obj) (u : HO)
  /-- a code object's table -/
  | tbl (ps : Array Value)
  /-- any other thing, by what is true of its one object (a def of one's own: SetO a S n := HO.ext fun h => ..) -/
  | ext (φ : Heap → Prop)

abbrev Hp := Addr → Option HO
def upd (H : Hp) (a : Addr) (o : HO) : Hp := fun b => if b = a then some o else H b
theorem upd_same {H : Hp} {a : Addr} {o : HO} : upd H a o a = some o := by unfold upd; rw [if_pos rfl]
theorem upd_ne {H : Hp} {a b : Addr} {o : HO} (h : b ≠ a) : upd H a o b = H b := by unfold upd; rw [if_neg h]
theorem ne_of_none {H : Hp} {a b : Addr} {o : HO} (h : H a = some o) (h' : H b = none) : a ≠ b := by
  intro e; subst e; rw [h] at h'; cases h'

section
variable (P : Program) (w : World)
def ObjOk (H : Hp) (h : Heap) (a : Addr) : HO → Prop
  | .lst xs => xs.length ≤ sizeLine ∧ ∃ (its : List Value) (n : Nat), Vals xs its ∧ h.get? a = some { cls := .type "list", data := .seq its.toArray n }
  | .tup xs => xs.length ≤ sizeLine ∧ ∃ its : List Value, Vals xs its ∧ IsTup h a its.toArray
  | .dK kvs => kvs.length ≤ sizeLine ∧ (a == sysModules) = false ∧ ∃ vs, KV kvs vs ∧ h.DictOf (mixKind P w) a vs
  | .dT kvs => kvs.length ≤ sizeLine ∧ (a == sysModules) = false ∧ ∃ xs : List (List Key × Addr × Value),
      Paired (fun (p : List Key × V) (q : List Key × Addr × Value) => p.1 = q.1 ∧ H q.2.1 = some (.tup (p.1.map kV)) ∧ RelV p.2 q.2.2) kvs xs ∧
      ∃ o es ep, h.get? a = some o ∧ o.ExactDict ∧ o.data = .dict es ep ∧ es.toList = xs.map (entryOfKey (tupleKind (mixKind P w))) ∧ (xs.map (·.1)).Nodup
  | .set S n => h.SetOf (intKind P w) a S n
  | .ins C dx fs => H dx = some (.own a) ∧ fs.length ≤ 1000 ∧ dx ≠ a ∧ h.get? a = some (PySem.W.instObj C dx) ∧
      ∃ mA, h.Ns1 dx mA ∧ (∀ f, RelO (fs.lookup f) (mA f)) ∧ PySem.Within mA (fs.map (·.1))
  | .own _ => ∃ o, h.get? a = some o
  | .xd fs => ∃ mA, h.Ns1 a mA ∧ ∀ f, RelO (fs.lookup f) (mA f)
  | .rng lo hi => ∃ t u v, h.get? a = some { cls := .type "range", data := .fields #[.int lo t, .int hi u, .int 1 v] }
  | .frz o u => h.get? a = some o ∧ ObjOk H h a u
  | .tbl ps => h.get? a = some { cls := .none, data := .fields ps }
  | .met f x => h.get? a = some (PySem.W.methodObj (.ref f) (.ref x))
  | .ext φ => φ h ∧ (∃ o, h.get? a = some o) ∧ ∀ h1 h2 : Heap, φ h1 → (∀ o, h1.get? a = some o → h2.get? a = some o) → φ h2
/-- the abstract heap is held -/
def HOk (H : Hp) (h : Heap) : Prop := ∀ a o, H a = some o → ObjOk P w H h a o
end

section
variable {P : Program} {w : World} {H H' : Hp} {h h' : Heap} {a : Addr} {o : HO}
theorem ObjOk.lt (x : ObjOk P w H h a o) : a < h.objs.size := by
  cases o with
  | lst xs => obtain ⟨_, _, _, _, e⟩ := x; exact Heap.lt_size e
  | tup xs => obtain ⟨_, _, _, p⟩ := x; exact p.lt
  | dK kvs => obtain ⟨_, _, _, _, o, _, _, e, _⟩ := x; exact Heap.lt_size e
  | dT kvs => obtain ⟨_, _, _, _, o, _, _, e, _⟩ := x; exact Heap.lt_size e
  | set S n => obtain ⟨o, _, _, _, e, _⟩ := x; exact Heap.lt_size e
  | ins C dx fs => obtain ⟨_, _, _, e, _⟩ := x; exact Heap.lt_size e
  | own y => obtain ⟨_, e⟩ := x; exact Heap.lt_size e
  | xd fs => obtain ⟨_, ⟨_, _, _, e, _⟩, _⟩ := x; exact Heap.lt_size e
  | rng lo hi => obtain ⟨_, _, _, e⟩ := x; exact Heap.lt_size e
  | frz ob u => obtain ⟨e, _⟩ := x; exact Heap.lt_size e
  | tbl ps => exact Heap.lt_size (show h.get? a = some _ from x)
  | met f y => exact Heap.lt_size (show h.get? a = some _ from x)
  | ext φ => obtain ⟨_, ⟨_, e⟩, _⟩ := x; exact Heap.lt_size e
theorem Paired.mapP {α β : Type} {F G : α → β → Prop} : ∀ {l₁ : List α} {l₂ : List β}, Paired F l₁ l₂ → (∀ a b, F a b → G a b) → Paired G l₁ l₂
  | _, _, .nil, _ => .nil
  | _, _, .cons r t, f => .cons (f _ _ r) (Paired.mapP t f)
/-- what an object's description leans on: its own object, its own dict, the tuples -/
theorem ObjOk.stay (x : ObjOk P w H h a o) (k : ∀ b u, (b = a ∨ H b = some (.own a)) → h.get? b = some u → h'.get? b = some u)
    (ho : ∀ b, H b = some (.own a) → H' b = some (.own a)) (ht : ∀ b xs, H b = some (.tup xs) → H' b = some (.tup xs)) : ObjOk P w H' h' a o := by
  induction o with
  | lst xs => obtain ⟨z, its, n, r, e⟩ := x; exact ⟨z, its, n, r, k _ _ (.inl rfl) e⟩
  | tup xs => obtain ⟨z, its, r, ob, e, c⟩ := x; exact ⟨z, its, r, ob, k _ _ (.inl rfl) e, c⟩
  | dK kvs => obtain ⟨z, y, vs, r, ob, es, ep, e, c⟩ := x; exact ⟨z, y, vs, r, ob, es, ep, k _ _ (.inl rfl) e, c⟩
  | dT kvs =>
    obtain ⟨z, y, xs, r, ob, es, ep, e, c⟩ := x
    exact ⟨z, y, xs, Paired.mapP r fun p q z => ⟨z.1, ht _ _ z.2.1, z.2.2⟩, ob, es, ep, k _ _ (.inl rfl) e, c⟩
  | set S n => obtain ⟨ob, es, ep, t, e, c⟩ := x; exact ⟨ob, es, ep, t, k _ _ (.inl rfl) e, c⟩
  | ins C dx fs =>
    obtain ⟨d, z, ne, e, mA, ⟨od, es, ep, e2, c⟩, r⟩ := x
    exact ⟨ho _ d, z, ne, k _ _ (.inl rfl) e, mA, ⟨od, es, ep, k _ _ (.inr d) e2, c⟩, r⟩
  | own y => obtain ⟨ob, e⟩ := x; exact ⟨ob, k _ _ (.inl rfl) e⟩
  | xd fs => obtain ⟨mA, ⟨od, es, ep, e, c⟩, r⟩ := x; exact ⟨mA, ⟨od, es, ep, k _ _ (.inl rfl) e, c⟩, r⟩
  | rng lo hi => obtain ⟨t, u, v, e⟩ := x; exact ⟨t, u, v, k _ _ (.inl rfl) e⟩
  | frz ob u ih => obtain ⟨e, q⟩ := x; exact ⟨k _ _ (.inl rfl) e, ih q⟩
  | tbl ps =>
    have e : h.get? a = some { cls := .none, data := .fields ps } := x
    show h'.get? a = some { cls := .none, data := .fields ps }
    exact k a _ (.inl rfl) e
  | met f y =>
    have e : h.get? a = some (PySem.W.methodObj (.ref f) (.ref y)) := x
    show h'.get? a = some (PySem.W.methodObj (.ref f) (.ref y))
    exact k a _ (.inl rfl) e
  | ext φ => obtain ⟨p, ⟨o, e⟩, st⟩ := x; exact ⟨st _ _ p fun o q => k _ _ (.inl rfl) q, ⟨o, k _ _ (.inl rfl) e⟩, st⟩
theorem HOk.lt (x : HOk P w H h) (e : H a = some o) : a < h.objs.size := (x a o e).lt
theorem HOk.fresh (x : HOk P w H h) (e : h.objs.size ≤ a) : H a = none := by
  cases q : H a with
  | none => rfl
  | some u => exact absurd (Nat.lt_of_lt_of_le (x.lt q) e) (Nat.lt_irrefl _)
/-- every object of the heap is kept -/
theorem HOk.kept (x : HOk P w H h) (k : ∀ b u, h.get? b = some u → h'.get? b = some u) : HOk P w H h' := fun a o e =>
  (x a o e).stay (fun b u _ q => k b u q) (fun _ q => q) fun _ _ q => q
/-- a new object is laid and tracked -/
theorem HOk.laid (x : HOk P w H h) (k : ∀ b u, h.get? b = some u → h'.get? b = some u) (hp : h.objs.size ≤ a) (new : ObjOk P w (upd H a o) h' a o) : HOk P w (upd H a o) h' := fun b u e => by
  have hn := x.fresh hp
  by_cases hb : b = a
  · subst hb; rw [upd_same] at e; cases e; exact new
  · rw [upd_ne hb] at e
    exact (x b u e).stay (fun c v _ q => k c v q) (fun c q => by rw [upd_ne (ne_of_none q hn)]; exact q) fun c xs q => by rw [upd_ne (ne_of_none q hn)]; exact q
end

/-- what may be read as u: it is u, or a known u -/
def Rd (H : Hp) (a : Addr) (u : HO) : Prop := H a = some u ∨ ∃ o, H a = some (.frz o u)
theorem Rd.of {H : Hp} {a : Addr} {u : HO} (h : H a = some u) : Rd H a u := .inl h
theorem Rd.ok {P : Program} {w : World} {H : Hp} {h : Heap} {a : Addr} {u : HO} (r : Rd H a u) (x : HOk P w H h) : ObjOk P w H h a u := by
  rcases r with r | ⟨o, r⟩
  · exact x a u r
  · obtain ⟨_, q⟩ := x a _ r
    exact q
/-- what may be written -/
def Mut : Option HO → Prop
  | some (.lst _) => True
  | some (.dK _) => True
  | some (.dT _) => True
  | some (.set _ _) => True
  | some (.ins _ _ _) => True
  | some (.ext _) => True
  | _ => False
section
variable {P : Program} {w : World} {H : Hp} {h h' : Heap} {x e : Addr} {o' : HO}
/-- the object at e is changed: x itself, or the dict of the instance x -/
theorem HOk.write (ok : HOk P w H h) (mu : Mut (H x)) (he : e = x ∨ H e = some (.own x)) (k : ∀ b u, b ≠ e → h.get? b = some u → h'.get? b = some u) (heo : ∃ u, h'.get? e = some u)
    (new : ObjOk P w (upd H x o') h' x o') : HOk P w (upd H x o') h' := fun b u q => by
  have nown : ∀ c y, H c = some (.own y) → c ≠ x := fun c y r z => by subst z; rw [r] at mu; exact mu
  have ntup : ∀ c xs, H c = some (.tup xs) → c ≠ x := fun c xs r z => by subst z; rw [r] at mu; exact mu
  by_cases hb : b = x
  · subst hb; rw [upd_same] at q; cases q; exact new
  · rw [upd_ne hb] at q
    by_cases hbe : b = e
    · have q' : H b = some (.own x) := by
        rcases he with z | z
        · exact absurd (hbe.trans z) hb
        · rw [hbe]; exact z
      rw [q] at q'; cases q'
      obtain ⟨v, hv⟩ := heo
      exact ⟨v, by rw [hbe]; exact hv⟩
    · refine (ok b u q).stay (fun c v hc r => k c v ?_ r) (fun c r => by rw [upd_ne (nown c b r)]; exact r) fun c xs r => by rw [upd_ne (ntup c xs r)]; exact r
      rcases hc with rfl | hc
      · exact hbe
      · rintro rfl
        rcases he with z | z
        · exact nown c b hc z
        · rw [hc] at z; cases z; exact hb rfl
end

/-! ### kept unless tracked; of the frames at fs (the callers') the slots may change (an exception that passes writes there); of the records at ex (iterators) nothing is said -/
structure Un (fs ex : List Addr) (H H' : Hp) (h h' : Heap) : Prop where
  keep : ∀ b o, h.get? b = some o → H b = none → b ∉ fs → b ∉ ex → h'.get? b = some o
  slot : ∀ b o, h.get? b = some o → H b = none → b ∈ fs → b ∉ ex → ∃ sl, h'.get? b = some { o with slots := sl }
  free : ∀ b o, h.get? b = some o → H b = none → b ∉ ex → H' b = none
  there : ∀ b o, h.get? b = some o → b ∉ ex → ∃ o', h'.get? b = some o'
  tups : ∀ b xs, H b = some (.tup xs) → H' b = some (.tup xs)
  frzs : ∀ b o u, H b = some (.frz o u) → H' b = some (.frz o u)
  tbls : ∀ b ps, H b = some (.tbl ps) → ∃ more, H' b = some (.tbl (ps ++ more))
section
variable {fs fs' ex ex' : List Addr} {H H1 H2 : Hp} {h h1 h2 h' : Heap} {a x e : Addr} {o : HO}
theorem Un.any (u : Un fs ex H H1 h h1) {b : Addr} {ob : Obj} (q : h.get? b = some ob) (n : H b = none) (hx : b ∉ ex) : ∃ sl, h1.get? b = some { ob with slots := sl } := by
  by_cases hb : b ∈ fs
  · exact u.slot b ob q n hb hx
  · exact ⟨ob.slots, u.keep b ob q n hb hx⟩
theorem Un.trans (a : Un fs ex H H1 h h1) (b : Un fs ex H1 H2 h1 h2) : Un fs ex H H2 h h2 where
  keep := fun c ob q n hc hx => b.keep c ob (a.keep c ob q n hc hx) (a.free c ob q n hx) hc hx
  slot := fun c ob q n hc hx => by
    obtain ⟨sl, e1⟩ := a.slot c ob q n hc hx
    obtain ⟨sl', e2⟩ := b.slot c _ e1 (a.free c ob q n hx) hc hx
    exact ⟨sl', e2⟩
  free := fun c ob q n hx => by
    obtain ⟨o', e1⟩ := a.there c ob q hx
    exact b.free c o' e1 (a.free c ob q n hx) hx
  there := fun c ob q hx => by
    obtain ⟨o', e1⟩ := a.there c ob q hx
    exact b.there c o' e1 hx
  tups := fun c xs q => b.tups c xs (a.tups c xs q)
  frzs := fun c ob xs q => b.frzs c ob xs (a.frzs c ob xs q)
  tbls := fun c ps q => by
    obtain ⟨m1, e1⟩ := a.tbls c ps q
    obtain ⟨m2, e2⟩ := b.tbls c _ e1
    exact ⟨m1 ++ m2, by rw [e2, Array.append_assoc]⟩
theorem Un.kept (k : ∀ b u, h.get? b = some u → h'.get? b = some u) : Un fs ex H H h h' :=
  ⟨fun b ob q _ _ _ => k b ob q, fun b ob q _ _ _ => ⟨ob.slots, k b ob q⟩, fun _ _ _ n _ => n, fun b ob q _ => ⟨ob, k b ob q⟩, fun _ _ q => q, fun _ _ _ q => q, fun _ ps q => ⟨#[], by rw [q]; simp⟩⟩
theorem Un.refl : Un fs ex H H h h := Un.kept fun _ _ q => q
theorem Un.laid (k : ∀ b u, h.get? b = some u → h'.get? b = some u) (hp : h.objs.size ≤ a) (hn : H a = none) : Un fs ex H (upd H a o) h h' where
  keep := fun b u q _ _ _ => k b u q
  slot := fun b u q _ _ _ => ⟨u.slots, k b u q⟩
  free := fun b u q n _ => by rw [upd_ne (Nat.ne_of_lt (Nat.lt_of_lt_of_le (Heap.lt_size q) hp))]; exact n
  there := fun b u q _ => ⟨u, k b u q⟩
  tups := fun b xs q => by rw [upd_ne (ne_of_none q hn)]; exact q
  frzs := fun b u xs q => by rw [upd_ne (ne_of_none q hn)]; exact q
  tbls := fun b ps q => ⟨#[], by rw [upd_ne (ne_of_none q hn), q]; simp⟩
theorem Un.write (mu : Mut (H x)) (he : e = x ∨ H e = some (.own x)) (k : ∀ b u, b ≠ e → h.get? b = some u → h'.get? b = some u) (heo : ∃ u, h'.get? e = some u) : Un fs ex H (upd H x o) h h' := by
  have hx : ∀ b, H b = none → b ≠ x := fun b n z => by subst z; rw [n] at mu; exact mu
  have hb : ∀ b, H b = none → b ≠ e := fun b n z => by
    subst z
    rcases he with r | r
    · exact hx b n r
    · rw [n] at r; cases r
  have hm : ∀ b u, H b = some u → ¬ Mut (some u) → b ≠ x := fun b u q nm z => by subst z; rw [q] at mu; exact nm mu
  refine ⟨fun b u q n _ _ => k b u (hb b n) q, fun b u q n _ _ => ⟨u.slots, k b u (hb b n) q⟩, fun b u q n _ => by rw [upd_ne (hx b n)]; exact n, fun b u q _ => ?_,
    fun b xs q => by rw [upd_ne (hm b _ q fun z => z)]; exact q, fun b u xs q => by rw [upd_ne (hm b _ q fun z => z)]; exact q, fun b ps q => ⟨#[], by rw [upd_ne (hm b _ q fun z => z), q]; simp⟩⟩
  by_cases hbe : b = e
  · subst hbe; exact heo
  · exact ⟨u, k b u hbe q⟩
theorem Un.mono (u : Un fs ex H H1 h h1) (hs : ∀ b ∈ fs, b ∈ fs') (hx : ∀ b ∈ ex, b ∈ ex') : Un fs' ex' H H1 h h1 :=
  ⟨fun b ob q n hb he => u.keep b ob q n (fun z => hb (hs b z)) fun z => he (hx b z), fun _ _ q n _ he => u.any q n fun z => he (hx _ z), fun b ob q n he => u.free b ob q n fun z => he (hx b z), fun b ob q he => u.there b ob q fun z => he (hx b z), u.tups, u.frzs, u.tbls⟩
end

/-! ### the heap without what is tracked -/
def trk (h : Heap) (H : Hp) : List Addr := (List.range h.objs.size).filter fun a => (H a).isSome
def hidT (h : Heap) (H : Hp) : Heap := PySem.W.hideAll h (trk h H)
theorem hidT_size (h : Heap) (H : Hp) : (hidT h H).objs.size = h.objs.size := PySem.W.hideAll_size _ _
theorem hidT_get {h : Heap} {H : Hp} {b : Addr} {o : Obj} (e : h.get? b = some o) (n : H b = none) : (hidT h H).get? b = some o :=
  PySem.W.hideAll_get _ e fun hm => by
    have q : (H b).isSome = true := (List.mem_filter.mp hm).2
    rw [n] at q; simp at q
theorem of_hidT {h : Heap} {H : Hp} {b : Addr} {o : Obj} (e : (hidT h H).get? b = some o) : h.get? b = some o ∧ H b = none := by
  have e' : h.get? b = some o := PySem.W.of_hideAll (trk h H) e
  refine ⟨e', ?_⟩
  cases q : H b with
  | none => rfl
  | some x =>
    have hm : b ∈ trk h H := List.mem_filter.mpr ⟨List.mem_range.mpr (Heap.lt_size e'), by simp [q]⟩
    have z : (hidT h H).get? b = none := PySem.W.hideAll_none (trk h H) hm
    rw [z] at e; cases e

/-! ### OpenK's ledger, filled with every new object but one -/
def allNews (g h : Heap) (L : Addr) : List (Addr × Obj) := (List.range h.objs.size).filterMap fun a => if a = L ∨ (g.get? a).isSome = true then none else (h.get? a).map fun o => (a, o)
def rest (g h : Heap) (L d : Addr) : List (Addr × Obj) := (allNews g h L).filter fun p => decide (p.1 ≠ d)
end L2

namespace L2
open PySem PySem.Spec PyProof.Rows

/-- the module's facts, over the base: the heap at the law's entry without what is tracked there -/
structure Mod (K : PySem.W.Frag) (mg : Str → Option Value) (base : Heap) : Prop where
  kin : K.In base
  glob : base.Ns mainGlobals mg
  blt : ∃ mb, base.Ns builtinsNs mb ∧ ∀ x : Str, x ≠ "__name__" → mb x = bootBuiltins x
  nolimit : base.NoLimit

/-- the context: a def's body (or a comprehension's block) running. base: fixed through the whole law; s₀, H₀: the entry; outer: the frames whose slots others may change (a def's callers); stack: all frames that run;
   ex: iterators that were made ahead of the entry and are walked here (a comprehension's); fn: the names whose cells were made at the entry (a def: all; a comprehension's block: its own); calm: not within an except suite; pn: pins that every state bears; xe: what is wanted of an exception that leaves the code -/
structure Cx where
  prog : Program
  w : World
  K : PySem.W.Frag
  mg : Str → Option Value
  base : Heap
  A : Around
  N : List Str
  s₀ : Shared
  H₀ : Hp
  env : Env
  outer : List Env
  stack : List Env
  ex : List Addr
  fn : Str → Bool
  calm : Bool
  pn : List (Addr × Obj)
  xe : Value → Shared → Prop
/-- the callers' frames -/
def frs (l : List Env) : List Addr := l.filterMap (·.frame)
abbrev Cx.fs (X : Cx) : List Addr := frs X.outer

def Vis (sc : Scope) (x : Str) : Prop := sc.names.lookup x = some .local ∨ sc.names.lookup x = some .cell ∨ sc.names.lookup x = some .free
def Loc (sc : Scope) (x : Str) : Prop := sc.names.lookup x = some .local ∨ sc.names.lookup x = some .cell
def Look (env : Env) (h : Heap) (m : Str → Option Value) (x : Str) (u : Value) : Prop :=
  (env.kindOf x = some .local ∧ m x = some u) ∨ ((env.kindOf x = some .cell ∨ env.kindOf x = some .free) ∧ ∃ c, env.cells.lookup x = some c ∧ h.IsCell c (some u))

structure Cx.Ok (X : Cx) : Prop where
  mod : Mod X.K X.mg X.base
  kind : X.env.scope.kind = .function
  glob : X.env.globals = mainGlobals
  blt : X.env.builtins = builtinsNs
  above : X.s₀.heap.objs.size ≤ X.env.locals
  inj : ∀ x y c, X.env.cells.lookup x = some c → X.env.cells.lookup y = some c → x = y
  has : ∀ x, (X.env.kindOf x = some .cell ∨ X.env.kindOf x = some .free) → ∃ c, X.env.cells.lookup x = some c
  cab : ∀ x c, X.fn x = true → X.env.cells.lookup x = some c → X.s₀.heap.objs.size ≤ c
  hd : X.calm = true → X.A.handled = none
  frames : X.A.frames = some X.stack
  stk : X.stack = X.outer ∨ (X.stack = X.env :: X.outer ∧ X.env.frame = some X.env.locals)
  exf : ∀ b ∈ X.ex, b ≠ X.env.locals ∧ ∀ x c, X.env.cells.lookup x = some c → c ≠ b
  bs : ∀ b o, X.base.get? b = some o → X.s₀.heap.get? b = some o ∧ X.H₀ b = none
  bsz : X.base.objs.size ≤ X.s₀.heap.objs.size
  noex : ∀ b o, X.base.get? b = some o → b ∉ X.ex
  exfs : ∀ b ∈ X.ex, b ∉ X.fs
  funs : X.s₀.heap.FunFrames X.base X.outer
  frf : ∀ b ∈ X.fs, X.H₀ b = none

structure Inv (X : Cx) (pins : List (Addr × Obj)) (σ : List (Option V)) (H : Hp) (s : Shared) : Prop where
  ok : X.Ok
  os : s.os = X.s₀.os
  bare : AllBare s.gens
  base : Un X.fs X.ex X.H₀ H X.s₀.heap s.heap
  loc : ∃ m, s.heap.Ns X.env.locals m ∧ ∀ (i : Nat) (x : Str) (v : V), X.N[i]? = some x → σ[i]? = some (some v) → Vis X.env.scope x → ∃ u, RelV v u ∧ Look X.env s.heap m x u
  cell : ∀ x c, X.env.cells.lookup x = some c → ∃ v, s.heap.IsCell c v
  free : H X.env.locals = none
  freeC : ∀ x c, X.env.cells.lookup x = some c → H c = none ∨ (X.fn x = false ∧ ∃ o b, H c = some (.frz o (.own b)))
  pin : ∀ p ∈ X.pn ++ pins, s.heap.get? p.1 = some p.2 ∧ H p.1 = none ∧ p.1 ≠ X.env.locals ∧ p.1 ∉ X.fs ∧ ∀ v, p.2.data ≠ .cell v
  hok : HOk X.prog X.w H s.heap
  len : σ.length = X.N.length

section
variable {X : Cx} {pins : List (Addr × Obj)} {σ : List (Option V)} {H H' : Hp} {s : Shared} {h' : Heap}

theorem Cx.Ok.nofr (ok : X.Ok) {b : Addr} {o : Obj} (e : X.base.get? b = some o) : b ∉ X.fs := fun hb => by
  have := (ok.funs.mem hb).1
  rw [e] at this; cases this
theorem Inv.bs (I : Inv X pins σ H s) : ∀ b o, X.base.get? b = some o → s.heap.get? b = some o ∧ H b = none := fun b o e =>
  ⟨I.base.keep b o (I.ok.bs b o e).1 (I.ok.bs b o e).2 (I.ok.nofr e) (I.ok.noex b o e), I.base.free b o (I.ok.bs b o e).1 (I.ok.bs b o e).2 (I.ok.noex b o e)⟩
theorem Inv.bk (I : Inv X pins σ H s) : ∀ b o, X.base.get? b = some o → s.heap.get? b = some o := fun b o e => (I.bs b o e).1
theorem Inv.mod (I : Inv X pins σ H s) : Mod X.K X.mg X.base := I.ok.mod
theorem Inv.kIn (I : Inv X pins σ H s) : X.K.In s.heap := I.ok.mod.kin.keeps I.bk
theorem Inv.nolimit (I : Inv X pins σ H s) : s.heap.NoLimit := I.ok.mod.nolimit.keeps I.bk
theorem Inv.lt (I : Inv X pins σ H s) : X.env.locals < s.heap.objs.size := let ⟨_, hn, _⟩ := I.loc; hn.lt
theorem Inv.sz (I : Inv X pins σ H s) : X.s₀.heap.objs.size ≤ s.heap.objs.size := Nat.le_trans I.ok.above (Nat.le_of_lt I.lt)
theorem Inv.nofs (I : Inv X pins σ H s) {a : Addr} (h : s.heap.objs.size ≤ a) : a ∉ X.fs := fun hb => by
  obtain ⟨_, o, ho, _⟩ := I.ok.funs.mem hb
  exact absurd (Nat.lt_of_lt_of_le (Heap.lt_size ho) (Nat.le_trans I.sz h)) (Nat.lt_irrefl _)
theorem Inv.cne (I : Inv X pins σ H s) : ∀ x c, X.env.cells.lookup x = some c → c ≠ X.env.locals := fun x c e z => by
  obtain ⟨v, o, ho, hd⟩ := I.cell x c e
  obtain ⟨m, ⟨o', es, ep, ho', hd', _⟩, _⟩ := I.loc
  rw [z, ho'] at ho; cases ho; rw [hd'] at hd; cases hd
theorem Inv.funs (I : Inv X pins σ H s) : s.heap.FunFrames X.base X.outer := by
  have all : ∀ (l : List Env), (∀ b ∈ frs l, b ∈ X.fs) → X.s₀.heap.FunFrames X.base l → s.heap.FunFrames X.base l := by
    intro l
    induction l with
    | nil => intro _ _; trivial
    | cons env r ih =>
      intro hs hl
      obtain ⟨hk, ⟨L, o, hf, hn, ho, hd⟩, hr⟩ := hl
      have hL : L ∈ X.fs := hs L (by unfold frs; rw [List.filterMap_cons, hf]; exact List.mem_cons_self)
      obtain ⟨sl, e⟩ := I.base.slot L o ho (I.ok.frf L hL) hL fun z => I.ok.exfs L z hL
      exact ⟨hk, ⟨L, _, hf, hn, e, hd⟩, ih (fun b hb => hs b (by unfold frs; rw [List.filterMap_cons, hf]; exact List.mem_cons_of_mem _ hb)) hr⟩
  exact all X.outer (fun _ hb => hb) I.ok.funs

/-- the frames that run, for a call -/
theorem Inv.stack (I : Inv X pins σ H s) : s.heap.FunFrames X.base X.stack := by
  rcases I.ok.stk with e | ⟨e, hf⟩
  · rw [e]; exact I.funs
  · rw [e]
    obtain ⟨m, hn, _⟩ := I.loc
    refine .cons (by rw [I.ok.kind]; decide) hf hn ?_ I.funs
    exact Heap.get?_none_of_le (Nat.le_trans I.ok.bsz I.ok.above)
theorem Inv.stkSub (I : Inv X pins σ H s) : ∀ b ∈ frs X.stack, b ∈ X.env.locals :: X.fs := fun b hb => by
  rcases I.ok.stk with e | ⟨e, hf⟩
  · rw [e] at hb; exact List.mem_cons_of_mem _ hb
  · rw [e] at hb
    unfold frs at hb
    rw [List.filterMap_cons, hf] at hb
    exact hb
theorem Inv.stkFree (I : Inv X pins σ H s) : ∀ b ∈ frs X.stack, H b = none := fun b hb => by
  rcases List.mem_cons.mp (I.stkSub b hb) with e | hb
  · rw [e]; exact I.free
  · obtain ⟨_, o, ho, _⟩ := I.ok.funs.mem hb
    exact I.base.free b o ho (I.ok.frf b hb) fun z => I.ok.exfs b z hb

/-- THE STEP: the untracked objects but the frame and the records at ch are kept (the callers' frames up to slots), the frame's map is kept, the new abstract heap is held -/
theorem Inv.step {g' : Array GenState} {t' : Nat} {d' : Drawn} {ch : List Addr} (I : Inv X pins σ H s)
    (hch : ∀ b ∈ ch, (b ∈ X.ex ∨ X.s₀.heap.objs.size ≤ b) ∧ b ≠ X.env.locals ∧ (∀ x c, X.env.cells.lookup x = some c → c ≠ b) ∧ ∀ p ∈ X.pn ++ pins, p.1 ≠ b)
    (keep : ∀ b o, b ≠ X.env.locals → b ∉ X.fs → b ∉ ch → s.heap.get? b = some o → H b = none → h'.get? b = some o)
    (slot : ∀ b o, b ≠ X.env.locals → b ∈ X.fs → b ∉ ch → s.heap.get? b = some o → H b = none → ∃ sl, h'.get? b = some { o with slots := sl }) (free : ∀ b o, b ∉ ch → s.heap.get? b = some o → H b = none → H' b = none)
    (there : ∀ b o, b ∉ ch → s.heap.get? b = some o → ∃ o', h'.get? b = some o')
    (tups : ∀ b xs, H b = some (.tup xs) → H' b = some (.tup xs)) (frzs : ∀ b o u, H b = some (.frz o u) → H' b = some (.frz o u)) (tbls : ∀ b ps, H b = some (.tbl ps) → ∃ more, H' b = some (.tbl (ps ++ more)))
    (ns : ∀ m, s.heap.Ns X.env.locals m → h'.Ns X.env.locals m) (hok : HOk X.prog X.w H' h') (hg : AllBare g') :
    Inv X pins σ H' { s with heap := h', gens := g', drawn := d', toks := t' } := by
  have neL : ∀ b o, X.s₀.heap.get? b = some o → b ≠ X.env.locals := fun b o e => Nat.ne_of_lt (Nat.lt_of_lt_of_le (Heap.lt_size e) I.ok.above)
  have neC : ∀ b o, X.s₀.heap.get? b = some o → b ∉ X.ex → b ∉ ch := fun b o e hx hb => by
    rcases (hch b hb).1 with z | z
    · exact hx z
    · exact absurd (Nat.lt_of_lt_of_le (Heap.lt_size e) z) (Nat.lt_irrefl _)
  have cellK : ∀ x c, X.env.cells.lookup x = some c → ∀ v, s.heap.IsCell c v → h'.IsCell c v := fun x c e v hw' => by
    obtain ⟨o, ho, hd⟩ := hw'
    have nch : c ∉ ch := fun z => (hch c z).2.2.1 x c e rfl
    rcases I.freeC x c e with fc | ⟨_, o1, b1, fc⟩
    · by_cases hc : c ∈ X.fs
      · obtain ⟨sl, q⟩ := slot c o (I.cne x c e) hc nch ho fc
        exact ⟨_, q, hd⟩
      · exact ⟨o, keep c o (I.cne x c e) hc nch ho fc, hd⟩
    · obtain ⟨e1, _⟩ := I.hok c _ fc
      obtain ⟨e2, _⟩ := hok c _ (frzs c _ _ fc)
      rw [ho] at e1
      cases e1
      exact ⟨o, e2, hd⟩
  refine ⟨I.ok, I.os, hg, ⟨fun b o e n hb hx => ?_, fun b o e n hb hx => ?_, fun b o e n hx => ?_, fun b o e hx => ?_, fun b xs e => tups b xs (I.base.tups b xs e), fun b o xs e => frzs b o xs (I.base.frzs b o xs e), fun b ps e => ?_⟩, ?_, fun x c e => ?_, ?_, fun x c e => ?_, fun p hp => ?_, hok, I.len⟩
  · exact keep b o (neL b o e) hb (neC b o e hx) (I.base.keep b o e n hb hx) (I.base.free b o e n hx)
  · obtain ⟨sl, e1⟩ := I.base.slot b o e n hb hx
    obtain ⟨sl', e2⟩ := slot b _ (neL b o e) hb (neC b o e hx) e1 (I.base.free b o e n hx)
    exact ⟨sl', e2⟩
  · obtain ⟨o', e1⟩ := I.base.there b o e hx
    exact free b o' (neC b o e hx) e1 (I.base.free b o e n hx)
  · obtain ⟨o', e1⟩ := I.base.there b o e hx
    exact there b o' (neC b o e hx) e1
  · obtain ⟨m1, e1⟩ := I.base.tbls b ps e
    obtain ⟨m2, e2⟩ := tbls b _ e1
    exact ⟨m1 ++ m2, by rw [e2, Array.append_assoc]⟩
  · obtain ⟨m, hn, hl⟩ := I.loc
    refine ⟨m, ns m hn, fun i x v e1 e2 e3 => ?_⟩
    obtain ⟨u, r, l⟩ := hl i x v e1 e2 e3
    refine ⟨u, r, ?_⟩
    rcases l with l | ⟨k, c, e, z⟩
    · exact .inl l
    · exact .inr ⟨k, c, e, cellK x c e _ z⟩
  · obtain ⟨v, z⟩ := I.cell x c e
    exact ⟨v, cellK x c e v z⟩
  · obtain ⟨m, ⟨o, _, _, ho, _⟩, _⟩ := I.loc
    exact free _ o (fun z => (hch _ z).2.1 rfl) ho I.free
  · obtain ⟨v, o, ho, hd⟩ := I.cell x c e
    rcases I.freeC x c e with fc | ⟨q1, o1, b1, fc⟩
    · exact .inl (free c o (fun z => (hch c z).2.2.1 x c e rfl) ho fc)
    · exact .inr ⟨q1, o1, b1, frzs _ _ _ fc⟩
  · obtain ⟨e, n, ne, nf, d⟩ := I.pin p hp
    have nch : p.1 ∉ ch := fun z => (hch p.1 z).2.2.2 p hp rfl
    exact ⟨keep p.1 p.2 ne nf nch e n, free p.1 p.2 nch e n, ne, nf, d⟩
/-- .. where the frame's own object is kept too -/
theorem Inv.un {t' : Nat} (I : Inv X pins σ H s) (u : Un X.fs [] H H' s.heap h') (hok : HOk X.prog X.w H' h') : Inv X pins σ H' { s with heap := h', toks := t' } := by
  obtain ⟨m, ⟨o, es, ep, ho, r⟩, _⟩ := id I.loc
  obtain ⟨sl, hL⟩ := u.any ho I.free (by simp)
  exact I.step (g' := s.gens) (d' := s.drawn) (ch := []) (fun _ z => nomatch z) (fun b o _ hb _ e n => u.keep b o e n hb (by simp)) (fun b o _ hb _ e n => u.slot b o e n hb (by simp)) (fun b o _ e n => u.free b o e n (by simp)) (fun b o _ e => u.there b o e (by simp)) u.tups u.frzs u.tbls (fun m' hm => by
    obtain ⟨o', es', ep', ho', r'⟩ := hm
    rw [ho] at ho'; cases ho'
    exact ⟨_, es', ep', hL, r'⟩) hok I.bare
/-- behind a call (or a comprehension's block): the slots of this frame may have changed too, the records at ch may have turned -/
theorem Inv.call {g' : Array GenState} {t' : Nat} {d' : Drawn} {ch : List Addr} (I : Inv X pins σ H s) (u : Un (frs X.stack) ch H H' s.heap h') (hok : HOk X.prog X.w H' h') (hg : AllBare g')
    (hch : ∀ b ∈ ch, (b ∈ X.ex ∨ X.s₀.heap.objs.size ≤ b) ∧ b ≠ X.env.locals ∧ (∀ x c, X.env.cells.lookup x = some c → c ≠ b) ∧ ∀ p ∈ X.pn ++ pins, p.1 ≠ b) :
    Inv X pins σ H' { s with heap := h', gens := g', drawn := d', toks := t' } := by
  obtain ⟨m, ⟨o, es, ep, ho, r⟩, _⟩ := id I.loc
  obtain ⟨sl, hL⟩ := u.any ho I.free fun z => (hch _ z).2.1 rfl
  exact I.step (ch := ch) hch (fun b o hL hb hc e n => u.keep b o e n (fun z => (List.mem_cons.mp (I.stkSub b z)).elim hL hb) hc) (fun b o _ _ hc e n => u.any e n hc) (fun b o hc e n => u.free b o e n hc) (fun b o hc e => u.there b o e hc) u.tups u.frzs u.tbls (fun m' hm => by
    obtain ⟨o', es', ep', ho', r'⟩ := hm
    rw [ho] at ho'; cases ho'
    exact ⟨_, es', ep', hL, r'⟩) hok hg
/-- an untracked record of ours (an iterator) has turned -/
theorem Inv.turned {t' : Nat} {it : Addr} (I : Inv X pins σ H s) (k : ∀ b o, b ≠ it → s.heap.get? b = some o → h'.get? b = some o) (hn : H it = none) (hL : it ≠ X.env.locals)
    (h1 : it ∈ X.ex ∨ X.s₀.heap.objs.size ≤ it) (h2 : ∀ x c, X.env.cells.lookup x = some c → c ≠ it) (h3 : ∀ p ∈ X.pn ++ pins, p.1 ≠ it) : Inv X pins σ H { s with heap := h', toks := t' } := by
  have nit : ∀ b u, H b = some u → b ≠ it := fun b u e z => by rw [z, hn] at e; cases e
  refine I.step (g' := s.gens) (d' := s.drawn) (ch := [it]) (fun b hb => ?_) (fun b o _ _ hc e _ => k b o (fun z => hc (by simp [z])) e) (fun b o _ _ hc e _ => ⟨o.slots, k b o (fun z => hc (by simp [z])) e⟩) (fun _ _ _ _ n => n)
    (fun b o hc e => ⟨o, k b o (fun z => hc (by simp [z])) e⟩) (fun _ _ e => e) (fun _ _ _ e => e) (fun b ps e => ⟨#[], by rw [e]; simp⟩) (fun m hm => ?_) (fun b u e => ?_) I.bare
  · have e : b = it := by simpa using hb
    subst e
    exact ⟨h1, hL, h2, h3⟩
  · obtain ⟨o, es, ep, ho, r⟩ := hm
    exact ⟨o, es, ep, k _ o (Ne.symm hL) ho, r⟩
  · refine (I.hok b u e).stay (fun c v hc q => k c v ?_ q) (fun _ q => q) fun _ _ q => q
    rcases hc with z | z
    · rw [z]; exact nit b u e
    · exact nit c _ z
theorem Inv.tok (I : Inv X pins σ H s) (t : Nat) : Inv X pins σ H { s with toks := t } := I.un (h' := s.heap) (t' := t) Un.refl I.hok
/-- all objects kept -/
theorem Inv.kept {t' : Nat} (I : Inv X pins σ H s) (k : ∀ b u, s.heap.get? b = some u → h'.get? b = some u) : Inv X pins σ H { s with heap := h', toks := t' } := I.un (Un.kept k) (I.hok.kept k)
/-- a new object laid and tracked -/
theorem Inv.laid {a : Addr} {o : HO} {t' : Nat} (I : Inv X pins σ H s) (k : ∀ b u, s.heap.get? b = some u → h'.get? b = some u) (hp : s.heap.objs.size ≤ a) (new : ObjOk X.prog X.w (upd H a o) h' a o) :
    Inv X pins σ (upd H a o) { s with heap := h', toks := t' } := I.un (Un.laid k hp (I.hok.fresh hp)) (I.hok.laid k hp new)
/-- an object written -/
theorem Inv.write {x e : Addr} {o : HO} {t' : Nat} (I : Inv X pins σ H s) (mu : Mut (H x)) (he : e = x ∨ H e = some (.own x)) (k : ∀ b u, b ≠ e → s.heap.get? b = some u → h'.get? b = some u) (heo : ∃ u, h'.get? e = some u)
    (new : ObjOk X.prog X.w (upd H x o) h' x o) : Inv X pins σ (upd H x o) { s with heap := h', toks := t' } := I.un (Un.write mu he k heo) (I.hok.write mu he k heo new)
theorem Inv.pins_of {pins' : List (Addr × Obj)} (I : Inv X pins σ H s) (h : ∀ p ∈ pins', s.heap.get? p.1 = some p.2 ∧ H p.1 = none ∧ p.1 ≠ X.env.locals ∧ p.1 ∉ X.fs ∧ ∀ v, p.2.data ≠ .cell v) : Inv X pins' σ H s :=
  ⟨I.ok, I.os, I.bare, I.base, I.loc, I.cell, I.free, I.freeC, fun p hp => (List.mem_append.mp hp).elim (fun z => I.pin p (List.mem_append_left _ z)) (h p), I.hok, I.len⟩

theorem nodup_ix {N : List Str} (hN : N.Nodup) {i j : Nat} {x : Str} (a : N[i]? = some x) (b : N[j]? = some x) : i = j := by
  obtain ⟨h1, e1⟩ := List.getElem?_eq_some_iff.mp a
  obtain ⟨h2, e2⟩ := List.getElem?_eq_some_iff.mp b
  exact (List.getElem_inj hN).mp (e1.trans e2.symm)

/-- a name is stored; what changed -/
theorem store_ok2 {M : Model} {A : Around} {E : Value → Shared → Prop} {i : Nat} {x : Str} {v : V} {u : Value} {Q : Unit → Shared → Prop} (I : Inv X pins σ H s) (hN : X.N.Nodup) (hi : X.N[i]? = some x) (hx : Loc X.env.scope x) (r : RelV v u)
    (h : ∀ s', Inv X pins (σ.set i (some v)) H s' → (∃ a, Heap.SameBut a s.heap s'.heap ∧ (a = X.env.locals ∨ X.env.cells.lookup x = some a)) → Q () s') (hf : X.fn x = true ∨ X.env.scope.names.lookup x = some .local := by first | exact .inl rfl | exact .inr rfl | assumption) : wpAny M A (storeName X.env x u) Q E s := by
  obtain ⟨m, hn, hl⟩ := id I.loc
  have hcls : (X.env.scope.kind == .class || (X.env.scope.kind == .module && X.env.locals != X.env.globals)) = false := by rw [I.ok.kind]; rfl
  have hiσ : i < σ.length := by rw [I.len]; exact (List.getElem?_eq_some_iff.mp hi).1
  have cne := I.cne
  have tracked : ∀ {a : Addr} {h' : Heap}, (∃ o, s.heap.get? a = some o ∧ H a = none) → Heap.SameBut a s.heap h' → HOk X.prog X.w H h' := fun {a h'} ha hs b ob e => by
    obtain ⟨_, _, hfree⟩ := ha
    refine (I.hok b ob e).stay (fun c w' hc q => (hs.2 c ?_).trans q) (fun _ q => q) fun _ _ q => q
    rintro rfl
    rcases hc with rfl | hc
    · rw [hfree] at e; cases e
    · rw [hfree] at hc; cases hc
  rcases hx with hk | hk
  · refine wpAny_storeName_local hk hn (fun h' hn' hs => ?_) hcls
    obtain ⟨oL, _, _, hoL, _⟩ := id hn
    refine h _ ⟨I.ok, I.os, I.bare, ⟨fun b o e n hb hx => ?_, fun b o e n hb hx => ?_, I.base.free, fun b o e hx => ?_, I.base.tups, I.base.frzs, I.base.tbls⟩, ⟨_, hn', fun j y v' e1 e2 e3 => ?_⟩, fun y c e => ?_, I.free, I.freeC, fun p hp => ?_, tracked ⟨oL, hoL, I.free⟩ hs, by simpa using I.len⟩ ⟨_, hs, .inl rfl⟩
    · exact (hs.2 b (Nat.ne_of_lt (Nat.lt_of_lt_of_le (Heap.lt_size e) I.ok.above))).trans (I.base.keep b o e n hb hx)
    · obtain ⟨sl, e1⟩ := I.base.slot b o e n hb hx
      exact ⟨sl, (hs.2 b (Nat.ne_of_lt (Nat.lt_of_lt_of_le (Heap.lt_size e) I.ok.above))).trans e1⟩
    · obtain ⟨o', e1⟩ := I.base.there b o e hx
      exact ⟨o', (hs.2 b (Nat.ne_of_lt (Nat.lt_of_lt_of_le (Heap.lt_size e) I.ok.above))).trans e1⟩
    · by_cases hj : j = i
      · subst hj
        rw [hi] at e1; cases e1
        rw [List.getElem?_set_self hiσ] at e2
        cases e2
        exact ⟨u, r, .inl ⟨hk, by simp⟩⟩
      · rw [List.getElem?_set_ne (Ne.symm hj)] at e2
        obtain ⟨u', r', q⟩ := hl j y v' e1 e2 e3
        refine ⟨u', r', ?_⟩
        rcases q with ⟨k, e⟩ | ⟨k, c, e, z⟩
        · refine .inl ⟨k, ?_⟩
          have : y ≠ x := fun e => hj (nodup_ix hN e1 (e ▸ hi))
          simp [this, e]
        · exact .inr ⟨k, c, e, z.sameBut hs (cne y c e)⟩
    · obtain ⟨w', z⟩ := I.cell y c e
      exact ⟨w', z.sameBut hs (cne y c e)⟩
    · obtain ⟨e, n, ne, nf, d⟩ := I.pin p hp
      exact ⟨(hs.2 p.1 ne).trans e, n, ne, nf, d⟩
  · have hfn : X.fn x = true := by
      rcases hf with z | z
      · exact z
      · rw [z] at hk; cases hk
    obtain ⟨c, hc⟩ := I.ok.has x (.inl hk)
    obtain ⟨w', z⟩ := I.cell x c hc
    refine wpAny_storeName_cell I.ok.kind hk hc z (fun h' hc' hs => ?_)
    obtain ⟨oc, hoc, hocd⟩ := id z
    have hHc : H c = none := (I.freeC x c hc).elim id fun z => by rw [z.1] at hfn; cases hfn
    refine h { s with heap := h' } ⟨I.ok, I.os, I.bare, ⟨fun b o e n hb hx => ?_, fun b o e n hb hx => ?_, I.base.free, fun b o e hx => ?_, I.base.tups, I.base.frzs, I.base.tbls⟩, ⟨m, hn.sameBut hs (Ne.symm (cne x c hc)), fun j y v' e1 e2 e3 => ?_⟩, fun y c' e => ?_, I.free, I.freeC, fun p hp => ?_, tracked ⟨oc, hoc, hHc⟩ hs, by simpa using I.len⟩ ⟨c, hs, .inr hc⟩
    · exact (hs.2 b (Nat.ne_of_lt (Nat.lt_of_lt_of_le (Heap.lt_size e) (I.ok.cab x c hfn hc)))).trans (I.base.keep b o e n hb hx)
    · obtain ⟨sl, e1⟩ := I.base.slot b o e n hb hx
      exact ⟨sl, (hs.2 b (Nat.ne_of_lt (Nat.lt_of_lt_of_le (Heap.lt_size e) (I.ok.cab x c hfn hc)))).trans e1⟩
    · obtain ⟨o', e1⟩ := I.base.there b o e hx
      exact ⟨o', (hs.2 b (Nat.ne_of_lt (Nat.lt_of_lt_of_le (Heap.lt_size e) (I.ok.cab x c hfn hc)))).trans e1⟩
    · by_cases hj : j = i
      · subst hj
        rw [hi] at e1; cases e1
        rw [List.getElem?_set_self hiσ] at e2
        cases e2
        exact ⟨u, r, .inr ⟨.inl hk, c, hc, hc'⟩⟩
      · rw [List.getElem?_set_ne (Ne.symm hj)] at e2
        obtain ⟨u', r', q⟩ := hl j y v' e1 e2 e3
        refine ⟨u', r', ?_⟩
        rcases q with q | ⟨k, c', e, z'⟩
        · exact .inl q
        · refine .inr ⟨k, c', e, z'.sameBut hs ?_⟩
          rintro rfl
          exact hj (nodup_ix hN e1 (I.ok.inj _ _ _ e hc ▸ hi))
    · by_cases hcc : c' = c
      · subst hcc; exact ⟨_, hc'⟩
      · obtain ⟨w2, z2⟩ := I.cell y c' e
        exact ⟨w2, z2.sameBut hs hcc⟩
    · obtain ⟨e, n, ne, nf, d⟩ := I.pin p hp
      refine ⟨(hs.2 p.1 ?_).trans e, n, ne, nf, d⟩
      intro q
      rw [q, hoc] at e
      have q' : oc = p.2 := Option.some.inj e
      exact d w' (by rw [← q']; exact hocd)
theorem store_ok {M : Model} {A : Around} {E : Value → Shared → Prop} {i : Nat} {x : Str} {v : V} {u : Value} {Q : Unit → Shared → Prop} (I : Inv X pins σ H s) (hN : X.N.Nodup) (hi : X.N[i]? = some x) (hx : Loc X.env.scope x) (r : RelV v u)
    (h : ∀ s', Inv X pins (σ.set i (some v)) H s' → Q () s') (hf : X.fn x = true ∨ X.env.scope.names.lookup x = some .local := by first | exact .inl rfl | exact .inr rfl | assumption) : wpAny M A (storeName X.env x u) Q E s :=
  store_ok2 I hN hi hx r (fun s' I' _ => h s' I') hf
/-- behind a call or a block, the state as it is -/
theorem Inv.call' {s' : Shared} {ch : List Addr} (I : Inv X pins σ H s) (ho : s'.os = s.os) (u : Un (frs X.stack) ch H H' s.heap s'.heap) (hok : HOk X.prog X.w H' s'.heap) (hg : AllBare s'.gens)
    (hch : ∀ b ∈ ch, (b ∈ X.ex ∨ X.s₀.heap.objs.size ≤ b) ∧ b ≠ X.env.locals ∧ (∀ x c, X.env.cells.lookup x = some c → c ≠ b) ∧ ∀ p ∈ X.pn ++ pins, p.1 ≠ b) : Inv X pins σ H' s' := by
  obtain ⟨h', g', d', t', o'⟩ := s'
  have e : o' = s.os := ho
  subst e
  exact I.call (g' := g') (t' := t') (d' := d') u hok hg hch
end

/-! ### the judgements -/
/-- an exception: its class, its own dict's address (where it has one), the abstract heap behind it -/
abbrev XK := Value → Option Addr → Hp → Prop
abbrev St := List (Option V)
abbrev VK := V → Hp → Prop
/-- an expression's reading; a test's; an argument list's -/
abbrev TE := St → Hp → VK → Prop
abbrev TT := St → Hp → (Bool → Hp → Prop) → Prop
abbrev TA := St → Hp → (List V → Hp → Prop) → Prop
/-- what is wanted behind a statement -/
structure Ends where
  nx : St → Hp → Prop
  rt : VK
  bk : St → Hp → Prop := fun _ _ => False
  ct : St → Hp → Prop := fun _ _ => False
abbrev TS := Ends → St → Hp → Prop

def EP (X : Cx) (pins : List (Addr × Obj)) (σ : St) (Q : VK) (u : Value) (s' : Shared) : Prop := ∃ v H', Inv X pins σ H' s' ∧ RelV v u ∧ Q v H'
def TP (X : Cx) (pins : List (Addr × Obj)) (σ : St) (Q : Bool → Hp → Prop) (b : Bool) (s' : Shared) : Prop := ∃ H', Inv X pins σ H' s' ∧ Q b H'
def AP (X : Cx) (pins : List (Addr × Obj)) (σ : St) (Q : List V → Hp → Prop) (us : List Value) (s' : Shared) : Prop := ∃ vs H', Inv X pins σ H' s' ∧ Vals vs us ∧ Q vs H'
def SP (X : Cx) (pins : List (Addr × Obj)) (D : Ends) (f : Flow) (s' : Shared) : Prop :=
  match f with
  | .next => ∃ σ' H', Inv X pins σ' H' s' ∧ D.nx σ' H'
  | .brk => ∃ σ' H', Inv X pins σ' H' s' ∧ D.bk σ' H'
  | .cont => ∃ σ' H', Inv X pins σ' H' s' ∧ D.ct σ' H'
  | .ret u => ∃ v σ' H', Inv X pins σ' H' s' ∧ RelV v u ∧ D.rt v H'

def PE (X : Cx) (e : Expr) (t : TE) : Prop :=
  ∀ (pins : List (Addr × Obj)) (s : Shared) (σ : St) (H : Hp) (Q : VK), Inv X pins σ H s → t σ H Q → wpAny (model X.prog X.w) X.A (eval e X.env) (EP X pins σ Q) X.xe s
def PT (X : Cx) (e : Expr) (t : TT) : Prop :=
  ∀ (pins : List (Addr × Obj)) (s : Shared) (σ : St) (H : Hp) (Q : Bool → Hp → Prop), Inv X pins σ H s → t σ H Q → wpAny (model X.prog X.w) X.A (isTrue e X.env (eval e X.env)) (TP X pins σ Q) X.xe s
/-- a test whatever its 'whole' is (and, or) -/
def PW (X : Cx) (e : Expr) (t : TT) : Prop :=
  ∀ (whole : Sem Value) (pins : List (Addr × Obj)) (s : Shared) (σ : St) (H : Hp) (Q : Bool → Hp → Prop), Inv X pins σ H s → t σ H Q → wpAny (model X.prog X.w) X.A (isTrue e X.env whole) (TP X pins σ Q) X.xe s
theorem PW.pt {X : Cx} {e : Expr} {t : TT} (h : PW X e t) : PT X e t := h _
/-- an argument list (no star), from the left -/
def PA (X : Cx) (es : List Expr) (t : TA) : Prop :=
  ∀ (pos : Pos) (pins : List (Addr × Obj)) (s : Shared) (σ : St) (H : Hp) (Q : List V → Hp → Prop), Inv X pins σ H s → t σ H Q → wpAny (model X.prog X.w) X.A (spliced (backTo pos (starEach es X.env))) (AP X pins σ Q) X.xe s
def PS (X : Cx) (st : Stmt) (t : TS) : Prop :=
  ∀ (pins : List (Addr × Obj)) (s : Shared) (σ : St) (H : Hp) (D : Ends), Inv X pins σ H s → t D σ H → wpAny (model X.prog X.w) X.A (exec st X.env) (SP X pins D) X.xe s
def PSs (X : Cx) (st : List Stmt) (t : TS) : Prop :=
  ∀ (pins : List (Addr × Obj)) (s : Shared) (σ : St) (H : Hp) (D : Ends), Inv X pins σ H s → t D σ H → wpAny (model X.prog X.w) X.A (execs st X.env) (SP X pins D) X.xe s
/-- weaken the end -/
theorem thn {α : Type} {t : Sem α} {Q Q' : α → Shared → Prop} {M : Model} {A : Around} {E : Value → Shared → Prop} {s : Shared} (h : wpAny M A t Q E s) (hQ : ∀ a s, Q a s → Q' a s) : wpAny M A t Q' E s := wpAny_mono h hQ fun _ _ x => x
end L2

namespace L2
open PySem PySem.Spec PyProof.Rows
section
variable {X : Cx}

/-- two expressions in a row -/
theorem bin {a b : Expr} {ta tb : TE} (ha : PE X a ta) (hb : PE X b tb) {pins : List (Addr × Obj)} {s : Shared} {σ : St} {H : Hp} {R : V → V → Hp → Prop} (I : Inv X pins σ H s) (h : ta σ H fun x H1 => tb σ H1 fun y H2 => R x y H2)
    {α : Type} {Q : α → Shared → Prop} {f : Value → Value → Sem α}
    (hf : ∀ v u s2 x y H2, Inv X pins σ H2 s2 → RelV x v → RelV y u → R x y H2 → wpAny (model X.prog X.w) X.A (f v u) Q X.xe s2) :
    wpAny (model X.prog X.w) X.A (eval a X.env) (fun v s₁ => wpAny (model X.prog X.w) X.A (eval b X.env) (fun u s₂ => wpAny (model X.prog X.w) X.A (f v u) Q X.xe s₂) X.xe s₁) X.xe s := by
  refine thn (ha pins s σ H _ I h) fun v s1 hw' => ?_
  obtain ⟨x, H1, I1, r1, q1⟩ := hw'
  refine thn (hb pins s1 σ H1 _ I1 q1) fun u s2 hw' => ?_
  obtain ⟨y, H2, I2, r2, q2⟩ := hw'
  exact hf v u s2 x y H2 I2 r1 r2 q2

/-! ### names and constants -/
def tVar (i : Nat) : TE := fun σ H Q => ∃ v, σ[i]? = some (some v) ∧ Q v H
def tC (v : V) : TE := fun _ H Q => Q v H
theorem pe_var {i : Nat} {x : Str} {pos : Pos} (hN : X.N[i]? = some x) (hv : Vis X.env.scope x) (hd : (x == ("__debug__" : Str)) = false := by decide) (hcd : (x == ("__classdict__" : Str)) = false := by decide) : PE X (.Name x pos) (tVar i) := by
  intro pins s σ H Q I h
  obtain ⟨v, e, h⟩ := h
  obtain ⟨m, hn, hl⟩ := I.loc
  obtain ⟨u, r, l⟩ := hl i x v hN e hv
  have fin : EP X pins σ Q u s := ⟨v, H, I, r, h⟩
  rcases l with ⟨hk, hm⟩ | ⟨hk, c, hc, hcell⟩
  · exact wpAny_Name (wpAny_loadName_local I.ok.kind hk hn hm fin) hd
  · rcases hk with hk | hk
    · exact wpAny_Name (wpAny_loadName_cell I.ok.kind hk hc hcell fin) hd
    · exact wpAny_Name (wpAny_loadName_free I.ok.kind hk hc hcell fin hcd) hd
theorem pe_int {i j pos} : PE X (.Constant (.int i) j pos) (tC (.int i)) := fun _ _ _ H _ I h => wpAny_Constant_int ⟨.int i, H, I.tok _, ⟨_, rfl⟩, h⟩
theorem pe_bl {b j pos} : PE X (.Constant (.bool b) j pos) (tC (.bl b)) := fun _ _ _ H _ I h => Constant_bool ⟨.bl b, H, I, rfl, h⟩
/-- a global name of the def -/
def Gl (X : Cx) (x : Str) : Prop := X.env.kindOf x = some .globalImplicit
theorem ld_glob {E : Value → Shared → Prop} {pins : List (Addr × Obj)} {s : Shared} {σ : St} {H : Hp} {x : Str} {u : Value} {pos : Pos} {Q : Value → Shared → Prop} (I : Inv X pins σ H s) (hg : Gl X x) (hm : X.mg x = some u) (h : Q u s)
    (hd : (x == ("__debug__" : Str)) = false := by decide) : wpAny (model X.prog X.w) X.A (eval (.Name x pos) X.env) Q E s :=
  Calls.Name_function_global I.ok.kind hg (Calls.loadGlobal_global (by rw [I.ok.glob]; exact I.mod.glob.keeps I.bk) hm h) hd
theorem ld_blt {E : Value → Shared → Prop} {pins : List (Addr × Obj)} {s : Shared} {σ : St} {H : Hp} {x : Str} {u : Value} {pos : Pos} {Q : Value → Shared → Prop} (I : Inv X pins σ H s) (hg : Gl X x) (hm : X.mg x = none) (hv : bootBuiltins x = some u) (h : Q u s)
    (hn : x ≠ "__name__" := by decide) (hd : (x == ("__debug__" : Str)) = false := by decide) : wpAny (model X.prog X.w) X.A (eval (.Name x pos) X.env) Q E s := by
  obtain ⟨mb, h1, h2⟩ := I.mod.blt
  exact Calls.Name_function_global I.ok.kind hg (Calls.loadGlobal_builtin (by rw [I.ok.glob]; exact I.mod.glob.keeps I.bk) hm (by rw [I.ok.blt]; exact h1.keeps I.bk) ((h2 x hn).trans hv) h) hd
theorem pe_bltn {x : Str} {v : V} {u : Value} {pos : Pos} (hg : Gl X x) (hm : X.mg x = none) (hv : bootBuiltins x = some u) (r : RelV v u) (hn : x ≠ "__name__" := by decide) (hd : (x == ("__debug__" : Str)) = false := by decide) : PE X (.Name x pos) (tC v) :=
  fun _ _ _ H _ I h => ld_blt I hg hm hv ⟨v, H, I, r, h⟩ hn hd

variable {a b : Expr} {ta tb : TE} {pos : Pos}
/-- a comparison as a value, as a test -/
def tB (t : TE) : TT := fun σ H Q => t σ H fun x H1 => ∃ c, x = .bl c ∧ Q c H1
/-- an expression whose value is a bool, as a test -/
theorem pt_val {e : Expr} {t : TE} (h : PE X e t) (he : ∀ whole, isTrue e X.env whole = (do let v ← whole; standAt e.pos; holding [v] (truthy v)) := by intro _; rfl) : PT X e (tB t) := by
  intro pins s σ H Q I hw
  refine isTrue_plain (thn (h pins s σ H _ I hw) fun v s1 ⟨x, H1, I1, r1, q1⟩ => ?_) (he _)
  obtain ⟨d, rfl, q⟩ := q1
  cases r1
  exact wpAny_truthy_bool ⟨H1, I1, q⟩

/-! ### and, or, not -/
variable {tA tB' : TT} {rest : List Expr}
def tOr (t u : TT) : TT := fun σ H Q => t σ H fun c H1 => if c = true then Q true H1 else u σ H1 Q
def tNot (t : TT) : TT := fun σ H Q => t σ H fun c H1 => Q (!c) H1
theorem pw_or1 (ha : PT X a tA) : PW X (.BoolOp .Or [a] pos) tA := by
  intro wh pins s σ H Q I h
  refine isTrue_or (thn (ha pins s σ H Q I h) fun c s1 e => ?_)
  cases c with
  | false => exact isTrue_or_nil e
  | true => exact e
theorem pw_or (ha : PT X a tA) (hb : PW X (.BoolOp .Or (b :: rest) pos) tB') : PW X (.BoolOp .Or (a :: b :: rest) pos) (tOr tA tB') := by
  intro wh pins s σ H Q I h
  refine isTrue_or (thn (ha pins s σ H _ I h) fun c s1 ⟨H1, I1, q1⟩ => ?_)
  cases c with
  | true => exact ⟨H1, I1, q1⟩
  | false => exact hb wh pins s1 σ H1 Q I1 q1
theorem pt_not (ha : PT X a tA) : PT X (.UnaryOp .Not a pos) (tNot tA) := by
  intro pins s σ H Q I h
  exact isTrue_not (ha pins s σ H (fun c H1 => Q (!c) H1) I h)
/-- .. as values (bools) -/
def tAndV (ta tb : TE) : TE := fun σ H Q => ta σ H fun x H1 => ∃ c, x = .bl c ∧ if c = true then tb σ H1 Q else Q (.bl false) H1
def tNotV (ta : TE) : TE := fun σ H Q => ta σ H fun x H1 => ∃ c, x = .bl c ∧ Q (.bl (!c)) H1
theorem pe_one {op} {t : TE} (h : PE X a t) : PE X (.BoolOp op [a] pos) t := fun pins s σ H Q I hw => BoolOp_one (h pins s σ H Q I hw)
theorem pe_and (ha : PE X a ta) (hb : PE X (.BoolOp .And (b :: rest) pos) tb) : PE X (.BoolOp .And (a :: b :: rest) pos) (tAndV ta tb) := by
  intro pins s σ H Q I h
  refine BoolOp_and (thn (ha pins s σ H _ I h) fun v s1 hw' => ?_)
  obtain ⟨x, H1, I1, r1, q1⟩ := hw'
  obtain ⟨c, rfl, q1⟩ := q1
  cases r1
  refine wpAny_truthy_bool ?_
  cases c with
  | true => exact hb pins s1 σ H1 Q I1 q1
  | false => exact ⟨.bl false, H1, I1, rfl, q1⟩
theorem pe_not (ha : PE X a ta) : PE X (.UnaryOp .Not a pos) (tNotV ta) := by
  intro pins s σ H Q I h
  refine UnaryOp_ (thn (ha pins s σ H _ I h) fun v s1 hw' => ?_)
  obtain ⟨x, H1, I1, r1, q1⟩ := hw'
  obtain ⟨c, rfl, q1⟩ := q1
  cases r1
  exact not_of (wpAny_truthy_bool ⟨.bl (!c), H1, I1, rfl, q1⟩)
end
end L2

namespace L2
open PySem PySem.Spec PyProof.Rows

/-! ### a list, a tuple that is read: tracked, frozen, or an object of the module -/
def SqL (K : PySem.W.Frag) (H : Hp) (a : Addr) (xs : List V) : Prop :=
  Rd H a (.lst xs) ∨
    ∃ (o : Obj) (its : Array Value) (n : Nat), K.lookup a = some o ∧ o.cls = .type "list" ∧ o.dict = none ∧ o.data = .seq its n ∧ its.size ≤ sizeLine ∧ Vals xs its.toList
def SqT (K : PySem.W.Frag) (H : Hp) (a : Addr) (xs : List V) : Prop :=
  Rd H a (.tup xs) ∨
    ∃ (o : Obj) (its : Array Value) (n : Nat), K.lookup a = some o ∧ o.cls = .type "tuple" ∧ o.data = .seq its n ∧ its.size ≤ sizeLine ∧ Vals xs its.toList
def absV : Value → Option V
  | .none => some .non
  | .bool b => some (.bl b)
  | .int i _ => some (.int i)
  | .str x _ => some (.str x)
  | .bytes b _ => some (.byt b)
  | .float b _ => some (.flt b)
  | .ref a => some (.ref a)
  | .type n => some (.ty n)
  | _ => none
theorem RelV.abs {x : V} {u : Value} (r : RelV x u) : absV u = some x := by
  cases x with
  | non => cases r; rfl
  | bl _ => cases r; rfl
  | int _ => obtain ⟨t, rfl⟩ := r; rfl
  | str _ => obtain ⟨t, rfl⟩ := r; rfl
  | byt _ => obtain ⟨t, rfl⟩ := r; rfl
  | flt _ => obtain ⟨t, rfl⟩ := r; rfl
  | ref _ => cases r; rfl
  | ty _ => cases r; rfl
theorem RelV.inj {x y : V} {u : Value} (r : RelV x u) (q : RelV y u) : x = y := Option.some.inj (r.abs.symm.trans q.abs)
theorem Vals.inj {xs ys : List V} {us : List Value} (h : Vals xs us) (h' : Vals ys us) : xs = ys := by
  induction h generalizing ys with
  | nil => cases h'; rfl
  | cons r t ih =>
    cases h' with
    | cons r' t' => rw [r.inj r', ih t']
section
variable {X : Cx} {pins : List (Addr × Obj)} {σ : St} {H : Hp} {s : Shared} {a : Addr} {xs ys : List V}
theorem SqL.of {K : PySem.W.Frag} (h : H a = some (.lst xs)) : SqL K H a xs := .inl (.inl h)
theorem SqT.of {K : PySem.W.Frag} (h : H a = some (.tup xs)) : SqT K H a xs := .inl (.inl h)
theorem Inv.list (I : Inv X pins σ H s) (h : SqL X.K H a xs) : ∃ its : List Value, Vals xs its ∧ PlainL s.heap a its.toArray ∧ xs.length ≤ sizeLine := by
  rcases h with h | ⟨o, its, n, hk, hc, hd, hs, hz, r⟩
  · obtain ⟨z, its, n, r, e⟩ := h.ok I.hok
    exact ⟨its, r, ⟨_, n, e, rfl, rfl, rfl⟩, z⟩
  · refine ⟨its.toList, r, ⟨o, n, I.kIn a o hk, hc, hd, by simpa using hs⟩, ?_⟩
    have e := r.length
    simp only [Array.length_toList] at e
    omega
theorem Inv.tuple (I : Inv X pins σ H s) (h : SqT X.K H a xs) : ∃ its : List Value, Vals xs its ∧ IsTup s.heap a its.toArray ∧ xs.length ≤ sizeLine := by
  rcases h with h | ⟨o, its, n, hk, hc, hs, hz, r⟩
  · obtain ⟨z, its, r, p⟩ := h.ok I.hok
    exact ⟨its, r, p, z⟩
  · refine ⟨its.toList, r, ⟨o, I.kIn a o hk, hc, n, by simpa using hs⟩, ?_⟩
    have e := r.length
    simp only [Array.length_toList] at e
    omega
theorem Inv.list_inj (I : Inv X pins σ H s) (h : SqL X.K H a xs) (h' : SqL X.K H a ys) : xs = ys := by
  obtain ⟨its, r, ⟨o, n, e, _, _, d⟩, _⟩ := I.list h
  obtain ⟨its', r', ⟨o', n', e', _, _, d'⟩, _⟩ := I.list h'
  rw [e] at e'; cases e'
  rw [d] at d'
  injection d' with d1 _
  have : its = its' := by simpa using congrArg Array.toList d1
  subst this
  exact r.inj r'
end

/-! ### another wish about exceptions -/
abbrev Cx.wish (X : Cx) (E : Value → Shared → Prop) : Cx := { X with xe := E }
/-- no exception leaves -/
abbrev Cx.nox (X : Cx) : Cx := X.wish fun _ _ => False
theorem Cx.Ok.wish {X : Cx} (ok : X.Ok) (E : Value → Shared → Prop) : (X.wish E).Ok :=
  ⟨ok.mod, ok.kind, ok.glob, ok.blt, ok.above, ok.inj, ok.has, ok.cab, ok.hd, ok.frames, ok.stk, ok.exf, ok.bs, ok.bsz, ok.noex, ok.exfs, ok.funs, ok.frf⟩
theorem Cx.Ok.unwish {X : Cx} {E : Value → Shared → Prop} (ok : (X.wish E).Ok) : X.Ok :=
  ⟨ok.mod, ok.kind, ok.glob, ok.blt, ok.above, ok.inj, ok.has, ok.cab, ok.hd, ok.frames, ok.stk, ok.exf, ok.bs, ok.bsz, ok.noex, ok.exfs, ok.funs, ok.frf⟩
section
variable {X : Cx} {pins : List (Addr × Obj)} {σ : St} {H : Hp} {s : Shared} {E : Value → Shared → Prop}
theorem Inv.wish (I : Inv X pins σ H s) (E : Value → Shared → Prop) : Inv (X.wish E) pins σ H s := ⟨I.ok.wish E, I.os, I.bare, I.base, I.loc, I.cell, I.free, I.freeC, I.pin, I.hok, I.len⟩
theorem Inv.unwish (I : Inv (X.wish E) pins σ H s) : Inv X pins σ H s := ⟨I.ok.unwish, I.os, I.bare, I.base, I.loc, I.cell, I.free, I.freeC, I.pin, I.hok, I.len⟩
theorem SP.unwish {D : Ends} {f : Flow} {s' : Shared} (h : SP (X.wish E) pins D f s') : SP X pins D f s' := by
  cases f with
  | next => obtain ⟨σ', H', I, q⟩ := h; exact ⟨σ', H', I.unwish, q⟩
  | brk => obtain ⟨σ', H', I, q⟩ := h; exact ⟨σ', H', I.unwish, q⟩
  | cont => obtain ⟨σ', H', I, q⟩ := h; exact ⟨σ', H', I.unwish, q⟩
  | ret u => obtain ⟨v, σ', H', I, r, q⟩ := h; exact ⟨v, σ', H', I.unwish, r, q⟩
theorem PE.nox {e : Expr} {t : TE} (h : PE X.nox e t) : PE X e t := fun pins s σ H Q I hw =>
  wpAny_mono (h pins s σ H Q (I.wish _) hw) (fun _ _ ⟨v, H', I', r, q⟩ => ⟨v, H', I'.unwish, r, q⟩) fun _ _ z => False.elim z
theorem PT.nox {e : Expr} {t : TT} (h : PT X.nox e t) : PT X e t := fun pins s σ H Q I hw =>
  wpAny_mono (h pins s σ H Q (I.wish _) hw) (fun _ _ ⟨H', I', q⟩ => ⟨H', I'.unwish, q⟩) fun _ _ z => False.elim z
theorem PSs.nox {st : List Stmt} {t : TS} (h : PSs X.nox st t) : PSs X st t := fun pins s σ H D I hw =>
  wpAny_mono (h pins s σ H D (I.wish _) hw) (fun _ _ q => q.unwish) fun _ _ z => False.elim z
end

/-! ### blocks and small statements -/
section
variable {X : Cx} {st : Stmt} {rest : List Stmt} {t u : TS} {e : Expr} {te : TE} {pos : Pos}
def tNext : TS := fun D σ H => D.nx σ H
def tSeq (t u : TS) : TS := fun D σ H => t { D with nx := u D } σ H
theorem pss_nil : PSs X [] tNext := fun _ _ σ H _ I h => wpAny_execs_nil ⟨σ, H, I, h⟩
theorem pss_cons (h1 : PS X st t) (h2 : PSs X rest u) : PSs X (st :: rest) (tSeq t u) := by
  intro pins s σ H D I h
  refine wpAny_execs_cons (thn (h1 pins s σ H { D with nx := u D } I h) fun f s1 q => ?_)
  cases f with
  | next =>
    obtain ⟨σ', H', I', q⟩ := q
    exact h2 pins s1 σ' H' D I' q
  | ret v => exact q
  | brk => exact q
  | cont => exact q
theorem pss_one (h1 : PS X st t) : PSs X [st] t := by
  intro pins s σ H D I h
  refine wpAny_execs_cons (thn (h1 pins s σ H D I h) fun f s1 q => ?_)
  cases f with
  | next => exact wpAny_execs_nil q
  | ret v => exact q
  | brk => exact q
  | cont => exact q
/-- in a def's body nothing is shown -/
theorem Inv.quiet {pins : List (Addr × Obj)} {σ : St} {H : Hp} {s : Shared} (I : Inv X pins σ H s) : interactive X.env = false := by simp [interactive, I.ok.kind]
/-- an expression whose value is dropped -/
def tDrop (te : TE) : TS := fun D σ H => te σ H fun _ H1 => D.nx σ H1
theorem ps_expr (he : PE X e te) (hs : swapsWith e none pos.line X.env = pure false := by rfl) : PS X (.Expr e pos) (tDrop te) := by
  intro pins s σ H D I h
  exact wpAny_Expr_any (thn (he pins s σ H _ I h) fun v s1 ⟨x, H1, I1, r1, q1⟩ => ⟨σ, H1, I1, q1⟩) I.quiet hs
def tRet (te : TE) : TS := fun D σ H => te σ H D.rt
theorem ps_ret (he : PE X e te) : PS X (.Return (some e) pos) (tRet te) := by
  intro pins s σ H D I h
  exact wpAny_Return_some (thn (he pins s σ H _ I h) fun v s1 ⟨x, H1, I1, r1, q1⟩ => ⟨x, σ, H1, I1, r1, q1⟩)
def tIfS (c : TT) (t u : TS) : TS := fun D σ H => c σ H fun b H1 => if b = true then t D σ H1 else u D σ H1
theorem ps_if {c : Expr} {a b : List Stmt} {tc : TT} (hc : PT X c tc) (ha : PSs X a t) (hb : PSs X b u) : PS X (.If c a b pos) (tIfS tc t u) := by
  intro pins s σ H D I h
  refine wpAny_If (thn (hc pins s σ H _ I h) fun d s1 ⟨H1, I1, q1⟩ => ?_)
  cases d with
  | true => exact ha pins s1 σ H1 D I1 q1
  | false => exact hb pins s1 σ H1 D I1 q1
end

/-! ### targets -/
abbrev TG := V → St → Hp → (St → Hp → Prop) → Prop
abbrev TGs := List V → St → Hp → (St → Hp → Prop) → Prop
def PG (X : Cx) (target : Expr) (t : TG) : Prop :=
  ∀ (pins : List (Addr × Obj)) (s : Shared) (σ : St) (H : Hp) (v : V) (u : Value) (Q : St → Hp → Prop), Inv X pins σ H s → RelV v u → t v σ H Q →
    wpAny (model X.prog X.w) X.A (assign target X.env u) (fun _ s' => ∃ σ' H', Inv X pins σ' H' s' ∧ Q σ' H') X.xe s
/-- o[i] = v, by values -/
abbrev TSet := V → V → V → Hp → (Hp → Prop) → Prop
def PSet (X : Cx) (t : TSet) : Prop :=
  ∀ (pins : List (Addr × Obj)) (s : Shared) (σ : St) (H : Hp) (o i v : V) (ov iv u : Value) (Q : Hp → Prop), Inv X pins σ H s → RelV o ov → RelV i iv → RelV v u → t o i v H Q →
    wpAny (model X.prog X.w) X.A (setItem ov iv u) (fun _ s' => ∃ H', Inv X pins σ H' s' ∧ Q H') X.xe s
section
variable {X : Cx} {pos : Pos}
def gName (i : Nat) : TG := fun v σ H Q => Q (σ.set i (some v)) H
theorem pg_name {i : Nat} {x : Str} (hN : X.N.Nodup) (hi : X.N[i]? = some x) (hx : Loc X.env.scope x) (hf : X.fn x = true ∨ X.env.scope.names.lookup x = some .local := by first | exact .inl rfl | exact .inr rfl | assumption) : PG X (.Name x pos) (gName i) := by
  intro pins s σ H v u Q I r h
  exact wpAny_assign_Name (store_ok I hN hi hx r (fun s' I' => ⟨_, H, I', h⟩) hf)
def gNil : TGs := fun vs σ H Q => vs = [] ∧ Q σ H
def gCons (t : TG) (u : TGs) : TGs := fun vs σ H Q => ∃ v r, vs = v :: r ∧ t v σ H fun σ' H' => u r σ' H' Q
/-- (a, b, ..) = a tuple of that length -/
def gTup (K : PySem.W.Frag) (n : Nat) (t : TGs) : TG := fun v σ H Q => ∃ a xs, v = .ref a ∧ SqT K H a xs ∧ xs.length = n ∧ t xs σ H Q
/-- o[i] = .. -/
def gSub (to ti : TE) (t : TSet) : TG := fun v σ H Q => to σ H fun o H1 => ti σ H1 fun i H2 => t o i v H2 fun H3 => Q σ H3
theorem pg_sub {o i : Expr} {to ti : TE} {t : TSet} (ho : PE X o to) (hi : PE X i ti) (hs : PSet X t)
    (ha : ∀ v, assign (.Subscript o i pos) X.env v = (do
      let ov ← holding [v] (eval o X.env)
      let iv ← holding [v, ov] (eval i X.env)
      standAt pos
      holding [v, ov, iv] (setItem ov iv v)
      release [v, ov, iv] []) := by intro _; rfl) : PG X (.Subscript o i pos) (gSub to ti t) := by
  intro pins s σ H v u Q I r h
  rw [ha]
  refine wpAny_bind (wpAny_holding (thn (ho pins s σ H _ I h) fun ov s1 hw' => ?_))
  obtain ⟨x, H1, I1, r1, q1⟩ := hw'
  refine wpAny_bind (wpAny_holding (thn (hi pins s1 σ H1 _ I1 q1) fun iv s2 hw' => ?_))
  obtain ⟨y, H2, I2, r2, q2⟩ := hw'
  refine wpAny_bind (wpAny_standAt (wpAny_bind (wpAny_holding (thn (hs pins s2 σ H2 x y v ov iv u _ I2 r1 r2 r q2) fun _ s3 ⟨H3, I3, q3⟩ => ?_))))
  exact wpAny_release ⟨σ, H3, I3, q3⟩
/-- target = value -/
def tAsg (te : TE) (g : TG) : TS := fun D σ H => te σ H fun x H1 => g x σ H1 D.nx
theorem ps_asg {tg e : Expr} {te : TE} {g : TG} (he : PE X e te) (hg : PG X tg g) (hs : swapsWithSole [tg] e pos.line X.env = pure false := by rfl) (hw : swappedStores [tg] e X.env = pure none := by rfl)
    (h1 : (assignEach [tg] X.env).map (·.2) = [assign tg X.env] := by rfl) : PS X (.Assign [tg] e pos) (tAsg te g) := by
  intro pins s σ H D I h
  refine wpAny_Assign_stores (thn (he pins s σ H _ I h) fun v s1 hw' => ?_) hs hw
  obtain ⟨x, H1, I1, r1, q1⟩ := hw'
  rw [h1]
  exact thn (hg pins s1 σ H1 x v _ I1 r1 q1) fun _ s2 q => q
/-- name = value -/
theorem ps_set {i : Nat} {x : Str} {e : Expr} {te : TE} {pos' : Pos} (hN : X.N.Nodup) (hi : X.N[i]? = some x) (hx : Loc X.env.scope x) (he : PE X e te) (hs : swapsWith e (some (.Name x pos')) pos.line X.env = pure false := by rfl) (hf : X.fn x = true ∨ X.env.scope.names.lookup x = some .local := by first | exact .inl rfl | exact .inr rfl | assumption) :
    PS X (.Assign [.Name x pos'] e pos) (tAsg te (gName i)) := by
  intro pins s σ H D I h
  refine wpAny_Assign_Name (thn (he pins s σ H _ I h) fun v s1 hw' => ?_) hs
  obtain ⟨y, H1, I1, r1, q1⟩ := hw'
  exact store_ok I1 hN hi hx r1 (fun s2 I2 => ⟨_, H1, I2, q1⟩) hf
end

/-! ### while -/
section
variable {X : Cx} {pos : Pos}
/-- the invariant W with its measure -/
def tWhile (c : TT) (tb : TS) : TS := fun D σ H => ∃ W : Nat → St → Hp → Prop, (∃ m, W m σ H) ∧ ∀ m σ H, W m σ H →
  c σ H fun b H1 => if b = true then ∃ N : St → Hp → Prop, (∀ σ' H', N σ' H' → ∃ m', m' < m ∧ W m' σ' H') ∧ tb { D with nx := N, ct := N, bk := D.nx } σ H1 else D.nx σ H1
theorem ps_while {c : Expr} {body : List Stmt} {tc : TT} {tb : TS} (hp : PassesOwn (model X.prog X.w) X.A X.env X.xe) (hc : PT X c tc) (hb : PSs X body tb) : PS X (.While c body [] pos) (tWhile tc tb) := by
  intro pins s σ H D I h
  obtain ⟨W, ⟨m0, w0⟩, turn⟩ := h
  refine wpAny_While (codeAny_whileLoop (fun n s' => ∃ σ' H', Inv X pins σ' H' s' ∧ W n σ' H') ?_ m0 ⟨σ, H, I, w0⟩)
  rintro n s1 ⟨σ1, H1, I1, w1⟩
  refine wpAny_passesOwn hp (thn (hc pins s1 σ1 H1 _ I1 (turn n σ1 H1 w1)) fun b s2 ⟨H2, I2, q2⟩ => ?_)
  cases b with
  | true =>
    obtain ⟨N, hN, q2⟩ := q2
    rw [if_pos rfl]
    refine wpAny_passesOwn hp (thn (hb pins s2 σ1 H2 _ I2 q2) fun f s3 q3 => ?_)
    cases f with
    | next =>
      obtain ⟨σ3, H3, I3, n3⟩ := q3
      obtain ⟨m', hm, w3⟩ := hN σ3 H3 n3
      exact ⟨m', hm, σ3, H3, I3, w3⟩
    | cont =>
      obtain ⟨σ3, H3, I3, n3⟩ := q3
      obtain ⟨m', hm, w3⟩ := hN σ3 H3 n3
      exact ⟨m', hm, σ3, H3, I3, w3⟩
    | brk => exact q3
    | ret v => exact q3
  | false =>
    rw [if_neg Bool.false_ne_true]
    exact wpAny_execs_nil ⟨σ1, H2, I2, q2⟩
end

/-! ### what a loop or a comprehension walks -/
/-- at turn i: it yields x (the heap may grow), or it stops -/
structure It where
  go : Nat → Hp → Prop
  yld : Nat → Hp → V → Hp → Prop
  stop : Nat → Hp → Prop
/-- the iterator's own objects may turn: they are not the frame's, not pinned, younger than the entry (or a comprehension's own) -/
def FpOk (X : Cx) (pins : List (Addr × Obj)) (H : Hp) (b : Addr) : Prop :=
  H b = none ∧ b ≠ X.env.locals ∧ b ∉ X.fs ∧ (b ∈ X.ex ∨ X.s₀.heap.objs.size ≤ b) ∧ (∀ x c, X.env.cells.lookup x = some c → c ≠ b) ∧ ∀ p ∈ X.pn ++ pins, p.1 ≠ b
theorem Inv.fpOk {X : Cx} {pins : List (Addr × Obj)} {σ : St} {H H' : Hp} {s : Shared} {b : Addr} (I : Inv X pins σ H s) (hb : s.heap.objs.size ≤ b) (hn : H' b = none) : FpOk X pins H' b := by
  refine ⟨hn, Nat.ne_of_gt (Nat.lt_of_lt_of_le I.lt hb), I.nofs hb, .inr (Nat.le_trans I.sz hb), fun x c e z => ?_, fun p hp z => ?_⟩
  · obtain ⟨v, q⟩ := I.cell x c e
    exact absurd (Nat.lt_of_lt_of_le q.lt (by rw [z]; exact hb)) (Nat.lt_irrefl _)
  · exact absurd (Nat.lt_of_lt_of_le (Heap.lt_size (I.pin p hp).1) (by rw [z]; exact hb)) (Nat.lt_irrefl _)
structure Turn (P : Program) (w : World) (K : PySem.W.Frag) (tg : Expr) (J : It) (fp : List Addr) (it : Addr) (tn : Nat → Heap → Prop) : Prop where
  mem : it ∈ fp
  obj : ∀ i h, tn i h → ∀ b ∈ fp, ∃ o, h.get? b = some o ∧ ∀ v, o.data ≠ .cell v
  keep : ∀ i h h', tn i h → (∀ b ∈ fp, ∀ o, h.get? b = some o → h'.get? b = some o) → tn i h'
  item : ∀ (X : Cx), X.prog = P → X.w = w → X.K = K → X.calm = true → ∀ (i : Nat) (pins : List (Addr × Obj)) (s : Shared) (σ : St) (H : Hp) (E : Value → Shared → Prop), Inv X pins σ H s → (∀ b ∈ fp, FpOk X pins H b) → tn i s.heap → J.go i H →
    wpAny (model P w) X.A (pyNext (.ref it)) (fun r s1 => ∃ u, r = some u ∧
      wpAny (model P w) X.A (letOwnedTupleGo tg (.ref it) u) (fun _ s2 => ∃ x H', Inv X pins σ H' s2 ∧ RelV x u ∧ J.yld i H x H' ∧ tn (i + 1) s2.heap ∧ ∀ b ∈ fp, H' b = none) E s1) E s
  done : ∀ (X : Cx), X.prog = P → X.w = w → X.K = K → X.calm = true → ∀ (i : Nat) (pins : List (Addr × Obj)) (s : Shared) (σ : St) (H : Hp) (E : Value → Shared → Prop), Inv X pins σ H s → (∀ b ∈ fp, FpOk X pins H b) → tn i s.heap → J.stop i H →
    wpAny (model P w) X.A (pyNext (.ref it)) (fun r s1 => r = none ∧ Inv X pins σ H s1) E s
  self : ∀ (A : Around) (i : Nat) (s : Shared) (Q : Value → Shared → Prop) (E : Value → Shared → Prop), tn i s.heap → Q (.ref it) s → wpAny (model P w) A (pyIter (.ref it)) Q E s
abbrev TI := St → Hp → (It → Hp → Prop) → Prop
/-- an iterator has come -/
def PIE (X : Cx) (pins : List (Addr × Obj)) (σ : St) (tg : Expr) (R : It → Hp → Prop) (itv : Value) (s2 : Shared) : Prop :=
  ∃ (it : Addr) (fp : List Addr) (tn : Nat → Heap → Prop) (J : It) (H' : Hp), itv = .ref it ∧ Inv X pins σ H' s2 ∧ Turn X.prog X.w X.K tg J fp it tn ∧ tn 0 s2.heap ∧ (∀ b ∈ fp, FpOk X pins H' b) ∧ R J H'
def PI (X : Cx) (tg iter : Expr) (wi : TI) : Prop :=
  ∀ (pins : List (Addr × Obj)) (s : Shared) (σ : St) (H : Hp) (R : It → Hp → Prop), Inv X pins σ H s → wi σ H R →
    wpAny (model X.prog X.w) X.A (eval iter X.env) (fun v s1 => wpAny (model X.prog X.w) X.A (pyIter v) (PIE X pins σ tg R) X.xe s1) X.xe s

/-- the step ahead of the store is nothing for an iterator that keeps no tuple -/
theorem go_of {M : Model} {A : Around} {E : Value → Shared → Prop} {s : Shared} {tg : Expr} {it : Addr} {u : Value} {o : Obj} {n : String} {vs : Array Value} {Q : Unit → Shared → Prop} (ho : s.heap.get? it = some o) (hc : o.cls = .type n) (hd : o.data = .fields vs)
    (hn : ["enumerate", "zip", "dict_itemiterator", "dict_reverseitemiterator", "odict_iterator", "itertools.zip_longest", "itertools.pairwise"].contains n = false) (hQ : Q () s) : wpAny M A (letOwnedTupleGo tg (.ref it) u) Q E s := by
  unfold letOwnedTupleGo
  cases tg <;> first
    | exact wpAny_pure hQ
    | (cases u <;> first
        | exact wpAny_pure hQ
        | (refine wpAny_bind (wpAny_load ho ?_)
           rw [hc, hd]
           show wpAny M A (if (["enumerate", "zip", "dict_itemiterator", "dict_reverseitemiterator", "odict_iterator", "itertools.zip_longest", "itertools.pairwise"].contains n && vs[0]? == some (rawInt _)) = true then _ else _) Q E s
           rw [if_neg (by intro h; rw [hn, Bool.false_and] at h; cases h)]
           exact wpAny_pure hQ))

/-- the list at a, as it stands at each turn (a loop may append to it) -/
def Itl (K : PySem.W.Frag) (a : Addr) : It :=
  ⟨fun i H => ∃ xs x, SqL K H a xs ∧ xs[i]? = some x, fun i H x H' => H' = H ∧ ∀ xs, SqL K H a xs → xs[i]? = some x, fun i H => ∃ xs, SqL K H a xs ∧ xs.length ≤ i⟩
/-- lo, lo + 1, .. (n of them) -/
def Itr (lo : Int) (n : Nat) : It := ⟨fun i _ => i < n, fun i H x H' => H' = H ∧ x = .int (lo + i), fun i _ => n ≤ i⟩
theorem turn_list {P : Program} {w : World} {K : PySem.W.Frag} {tg : Expr} (a it : Addr) : Turn P w K tg (Itl K a) [it] it (fun i h => h.IsListIter it a i) where
  mem := by simp
  obj := fun i h st b hb => by
    have e : b = it := by simpa using hb
    subst e
    obtain ⟨o, e, c, d⟩ := st
    exact ⟨o, e, fun v z => by rw [d] at z; cases z⟩
  keep := fun i h h' st k => st.at fun o e => k it (by simp) o e
  item := by
    intro X hP hw hK hc i pins s σ H E I hf st hg
    subst hP hw hK
    obtain ⟨xs, x, hq, hx⟩ := hg
    obtain ⟨its, rv, p, hz⟩ := I.list hq
    obtain ⟨u, hu, ru⟩ := rv.get hx
    obtain ⟨f0, f1, f2, f3, f4, f5⟩ := hf it (by simp)
    refine wpAny_pyNext_list_item st p.isList (x := u) (by simpa using hu) fun h' st' sb => ?_
    have I1 : Inv X pins σ H { s with heap := h' } := I.turned (t' := s.toks) (fun b o hb e => (sb.2 b hb).trans e) f0 f1 f3 f4 f5
    obtain ⟨o, e, c, d⟩ := id st'
    exact ⟨u, rfl, go_of (s := { s with heap := h' }) e c d (by decide) ⟨x, H, I1, ru, ⟨rfl, fun ys hy => by rw [I.list_inj hy hq]; exact hx⟩, st', fun b hb => (hf b hb).1⟩⟩
  done := by
    intro X hP hw hK hc i pins s σ H E I hf st hg
    subst hP hw hK
    obtain ⟨xs, hq, hx⟩ := hg
    obtain ⟨its, rv, p, hz⟩ := I.list hq
    obtain ⟨f0, f1, f2, f3, f4, f5⟩ := hf it (by simp)
    have hl := rv.length
    exact wpAny_pyNext_list_end (I.ok.hd hc) st p.isList (by simp; omega) fun h' eb => ⟨rfl, I.turned (t' := s.toks) (fun b o hb e => eb b o hb e) f0 f1 f3 f4 f5⟩
  self := fun _ _ _ _ _ st h => wpAny_pyIter_listiter st h
theorem turn_range {P : Program} {w : World} {K : PySem.W.Frag} {tg : Expr} (it : Addr) (lo : Int) (n : Nat) : Turn P w K tg (Itr lo n) [it] it (fun i h => IsRangeIter h it (lo + (i : Nat) * 1) ((n : Int) - (i : Nat)) 1) where
  mem := by simp
  obj := fun i h st b hb => by
    have e : b = it := by simpa using hb
    subst e
    exact ⟨_, st, fun v z => by
      have z' : Data.fields _ = Data.cell v := z
      cases z'⟩
  keep := fun i h h' st k => k it (by simp) _ st
  item := by
    intro X hP hw hK hc i pins s σ H E I hf st hg
    subst hP hw hK
    obtain ⟨f0, f1, f2, f3, f4, f5⟩ := hf it (by simp)
    have W := Walks.range (prog := X.prog) (w := X.w) (I.ok.hd hc) it lo 1 n
    refine W.item i s _ _ hg st fun v h' tk hv st' kk => ?_
    obtain ⟨t, rfl⟩ := hv
    have I1 : Inv X pins σ H { s with heap := h', toks := tk } := I.turned (fun b o hb e => kk b o (by simpa using hb) e) f0 f1 f3 f4 f5
    refine ⟨_, rfl, go_of (s := { s with heap := h', toks := tk }) (n := "range_iterator") st' rfl rfl (by decide) ⟨.int (lo + i), H, I1, ⟨t, ?_⟩, ⟨rfl, rfl⟩, st', fun b hb => (hf b hb).1⟩⟩
    rw [Int.mul_one]
  done := by
    intro X hP hw hK hc i pins s σ H E I hf st hg
    subst hP hw hK
    obtain ⟨f0, f1, f2, f3, f4, f5⟩ := hf it (by simp)
    exact wpAny_pyNext_range_end (I.ok.hd hc) st (by have : n ≤ i := hg; omega) fun h' eb => ⟨rfl, I.turned (t' := s.toks) (fun b o hb e => eb b o hb e) f0 f1 f3 f4 f5⟩
  self := fun _ _ _ _ _ st h => wpAny_pyIter_rangeiter st h
end L2

namespace L2
open PySem PySem.Spec PyProof.Rows
section
variable {X : Cx} {tg : Expr}
def iList (K : PySem.W.Frag) (tl : TE) : TI := fun σ H R => tl σ H fun x H1 => ∃ a, x = .ref a ∧ (∃ xs, SqL K H1 a xs) ∧ R (Itl K a) H1
theorem pi_list {l : Expr} {tl : TE} (hl : PE X l tl) : PI X tg l (iList X.K tl) := by
  intro pins s σ H R I h
  refine thn (hl pins s σ H _ I h) fun v s1 hw' => ?_
  obtain ⟨x, H1, I1, r1, q1⟩ := hw'
  obtain ⟨a, e, ⟨xs, hq⟩, q⟩ := q1
  subst e
  cases r1
  obtain ⟨its, rv, p, hz⟩ := I1.list hq
  refine wpAny_pyIter_list p.isList ?_
  refine ⟨s1.heap.objs.size, [s1.heap.objs.size], _, _, H1, rfl, I1.kept (t' := s1.toks) fun b o e => Heap.get?_push_of_some _ e, turn_list a _, ⟨_, Heap.get?_push_size _ rfl, rfl, rfl⟩, fun b hb => ?_, q⟩
  have e : b = s1.heap.objs.size := by simpa using hb
  subst e
  exact I1.fpOk (Nat.le_refl _) (I1.hok.fresh (Nat.le_refl _))
/-- a range object just made, walked -/
theorem range_it {pins : List (Addr × Obj)} {σ : St} {H : Hp} {s : Shared} {R : It → Hp → Prop} {E : Value → Shared → Prop} {lo hi : Int} {t u v : Tok} {tk : Nat} (I : Inv X pins σ H s) (h1 : -(2 ^ 62) ≤ lo) (h2 : lo < 2 ^ 62) (h3 : -(2 ^ 62) ≤ hi) (h4 : hi < 2 ^ 62)
    (q : R (Itr lo (hi - lo).toNat) H) : wpAny (model X.prog X.w) X.A (pyIter (.ref s.heap.objs.size)) (PIE X pins σ tg R) E { s with heap := s.heap.push { cls := .type "range", data := .fields #[.int lo t, .int hi u, .int 1 v] }, toks := tk } := by
  refine wpAny_pyIter_range (IsRange.new ..) (small_one h1 h2 h3 h4) ?_
  have I1 : Inv X pins σ H { s with heap := s.heap.push { cls := .type "range", data := .fields #[.int lo t, .int hi u, .int 1 v] }, toks := tk } := I.kept fun b o e => Heap.get?_push_of_some _ e
  refine ⟨(s.heap.push { cls := .type "range", data := .fields #[.int lo t, .int hi u, .int 1 v] }).objs.size, [(s.heap.push { cls := .type "range", data := .fields #[.int lo t, .int hi u, .int 1 v] }).objs.size], _, _, H, rfl,
    I1.kept (t' := tk) fun b o e => Heap.get?_push_of_some _ e, turn_range _ lo (hi - lo).toNat, ?_, fun b hb => ?_, q⟩
  · have e1 : lo + ((0 : Nat) : Int) * 1 = lo := by simp
    have e2 : (((hi - lo).toNat : Nat) : Int) - ((0 : Nat) : Int) = Builtin.Range.rangeSize lo hi 1 := by rw [rangeSize_one]; split <;> omega
    show IsRangeIter _ _ (lo + ((0 : Nat) : Int) * 1) ((((hi - lo).toNat : Nat) : Int) - ((0 : Nat) : Int)) 1
    rw [e1, e2]
    exact Heap.get?_push_size _ rfl
  · have e : b = (s.heap.push { cls := .type "range", data := .fields #[.int lo t, .int hi u, .int 1 v] }).objs.size := by simpa using hb
    subst e
    exact I1.fpOk (Nat.le_refl _) (I1.hok.fresh (Nat.le_refl _))
def iRng1 (ta : TA) : TI := fun σ H R => ta σ H fun vs H1 => ∃ j : Int, vs = [.int j] ∧ -(2 ^ 62) ≤ j ∧ j < 2 ^ 62 ∧ R (Itr 0 j.toNat) H1
def iRng2 (ta : TA) : TI := fun σ H R => ta σ H fun vs H1 => ∃ i j : Int, vs = [.int i, .int j] ∧ (-(2 ^ 62) ≤ i ∧ i < 2 ^ 62 ∧ -(2 ^ 62) ≤ j ∧ j < 2 ^ 62) ∧ R (Itr i (j - i).toNat) H1
theorem pi_range1 {a : Expr} {ta : TA} {p pos : Pos} (hg : Gl X "range") (hm : X.mg "range" = none) (ha : PA X [a] ta) (hs : starEach [a] X.env = [(false, eval a X.env)] := by rfl) : PI X tg (.Call (.Name "range" p) [a] [] pos) (iRng1 ta) := by
  intro pins s σ H R I h
  refine Call_ (ld_blt I hg hm boot_range (PyProof.Rows.callWith_type1 (thn (ha pos pins s σ H _ I h) fun us s1 hw' => ?_) hs rfl))
  obtain ⟨vs, H1, I1, r1, q1⟩ := hw'
  obtain ⟨j, e, q1, q2, q⟩ := q1
  subst e
  cases r1 with
  | cons r rr =>
    cases rr
    obtain ⟨t, rfl⟩ := r
    exact call_range_1 (range_it I1 (by omega) (by omega) q1 q2 (by simpa using q))
theorem pi_range2 {a b : Expr} {ta : TA} {p pos : Pos} (hg : Gl X "range") (hm : X.mg "range" = none) (ha : PA X [a, b] ta) (hs : starEach [a, b] X.env = [(false, eval a X.env), (false, eval b X.env)] := by rfl) (hs2 : starEach [b] X.env = [(false, eval b X.env)] := by rfl) :
    PI X tg (.Call (.Name "range" p) [a, b] [] pos) (iRng2 ta) := by
  intro pins s σ H R I h
  refine Call_ (ld_blt I hg hm boot_range (PyProof.Rows.callWith_type1 (thn (ha pos pins s σ H _ I h) fun us s1 ⟨vs, H1, I1, r1, q1⟩ => ?_) (by rw [hs, hs2]) (by rw [hs2]; rfl)))
  obtain ⟨i, j, e, ⟨q1, q2, q3, q4⟩, q⟩ := q1
  subst e
  cases r1 with
  | cons r rr =>
    cases rr with
    | cons r' rr =>
      cases rr
      obtain ⟨t, rfl⟩ := r
      obtain ⟨t', rfl⟩ := r'
      exact call_range_2 (range_it I1 q1 q2 q3 q4 q)

/-! ### for -/
/-- W: the invariant by the turn and a measure; N: what the body is to reach -/
def tFor (wi : TI) (g : TG) (tb : TS) : TS := fun D σ H => wi σ H fun J H1 => ∃ W : Nat → Nat → St → Hp → Prop, (∃ m, W 0 m σ H1) ∧ ∀ i m σ H, W i m σ H →
  (J.stop i H ∧ D.nx σ H) ∨ (J.go i H ∧ ∃ N : St → Hp → Prop, (∀ σ' H', N σ' H' → ∃ m', m' < m ∧ W (i + 1) m' σ' H') ∧ ∀ x H', J.yld i H x H' → g x σ H' fun σ2 H2 => tb { D with nx := N, ct := N, bk := D.nx } σ2 H2)
/-- the records at fp as they stand -/
def pinsAt (fp : List Addr) (h : Heap) : List (Addr × Obj) := fp.filterMap fun b => (h.get? b).map fun o => (b, o)
theorem mem_pinsAt {fp : List Addr} {h : Heap} {b : Addr} {o : Obj} (hb : b ∈ fp) (e : h.get? b = some o) : (b, o) ∈ pinsAt fp h := List.mem_filterMap.mpr ⟨b, hb, by rw [e]; rfl⟩
theorem of_pinsAt {fp : List Addr} {h : Heap} {p : Addr × Obj} (hp : p ∈ pinsAt fp h) : p.1 ∈ fp ∧ h.get? p.1 = some p.2 := by
  obtain ⟨b, hb, e⟩ := List.mem_filterMap.mp hp
  cases q : h.get? b with
  | none => rw [q] at e; cases e
  | some o =>
    rw [q] at e
    have e' : (b, o) = p := Option.some.inj e
    subst e'
    exact ⟨hb, q⟩
theorem Inv.pinned {pins : List (Addr × Obj)} {σ : St} {H : Hp} {s : Shared} {fp : List Addr} (I : Inv X pins σ H s) (hf : ∀ b ∈ fp, FpOk X pins H b) (ho : ∀ b ∈ fp, ∃ o, s.heap.get? b = some o ∧ ∀ v, o.data ≠ .cell v) : Inv X (pins ++ pinsAt fp s.heap) σ H s :=
  I.pins_of fun p hp => (List.mem_append.mp hp).elim (fun z => I.pin p (List.mem_append_right _ z)) fun z => by
    obtain ⟨hb, e⟩ := of_pinsAt z
    obtain ⟨f0, f1, f2, _⟩ := hf p.1 hb
    obtain ⟨o, e', d⟩ := ho p.1 hb
    rw [e] at e'; cases e'
    exact ⟨e, f0, f1, f2, d⟩
theorem Inv.unpinned {pins pl : List (Addr × Obj)} {σ : St} {H : Hp} {s : Shared} (I : Inv X (pins ++ pl) σ H s) : Inv X pins σ H s := I.pins_of fun p hp => I.pin p (List.mem_append_right _ (List.mem_append_left _ hp))
theorem ps_for {iter : Expr} {body : List Stmt} {wi : TI} {g : TG} {tb : TS} {pos : Pos} (hp : PassesOwn (model X.prog X.w) X.A X.env X.xe) (hc : X.calm = true) (hi : PI X tg iter wi) (hg : PG X tg g) (hb : PSs X body tb)
    (hs : ∀ x, foldedSetIterable iter X.env x = pure x := by intro _; rfl) : PS X (.For tg iter body [] pos) (tFor wi g tb) := by
  intro pins s σ H D I h
  refine wpAny_For (thn (hi pins s σ H _ I h) fun v s1 h1 => thn h1 fun itv s2 h2 => ?_) hs
  obtain ⟨it, fp, tn, J, H2, e, I2, T, st2, f2, W, ⟨m0, w0⟩, turn⟩ := h2
  subst e
  -- what stays true of the iterator's objects through the loop
  have stat : ∀ {H' : Hp}, (∀ b ∈ fp, H' b = none) → ∀ b ∈ fp, FpOk X pins H' b := fun hn b hb => ⟨hn b hb, (f2 b hb).2⟩
  refine codeAny_forLoop_any (fun n s' => ∃ i σ' H', Inv X pins σ' H' s' ∧ tn i s'.heap ∧ (∀ b ∈ fp, H' b = none) ∧ W i n σ' H') ?_ m0 ⟨0, σ, H2, I2, st2, fun b hb => (f2 b hb).1, w0⟩
  rintro n s3 ⟨i, σ3, H3, I3, st3, fr3, w3⟩
  rcases turn i n σ3 H3 w3 with ⟨stop, qn⟩ | ⟨go, N, hN, step⟩
  · refine wpAny_passesOwn hp (thn (T.done X rfl rfl rfl hc i pins s3 σ3 H3 X.xe I3 (stat fr3) st3 stop) fun r s4 ⟨hr, I4⟩ => ?_)
    subst hr
    exact wpAny_execs_nil ⟨σ3, H3, I4, qn⟩
  · refine wpAny_passesOwn hp (thn (T.item X rfl rfl rfl hc i pins s3 σ3 H3 X.xe I3 (stat fr3) st3 go) fun r s4 ⟨u, hr, h4⟩ => ?_)
    subst hr
    refine wpAny_passesOwn hp (thn h4 fun _ s5 hw' => ?_)
    obtain ⟨x, H5, I5, r5, y5, st5, fr5⟩ := hw'
    have I5' := I5.pinned (stat fr5) (T.obj _ _ st5)
    refine wpAny_passesOwn hp (thn (hg _ s5 σ3 H5 x u _ I5' r5 (step x H5 y5)) fun _ s6 hw' => ?_)
    obtain ⟨σ6, H6, I6, q6⟩ := hw'
    refine wpAny_passesOwn hp (thn (hb _ s6 σ6 H6 _ I6 q6) fun f s7 q7 => ?_)
    have again : ∀ {σ7 : St} {H7 : Hp}, Inv X (pins ++ pinsAt fp s5.heap) σ7 H7 s7 → N σ7 H7 → ∃ m, m < n ∧ ∃ i σ' H', Inv X pins σ' H' s7 ∧ tn i s7.heap ∧ (∀ b ∈ fp, H' b = none) ∧ W i m σ' H' := fun {σ7 H7} I7 n7 => by
      obtain ⟨m', hm, w7⟩ := hN σ7 H7 n7
      refine ⟨m', hm, i + 1, σ7, H7, I7.unpinned, T.keep _ _ _ st5 fun b hb o e => (I7.pin (b, o) (List.mem_append_right _ (List.mem_append_right _ (mem_pinsAt hb e)))).1, fun b hb => ?_, w7⟩
      obtain ⟨o, e, d⟩ := T.obj _ _ st5 b hb
      exact (I7.pin (b, o) (List.mem_append_right _ (List.mem_append_right _ (mem_pinsAt hb e)))).2.1
    cases f with
    | next => obtain ⟨σ7, H7, I7, n7⟩ := q7; exact again I7 n7
    | cont => obtain ⟨σ7, H7, I7, n7⟩ := q7; exact again I7 n7
    | brk => obtain ⟨σ7, H7, I7, q7⟩ := q7; exact ⟨σ7, H7, I7.unpinned, q7⟩
    | ret v => obtain ⟨x7, σ7, H7, I7, r7, q7⟩ := q7; exact ⟨x7, σ7, H7, I7.unpinned, r7, q7⟩
end

end L2

namespace L2
open PySem PySem.Spec PyProof.Rows

abbrev R2 := V → V → Hp → VK → Prop
/-- a two-place operation on values: f is binaryOp op, inplaceOp op or compareOp op -/
def OpR (X : Cx) (f : Value → Value → Sem Value) (r : R2) : Prop :=
  ∀ (pins : List (Addr × Obj)) (s : Shared) (σ : St) (H : Hp) (x y : V) (v u : Value) (Q : VK), Inv X pins σ H s → RelV x v → RelV y u → r x y H Q →
    wpAny (model X.prog X.w) X.A (f v u) (EP X pins σ Q) X.xe s
/-- a call of a value that is known (a builtin, a type) with values -/
def CallR (X : Cx) (f : Value) (r : List V → Hp → VK → Prop) : Prop :=
  ∀ (pins : List (Addr × Obj)) (s : Shared) (σ : St) (H : Hp) (xs : List V) (us : List Value) (Q : VK), Inv X pins σ H s → Vals xs us → r xs H Q →
    wpAny (model X.prog X.w) X.A (call f us) (EP X pins σ Q) X.xe s
def tOp (r : R2) (ta tb : TE) : TE := fun σ H Q => ta σ H fun x H1 => tb σ H1 fun y H2 => r x y H2 Q
/-- ints in, under C, and a value out -/
def rI (C : Int → Int → Prop) (g : Int → Int → V) : R2 := fun x y H Q => ∃ i j, x = .int i ∧ y = .int j ∧ C i j ∧ Q (g i j) H
def rI0 (g : Int → Int → V) : R2 := fun x y H Q => ∃ i j, x = .int i ∧ y = .int j ∧ Q (g i j) H
section
variable {X : Cx} {a b c : Expr} {ta tb tc : TE} {pos : Pos}

theorem binT (ha : PE X a ta) (hb : PE X b tb) {pins : List (Addr × Obj)} {s : Shared} {σ : St} {H : Hp} {R : V → V → Hp → Prop} (I : Inv X pins σ H s)
    (h : ta σ H fun x H1 => tb σ H1 fun y H2 => R x y H2) {Q : Value → Shared → Prop} {f : Value → Value → Sem Value}
    (hf : ∀ v u s2 x y H2, Inv X pins σ H2 s2 → RelV x v → RelV y u → R x y H2 → wpAny (model X.prog X.w) X.A (f v u) Q X.xe s2) :
    wpAny (model X.prog X.w) X.A (eval a X.env) (fun v s₁ => wpAny (model X.prog X.w) X.A (eval b X.env) (fun u s₂ => wpAny (model X.prog X.w) X.A (f v u) Q X.xe s₂) X.xe s₁) X.xe s := by
  refine thn (ha pins s σ H _ I h) fun v s1 hw' => ?_
  obtain ⟨x, H1, I1, r1, q1⟩ := hw'
  refine thn (hb pins s1 σ H1 _ I1 q1) fun u s2 hw' => ?_
  obtain ⟨y, H2, I2, r2, q2⟩ := hw'
  exact hf v u s2 x y H2 I2 r1 r2 q2

theorem pe_op {op : Operator} {r : R2} (ho : OpR X (binaryOp op) r) (ha : PE X a ta) (hb : PE X b tb) : PE X (.BinOp a op b pos) (tOp r ta tb) := by
  intro pins s σ H Q I h
  exact wpAny_BinOp (binT ha hb I h fun v u s2 x y H2 I2 rx ry q => ho pins s2 σ H2 x y v u Q I2 rx ry q)
/-! ### ints -/
theorem opI {f : Value → Value → Sem Value} {C : Int → Int → Prop} {g : Int → Int → Int}
    (rule : ∀ (i j : Int) (t u : Tok) (s : Shared) (Q : Value → Shared → Prop) (E : Value → Shared → Prop), C i j → Q (.int (g i j) s.toks) { s with toks := s.toks + 1 } → wpAny (model X.prog X.w) X.A (f (.int i t) (.int j u)) Q E s) :
    OpR X f (rI C fun i j => .int (g i j)) := by
  intro pins s σ H x y v u Q I rx ry h
  obtain ⟨i, j, rfl, rfl, hc, q⟩ := h
  obtain ⟨t, rfl⟩ := rx
  obtain ⟨t', rfl⟩ := ry
  exact rule i j t t' s _ _ hc ⟨.int (g i j), H, I.tok _, ⟨_, rfl⟩, q⟩
theorem opI0 {f : Value → Value → Sem Value} {g : Int → Int → Int}
    (rule : ∀ (i j : Int) (t u : Tok) (s : Shared) (Q : Value → Shared → Prop) (E : Value → Shared → Prop), Q (.int (g i j) s.toks) { s with toks := s.toks + 1 } → wpAny (model X.prog X.w) X.A (f (.int i t) (.int j u)) Q E s) :
    OpR X f (rI0 fun i j => .int (g i j)) := by
  intro pins s σ H x y v u Q I rx ry h
  obtain ⟨i, j, rfl, rfl, q⟩ := h
  obtain ⟨t, rfl⟩ := rx
  obtain ⟨t', rfl⟩ := ry
  exact rule i j t t' s _ _ ⟨.int (g i j), H, I.tok _, ⟨_, rfl⟩, q⟩
theorem opB0 {f : Value → Value → Sem Value} {g : Int → Int → Bool}
    (rule : ∀ (i j : Int) (t u : Tok) (s : Shared) (Q : Value → Shared → Prop) (E : Value → Shared → Prop), Q (.bool (g i j)) s → wpAny (model X.prog X.w) X.A (f (.int i t) (.int j u)) Q E s) :
    OpR X f (rI0 fun i j => .bl (g i j)) := by
  intro pins s σ H x y v u Q I rx ry h
  obtain ⟨i, j, rfl, rfl, q⟩ := h
  obtain ⟨t, rfl⟩ := rx
  obtain ⟨t', rfl⟩ := ry
  exact rule i j t t' s _ _ ⟨.bl (g i j), H, I, rfl, q⟩

def CDiv (i j : Int) : Prop := 0 < j ∧ j < 1073741824
def CPow (i j : Int) : Prop := 0 ≤ j ∧ j ≤ 1000000 ∧ i.natAbs < 2 ^ 64
def CMul (i j : Int) : Prop := (-(2 ^ 64) < i ∧ i < 2 ^ 64) ∨ (-(2 ^ 64) < j ∧ j < 2 ^ 64)
theorem CMul.ok {i j : Int} (h : CMul i j) : IntMulOk i j := by
  rcases h with ⟨h1, h2⟩ | ⟨h1, h2⟩
  · exact .of_left (intBits_le_64 h1 h2)
  · exact .of_right (intBits_le_64 h1 h2)
theorem op_add : OpR X (binaryOp .Add) (rI0 fun i j => .int (i + j)) := opI0 fun _ _ _ _ _ _ _ q => add_int q
theorem op_sub : OpR X (binaryOp .Sub) (rI0 fun i j => .int (i - j)) := opI0 fun _ _ _ _ _ _ _ q => sub_int q
theorem op_mul : OpR X (binaryOp .Mult) (rI CMul fun i j => .int (i * j)) := opI fun _ _ _ _ _ _ _ hc q => mul_int q hc.ok
/-- // by a positive divisor -/
theorem op_fdiv : OpR X (binaryOp .FloorDiv) (rI CDiv fun i j => .int (i / j)) := opI fun i j _ _ _ _ _ hc q => by
  have h1 : (0 : Int) < j := hc.1
  have h2 : j < 1073741824 := hc.2
  exact floordiv_int (by omega) (by rw [Int.fdiv_eq_ediv_of_nonneg i (by omega)]; exact q) (.inl (PyProof.noPylong_small (by omega)))
/-- % by a positive divisor of any size -/
theorem op_mod : OpR X (binaryOp .Mod) (rI (fun _ j => 0 < j) fun i j => .int (i % j)) := opI fun i j _ _ _ _ _ hc q => by
  have h1 : (0 : Int) < j := hc
  exact mod_int' (by omega) (by rw [Int.fmod_eq_emod_of_nonneg i (by omega)]; exact q)
theorem op_pow : OpR X (binaryOp .Pow) (rI CPow fun i j => .int (i ^ j.toNat)) := opI fun _ _ _ _ _ _ _ hc q => pow_int_small hc.1 hc.2.1 hc.2.2 q
end

section
variable {X : Cx} {a b c : Expr} {ta tb tc : TE} {pos : Pos}
theorem op_lt : OpR X (compareOp .Lt) (rI0 fun i j => .bl (decide (i < j))) := opB0 fun _ _ _ _ _ _ _ q => lt_int q
/-- two rules for one operation: by cases -/
theorem OpR.or {f : Value → Value → Sem Value} {r r' : R2} (h : OpR X f r) (h' : OpR X f r') : OpR X f (fun x y H Q => r x y H Q ∨ r' x y H Q) := by
  intro pins s σ H x y v u Q I rx ry q
  rcases q with q | q
  · exact h pins s σ H x y v u Q I rx ry q
  · exact h' pins s σ H x y v u Q I rx ry q

theorem nomark (b : Expr) {op : CmpOp} (h : op ≠ .In := by decide) (h2 : op ≠ .NotIn := by decide) : behindInMarks op b = false := by
  have e1 : (op == CmpOp.In) = false := by cases op <;> first | rfl | exact absurd rfl h
  have e2 : (op == CmpOp.NotIn) = false := by cases op <;> first | rfl | exact absurd rfl h2
  cases b <;> simp [behindInMarks, e1, e2]
/-- a reading of a value as a test -/
def tTest (t : TE) : TT := fun σ H Q => t σ H fun x H' => ∃ k, x = .bl k ∧ Q k H'
theorem pt_cmpR {op : CmpOp} {r : R2} (ho : OpR X (compareOp op) r) (ha : PE X a ta) (hb : PE X b tb) (hm : behindInMarks op b = false) : PT X (.Compare a [op] [b] pos) (tTest (tOp r ta tb)) := by
  intro pins s σ H Q I h
  refine wpAny_isTrue_Compare1 (thn (ha pins s σ H _ I h) fun v s1 ⟨x, H1, I1, r1, q1⟩ => thn (hb pins s1 σ H1 _ I1 q1) fun u s2 ⟨y, H2, I2, r2, q2⟩ =>
    thn (ho pins s2 σ H2 x y v u _ I2 r1 r2 q2) fun c s3 hw' => ?_) hm
  obtain ⟨z, H3, I3, r3, k, e, q3⟩ := hw'
  subst e
  cases r3
  exact wpAny_truthy_bool ⟨H3, I3, q3⟩
theorem line63 : (sizeLine : Nat) < 2 ^ 63 := by rw [sizeLine_eq]; decide
theorem op_add_str : OpR X (binaryOp .Add) (fun x y H Q => ∃ i j, x = .str i ∧ y = .str j ∧ i.length + j.length ≤ sizeLine ∧ Q (.str (i ++ j)) H) := by
  intro pins s σ H x y v u Q I rx ry h
  obtain ⟨i, j, rfl, rfl, hz, q⟩ := h
  obtain ⟨t, rfl⟩ := rx
  obtain ⟨t', rfl⟩ := ry
  exact add_str (fun t' tk => ⟨.str (i ++ j), H, I.tok _, ⟨_, rfl⟩, q⟩) hz
/-! ### scalar builtins, by CallR -/
theorem vals1 {x : V} {us : List Value} (r : Vals [x] us) : ∃ u, us = [u] ∧ RelV x u := by
  cases r with
  | cons r1 r2 => cases r2; exact ⟨_, rfl, r1⟩
theorem vals2 {x y : V} {us : List Value} (r : Vals [x, y] us) : ∃ u w', us = [u, w'] ∧ RelV x u ∧ RelV y w' := by
  cases r with
  | cons r1 r2 =>
    cases r2 with
    | cons r3 r4 => cases r4; exact ⟨_, _, rfl, r1, r3⟩
/-- len of a str, a bytes, a list, a tuple -/
def LenV (K : PySem.W.Frag) (x : V) (H : Hp) (n : Nat) : Prop :=
  match x with
  | .str y => y.length ≤ sizeLine ∧ n = y.length
  | .byt y => y.size ≤ sizeLine ∧ n = y.size
  | .ref p => (∃ xs, SqL K H p xs ∧ n = xs.length) ∨ ∃ xs, SqT K H p xs ∧ n = xs.length
  | _ => False
theorem call_len : CallR X (.builtin "len") (fun xs H Q => ∃ x n, xs = [x] ∧ LenV X.K x H n ∧ Q (.int n) H) := by
  intro pins s σ H xs us Q I r h
  obtain ⟨x, n, rfl, e, q⟩ := h
  obtain ⟨u, rfl, rx⟩ := vals1 r
  have hl := line63
  have hs : sizeLine = 16777216 := sizeLine_eq
  cases x with
  | str y =>
    obtain ⟨t, rfl⟩ := rx
    obtain ⟨hy, e'⟩ : y.length ≤ sizeLine ∧ n = y.length := e
    subst e'
    exact len_str (by omega) ⟨.int _, H, I.tok _, ⟨_, rfl⟩, q⟩
  | byt y =>
    obtain ⟨t, rfl⟩ := rx
    obtain ⟨hy, e'⟩ : y.size ≤ sizeLine ∧ n = y.size := e
    subst e'
    exact PySem.W.len_bytes (by omega) ⟨.int _, H, I.tok _, ⟨_, rfl⟩, q⟩
  | ref p =>
    cases rx
    have e' : (∃ xs, SqL X.K H p xs ∧ n = xs.length) ∨ ∃ xs, SqT X.K H p xs ∧ n = xs.length := e
    rcases e' with ⟨xs, hx, e'⟩ | ⟨xs, hx, e'⟩
    · subst e'
      obtain ⟨its, r', pl, hz⟩ := I.list hx
      have hlen := r'.length
      exact Calls.call_len_list pl.isList (by simp only [List.size_toArray]; omega) ⟨.int xs.length, H, I.tok _, ⟨_, by simp only [List.size_toArray]; rw [hlen]⟩, q⟩
    · subst e'
      obtain ⟨its, r', pl, hz⟩ := I.tuple hx
      have hlen := r'.length
      exact len_tuple pl (by simp only [List.size_toArray]; omega) ⟨.int xs.length, H, I.tok _, ⟨_, by simp only [List.size_toArray]; rw [hlen]⟩, q⟩
  | _ => exact (show False from e).elim
end
end L2

namespace L2
open PySem PySem.Spec PyProof.Rows

/-! ### an instance, its attributes a map -/
structure ObjM (h : Heap) (x dx C : Addr) (mA : Str → Option Value) : Prop where
  obj : h.get? x = some (PySem.W.instObj C dx)
  ns : h.Ns1 dx mA
  ne : dx ≠ x

theorem lookIn_ns {h : Heap} {dx : Addr} {mA : Str → Option Value} (n : h.Ns1 dx mA) : ∃ od, h.get? dx = some od ∧ ∀ name, PySem.W.lookIn name od = some (mA name) := by
  obtain ⟨o, es, ep, ho, hd, hk, _, hm⟩ := n
  refine ⟨o, ho, fun name => ?_⟩
  have e := hm name
  unfold nsFind findBy at e
  rw [← Array.find?_toList] at e
  unfold PySem.W.lookIn
  rw [hd]
  dsimp only
  split
  · rename_i y q
    rw [q] at e
    exact congrArg some e
  · rename_i q
    rw [q] at e
    have a : es.toList.any (·.refKey) = false := by
      rw [List.any_eq_false]
      intro y hy
      obtain ⟨z, t, hkey⟩ := hk y (Array.mem_toList_iff.mp hy)
      simp [DictEntry.refKey, hkey]
    have a' : ¬ es.toList.any (·.refKey) = true := by rw [a]; exact Bool.false_ne_true
    rw [if_neg a']
    exact congrArg some e

theorem ObjM.look {h : Heap} {x dx C : Addr} {mA : Str → Option Value} (I : ObjM h x dx C mA) : ∃ od, PySem.W.InstAt h x (PySem.W.instObj C dx) C (some od) ∧ ∀ name, PySem.W.lookIn name od = some (mA name) :=
  let ⟨od, ho, hl⟩ := lookIn_ns I.ns
  ⟨od, ⟨I.obj, rfl, rfl, ho⟩, hl⟩

section
variable {prog : Program} {w : World} {A : Around} {E : Value → Shared → Prop} {s : Shared} {K : PySem.W.Frag} {x dx C f : Addr} {mA : Str → Option Value} {name : Str} {v : Value}

theorem get_map {expr : Bool} {Q : Value → Shared → Prop} (X : K.In s.heap) (I : ObjM s.heap x dx C mA) (hg : PySem.W.plainGet K C name = true) (hh : PySem.W.hasDictIn K C = true)
    (ha : PySem.W.findIn K (.ref C) name = some none) (hv : mA name = some v) (hv' : PySem.W.handedIn v = true) (h : Q v { s with toks := s.toks + 1 }) :
    wpAny (model prog w) A (getAttr (.ref x) name expr) Q E s := by
  obtain ⟨od, J, hl⟩ := I.look
  exact PySem.W.get_value X J (PySem.W.plainGet_of hg).1 (PySem.W.findObj_own hh ha rfl (by rw [hl, hv])) hv' h

theorem get_meth {pl : Sem Bool} {Q : Value × List Value → Shared → Prop} (X : K.In s.heap) (I : ObjM s.heap x dx C mA) (hg : PySem.W.plainGet K C name = true)
    (hf : PySem.W.findIn K (.ref C) name = some (some (.ref f))) (ht : PySem.W.isFn K (.ref f) = true) (hv : mA name = none) (h : Q (.ref f, [.ref x]) s) :
    wpAny (model prog w) A (getMethod (.ref x) name pl) Q E s := by
  obtain ⟨od, J, hl⟩ := I.look
  exact PySem.W.method_fn X J (PySem.W.plainGet_of hg).1 (PySem.W.plainGet_of hg).2 hf (beq_iff_eq.mp ht) (by show (PySem.W.lookIn name od).map (·.isSome) = some false; rw [hl, hv]; rfl) h

theorem set_map {ns : List Str} {Q : Unit → Shared → Prop} (X : K.In s.heap) (I : ObjM s.heap x dx C mA)
    (hs : PySem.W.findIn K (.ref C) "__setattr__" = some (some (.builtin "object.__setattr__"))) (hp : PySem.W.plainOver K C = true) (ht : PySem.W.takerIn K C name = some none) (hh : PySem.W.hasDictIn K C = true)
    (hw : PySem.Within mA ns) (hsz : ns.length ≤ sizeLine)
    (h : ∀ h', ObjM h' x dx C (fun y => if y = name then some v else mA y) → Heap.SameBut dx s.heap h' → Q () { s with heap := h', toks := s.toks + 2 }) :
    wpAny (model prog w) A (setAttr (.ref x) name v) Q E s := by
  obtain ⟨od, J, hl⟩ := I.look
  refine PySem.W.set_plain X J hs (PySem.W.osa_open (s := { s with toks := s.toks + 1 }) (r := none) X J hp ht fun b => ?_)
  obtain ⟨cd, hc, hd'⟩ := PySem.W.any_some hh
  have hx : s.heap.get? x = some ⟨.ref C, some dx, .plain, #[]⟩ := I.obj
  refine wpAny_bind (wpAny_pure (wpAny_bind (wpAny_bind (wpAny_loadPart hx (wpAny_bind (PySem.W.Looks.here (s := { s with toks := s.toks + 1 }) (PySem.W.looks_clsIn X hc) ?_))))))
  rw [hd']
  refine wpAny_pure (a := some dx) (wpAny_bind (wpAny_pure (wpAny_bind ?_)))
  refine wpAny_nsSet1 (s := { s with toks := s.toks + 1 }) I.ns fun h' hn2 hs2 => ?_
  obtain ⟨oD, esD, epD, hoD, hdD, hcD⟩ := hn2.count (PySem.Within.cons name v hw)
  refine wpAny_bind (wpAny_lookBehind hoD (by rw [hdD]; exact pastItsLine_dict (Nat.le_trans hcD (by rw [List.length_cons]; omega))) ?_)
  exact wpAny_pure (h _ ⟨(hs2.2 _ (Ne.symm I.ne)).trans I.obj, hn2, I.ne⟩ hs2)

/-- C(..): the dict at the heap's end, the instance behind it; then its __init__ -/
theorem make_map {R : Result → Shared → Prop} {vs : List Value} {kw : List (Str × Value)} (X : K.In s.heap) (hm : PySem.W.makesIn K C = true)
    (hi : PySem.W.findIn K (.ref C) "__init__" = some (some (.ref f))) (hf : PySem.W.typeIn K (.ref f) = some (.type "function"))
    (h : codeAny (model prog w) (A.under (.builtin "type.__call__" ⟨.ref C :: vs, kw⟩)) (.call (.ref f) ⟨.ref (s.heap.objs.size + 1) :: vs, kw⟩) (PySem.W.InitBack (s.heap.objs.size + 1) R)
      { s with heap := (s.heap.push PySem.W.emptyDict).push (PySem.W.instObj C s.heap.objs.size) }) :
    codeAny (model prog w) A (.call (.ref C) ⟨vs, kw⟩) R s := by
  obtain ⟨hh, g, d, t, os⟩ := s
  exact PySem.W.make_core (PySem.W.makes_of X hm) (PySem.W.looks_findIn X hi) (fun self => PySem.W.bind_fn X self hf) (.inl rfl) h
end

/-! ### the attributes as a list of pairs -/
def putF (f : Str) (v : V) : List (Str × V) → List (Str × V)
  | [] => [(f, v)]
  | (g, x) :: r => if g = f then (g, v) :: r else (g, x) :: putF f v r
theorem lookup_putF (f g : Str) (v : V) : ∀ fs : List (Str × V), (putF f v fs).lookup g = if g = f then some v else fs.lookup g
  | [] => by
    show List.lookup g [(f, v)] = _
    by_cases h : g = f
    · have hb : (g == f) = true := beq_iff_eq.mpr h
      simp only [List.lookup, hb, if_pos h]
    · have hb : (g == f) = false := beq_eq_false_iff_ne.mpr h
      simp only [List.lookup, hb, if_neg h]
  | (k, x) :: r => by
    have ih := lookup_putF f g v r
    rw [show putF f v ((k, x) :: r) = (if k = f then (k, v) :: r else (k, x) :: putF f v r) from rfl]
    by_cases hk : k = f
    · rw [if_pos hk]
      by_cases h : g = k
      · have hb : (g == k) = true := beq_iff_eq.mpr h
        simp only [List.lookup, hb, if_pos (h.trans hk)]
      · have hb : (g == k) = false := beq_eq_false_iff_ne.mpr h
        simp only [List.lookup, hb, if_neg (fun e : g = f => h (e.trans hk.symm))]
    · rw [if_neg hk]
      by_cases h : g = k
      · have hb : (g == k) = true := beq_iff_eq.mpr h
        simp only [List.lookup, hb, if_neg (fun e : g = f => hk (h.symm.trans e))]
      · have hb : (g == k) = false := beq_eq_false_iff_ne.mpr h
        simp only [List.lookup, hb]
        exact ih
theorem keys_putF (f : Str) (v : V) : ∀ fs : List (Str × V), f ∈ (putF f v fs).map (·.1) ∧ ∀ g, g ∈ fs.map (·.1) → g ∈ (putF f v fs).map (·.1)
  | [] => ⟨by simp [putF], fun g h => by simp at h⟩
  | (k, x) :: r => by
    obtain ⟨i1, i2⟩ := keys_putF f v r
    rw [show putF f v ((k, x) :: r) = (if k = f then (k, v) :: r else (k, x) :: putF f v r) from rfl]
    by_cases hk : k = f
    · rw [if_pos hk]
      subst hk
      exact ⟨by simp, fun g h => by simpa using h⟩
    · rw [if_neg hk]
      refine ⟨?_, fun g h => ?_⟩
      · rw [List.map_cons]
        exact List.mem_cons_of_mem _ i1
      · rw [List.map_cons] at h ⊢
        rcases List.mem_cons.mp h with e | e
        · exact List.mem_cons.mpr (.inl e)
        · exact List.mem_cons_of_mem _ (i2 g e)
theorem length_putF (f : Str) (v : V) : ∀ fs : List (Str × V), (putF f v fs).length ≤ fs.length + 1
  | [] => by simp [putF]
  | (k, x) :: r => by
    have ih := length_putF f v r
    rw [show putF f v ((k, x) :: r) = (if k = f then (k, v) :: r else (k, x) :: putF f v r) from rfl]
    by_cases hk : k = f
    · rw [if_pos hk, List.length_cons, List.length_cons]; omega
    · rw [if_neg hk, List.length_cons, List.length_cons]; omega

theorem RelO.some_of {v : V} {o : Option Value} (r : RelO (some v) o) : ∃ u, o = some u ∧ RelV v u := by
  cases o with
  | none => exact (show False from r).elim
  | some u => exact ⟨u, rfl, r⟩
theorem RelO.none_of {o : Option Value} (r : RelO none o) : o = none := by
  cases o with
  | none => rfl
  | some u => exact (show False from r).elim
theorem handed_of {v : V} {u : Value} (r : RelV v u) : PySem.W.handedIn u = true := by
  cases v with
  | non => cases (show u = Value.none from r); rfl
  | bl b => cases (show u = Value.bool b from r); rfl
  | int i => obtain ⟨t, e⟩ := (show ∃ t, u = Value.int i t from r); cases e; rfl
  | str x => obtain ⟨t, e⟩ := (show ∃ t, u = Value.str x t from r); cases e; rfl
  | byt b => obtain ⟨t, e⟩ := (show ∃ t, u = Value.bytes b t from r); cases e; rfl
  | flt b => obtain ⟨t, e⟩ := (show ∃ t, u = Value.float b t from r); cases e; rfl
  | ref a => cases (show u = Value.ref a from r); rfl
  | ty n => cases (show u = Value.type n from r); rfl

section
variable {P : Program} {w : World} {H H' : Hp} {h h' : Heap} {a C dx : Addr} {fs fs' : List (Str × V)}
theorem ins_get (hok : HOk P w H h) (e : H a = some (.ins C dx fs)) : ∃ mA, ObjM h a dx C mA ∧ (∀ f, RelO (fs.lookup f) (mA f)) ∧ PySem.Within mA (fs.map (·.1)) ∧ fs.length ≤ 1000 ∧ H dx = some (.own a) := by
  obtain ⟨d, z, ne, ob, mA, n, r, q⟩ := (show ObjOk P w H h a (.ins C dx fs) from hok a _ e)
  exact ⟨mA, ⟨ob, n, ne⟩, r, q, z, d⟩
end

/-! ### what of the text a class must have -/
structure Cls (K : PySem.W.Frag) (C : Addr) : Prop where
  pg : PySem.W.plainGet K C Str.empty = true
  hd : PySem.W.hasDictIn K C = true
  po : PySem.W.plainOver K C = true
  sa : PySem.W.findIn K (.ref C) "__setattr__" = some (some (.builtin "object.__setattr__"))
theorem Cls.get {K : PySem.W.Frag} {C : Addr} (c : Cls K C) (f : Str) : PySem.W.plainGet K C f = true := c.pg
/-- no class of it has the name -/
def NoAttr (K : PySem.W.Frag) (C : Addr) (f : Str) : Prop := PySem.W.findIn K (.ref C) f = some none
theorem NoAttr.taker {K : PySem.W.Frag} {C : Addr} {f : Str} (n : NoAttr K C f) : PySem.W.takerIn K C f = some none := by
  unfold PySem.W.takerIn
  rw [show PySem.W.findIn K (.ref C) f = some none from n]
  rfl
/-- a constant of the class -/
structure Con (K : PySem.W.Frag) (C : Addr) (f : Str) (v : V) (u : Value) : Prop where
  at_ : PySem.W.findIn K (.ref C) f = some (some u)
  rel : RelV v u
  get : PySem.W.specialIn K u "__get__" = some none
  cp : PySem.W.copiedNames.contains f = false
/-- a method: a plain def of the class or of one above it -/
structure Meth (K : PySem.W.Frag) (C : Addr) (m : Str) (f : Addr) : Prop where
  at_ : PySem.W.findIn K (.ref C) m = some (some (.ref f))
  fn : PySem.W.isFn K (.ref f) = true
  kp : PySem.W.keepIn K (.ref f) = true

section
variable {X : Cx} {pins : List (Addr × Obj)} {σ : St} {H : Hp} {s : Shared} {a C dx : Addr} {fs : List (Str × V)} {f : Str} {v : V} {A : Around} {E : Value → Shared → Prop}

theorem getattr_ok {b : Bool} {Q : Value → Shared → Prop} (I : Inv X pins σ H s) (e : H a = some (.ins C dx fs)) (c : Cls X.K C) (n : NoAttr X.K C f) (l : fs.lookup f = some v)
    (h : ∀ u s', Inv X pins σ H s' → RelV v u → Q u s') : wpAny (model X.prog X.w) A (getAttr (.ref a) f b) Q E s := by
  obtain ⟨mA, O, r, _, _, _⟩ := ins_get I.hok e
  obtain ⟨u, hu, ru⟩ := RelO.some_of (v := v) (o := mA f) (by rw [← l]; exact r f)
  exact get_map I.kIn O (c.get f) c.hd n hu (handed_of ru) (h u _ (I.tok _) ru)

theorem getmeth_ok {m : Str} {g : Addr} {pl : Sem Bool} {Q : Value × List Value → Shared → Prop} (I : Inv X pins σ H s) (e : H a = some (.ins C dx fs)) (c : Cls X.K C) (k : Meth X.K C m g) (l : fs.lookup m = none)
    (h : Q (.ref g, [.ref a]) s) : wpAny (model X.prog X.w) A (getMethod (.ref a) m pl) Q E s := by
  obtain ⟨mA, O, r, _, _, _⟩ := ins_get I.hok e
  have hn : mA m = none := RelO.none_of (by rw [← l]; exact r m)
  exact get_meth I.kIn O (c.get m) k.at_ k.fn hn h

theorem setattr_ok {y : V} {u : Value} {Q : Unit → Shared → Prop} (I : Inv X pins σ H s) (e : H a = some (.ins C dx fs)) (c : Cls X.K C) (n : NoAttr X.K C f) (hl : fs.length < 1000) (ry : RelV y u)
    (h : ∀ s', Inv X pins σ (upd H a (.ins C dx (putF f y fs))) s' → Q () s') : wpAny (model X.prog X.w) A (setAttr (.ref a) f u) Q E s := by
  obtain ⟨mA, O, r, wi, _, ho⟩ := ins_get I.hok e
  have hz : (fs.map (·.1)).length ≤ sizeLine := by rw [List.length_map, sizeLine_eq]; omega
  refine set_map I.kIn O c.sa c.po n.taker c.hd wi hz fun h' O' sb => h _ ?_
  have hd : ∃ o, h'.get? dx = some o := let ⟨o, _, _, e', _⟩ := O'.ns; ⟨o, e'⟩
  refine I.write (x := a) (e := dx) (by rw [e]; exact True.intro) (.inr ho) (fun b q hb z => (sb.2 b hb).trans z) hd ?_
  refine ⟨by rw [upd_ne O.ne]; exact ho, ?_, O.ne, O'.obj, _, O'.ns, fun g => ?_, fun g hg => ?_⟩
  · have := length_putF f y fs; omega
  · show RelO ((putF f y fs).lookup g) (if g = f then some u else mA g)
    rw [lookup_putF]
    by_cases q : g = f
    · rw [if_pos q, if_pos q]; exact ry
    · rw [if_neg q, if_neg q]; exact r g
  · by_cases q : g = f
    · rw [q]; exact (keys_putF f y fs).1
    · refine (keys_putF f y fs).2 g (wi g fun z => hg ?_)
      show (if g = f then some u else mA g) = none
      rw [if_neg q]; exact z

/-- a new instance, tracked, without attributes -/
theorem Inv.made (I : Inv X pins σ H s) : Inv X pins σ (upd (upd H s.heap.objs.size (.own (s.heap.objs.size + 1))) (s.heap.objs.size + 1) (.ins C s.heap.objs.size []))
    { s with heap := (s.heap.push PySem.W.emptyDict).push (PySem.W.instObj C s.heap.objs.size) } := by
  have e1 : (s.heap.push PySem.W.emptyDict).get? s.heap.objs.size = some PySem.W.emptyDict := Heap.get?_push_size s.heap rfl
  have e2 : ((s.heap.push PySem.W.emptyDict).push (PySem.W.instObj C s.heap.objs.size)).get? (s.heap.objs.size + 1) = some (PySem.W.instObj C s.heap.objs.size) := by
    have := Heap.get?_push_size (s.heap.push PySem.W.emptyDict) (o := PySem.W.instObj C s.heap.objs.size) rfl
    rwa [Heap.size_push] at this
  have e3 : (s.heap.push PySem.W.emptyDict).Ns s.heap.objs.size (fun _ => none) := ⟨PySem.W.emptyDict, #[], _, e1, rfl, (fun e he => absurd he (by simp)), fun _ => rfl⟩
  have I1 := I.laid (a := s.heap.objs.size) (o := .own (s.heap.objs.size + 1)) (h' := s.heap.push PySem.W.emptyDict) (t' := s.toks) (fun b u q => Heap.get?_push_of_some _ q) (Nat.le_refl _) ⟨_, e1⟩
  refine I1.laid (a := s.heap.objs.size + 1) (o := .ins C s.heap.objs.size []) (t' := s.toks) (fun b u q => Heap.get?_push_of_some _ q) (Nat.le_of_eq (Heap.size_push _ _)) ?_
  have ne : s.heap.objs.size ≠ s.heap.objs.size + 1 := Nat.ne_of_lt (Nat.lt_succ_self _)
  refine ⟨by rw [upd_ne ne, upd_same], Nat.zero_le _, ne, e2, fun _ => none, (Heap.Ns1.of_empty e3).at fun o q => Heap.get?_push_of_some _ q, fun _ => True.intro, fun y hy => absurd rfl hy⟩

/-- e.f where nothing but the object is asked: through attributeBase (super) and the last hold -/
theorem attr_of {prog : Program} {w : World} {env : Env} {e : Expr} {f : Str} {pos : Pos} {s : Shared} {Q : Value → Shared → Prop} (hb : attributeBase e f env (eval e env) = eval e env)
    (h : wpAny (model prog w) A (eval e env) (fun o s₁ => wpAny (model prog w) A (getAttr o f true) Q E s₁) E s) : wpAny (model prog w) A (eval (.Attribute e f pos) env) Q E s :=
  Attribute_any_ h (by rw [arm_eval_Attribute, hb])
end

/-! ### readings and rules -/
/-- e.f, an attribute of the instance -/
def tFld (K : PySem.W.Frag) (ta : TE) (f : Str) : TE := fun σ H Q => ta σ H fun x H1 => ∃ a C dx fs v, x = .ref a ∧ H1 a = some (.ins C dx fs) ∧ Cls K C ∧ NoAttr K C f ∧ fs.lookup f = some v ∧ Q v H1
/-- e.f = value -/
def sFld (K : PySem.W.Frag) (ta tv : TE) (f : Str) : TS := fun D σ H => tv σ H fun y H1 => ta σ H1 fun x H2 => ∃ a C dx fs, x = .ref a ∧ H2 a = some (.ins C dx fs) ∧ Cls K C ∧ NoAttr K C f ∧ fs.length < 1000 ∧
  D.nx σ (upd H2 a (.ins C dx (putF f y fs)))
/-- an augmented operator on two values -/
def InOp (X : Cx) (op : Operator) (rd : V → V → Hp → VK → Prop) : Prop :=
  ∀ (pins : List (Addr × Obj)) (s : Shared) (σ : St) (H : Hp) (x y : V) (u v : Value) (Q : VK), Inv X pins σ H s → RelV x u → RelV y v → rd x y H Q → wpAny (model X.prog X.w) X.A (inplaceOp op u v) (EP X pins σ Q) X.xe s
/-- e.f op= value -/
def sFldAug (K : PySem.W.Frag) (ta tv : TE) (rd : V → V → Hp → VK → Prop) (f : Str) : TS := fun D σ H => ta σ H fun x H1 => ∃ a C dx fs v, x = .ref a ∧ H1 a = some (.ins C dx fs) ∧ Cls K C ∧ NoAttr K C f ∧ fs.lookup f = some v ∧
  tv σ H1 fun y H2 => rd v y H2 fun z H3 => ∃ dx' fs', H3 a = some (.ins C dx' fs') ∧ fs'.length < 1000 ∧ D.nx σ (upd H3 a (.ins C dx' (putF f z fs')))

section
variable {X : Cx} {o e value : Expr} {f : Str} {pos pos' tpos : Pos} {ta tv : TE}
theorem pe_fld (he : PE X e ta) (hb : attributeBase e f X.env (eval e X.env) = eval e X.env) : PE X (.Attribute e f pos) (tFld X.K ta f) := by
  intro pins s σ H Q I h
  refine attr_of hb (thn (he pins s σ H _ I h) fun u s1 hw' => ?_)
  obtain ⟨x, H1, I1, rx, a, C, dx, fs, v, ex, ea, c, n, l, q⟩ := hw'
  subst ex
  obtain rfl : u = Value.ref a := rx
  exact getattr_ok I1 ea c n l fun u' s2 I2 ru => ⟨v, H1, I2, ru, q⟩
theorem ps_fld (ha : PE X o ta) (hv : PE X value tv) (hs : swapsWith value (some (.Attribute o f pos')) pos.line X.env = pure false) : PS X (.Assign [.Attribute o f pos'] value pos) (sFld X.K ta tv f) := by
  intro pins s σ H D I h
  refine plainObj_wpAny_Assign_Attribute (thn (hv pins s σ H _ I h) fun u s1 ⟨y, H1, I1, ry, q⟩ => thn (ha pins s1 σ H1 _ I1 q) fun ov s2 hw' => ?_) hs
  obtain ⟨x, H2, I2, rx, a, C, dx, fs, ex, ea, c, n, l, q2⟩ := hw'
  subst ex
  obtain rfl : ov = Value.ref a := rx
  exact setattr_ok I2 ea c n l ry fun s3 I3 => ⟨σ, _, I3, q2⟩
theorem ps_fldaug {op : Operator} {rd : V → V → Hp → VK → Prop} (ha : PE X o ta) (hv : PE X value tv) (hop : InOp X op rd) : PS X (.AugAssign (.Attribute o f tpos) op value pos) (sFldAug X.K ta tv rd f) := by
  intro pins s σ H D I h
  refine wpAny_AugAssign_AttributeAny (thn (ha pins s σ H _ I h) fun ov s1 hw' => ?_)
  obtain ⟨x, H1, I1, rx, a, C, dx, fs, v, ex, ea, c, n, l, q⟩ := hw'
  subst ex
  obtain rfl : ov = Value.ref a := rx
  refine getattr_ok I1 ea c n l fun u s2 I2 ru => thn (hv pins s2 σ H1 _ I2 q) fun w3 s3 ⟨y, H2, I3, ry, q3⟩ => thn (hop pins s3 σ H2 v y u w3 _ I3 ru ry q3) fun w4 s4 hw' => ?_
  obtain ⟨z, H3, I4, rz, dx', fs', ea', l', q4⟩ := hw'
  exact setattr_ok I4 ea' c n l' rz fun s5 I5 => ⟨σ, _, I5, q4⟩
def rAdd : V → V → Hp → VK → Prop := fun x y H Q => ∃ i j, x = .int i ∧ y = .int j ∧ Q (.int (i + j)) H
theorem in_add : InOp X .Add rAdd := by
  rintro pins s σ H x y u v Q I rx ry ⟨i, j, rfl, rfl, q⟩
  obtain ⟨t, rfl⟩ := (show ∃ t, u = Value.int i t from rx)
  obtain ⟨t', rfl⟩ := (show ∃ t', v = Value.int j t' from ry)
  exact PyProof.Rows.iadd_int ⟨.int (i + j), H, I.tok _, ⟨_, rfl⟩, q⟩
end

/-! ### isinstance -/
section
variable {X : Cx} {pins : List (Addr × Obj)} {σ : St} {H : Hp} {s : Shared} {A : Around} {E : Value → Shared → Prop} {Q : Value → Shared → Prop} {c : Value} {b : Bool}
/-- the type of a value, as the fragment's deciders take it; for an instance its class -/
inductive TyOf (K : PySem.W.Frag) (H : Hp) : V → Value → Prop where
  | non : TyOf K H .non (.type "NoneType")
  | bl (x : Bool) : TyOf K H (.bl x) (.type "bool")
  | int (i : Int) : TyOf K H (.int i) (.type "int")
  | str (x : Str) : TyOf K H (.str x) (.type "str")
  | flt (x : UInt64) : TyOf K H (.flt x) (.type "float")
  | lst {a : Addr} {xs : List V} (e : H a = some (.lst xs)) : TyOf K H (.ref a) (.type "list")
  | frz {a : Addr} {o : Obj} {xs : List V} (e : H a = some (.frz o (.lst xs))) : TyOf K H (.ref a) (.type "list")
  | tup {a : Addr} {xs : List V} (e : H a = some (.tup xs)) : TyOf K H (.ref a) (.type "tuple")
  | dK {a : Addr} {kvs : List (Key × V)} (e : H a = some (.dK kvs)) : TyOf K H (.ref a) (.type "dict")
  | dT {a : Addr} {kvs : List (List Key × V)} (e : H a = some (.dT kvs)) : TyOf K H (.ref a) (.type "dict")
  | ins {a C dx : Addr} {fs : List (Str × V)} (e : H a = some (.ins C dx fs)) (cl : Cls K C) (ha : PySem.W.findIn K (.ref C) "__class__" = some (some (.builtin "object.__class__")))
      (hn : PySem.W.specialIn K (.builtin "object.__class__") "__get__" = some (some (.builtin "getset_descriptor.__get__"))) (htk : PySem.W.takesIn K (.builtin "object.__class__") = some true)
      (hm : PySem.W.mroIn K C (.type "object") = some true) : TyOf K H (.ref a) (.ref C)
/-- isinstance(x, c) for one class c, a built-in or an own one: kitOne's answer -/
theorem isinst_ok {x : V} {u t : Value} (I : Inv X pins σ H s) (rx : RelV x u) (ty : TyOf X.K H x t) (e : PySem.W.kitOne X.K t c = some b) (h : ∀ tk, Q (.bool b) { s with toks := tk }) :
    wpAny (model X.prog X.w) A (call (.builtin "isinstance") [u, c]) Q E s := by
  cases ty with
  | non => cases (show u = Value.none from rx); exact PySem.W.kia_one PySem.W.kitx_none I.kIn True.intro e (fun z => nomatch z) h
  | bl y => cases (show u = Value.bool y from rx); exact PySem.W.kia_one PySem.W.kitx_bool I.kIn True.intro e (fun z => nomatch z) h
  | int i => obtain ⟨t, q⟩ := (show ∃ t, u = Value.int i t from rx); cases q; exact PySem.W.kia_one PySem.W.kitx_int I.kIn True.intro e (fun z => nomatch z) h
  | str y => obtain ⟨t, q⟩ := (show ∃ t, u = Value.str y t from rx); cases q; exact PySem.W.kia_one PySem.W.kitx_str I.kIn True.intro e (fun z => nomatch z) h
  | flt y => obtain ⟨t, q⟩ := (show ∃ t, u = Value.float y t from rx); cases q; exact PySem.W.kia_one PySem.W.kitx_float I.kIn True.intro e (fun z => nomatch z) h
  | @lst a xs ea =>
    cases (show u = Value.ref a from rx)
    obtain ⟨_, _, n, _, h1⟩ := (show ObjOk X.prog X.w H s.heap a (.lst xs) from I.hok a _ ea)
    exact PySem.W.kia_one PySem.W.kitx_list I.kIn ⟨_, h1, rfl⟩ e (fun z => nomatch z) h
  | @frz a ob xs ea =>
    cases (show u = Value.ref a from rx)
    obtain ⟨_, _, _, n, _, h1⟩ := (show ObjOk X.prog X.w H s.heap a (.frz ob (.lst xs)) from I.hok a _ ea)
    exact PySem.W.kia_one PySem.W.kitx_list I.kIn ⟨_, h1, rfl⟩ e (fun z => nomatch z) h
  | @tup a xs ea =>
    cases (show u = Value.ref a from rx)
    obtain ⟨_, _, _, p⟩ := (show ObjOk X.prog X.w H s.heap a (.tup xs) from I.hok a _ ea)
    obtain ⟨o, h1, h2, _⟩ := p
    exact PySem.W.kia_one PySem.W.kitx_tuple I.kIn ⟨o, h1, h2⟩ e (fun z => nomatch z) h
  | @dK a kvs ea =>
    cases (show u = Value.ref a from rx)
    obtain ⟨_, _, vs, _, p⟩ := (show ObjOk X.prog X.w H s.heap a (.dK kvs) from I.hok a _ ea)
    obtain ⟨o, es, ep, h1, h2, _⟩ := p
    exact PySem.W.kia_one PySem.W.kitx_dict I.kIn ⟨o, h1, h2.1⟩ e (fun z => nomatch z) h
  | @dT a kvs ea =>
    cases (show u = Value.ref a from rx)
    obtain ⟨_, _, xs, _, o, es, ep, h1, h2, _⟩ := (show ObjOk X.prog X.w H s.heap a (.dT kvs) from I.hok a _ ea)
    exact PySem.W.kia_one PySem.W.kitx_dict I.kIn ⟨o, h1, h2.1⟩ e (fun z => nomatch z) h
  | @ins a C dx fs ea cl ha hn htk hm =>
    cases (show u = Value.ref a from rx)
    obtain ⟨mA, O, _⟩ := ins_get I.hok ea
    obtain ⟨od, J, _⟩ := O.look
    exact PySem.W.kia_one (PySem.W.kitx_own (cl.get _) cl.hd ha hn htk hm) I.kIn J e (fun z => nomatch z) h
end
end L2

namespace L2
open PySem PySem.Spec PyProof.Rows

/-! ### room -/
structure Room (k : Nat) (A : Around) : Prop where
  hd : A.handled = none
  dp : A.depth + 3 * k + 5 < recursionLimit
  un : A.units + 16 * k + 200 < cLine
  gd : A.guards = some [] := by rfl
theorem Room.mono {j k : Nat} {A : Around} (r : Room k A) (h : j ≤ k) : Room j A := ⟨r.hd, by have := r.dp; omega, by have := r.un; omega, r.gd⟩
theorem Room.deeper {k : Nat} {A : Around} (r : Room (k + 1) A) (env : Env) : Room k (A.deeper env) :=
  ⟨r.hd, by have := r.dp; show A.depth + 1 + 3 * k + 5 < _; omega, by have := r.un; show A.units + 3 + 16 * k + 200 < _; omega, r.gd⟩
theorem make_depth {A : Around} {C : Addr} {us : List Value} {kw : List (Str × Value)} : (A.under (.builtin "type.__call__" ⟨.ref C :: us, kw⟩)).depth = A.depth + 1 := by
  first | rfl | simp [Around.under, Code.weight, Code.isCreation, Code.isGuard, Code.isCaller, Code.frames, Code.isFrame, guardIds]
theorem make_units {A : Around} {C : Addr} {us : List Value} {kw : List (Str × Value)} : (A.under (.builtin "type.__call__" ⟨.ref C :: us, kw⟩)).units = A.units + 1 := by
  first | rfl | simp [Around.under, Code.cUnits, Code.frames, Code.isFrame]
theorem Room.make {k : Nat} {A : Around} (r : Room (k + 1) A) (C : Addr) (us : List Value) (kw : List (Str × Value)) : Room k (A.under (.builtin "type.__call__" ⟨.ref C :: us, kw⟩)) :=
  ⟨r.hd, by have := r.dp; rw [make_depth]; omega, by have := r.un; rw [make_units]; omega, by first | exact r.gd | simpa [Around.under, Code.isGuard, Code.frames, Code.isFrame, guardIds] using r.gd⟩
theorem Room.depth {k : Nat} {A : Around} (r : Room k A) : A.depth < recursionLimit := by have := r.dp; omega
theorem Room.units {k : Nat} {A : Around} (r : Room k A) : A.units + 64 < cLine := by have := r.un; omega
/-! ### argument lists and displays -/
def tNil : TA := fun _ H Q => Q [] H
def tCons (ta : TE) (tr : TA) : TA := fun σ H Q => ta σ H fun x H1 => tr σ H1 fun xs H2 => Q (x :: xs) H2
section
variable {X : Cx} {e : Expr} {es : List Expr} {te : TE} {t : TA} {pos : Pos}
theorem pa_nil : PA X [] tNil := fun _ _ _ _ H Q I h => Calls.spliced_nil ⟨[], H, I, .nil, h⟩
theorem pa_cons (ha : PE X e te) (hr : PA X es t) (hs : starEach (e :: es) X.env = (false, eval e X.env) :: starEach es X.env := by rfl) : PA X (e :: es) (tCons te t) := by
  intro pos pins s σ H Q I h
  rw [hs]
  show wpAny _ _ (spliced ((false, eval e X.env) :: backTo pos (starEach es X.env))) _ _ s
  refine Calls.spliced_cons (thn (ha pins s σ H _ I h) fun u s1 hw' => ?_)
  obtain ⟨x, H1, I1, r1, q1⟩ := hw'
  exact thn (hr pos pins s1 σ H1 _ I1 q1) fun us s2 ⟨xs, H2, I2, r2, q2⟩ => ⟨x :: xs, H2, I2, .cons r1 r2, q2⟩

/-- a tuple, a list of written items -/
def tTup (t : TA) : TE := fun σ H Q => t σ H fun xs H1 => xs.length ≤ sizeLine ∧ ∀ p, H1 p = none → Q (.ref p) (upd H1 p (.tup xs))
def tLst (t : TA) : TE := fun σ H Q => t σ H fun xs H1 => xs.length ≤ sizeLine ∧ ∀ p, H1 p = none → Q (.ref p) (upd H1 p (.lst xs))
theorem pe_tup {x1} (h : PA X es t) : PE X (.Tuple es x1 pos) (tTup t) := by
  intro pins s σ H Q I hq
  refine wpAny_Tuple_spliced (thn (h pos pins s σ H _ I hq) fun us s1 ⟨xs, H1, I1, r, z, q⟩ => ⟨by rw [← r.length]; exact z, ?_⟩)
  have hf : H1 s1.heap.objs.size = none := I1.hok.fresh (Nat.le_refl _)
  refine ⟨.ref s1.heap.objs.size, upd H1 s1.heap.objs.size (.tup xs), I1.laid (t' := s1.toks) (fun b u e => Heap.get?_push_of_some _ e) (Nat.le_refl _) ?_, rfl, q _ hf⟩
  exact ⟨z, us, r, ⟨_, Heap.get?_push_size _ rfl, rfl, _, rfl⟩⟩
theorem pe_lst (h : PA X es t) : PE X (.List es pos) (tLst t) := by
  intro pins s σ H Q I hq
  refine wpAny_List_spliced (thn (h pos pins s σ H _ I hq) fun us s1 ⟨xs, H1, I1, r, z, q⟩ => ⟨by rw [← r.length]; exact z, ?_⟩)
  have hf : H1 s1.heap.objs.size = none := I1.hok.fresh (Nat.le_refl _)
  refine ⟨.ref s1.heap.objs.size, upd H1 s1.heap.objs.size (.lst xs), I1.laid (t' := s1.toks) (fun b u e => Heap.get?_push_of_some _ e) (Nat.le_refl _) ?_, rfl, q _ hf⟩
  exact ⟨z, us, 0, r, Heap.get?_push_size _ rfl⟩
end

/-! ### what a def promises -/
/-- a def's promise: the bound arguments in the parameters' order, the heap, the wanted end, the wanted exception -/
abbrev Sp := List V → Hp → VK → XK → Prop
/-- how an exception lies behind a call (file 08 gives it): the callers' frames, abstract heap and state ahead of the call, the wish, the exception, the state -/
abbrev CXT := List Env → Hp → Shared → XK → Value → Shared → Prop

/-- the state at a call -/
structure Env0 (P : Program) (w : World) (K : PySem.W.Frag) (mg : Str → Option Value) (base : Heap) (A : Around) (outer : List Env) (s : Shared) (H : Hp) : Prop where
  frames : A.frames = some outer
  mod : Mod K mg base
  bs : ∀ b o, base.get? b = some o → s.heap.get? b = some o ∧ H b = none
  bsz : base.objs.size ≤ s.heap.objs.size
  funs : s.heap.FunFrames base outer
  frf : ∀ b ∈ frs outer, H b = none
  hok : HOk P w H s.heap
  bare : AllBare s.gens
/-- a call's end -/
def CE (outer : List Env) (P : Program) (w : World) (H : Hp) (s : Shared) (Q : VK) (u : Value) (s' : Shared) : Prop :=
  ∃ v H', s'.os = s.os ∧ AllBare s'.gens ∧ Un (frs outer) [] H H' s.heap s'.heap ∧ HOk P w H' s'.heap ∧ RelV v u ∧ Q v H'
def CR (CX : CXT) (outer : List Env) (P : Program) (w : World) (H : Hp) (s : Shared) (Q : VK) (E : XK) (r : Result) (s' : Shared) : Prop :=
  match r with
  | .ok (.ret u) => CE outer P w H s Q u s'
  | .ok _ => False
  | .error e => CX outer H s E e s'
structure FnOk (P : Program) (w : World) (K : PySem.W.Frag) (mg : Str → Option Value) (base : Heap) (CX : CXT) (k : Nat) (f : Addr) (fd : FuncData) (ps : List Str) (sp : Sp) : Prop where
  len : ∀ vs H Q E, sp vs H Q E → vs.length = ps.length
  run : ∀ (A : Around) (outer : List Env) (s : Shared) (H : Hp) (args : Args) (us : List Value) (vs : List V) (Q : VK) (E : XK), Room k A → Env0 P w K mg base A outer s H → BindsTo s fd args (ps.zip us) → Vals vs us → sp vs H Q E →
    codeAny (model P w) A (.call (.ref f) args) (CR CX outer P w H s Q E) s
theorem FnOk.mono {P : Program} {w : World} {K : PySem.W.Frag} {mg : Str → Option Value} {base : Heap} {CX : CXT} {j k : Nat} {f : Addr} {fd : FuncData} {ps : List Str} {sp : Sp} (F : FnOk P w K mg base CX j f fd ps sp) (h : j ≤ k) :
    FnOk P w K mg base CX k f fd ps sp := ⟨F.len, fun A outer s H args us vs Q E hr => F.run A outer s H args us vs Q E (hr.mono h)⟩
/-- a weaker promise -/
theorem FnOk.imp {P : Program} {w : World} {K : PySem.W.Frag} {mg : Str → Option Value} {base : Heap} {CX : CXT} {k : Nat} {f : Addr} {fd : FuncData} {ps : List Str} {sp sp' : Sp} (F : FnOk P w K mg base CX k f fd ps sp)
    (h : ∀ vs H Q E, sp' vs H Q E → sp vs H Q E) : FnOk P w K mg base CX k f fd ps sp' :=
  ⟨fun vs H Q E q => F.len vs H Q E (h _ _ _ _ q), fun A outer s H args us vs Q E hr he hb hv hs => F.run A outer s H args us vs Q E hr he hb hv (h _ _ _ _ hs)⟩

theorem Env0.make {P : Program} {w : World} {K : PySem.W.Frag} {mg : Str → Option Value} {base : Heap} {A : Around} {outer : List Env} {s : Shared} {H : Hp} (e : Env0 P w K mg base A outer s H) (C : Addr) (us : List Value) (kw : List (Str × Value)) :
    Env0 P w K mg base (A.under (.builtin "type.__call__" ⟨.ref C :: us, kw⟩)) outer s H := ⟨by first | exact e.frames | (simpa [Around.under, Code.envs, Code.isFrame, pushEnvs] using e.frames), e.mod, e.bs, e.bsz, e.funs, e.frf, e.hok, e.bare⟩
section
variable {X : Cx} {pins : List (Addr × Obj)} {σ : St} {H : Hp} {s s' : Shared}
/-- from a body: what a callee wants -/
theorem Inv.env0 (I : Inv X pins σ H s) : Env0 X.prog X.w X.K X.mg X.base X.A X.stack s H :=
  ⟨I.ok.frames, I.ok.mod, I.bs, Nat.le_trans I.ok.bsz I.sz, I.stack, I.stkFree, I.hok, I.bare⟩
/-- behind a call -/
theorem Inv.after {Q : VK} {u : Value} (I : Inv X pins σ H s) (h : CE X.stack X.prog X.w H s Q u s') : EP X pins σ Q u s' := by
  obtain ⟨v, H', os, bare, un, hok, r, q⟩ := h
  obtain ⟨hh, g, d, t, os'⟩ := s'
  obtain rfl : os' = s.os := os
  exact ⟨v, H', I.call (h' := hh) (g' := g) (d' := d) (t' := t) (ch := []) un hok bare (fun b z => absurd z (by simp)), r, q⟩
end

/-! ### calls -/
/-- f(..): the written arguments, then the defaults dvs; E: what is wanted of an exception -/
def tCall (sp : Sp) (dvs : List V) (E : XK) (t : TA) : TE := fun σ H Q => t σ H fun vs H1 => sp (vs ++ dvs) H1 Q E
/-- o.m(..) of an instance of the class at C -/
def tMeth (C : Addr) (m : Str) (sp : Sp) (dvs : List V) (E : XK) (ta : TE) (t : TA) : TE := fun σ H Q => ta σ H fun x H1 => ∃ a dx fs, x = .ref a ∧ H1 a = some (.ins C dx fs) ∧ fs.lookup m = none ∧
  t σ H1 fun vs H2 => sp (x :: (vs ++ dvs)) H2 Q E
/-- C(..): a new instance and its dict, then __init__ -/
def tMake (C : Addr) (sp : Sp) (dvs : List V) (E : XK) (t : TA) : TE := fun σ H Q => t σ H fun vs H1 => ∀ x dx, H1 x = none → H1 dx = none → dx ≠ x →
  sp (.ref x :: (vs ++ dvs)) (upd (upd H1 dx (.own x)) x (.ins C dx [])) (fun v H2 => v = .non ∧ Q (.ref x) H2) E

/-- how the parameters are bound: us the positional arguments, kw the keywords' values by name, ds the defaults that fill up -/
def Binds (K : PySem.W.Frag) (fd : FuncData) (ps : List Str) (ds : List Value) : Prop :=
  ∀ (s : Shared) (us : List Value), K.In s.heap → (us ++ ds).length = ps.length → BindsTo s fd ⟨us, []⟩ (ps.zip (us ++ ds))
/-- every parameter is given -/
theorem Binds.all {K : PySem.W.Frag} {fd : FuncData} {ps : List Str} (h : ∀ us : List Value, us.length = ps.length → bindArgs fd ⟨us, []⟩ = pure (ps.zip us)) : Binds K fd ps [] := fun s us _ hl => by
  rw [List.append_nil] at hl ⊢
  exact .of_eq (h us hl)

/-- an exception of a callee reaches what this body wants of exceptions -/
def Passes (CX : CXT) (X : Cx) (E : XK) : Prop := ∀ (pins : List (Addr × Obj)) (σ : St) (H : Hp) (s : Shared) (e : Value) (s' : Shared), Inv X pins σ H s → CX X.stack H s E e s' → X.xe e s'

section
variable {X : Cx} {CX : CXT} {k : Nat} {f C : Addr} {fd : FuncData} {ps : List Str} {sp : Sp} {dvs : List V} {ds : List Value} {E : XK} {x m : Str} {p pos apos : Pos} {e o : Expr} {es : List Expr} {ta : TE} {t : TA}

/-- the callee runs -/
theorem run_fn {pins : List (Addr × Obj)} {σ : St} {H : Hp} {s : Shared} {Q : VK} {us : List Value} {vs : List V} (F : FnOk X.prog X.w X.K X.mg X.base CX k f fd ps sp) (hr : Room k X.A) (hb : Binds X.K fd ps ds) (hd : Vals dvs ds) (hx : Passes CX X E)
    (I : Inv X pins σ H s) (r : Vals vs us) (h : sp (vs ++ dvs) H Q E) : wpAny (model X.prog X.w) X.A (call (.ref f) us) (EP X pins σ Q) X.xe s := by
  have r2 : Vals (vs ++ dvs) (us ++ ds) := r.append hd
  have hl : (us ++ ds).length = ps.length := by rw [← r2.length]; exact F.len _ _ _ _ h
  refine wpAny_call (codeAny_mono (F.run X.A X.stack s H ⟨us, []⟩ (us ++ ds) (vs ++ dvs) Q E hr I.env0 (hb s us I.kIn hl) r2 h) fun r s' hq => ?_)
  cases r with
  | error e => exact hx pins σ H s e s' I hq
  | ok fl =>
    cases fl with
    | ret u => exact I.after hq
    | next => exact False.elim hq
    | brk => exact False.elim hq
    | cont => exact False.elim hq

theorem pe_call (F : FnOk X.prog X.w X.K X.mg X.base CX k f fd ps sp) (hr : Room k X.A) (hg : Gl X x) (hm : X.mg x = some (.ref f)) (hk : PySem.W.keepIn X.K (.ref f) = true) (hb : Binds X.K fd ps ds) (hd : Vals dvs ds) (hx : Passes CX X E)
    (ha : PA X (e :: es) t) (hdb : (x == ("__debug__" : Str)) = false := by decide) (he : starEach (e :: es) X.env = (false, eval e X.env) :: starEach es X.env := by rfl) (hpl : (backTo pos (starEach es X.env)).any (·.1) = false := by rfl) :
    PE X (.Call (.Name x p) (e :: es) [] pos) (tCall sp dvs E t) := by
  intro pins s σ H Q I h
  refine wpAny_Call_Name_kw (ld_glob I hg hm ?_ hdb)
  refine PySem.W.callWith_K (h₀ := X.base) I.ok.mod.kin hk (thn (ha pos pins s σ H _ I h) fun us s1 ⟨vs, H1, I1, r, q⟩ => ⟨I1.kIn, ?_⟩) he hpl
  exact run_fn F hr hb hd hx I1 r q
/-- o.m() -/
theorem pe_meth0 {pl : Sem Bool} (he : PE X o ta) (c : Cls X.K C) (hm : Meth X.K C m f) (F : FnOk X.prog X.w X.K X.mg X.base CX k f fd ps sp) (hr : Room k X.A) (hb : Binds X.K fd ps ds) (hd : Vals dvs ds) (hx : Passes CX X E)
    (ht : eval (.Call (.Attribute o m apos) [] [] pos) X.env = (do
      let ov ← eval o X.env
      standAt apos.atName
      let (f, first) ← holding [ov] (getMethod ov m pl)
      callWith pos f first (backTo pos (starEach [] X.env)) (backToKw pos (keywordEach [] X.env))) := by rfl) :
    PE X (.Call (.Attribute o m apos) [] [] pos) (tMeth C m sp dvs E ta tNil) := by
  intro pins s σ H Q I h
  refine PySem.W.methodCall_KW (pl := pl) (thn (he pins s σ H _ I h) fun u s1 hw' => ?_) ht
  obtain ⟨x, H1, I1, rx, a, dx, fs, ex, ea, l, q⟩ := hw'
  subst ex
  obtain rfl : u = Value.ref a := rx
  refine getmeth_ok I1 ea c hm l ?_
  exact PySem.W.callWith_K0 (first := [.ref a]) I1.kIn hm.kp (run_fn (us := [.ref a]) (vs := [.ref a]) F hr hb hd hx I1 (.cons rfl .nil) q)

/-- what a class must have to be made -/
structure Mk (K : PySem.W.Frag) (C f : Addr) : Prop where
  makes : PySem.W.makesIn K C = true
  init : PySem.W.findIn K (.ref C) "__init__" = some (some (.ref f))
  fn : PySem.W.isFn K (.ref f) = true
  kp : PySem.W.keepIn K (.ref C) = true

theorem run_make {pins : List (Addr × Obj)} {σ : St} {H : Hp} {s : Shared} {Q : VK} {us : List Value} {vs : List V} (M : Mk X.K C f) (F : FnOk X.prog X.w X.K X.mg X.base CX k f fd ps sp) (hr : Room (k + 1) X.A) (hb : Binds X.K fd ps ds) (hd : Vals dvs ds)
    (hx : Passes CX X E) (I : Inv X pins σ H s) (r : Vals vs us)
    (h : ∀ x dx, H x = none → H dx = none → dx ≠ x → sp (.ref x :: (vs ++ dvs)) (upd (upd H dx (.own x)) x (.ins C dx [])) (fun v H2 => v = .non ∧ Q (.ref x) H2) E) :
    wpAny (model X.prog X.w) X.A (call (.ref C) us) (EP X pins σ Q) X.xe s := by
  have hq := h (s.heap.objs.size + 1) s.heap.objs.size (I.hok.fresh (Nat.le_succ _)) (I.hok.fresh (Nat.le_refl _)) (Nat.ne_of_lt (Nat.lt_succ_self _))
  have I2 := Inv.made (C := C) I
  have r2 : Vals (V.ref (s.heap.objs.size + 1) :: (vs ++ dvs)) (Value.ref (s.heap.objs.size + 1) :: (us ++ ds)) := .cons rfl (r.append hd)
  have hl : (Value.ref (s.heap.objs.size + 1) :: us ++ ds).length = ps.length := by
    have e := r2.length
    rw [F.len _ _ _ _ hq] at e
    exact e.symm
  refine wpAny_call (make_map (f := f) I.kIn M.makes M.init (beq_iff_eq.mp M.fn) (codeAny_mono (F.run _ X.stack _ _ ⟨Value.ref (s.heap.objs.size + 1) :: us, []⟩ (Value.ref (s.heap.objs.size + 1) :: (us ++ ds)) _ _ E (hr.make C us [])
    (I2.env0.make C us []) (hb _ (Value.ref (s.heap.objs.size + 1) :: us) I2.kIn hl) r2 hq) fun r s' hq' => ?_))
  cases r with
  | error e => exact hx pins σ _ _ e s' I2 hq'
  | ok fl =>
    cases fl with
    | ret u =>
      obtain ⟨v, H', I3, rv, ev, q3⟩ := I2.after hq'
      subst ev
      exact ⟨rv, ⟨V.ref (s.heap.objs.size + 1), H', I3, rfl, q3⟩⟩
    | next => exact False.elim hq'
    | brk => exact False.elim hq'
    | cont => exact False.elim hq'
theorem pe_make (M : Mk X.K C f) (F : FnOk X.prog X.w X.K X.mg X.base CX k f fd ps sp) (hr : Room (k + 1) X.A) (hg : Gl X x) (hm : X.mg x = some (.ref C)) (hb : Binds X.K fd ps ds) (hd : Vals dvs ds) (hx : Passes CX X E)
    (ha : PA X (e :: es) t) (hdb : (x == ("__debug__" : Str)) = false := by decide) (he : starEach (e :: es) X.env = (false, eval e X.env) :: starEach es X.env := by rfl) (hpl : (backTo pos (starEach es X.env)).any (·.1) = false := by rfl) :
    PE X (.Call (.Name x p) (e :: es) [] pos) (tMake C sp dvs E t) := by
  intro pins s σ H Q I h
  refine wpAny_Call_Name_kw (ld_glob I hg hm ?_ hdb)
  refine PySem.W.callWith_K (h₀ := X.base) I.ok.mod.kin M.kp (thn (ha pos pins s σ H _ I h) fun us s1 ⟨vs, H1, I1, r, q⟩ => ⟨I1.kIn, ?_⟩) he hpl
  exact run_make M F hr hb hd hx I1 r q
end

section
variable {X : Cx} {CX : CXT} {k : Nat} {f C : Addr} {fd : FuncData} {ps ks : List Str} {sp : Sp} {E : XK} {x m : Str} {p pos apos kpos : Pos} {e o : Expr} {es : List Expr} {kws : List Keyword} {te ta : TE} {t tk : TA} {nm : Option Str}
/-- how a call with keywords binds: g puts the positional values us and the keywords' values ws (names ks) in the parameters' order, defaults among them -/
structure KBinds (K : PySem.W.Frag) (fd : FuncData) (ps ks : List Str) (g : List Value → List Value → List Value) (gV : List V → List V → List V) : Prop where
  to : ∀ (s : Shared) (us ws : List Value), K.In s.heap → (g us ws).length = ps.length → BindsTo s fd ⟨us, ks.zip ws⟩ (ps.zip (g us ws))
  rel : ∀ {vs : List V} {us : List Value} {zs : List V} {ws : List Value}, Vals vs us → Vals zs ws → Vals (gV vs zs) (g us ws)
variable {g : List Value → List Value → List Value} {gV : List V → List V → List V}
end

/-! ### a def's body keeps its promise -/
/-- names: the parameters first -/
structure FnScope (N P : List Str) (sc : Scope) : Prop where
  kind : sc.kind = .function
  co : sc.isCoroutine = false
  gen : sc.isGenerator = false
  nd : N.Nodup
  pre : N.take P.length = P
  par : ∀ x ∈ P, sc.names.lookup x = some .local ∨ sc.names.lookup x = some .cell
  nofree : ∀ y ∈ sc.names, y.2 ≠ .free

theorem bindL_out {kindOf : Str → Option NameKind} {x : Str} : ∀ {binds : List (Str × Value)} {m : Str → Option Value}, (∀ v, (x, v) ∉ binds) → bindL kindOf binds m x = m x
  | [], _, _ => rfl
  | (n, v) :: r, m, h => by
    unfold bindL
    rw [bindL_out fun w hw => h w (List.mem_cons_of_mem _ hw)]
    split
    · have : x ≠ n := by rintro rfl; exact h v List.mem_cons_self
      simp [this]
    · rfl
theorem bindC_out {kindOf : Str → Option NameKind} {x : Str} : ∀ {binds : List (Str × Value)} {m : Str → Option Value}, (∀ v, (x, v) ∉ binds) → bindC kindOf binds m x = m x
  | [], _, _ => rfl
  | (n, v) :: r, m, h => by
    unfold bindC
    rw [bindC_out fun w hw => h w (List.mem_cons_of_mem _ hw)]
    split
    · rfl
    · have : x ≠ n := by rintro rfl; exact h v List.mem_cons_self
      simp [this]
theorem bindL_get {kindOf : Str → Option NameKind} {x : Str} {v : Value} : ∀ {P : List Str} {vs : List Value} {i : Nat} {m : Str → Option Value}, P.Nodup → P[i]? = some x → vs[i]? = some v → kindOf x = some .local →
    bindL kindOf (P.zip vs) m x = some v
  | [], _, _, _, _, h, _, _ => by simp at h
  | _ :: _, [], _, _, _, _, h, _ => by simp at h
  | p :: P, w :: vs, 0, m, nd, h1, h2, hk => by
    simp at h1 h2; subst h1; subst h2
    show bindL kindOf ((p, w) :: P.zip vs) m p = _
    unfold bindL
    rw [bindL_out fun v hv => (List.nodup_cons.mp nd).1 (List.of_mem_zip hv).1, if_pos hk]
    simp
  | p :: P, w :: vs, i + 1, m, nd, h1, h2, hk => by
    show bindL kindOf ((p, w) :: P.zip vs) m x = _
    unfold bindL
    exact bindL_get (i := i) (List.nodup_cons.mp nd).2 (by simpa using h1) (by simpa using h2) hk
theorem bindC_get {kindOf : Str → Option NameKind} {x : Str} {v : Value} : ∀ {P : List Str} {vs : List Value} {i : Nat} {m : Str → Option Value}, P.Nodup → P[i]? = some x → vs[i]? = some v → kindOf x ≠ some .local →
    bindC kindOf (P.zip vs) m x = some v
  | [], _, _, _, _, h, _, _ => by simp at h
  | _ :: _, [], _, _, _, _, h, _ => by simp at h
  | p :: P, w :: vs, 0, m, nd, h1, h2, hk => by
    simp at h1 h2; subst h1; subst h2
    show bindC kindOf ((p, w) :: P.zip vs) m p = _
    unfold bindC
    rw [bindC_out fun v hv => (List.nodup_cons.mp nd).1 (List.of_mem_zip hv).1, if_neg hk]
    simp
  | p :: P, w :: vs, i + 1, m, nd, h1, h2, hk => by
    show bindC kindOf ((p, w) :: P.zip vs) m x = _
    unfold bindC
    exact bindC_get (i := i) (List.nodup_cons.mp nd).2 (by simpa using h1) (by simpa using h2) hk

/-- the names' values at the entry -/
def start (N : List Str) (vs : List V) : St := vs.map some ++ List.replicate (N.length - vs.length) none

/-- the context of a def's body, at its entry; an exception leaves the frame, then lies as CX says -/
def cxOf (CX : CXT) (P : Program) (w : World) (K : PySem.W.Frag) (mg : Str → Option Value) (base : Heap) (N : List Str) (qual : Str) (scope : Scope) (f : Addr) (cd : Value) (A : Around) (outer : List Env) (s : Shared) (H : Hp) (E : XK) : Cx where
  prog := P
  w := w
  K := K
  mg := mg
  base := base
  A := A.deeper (envOfC qual scope s.heap.objs.size f cd)
  N := N
  s₀ := s
  H₀ := H
  env := envOfC qual scope s.heap.objs.size f cd
  outer := outer
  stack := envOfC qual scope s.heap.objs.size f cd :: outer
  ex := []
  calm := true
  fn := fun _ => true
  pn := []
  xe := fun e s' => wpAny (model P w) (A.deeper (envOfC qual scope s.heap.objs.size f cd)) (leaving (envOfC qual scope s.heap.objs.size f cd) e) (fun _ s'' => CX outer H s E e s'') (fun e' s'' => CX outer H s E e' s'') s'

theorem cell_has {sc : Scope} {n : Nat} {x : Str} (h : sc.names.lookup x = some .cell) : ∃ c, (cellsFrom n sc.names []).lookup x = some c := by
  have q := PySem.W.cellsFrom_some sc.names n [] (.inl h)
  exact Option.isSome_iff_exists.mp q

theorem inv_start {CX : CXT} {P : Program} {w : World} {K : PySem.W.Frag} {mg : Str → Option Value} {base : Heap} {N ps : List Str} {qual : Str} {scope : Scope} {f : Addr} {cd : Value} {A : Around} {outer : List Env} {s s1 : Shared} {H : Hp} {E : XK} {us : List Value} {vs : List V}
    (S : FnScope N ps scope) (hd : A.handled = none) (e0 : Env0 P w K mg base A outer s H) (hl : vs.length = ps.length) (r : Vals vs us)
    (x : InCallC s s.heap.objs.size (bindL (envOfC qual scope s.heap.objs.size f cd).kindOf (ps.zip us) fun _ => none) (cellsFrom (s.heap.objs.size + 1) scope.names []) (bindC (envOfC qual scope s.heap.objs.size f cd).kindOf (ps.zip us) fun _ => none) s1) :
    Inv (cxOf CX P w K mg base N qual scope f cd A outer s H E) [] (start N vs) H s1 := by
  have hpl : ps.length ≤ N.length := by have := congrArg List.length S.pre; rw [List.length_take] at this; omega
  obtain ⟨h1, tk, rfl, hk⟩ := x.done
  have noA : ∀ b : Addr, b ∉ (cxOf CX P w K mg base N qual scope f cd A outer s H E).ex := fun b z => absurd (show b ∈ ([] : List Addr) from z) (by simp)
  refine ⟨⟨e0.mod, S.kind, rfl, rfl, Nat.le_refl _, fun y z c h1 h2 => ?_, fun y hy => ?_, fun y c _ h => ?_, fun _ => hd, Around.frames_deeper e0.frames, .inr ⟨rfl, rfl⟩, fun b z => absurd z (noA b), e0.bs, e0.bsz, fun b _ _ => noA b, fun b z => absurd z (noA b), e0.funs, e0.frf⟩,
    rfl, e0.bare, Un.kept hk, ⟨_, x.toInCall.ns, fun i y v h1 h2 h3 => ?_⟩, fun y c h => ⟨_, x.cell y c h⟩, e0.hok.fresh (Nat.le_refl _), fun y c h => ?_, fun p hp => absurd (show p ∈ ([] : List (Addr × Obj)) from hp) (by simp), e0.hok.kept hk, ?_⟩
  · exact name_of_addr x.apart (PySem.mem_of_lookup h1) (PySem.mem_of_lookup h2)
  · have hy : scope.names.lookup y = some .cell ∨ scope.names.lookup y = some .free := hy
    rcases hy with hy | hy
    · exact cell_has hy
    · exact absurd rfl (S.nofree _ (PySem.mem_of_lookup hy))
  · exact Nat.le_of_lt (x.above y c (PySem.mem_of_lookup h))
  · have hi : i < vs.length := by
      unfold start at h2
      by_cases hi : i < vs.length
      · exact hi
      · rw [List.getElem?_append_right (by simpa using hi)] at h2
        rw [List.getElem?_replicate] at h2
        split at h2 <;> cases h2
    have ha : vs[i]? = some v := by
      unfold start at h2
      rw [List.getElem?_append_left (by simpa using hi), List.getElem?_map] at h2
      cases e : vs[i]? with
      | none => rw [e] at h2; cases h2
      | some a => rw [e] at h2; cases h2; rfl
    obtain ⟨u, hu, rv⟩ := r.get ha
    have hp : ps[i]? = some y := by
      rw [← S.pre, List.getElem?_take_of_lt (by omega)]; exact h1
    have ndP : ps.Nodup := by rw [← S.pre]; exact S.nd.sublist (List.take_sublist _ _)
    refine ⟨u, rv, ?_⟩
    rcases S.par y (List.mem_of_getElem? hp) with k | k
    · exact .inl ⟨k, bindL_get ndP hp hu k⟩
    · obtain ⟨c, e⟩ := cell_has (n := s.heap.objs.size + 1) k
      refine .inr ⟨.inl k, c, e, ?_⟩
      have q := x.cell y c e
      rw [bindC_get ndP hp hu (by show scope.names.lookup y ≠ _; rw [k]; decide)] at q
      exact q
  · exact .inl (e0.hok.fresh (Nat.le_of_lt (x.above y c (PySem.mem_of_lookup h))))
  · unfold start
    show _ = N.length
    rw [List.length_append, List.length_map, List.length_replicate]
    omega

/-- THE RULE: a def (or a method) of the text, by its body. The body's reading t is chosen for each entry; it is run at the parameters' values -/
theorem fn_of {CX : CXT} {P : Program} {w : World} {K : PySem.W.Frag} {mg : Str → Option Value} {base : Heap} {k : Nat} {f : Addr} {name qual : Str} {params : Arguments} {body : List Stmt} {scope : Scope} {dV kV doc pm cdv ct oc : Value} {an od : Option Addr}
    {osl : Array (Option Value)} {N ps : List Str} {sp : Sp} (lk : K.lookup f = some ⟨oc, od, .func (PySem.W.fnOf name qual params body scope dV kV doc pm an cdv ct), osl⟩) (hcd : PySem.W.codeIn K cdv qual = true) (S : FnScope N ps scope)
    (len : ∀ vs H Q E, sp vs H Q E → vs.length = ps.length)
    (hbody : ∀ (A : Around) (outer : List Env) (s : Shared) (H : Hp) (vs : List V) (Q : VK) (E : XK), Room k (A.deeper (envOfC qual scope s.heap.objs.size f cdv)) → sp vs H Q E →
      ∃ t, PSs (cxOf CX P w K mg base N qual scope f cdv A outer s H E) body t ∧ t { nx := fun _ H' => Q .non H', rt := Q } (start N vs) H) :
    FnOk P w K mg base CX (k + 1) f (PySem.W.fnOf name qual params body scope dV kV doc pm an cdv ct) ps sp := by
  refine ⟨len, fun A outer s H args us vs Q E hr e0 hb r hsp => ?_⟩
  have hl := len _ _ _ _ hsp
  have KX : K.In s.heap := e0.mod.kin.keeps fun b o e => (e0.bs b o e).1
  have lim : s.heap.NoLimit := e0.mod.nolimit.keeps fun b o e => (e0.bs b o e).1
  have hkind : ∀ y ∈ ps.zip us, scope.names.lookup y.1 = some .local ∨ (scope.names.lookup y.1 = some .cell ∧ ((cellsFrom (s.heap.objs.size + 1) scope.names []).lookup y.1).isSome = true) := fun hw' hy => by
    obtain ⟨n, v⟩ := hw'
    rcases S.par n (List.of_mem_zip hy).1 with q | q
    · exact .inl q
    · exact .inr ⟨q, PySem.W.cellsFrom_some _ _ _ (.inl q)⟩
  refine codeAny_call_function hr.depth (KX _ _ lk) rfl S.co S.gen rfl (PySem.W.codeRec_of KX hcd) (hb _ _ _ _ ?_)
  refine wpAny_newFunctionEnv_cells S.kind hkind fun env he s1 x => ?_
  subst he
  refine ⟨lim.keeps x.toInCall.keep, codeAny_func ?_⟩
  obtain ⟨t, ht, hq⟩ := hbody A outer s H vs Q E (hr.deeper _) hsp
  have I : Inv (cxOf CX P w K mg base N qual scope f cdv A outer s H E) [] (start N vs) H s1 := inv_start S hr.hd e0 hl r x
  refine wpAny_mono (ht [] s1 (start N vs) H _ I hq) (fun fl s' hs => ?_) fun e s' hs => hs
  have fin : ∀ {σ' : St} {H' : Hp} {v : V} {u : Value}, Inv (cxOf CX P w K mg base N qual scope f cdv A outer s H E) [] σ' H' s' → RelV v u → Q v H' → CE outer P w H s Q u s' :=
    fun {σ' H' v u} J rv q => ⟨v, H', J.os, J.bare, J.base, J.hok, rv, q⟩
  cases fl with
  | ret u =>
    obtain ⟨v, σ', H', J, rv, q⟩ := hs
    exact fin J rv q
  | next =>
    obtain ⟨σ', H', J, q⟩ := hs
    exact fin (v := V.non) (u := Value.none) J rfl q
  | brk =>
    obtain ⟨_, _, _, q⟩ := hs
    exact False.elim q
  | cont =>
    obtain ⟨_, _, _, q⟩ := hs
    exact False.elim q
end L2

namespace L2
open PySem PySem.Spec PyProof.Rows
section
variable {X : Cx} {x : Str} {p pos : Pos} {e : Expr} {es : List Expr} {t : TA} {id T : String} {r : List V → Hp → VK → Prop}

def tCB (r : List V → Hp → VK → Prop) (t : TA) : TE := fun σ H Q => t σ H fun vs H1 => r vs H1 Q
/-- f(e, ..), f a built-in function -/
theorem pe_callB (hc : CallR X (.builtin id) r) (hg : Gl X x) (hm : X.mg x = none) (hv : bootBuiltins x = some (.builtin id)) (ha : PA X (e :: es) t) (hn : x ≠ "__name__" := by decide) (hdb : (x == ("__debug__" : Str)) = false := by decide)
    (he : starEach (e :: es) X.env = (false, eval e X.env) :: starEach es X.env := by rfl) (hpl : (backTo pos (starEach es X.env)).any (·.1) = false := by rfl) : PE X (.Call (.Name x p) (e :: es) [] pos) (tCB r t) := by
  intro pins s σ H Q I h
  refine wpAny_Call_Name_kw (ld_blt I hg hm hv ?_ hn hdb)
  exact PyProof.Rows.callWith_builtin1 (thn (ha pos pins s σ H _ I h) fun us s1 ⟨vs, H1, I1, r1, q1⟩ => hc pins s1 σ H1 vs us Q I1 r1 q1) he hpl
/-- T(e, ..), T a built-in type -/
theorem pe_callTy (hc : CallR X (.type T) r) (hg : Gl X x) (hm : X.mg x = none) (hv : bootBuiltins x = some (.type T)) (ha : PA X (e :: es) t) (hn : x ≠ "__name__" := by decide) (hdb : (x == ("__debug__" : Str)) = false := by decide)
    (he : starEach (e :: es) X.env = (false, eval e X.env) :: starEach es X.env := by rfl) (hpl : (backTo pos (starEach es X.env)).any (·.1) = false := by rfl) : PE X (.Call (.Name x p) (e :: es) [] pos) (tCB r t) := by
  intro pins s σ H Q I h
  refine wpAny_Call_Name_kw (ld_blt I hg hm hv ?_ hn hdb)
  exact PyProof.Rows.callWith_type1 (thn (ha pos pins s σ H _ I h) fun us s1 ⟨vs, H1, I1, r1, q1⟩ => hc pins s1 σ H1 vs us Q I1 r1 q1) he hpl
end
end L2

namespace HT
open PySem PyProof.Rows

section
open PySem.SeqAt
open PySem.AutoSeq1 (wpAny_loadPart')
open PySem.MeetsSeq PySem.MeetsSeq2 PySem.MeetsSeq3

end

section
variable {prog : Program} {w : World} {A : Around} {E : Value → Shared → Prop} {s : Shared}

end
end HT

namespace L2
open PySem PySem.Spec PyProof.Rows

/-! ### the parts of a slice -/
abbrev TO := St → Hp → (Option Int → Hp → Prop) → Prop
theorem intsAre_of {ns : List Int} : ∀ {us : List Value}, Vals (ns.map V.int) us → IntsAre us ns := by
  induction ns with
  | nil => intro us r; rw [List.map_nil] at r; cases r; exact .nil
  | cons n ns ih =>
    intro us r
    rw [List.map_cons] at r
    cases r with
    | cons r1 r2 =>
      obtain ⟨t, e⟩ := r1
      subst e
      exact .cons n t (ih r2)

section
variable {X : Cx} {e : Expr} {te : TE} {lo hi : Option Expr} {tl th : TO} {pos p2 : Pos}

/-- what a slice of a value is, by values: the slice object stands at sl -/
def SlR (X : Cx) (r : V → Option Int → Option Int → Hp → VK → Prop) : Prop :=
  ∀ (pins : List (Addr × Obj)) (s : Shared) (σ : St) (H : Hp) (x : V) (v vl vu : Value) (lo hi : Option Int) (sl : Addr) (Q : VK), Inv X pins σ H s → RelV x v → s.heap.IsSliceOf sl vl vu .none → IsPart vl lo → IsPart vu hi → r x lo hi H Q →
    ∃ T id, typeLookup (.type T) "__getitem__" = pure (some (.builtin id)) ∧ s.TypeIs v T ∧ wpAny (model X.prog X.w) X.A (getItem v (.ref sl)) (EP X pins σ Q) X.xe s
theorem SlR.or {r r' : V → Option Int → Option Int → Hp → VK → Prop} (h : SlR X r) (h' : SlR X r') : SlR X (fun x lo hi H Q => r x lo hi H Q ∨ r' x lo hi H Q) := by
  intro pins s σ H x v vl vu lo hi sl Q I rx hs pl pu q
  rcases q with q | q
  · exact h pins s σ H x v vl vu lo hi sl Q I rx hs pl pu q
  · exact h' pins s σ H x v vl vu lo hi sl Q I rx hs pl pu q
end
end L2

namespace L2
open PySem PySem.Spec PyProof.Rows

/-! ### places -/
/-- the place that an index of any sign means -/
def ixN (n : Nat) (i : Int) : Option Nat := if 0 ≤ i then (if i < n then some i.toNat else none) else if -(n : Int) ≤ i then some (i + n).toNat else none
def atI {α : Type} (xs : List α) (i : Int) : Option α := (ixN xs.length i).bind fun j => xs[j]?
theorem ixN_seq {n : Nat} {i : Int} {j : Nat} (h : ixN n i = some j) : seqIndex? i n = some j ∧ j < n ∧ -(n : Int) ≤ i ∧ i < n := by
  unfold ixN at h
  by_cases h0 : 0 ≤ i
  · rw [if_pos h0] at h
    by_cases h1 : i < n
    · rw [if_pos h1] at h
      have e : i.toNat = j := Option.some.inj h
      exact ⟨by rw [seqIndex_of h0 h1, e], by omega, by omega, h1⟩
    · rw [if_neg h1] at h; cases h
  · rw [if_neg h0] at h
    by_cases h1 : -(n : Int) ≤ i
    · rw [if_pos h1] at h
      have e : (i + n).toNat = j := Option.some.inj h
      exact ⟨by rw [seqIndex_neg (by omega) h1, e], by omega, h1, by omega⟩
    · rw [if_neg h1] at h; cases h
theorem atI_get {α : Type} {xs : List α} {i : Int} {v : α} (h : atI xs i = some v) : ∃ j, seqIndex? i xs.length = some j ∧ xs[j]? = some v ∧ j < xs.length ∧ -(xs.length : Int) ≤ i ∧ i < xs.length := by
  unfold atI at h
  cases e : ixN xs.length i with
  | none => rw [e] at h; cases h
  | some j =>
    rw [e] at h
    obtain ⟨h1, h2, h3, h4⟩ := ixN_seq e
    exact ⟨j, h1, h, h2, h3, h4⟩
theorem atI_nat {α : Type} {xs : List α} {j : Nat} {v : α} (h : xs[j]? = some v) : atI xs (j : Int) = some v := by
  have hj : j < xs.length := (List.getElem?_eq_some_iff.mp h).1
  have e : ixN xs.length (j : Int) = some j := by
    unfold ixN
    rw [if_pos (by omega), if_pos (by omega)]; simp
  unfold atI; rw [e]; exact h
/-! ### what may be subscripted -/
/-- what stands as an index of a plain subscript -/
def PlainIx (b : Expr) : Prop := ∀ o i, subscripted b false o i = operate [o, i] (getItem o i)
/-- a subscript by values -/
def IxR (X : Cx) (r : R2) : Prop :=
  ∀ (value slice : Expr) (pins : List (Addr × Obj)) (s : Shared) (σ : St) (H : Hp) (x y : V) (v u : Value) (Q : VK), Inv X pins σ H s → RelV x v → RelV y u → r x y H Q →
    subscripted slice false v u = operate [v, u] (getItem v u) → wpAny (model X.prog X.w) X.A (subscriptTail value slice v u) (EP X pins σ Q) X.xe s
/-- a call of a builtin's method by values: the receiver, the arguments -/
def MtR (X : Cx) (id : String) (r : V → List V → Hp → VK → Prop) : Prop :=
  ∀ (pins : List (Addr × Obj)) (s : Shared) (σ : St) (H : Hp) (x : V) (xs : List V) (v : Value) (us : List Value) (Q : VK), Inv X pins σ H s → RelV x v → Vals xs us → r x xs H Q →
    wpAny (model X.prog X.w) X.A (call (.builtin id) (v :: us)) (EP X pins σ Q) X.xe s
section
variable {X : Cx} {a b : Expr} {ta tb : TE} {pos : Pos}
theorem IxR.or {r r' : R2} (h : IxR X r) (h' : IxR X r') : IxR X (fun x y H Q => r x y H Q ∨ r' x y H Q) := by
  intro value slice pins s σ H x y v u Q I rx ry q hs
  rcases q with q | q
  · exact h value slice pins s σ H x y v u Q I rx ry q hs
  · exact h' value slice pins s σ H x y v u Q I rx ry q hs
theorem MtR.or {id : String} {r r' : V → List V → Hp → VK → Prop} (h : MtR X id r) (h' : MtR X id r') : MtR X id (fun x xs H Q => r x xs H Q ∨ r' x xs H Q) := by
  intro pins s σ H x xs v us Q I rx rs q
  rcases q with q | q
  · exact h pins s σ H x xs v us Q I rx rs q
  · exact h' pins s σ H x xs v us Q I rx rs q
/-- a[b] -/
theorem pe_ix {r : R2} (hr : IxR X r) (ha : PE X a ta) (hb : PE X b tb) (hs : PlainIx b) : PE X (.Subscript a b pos) (tOp r ta tb) := by
  intro pins s σ H Q I h
  exact Subscript_ (binT ha hb I h fun v u s2 x y H2 I2 rx ry q => hr a b pins s2 σ H2 x y v u Q I2 rx ry q (hs _ _))

def rIxL (K : PySem.W.Frag) : R2 := fun x y H Q => ∃ p xs i v, x = .ref p ∧ y = .int i ∧ SqL K H p xs ∧ atI xs i = some v ∧ Q v H
def rIxT (K : PySem.W.Frag) : R2 := fun x y H Q => ∃ p xs i v, x = .ref p ∧ y = .int i ∧ SqT K H p xs ∧ atI xs i = some v ∧ Q v H
def rIxS : R2 := fun x y H Q => ∃ z i c, x = .str z ∧ y = .int i ∧ z.length ≤ sizeLine ∧ atI z.cps.toList i = some c ∧ Q (.str ⟨#[c]⟩) H
theorem ix_list : IxR X (rIxL X.K) := by
  intro value slice pins s σ H x y v u Q I rx ry h hs
  obtain ⟨p, xs, i, z, rfl, rfl, hq, he, q⟩ := h
  cases rx
  obtain ⟨t, rfl⟩ := ry
  obtain ⟨its, r, pl, hz⟩ := I.list hq
  obtain ⟨j, h1, h2, h3, h4, h5⟩ := atI_get he
  obtain ⟨w, ew, rw'⟩ := r.get h2
  have hl := r.length
  have hn := line63
  have fin : EP X pins σ Q w s := ⟨z, H, I, rw', q⟩
  by_cases h0 : 0 ≤ i
  · have hj : i.toNat = j := by
      rw [seqIndex_of h0 h5] at h1
      exact Option.some.inj h1
    exact item_listR pl.isList h0 (by omega) (by rw [hj]; simpa using ew) fin hs
  · have hj : (i + (its.toArray.size : Int)).toNat = j := by
      rw [seqIndex_neg (by omega) h4] at h1
      rw [List.size_toArray, ← hl]
      exact Option.some.inj h1
    exact subscriptTail_builtinR (x := w) pl.isList.typeIs slot_list_getitem.lookup
      (wpAny_getItem_list_neg (Q := fun r s' => r = w ∧ EP X pins σ Q r s') pl.isList (by omega) (by rw [List.size_toArray] <;> omega) (by omega) (by rw [hj]; simpa using ew) ⟨rfl, fin⟩) hs
theorem ix_tup : IxR X (rIxT X.K) := by
  intro value slice pins s σ H x y v u Q I rx ry h hs
  obtain ⟨p, xs, i, z, rfl, rfl, hq, he, q⟩ := h
  cases rx
  obtain ⟨t, rfl⟩ := ry
  obtain ⟨its, r, pl, hz⟩ := I.tuple hq
  obtain ⟨j, h1, h2, h3, h4, h5⟩ := atI_get he
  obtain ⟨w, ew, rw'⟩ := r.get h2
  have hl := r.length
  have hn := line63
  have fin : EP X pins σ Q w s := ⟨z, H, I, rw', q⟩
  exact subscriptTail_builtinR (x := w) pl.typeIs slot_tuple_getitem.lookup
    (getItem_tuple (j := j) (Q := fun r s' => r = w ∧ EP X pins σ Q r s') pl (by omega) (by omega) (by rw [List.size_toArray, ← hl]; exact h1) (by simpa using ew) ⟨rfl, fin⟩) hs
theorem ix_str : IxR X rIxS := by
  intro value slice pins s σ H x y v u Q I rx ry h hs
  obtain ⟨z, i, c, rfl, rfl, hz, he, q⟩ := h
  obtain ⟨t, rfl⟩ := rx
  obtain ⟨t', rfl⟩ := ry
  obtain ⟨j, h1, h2, h3, h4, h5⟩ := atI_get he
  have hl : z.cps.toList.length = z.length := by simp [Str.length]
  rw [hl] at h1 h4 h5
  have hn := line63
  exact tail_any (typeIs_str s z t) slot_str_getitem.lookup (getItem_str (c := c) (by
    have e1 : decide (i < -(2 ^ 63 : Int)) = false := decide_eq_false (by omega)
    have e2 : decide (i ≥ 2 ^ 63) = false := decide_eq_false (by omega)
    rw [e1, e2, Bool.or_false]) (by rw [h1]; simpa using h2) ⟨.str ⟨#[c]⟩, H, I.tok _, ⟨_, rfl⟩, q⟩) hs
/-- list, tuple or str -/
def rIx (K : PySem.W.Frag) : R2 := fun x y H Q => rIxL K x y H Q ∨ rIxT K x y H Q ∨ rIxS x y H Q
theorem ix_seq : IxR X (rIx X.K) := ix_list.or (ix_tup.or ix_str)

/-! ### xs[i] = v, any sign -/
/-- the list's object behind a store -/
theorem mapSeq_set (its : List Value) (n j : Nat) (u : Value) : Obj.mapSeq (·.setIfInBounds j u) { cls := .type "list", data := .seq its.toArray n } = { cls := .type "list", data := .seq (its.set j u).toArray n } := by
  simp [Obj.mapSeq]
theorem Inv.lst {pins : List (Addr × Obj)} {σ : St} {H : Hp} {s : Shared} {p : Addr} {xs : List V} (I : Inv X pins σ H s) (h : H p = some (.lst xs)) :
    ∃ (its : List Value) (n : Nat), Vals xs its ∧ s.heap.get? p = some { cls := .type "list", data := .seq its.toArray n } ∧ xs.length ≤ sizeLine := by
  obtain ⟨z, its, n, r, e⟩ := I.hok p _ h
  exact ⟨its, n, r, e, z⟩
/-- the list at p is written by an update of its object -/
theorem Inv.lstUpd {pins : List (Addr × Obj)} {σ : St} {H : Hp} {s : Shared} {p : Addr} {xs ys : List V} {its its' : List Value} {n n' : Nat} {f : Obj → Obj} (I : Inv X pins σ H s) (h : H p = some (.lst xs))
    (ho : s.heap.get? p = some { cls := .type "list", data := .seq its.toArray n }) (hf : f { cls := .type "list", data := .seq its.toArray n } = { cls := .type "list", data := .seq its'.toArray n' }) (r : Vals ys its') (hz : ys.length ≤ sizeLine) (t : Nat) :
    Inv X pins σ (upd H p (.lst ys)) { s with heap := s.heap.update p f, toks := t } := by
  have e : (s.heap.update p f).get? p = some { cls := .type "list", data := .seq its'.toArray n' } := by
    rw [Heap.get?_update_self f ho (by rw [hf] <;> rfl), hf]
  refine I.write (x := p) (e := p) (by rw [h]; trivial) (.inl rfl) (fun b u hb q => (Heap.get?_update_other _ _ (Ne.symm hb)).trans q) ⟨_, e⟩ ?_
  exact ⟨hz, its', n', r, e⟩
def rSetL : V → V → V → Hp → (Hp → Prop) → Prop := fun o i v H Q => ∃ p xs k j, o = .ref p ∧ i = .int k ∧ H p = some (.lst xs) ∧ ixN xs.length k = some j ∧ Q (upd H p (.lst (xs.set j v)))
theorem set_list : PSet X rSetL := by
  intro pins s σ H o i v ov iv u Q I ro ri rv h
  obtain ⟨p, xs, k, j, rfl, rfl, hp, hj, q⟩ := h
  cases ro
  obtain ⟨t, rfl⟩ := ri
  obtain ⟨its, n, r, ho, hz⟩ := I.lst hp
  obtain ⟨h1, h2, h3, h4⟩ := ixN_seq hj
  have hl := r.length
  have hn := line63
  have I' : Inv X pins σ (upd H p (.lst (xs.set j v))) { s with heap := s.heap.update p (Obj.mapSeq (·.setIfInBounds j u)) } :=
    I.lstUpd hp ho (mapSeq_set its n j u) (r.set rv j) (by rw [List.length_set]; exact hz) s.toks
  by_cases h0 : 0 ≤ k
  · have hk : k.toNat = j := by
      rw [seqIndex_of h0 h4] at h1
      exact Option.some.inj h1
    exact PySem.W.ki_setAt ho h0 (by omega) (by rw [List.size_toArray, ← hl]; exact h4) (by rw [hk]; exact ⟨_, I', q⟩)
  · have hk : (k + (its.toArray.size : Int)).toNat = j := by
      rw [seqIndex_neg (by omega) h3] at h1
      rw [List.size_toArray, ← hl]
      exact Option.some.inj h1
    exact PySem.W.ki_setBack ho (by omega) (by rw [List.size_toArray, ← hl]; exact h3) (by omega) (by rw [hk]; exact ⟨_, I', q⟩)

/-! ### len, list(x), tuple(x) of any list or tuple that is read -/
theorem call_len_seq : CallR X (.builtin "len") (fun xs H Q => ∃ p ys, xs = [.ref p] ∧ (SqL X.K H p ys ∨ SqT X.K H p ys) ∧ Q (.int ys.length) H) := by
  intro pins s σ H xs us Q I r h
  obtain ⟨p, ys, rfl, hq, q⟩ := h
  obtain ⟨u, rfl, rx⟩ := vals1 r
  cases rx
  have hn := line63
  rcases hq with hq | hq
  · obtain ⟨its, r', pl, hz⟩ := I.list hq
    have hlen := r'.length
    exact Calls.call_len_list pl.isList (by simp only [List.size_toArray] <;> omega) ⟨.int ys.length, H, I.tok _, ⟨s.toks + 1, by rw [List.size_toArray, hlen]⟩, q⟩
  · obtain ⟨its, r', pl, hz⟩ := I.tuple hq
    have hlen := r'.length
    exact len_tuple pl (by simp only [List.size_toArray] <;> omega) ⟨.int ys.length, H, I.tok _, ⟨s.toks + 1, by rw [List.size_toArray, hlen]⟩, q⟩
theorem call_len_str : CallR X (.builtin "len") (fun xs H Q => ∃ z, xs = [.str z] ∧ z.length ≤ sizeLine ∧ Q (.int z.length) H) := by
  intro pins s σ H xs us Q I r h
  obtain ⟨z, rfl, hz, q⟩ := h
  obtain ⟨u, rfl, t, rfl⟩ := vals1 r
  have hn := line63
  exact len_str (by omega) ⟨.int z.length, H, I.tok _, ⟨_, rfl⟩, q⟩
theorem CallR.or {f : Value} {r r' : List V → Hp → VK → Prop} (h : CallR X f r) (h' : CallR X f r') : CallR X f (fun xs H Q => r xs H Q ∨ r' xs H Q) := by
  intro pins s σ H xs us Q I rs q
  rcases q with q | q
  · exact h pins s σ H xs us Q I rs q
  · exact h' pins s σ H xs us Q I rs q
theorem call_list_of : CallR X (.type "list") (fun xs H Q => ∃ p ys, xs = [.ref p] ∧ (SqL X.K H p ys ∨ SqT X.K H p ys) ∧ ∀ l, H l = none → Q (.ref l) (upd H l (.lst ys))) := by
  intro pins s σ H xs us Q I r h
  obtain ⟨p, ys, rfl, hq, q⟩ := h
  obtain ⟨u, rfl, rx⟩ := vals1 r
  cases rx
  have fin : ∀ (its : List Value), Vals ys its → ys.length ≤ sizeLine → ∀ (h' : Heap) (c' : Nat), (∀ b o', s.heap.get? b = some o' → h'.get? b = some o') →
      h'.get? s.heap.objs.size = some { cls := .type "list", dict := none, data := .seq its.toArray c', slots := #[] } → EP X pins σ Q (.ref s.heap.objs.size) { s with heap := h' } := fun its r' hz h' c' kp e =>
    ⟨.ref s.heap.objs.size, _, I.laid (t' := s.toks) kp (Nat.le_refl _) (show ObjOk X.prog X.w _ h' _ (.lst ys) from ⟨hz, its, c', r', e⟩), rfl, q _ (I.hok.fresh (Nat.le_refl _))⟩
  rcases hq with hq | hq
  · obtain ⟨its, r', pl, hz⟩ := I.list hq
    have hlen := r'.length
    obtain ⟨o, ho, hc, n, hd⟩ := pl.isList
    exact call_list_seq p (.inl rfl) ho hc hd (fun h' c' kp e => fin its r' hz h' c' kp e) (by simp only [List.size_toArray] <;> omega)
  · obtain ⟨its, r', pl, hz⟩ := I.tuple hq
    have hlen := r'.length
    obtain ⟨o, ho, hc, n, hd⟩ := pl
    exact call_list_seq p (.inr rfl) ho hc hd (fun h' c' kp e => fin its r' hz h' c' kp e) (by simp only [List.size_toArray] <;> omega)
/-! ### the call of a builtin's method: o.m(..) -/
/-- the value is of that builtin type -/
def tyV (K : PySem.W.Frag) (T : String) (x : V) (H : Hp) : Prop := match x with
  | .str _ => T = "str"
  | .int _ => T = "int"
  | .ref p => (T = "list" ∧ ∃ xs, SqL K H p xs) ∨ (T = "tuple" ∧ ∃ o, K.lookup p = some o ∧ o.cls = .type "tuple" ∧ o.dict = none) ∨
      (T = "dict" ∧ ((∃ kvs, H p = some (.dK kvs)) ∨ ∃ kvs, H p = some (.dT kvs))) ∨ (T = "set" ∧ ∃ S n, H p = some (.set S n))
  | _ => False
theorem tyV_is {pins : List (Addr × Obj)} {σ : St} {H : Hp} {s : Shared} {T : String} {x : V} {v : Value} (I : Inv X pins σ H s) (r : RelV x v) (ty : tyV X.K T x H) :
    s.TypeIs v T ∧ ∀ a, v = .ref a → ∃ ob, s.heap.get? a = some ob ∧ ob.dict = none := by
  cases x with
  | str z =>
    obtain ⟨t, rfl⟩ := r
    cases (show T = "str" from ty)
    exact ⟨typeIs_str s z t, fun _ e => nomatch e⟩
  | int i =>
    obtain ⟨t, rfl⟩ := r
    cases (show T = "int" from ty)
    exact ⟨typeIs_int s i t, fun _ e => nomatch e⟩
  | ref p =>
    cases r
    rcases ty with ⟨rfl, xs, hq⟩ | ⟨rfl, o, hk, hc, hd⟩ | ⟨rfl, hk⟩ | ⟨rfl, S, n, hk⟩
    · obtain ⟨its, _, pl, _⟩ := I.list hq
      refine ⟨pl.isList.typeIs, fun a e => ?_⟩
      cases e
      obtain ⟨o, n, e, c, hd, _⟩ := pl
      exact ⟨o, e, hd⟩
    · refine ⟨⟨o, I.kIn p o hk, hc⟩, fun a e => ?_⟩
      cases e
      exact ⟨o, I.kIn _ o hk, hd⟩
    · have z : ∃ o, s.heap.get? p = some o ∧ o.ExactDict := by
        rcases hk with ⟨kvs, hk⟩ | ⟨kvs, hk⟩
        · obtain ⟨_, _, _, _, o, _, _, e, ex, _⟩ := I.hok p _ hk
          exact ⟨o, e, ex⟩
        · obtain ⟨_, _, _, _, o, _, _, e, ex, _⟩ := I.hok p _ hk
          exact ⟨o, e, ex⟩
      obtain ⟨o, e, ex⟩ := z
      refine ⟨⟨o, e, ex.1⟩, fun a e2 => ?_⟩
      cases e2
      exact ⟨o, e, ex.2.1⟩
    · obtain ⟨o, _, _, _, e, ex, _⟩ := I.hok p _ hk
      refine ⟨⟨o, e, ex.1⟩, fun a e2 => ?_⟩
      cases e2
      exact ⟨o, e, ex.2.1⟩
  | _ => exact False.elim ty
def tBM (K : PySem.W.Frag) (T : String) (r : V → List V → Hp → VK → Prop) (to : TE) (t : TA) : TE := fun σ H Q => to σ H fun x H1 => tyV K T x H1 ∧ t σ H1 fun xs H2 => r x xs H2 Q
variable {o e : Expr} {es : List Expr} {to : TE} {t : TA} {name : Str} {apos cpos : Pos} {T id : String} {r : V → List V → Hp → VK → Prop}
theorem pe_bm (pa : PlainAttrs T) (slot : Slot T name id) (hty : typeOf (.builtin id) = pure (.type "method_descriptor")) (hm : MtR X id r) (ho : PE X o to) (ha : PA X (e :: es) t)
    (hbase : attributeBase o name X.env (eval o X.env) = eval o X.env := by rfl)
    (hfew : ((backTo cpos (starEach (e :: es) X.env)).all (fun x => !x.1) && (backToKw cpos (keywordEach [] X.env)).all (fun x => x.1.isSome)
      && decide ((e :: es).length + ([] : List Keyword).length + (if ([] : List Keyword).isEmpty then 0 else 1) < 30)) = true := by rfl)
    (hline : (apos.endLine == cpos.line) = true := by rfl) (hs : starEach (e :: es) X.env = (false, eval e X.env) :: starEach es X.env := by rfl) (hplain : (backTo cpos (starEach es X.env)).any (·.1) = false := by rfl) :
    PE X (.Call (.Attribute o name apos) (e :: es) [] cpos) (tBM X.K T r to t) := by
  intro pins s σ H Q I h
  refine wpAny_Call_method_late hbase hfew hline rfl (thn (ho pins s σ H _ I h) fun v s1 hw' => ?_)
  obtain ⟨x, H1, I1, r1, ty, q1⟩ := hw'
  obtain ⟨h1, h2⟩ := tyV_is I1 r1 ty
  refine ⟨T, id, pa, slot, hty, h1, h2, ?_⟩
  have hA := ha cpos pins s1 σ H1 _ I1 q1
  rw [hs] at hA ⊢
  refine Calls.callWith_builtin (by show (false || (backTo cpos (starEach es X.env)).any (·.1)) = false; rw [hplain] <;> rfl) (Calls.evalArgs_plain ?_)
  exact thn hA fun us s2 ⟨vs, H2, I2, r2, q2⟩ => hm pins s2 σ H2 x vs v us Q I2 r1 r2 q2
/- xs.append(e), list.index on a module's tuple .. are MtR facts of 06m -/
end
end L2

namespace L2
open PySem PySem.Spec PyProof.Rows

def MtM (X : Cx) (id : String) (r : V → List V → Hp → VK → Prop) : Prop :=
  ∀ (pins : List (Addr × Obj)) (s : Shared) (σ : St) (H : Hp) (x : V) (xs : List V) (v : Value) (us : List Value) (Q : VK), Inv X pins σ H s → RelV x v → Vals xs us → r x xs H Q →
    wpAny (model X.prog X.w) X.A (call (.builtin id) (v :: us)) (EP X pins σ Q) X.xe s

/-! ### lists of values -/
theorem Vals.one {x : V} {us : List Value} (h : Vals [x] us) : ∃ u, us = [u] ∧ RelV x u := vals1 h
theorem Vals.two {x y : V} {us : List Value} (h : Vals [x, y] us) : ∃ u v, us = [u, v] ∧ RelV x u ∧ RelV y v := vals2 h
theorem Vals.zero : ∀ {us : List Value}, Vals [] us → us = []
  | _, .nil => rfl
theorem Vals.reverse {xs : List V} {us : List Value} (h : Vals xs us) : Vals xs.reverse us.reverse := by
  induction h with
  | nil => exact .nil
  | cons r t ih => rw [List.reverse_cons, List.reverse_cons]; exact Vals.append ih (.cons r .nil)
theorem Vals.rep {xs : List V} {us : List Value} (h : Vals xs us) : ∀ k : Nat, Vals (List.replicate k xs).flatten (List.replicate k us).flatten
  | 0 => .nil
  | k + 1 => by
    rw [List.replicate_succ, List.replicate_succ, List.flatten_cons, List.flatten_cons]
    exact Vals.append h (Vals.rep h k)
theorem foldl_rep (its : List Value) : ∀ (k : Nat) (acc : List Value),
    List.foldl (fun x1 x2 => x1 ++ x2) acc.toArray (List.replicate k its.toArray) = (acc ++ (List.replicate k its).flatten).toArray
  | 0, acc => by simp
  | k + 1, acc => by
    have e : acc.toArray ++ its.toArray = (acc ++ its).toArray := by simp
    have e2 : (acc ++ its) ++ (List.replicate k its).flatten = acc ++ (List.replicate (k + 1) its).flatten := by
      rw [List.replicate_succ, List.flatten_cons, List.append_assoc]
    rw [← e2, ← foldl_rep its k (acc ++ its), ← e, List.replicate_succ, List.foldl_cons]

section
variable {X : Cx} {pins : List (Addr × Obj)} {σ : St} {H : Hp} {s : Shared} {l b : Addr} {xs ys zs : List V}

/-! ### the two steps: a tracked list is rewritten, a new list is laid -/
theorem Inv.lset {its its' : List Value} {n : Nat} {f : Array Value → Array Value} {t' : Nat} (I : Inv X pins σ H s) (hH : H l = some (.lst xs))
    (e : s.heap.get? l = some { cls := .type "list", data := .seq its.toArray n }) (hf : f its.toArray = its'.toArray) (hv : Vals ys its') (hz : ys.length ≤ sizeLine) :
    Inv X pins σ (upd H l (.lst ys)) { s with heap := s.heap.update l (Obj.mapSeq f), toks := t' } := by
  have q := PySem.IsL.update e f
  rw [hf] at q
  refine I.write (x := l) (e := l) (by rw [hH]; exact trivial) (.inl rfl) (fun b' u hb hu => (Heap.get?_update_other s.heap (Obj.mapSeq f) (Ne.symm hb)).trans hu) ⟨_, q⟩ ?_
  exact ⟨hz, its', _, hv, q⟩
theorem Inv.lnew {its : List Value} {t' : Nat} (I : Inv X pins σ H s) (hv : Vals ys its) (hz : ys.length ≤ sizeLine) :
    Inv X pins σ (upd H s.heap.objs.size (.lst ys)) { s with heap := s.heap.push { cls := .type "list", data := .seq its.toArray }, toks := t' } :=
  I.laid (fun _ _ q => Heap.get?_push_of_some _ q) (Nat.le_refl _) ⟨hz, its, 0, hv, Heap.get?_push_size _ rfl⟩
theorem Inv.fresh (I : Inv X pins σ H s) : H s.heap.objs.size = none := I.hok.fresh (Nat.le_refl _)
theorem Inv.lstM (I : Inv X pins σ H s) (hH : H l = some (.lst xs)) : xs.length ≤ sizeLine ∧ ∃ (its : List Value) (n : Nat), Vals xs its ∧ xs.length = its.length ∧ s.heap.get? l = some { cls := .type "list", data := .seq its.toArray n } := by
  obtain ⟨z, its, n, r, e⟩ := I.hok l _ hH
  exact ⟨z, its, n, r, r.length, e⟩

theorem notLongL {n : Nat} (h : n ≤ sizeLine) : Builtin.List.listTooLong n = false := by
  unfold Builtin.List.listTooLong
  exact decide_eq_false (by omega)
end

section
variable {X : Cx}

/-! ### methods -/
def rAppend : V → List V → Hp → VK → Prop := fun x vs H Q => ∃ l xs y, x = .ref l ∧ vs = [y] ∧ H l = some (.lst xs) ∧ xs.length < sizeLine ∧ Q .non (upd H l (.lst (xs ++ [y])))
theorem mt_append : MtM X "list.append" rAppend := by
  intro pins s σ H x vs v us Q I rx rv h
  obtain ⟨l, xs, y, rfl, rfl, hH, hz, q⟩ := h
  cases rx
  obtain ⟨u, rfl, ru⟩ := rv.one
  obtain ⟨z, its, n, r, hl, e⟩ := I.lstM hH
  refine call_meets F.slot_list_append ⟨_, e, rfl⟩ F.entry_list_append (F.args_list_append_2 _ _) (PySem.list_append l its.toArray n u (by rw [List.size_toArray]; omega)) ⟨e, ?_⟩
  refine ⟨.non, _, I.lset (its' := its ++ [u]) hH e (by simp) (r.append (.cons ru .nil)) ?_, rfl, q⟩
  rw [List.length_append, List.length_singleton]
  omega

/-! ### list + list, list += list, list * int -/
def rCat : R2 := fun x y H Q => ∃ l b xs zs, x = .ref l ∧ y = .ref b ∧ H l = some (.lst xs) ∧ H b = some (.lst zs) ∧ xs.length + zs.length ≤ sizeLine ∧ ∀ p, H p = none → Q (.ref p) (upd H p (.lst (xs ++ zs)))
theorem op_cat : OpR X (binaryOp .Add) rCat := by
  intro pins s σ H x y v u Q I rx ry h
  obtain ⟨l, b, xs, zs, rfl, rfl, hH, hB, hz, q⟩ := h
  cases rx
  cases ry
  obtain ⟨z, its, n, r, hl, e⟩ := I.lstM hH
  obtain ⟨z2, its2, n2, r2, hl2, e2⟩ := I.lstM hB
  refine PySem.P.add_list e e2 ?_ (by rw [List.size_toArray, List.size_toArray]; omega)
  have ea : its.toArray ++ its2.toArray = (its ++ its2).toArray := by simp
  rw [ea]
  exact ⟨.ref _, _, I.lnew (t' := s.toks) (r.append r2) (by rw [List.length_append]; omega), rfl, q _ I.fresh⟩
/-- a list times an int (a negative one is nothing) -/
def rRep : R2 := fun x y H Q => ∃ l k xs, x = .ref l ∧ y = .int k ∧ H l = some (.lst xs) ∧ -(2 ^ 63) ≤ k ∧ k < 2 ^ 63 ∧ xs.length * k.toNat ≤ sizeLine ∧
  ∀ p, H p = none → Q (.ref p) (upd H p (.lst (List.replicate k.toNat xs).flatten))
theorem len_rep {α : Type} (xs : List α) (k : Nat) : (List.replicate k xs).flatten.length = k * xs.length := by
  induction k with
  | zero => simp
  | succ k ih => rw [List.replicate_succ, List.flatten_cons, List.length_append, ih, Nat.succ_mul, Nat.add_comm]
theorem op_rep : OpR X (binaryOp .Mult) rRep := by
  intro pins s σ H x y v u Q I rx ry h
  obtain ⟨l, k, xs, rfl, rfl, hH, h1, h2, hz, q⟩ := h
  cases rx
  obtain ⟨t, rfl⟩ := ry
  obtain ⟨z, its, n, r, hl, e⟩ := I.lstM hH
  have hlen : its.toArray.size * k.toNat ≤ sizeLine := by rw [List.size_toArray, ← hl]; exact hz
  have hcap : ¬ its.toArray.size * k.toNat > (2 ^ 63 - 1) / 8 := by
    have : (sizeLine : Nat) ≤ (2 ^ 63 - 1) / 8 := by decide
    omega
  have hfit : ¬ (!Builtin.List.listFitsIndex k) = true := by
    rw [fitsIndex_both h1 h2]
    exact Bool.false_ne_true
  have hlong : ¬ Builtin.List.listTooLong (its.toArray.size * k.toNat) = true := by
    rw [notLongL hlen]
    exact Bool.false_ne_true
  have hnew : List.foldl (fun x1 x2 => x1 ++ x2) #[] (List.replicate (if its.toArray.isEmpty = true then 0 else k.toNat) its.toArray) = (List.replicate k.toNat its).flatten.toArray := by
    have f0 : ∀ m : Nat, List.foldl (fun x1 x2 => x1 ++ x2) #[] (List.replicate m its.toArray) = (List.replicate m its).flatten.toArray := fun m => by
      have := foldl_rep its m []
      rw [List.nil_append] at this
      exact this
    rw [f0]
    cases its with
    | nil => simp
    | cons a r' => rw [if_neg (by simp)]
  refine wpAny_binaryOp_repeat_ref (T := "list") (U := "int") (by decide) ⟨_, e, rfl⟩ (fun s' => typeIs_int s' k t) noFill_list_mul F.fills_int_mul F.slot_int_rmul repeat_list F.slot_int_index.lookup
    (call_meets F.slot_int_rmul (typeIs_int s k t) F.entry_int_rmul (F.args_int_rmul_2 _ _) (int___rmul___int_list k t l its.toArray n)
      ⟨e, rfl, ⟨_, e, rfl⟩, call_meets F.slot_list_mul ⟨_, e, rfl⟩ F.entry_list_mul (F.args_list_mul_2 _ _) (AutoListH.list___mul___list_int_3 l its.toArray n k t hfit hcap hlong) ⟨e, ?_⟩⟩)
  rw [hnew]
  exact ⟨.ref _, _, I.lnew (t' := s.toks) (r.rep k.toNat) (by rw [len_rep, Nat.mul_comm]; exact hz), rfl, q _ I.fresh⟩

end

/-! ### xs[a:b] = ys -/
section
variable {prog : Program} {w : World} {A : Around} {E : Value → Shared → Prop} {s : Shared}
set_option maxRecDepth 100000 in
end

section
variable {X : Cx}
end
end L2

namespace L2
open PySem PySem.Spec PyProof.Rows

/-! ### lists of pairs as tables -/
section
variable {κ : Type} [DecidableEq κ]
def valV (kvs : List (κ × V)) (k : κ) : Option V := (kvs.find? fun kv => decide (kv.1 = k)).map (·.2)
/-- in its place, or at the end -/
def putK (kvs : List (κ × V)) (k : κ) (v : V) : List (κ × V) :=
  if (kvs.any fun kv => decide (kv.1 = k)) = true then kvs.map (fun kv => if kv.1 = k then (kv.1, v) else kv) else kvs ++ [(k, v)]
def dropK (kvs : List (κ × V)) (k : κ) : List (κ × V) := kvs.filter fun kv => decide (kv.1 ≠ k)

theorem RelO.getD {o : Option V} {u : Option Value} {d : V} {d' : Value} (r : RelO o u) (rd : RelV d d') : RelV (o.getD d) (u.getD d') := by
  cases o with
  | none => cases u with
    | none => exact rd
    | some _ => exact (show False from r).elim
  | some _ => cases u with
    | none => exact (show False from r).elim
    | some _ => exact r

theorem KV.any {kvs : List (κ × V)} {vs : List (κ × Value)} (r : KV kvs vs) (k : κ) : (kvs.any fun kv => decide (kv.1 = k)) = vs.any fun kv => decide (kv.1 = k) := by
  unfold KV at r
  induction r with
  | nil => rfl
  | cons h t ih => rw [List.any_cons, List.any_cons, ih, h.1]
theorem KV.drop {kvs : List (κ × V)} {vs : List (κ × Value)} (r : KV kvs vs) (k : κ) : KV (dropK kvs k) (without vs k) := by
  unfold KV at r ⊢
  unfold dropK without
  induction r with
  | nil => exact .nil
  | @cons p q ps qs h t ih =>
    obtain ⟨h1, h2⟩ := h
    rw [List.filter_cons, List.filter_cons]
    by_cases e : p.1 = k
    · have a : ¬ decide (p.1 ≠ k) = true := by simp [e]
      have b : ¬ decide (q.1 ≠ k) = true := by simp [h1.symm.trans e]
      rw [if_neg a, if_neg b]; exact ih
    · have e' : ¬ q.1 = k := fun z => e (h1.trans z)
      have a : decide (p.1 ≠ k) = true := by simp [e]
      have b : decide (q.1 ≠ k) = true := by simp [e']
      rw [if_pos a, if_pos b]; exact .cons ⟨h1, h2⟩ ih
theorem KV.keys {kvs : List (κ × V)} {vs : List (κ × Value)} (r : KV kvs vs) : kvs.map (·.1) = vs.map (·.1) := by
  unfold KV at r
  induction r with
  | nil => rfl
  | cons h t ih => rw [List.map_cons, List.map_cons, ih, h.1]
theorem KV.length {kvs : List (κ × V)} {vs : List (κ × Value)} (r : KV kvs vs) : kvs.length = vs.length := Paired.length r
end


/-- raw entries of a dict with tuple keys -/
abbrev KT (H : Hp) : List (List Key × V) → List (List Key × Addr × Value) → Prop := Paired fun p q => p.1 = q.1 ∧ H q.2.1 = some (.tup (p.1.map kV)) ∧ RelV p.2 q.2.2
theorem KT.keeps {H H' : Hp} {kvs : List (List Key × V)} {xs : List (List Key × Addr × Value)} (r : KT H kvs xs) (ht : ∀ b ys, H b = some (.tup ys) → H' b = some (.tup ys)) : KT H' kvs xs :=
  Paired.mapP r fun _ _ z => ⟨z.1, ht _ _ z.2.1, z.2.2⟩

section
variable {P : Program} {w : World} {H : Hp} {h : Heap} {a : Addr}
end

/-- what the dict at a holds at the key y -/
def DGet (H : Hp) (a : Addr) (y : V) (r : Option V) : Prop :=
  (∃ kvs k, Rd H a (.dK kvs) ∧ y = kV k ∧ r = valV kvs k) ∨ ∃ kvs k b, Rd H a (.dT kvs) ∧ y = .ref b ∧ H b = some (.tup (k.map kV)) ∧ r = valV kvs k
/-- the heap behind a[y] = v -/
def DPut (H : Hp) (a : Addr) (y v : V) (H' : Hp) : Prop :=
  (∃ kvs k, H a = some (.dK kvs) ∧ y = kV k ∧ kvs.length < sizeLine ∧ H' = upd H a (.dK (putK kvs k v))) ∨
  ∃ kvs k b, H a = some (.dT kvs) ∧ y = .ref b ∧ H b = some (.tup (k.map kV)) ∧ kvs.length < sizeLine ∧ H' = upd H a (.dT (putK kvs k v))
theorem DGet.k {H : Hp} {a : Addr} {kvs : List (Key × V)} {k : Key} (e : H a = some (.dK kvs)) : DGet H a (kV k) (valV kvs k) := .inl ⟨kvs, k, .inl e, rfl, rfl⟩
theorem DGet.t {H : Hp} {a b : Addr} {kvs : List (List Key × V)} {k : List Key} (e : H a = some (.dT kvs)) (eb : H b = some (.tup (k.map kV))) : DGet H a (.ref b) (valV kvs k) := .inr ⟨kvs, k, b, .inl e, rfl, eb, rfl⟩
theorem DPut.k {H : Hp} {a : Addr} {kvs : List (Key × V)} {k : Key} {v : V} (e : H a = some (.dK kvs)) (hl : kvs.length < sizeLine) : DPut H a (kV k) v (upd H a (.dK (putK kvs k v))) := .inl ⟨kvs, k, e, rfl, hl, rfl⟩
theorem DPut.t {H : Hp} {a b : Addr} {kvs : List (List Key × V)} {k : List Key} {v : V} (e : H a = some (.dT kvs)) (eb : H b = some (.tup (k.map kV))) (hl : kvs.length < sizeLine) :
    DPut H a (.ref b) v (upd H a (.dT (putK kvs k v))) := .inr ⟨kvs, k, b, e, rfl, eb, hl, rfl⟩


section
variable {X : Cx} {pins : List (Addr × Obj)} {σ : St} {H : Hp} {s : Shared} {a : Addr} {y v : V} {u r : Value} {o : Option V} {A : Around} {E : Value → Shared → Prop}

theorem Inv.big (I : Inv X pins σ H s) : sysModules < s.heap.objs.size := by
  have h : mainGlobals < s.heap.objs.size := (I.mod.glob.keeps I.bk).lt
  exact Nat.lt_trans (by decide) h

end

section
variable {X : Cx} {pins : List (Addr × Obj)} {σ : St} {H : Hp} {s : Shared} {a : Addr} {kvs : List (Key × V)} {k : Key} {u : Value} {A : Around} {E : Value → Shared → Prop}
end


section
variable {X : Cx} {o i e value : Expr} {pos pos' tpos : Pos} {td ty tv : TE}
end


section
variable {X : Cx} {pos : Pos}
end

/-! ### methods -/
/-- a method call o.m(e) of a built-in, with one argument: what must be seen of the text -/
structure M1 (X : Cx) (o : Expr) (m : Str) (apos : Pos) (e : Expr) (cpos : Pos) : Prop where
  base : attributeBase o m X.env (eval o X.env) = eval o X.env
  few : ((backTo cpos (starEach [e] X.env)).all (fun x => !x.1) && (backToKw cpos (keywordEach [] X.env)).all (fun x => x.1.isSome)
    && decide (([e] : List Expr).length + ([] : List Keyword).length + (if ([] : List Keyword).isEmpty then 0 else 1) < 30)) = true
  line : (apos.endLine == cpos.line) = true
  trees : backTo cpos (starEach [e] X.env) = [(false, eval e X.env)]
structure M2 (X : Cx) (o : Expr) (m : Str) (apos : Pos) (e f : Expr) (cpos : Pos) : Prop where
  base : attributeBase o m X.env (eval o X.env) = eval o X.env
  few : ((backTo cpos (starEach [e, f] X.env)).all (fun x => !x.1) && (backToKw cpos (keywordEach [] X.env)).all (fun x => x.1.isSome)
    && decide (([e, f] : List Expr).length + ([] : List Keyword).length + (if ([] : List Keyword).isEmpty then 0 else 1) < 30)) = true
  line : (apos.endLine == cpos.line) = true
  trees : backTo cpos (starEach [e, f] X.env) = [(false, eval e X.env), (false, eval f X.env)]

section
variable {X : Cx} {pins : List (Addr × Obj)} {σ : St} {H : Hp} {s : Shared} {a : Addr} {y d : V} {u r : Value} {o : Option V} {A : Around} {E : Value → Shared → Prop}
end

section
variable {X : Cx} {o e f : Expr} {apos cpos : Pos} {td ty tx : TE}
end

/-! ### dict(d): a copy -/
section
variable {X : Cx} {pins : List (Addr × Obj)} {σ : St} {H : Hp} {s : Shared} {a : Addr} {kvs : List (Key × V)} {A : Around} {E : Value → Shared → Prop}
end


section
variable {X : Cx} {pins : List (Addr × Obj)} {σ : St} {H : Hp} {s : Shared} {a : Addr} {y : V} {u : Value} {A : Around} {E : Value → Shared → Prop}
end
end L2

namespace Att
open PySem PySem.W PySem.Calls PyProof.Rows

/-! ### the script -/
theorem ints_of_wellAll {P : Params} {h : Heap} : ∀ (ns : List Int) (vs : List Value), WellAll P h vs (ns.map WData.int) → IntsAre vs ns := by
  intro ns
  induction ns with
  | nil =>
    intro vs w
    rw [List.map_nil] at w
    cases w
    exact .nil
  | cons n ns ih =>
    intro vs w
    rw [List.map_cons] at w
    cases w with
    | cons a b =>
      cases a
      exact .cons _ _ (ih _ b)

theorem script_of {l : OpenLaw} {n : Nat} (hn : l.most = some n) {P : Params} {h : Heap} {args : List WData} {vals : List Value}
    (hpre : l.row.toRowW.claim.pre args = true) (hwl : WellAll P h vals args) :
    ∃ a vs ns, vals = [Value.ref a] ∧ args = [WData.list (ns.map WData.int)] ∧ h.get? a = some { cls := .type "list", data := .seq vs.toArray } ∧ IntsAre vs ns ∧ ns.length ≤ n := by
  have hsh : WShape.hasAll [] args [.list .int] = true := (pre_splitW hpre).1
  have hc : l.pre.holds [] { args := args } = true := (pre_splitW hpre).2
  obtain ⟨d, r, rfl, h1, h2⟩ := hasAllW_cons hsh
  obtain rfl := hasAllW_nil h2
  obtain ⟨xs, rfl, h3⟩ := hasW_list h1
  obtain ⟨ns, rfl⟩ := items_int h3
  have hlen : ns.length ≤ n := by
    unfold OpenLaw.pre at hc
    have h4 : (WTm.not (.lt (.lit (.int (n : Int))) (.len (.arg 0)))).holds [] { args := [.list (ns.map .int)] } = true := by
      have h4 := (holds_andW hc).1
      rw [hn] at h4
      exact h4
    have h5 := condW_of h4 (w_not (w_lt w_lit (w_len_list (w_arg rfl))))
    rw [List.length_map] at h5
    refine Nat.le_of_not_lt fun q => ?_
    have q' : (n : Int) < ((ns.length : Nat) : Int) := by omega
    first
      | (rw [decide_eq_true q'] at h5; exact absurd h5 (by decide))
      | (simp at h5; omega)
  cases hwl with
  | cons w1 w2 =>
    cases w2
    cases w1 with
    | list ho hall => exact ⟨_, _, ns, rfl, rfl, ho, ints_of_wellAll ns _ hall, hlen⟩

theorem post_true (l : OpenLaw) (args : List WData) : l.row.toRowW.claim.post args (.bool true) args = true :=
  postW_of (r := l.row.toRowW) (X := (true == true))
    (show WShape.has [] (.bool true) .bool = true by first | rfl | decide | simp [WShape.has, WShape.arms, WShape.armsAll])
    (show (WTm.eq .res (.lit (.bool true))).value [] { args := args, res := some (.bool true), after := args } = some (.bool (true == true)) from w_eq_bool (w_res rfl) w_lit) rfl

/-- the same from a codeAny of the CALL (for a layer whose function contracts speak of calls) -/
theorem attach_call {l : OpenLaw} {n : Nat} {q : Program} {loose : List Str} {XP : (Str → Option Value) → Heap → Prop} {YP : World → Heap → Prop} {d : DefRec}
    (hn : l.most = some n) (hdf : d.params.defaults = [])
    (call : ∀ (w : World) (s₀ s₁ : Shared) (mg mb : Str → Option Value) (fa : Addr) (o : Obj) (pm cd doc : Value) (a : Addr) (vs : List Value) (ns : List Int),
      Ground q loose [] XP w s₀ mg mb s₁.heap → YP w s₁.heap →
      s₁.heap.get? fa = some o → o.data = .func (docDef d.name d.params d.body d.scope pm cd doc) → s₁.heap.CodeRec cd d.name → mg d.name = some (.ref fa) →
      s₁.heap.get? a = some { cls := .type "list", data := .seq vs.toArray } → IntsAre vs ns → ns.length ≤ n → s₁.gens = #[] →
      codeAny (model l.prog w) callerA (.call (.ref fa) ⟨[.ref a], []⟩) (fun r s' => r = .ok (.ret (.bool true)) ∧ OldK s₁.heap s'.heap ∧ s'.os = s₁.os ∧ AllBare s'.gens) s₁) :
    WalkO q loose XP YP l.row.toRowW d [] (fun f vs => PySem.call f vs) := by
  intro w s₀ s₁ mg mb G Y fa o pm cd doc dV kV ho hd hcd hD hmg hg args vals as hpre hlay hrd hwl hlo
  obtain rfl : dV = .none := Dflts.none hD hdf
  obtain rfl : kV = .none := Dflts.noKw hD
  obtain ⟨a, vs, ns, rfl, rfl, hobj, hints, hlen⟩ := script_of hn hpre hwl
  refine enter_call (codeAny_mono (call w s₀ s₁ mg mb fa o pm cd doc a vs ns G Y ho (fd_plain hd) hcd hmg hobj hints hlen hg) fun r s' hq => ?_)
  obtain ⟨rfl, h2, h3, h4⟩ := hq
  exact ⟨.inl ⟨.bool true, .bool true, [], rfl, fun _ => rfl, .bool true, post_true l _, fun _ => ⟨List.Pairwise.nil, fun _ hm => (nomatch hm)⟩⟩, h2, h3, h4⟩

/-! ### rules over ANY heap (no ledger) from facts about the written part K: the library's own take a ledger (News) for what they write -/
section
variable {prog : Program} {w : World} {A : Around} {E : Value → Shared → Prop} {s : Shared} {K : Frag}

def ledger (h : Heap) (L d : Addr) : List (Addr × Obj) := (List.range h.objs.size).filterMap fun a => if a = L ∨ a = d then none else (h.get? a).map fun o => (a, o)
end
end Att

namespace L2
open PySem PySem.Spec PyProof.Rows

theorem vals_ints : ∀ {vs : List Value} {ns : List Int}, IntsAre vs ns → Vals (ns.map V.int) vs
  | _, _, .nil => .nil
  | _, _, .cons n t h => .cons ⟨t, rfl⟩ (vals_ints h)

/-- nothing is tracked but the script, known to the object (or it is an object of the module) -/
def Only (H : Hp) : Prop := ∀ b, H b = none ∨ ∃ o xs, H b = some (.frz o (.lst xs))

/-- THE HEAD: the law's promise, at the heap behind the top. F, the promise of the law's def, may use that base is part of the heap (so K.In base, base.Ns mainGlobals mg stand in Mod) -/
theorem law_call {P : Program} {w : World} {K : PySem.W.Frag} {mg mb : Str → Option Value} {CX : CXT} {k : Nat} {fa a : Addr} {fd : FuncData} {x : Str} {sp : Sp} {s₁ : Shared} {vs : List Value} {ns : List Int}
    (KX : K.In s₁.heap) (hns : s₁.heap.Ns mainGlobals mg) (hb : s₁.heap.Ns builtinsNs mb) (hbb : ∀ x : Str, x ≠ "__name__" → mb x = bootBuiltins x) (hlim : s₁.heap.NoLimit) (hg : s₁.gens = #[])
    (ha : s₁.heap.get? a = some { cls := .type "list", data := .seq vs.toArray }) (hi : IntsAre vs ns) (hl : ns.length ≤ sizeLine) (hr : Room k callerA)
    (F : ∀ base : Heap, K.In base → base.Ns mainGlobals mg → FnOk P w K mg base CX k fa fd [x] sp) (hbind : ∀ (s : Shared) (u : Value), BindsTo s fd ⟨[u], []⟩ [(x, u)])
    (hsp : ∀ H : Hp, Only H → SqL K H a (ns.map V.int) → sp [.ref a] H (fun v _ => v = .bl true) fun _ _ _ => False)
    (hCX : ∀ H e s', CX [] H s₁ (fun _ _ _ => False) e s' → False) :
    codeAny (model P w) callerA (.call (.ref fa) ⟨[.ref a], []⟩) (fun r s' => r = .ok (.ret (.bool true)) ∧ OldK s₁.heap s'.heap ∧ s'.os = s₁.os ∧ AllBare s'.gens) s₁ := by
  have rv := vals_ints hi
  have lenV := hi.length
  -- from an abstract heap in which nothing but the script may be tracked
  have core : ∀ H : Hp, Only H → SqL K H a (ns.map V.int) → HOk P w H s₁.heap → (∀ b, H b ≠ none → b = a) → (H a ≠ none → K.lookup a = none) →
      codeAny (model P w) callerA (.call (.ref fa) ⟨[.ref a], []⟩) (fun r s' => r = .ok (.ret (.bool true)) ∧ OldK s₁.heap s'.heap ∧ s'.os = s₁.os ∧ AllBare s'.gens) s₁ := by
    intro H hO hS hok hA hK
    have base_of : ∀ {b : Addr} {o : Obj}, s₁.heap.get? b = some o → H b = none → (hidT s₁.heap H).get? b = some o := fun e n => hidT_get e n
    have noA : ∀ {b : Addr} {o : Obj} {es : Array DictEntry} {ep : Nat}, s₁.heap.get? b = some o → o.data = .dict es ep → H b = none := fun {b o es ep} e d => by
      cases q : H b with
      | none => rfl
      | some u =>
        have e' : b = a := hA b (by rw [q]; simp)
        subst e'
        rw [ha] at e; cases e
        have d' : Data.seq vs.toArray _ = Data.dict es ep := d
        cases d'
    have nsK : ∀ {b : Addr} {m : Str → Option Value}, s₁.heap.Ns b m → (hidT s₁.heap H).Ns b m := fun {b m} ⟨o, es, ep, e, d, r⟩ => ⟨o, es, ep, base_of e (noA e d), d, r⟩
    have hKb : K.In (hidT s₁.heap H) := fun b o e => base_of (KX b o e) (by
      cases q : H b with
      | none => rfl
      | some u =>
        have e' : b = a := hA b (by rw [q]; simp)
        subst e'
        rw [hK (by rw [q]; simp)] at e; cases e)
    have hM : Mod K mg (hidT s₁.heap H) := ⟨hKb, nsK hns, ⟨mb, nsK hb, hbb⟩, let ⟨mc, h1, h2⟩ := hlim; ⟨mc, nsK h1, h2⟩⟩
    have e0 : Env0 P w K mg (hidT s₁.heap H) callerA [] s₁ H := ⟨rfl, hM, fun b o e => of_hidT e, Nat.le_of_eq (hidT_size _ _), trivial, fun b hb => absurd (show b ∈ ([] : List Addr) from hb) (by simp), hok, .of_eq hg⟩
    refine codeAny_mono ((F _ hKb (nsK hns)).run callerA [] s₁ H ⟨[.ref a], []⟩ [.ref a] [.ref a] _ _ hr e0 (hbind s₁ (.ref a)) (.cons rfl .nil) (hsp H hO hS)) fun r s' h => ?_
    cases r with
    | error e => exact (hCX H e s' h).elim
    | ok fl =>
      cases fl with
      | next => exact False.elim h
      | brk => exact False.elim h
      | cont => exact False.elim h
      | ret u =>
        obtain ⟨v, H', os, bare, un, hok', r', q⟩ := h
        have q' : v = .bl true := q
        subst q'
        obtain rfl : u = Value.bool true := r'
        refine ⟨rfl, OldK.of_keep fun b o e => ?_, os, bare⟩
        cases q : H b with
        | none => exact un.keep b o e q (by intro z; exact absurd (show b ∈ ([] : List Addr) from z) (by simp)) (by simp)
        | some u =>
          rcases hO b with z | ⟨ob, xs, z⟩
          · rw [q] at z; cases z
          · have z2 := un.frzs b ob _ z
            obtain ⟨e1, _⟩ := hok b _ z
            obtain ⟨e2, _⟩ := hok' b _ z2
            rw [e] at e1; cases e1
            exact e2
  cases hk : K.lookup a with
  | some o =>
    -- the script is one of the module's own objects
    have e := KX a o hk
    rw [ha] at e
    cases e
    refine core (fun _ => none) (fun _ => .inl rfl) (.inr ⟨_, vs.toArray, _, hk, rfl, rfl, rfl, by rw [List.size_toArray, lenV]; exact hl, by simpa using rv⟩) (fun b u z => by have z' : (none : Option HO) = some u := z; cases z') (fun b z => absurd rfl z) fun z => absurd rfl z
  | none =>
    refine core (fun b => if b = a then some (.frz { cls := .type "list", data := .seq vs.toArray } (.lst (ns.map V.int))) else none) (fun b => ?_) (.inl (.inr ⟨{ cls := .type "list", data := .seq vs.toArray }, if_pos rfl⟩)) (fun b u z => ?_) (fun b z => ?_) fun _ => hk
    · by_cases hb : b = a
      · exact .inr ⟨_, _, if_pos hb⟩
      · exact .inl (if_neg hb)
    · by_cases hb : b = a
      · have z' := (if_pos hb).symm.trans z
        cases z'
        subst hb
        exact ⟨ha, by rw [List.length_map]; exact hl, vs, _, rv, ha⟩
      · have z' := (if_neg hb).symm.trans z
        cases z'
    · by_cases hb : b = a
      · exact hb
      · exact absurd (if_neg hb) z
end L2

namespace L2
open PySem PySem.Spec PyProof.Rows

abbrev KOf {K : PySem.W.Frag} {h : Heap} (_ : K.In h) : PySem.W.Frag := K

/-- the goal that k_head leaves (case hc), from the law's promise. F gives the function object fd (K's own) once, then the promise over every base -/
theorem walk_of {l : PySem.W.OpenLaw} {n k : Nat} {q : Program} {loose : List Str} {XP : (Str → Option Value) → Heap → Prop} {YP : World → Heap → Prop} {d : DefRec} {K : Params → PySem.W.Frag} {CX : World → CXT} {sp : World → Sp} {x : Str}
    (hn : l.most = some n) (hn2 : n ≤ sizeLine) (hdf : d.params.defaults = []) (hr : Room k callerA)
    (hY : ∀ (w : World) (h : Heap), YP w h → (K w.params).In h)
    (F : ∀ (w : World) (mg : Str → Option Value) (fa : Addr) (h : Heap), (K w.params).In h → h.Ns mainGlobals mg → mg d.name = some (.ref fa) →
      ∃ fd : FuncData, (∀ (s : Shared) (u : Value), BindsTo s fd ⟨[u], []⟩ [(x, u)]) ∧
        ∀ base : Heap, (K w.params).In base → base.Ns mainGlobals mg → FnOk l.prog w (K w.params) mg base (CX w) k fa fd [x] (sp w))
    (hsp : ∀ (w : World) (H : Hp) (a : Addr) (ns : List Int), ns.length ≤ n → Only H → SqL (K w.params) H a (ns.map V.int) → sp w [.ref a] H (fun v _ => v = .bl true) fun _ _ _ => False)
    (hCX : ∀ (w : World) (H : Hp) (s : Shared) (e : Value) (s' : Shared), CX w [] H s (fun _ _ _ => False) e s' → False) :
    PySem.W.WalkO q loose XP YP l.row.toRowW d [] (fun f vs => PySem.call f vs) := by
  refine Att.attach_call hn hdf fun w s₀ s₁ mg mb fa o pm cd doc a vs ns G Y ho hd hcd hmg hobj hints hlen hg => ?_
  have KX := hY w _ Y
  obtain ⟨fd, hb, hF⟩ := F w mg fa _ KX G.T.g hmg
  exact law_call KX G.T.g G.T.b G.T.builtins G.T.nolimit hg hobj hints (Nat.le_trans hlen hn2) hr hF hb (fun H hO hS => hsp w H a ns hlen hO hS) fun H e s' => hCX w H s₁ e s'
end L2

/- THE LAST THEOREM (shape; LID, My.* are yours):
   My.Adr: a structure of the addresses that your layer names (classes, functions); My.Txt K t: a structure (Prop) of the equations over K;
   My.txt_mk : {K} {implicit addresses ..} (e1 : nsIn K mainGlobals "law" = some (some (.ref f))) (e2 : K.lookup f = some ⟨oc, od, .func (fnOf "law" "law" params body scope dV kV doc pm an cdv ct), sl⟩) (e3 : codeIn K cdv "law" = true) .. : ∃ t, My.Txt K t

set_option maxRecDepth 100000 in
set_option maxHeartbeats 0 in
theorem PySem.Challenge.cw_LID_holds : PySem.Challenge.rw_LID.Holds := by
  w_on; o_law; k_head; (case hw => w_witness2)
  k_fill
  refine L2.walk_of (l := PySem.Challenge.rw_LID) (n := 63) (k := 40) (x := "script") (CX := fun w => ..) (sp := fun _ => My.sp_law) rfl (by decide) rfl ⟨rfl, by decide, by decide⟩ (fun w h Y => PySem.W.kIn_of Y) ?F ?S ?C
  case F =>
    intro w mg fa h KX G hmg
    have T : ∃ t, My.Txt (L2.KOf KX) t := by
      dsimp only [L2.KOf]                          -- K must stand as «<heap const> w.params» for k_is
      refine' My.txt_mk ?e1 ?e2 ?e3 ..
      (case e1 => PySem.W.k_is)                    -- in the order: a name -> its address -> its object -> its parts
      (case e2 => PySem.W.k_is)
      ..
    obtain ⟨t, T⟩ := T
    have e0 := hmg.symm.trans (PySem.W.mg_of KX G T.law)
    cases e0                                       -- fa is the law's own address
    exact ⟨_, fun s u => .of_eq rfl, fun base kb nb => My.law_fn T kb nb⟩     -- if «.of_eq rfl» comes too early: refine' ⟨_, ?b, fun base kb nb => My.law_fn T kb nb⟩; exact fun s u => .of_eq rfl
  case S => exact fun w H a ns hl hO hS => ..
  case C => exact ..
(the tactic k_is has no namespace: write k_is) -/

/-! SHORT WORDS over the layer: a def of the text, its body, what a loop and a test want. -/
namespace L2
open PySem PySem.Spec PyProof.Rows

/-! ### the text by places -/
/-- the j-th statement of a class's body -/
def inClass (s : Stmt) (j : Nat) : Stmt := match s with
  | .ClassDef _ _ _ body _ _ _ _ _ _ _ => body.getD j (.Pass ⟨0, 0, 0, 0⟩)
  | _ => .Pass ⟨0, 0, 0, 0⟩
def defArgs (s : Stmt) : Arguments := match s with
  | .FunctionDef _ a _ _ _ _ _ _ _ _ => a
  | _ => { posonlyargs := [], args := [], vararg := none, kwonlyargs := [], kw_defaults := [], kwarg := none, defaults := [] }
def defBody (s : Stmt) : List Stmt := match s with
  | .FunctionDef _ _ b _ _ _ _ _ _ _ => b
  | _ => []
def defScope (s : Stmt) : Scope := match s with
  | .FunctionDef _ _ _ _ _ _ sc _ _ _ => sc
  | _ => { kind := .function, names := [], isGenerator := false, isCoroutine := false }

/-! ### no exception leaves a def -/
abbrev CX0 : CXT := fun _ _ _ _ _ _ => False
abbrev E0 : XK := fun _ _ _ => False
theorem pass0 {X : Cx} : Passes CX0 X E0 := fun _ _ _ _ _ _ _ h => h.elim

/-! ### a def (or method) of the text as it stands behind the top -/
structure Fun (K : PySem.W.Frag) (x qual : Str) (st : Stmt) (f : Addr) (fd : FuncData) : Prop where
  ex : ∃ (oc : Value) (od : Option Addr) (kV doc pm : Value) (an : Option Addr) (cdv ct : Value) (osl : Array (Option Value)),
    fd = PySem.W.fnOf x qual (defArgs st) (defBody st) (defScope st) .none kV doc pm an cdv ct ∧ K.lookup f = some ⟨oc, od, .func fd, osl⟩ ∧ PySem.W.codeIn K cdv qual = true
  kp : PySem.W.keepIn K (.ref f) = true
section
variable {P : Program} {w : World} {K : PySem.W.Frag} {mg : Str → Option Value} {base : Heap}
/-- THE RULE for a def: its body as a term of rules, and the reading of that term -/
theorem Fun.ok {x qual : Str} {st : Stmt} {f : Addr} {fd : FuncData} {N ps : List Str} {k : Nat} {sp : Sp} (F : Fun K x qual st f fd) (S : FnScope N ps (defScope st)) (len : ∀ vs H Q E, sp vs H Q E → vs.length = ps.length)
    (hbody : ∀ (cdv : Value) (A : Around) (outer : List Env) (s : Shared) (H : Hp) (vs : List V) (Q : VK) (E : XK), Room k (A.deeper (envOfC qual (defScope st) s.heap.objs.size f cdv)) → sp vs H Q E →
      ∃ t, PSs (cxOf CX0 P w K mg base N qual (defScope st) f cdv A outer s H E).nox (defBody st) t ∧ t { nx := fun _ H' => Q .non H', rt := Q } (start N vs) H) : FnOk P w K mg base CX0 (k + 1) f fd ps sp := by
  obtain ⟨oc, od, kV, doc, pm, an, cdv, ct, osl, rfl, lk, hcd⟩ := F.ex
  refine fn_of lk hcd S len fun A outer s H vs Q E hr hsp => ?_
  obtain ⟨t, h, q⟩ := hbody cdv A outer s H vs Q E hr hsp
  exact ⟨t, h.nox, q⟩
/-- how its arguments bind (no defaults): h is «fun _ _ _ _ _ _ us hl => match us, hl with | [_, _], _ => rfl», one _ a parameter -/
theorem Fun.binds {x qual : Str} {st : Stmt} {f : Addr} {fd : FuncData} {ps : List Str} (F : Fun K x qual st f fd)
    (h : ∀ (kV doc pm : Value) (an : Option Addr) (cdv ct : Value) (us : List Value), us.length = ps.length → bindArgs (PySem.W.fnOf x qual (defArgs st) (defBody st) (defScope st) .none kV doc pm an cdv ct) ⟨us, []⟩ = pure (ps.zip us)) : Binds K fd ps [] := by
  obtain ⟨oc, od, kV, doc, pm, an, cdv, ct, osl, rfl, lk, hcd⟩ := F.ex
  exact .all (h kV doc pm an cdv ct)
theorem fun_mk {x qual : Str} {st : Stmt} {f : Addr} {oc : Value} {od an : Option Addr} {osl : Array (Option Value)} {kV doc pm cdv ct : Value} (l : K.lookup f = some ⟨oc, od, .func (PySem.W.fnOf x qual (defArgs st) (defBody st) (defScope st) .none kV doc pm an cdv ct), osl⟩)
    (c : PySem.W.codeIn K cdv qual = true) (k : PySem.W.keepIn K (.ref f) = true) : Fun K x qual st f (PySem.W.fnOf x qual (defArgs st) (defBody st) (defScope st) .none kV doc pm an cdv ct) := ⟨⟨oc, od, kV, doc, pm, an, cdv, ct, osl, rfl, l, c⟩, k⟩
end
/-! ### expressions in short: the name that stands in the i-th slot -/
section
variable {X : Cx}
theorem pv (i : Nat) {x : Str} {pos : Pos} (hN : X.N[i]? = some x := by rfl) (hv : Vis X.env.scope x := by first | exact Or.inl rfl | exact Or.inr (Or.inl rfl) | exact Or.inr (Or.inr rfl)) (hd : (x == ("__debug__" : Str)) = false := by decide)
    (hcd : (x == ("__classdict__" : Str)) = false := by decide) : PE X (.Name x pos) (tVar i) := pe_var hN hv hd hcd
end

/-! ### tests -/
theorem iteF {A B : Prop} (h : B) : if false = true then A else B := by
  rw [if_neg Bool.false_ne_true]
  exact h
theorem iteT {A B : Prop} (h : A) : if true = true then A else B := by
  rw [if_pos rfl]
  exact h
/-! ### heaps -/
/-- all that was tracked is as it was -/
def Same (H H' : Hp) : Prop := ∀ b o, H b = some o → H' b = some o
theorem Same.refl (H : Hp) : Same H H := fun _ _ h => h
theorem Same.trans {H H1 H2 : Hp} (a : Same H H1) (b : Same H1 H2) : Same H H2 := fun c o h => b c o (a c o h)
theorem Same.free {H H' : Hp} (e : Same H H') {l : Addr} (h : H' l = Option.none) : H l = Option.none := by
  cases q : H l with
  | none => rfl
  | some o =>
    rw [e l o q] at h
    cases h
theorem Same.seq {K : PySem.W.Frag} {H H' : Hp} {a : Addr} {xs : List V} (e : Same H H') (h : SqL K H a xs) : SqL K H' a xs := by
  rcases h with (h | ⟨o, h⟩) | h
  · exact .inl (.inl (e _ _ h))
  · exact .inl (.inr ⟨o, e _ _ h⟩)
  · exact .inr h

end L2
namespace L2
open PySem PySem.Spec PyProof.Rows
section
variable {X : Cx}
end
/-! ### a dict's pairs: keys that differ -/
section
variable {κ : Type} [DecidableEq κ]
end
end L2
set_option Elab.async false
set_option linter.all false
set_option maxRecDepth 100000
/-! A LIST COMPREHENSION with one generator, over the layer. -/
namespace L2
open PySem PySem.Spec PyProof.Rows

/-- the closure's cells -/
def clos (cells : List (Str × Addr)) : List (Str × NameKind) → List (Str × Addr) → List (Str × Addr)
  | [], acc => acc
  | (n, k) :: r, acc => clos cells r (if k == .free then (n, (cells.lookup n).getD 0) :: acc else acc)
theorem clos_run {env : Env} : ∀ (names : List (Str × NameKind)) (acc : List (Str × Addr)), (∀ y ∈ names, y.2 = .free → ∃ c, env.cells.lookup y.1 = some c) →
    (forIn names acc (fun (x : Str × NameKind) (r : List (Str × Addr)) => if (x.2 == NameKind.free) = true then (do let a ← cellOf env x.1; pure (ForInStep.yield ((x.1, a) :: r))) else pure (ForInStep.yield r)) : Sem (List (Str × Addr))) = pure (clos env.cells names acc)
  | [], acc, _ => rfl
  | (n, k) :: r, acc, h => by
    rw [List.forIn_cons]
    have ih := fun a => clos_run r a fun y hy => h y (List.mem_cons_of_mem _ hy)
    cases hk : (k == NameKind.free) with
    | true =>
      have hk' : k = .free := by cases k <;> first | rfl | exact absurd hk (by decide)
      obtain ⟨c, hc⟩ := h (n, k) List.mem_cons_self hk'
      have hc' : env.cells.lookup n = some c := hc
      have e : cellOf env n = pure c := by unfold cellOf; rw [hc']
      dsimp only
      rw [if_pos rfl, e]
      show (forIn r ((n, c) :: acc) _ : Sem _) = _
      rw [ih]
      conv => rhs; unfold clos
      rw [if_pos hk, hc']
      rfl
    | false =>
      dsimp only
      rw [if_neg (by decide)]
      show (forIn r acc _ : Sem _) = _
      rw [ih]
      conv => rhs; unfold clos
      rw [if_neg (by rw [hk]; decide)]
theorem closure_of {scope : Scope} {env : Env} (h : ∀ y ∈ scope.names, y.2 = .free → ∃ c, env.cells.lookup y.1 = some c) : closureFor scope env = pure (clos env.cells scope.names []) := by
  have e := clos_run scope.names [] h
  simp only [closureFor]
  rw [e]
  rfl
theorem clos_in {cells : List (Str × Addr)} : ∀ {names : List (Str × NameKind)} {acc : List (Str × Addr)} {x : Str} {c : Addr}, (∀ y ∈ names, y.2 = .free → ∃ c, cells.lookup y.1 = some c) → (∀ x c, acc.lookup x = some c → cells.lookup x = some c) →
    (clos cells names acc).lookup x = some c → cells.lookup x = some c
  | [], acc, x, c, _, ha, h => ha x c h
  | (n, k) :: r, acc, x, c, hn, ha, h => by
    unfold clos at h
    refine clos_in (fun y hy => hn y (List.mem_cons_of_mem _ hy)) (fun y d hy => ?_) h
    split at hy
    · rename_i hk
      have hk' : k = .free := by cases k <;> first | rfl | exact absurd hk (by decide)
      obtain ⟨c', hc⟩ := hn (n, k) List.mem_cons_self hk'
      have hc' : cells.lookup n = some c' := hc
      rw [List.lookup_cons] at hy
      cases e : (y == n) with
      | true =>
        rw [e] at hy
        have ey : y = n := by simpa using e
        subst ey
        rw [hc'] at hy ⊢
        exact hy
      | false =>
        rw [e] at hy
        exact ha y d hy
    · exact ha y d hy
theorem clos_acc {cells : List (Str × Addr)} : ∀ {names : List (Str × NameKind)} {acc : List (Str × Addr)} {x : Str}, (∃ c, acc.lookup x = some c) → ∃ c, (clos cells names acc).lookup x = some c
  | [], _, _, h => h
  | (n, k) :: r, acc, x, h => by
    unfold clos
    refine clos_acc ?_
    split
    · rw [List.lookup_cons]
      cases (x == n) with
      | true => exact ⟨_, rfl⟩
      | false => exact h
    · exact h
theorem clos_has {cells : List (Str × Addr)} : ∀ {names : List (Str × NameKind)} {acc : List (Str × Addr)} {x : Str}, (x, NameKind.free) ∈ names → ∃ c, (clos cells names acc).lookup x = some c
  | [], _, _, h => by cases h
  | (n, k) :: r, acc, x, h => by
    unfold clos
    rcases List.mem_cons.mp h with e | e
    · cases e
      refine clos_acc ?_
      rw [if_pos (by decide), List.lookup_cons]
      simp
    · exact clos_has e

/-- the context of a comprehension's block -/
def cxComp (X : Cx) (N : List Str) (scope : Scope) (cl : List (Str × Addr)) (C : Addr) (fp : List Addr) (s : Shared) (H : Hp) : Cx :=
  { X with N := N, s₀ := s, H₀ := H, env := compEnvC scope cl C X.env, outer := X.stack, stack := X.stack, ex := fp, fn := fun _ => false, pn := [], xe := fun _ _ => False }

/-- the block's names: its own (none) and the ones of the def about it (their slots there) -/
def inner (μ : List (Option Nat)) (σ : St) : St := μ.map fun o => o.bind fun j => (σ[j]?).join
def muOk (oN : List Str) (osc : Scope) (N : List Str) (isc : Scope) (μ : List (Option Nat)) : Bool :=
  decide (μ.length = N.length) && (μ.zip N).all fun (o, x) => match o with
    | none => true
    | some j => decide (oN[j]? = some x) && decide (osc.names.lookup x = some .cell) && (decide (isc.names.lookup x = some .cell) || decide (isc.names.lookup x = some .free))
theorem muOk.get {oN N : List Str} {osc isc : Scope} {μ : List (Option Nat)} (h : muOk oN osc N isc μ = true) {i j : Nat} {x : Str} (h1 : μ[i]? = some (some j)) (h2 : N[i]? = some x) :
    oN[j]? = some x ∧ osc.names.lookup x = some .cell ∧ (isc.names.lookup x = some .cell ∨ isc.names.lookup x = some .free) := by
  unfold muOk at h
  rw [Bool.and_eq_true] at h
  have hz : (μ.zip N)[i]? = some (some j, x) := by rw [List.getElem?_zip_eq_some]; exact ⟨h1, h2⟩
  have q := List.all_eq_true.mp h.2 _ (List.mem_of_getElem? hz)
  simp only [Bool.and_eq_true, Bool.or_eq_true, decide_eq_true_eq] at q
  exact ⟨q.1.1, q.1.2, q.2⟩

section
variable {prog : Program} {w : World} {A : Around} {R : Result → Shared → Prop} {s : Shared}
/-- the block's loop, the iterator's step as it is -/
theorem compLoop_go {elt target iter : Expr} {ifs : List Expr} {scope : Scope} {pos : Pos} {it acc : Value} {env : Env} (I : Nat → Shared → Prop)
    (turn : ∀ n s, I n s → wpAny (model prog w) A (pyNext it) (fun r s₁ => match r with
      | none => R (.ok .next) s₁
      | some v => wpAny (model prog w) A (letOwnedTupleGo target it v) (fun _ s₂ => wpAny (model prog w) A (assign target env v) (fun _ s₂ =>
          wpAny (model prog w) A (forIn ifs true fun c r => if r = true then do let ok ← isTrue c env (eval c env); pure (ForInStep.yield ok) else pure (ForInStep.yield r)) (fun ok s₃ =>
            if ok = true then wpAny (model prog w) A (eval elt env) (fun x s₄ =>
              wpAny (model prog w) A (call (.builtin "list.append") [acc, x]) (fun _ s₅ => ∃ m, m < n ∧ I m s₅) (fun _ _ => False) s₄) (fun _ _ => False) s₃
            else ∃ m, m < n ∧ I m s₃) (fun _ _ => False) s₂) (fun _ _ => False) s₂) (fun _ _ => False) s₁) (fun _ _ => False) s)
    (n : Nat) (h : I n s) :
    codeAny (model prog w) A (.compLoop (.ListComp elt [⟨target, iter, ifs, 0⟩] scope pos) 0 it acc env) R s := by
  refine codeAny_loop rfl I (fun n s hI => ?_) n h
  show wpAny _ A ((compTurn (.ListComp elt [⟨target, iter, ifs, 0⟩] scope pos) 0 it acc env).onRaise (fun x => do noteFrame x env; theTreesLotGoes x)) _ _ s
  refine wpAny_noted ?_
  rw [compTurn_list]
  refine wpAny_bind (wpAny_standAt (wpAny_bind (wpAny_mono (turn n s hI) (fun r s₁ h₁ => ?_) fun _ _ h' => h'.elim)))
  cases r with
  | none => exact wpAny_pure h₁
  | some v =>
    refine wpAny_bind (wpAny_mono h₁ (fun _ s₂ h₂ => wpAny_bind (wpAny_mono h₂ (fun _ s₃ h₃ => wpAny_bind (wpAny_mono h₃ (fun ok s₄ h₄ => ?_) fun _ _ h' => h'.elim)) fun _ _ h' => h'.elim)) fun _ _ h' => h'.elim)
    cases ok with
    | false => exact wpAny_pure ⟨rfl, h₄⟩
    | true =>
      exact wpAny_bind (wpAny_bind (wpAny_mono h₄ (fun x s₅ h₅ => wpAny_bind (wpAny_mono h₅ (fun _ s₆ h₆ => wpAny_pure (wpAny_pure ⟨rfl, h₆⟩)) fun _ _ h' => h'.elim)) fun _ _ h' => h'.elim))
end

/-- the block's tests -/
def PTs (X : Cx) (ifs : List Expr) (t : TT) : Prop :=
  ∀ (pins : List (Addr × Obj)) (s : Shared) (σ : St) (H : Hp) (Q : Bool → Hp → Prop), Inv X pins σ H s → t σ H Q →
    wpAny (model X.prog X.w) X.A (forIn ifs true fun c r => if r = true then do let ok ← isTrue c X.env (eval c X.env); pure (ForInStep.yield ok) else pure (ForInStep.yield r)) (TP X pins σ Q) X.xe s
theorem pts_nil {X : Cx} : PTs X [] (fun _ H Q => Q true H) := fun pins s σ H Q I h => wpAny_tests_nil ⟨H, I, h⟩
/-- what a comprehension wants: p the new list -/
def compW (μ : List (Option Nat)) (g : TG) (tt : TT) (te : TE) (σ : St) (Q : VK) (J : It) (H1 : Hp) : Prop :=
  ∀ p, H1 p = none → ∃ W : Nat → Nat → St → Hp → Prop, (∃ m, W 0 m (inner μ σ) (upd H1 p (.lst []))) ∧ ∀ i m σ' H', W i m σ' H' →
    (J.stop i H' ∧ Q (.ref p) H') ∨ (J.go i H' ∧ ∃ Nn : St → Hp → Prop, (∀ σ2 H2, Nn σ2 H2 → ∃ m', m' < m ∧ W (i + 1) m' σ2 H2) ∧
      ∀ x H2, J.yld i H' x H2 → g x σ' H2 fun σ3 H3 => tt σ3 H3 fun b H4 => if b = true then te σ3 H4 fun y H5 => ∃ ys, H5 p = some (.lst ys) ∧ ys.length < sizeLine ∧ Nn σ3 (upd H5 p (.lst (ys ++ [y]))) else Nn σ3 H4)
def tComp (μ : List (Option Nat)) (wi : TI) (g : TG) (tt : TT) (te : TE) : TE := fun σ H Q => wi σ H (compW μ g tt te σ Q)

section
variable {X : Cx} {pins : List (Addr × Obj)} {σ : St} {H2 : Hp} {s2 : Shared} {tg iter elt : Expr} {ifs : List Expr} {scope : Scope} {pos : Pos} {it : Addr} {fp : List Addr} {tn : Nat → Heap → Prop} {J : It} {N : List Str} {μ : List (Option Nat)} {g : TG} {tt : TT} {te : TE} {Q : VK}
theorem comp_core {RR : Value → Addr → Result → Shared → Prop} (I2 : Inv X pins σ H2 s2) (T : Turn X.prog X.w X.K tg J fp it tn) (st2 : tn 0 s2.heap) (f2 : ∀ b ∈ fp, FpOk X pins H2 b) (hc : X.calm = true)
    (hcell : ∀ y ∈ scope.names, y.2 ≠ .cell) (hkind : scope.kind = .function) (hfr : ∀ y ∈ scope.names, y.2 = .free → ∃ c, X.env.cells.lookup y.1 = some c)
    (hhas : ∀ x, ((relabel scope X.env).names.lookup x = some .cell ∨ (relabel scope X.env).names.lookup x = some .free) → (x, NameKind.free) ∈ scope.names)
    (hμ : muOk X.N X.env.scope N (relabel scope X.env) μ = true)
    (hg : ∀ C s H, PG (cxComp X N scope (clos X.env.cells scope.names []) C fp s H) tg g) (ht : ∀ C s H, PTs (cxComp X N scope (clos X.env.cells scope.names []) C fp s H) ifs tt) (he : ∀ C s H, PE (cxComp X N scope (clos X.env.cells scope.names []) C fp s H) elt te)
    (hW : compW μ g tt te σ Q J H2)
    (hRR : ∀ p C s' H' m, Inv X pins σ H' s' → s'.heap.Ns C m → FpOk X pins H' C → Q (.ref p) H' → RR (.ref p) C (.ok .next) s') :
    wpAny (model X.prog X.w) X.A (newList []) (fun acc s₃ => wpAny (model X.prog X.w) X.A (newFunctionEnv scope X.env.globals (clos X.env.cells scope.names []) [] X.env.qual none .none (some X.env)) (fun cenv s₄ =>
      codeAny (model X.prog X.w) X.A (.compStart (.ListComp elt [⟨tg, iter, ifs, 0⟩] scope pos) 0 (.ref it) acc { cenv with scope := relabel scope X.env }) (RR acc cenv.locals) s₄) X.xe s₃) X.xe s2 := by
  refine wpAny_newObj_type (wpAny_newFunctionEnv hcell (by intro y hy; simp at hy) (fun h₁ hns₁ hsb₁ => ?_) hkind)
  dsimp only at hns₁ hsb₁ ⊢
  generalize hH2 : s2.heap.push { cls := .type "list", dict := none, data := .seq ([] : List Value).toArray } = G at hns₁ hsb₁ ⊢
  have hC : G.objs.size = s2.heap.objs.size + 1 := by rw [← hH2, Heap.size_push]
  have hDC : s2.heap.objs.size ≠ G.objs.size := by rw [hC]; exact Nat.ne_of_lt (Nat.lt_succ_self _)
  have hCle : s2.heap.objs.size ≤ G.objs.size := by rw [hC]; exact Nat.le_succ _
  have below : ∀ b, b < s2.heap.objs.size → b ≠ G.objs.size ∧ b ≠ s2.heap.objs.size := fun b hb => ⟨by rw [hC]; exact Nat.ne_of_lt (Nat.lt_succ_of_lt hb), Nat.ne_of_lt hb⟩
  have old : ∀ b o, s2.heap.get? b = some o → h₁.get? b = some o := fun b o e => hsb₁.extBut b o (below b (Heap.lt_size e)).1 (Heap.get?_push_of_some _ (hH2 ▸ Heap.get?_push_of_some _ e))
  have hobj : h₁.get? s2.heap.objs.size = some { cls := .type "list", dict := none, data := .seq ([] : List Value).toArray } := hsb₁.extBut _ _ hDC (Heap.get?_push_of_some _ (hH2 ▸ Heap.get?_push_size _ rfl))
  have hclin : ∀ x c, (clos X.env.cells scope.names []).lookup x = some c → X.env.cells.lookup x = some c := fun x c h => clos_in hfr (fun _ _ z => by simp at z) h
  have cellt : ∀ x c, (clos X.env.cells scope.names []).lookup x = some c → c < s2.heap.objs.size := fun x c h => by
    obtain ⟨v, o, ho, _⟩ := I2.cell x c (hclin x c h)
    exact Heap.lt_size ho
  have fplt : ∀ b ∈ fp, b < s2.heap.objs.size := fun b hb => by
    obtain ⟨o, ho, _⟩ := T.obj 0 _ st2 b hb
    exact Heap.lt_size ho
  have Hn : ∀ a, s2.heap.objs.size ≤ a → H2 a = none := fun a ha => I2.hok.fresh ha
  obtain ⟨W, ⟨m0, w0⟩, turn⟩ := hW s2.heap.objs.size (Hn _ (Nat.le_refl _))
  have okc : (cxComp X N scope (clos X.env.cells scope.names []) G.objs.size fp s2 H2).Ok := by
    refine ⟨I2.ok.mod, by show (relabel scope X.env).kind = _; exact hkind, I2.ok.glob, I2.ok.blt, hCle, fun x y c h1 h2 => ?_, fun x hx => ?_, fun _ _ z => (by cases z), I2.ok.hd, I2.ok.frames, .inl rfl, fun b hb => ⟨?_, fun x c h z => ?_⟩, I2.bs, Nat.le_trans I2.ok.bsz I2.sz, fun b o e hb => ?_, fun b hb z => ?_, I2.stack, I2.stkFree⟩
    · exact I2.ok.inj x y c (hclin x c h1) (hclin y c h2)
    · exact clos_has (hhas x hx)
    · exact (below b (fplt b hb)).1
    · exact (f2 b hb).2.2.2.2.1 x c (hclin x c h) z
    · rcases (f2 b hb).2.2.2.1 with z | z
      · exact I2.ok.noex b o e z
      · exact absurd (Nat.lt_of_lt_of_le (Heap.lt_size e) (Nat.le_trans I2.ok.bsz z)) (Nat.lt_irrefl _)
    · rcases List.mem_cons.mp (I2.stkSub b z) with e | e
      · exact (f2 b hb).2.1 e
      · exact (f2 b hb).2.2.1 e
  have Hfree : ∀ b, b ≠ s2.heap.objs.size → H2 b = none → (upd H2 s2.heap.objs.size (.lst [])) b = none := fun b h1 h2 => by rw [upd_ne h1]; exact h2
  have I3 : Inv (cxComp X N scope (clos X.env.cells scope.names []) G.objs.size fp s2 H2) [] (inner μ σ) (upd H2 s2.heap.objs.size (.lst [])) { s2 with heap := h₁, toks := s2.toks + ([] : List (Str × Value)).length } := by
    refine ⟨okc, rfl, I2.bare, Un.laid old (Nat.le_refl _) (Hn _ (Nat.le_refl _)), ⟨_, hns₁, fun i x v e1 e2 e3 => ?_⟩, fun x c h => ?_, Hfree _ hDC.symm (Hn _ hCle), fun x c h => (I2.freeC x c (hclin x c h)).elim (fun z => .inl (Hfree _ (below c (cellt x c h)).2 z)) (fun ⟨_, o1, b1, z⟩ => .inr ⟨rfl, o1, b1, by rw [upd_ne (below c (cellt x c h)).2]; exact z⟩), fun p hp => absurd (show p ∈ ([] : List (Addr × Obj)) from hp) (by simp), I2.hok.laid old (Nat.le_refl _) ⟨by decide, [], 0, .nil, hobj⟩, ?_⟩
    · have e1' : N[i]? = some x := e1
      have e2' : (μ.map fun o => o.bind fun j => (σ[j]?).join)[i]? = some (some v) := e2
      rw [List.getElem?_map] at e2'
      cases q : μ[i]? with
      | none => rw [q] at e2'; cases e2'
      | some o =>
        rw [q] at e2'
        cases o with
        | none => cases e2'
        | some j =>
          have e4 : (σ[j]?).join = some v := Option.some.inj e2'
          have e5 : σ[j]? = some (some v) := by
            cases z : σ[j]? with
            | none => rw [z] at e4; cases e4
            | some y => rw [z] at e4; cases y with
              | none => cases e4
              | some y => rw [show y = v from Option.some.inj e4]
          obtain ⟨a1, a2, a3⟩ := muOk.get hμ q e1'
          obtain ⟨m, hn, hl⟩ := I2.loc
          obtain ⟨u, r, l⟩ := hl j x v a1 e5 (.inr (.inl a2))
          refine ⟨u, r, ?_⟩
          rcases l with ⟨k, _⟩ | ⟨_, c, hcc, hce⟩
          · exact absurd ((show X.env.scope.names.lookup x = some .local from k).symm.trans a2) (by intro z; cases z)
          · obtain ⟨c', hc'⟩ : ∃ c, (clos X.env.cells scope.names []).lookup x = some c := clos_has (hhas x a3)
            have ec : c' = c := Option.some.inj ((hclin x c' hc').symm.trans hcc)
            subst ec
            exact .inr ⟨a3, c', hc', hce.keeps old⟩
    · obtain ⟨v, z⟩ := I2.cell x c (hclin x c h)
      exact ⟨v, z.keeps old⟩
    · show (μ.map _).length = N.length
      rw [List.length_map]
      have q := hμ
      unfold muOk at q
      rw [Bool.and_eq_true] at q
      exact of_decide_eq_true q.1
  have fin : ∀ {σ' : St} {H' : Hp} {s' : Shared}, Inv (cxComp X N scope (clos X.env.cells scope.names []) G.objs.size fp s2 H2) [] σ' H' s' → Q (.ref s2.heap.objs.size) H' → RR (.ref s2.heap.objs.size) G.objs.size (.ok .next) s' := fun {σ' H' s'} I4 q => by
    have I5 : Inv X pins σ H' s' := I2.call' (ch := fp) I4.os I4.base I4.hok I4.bare fun b hb => ⟨(f2 b hb).2.2.2.1, (f2 b hb).2.1, (f2 b hb).2.2.2.2.1, (f2 b hb).2.2.2.2.2⟩
    obtain ⟨m, hn, _⟩ := I4.loc
    have hn' : s'.heap.Ns G.objs.size m := hn
    refine hRR _ _ s' H' m I5 hn' ⟨I4.free, Nat.ne_of_gt (Nat.lt_of_lt_of_le I2.lt hCle), I2.nofs hCle, .inr (Nat.le_trans I2.sz hCle), fun x c h z => ?_, fun p hp z => ?_⟩ q
    · obtain ⟨v, o, ho, _⟩ := I2.cell x c h
      exact (below c (Heap.lt_size ho)).1 z
    · exact (below p.1 (Heap.lt_size (I2.pin p hp).1)).1 z
  have stat : ∀ {H' : Hp}, (∀ b ∈ fp, H' b = none) → ∀ b ∈ fp, FpOk (cxComp X N scope (clos X.env.cells scope.names []) G.objs.size fp s2 H2) [] H' b := fun {H'} hn b hb => by
    refine ⟨hn b hb, (below b (fplt b hb)).1, fun z => ?_, .inl hb, fun x c h z => (f2 b hb).2.2.2.2.1 x c (hclin x c h) z, fun p hp => absurd (show p ∈ ([] : List (Addr × Obj)) from hp) (by simp)⟩
    exact okc.exfs b hb z
  have loop : codeAny (model X.prog X.w) X.A (.compLoop (.ListComp elt [⟨tg, iter, ifs, 0⟩] scope pos) 0 (.ref it) (.ref s2.heap.objs.size) (compEnvC scope (clos X.env.cells scope.names []) G.objs.size X.env))
      (RR (.ref s2.heap.objs.size) G.objs.size) { s2 with heap := h₁, toks := s2.toks + ([] : List (Str × Value)).length } := by
    refine compLoop_go (fun n s' => ∃ i σ' H', Inv (cxComp X N scope (clos X.env.cells scope.names []) G.objs.size fp s2 H2) [] σ' H' s' ∧ tn i s'.heap ∧ (∀ b ∈ fp, H' b = none) ∧ W i n σ' H') ?_ m0
      ⟨0, inner μ σ, _, I3, T.keep _ _ _ st2 (fun b hb o e => old b o e), fun b hb => Hfree b (below b (fplt b hb)).2 (f2 b hb).1, w0⟩
    rintro n s3 ⟨i, σ3, H3, I3, st3, fr3, w3⟩
    rcases turn i n σ3 H3 w3 with ⟨stop, qn⟩ | ⟨go, Nn, hN, step⟩
    · refine thn (T.done (cxComp X N scope (clos X.env.cells scope.names []) G.objs.size fp s2 H2) rfl rfl rfl hc i [] s3 σ3 H3 _ I3 (stat fr3) st3 stop) fun r s4 ⟨hr, I4⟩ => ?_
      subst hr
      exact fin I4 qn
    · refine thn (T.item (cxComp X N scope (clos X.env.cells scope.names []) G.objs.size fp s2 H2) rfl rfl rfl hc i [] s3 σ3 H3 _ I3 (stat fr3) st3 go) fun r s4 ⟨u, hr, h4⟩ => ?_
      subst hr
      refine thn h4 fun _ s5 hw' => ?_
      obtain ⟨x, H5, I5, r5, y5, st5, fr5⟩ := hw'
      have I5' := I5.pinned (stat fr5) (T.obj _ _ st5)
      have again : ∀ {σ7 : St} {H7 : Hp} {s7 : Shared}, Inv (cxComp X N scope (clos X.env.cells scope.names []) G.objs.size fp s2 H2) ([] ++ pinsAt fp s5.heap) σ7 H7 s7 → Nn σ7 H7 →
          ∃ m, m < n ∧ ∃ i σ' H', Inv (cxComp X N scope (clos X.env.cells scope.names []) G.objs.size fp s2 H2) [] σ' H' s7 ∧ tn i s7.heap ∧ (∀ b ∈ fp, H' b = none) ∧ W i m σ' H' := fun {σ7 H7 s7} I7 n7 => by
        obtain ⟨m', hm, w7⟩ := hN σ7 H7 n7
        refine ⟨m', hm, i + 1, σ7, H7, I7.unpinned, T.keep _ _ _ st5 fun b hb o e => (I7.pin (b, o) (List.mem_append_right _ (List.mem_append_right _ (mem_pinsAt hb e)))).1, fun b hb => ?_, w7⟩
        obtain ⟨o, e, d⟩ := T.obj _ _ st5 b hb
        exact (I7.pin (b, o) (List.mem_append_right _ (List.mem_append_right _ (mem_pinsAt hb e)))).2.1
      refine thn (hg G.objs.size s2 H2 _ s5 σ3 H5 x u _ I5' r5 (step x H5 y5)) fun _ s6 hw' => ?_
      obtain ⟨σ6, H6, I6, q6⟩ := hw'
      refine thn (ht G.objs.size s2 H2 _ s6 σ6 H6 _ I6 q6) fun ok s7 ⟨H7, I7, q7⟩ => ?_
      cases ok with
      | false =>
        rw [if_neg (by decide)] at q7 ⊢
        exact again I7 q7
      | true =>
        rw [if_pos rfl] at q7 ⊢
        refine thn (he G.objs.size s2 H2 _ s7 σ6 H7 _ I7 q7) fun u8 s8 hw' => ?_
        obtain ⟨y, H8, I8, r8, ys, e8, l8, q8⟩ := hw'
        have ma := mt_append (X := cxComp X N scope (clos X.env.cells scope.names []) G.objs.size fp s2 H2) _ s8 σ6 H8 (.ref s2.heap.objs.size) [y] (.ref s2.heap.objs.size) [u8]
          (fun _ H9 => Nn σ6 H9) I8 rfl (.cons r8 .nil) ⟨_, ys, y, rfl, rfl, e8, l8, q8⟩
        exact thn ma fun _ s9 ⟨_, H9, I9, _, q9⟩ => again I9 q9
  exact codeAny_compStart_list loop (T.self _ 0 _ _ _ (T.keep _ _ _ st2 (fun b hb o e => old b o e)) loop)

/-- name = [..], stored ahead of the block's end -/
theorem ps_comp {wi : TI} {i : Nat} {y : Str} {py spos : Pos} (hN : X.N.Nodup) (hiN : X.N[i]? = some y) (hx : Loc X.env.scope y) (hc : X.calm = true) (hcell : ∀ y ∈ scope.names, y.2 ≠ .cell) (hkind : scope.kind = .function) (hnames : ∀ y ∈ scope.names, y.2 = .local → scope.names.lookup y.1 = some .local)
    (hfree : ∀ y ∈ scope.names, y.2 = .free → X.env.kindOf y.1 = some .cell ∨ X.env.kindOf y.1 = some .free)
    (hhas : ∀ x, ((relabel scope X.env).names.lookup x = some .cell ∨ (relabel scope X.env).names.lookup x = some .free) → (x, NameKind.free) ∈ scope.names)
    (hμ : muOk X.N X.env.scope N (relabel scope X.env) μ = true) (hi : PI X tg iter wi)
    (hg : ∀ fp C s H, PG (cxComp X N scope (clos X.env.cells scope.names []) C fp s H) tg g) (ht : ∀ fp C s H, PTs (cxComp X N scope (clos X.env.cells scope.names []) C fp s H) ifs tt) (he : ∀ fp C s H, PE (cxComp X N scope (clos X.env.cells scope.names []) C fp s H) elt te)
    (hsw : swapsWith (.ListComp elt [⟨tg, iter, ifs, 0⟩] scope pos) (some (.Name y py)) spos.line X.env = pure true := by rfl)
    (hf : X.fn y = true ∨ X.env.scope.names.lookup y = some .local := by first | exact .inl rfl | exact .inr rfl | assumption)
    (hs : ∀ x, foldedSetIterable iter X.env x = pure x := by intro _; rfl) : PS X (.Assign [.Name y py] (.ListComp elt [⟨tg, iter, ifs, 0⟩] scope pos) spos) (tAsg (tComp μ wi g tt te) (gName i)) := by
  intro pins s σ H D I h
  have hfr : ∀ y ∈ scope.names, y.2 = .free → ∃ c, X.env.cells.lookup y.1 = some c := fun y hy hk => I.ok.has y.1 (hfree y hy hk)
  rw [exec_Assign_Name_used _ _ _ _ hsw]
  refine wpAny_bind (wpAny_standAt (wpAny_bind ?_))
  show wpAny _ _ (do let _ ← comprehension (.ListComp elt [⟨tg, iter, ifs, 0⟩] scope pos) scope X.env _ (newList []) false (eval iter X.env) (some (assign (.Name y py) X.env))) _ _ s
  refine wpAny_bind (wpAny_mono (wpAny_comprehension_free (use := some (assign (.Name y py) X.env)) (Q := fun _ s' => SP X pins D .next s') rfl hs (closure_of hfr) hkind hnames
    (thn (hi pins s σ H _ I h) fun v s1 h1 => thn h1 fun itv s2 h2 => ?_)) (fun _ s' hq => wpAny_pure (wpAny_pure hq)) fun _ _ e => e)
  obtain ⟨it, fp, tn, J, H2, rfl, I2, T, st2, f2, W⟩ := h2
  refine comp_core (RR := fun acc C => compPost (model X.prog X.w) X.A X.xe (some (assign (.Name y py) X.env)) (fun _ s' => SP X pins D .next s') acc C) I2 T st2 f2 hc hcell hkind hfr hhas hμ (hg fp) (ht fp) (he fp) W ?_
  intro p C s' H' m I' hn fc q
  show wpAny _ _ (assign (.Name y py) X.env (.ref p)) _ _ s'
  refine wpAny_assign_Name (store_ok2 (v := .ref p) I' hN hiN hx rfl (fun s'' I'' hsm => ?_) hf)
  obtain ⟨a, sb, ha⟩ := hsm
  have ne : C ≠ a := by
    rcases ha with ha | ha
    · rw [ha]; exact fc.2.1
    · exact (fc.2.2.2.2.1 y a ha).symm
  exact ⟨m, hn.sameBut sb ne, fun h' hsb => ⟨_, H', I''.turned (t' := s''.toks) (fun b o ne e => (hsb.2 b ne).trans e) fc.1 fc.2.1 fc.2.2.2.1 fc.2.2.2.2.1 fc.2.2.2.2.2, q⟩⟩
end
end L2
set_option Elab.async false
set_option linter.all false
set_option maxRecDepth 100000
/-! PLAIN DATA OVER THE LAYER: what an expression, a block, a def is worth as a total Lean function over plain data. -/
namespace DL
open PySem PySem.Spec PyProof.Rows L2

abbrev St := L2.St
/-- plain data; scr: the script; obj: the n-th object that may change -/
inductive D where
  | non | bl (b : Bool) | int (i : Int) | str (x : Str) | tup (xs : List D) | lst (xs : List D) | scr (ns : List Int) | obj (n : Nat)

mutual
def Is (K : PySem.W.Frag) (α : List Addr) (F : Hp) : D → V → Prop
  | .non, v => v = .non
  | .bl b, v => v = .bl b
  | .int i, v => v = .int i
  | .str x, v => v = .str x
  | .tup xs, v => ∃ a vs, v = .ref a ∧ F a = some (.tup vs) ∧ IsL K α F xs vs
  | .lst xs, v => ∃ a vs, v = .ref a ∧ F a = some (.lst vs) ∧ IsL K α F xs vs
  | .scr ns, v => ∃ a, v = .ref a ∧ SqL K F a (ns.map V.int)
  | .obj n, v => ∃ a, α[n]? = some a ∧ v = .ref a
def IsL (K : PySem.W.Frag) (α : List Addr) (F : Hp) : List D → List V → Prop
  | [], vs => vs = []
  | d :: ds, vs => ∃ v r, vs = v :: r ∧ Is K α F d v ∧ IsL K α F ds r
end

section
variable {K : PySem.W.Frag} {α α' : List Addr} {F F' : Hp}
mutual
theorem Is.mono (ff : Same F F') (al : ∃ more, α' = α ++ more) : ∀ (d : D) {v : V}, Is K α F d v → Is K α' F' d v
  | .non, _, h => by rw [Is] at h ⊢; exact h
  | .bl _, _, h => by rw [Is] at h ⊢; exact h
  | .int _, _, h => by rw [Is] at h ⊢; exact h
  | .str _, _, h => by rw [Is] at h ⊢; exact h
  | .tup xs, _, h => by
    rw [Is] at h ⊢
    obtain ⟨a, vs, e, q, r⟩ := h
    exact ⟨a, vs, e, ff _ _ q, IsL.mono ff al xs r⟩
  | .lst xs, _, h => by
    rw [Is] at h ⊢
    obtain ⟨a, vs, e, q, r⟩ := h
    exact ⟨a, vs, e, ff _ _ q, IsL.mono ff al xs r⟩
  | .scr ns, _, h => by
    rw [Is] at h ⊢
    obtain ⟨a, e, q⟩ := h
    exact ⟨a, e, ff.seq q⟩
  | .obj n, _, h => by
    rw [Is] at h ⊢
    obtain ⟨a, e, q⟩ := h
    obtain ⟨more, rfl⟩ := al
    refine ⟨a, ?_, q⟩
    rw [List.getElem?_append_left (List.getElem?_eq_some_iff.mp e).1]
    exact e
theorem IsL.mono (ff : Same F F') (al : ∃ more, α' = α ++ more) : ∀ (ds : List D) {vs : List V}, IsL K α F ds vs → IsL K α' F' ds vs
  | [], _, h => by rw [IsL] at h ⊢; exact h
  | d :: ds, _, h => by
    rw [IsL] at h ⊢
    obtain ⟨v, r, e, h1, h2⟩ := h
    exact ⟨v, r, e, Is.mono ff al d h1, IsL.mono ff al ds h2⟩
end
theorem IsL.nil : IsL K α F [] [] := by rw [IsL]
theorem IsL.cons {d : D} {v : V} {ds : List D} {vs : List V} (h : Is K α F d v) (r : IsL K α F ds vs) : IsL K α F (d :: ds) (v :: vs) := by rw [IsL]; exact ⟨v, vs, rfl, h, r⟩
theorem IsL.of_nil {vs : List V} (h : IsL K α F [] vs) : vs = [] := by rw [IsL] at h; exact h
theorem IsL.of_cons {d : D} {ds : List D} {vs : List V} (h : IsL K α F (d :: ds) vs) : ∃ v r, vs = v :: r ∧ Is K α F d v ∧ IsL K α F ds r := by rw [IsL] at h; exact h
theorem IsL.length : ∀ {ds : List D} {vs : List V}, IsL K α F ds vs → ds.length = vs.length
  | [], vs, h => by rw [h.of_nil]; rfl
  | d :: ds, vs, h => by
    obtain ⟨v, r, rfl, _, t⟩ := h.of_cons
    rw [List.length_cons, List.length_cons, t.length]
theorem IsL.append : ∀ {ds es : List D} {vs us : List V}, IsL K α F ds vs → IsL K α F es us → IsL K α F (ds ++ es) (vs ++ us)
  | [], _, _, _, h, q => by rw [h.of_nil]; exact q
  | d :: ds, es, vs, us, h, q => by
    obtain ⟨v, r, rfl, h1, t⟩ := h.of_cons
    exact .cons h1 (t.append q)
theorem IsL.take : ∀ {ds : List D} {vs : List V} (n : Nat), IsL K α F ds vs → IsL K α F (ds.take n) (vs.take n)
  | [], _, n, h => by rw [h.of_nil, List.take_nil, List.take_nil]; exact .nil
  | d :: ds, vs, 0, h => by rw [List.take_zero, List.take_zero]; exact .nil
  | d :: ds, vs, n + 1, h => by
    obtain ⟨v, r, rfl, h1, t⟩ := h.of_cons
    exact .cons h1 (t.take n)
theorem IsL.drop : ∀ {ds : List D} {vs : List V} (n : Nat), IsL K α F ds vs → IsL K α F (ds.drop n) (vs.drop n)
  | [], _, n, h => by rw [h.of_nil, List.drop_nil, List.drop_nil]; exact .nil
  | d :: ds, vs, 0, h => h
  | d :: ds, vs, n + 1, h => by
    obtain ⟨v, r, rfl, h1, t⟩ := h.of_cons
    exact t.drop n
theorem IsL.get : ∀ {ds : List D} {vs : List V} {i : Nat} {d : D}, IsL K α F ds vs → ds[i]? = some d → ∃ v, vs[i]? = some v ∧ Is K α F d v
  | [], _, _, _, _, e => by simp at e
  | d :: ds, vs, 0, x, h, e => by
    obtain ⟨v, r, rfl, h1, t⟩ := h.of_cons
    rw [List.getElem?_cons_zero] at e
    cases e
    exact ⟨v, rfl, h1⟩
  | d :: ds, vs, i + 1, x, h, e => by
    obtain ⟨v, r, rfl, h1, t⟩ := h.of_cons
    rw [List.getElem?_cons_succ] at e
    obtain ⟨u, e1, q⟩ := t.get e
    exact ⟨u, by rw [List.getElem?_cons_succ]; exact e1, q⟩
theorem IsL.rep {ds : List D} {vs : List V} (h : IsL K α F ds vs) : ∀ n : Nat, IsL K α F (List.replicate n ds).flatten (List.replicate n vs).flatten
  | 0 => .nil
  | n + 1 => by
    rw [List.replicate_succ, List.replicate_succ, List.flatten_cons, List.flatten_cons]
    exact h.append (h.rep n)
theorem IsL.ints : ∀ (ns : List Int), IsL K α F (ns.map D.int) (ns.map V.int)
  | [] => .nil
  | n :: ns => .cons (by rw [Is]) (IsL.ints ns)
end

/-- the state at a place: the objects' places, what stands for ever, what belongs to the objects, the whole -/
structure E4 where
  α : List Addr
  F : Hp
  A : Addr → Prop
  H : Hp
structure Ext (e e' : E4) : Prop where
  fz : ∀ b o u, e.H b = some (.frz o u) → e'.H b = some (.frz o u)
  hk : ∀ b o, e.H b = some o → ¬ e.A b → e'.H b = some o
  dm : ∀ b o, e.H b = some o → ∃ o', e'.H b = some o'
  ff : Same e.F e'.F
  fn : ∀ b o, e'.F b = some o → e.F b = some o ∨ e.H b = none ∨ ((∃ xs, o = .tup xs) ∧ e.H b = some o ∧ ¬ e.A b)
  an : ∀ b, e'.A b → e.A b ∨ e.H b = none
  aa : ∀ b, e.A b → e'.A b
  al : ∃ more, e'.α = e.α ++ more
theorem Ext.refl (e : E4) : Ext e e := ⟨fun _ _ _ h => h, fun _ _ h _ => h, fun _ o h => ⟨o, h⟩, Same.refl _, fun _ _ h => .inl h, fun _ h => .inl h, fun _ h => h, [], by simp⟩
theorem Ext.back {e e' : E4} (x : Ext e e') {b : Addr} (h : e'.H b = none) : e.H b = none := by
  cases q : e.H b with
  | none => rfl
  | some o => obtain ⟨o', z⟩ := x.dm b o q; rw [h] at z; cases z
theorem Ext.trans {a b c : E4} (x : Ext a b) (y : Ext b c) : Ext a c := by
  refine ⟨fun p o u h => y.fz p o u (x.fz p o u h), fun p o h hn => y.hk p o (x.hk p o h hn) fun z => ?_, fun p o h => ?_, x.ff.trans y.ff, fun p o h => ?_, fun p h => ?_, fun p h => y.aa p (x.aa p h), ?_⟩
  · rcases x.an p z with q | q
    · exact hn q
    · rw [q] at h; cases h
  · obtain ⟨o', h'⟩ := x.dm p o h
    exact y.dm p o' h'
  · rcases y.fn p o h with q | q | ⟨q1, q2, q3⟩
    · exact x.fn p o q
    · exact .inr (.inl (x.back q))
    · have n : ¬ a.A p := fun z => q3 (x.aa p z)
      cases z : a.H p with
      | none => exact .inr (.inl rfl)
      | some o' =>
        have z' := x.hk p o' z n
        rw [q2] at z'
        cases z'
        exact .inr (.inr ⟨q1, rfl, n⟩)
  · rcases y.an p h with q | q
    · exact x.an p q
    · exact .inr (x.back q)
  · obtain ⟨m, e1⟩ := x.al
    obtain ⟨n, e2⟩ := y.al
    exact ⟨m ++ n, by rw [e2, e1, List.append_assoc]⟩

/-- a list of one's own stays so -/
theorem Ext.keepOwn {e e' : E4} (x : Ext e e') {a : Addr} {vs : List V} (h : e.H a = some (.lst vs)) (hF : e.F a = none) (hA : ¬ e.A a) : e'.H a = some (.lst vs) ∧ e'.F a = none ∧ ¬ e'.A a := by
  refine ⟨x.hk a _ h hA, ?_, fun z => ?_⟩
  · cases z : e'.F a with
    | none => rfl
    | some o =>
      rcases x.fn a o z with y | y | ⟨⟨xs, rfl⟩, y, _⟩
      · rw [hF] at y; cases y
      · rw [h] at y; cases y
      · rw [h] at y; cases y
  · rcases x.an a z with y | y
    · exact hA y
    · rw [h] at y; cases y

/-- an object that may change -/
inductive OS where
  | mls (xs : List D) | dead | exc (c : Str) | ins (c : Str) (fs : List (Str × D)) | fzK (kvs : List (Key × D)) | dK (kvs : List (Key × D)) | dT (kvs : List (List Key × D))
  | tab (l : Str) (pos : Pos) (q : Str) | clo (l q x : Str) (m : Nat)
/-- pairs by their keys -/
def PsIs (K : PySem.W.Frag) (α : List Addr) (F : Hp) {κ : Type} : List (κ × D) → List (κ × V) → Prop
  | [], vs => vs = []
  | p :: r, vs => ∃ v t, vs = (p.1, v) :: t ∧ Is K α F p.2 v ∧ PsIs K α F r t
theorem PsIs.mono {K : PySem.W.Frag} {α α' : List Addr} {F F' : Hp} {κ : Type} (ff : Same F F') (al : ∃ more, α' = α ++ more) : ∀ {ps : List (κ × D)} {vs : List (κ × V)}, PsIs K α F ps vs → PsIs K α' F' ps vs
  | [], _, h => h
  | p :: r, _, ⟨v, t, e, i, q⟩ => ⟨v, t, e, Is.mono ff al _ i, PsIs.mono ff al q⟩
abbrev Cl := Str → Option Addr
/-- the def that the module's def x makes -/
def isDef : Stmt → Bool
  | .FunctionDef .. => true
  | _ => false
def nestIn (K : PySem.W.Frag) (x : Str) : Option Stmt := match PySem.W.nsIn K mainGlobals x with
  | some (some (.ref f)) => (match K.lookup f with
    | some ⟨_, _, .func fd, _⟩ => (match fd.body with
      | .stmts b => b.find? isDef
      | _ => none)
    | _ => none)
  | _ => none
def OSIs (K : PySem.W.Frag) (C : Cl) (e : E4) (a : Addr) : OS → Prop
  | .mls xs => ∃ vs, e.H a = some (.lst vs) ∧ IsL K e.α e.F xs vs
  | .dead => True
  | .exc c => ∃ Ca ob u, C c = some Ca ∧ e.H a = some (.frz ob u) ∧ ob.cls = .ref Ca
  | .ins c fs => ∃ Ca dx fvs, C c = some Ca ∧ e.H a = some (.ins Ca dx fvs) ∧ PsIs K e.α e.F fs fvs
  | .fzK kvs => ∃ vs o, e.H a = some (.frz o (.dK vs)) ∧ PsIs K e.α e.F kvs vs
  | .dK kvs => ∃ vs, e.H a = some (.dK vs) ∧ PsIs K e.α e.F kvs vs
  | .dT kvs => ∃ vs, e.H a = some (.dT vs) ∧ PsIs K e.α e.F kvs vs
  | .tab l pos q => ∃ cd, PySem.W.tabIn K l = some (cd, a) ∧ (e.H a = some (.tbl #[]) ∨ ∃ c' ob, e.H a = some (.tbl #[rawInt pos.line, rawInt pos.col, .ref c']) ∧ e.F c' = some (.frz ob (.own 0)) ∧ ∃ vs t, ob.data = .fields vs ∧ vs[1]? = some (.str q t))
  | .clo l q x m => ∃ st c am c' nm doc pm ctv cob ob, nestIn K l = some st ∧ e.H a = some (.frz { cls := .type "function", data := .func (PySem.W.fnX nm q (defArgs st) (defBody st) (defScope st) [(x, c)] .none .none doc pm none (.ref c') ctv) } (.own 0)) ∧
      e.F c = some (.frz cob (.own a)) ∧ cob.data = .cell (some (.ref am)) ∧ e.α[m]? = some am ∧ e.F c' = some (.frz ob (.own 0)) ∧ ∃ vs t, ob.data = .fields vs ∧ vs[1]? = some (.str q t)
structure Wf (K : PySem.W.Frag) (C : Cl) (e : E4) (Ω : List OS) : Prop where
  fh : Same e.F e.H
  fa : ∀ b, e.A b → e.F b = none
  ah : ∀ b, e.A b → e.H b ≠ none ∧ ∀ xs, e.H b ≠ some (.tup xs)
  ol : e.α.length = Ω.length
  nd : e.α.Nodup
  ob : ∀ (n : Nat) (a : Addr) (o : OS), e.α[n]? = some a → Ω[n]? = some o → e.A a ∧ OSIs K C e a o
section
variable {K : PySem.W.Frag} {C : Cl} {e e' : E4} {Ω Ω' : List OS}
theorem Is.ext (x : Ext e e') {d : D} {v : V} (h : Is K e.α e.F d v) : Is K e'.α e'.F d v := Is.mono x.ff x.al d h
theorem IsL.ext (x : Ext e e') {d : List D} {v : List V} (h : IsL K e.α e.F d v) : IsL K e'.α e'.F d v := IsL.mono x.ff x.al d h
/-- a new thing that stands for ever -/
def E4.new (e : E4) (p : Addr) (o : HO) : E4 := ⟨e.α, upd e.F p o, e.A, upd e.H p o⟩
theorem Wf.nF (w : Wf K C e Ω) {p : Addr} (hp : e.H p = none) : e.F p = none := by
  cases q : e.F p with
  | none => rfl
  | some o => rw [w.fh p o q] at hp; cases hp
theorem Wf.new_ext (w : Wf K C e Ω) {p : Addr} {o : HO} (hp : e.H p = none) : Ext e (e.new p o) := by
  refine ⟨fun b o' u h => ?_, fun b u h _ => ?_, fun b u h => ⟨u, ?_⟩, fun b u h => ?_, fun b u h => ?_, fun b h => .inl h, fun b h => h, [], by simp [E4.new]⟩
  · show upd e.H p o b = some (.frz o' u); rw [upd_ne (ne_of_none h hp)]; exact h
  · show upd e.H p o b = some u; rw [upd_ne (ne_of_none h hp)]; exact h
  · show upd e.H p o b = some u; rw [upd_ne (ne_of_none h hp)]; exact h
  · show upd e.F p o b = some u; rw [upd_ne (ne_of_none h (w.nF hp))]; exact h
  · have h : upd e.F p o b = some u := h
    by_cases hb : b = p
    · subst hb; exact .inr (.inl hp)
    · rw [upd_ne hb] at h; exact .inl h
theorem OSIs.keep {a : Addr} {o : OS} (h : OSIs K C e a o) (hH : ∀ u, e.H a = some u → e'.H a = some u) (ff : Same e.F e'.F) (al : ∃ more, e'.α = e.α ++ more) : OSIs K C e' a o := by
  cases o with
  | mls xs => obtain ⟨vs, h1, h2⟩ := h; exact ⟨vs, hH _ h1, IsL.mono ff al xs h2⟩
  | dead => trivial
  | exc c => obtain ⟨Ca, ob, u, h1, h2, h3⟩ := h; exact ⟨Ca, ob, u, h1, hH _ h2, h3⟩
  | ins c fs => obtain ⟨Ca, dx, fvs, h1, h2, h3⟩ := h; exact ⟨Ca, dx, fvs, h1, hH _ h2, h3.mono ff al⟩
  | fzK kvs => obtain ⟨vs, ob, h1, h2⟩ := h; exact ⟨vs, ob, hH _ h1, h2.mono ff al⟩
  | dK kvs => obtain ⟨vs, h1, h2⟩ := h; exact ⟨vs, hH _ h1, h2.mono ff al⟩
  | dT kvs => obtain ⟨vs, h1, h2⟩ := h; exact ⟨vs, hH _ h1, h2.mono ff al⟩
  | tab l pos q =>
    obtain ⟨cd, h0, h1 | ⟨c', ob, h1, h2, h3⟩⟩ := h
    · exact ⟨cd, h0, .inl (hH _ h1)⟩
    · exact ⟨cd, h0, .inr ⟨c', ob, hH _ h1, ff _ _ h2, h3⟩⟩
  | clo l q x m =>
    obtain ⟨st, c, am, c', nm, doc, pm, ctv, cob, ob, h0, h1, h2, h3, h4, h5, h6⟩ := h
    refine ⟨st, c, am, c', nm, doc, pm, ctv, cob, ob, h0, hH _ h1, ff _ _ h2, h3, ?_, ff _ _ h5, h6⟩
    obtain ⟨more, z⟩ := al
    rw [z, List.getElem?_append_left (List.getElem?_eq_some_iff.mp h4).1]
    exact h4
theorem Wf.new (w : Wf K C e Ω) {p : Addr} {o : HO} (hp : e.H p = none) : Wf K C (e.new p o) Ω := by
  have x : Ext e (e.new p o) := w.new_ext hp
  have ne : ∀ b, e.A b → b ≠ p := fun b h z => by subst z; exact (w.ah b h).1 hp
  refine ⟨fun b u h => ?_, fun b h => ?_, fun b h => ?_, w.ol, w.nd, fun n a u h1 h2 => ⟨(w.ob n a u h1 h2).1, (w.ob n a u h1 h2).2.keep (fun v hv => ?_) x.ff x.al⟩⟩
  · have h : upd e.F p o b = some u := h
    show upd e.H p o b = some u
    by_cases hb : b = p
    · subst hb; rw [upd_same] at h ⊢; exact h
    · rw [upd_ne hb] at h ⊢; exact w.fh b u h
  · show upd e.F p o b = none
    rw [upd_ne (ne b h)]; exact w.fa b h
  · show upd e.H p o b ≠ none ∧ ∀ xs, upd e.H p o b ≠ some (.tup xs)
    rw [upd_ne (ne b h)]; exact w.ah b h
  · show upd e.H p o a = some v
    rw [upd_ne (ne a (w.ob n a u h1 h2).1)]; exact hv
end

/-- a name: nothing known, data, a list of its own -/
inductive Sl where
  | und | dat (d : D) | own (xs : List D)
structure RelE (K : PySem.W.Frag) (e : E4) (σ : St) (ρ : List Sl) : Prop where
  len : σ.length = ρ.length
  dat : ∀ (i : Nat) (d : D), ρ[i]? = some (.dat d) → ∃ v, σ[i]? = some (some v) ∧ Is K e.α e.F d v
  own : ∀ (i : Nat) (ds : List D), ρ[i]? = some (.own ds) → ∃ a vs, σ[i]? = some (some (.ref a)) ∧ e.H a = some (.lst vs) ∧ IsL K e.α e.F ds vs ∧ e.F a = none ∧ ¬ e.A a
  sep : ∀ (i j : Nat) (ds es : List D) (a : Addr), ρ[i]? = some (.own ds) → ρ[j]? = some (.own es) → σ[i]? = some (some (.ref a)) → σ[j]? = some (some (.ref a)) → i = j
section
variable {K : PySem.W.Frag} {C : Cl} {e e' e₀ : E4} {Ω Ω' : List OS} {σ : St} {ρ : List Sl}
theorem RelE.ext (r : RelE K e σ ρ) (x : Ext e e') : RelE K e' σ ρ := by
  refine ⟨r.len, fun i d h => ?_, fun i ds h => ?_, r.sep⟩
  · obtain ⟨v, e1, q⟩ := r.dat i d h
    exact ⟨v, e1, q.ext x⟩
  · obtain ⟨a, vs, e1, e2, q, n1, n2⟩ := r.own i ds h
    obtain ⟨z1, z2, z3⟩ := x.keepOwn e2 n1 n2
    exact ⟨a, vs, e1, z1, q.ext x, z2, z3⟩
theorem RelE.set (r : RelE K e σ ρ) (i : Nat) {d : D} {v : V} (h : Is K e.α e.F d v) : RelE K e (σ.set i (some v)) (ρ.set i (.dat d)) := by
  refine ⟨by simp [r.len], fun j d' hj => ?_, fun j ds hj => ?_, fun j k ds es a hj hk h1 h2 => ?_⟩
  · by_cases e1 : i = j
    · subst e1
      have hl : i < ρ.length := by
        have := (List.getElem?_eq_some_iff.mp hj).1
        simpa using this
      rw [List.getElem?_set_self hl] at hj
      cases hj
      exact ⟨v, List.getElem?_set_self (by rw [r.len]; exact hl), h⟩
    · rw [List.getElem?_set_ne e1] at hj ⊢
      exact r.dat j d' hj
  · by_cases e1 : i = j
    · subst e1
      have hl : i < ρ.length := by
        have := (List.getElem?_eq_some_iff.mp hj).1
        simpa using this
      rw [List.getElem?_set_self hl] at hj
      cases hj
    · rw [List.getElem?_set_ne e1] at hj ⊢
      exact r.own j ds hj
  · have ne : ∀ (j : Nat) (ds : List D), (ρ.set i (.dat d))[j]? = some (.own ds) → i ≠ j := fun j ds hj e1 => by
      subst e1
      have hl : i < ρ.length := by
        have := (List.getElem?_eq_some_iff.mp hj).1
        simpa using this
      rw [List.getElem?_set_self hl] at hj
      cases hj
    have n1 := ne j ds hj
    have n2 := ne k es hk
    rw [List.getElem?_set_ne n1] at hj h1
    rw [List.getElem?_set_ne n2] at hk h2
    exact r.sep j k ds es a hj hk h1 h2
end

/-! ### the readings -/
abbrev Den := List Sl → List OS → Option (D × List OS)
abbrev TDen := List Sl → List OS → Option (Bool × List OS)
abbrev ADen := List Sl → List OS → Option (List D × List OS)
def tD (K : PySem.W.Frag) (C : Cl) (g : Den) : TE := fun σ H Q => ∃ e Ω ρ d Ω', e.H = H ∧ Wf K C e Ω ∧ RelE K e σ ρ ∧ g ρ Ω = some (d, Ω') ∧ ∀ v e', Ext e e' → Wf K C e' Ω' → Is K e'.α e'.F d v → Q v e'.H
def tDT (K : PySem.W.Frag) (C : Cl) (g : TDen) : TT := fun σ H Q => ∃ e Ω ρ b Ω', e.H = H ∧ Wf K C e Ω ∧ RelE K e σ ρ ∧ g ρ Ω = some (b, Ω') ∧ ∀ e', Ext e e' → Wf K C e' Ω' → Q b e'.H
def tDA (K : PySem.W.Frag) (C : Cl) (g : ADen) : TA := fun σ H Q => ∃ e Ω ρ ds Ω', e.H = H ∧ Wf K C e Ω ∧ RelE K e σ ρ ∧ g ρ Ω = some (ds, Ω') ∧ ∀ vs e', Ext e e' → Wf K C e' Ω' → IsL K e'.α e'.F ds vs → Q vs e'.H
def PD (X : Cx) (C : Cl) (x : Expr) (g : Den) : Prop := PE X x (tD X.K C g)
def PDT (X : Cx) (C : Cl) (x : Expr) (g : TDen) : Prop := PT X x (tDT X.K C g)
def PDW (X : Cx) (C : Cl) (x : Expr) (g : TDen) : Prop := PW X x (tDT X.K C g)
def PDA (X : Cx) (C : Cl) (xs : List Expr) (g : ADen) : Prop := PA X xs (tDA X.K C g)
section
variable {X : Cx} {C : Cl} {x : Expr}
theorem pe_imp {t t' : TE} (h : PE X x t) (i : ∀ σ H Q, t' σ H Q → t σ H Q) : PE X x t' := fun pins s σ H Q I hw => h pins s σ H Q I (i σ H Q hw)
theorem pt_imp {t t' : TT} (h : PT X x t) (i : ∀ σ H Q, t' σ H Q → t σ H Q) : PT X x t' := fun pins s σ H Q I hw => h pins s σ H Q I (i σ H Q hw)
theorem pw_imp {t t' : TT} (h : PW X x t) (i : ∀ σ H Q, t' σ H Q → t σ H Q) : PW X x t' := fun whole pins s σ H Q I hw => h whole pins s σ H Q I (i σ H Q hw)
theorem pa_imp {xs : List Expr} {t t' : TA} (h : PA X xs t) (i : ∀ σ H Q, t' σ H Q → t σ H Q) : PA X xs t' := fun pos pins s σ H Q I hw => h pos pins s σ H Q I (i σ H Q hw)
theorem ps_imp {st : Stmt} {t t' : TS} (h : PS X st t) (i : ∀ D σ H, t' D σ H → t D σ H) : PS X st t' := fun pins s σ H D I hw => h pins s σ H D I (i D σ H hw)
theorem pss_imp {st : List Stmt} {t t' : TS} (h : PSs X st t) (i : ∀ D σ H, t' D σ H → t D σ H) : PSs X st t' := fun pins s σ H D I hw => h pins s σ H D I (i D σ H hw)

/-! ### names, constants -/
def gVar (i : Nat) : Den := fun ρ Ω => match ρ[i]? with | some (.dat d) => some (d, Ω) | _ => none
theorem pd_var {i : Nat} (h : PE X x (tVar i)) : PD X C x (gVar i) := pe_imp h fun σ H Q hw' => by
  obtain ⟨e, Ω, ρ, d, Ω', eH, w, r, g, k⟩ := hw'
  subst eH
  unfold gVar at g
  cases q : ρ[i]? with
  | none => rw [q] at g; cases g
  | some s =>
    rw [q] at g
    cases s with
    | dat d' =>
      cases g
      obtain ⟨v, e1, i1⟩ := r.dat _ _ q
      exact ⟨v, e1, k v e (Ext.refl e) w i1⟩
    | und => cases g
    | own _ => cases g
def gC (d : D) : Den := fun _ Ω => some (d, Ω)
theorem pd_c {v : V} {d : D} (h : PE X x (tC v)) (hd : ∀ α F, Is X.K α F d v) : PD X C x (gC d) := pe_imp h fun σ H Q hw' => by
  obtain ⟨e, Ω, ρ, d', Ω', eH, w, r, g, k⟩ := hw'
  subst eH
  cases g
  exact k v e (Ext.refl e) w (hd _ _)
theorem pd_int {i : Int} {j pos} : PD X C (.Constant (.int i) j pos) (gC (.int i)) := pd_c pe_int fun _ _ => by rw [Is]
theorem pd_bl {b : Bool} {j pos} : PD X C (.Constant (.bool b) j pos) (gC (.bl b)) := pd_c pe_bl fun _ _ => by rw [Is]
end

/-! ### two-place operations -/
def OpD (X : Cx) (C : Cl) (f : Value → Value → Sem Value) (r : D → D → Option D) : Prop :=
  OpR X f fun x y H Q => ∃ e Ω d₁ d₂ z, e.H = H ∧ Wf X.K C e Ω ∧ Is X.K e.α e.F d₁ x ∧ Is X.K e.α e.F d₂ y ∧ r d₁ d₂ = some z ∧ ∀ v e', Ext e e' → Wf X.K C e' Ω → Is X.K e'.α e'.F z v → Q v e'.H
def gOp (r : D → D → Option D) (f g : Den) : Den := fun ρ Ω => match f ρ Ω with
  | some (x, Ω₁) => match g ρ Ω₁ with
    | some (y, Ω₂) => match r x y with
      | some z => some (z, Ω₂)
      | none => none
    | none => none
  | none => none
section
variable {X : Cx} {C : Cl} {a b : Expr} {f g : Den} {r : D → D → Option D} {pos : Pos}
theorem op_read {K : PySem.W.Frag} {r' : R2} (hr : ∀ x y H Q, (∃ e Ω d₁ d₂ z, e.H = H ∧ Wf K C e Ω ∧ Is K e.α e.F d₁ x ∧ Is K e.α e.F d₂ y ∧ r d₁ d₂ = some z ∧ ∀ v e', Ext e e' → Wf K C e' Ω → Is K e'.α e'.F z v → Q v e'.H) → r' x y H Q)
    {σ : St} {H : Hp} {Q : VK} (h : tD K C (gOp r f g) σ H Q) : tOp r' (tD K C f) (tD K C g) σ H Q := by
  obtain ⟨e, Ω, ρ, d, Ω', eH, w, rl, q, k⟩ := h
  unfold gOp at q
  cases q1 : f ρ Ω with
  | none => rw [q1] at q; cases q
  | some p1 =>
    obtain ⟨x, Ω₁⟩ := p1
    rw [q1] at q
    dsimp only at q
    cases q2 : g ρ Ω₁ with
    | none => rw [q2] at q; cases q
    | some p2 =>
      obtain ⟨y, Ω₂⟩ := p2
      rw [q2] at q
      dsimp only at q
      cases q3 : r x y with
      | none => rw [q3] at q; cases q
      | some z =>
        rw [q3] at q
        cases q
        refine ⟨e, Ω, ρ, x, Ω₁, eH, w, rl, q1, fun v e1 x1 w1 i1 => ?_⟩
        refine ⟨e1, Ω₁, ρ, y, _, rfl, w1, rl.ext x1, q2, fun u e2 x2 w2 i2 => ?_⟩
        exact hr v u e2.H Q ⟨e2, _, x, y, d, rfl, w2, i1.ext x2, i2, q3, fun v' e3 x3 w3 i3 => k v' e3 ((x1.trans x2).trans x3) w3 i3⟩
theorem pd_op {op : Operator} (ho : OpD X C (binaryOp op) r) (ha : PD X C a f) (hb : PD X C b g) : PD X C (.BinOp a op b pos) (gOp r f g) :=
  pe_imp (pe_op ho ha hb) fun σ H Q h => op_read (fun _ _ _ _ h => h) h
/-- a value's truth, where it is a bool -/
def gT (g : Den) : TDen := fun ρ Ω => match g ρ Ω with
  | some (.bl b, Ω') => some (b, Ω')
  | _ => none
theorem gT_read {K : PySem.W.Frag} {σ : St} {H : Hp} {Q : Bool → Hp → Prop} (h : tDT K C (gT g) σ H Q) : tD K C g σ H fun x H' => ∃ c, x = V.bl c ∧ Q c H' := by
  obtain ⟨e, Ω, ρ, b, Ω', eH, w, rl, q, k⟩ := h
  unfold gT at q
  cases q1 : g ρ Ω with
  | none => rw [q1] at q; cases q
  | some p1 =>
    obtain ⟨x, Ω₁⟩ := p1
    rw [q1] at q
    cases x with
    | bl c =>
      cases q
      refine ⟨e, Ω, ρ, _, _, eH, w, rl, q1, fun v e1 x1 w1 i1 => ?_⟩
      rw [Is] at i1
      exact ⟨b, i1, k e1 x1 w1⟩
    | _ => cases q
theorem pdt_cmp {op : CmpOp} (ho : OpD X C (compareOp op) r) (ha : PD X C a f) (hb : PD X C b g) (hm : behindInMarks op b = false) : PDT X C (.Compare a [op] [b] pos) (gT (gOp r f g)) :=
  pt_imp (pt_cmpR ho ha hb hm) fun σ H Q h => op_read (fun _ _ _ _ h => h) (gT_read h)
theorem pdt_val {x : Expr} (h : PD X C x g) (he : ∀ whole, isTrue x X.env whole = (do let v ← whole; standAt x.pos; holding [v] (truthy v)) := by intro _; rfl) : PDT X C x (gT g) :=
  pt_imp (pt_val h he) fun σ H Q h => gT_read h
/-- ints -/
def dI (c : Int → Int → Bool) (f : Int → Int → Int) : D → D → Option D
  | .int i, .int j => if c i j = true then some (.int (f i j)) else none
  | _, _ => none
def dB (f : Int → Int → Bool) : D → D → Option D
  | .int i, .int j => some (.bl (f i j))
  | _, _ => none
theorem dI_inv {c : Int → Int → Bool} {f : Int → Int → Int} {d₁ d₂ z : D} (h : dI c f d₁ d₂ = some z) : ∃ i j, d₁ = .int i ∧ d₂ = .int j ∧ c i j = true ∧ z = .int (f i j) := by
  unfold dI at h
  split at h
  · split at h
    · cases h; exact ⟨_, _, rfl, rfl, ‹_›, rfl⟩
    · cases h
  · cases h
theorem dB_inv {f : Int → Int → Bool} {d₁ d₂ z : D} (h : dB f d₁ d₂ = some z) : ∃ i j, d₁ = .int i ∧ d₂ = .int j ∧ z = .bl (f i j) := by
  unfold dB at h
  split at h
  · cases h; exact ⟨_, _, rfl, rfl, rfl⟩
  · cases h
theorem is_i {K : PySem.W.Frag} {α : List Addr} {F : Hp} {i : Int} {v : V} (h : Is K α F (.int i) v) : v = .int i := by rw [Is] at h; exact h
theorem opD_I {h : Value → Value → Sem Value} {P : Int → Int → Prop} {c : Int → Int → Bool} {k : Int → Int → Int} (ho : OpR X h (rI P fun i j => .int (k i j))) (hc : ∀ i j, c i j = true → P i j) : OpD X C h (dI c k) := by
  rintro pins s σ H x y v u Q I rx ry ⟨e, Ω, d₁, d₂, z, eH, w, i1, i2, q, kk⟩
  obtain ⟨i, j, e1, e2, hcc, e3⟩ := dI_inv q
  rw [e1] at i1
  rw [e2] at i2
  refine ho pins s σ _ x y v u Q I rx ry ⟨i, j, is_i i1, is_i i2, hc i j hcc, ?_⟩
  rw [← eH]
  exact kk _ e (Ext.refl e) w (by rw [e3, Is])
theorem opD_I0 {h : Value → Value → Sem Value} {k : Int → Int → Int} (ho : OpR X h (rI0 fun i j => .int (k i j))) : OpD X C h (dI (fun _ _ => true) k) := by
  rintro pins s σ H x y v u Q I rx ry ⟨e, Ω, d₁, d₂, z, eH, w, i1, i2, q, kk⟩
  obtain ⟨i, j, e1, e2, hcc, e3⟩ := dI_inv q
  rw [e1] at i1
  rw [e2] at i2
  refine ho pins s σ _ x y v u Q I rx ry ⟨i, j, is_i i1, is_i i2, ?_⟩
  rw [← eH]
  exact kk _ e (Ext.refl e) w (by rw [e3, Is])
theorem opD_B {h : Value → Value → Sem Value} {k : Int → Int → Bool} (ho : OpR X h (rI0 fun i j => .bl (k i j))) : OpD X C h (dB k) := by
  rintro pins s σ H x y v u Q I rx ry ⟨e, Ω, d₁, d₂, z, eH, w, i1, i2, q, kk⟩
  obtain ⟨i, j, e1, e2, e3⟩ := dB_inv q
  rw [e1] at i1
  rw [e2] at i2
  refine ho pins s σ _ x y v u Q I rx ry ⟨i, j, is_i i1, is_i i2, ?_⟩
  rw [← eH]
  exact kk _ e (Ext.refl e) w (by rw [e3, Is])
end
end DL
set_option Elab.async false
set_option linter.all false
set_option maxRecDepth 100000
namespace DL
open PySem PySem.Spec PyProof.Rows L2

/-- how long lists and texts may grow here -/
abbrev big : Nat := 100000
theorem big_line {n : Nat} (h : n ≤ big) : n ≤ sizeLine := Nat.le_trans h (by decide)
theorem big_lt {n : Nat} (h : n < big) : n < sizeLine := Nat.lt_of_lt_of_le h (by decide)

open Classical in
/-- a bound: nothing here is reckoned by evaluation -/
noncomputable def grd {β : Type} (P : Prop) (x : Option β) : Option β := if P then x else none
theorem grd_pos {β : Type} {P : Prop} {x : Option β} (h : P) : grd P x = x := if_pos h
theorem grd_some {β : Type} {P : Prop} {x : Option β} {z : β} (h : grd P x = some z) : P ∧ x = some z := by
  by_cases q : P
  · rw [grd_pos q] at h; exact ⟨q, h⟩
  · have e : grd P x = none := if_neg q
    rw [e] at h; cases h
section
variable {X : Cx} {C : Cl} {a b c x : Expr} {f g h : Den} {r : D → D → Option D} {pos : Pos}

/-! ### the kinds of + and * -/
def addD : D → D → Option D
  | .int i, .int j => some (.int (i + j))
  | .lst xs, .lst ys => if xs.length + ys.length ≤ big then some (.lst (xs ++ ys)) else none
  | .str p, .str q => if p.length + q.length ≤ big then some (.str (p ++ q)) else none
  | _, _ => none
theorem add_inv {d₁ d₂ z : D} (q : addD d₁ d₂ = some z) : (∃ i j, d₁ = .int i ∧ d₂ = .int j ∧ z = .int (i + j)) ∨ (∃ xs ys, d₁ = .lst xs ∧ d₂ = .lst ys ∧ xs.length + ys.length ≤ big ∧ z = .lst (xs ++ ys)) ∨
    ∃ xs ys, d₁ = .str xs ∧ d₂ = .str ys ∧ xs.length + ys.length ≤ big ∧ z = .str (xs ++ ys) := by
  unfold addD at q
  split at q
  · cases q; exact .inl ⟨_, _, rfl, rfl, rfl⟩
  · split at q
    · cases q; exact .inr (.inl ⟨_, _, rfl, rfl, ‹_›, rfl⟩)
    · cases q
  · split at q
    · cases q; exact .inr (.inr ⟨_, _, rfl, rfl, ‹_›, rfl⟩)
    · cases q
  · cases q
theorem opD_add : OpD X C (binaryOp .Add) addD := by
  intro pins s σ H x y v u Q I rx ry hw
  obtain ⟨e, Ω, d₁, d₂, z, eH, w, i1, i2, q, kk⟩ := hw
  subst eH
  rcases add_inv q with ⟨i, j, rfl, rfl, rfl⟩ | ⟨xs, ys, rfl, rfl, hl, rfl⟩ | ⟨i, j, rfl, rfl, hl, rfl⟩
  · rw [Is] at i1 i2
    subst i1 i2
    exact op_add pins s σ _ _ _ v u Q I rx ry ⟨i, j, rfl, rfl, kk _ e (Ext.refl e) w (by rw [Is])⟩
  · rw [Is] at i1 i2
    obtain ⟨l, vs, rfl, h1, r1⟩ := i1
    obtain ⟨m, us, rfl, h2, r2⟩ := i2
    refine op_cat pins s σ _ _ _ v u Q I rx ry ⟨l, m, vs, us, rfl, rfl, w.fh _ _ h1, w.fh _ _ h2, by rw [← r1.length, ← r2.length]; exact big_line hl, fun p hp => ?_⟩
    refine kk _ (e.new p _) (w.new_ext hp) (w.new hp) ?_
    rw [Is]
    exact ⟨p, _, rfl, upd_same, (r1.append r2).ext (w.new_ext hp)⟩
  · rw [Is] at i1 i2
    subst i1 i2
    exact op_add_str pins s σ _ _ _ v u Q I rx ry ⟨i, j, rfl, rfl, big_line hl, kk _ e (Ext.refl e) w (by rw [Is])⟩
noncomputable def mulD : D → D → Option D
  | .int i, .int j => grd ((-(2 ^ 64) < i ∧ i < 2 ^ 64) ∨ (-(2 ^ 64) < j ∧ j < 2 ^ 64)) (some (.int (i * j)))
  | .lst xs, .int k => grd (-(2 ^ 62) ≤ k ∧ k < 2 ^ 62 ∧ xs.length * k.toNat ≤ big) (some (.lst (List.replicate k.toNat xs).flatten))
  | _, _ => none
theorem mul_inv {d₁ d₂ z : D} (q : mulD d₁ d₂ = some z) : (∃ i j, d₁ = .int i ∧ d₂ = .int j ∧ ((-(2 ^ 64) < i ∧ i < 2 ^ 64) ∨ (-(2 ^ 64) < j ∧ j < 2 ^ 64)) ∧ z = .int (i * j)) ∨
    ∃ xs k, d₁ = .lst xs ∧ d₂ = .int k ∧ (-(2 ^ 62) ≤ k ∧ k < 2 ^ 62 ∧ xs.length * k.toNat ≤ big) ∧ z = .lst (List.replicate k.toNat xs).flatten := by
  unfold mulD at q
  split at q
  · obtain ⟨hl, q⟩ := grd_some q; cases q; exact .inl ⟨_, _, rfl, rfl, hl, rfl⟩
  · obtain ⟨hl, q⟩ := grd_some q; cases q; exact .inr ⟨_, _, rfl, rfl, hl, rfl⟩
  · cases q
theorem opD_mul : OpD X C (binaryOp .Mult) mulD := by
  intro pins s σ H x y v u Q I rx ry hw
  obtain ⟨e, Ω, d₁, d₂, z, eH, w, i1, i2, q, kk⟩ := hw
  subst eH
  rcases mul_inv q with ⟨i, j, rfl, rfl, hl, rfl⟩ | ⟨xs, k, rfl, rfl, hl, rfl⟩
  · rw [Is] at i1 i2
    subst i1 i2
    exact op_mul pins s σ _ _ _ v u Q I rx ry ⟨i, j, rfl, rfl, hl, kk _ e (Ext.refl e) w (by rw [Is])⟩
  · rw [Is] at i1
    rw [Is] at i2
    obtain ⟨l, vs, rfl, h1, r1⟩ := i1
    subst i2
    refine op_rep pins s σ _ _ _ v u Q I rx ry ⟨l, k, vs, rfl, rfl, w.fh _ _ h1, by omega, by omega, by rw [← r1.length]; exact big_line hl.2.2, fun p hp => ?_⟩
    refine kk _ (e.new p _) (w.new_ext hp) (w.new hp) ?_
    rw [Is]
    exact ⟨p, _, rfl, upd_same, (r1.rep _).ext (w.new_ext hp)⟩
abbrev subD : D → D → Option D := dI (fun _ _ => true) fun i j => i - j
theorem opD_sub : OpD X C (binaryOp .Sub) subD := opD_I0 op_sub
abbrev modD : D → D → Option D := dI (fun _ j => decide (0 < j)) fun i j => i % j
theorem opD_mod : OpD X C (binaryOp .Mod) modD := opD_I op_mod fun _ _ h => of_decide_eq_true h
abbrev divD : D → D → Option D := dI (fun _ j => decide (0 < j) && decide (j < 1073741824)) fun i j => i / j
theorem opD_div : OpD X C (binaryOp .FloorDiv) divD := opD_I op_fdiv fun _ _ h => by
  rw [Bool.and_eq_true, decide_eq_true_eq, decide_eq_true_eq] at h
  exact h
abbrev powD : D → D → Option D := dI (fun i j => decide (0 ≤ j) && decide (j ≤ 1000000) && decide (i.natAbs < 2 ^ 64)) fun i j => i ^ j.toNat
theorem opD_pow : OpD X C (binaryOp .Pow) powD := opD_I op_pow fun _ _ h => by
  rw [Bool.and_eq_true, Bool.and_eq_true, decide_eq_true_eq, decide_eq_true_eq, decide_eq_true_eq] at h
  exact ⟨h.1.1, h.1.2, h.2⟩
abbrev ltD : D → D → Option D := dB fun i j => decide (i < j)
theorem opD_lt : OpD X C (compareOp .Lt) ltD := opD_B op_lt
/-! ### == and in, of data of any make -/
mutual
def toP : D → PyData
  | .non => .none
  | .bl b => .bool b
  | .int i => .int i
  | .str x => .str x
  | .tup xs => .tuple (toPs xs)
  | .lst xs => .list (toPs xs)
  | .scr ns => .list (ns.map PyData.int)
  | .obj _ => .dict []
def toPs : List D → List PyData
  | [] => []
  | d :: ds => toP d :: toPs ds
end
end

section
variable {X : Cx} {pins : List (Addr × Obj)} {σ : St} {H : Hp} {s : Shared} {K : PySem.W.Frag} {α : List Addr} {F : Hp}
mutual
theorem reads_of (I : Inv X pins σ H s) (hK : K = X.K) (ff : Same F H) : ∀ (d : D) {v : V} {u : Value}, (toP d).canLay0 = true → Is K α F d v → RelV v u → ∃ as, Reads s.heap u (toP d) as
  | .non, v, u, _, h, r => by
    rw [Is] at h; subst h; cases (show u = Value.none from r); rw [toP]; exact ⟨_, .none⟩
  | .bl b, v, u, _, h, r => by
    rw [Is] at h; subst h; cases (show u = Value.bool b from r); rw [toP]; exact ⟨_, .bool b⟩
  | .int i, v, u, _, h, r => by
    rw [Is] at h; subst h; obtain ⟨t, q⟩ := (show ∃ t, u = Value.int i t from r); subst q; rw [toP]; exact ⟨_, .int i t⟩
  | .str x, v, u, _, h, r => by
    rw [Is] at h; subst h; obtain ⟨t, q⟩ := (show ∃ t, u = Value.str x t from r); subst q; rw [toP]; exact ⟨_, .str x t⟩
  | .tup xs, v, u, hc, h, r => by
    rw [Is] at h
    obtain ⟨a, vs, rfl, e, q⟩ := h
    cases (show u = Value.ref a from r)
    obtain ⟨_, its, rv, o, e1, e2, n, e3⟩ := (show ObjOk X.prog X.w H s.heap a (.tup vs) from I.hok a _ (ff _ _ e))
    rw [toP] at hc ⊢
    obtain ⟨as, z⟩ := readsL_of I hK ff xs (by simpa [PyData.canLay0] using hc) q rv
    exact ⟨as, .tuple e1 e2 e3 (by simpa using z)⟩
  | .lst xs, v, u, hc, h, r => by
    rw [Is] at h
    obtain ⟨a, vs, rfl, e, q⟩ := h
    cases (show u = Value.ref a from r)
    obtain ⟨_, its, n, rv, e1⟩ := (show ObjOk X.prog X.w H s.heap a (.lst vs) from I.hok a _ (ff _ _ e))
    rw [toP] at hc ⊢
    obtain ⟨as, z⟩ := readsL_of I hK ff xs (by simpa [PyData.canLay0] using hc) q rv
    exact ⟨_, .list e1 rfl rfl (by simpa using z)⟩
  | .scr ns, v, u, hc, h, r => by
    rw [Is] at h
    obtain ⟨a, rfl, q⟩ := h
    cases (show u = Value.ref a from r)
    subst hK
    obtain ⟨its, rv, pl, _⟩ := I.list (ff.seq q)
    rw [toP]
    exact ⟨_, reads_newData pl.isList (PySem.W.ke_carried (intsAre_of rv))⟩
  | .obj n, v, u, hc, h, r => by rw [toP] at hc; simp [PyData.canLay0] at hc
theorem readsL_of (I : Inv X pins σ H s) (hK : K = X.K) (ff : Same F H) : ∀ (ds : List D) {vs : List V} {us : List Value}, PyData.canLayAll0 (toPs ds) = true → IsL K α F ds vs → Vals vs us → ∃ as, ReadsAll s.heap us (toPs ds) as
  | [], vs, us, _, h, r => by
    rw [h.of_nil] at r; cases r; rw [toPs]; exact ⟨_, .nil⟩
  | d :: ds, vs, us, hc, h, r => by
    obtain ⟨v, t, rfl, h1, h2⟩ := h.of_cons
    cases r with
    | cons r1 r2 =>
      rw [toPs] at hc ⊢
      have hc' : (toP d).canLay0 = true ∧ PyData.canLayAll0 (toPs ds) = true := by simpa [PyData.canLayAll0] using hc
      obtain ⟨as, z1⟩ := reads_of I hK ff d hc'.1 h1 r1
      obtain ⟨bs, z2⟩ := readsL_of I hK ff ds hc'.2 h2 r2
      exact ⟨_, .cons z1 z2⟩
end
end
end DL
set_option Elab.async false
set_option linter.all false
set_option maxRecDepth 100000
namespace DL
open PySem PySem.Spec PyProof.Rows L2

section
variable {X : Cx} {C : Cl} {a b c x : Expr} {f g h : Den} {r : D → D → Option D} {pos : Pos}
/-! ### ==, != -/
def eqD (neg : Bool) (p q : D) : Option D := if SeqAt.shaped (toP p) && SeqAt.shaped (toP q) then some (.bl (if neg then !PyData.eqv (toP p) (toP q) else PyData.eqv (toP p) (toP q))) else none
theorem opD_ne (hu : X.A.units + 64 < cLine) : OpD X C (compareOp .NotEq) (eqD true) := by
  intro pins s σ H x y v u Q I rx ry hw
  obtain ⟨e, Ω, d₁, d₂, z, eH, w, i1, i2, q, kk⟩ := hw
  subst eH
  unfold eqD at q
  split at q
  · rename_i hs
    rw [Bool.and_eq_true] at hs
    cases q
    obtain ⟨as, r1⟩ := reads_of I rfl w.fh d₁ (SeqAt.canLay_of_shaped hs.1) i1 rx
    obtain ⟨bs, r2⟩ := reads_of I rfl w.fh d₂ (SeqAt.canLay_of_shaped hs.2) i2 ry
    exact ne_dataH r1 r2 hs.1 hs.2 hu ⟨.bl _, e.H, I, rfl, kk _ e (Ext.refl e) w (by rw [Is]; rfl)⟩
  · cases q
def gOrT (p q : TDen) : TDen := fun ρ Ω => match p ρ Ω with
  | some (true, Ω') => some (true, Ω')
  | some (false, Ω') => q ρ Ω'
  | none => none
def gNotT (p : TDen) : TDen := fun ρ Ω => match p ρ Ω with
  | some (k, Ω') => some (!k, Ω')
  | none => none
variable {p q : TDen} {rest : List Expr}
theorem or_read {K : PySem.W.Frag} {σ : St} {H : Hp} {Q : Bool → Hp → Prop} (hw : tDT K C (gOrT p q) σ H Q) : tOr (tDT K C p) (tDT K C q) σ H Q := by
  obtain ⟨e, Ω, ρ, k, Ω', eH, w, rl, e1, kk⟩ := hw
  unfold gOrT at e1
  cases e2 : p ρ Ω with
  | none => rw [e2] at e1; cases e1
  | some z =>
    obtain ⟨k1, Ω1⟩ := z
    rw [e2] at e1
    refine ⟨e, Ω, ρ, k1, Ω1, eH, w, rl, e2, fun e' x' w' => ?_⟩
    cases k1 with
    | true =>
      rw [if_pos rfl]
      cases e1
      exact kk e' x' w'
    | false =>
      rw [if_neg (by decide)]
      exact ⟨e', Ω1, ρ, k, Ω', rfl, w', rl.ext x', e1, fun e'' x'' w'' => kk e'' (x'.trans x'') w''⟩
theorem pdw_or1 (ha : PDT X C a p) : PDW X C (.BoolOp .Or [a] pos) p := pw_or1 ha
theorem pdw_or (ha : PDT X C a p) (hb : PDW X C (.BoolOp .Or (b :: rest) pos) q) : PDW X C (.BoolOp .Or (a :: b :: rest) pos) (gOrT p q) := pw_imp (pw_or ha hb) fun _ _ _ h => or_read h
theorem PDW.pt (h : PDW X C x p) : PDT X C x p := PW.pt h
theorem pdt_not (ha : PDT X C a p) : PDT X C (.UnaryOp .Not a pos) (gNotT p) := pt_imp (pt_not ha) fun σ H Q hw' => by
  obtain ⟨e, Ω, ρ, k, Ω', eH, w, rl, e1, kk⟩ := hw'
  unfold gNotT at e1
  cases e2 : p ρ Ω with
  | none => rw [e2] at e1; cases e1
  | some z =>
    obtain ⟨k1, Ω1⟩ := z
    rw [e2] at e1
    cases e1
    exact ⟨e, Ω, ρ, k1, _, eH, w, rl, e2, kk⟩
/-- as values: bools -/
def gAndV (f g : Den) : Den := fun ρ Ω => match f ρ Ω with
  | some (.bl true, Ω') => g ρ Ω'
  | some (.bl false, Ω') => some (.bl false, Ω')
  | _ => none
def gNotV (f : Den) : Den := fun ρ Ω => match f ρ Ω with
  | some (.bl k, Ω') => some (.bl (!k), Ω')
  | _ => none
theorem pd_one {op} (h : PD X C a f) : PD X C (.BoolOp op [a] pos) f := pe_one h
theorem pd_and (ha : PD X C a f) (hb : PD X C (.BoolOp .And (b :: rest) pos) g) : PD X C (.BoolOp .And (a :: b :: rest) pos) (gAndV f g) := pe_imp (pe_and ha hb) fun σ H Q hw' => by
  obtain ⟨e, Ω, ρ, d, Ω', eH, w, rl, e1, kk⟩ := hw'
  unfold gAndV at e1
  cases e2 : f ρ Ω with
  | none => rw [e2] at e1; cases e1
  | some z =>
    obtain ⟨d1, Ω1⟩ := z
    rw [e2] at e1
    refine ⟨e, Ω, ρ, d1, Ω1, eH, w, rl, e2, fun v e' x' w' i' => ?_⟩
    cases d1 with
    | bl k1 =>
      rw [Is] at i'
      refine ⟨k1, i', ?_⟩
      cases k1 with
      | true =>
        rw [if_pos rfl]
        exact ⟨e', Ω1, ρ, d, Ω', rfl, w', rl.ext x', e1, fun v e'' x'' w'' => kk v e'' (x'.trans x'') w''⟩
      | false =>
        rw [if_neg (by decide)]
        cases e1
        exact kk _ e' x' w' (by rw [Is])
    | _ => cases e1
theorem pd_not (ha : PD X C a f) : PD X C (.UnaryOp .Not a pos) (gNotV f) := pe_imp (pe_not ha) fun σ H Q hw' => by
  obtain ⟨e, Ω, ρ, d, Ω', eH, w, rl, e1, kk⟩ := hw'
  unfold gNotV at e1
  cases e2 : f ρ Ω with
  | none => rw [e2] at e1; cases e1
  | some z =>
    obtain ⟨d1, Ω1⟩ := z
    rw [e2] at e1
    refine ⟨e, Ω, ρ, d1, Ω1, eH, w, rl, e2, fun v e' x' w' i' => ?_⟩
    cases d1 with
    | bl k1 =>
      rw [Is] at i'
      cases e1
      exact ⟨k1, i', kk _ e' x' w' (by rw [Is])⟩
    | _ => cases e1
end
end DL
set_option Elab.async false
set_option linter.all false
set_option maxRecDepth 100000
namespace DL
open PySem PySem.Spec PyProof.Rows L2

section
variable {X : Cx} {C : Cl} {a b c x : Expr} {es : List Expr} {f g h : Den} {ga : ADen} {pos : Pos}
/-! ### argument lists, displays -/
def gNil : ADen := fun _ Ω => some ([], Ω)
def gCons (f : Den) (g : ADen) : ADen := fun ρ Ω => match f ρ Ω with
  | some (d, Ω1) => match g ρ Ω1 with
    | some (ds, Ω2) => some (d :: ds, Ω2)
    | none => none
  | none => none
theorem pda_nil : PDA X C [] gNil := pa_imp pa_nil fun σ H Q hw' => by
  obtain ⟨e, Ω, ρ, ds, Ω', eH, w, rl, e1, kk⟩ := hw'
  subst eH
  cases e1
  exact kk [] e (Ext.refl e) w .nil
theorem pda_cons (ha : PD X C x f) (hr : PDA X C es ga) (hs : starEach (x :: es) X.env = (false, eval x X.env) :: starEach es X.env := by rfl) : PDA X C (x :: es) (gCons f ga) :=
  pa_imp (pa_cons ha hr hs) fun σ H Q hw' => by
    obtain ⟨e, Ω, ρ, ds, Ω', eH, w, rl, e1, kk⟩ := hw'
    unfold gCons at e1
    cases q1 : f ρ Ω with
    | none => rw [q1] at e1; cases e1
    | some p1 =>
      obtain ⟨d, Ω1⟩ := p1
      rw [q1] at e1
      dsimp only at e1
      cases q2 : ga ρ Ω1 with
      | none => rw [q2] at e1; cases e1
      | some p2 =>
        obtain ⟨ds', Ω2⟩ := p2
        rw [q2] at e1
        cases e1
        refine ⟨e, Ω, ρ, d, Ω1, eH, w, rl, q1, fun v e' x' w' i' => ?_⟩
        exact ⟨e', Ω1, ρ, ds', _, rfl, w', rl.ext x', q2, fun vs e'' x'' w'' i'' => kk _ e'' (x'.trans x'') w'' (.cons (i'.ext x'') i'')⟩
def gTup (g : ADen) : Den := fun ρ Ω => match g ρ Ω with
  | some (ds, Ω') => if ds.length ≤ big then some (.tup ds, Ω') else none
  | none => none
def gLst (g : ADen) : Den := fun ρ Ω => match g ρ Ω with
  | some (ds, Ω') => if ds.length ≤ big then some (.lst ds, Ω') else none
  | none => none
theorem pd_tup {x1} (ha : PDA X C es ga) : PD X C (.Tuple es x1 pos) (gTup ga) := pe_imp (pe_tup ha) fun σ H Q hw' => by
  obtain ⟨e, Ω, ρ, d, Ω', eH, w, rl, e1, kk⟩ := hw'
  unfold gTup at e1
  cases q1 : ga ρ Ω with
  | none => rw [q1] at e1; cases e1
  | some p1 =>
    obtain ⟨ds, Ω1⟩ := p1
    rw [q1] at e1
    dsimp only at e1
    split at e1
    · rename_i hl
      cases e1
      refine ⟨e, Ω, ρ, ds, _, eH, w, rl, q1, fun vs e' x' w' i' => ⟨by rw [← i'.length]; exact big_line hl, fun p hp => ?_⟩⟩
      refine kk _ (e'.new p (.tup vs)) (x'.trans (w'.new_ext hp)) (w'.new hp) ?_
      rw [Is]
      exact ⟨p, vs, rfl, upd_same, i'.ext (w'.new_ext hp)⟩
    · cases e1
theorem pd_lst (ha : PDA X C es ga) : PD X C (.List es pos) (gLst ga) := pe_imp (pe_lst ha) fun σ H Q hw' => by
  obtain ⟨e, Ω, ρ, d, Ω', eH, w, rl, e1, kk⟩ := hw'
  unfold gLst at e1
  cases q1 : ga ρ Ω with
  | none => rw [q1] at e1; cases e1
  | some p1 =>
    obtain ⟨ds, Ω1⟩ := p1
    rw [q1] at e1
    dsimp only at e1
    split at e1
    · rename_i hl
      cases e1
      refine ⟨e, Ω, ρ, ds, _, eH, w, rl, q1, fun vs e' x' w' i' => ⟨by rw [← i'.length]; exact big_line hl, fun p hp => ?_⟩⟩
      refine kk _ (e'.new p (.lst vs)) (x'.trans (w'.new_ext hp)) (w'.new hp) ?_
      rw [Is]
      exact ⟨p, vs, rfl, upd_same, i'.ext (w'.new_ext hp)⟩
    · cases e1

/-! ### a[i] -/
def ixD : D → D → Option D
  | .lst xs, .int i => atI xs i
  | .tup xs, .int i => atI xs i
  | .scr ns, .int i => (atI ns i).map D.int
  | .str z, .int i => if z.length ≤ big then (atI z.cps.toList i).map fun c => D.str ⟨#[c]⟩ else none
  | _, _ => none
theorem atI_is {K : PySem.W.Frag} {α : List Addr} {F : Hp} {ds : List D} {vs : List V} {i : Int} {d : D} (r : IsL K α F ds vs) (h : atI ds i = some d) : ∃ v, atI vs i = some v ∧ Is K α F d v := by
  unfold atI at h ⊢
  rw [← r.length]
  cases q : ixN ds.length i with
  | none => rw [q] at h; cases h
  | some j =>
    rw [q] at h
    exact r.get h
theorem ixD_read {K : PySem.W.Frag} : ∀ x y H Q, (∃ e Ω d₁ d₂ z, e.H = H ∧ Wf K C e Ω ∧ Is K e.α e.F d₁ x ∧ Is K e.α e.F d₂ y ∧ ixD d₁ d₂ = some z ∧ ∀ v e', Ext e e' → Wf K C e' Ω → Is K e'.α e'.F z v → Q v e'.H) → rIx K x y H Q := by
  rintro x y H Q ⟨e, Ω, d₁, d₂, z, eH, w, i1, i2, q, kk⟩
  subst eH
  unfold ixD at q
  cases d₁ <;> cases d₂ <;> first | cases q | skip
  · rename_i zz i
    dsimp only at q
    simp only [Is] at i1 i2
    subst i1 i2
    split at q
    · rename_i hl
      cases e2 : atI zz.cps.toList i with
      | none => rw [e2] at q; cases q
      | some c =>
        rw [e2] at q
        cases q
        exact .inr (.inr ⟨zz, i, c, rfl, rfl, big_line hl, e2, kk _ e (Ext.refl e) w (by rw [Is])⟩)
    · cases q
  · rename_i xs i
    simp only [Is] at i1 i2
    obtain ⟨p, vs, rfl, h1, r1⟩ := i1
    subst i2
    obtain ⟨v, e1, i3⟩ := atI_is r1 q
    exact .inr (.inl ⟨p, vs, i, v, rfl, rfl, SqT.of (w.fh _ _ h1), e1, kk v e (Ext.refl e) w i3⟩)
  · rename_i xs i
    simp only [Is] at i1 i2
    obtain ⟨p, vs, rfl, h1, r1⟩ := i1
    subst i2
    obtain ⟨v, e1, i3⟩ := atI_is r1 q
    exact .inl ⟨p, vs, i, v, rfl, rfl, SqL.of (w.fh _ _ h1), e1, kk v e (Ext.refl e) w i3⟩
  · rename_i ns i
    simp only [Is] at i1 i2
    obtain ⟨p, rfl, h1⟩ := i1
    subst i2
    dsimp only at q
    cases e2 : atI ns i with
    | none => rw [e2] at q; cases q
    | some n =>
      rw [e2] at q
      cases q
      refine .inl ⟨p, ns.map V.int, i, .int n, rfl, rfl, w.fh.seq h1, ?_, kk _ e (Ext.refl e) w (by rw [Is])⟩
      unfold atI at e2 ⊢
      rw [List.length_map]
      cases e3 : ixN ns.length i with
      | none => rw [e3] at e2; cases e2
      | some j =>
        rw [e3] at e2
        show (ns.map V.int)[j]? = _
        rw [List.getElem?_map, show ns[j]? = some n from e2]
        rfl
theorem pd_ix (ha : PD X C a f) (hb : PD X C b g) (hs : PlainIx b := by intro _ _; rfl) : PD X C (.Subscript a b pos) (gOp ixD f g) :=
  pe_imp (pe_ix ix_seq ha hb hs) fun σ H Q hw => op_read ixD_read hw

/-! ### calls of built-ins -/
def CallD (X : Cx) (C : Cl) (f : Value) (r : List D → Option D) : Prop :=
  CallR X f fun xs H Q => ∃ e Ω ds z, e.H = H ∧ Wf X.K C e Ω ∧ IsL X.K e.α e.F ds xs ∧ r ds = some z ∧ ∀ v e', Ext e e' → Wf X.K C e' Ω → Is X.K e'.α e'.F z v → Q v e'.H
def gCB (r : List D → Option D) (g : ADen) : Den := fun ρ Ω => match g ρ Ω with
  | some (ds, Ω1) => match r ds with
    | some z => some (z, Ω1)
    | none => none
  | none => none
theorem cb_read {K : PySem.W.Frag} {r : List D → Option D} {σ : St} {H : Hp} {Q : VK} (hw : tD K C (gCB r ga) σ H Q) :
    tCB (fun xs H Q => ∃ e Ω ds z, e.H = H ∧ Wf K C e Ω ∧ IsL K e.α e.F ds xs ∧ r ds = some z ∧ ∀ v e', Ext e e' → Wf K C e' Ω → Is K e'.α e'.F z v → Q v e'.H) (tDA K C ga) σ H Q := by
  obtain ⟨e, Ω, ρ, d, Ω', eH, w, rl, e1, kk⟩ := hw
  unfold gCB at e1
  cases q1 : ga ρ Ω with
  | none => rw [q1] at e1; cases e1
  | some p1 =>
    obtain ⟨ds, Ω1⟩ := p1
    rw [q1] at e1
    dsimp only at e1
    cases q2 : r ds with
    | none => rw [q2] at e1; cases e1
    | some z =>
      rw [q2] at e1
      cases e1
      exact ⟨e, Ω, ρ, ds, _, eH, w, rl, q1, fun vs e' x' w' i' => ⟨e', _, ds, _, rfl, w', i', q2, fun v e'' x'' w'' => kk v e'' (x'.trans x'') w''⟩⟩
theorem pd_callB {id : String} {n : Str} {p : Pos} {r : List D → Option D} (hc : CallD X C (.builtin id) r) (hg : Gl X n) (hm : X.mg n = none) (hv : bootBuiltins n = some (.builtin id)) (ha : PDA X C (x :: es) ga) (hn : n ≠ "__name__" := by decide) (hdb : (n == ("__debug__" : Str)) = false := by decide)
    (he : starEach (x :: es) X.env = (false, eval x X.env) :: starEach es X.env := by rfl) (hpl : (backTo pos (starEach es X.env)).any (·.1) = false := by rfl) : PD X C (.Call (.Name n p) (x :: es) [] pos) (gCB r ga) :=
  pe_imp (pe_callB hc hg hm hv ha hn hdb he hpl) fun _ _ _ hw => cb_read hw
theorem pd_callTy {T : String} {n : Str} {p : Pos} {r : List D → Option D} (hc : CallD X C (.type T) r) (hg : Gl X n) (hm : X.mg n = none) (hv : bootBuiltins n = some (.type T)) (ha : PDA X C (x :: es) ga) (hn : n ≠ "__name__" := by decide) (hdb : (n == ("__debug__" : Str)) = false := by decide)
    (he : starEach (x :: es) X.env = (false, eval x X.env) :: starEach es X.env := by rfl) (hpl : (backTo pos (starEach es X.env)).any (·.1) = false := by rfl) : PD X C (.Call (.Name n p) (x :: es) [] pos) (gCB r ga) :=
  pe_imp (pe_callTy hc hg hm hv ha hn hdb he hpl) fun _ _ _ hw => cb_read hw
theorem isL_one {K : PySem.W.Frag} {α : List Addr} {F : Hp} {d : D} {vs : List V} (h : IsL K α F [d] vs) : ∃ v, vs = [v] ∧ Is K α F d v := by
  obtain ⟨v, r, rfl, i, t⟩ := h.of_cons
  rw [t.of_nil]
  exact ⟨v, rfl, i⟩
theorem isL_two {K : PySem.W.Frag} {α : List Addr} {F : Hp} {d d' : D} {vs : List V} (h : IsL K α F [d, d'] vs) : ∃ v u, vs = [v, u] ∧ Is K α F d v ∧ Is K α F d' u := by
  obtain ⟨v, r, rfl, i, t⟩ := h.of_cons
  obtain ⟨u, rfl, i2⟩ := isL_one t
  exact ⟨v, u, rfl, i, i2⟩
def lenD : List D → Option D
  | [.lst xs] => some (.int xs.length)
  | [.tup xs] => some (.int xs.length)
  | [.scr ns] => some (.int ns.length)
  | [.str z] => if z.length ≤ big then some (.int z.length) else none
  | _ => none
theorem callD_len : CallD X C (.builtin "len") lenD := by
  intro pins s σ H xs us Q I r hw
  obtain ⟨e, Ω, ds, z, eH, w, i, q, kk⟩ := hw
  subst eH
  match ds, q with
  | [.lst ys], q =>
    obtain ⟨v, rfl, iv⟩ := isL_one i
    rw [Is] at iv
    obtain ⟨p, vs, rfl, h1, r1⟩ := iv
    cases q
    exact call_len_seq pins s σ _ _ us Q I r ⟨p, vs, rfl, .inl (SqL.of (w.fh _ _ h1)), kk _ e (Ext.refl e) w (by rw [Is, r1.length])⟩
  | [.tup ys], q =>
    obtain ⟨v, rfl, iv⟩ := isL_one i
    rw [Is] at iv
    obtain ⟨p, vs, rfl, h1, r1⟩ := iv
    cases q
    exact call_len_seq pins s σ _ _ us Q I r ⟨p, vs, rfl, .inr (SqT.of (w.fh _ _ h1)), kk _ e (Ext.refl e) w (by rw [Is, r1.length])⟩
  | [.scr ns], q =>
    obtain ⟨v, rfl, iv⟩ := isL_one i
    rw [Is] at iv
    obtain ⟨p, rfl, h1⟩ := iv
    cases q
    exact call_len_seq pins s σ _ _ us Q I r ⟨p, _, rfl, .inl (w.fh.seq h1), kk _ e (Ext.refl e) w (by rw [Is, List.length_map])⟩
  | [.str zz], q =>
    obtain ⟨v, rfl, iv⟩ := isL_one i
    rw [Is] at iv
    subst iv
    have q : (if zz.length ≤ big then some (D.int zz.length) else none) = some z := q
    split at q
    · rename_i hl
      cases q
      exact call_len_str pins s σ _ _ us Q I r ⟨zz, rfl, big_line hl, kk _ e (Ext.refl e) w (by rw [Is])⟩
    · cases q
def list1D : List D → Option D
  | [.lst xs] => some (.lst xs)
  | [.tup xs] => some (.lst xs)
  | [.scr ns] => some (.lst (ns.map D.int))
  | _ => none
theorem callD_list : CallD X C (.type "list") list1D := by
  intro pins s σ H xs us Q I r hw
  obtain ⟨e, Ω, ds, z, eH, w, i, q, kk⟩ := hw
  subst eH
  match ds, q with
  | [.lst ys], q =>
    obtain ⟨v, rfl, iv⟩ := isL_one i
    rw [Is] at iv
    obtain ⟨p, vs, rfl, h1, r1⟩ := iv
    cases q
    refine call_list_of pins s σ _ _ us Q I r ⟨p, vs, rfl, .inl (SqL.of (w.fh _ _ h1)), fun l hl => kk _ (e.new l _) (w.new_ext hl) (w.new hl) ?_⟩
    rw [Is]
    exact ⟨l, vs, rfl, upd_same, r1.ext (w.new_ext hl)⟩
  | [.tup ys], q =>
    obtain ⟨v, rfl, iv⟩ := isL_one i
    rw [Is] at iv
    obtain ⟨p, vs, rfl, h1, r1⟩ := iv
    cases q
    refine call_list_of pins s σ _ _ us Q I r ⟨p, vs, rfl, .inr (SqT.of (w.fh _ _ h1)), fun l hl => kk _ (e.new l _) (w.new_ext hl) (w.new hl) ?_⟩
    rw [Is]
    exact ⟨l, vs, rfl, upd_same, r1.ext (w.new_ext hl)⟩
  | [.scr ns], q =>
    obtain ⟨v, rfl, iv⟩ := isL_one i
    rw [Is] at iv
    obtain ⟨p, rfl, h1⟩ := iv
    cases q
    refine call_list_of pins s σ _ _ us Q I r ⟨p, _, rfl, .inl (w.fh.seq h1), fun l hl => kk _ (e.new l _) (w.new_ext hl) (w.new hl) ?_⟩
    rw [Is]
    exact ⟨l, _, rfl, upd_same, IsL.ints ns⟩
/-! ### isinstance(x, T), T a built-in type -/
def tyD : D → Option String
  | .non => some "NoneType"
  | .bl _ => some "bool"
  | .int _ => some "int"
  | .str _ => some "str"
  | .tup _ => some "tuple"
  | .lst _ => some "list"
  | _ => none
def instD (T : String) (d : D) : Option D := match tyD d with
  | some t => some (.bl (decide (t = T) || (decide (t = "bool") && decide (T = "int"))))
  | none => none
def gUn (r : D → Option D) (g : Den) : Den := fun ρ Ω => match g ρ Ω with
  | some (d, Ω1) => match r d with
    | some z => some (z, Ω1)
    | none => none
  | none => none
theorem tyOf_of {K : PySem.W.Frag} {α : List Addr} {F H : Hp} (ff : Same F H) {d : D} {v : V} {t : String} (i : Is K α F d v) (h : tyD d = some t) : TyOf K H v (.type t) := by
  cases d <;> rw [Is] at i <;> (try cases h)
  · subst i; exact .non
  · subst i; exact .bl _
  · subst i; exact .int _
  · subst i; exact .str _
  · obtain ⟨a, vs, rfl, e, _⟩ := i; exact .tup (ff _ _ e)
  · obtain ⟨a, vs, rfl, e, _⟩ := i; exact .lst (ff _ _ e)
theorem pd_isinst {T : String} {n : Str} {p : Pos} {y : Expr} (ha : PD X C x g) (hy : PE X y (tC (.ty T))) (hg : Gl X n) (hm : X.mg n = none) (hv : bootBuiltins n = some (.builtin "isinstance"))
    (hk : ∀ t ∈ ["NoneType", "bool", "int", "str", "tuple", "list"], PySem.W.kitOne X.K (.type t) (.type T) = some (decide (t = T) || (decide (t = "bool") && decide (T = "int"))))
    (hn : n ≠ "__name__" := by decide) (hdb : (n == ("__debug__" : Str)) = false := by decide)
    (he : starEach [x, y] X.env = (false, eval x X.env) :: starEach [y] X.env := by rfl) (he2 : starEach [y] X.env = (false, eval y X.env) :: starEach [] X.env := by rfl) (hpl : (backTo pos (starEach [y] X.env)).any (·.1) = false := by rfl) :
    PD X C (.Call (.Name n p) [x, y] [] pos) (gUn (instD T) g) := by
  have hc : CallR X (.builtin "isinstance") (fun xs H Q => ∃ v t k, xs = [v, .ty T] ∧ TyOf X.K H v (.type t) ∧ PySem.W.kitOne X.K (.type t) (.type T) = some k ∧ Q (.bl k) H) := by
    intro pins s σ H xs us Q I r hw
    obtain ⟨v, t, k, rfl, ty, e, q⟩ := hw
    obtain ⟨u, w', rfl, r1, r2⟩ := vals2 r
    cases (show w' = Value.type T from r2)
    exact isinst_ok I r1 ty e fun tk => ⟨.bl k, H, I.tok tk, rfl, q⟩
  refine pe_imp (pe_callB hc hg hm hv (pa_cons ha (pa_cons hy pa_nil he2) he) hn hdb he hpl) fun σ H Q hw' => ?_
  obtain ⟨e, Ω, ρ, d, Ω', eH, w, rl, e1, kk⟩ := hw'
  unfold gUn at e1
  cases q1 : g ρ Ω with
  | none => rw [q1] at e1; cases e1
  | some p1 =>
    obtain ⟨d1, Ω1⟩ := p1
    rw [q1] at e1
    dsimp only at e1
    unfold instD at e1
    cases q2 : tyD d1 with
    | none => rw [q2] at e1; cases e1
    | some t =>
      rw [q2] at e1
      cases e1
      refine ⟨e, Ω, ρ, d1, _, eH, w, rl, q1, fun v e' x' w' i' => ?_⟩
      refine ⟨v, t, _, rfl, tyOf_of w'.fh i' q2, hk t ?_, kk _ e' x' w' (by rw [Is])⟩
      cases d1 <;> cases q2 <;> simp
end
end DL
set_option Elab.async false
set_option linter.all false
set_option maxRecDepth 100000
namespace DL
open PySem PySem.Spec PyProof.Rows L2

/-! ### blocks -/
inductive Out where
  | nx (ρ : List Sl) (Ω : List OS) | rt (d : D) (Ω : List OS) | bk (ρ : List Sl) (Ω : List OS) | ct (ρ : List Sl) (Ω : List OS)
abbrev SDen := List Sl → List OS → Option Out
structure RelS (K : PySem.W.Frag) (C : Cl) (e₀ e : E4) (Ω : List OS) (σ : St) (ρ : List Sl) : Prop where
  wf : Wf K C e Ω
  rel : RelE K e σ ρ
  ext : Ext e₀ e
  fresh : ∀ (i : Nat) (ds : List D) (a : Addr), ρ[i]? = some (.own ds) → σ[i]? = some (some (.ref a)) → e₀.H a = none
def OutOk (K : PySem.W.Frag) (C : Cl) (e₀ : E4) (Dn : Ends) : Out → Prop
  | .nx ρ Ω => ∀ e σ, RelS K C e₀ e Ω σ ρ → Dn.nx σ e.H
  | .bk ρ Ω => ∀ e σ, RelS K C e₀ e Ω σ ρ → Dn.bk σ e.H
  | .ct ρ Ω => ∀ e σ, RelS K C e₀ e Ω σ ρ → Dn.ct σ e.H
  | .rt d Ω => ∀ e v, Ext e₀ e → Wf K C e Ω → Is K e.α e.F d v → Dn.rt v e.H
def tDS (K : PySem.W.Frag) (C : Cl) (e₀ : E4) (g : SDen) : TS := fun Dn σ H => ∃ e Ω ρ o, e.H = H ∧ RelS K C e₀ e Ω σ ρ ∧ g ρ Ω = some o ∧ OutOk K C e₀ Dn o
def PDS (X : Cx) (C : Cl) (st : Stmt) (g : SDen) : Prop := ∀ e₀, PS X st (tDS X.K C e₀ g)
def PDB (X : Cx) (C : Cl) (st : List Stmt) (g : SDen) : Prop := ∀ e₀, PSs X st (tDS X.K C e₀ g)
section
variable {K : PySem.W.Frag} {C : Cl} {e₀ e e' : E4} {Ω Ω' : List OS} {σ : St} {ρ : List Sl}
theorem RelS.to (r : RelS K C e₀ e Ω σ ρ) (x : Ext e e') (w : Wf K C e' Ω') : RelS K C e₀ e' Ω' σ ρ := ⟨w, r.rel.ext x, r.ext.trans x, r.fresh⟩
theorem set_own_ne {i j : Nat} {d : D} {ds : List D} (h : (ρ.set i (.dat d))[j]? = some (.own ds)) : i ≠ j := fun e1 => by
  subst e1
  have hl : i < ρ.length := by
    have := (List.getElem?_eq_some_iff.mp h).1
    simpa using this
  rw [List.getElem?_set_self hl] at h
  cases h
theorem RelS.set (r : RelS K C e₀ e Ω σ ρ) (i : Nat) {d : D} {v : V} (h : Is K e.α e.F d v) : RelS K C e₀ e Ω (σ.set i (some v)) (ρ.set i (.dat d)) :=
  ⟨r.wf, r.rel.set i h, r.ext, fun j ds a h1 h2 => by
    have n := set_own_ne h1
    rw [List.getElem?_set_ne n] at h1 h2
    exact r.fresh j ds a h1 h2⟩
end
section
variable {X : Cx} {C : Cl} {a b c x : Expr} {f g : Den} {p : TDen} {st : Stmt} {rest sts sts' : List Stmt} {s t : SDen} {pos : Pos}
def sNext : SDen := fun ρ Ω => some (.nx ρ Ω)
def sSeq (s t : SDen) : SDen := fun ρ Ω => match s ρ Ω with
  | some (.nx ρ' Ω') => t ρ' Ω'
  | r => r
theorem pdb_nil : PDB X C [] sNext := fun e₀ => pss_imp pss_nil fun Dn σ H hw' => by
  obtain ⟨e, Ω, ρ, o, eH, r, q, k⟩ := hw'
  subst eH
  cases q
  exact k e σ r
theorem pdb_cons (h1 : PDS X C st s) (h2 : PDB X C rest t) : PDB X C (st :: rest) (sSeq s t) := fun e₀ => pss_imp (pss_cons (h1 e₀) (h2 e₀)) fun Dn σ H hw' => by
  obtain ⟨e, Ω, ρ, o, eH, r, q, k⟩ := hw'
  unfold sSeq at q
  cases q1 : s ρ Ω with
  | none => rw [q1] at q; cases q
  | some o1 =>
    rw [q1] at q
    refine ⟨e, Ω, ρ, o1, eH, r, q1, ?_⟩
    cases o1 with
    | nx ρ' Ω' => exact fun e' σ' r' => ⟨e', Ω', ρ', o, rfl, r', q, k⟩
    | rt d Ω' => cases q; exact k
    | bk ρ' Ω' => cases q; exact k
    | ct ρ' Ω' => cases q; exact k
theorem pdb_one (h1 : PDS X C st s) : PDB X C [st] s := fun e₀ => pss_one (h1 e₀)
/-- what is known is forgotten or turned, between two statements -/
def sGhost (γ : List Sl → Option (List Sl)) (s : SDen) : SDen := fun ρ Ω => match γ ρ with
  | some ρ' => s ρ' Ω
  | none => none
def Ghost (γ : List Sl → Option (List Sl)) : Prop := ∀ (K : PySem.W.Frag) (C : Cl) (e₀ e : E4) (Ω : List OS) (σ : St) (ρ ρ' : List Sl), γ ρ = some ρ' → RelS K C e₀ e Ω σ ρ → ∃ e', e'.H = e.H ∧ RelS K C e₀ e' Ω σ ρ'
theorem pdb_ghost {γ : List Sl → Option (List Sl)} (hγ : Ghost γ) (h : PDB X C sts s) : PDB X C sts (sGhost γ s) := fun e₀ => pss_imp (h e₀) fun Dn σ H hw' => by
  obtain ⟨e, Ω, ρ, o, eH, r, q, k⟩ := hw'
  unfold sGhost at q
  cases q1 : γ ρ with
  | none => rw [q1] at q; cases q
  | some ρ' =>
    rw [q1] at q
    obtain ⟨e', he, r'⟩ := hγ _ _ _ _ _ _ _ _ q1 r
    exact ⟨e', Ω, ρ', o, he.trans eH, r', q, k⟩
/-- a list of one's own is changed no more -/
def frz (i : Nat) : List Sl → Option (List Sl) := fun ρ => match ρ[i]? with
  | some (.own ds) => some (ρ.set i (.dat (.lst ds)))
  | _ => some ρ
theorem ghost_frz (i : Nat) : Ghost (frz i) := by
  intro K C e₀ e Ω σ ρ ρ' h r
  unfold frz at h
  cases q : ρ[i]? with
  | none => rw [q] at h; cases h; exact ⟨e, rfl, r⟩
  | some sl =>
    rw [q] at h
    cases sl with
    | und => cases h; exact ⟨e, rfl, r⟩
    | dat d => cases h; exact ⟨e, rfl, r⟩
    | own ds =>
      cases h
      obtain ⟨a, vs, e1, e2, i1, n1, n2⟩ := r.rel.own i ds q
      have h0 := r.fresh i ds a q e1
      have ff : Same e.F (upd e.F a (.lst vs)) := fun b o hb => by rw [upd_ne (ne_of_none hb n1)]; exact hb
      have fh : Same (upd e.F a (.lst vs)) e.H := fun b o hb => by
        by_cases hba : b = a
        · subst hba; rw [upd_same] at hb; cases hb; exact e2
        · rw [upd_ne hba] at hb; exact r.wf.fh b o hb
      have fn : ∀ b o, (upd e.F a (.lst vs)) b = some o → e.F b = some o ∨ b = a := fun b o hb => by
        by_cases hba : b = a
        · exact .inr hba
        · rw [upd_ne hba] at hb; exact .inl hb
      refine ⟨⟨e.α, upd e.F a (.lst vs), e.A, e.H⟩, rfl, ⟨fh, fun b hb => ?_, r.wf.ah, r.wf.ol, r.wf.nd, fun n b o h1 h2 => ⟨(r.wf.ob n b o h1 h2).1, (r.wf.ob n b o h1 h2).2.keep (fun u hu => hu) ff ⟨[], by simp⟩⟩⟩, ⟨by simp [r.rel.len], fun j d hj => ?_, fun j es hj => ?_, fun j k ds' es b hj hk hj' hk' => ?_⟩, ⟨r.ext.fz, r.ext.hk, r.ext.dm, r.ext.ff.trans ff, fun b o hb => ?_, r.ext.an, r.ext.aa, r.ext.al⟩, fun j es b hj hj' => ?_⟩
      · show upd e.F a _ b = none
        rw [upd_ne (fun z => n2 (by rw [← z]; exact hb))]
        exact r.wf.fa b hb
      · by_cases e3 : i = j
        · subst e3
          have hl : i < ρ.length := (List.getElem?_eq_some_iff.mp q).1
          rw [List.getElem?_set_self hl] at hj
          cases hj
          refine ⟨.ref a, e1, ?_⟩
          rw [Is]
          exact ⟨a, vs, rfl, upd_same, IsL.mono ff ⟨[], by simp⟩ ds i1⟩
        · rw [List.getElem?_set_ne e3] at hj
          obtain ⟨v, z1, z2⟩ := r.rel.dat j d hj
          exact ⟨v, z1, Is.mono ff ⟨[], by simp⟩ d z2⟩
      · have n := set_own_ne hj
        rw [List.getElem?_set_ne n] at hj
        obtain ⟨a', vs', z1, z2, z3, z4, z5⟩ := r.rel.own j es hj
        have na : a' ≠ a := fun z => n (r.rel.sep i j ds es a q hj e1 (by rw [← z]; exact z1))
        exact ⟨a', vs', z1, z2, IsL.mono ff ⟨[], by simp⟩ es z3, by show upd e.F a _ a' = none; rw [upd_ne na]; exact z4, z5⟩
      · have n := set_own_ne hj
        have n' := set_own_ne hk
        rw [List.getElem?_set_ne n] at hj
        rw [List.getElem?_set_ne n'] at hk
        exact r.rel.sep j k ds' es b hj hk hj' hk'
      · rcases fn b o hb with z | z
        · exact r.ext.fn b o z
        · subst z; exact .inr (.inl h0)
      · have n := set_own_ne hj
        rw [List.getElem?_set_ne n] at hj
        exact r.fresh j es b hj hj'

/-! ### statements -/
def sSet (i : Nat) (g : Den) : SDen := fun ρ Ω => match g ρ Ω with
  | some (d, Ω') => some (.nx (ρ.set i (.dat d)) Ω')
  | none => none
theorem set_read {K : PySem.W.Frag} {e₀ : E4} {i : Nat} {Dn : Ends} {σ : St} {H : Hp} (hw : tDS K C e₀ (sSet i g) Dn σ H) : tAsg (tD K C g) (gName i) Dn σ H := by
  obtain ⟨e, Ω, ρ, o, eH, r, q, k⟩ := hw
  unfold sSet at q
  cases q1 : g ρ Ω with
  | none => rw [q1] at q; cases q
  | some p1 =>
    obtain ⟨d, Ω'⟩ := p1
    rw [q1] at q
    cases q
    exact ⟨e, Ω, ρ, d, Ω', eH, r.wf, r.rel, q1, fun v e' x' w' i' => k e' _ ((r.to x' w').set i i')⟩
theorem pds_set {i : Nat} {n : Str} {pos' : Pos} (hN : X.N.Nodup) (hi : X.N[i]? = some n) (hx : Loc X.env.scope n) (he : PD X C x g) (hs : swapsWith x (some (.Name n pos')) pos.line X.env = pure false := by rfl) (hf : X.fn n = true ∨ X.env.scope.names.lookup n = some .local := by first | exact .inl rfl | exact .inr rfl | assumption) :
    PDS X C (.Assign [.Name n pos'] x pos) (sSet i g) := fun e₀ => ps_imp (ps_set hN hi hx he hs hf) fun Dn σ H h => set_read h
def sRet (g : Den) : SDen := fun ρ Ω => match g ρ Ω with
  | some (d, Ω') => some (.rt d Ω')
  | none => none
theorem pds_ret (he : PD X C x g) : PDS X C (.Return (some x) pos) (sRet g) := fun e₀ => ps_imp (ps_ret he) fun Dn σ H hw' => by
  obtain ⟨e, Ω, ρ, o, eH, r, q, k⟩ := hw'
  unfold sRet at q
  cases q1 : g ρ Ω with
  | none => rw [q1] at q; cases q
  | some p1 =>
    obtain ⟨d, Ω'⟩ := p1
    rw [q1] at q
    cases q
    exact ⟨e, Ω, ρ, d, Ω', eH, r.wf, r.rel, q1, fun v e' x' w' i' => k e' v (r.ext.trans x') w' i'⟩
def sIf (p : TDen) (s t : SDen) : SDen := fun ρ Ω => match p ρ Ω with
  | some (true, Ω') => s ρ Ω'
  | some (false, Ω') => t ρ Ω'
  | none => none
theorem pds_if (hc : PDT X C c p) (ha : PDB X C sts s) (hb : PDB X C sts' t) : PDS X C (.If c sts sts' pos) (sIf p s t) := fun e₀ => ps_imp (ps_if hc (ha e₀) (hb e₀)) fun Dn σ H hw' => by
  obtain ⟨e, Ω, ρ, o, eH, r, q, k⟩ := hw'
  unfold sIf at q
  cases q1 : p ρ Ω with
  | none => rw [q1] at q; cases q
  | some p1 =>
    obtain ⟨d, Ω'⟩ := p1
    rw [q1] at q
    refine ⟨e, Ω, ρ, d, Ω', eH, r.wf, r.rel, q1, fun e' x' w' => ?_⟩
    cases d with
    | true => rw [if_pos rfl]; exact ⟨e', Ω', ρ, o, rfl, r.to x' w', q, k⟩
    | false => rw [if_neg (by decide)]; exact ⟨e', Ω', ρ, o, rfl, r.to x' w', q, k⟩
/-! ### a list of one's own -/
def sOwn (i : Nat) (g : ADen) : SDen := fun ρ Ω => match g ρ Ω with
  | some (ds, Ω') => if ds.length ≤ big then some (.nx (ρ.set i (.own ds)) Ω') else none
  | none => none
theorem pds_own {i : Nat} {n : Str} {pos' lp : Pos} {es : List Expr} {ga : ADen} (hN : X.N.Nodup) (hi : X.N[i]? = some n) (hx : Loc X.env.scope n) (he : PDA X C es ga) (hs : swapsWith (.List es lp) (some (.Name n pos')) pos.line X.env = pure false := by rfl) (hf : X.fn n = true ∨ X.env.scope.names.lookup n = some .local := by first | exact .inl rfl | exact .inr rfl | assumption) :
    PDS X C (.Assign [.Name n pos'] (.List es lp) pos) (sOwn i ga) := fun e₀ => ps_imp (ps_set hN hi hx (pe_lst he) hs hf) fun Dn σ H hw' => by
  obtain ⟨e, Ω, ρ, o, eH, r, q, k⟩ := hw'
  unfold sOwn at q
  cases q1 : ga ρ Ω with
  | none => rw [q1] at q; cases q
  | some p1 =>
    obtain ⟨ds, Ω'⟩ := p1
    rw [q1] at q
    dsimp only at q
    split at q
    · rename_i hl
      cases q
      refine ⟨e, Ω, ρ, ds, Ω', eH, r.wf, r.rel, q1, fun vs e' x' w' i' => ⟨by rw [← i'.length]; exact big_line hl, fun a ha => ?_⟩⟩
      have r' := r.to x' w'
      have hne : ∀ b u, e'.H b = some u → b ≠ a := fun b u hb => ne_of_none hb ha
      have hF : e'.F a = none := w'.nF ha
      have hA : ¬ e'.A a := fun z => (w'.ah a z).1 ha
      have own1 : ∀ (j : Nat) (es : List D), (ρ.set i (.own ds))[j]? = some (.own es) → (j = i ∧ es = ds ∧ i < ρ.length) ∨ (j ≠ i ∧ ρ[j]? = some (.own es)) := fun j es hj => by
        by_cases e1 : i = j
        · subst e1
          have hl : i < ρ.length := by
            have := (List.getElem?_eq_some_iff.mp hj).1
            simpa using this
          rw [List.getElem?_set_self hl] at hj
          cases hj
          exact .inl ⟨rfl, rfl, hl⟩
        · rw [List.getElem?_set_ne e1] at hj
          exact .inr ⟨fun z => e1 z.symm, hj⟩
      refine k ⟨e'.α, e'.F, e'.A, upd e'.H a (.lst vs)⟩ _ ⟨⟨fun b u hb => ?_, w'.fa, fun b hb => ?_, w'.ol, w'.nd, fun n b u h1 h2 => ⟨(w'.ob n b u h1 h2).1, (w'.ob n b u h1 h2).2.keep (fun z hz => ?_) (Same.refl _) ⟨[], by simp⟩⟩⟩, ⟨by simp [r'.rel.len], fun j d hj => ?_, fun j es hj => ?_, fun j m es fs b hj hm h1 h2 => ?_⟩, ⟨fun b o' u hb => by show upd e'.H a _ b = some (.frz o' u); rw [upd_ne (hne b _ (r'.ext.fz b o' u hb))]; exact r'.ext.fz b o' u hb, fun b u hb hn => ?_, fun b u hb => ?_, r'.ext.ff, r'.ext.fn, r'.ext.an, r'.ext.aa, r'.ext.al⟩, fun j es b hj h1 => ?_⟩
      · show upd e'.H a _ b = some u
        rw [upd_ne (hne b u (w'.fh b u hb))]; exact w'.fh b u hb
      · show upd e'.H a _ b ≠ none ∧ ∀ xs, upd e'.H a _ b ≠ some (.tup xs)
        rw [upd_ne (fun z => hA (by rw [← z]; exact hb))]; exact w'.ah b hb
      · show upd e'.H a _ b = some z
        rw [upd_ne (hne b z hz)]; exact hz
      · have n : i ≠ j := fun e1 => by
          subst e1
          have hl : i < ρ.length := by
            have := (List.getElem?_eq_some_iff.mp hj).1
            simpa using this
          rw [List.getElem?_set_self hl] at hj
          cases hj
        rw [List.getElem?_set_ne n] at hj ⊢
        exact r'.rel.dat j d hj
      · rcases own1 j es hj with ⟨rfl, rfl, hq⟩ | ⟨n, hj'⟩
        · exact ⟨a, vs, List.getElem?_set_self (by rw [r'.rel.len]; exact hq), upd_same, i', hF, hA⟩
        · obtain ⟨b, us, z1, z2, z3, z4, z5⟩ := r'.rel.own j es hj'
          exact ⟨b, us, by rw [List.getElem?_set_ne n.symm]; exact z1, by show upd e'.H a _ b = _; rw [upd_ne (hne b _ z2)]; exact z2, z3, z4, z5⟩
      · rcases own1 j es hj with ⟨rfl, rfl, hq⟩ | ⟨n, hj'⟩
        · rcases own1 m fs hm with ⟨rfl, _, _⟩ | ⟨n', hm'⟩
          · rfl
          · rw [List.getElem?_set_self (by rw [r'.rel.len]; exact hq)] at h1
            rw [List.getElem?_set_ne n'.symm] at h2
            obtain ⟨b', us, z1, z2, _⟩ := r'.rel.own m fs hm'
            rw [h2] at z1
            cases h1
            cases z1
            exact absurd rfl (hne _ _ z2)
        · rcases own1 m fs hm with ⟨rfl, _, hq⟩ | ⟨n', hm'⟩
          · rw [List.getElem?_set_self (by rw [r'.rel.len]; exact hq)] at h2
            rw [List.getElem?_set_ne n.symm] at h1
            obtain ⟨b', us, z1, z2, _⟩ := r'.rel.own j es hj'
            rw [h1] at z1
            cases h2
            cases z1
            exact absurd rfl (hne _ _ z2)
          · rw [List.getElem?_set_ne n.symm] at h1
            rw [List.getElem?_set_ne n'.symm] at h2
            exact r'.rel.sep j m es fs b hj' hm' h1 h2
      · show upd e'.H a _ b = some u
        have z := r'.ext.hk b u hb hn
        rw [upd_ne (hne b u z)]; exact z
      · obtain ⟨u', z⟩ := r'.ext.dm b u hb
        exact ⟨u', by show upd e'.H a _ b = some u'; rw [upd_ne (hne b u' z)]; exact z⟩
      · rcases own1 j es hj with ⟨rfl, rfl, hq⟩ | ⟨n, hj'⟩
        · rw [List.getElem?_set_self (by rw [r'.rel.len]; exact hq)] at h1
          cases h1
          exact r'.ext.back ha
        · rw [List.getElem?_set_ne n.symm] at h1
          exact r'.fresh j es b hj' h1
    · cases q
/-- found.append(e), found a list of one's own -/
def sApp (i : Nat) (g : Den) : SDen := fun ρ Ω => match g ρ Ω with
  | some (d, Ω') => match ρ[i]? with
    | some (.own ds) => if ds.length < big then some (.nx (ρ.set i (.own (ds ++ [d]))) Ω') else none
    | _ => none
  | none => none
theorem app_read {K : PySem.W.Frag} {e₀ : E4} {i : Nat} {Dn : Ends} {σ : St} {H : Hp} (hw : tDS K C e₀ (sApp i g) Dn σ H) :
    tDrop (tBM K "list" rAppend (tVar i) (tCons (tD K C g) tNil)) Dn σ H := by
  obtain ⟨e, Ω, ρ, o, eH, r, q, k⟩ := hw
  subst eH
  unfold sApp at q
  cases q1 : g ρ Ω with
  | none => rw [q1] at q; cases q
  | some p1 =>
    obtain ⟨d, Ω'⟩ := p1
    rw [q1] at q
    dsimp only at q
    cases q2 : ρ[i]? with
    | none => rw [q2] at q; cases q
    | some sl =>
      rw [q2] at q
      cases sl with
      | own ds =>
        dsimp only at q
        split at q
        · rename_i hl
          cases q
          obtain ⟨a, vs, e1, e2, i1, n1, n2⟩ := r.rel.own i ds q2
          refine ⟨.ref a, e1, .inl ⟨rfl, _, SqL.of e2⟩, ?_⟩
          refine ⟨e, Ω, ρ, d, Ω', rfl, r.wf, r.rel, q1, fun v e' x' w' i' => ?_⟩
          have r' := r.to x' w'
          obtain ⟨a', vs', e1', e2', i1', n1', n2'⟩ := r'.rel.own i ds q2
          rw [e1] at e1'
          cases e1'
          refine ⟨a, vs', v, rfl, rfl, e2', by rw [← i1'.length]; exact big_lt hl, ?_⟩
          have hil : i < ρ.length := (List.getElem?_eq_some_iff.mp q2).1
          have neH : ∀ (j : Nat) (es : List D) (b : Addr), j ≠ i → ρ[j]? = some (.own es) → σ[j]? = some (some (.ref b)) → b ≠ a := fun j es b n hj h1 z => by
            subst z
            exact n (r'.rel.sep j i es ds b hj q2 h1 e1)
          have own1 : ∀ (j : Nat) (es : List D), (ρ.set i (.own (ds ++ [d])))[j]? = some (.own es) → (j = i ∧ es = ds ++ [d]) ∨ (j ≠ i ∧ ρ[j]? = some (.own es)) := fun j es hj => by
            by_cases e3 : i = j
            · subst e3
              rw [List.getElem?_set_self hil] at hj
              cases hj
              exact .inl ⟨rfl, rfl⟩
            · rw [List.getElem?_set_ne e3] at hj
              exact .inr ⟨fun z => e3 z.symm, hj⟩
          refine k ⟨e'.α, e'.F, e'.A, upd e'.H a (.lst (vs' ++ [v]))⟩ σ ⟨⟨fun b u hb => ?_, w'.fa, fun b hb => ?_, w'.ol, w'.nd, fun n b u h1 h2 => ⟨(w'.ob n b u h1 h2).1, (w'.ob n b u h1 h2).2.keep (fun z hz => ?_) (Same.refl _) ⟨[], by simp⟩⟩⟩, ⟨by simp [r'.rel.len], fun j d' hj => ?_, fun j es hj => ?_, fun j m es fs b hj hm h1 h2 => ?_⟩, ⟨fun b o' u hb => by have q := r'.ext.fz b o' u hb; show upd e'.H a _ b = some (.frz o' u); rw [upd_ne (fun z => by rw [z, e2'] at q; cases q)]; exact q, fun b u hb hn => ?_, fun b u hb => ?_, r'.ext.ff, r'.ext.fn, r'.ext.an, r'.ext.aa, r'.ext.al⟩, fun j es b hj h1 => ?_⟩
          · show upd e'.H a _ b = some u
            rw [upd_ne (fun z => by subst z; rw [n1'] at hb; cases hb)]
            exact w'.fh b u hb
          · show upd e'.H a _ b ≠ none ∧ ∀ xs, upd e'.H a _ b ≠ some (.tup xs)
            rw [upd_ne (fun z => n2' (by rw [← z]; exact hb))]
            exact w'.ah b hb
          · show upd e'.H a _ b = some z
            rw [upd_ne (fun y => n2' (by rw [← y]; exact (w'.ob n b u h1 h2).1))]
            exact hz
          · have n : i ≠ j := fun e3 => by
              subst e3
              rw [List.getElem?_set_self hil] at hj
              cases hj
            rw [List.getElem?_set_ne n] at hj
            exact r'.rel.dat j d' hj
          · rcases own1 j es hj with ⟨rfl, rfl⟩ | ⟨n, hj'⟩
            · exact ⟨a, _, e1, upd_same, i1'.append (.cons i' .nil), n1', n2'⟩
            · obtain ⟨b, us, z1, z2, z3, z4, z5⟩ := r'.rel.own j es hj'
              exact ⟨b, us, z1, by show upd e'.H a _ b = _; rw [upd_ne (neH j es b n hj' z1)]; exact z2, z3, z4, z5⟩
          · rcases own1 j es hj with ⟨rfl, _⟩ | ⟨n, hj'⟩
            · rcases own1 m fs hm with ⟨rfl, _⟩ | ⟨n', hm'⟩
              · rfl
              · exact r'.rel.sep _ m ds fs b q2 hm' h1 h2
            · rcases own1 m fs hm with ⟨rfl, _⟩ | ⟨n', hm'⟩
              · exact r'.rel.sep j _ es ds b hj' q2 h1 h2
              · exact r'.rel.sep j m es fs b hj' hm' h1 h2
          · show upd e'.H a _ b = some u
            have h0 := r'.fresh i ds a q2 e1
            rw [upd_ne (ne_of_none hb h0)]
            exact r'.ext.hk b u hb hn
          · have h0 := r'.fresh i ds a q2 e1
            obtain ⟨u', z⟩ := r'.ext.dm b u hb
            exact ⟨u', by show upd e'.H a _ b = some u'; rw [upd_ne (ne_of_none hb h0)]; exact z⟩
          · rcases own1 j es hj with ⟨rfl, _⟩ | ⟨n, hj'⟩
            · exact r'.fresh _ ds b q2 h1
            · exact r'.fresh j es b hj' h1
        · cases q
      | und => cases q
      | dat _ => cases q
end
end DL
set_option Elab.async false
set_option linter.all false
set_option maxRecDepth 100000
namespace DL
open PySem PySem.Spec PyProof.Rows L2

open Classical in
noncomputable def hid (P : Addr → Prop) (H : Hp) : Hp := fun b => if P b then none else H b
theorem hid_pos {P : Addr → Prop} {H : Hp} {b : Addr} (h : P b) : hid P H b = none := if_pos h
theorem hid_neg {P : Addr → Prop} {H : Hp} {b : Addr} (h : ¬ P b) : hid P H b = H b := if_neg h
theorem hid_some {P : Addr → Prop} {H : Hp} {b : Addr} {o : HO} (h : hid P H b = some o) : H b = some o := by
  by_cases q : P b
  · rw [hid_pos q] at h; cases h
  · rw [hid_neg q] at h; exact h
section
variable {K : PySem.W.Frag} {C : Cl} {e₀ e e' : E4} {Ω Ω' : List OS} {σ : St} {ρ : List Sl}
/-- a mark in the middle of a body: what stands there stands from there on -/
theorem RelS.mark (r : RelS K C e₀ e Ω σ ρ) : ∃ e₁ : E4, e₁.F = e.F ∧ e₁.α = e.α ∧ RelS K C e₁ e Ω σ ρ ∧ (∀ e', Ext e₁ e' → Ext e₀ e') ∧ (∀ b, e₁.H b = none → e₀.H b = none) ∧ ∀ b o u, e.H b = some (.frz o u) → e₁.H b = some (.frz o u) := by
  have ho : ∀ b, (∃ (i : Nat) (ds : List D), ρ[i]? = some (Sl.own ds) ∧ σ[i]? = some (some (V.ref b))) → e₀.H b = none := fun b ⟨i, ds, h1, h2⟩ => r.fresh i ds b h1 h2
  generalize hP : (fun b : Addr => ∃ (i : Nat) (ds : List D), ρ[i]? = some (Sl.own ds) ∧ σ[i]? = some (some (V.ref b))) = P
  have ho' : ∀ b, P b → e₀.H b = none := fun b h => ho b (by rw [← hP] at h; exact h)
  have hno : ∀ b, hid P e.H b = none → e₀.H b = none := fun b h => by
    by_cases q : P b
    · exact ho' b q
    · rw [hid_neg q] at h; exact r.ext.back h
  have hs : ∀ b o, e₀.H b = some o → hid P e.H b = e.H b := fun b o h => hid_neg (fun q => by rw [ho' b q] at h; cases h)
  refine ⟨⟨e.α, e.F, e.A, hid P e.H⟩, rfl, rfl, ⟨r.wf, r.rel, ⟨fun b o u h => hid_some h, fun b o h _ => hid_some h, fun b o h => ⟨o, hid_some h⟩, Same.refl _, fun b o h => .inl h, fun b h => .inl h, fun b h => h, [], by simp⟩, fun i ds a h1 h2 => ?_⟩, fun e' x => ⟨fun b o u h => x.fz b o u ((hs b _ h).trans (r.ext.fz b o u h)), fun b o h hn => ?_, fun b o h => ?_, r.ext.ff.trans x.ff, fun b o h => ?_, fun b h => ?_, fun b h => x.aa b (r.ext.aa b h), ?_⟩, hno, fun b o u h => (hid_neg (fun q => ?_)).trans h⟩
  · exact hid_pos (by rw [← hP]; exact ⟨i, ds, h1, h2⟩)
  · have z := r.ext.hk b o h hn
    refine x.hk b o ((hs b o h).trans z) fun hA => ?_
    rcases r.ext.an b hA with q | q
    · exact hn q
    · rw [q] at h; cases h
  · obtain ⟨o', z⟩ := r.ext.dm b o h
    exact x.dm b o' ((hs b o h).trans z)
  · rcases x.fn b o h with q | q | ⟨q1, q2, q3⟩
    · exact r.ext.fn b o q
    · exact .inr (.inl (hno b q))
    · have n : ¬ e₀.A b := fun z => q3 (r.ext.aa b z)
      cases z : e₀.H b with
      | none => exact .inr (.inl rfl)
      | some o' =>
        have z' := r.ext.hk b o' z n
        rw [hid_some q2] at z'
        cases z'
        exact .inr (.inr ⟨q1, rfl, n⟩)
  · rcases x.an b h with q | q
    · exact r.ext.an b q
    · exact .inr (hno b q)
  · obtain ⟨m, e1⟩ := r.ext.al
    obtain ⟨n, e2⟩ := x.al
    exact ⟨m ++ n, by rw [e2]; show e.α ++ n = _; rw [e1, List.append_assoc]⟩
  · rw [← hP] at q
    obtain ⟨i, ds, h1, h2⟩ := q
    obtain ⟨a', vs, e1, e2, _⟩ := r.rel.own i ds h1
    rw [h2] at e1
    cases e1
    rw [h] at e2
    cases e2
end

/-! ### targets -/
abbrev BDen := D → List Sl → Option (List Sl)
def tDG (K : PySem.W.Frag) (C : Cl) (β : BDen) : TG := fun v σ H Q => ∃ e Ω ρ d ρ', e.H = H ∧ Wf K C e Ω ∧ RelE K e σ ρ ∧ Is K e.α e.F d v ∧ β d ρ = some ρ' ∧
  ∀ σ', RelE K e σ' ρ' → (∀ (j : Nat) (ds : List D), ρ'[j]? = some (.own ds) → ρ[j]? = some (.own ds) ∧ σ'[j]? = σ[j]?) → Q σ' e.H
def PDG (X : Cx) (C : Cl) (tg : Expr) (β : BDen) : Prop := PG X tg (tDG X.K C β)
theorem pg_imp {X : Cx} {tg : Expr} {t t' : TG} (h : PG X tg t) (i : ∀ v σ H Q, t' v σ H Q → t v σ H Q) : PG X tg t' := fun pins s σ H v u Q I r hw => h pins s σ H v u Q I r (i v σ H Q hw)
def bName (i : Nat) : BDen := fun d ρ => some (ρ.set i (.dat d))
theorem own_set {ρ : List Sl} {σ : St} {i : Nat} {d : D} {v : V} (j : Nat) (ds : List D) (h : (ρ.set i (.dat d))[j]? = some (.own ds)) : ρ[j]? = some (.own ds) ∧ (σ.set i (some v))[j]? = σ[j]? := by
  have n := set_own_ne h
  rw [List.getElem?_set_ne n] at h
  exact ⟨h, List.getElem?_set_ne n⟩
section
variable {X : Cx} {C : Cl} {pos : Pos}
theorem pdg_name {i : Nat} {x : Str} (hN : X.N.Nodup) (hi : X.N[i]? = some x) (hx : Loc X.env.scope x) (hf : X.fn x = true ∨ X.env.scope.names.lookup x = some .local := by first | exact .inl rfl | exact .inr rfl | assumption) : PDG X C (.Name x pos) (bName i) :=
  pg_imp (pg_name hN hi hx hf) fun v σ H Q hw' => by
    obtain ⟨e, Ω, ρ, d, ρ', eH, w, r, is, b, k⟩ := hw'
    subst eH
    cases b
    exact k _ (r.set i is) own_set
theorem RelS.by {K : PySem.W.Frag} {e₀ e : E4} {Ω : List OS} {σ σ' : St} {ρ ρ' : List Sl} (r : RelS K C e₀ e Ω σ ρ) (r' : RelE K e σ' ρ') (o : ∀ (j : Nat) (ds : List D), ρ'[j]? = some (.own ds) → ρ[j]? = some (.own ds) ∧ σ'[j]? = σ[j]?) : RelS K C e₀ e Ω σ' ρ' :=
  ⟨r.wf, r', r.ext, fun i ds a h1 h2 => by
    obtain ⟨z1, z2⟩ := o i ds h1
    rw [z2] at h2
    exact r.fresh i ds a z1 h2⟩
end

/-! ### what is walked -/
def Walk (K : PySem.W.Frag) (e : E4) (J : It) (ds : List D) : Prop := ∀ (i : Nat) (e2 : E4), Same e.F e2.F → (∃ more, e2.α = e.α ++ more) → Same e2.F e2.H →
  (i = ds.length → J.stop i e2.H) ∧ ∀ d, ds[i]? = some d → J.go i e2.H ∧ ∀ x H', J.yld i e2.H x H' → ∃ e3 : E4, e3.H = H' ∧ Is K e3.α e3.F d x ∧ ∀ (C : Cl) (Ω : List OS), Wf K C e2 Ω → Ext e2 e3 ∧ Wf K C e3 Ω
theorem Walk.still {K : PySem.W.Frag} {e : E4} {J : It} {ds : List D} (h : ∀ (i : Nat) (e2 : E4), Same e.F e2.F → (∃ more, e2.α = e.α ++ more) → Same e2.F e2.H →
    (i = ds.length → J.stop i e2.H) ∧ ∀ d, ds[i]? = some d → J.go i e2.H ∧ ∀ x H', J.yld i e2.H x H' → H' = e2.H ∧ Is K e2.α e2.F d x) : Walk K e J ds := fun i e2 h1 h2 h3 => by
  obtain ⟨a, b⟩ := h i e2 h1 h2 h3
  refine ⟨a, fun d hd => ⟨(b d hd).1, fun x H' hy => ?_⟩⟩
  obtain ⟨z, q⟩ := (b d hd).2 x H' hy
  exact ⟨e2, z.symm, q, fun C Ω w => ⟨Ext.refl _, w⟩⟩
def tDI (K : PySem.W.Frag) (C : Cl) (γ : ADen) : TI := fun σ H R => ∃ e Ω ρ ds Ω', e.H = H ∧ Wf K C e Ω ∧ RelE K e σ ρ ∧ γ ρ Ω = some (ds, Ω') ∧ ∀ e' J, Ext e e' → Wf K C e' Ω' → Walk K e' J ds → R J e'.H
def PDI (X : Cx) (C : Cl) (tg iter : Expr) (γ : ADen) : Prop := PI X tg iter (tDI X.K C γ)
theorem pi_imp {X : Cx} {tg iter : Expr} {t t' : TI} (h : PI X tg iter t) (i : ∀ σ H R, t' σ H R → t σ H R) : PI X tg iter t' := fun pins s σ H R I hw => h pins s σ H R I (i σ H R hw)
section
variable {X : Cx} {C : Cl} {tg iter : Expr} {g : Den} {ga : ADen} {pos p : Pos}
def seqD : D → Option (List D)
  | .lst xs => some xs
  | .scr ns => some (ns.map D.int)
  | _ => none
def gSeq (g : Den) : ADen := fun ρ Ω => match g ρ Ω with
  | some (d, Ω') => match seqD d with
    | some ds => some (ds, Ω')
    | none => none
  | none => none
theorem walk_list {K : PySem.W.Frag} {e : E4} {a : Addr} {vs : List V} {ds : List D} (h : SqL K e.F a vs) (r : IsL K e.α e.F ds vs) : Walk K e (Itl K a) ds := by
  refine Walk.still ?_
  intro i e2 ff al fh
  have h2 : SqL K e2.H a vs := fh.seq (ff.seq h)
  refine ⟨fun z => ⟨vs, h2, by rw [← r.length]; exact Nat.le_of_eq z.symm⟩, fun d hd => ?_⟩
  obtain ⟨v, hv, iv⟩ := (IsL.mono ff al ds r).get hd
  exact ⟨⟨vs, v, h2, hv⟩, fun x H' ⟨z1, z2⟩ => ⟨z1, by
    have := z2 vs h2
    rw [hv] at this
    cases this
    exact iv⟩⟩
theorem pdi_list (h : PD X C iter g) : PDI X C tg iter (gSeq g) := pi_imp (pi_list h) fun σ H R hw' => by
  obtain ⟨e, Ω, ρ, ds, Ω', eH, w, rl, q, k⟩ := hw'
  unfold gSeq at q
  cases q1 : g ρ Ω with
  | none => rw [q1] at q; cases q
  | some p1 =>
    obtain ⟨d, Ω1⟩ := p1
    rw [q1] at q
    dsimp only at q
    refine ⟨e, Ω, ρ, d, Ω1, eH, w, rl, q1, fun v e' x' w' i' => ?_⟩
    cases d with
    | lst xs =>
      cases q
      rw [Is] at i'
      obtain ⟨a, vs, rfl, h1, r1⟩ := i'
      exact ⟨a, rfl, ⟨vs, SqL.of (w'.fh _ _ h1)⟩, k e' _ x' w' (walk_list (SqL.of h1) r1)⟩
    | scr ns =>
      cases q
      rw [Is] at i'
      obtain ⟨a, rfl, h1⟩ := i'
      exact ⟨a, rfl, ⟨_, w'.fh.seq h1⟩, k e' _ x' w' (walk_list h1 (IsL.ints ns))⟩
    | _ => cases q
/-- lo, lo + 1 .. -/
def upD (lo : Int) (n : Nat) : List D := (List.range n).map fun (k : Nat) => D.int (lo + (k : Int))
theorem walk_range {K : PySem.W.Frag} {e : E4} {lo : Int} {n : Nat} : Walk K e (Itr lo n) (upD lo n) := by
  refine Walk.still ?_
  intro i e2 _ _ _
  refine ⟨fun z => Nat.le_of_eq (by rw [z]; simp [upD]), fun d hd => ?_⟩
  have hi : i < n := by
    have := (List.getElem?_eq_some_iff.mp hd).1
    simpa [upD] using this
  refine ⟨hi, fun x H' ⟨z1, z2⟩ => ⟨z1, ?_⟩⟩
  have : d = D.int (lo + (i : Int)) := by
    simp [upD, hi] at hd
    exact hd.symm
  subst this z2
  rw [Is]
noncomputable def rng1 : List D → Option (List D)
  | [.int j] => grd (-(2 ^ 62) ≤ j ∧ j < 2 ^ 62) (some (upD 0 j.toNat))
  | _ => none
noncomputable def rng2 : List D → Option (List D)
  | [.int i, .int j] => grd (-(2 ^ 62) ≤ i ∧ i < 2 ^ 62 ∧ -(2 ^ 62) ≤ j ∧ j < 2 ^ 62) (some (upD i (j - i).toNat))
  | _ => none
def gRng (r : List D → Option (List D)) (g : ADen) : ADen := fun ρ Ω => match g ρ Ω with
  | some (ds, Ω') => match r ds with
    | some es => some (es, Ω')
    | none => none
  | none => none
theorem pdi_range1 {a : Expr} (hg : Gl X "range") (hm : X.mg "range" = none) (ha : PDA X C [a] ga) (hs : starEach [a] X.env = [(false, eval a X.env)] := by rfl) : PDI X C tg (.Call (.Name "range" p) [a] [] pos) (gRng rng1 ga) :=
  pi_imp (pi_range1 hg hm ha hs) fun σ H R hw' => by
    obtain ⟨e, Ω, ρ, ds, Ω', eH, w, rl, q, k⟩ := hw'
    unfold gRng at q
    cases q1 : ga ρ Ω with
    | none => rw [q1] at q; cases q
    | some p1 =>
      obtain ⟨es, Ω1⟩ := p1
      rw [q1] at q
      dsimp only at q
      refine ⟨e, Ω, ρ, es, Ω1, eH, w, rl, q1, fun v e' x' w' i' => ?_⟩
      match es, q, i' with
      | [.int j], q, i' =>
        obtain ⟨v, rfl, iv⟩ := isL_one i'
        rw [Is] at iv
        subst iv
        have ez : rng1 [D.int j] = grd (-(2 ^ 62) ≤ j ∧ j < 2 ^ 62) (some (upD 0 j.toNat)) := rfl
        rw [ez] at q
        by_cases hb : (-(2 ^ 62) ≤ j ∧ j < 2 ^ 62)
        · rw [grd_pos hb] at q
          cases q
          exact ⟨j, rfl, hb.1, hb.2, k e' _ x' w' walk_range⟩
        · have en : grd (-(2 ^ 62) ≤ j ∧ j < 2 ^ 62) (some (upD 0 j.toNat)) = none := if_neg hb
          rw [en] at q
          cases q
theorem pdi_range2 {a b : Expr} (hg : Gl X "range") (hm : X.mg "range" = none) (ha : PDA X C [a, b] ga) (hs : starEach [a, b] X.env = [(false, eval a X.env), (false, eval b X.env)] := by rfl) (hs2 : starEach [b] X.env = [(false, eval b X.env)] := by rfl) : PDI X C tg (.Call (.Name "range" p) [a, b] [] pos) (gRng rng2 ga) :=
  pi_imp (pi_range2 hg hm ha hs hs2) fun σ H R hw' => by
    obtain ⟨e, Ω, ρ, ds, Ω', eH, w, rl, q, k⟩ := hw'
    unfold gRng at q
    cases q1 : ga ρ Ω with
    | none => rw [q1] at q; cases q
    | some p1 =>
      obtain ⟨es, Ω1⟩ := p1
      rw [q1] at q
      dsimp only at q
      refine ⟨e, Ω, ρ, es, Ω1, eH, w, rl, q1, fun v e' x' w' i' => ?_⟩
      match es, q, i' with
      | [.int i, .int j], q, i' =>
        obtain ⟨v, u, rfl, iv, iu⟩ := isL_two i'
        rw [Is] at iv iu
        subst iv iu
        have ez : rng2 [D.int i, D.int j] = grd (-(2 ^ 62) ≤ i ∧ i < 2 ^ 62 ∧ -(2 ^ 62) ≤ j ∧ j < 2 ^ 62) (some (upD i (j - i).toNat)) := rfl
        rw [ez] at q
        by_cases hb : (-(2 ^ 62) ≤ i ∧ i < 2 ^ 62 ∧ -(2 ^ 62) ≤ j ∧ j < 2 ^ 62)
        · rw [grd_pos hb] at q
          cases q
          exact ⟨i, j, rfl, hb, k e' _ x' w' walk_range⟩
        · have en : grd (-(2 ^ 62) ≤ i ∧ i < 2 ^ 62 ∧ -(2 ^ 62) ≤ j ∧ j < 2 ^ 62) (some (upD i (j - i).toNat)) = none := if_neg hb
          rw [en] at q
          cases q
end

/-! ### for, while -/
def forD (β : BDen) (s : SDen) : List D → SDen
  | [], ρ, Ω => some (.nx ρ Ω)
  | d :: ds, ρ, Ω => match β d ρ with
    | some ρ1 => match s ρ1 Ω with
      | some (.nx ρ' Ω') => forD β s ds ρ' Ω'
      | some (.ct ρ' Ω') => forD β s ds ρ' Ω'
      | some (.bk ρ' Ω') => some (.nx ρ' Ω')
      | some (.rt z Ω') => some (.rt z Ω')
      | none => none
    | none => none
def sFor (γ : ADen) (β : BDen) (s : SDen) : SDen := fun ρ Ω => match γ ρ Ω with
  | some (ds, Ω') => forD β s ds ρ Ω'
  | none => none
section
variable {X : Cx} {C : Cl} {tg iter c : Expr} {γ : ADen} {β : BDen} {s : SDen} {body : List Stmt} {pos : Pos} {p : TDen}
theorem pdb_ex {sts : List Stmt} (h : PDB X C sts s) : PSs X sts (fun Dn σ H => ∃ e₁, tDS X.K C e₁ s Dn σ H) := fun pins sh σ H Dn I ⟨e₁, hw⟩ => h e₁ pins sh σ H Dn I hw
theorem pds_for (hp : PassesOwn (model X.prog X.w) X.A X.env X.xe) (hc : X.calm = true) (hi : PDI X C tg iter γ) (hg : PDG X C tg β) (hb : PDB X C body s)
    (hs : ∀ x, foldedSetIterable iter X.env x = pure x := by intro _; rfl) : PDS X C (.For tg iter body [] pos) (sFor γ β s) := by
  refine fun e₀ => ps_imp (ps_for hp hc hi hg (pdb_ex hb) hs) fun Dn σ H hw' => ?_
  obtain ⟨e, Ω, ρ, o, eH, r, q, k⟩ := hw'
  unfold sFor at q
  cases q1 : γ ρ Ω with
  | none => rw [q1] at q; cases q
  | some p1 =>
    obtain ⟨ds, Ω'⟩ := p1
    rw [q1] at q
    dsimp only at q
    refine ⟨e, Ω, ρ, ds, Ω', eH, r.wf, r.rel, q1, fun e' J x' w' wk => ?_⟩
    refine ⟨fun i m σ H => m = ds.length - i ∧ i ≤ ds.length ∧ ∃ e2 Ω2 ρ2, e2.H = H ∧ RelS X.K C e₀ e2 Ω2 σ ρ2 ∧ Same e'.F e2.F ∧ (∃ more, e2.α = e'.α ++ more) ∧ forD β s (ds.drop i) ρ2 Ω2 = some o, ⟨ds.length, by simp, Nat.zero_le _, e', Ω', ρ, rfl, r.to x' w', Same.refl _, ⟨[], by simp⟩, by simpa using q⟩, ?_⟩
    rintro i m σ2 H2 ⟨rfl, hil, e2, Ω2, ρ2, rfl, r2, ff, al, q2⟩
    obtain ⟨stop, go⟩ := wk i e2 ff al r2.wf.fh
    by_cases hlt : i < ds.length
    · have hd : ds[i]? = some ds[i] := List.getElem?_eq_getElem hlt
      obtain ⟨g1, y1⟩ := go _ hd
      have edrop : ds.drop i = ds[i] :: ds.drop (i + 1) := List.drop_eq_getElem_cons hlt
      rw [edrop] at q2
      refine .inr ⟨g1, fun σ' H' => ∃ e3 Ω3 ρ3, e3.H = H' ∧ RelS X.K C e₀ e3 Ω3 σ' ρ3 ∧ Same e'.F e3.F ∧ (∃ more, e3.α = e'.α ++ more) ∧ forD β s (ds.drop (i + 1)) ρ3 Ω3 = some o, fun σ' H' hN => ⟨ds.length - (i + 1), by omega, rfl, hlt, hN⟩, fun x H' hy => ?_⟩
      obtain ⟨e2', rfl, ix, up⟩ := y1 x H' hy
      obtain ⟨x2', w2'⟩ := up C Ω2 r2.wf
      replace r2 := r2.to x2' w2'
      replace ff := ff.trans x2'.ff
      replace al : ∃ more, e2'.α = e'.α ++ more := by
        obtain ⟨m1, z1⟩ := al
        obtain ⟨m2, z2⟩ := x2'.al
        exact ⟨m1 ++ m2, by rw [z2, z1, List.append_assoc]⟩
      clear y1 g1 stop go
      revert r2 ff al ix
      generalize e2' = e2
      intro ix r2 ff al
      unfold forD at q2
      cases q3 : β ds[i] ρ2 with
      | none => rw [q3] at q2; cases q2
      | some ρ3 =>
        rw [q3] at q2
        dsimp only at q2
        refine ⟨e2, Ω2, ρ2, _, ρ3, rfl, r2.wf, r2.rel, ix, q3, fun σ3 r3 o3 => ?_⟩
        have r3' := r2.by r3 o3
        obtain ⟨e₁, hF, hα, r4, toE, toN, _⟩ := r3'.mark
        cases q4 : s ρ3 Ω2 with
        | none => rw [q4] at q2; cases q2
        | some o4 =>
          rw [q4] at q2
          refine ⟨e₁, e2, Ω2, ρ3, o4, rfl, r4, q4, ?_⟩
          have back : ∀ {e5 : E4} {Ω5 : List OS} {σ5 : St} {ρ5 : List Sl}, RelS X.K C e₁ e5 Ω5 σ5 ρ5 → RelS X.K C e₀ e5 Ω5 σ5 ρ5 ∧ Same e'.F e5.F ∧ ∃ more, e5.α = e'.α ++ more := fun {e5 Ω5 σ5 ρ5} r5 => by
            refine ⟨⟨r5.wf, r5.rel, toE _ r5.ext, fun i ds a h1 h2 => toN _ (r5.fresh i ds a h1 h2)⟩, ff.trans (hF ▸ r5.ext.ff), ?_⟩
            obtain ⟨m1, z1⟩ := al
            obtain ⟨m2, z2⟩ := r5.ext.al
            exact ⟨m1 ++ m2, by rw [z2, hα, z1, List.append_assoc]⟩
          cases o4 with
          | nx ρ5 Ω5 => exact fun e5 σ5 r5 => ⟨e5, Ω5, ρ5, rfl, (back r5).1, (back r5).2.1, (back r5).2.2, q2⟩
          | ct ρ5 Ω5 => exact fun e5 σ5 r5 => ⟨e5, Ω5, ρ5, rfl, (back r5).1, (back r5).2.1, (back r5).2.2, q2⟩
          | bk ρ5 Ω5 => cases q2; exact fun e5 σ5 r5 => k e5 σ5 (back r5).1
          | rt z Ω5 => cases q2; exact fun e5 v5 x5 w5 i5 => k e5 v5 (toE _ x5) w5 i5
    · have ei : i = ds.length := by omega
      subst ei
      rw [List.drop_length] at q2
      cases q2
      exact .inl ⟨stop rfl, k e2 σ2 r2⟩
def whileD (p : TDen) (s : SDen) : Nat → SDen
  | 0, _, _ => none
  | n + 1, ρ, Ω => match p ρ Ω with
    | some (true, Ω1) => match s ρ Ω1 with
      | some (.nx ρ' Ω') => whileD p s n ρ' Ω'
      | some (.ct ρ' Ω') => whileD p s n ρ' Ω'
      | some (.bk ρ' Ω') => some (.nx ρ' Ω')
      | some (.rt z Ω') => some (.rt z Ω')
      | none => none
    | some (false, Ω1) => some (.nx ρ Ω1)
    | none => none
theorem pds_while (fuel : Nat) (hp : PassesOwn (model X.prog X.w) X.A X.env X.xe) (hc : PDT X C c p) (hb : PDB X C body s) : PDS X C (.While c body [] pos) (whileD p s fuel) := by
  refine fun e₀ => ps_imp (ps_while hp hc (pdb_ex hb)) fun Dn σ H hw' => ?_
  obtain ⟨e, Ω, ρ, o, eH, r, q, k⟩ := hw'
  refine ⟨fun m σ H => ∃ e2 Ω2 ρ2, e2.H = H ∧ RelS X.K C e₀ e2 Ω2 σ ρ2 ∧ whileD p s m ρ2 Ω2 = some o, ⟨fuel, e, Ω, ρ, eH, r, q⟩, ?_⟩
  rintro m σ2 H2 ⟨e2, Ω2, ρ2, rfl, r2, q2⟩
  cases m with
  | zero => cases q2
  | succ m =>
    unfold whileD at q2
    cases q3 : p ρ2 Ω2 with
    | none => rw [q3] at q2; cases q2
    | some p3 =>
      obtain ⟨b, Ω3⟩ := p3
      rw [q3] at q2
      refine ⟨e2, Ω2, ρ2, b, Ω3, rfl, r2.wf, r2.rel, q3, fun e3 x3 w3 => ?_⟩
      have r3 := r2.to x3 w3
      cases b with
      | false =>
        refine iteF ?_
        cases q2
        exact k e3 σ2 r3
      | true =>
        refine iteT ?_
        dsimp only at q2
        refine ⟨fun σ' H' => ∃ e5 Ω5 ρ5, e5.H = H' ∧ RelS X.K C e₀ e5 Ω5 σ' ρ5 ∧ whileD p s m ρ5 Ω5 = some o, fun σ' H' hN => ⟨m, Nat.lt_succ_self m, hN⟩, e₀, ?_⟩
        cases q4 : s ρ2 Ω3 with
        | none => rw [q4] at q2; cases q2
        | some o4 =>
          rw [q4] at q2
          refine ⟨e3, Ω3, ρ2, o4, rfl, r3, q4, ?_⟩
          cases o4 with
          | nx ρ5 Ω5 => exact fun e5 σ5 r5 => ⟨e5, Ω5, ρ5, rfl, r5, q2⟩
          | ct ρ5 Ω5 => exact fun e5 σ5 r5 => ⟨e5, Ω5, ρ5, rfl, r5, q2⟩
          | bk ρ5 Ω5 => cases q2; exact fun e5 σ5 r5 => k e5 σ5 r5
          | rt z Ω5 => cases q2; exact k
end
end DL
set_option Elab.async false
set_option linter.all false
set_option maxRecDepth 100000
namespace DL
open PySem PySem.Spec PyProof.Rows L2

/-! ### defs -/
abbrev FDen := List D → List OS → Option (D × List OS)
def spD (K : PySem.W.Frag) (C : Cl) (f : FDen) : Sp := fun vs H Q _ => ∃ e Ω ds d Ω', e.H = H ∧ Wf K C e Ω ∧ IsL K e.α e.F ds vs ∧ f ds Ω = some (d, Ω') ∧ ∀ v e', Ext e e' → Wf K C e' Ω' → Is K e'.α e'.F d v → Q v e'.H
/-- a def of n parameters and m names in all, by its body -/
def runD (n m : Nat) (s : SDen) : FDen := fun ds Ω => if ds.length = n then match s (ds.map Sl.dat ++ List.replicate (m - n) Sl.und) Ω with
    | some (.rt d Ω') => some (d, Ω')
    | some (.nx _ Ω') => some (.non, Ω')
    | _ => none
  else none
theorem start_rel {K : PySem.W.Frag} {C : Cl} {e : E4} {Ω : List OS} {N : List Str} {ds : List D} {vs : List V} (w : Wf K C e Ω) (i : IsL K e.α e.F ds vs) : RelS K C e e Ω (L2.start N vs) (ds.map Sl.dat ++ List.replicate (N.length - ds.length) Sl.und) := by
  have noown : ∀ (j : Nat) (es : List D), (ds.map Sl.dat ++ List.replicate (N.length - ds.length) Sl.und)[j]? ≠ some (.own es) := fun j es h => by
    by_cases hj : j < ds.length
    · rw [List.getElem?_append_left (by simpa using hj), List.getElem?_map] at h
      cases q : ds[j]? with
      | none => rw [q] at h; cases h
      | some d => rw [q] at h; cases h
    · rw [List.getElem?_append_right (by simpa using hj), List.getElem?_replicate] at h
      split at h <;> cases h
  refine ⟨w, ⟨?_, fun j d h => ?_, fun j es h => absurd h (noown j es), fun j k es fs a h => absurd h (noown j es)⟩, Ext.refl e, fun j es a h => absurd h (noown j es)⟩
  · unfold L2.start
    simp [i.length]
  · by_cases hj : j < ds.length
    · rw [List.getElem?_append_left (by simpa using hj), List.getElem?_map] at h
      cases q : ds[j]? with
      | none => rw [q] at h; cases h
      | some d' =>
        rw [q] at h
        cases h
        obtain ⟨v, hv, iv⟩ := i.get q
        refine ⟨v, ?_, iv⟩
        unfold L2.start
        rw [List.getElem?_append_left (by simpa [← i.length] using hj), List.getElem?_map, hv]
        rfl
    · rw [List.getElem?_append_right (by simpa using hj), List.getElem?_replicate] at h
      split at h <;> cases h
theorem fn_D {P : Program} {w : World} {K : PySem.W.Frag} {mg : Str → Option Value} {base : Heap} {C : Cl} {x qual : Str} {st : Stmt} {f : Addr} {fd : FuncData} {N ps : List Str} {k n m : Nat} {s : SDen} (F : Fun K x qual st f fd) (S : FnScope N ps (defScope st)) (hn : ps.length = n) (hm : N.length = m)
    (hbody : ∀ (cdv : Value) (A : Around) (outer : List Env) (sh : Shared) (H : Hp) (E : XK), Room k (A.deeper (envOfC qual (defScope st) sh.heap.objs.size f cdv)) →
      PDB (cxOf CX0 P w K mg base N qual (defScope st) f cdv A outer sh H E).nox C (defBody st) s) : FnOk P w K mg base CX0 (k + 1) f fd ps (spD K C (runD n m s)) := by
  refine F.ok S (fun vs H Q E h => ?_) (fun cdv A outer sh H vs Q E hr h => ?_)
  · obtain ⟨e, Ω, ds, d, Ω', _, _, i, q, _⟩ := h
    unfold runD at q
    by_cases hl : ds.length = n
    · rw [← i.length, hl, hn]
    · rw [if_neg hl] at q; cases q
  · obtain ⟨e, Ω, ds, d, Ω', eH, wf, i, q, kk⟩ := h
    unfold runD at q
    by_cases hl : ds.length = n
    · rw [if_pos hl] at q
      cases q1 : s (ds.map Sl.dat ++ List.replicate (m - n) Sl.und) Ω with
      | none => rw [q1] at q; cases q
      | some o =>
        rw [q1] at q
        refine ⟨_, hbody cdv A outer sh H E hr e, e, Ω, _, o, eH, start_rel wf i, by rw [hl, hm]; exact q1, ?_⟩
        cases o with
        | rt d' Ω2 => cases q; exact fun e' v x' w' i' => kk v e' x' w' i'
        | nx ρ' Ω2 => cases q; exact fun e' σ' r' => kk .non e' r'.ext r'.wf (by rw [Is])
        | bk ρ' Ω2 => cases q
        | ct ρ' Ω2 => cases q
    · rw [if_neg hl] at q; cases q
def gCall (f : FDen) (g : ADen) : Den := fun ρ Ω => match g ρ Ω with
  | some (ds, Ω1) => f ds Ω1
  | none => none
section
variable {X : Cx} {C : Cl} {k : Nat} {f : Addr} {fd : FuncData} {ps : List Str} {F : FDen} {n : Str} {p pos : Pos} {x : Expr} {es : List Expr} {ga : ADen}
theorem call_read {K : PySem.W.Frag} {σ : St} {H : Hp} {Q : VK} {E : XK} (hw : tD K C (gCall F ga) σ H Q) : tCall (spD K C F) [] E (tDA K C ga) σ H Q := by
  obtain ⟨e, Ω, ρ, d, Ω', eH, w, rl, q, kk⟩ := hw
  unfold gCall at q
  cases q1 : ga ρ Ω with
  | none => rw [q1] at q; cases q
  | some p1 =>
    obtain ⟨ds, Ω1⟩ := p1
    rw [q1] at q
    refine ⟨e, Ω, ρ, ds, Ω1, eH, w, rl, q1, fun vs e' x' w' i' => ?_⟩
    show spD K C F (vs ++ []) e'.H Q E
    rw [List.append_nil]
    exact ⟨e', Ω1, ds, d, Ω', rfl, w', i', q, fun v e'' x'' w'' i'' => kk v e'' (x'.trans x'') w'' i''⟩
theorem pd_call (G : FnOk X.prog X.w X.K X.mg X.base CX0 k f fd ps (spD X.K C F)) (hr : Room k X.A) (hg : Gl X n) (hm : X.mg n = some (.ref f)) (hk : PySem.W.keepIn X.K (.ref f) = true) (hb : Binds X.K fd ps [])
    (ha : PDA X C (x :: es) ga) (hdb : (n == ("__debug__" : Str)) = false := by decide) (he : starEach (x :: es) X.env = (false, eval x X.env) :: starEach es X.env := by rfl) (hpl : (backTo pos (starEach es X.env)).any (·.1) = false := by rfl) :
    PD X C (.Call (.Name n p) (x :: es) [] pos) (gCall F ga) :=
  pe_imp (pe_call G hr hg hm hk hb .nil pass0 ha hdb he hpl) fun _ _ _ hw => call_read hw
end

/-! ### comprehensions -/
def PDTs (X : Cx) (C : Cl) (ifs : List Expr) (p : TDen) : Prop := PTs X ifs (tDT X.K C p)
def gTrue : TDen := fun _ Ω => some (true, Ω)
theorem pdts_nil {X : Cx} {C : Cl} : PDTs X C [] gTrue := fun pins s σ H Q I hw' => by
  obtain ⟨e, Ω, ρ, b, Ω', eH, w, rl, q, k⟩ := hw'
  subst eH
  cases q
  exact pts_nil pins s σ _ Q I (k e (Ext.refl e) w)
def compD (β : BDen) (p : TDen) (g : Den) : List D → List Sl → List OS → Option (List D × List OS)
  | [], _, Ω => some ([], Ω)
  | d :: ds, ρ, Ω => match β d ρ with
    | some ρ1 => match p ρ1 Ω with
      | some (true, Ω1) => match g ρ1 Ω1 with
        | some (y, Ω2) => match compD β p g ds ρ1 Ω2 with
          | some (ys, Ω3) => some (y :: ys, Ω3)
          | none => none
        | none => none
      | some (false, Ω1) => compD β p g ds ρ1 Ω1
      | none => none
    | none => none
def innerD (μ : List (Option Nat)) (ρ : List Sl) : List Sl := μ.map fun o => match o with
  | none => Sl.und
  | some j => match ρ[j]? with
    | some (.dat d) => .dat d
    | _ => .und
def gComp (μ : List (Option Nat)) (γ : ADen) (β : BDen) (p : TDen) (g : Den) : Den := fun ρ Ω => match γ ρ Ω with
  | some (ds, Ω1) => if ds.length ≤ big then match compD β p g ds (innerD μ ρ) Ω1 with
      | some (ys, Ω2) => some (.lst ys, Ω2)
      | none => none
    else none
  | none => none
section
variable {K : PySem.W.Frag} {C : Cl} {e : E4} {σ : St} {ρ : List Sl} {μ : List (Option Nat)}
theorem inner_dat {j : Nat} {d : D} (h : (innerD μ ρ)[j]? = some (.dat d)) : ∃ i, μ[j]? = some (some i) ∧ ρ[i]? = some (.dat d) := by
  unfold innerD at h
  rw [List.getElem?_map] at h
  cases q : μ[j]? with
  | none => rw [q] at h; cases h
  | some o =>
    rw [q] at h
    cases o with
    | none => cases h
    | some i =>
      cases q2 : ρ[i]? with
      | none => simp [q2] at h
      | some sl =>
        cases sl with
        | dat d' => simp [q2] at h; subst h; exact ⟨i, rfl, q2⟩
        | und => simp [q2] at h
        | own _ => simp [q2] at h
theorem inner_own {j : Nat} {ds : List D} : (innerD μ ρ)[j]? ≠ some (.own ds) := fun h => by
  unfold innerD at h
  rw [List.getElem?_map] at h
  cases q : μ[j]? with
  | none => rw [q] at h; cases h
  | some o =>
    rw [q] at h
    cases o with
    | none => cases h
    | some i =>
      cases q2 : ρ[i]? with
      | none => simp [q2] at h
      | some sl => cases sl <;> simp [q2] at h
theorem inner_rel (r : RelE K e σ ρ) : RelE K e (inner μ σ) (innerD μ ρ) := by
  refine ⟨by simp [inner, innerD], fun j d h => ?_, fun j ds h => absurd h inner_own, fun j k ds es a h => absurd h inner_own⟩
  obtain ⟨i, h1, h2⟩ := inner_dat h
  obtain ⟨v, e1, iv⟩ := r.dat i d h2
  refine ⟨v, ?_, iv⟩
  unfold inner
  rw [List.getElem?_map, h1]
  show some ((σ[i]?).join) = _
  rw [e1]
  rfl
end
section
variable {K : PySem.W.Frag} {C : Cl} {γ : ADen} {β : BDen} {p : TDen} {g : Den} {μ : List (Option Nat)}
/-- within a comprehension: the list so far, what is still to come -/
structure CI (K : PySem.W.Frag) (C : Cl) (β : BDen) (p : TDen) (g : Den) (ds : List D) (a : Addr) (ysAll : List D) (Ωf : List OS) (e' : E4) (i : Nat) (σ' : St) (e2 : E4) (Ω2 : List OS) (ρ2 : List Sl) (vs : List V) (ys0 ys1 : List D) : Prop where
  w : Wf K C e2 Ω2
  r : RelE K e2 σ' ρ2
  no : ∀ (j : Nat) (es : List D), ρ2[j]? ≠ some (.own es)
  ha : e2.H a = some (.lst vs)
  hF : e2.F a = none
  hA : ¬ e2.A a
  iy : IsL K e2.α e2.F ys0 vs
  x : Ext e' e2
  q : compD β p g (ds.drop i) ρ2 Ω2 = some (ys1, Ωf)
  ey : ys0 ++ ys1 = ysAll
  hy : ys0.length ≤ i
def CInv (K : PySem.W.Frag) (C : Cl) (β : BDen) (p : TDen) (g : Den) (ds : List D) (a : Addr) (ysAll : List D) (Ωf : List OS) (e' : E4) (i : Nat) (σ' : St) (H' : Hp) : Prop :=
  ∃ e2 Ω2 ρ2 vs ys0 ys1, e2.H = H' ∧ CI K C β p g ds a ysAll Ωf e' i σ' e2 Ω2 ρ2 vs ys0 ys1
theorem comp_gen {σ : St} {H : Hp} {Q : VK} {e : E4} {Ω Ω1 Ωf : List OS} {ρ : List Sl} {ds ysAll : List D} (eH : e.H = H) (w : Wf K C e Ω) (rl : RelE K e σ ρ) (q1 : γ ρ Ω = some (ds, Ω1)) (hbig : ds.length ≤ big) (q2 : compD β p g ds (innerD μ ρ) Ω1 = some (ysAll, Ωf))
    (fin : ∀ a vs e2, Ext e e2 → Wf K C e2 Ωf → e2.H a = some (.lst vs) → e2.F a = none → ¬ e2.A a → e.H a = none → IsL K e2.α e2.F ysAll vs → Q (.ref a) e2.H) : tComp μ (tDI K C γ) (tDG K C β) (tDT K C p) (tD K C g) σ H Q := by
  refine ⟨e, Ω, ρ, ds, Ω1, eH, w, rl, q1, fun e' J x' w' wk a ha => ?_⟩
  refine ⟨fun i m σ' H' => m = ds.length - i ∧ i ≤ ds.length ∧ CInv K C β p g ds a ysAll Ωf e' i σ' H', ⟨ds.length, by simp, Nat.zero_le _, ⟨e'.α, e'.F, e'.A, upd e'.H a (.lst [])⟩, Ω1, innerD μ ρ, [], [], ysAll, rfl, ⟨?_, ?_, fun j es => inner_own, upd_same, w'.nF ha, fun z => (w'.ah a z).1 ha, .nil, ?_, by simpa using q2, rfl, Nat.zero_le _⟩⟩, ?_⟩
  · refine ⟨fun b u hb => ?_, w'.fa, fun b hb => ?_, w'.ol, w'.nd, fun n b u h1 h2 => ⟨(w'.ob n b u h1 h2).1, (w'.ob n b u h1 h2).2.keep (fun z hz => ?_) (Same.refl _) ⟨[], by simp⟩⟩⟩
    · show upd e'.H a _ b = some u
      rw [upd_ne (ne_of_none (w'.fh b u hb) ha)]; exact w'.fh b u hb
    · show upd e'.H a _ b ≠ none ∧ ∀ xs, upd e'.H a _ b ≠ some (.tup xs)
      rw [upd_ne (fun z => (w'.ah b hb).1 (by rw [z]; exact ha))]; exact w'.ah b hb
    · show upd e'.H a _ b = some z
      rw [upd_ne (ne_of_none hz ha)]; exact hz
  · have r1 := inner_rel (μ := μ) (rl.ext x')
    exact ⟨r1.len, r1.dat, fun j es h => absurd h inner_own, r1.sep⟩
  · refine ⟨fun b o' u hb => by show upd e'.H a _ b = some (.frz o' u); rw [upd_ne (ne_of_none hb ha)]; exact hb, fun b u hb _ => ?_, fun b u hb => ⟨u, ?_⟩, Same.refl _, fun b u hb => .inl hb, fun b hb => .inl hb, fun b hb => hb, [], by simp⟩
    · show upd e'.H a _ b = some u
      rw [upd_ne (ne_of_none hb ha)]; exact hb
    · show upd e'.H a _ b = some u
      rw [upd_ne (ne_of_none hb ha)]; exact hb
  · rintro i m σ2 H2 ⟨rfl, hil, e2, Ω2, ρ2, vs, ys0, ys1, rfl, ⟨w2, r2, no2, ha2, hF2, hA2, iy, x2, q3, ey, hy⟩⟩
    obtain ⟨stop, go⟩ := wk i e2 x2.ff x2.al w2.fh
    by_cases hlt : i < ds.length
    · have hd : ds[i]? = some ds[i] := List.getElem?_eq_getElem hlt
      obtain ⟨g1, y1⟩ := go _ hd
      have edrop : ds.drop i = ds[i] :: ds.drop (i + 1) := List.drop_eq_getElem_cons hlt
      rw [edrop] at q3
      refine .inr ⟨g1, fun σ' H' => i + 1 ≤ ds.length ∧ CInv K C β p g ds a ysAll Ωf e' (i + 1) σ' H', fun σ' H' hN => ⟨ds.length - (i + 1), by omega, rfl, hN⟩, fun x H' hyl => ?_⟩
      obtain ⟨e2', rfl, ix, up⟩ := y1 x H' hyl
      obtain ⟨xx, ww⟩ := up C Ω2 w2
      obtain ⟨hh', hf', ha'⟩ := xx.keepOwn ha2 hF2 hA2
      replace r2 := r2.ext xx
      replace iy := iy.ext xx
      replace x2 := x2.trans xx
      clear y1 g1 stop go w2 ha2 hF2 hA2
      revert r2 iy x2 ww hh' hf' ha' ix
      generalize e2' = e2
      intro ix w2 ha2 hF2 hA2 r2 iy x2
      unfold compD at q3
      cases q4 : β ds[i] ρ2 with
      | none => rw [q4] at q3; cases q3
      | some ρ3 =>
        rw [q4] at q3
        dsimp only at q3
        refine ⟨e2, Ω2, ρ2, _, ρ3, rfl, w2, r2, ix, q4, fun σ3 r3 o3 => ?_⟩
        have no3 : ∀ (j : Nat) (es : List D), ρ3[j]? ≠ some (.own es) := fun j es h => no2 j es (o3 j es h).1
        cases q5 : p ρ3 Ω2 with
        | none => rw [q5] at q3; cases q3
        | some p5 =>
          obtain ⟨b, Ω3⟩ := p5
          rw [q5] at q3
          refine ⟨e2, Ω2, ρ3, b, Ω3, rfl, w2, r3, q5, fun e3 x3 w3 => ?_⟩
          cases b with
          | false =>
            refine iteF ?_
            obtain ⟨z1, z2, z3⟩ := x3.keepOwn ha2 hF2 hA2
            exact ⟨hlt, e3, Ω3, ρ3, vs, ys0, ys1, rfl, ⟨w3, r3.ext x3, no3, z1, z2, z3, iy.ext x3, x2.trans x3, q3, ey, Nat.le_succ_of_le hy⟩⟩
          | true =>
            refine iteT ?_
            dsimp only at q3
            cases q6 : g ρ3 Ω3 with
            | none => rw [q6] at q3; cases q3
            | some p6 =>
              obtain ⟨y, Ω4⟩ := p6
              rw [q6] at q3
              dsimp only at q3
              cases q7 : compD β p g (ds.drop (i + 1)) ρ3 Ω4 with
              | none => rw [q7] at q3; cases q3
              | some p7 =>
                obtain ⟨ys2, Ω5⟩ := p7
                rw [q7] at q3
                cases q3
                refine ⟨e3, Ω3, ρ3, y, Ω4, rfl, w3, r3.ext x3, q6, fun v e4 x4 w4 i4 => ?_⟩
                obtain ⟨z1, z2, z3⟩ := (x3.trans x4).keepOwn ha2 hF2 hA2
                have x24 := x3.trans x4
                refine ⟨vs, z1, by rw [← iy.length]; exact big_lt (by omega), hlt, ⟨e4.α, e4.F, e4.A, upd e4.H a (.lst (vs ++ [v]))⟩, Ω4, ρ3, _, ys0 ++ [y], ys2, rfl, ⟨⟨fun b u hb => ?_, w4.fa, fun b hb => ?_, w4.ol, w4.nd, fun n b u h1 h2 => ⟨(w4.ob n b u h1 h2).1, (w4.ob n b u h1 h2).2.keep (fun z hz => ?_) (Same.refl _) ⟨[], by simp⟩⟩⟩,
                  ⟨((r3.ext x3).ext x4).len, ((r3.ext x3).ext x4).dat, fun j es h => absurd h (no3 j es), ((r3.ext x3).ext x4).sep⟩, no3, upd_same, z2, z3, (iy.ext x24).append (.cons i4 .nil), ⟨fun b o' u hb => by show upd e4.H a _ b = some (.frz o' u); rw [upd_ne (ne_of_none hb ha)]; exact (x2.trans x24).fz b o' u hb, fun b u hb hn => ?_, fun b u hb => ?_, (x2.trans x24).ff, (x2.trans x24).fn, (x2.trans x24).an, (x2.trans x24).aa, (x2.trans x24).al⟩, q7, by rw [← ey]; simp, by simp; omega⟩⟩
                · show upd e4.H a _ b = some u
                  rw [upd_ne (fun z => by subst z; rw [z2] at hb; cases hb)]; exact w4.fh b u hb
                · show upd e4.H a _ b ≠ none ∧ ∀ xs, upd e4.H a _ b ≠ some (.tup xs)
                  rw [upd_ne (fun z => z3 (by rw [← z]; exact hb))]; exact w4.ah b hb
                · show upd e4.H a _ b = some z
                  rw [upd_ne (fun y => z3 (by rw [← y]; exact (w4.ob n b u h1 h2).1))]; exact hz
                · show upd e4.H a _ b = some u
                  rw [upd_ne (ne_of_none hb ha)]; exact (x2.trans x24).hk b u hb hn
                · obtain ⟨u', z⟩ := (x2.trans x24).dm b u hb
                  exact ⟨u', by show upd e4.H a _ b = some u'; rw [upd_ne (ne_of_none hb ha)]; exact z⟩
    · have ei : i = ds.length := by omega
      subst ei
      rw [List.drop_length] at q3
      cases q3
      rw [List.append_nil] at ey
      subst ey
      refine .inl ⟨stop rfl, ?_⟩
      exact fin a vs e2 (x'.trans x2) w2 ha2 hF2 hA2 (x'.back ha) iy
theorem comp_read {σ : St} {H : Hp} {Q : VK} (hw : tD K C (gComp μ γ β p g) σ H Q) : tComp μ (tDI K C γ) (tDG K C β) (tDT K C p) (tD K C g) σ H Q := by
  obtain ⟨e, Ω, ρ, d, Ωf, eH, w, rl, q, kk⟩ := hw
  unfold gComp at q
  cases q1 : γ ρ Ω with
  | none => rw [q1] at q; cases q
  | some p1 =>
    obtain ⟨ds, Ω1⟩ := p1
    rw [q1] at q
    dsimp only at q
    split at q
    · rename_i hbig
      cases q2 : compD β p g ds (innerD μ ρ) Ω1 with
      | none => rw [q2] at q; cases q
      | some p2 =>
        obtain ⟨ysAll, Ω2⟩ := p2
        rw [q2] at q
        cases q
        refine comp_gen eH w rl q1 hbig q2 fun a vs e2 x2 w2 ha2 hF2 hA2 ha iy => ?_
        have ff : Same e2.F (upd e2.F a (.lst vs)) := fun b o hb => by rw [upd_ne (ne_of_none hb hF2)]; exact hb
        refine kk (.ref a) ⟨e2.α, upd e2.F a (.lst vs), e2.A, e2.H⟩ ⟨x2.fz, x2.hk, x2.dm, x2.ff.trans ff, fun b u hb => ?_, x2.an, x2.aa, x2.al⟩ ⟨fun b u hb => ?_, fun b hb => ?_, w2.ah, w2.ol, w2.nd, fun n b u h1 h2 => ⟨(w2.ob n b u h1 h2).1, (w2.ob n b u h1 h2).2.keep (fun z hz => hz) ff ⟨[], by simp⟩⟩⟩ ?_
        · have hb : upd e2.F a (.lst vs) b = some u := hb
          by_cases hba : b = a
          · subst hba; exact .inr (.inl ha)
          · rw [upd_ne hba] at hb; exact x2.fn b u hb
        · have hb : upd e2.F a (.lst vs) b = some u := hb
          by_cases hba : b = a
          · subst hba; rw [upd_same] at hb; cases hb; exact ha2
          · rw [upd_ne hba] at hb; exact w2.fh b u hb
        · show upd e2.F a _ b = none
          rw [upd_ne (fun z => hA2 (by rw [← z]; exact hb))]; exact w2.fa b hb
        · rw [Is]
          exact ⟨a, vs, rfl, upd_same, IsL.mono ff ⟨[], by simp⟩ _ iy⟩
    · cases q
end
section
variable {X : Cx} {C : Cl} {tg iter elt : Expr} {ifs : List Expr} {scope : Scope} {pos : Pos} {N : List Str} {μ : List (Option Nat)} {γ : ADen} {β : BDen} {p : TDen} {g : Den}
theorem pds_comp {i : Nat} {y : Str} {py spos : Pos} (hN : X.N.Nodup) (hiN : X.N[i]? = some y) (hx : Loc X.env.scope y) (hc : X.calm = true) (hcell : ∀ y ∈ scope.names, y.2 ≠ .cell) (hkind : scope.kind = .function) (hnames : ∀ y ∈ scope.names, y.2 = .local → scope.names.lookup y.1 = some .local)
    (hfree : ∀ y ∈ scope.names, y.2 = .free → X.env.kindOf y.1 = some .cell ∨ X.env.kindOf y.1 = some .free)
    (hhas : ∀ x, ((relabel scope X.env).names.lookup x = some .cell ∨ (relabel scope X.env).names.lookup x = some .free) → (x, NameKind.free) ∈ scope.names)
    (hμ : muOk X.N X.env.scope N (relabel scope X.env) μ = true) (hi : PDI X C tg iter γ)
    (hg : ∀ fp A s H, PDG (cxComp X N scope (clos X.env.cells scope.names []) A fp s H) C tg β) (ht : ∀ fp A s H, PDTs (cxComp X N scope (clos X.env.cells scope.names []) A fp s H) C ifs p) (he : ∀ fp A s H, PD (cxComp X N scope (clos X.env.cells scope.names []) A fp s H) C elt g)
    (hsw : swapsWith (.ListComp elt [⟨tg, iter, ifs, 0⟩] scope pos) (some (.Name y py)) spos.line X.env = pure true := by rfl)
    (hf : X.fn y = true ∨ X.env.scope.names.lookup y = some .local := by first | exact .inl rfl | exact .inr rfl | assumption)
    (hs : ∀ x, foldedSetIterable iter X.env x = pure x := by intro _; rfl) : PDS X C (.Assign [.Name y py] (.ListComp elt [⟨tg, iter, ifs, 0⟩] scope pos) spos) (sSet i (gComp μ γ β p g)) := fun e₀ =>
  ps_imp (ps_comp (g := tDG X.K C β) (tt := tDT X.K C p) (te := tD X.K C g) hN hiN hx hc hcell hkind hnames hfree hhas hμ hi hg ht he hsw hf hs) fun Dn σ H hw => by
    obtain ⟨e, Ω, ρ, o, eH, r, q, k⟩ := hw
    have h2 : tAsg (tD X.K C (gComp μ γ β p g)) (gName i) Dn σ H := set_read ⟨e, Ω, ρ, o, eH, r, q, k⟩
    exact comp_read h2
end
end DL
set_option Elab.async false
set_option linter.all false
set_option maxRecDepth 100000
namespace DL
open PySem PySem.Spec PyProof.Rows L2

/-! ### a def of the text, as its callers need it -/
structure Fn (P : Program) (w : World) (K : PySem.W.Frag) (mg : Str → Option Value) (base : Heap) (C : Cl) (k : Nat) (n : Str) (F : FDen) : Prop where
  ex : ∃ f fd ps, mg n = some (.ref f) ∧ PySem.W.keepIn K (.ref f) = true ∧ Binds K fd ps [] ∧ FnOk P w K mg base CX0 k f fd ps (spD K C F)
/-- the def st stands at the top under its name -/
structure TF (K : PySem.W.Frag) (mg : Str → Option Value) (n : Str) (st : Stmt) : Prop where
  ex : ∃ f fd, mg n = some (.ref f) ∧ Fun K n n st f fd
theorem fn_F {P : Program} {w : World} {K : PySem.W.Frag} {mg : Str → Option Value} {base : Heap} {C : Cl} {x : Str} {st : Stmt} {N ps : List Str} {k n m : Nat} {s : SDen} (T : TF K mg x st) (S : FnScope N ps (defScope st)) (hn : ps.length = n) (hm : N.length = m)
    (hb : ∀ (kV doc pm : Value) (an : Option Addr) (cdv ct : Value) (us : List Value), us.length = ps.length → bindArgs (PySem.W.fnOf x x (defArgs st) (defBody st) (defScope st) .none kV doc pm an cdv ct) ⟨us, []⟩ = pure (ps.zip us))
    (hbody : ∀ (f : Addr) (cdv : Value) (A : Around) (outer : List Env) (sh : Shared) (H : Hp) (E : XK), Room k (A.deeper (envOfC x (defScope st) sh.heap.objs.size f cdv)) →
      PDB (cxOf CX0 P w K mg base N x (defScope st) f cdv A outer sh H E).nox C (defBody st) s) : Fn P w K mg base C (k + 1) x (runD n m s) := by
  obtain ⟨f, fd, hm', F⟩ := T.ex
  exact ⟨f, fd, ps, hm', F.kp, F.binds hb, fn_D F S hn hm (hbody f)⟩
section
variable {X : Cx} {C : Cl} {k : Nat} {F : FDen} {n : Str} {p pos : Pos} {x : Expr} {es : List Expr} {ga : ADen}
theorem pd_callF (G : Fn X.prog X.w X.K X.mg X.base C k n F) (hr : Room k X.A) (hg : Gl X n)
    (ha : PDA X C (x :: es) ga) (hdb : (n == ("__debug__" : Str)) = false := by decide) (he : starEach (x :: es) X.env = (false, eval x X.env) :: starEach es X.env := by rfl) (hpl : (backTo pos (starEach es X.env)).any (·.1) = false := by rfl) :
    PD X C (.Call (.Name n p) (x :: es) [] pos) (gCall F ga) := by
  obtain ⟨f, fd, ps, hm, hk, hb, ok⟩ := G.ex
  exact pd_call ok hr hg hm hk hb ha hdb he hpl
end
/-! ### comprehensions: one look -/
def relabelS (scope osc : Scope) : Scope :=
  { scope with names := scope.names.map fun (n, k) => if (k == .free && osc.kind == .function && osc.names.lookup n == some .cell) then (n, .cell) else (n, k) }
def compOk (oN : List Str) (osc : Scope) (N : List Str) (scope : Scope) (μ : List (Option Nat)) : Bool :=
  scope.names.all (fun y => decide (y.2 ≠ .cell)) && decide (scope.kind = .function) && scope.names.all (fun y => !decide (y.2 = .local) || decide (scope.names.lookup y.1 = some .local)) &&
    scope.names.all (fun y => !decide (y.2 = .free) || decide (osc.names.lookup y.1 = some .cell)) &&
    (relabelS scope osc).names.all (fun y => !(decide (y.2 = .cell) || decide (y.2 = .free)) || decide ((y.1, NameKind.free) ∈ scope.names)) && muOk oN osc N (relabelS scope osc) μ
structure CompOk (X : Cx) (N : List Str) (scope : Scope) (μ : List (Option Nat)) : Prop where
  cell : ∀ y ∈ scope.names, y.2 ≠ .cell
  kind : scope.kind = .function
  names : ∀ y ∈ scope.names, y.2 = .local → scope.names.lookup y.1 = some .local
  free : ∀ y ∈ scope.names, y.2 = .free → X.env.kindOf y.1 = some .cell ∨ X.env.kindOf y.1 = some .free
  has : ∀ x, ((relabel scope X.env).names.lookup x = some .cell ∨ (relabel scope X.env).names.lookup x = some .free) → (x, NameKind.free) ∈ scope.names
  mu : muOk X.N X.env.scope N (relabel scope X.env) μ = true
theorem compOk_of {X : Cx} {oN : List Str} {osc : Scope} {N : List Str} {scope : Scope} {μ : List (Option Nat)} (hN : X.N = oN) (hs : X.env.scope = osc) (h : compOk oN osc N scope μ = true) : CompOk X N scope μ := by
  subst hN hs
  unfold compOk at h
  simp only [Bool.and_eq_true] at h
  obtain ⟨⟨⟨⟨⟨h1, h2⟩, h3⟩, h4⟩, h5⟩, h6⟩ := h
  refine ⟨fun y hy => of_decide_eq_true (List.all_eq_true.mp h1 y hy), of_decide_eq_true h2, fun y hy e => ?_, fun y hy e => .inl ?_, fun x hx => ?_, h6⟩
  · have := List.all_eq_true.mp h3 y hy
    simp only [Bool.or_eq_true, Bool.not_eq_true', decide_eq_false_iff_not, decide_eq_true_eq] at this
    exact this.resolve_left fun z => z e
  · have := List.all_eq_true.mp h4 y hy
    simp only [Bool.or_eq_true, Bool.not_eq_true', decide_eq_false_iff_not, decide_eq_true_eq] at this
    exact this.resolve_left fun z => z e
  · have hx : (relabelS scope X.env.scope).names.lookup x = some .cell ∨ (relabelS scope X.env.scope).names.lookup x = some .free := hx
    have q : ∀ k : NameKind, (k = .cell ∨ k = .free) → (relabelS scope X.env.scope).names.lookup x = some k → (x, NameKind.free) ∈ scope.names := fun k hk hl => by
      have := List.all_eq_true.mp h5 (x, k) (PySem.mem_of_lookup hl)
      simp only [Bool.or_eq_true, Bool.not_eq_true', Bool.or_eq_false_iff, decide_eq_false_iff_not, decide_eq_true_eq] at this
      rcases this with ⟨a, b⟩ | c
      · exact (hk.elim a b).elim
      · exact c
    rcases hx with hx | hx
    · exact q _ (.inl rfl) hx
    · exact q _ (.inr rfl) hx
section
variable {X : Cx} {C : Cl} {tg iter elt : Expr} {ifs : List Expr} {scope : Scope} {pos : Pos} {N : List Str} {μ : List (Option Nat)} {γ : ADen} {β : BDen} {p : TDen} {g : Den}
theorem pds_compN {i : Nat} {y : Str} {py spos : Pos} (hN : X.N.Nodup) (hiN : X.N[i]? = some y) (hx : Loc X.env.scope y) (hc : X.calm = true) (ok : CompOk X N scope μ) (hi : PDI X C tg iter γ)
    (hg : ∀ fp A s H, PDG (cxComp X N scope (clos X.env.cells scope.names []) A fp s H) C tg β) (ht : ∀ fp A s H, PDTs (cxComp X N scope (clos X.env.cells scope.names []) A fp s H) C ifs p) (he : ∀ fp A s H, PD (cxComp X N scope (clos X.env.cells scope.names []) A fp s H) C elt g)
    (hsw : swapsWith (.ListComp elt [⟨tg, iter, ifs, 0⟩] scope pos) (some (.Name y py)) spos.line X.env = pure true := by rfl)
    (hf : X.fn y = true ∨ X.env.scope.names.lookup y = some .local := by first | exact .inl rfl | exact .inr rfl | assumption)
    (hs : ∀ x, foldedSetIterable iter X.env x = pure x := by intro _; rfl) : PDS X C (.Assign [.Name y py] (.ListComp elt [⟨tg, iter, ifs, 0⟩] scope pos) spos) (sSet i (gComp μ γ β p g)) :=
  pds_comp hN hiN hx hc ok.cell ok.kind ok.names ok.free ok.has ok.mu hi hg ht he hsw hf hs
end
/-! ### more of one's own lists; -x -/
section
variable {X : Cx} {C : Cl} {x b : Expr} {g : Den} {pos : Pos}
theorem pds_app {i : Nat} {n : Str} {p ap cp : Pos} (hv : PE X (.Name n p) (tVar i)) (he : PD X C x g)
    (hbase : attributeBase (.Name n p) "append" X.env (eval (.Name n p) X.env) = eval (.Name n p) X.env := by rfl)
    (hline : (ap.endLine == cp.line) = true := by rfl) (hs1 : starEach [x] X.env = (false, eval x X.env) :: starEach [] X.env := by rfl)
    (hfew : ((backTo cp (starEach [x] X.env)).all (fun x => !x.1) && (backToKw cp (keywordEach [] X.env)).all (fun x => x.1.isSome)
      && decide ([x].length + ([] : List Keyword).length + (if ([] : List Keyword).isEmpty then 0 else 1) < 30)) = true := by rfl)
    (hpl : (backTo cp (starEach [] X.env)).any (·.1) = false := by rfl)
    (hs : swapsWith (.Call (.Attribute (.Name n p) "append" ap) [x] [] cp) none pos.line X.env = pure false := by rfl) :
    PDS X C (.Expr (.Call (.Attribute (.Name n p) "append" ap) [x] [] cp) pos) (sApp i g) := fun e₀ =>
  ps_imp (ps_expr (pe_bm PySem.F.plainAttrs_list PySem.F.slot_list_append PySem.F.type_list_append mt_append hv (pa_cons he pa_nil hs1) hbase hfew hline hs1 hpl) hs) fun Dn σ H hw => app_read hw
end
abbrev C0 : Cl := fun _ => none
end DL
set_option Elab.async false
set_option linter.all false
set_option maxRecDepth 100000
/-! what each word is worth at a place -/
namespace DL
open PySem
section
variable (ρ : List Sl) (Ω : List OS)
@[simp] theorem ap_var (i : Nat) : gVar i ρ Ω = match ρ[i]? with | some (.dat d) => some (d, Ω) | _ => none := (rfl)
@[simp] theorem ap_c (d : D) : gC d ρ Ω = some (d, Ω) := (rfl)
@[simp] theorem ap_op (r : D → D → Option D) (f g : Den) : gOp r f g ρ Ω = match f ρ Ω with
  | some (x, Ω₁) => (match g ρ Ω₁ with
    | some (y, Ω₂) => (match r x y with
      | some z => some (z, Ω₂)
      | none => none)
    | none => none)
  | none => none := (rfl)
@[simp] theorem ap_T (g : Den) : gT g ρ Ω = match g ρ Ω with | some (.bl b, Ω') => some (b, Ω') | _ => none := (rfl)
@[simp] theorem ap_orT (p q : TDen) : gOrT p q ρ Ω = match p ρ Ω with | some (true, Ω') => some (true, Ω') | some (false, Ω') => q ρ Ω' | none => none := (rfl)
@[simp] theorem ap_notT (p : TDen) : gNotT p ρ Ω = match p ρ Ω with | some (k, Ω') => some (!k, Ω') | none => none := (rfl)
@[simp] theorem ap_andV (f g : Den) : gAndV f g ρ Ω = match f ρ Ω with | some (.bl true, Ω') => g ρ Ω' | some (.bl false, Ω') => some (.bl false, Ω') | _ => none := (rfl)
@[simp] theorem ap_notV (f : Den) : gNotV f ρ Ω = match f ρ Ω with | some (.bl k, Ω') => some (.bl (!k), Ω') | _ => none := (rfl)
@[simp] theorem ap_nil : gNil ρ Ω = some ([], Ω) := (rfl)
@[simp] theorem ap_cons (f : Den) (g : ADen) : gCons f g ρ Ω = match f ρ Ω with
  | some (d, Ω1) => (match g ρ Ω1 with | some (ds, Ω2) => some (d :: ds, Ω2) | none => none)
  | none => none := (rfl)
@[simp] theorem ap_tup (g : ADen) : gTup g ρ Ω = match g ρ Ω with | some (ds, Ω') => (if ds.length ≤ 100000 then some (.tup ds, Ω') else none) | none => none := (rfl)
@[simp] theorem ap_lst (g : ADen) : gLst g ρ Ω = match g ρ Ω with | some (ds, Ω') => (if ds.length ≤ 100000 then some (.lst ds, Ω') else none) | none => none := (rfl)
@[simp] theorem ap_CB (r : List D → Option D) (g : ADen) : gCB r g ρ Ω = match g ρ Ω with | some (ds, Ω1) => (match r ds with | some z => some (z, Ω1) | none => none) | none => none := (rfl)
@[simp] theorem ap_un (r : D → Option D) (g : Den) : gUn r g ρ Ω = match g ρ Ω with | some (d, Ω1) => (match r d with | some z => some (z, Ω1) | none => none) | none => none := (rfl)
@[simp] theorem ap_call (f : FDen) (g : ADen) : gCall f g ρ Ω = match g ρ Ω with | some (ds, Ω1) => f ds Ω1 | none => none := (rfl)
@[simp] theorem ap_seq (g : Den) : gSeq g ρ Ω = match g ρ Ω with | some (d, Ω') => (match seqD d with | some ds => some (ds, Ω') | none => none) | none => none := (rfl)
@[simp] theorem ap_rng (r : List D → Option (List D)) (g : ADen) : gRng r g ρ Ω = match g ρ Ω with | some (ds, Ω') => (match r ds with | some es => some (es, Ω') | none => none) | none => none := (rfl)
@[simp] theorem ap_comp (μ : List (Option Nat)) (γ : ADen) (β : BDen) (p : TDen) (g : Den) : gComp μ γ β p g ρ Ω = match γ ρ Ω with
  | some (ds, Ω1) => (if ds.length ≤ 100000 then (match compD β p g ds (innerD μ ρ) Ω1 with | some (ys, Ω2) => some (.lst ys, Ω2) | none => none) else none)
  | none => none := (rfl)
@[simp] theorem ap_true : gTrue ρ Ω = some (true, Ω) := (rfl)
@[simp] theorem ap_next : sNext ρ Ω = some (.nx ρ Ω) := (rfl)
@[simp] theorem ap_sSeq (s t : SDen) : sSeq s t ρ Ω = match s ρ Ω with | some (.nx ρ' Ω') => t ρ' Ω' | r => r := (rfl)
@[simp] theorem ap_ghost (γ : List Sl → Option (List Sl)) (s : SDen) : sGhost γ s ρ Ω = match γ ρ with | some ρ' => s ρ' Ω | none => none := (rfl)
@[simp] theorem ap_set (i : Nat) (g : Den) : sSet i g ρ Ω = match g ρ Ω with | some (d, Ω') => some (.nx (ρ.set i (.dat d)) Ω') | none => none := (rfl)
@[simp] theorem ap_ret (g : Den) : sRet g ρ Ω = match g ρ Ω with | some (d, Ω') => some (.rt d Ω') | none => none := (rfl)
@[simp] theorem ap_sIf (p : TDen) (s t : SDen) : sIf p s t ρ Ω = match p ρ Ω with | some (true, Ω') => s ρ Ω' | some (false, Ω') => t ρ Ω' | none => none := (rfl)
@[simp] theorem ap_own (i : Nat) (g : ADen) : sOwn i g ρ Ω = match g ρ Ω with | some (ds, Ω') => (if ds.length ≤ 100000 then some (.nx (ρ.set i (.own ds)) Ω') else none) | none => none := (rfl)
@[simp] theorem ap_app (i : Nat) (g : Den) : sApp i g ρ Ω = match g ρ Ω with
  | some (d, Ω') => (match ρ[i]? with | some (.own ds) => (if ds.length < 100000 then some (.nx (ρ.set i (.own (ds ++ [d]))) Ω') else none) | _ => none)
  | none => none := (rfl)
@[simp] theorem ap_for (γ : ADen) (β : BDen) (s : SDen) : sFor γ β s ρ Ω = match γ ρ Ω with | some (ds, Ω') => forD β s ds ρ Ω' | none => none := (rfl)
@[simp] theorem ap_bName (i : Nat) (d : D) : bName i d ρ = some (ρ.set i (.dat d)) := (rfl)
@[simp] theorem for_nil (β : BDen) (s : SDen) : forD β s [] ρ Ω = some (.nx ρ Ω) := (rfl)
theorem for_cons (β : BDen) (s : SDen) (d : D) (ds : List D) : forD β s (d :: ds) ρ Ω = match β d ρ with
    | some ρ1 => (match s ρ1 Ω with
      | some (.nx ρ' Ω') => forD β s ds ρ' Ω'
      | some (.ct ρ' Ω') => forD β s ds ρ' Ω'
      | some (.bk ρ' Ω') => some (.nx ρ' Ω')
      | some (.rt z Ω') => some (.rt z Ω')
      | none => none)
    | none => none := (rfl)
@[simp] theorem comp_nil (β : BDen) (p : TDen) (g : Den) : compD β p g [] ρ Ω = some ([], Ω) := (rfl)
theorem comp_cons (β : BDen) (p : TDen) (g : Den) (d : D) (ds : List D) : compD β p g (d :: ds) ρ Ω = match β d ρ with
    | some ρ1 => (match p ρ1 Ω with
      | some (true, Ω1) => (match g ρ1 Ω1 with
        | some (y, Ω2) => (match compD β p g ds ρ1 Ω2 with
          | some (ys, Ω3) => some (y :: ys, Ω3)
          | none => none)
        | none => none)
      | some (false, Ω1) => compD β p g ds ρ1 Ω1
      | none => none)
    | none => none := (rfl)
theorem ap_run (n m : Nat) (s : SDen) (ds : List D) : runD n m s ds Ω = if ds.length = n then (match s (ds.map Sl.dat ++ List.replicate (m - n) Sl.und) Ω with
    | some (.rt d Ω') => some (d, Ω')
    | some (.nx _ Ω') => some (.non, Ω')
    | _ => none)
  else none := (rfl)
@[simp] theorem ap_dI (c : Int → Int → Bool) (f : Int → Int → Int) (i j : Int) : dI c f (.int i) (.int j) = if c i j = true then some (.int (f i j)) else none := (rfl)
@[simp] theorem ap_dB (f : Int → Int → Bool) (i j : Int) : dB f (.int i) (.int j) = some (.bl (f i j)) := (rfl)
@[simp] theorem add_int (i j : Int) : addD (.int i) (.int j) = some (.int (i + j)) := (rfl)
@[simp] theorem add_lst (xs ys : List D) : addD (.lst xs) (.lst ys) = if xs.length + ys.length ≤ 100000 then some (.lst (xs ++ ys)) else none := (rfl)
@[simp] theorem ix_lst (xs : List D) (i : Int) : ixD (.lst xs) (.int i) = L2.atI xs i := (rfl)
@[simp] theorem ix_tup (xs : List D) (i : Int) : ixD (.tup xs) (.int i) = L2.atI xs i := (rfl)
@[simp] theorem ix_scr (ns : List Int) (i : Int) : ixD (.scr ns) (.int i) = (L2.atI ns i).map D.int := (rfl)
@[simp] theorem len_lst (xs : List D) : lenD [.lst xs] = some (.int xs.length) := (rfl)
@[simp] theorem len_tup (xs : List D) : lenD [.tup xs] = some (.int xs.length) := (rfl)
@[simp] theorem len_scr (ns : List Int) : lenD [.scr ns] = some (.int ns.length) := (rfl)
@[simp] theorem seq_lst (xs : List D) : seqD (.lst xs) = some xs := (rfl)
@[simp] theorem seq_scr (ns : List Int) : seqD (.scr ns) = some (ns.map D.int) := (rfl)
theorem rng_1 {j : Int} (h0 : -1000000 ≤ j) (h : j ≤ 1000000) : rng1 [.int j] = some (upD 0 j.toNat) := grd_pos (by omega)
theorem rng_2 {i j : Int} (h0 : -1000000 ≤ i) (h : i ≤ 1000000) (h1 : -1000000 ≤ j) (h2 : j ≤ 1000000) : rng2 [.int i, .int j] = some (upD i (j - i).toNat) := grd_pos (by omega)
end
theorem run_rt {n m : Nat} {s : SDen} {ds : List D} {Ω Ω' : List OS} {d : D} (hl : ds.length = n) (h : s (ds.map Sl.dat ++ List.replicate (m - n) Sl.und) Ω = some (.rt d Ω')) : runD n m s ds Ω = some (d, Ω') := by
  rw [ap_run, if_pos hl, h]
theorem seq_nx {s t : SDen} {ρ ρ' : List Sl} {Ω Ω' : List OS} (h : s ρ Ω = some (.nx ρ' Ω')) : sSeq s t ρ Ω = t ρ' Ω' := by rw [ap_sSeq, h]
theorem seq_rt {s t : SDen} {ρ : List Sl} {Ω Ω' : List OS} {d : D} (h : s ρ Ω = some (.rt d Ω')) : sSeq s t ρ Ω = some (.rt d Ω') := by rw [ap_sSeq, h]
@[simp] theorem upD_length (lo : Int) (n : Nat) : (upD lo n).length = n := by simp [upD]
/-! places -/
theorem atI_nat' {β : Type} (xs : List β) (i : Nat) (h : i < xs.length) : L2.atI xs (i : Int) = some xs[i] := L2.atI_nat (List.getElem?_eq_getElem h)
theorem atI_map {β γ : Type} (f : β → γ) (xs : List β) (i : Int) : L2.atI (xs.map f) i = (L2.atI xs i).map f := by
  unfold L2.atI
  rw [List.length_map]
  cases L2.ixN xs.length i with
  | none => rfl
  | some j => simp
theorem shaped_int (i : Int) : SeqAt.shaped (toP (.int i)) = true := by rw [toP]; rfl
theorem shaped_bl (b : Bool) : SeqAt.shaped (toP (.bl b)) = true := by rw [toP]; rfl
@[simp] theorem eq_int_int (neg : Bool) (i j : Int) : eqD neg (.int i) (.int j) = some (.bl (if neg then !decide (i = j) else decide (i = j))) := by
  unfold eqD
  rw [shaped_int, shaped_int]
  have e : PyData.eqv (toP (.int i)) (toP (.int j)) = decide (i = j) := by
    rw [toP, toP, PyData.eqv]
    by_cases h : i = j <;> simp [h]
  rw [e]
  rfl
@[simp] theorem eq_bl_bl (neg : Bool) (i j : Bool) : eqD neg (.bl i) (.bl j) = some (.bl (if neg then !decide (i = j) else decide (i = j))) := by
  unfold eqD
  rw [shaped_bl, shaped_bl]
  have e : PyData.eqv (toP (.bl i)) (toP (.bl j)) = decide (i = j) := by
    rw [toP, toP]
    cases i <;> cases j <;> rfl
  rw [e]
  rfl
end DL
set_option Elab.async false
set_option linter.all false
set_option maxRecDepth 100000
namespace DL
open PySem PySem.Spec PyProof.Rows L2
section
variable {X : Cx} {C : Cl} {x : Expr} {g : Den} {cp ap : Pos}
end
theorem while_def (p : TDen) (s : SDen) (n : Nat) (ρ : List Sl) (Ω : List OS) : whileD p s (n + 1) ρ Ω = match p ρ Ω with
    | some (true, Ω1) => (match s ρ Ω1 with
      | some (.nx ρ' Ω') => whileD p s n ρ' Ω'
      | some (.ct ρ' Ω') => whileD p s n ρ' Ω'
      | some (.bk ρ' Ω') => some (.nx ρ' Ω')
      | some (.rt z Ω') => some (.rt z Ω')
      | none => none)
    | some (false, Ω1) => some (.nx ρ Ω1)
    | none => none := (rfl)
end DL
set_option Elab.async false
set_option linter.all false
set_option maxRecDepth 100000
/-! OBJECTS: instances, dicts. -/
namespace DL
open PySem PySem.Spec PyProof.Rows L2

def OIs (K : PySem.W.Frag) (α : List Addr) (F : Hp) : Option D → Option V → Prop
  | none, none => True
  | some d, some v => Is K α F d v
  | _, _ => False
section
variable {κ : Type} [DecidableEq κ]
def dropD (kvs : List (κ × D)) (k : κ) : List (κ × D) := kvs.filter fun kv => decide (kv.1 ≠ k)
variable {K : PySem.W.Frag} {α : List Addr} {F : Hp}
theorem PsIs.len : ∀ {ps : List (κ × D)} {vs : List (κ × V)}, PsIs K α F ps vs → ps.length = vs.length
  | [], _, h => by rw [show _ = [] from h]; rfl
  | p :: r, _, ⟨v, t, e, _, q⟩ => by rw [e, List.length_cons, List.length_cons, q.len]
theorem PsIs.keys : ∀ {ps : List (κ × D)} {vs : List (κ × V)}, PsIs K α F ps vs → ps.map (·.1) = vs.map (·.1)
  | [], _, h => by rw [show _ = [] from h]; rfl
  | p :: r, _, ⟨v, t, e, _, q⟩ => by rw [e, List.map_cons, List.map_cons, q.keys]
theorem PsIs.any (k : κ) : ∀ {ps : List (κ × D)} {vs : List (κ × V)}, PsIs K α F ps vs → (ps.any fun kv => decide (kv.1 = k)) = vs.any fun kv => decide (kv.1 = k)
  | [], _, h => by rw [show _ = [] from h]; rfl
  | p :: r, _, ⟨v, t, e, i, q⟩ => by
    subst e
    rw [List.any_cons, List.any_cons, q.any k]
theorem PsIs.drop (k : κ) : ∀ {ps : List (κ × D)} {vs : List (κ × V)}, PsIs K α F ps vs → PsIs K α F (dropD ps k) (dropK vs k)
  | [], _, h => by rw [show _ = [] from h]; exact rfl
  | p :: r, _, ⟨v, t, e, i, q⟩ => by
    subst e
    unfold dropD dropK
    by_cases h : p.1 = k
    · rw [List.filter_cons_of_neg (by simp [h]), List.filter_cons_of_neg (by simp [h])]; exact q.drop k
    · rw [List.filter_cons_of_pos (by simp [h]), List.filter_cons_of_pos (by simp [h])]; exact ⟨v, _, rfl, i, q.drop k⟩
end
section
variable {K : PySem.W.Frag} {α : List Addr} {F : Hp}
theorem PsIs.look (f : Str) : ∀ {ps : List (Str × D)} {vs : List (Str × V)}, PsIs K α F ps vs → OIs K α F (ps.lookup f) (vs.lookup f)
  | [], _, h => by rw [show _ = [] from h]; exact trivial
  | (g, d) :: r, _, ⟨v, t, e, i, q⟩ => by
    subst e
    by_cases h : (f == g) = true
    · rw [List.lookup_cons, List.lookup_cons, h]; exact i
    · have h' : (f == g) = false := by cases z : (f == g) with | true => exact absurd z h | false => rfl
      rw [List.lookup_cons, List.lookup_cons, h']; exact q.look f
def putFD (f : Str) (v : D) : List (Str × D) → List (Str × D)
  | [] => [(f, v)]
  | (g, x) :: r => if g = f then (g, v) :: r else (g, x) :: putFD f v r
theorem PsIs.putF (f : Str) {d : D} {y : V} (iy : Is K α F d y) : ∀ {ps : List (Str × D)} {vs : List (Str × V)}, PsIs K α F ps vs → PsIs K α F (putFD f d ps) (L2.putF f y vs)
  | [], _, h => by rw [show _ = [] from h]; exact ⟨y, [], rfl, iy, rfl⟩
  | (g, x) :: r, _, ⟨v, t, e, i, q⟩ => by
    subst e
    unfold putFD L2.putF
    by_cases h : g = f
    · rw [if_pos h, if_pos h]; exact ⟨y, t, rfl, iy, q⟩
    · rw [if_neg h, if_neg h]; exact ⟨v, _, rfl, i, q.putF f iy⟩
end

/-! ### a new object, an object changed -/
def E4.obj (e : E4) (p : Addr) (H' : Hp) : E4 := ⟨e.α ++ [p], e.F, fun b => e.A b ∨ b = p, H'⟩
def E4.at (e : E4) (a : Addr) (o : HO) : E4 := ⟨e.α, e.F, e.A, upd e.H a o⟩
section
variable {K : PySem.W.Frag} {C : Cl} {e : E4} {Ω : List OS}
theorem Wf.objA (w : Wf K C e Ω) {n : Nat} {a : Addr} (h : e.α[n]? = some a) : e.A a ∧ ∃ o, Ω[n]? = some o := by
  have hl : n < Ω.length := by rw [← w.ol]; exact (List.getElem?_eq_some_iff.mp h).1
  exact ⟨(w.ob n a _ h (List.getElem?_eq_getElem hl)).1, _, List.getElem?_eq_getElem hl⟩
theorem Wf.obj (w : Wf K C e Ω) {p : Addr} {H' : Hp} {o : OS} (hp : e.H p = none) (hk : ∀ b u, e.H b = some u → H' b = some u) (hn : H' p ≠ none ∧ ∀ xs, H' p ≠ some (.tup xs)) (ho : OSIs K C (e.obj p H') p o) :
    Wf K C (e.obj p H') (Ω ++ [o]) ∧ Ext e (e.obj p H') := by
  have nA : ¬ e.A p := fun z => (w.ah p z).1 hp
  have npα : p ∉ e.α := fun z => by
    obtain ⟨n, h⟩ := List.getElem?_of_mem z
    exact nA (w.objA h).1
  refine ⟨⟨fun b u h => hk b u (w.fh b u h), fun b h => ?_, fun b h => ?_, ?_, ?_, fun n b u h1 h2 => ?_⟩, ⟨fun b o' u h => hk b _ h, fun b u h _ => hk b u h, fun b u h => ⟨u, hk b u h⟩, Same.refl _, fun b u h => .inl h, fun b h => ?_, fun b h => .inl h, [p], rfl⟩⟩
  · rcases h with h | rfl
    · exact w.fa b h
    · exact w.nF hp
  · rcases h with h | rfl
    · obtain ⟨h1, h2⟩ := w.ah b h
      cases q : e.H b with
      | none => exact absurd q h1
      | some u =>
        show H' b ≠ none ∧ ∀ xs, H' b ≠ some (.tup xs)
        rw [hk b u q, ← q]
        exact ⟨h1, h2⟩
    · exact hn
  · show (e.α ++ [p]).length = (Ω ++ [o]).length
    rw [List.length_append, List.length_append, w.ol]; rfl
  · show (e.α ++ [p]).Nodup
    rw [List.nodup_append]
    refine ⟨w.nd, by simp, fun x hx y hy => ?_⟩
    simp only [List.mem_singleton] at hy
    subst hy
    exact fun z => npα (z ▸ hx)
  · have h1 : (e.α ++ [p])[n]? = some b := h1
    by_cases hl : n < e.α.length
    · rw [List.getElem?_append_left hl] at h1
      rw [List.getElem?_append_left (by rw [← w.ol]; exact hl)] at h2
      exact ⟨.inl (w.ob n b u h1 h2).1, (w.ob n b u h1 h2).2.keep (fun v hv => hk b v hv) (Same.refl _) ⟨[p], rfl⟩⟩
    · have en : n = e.α.length := by
        have := (List.getElem?_eq_some_iff.mp h1).1
        rw [List.length_append] at this
        simp at this
        omega
      subst en
      rw [List.getElem?_append_right (Nat.le_refl _), Nat.sub_self] at h1
      rw [w.ol, List.getElem?_append_right (Nat.le_refl _), Nat.sub_self] at h2
      cases h1
      cases h2
      exact ⟨.inr rfl, ho⟩
  · rcases h with h | rfl
    · exact .inl h
    · exact .inr hp
theorem Wf.atW (w : Wf K C e Ω) {n : Nat} {a : Addr} {o' : OS} {ho : HO} (hα : e.α[n]? = some a) (hn : ∀ xs, ho ≠ .tup xs) (h' : OSIs K C (e.at a ho) a o') : Wf K C (e.at a ho) (Ω.set n o') := by
  have hA := (w.objA hα).1
  have hF := w.fa a hA
  have neF : ∀ b u, e.F b = some u → b ≠ a := fun b u h z => by subst z; rw [hF] at h; cases h
  refine ⟨fun b u h => ?_, w.fa, fun b h => ?_, by simp [E4.at, w.ol], w.nd, fun m b u h1 h2 => ?_⟩
  · show upd e.H a ho b = some u
    rw [upd_ne (neF b u h)]; exact w.fh b u h
  · show upd e.H a ho b ≠ none ∧ ∀ xs, upd e.H a ho b ≠ some (.tup xs)
    by_cases z : b = a
    · subst z; rw [upd_same]; exact ⟨by simp, fun xs q => hn xs (Option.some.inj q)⟩
    · rw [upd_ne z]; exact w.ah b h
  · by_cases z : m = n
    · subst z
      have h1 : e.α[m]? = some b := h1
      rw [hα] at h1
      cases h1
      have hl : m < Ω.length := by rw [← w.ol]; exact (List.getElem?_eq_some_iff.mp hα).1
      rw [List.getElem?_set_self hl] at h2
      cases h2
      exact ⟨hA, h'⟩
    · rw [List.getElem?_set_ne (fun q => z q.symm)] at h2
      have nb : b ≠ a := fun q => by
        subst q
        exact z ((List.getElem?_inj (List.getElem?_eq_some_iff.mp h1).1 w.nd).mp (h1.trans hα.symm))
      refine ⟨(w.ob m b u h1 h2).1, (w.ob m b u h1 h2).2.keep (fun v hv => ?_) (Same.refl _) ⟨[], by simp [E4.at]⟩⟩
      show upd e.H a ho b = some v
      rw [upd_ne nb]; exact hv
theorem Wf.at (w : Wf K C e Ω) {n : Nat} {a : Addr} {o' : OS} {ho : HO} (hα : e.α[n]? = some a) (hn : ∀ xs, ho ≠ .tup xs) (h' : OSIs K C (e.at a ho) a o') (hz : ∀ o u, e.H a ≠ some (.frz o u)) :
    Wf K C (e.at a ho) (Ω.set n o') ∧ Ext e (e.at a ho) := by
  have hA := (w.objA hα).1
  refine ⟨w.atW hα hn h', ⟨fun b o' u h => ?_, fun b u h hn => ?_, fun b u h => ?_, Same.refl _, fun b u h => .inl h, fun b h => .inl h, fun b h => h, [], by simp [E4.at]⟩⟩
  · show upd e.H a ho b = some (.frz o' u)
    rw [upd_ne (fun z => hz o' u (by rw [← z]; exact h))]; exact h
  · show upd e.H a ho b = some u
    rw [upd_ne (fun z => hn (by rw [z]; exact hA))]; exact h
  · by_cases z : b = a
    · subst z; exact ⟨ho, upd_same⟩
    · exact ⟨u, by show upd e.H a ho b = some u; rw [upd_ne z]; exact h⟩
end

section
variable {K : PySem.W.Frag} {α : List Addr} {F : Hp}
end

section
variable {K : PySem.W.Frag} {C : Cl} {e : E4} {Ω : List OS}
end

section
variable {X : Cx} {C : Cl} {a b c x y : Expr} {f g h : Den} {pos pos' ap cp : Pos}
theorem OIs.some_of {K : PySem.W.Frag} {α : List Addr} {F : Hp} {d : D} {r : Option V} (h : OIs K α F (some d) r) : ∃ v, r = some v ∧ Is K α F d v := by
  cases r with
  | none => exact h.elim
  | some v => exact ⟨v, rfl, h⟩
theorem OIs.isSome {K : PySem.W.Frag} {α : List Addr} {F : Hp} {d : Option D} {r : Option V} (h : OIs K α F d r) : r.isSome = d.isSome := by
  cases r <;> cases d <;> first | rfl | exact h.elim
theorem OIs.getD {K : PySem.W.Frag} {α : List Addr} {F : Hp} {d : Option D} {r : Option V} {x : D} {v : V} (h : OIs K α F d r) (i : Is K α F x v) : Is K α F (d.getD x) (r.getD v) := by
  cases r <;> cases d <;> first | exact h.elim | exact i | exact h
end
end DL
set_option Elab.async false
set_option linter.all false
set_option maxRecDepth 100000
/-! A DICT BY ITS ENTRIES: walked, counted; a pair taken out by a tuple. -/
namespace DR
open PySem PyProof.Rows
open Sem (wp)

def RawD (h : Heap) (a : Addr) (es : Array DictEntry) (ep : Nat) : Prop := ∃ o, h.get? a = some o ∧ o.ExactDict ∧ o.data = .dict es ep
theorem RawD.ty {s : Shared} {a : Addr} {es : Array DictEntry} {ep : Nat} (r : RawD s.heap a es ep) : s.TypeIs (.ref a) "dict" := let ⟨o, h1, h2, _⟩ := r; ⟨o, h1, h2.1⟩
theorem RawD.to {h h' : Heap} {a : Addr} {es : Array DictEntry} {ep : Nat} (r : RawD h a es ep) (k : ∀ o, h.get? a = some o → h'.get? a = some o) : RawD h' a es ep := let ⟨o, h1, h2⟩ := r; ⟨o, k o h1, h2⟩
theorem RawD.lt {h : Heap} {a : Addr} {es : Array DictEntry} {ep : Nat} (r : RawD h a es ep) : a < h.objs.size := let ⟨_, h1, _⟩ := r; Heap.lt_size h1
section
variable {prog : Program} {w : World} {A : Around} {E : Value → Shared → Prop} {s : Shared} {d it : Addr} {es : Array DictEntry} {ep i : Nat}
end

/-! ### pop of a heap key -/
section
variable {κ : Type} [DecidableEq κ]
def outH (xs : List (κ × Addr × Value)) (k : κ) : List (κ × Addr × Value) := xs.filter fun x => decide (x.1 ≠ k)
variable {prog : Program} {w : World} {knd : HeapKind prog w κ} {A : Around} {E : Value → Shared → Prop} {s : Shared}
end
end DR
set_option Elab.async false
set_option linter.all false
set_option maxRecDepth 100000
namespace L2
open PySem PySem.Spec PyProof.Rows
theorem KT.out {H : Hp} {kvs : List (List Key × V)} {xs : List (List Key × Addr × Value)} (r : KT H kvs xs) (k : List Key) : KT H (dropK kvs k) (DR.outH xs k) := by
  induction r with
  | nil => exact .nil
  | @cons p q ps qs h t ih =>
    unfold dropK DR.outH
    by_cases e : p.1 = k
    · rw [List.filter_cons_of_neg (by simp [e]), List.filter_cons_of_neg (by simp [← h.1, e])]; exact ih
    · rw [List.filter_cons_of_pos (by simp [e]), List.filter_cons_of_pos (by simp [← h.1, e])]; exact .cons h ih
section
variable {X : Cx} {pins : List (Addr × Obj)} {σ : St} {H : Hp} {s : Shared} {a b : Addr} {A : Around} {E : Value → Shared → Prop}
end
section
variable {X : Cx} {o e : Expr} {apos cpos : Pos} {td ty : TE}
end
end L2
set_option Elab.async false
set_option linter.all false
set_option maxRecDepth 100000
namespace DL
open PySem PySem.Spec PyProof.Rows L2

section
variable {K : PySem.W.Frag} {C : Cl} {e : E4} {Ω : List OS}
theorem Wf.tups (w : Wf K C e Ω) : ∃ e1 : E4, e1.H = e.H ∧ e1.α = e.α ∧ Ext e e1 ∧ Wf K C e1 Ω ∧ ∀ b xs, e.H b = some (.tup xs) → e1.F b = some (.tup xs) := by
  let F' : Hp := fun b => match e.H b with
    | some (.tup xs) => some (.tup xs)
    | _ => e.F b
  have ft : ∀ b xs, e.H b = some (.tup xs) → F' b = some (.tup xs) := fun b xs h => by show (match e.H b with | some (.tup xs) => some (HO.tup xs) | _ => e.F b) = _; rw [h]
  have fo : ∀ b, (∀ xs, e.H b ≠ some (.tup xs)) → F' b = e.F b := fun b h => by
    show (match e.H b with | some (.tup xs) => some (HO.tup xs) | _ => e.F b) = _
    cases q : e.H b with
    | none => rfl
    | some o => cases o <;> first | rfl | exact absurd q (h _)
  have ff : Same e.F F' := fun b o h => by
    by_cases q : ∃ xs, e.H b = some (.tup xs)
    · obtain ⟨xs, q⟩ := q
      rw [ft b xs q, ← q]; exact w.fh b o h
    · rw [fo b fun xs z => q ⟨xs, z⟩]; exact h
  have fh : Same F' e.H := fun b o h => by
    by_cases q : ∃ xs, e.H b = some (.tup xs)
    · obtain ⟨xs, q⟩ := q
      rw [ft b xs q] at h; rw [q]; exact h
    · rw [fo b fun xs z => q ⟨xs, z⟩] at h; exact w.fh b o h
  refine ⟨⟨e.α, F', e.A, e.H⟩, rfl, rfl, ⟨fun _ _ _ h => h, fun _ _ h _ => h, fun _ o h => ⟨o, h⟩, ff, fun b o h => ?_, fun _ h => .inl h, fun _ h => h, [], by simp⟩, ⟨fh, fun b h => ?_, w.ah, w.ol, w.nd, fun n a o h1 h2 => ⟨(w.ob n a o h1 h2).1, (w.ob n a o h1 h2).2.keep (fun _ z => z) ff ⟨[], by simp⟩⟩⟩, ft⟩
  · have h : F' b = some o := h
    by_cases q : ∃ xs, e.H b = some (.tup xs)
    · obtain ⟨xs, q⟩ := q
      rw [ft b xs q] at h
      cases h
      exact .inr (.inr ⟨⟨xs, rfl⟩, q, fun z => (w.ah b z).2 xs q⟩)
    · rw [fo b fun xs z => q ⟨xs, z⟩] at h; exact .inl h
  · show F' b = none
    rw [fo b (w.ah b h).2]; exact w.fa b h
end
theorem obj_ext {K : PySem.W.Frag} {e e' : E4} {n : Nat} {p : Addr} (x : Ext e e') (h : e.α[n]? = some p) : e'.α[n]? = some p := by
  obtain ⟨more, z⟩ := x.al
  rw [z, List.getElem?_append_left (List.getElem?_eq_some_iff.mp h).1]; exact h
section
variable {X : Cx} {C : Cl} {a b x : Expr} {f g h : Den} {ga : ADen} {pos pos' ap cp : Pos}
/-! ### fields -/
structure ClD (K : PySem.W.Frag) (C : Cl) (c : Str) : Prop where
  ex : ∃ Ca, C c = some Ca ∧ Cls K Ca
def NoA (K : PySem.W.Frag) (C : Cl) (c f : Str) : Prop := ∀ Ca, C c = some Ca → NoAttr K Ca f
def gFld (c fl : Str) (g : Den) : Den := fun ρ Ω => match g ρ Ω with
  | some (.obj n, Ω1) => (match Ω1[n]? with
    | some (.ins c' fs) => if c' = c then (match fs.lookup fl with | some d => some (d, Ω1) | none => none) else none
    | _ => none)
  | _ => none
def sFldD (c fl : Str) (go gv : Den) : SDen := fun ρ Ω => match gv ρ Ω with
  | some (v, Ω1) => (match go ρ Ω1 with
    | some (.obj n, Ω2) => (match Ω2[n]? with
      | some (.ins c' fs) => if c' = c ∧ fs.length < 1000 then some (.nx ρ (Ω2.set n (.ins c (putFD fl v fs)))) else none
      | _ => none)
    | _ => none)
  | none => none
theorem pd_fld {c fl : Str} (T : ClD X.K C c) (hn : NoA X.K C c fl) (h : PD X C a f) (hb : attributeBase a fl X.env (eval a X.env) = eval a X.env := by rfl) : PD X C (.Attribute a fl pos) (gFld c fl f) := pe_imp (pe_fld h hb) fun σ H Q hw' => by
  obtain ⟨e, Ω, ρ, d, Ω', eH, w, rl, q, kk⟩ := hw'
  obtain ⟨Ca, hC, cl⟩ := T.ex
  unfold gFld at q
  cases q1 : f ρ Ω with
  | none => rw [q1] at q; cases q
  | some p1 =>
    obtain ⟨d1, Ω1⟩ := p1
    rw [q1] at q
    cases d1 with
    | obj n =>
      dsimp only at q
      cases q0 : Ω1[n]? with
      | none => rw [q0] at q; cases q
      | some o0 =>
        rw [q0] at q
        refine ⟨e, Ω, ρ, _, Ω1, eH, w, rl, q1, fun v e1 x1 w1 i1 => ?_⟩
        rw [Is] at i1
        obtain ⟨p, hα, rfl⟩ := i1
        have ob := (w1.ob n p _ hα q0).2
        cases o0 with
        | ins c' fs =>
          dsimp only at q
          by_cases ec : c' = c
          · rw [if_pos ec] at q
            subst ec
            cases q2 : fs.lookup fl with
            | none => rw [q2] at q; cases q
            | some v0 =>
              rw [q2] at q
              cases q
              obtain ⟨Cb, dx, fvs, h1, h2, h3⟩ := ob
              rw [hC] at h1
              cases h1
              have ov := h3.look fl
              rw [q2] at ov
              obtain ⟨v', e2, iv⟩ := ov.some_of
              exact ⟨p, Ca, dx, fvs, v', rfl, h2, cl, hn Ca hC, e2, kk _ e1 x1 w1 iv⟩
          · rw [if_neg ec] at q; cases q
        | _ => cases q
    | _ => cases q
theorem pds_fld {c fl : Str} (T : ClD X.K C c) (hn : NoA X.K C c fl) (ho : PD X C a f) (hv : PD X C x g) (hs : swapsWith x (some (.Attribute a fl pos')) pos.line X.env = pure false := by rfl) :
    PDS X C (.Assign [.Attribute a fl pos'] x pos) (sFldD c fl f g) := fun e₀ => ps_imp (ps_fld ho hv hs) fun Dn σ H hw' => by
  obtain ⟨e, Ω, ρ, o, eH, r, q, k⟩ := hw'
  obtain ⟨Ca, hC, cl⟩ := T.ex
  unfold sFldD at q
  cases q1 : g ρ Ω with
  | none => rw [q1] at q; cases q
  | some p1 =>
    obtain ⟨v, Ω1⟩ := p1
    rw [q1] at q
    dsimp only at q
    cases q2 : f ρ Ω1 with
    | none => rw [q2] at q; cases q
    | some p2 =>
      obtain ⟨d2, Ω2⟩ := p2
      rw [q2] at q
      cases d2 with
      | obj n =>
        dsimp only at q
        cases q0 : Ω2[n]? with
        | none => rw [q0] at q; cases q
        | some o0 =>
          rw [q0] at q
          refine ⟨e, Ω, ρ, v, Ω1, eH, r.wf, r.rel, q1, fun uv e1 x1 w1 i1 => ?_⟩
          refine ⟨e1, Ω1, ρ, _, Ω2, rfl, w1, r.rel.ext x1, q2, fun uo e2 x2 w2 i2 => ?_⟩
          rw [Is] at i2
          obtain ⟨p, hα, rfl⟩ := i2
          have ob := (w2.ob n p _ hα q0).2
          cases o0 with
          | ins c' fs =>
            dsimp only at q
            by_cases ec : c' = c ∧ fs.length < 1000
            · rw [if_pos ec] at q
              obtain ⟨rfl, hl⟩ := ec
              cases q
              obtain ⟨Cb, dx, fvs, h1, h2, h3⟩ := ob
              rw [hC] at h1
              cases h1
              obtain ⟨w', x'⟩ := w2.at (o' := .ins c' (putFD fl v fs)) (ho := .ins Ca dx (putF fl uv fvs)) hα (fun xs z => nomatch z) ⟨Ca, dx, _, hC, upd_same, h3.putF fl (i1.ext x2)⟩ fun o u z => by rw [h2] at z; cases z
              exact ⟨p, Ca, dx, fvs, rfl, h2, cl, hn Ca hC, by rw [← h3.len]; exact hl, k (e2.at p _) σ (r.to ((x1.trans x2).trans x') w')⟩
            · rw [if_neg ec] at q; cases q
          | _ => cases q
      | _ => cases q

/-! ### methods -/
structure Mt (P : Program) (w : World) (K : PySem.W.Frag) (mg : Str → Option Value) (base : Heap) (C : Cl) (k : Nat) (c m : Str) (F : FDen) (dfl : List D) : Prop where
  ex : ∃ Ca f fd ps ds dvs, C c = some Ca ∧ Cls K Ca ∧ Meth K Ca m f ∧ Binds K fd ps ds ∧ Vals dvs ds ∧ (∀ α H, IsL K α H dfl dvs) ∧ FnOk P w K mg base CX0 k f fd ps (spD K C F)
def gMeth (c m : Str) (F : FDen) (dfl : List D) (go : Den) (ga : ADen) : Den := fun ρ Ω => match go ρ Ω with
  | some (.obj n, Ω1) => (match Ω1[n]? with
    | some (.ins c' fs) => if c' = c then (match fs.lookup m with
      | none => (match ga ρ Ω1 with | some (ds, Ω2) => F (.obj n :: (ds ++ dfl)) Ω2 | none => none)
      | some _ => none) else none
    | _ => none)
  | _ => none
theorem meth_read {K : PySem.W.Frag} {c m : Str} {F : FDen} {dfl : List D} {dvs : List V} {Ca : Addr} (hC : C c = some Ca) (hd : ∀ α H, IsL K α H dfl dvs) {σ : St} {H : Hp} {Q : VK} {E : XK} (hw : tD K C (gMeth c m F dfl f ga) σ H Q) :
    tMeth Ca m (spD K C F) dvs E (tD K C f) (tDA K C ga) σ H Q := by
  obtain ⟨e, Ω, ρ, d, Ω', eH, w, rl, q, kk⟩ := hw
  unfold gMeth at q
  cases q1 : f ρ Ω with
  | none => rw [q1] at q; cases q
  | some p1 =>
    obtain ⟨d1, Ω1⟩ := p1
    rw [q1] at q
    cases d1 with
    | obj n =>
      dsimp only at q
      cases q0 : Ω1[n]? with
      | none => rw [q0] at q; cases q
      | some o0 =>
        rw [q0] at q
        refine ⟨e, Ω, ρ, _, Ω1, eH, w, rl, q1, fun v e1 x1 w1 i1 => ?_⟩
        rw [Is] at i1
        obtain ⟨p, hα, rfl⟩ := i1
        have ob := (w1.ob n p _ hα q0).2
        cases o0 with
        | ins c' fs =>
          dsimp only at q
          by_cases ec : c' = c
          · rw [if_pos ec] at q
            subst ec
            cases q2 : fs.lookup m with
            | some v0 => rw [q2] at q; cases q
            | none =>
              rw [q2] at q
              dsimp only at q
              cases q3 : ga ρ Ω1 with
              | none => rw [q3] at q; cases q
              | some p3 =>
                obtain ⟨ds, Ω2⟩ := p3
                rw [q3] at q
                obtain ⟨Cb, dx, fvs, h1, h2, h3⟩ := ob
                rw [hC] at h1
                cases h1
                have ov := h3.look m
                rw [q2] at ov
                have e2 : fvs.lookup m = none := by
                  cases z : fvs.lookup m with
                  | none => rfl
                  | some v => rw [z] at ov; exact ov.elim
                refine ⟨p, dx, fvs, rfl, h2, e2, e1, Ω1, ρ, ds, Ω2, rfl, w1, rl.ext x1, q3, fun vs e3 x3 w3 i3 => ?_⟩
                exact ⟨e3, Ω2, _, d, Ω', rfl, w3, .cons (by rw [Is]; exact ⟨p, obj_ext (K := K) x3 hα, rfl⟩) (i3.append (hd _ _)), q, fun v' e4 x4 w4 i4 => kk v' e4 ((x1.trans x3).trans x4) w4 i4⟩
          · rw [if_neg ec] at q; cases q
        | _ => cases q
    | _ => cases q
theorem pd_meth0 {k : Nat} {c m : Str} {F : FDen} {dfl : List D} {pl : Sem Bool} (G : Mt X.prog X.w X.K X.mg X.base C k c m F dfl) (hr : Room k X.A) (ho : PD X C a f)
    (ht : eval (.Call (.Attribute a m ap) [] [] cp) X.env = (do
      let ov ← eval a X.env
      standAt ap.atName
      let (f, first) ← holding [ov] (getMethod ov m pl)
      callWith cp f first (backTo cp (starEach [] X.env)) (backToKw cp (keywordEach [] X.env))) := by rfl) :
    PD X C (.Call (.Attribute a m ap) [] [] cp) (gMeth c m F dfl f gNil) := by
  obtain ⟨Ca, fa, fd, ps, ds, dvs, hC, cl, me, hb, hd, hdd, ok⟩ := G.ex
  exact pe_imp (pe_meth0 ho cl me ok hr hb hd pass0 ht) fun σ H Q hw => by
    have z := meth_read (ga := gNil) (E := E0) hC hdd hw
    obtain ⟨e, Ω, ρ, d, Ω', eH, w, rl, q, kk⟩ := z
    refine ⟨e, Ω, ρ, d, Ω', eH, w, rl, q, fun v e1 x1 w1 i1 => ?_⟩
    obtain ⟨a', dx, fs, e2, e3, e4, z⟩ := kk v e1 x1 w1 i1
    refine ⟨a', dx, fs, e2, e3, e4, ?_⟩
    obtain ⟨e5, Ω5, ρ5, ds5, Ω6, eH5, w5, rl5, q5, kk5⟩ := z
    cases q5
    have := kk5 [] e5 (Ext.refl _) w5 .nil
    rw [eH5] at this
    exact this

/-! ### a new instance -/
structure MkD (P : Program) (w : World) (K : PySem.W.Frag) (mg : Str → Option Value) (base : Heap) (C : Cl) (k : Nat) (c : Str) (F : FDen) (dfl : List D) : Prop where
  ex : ∃ Ca f fd ps ds dvs, C c = some Ca ∧ mg c = some (.ref Ca) ∧ Mk K Ca f ∧ Binds K fd ps ds ∧ Vals dvs ds ∧ (∀ α H, IsL K α H dfl dvs) ∧ FnOk P w K mg base CX0 k f fd ps (spD K C F)
def gMake (c : Str) (F : FDen) (dfl : List D) (ga : ADen) : Den := fun ρ Ω => match ga ρ Ω with
  | some (ds, Ω1) => (match F (.obj Ω1.length :: (ds ++ dfl)) (Ω1 ++ [.ins c []]) with
    | some (.non, Ω2) => some (.obj Ω1.length, Ω2)
    | _ => none)
  | none => none
theorem make_read {K : PySem.W.Frag} {c : Str} {F : FDen} {dfl : List D} {dvs : List V} {Ca : Addr} (hC : C c = some Ca) (hd : ∀ α H, IsL K α H dfl dvs) {σ : St} {H : Hp} {Q : VK} {E : XK} (hw : tD K C (gMake c F dfl ga) σ H Q) :
    tMake Ca (spD K C F) dvs E (tDA K C ga) σ H Q := by
  obtain ⟨e, Ω, ρ, d, Ω', eH, w, rl, q, kk⟩ := hw
  unfold gMake at q
  cases q1 : ga ρ Ω with
  | none => rw [q1] at q; cases q
  | some p1 =>
    obtain ⟨ds, Ω1⟩ := p1
    rw [q1] at q
    dsimp only at q
    cases q2 : F (.obj Ω1.length :: (ds ++ dfl)) (Ω1 ++ [.ins c []]) with
    | none => rw [q2] at q; cases q
    | some p2 =>
      obtain ⟨d2, Ω2⟩ := p2
      rw [q2] at q
      cases d2 with
      | non =>
        cases q
        refine ⟨e, Ω, ρ, ds, Ω1, eH, w, rl, q1, fun vs e1 x1 w1 i1 p dx hp hdx hne => ?_⟩
        obtain ⟨w2, x2⟩ := w1.obj (H' := upd (upd e1.H dx (.own p)) p (.ins Ca dx [])) (o := .ins c []) hp (fun b u hb => by rw [upd_ne (ne_of_none hb hp), upd_ne (ne_of_none hb hdx)]; exact hb)
          (by rw [upd_same]; exact ⟨by simp, fun xs z => nomatch z⟩) ⟨Ca, dx, [], hC, upd_same, rfl⟩
        have ip : (e1.obj p (upd (upd e1.H dx (.own p)) p (.ins Ca dx []))).α[Ω1.length]? = some p := by show (e1.α ++ [p])[Ω1.length]? = some p; rw [← w1.ol]; simp
        refine ⟨e1.obj p (upd (upd e1.H dx (.own p)) p (.ins Ca dx [])), Ω1 ++ [.ins c []], _, .non, _, rfl, w2, .cons (by rw [Is]; exact ⟨p, ip, rfl⟩) ((i1.ext x2).append (hd _ _)), q2, fun v' e4 x4 w4 i4 => ?_⟩
        rw [Is] at i4
        exact ⟨i4, kk _ e4 ((x1.trans x2).trans x4) w4 (by rw [Is]; exact ⟨p, obj_ext (K := K) x4 ip, rfl⟩)⟩
      | _ => cases q
theorem pd_make {k : Nat} {c : Str} {F : FDen} {dfl : List D} {es : List Expr} {p : Pos} (G : MkD X.prog X.w X.K X.mg X.base C k c F dfl) (hr : Room (k + 1) X.A) (hg : Gl X c) (ha : PDA X C (x :: es) ga)
    (hdb : (c == ("__debug__" : Str)) = false := by decide) (he : starEach (x :: es) X.env = (false, eval x X.env) :: starEach es X.env := by rfl) (hpl : (backTo cp (starEach es X.env)).any (·.1) = false := by rfl) :
    PD X C (.Call (.Name c p) (x :: es) [] cp) (gMake c F dfl ga) := by
  obtain ⟨Ca, fa, fd, ps, ds, dvs, hC, hm, mk, hb, hd, hdd, ok⟩ := G.ex
  exact pe_imp (pe_make mk ok hr hg hm hb hd pass0 ha hdb he hpl) fun _ _ _ hw => make_read hC hdd hw
end
end DL
set_option Elab.async false
set_option linter.all false
set_option maxRecDepth 100000
namespace DL
open PySem PySem.Spec PyProof.Rows L2
/-! ### a def with defaults; methods -/
structure FunV (K : PySem.W.Frag) (x qual : Str) (st : Stmt) (dV : Value) (f : Addr) (fd : FuncData) : Prop where
  ex : ∃ (oc : Value) (od : Option Addr) (kV doc pm : Value) (an : Option Addr) (cdv ct : Value) (osl : Array (Option Value)),
    fd = PySem.W.fnOf x qual (defArgs st) (defBody st) (defScope st) dV kV doc pm an cdv ct ∧ K.lookup f = some ⟨oc, od, .func fd, osl⟩ ∧ PySem.W.codeIn K cdv qual = true
theorem funV_mk {K : PySem.W.Frag} {x qual : Str} {st : Stmt} {dV : Value} {f : Addr} {oc : Value} {od an : Option Addr} {osl : Array (Option Value)} {kV doc pm cdv ct : Value}
    (l : K.lookup f = some ⟨oc, od, .func (PySem.W.fnOf x qual (defArgs st) (defBody st) (defScope st) dV kV doc pm an cdv ct), osl⟩) (c : PySem.W.codeIn K cdv qual = true) :
    FunV K x qual st dV f (PySem.W.fnOf x qual (defArgs st) (defBody st) (defScope st) dV kV doc pm an cdv ct) := ⟨oc, od, kV, doc, pm, an, cdv, ct, osl, rfl, l, c⟩
theorem fn_DV {P : Program} {w : World} {K : PySem.W.Frag} {mg : Str → Option Value} {base : Heap} {C : Cl} {x qual : Str} {st : Stmt} {dV : Value} {f : Addr} {fd : FuncData} {N ps : List Str} {k n m : Nat} {s : SDen} (F : FunV K x qual st dV f fd) (S : FnScope N ps (defScope st)) (hn : ps.length = n) (hm : N.length = m)
    (hbody : ∀ (cdv : Value) (A : Around) (outer : List Env) (sh : Shared) (H : Hp) (E : XK), Room k (A.deeper (envOfC qual (defScope st) sh.heap.objs.size f cdv)) →
      PDB (cxOf CX0 P w K mg base N qual (defScope st) f cdv A outer sh H E).nox C (defBody st) s) : FnOk P w K mg base CX0 (k + 1) f fd ps (spD K C (runD n m s)) := by
  obtain ⟨oc, od, kV, doc, pm, an, cdv, ct, osl, rfl, lk, hcd⟩ := F.ex
  refine fn_of lk hcd S (fun vs H Q E h => ?_) fun A outer sh H vs Q E hr h => ?_
  · obtain ⟨e, Ω, ds, d, Ω', _, _, i, q, _⟩ := h
    unfold runD at q
    by_cases hl : ds.length = n
    · rw [← i.length, hl, hn]
    · rw [if_neg hl] at q; cases q
  · obtain ⟨e, Ω, ds, d, Ω', eH, wf, i, q, kk⟩ := h
    unfold runD at q
    by_cases hl : ds.length = n
    · rw [if_pos hl] at q
      cases q1 : s (ds.map Sl.dat ++ List.replicate (m - n) Sl.und) Ω with
      | none => rw [q1] at q; cases q
      | some o =>
        rw [q1] at q
        refine ⟨_, (hbody cdv A outer sh H E hr e).nox, e, Ω, _, o, eH, start_rel wf i, by rw [hl, hm]; exact q1, ?_⟩
        cases o with
        | rt d' Ω2 => cases q; exact fun e' v x' w' i' => kk v e' x' w' i'
        | nx ρ' Ω2 => cases q; exact fun e' σ' r' => kk .non e' r'.ext r'.wf (by rw [Is])
        | bk ρ' Ω2 => cases q
        | ct ρ' Ω2 => cases q
    · rw [if_neg hl] at q; cases q
/-- the arguments bind: none is left out and there is no default -/
theorem bindsN {K : PySem.W.Frag} {fd : FuncData} {ps : List Str} (h : ∀ us : List Value, us.length = ps.length → bindArgs fd ⟨us, []⟩ = pure (ps.zip us)) : Binds K fd ps [] := .all h
/-- the law, whatever the classes' places are -/
def spC (K : PySem.W.Frag) (F : FDen) : Sp := fun vs H Q E => ∀ C : Cl, spD K C F vs H Q E
/-- one class more -/
def clAdd (C : Cl) (c : Str) (a : Addr) : Cl := fun x => if x = c then some a else C x
theorem clAdd_same {C : Cl} {c : Str} {a : Addr} : clAdd C c a c = some a := if_pos rfl
theorem noA_of {K : PySem.W.Frag} {C : Cl} {c f : Str} {a : Addr} (h : C c = some a) (n : NoAttr K a f) : NoA K C c f := fun Ca e => by rw [h] at e; cases e; exact n

/-! what each word is worth at a place -/
section
variable (ρ : List Sl) (Ω : List OS)
@[simp] theorem ap_fld (c fl : Str) (g : Den) : gFld c fl g ρ Ω = match g ρ Ω with
  | some (.obj n, Ω1) => (match Ω1[n]? with
    | some (.ins c' fs) => (if c' = c then (match fs.lookup fl with | some d => some (d, Ω1) | none => none) else none)
    | _ => none)
  | _ => none := (rfl)
@[simp] theorem ap_sfld (c fl : Str) (go gv : Den) : sFldD c fl go gv ρ Ω = match gv ρ Ω with
  | some (v, Ω1) => (match go ρ Ω1 with
    | some (.obj n, Ω2) => (match Ω2[n]? with
      | some (.ins c' fs) => (if c' = c ∧ fs.length < 1000 then some (.nx ρ (Ω2.set n (.ins c (putFD fl v fs)))) else none)
      | _ => none)
    | _ => none)
  | none => none := (rfl)
@[simp] theorem ap_meth (c m : Str) (F : FDen) (dfl : List D) (go : Den) (ga : ADen) : gMeth c m F dfl go ga ρ Ω = match go ρ Ω with
  | some (.obj n, Ω1) => (match Ω1[n]? with
    | some (.ins c' fs) => (if c' = c then (match fs.lookup m with
      | none => (match ga ρ Ω1 with | some (ds, Ω2) => F (.obj n :: (ds ++ dfl)) Ω2 | none => none)
      | some _ => none) else none)
    | _ => none)
  | _ => none := (rfl)
@[simp] theorem ap_make (c : Str) (F : FDen) (dfl : List D) (ga : ADen) : gMake c F dfl ga ρ Ω = match ga ρ Ω with
  | some (ds, Ω1) => (match F (.obj Ω1.length :: (ds ++ dfl)) (Ω1 ++ [.ins c []]) with
    | some (.non, Ω2) => some (.obj Ω1.length, Ω2)
    | _ => none)
  | none => none := (rfl)
end
end DL
set_option Elab.async false
set_option linter.all false
set_option maxRecDepth 100000
namespace L2
open PySem PySem.Spec PyProof.Rows
section
variable {X : Cx} {tg : Expr}
end
end L2
namespace DL
open PySem PySem.Spec PyProof.Rows L2
section
variable {X : Cx} {C : Cl} {tg : Expr} {ga : ADen} {pos p : Pos}
end
end DL
set_option Elab.async false
set_option linter.all false
set_option maxRecDepth 100000
/-! the tree of questions of a sort, answered by ranks -/
namespace KS
open PySem PySem.W PyProof.Rows

def kw {α : Type} (N : Nat) (lt : Nat → Nat → Bool) : KasT α → (α → Prop) → Prop
  | .ret a, Q => Q a
  | .ask i j k, Q => i < N ∧ j < N ∧ kw N lt (k (lt i j)) Q
theorem kw_bind {α β : Type} {N : Nat} {lt : Nat → Nat → Bool} {f : α → KasT β} {Q : β → Prop} : ∀ t : KasT α, kw N lt t (fun a => kw N lt (f a) Q) → kw N lt (t.bind f) Q
  | .ret _, h => h
  | .ask i j k, ⟨h1, h2, h3⟩ => ⟨h1, h2, kw_bind (k (lt i j)) h3⟩
abbrev rk (r : Nat → Nat) (p : Array Nat) (m : Nat) : Nat := r (p.getD m 0)
structure Pm (N : Nat) (p : Array Nat) : Prop where
  perm : p.Perm (List.range N).toArray
  pos : 0 < N
theorem Pm.size {N : Nat} {p : Array Nat} (h : Pm N p) : p.size = N := by rw [h.perm.size_eq]; simp
theorem Pm.lt {N : Nat} {p : Array Nat} (h : Pm N p) (m : Nat) : p.getD m 0 < N := by
  by_cases hm : m < p.size
  · have e : p.getD m 0 = p[m] := by simp [Array.getD, hm]
    rw [e]
    have : p[m] ∈ (List.range N).toArray := h.perm.mem_iff.mp (Array.getElem_mem hm)
    simpa using this
  · have e : p.getD m 0 = 0 := by simp [Array.getD, hm]
    rw [e]; exact h.pos
theorem getD_of {p : Array Nat} (m : Nat) : p.getD m 0 = (p[m]?).getD 0 := by simp [Array.getD_eq_getD_getElem?]
theorem rk_mirror (r : Nat → Nat) {p : Array Nat} {i j : Nat} (hj : j ≤ p.size) (k : Nat) : rk r (kas_rev p i j) k = if i ≤ k ∧ k < j then rk r p (i + j - 1 - k) else rk r p k := by
  have e := getElem?_mirror_all (i := i) hj k
  unfold rk kas_rev
  rw [getD_of, getD_of, getD_of, e]
  split <;> rfl
theorem rk_bubble (r : Nat → Nat) {p : Array Nat} {src d : Nat} (hs : src < p.size) (hd : d ≤ src) (k : Nat) :
    rk r (bubble p src d) k = if k = src - d then rk r p src else if src - d < k ∧ k ≤ src then rk r p (k - 1) else rk r p k := by
  have e := getElem?_bubble hs d hd k
  unfold rk
  rw [getD_of, getD_of, getD_of, getD_of, e]
  split
  · rfl
  · split <;> rfl
def Up (r : Nat → Nat) (p : Array Nat) (n : Nat) : Prop := ∀ i j, i ≤ j → j < n → rk r p i ≤ rk r p j
def Dn (r : Nat → Nat) (p : Array Nat) (n : Nat) : Prop := ∀ i j, i ≤ j → j < n → rk r p j ≤ rk r p i
section
variable {N : Nat} {r : Nat → Nat}
abbrev ltR (r : Nat → Nat) (i j : Nat) : Bool := decide (r i < r j)
theorem Pm.rev {p : Array Nat} (h : Pm N p) (i j : Nat) : Pm N (kas_rev p i j) := ⟨(mirror_perm p i j _).trans h.perm, h.pos⟩
theorem Pm.bub {p : Array Nat} (h : Pm N p) (i j : Nat) : Pm N (bubble p i j) := ⟨(bubble_perm p i j).trans h.perm, h.pos⟩
theorem up_succ {p : Array Nat} {n : Nat} (h : Up r p n) (h1 : 1 ≤ n) (hl : rk r p (n - 1) ≤ rk r p n) : Up r p (n + 1) := fun i j hij hj => by
  by_cases hjn : j < n
  · exact h i j hij hjn
  · have : j = n := by omega
    subst this
    by_cases hi : i = j
    · subst hi; exact Nat.le_refl _
    · exact Nat.le_trans (h i (j - 1) (by omega) (by omega)) hl
theorem dn_succ {p : Array Nat} {n : Nat} (h : Dn r p n) (h1 : 1 ≤ n) (hl : rk r p n ≤ rk r p (n - 1)) : Dn r p (n + 1) := fun i j hij hj => by
  by_cases hjn : j < n
  · exact h i j hij hjn
  · have : j = n := by omega
    subst this
    by_cases hi : i = j
    · subst hi; exact Nat.le_refl _
    · exact Nat.le_trans hl (h i (j - 1) (by omega) (by omega))
theorem asc {p : Array Nat} {Q : Nat → Prop} (hB : Pm N p) : ∀ (f n : Nat), 1 ≤ n → n + f ≤ N → Up r p n → (∀ m, n ≤ m → m ≤ n + f → Up r p m → (m = n + f ∨ rk r p m < rk r p (m - 1)) → Q m) → kw N (ltR r) (kas_asc p f n) Q
  | 0, n, h1, hn, hs, h => h n (Nat.le_refl _) (Nat.le_refl _) hs (.inl rfl)
  | f + 1, n, h1, hn, hs, h => by
    refine ⟨hB.lt n, hB.lt (n - 1), ?_⟩
    by_cases hc : rk r p n < rk r p (n - 1)
    · have e : ltR r (p.getD n 0) (p.getD (n - 1) 0) = true := decide_eq_true hc
      rw [e]; dsimp only; rw [if_pos rfl]
      exact h n (Nat.le_refl _) (by omega) hs (.inr hc)
    · have e : ltR r (p.getD n 0) (p.getD (n - 1) 0) = false := decide_eq_false hc
      rw [e]; dsimp only; rw [if_neg (by decide)]
      exact asc hB f (n + 1) (by omega) (by omega) (up_succ hs h1 (by omega)) fun m a b c d => h m (by omega) (by omega) c (d.elim (fun d => .inl (by omega)) .inr)
theorem mirror_same {p : Array Nat} {i j : Nat} (hj : j ≤ p.size) (he : ∀ k, i ≤ k → k < j → rk r p k = rk r p (j - 1)) (k : Nat) : rk r (kas_rev p i j) k = rk r p k := by
  rw [rk_mirror r hj]
  split
  · rw [he _ (by omega) (by omega), he k (by omega) (by omega)]
  · rfl
theorem desc {Q : Array Nat × Nat × Nat → Prop} {hi : Nat} : ∀ (f : Nat) (p : Array Nat) (n q : Nat), Pm N p → 1 ≤ n → n + f = hi → hi ≤ N → Dn r p n → q + 1 ≤ n → (∀ i, n - (q + 1) ≤ i → i < n → rk r p i = rk r p (n - 1)) →
    (∀ p' m q', Pm N p' → 1 ≤ m → m ≤ hi → Dn r p' m → q' + 1 ≤ m → (∀ i, m - (q' + 1) ≤ i → i < m → rk r p' i = rk r p' (m - 1)) → Q (p', m, q')) → kw N (ltR r) (kas_desc f p n q) Q
  | 0, p, n, q, hB, h1, hn, hN, hs, hq, he, h => h p n q hB h1 (by omega) hs hq he
  | f + 1, p, n, q, hB, h1, hn, hN, hs, hq, he, h => by
    have hsz := hB.size
    refine ⟨hB.lt n, hB.lt (n - 1), ?_⟩
    by_cases hc : rk r p n < rk r p (n - 1)
    · have e : ltR r (p.getD n 0) (p.getD (n - 1) 0) = true := decide_eq_true hc
      rw [e]; dsimp only; rw [if_pos rfl]
      by_cases hq0 : q > 0
      · rw [if_pos hq0]
        have same := mirror_same (r := r) (p := p) (i := n - (q + 1)) (j := n) (by omega) he
        refine desc f _ (n + 1) 0 (hB.rev _ _) (by omega) (by omega) hN ?_ (by omega) (fun i a b => by congr 1; congr 1; omega) h
        refine dn_succ (fun i j a b => ?_) h1 ?_
        · rw [same, same]; exact hs i j a b
        · rw [same, same]; omega
      · rw [if_neg hq0]
        exact desc f p (n + 1) 0 hB (by omega) (by omega) hN (dn_succ hs h1 (by omega)) (by omega) (fun i a b => by congr 1; congr 1; omega) h
    · have e : ltR r (p.getD n 0) (p.getD (n - 1) 0) = false := decide_eq_false hc
      rw [e]; dsimp only; rw [if_neg (by decide)]
      refine ⟨hB.lt (n - 1), hB.lt n, ?_⟩
      by_cases hd : rk r p (n - 1) < rk r p n
      · have e : ltR r (p.getD (n - 1) 0) (p.getD n 0) = true := decide_eq_true hd
        rw [e]; dsimp only; rw [if_pos rfl]
        exact h p n q hB h1 (by omega) hs hq he
      · have e : ltR r (p.getD (n - 1) 0) (p.getD n 0) = false := decide_eq_false hd
        rw [e]; dsimp only; rw [if_neg (by decide)]
        refine desc f p (n + 1) (q + 1) hB (by omega) (by omega) hN (dn_succ hs h1 (by omega)) (by omega) (fun i a b => ?_) h
        show rk r p i = rk r p n
        by_cases hi : i = n
        · rw [hi]
        · rw [he i (by omega) (by omega)]; omega
theorem tail3 {p : Array Nat} {Q : Nat × Array Nat → Prop} {n nrem : Nat} (hB : Pm N p) (h1 : 1 ≤ n) (hn : n ≤ nrem) (hN : nrem ≤ N) (hs : Dn r p n)
    (h : ∀ m p', Pm N p' → 1 ≤ m → m ≤ nrem → Up r p' m → Q (m, p')) : kw N (ltR r) (kas_tail3 n nrem p) Q := by
  have hsz := hB.size
  unfold kas_tail3
  refine kw_bind _ (asc (hB.rev 0 n) _ n h1 (by omega) (fun i j a b => ?_) fun m a b c _ => h m _ (hB.rev 0 n) (by omega) (by omega) c)
  rw [rk_mirror r (by omega), rk_mirror r (by omega), if_pos (by omega), if_pos (by omega)]
  exact hs _ _ (by omega) (by omega)
theorem descPart {p : Array Nat} {Q : Nat × Array Nat → Prop} {n nrem : Nat} (hB : Pm N p) (hn : n + 1 ≤ nrem) (hN : nrem ≤ N) (hs : Dn r p (n + 1))
    (h : ∀ m p', Pm N p' → 1 ≤ m → m ≤ nrem → Up r p' m → Q (m, p')) : kw N (ltR r) (kas_descPart n nrem p) Q := by
  unfold kas_descPart
  refine kw_bind _ (desc (hi := nrem) _ p (n + 1) 0 hB (by omega) (by omega) hN hs (by omega) (fun i a b => by congr 1; congr 1; omega) fun p' m q' hB' m1 m2 hs' hq' he' => ?_)
  dsimp only
  have hsz := hB'.size
  by_cases hq0 : q' > 0
  · rw [if_pos hq0]
    have same := mirror_same (r := r) (p := p') (i := m - (q' + 1)) (j := m) (by omega) he'
    exact tail3 (hB'.rev _ _) m1 m2 hN (fun i j a b => by rw [same, same]; exact hs' i j a b) h
  · rw [if_neg hq0]
    exact tail3 hB' m1 m2 hN hs' h
theorem count {p : Array Nat} {Q : Nat × Array Nat → Prop} {nrem : Nat} (hB : Pm N p) (h1 : 1 ≤ nrem) (hN : nrem ≤ N)
    (h : ∀ m p', Pm N p' → 1 ≤ m → m ≤ nrem → Up r p' m → Q (m, p')) : kw N (ltR r) (kas_count nrem p) Q := by
  have hsz := hB.size
  unfold kas_count
  refine kw_bind _ (asc hB _ 1 (Nat.le_refl _) (by omega) (fun i j a b => by have : i = j := (by omega); subst this; exact Nat.le_refl _) fun n n1 n2 hs hor => ?_)
  by_cases hnn : n = nrem
  · rw [if_pos (by simpa using hnn)]
    exact h n p hB n1 (by omega) hs
  · rw [if_neg (by simpa using hnn)]
    have hlt : rk r p n < rk r p (n - 1) := hor.resolve_left (by omega)
    by_cases hg : n > 1
    · rw [if_pos hg]
      refine ⟨hB.lt 0, hB.lt (n - 1), ?_⟩
      by_cases hc : rk r p 0 < rk r p (n - 1)
      · have e : ltR r (p.getD 0 0) (p.getD (n - 1) 0) = true := decide_eq_true hc
        rw [e]; dsimp only; rw [if_pos rfl]
        exact h n p hB n1 (by omega) hs
      · have e : ltR r (p.getD 0 0) (p.getD (n - 1) 0) = false := decide_eq_false hc
        rw [e]; dsimp only; rw [if_neg (by decide)]
        have all : ∀ k, 0 ≤ k → k < n → rk r p k = rk r p (n - 1) := fun k _ hk => by
          have a1 := hs 0 k (by omega) hk
          have a2 := hs k (n - 1) (by omega) (by omega)
          omega
        have same := mirror_same (r := r) (p := p) (i := 0) (j := n) (by omega) all
        refine descPart (hB.rev _ _) (by omega) hN (dn_succ (fun i j a b => ?_) n1 ?_) h
        · rw [same, same, all i (by omega) (by omega), all j (by omega) b]; exact Nat.le_refl _
        · rw [same, same]; omega
    · rw [if_neg hg]
      have : n = 1 := by omega
      subst this
      exact descPart hB (by omega) hN (dn_succ (fun i j a b => by have : i = j := (by omega); subst this; exact Nat.le_refl _) (Nat.le_refl _) (by omega)) h
theorem place {p : Array Nat} {Q : Nat → Prop} {k : Nat} (hB : Pm N p) (hs : Up r p k) : ∀ (f l q : Nat), l ≤ q → q ≤ k → q - l ≤ f → (∀ i, i < l → rk r p i ≤ rk r p k) → (∀ i, q ≤ i → i < k → rk r p k < rk r p i) →
    (∀ m, m ≤ k → (∀ i, i < m → rk r p i ≤ rk r p k) → (∀ i, m ≤ i → i < k → rk r p k < rk r p i) → Q m) → kw N (ltR r) (kas_place p k f l q) Q
  | 0, l, q, a, b, c, lo, hi, h => h l (by omega) lo (fun i x y => hi i (by omega) y)
  | f + 1, l, q, a, b, c, lo, hi, h => by
    unfold kas_place
    by_cases hge : l ≥ q
    · rw [if_pos hge]
      exact h l (by omega) lo (fun i x y => hi i (by omega) y)
    · rw [if_neg hge]
      refine ⟨hB.lt k, hB.lt _, ?_⟩
      by_cases hc : rk r p k < rk r p ((l + q) / 2)
      · have e : ltR r (p.getD k 0) (p.getD ((l + q) / 2) 0) = true := decide_eq_true hc
        rw [e]; dsimp only; rw [if_pos rfl]
        exact place hB hs f l ((l + q) / 2) (by omega) (by omega) (by omega) lo (fun i x y => Nat.lt_of_lt_of_le hc (hs _ _ x y)) h
      · have e : ltR r (p.getD k 0) (p.getD ((l + q) / 2) 0) = false := decide_eq_false hc
        rw [e]; dsimp only; rw [if_neg (by decide)]
        exact place hB hs f ((l + q) / 2 + 1) q (by omega) (by omega) (by omega) (fun i x => Nat.le_trans (hs i ((l + q) / 2) (by omega) (by omega)) (by omega)) hi h
theorem ins {p : Array Nat} {k l : Nat} (hB : Pm N p) (hk : k < N) (hl : l ≤ k) (hs : Up r p k) (lo : ∀ i, i < l → rk r p i ≤ rk r p k) (hi : ∀ i, l ≤ i → i < k → rk r p k < rk r p i) : Up r (bubble p k (k - l)) (k + 1) := fun i j a b => by
  have hsz := hB.size
  rw [rk_bubble r (by omega) (by omega), rk_bubble r (by omega) (by omega), show k - (k - l) = l by omega]
  by_cases c1 : i = l
  · rw [if_pos c1]
    by_cases d1 : j = l
    · rw [if_pos d1]; exact Nat.le_refl _
    · rw [if_neg d1, if_pos (by omega)]
      exact Nat.le_of_lt (hi (j - 1) (by omega) (by omega))
  · rw [if_neg c1]
    by_cases c2 : l < i ∧ i ≤ k
    · rw [if_pos c2, if_neg (by omega), if_pos (by omega)]
      exact hs _ _ (by omega) (by omega)
    · rw [if_neg c2]
      by_cases d1 : j = l
      · rw [if_pos d1]; exact lo i (by omega)
      · rw [if_neg d1]
        by_cases d2 : l < j ∧ j ≤ k
        · rw [if_pos d2]; exact hs _ _ (by omega) (by omega)
        · rw [if_neg d2]; exact hs _ _ (by omega) (by omega)
theorem bin {Q : Array Nat → Prop} : ∀ (f : Nat) (p : Array Nat) (k : Nat), Pm N p → k + f = N → 1 ≤ k → Up r p k → (∀ p', Pm N p' → Up r p' N → Q p') → kw N (ltR r) (kas_bin f p k) Q
  | 0, p, k, hB, hf, h1, hs, h => h p hB (by rw [← hf]; exact hs)
  | f + 1, p, k, hB, hf, h1, hs, h => by
    unfold kas_bin
    exact kw_bind _ (place hB hs k 0 k (by omega) (Nat.le_refl _) (by omega) (fun i x => by omega) (fun i x y => by omega) fun m hm lo hi =>
      bin f _ (k + 1) (hB.bub _ _) (by omega) (by omega) (ins hB (by omega) hm hs lo hi) h)
theorem sort {Q : Array Nat → Prop} (h2 : 2 ≤ N) (h : ∀ p, Pm N p → Up r p N → Q p) : kw N (ltR r) (kas_sort N) Q := by
  unfold kas_sort
  have hB : Pm N (List.toArray (List.range N)) := ⟨Array.Perm.refl _, by omega⟩
  refine kw_bind _ (count hB (by omega) (Nat.le_refl _) fun m p' hB' m1 m2 hs => ?_)
  dsimp only
  by_cases hm : m < N
  · rw [if_pos hm]
    rw [show max m 1 = m by omega]
    exact bin _ p' m hB' (by omega) m1 hs h
  · rw [if_neg hm]
    exact h p' hB' (by have : m = N := (by omega); subst this; exact hs)
end

/-! ranks -/
section
variable {β : Type} (lt : β → β → Bool)
end
end KS
set_option Elab.async false
set_option linter.all false
set_option maxRecDepth 100000
/-! sorted(xs, key=f), over any heap -/
namespace KS
open PySem PySem.W PySem.Calls PyProof.Rows
section
variable {prog : Program} {w : World} {A : Around} {E : Value → Shared → Prop} {s : Shared} {a kS : Addr} {vs ks : List Value} {κ : SortKind}
end
end KS
set_option Elab.async false
set_option linter.all false
set_option maxRecDepth 100000
namespace L2
open PySem PySem.Spec PyProof.Rows KS PySem.W
section
variable {X : Cx} {k : Nat} {f : Addr} {fd : FuncData} {ps : List Str} {sp : Sp} {pins : List (Addr × Obj)} {σ : St} {H : Hp} {s : Shared}
theorem Paired.get {α β : Type} {R : α → β → Prop} : ∀ {xs : List α} {ys : List β} {i : Nat} {x : α}, Paired R xs ys → xs[i]? = some x → ∃ y, ys[i]? = some y ∧ R x y
  | _, _, 0, _, .cons r _, e => by cases e; exact ⟨_, rfl, r⟩
  | _, _, i + 1, x, .cons _ t, e => by
    obtain ⟨y, h1, h2⟩ := Paired.get (i := i) (x := x) t e
    exact ⟨y, h1, h2⟩
  | _, _, _, _, .nil, e => by simp at e
end
end L2
set_option Elab.async false
set_option linter.all false
set_option maxRecDepth 100000
/-! == of plain data: as it stands -/
namespace DL
open PySem
mutual
def pl : D → Bool
  | .non => true
  | .int _ => true
  | .str x => (PyData.str x).canLay0
  | .tup xs => plL xs
  | .lst xs => plL xs
  | _ => false
def plL : List D → Bool
  | [] => true
  | d :: ds => pl d && plL ds
end
mutual
def dep : D → Nat
  | .tup xs => depL xs + 1
  | .lst xs => depL xs + 1
  | _ => 0
def depL : List D → Nat
  | [] => 0
  | d :: ds => max (dep d) (depL ds)
end
mutual
theorem lay_pl : ∀ d : D, pl d = true → (toP d).canLay0 = true
  | .non, _ => by rw [toP]; rfl
  | .int _, _ => by rw [toP]; rfl
  | .str x, h => by rw [pl] at h; rw [toP]; exact h
  | .tup xs, h => by rw [pl] at h; rw [toP, PyData.canLay0]; exact lay_plL xs h
  | .lst xs, h => by rw [pl] at h; rw [toP, PyData.canLay0]; exact lay_plL xs h
  | .bl _, h => by simp [pl] at h
  | .scr _, h => by simp [pl] at h
  | .obj _, h => by simp [pl] at h
theorem lay_plL : ∀ ds : List D, plL ds = true → PyData.canLayAll0 (toPs ds) = true
  | [], _ => by rw [toPs]; rfl
  | d :: ds, h => by
    rw [plL, Bool.and_eq_true] at h
    rw [toPs, PyData.canLayAll0, Bool.and_eq_true]
    exact ⟨lay_pl d h.1, lay_plL ds h.2⟩
end
mutual
theorem dep_pl : ∀ d : D, pl d = true → (toP d).depth = dep d
  | .non, _ => by rw [toP, dep]; rfl; all_goals (intro _ z; cases z)
  | .int _, _ => by rw [toP, dep]; rfl; all_goals (intro _ z; cases z)
  | .str x, h => by rw [toP, dep]; rfl; all_goals (intro _ z; cases z)
  | .tup xs, h => by rw [pl] at h; rw [toP, dep, PyData.depth, dep_plL xs h]
  | .lst xs, h => by rw [pl] at h; rw [toP, dep, PyData.depth, dep_plL xs h]
  | .bl _, h => by simp [pl] at h
  | .scr _, h => by simp [pl] at h
  | .obj _, h => by simp [pl] at h
theorem dep_plL : ∀ ds : List D, plL ds = true → PyData.depthAll (toPs ds) = depL ds
  | [], _ => by rw [toPs, depL]; rfl
  | d :: ds, h => by
    rw [plL, Bool.and_eq_true] at h
    rw [toPs, depL, PyData.depthAll, dep_pl d h.1, dep_plL ds h.2]
end
theorem shaped_pl {d : D} (h : pl d = true) (hd : dep d ≤ 64) : SeqAt.shaped (toP d) = true := by
  unfold SeqAt.shaped
  rw [lay_pl d h, dep_pl d h]
  simp [hd]
mutual
theorem eqv_pl : ∀ (p q : D), pl p = true → pl q = true → (PyData.eqv (toP p) (toP q) = true ↔ p = q)
  | .non, q, _, hq => by cases q <;> simp [toP, PyData.eqv, pl] at hq ⊢
  | .int i, q, _, hq => by cases q <;> simp [toP, PyData.eqv, pl] at hq ⊢
  | .str x, q, _, hq => by cases q <;> simp [toP, PyData.eqv, pl] at hq ⊢
  | .tup xs, q, hp, hq => by
    cases q with
    | tup ys =>
      rw [pl] at hp hq
      rw [toP, toP, PyData.eqv, eqv_plL xs ys hp hq]
      exact ⟨fun h => by rw [h], fun h => by injection h⟩
    | _ => simp [toP, PyData.eqv, pl] at hq ⊢
  | .lst xs, q, hp, hq => by
    cases q with
    | lst ys =>
      rw [pl] at hp hq
      rw [toP, toP, PyData.eqv, eqv_plL xs ys hp hq]
      exact ⟨fun h => by rw [h], fun h => by injection h⟩
    | _ => simp [toP, PyData.eqv, pl] at hq ⊢
  | .bl _, _, h, _ => by simp [pl] at h
  | .scr _, _, h, _ => by simp [pl] at h
  | .obj _, _, h, _ => by simp [pl] at h
theorem eqv_plL : ∀ (ps qs : List D), plL ps = true → plL qs = true → (PyData.eqvAll (toPs ps) (toPs qs) = true ↔ ps = qs)
  | [], [], _, _ => by simp [toPs, PyData.eqvAll]
  | [], _ :: _, _, _ => by simp [toPs, PyData.eqvAll]
  | _ :: _, [], _, _ => by simp [toPs, PyData.eqvAll]
  | p :: ps, q :: qs, hp, hq => by
    rw [plL, Bool.and_eq_true] at hp hq
    rw [toPs, toPs, PyData.eqvAll, Bool.and_eq_true, eqv_pl p q hp.1 hq.1, eqv_plL ps qs hp.2 hq.2]
    exact ⟨fun h => by rw [h.1, h.2], fun h => by injection h with a b; exact ⟨a, b⟩⟩
end
theorem eq_self_pl (neg : Bool) {p : D} (h : pl p = true) (hd : dep p ≤ 64) : eqD neg p p = some (.bl (!neg)) := by
  unfold eqD
  rw [shaped_pl h hd, (eqv_pl p p h h).mpr rfl]
  cases neg <;> rfl
end DL
set_option Elab.async false
set_option linter.all false
set_option maxRecDepth 100000
/-! sorted(xs), over any heap -/
namespace KS
open PySem PySem.W PySem.Calls PyProof.Rows
section
variable {prog : Program} {w : World} {A : Around} {E : Value → Shared → Prop} {s : Shared} {a : Addr} {vs : List Value}
end
end KS
set_option Elab.async false
set_option linter.all false
set_option maxRecDepth 100000
namespace L2
open PySem PySem.Spec PyProof.Rows KS PySem.W
section
variable {X : Cx} {pins : List (Addr × Obj)} {σ : St} {H : Hp} {s : Shared}
end
end L2
set_option Elab.async false
set_option linter.all false
set_option maxRecDepth 100000
namespace DL
open PySem PySem.Spec PyProof.Rows L2
section
variable {X : Cx} {C : Cl} {n : Str} {p pos kpos npos : Pos} {a : Expr} {g : Den} {k : Nat}
end
end DL
set_option Elab.async false
set_option linter.all false
set_option maxRecDepth 100000
namespace HT
open PySem PySem.Spec PyProof.Rows PySem.SeqAt
open PySem.AutoSeq1 (wpAny_loadPart')
open PySem.MeetsSeq PySem.MeetsSeq2 PySem.MeetsSeq3
end HT
set_option Elab.async false
set_option linter.all false
set_option maxRecDepth 100000
namespace L2
open PySem PySem.Spec PyProof.Rows
section
variable {X : Cx}
open Classical in
open Classical in
end
end L2
namespace DL
open PySem PySem.Spec PyProof.Rows L2
/-! ### lists read where they lie -/
def tDL (K : PySem.W.Frag) (C : Cl) (g : ADen) : TE := fun σ H Q => ∃ e Ω ρ ds Ω', e.H = H ∧ Wf K C e Ω ∧ RelE K e σ ρ ∧ g ρ Ω = some (ds, Ω') ∧
  ∀ a vs e', Ext e e' → Wf K C e' Ω' → (∀ e'' Ω'', Ext e' e'' → Wf K C e'' Ω'' → e''.H a = some (.lst vs)) → IsL K e'.α e'.F ds vs → Q (.ref a) e'.H
def PDL (X : Cx) (C : Cl) (x : Expr) (g : ADen) : Prop := PE X x (tDL X.K C g)
def gO (i : Nat) : ADen := fun ρ Ω => match ρ[i]? with
  | some (.own ds) => some (ds, Ω)
  | _ => none
def gLLen (gl : ADen) : Den := fun ρ Ω => match gl ρ Ω with
  | some (ds, Ω1) => some (.int ds.length, Ω1)
  | none => none
section
variable {X : Cx} {C : Cl} {x a b : Expr} {f g : Den} {gl : ADen} {n : Str} {p pos : Pos}
theorem pdl_own {i : Nat} (hv : PE X (.Name n p) (tVar i)) : PDL X C (.Name n p) (gO i) := pe_imp hv fun σ H Q hw' => by
  obtain ⟨e, Ω, ρ, ds, Ω', eH, w, rl, q, kk⟩ := hw'
  unfold gO at q
  split at q
  · rename_i h
    cases q
    obtain ⟨a, vs, e1, e2, il, n1, n2⟩ := rl.own _ _ h
    exact ⟨.ref a, e1, by rw [← eH]; exact kk a vs e (Ext.refl e) w (fun e'' _ x' _ => x'.hk a _ e2 n2) il⟩
  · cases q
theorem pl_len (hg : Gl X n) (hm : X.mg n = none) (hv : bootBuiltins n = some (.builtin "len")) (ho : PDL X C a gl) (hn : n ≠ "__name__" := by decide) (hdb : (n == ("__debug__" : Str)) = false := by decide)
    (he : starEach [a] X.env = (false, eval a X.env) :: starEach [] X.env := by rfl) (hpl : (backTo pos (starEach [] X.env)).any (·.1) = false := by rfl) : PD X C (.Call (.Name n p) [a] [] pos) (gLLen gl) :=
  pe_imp (pe_callB call_len hg hm hv (pa_cons ho pa_nil he) hn hdb he hpl) fun σ H Q hw' => by
    obtain ⟨e, Ω, ρ, d, Ω', eH, w, rl, q, kk⟩ := hw'
    unfold gLLen at q
    cases q1 : gl ρ Ω with
    | none => rw [q1] at q; cases q
    | some p1 =>
      obtain ⟨ds, Ω1⟩ := p1
      rw [q1] at q
      cases q
      refine ⟨e, Ω, ρ, ds, _, eH, w, rl, q1, fun l vs e1 x1 w1 st il => ⟨.ref l, vs.length, rfl, .inl ⟨vs, SqL.of (st e1 _ (Ext.refl e1) w1), rfl⟩, ?_⟩⟩
      exact kk _ e1 x1 w1 (by rw [Is, il.length])
end
end DL
set_option Elab.async false
set_option linter.all false
set_option maxRecDepth 100000
namespace DL
open PySem PySem.Spec PyProof.Rows L2
abbrev NDen := List D → List OS → Option (List D × List OS)
def spN (K : PySem.W.Frag) (C : Cl) (f : NDen) : Sp := fun vs H Q _ => ∃ e Ω ds xs Ω', e.H = H ∧ Wf K C e Ω ∧ IsL K e.α e.F ds vs ∧ f ds Ω = some (xs, Ω') ∧
  ∀ a us e', Ext e e' → Wf K C e' Ω' → IsL K e'.α e'.F xs us → e'.H a = none → Q (.ref a) (upd e'.H a (.lst us))
def frN (f : NDen) : FDen := fun ds Ω => match f ds Ω with
  | some (xs, Ω') => some (.lst xs, Ω')
  | none => none
structure FnN (P : Program) (w : World) (K : PySem.W.Frag) (mg : Str → Option Value) (base : Heap) (C : Cl) (k : Nat) (n : Str) (F : NDen) : Prop where
  ex : ∃ f fd ps, mg n = some (.ref f) ∧ PySem.W.keepIn K (.ref f) = true ∧ Binds K fd ps [] ∧ FnOk P w K mg base CX0 k f fd ps (spN K C F)
theorem FnN.fn {P : Program} {w : World} {K : PySem.W.Frag} {mg : Str → Option Value} {base : Heap} {C : Cl} {k : Nat} {n : Str} {F : NDen} (G : FnN P w K mg base C k n F) : Fn P w K mg base C k n (frN F) := by
  obtain ⟨f, fd, ps, h1, h2, h3, ok⟩ := G.ex
  refine ⟨f, fd, ps, h1, h2, h3, ok.imp fun vs H Q E ⟨e, Ω, ds, d, Ω', eH, w, il, q, kk⟩ => ?_⟩
  unfold frN at q
  cases q1 : F ds Ω with
  | none => rw [q1] at q; cases q
  | some p1 =>
    obtain ⟨xs, Ω1⟩ := p1
    rw [q1] at q
    cases q
    refine ⟨e, Ω, ds, xs, _, eH, w, il, q1, fun a us e' x' w' iu ha => ?_⟩
    refine kk _ (e'.new a _) (x'.trans (w'.new_ext ha)) (w'.new ha) ?_
    rw [Is]
    exact ⟨a, us, rfl, upd_same, iu.ext (w'.new_ext ha)⟩
section
variable {X : Cx} {C : Cl} {k : Nat} {n : Str} {p pos kpos npos : Pos} {x a : Expr} {es : List Expr} {ga : ADen} {g : Den}
end
end DL
set_option Elab.async false
set_option linter.all false
set_option maxRecDepth 100000
/-! texts -/
namespace L2
open PySem PySem.Spec PyProof.Rows
section
variable {X : Cx} {tg : Expr}
end
end L2
set_option Elab.async false
set_option linter.all false
set_option maxRecDepth 100000
namespace L2
open PySem PySem.Spec PyProof.Rows
section
variable {X : Cx}
end
end L2
set_option Elab.async false
set_option linter.all false
set_option maxRecDepth 100000
namespace DL
open PySem PySem.Spec PyProof.Rows L2
section
variable {X : Cx} {C : Cl} {x a b tg : Expr} {f g : Den} {n : Str} {p pos ap cp : Pos}
end
end DL
set_option Elab.async false
set_option linter.all false
set_option maxRecDepth 100000
/-! an exception of a class of the text is raised -/
namespace L2
open PySem PySem.Spec PyProof.Rows
section
variable {X : Cx} {x : Str} {C : Addr} {bmB : List Value} {B newId initId : String} {np cpos pos : Pos} {e : Expr} {te : TE}
end
/-- how an exception of a class of the text lies behind a call: its object flies over the callers' frames, what is tracked lies as H' tells -/
def CXr (P : Program) (w : World) : CXT := fun outer H s E e s' => ∃ (ea C t : Addr) (H' : Hp) (B : Heap), e = .ref ea ∧ E (.ref C) none H' ∧ s'.os = s.os ∧ AllBare s'.gens ∧ Un (frs outer) [] H H' s.heap s'.heap ∧ HOk P w H' s'.heap ∧
  Heap.FlyingW B outer ea (.ref C) (.ref t) s'.heap ∧ (∀ b o, H' b = some o → ∃ ob, B.get? b = some ob) ∧ H' ea = none ∧ ∀ b o, s.heap.get? b = some o → H b = none → b ∉ frs outer → B.get? b = some o
end L2
set_option Elab.async false
set_option linter.all false
set_option maxRecDepth 100000
/-! an exception of a class of the text is caught -/
namespace L2
open PySem PySem.Spec PyProof.Rows
/-- what has come of a call that raised: whatever is noted of the exception, the state is as H' tells -/
structure Flown (X : Cx) (pins : List (Addr × Obj)) (σ : St) (ea C t : Addr) (H : Hp) (B : Heap) (s : Shared) : Prop where
  fl : Heap.FlyingW B X.stack ea (.ref C) (.ref t) s.heap
  nea : H ea = none
  inv : ∀ h', B.StaysIn h' → s.heap.UpToSlots h' → Inv X pins σ H { s with heap := h' }
  new : ∀ b o, X.s₀.heap.get? b = some o → X.H₀ b = none → b ∉ X.ex → b ≠ ea
  pne : ∀ p ∈ X.pn ++ pins, p.1 ≠ ea
/-- within an except suite -/
abbrev Cx.mark (X : Cx) (v : Value) : Cx := { X with A := X.A.mark (some v), calm := false }
theorem Inv.mark {X : Cx} {pins : List (Addr × Obj)} {σ : St} {H : Hp} {s : Shared} (I : Inv X pins σ H s) (v : Value) : Inv (X.mark v) pins σ H s :=
  ⟨⟨I.ok.mod, I.ok.kind, I.ok.glob, I.ok.blt, I.ok.above, I.ok.inj, I.ok.has, I.ok.cab, (fun z => absurd z Bool.false_ne_true), I.ok.frames, I.ok.stk, I.ok.exf, I.ok.bs, I.ok.bsz, I.ok.noex, I.ok.exfs, I.ok.funs, I.ok.frf⟩, I.os, I.bare, I.base, I.loc, I.cell, I.free, I.freeC, I.pin, I.hok, I.len⟩
section
variable {X : Cx} {pins : List (Addr × Obj)} {σ : St} {ea C t : Addr} {H : Hp} {B : Heap} {s : Shared} {x n : Str} {np hpos : Pos} {cv : Value} {i : Nat} {b₀ : Stmt} {suite : List Stmt} {rest : List ExceptHandler} {Q : Flow → Shared → Prop} {E : Value → Shared → Prop} {b : Bool}
end
end L2
set_option Elab.async false
set_option linter.all false
set_option maxRecDepth 100000
/-! calls that may raise; try: .. return, except C as n: .. return -/
namespace L2
open PySem PySem.Spec PyProof.Rows
section
variable {X : Cx} {k : Nat} {f C : Addr} {fd : FuncData} {ps : List Str} {sp : Sp} {dvs : List V} {ds : List Value} {x m : Str} {p pos apos : Pos} {e o : Expr} {es : List Expr} {ta : TE} {t : TA}
end
/-- with these pins kept for good, and this wish about exceptions -/
abbrev Cx.hold (X : Cx) (pn : List (Addr × Obj)) (E : Value → Shared → Prop) : Cx := { X with pn := pn, xe := E }
theorem Inv.hold {X : Cx} {pins : List (Addr × Obj)} {σ : St} {H : Hp} {s : Shared} (I : Inv X pins σ H s) (E : Value → Shared → Prop) : Inv (X.hold (X.pn ++ pins) E) [] σ H s :=
  ⟨⟨I.ok.mod, I.ok.kind, I.ok.glob, I.ok.blt, I.ok.above, I.ok.inj, I.ok.has, I.ok.cab, I.ok.hd, I.ok.frames, I.ok.stk, I.ok.exf, I.ok.bs, I.ok.bsz, I.ok.noex, I.ok.exfs, I.ok.funs, I.ok.frf⟩, I.os, I.bare, I.base, I.loc, I.cell, I.free, I.freeC, fun p hp => I.pin p (by simpa using hp), I.hok, I.len⟩
/-- only a return is wanted -/
def Ends.only (r : VK) : Ends := { nx := fun _ _ => False, rt := r, bk := fun _ _ => False, ct := fun _ _ => False }
section
variable {X : Cx} {body : List Stmt} {x n : Str} {np hpos pos : Pos} {cv : Value} {i : Nat} {b₀ : Stmt} {suite : List Stmt} {tb : List (Addr × Obj) → (Value → Shared → Prop) → TS} {th : TS}
end
end L2
set_option Elab.async false
set_option linter.all false
set_option maxRecDepth 100000
/-! isinstance of an exception of a class of the text -/
namespace PySem.W
open PySem PySem.Spec PySem.Calls PyProof.Rows PySem.Builtin.ObjectAttr PySem PySem.Calls PyProof.Rows Builtin Builtin.ObjectAttr Builtin.Getset_descriptor
/-- an object of the class D, whatever its dict -/
def ObAt (h : Heap) (x D : Addr) : Prop := ∃ ox, h.get? x = some ox ∧ ox.cls = .ref D
theorem ObAt.type {M : Model} {h : Heap} {x D : Addr} (I : ObAt h x D) : Looks M h (typeOf (.ref x)) (.ref D) := by
  obtain ⟨ox, h1, h2⟩ := I
  exact h2 ▸ (Looks.ld h1).andThen .now
section
variable {prog : Program} {w : World} {A : Around} {E : Value → Shared → Prop} {s : Shared} {K : Frag} {x D : Addr}
/-- what isinstance wants to know of an exception class of the text -/
structure ExcLook (K : Frag) (D : Addr) : Prop where
  cl : (clsIn K D).isSome = true
  ga : findIn K (.ref D) "__getattribute__" = some (some (.builtin "BaseException.__getattribute__"))
  hk : findIn K (.ref D) "__getattr__" = some none
  sub : subIn K (.ref D) (.type "BaseException") = some true
  ha : findIn K (.ref D) "__class__" = some (some (.builtin "object.__class__"))
  hn : specialIn K (.builtin "object.__class__") "__get__" = some (some (.builtin "getset_descriptor.__get__"))
  tk : takesIn K (.builtin "object.__class__") = some true
  hm : mroIn K D (.type "object") = some true
theorem ExcLook.find {M : Model} {h : Heap} (T : ExcLook K D) (X : K.In h) : Looks M h (find (.ref x) (.ref D) "__class__") (.bind (.builtin "getset_descriptor.__get__") (.builtin "object.__class__")) := by
  have L1 := looks_findIn (M := M) X T.ha
  have L2 : Looks M h (getOf (some (.builtin "object.__class__"))) (some (.builtin "getset_descriptor.__get__")) := looks_specialIn X T.hn
  have L3 := looks_takesIn (M := M) X T.tk
  unfold Builtin.ObjectAttr.find
  refine L1.andThen (L2.andThen ?_)
  have L4 : Looks M h (dataDescriptor? (some (.builtin "object.__class__")) (some (.builtin "getset_descriptor.__get__"))) (some (.builtin "getset_descriptor.__get__", .builtin "object.__class__")) := L3.andThen .now
  exact L4.andThen (Looks.tag .now)
end
end PySem.W
set_option Elab.async false
set_option linter.all false
set_option maxRecDepth 100000
namespace DL
open PySem PySem.Spec PyProof.Rows L2
section
variable {X : Cx} {C : Cl} {x y : Expr} {g : Den} {pos p : Pos} {n : Str} {t : Str → Option Bool}
end
end DL
set_option Elab.async false
set_option linter.all false
set_option maxRecDepth 100000
/-! THE WAY OUT BY AN EXCEPTION, beside the way through (PD, PDS, PDB): what raises, of which class, with which objects. -/
namespace DL
open PySem PySem.Spec PyProof.Rows L2
abbrev RDen := List Sl → List OS → Option (Str × List OS)
abbrev XFDen := List D → List OS → Option (Str × List OS)
abbrev SRDen := List Sl → List OS → Option (Str × List Sl × List OS)
abbrev XWt := St → Addr → Hp → Prop
def tR (K : PySem.W.Frag) (C : Cl) (XW : XWt) (r : RDen) : TE := fun σ H _ => ∃ e Ω ρ c Ω' Ca, e.H = H ∧ Wf K C e Ω ∧ RelE K e σ ρ ∧ r ρ Ω = some (c, Ω') ∧ C c = some Ca ∧ ∀ e', Ext e e' → Wf K C e' Ω' → XW σ Ca e'.H
def RD (X : Cx) (C : Cl) (XW : XWt) (x : Expr) (r : RDen) : Prop := PE X x (tR X.K C XW r)
def tRS (K : PySem.W.Frag) (C : Cl) (XW : XWt) (e₀ : E4) (r : SRDen) : TS := fun _ σ H => ∃ e Ω ρ c ρ' Ω' Ca, e.H = H ∧ RelS K C e₀ e Ω σ ρ ∧ r ρ Ω = some (c, ρ', Ω') ∧ C c = some Ca ∧ ∀ e' σ', RelS K C e₀ e' Ω' σ' ρ' → XW σ' Ca e'.H
def RDS (X : Cx) (C : Cl) (XW : XWt) (st : Stmt) (r : SRDen) : Prop := ∀ e₀, PS X st (tRS X.K C XW e₀ r)
def RDB (X : Cx) (C : Cl) (XW : XWt) (sts : List Stmt) (r : SRDen) : Prop := ∀ e₀, PSs X sts (tRS X.K C XW e₀ r)
section
variable {X : Cx} {C : Cl} {XW : XWt} {a b c x : Expr} {f g : Den} {p : TDen} {st : Stmt} {rest sts sts' : List Stmt} {s : SDen} {r r1 r2 : SRDen} {rx : RDen} {pos : Pos}
end
end DL
set_option Elab.async false
set_option linter.all false
set_option maxRecDepth 100000
namespace DL
open PySem PySem.Spec PyProof.Rows L2
/-! ### defs that may raise -/
def spX (K : PySem.W.Frag) (C : Cl) (F : FDen) (R : XFDen) : Sp := fun vs H Q E => spD K C F vs H Q E ∨ ∃ e Ω ds c Ω' Ca, e.H = H ∧ Wf K C e Ω ∧ IsL K e.α e.F ds vs ∧ R ds Ω = some (c, Ω') ∧ C c = some Ca ∧ ∀ e', Ext e e' → Wf K C e' Ω' → E (.ref Ca) none e'.H
/-! ### methods that may raise -/
structure MtX (P : Program) (w : World) (K : PySem.W.Frag) (mg : Str → Option Value) (base : Heap) (C : Cl) (k : Nat) (c m : Str) (F : FDen) (R : XFDen) (dfl : List D) : Prop where
  ex : ∃ Ca f fd ps ds dvs, C c = some Ca ∧ Cls K Ca ∧ Meth K Ca m f ∧ Binds K fd ps ds ∧ Vals dvs ds ∧ (∀ α H, IsL K α H dfl dvs) ∧ FnOk P w K mg base (CXr P w) k f fd ps (spX K C F R)
section
variable {X : Cx} {C : Cl} {XW : XWt} {a b x : Expr} {f g : Den} {ga : ADen} {r : RDen} {pos ap cp : Pos}
/-! ### calls of defs that may raise -/
end
structure FnX (P : Program) (w : World) (K : PySem.W.Frag) (mg : Str → Option Value) (base : Heap) (C : Cl) (k : Nat) (n : Str) (F : FDen) (R : XFDen) : Prop where
  ex : ∃ f fd ps, mg n = some (.ref f) ∧ PySem.W.keepIn K (.ref f) = true ∧ Binds K fd ps [] ∧ FnOk P w K mg base (CXr P w) k f fd ps (spX K C F R)
section
variable {X : Cx} {C : Cl} {XW : XWt} {k : Nat} {F : FDen} {R : XFDen} {n : Str} {p pos : Pos} {a b x : Expr} {es : List Expr} {ga : ADen} {f g : Den} {r : RDen}
end
end DL
set_option Elab.async false
set_option linter.all false
set_option maxRecDepth 100000
namespace L2
open PySem PySem.Spec PyProof.Rows
end L2
namespace DL
open PySem PySem.Spec PyProof.Rows L2
section
variable {X : Cx} {C : Cl} {body : List Stmt} {x n : Str} {np hpos pos : Pos} {cv : Value} {i : Nat} {b₀ : Stmt} {suite : List Stmt} {s t : SDen} {r : SRDen} {tc : Str → Bool}
end
/-! ### more places where a part raises -/
section
variable {X : Cx} {C : Cl} {XW : XWt} {a b x : Expr} {es : List Expr} {rx : RDen} {n : Str} {p pos : Pos}
end
end DL
set_option Elab.async false
set_option linter.all false
set_option maxRecDepth 100000
namespace L2
open PySem PySem.Spec PyProof.Rows
section
variable {X : Cx} {a : Expr} {ta : TE} {z : Str} {kk : Nat} {p1 p2 pos : Pos}
end
end L2
namespace DL
open PySem PySem.Spec PyProof.Rows L2
/-! ### what has a value that is not told -/
abbrev VDen := List Sl → List OS → Option (List OS)
def tV (K : PySem.W.Frag) (C : Cl) (p : VDen) : TE := fun σ H Q => ∃ e Ω ρ Ω', e.H = H ∧ Wf K C e Ω ∧ RelE K e σ ρ ∧ p ρ Ω = some Ω' ∧ ∀ v e', Ext e e' → Wf K C e' Ω' → Q v e'.H
def PV (X : Cx) (C : Cl) (x : Expr) (p : VDen) : Prop := PE X x (tV X.K C p)
section
variable {X : Cx} {C : Cl} {XW : XWt} {a x : Expr} {f g : Den} {p : VDen} {pos p1 p2 : Pos}
def smallI (i : Int) : Prop := i.natAbs.log2 < 1920 ∧ (Str.ofString (toString i)).length ≤ 1000
instance (i : Int) : Decidable (smallI i) := by unfold smallI; infer_instance
end
end DL
set_option Elab.async false
set_option linter.all false
set_option maxRecDepth 100000
/-! the exception classes of the text, told by the fragment -/
namespace L2
open PySem PySem.Spec PyProof.Rows
section
variable {K : PySem.W.Frag} {h : Heap} {bmB : List Value} {newId : String} {mg : Str → Option Value} {x : Str}
end
end L2
set_option Elab.async false
set_option linter.all false
set_option maxRecDepth 100000
/-! an exception that a callee raised leaves a def that does not catch it -/
namespace L2
open PySem PySem.Spec PyProof.Rows
end L2
namespace DL
open PySem PySem.Spec PyProof.Rows L2
end DL
set_option Elab.async false
set_option linter.all false
set_option maxRecDepth 100000
/-! a for loop that an item's turn leaves by an exception -/
namespace DL
open PySem PySem.Spec PyProof.Rows L2
section
variable {X : Cx} {C : Cl} {XW : XWt} {tg iter c : Expr} {γ : ADen} {β : BDen} {s : SDen} {r : SRDen} {body : List Stmt} {pos : Pos}
end
end DL
set_option Elab.async false
set_option linter.all false
set_option maxRecDepth 100000
namespace L2
open PySem PySem.Spec PyProof.Rows
section
variable {X : Cx} {a : Expr} {ta : TE} {z : Str} {kk : Nat} {p1 p2 pos : Pos}
end
end L2
namespace DL
open PySem PySem.Spec PyProof.Rows L2
section
variable {X : Cx} {C : Cl} {a : Expr} {f : Den} {pos p1 p2 : Pos}
end
end DL
set_option Elab.async false
set_option linter.all false
set_option maxRecDepth 100000
namespace DL
open PySem PySem.Spec PyProof.Rows L2
/-! ### a list of a known length -/
@[elab_as_elim] theorem len0 {p : List Value → Prop} (us : List Value) (hl : us.length = 0) (h : p []) : p us := by
  cases us with
  | nil => exact h
  | cons a us => cases hl
@[elab_as_elim] theorem len1 {p : List Value → Prop} (us : List Value) (hl : us.length = 1) (h : ∀ a, p [a]) : p us := by
  cases us with
  | nil => cases hl
  | cons a us => exact len0 (p := fun us => p (a :: us)) us (Nat.succ.inj hl) (h a)
@[elab_as_elim] theorem len2 {p : List Value → Prop} (us : List Value) (hl : us.length = 2) (h : ∀ a b, p [a, b]) : p us := by
  cases us with
  | nil => cases hl
  | cons a us => exact len1 (p := fun us => p (a :: us)) us (Nat.succ.inj hl) (fun b => h a b)
@[elab_as_elim] theorem len3 {p : List Value → Prop} (us : List Value) (hl : us.length = 3) (h : ∀ a b c, p [a, b, c]) : p us := by
  cases us with
  | nil => cases hl
  | cons a us => exact len2 (p := fun us => p (a :: us)) us (Nat.succ.inj hl) (fun b c => h a b c)
@[elab_as_elim] theorem len4 {p : List Value → Prop} (us : List Value) (hl : us.length = 4) (h : ∀ a b c d, p [a, b, c, d]) : p us := by
  cases us with
  | nil => cases hl
  | cons a us => exact len3 (p := fun us => p (a :: us)) us (Nat.succ.inj hl) (fun b c d => h a b c d)
@[elab_as_elim] theorem len5 {p : List Value → Prop} (us : List Value) (hl : us.length = 5) (h : ∀ a b c d e, p [a, b, c, d, e]) : p us := by
  cases us with
  | nil => cases hl
  | cons a us => exact len4 (p := fun us => p (a :: us)) us (Nat.succ.inj hl) (fun b c d e => h a b c d e)
@[elab_as_elim] theorem len6 {p : List Value → Prop} (us : List Value) (hl : us.length = 6) (h : ∀ a b c d e f, p [a, b, c, d, e, f]) : p us := by
  cases us with
  | nil => cases hl
  | cons a us => exact len5 (p := fun us => p (a :: us)) us (Nat.succ.inj hl) (fun b c d e f => h a b c d e f)
@[elab_as_elim] theorem len7 {p : List Value → Prop} (us : List Value) (hl : us.length = 7) (h : ∀ a b c d e f g, p [a, b, c, d, e, f, g]) : p us := by
  cases us with
  | nil => cases hl
  | cons a us => exact len6 (p := fun us => p (a :: us)) us (Nat.succ.inj hl) (fun b c d e f g => h a b c d e f g)
end DL
set_option Elab.async false
set_option linter.all false
set_option maxRecDepth 100000
namespace L2
open PySem PySem.Spec PyProof.Rows
/-! ### zip over two sequences, each a list or a tuple -/
def sqN (b : Bool) : String := match b with | true => "tuple" | false => "list"
def itN (b : Bool) : String := match b with | true => "tuple_iterator" | false => "list_iterator"
def SqB (b : Bool) (h : Heap) (a : Addr) (xs : Array Value) : Prop := ∃ o, h.get? a = some o ∧ o.cls = .type (sqN b) ∧ ∃ n, o.data = .seq xs n
def ItB (b : Bool) (h : Heap) (a l : Addr) (i : Nat) : Prop := ∃ o, h.get? a = some o ∧ o.cls = .type (itN b) ∧ o.data = .fields #[.ref l, .int i 0]
section
variable {b : Bool} {h h' : Heap} {a l c : Addr} {i : Nat} {xs : Array Value}
theorem SqB.go (x : SqB b h a xs) (e : ∀ o, h.get? a = some o → h'.get? a = some o) : SqB b h' a xs := let ⟨o, ho, r⟩ := x; ⟨o, e o ho, r⟩
theorem ItB.go (x : ItB b h a l i) (e : ∀ o, h.get? a = some o → h'.get? a = some o) : ItB b h' a l i := let ⟨o, ho, r⟩ := x; ⟨o, e o ho, r⟩
theorem SqB.eb (x : SqB b h a xs) (e : Heap.ExtBut c h h') (n : a ≠ c) : SqB b h' a xs := x.go fun o q => e a o n q
theorem ItB.eb (x : ItB b h a l i) (e : Heap.ExtBut c h h') (n : a ≠ c) : ItB b h' a l i := x.go fun o q => e a o n q
theorem SqB.lt (x : SqB b h a xs) : a < h.objs.size := let ⟨_, ho, _⟩ := x; Heap.lt_size ho
theorem ItB.lt (x : ItB b h a l i) : a < h.objs.size := let ⟨_, ho, _⟩ := x; Heap.lt_size ho
end
section
variable {prog : Program} {w : World} {A : Around} {E : Value → Shared → Prop} {s : Shared} {b : Bool}
end
end L2
set_option Elab.async false
set_option linter.all false
set_option maxRecDepth 100000
namespace L2
open PySem PySem.Spec PyProof.Rows
section
variable {prog : Program} {w : World} {A : Around} {E : Value → Shared → Prop} {s : Shared} {b1 b2 : Bool} {z TI TO i1 i2 l1 l2 : Addr} {k : Nat} {xs ys : Array Value} {x y a b : Value}
end
end L2
set_option Elab.async false
set_option linter.all false
set_option maxRecDepth 100000
namespace L2
open PySem PySem.Spec PyProof.Rows
section
variable {X : Cx} {pins : List (Addr × Obj)} {σ : St} {H : Hp} {s : Shared} {h' : Heap}
end
end L2
namespace DL
open PySem PySem.Spec PyProof.Rows L2
end DL
namespace DL
open PySem PySem.Spec PyProof.Rows L2
section
variable {X : Cx} {C : Cl} {ga : ADen} {pos p pt : Pos} {es : List Expr} {kk : Nat} {a b : Expr}
end
end DL
set_option Elab.async false
set_option linter.all false
set_option maxRecDepth 100000
namespace DL
open PySem PySem.Spec PyProof.Rows L2
section
variable {X : Cx} {C : Cl} {x : Expr} {g : Den} {pos p : Pos} {n : Str}
end
end DL
set_option Elab.async false
set_option linter.all false
set_option maxRecDepth 100000
namespace L2
open PySem PySem.Spec PyProof.Rows
section
variable {X : Cx} {a : Expr} {ta : TE} {z : Str} {kk : Nat} {p1 p2 pos : Pos}
end
section
variable {X : Cx} {body : List Stmt} {x n : Str} {np hpos pos : Pos} {cv : Value} {i : Nat} {b₀ : Stmt} {suite : List Stmt} {tb : List (Addr × Obj) → (Value → Shared → Prop) → TS} {th : TS}
end
end L2
namespace DL
open PySem PySem.Spec PyProof.Rows L2
section
variable {X : Cx} {C : Cl} {a : Expr} {f : Den} {pos p1 p2 : Pos}
end
section
variable {X : Cx} {C : Cl} {body : List Stmt} {x n : Str} {np hpos pos : Pos} {cv : Value} {i : Nat} {b₀ : Stmt} {suite : List Stmt} {s t : SDen} {r : SRDen} {tc : Str → Bool}
end
end DL
set_option Elab.async false
set_option linter.all false
set_option maxRecDepth 100000
namespace DL
open PySem PySem.Spec PyProof.Rows L2
section
variable {X : Cx} {C : Cl}
end
end DL
set_option Elab.async false
set_option linter.all false
set_option maxRecDepth 100000
namespace L2
open PySem PySem.Spec PyProof.Rows
/-! ### a dict held still while it is walked -/
section
variable {X : Cx} {pins : List (Addr × Obj)} {σ : St} {H : Hp} {s : Shared} {a : Addr}
end
end L2
set_option Elab.async false
set_option linter.all false
set_option maxRecDepth 100000
namespace DL
open PySem PySem.Spec PyProof.Rows L2
section
variable {X : Cx} {C : Cl} {tg iter : Expr} {g : Den} {β : BDen} {s : SDen} {body : List Stmt} {pos : Pos}
end
end DL
set_option Elab.async false
set_option linter.all false
set_option maxRecDepth 100000
/-! min(xs), min(xs, key = f, default = d), over any heap -/
namespace KS
open PySem PySem.W PySem.Calls PyProof.Rows
section
variable {prog : Program} {w : World} {A : Around} {R : Result → Shared → Prop} {I S : Addr} {kv : Value} {kw : List (Str × Value)} {n : Nat}
end
end KS
set_option Elab.async false
set_option linter.all false
set_option maxRecDepth 100000
namespace L2
open PySem PySem.Spec PyProof.Rows KS PySem.W
section
variable {X : Cx} {pins : List (Addr × Obj)} {σ : St} {H : Hp} {s : Shared}
end
end L2
set_option Elab.async false
set_option linter.all false
set_option maxRecDepth 100000
namespace L2
open PySem PySem.Spec PyProof.Rows KS PySem.W
section
variable {X : Cx} {k : Nat} {f : Addr} {fd : FuncData} {ps : List Str} {sp : Sp} {pins : List (Addr × Obj)} {σ : St} {H : Hp} {s : Shared}
end
end L2
set_option Elab.async false
set_option linter.all false
set_option maxRecDepth 100000
namespace DL
open PySem PySem.Spec PyProof.Rows L2
section
variable {X : Cx} {C : Cl} {n : Str} {p pos kpos npos kpos2 cpos : Pos} {a : Expr} {g : Den} {k : Nat}
end
end DL
set_option Elab.async false
set_option linter.all false
set_option maxRecDepth 100000
namespace DL
open PySem PySem.Spec PyProof.Rows L2
section
variable {X : Cx} {C : Cl} {k : Nat} {F : FDen} {n : Str} {p pos : Pos}
end
section
variable {X : Cx} {C : Cl} {pos : Pos}
/-- the texts and values of a display, one by one -/
inductive PDP (X : Cx) (C : Cl) : List (Option Expr) → List Expr → List (Str × Den) → Prop
  | nil : PDP X C [] [] []
  | cons {z : Str} {j : Nat} {p : Pos} {x : Expr} {g : Den} {ks : List (Option Expr)} {vs : List Expr} {kgs : List (Str × Den)} : PD X C x g → PDP X C ks vs kgs → PDP X C (some (.Constant (.str z) j p) :: ks) (x :: vs) ((z, g) :: kgs)
theorem PDP.all {ks : List (Option Expr)} {vs : List Expr} {kgs : List (Str × Den)} (h : PDP X C ks vs kgs) : ks.all (·.isSome) = true ∧ ks.length = vs.length ∧ kgs.length = ks.length := by
  induction h with
  | nil => exact ⟨rfl, rfl, rfl⟩
  | cons _ _ ih => exact ⟨by rw [List.all_cons, ih.1]; rfl, by rw [List.length_cons, List.length_cons, ih.2.1], by rw [List.length_cons, List.length_cons, ih.2.2]⟩
end
end DL
set_option Elab.async false
set_option linter.all false
set_option maxRecDepth 100000
/-! TUPLES: t + u (either may be empty), t[a:b] (also the whole, which is t itself) -/
namespace DL
open PySem PySem.Spec PyProof.Rows L2

section
variable {prog : Program} {w : World} {A : Around} {E : Value → Shared → Prop} {s : Shared}
end

section
variable {X : Cx} {C : Cl} {a b c x : Expr} {f g h : Den} {pos : Pos}
/-! ### x in a list or tuple of plain data -/
open Classical in
end
end DL
set_option Elab.async false
set_option linter.all false
set_option maxRecDepth 100000
/-! dict(l), l a list of pairs whose keys are tuples, each once -/
namespace L2
open PySem PySem.Spec PyProof.Rows
section
variable {prog : Program} {w : World} {A : Around} {E : Value → Shared → Prop} {s : Shared}
end
/-- the items of a list of pairs: their keys and things -/
inductive Prs (H : Hp) : List V → List (List Key × V) → Prop where
  | nil : Prs H [] []
  | cons {p b : Addr} {k : List Key} {y : V} {vs : List V} {kvs : List (List Key × V)} : H p = some (.tup [.ref b, y]) → H b = some (.tup (k.map kV)) → Prs H vs kvs → Prs H (.ref p :: vs) ((k, y) :: kvs)
theorem Prs.length {H : Hp} {vs : List V} {kvs : List (List Key × V)} (h : Prs H vs kvs) : vs.length = kvs.length := by
  induction h with
  | nil => rfl
  | cons _ _ _ ih => rw [List.length_cons, List.length_cons, ih]
theorem Prs.get {H : Hp} {vs : List V} {kvs : List (List Key × V)} (h : Prs H vs kvs) : ∀ (i : Nat) (v : V), vs[i]? = some v → ∃ p b k y, v = .ref p ∧ kvs[i]? = some (k, y) ∧ H p = some (.tup [.ref b, y]) ∧ H b = some (.tup (k.map kV)) := by
  induction h with
  | nil => intro i v h; simp at h
  | cons h1 h2 t ih =>
    intro i v h
    cases i with
    | zero => rw [List.getElem?_cons_zero] at h; cases h; exact ⟨_, _, _, _, rfl, rfl, h1, h2⟩
    | succ i =>
      rw [List.getElem?_cons_succ] at h
      obtain ⟨p, b, k, y, e1, e2, e3, e4⟩ := ih i v h
      exact ⟨p, b, k, y, e1, by rw [List.getElem?_cons_succ]; exact e2, e3, e4⟩
section
variable {X : Cx} {pins : List (Addr × Obj)} {σ : St} {H : Hp} {s₀ : Shared} {A : Around}
end
end L2
set_option Elab.async false
set_option linter.all false
set_option maxRecDepth 100000
/-! LISTS AS OBJECTS, dict(list of pairs) -/
namespace DL
open PySem PySem.Spec PyProof.Rows L2
def mlsO : OS → Option (List D)
  | .mls xs => some xs
  | _ => none
def objN : D → Option Nat
  | .obj n => some n
  | _ => none
def intN : D → Option Int
  | .int i => some i
  | _ => none
theorem mls_of {o : OS} {xs : List D} (h : mlsO o = some xs) : o = .mls xs := by
  unfold mlsO at h
  split at h
  · cases h; rfl
  · cases h
theorem obj_of {d : D} {n : Nat} (h : objN d = some n) : d = .obj n := by
  unfold objN at h
  split at h
  · cases h; rfl
  · cases h
theorem int_of {d : D} {n : Int} (h : intN d = some n) : d = .int n := by
  unfold intN at h
  split at h
  · cases h; rfl
  · cases h
/-- a list that may change -/
def gNewM (ga : ADen) : Den := fun ρ Ω => (ga ρ Ω).bind fun p => if p.1.length ≤ big then some (.obj p.2.length, p.2 ++ [.mls p.1]) else none
def gMIx (f g : Den) : Den := fun ρ Ω => (f ρ Ω).bind fun p => (objN p.1).bind fun n => (g ρ p.2).bind fun r => (intN r.1).bind fun i => (r.2[n]?).bind fun o => (mlsO o).bind fun xs => (atI xs i).bind fun d => some (d, r.2)
def sSetM (f g h : Den) : SDen := fun ρ Ω => (h ρ Ω).bind fun v => (f ρ v.2).bind fun p => (objN p.1).bind fun n => (g ρ p.2).bind fun r => (intN r.1).bind fun i => (r.2[n]?).bind fun o => (mlsO o).bind fun xs =>
  (ixN xs.length i).bind fun j => some (.nx ρ (r.2.set n (.mls (xs.set j v.1))))
theorem Wf.mls {K : PySem.W.Frag} {C : Cl} {e : E4} {Ω : List OS} (w : Wf K C e Ω) {n : Nat} {a : Addr} {xs : List D} (hα : e.α[n]? = some a) (h : Ω[n]? = some (.mls xs)) : ∃ vs, e.H a = some (.lst vs) ∧ IsL K e.α e.F xs vs := (w.ob n a _ hα h).2
theorem IsL.setAt {K : PySem.W.Frag} {α : List Addr} {F : Hp} : ∀ {ds : List D} {vs : List V} (j : Nat) {d : D} {v : V}, IsL K α F ds vs → Is K α F d v → IsL K α F (ds.set j d) (vs.set j v)
  | [], vs, j, d, v, h, i => by rw [h.of_nil]; exact .nil
  | x :: ds, vs, 0, d, v, h, i => by
    obtain ⟨u, r, rfl, _, t⟩ := h.of_cons
    exact .cons i t
  | x :: ds, vs, j + 1, d, v, h, i => by
    obtain ⟨u, r, rfl, i1, t⟩ := h.of_cons
    exact .cons i1 (IsL.setAt j t i)
section
variable {X : Cx} {C : Cl} {a b x : Expr} {es : List Expr} {f g h : Den} {ga : ADen} {pos pos' : Pos}
theorem pd_newM (ha : PDA X C es ga) : PD X C (.List es pos) (gNewM ga) := pe_imp (pe_lst ha) fun σ H Q hw' => by
  obtain ⟨e, Ω, ρ, d, Ω', eH, w, rl, q, kk⟩ := hw'
  obtain ⟨⟨ds, Ω1⟩, q1, q⟩ := Option.bind_eq_some_iff.mp q
  dsimp only at q
  split at q
  · rename_i hl
    cases q
    refine ⟨e, Ω, ρ, ds, _, eH, w, rl, q1, fun vs e' x' w' i' => ⟨by rw [← i'.length]; exact big_line hl, fun p hp => ?_⟩⟩
    obtain ⟨w2, x2⟩ := w'.obj (H' := upd e'.H p (.lst vs)) (o := .mls ds) hp (fun b u hb => by rw [upd_ne (ne_of_none hb hp)]; exact hb) (by rw [upd_same]; exact ⟨by simp, fun xs z => nomatch z⟩) ⟨vs, upd_same, IsL.mono (Same.refl _) ⟨[p], rfl⟩ _ i'⟩
    refine kk _ (e'.obj p _) (x'.trans x2) w2 ?_
    rw [Is]
    exact ⟨p, by show (e'.α ++ [p])[Ω1.length]? = some p; rw [← w'.ol]; simp, rfl⟩
  · cases q
theorem pd_mix (ha : PD X C a f) (hb : PD X C b g) (hs : PlainIx b := by intro _ _; rfl) : PD X C (.Subscript a b pos) (gMIx f g) := pe_imp (pe_ix ix_list ha hb hs) fun σ H Q hw' => by
  obtain ⟨e, Ω, ρ, d, Ω', eH, w, rl, q, kk⟩ := hw'
  obtain ⟨⟨d1, Ω1⟩, q1, q⟩ := Option.bind_eq_some_iff.mp q
  obtain ⟨n, q2, q⟩ := Option.bind_eq_some_iff.mp q
  obtain ⟨⟨d3, Ω3⟩, q3, q⟩ := Option.bind_eq_some_iff.mp q
  obtain ⟨i, q4, q⟩ := Option.bind_eq_some_iff.mp q
  obtain ⟨o, q5, q⟩ := Option.bind_eq_some_iff.mp q
  obtain ⟨xs, q6, q⟩ := Option.bind_eq_some_iff.mp q
  obtain ⟨z, q7, q⟩ := Option.bind_eq_some_iff.mp q
  cases q
  have e2 := obj_of q2
  have e4 := int_of q4
  have e6 := mls_of q6
  dsimp only at e2 e4 q5
  subst e2 e4 e6
  refine ⟨e, Ω, ρ, _, Ω1, eH, w, rl, q1, fun v e1 x1 w1 i1 => ?_⟩
  refine ⟨e1, Ω1, ρ, _, Ω3, rfl, w1, rl.ext x1, q3, fun u e2 x2 w2 i2 => ?_⟩
  have i1' := i1.ext x2
  rw [Is] at i1'
  rw [Is] at i2
  obtain ⟨p, hα, rfl⟩ := i1'
  subst i2
  obtain ⟨vs, hH, il⟩ := w2.mls hα q5
  obtain ⟨u, hu, iu⟩ := atI_is il q7
  exact ⟨p, vs, i, u, rfl, rfl, SqL.of hH, hu, kk u e2 (x1.trans x2) w2 iu⟩
theorem pds_setM (ha : PD X C a f) (hb : PD X C b g) (hx : PD X C x h) (hst : ∀ v, assign (.Subscript a b pos') X.env v = (do
      let ov ← holding [v] (eval a X.env)
      let iv ← holding [v, ov] (eval b X.env)
      standAt pos'
      holding [v, ov, iv] (setItem ov iv v)
      release [v, ov, iv] []) := by intro _; rfl) (hs : swapsWithSole [.Subscript a b pos'] x pos.line X.env = pure false := by rfl) (hw : swappedStores [.Subscript a b pos'] x X.env = pure none := by rfl)
    (h1 : (assignEach [.Subscript a b pos'] X.env).map (·.2) = [assign (.Subscript a b pos') X.env] := by rfl) : PDS X C (.Assign [.Subscript a b pos'] x pos) (sSetM f g h) := fun e₀ =>
  ps_imp (ps_asg hx (pg_sub ha hb set_list hst) hs hw h1) fun Dn σ H hw' => by
    obtain ⟨e, Ω, ρ, o, eH, r, q, k⟩ := hw'
    obtain ⟨⟨d0, Ω0⟩, q0, q⟩ := Option.bind_eq_some_iff.mp q
    obtain ⟨⟨d1, Ω1⟩, q1, q⟩ := Option.bind_eq_some_iff.mp q
    obtain ⟨n, q2, q⟩ := Option.bind_eq_some_iff.mp q
    obtain ⟨⟨d3, Ω3⟩, q3, q⟩ := Option.bind_eq_some_iff.mp q
    obtain ⟨i, q4, q⟩ := Option.bind_eq_some_iff.mp q
    obtain ⟨o5, q5, q⟩ := Option.bind_eq_some_iff.mp q
    obtain ⟨xs, q6, q⟩ := Option.bind_eq_some_iff.mp q
    obtain ⟨j, q7, q⟩ := Option.bind_eq_some_iff.mp q
    cases q
    have e2 := obj_of q2
    have e4 := int_of q4
    have e6 := mls_of q6
    dsimp only at e2 e4 q1 q3 q5
    subst e2 e4 e6
    refine ⟨e, Ω, ρ, d0, Ω0, eH, r.wf, r.rel, q0, fun v0 e0 x0 w0 i0 => ?_⟩
    refine ⟨e0, Ω0, ρ, _, Ω1, rfl, w0, r.rel.ext x0, q1, fun v1 e1 x1 w1 i1 => ?_⟩
    refine ⟨e1, Ω1, ρ, _, Ω3, rfl, w1, (r.rel.ext x0).ext x1, q3, fun v3 e3 x3 w3 i3 => ?_⟩
    have i1' := i1.ext x3
    rw [Is] at i1'
    rw [Is] at i3
    obtain ⟨p, hα, rfl⟩ := i1'
    subst i3
    obtain ⟨vs, hH, il⟩ := w3.mls hα q5
    refine ⟨p, vs, i, j, rfl, rfl, hH, by rw [← il.length]; exact q7, ?_⟩
    obtain ⟨w4, x4⟩ := w3.at (ho := .lst (vs.set j v0)) (o' := .mls (xs.set j d0)) hα (fun _ z => nomatch z) ⟨_, upd_same, il.setAt j (i0.ext (x1.trans x3))⟩ (fun o u z => by rw [hH] at z; cases z)
    exact k (e3.at p _) σ (r.to (((x0.trans x1).trans x3).trans x4) w4)

end
end DL
set_option Elab.async false
set_option linter.all false
set_option maxRecDepth 100000
/-! METHODS THAT GIVE NEW LISTS; a new list that is changed and let go -/
namespace DL
open PySem PySem.Spec PyProof.Rows L2
section
variable {K : PySem.W.Frag} {C : Cl} {e e' : E4} {Ω : List OS} {a : Addr} {o : HO}
/-- without what lies at a -/
def E4.bare (e : E4) (a : Addr) : E4 := ⟨e.α, e.F, e.A, fun b => if b = a then none else e.H b⟩
theorem Wf.bare (w : Wf K C e Ω) (hF : e.F a = none) (hA : ¬ e.A a) : Wf K C (e.bare a) Ω := by
  have hb : ∀ b, b ≠ a → (e.bare a).H b = e.H b := fun b z => by show (if b = a then none else e.H b) = e.H b; rw [if_neg z]
  refine ⟨fun b u h => ?_, w.fa, fun b h => ?_, w.ol, w.nd, fun n b u h1 h2 => ⟨(w.ob n b u h1 h2).1, (w.ob n b u h1 h2).2.keep (fun v hv => ?_) (Same.refl _) ⟨[], by simp [E4.bare]⟩⟩⟩
  · rw [hb b (fun z => by subst z; rw [show e.F b = some u from h] at hF; cases hF)]; exact w.fh b u h
  · rw [hb b (fun z => hA (by rw [← z]; exact h))]; exact w.ah b h
  · rw [hb b (fun z => hA (by rw [← z]; exact (w.ob n b u h1 h2).1))]; exact hv
theorem Ext.bare (x : Ext e e') (ha : e.H a = none) : Ext e (e'.bare a) := by
  have hb : ∀ b, b ≠ a → (e'.bare a).H b = e'.H b := fun b z => by show (if b = a then none else e'.H b) = e'.H b; rw [if_neg z]
  refine ⟨fun b o' u h => ?_, fun b u h hn => ?_, fun b u h => ?_, x.ff, x.fn, x.an, x.aa, x.al⟩
  · rw [hb b (ne_of_none h ha)]; exact x.fz b o' u h
  · rw [hb b (ne_of_none h ha)]; exact x.hk b u h hn
  · obtain ⟨u', z⟩ := x.dm b u h
    exact ⟨u', by rw [hb b (ne_of_none h ha)]; exact z⟩
end
section
variable {X : Cx} {C : Cl} {tg iter elt : Expr} {ifs : List Expr} {scope : Scope} {pos : Pos} {N : List Str} {μ : List (Option Nat)} {γ : ADen} {β : BDen} {p : TDen} {g : Den}
end
/-- what a def that gives a new list promises -/
def spL (K : PySem.W.Frag) (C : Cl) (F : FDen) : Sp := fun vs H Q _ => ∃ e Ω ds xs Ω', e.H = H ∧ Wf K C e Ω ∧ IsL K e.α e.F ds vs ∧ F ds Ω = some (.lst xs, Ω') ∧
  ∀ a us e', Ext e e' → Wf K C e' Ω' → IsL K e'.α e'.F xs us → e'.H a = none → Q (.ref a) (upd e'.H a (.lst us))
def Lst (F : FDen) : Prop := ∀ ds Ω d Ω', F ds Ω = some (d, Ω') → ∃ xs, d = .lst xs
section
variable {P : Program} {w : World} {K : PySem.W.Frag} {mg : Str → Option Value} {base : Heap} {C : Cl}
theorem spL.sp {F : FDen} (hF : Lst F) {vs : List V} {H : Hp} {Q : VK} {E : XK} (h : spD K C F vs H Q E) : spL K C F vs H Q E := by
  obtain ⟨e, Ω, ds, d, Ω', eH, w, i, q, kk⟩ := h
  obtain ⟨xs, rfl⟩ := hF _ _ _ _ q
  refine ⟨e, Ω, ds, xs, Ω', eH, w, i, q, fun a us e' x' w' iu ha => kk (.ref a) (e'.new a _) (x'.trans (w'.new_ext ha)) (w'.new ha) ?_⟩
  rw [Is]
  exact ⟨a, us, rfl, upd_same, iu.ext (w'.new_ext ha)⟩
end
structure MtL (P : Program) (w : World) (K : PySem.W.Frag) (mg : Str → Option Value) (base : Heap) (C : Cl) (k : Nat) (c m : Str) (F : FDen) (dfl : List D) : Prop where
  ex : ∃ Ca f fd ps ds dvs, C c = some Ca ∧ Cls K Ca ∧ Meth K Ca m f ∧ Binds K fd ps ds ∧ Vals dvs ds ∧ (∀ α H, IsL K α H dfl dvs) ∧ FnOk P w K mg base CX0 k f fd ps (spL K C F)
section
variable {X : Cx} {C : Cl} {a x b : Expr} {f g : Den} {ga gl : ADen} {ap cp pos : Pos}
end
end DL
set_option Elab.async false
set_option linter.all false
set_option maxRecDepth 100000
/-! SORTED, of tuples of ints: of a list, of a dict -/
namespace KS
open PySem PySem.W PySem.Calls PyProof.Rows
section
variable {prog : Program} {w : World} {A : Around} {E : Value → Shared → Prop} {s : Shared} {a : Addr} {vs : List Value}
end
end KS
namespace L2
open PySem PySem.Spec PyProof.Rows KS PySem.W
section
variable {X : Cx} {pins : List (Addr × Obj)} {σ : St} {H : Hp} {s : Shared}
end
end L2
set_option Elab.async false
set_option linter.all false
set_option maxRecDepth 100000
/-! sorted(list), sorted(dict) of tuples of ints; list.count, list.index of plain data -/
namespace L2
open PySem PySem.Spec PyProof.Rows KS PySem.W
section
variable {X : Cx}
end
end L2
namespace DL
open PySem PySem.Spec PyProof.Rows L2
section
variable {X : Cx} {C : Cl} {n : Str} {p pos : Pos} {a b : Expr} {f g : Den} {k : Nat}
end
end DL
set_option Elab.async false
set_option linter.all false
set_option maxRecDepth 100000
/-! list.count, list.index of plain data; lists as objects: made of new ones, asked, compared -/
namespace DL
open PySem PySem.Spec PyProof.Rows L2
section
variable {X : Cx} {C : Cl} {a b x : Expr} {f g : Den} {ga : ADen} {n : Str} {p pos : Pos} {k : Nat}
end
end DL
set_option Elab.async false
set_option linter.all false
set_option maxRecDepth 100000
/-! A COMPREHENSION OVER A LIST THAT IS AN OBJECT (it must not change meanwhile) -/
namespace DL
open PySem PySem.Spec PyProof.Rows L2
noncomputable def compM (n : Nat) (xs : List D) (β : BDen) (p : TDen) (g : Den) : List D → List Sl → List OS → Option (List D × List OS)
  | [], _, Ω => grd (Ω[n]? = some (.mls xs)) (some ([], Ω))
  | d :: ds, ρ, Ω => grd (Ω[n]? = some (.mls xs)) (match β d ρ with
    | some ρ1 => match p ρ1 Ω with
      | some (true, Ω1) => match g ρ1 Ω1 with
        | some (y, Ω2) => match compM n xs β p g ds ρ1 Ω2 with
          | some (ys, Ω3) => some (y :: ys, Ω3)
          | none => none
        | none => none
      | some (false, Ω1) => compM n xs β p g ds ρ1 Ω1
      | none => none
    | none => none)
section
variable {K : PySem.W.Frag} {C : Cl} {β : BDen} {p : TDen} {g : Den} {μ : List (Option Nat)}
structure CIM (nn : Nat) (K : PySem.W.Frag) (C : Cl) (β : BDen) (p : TDen) (g : Den) (ds : List D) (a : Addr) (ysAll : List D) (Ωf : List OS) (e' : E4) (i : Nat) (σ' : St) (e2 : E4) (Ω2 : List OS) (ρ2 : List Sl) (vs : List V) (ys0 ys1 : List D) : Prop where
  w : Wf K C e2 Ω2
  r : RelE K e2 σ' ρ2
  no : ∀ (j : Nat) (es : List D), ρ2[j]? ≠ some (.own es)
  ha : e2.H a = some (.lst vs)
  hF : e2.F a = none
  hA : ¬ e2.A a
  iy : IsL K e2.α e2.F ys0 vs
  x : Ext e' e2
  q : compM nn ds β p g (ds.drop i) ρ2 Ω2 = some (ys1, Ωf)
  ey : ys0 ++ ys1 = ysAll
  hy : ys0.length ≤ i
end
section
variable {X : Cx} {C : Cl} {tg iter elt : Expr} {ifs : List Expr} {scope : Scope} {pos : Pos} {N : List Str} {μ : List (Option Nat)} {f : Den} {β : BDen} {p : TDen} {g : Den}
end
end DL
set_option Elab.async false
set_option linter.all false
set_option maxRecDepth 100000
/-! d.pop(t, x), t a tuple; f'{a}z{b}y' of ints; [e], e raises -/
namespace DR
open PySem PySem.Spec PyProof.Rows
section
variable {κ : Type} [DecidableEq κ] {prog : Program} {w : World} {knd : HeapKind prog w κ} {A : Around} {E : Value → Shared → Prop} {s : Shared}
end
end DR
namespace L2
open PySem PySem.Spec PyProof.Rows
section
variable {X : Cx} {pins : List (Addr × Obj)} {σ : St} {H : Hp} {s : Shared} {a b : Addr} {A : Around} {E : Value → Shared → Prop}
end
section
variable {X : Cx} {o e f a b : Expr} {apos cpos pos p1 p2 p3 p4 : Pos} {td ty tx ta tb : TE} {z y : Str} {kk kl : Nat}
end
end L2
namespace DL
open PySem PySem.Spec PyProof.Rows L2
section
variable {X : Cx} {C : Cl} {XW : XWt} {a b x : Expr} {f g h : Den} {r : RDen} {ap cp pos p1 p2 p3 p4 : Pos}
end
end DL
set_option Elab.async false
set_option linter.all false
set_option maxRecDepth 100000
/-! d.setdefault(t, x), t a tuple; l.pop(i); list(l); data == list; n += e -/
namespace DR
open PySem PySem.Spec PyProof.Rows
section
variable {κ : Type} [DecidableEq κ] {prog : Program} {w : World} {knd : HeapKind prog w κ} {A : Around} {E : Value → Shared → Prop} {s : Shared}
end
end DR
namespace L2
open PySem PySem.Spec PyProof.Rows
section
variable {X : Cx} {pins : List (Addr × Obj)} {σ : St} {H : Hp} {s : Shared} {a b : Addr} {A : Around} {E : Value → Shared → Prop}
end
section
variable {X : Cx} {o e f a b : Expr} {apos cpos pos : Pos} {td ty tx : TE}
end
end L2
namespace DL
open PySem PySem.Spec PyProof.Rows L2
section
variable {X : Cx} {C : Cl} {a b x : Expr} {f g h : Den} {ap cp pos : Pos}
end
end DL
set_option Elab.async false
set_option linter.all false
set_option maxRecDepth 100000
/-! enumerate(list), with a tuple of names -/
namespace L2
open PySem PySem.Spec PyProof.Rows
end L2
namespace DL
open PySem PySem.Spec PyProof.Rows L2
section
variable {X : Cx} {C : Cl} {ga : ADen} {pos p pt : Pos} {es : List Expr} {kk : Nat} {a b : Expr}
end
end DL
set_option Elab.async false
set_option linter.all false
set_option maxRecDepth 100000
/-! l.pop(0), list(l), l an object; data == l; n += e -/
namespace DL
open PySem PySem.Spec PyProof.Rows L2
section
variable {X : Cx} {C : Cl} {a b x : Expr} {f g : Den} {n : Str} {p pos ap cp : Pos} {k : Nat}
end
end DL
set_option Elab.async false
set_option linter.all false
set_option maxRecDepth 100000
/-! f'z{a}y{b}' of ints -/
namespace L2
open PySem PySem.Spec PyProof.Rows
section
variable {X : Cx} {a b : Expr} {pos p1 p2 p3 p4 : Pos} {ta tb : TE} {z y : Str} {kk kl : Nat}
end
end L2
namespace DL
open PySem PySem.Spec PyProof.Rows L2
section
variable {X : Cx} {C : Cl} {a b : Expr} {f g : Den} {pos p1 p2 p3 p4 : Pos}
end
end DL
set_option Elab.async false
set_option linter.all false
set_option maxRecDepth 100000
/-! DICTS OF INTS: d.setdefault(k, x); {k: x}; d != {}; isinstance(d, dict) -/
namespace L2
open PySem PySem.Spec PyProof.Rows
section
variable {X : Cx} {pins : List (Addr × Obj)} {σ : St} {H : Hp} {s : Shared} {a : Addr} {A : Around} {E : Value → Shared → Prop}
end
section
variable {X : Cx} {o e f : Expr} {apos cpos : Pos} {td ty tx : TE}
end
end L2
namespace DL
open PySem PySem.Spec PyProof.Rows L2
section
variable {X : Cx} {C : Cl} {a b x y : Expr} {f g h : Den} {ap cp pos p : Pos} {n : Str}
end
end DL
set_option Elab.async false
set_option linter.all false
set_option maxRecDepth 100000
/-! A COMPREHENSION OVER A DICT'S KEYS (it is held still meanwhile) -/
namespace L2
open PySem PySem.Spec PyProof.Rows
end L2
namespace DL
open PySem PySem.Spec PyProof.Rows L2
section
variable {K : PySem.W.Frag} {C : Cl} {β : BDen} {p : TDen} {g : Den} {μ : List (Option Nat)}
structure CIK (K : PySem.W.Frag) (C : Cl) (β : BDen) (p : TDen) (g : Den) (ds : List D) (a : Addr) (ysAll : List D) (Ωf : List OS) (e' : E4) (i : Nat) (σ' : St) (e2 : E4) (Ω2 : List OS) (ρ2 : List Sl) (vs : List V) (ys0 ys1 : List D) : Prop where
  w : Wf K C e2 Ω2
  r : RelE K e2 σ' ρ2
  no : ∀ (j : Nat) (es : List D), ρ2[j]? ≠ some (.own es)
  ha : e2.H a = some (.lst vs)
  hF : e2.F a = none
  hA : ¬ e2.A a
  iy : IsL K e2.α e2.F ys0 vs
  x : Ext e' e2
  q : compD β p g (ds.drop i) ρ2 Ω2 = some (ys1, Ωf)
  ey : ys0 ++ ys1 = ysAll
  hy : ys0.length ≤ i
end
section
variable {X : Cx} {C : Cl} {tg iter elt : Expr} {ifs : List Expr} {scope : Scope} {pos : Pos} {N : List Str} {μ : List (Option Nat)} {f : Den} {β : BDen} {p : TDen} {g : Den}
end
end DL
set_option Elab.async false
set_option linter.all false
set_option maxRecDepth 100000
/-! sorted(list of ints), sorted(d.items()) -/
namespace L2
open PySem PySem.Spec PyProof.Rows KS PySem.W
section
variable {X : Cx} {pins : List (Addr × Obj)} {σ : St} {s : Shared} {o : Expr} {td : TE} {apos cpos : Pos}
/-- pairs are laid -/
inductive NewT : Hp → List Addr → List (Key × V) → Hp → Prop
  | nil {H : Hp} : NewT H [] [] H
  | cons {H H' : Hp} {a : Addr} {kv : Key × V} {as : List Addr} {kvs : List (Key × V)} : H a = none → NewT (upd H a (.tup [kV kv.1, kv.2])) as kvs H' → NewT H (a :: as) (kv :: kvs) H'
theorem NewT.keep {H H' : Hp} {as : List Addr} {kvs : List (Key × V)} (h : NewT H as kvs H') : ∀ b u, H b = some u → H' b = some u := by
  induction h with
  | nil => exact fun b u e => e
  | cons hn _ ih => exact fun b u e => ih b u (by rw [upd_ne (ne_of_none e hn)]; exact e)
end
end L2
set_option Elab.async false
set_option linter.all false
set_option maxRecDepth 100000
namespace DL
open PySem PySem.Spec PyProof.Rows L2
section
variable {K : PySem.W.Frag} {C : Cl} {e : E4} {Ω : List OS}
end
section
variable {X : Cx} {C : Cl} {n : Str} {p pos ap cp : Pos} {a b : Expr} {f g : Den} {k : Nat}
end
end DL
set_option Elab.async false
set_option linter.all false
set_option maxRecDepth 100000
/-! CLOSURES: a def that makes a def over one name of its own, and a call of what it made. -/
namespace L2
open PySem PySem.Spec PyProof.Rows

/-- the context of a closure's body at its entry -/
def cxX (P : Program) (w : World) (K : PySem.W.Frag) (mg : Str → Option Value) (base : Heap) (N : List Str) (qual : Str) (scope : Scope) (f : Addr) (cd : Value) (cl : List (Str × Addr)) (A : Around) (outer : List Env) (s : Shared) (H : Hp) : Cx where
  prog := P
  w := w
  K := K
  mg := mg
  base := base
  A := A.deeper (PySem.W.envX qual scope s.heap.objs.size f cd cl)
  N := N
  s₀ := s
  H₀ := H
  env := PySem.W.envX qual scope s.heap.objs.size f cd cl
  outer := outer
  stack := PySem.W.envX qual scope s.heap.objs.size f cd cl :: outer
  ex := []
  calm := true
  fn := fun _ => false
  pn := []
  xe := fun _ _ => False
/-- one parameter p, one captured name x -/
structure CloScope (p x : Str) (sc : Scope) : Prop where
  kind : sc.kind = .function
  co : sc.isCoroutine = false
  gen : sc.isGenerator = false
  ne : p ≠ x
  par : sc.names.lookup p = some .local
  cap : sc.names.lookup x = some .free
  nocell : ∀ y ∈ sc.names, y.2 ≠ .cell
  only : ∀ y, sc.names.lookup y = some .free → y = x
theorem lookup_mem {sc : Scope} {y : Str} {k : NameKind} (h : sc.names.lookup y = some k) : (y, k) ∈ sc.names := PySem.mem_of_lookup h
theorem inv_clo {P : Program} {w : World} {K : PySem.W.Frag} {mg : Str → Option Value} {base : Heap} {p x qual : Str} {scope : Scope} {f c am : Addr} {cd : Value} {A : Around} {outer : List Env} {s : Shared} {H : Hp} {v : V} {u : Value} {cob : Obj} {h1 : Heap} {tk : Nat}
    (S : CloScope p x scope) (hd : A.handled = none) (e0 : Env0 P w K mg base A outer s H) (rv : RelV v u) (hc : H c = some (.frz cob (.own f))) (hcd : cob.data = .cell (some (.ref am)))
    (hns : h1.Ns s.heap.objs.size (fun y => [(p, u)].reverse.lookup y)) (hk : ∀ b o, s.heap.get? b = some o → h1.get? b = some o) :
    Inv (cxX P w K mg base [p, x] qual scope f cd [(x, c)] A outer s H) [] [some v, some (.ref am)] H { s with heap := h1, toks := tk } := by
  have noA : ∀ b : Addr, b ∉ (cxX P w K mg base [p, x] qual scope f cd [(x, c)] A outer s H).ex := fun b z => absurd (show b ∈ ([] : List Addr) from z) (by simp)
  have lk : ∀ y c', ([(x, c)] : List (Str × Addr)).lookup y = some c' → y = x ∧ c' = c := fun y c' h => by
    rw [List.lookup_cons] at h
    cases q : (y == x) with
    | true => rw [q] at h; cases h; exact ⟨eq_of_beq q, rfl⟩
    | false => rw [q] at h; cases h
  have lx : ([(x, c)] : List (Str × Addr)).lookup x = some c := by simp [List.lookup_cons]
  obtain ⟨gc, _⟩ := e0.hok c _ hc
  have cellc : h1.IsCell c (some (.ref am)) := ⟨cob, hk _ _ gc, hcd⟩
  refine ⟨⟨e0.mod, S.kind, rfl, rfl, Nat.le_refl _, fun y z c' a1 a2 => ?_, fun y hy => ?_, fun y c' z => (by cases z), fun _ => hd, Around.frames_deeper e0.frames, .inr ⟨rfl, rfl⟩, fun b z => absurd z (noA b), e0.bs, e0.bsz, fun b _ _ => noA b, fun b z => absurd z (noA b), e0.funs, e0.frf⟩,
    rfl, e0.bare, Un.kept hk, ⟨_, hns, fun i y v' a1 a2 a3 => ?_⟩, fun y c' a => ?_, e0.hok.fresh (Nat.le_refl _), fun y c' a => ?_, fun q hp => absurd (show q ∈ ([] : List (Addr × Obj)) from hp) (by simp), e0.hok.kept hk, rfl⟩
  · exact (lk y c' a1).1.trans (lk z c' a2).1.symm
  · have hy : scope.names.lookup y = some .cell ∨ scope.names.lookup y = some .free := hy
    rcases hy with hy | hy
    · exact absurd rfl (S.nocell _ (lookup_mem hy))
    · rw [S.only y hy]; exact ⟨c, lx⟩
  · match i, a1, a2 with
    | 0, a1, a2 =>
      cases a1
      cases a2
      exact ⟨u, rv, .inl ⟨S.par, by simp [List.lookup_cons]⟩⟩
    | 1, a1, a2 =>
      cases a1
      cases a2
      exact ⟨.ref am, rfl, .inr ⟨.inr S.cap, c, lx, cellc⟩⟩
    | n + 2, a1, a2 => simp [cxX] at a1
  · rw [(lk y c' a).2]; exact ⟨_, cellc⟩
  · rw [(lk y c' a).2]; exact .inr ⟨rfl, cob, f, hc⟩
/-- the closure at f runs -/
theorem run_clo {X : Cx} {pins : List (Addr × Obj)} {σ : St} {H : Hp} {s : Shared} {Q : VK} {k : Nat} {p x q nm : Str} {params : Arguments} {body : List Stmt} {scope : Scope} {f c am c' : Addr} {doc pm ctv u : Value} {v : V} {cob ob : Obj}
    (S : CloScope p x scope) (hr : Room (k + 1) X.A) (I : Inv X pins σ H s)
    (hf : H f = some (.frz { cls := .type "function", data := .func (PySem.W.fnX nm q params body scope [(x, c)] .none .none doc pm none (.ref c') ctv) } (.own 0)))
    (hc : H c = some (.frz cob (.own f))) (hcd : cob.data = .cell (some (.ref am))) (hc' : H c' = some (.frz ob (.own 0))) (hob : ∃ vs t, ob.data = .fields vs ∧ vs[1]? = some (.str q t))
    (hb : bindArgs (PySem.W.fnX nm q params body scope [(x, c)] .none .none doc pm none (.ref c') ctv) ⟨[u], []⟩ = pure [(p, u)]) (rv : RelV v u)
    (hbody : ∃ t, PSs (cxX X.prog X.w X.K X.mg X.base [p, x] q scope f (.ref c') [(x, c)] X.A X.stack s H) body t ∧ t { nx := fun _ H' => Q .non H', rt := Q } [some v, some (.ref am)] H) :
    wpAny (model X.prog X.w) X.A (call (.ref f) [u]) (EP X pins σ Q) X.xe s := by
  obtain ⟨gf, _⟩ := I.hok f _ hf
  obtain ⟨gc', _⟩ := I.hok c' _ hc'
  obtain ⟨vs, tt, d1, d2⟩ := hob
  obtain ⟨t, ht, hq⟩ := hbody
  have e0 := I.env0
  refine wpAny_call (codeAny_mono (R := CR CX0 X.stack X.prog X.w H s Q E0) (codeAny_call_def (o := _) (binds := [(p, u)]) (body := body) (by have := hr.dp; omega) gf rfl I.nolimit ⟨c', ob, vs, tt, rfl, gc', d1, d2⟩ rfl (.of_eq hb) S.nocell (fun y hy => ?_) (fun h1 hns hk => ?_) S.co S.gen S.kind) fun r s' hq => ?_)
  · have e : y = (p, u) := by simpa using hy
    rw [e]; exact S.par
  · have I0 := inv_clo (tk := s.toks + [(p, u)].length) (qual := q) (cd := .ref c') S hr.hd e0 rv hc hcd hns hk
    refine wpAny_mono (ht [] _ _ H _ I0 hq) (fun fl s' hs => ?_) fun e s' hs => False.elim hs
    have fin : ∀ {σ' : St} {H' : Hp} {v : V} {u : Value}, Inv (cxX X.prog X.w X.K X.mg X.base [p, x] q scope f (.ref c') [(x, c)] X.A X.stack s H) [] σ' H' s' → RelV v u → Q v H' → CE X.stack X.prog X.w H s Q u s' :=
      fun {σ' H' v u} J rv q => ⟨v, H', J.os, J.bare, J.base, J.hok, rv, q⟩
    cases fl with
    | ret u =>
      obtain ⟨v, σ', H', J, rv, q⟩ := hs
      exact fin J rv q
    | next =>
      obtain ⟨σ', H', J, q⟩ := hs
      exact fin (v := V.non) (u := Value.none) J rfl q
    | brk =>
      obtain ⟨_, _, _, q⟩ := hs
      exact False.elim q
    | cont =>
      obtain ⟨_, _, _, q⟩ := hs
      exact False.elim q
  · cases r with
    | error e => exact False.elim hq
    | ok fl =>
      cases fl with
      | ret u => exact I.after hq
      | next => exact False.elim hq
      | brk => exact False.elim hq
      | cont => exact False.elim hq
/-- a def by its body, with the end as it lies -/
theorem fn_raw {P : Program} {w : World} {K : PySem.W.Frag} {mg : Str → Option Value} {base : Heap} {k : Nat} {f : Addr} {name qual : Str} {params : Arguments} {body : List Stmt} {scope : Scope} {dV kV doc pm cdv ct oc : Value} {an od : Option Addr}
    {osl : Array (Option Value)} {N ps : List Str} {sp : Sp} (lk : K.lookup f = some ⟨oc, od, .func (PySem.W.fnOf name qual params body scope dV kV doc pm an cdv ct), osl⟩) (hcd : PySem.W.codeIn K cdv qual = true) (S : FnScope N ps scope)
    (len : ∀ vs H Q E, sp vs H Q E → vs.length = ps.length)
    (hbody : ∀ (A : Around) (outer : List Env) (s s1 : Shared) (H : Hp) (vs : List V) (Q : VK) (E : XK), Room k (A.deeper (envOfC qual scope s.heap.objs.size f cdv)) → sp vs H Q E →
      Inv (cxOf CX0 P w K mg base N qual scope f cdv A outer s H E).nox [] (start N vs) H s1 →
      wpAny (model P w) (A.deeper (envOfC qual scope s.heap.objs.size f cdv)) (execs body (envOfC qual scope s.heap.objs.size f cdv)) (fun fl s' => ∃ u, fl = .ret u ∧ CE outer P w H s Q u s') (fun _ _ => False) s1) :
    FnOk P w K mg base CX0 (k + 1) f (PySem.W.fnOf name qual params body scope dV kV doc pm an cdv ct) ps sp := by
  refine ⟨len, fun A outer s H args us vs Q E hr e0 hb r hsp => ?_⟩
  have hl := len _ _ _ _ hsp
  have KX : K.In s.heap := e0.mod.kin.keeps fun b o e => (e0.bs b o e).1
  have lim : s.heap.NoLimit := e0.mod.nolimit.keeps fun b o e => (e0.bs b o e).1
  have hkind : ∀ y ∈ ps.zip us, scope.names.lookup y.1 = some .local ∨ (scope.names.lookup y.1 = some .cell ∧ ((cellsFrom (s.heap.objs.size + 1) scope.names []).lookup y.1).isSome = true) := fun hw' hy => by
    obtain ⟨n, v⟩ := hw'
    rcases S.par n (List.of_mem_zip hy).1 with q | q
    · exact .inl q
    · exact .inr ⟨q, PySem.W.cellsFrom_some _ _ _ (.inl q)⟩
  refine codeAny_call_function hr.depth (KX _ _ lk) rfl S.co S.gen rfl (PySem.W.codeRec_of KX hcd) (hb _ _ _ _ ?_)
  refine wpAny_newFunctionEnv_cells S.kind hkind fun env he s1 x => ?_
  subst he
  refine ⟨lim.keeps x.toInCall.keep, codeAny_func ?_⟩
  have I : Inv (cxOf CX0 P w K mg base N qual scope f cdv A outer s H E) [] (start N vs) H s1 := inv_start S hr.hd e0 hl r x
  refine wpAny_mono (hbody A outer s s1 H vs Q E (hr.deeper _) hsp (I.wish _)) (fun fl s' hs => ?_) fun e s' hs => False.elim hs
  obtain ⟨u, rfl, ce⟩ := hs
  exact ce
end L2
set_option Elab.async false
set_option linter.all false
set_option maxRecDepth 100000
namespace DL
open PySem PySem.Spec PyProof.Rows L2

/-- the code's table of the module's def l, laid aside -/
structure NestAt (K : PySem.W.Frag) (mg : Str → Option Value) (base : Heap) (l : Str) : Prop where
  ex : ∃ cd P, PySem.W.tabIn K l = some (cd, P) ∧ PySem.W.CodeHd base cd P ∧ base.BuiltinsAt mg P
theorem set_same {Ω : List OS} {n : Nat} {o : OS} (h : Ω[n]? = some o) : Ω.set n o = Ω := by
  obtain ⟨hl, e⟩ := List.getElem?_eq_some_iff.mp h
  rw [← e]; exact List.set_getElem_self hl
abbrev fnObj (nm q : Str) (params : Arguments) (body : List Stmt) (scope : Scope) (clos : List (Str × Addr)) (doc pm : Value) (c' : Addr) (ctv : Value) : Obj :=
  { cls := .type "function", data := .func (PySem.W.fnX nm q params body scope clos .none .none doc pm none (.ref c') ctv) }
/-- the made function -/
theorem made {X : Cx} {C : Cl} {e : E4} {Ω : List OS} {pins : List (Addr × Obj)} {σ : St} {s : Shared} {l nm q : Str} {n fl : Nat} {params : Arguments} {body : List Stmt} {scope : Scope} {clos : List (Str × Addr)} {pos : Pos} {Qv : Value → Shared → Prop} {E : Value → Shared → Prop} {M : Model} {A : Around}
    (I : Inv X pins σ e.H s) (w : Wf X.K C e Ω) (NA : NestAt X.K X.mg X.base l) (hΩ : Ω[n]? = some (.tab l pos q)) (hcode : ∀ cd P, PySem.W.tabIn X.K l = some (cd, P) → X.env.code = .ref cd) (hcl : closureFor scope X.env = pure clos)
    (h : ∀ f' s' e' c' ob doc pm ctv, Inv X pins σ (upd e'.H f' (.frz (fnObj nm q params body scope clos doc pm c' ctv) (.own 0))) s' → Ext e e' → Wf X.K C e' Ω → e'.H f' = none → e'.F c' = some (.frz ob (.own 0)) → (∃ vs t, ob.data = .fields vs ∧ vs[1]? = some (.str q t)) → Qv (.ref f') s') :
    wpAny M A (makeFunction nm q params (.stmts body) scope X.env [] [] [] pos fl) Qv E s := by
  obtain ⟨cd, P, hT, CH, BA⟩ := NA.ex
  have hl : n < e.α.length := by rw [w.ol]; exact (List.getElem?_eq_some_iff.mp hΩ).1
  obtain ⟨a, hα⟩ : ∃ a, e.α[n]? = some a := ⟨_, List.getElem?_eq_getElem hl⟩
  obtain ⟨_, cd', hT', hcase⟩ := w.ob n a _ hα hΩ
  have hc0 := hcode _ _ hT
  rw [hT] at hT'
  cases hT'
  have hg : s.heap.Ns mainGlobals X.mg := I.mod.glob.keeps I.bk
  have CH' := CH.keeps I.bk
  have BA' := BA.keeps I.bk
  rcases hcase with hP | ⟨c', ob, hP, hF, hv⟩
  · have gP : s.heap.get? P = some (PySem.W.tabObj #[]) := I.hok P _ hP
    have hgP : mainGlobals ≠ P := fun z => by
      obtain ⟨o, es, ep, eo, hd, _⟩ := hg
      rw [z, gP] at eo; cases eo; cases hd
    refine PySem.W.makeFunction_K hcl I.ok.glob hg hc0 CH' gP trivial rfl hgP BA' fun c' ctv doc h' tk hx hge hlt hrec hP' => ?_
    obtain ⟨c2, ob, vs, t, e1, g1, d1, d2⟩ := hrec
    cases e1
    have hsz : s.heap.objs.size ≤ h'.objs.size := Nat.le_trans hge (Nat.le_of_lt hlt)
    have n1 : e.H c' = none := I.hok.fresh hge
    have n2 : e.H h'.objs.size = none := I.hok.fresh hsz
    have neP : ∀ b, e.H b = none → b ≠ P := fun b z y => by rw [y, hP] at z; cases z
    have cP : c' ≠ P := neP _ n1
    have fP : h'.objs.size ≠ P := neP _ n2
    have cf : c' ≠ h'.objs.size := Nat.ne_of_lt hlt
    have wb : Wf X.K C (e.new c' (.frz ob (.own 0))) Ω := w.new n1
    have xb : Ext e (e.new c' (.frz ob (.own 0))) := w.new_ext n1
    have hPb : (e.new c' (.frz ob (.own 0))).H P = some (.tbl #[]) := by show upd e.H c' _ P = _; rw [upd_ne (Ne.symm cP)]; exact hP
    obtain ⟨wa, xa⟩ := wb.at (n := n) (a := P) (o' := .tab l pos q) (ho := .tbl #[rawInt pos.line, rawInt pos.col, .ref c']) hα (fun xs z => nomatch z)
      ⟨cd, hT, .inr ⟨c', ob, upd_same, upd_same, vs, t, d1, d2⟩⟩ (fun o u z => by rw [hPb] at z; cases z)
    rw [set_same hΩ] at wa
    have lt : ∀ b u, e.H b = some u → b < s.heap.objs.size := fun b u z => I.hok.lt z
    have old : ∀ b u, e.H b = some u → b ≠ P → upd (upd (upd e.H c' (.frz ob (.own 0))) P (.tbl #[rawInt pos.line, rawInt pos.col, .ref c'])) h'.objs.size (.frz (fnObj nm q params body scope clos doc ((X.mg "__name__").getD .none) c' ctv) (.own 0)) b = some u := fun b u z y => by
      rw [upd_ne (Nat.ne_of_lt (Nat.lt_of_lt_of_le (lt b u z) hsz)), upd_ne y, upd_ne (Nat.ne_of_lt (Nat.lt_of_lt_of_le (lt b u z) hge))]
      exact z
    have kp : ∀ b o, b ≠ P → s.heap.get? b = some o → (h'.push (fnObj nm q params body scope clos doc ((X.mg "__name__").getD .none) c' ctv)).get? b = some o := fun b o y z => Heap.get?_push_of_some _ (hx b o y z)
    refine h h'.objs.size _ ((e.new c' (.frz ob (.own 0))).at P (.tbl #[rawInt pos.line, rawInt pos.col, .ref c'])) c' ob doc ((X.mg "__name__").getD .none) ctv ?_ (xb.trans xa) wa ?_ upd_same ⟨vs, t, d1, d2⟩
    · refine I.step (g' := s.gens) (d' := s.drawn) (t' := tk) (ch := []) (fun _ z => nomatch z) (fun b o _ _ _ z y => kp b o (neP b y) z) (fun b o _ _ _ z y => ⟨o.slots, kp b o (neP b y) z⟩) (fun b o _ z y => ?_) (fun b o _ z => ?_) (fun b xs z => old b _ z fun y => by rw [y, hP] at z; cases z) (fun b o u z => old b _ z fun y => by rw [y, hP] at z; cases z) (fun b ps z => ?_) (fun m hm => ?_) (fun b u z => ?_) I.bare
      · show upd (upd (upd e.H c' _) P _) h'.objs.size _ b = none
        rw [upd_ne (Nat.ne_of_lt (Nat.lt_of_lt_of_le (Heap.lt_size z) hsz)), upd_ne (neP b y), upd_ne (Nat.ne_of_lt (Nat.lt_of_lt_of_le (Heap.lt_size z) hge))]
        exact y
      · by_cases y : b = P
        · subst y; exact ⟨_, Heap.get?_push_of_some _ hP'⟩
        · exact ⟨o, kp b o y z⟩
      · by_cases y : b = P
        · subst y
          rw [hP] at z
          cases z
          refine ⟨#[rawInt pos.line, rawInt pos.col, .ref c'], ?_⟩
          show upd (upd (upd e.H c' _) b _) h'.objs.size _ b = _
          rw [upd_ne (Ne.symm fP), upd_same]
          simp
        · exact ⟨#[], by rw [Array.append_empty]; exact old b _ z y⟩
      · exact (hm.extBut hx (neP _ I.free)).push _
      · have z : upd (upd (upd e.H c' (.frz ob (.own 0))) P (.tbl #[rawInt pos.line, rawInt pos.col, .ref c'])) h'.objs.size (.frz (fnObj nm q params body scope clos doc ((X.mg "__name__").getD .none) c' ctv) (.own 0)) b = some u := z
        by_cases y1 : b = h'.objs.size
        · rw [y1, upd_same] at z
          cases z
          rw [y1]
          exact ⟨Heap.get?_push_size _ rfl, _, Heap.get?_push_size _ rfl⟩
        · rw [upd_ne y1] at z
          by_cases y2 : b = P
          · rw [y2, upd_same] at z
            cases z
            rw [y2]
            exact Heap.get?_push_of_some _ hP'
          · rw [upd_ne y2] at z
            by_cases y3 : b = c'
            · rw [y3, upd_same] at z
              cases z
              rw [y3]
              exact ⟨Heap.get?_push_of_some _ g1, _, Heap.get?_push_of_some _ g1⟩
            · rw [upd_ne y3] at z
              refine (I.hok b u z).stay (fun d v hd y => kp d v (fun y4 => ?_) y) (fun d y => old d _ y fun y4 => by rw [y4, hP] at y; cases y) (fun d xs y => old d _ y fun y4 => by rw [y4, hP] at y; cases y)
              rcases hd with hd | hd
              · exact y2 (hd ▸ y4)
              · rw [y4, hP] at hd; cases hd
    · show upd (upd e.H c' _) P _ h'.objs.size = none
      rw [upd_ne fP, upd_ne (Ne.symm cf)]
      exact n2
  · have gP : s.heap.get? P = some (PySem.W.tabObj #[rawInt pos.line, rawInt pos.col, .ref c']) := I.hok P _ hP
    refine PySem.W.makeFunction_hit (cv := .ref c') hcl I.ok.glob hg hc0 CH' gP (by simp [TriplesOk, rawInt]) (by simp [codeAmong, rawInt]) BA' fun ctv doc h' tk hk hsz => ?_
    refine h h'.objs.size _ e c' ob doc ((X.mg "__name__").getD .none) ctv ?_ (Ext.refl e) w (I.hok.fresh hsz) hF hv
    exact I.laid (t' := tk) (fun b u z => Heap.get?_push_of_some _ (hk b u z)) hsz ⟨Heap.get?_push_size _ rfl, _, Heap.get?_push_size _ rfl⟩
/-- a def that makes a def over one of its names -/
def dClo (l q x : Str) (n : Nat) (pos : Pos) (g : Den) : FDen := fun ds Ω => match ds with
  | [d] => (match g [.dat d, .und, .und] Ω with
    | some (.obj m, Ω1) => (match Ω1[n]? with
      | some (.tab l' pos' q') => if l' = l ∧ pos' = pos ∧ q' = q then some (.obj Ω1.length, Ω1 ++ [.clo l q x m]) else none
      | _ => none)
    | _ => none)
  | _ => none
theorem fn_clo {P : Program} {w : World} {K : PySem.W.Frag} {mg : Str → Option Value} {base : Heap} {C : Cl} {l p x nm q : Str} {st s0 : Stmt} {f : Addr} {fd : FuncData} {n k : Nat} {g : Den} {nargs : Arguments} {nbody : List Stmt} {nscope : Scope} {pos rp rpos : Pos}
    (F : Fun K l l st f fd) (S : FnScope [p, x, nm] [p] (defScope st)) (hbody : defBody st = [s0, .FunctionDef nm nargs nbody [] none [] nscope none nm pos, .Return (some (.Name nm rp)) rpos])
    (hs0 : ∀ (cdv : Value) (A : Around) (outer : List Env) (sh : Shared) (H : Hp) (E : XK), Room k (A.deeper (envOfC l (defScope st) sh.heap.objs.size f cdv)) → PDS (cxOf CX0 P w K mg base [p, x, nm] l (defScope st) f cdv A outer sh H E).nox C s0 (sSet 1 g))
    (NA : NestAt K mg base l) (hni : nestIn K l = some (.FunctionDef nm nargs nbody [] none [] nscope none nm pos)) (hcd : ∀ cd P, PySem.W.tabIn K l = some (cd, P) → fd.code = .ref cd)
    (hnm : (defScope st).names.lookup nm = some .local) (hx : (defScope st).names.lookup x = some .cell)
    (hcl : ∀ (L f : Addr) (cdv : Value), closureFor nscope (envOfC l (defScope st) L f cdv) = pure [(x, L + 1)]) (hcx : ∀ L : Addr, (cellsFrom (L + 1) (defScope st).names []).lookup x = some (L + 1))
    (hq : ∀ (L f : Addr) (cdv : Value), qualnameIn (envOfC l (defScope st) L f cdv) nm nm = q) (hd0 : nargs.defaults = []) (hk0 : nargs.kw_defaults = []) (ha : ∀ (L f : Addr) (cdv : Value), annTrees nargs none (envOfC l (defScope st) L f cdv) = [])
    (hdb : (nm == ("__debug__" : Str)) = false := by decide) (hcdn : (nm == ("__classdict__" : Str)) = false := by decide) :
    FnOk P w K mg base CX0 (k + 1) f fd [p] (spD K C (dClo l q x n pos g)) := by
  obtain ⟨oc, od, kV, doc0, pm0, an, cdv, ct, osl, rfl, lk, hcdv⟩ := F.ex
  refine fn_raw lk hcdv S (fun vs H Q E h => ?_) fun A outer s s1 H vs Q E hr hsp I => ?_
  · obtain ⟨e, Ω, ds, d, Ω', _, _, i, h, _⟩ := h
    unfold dClo at h
    split at h
    · rename_i d0
      rw [← i.length]; rfl
    · cases h
  obtain ⟨e, Ω, ds, d, Ω', rfl, wf, i, hden, kk⟩ := hsp
  unfold dClo at hden
  split at hden
  case h_2 => cases hden
  rename_i d0
  split at hden
  case h_2 => cases hden
  rename_i m Ω1 hg
  split at hden
  case h_2 => cases hden
  rename_i l' pos' q' ht
  split at hden
  case isFalse => cases hden
  rename_i heq
  rw [heq.1, heq.2.1, heq.2.2] at ht
  cases hden
  rw [hbody]
  have st0 : tDS K C e (sSet 1 g) { nx := fun σ' H' => ∃ e1, e1.H = H' ∧ RelS K C e e1 Ω1 σ' [.dat d0, .dat (.obj m), .und], rt := fun _ _ => False } (start [p, x, nm] vs) e.H :=
    ⟨e, Ω, [.dat d0, .und, .und], .nx [.dat d0, .dat (.obj m), .und] Ω1, rfl, start_rel wf i, by unfold sSet; rw [hg]; rfl, fun e' σ' r => ⟨e', rfl, r⟩⟩
  refine wpAny_execs_cons (thn (hs0 cdv A outer s e.H E hr e [] s1 _ _ _ I st0) fun fl s2 hs => ?_)
  cases fl with
  | ret u => obtain ⟨_, _, _, _, _, z⟩ := hs; exact z.elim
  | brk => obtain ⟨_, _, _, z⟩ := hs; exact z.elim
  | cont => obtain ⟨_, _, _, z⟩ := hs; exact z.elim
  | next =>
    obtain ⟨σ1, H1, I1, e1, rfl, R1⟩ := hs
    refine wpAny_execs_cons (PySem.W.nestDef_K hd0 hk0 (ha _ _ _) ?_)
    rw [hq]
    refine made (X := (cxOf CX0 P w K mg base [p, x, nm] l (defScope st) f cdv A outer s e.H E).nox) (C := C) (e := e1) (Ω := Ω1) (pins := []) (σ := σ1) (l := l) (n := n) (clos := [(x, s.heap.objs.size + 1)]) I1 R1.wf NA ht hcd (hcl _ _ _) fun f' s3 e2 c' ob doc pm ctv I2 x2 w2 n2 hF2 hv2 => ?_
    refine store_ok I2 S.nd (i := 2) rfl (.inl hnm) (v := .ref f') (u := .ref f') rfl fun s4 I3 => ?_
    have hl3 : 2 < σ1.length := by rw [R1.rel.len]; show 2 < 3; decide
    refine wpAny_execs_cons (wpAny_Return_some (thn (pe_var (i := 2) rfl (.inl hnm) hdb hcdn [] s4 _ _ (fun v H' => v = .ref f' ∧ H' = _) I3 ⟨.ref f', by rw [List.getElem?_set_self hl3], rfl, rfl⟩) fun u s5 hs => ?_))
    obtain ⟨v, H5, J, ru, rfl, rfl⟩ := hs
    obtain ⟨v1, hv1, iv1⟩ := R1.rel.dat 1 (.obj m) rfl
    rw [Is] at iv1
    obtain ⟨am, hαm, rfl⟩ := iv1
    obtain ⟨mm, hns, hlook⟩ := J.loc
    obtain ⟨u1, ru1, lu1⟩ := hlook 1 x (.ref am) rfl (by rw [List.getElem?_set_ne (by decide)]; exact hv1) (.inr (.inl hx))
    obtain rfl : u1 = Value.ref am := ru1
    have hce : ∃ cob, s5.heap.get? (s.heap.objs.size + 1) = some cob ∧ cob.data = .cell (some (.ref am)) := by
      rcases lu1 with ⟨k1, _⟩ | ⟨_, c, hc, hcell⟩
      · exact absurd ((show (defScope st).names.lookup x = some .local from k1).symm.trans hx) (by intro z; cases z)
      · have e1 : (cellsFrom (s.heap.objs.size + 1) (defScope st).names []).lookup x = some c := hc
        rw [hcx] at e1
        cases e1
        exact hcell
    obtain ⟨cob, gc, hcob⟩ := hce
    generalize hC : s.heap.objs.size + 1 = c at gc
    have lc : s.heap.objs.size ≤ c := by rw [← hC]; exact Nat.le_succ _
    have nc : (upd e2.H f' (.frz (fnObj nm q nargs nbody nscope [(x, s.heap.objs.size + 1)] doc pm c' ctv) (.own 0))) c = none := by
      rcases J.freeC x c (show (cellsFrom (s.heap.objs.size + 1) (defScope st).names []).lookup x = some c by rw [hcx, hC]) with z | ⟨z, _⟩
      · exact z
      · cases z
    generalize hH2 : upd e2.H f' (.frz (fnObj nm q nargs nbody nscope [(x, s.heap.objs.size + 1)] doc pm c' ctv) (.own 0)) = H2 at nc J
    have cf : c ≠ f' := fun z => by rw [← hH2, z, upd_same] at nc; cases nc
    have nc2 : e2.H c = none := by rw [← hH2, upd_ne cf] at nc; exact nc
    have up : ∀ b o, H2 b = some o → upd H2 c (.frz cob (.own f')) b = some o := fun b o z => by rw [upd_ne (ne_of_none z nc)]; exact z
    refine ⟨u, rfl, .ref f', upd H2 c (.frz cob (.own f')), J.os, J.bare, ⟨J.base.keep, J.base.slot, fun b o z1 z2 z3 => ?_, J.base.there, fun b xs z => up _ _ (J.base.tups b xs z), fun b o v z => up _ _ (J.base.frzs b o v z), fun b ps z => ?_⟩, fun b o z => ?_, ru, ?_⟩
    · rw [upd_ne (Nat.ne_of_lt (Nat.lt_of_lt_of_le (Heap.lt_size z1) lc))]; exact J.base.free b o z1 z2 z3
    · obtain ⟨more, y⟩ := J.base.tbls b ps z
      exact ⟨more, up _ _ y⟩
    · by_cases y : b = c
      · subst y
        rw [upd_same] at z
        cases z
        exact ⟨gc, cob, gc⟩
      · rw [upd_ne y] at z
        exact (J.hok b o z).stay (fun _ _ _ y => y) (fun d y => up _ _ y) (fun d xs y => up _ _ y)
    · have wc : Wf K C (e2.new c (.frz cob (.own f'))) Ω1 := w2.new nc2
      have xc : Ext e2 (e2.new c (.frz cob (.own f'))) := w2.new_ext nc2
      have nf : (e2.new c (.frz cob (.own f'))).H f' = none := by show upd e2.H c _ f' = none; rw [upd_ne (Ne.symm cf)]; exact n2
      have hf3 : upd H2 c (.frz cob (.own f')) f' = some (.frz (fnObj nm q nargs nbody nscope [(x, c)] doc pm c' ctv) (.own 0)) := by rw [upd_ne (Ne.symm cf), ← hH2, upd_same, hC]
      have hα2 : e2.α[m]? = some am := by
        obtain ⟨more, z⟩ := x2.al
        rw [z, List.getElem?_append_left (List.getElem?_eq_some_iff.mp hαm).1]
        exact hαm
      have hk4 : ∀ b u, (e2.new c (.frz cob (.own f'))).H b = some u → upd H2 c (.frz cob (.own f')) b = some u := fun b u z => by
        have z : upd e2.H c (.frz cob (.own f')) b = some u := z
        by_cases y : b = c
        · rw [y, upd_same] at z ⊢; exact z
        · rw [upd_ne y] at z ⊢
          rw [← hH2, upd_ne (ne_of_none z n2)]; exact z
      obtain ⟨wd, xd⟩ := wc.obj (p := f') (H' := upd H2 c (.frz cob (.own f'))) (o := .clo l q x m) nf hk4 (by rw [hf3]; exact ⟨by simp, fun xs z => nomatch z⟩) (by
        refine ⟨_, c, am, c', nm, doc, pm, ctv, cob, ob, hni, hf3, upd_same, hcob, ?_, ?_, hv2⟩
        · show (e2.α ++ [f'])[m]? = some am
          rw [List.getElem?_append_left (List.getElem?_eq_some_iff.mp hα2).1]; exact hα2
        · show upd e2.F c _ c' = _
          rw [upd_ne (fun z => by rw [z] at hF2; rw [w2.fh _ _ hF2] at nc2; cases nc2)]
          exact hF2)
      refine kk (.ref f') _ (((R1.ext.trans x2).trans xc).trans xd) wd ?_
      rw [Is]
      refine ⟨f', ?_, rfl⟩
      show (e2.α ++ [f'])[Ω1.length]? = some f'
      rw [← w2.ol]; simp
end DL
set_option Elab.async false
set_option linter.all false
set_option maxRecDepth 100000
namespace DL
open PySem PySem.Spec PyProof.Rows L2

/-- a call of what a def made -/
def gClo (l q x : Str) (h : FDen) (gf ga : Den) : Den := fun ρ Ω => match gf ρ Ω with
  | some (.obj n, Ω1) => (match ga ρ Ω1 with
    | some (d, Ω2) => (match Ω2[n]? with
      | some (.clo l' q' x' m) => if l' = l ∧ q' = q ∧ x' = x then h [d, .obj m] Ω2 else none
      | _ => none)
    | none => none)
  | _ => none
theorem callWith_fn {M : Model} {A : Around} {E : Value → Shared → Prop} {s : Shared} {env : Env} {pos : Pos} {Q : Value → Shared → Prop} {q : Addr} {e : Expr} {rest : List Expr}
    (h : wpAny M A (spliced (backTo pos (starEach (e :: rest) env))) (fun vs s₁ => PySem.W.FnAt q s₁.heap ∧ wpAny M A (call (.ref q) ([] ++ vs)) Q E s₁) E s)
    (he : starEach (e :: rest) env = (false, eval e env) :: starEach rest env) (hplain : (backTo pos (starEach rest env)).any (·.1) = false) :
    wpAny M A (callWith pos (.ref q) [] (backTo pos (starEach (e :: rest) env)) []) Q E s := by
  rw [he] at h ⊢
  exact PySem.W.callWith_of (by show ((false || (backTo pos (starEach rest env)).any (·.1)) || false) = false; rw [hplain]; rfl) PySem.W.keeps_F (Calls.evalArgs_plain h)
theorem pd_clo {X : Cx} {C : Cl} {l q x p : Str} {st : Stmt} {k : Nat} {s : SDen} {a e : Expr} {gf ga : Den} {pos : Pos} (hni : nestIn X.K l = some st) (S : CloScope p x (defScope st)) (hr : Room (k + 1) X.A) (hf : PD X C a gf) (ha : PD X C e ga)
    (hb : ∀ (nm : Str) (doc pm ctv u : Value) (c c' : Addr), bindArgs (PySem.W.fnX nm q (defArgs st) (defBody st) (defScope st) [(x, c)] .none .none doc pm none (.ref c') ctv) ⟨[u], []⟩ = pure [(p, u)])
    (hbody : ∀ (f : Addr) (cdv : Value) (cl : List (Str × Addr)) (A : Around) (outer : List Env) (sh : Shared) (H : Hp), Room k (A.deeper (PySem.W.envX q (defScope st) sh.heap.objs.size f cdv cl)) → PDB (cxX X.prog X.w X.K X.mg X.base [p, x] q (defScope st) f cdv cl A outer sh H) C (defBody st) s)
    (ht : eval (.Call a [e] [] pos) X.env = (do callWith pos (← eval a X.env) [] (backTo pos (starEach [e] X.env)) []) := by rfl)
    (hst : starEach [e] X.env = (false, eval e X.env) :: starEach [] X.env := by rfl) (hpl : (backTo pos (starEach [] X.env)).any (·.1) = false := by rfl) :
    PD X C (.Call a [e] [] pos) (gClo l q x (runD 2 2 s) gf ga) := by
  intro pins sh σ H Q I hw
  obtain ⟨e0, Ω, ρ, d, Ω', rfl, w, r, g, kk⟩ := hw
  unfold gClo at g
  cases q1 : gf ρ Ω with
  | none => rw [q1] at g; cases g
  | some p1 =>
  obtain ⟨d1, Ω1⟩ := p1
  rw [q1] at g
  cases d1 with
  | obj n =>
    dsimp only at g
    cases q2 : ga ρ Ω1 with
    | none => rw [q2] at g; cases g
    | some p2 =>
    obtain ⟨d2, Ω2⟩ := p2
    rw [q2] at g
    dsimp only at g
    cases q3 : Ω2[n]? with
    | none => rw [q3] at g; cases g
    | some o =>
    rw [q3] at g
    cases o with
    | clo l' q' x' m =>
      dsimp only at g
      split at g
      case isFalse => cases g
      rename_i heq
      obtain ⟨rfl, rfl, rfl⟩ := heq
      rw [ht]
      refine wpAny_bind (thn (hf pins sh σ e0.H (fun v H1 => ∃ e1, e1.H = H1 ∧ Ext e0 e1 ∧ Wf X.K C e1 Ω1 ∧ Is X.K e1.α e1.F (.obj n) v) I ⟨e0, Ω, ρ, .obj n, Ω1, rfl, w, r, q1, fun v e' x' w' i' => ⟨e', rfl, x', w', i'⟩⟩) fun fv s1 hs => ?_)
      obtain ⟨v1, H1, I1, r1, e1, rfl, x1, w1, i1⟩ := hs
      rw [Is] at i1
      obtain ⟨f, hα, rfl⟩ := i1
      obtain rfl : fv = Value.ref f := r1
      refine callWith_fn (thn (pa_cons ha pa_nil hst pos pins s1 σ e1.H (fun vs H2 => ∃ e2 v2, vs = [v2] ∧ e2.H = H2 ∧ Ext e1 e2 ∧ Wf X.K C e2 Ω2 ∧ Is X.K e2.α e2.F d2 v2) I1 ⟨e1, Ω1, ρ, d2, Ω2, rfl, w1, r.ext x1, q2, fun v e' x' w' i' => ⟨e', v, rfl, rfl, x', w', i'⟩⟩) fun us s2 hs => ?_) hst hpl
      obtain ⟨vs, H2, I2, r2, e2, v2, rfl, rfl, x2, w2, i2⟩ := hs
      obtain ⟨u2, rfl, rv⟩ := vals1 r2
      have hα2 : e2.α[n]? = some f := by
        obtain ⟨more, z⟩ := x2.al
        rw [z, List.getElem?_append_left (List.getElem?_eq_some_iff.mp hα).1]; exact hα
      obtain ⟨_, st', c, am, c', nm, doc, pm, ctv, cob, ob, h0, h1, h2, h3, h4, h5, h6⟩ := w2.ob n f _ hα2 q3
      rw [hni] at h0
      cases h0
      obtain ⟨gf', _⟩ := I2.hok f _ h1
      refine ⟨⟨_, _, _, _, gf'⟩, run_clo (k := k) S hr I2 h1 (w2.fh _ _ h2) h3 (w2.fh _ _ h5) h6 (hb nm doc pm ctv u2 c c') rv ⟨_, hbody f (.ref c') [(x', c)] X.A X.stack s2 e2.H (hr.deeper _) e2, ?_⟩⟩
      unfold runD at g
      rw [if_pos (by rfl)] at g
      have rs : RelS X.K C e2 e2 Ω2 [some v2, some (.ref am)] [.dat d2, .dat (.obj m)] := start_rel (N := [p, x']) (ds := [d2, .obj m]) (vs := [v2, .ref am]) w2 (.cons i2 (.cons (by rw [Is]; exact ⟨am, h4, rfl⟩) .nil))
      cases q4 : s [.dat d2, .dat (.obj m)] Ω2 with
      | none => rw [show s (List.map Sl.dat [d2, .obj m] ++ List.replicate (2 - 2) Sl.und) Ω2 = none from q4] at g; cases g
      | some o =>
        rw [show s (List.map Sl.dat [d2, .obj m] ++ List.replicate (2 - 2) Sl.und) Ω2 = some o from q4] at g
        refine ⟨e2, Ω2, _, o, rfl, rs, q4, ?_⟩
        cases o with
        | rt d' Ω3 => cases g; exact fun e' v x' w' i' => kk v e' ((x1.trans x2).trans x') w' i'
        | nx ρ' Ω3 => cases g; exact fun e' σ' r' => kk .non e' ((x1.trans x2).trans r'.ext) r'.wf (by rw [Is])
        | bk ρ' Ω3 => cases g
        | ct ρ' Ω3 => cases g
    | _ => cases g
  | _ => cases g
/-- the law, with a table laid aside -/
theorem law_okT {K : PySem.W.Frag} {F : FDen} {H : Hp} {a T cd : Addr} {ns : List Int} {E : XK} {l q : Str} {pos : Pos} (hS : SqL K H a (ns.map V.int)) (hT : H T = some (.tbl #[])) (hc : PySem.W.tabIn K l = some (cd, T)) (h : ∃ Ω, F [.scr ns] [.tab l pos q] = some (.bl true, Ω)) :
    spC K F [.ref a] H (fun v _ => v = .bl true) E := fun C => by
  obtain ⟨Ω, h⟩ := h
  have sm : Same (fun b => if b = T then none else H b) H := fun b o z => by
    have z : (if b = T then none else H b) = some o := z
    by_cases y : b = T
    · rw [if_pos y] at z; cases z
    · rw [if_neg y] at z; exact z
  refine ⟨⟨[T], fun b => if b = T then none else H b, fun b => b = T, H⟩, [.tab l pos q], [.scr ns], .bl true, Ω, rfl, ⟨sm, fun b z => if_pos z, fun b z => ?_, rfl, by simp, fun n b o z1 z2 => ?_⟩, ?_, h, fun v e' _ _ i => ?_⟩
  · have z : b = T := z
    show H b ≠ none ∧ ∀ xs, H b ≠ some (.tup xs)
    rw [z, hT]
    exact ⟨by simp, fun xs y => by cases y⟩
  · match n, z1, z2 with
    | 0, z1, z2 =>
      cases z1
      cases z2
      exact ⟨rfl, cd, hc, .inl hT⟩
    | n + 1, z1, z2 => simp at z1
  · refine .cons ?_ .nil
    rw [Is]
    refine ⟨a, rfl, ?_⟩
    rcases hS with (z | ⟨o, z⟩) | z
    · exact .inl (.inl (by show (if a = T then none else H a) = _; rw [if_neg (fun y => by rw [y, hT] at z; cases z)]; exact z))
    · exact .inl (.inr ⟨o, by show (if a = T then none else H a) = _; rw [if_neg (fun y => by rw [y, hT] at z; cases z)]; exact z⟩)
    · exact .inr z
  · rw [Is] at i; exact i
theorem law_callT {P : Program} {w : World} {K : PySem.W.Frag} {mg mb : Str → Option Value} {CX : CXT} {k : Nat} {fa a T cd : Addr} {fd : FuncData} {x l : Str} {sp : Sp} {s₁ : Shared} {vs : List Value} {ns : List Int}
    (KX : K.In s₁.heap) (hns : s₁.heap.Ns mainGlobals mg) (hb : s₁.heap.Ns builtinsNs mb) (hbb : ∀ x : Str, x ≠ "__name__" → mb x = bootBuiltins x) (hlim : s₁.heap.NoLimit) (hg : s₁.gens = #[])
    (ha : s₁.heap.get? a = some { cls := .type "list", data := .seq vs.toArray }) (hi : IntsAre vs ns) (hl : ns.length ≤ sizeLine) (hr : Room k callerA)
    (htab : PySem.W.tabIn K l = some (cd, T)) (hCH : PySem.W.CodeHd s₁.heap cd T) (hT : s₁.heap.get? T = some (PySem.W.tabObj #[])) (hKT : K.lookup T = none) (hBA : s₁.heap.BuiltinsAt mg T)
    (F : ∀ base : Heap, K.In base → base.Ns mainGlobals mg → NestAt K mg base l → FnOk P w K mg base CX k fa fd [x] sp) (hbind : ∀ (s : Shared) (u : Value), BindsTo s fd ⟨[u], []⟩ [(x, u)])
    (hsp : ∀ H : Hp, H T = some (.tbl #[]) → SqL K H a (ns.map V.int) → sp [.ref a] H (fun v _ => v = .bl true) fun _ _ _ => False)
    (hCX : ∀ H e s', CX [] H s₁ (fun _ _ _ => False) e s' → False) :
    codeAny (model P w) callerA (.call (.ref fa) ⟨[.ref a], []⟩) (fun r s' => r = .ok (.ret (.bool true)) ∧ OldK s₁.heap s'.heap ∧ s'.os = s₁.os ∧ AllBare s'.gens) s₁ := by
  have rv := vals_ints hi
  have lenV := hi.length
  have aT : a ≠ T := fun z => by rw [z, hT] at ha; cases ha
  have core : ∀ H : Hp, H T = some (.tbl #[]) → (∀ b, b ≠ T → H b = none ∨ (b = a ∧ K.lookup a = none ∧ ∃ o xs, H b = some (.frz o (.lst xs)))) → SqL K H a (ns.map V.int) → HOk P w H s₁.heap →
      codeAny (model P w) callerA (.call (.ref fa) ⟨[.ref a], []⟩) (fun r s' => r = .ok (.ret (.bool true)) ∧ OldK s₁.heap s'.heap ∧ s'.os = s₁.os ∧ AllBare s'.gens) s₁ := by
    intro H hHT hO hS hok
    have free : ∀ {b : Addr} {o : Obj}, s₁.heap.get? b = some o → o ≠ PySem.W.tabObj #[] → o ≠ { cls := .type "list", data := .seq vs.toArray } → H b = none := fun {b o} e n1 n2 => by
      have nT : b ≠ T := fun z => by rw [z, hT] at e; cases e; exact n1 rfl
      rcases hO b nT with z | ⟨z, _⟩
      · exact z
      · rw [z, ha] at e; cases e; exact (n2 rfl).elim
    have base_of : ∀ {b : Addr} {o : Obj}, s₁.heap.get? b = some o → H b = none → (hidT s₁.heap H).get? b = some o := fun e n => hidT_get e n
    have nsK : ∀ {b : Addr} {m : Str → Option Value}, s₁.heap.Ns b m → (hidT s₁.heap H).Ns b m := fun {b m} ⟨o, es, ep, e, d, r⟩ => ⟨o, es, ep, base_of e (free e (fun z => by rw [z] at d; cases d) (fun z => by rw [z] at d; cases d)), d, r⟩
    have hKb : K.In (hidT s₁.heap H) := fun b o e => base_of (KX b o e) (by
      by_cases nT : b = T
      · rw [nT, hKT] at e; cases e
      · rcases hO b nT with z | ⟨z, y, _⟩
        · exact z
        · rw [z, y] at e; cases e)
    have hM : Mod K mg (hidT s₁.heap H) := ⟨hKb, nsK hns, ⟨mb, nsK hb, hbb⟩, let ⟨mc, h1, h2⟩ := hlim; ⟨mc, nsK h1, h2⟩⟩
    have hN : NestAt K mg (hidT s₁.heap H) l := by
      refine ⟨cd, T, htab, ?_, ?_⟩
      · obtain ⟨o, vs', file, tf, flags, tg, inF, text, tt, e1, e2, e3, e4⟩ := hCH
        exact ⟨o, vs', file, tf, flags, tg, inF, text, tt, base_of e1 (free e1 (fun z => by rw [z] at e2; cases e2) (fun z => by rw [z] at e3; cases e3)), e2, e3, e4⟩
      · obtain ⟨bm, o, b1, b2, b3, b4, b5, b6, b7⟩ := hBA
        exact ⟨bm, o, b1, b2, b3, b4, base_of b5 (free b5 (fun z => by rw [z] at b6; cases b6) (fun z => by have y := b7.2; rw [z] at y; cases y)), b6, b7⟩
    have e0 : Env0 P w K mg (hidT s₁.heap H) callerA [] s₁ H := ⟨rfl, hM, fun b o e => of_hidT e, Nat.le_of_eq (hidT_size _ _), trivial, fun b hb => absurd (show b ∈ ([] : List Addr) from hb) (by simp), hok, .of_eq hg⟩
    refine codeAny_mono ((F _ hKb (nsK hns) hN).run callerA [] s₁ H ⟨[.ref a], []⟩ [.ref a] [.ref a] _ _ hr e0 (hbind s₁ (.ref a)) (.cons rfl .nil) (hsp H hHT hS)) fun r s' h => ?_
    cases r with
    | error e => exact (hCX H e s' h).elim
    | ok fl =>
      cases fl with
      | next => exact False.elim h
      | brk => exact False.elim h
      | cont => exact False.elim h
      | ret u =>
        obtain ⟨v, H', os, bare, un, hok', r', q⟩ := h
        have q' : v = .bl true := q
        subst q'
        obtain rfl : u = Value.bool true := r'
        have all : ∀ b o, s₁.heap.get? b = some o → (b ≠ T ∧ s'.heap.get? b = some o) ∨ (b = T ∧ o = PySem.W.tabObj #[] ∧ ∃ ps, s'.heap.get? T = some (PySem.W.tabObj ps)) := fun b o e => by
          by_cases nT : b = T
          · refine .inr ⟨nT, ?_, ?_⟩
            · rw [nT, hT] at e; exact (Option.some.inj e).symm
            · obtain ⟨more, z⟩ := un.tbls T _ hHT
              exact ⟨_, hok' T _ z⟩
          · refine .inl ⟨nT, ?_⟩
            rcases hO b nT with z | ⟨_, _, ob, xs, z⟩
            · exact un.keep b o e z (by intro z; exact absurd (show b ∈ ([] : List Addr) from z) (by simp)) (by simp)
            · have z2 := un.frzs b ob _ z
              obtain ⟨e1, _⟩ := hok b _ z
              obtain ⟨e2, _⟩ := hok' b _ z2
              rw [e] at e1; cases e1
              exact e2
        refine ⟨rfl, ⟨fun b o e => ?_, fun b o e => ?_⟩, os, bare⟩
        · rcases all b o e with ⟨_, z⟩ | ⟨rfl, rfl, ps, z⟩
          · exact .inl z
          · exact .inr (.inl ⟨(hCH.tab hT).isCodeTable, rfl, #[], ps, rfl, by rw [Array.empty_append]; exact z⟩)
        · rcases all b o e with ⟨_, z⟩ | ⟨rfl, rfl, ps, z⟩
          · exact ⟨o, z⟩
          · exact ⟨_, z⟩
  have tblOk : ∀ H : Hp, ObjOk P w H s₁.heap T (.tbl #[]) := fun H => hT
  cases hk : K.lookup a with
  | some o =>
    have e := KX a o hk
    rw [ha] at e
    cases e
    refine core (fun b => if b = T then some (.tbl #[]) else none) (if_pos rfl) (fun b nT => .inl (if_neg nT)) (.inr ⟨_, vs.toArray, _, hk, rfl, rfl, rfl, by rw [List.size_toArray, lenV]; exact hl, by simpa using rv⟩) (fun b u z => ?_)
    by_cases nT : b = T
    · have z' := (if_pos nT).symm.trans z
      cases z'
      rw [nT]
      exact tblOk _
    · have z' := (if_neg nT).symm.trans z
      cases z'
  | none =>
    refine core (fun b => if b = T then some (.tbl #[]) else if b = a then some (.frz { cls := .type "list", data := .seq vs.toArray } (.lst (ns.map V.int))) else none) (if_pos rfl) (fun b nT => ?_) (.inl (.inr ⟨{ cls := .type "list", data := .seq vs.toArray }, (if_neg aT).trans (if_pos rfl)⟩)) (fun b u z => ?_)
    · by_cases hb : b = a
      · exact .inr ⟨hb, hk, _, _, (if_neg nT).trans (if_pos hb)⟩
      · exact .inl ((if_neg nT).trans (if_neg hb))
    · by_cases nT : b = T
      · have z' := (if_pos nT).symm.trans z
        cases z'
        rw [nT]
        exact tblOk _
      · have z := (if_neg nT).symm.trans z
        by_cases hb : b = a
        · have z' := (if_pos hb).symm.trans z
          cases z'
          subst hb
          exact ⟨ha, by rw [List.length_map]; exact hl, vs, _, rv, ha⟩
        · have z' := (if_neg hb).symm.trans z
          cases z'
theorem noTab {K : PySem.W.Frag} {h : Heap} {T : Addr} (X : K.In h) (hT : h.get? T = some (PySem.W.tabObj #[])) (hK : PySem.W.noTabs K = true) : K.lookup T = none := by
  cases q : K.lookup T with
  | none => rfl
  | some o =>
    have e := X _ _ q
    rw [hT] at e
    cases e
    have h2 := List.all_eq_true.mp hK (T, PySem.W.tabObj #[]) (PySem.W.mem_of_lookupK q)
    exact absurd (show false = true from h2) Bool.false_ne_true
/-- the goal that k_head leaves, for a law that comes to a def which makes a def -/
theorem walkT {l : PySem.W.OpenLaw} {n k : Nat} {q : Program} {loose : List Str} {XP : (Str → Option Value) → Heap → Prop} {YP : World → Heap → Prop} {d d' : DefRec} {K : Params → PySem.W.Frag} {CX : World → CXT} {sp : World → Sp} {x y : Str}
    (hn : l.most = some n) (hn2 : n ≤ sizeLine) (hdf : d.params.defaults = []) (hr : Room k callerA)
    (hY : ∀ (w : World) (h : Heap), YP w h → (K w.params).In h) (hrec : (recsOf q).find? (fun e => e.name == y) = some d')
    (F : ∀ (w : World) (mg : Str → Option Value) (fa : Addr) (h : Heap), (K w.params).In h → h.Ns mainGlobals mg → mg d.name = some (.ref fa) →
      ∃ fd : FuncData, ∃ cd T, PySem.W.tabIn (K w.params) y = some (cd, T) ∧ PySem.W.noTabs (K w.params) = true ∧ (∀ (s : Shared) (u : Value), BindsTo s fd ⟨[u], []⟩ [(x, u)]) ∧
        ∀ base : Heap, (K w.params).In base → base.Ns mainGlobals mg → NestAt (K w.params) mg base y → FnOk l.prog w (K w.params) mg base (CX w) k fa fd [x] (sp w))
    (hsp : ∀ (w : World) (H : Hp) (a : Addr) (ns : List Int) (cd T : Addr), ns.length ≤ n → H T = some (.tbl #[]) → PySem.W.tabIn (K w.params) y = some (cd, T) → SqL (K w.params) H a (ns.map V.int) → sp w [.ref a] H (fun v _ => v = .bl true) fun _ _ _ => False)
    (hCX : ∀ (w : World) (H : Hp) (s : Shared) (e : Value) (s' : Shared), CX w [] H s (fun _ _ _ => False) e s' → False) :
    PySem.W.WalkO q loose XP YP l.row.toRowW d [] (fun f vs => PySem.call f vs) := by
  refine Att.attach_call hn hdf fun w s₀ s₁ mg mb fa o pm cd' doc a vs ns G Y ho hd hcd hmg hobj hints hlen hg => ?_
  have KX := hY w _ Y
  obtain ⟨fd, cd, T, htab, hnt, hb, hF⟩ := F w mg fa _ KX G.T.g hmg
  obtain ⟨hCH, hT⟩ := PySem.W.tab_of G.T KX hrec htab
  obtain ⟨bm, ob, b1, b2, b3, b4, b5, b6⟩ := G.T.bmain
  have n1 : bm ≠ mainGlobals := fun z => by
    obtain ⟨o', es, ep, e, hd', _⟩ := G.T.g
    rw [z, e] at b3
    cases b3
    rw [b6] at hd'
    cases hd'
  have n2 : bm ≠ T := fun z => by
    rw [z, hT] at b3
    cases b3
    cases b4
  have hBA : s₁.heap.BuiltinsAt mg T := ⟨bm, ob, b1, b2, n1, n2, b3, b4, b5, b6⟩
  exact law_callT KX G.T.g G.T.b G.T.builtins G.T.nolimit hg hobj hints (Nat.le_trans hlen hn2) hr htab hCH hT (noTab KX hT hnt) hBA hF hb (fun H hH hS => hsp w H a ns cd T hlen hH htab hS) fun H e s' => hCX w H s₁ e s'
theorem tab_mk {K : PySem.W.Frag} {l : Str} {f c P : Addr} {fd : FuncData} {oc o2 : Value} {od d2 : Option Addr} {osl sl2 : Array (Option Value)} {vs : Array Value} (a : PySem.W.nsIn K mainGlobals l = some (some (.ref f))) (lk : K.lookup f = some ⟨oc, od, .func fd, osl⟩) (hc : fd.code = .ref c)
    (lc : K.lookup c = some ⟨o2, d2, .fields vs, sl2⟩) (hv : vs[11]? = some (.ref P)) : PySem.W.tabIn K l = some (c, P) := by
  unfold PySem.W.tabIn
  rw [a]; dsimp only
  rw [lk]; dsimp only
  rw [hc]; dsimp only
  rw [lc]; dsimp only
  rw [hv]
theorem tab_code {K : PySem.W.Frag} {l : Str} {f cd P : Addr} {fd : FuncData} {oc : Value} {od : Option Addr} {osl : Array (Option Value)} (a : PySem.W.nsIn K mainGlobals l = some (some (.ref f))) (lk : K.lookup f = some ⟨oc, od, .func fd, osl⟩) (h : PySem.W.tabIn K l = some (cd, P)) : fd.code = .ref cd := by
  unfold PySem.W.tabIn at h
  rw [a] at h; dsimp only at h
  rw [lk] at h; dsimp only at h
  split at h
  · rename_i c hc
    split at h
    · split at h
      · cases h; exact hc
      · cases h
    · cases h
  · cases h
theorem nest_mk {K : PySem.W.Frag} {l : Str} {f : Addr} {fd : FuncData} {oc : Value} {od : Option Addr} {osl : Array (Option Value)} {b : List Stmt} {st : Stmt} (a : PySem.W.nsIn K mainGlobals l = some (some (.ref f))) (lk : K.lookup f = some ⟨oc, od, .func fd, osl⟩) (hb : fd.body = .stmts b) (hf : b.find? isDef = some st) : nestIn K l = some st := by
  unfold nestIn
  rw [a]; dsimp only
  rw [lk]; dsimp only
  rw [hb]; dsimp only
  exact hf
theorem cloScope {p x : Str} {sc : Scope} (h1 : sc.kind = .function) (h2 : sc.isCoroutine = false) (h3 : sc.isGenerator = false) (h4 : p ≠ x) (h5 : sc.names.lookup p = some .local) (h6 : sc.names.lookup x = some .free) (h7 : ∀ y ∈ sc.names, y.2 ≠ .cell) (h8 : ∀ y ∈ sc.names, y.2 = .free → y.1 = x) : CloScope p x sc :=
  ⟨h1, h2, h3, h4, h5, h6, h7, fun y hy => h8 _ (lookup_mem hy) rfl⟩
theorem fn_cloF {P : Program} {w : World} {K : PySem.W.Frag} {mg : Str → Option Value} {base : Heap} {C : Cl} {l p x nm q : Str} {st s0 : Stmt} {f : Addr} {fd : FuncData} {n k : Nat} {g : Den} {nargs : Arguments} {nbody : List Stmt} {nscope : Scope} {pos rp rpos : Pos}
    (F : Fun K l l st f fd) (hns : PySem.W.nsIn K mainGlobals l = some (some (.ref f))) (S : FnScope [p, x, nm] [p] (defScope st)) (hbody : defBody st = [s0, .FunctionDef nm nargs nbody [] none [] nscope none nm pos, .Return (some (.Name nm rp)) rpos])
    (hfind : (defBody st).find? isDef = some (.FunctionDef nm nargs nbody [] none [] nscope none nm pos))
    (hs0 : ∀ (cdv : Value) (A : Around) (outer : List Env) (sh : Shared) (H : Hp) (E : XK), Room k (A.deeper (envOfC l (defScope st) sh.heap.objs.size f cdv)) → PDS (cxOf CX0 P w K mg base [p, x, nm] l (defScope st) f cdv A outer sh H E).nox C s0 (sSet 1 g))
    (NA : NestAt K mg base l) (hnm : (defScope st).names.lookup nm = some .local) (hx : (defScope st).names.lookup x = some .cell)
    (hcl : ∀ (L f : Addr) (cdv : Value), closureFor nscope (envOfC l (defScope st) L f cdv) = pure [(x, L + 1)]) (hcx : ∀ L : Addr, (cellsFrom (L + 1) (defScope st).names []).lookup x = some (L + 1))
    (hq : ∀ (L f : Addr) (cdv : Value), qualnameIn (envOfC l (defScope st) L f cdv) nm nm = q) (hd0 : nargs.defaults = []) (hk0 : nargs.kw_defaults = []) (ha : ∀ (L f : Addr) (cdv : Value), annTrees nargs none (envOfC l (defScope st) L f cdv) = [])
    (hdb : (nm == ("__debug__" : Str)) = false := by decide) (hcdn : (nm == ("__classdict__" : Str)) = false := by decide) :
    FnOk P w K mg base CX0 (k + 1) f fd [p] (spD K C (dClo l q x n pos g)) := by
  obtain ⟨oc, od, kV, doc, pm, an, cdv, ct, osl, e, lk, hcd⟩ := F.ex
  exact fn_clo F S hbody hs0 NA (nest_mk hns lk (by rw [e]) hfind) (fun cd P h => tab_code hns lk h) hnm hx hcl hcx hq hd0 hk0 ha hdb hcdn
end DL
set_option Elab.async false
set_option linter.all false
set_option maxRecDepth 100000
namespace DL
open PySem PySem.Spec PyProof.Rows L2
/-! ### o.f += e, ints -/
def sFldInc (c fl : Str) (go gv : Den) : SDen := fun ρ Ω => match go ρ Ω with
  | some (.obj n, Ω1) => (match Ω1[n]? with
    | some (.ins c' fs) => if c' = c then (match fs.lookup fl with
      | some (.int i) => (match gv ρ Ω1 with
        | some (.int j, Ω2) => (match Ω2[n]? with
          | some (.ins c2 fs2) => if c2 = c ∧ fs2.length < 1000 then some (.nx ρ (Ω2.set n (.ins c (putFD fl (.int (i + j)) fs2)))) else none
          | _ => none)
        | _ => none)
      | _ => none) else none
    | _ => none)
  | _ => none
section
variable {X : Cx} {C : Cl} {a x : Expr} {f g : Den} {pos tpos : Pos}
theorem pds_fldinc {c fl : Str} (T : ClD X.K C c) (hn : NoA X.K C c fl) (ho : PD X C a f) (hv : PD X C x g) :
    PDS X C (.AugAssign (.Attribute a fl tpos) .Add x pos) (sFldInc c fl f g) := fun e₀ => ps_imp (ps_fldaug ho hv in_add) fun Dn σ H hw' => by
  obtain ⟨e, Ω, ρ, o, eH, r, q, k⟩ := hw'
  obtain ⟨Ca, hC, cl⟩ := T.ex
  unfold sFldInc at q
  cases q1 : f ρ Ω with
  | none => rw [q1] at q; cases q
  | some p1 =>
  obtain ⟨d1, Ω1⟩ := p1
  rw [q1] at q
  cases d1 with
  | obj n =>
    dsimp only at q
    cases q0 : Ω1[n]? with
    | none => rw [q0] at q; cases q
    | some o0 =>
    rw [q0] at q
    cases o0 with
    | ins c' fs =>
      dsimp only at q
      by_cases ec : c' = c
      case neg => rw [if_neg ec] at q; cases q
      rw [if_pos ec] at q
      subst ec
      cases q2 : fs.lookup fl with
      | none => rw [q2] at q; cases q
      | some v0 =>
      rw [q2] at q
      cases v0 with
      | int i =>
        dsimp only at q
        cases q3 : g ρ Ω1 with
        | none => rw [q3] at q; cases q
        | some p3 =>
        obtain ⟨d3, Ω2⟩ := p3
        rw [q3] at q
        cases d3 with
        | int j =>
          dsimp only at q
          cases q4 : Ω2[n]? with
          | none => rw [q4] at q; cases q
          | some o4 =>
          rw [q4] at q
          cases o4 with
          | ins c2 fs2 =>
            dsimp only at q
            by_cases ec : c2 = c' ∧ fs2.length < 1000
            case neg => rw [if_neg ec] at q; cases q
            rw [if_pos ec] at q
            obtain ⟨rfl, hl⟩ := ec
            cases q
            refine ⟨e, Ω, ρ, .obj n, Ω1, eH, r.wf, r.rel, q1, fun uo e1 x1 w1 i1 => ?_⟩
            rw [Is] at i1
            obtain ⟨p, hα, rfl⟩ := i1
            obtain ⟨Cb, dx, fvs, h1, h2, h3⟩ := (w1.ob n p _ hα q0).2
            rw [hC] at h1
            cases h1
            have ov := h3.look fl
            rw [q2] at ov
            obtain ⟨v', e2, iv⟩ := ov.some_of
            rw [Is] at iv
            subst iv
            refine ⟨p, Ca, dx, fvs, .int i, rfl, h2, cl, hn Ca hC, e2, e1, Ω1, ρ, .int j, Ω2, rfl, w1, r.rel.ext x1, q3, fun uv e3 x3 w3 i3 => ?_⟩
            rw [Is] at i3
            subst i3
            have hα3 : e3.α[n]? = some p := by
              obtain ⟨more, z⟩ := x3.al
              rw [z, List.getElem?_append_left (List.getElem?_eq_some_iff.mp hα).1]; exact hα
            obtain ⟨Cb, dx2, fvs2, h4, h5, h6⟩ := (w3.ob n p _ hα3 q4).2
            rw [hC] at h4
            cases h4
            obtain ⟨w', x'⟩ := w3.at (o' := .ins c2 (putFD fl (.int (i + j)) fs2)) (ho := .ins Ca dx2 (putF fl (.int (i + j)) fvs2)) hα3 (fun xs z => nomatch z) ⟨Ca, dx2, _, hC, upd_same, h6.putF fl (by rw [Is])⟩ fun o u z => by rw [h5] at z; cases z
            exact ⟨i, j, rfl, rfl, dx2, fvs2, h5, by rw [← h6.len]; exact hl, k (e3.at p _) σ (r.to ((x1.trans x3).trans x') w')⟩
          | _ => cases q
        | _ => cases q
      | _ => cases q
    | _ => cases q
  | _ => cases q
end
end DL
namespace Law
open PySem DL
noncomputable def d_l_mixed : FDen := runD 1 4 (sSeq (sOwn 1 gNil) (sSeq (sSet 2 (gC (.int 1))) (sSeq (sFor (gSeq (gVar 0)) (bName 3) (sSeq (sSet 2 (gOp modD (gOp addD (gOp addD (gOp mulD (gVar 2) (gC (.int 6364136223846793005))) (gVar 3)) (gC (.int 1442695040888963407))) (gC (.int 1000000000000000003)))) (sApp 1 (gVar 2)))) (sSeq (whileD (gT (gOp ltD (gLLen (gO 1)) (gC (.int 48)))) (sSeq (sSet 2 (gOp modD (gOp addD (gOp mulD (gVar 2) (gC (.int 6364136223846793005))) (gC (.int 1442695040888963407))) (gC (.int 1000000000000000003)))) (sApp 1 (gVar 2))) 1000) (sGhost (frz 1) (sRet (gVar 1)))))))
noncomputable def d_l_cell_at : FDen := runD 2 2 (sSeq (sIf (gT (gOp ltD (gVar 1) (gCB lenD (gCons (gVar 0) gNil)))) (sRet (gOp ixD (gVar 0) (gVar 1))) sNext) (sRet (gOp mulD (gOp mulD (gOp addD (gVar 1) (gC (.int 3))) (gOp addD (gVar 1) (gC (.int 7)))) (gC (.int 7919)))))
noncomputable def d_Turns_take : FDen := runD 1 2 (sSeq (sSet 1 (gFld "Turns" "turn" (gVar 0))) (sSeq (sFldInc "Turns" "turn" (gVar 0) (gC (.int 1))) (sRet (gVar 1))))
noncomputable def d_Turns___init__ : FDen := runD 2 2 (sFldD "Turns" "turn" (gVar 0) (gVar 1))
noncomputable def sd_turn_of_of_by_turns : SDen := (sRet (gMeth "Turns" "take" d_Turns_take [] (gVar 1) gNil))
noncomputable def d_by_turns : FDen := dClo "by_turns" "by_turns.<locals>.turn_of" "turns" 0 ⟨18, 4, 19, 27⟩ (gMake "Turns" d_Turns___init__ [] (gCons (gVar 0) gNil))
noncomputable def d_l_whole : FDen := runD 1 1 (sRet (gAndV (gUn (instD "int") (gVar 0)) (gNotV (gUn (instD "bool") (gVar 0)))))
noncomputable def d_first_of : FDen := runD 1 1 (sRet (gC (.int 0)))
noncomputable def d_last_of : FDen := runD 1 1 (sRet (gOp subD (gCB lenD (gCons (gVar 0) gNil)) (gC (.int 1))))
noncomputable def d_law : FDen := runD 1 11 (sSeq (sSet 1 (gCall d_l_mixed (gCons (gVar 0) gNil))) (sSeq (sSet 2 (gCall d_l_cell_at (gCons (gVar 1) (gCons (gC (.int 0)) gNil)))) (sSeq (sSet 3 (gNewM (gCons (gOp subD (gOp modD (gVar 2) (gC (.int 19))) (gC (.int 9))) (gCons (gOp ixD (gLst (gCons (gOp subD (gOp modD (gOp divD (gVar 2) (gC (.int 19))) (gC (.int 19))) (gC (.int 9))) (gCons (gOp modD (gOp divD (gVar 2) (gC (.int 19))) (gOp powD (gC (.int 10)) (gC (.int 9)))) gNil))) (gOp modD (gOp divD (gVar 2) (gC (.int 361))) (gC (.int 2)))) gNil)))) (sSeq (sSet 4 (gLst (gCons (gCall d_by_turns (gCons (gMIx (gVar 3) (gC (.int 0))) gNil)) (gCons (gCall d_by_turns (gCons (gMIx (gVar 3) (gC (.int 1))) gNil)) gNil)))) (sSeq (sFor (gRng rng2 (gCons (gC (.int 1)) (gCons (gOp addD (gC (.int 3)) (gOp modD (gOp divD (gVar 2) (gC (.int 400))) (gC (.int 18)))) gNil))) (bName 5) (sSeq (sSet 6 (gCall d_l_cell_at (gCons (gVar 1) (gCons (gVar 5) gNil)))) (sSeq (sSet 7 (gComp [none, some 6] (gRng rng1 (gCons (gOp addD (gC (.int 1)) (gOp modD (gOp modD (gOp divD (gVar 6) (gC (.int 7))) (gC (.int 40))) (gC (.int 31)))) gNil)) (bName 0) gTrue (gTup (gCons (gVar 0) (gCons (gOp modD (gOp addD (gOp addD (gVar 0) (gC (.int 1))) (gOp modD (gVar 1) (gC (.int 7)))) (gC (.int 32))) gNil))))) (sSeq (sSet 8 (gCB list1D (gCons (gVar 7) gNil))) (sSeq (sSet 9 (gOp modD (gOp divD (gVar 6) (gC (.int 300))) (gC (.int 2)))) (sSeq (sSet 10 (gClo "by_turns" "by_turns.<locals>.turn_of" "turns" (runD 2 2 sd_turn_of_of_by_turns) (gOp ixD (gVar 4) (gVar 9)) (gVar 7))) (sSeq (sIf (gOrT (gNotT (gT (gCall d_l_whole (gCons (gVar 10) gNil)))) (gT (gOp (eqD true) (gVar 10) (gMIx (gVar 3) (gVar 9))))) (sRet (gC (.bl false))) sNext) (sSeq (sSetM (gVar 3) (gVar 9) (gOp addD (gMIx (gVar 3) (gVar 9)) (gC (.int 1)))) (sSeq (sIf (gOrT (gNotT (gT (gCall d_l_whole (gCons (gCall d_first_of (gCons (gVar 7) gNil)) gNil)))) (gOrT (gT (gOp (eqD true) (gCall d_first_of (gCons (gVar 7) gNil)) (gC (.int 0)))) (gT (gOp (eqD true) (gCall d_last_of (gCons (gVar 7) gNil)) (gOp subD (gCB lenD (gCons (gVar 8) gNil)) (gC (.int 1))))))) (sRet (gC (.bl false))) sNext) (sIf (gT (gOp (eqD true) (gVar 7) (gVar 8))) (sRet (gC (.bl false))) sNext)))))))))) (sRet (gC (.bl true))))))))
end Law

namespace Law
open PySem DL
/-! ### k15: the draws, mixed -/
@[simp] theorem atI_0 {β : Type} (a : β) (l : List β) : L2.atI (a :: l) 0 = some a := by
  have := atI_nat' (a :: l) 0 (by simp)
  simpa using this
@[simp] theorem atI_1 {β : Type} (a b : β) (l : List β) : L2.atI (a :: b :: l) 1 = some b := by
  have := atI_nat' (a :: b :: l) 1 (by simp)
  simpa using this
def Cel (x : Int) : Prop := 0 ≤ x ∧ x < 1000000000000000003
@[simp] theorem ap_llen (gl : ADen) (ρ : List Sl) (Ω : List OS) : gLLen gl ρ Ω = match gl ρ Ω with | some (ds, Ω1) => some (.int ds.length, Ω1) | none => none := (rfl)
@[simp] theorem ap_O (i : Nat) (ρ : List Sl) (Ω : List OS) : gO i ρ Ω = match ρ[i]? with | some (.own ds) => some (ds, Ω) | _ => none := (rfl)
theorem mulK (a : Int) : mulD (.int a) (.int 6364136223846793005) = some (.int (a * 6364136223846793005)) := grd_pos (.inr ⟨by decide, by decide⟩)
theorem mixA (X0 : Sl) (Ω : List OS) : ∀ (ns : List Int) (fs : List Int) (m : Int) (x : Sl), fs.length + ns.length ≤ 63 → (∀ x ∈ fs, Cel x) → ∃ (gs : List Int) (m' : Int) (y : Sl), gs.length = fs.length + ns.length ∧ (∀ x ∈ gs, Cel x) ∧
    forD (bName 3) (sSeq (sSet 2 (gOp modD (gOp addD (gOp addD (gOp mulD (gVar 2) (gC (.int 6364136223846793005))) (gVar 3)) (gC (.int 1442695040888963407))) (gC (.int 1000000000000000003)))) (sApp 1 (gVar 2))) (ns.map D.int) [X0, .own (fs.map D.int), .dat (.int m), x] Ω
      = some (.nx [X0, .own (gs.map D.int), .dat (.int m'), y] Ω)
  | [], fs, m, x, _, h => ⟨fs, m, x, by simp, h, rfl⟩
  | n :: ns, fs, m, x, hl, h => by
    rw [List.length_cons] at hl
    have b0 : 0 ≤ (m * 6364136223846793005 + n + 1442695040888963407) % 1000000000000000003 := Int.emod_nonneg _ (by decide)
    have b1 : (m * 6364136223846793005 + n + 1442695040888963407) % 1000000000000000003 < 1000000000000000003 := Int.emod_lt_of_pos _ (by decide)
    obtain ⟨gs, m', y, h1, h2, h3⟩ := mixA X0 Ω ns (fs ++ [(m * 6364136223846793005 + n + 1442695040888963407) % 1000000000000000003]) ((m * 6364136223846793005 + n + 1442695040888963407) % 1000000000000000003) (.dat (.int n)) (by simp; omega) (by
      intro x hx
      rcases List.mem_append.mp hx with z | z
      · exact h x z
      · rw [List.mem_singleton.mp z]; exact ⟨b0, b1⟩)
    refine ⟨gs, m', y, by simp at h1 ⊢; omega, h2, ?_⟩
    have hb : fs.length < 100000 := by omega
    rw [← h3, List.map_cons, for_cons]
    simp [mulK, hb]
theorem mixB (X0 : Sl) (Ω : List OS) : ∀ (k : Nat) (fs : List Int) (m : Int) (x : Sl) (n : Nat), fs.length + k = 48 ∨ (48 ≤ fs.length ∧ k = 0) → fs.length ≤ 63 → k < n → (∀ x ∈ fs, Cel x) → ∃ (gs : List Int) (m' : Int), 48 ≤ gs.length ∧ gs.length ≤ 63 ∧ (∀ x ∈ gs, Cel x) ∧
    whileD (gT (gOp ltD (gLLen (gO 1)) (gC (.int 48)))) (sSeq (sSet 2 (gOp modD (gOp addD (gOp mulD (gVar 2) (gC (.int 6364136223846793005))) (gC (.int 1442695040888963407))) (gC (.int 1000000000000000003)))) (sApp 1 (gVar 2))) n [X0, .own (fs.map D.int), .dat (.int m), x] Ω
      = some (.nx [X0, .own (gs.map D.int), .dat (.int m'), x] Ω)
  | 0, fs, m, x, n, hk, hl, hn, h => by
    obtain ⟨n, rfl⟩ : ∃ j, n = j + 1 := ⟨n - 1, by omega⟩
    have h48 : ¬ ((fs.length : Int) < 48) := by omega
    refine ⟨fs, m, by omega, hl, h, ?_⟩
    rw [while_def]
    simp [h48]
  | k + 1, fs, m, x, n, hk, hl, hn, h => by
    obtain ⟨n, rfl⟩ : ∃ j, n = j + 1 := ⟨n - 1, by omega⟩
    have b0 : 0 ≤ (m * 6364136223846793005 + 1442695040888963407) % 1000000000000000003 := Int.emod_nonneg _ (by decide)
    have b1 : (m * 6364136223846793005 + 1442695040888963407) % 1000000000000000003 < 1000000000000000003 := Int.emod_lt_of_pos _ (by decide)
    obtain ⟨gs, m', h1, h2, h3, h4⟩ := mixB X0 Ω k (fs ++ [(m * 6364136223846793005 + 1442695040888963407) % 1000000000000000003]) ((m * 6364136223846793005 + 1442695040888963407) % 1000000000000000003) x n (by simp; omega) (by simp; omega) (by omega) (by
      intro x hx
      rcases List.mem_append.mp hx with z | z
      · exact h x z
      · rw [List.mem_singleton.mp z]; exact ⟨b0, b1⟩)
    refine ⟨gs, m', h1, h2, h3, ?_⟩
    have h48 : ((fs.length : Int) < 48) := by omega
    have hb : fs.length < 100000 := by omega
    rw [← h4, while_def]
    simp [h48, hb, mulK]
theorem mixed_den {ns : List Int} (hn : ns.length ≤ 63) (Ω : List OS) : ∃ xs : List Int, 48 ≤ xs.length ∧ xs.length ≤ 63 ∧ (∀ x ∈ xs, Cel x) ∧ d_l_mixed [.scr ns] Ω = some (.lst (xs.map D.int), Ω) := by
  obtain ⟨gs, m, y, h1, h2, h3⟩ := mixA (.dat (.scr ns)) Ω ns [] 1 .und (by simpa using hn) (fun x hx => absurd hx List.not_mem_nil)
  rw [List.length_nil, Nat.zero_add] at h1
  obtain ⟨xs, m', g1, g2, g3, g4⟩ := mixB (.dat (.scr ns)) Ω (48 - gs.length) gs m y 1000 (by omega) (by omega) (by omega) h2
  refine ⟨xs, g1, g2, g3, run_rt rfl ?_⟩
  refine (seq_nx (ρ' := [.dat (.scr ns), .own [], .und, .und]) (Ω' := Ω) (by simp)).trans ?_
  refine (seq_nx (ρ' := [.dat (.scr ns), .own [], .dat (.int 1), .und]) (Ω' := Ω) (by simp)).trans ?_
  refine (seq_nx (ρ' := [.dat (.scr ns), .own (gs.map D.int), .dat (.int m), y]) (Ω' := Ω) ?_).trans ?_
  · simp only [ap_for, ap_seq, ap_var, List.getElem?_cons_zero, seq_scr]
    exact h3
  refine (seq_nx g4).trans ?_
  simp [frz]
theorem cell_den {xs : List Int} {k : Nat} (hk : k < xs.length) (Ω : List OS) : d_l_cell_at [.lst (xs.map D.int), .int k] Ω = some (.int xs[k], Ω) := by
  have h1 : (k : Int) < (xs.length : Int) := by omega
  have h2 : L2.atI (xs.map D.int) (k : Int) = some (.int xs[k]) := by rw [atI_map, atI_nat' _ _ hk]; rfl
  refine run_rt rfl (seq_rt ?_)
  simp [h1, h2]
end Law
namespace Law
open PySem DL
/-! ### k38: turns -/
theorem run_nxT {n m : Nat} {s : SDen} {ds : List D} {ρ' : List Sl} {Ω Ω' : List OS} (hl : ds.length = n) (h : s (ds.map Sl.dat ++ List.replicate (m - n) Sl.und) Ω = some (.nx ρ' Ω')) : runD n m s ds Ω = some (.non, Ω') := by
  rw [ap_run, if_pos hl, h]
def tb : OS := .tab "by_turns" ⟨18, 4, 19, 27⟩ "by_turns.<locals>.turn_of"
def tu (a : Int) : OS := .ins "Turns" [("turn", .int a)]
def cl (m : Nat) : OS := .clo "by_turns" "by_turns.<locals>.turn_of" "turns" m
theorem init_den (Ω : List OS) (a : Int) : d_Turns___init__ [.obj Ω.length, .int a] (Ω ++ [.ins "Turns" []]) = some (.non, Ω ++ [tu a]) := by
  refine run_nxT (ρ' := [.dat (.obj Ω.length), .dat (.int a)]) rfl ?_
  simp [tu, putFD]
theorem make_den (Ω : List OS) (a : Int) (r : List Sl) : gMake "Turns" d_Turns___init__ [] (gCons (gVar 0) gNil) (.dat (.int a) :: r) Ω = some (.obj Ω.length, Ω ++ [tu a]) := by
  have e := init_den Ω a
  simp [e]
theorem by_den (Ω : List OS) (a : Int) : d_by_turns [.int a] (tb :: Ω) = some (.obj (Ω.length + 2), (tb :: Ω) ++ [tu a, cl (Ω.length + 1)]) := by
  unfold d_by_turns dClo
  dsimp only
  rw [make_den]
  simp [tb, cl]
theorem take_den {Ω : List OS} {m : Nat} {a : Int} (h : Ω[m]? = some (tu a)) : d_Turns_take [.obj m] Ω = some (.int a, Ω.set m (tu (a + 1))) := by
  have h' : Ω[m]? = some (.ins "Turns" [("turn", .int a)]) := h
  refine run_rt rfl ?_
  refine (seq_nx (ρ' := [.dat (.obj m), .dat (.int a)]) (Ω' := Ω) (by simp [h'])).trans ?_
  refine (seq_nx (ρ' := [.dat (.obj m), .dat (.int a)]) (Ω' := Ω.set m (tu (a + 1))) ?_).trans (by simp)
  unfold sFldInc
  simp [h', putFD, tu]
theorem turn_den {Ω : List OS} {m : Nat} {a : Int} (d : D) (h : Ω[m]? = some (tu a)) : runD 2 2 sd_turn_of_of_by_turns [d, .obj m] Ω = some (.int a, Ω.set m (tu (a + 1))) := by
  have h' : Ω[m]? = some (.ins "Turns" [("turn", .int a)]) := h
  refine run_rt rfl ?_
  have e := take_den h
  have b : (("take" : Str) == "turn") = false := by decide
  unfold sd_turn_of_of_by_turns
  simp [h', e, List.lookup_cons, b]
theorem whole_den (i : Int) (Ω : List OS) : d_l_whole [.int i] Ω = some (.bl true, Ω) := by
  refine run_rt rfl ?_
  simp [instD, tyD]
theorem first_den (d : D) (Ω : List OS) : d_first_of [d] Ω = some (.int 0, Ω) := run_rt rfl (by simp)
theorem last_den (ws : List D) (Ω : List OS) : d_last_of [.lst ws] Ω = some (.int (ws.length - 1), Ω) := run_rt rfl (by simp)
/-- the objects of the law -/
def Ωs (a b : Int) : List OS := [tb, .mls [.int a, .int b], tu a, cl 2, tu b, cl 4]
theorem comp_D {g : Den} {rest : List Sl} {P : D → Prop} (Ω : List OS) : ∀ (ks : List Int) (x : Sl), (∀ k ∈ ks, ∃ v, P v ∧ g (.dat (.int k) :: rest) Ω = some (v, Ω)) → ∃ vs : List D, vs.length = ks.length ∧ (∀ v ∈ vs, P v) ∧ compD (bName 0) gTrue g (ks.map D.int) (x :: rest) Ω = some (vs, Ω)
  | [], x, _ => ⟨[], rfl, fun _ h => (nomatch h), rfl⟩
  | k :: ks, x, h => by
    obtain ⟨v, hv, e⟩ := h k List.mem_cons_self
    obtain ⟨vs, h1, h2, h3⟩ := comp_D Ω ks (.dat (.int k)) fun k' hk' => h k' (List.mem_cons_of_mem _ hk')
    refine ⟨v :: vs, by simp [h1], fun u hu => ?_, ?_⟩
    · rcases List.mem_cons.mp hu with rfl | hu
      · exact hv
      · exact h2 u hu
    · rw [List.map_cons, comp_cons]
      simp [e, h3]
def Pr (d : D) : Prop := ∃ i j : Int, d = .tup [.int i, .int j]
theorem upD_intsT (lo : Int) (n : Nat) : upD lo n = ((List.range n).map fun (k : Nat) => lo + (k : Int)).map D.int := by simp [upD]
theorem pl_prs : ∀ {ws : List D}, (∀ w ∈ ws, Pr w) → plL ws = true ∧ depL ws ≤ 1
  | [], _ => ⟨rfl, Nat.zero_le _⟩
  | w :: ws, h => by
    obtain ⟨i, j, rfl⟩ := h w List.mem_cons_self
    obtain ⟨h1, h2⟩ := pl_prs fun v hv => h v (List.mem_cons_of_mem _ hv)
    refine ⟨?_, ?_⟩
    · rw [plL, h1]; simp [pl, plL]
    · rw [depL]
      have : dep (.tup [.int i, .int j]) = 1 := by simp [dep, depL]
      omega
theorem kept_same {ws : List D} (h : ∀ w ∈ ws, Pr w) : eqD true (.lst ws) (.lst ws) = some (.bl false) := by
  obtain ⟨h1, h2⟩ := pl_prs h
  exact eq_self_pl true (p := .lst ws) (by rw [pl]; exact h1) (by rw [dep]; omega)
theorem wait_den (c : Int) (r : List Sl) (Ω : List OS) (x0 x1 x2 x3 x4 x5 : Sl) : ∃ ws : List D, (∀ w ∈ ws, Pr w) ∧ ws.length ≤ 31 ∧
    gComp [none, some 6] (gRng rng1 (gCons (gOp addD (gC (.int 1)) (gOp modD (gOp modD (gOp divD (gVar 6) (gC (.int 7))) (gC (.int 40))) (gC (.int 31)))) gNil)) (bName 0) gTrue (gTup (gCons (gVar 0) (gCons (gOp modD (gOp addD (gOp addD (gVar 0) (gC (.int 1))) (gOp modD (gVar 1) (gC (.int 7)))) (gC (.int 32))) gNil))) (x0 :: x1 :: x2 :: x3 :: x4 :: x5 :: .dat (.int c) :: r) Ω = some (.lst ws, Ω) := by
  have b0 : 0 ≤ c / 7 % 40 % 31 := Int.emod_nonneg _ (by decide)
  have b1 : c / 7 % 40 % 31 < 31 := Int.emod_lt_of_pos _ (by decide)
  obtain ⟨n, hn⟩ : ∃ n : Nat, (n : Int) = 1 + c / 7 % 40 % 31 := ⟨(1 + c / 7 % 40 % 31).toNat, by omega⟩
  have er : rng1 [.int (1 + c / 7 % 40 % 31)] = some (upD 0 n) := by
    rw [rng_1 (by omega) (by omega), ← hn]; simp
  obtain ⟨ws, h1, h2, h3⟩ := comp_D (g := gTup (gCons (gVar 0) (gCons (gOp modD (gOp addD (gOp addD (gVar 0) (gC (.int 1))) (gOp modD (gVar 1) (gC (.int 7)))) (gC (.int 32))) gNil))) (rest := [.dat (.int c)]) (P := Pr) Ω ((List.range n).map fun (k : Nat) => (0 : Int) + (k : Int)) .und (fun k _ => ⟨.tup [.int k, .int ((k + 1 + c % 7) % 32)], ⟨k, _, rfl⟩, by simp⟩)
  have hl : ws.length = n := by rw [h1]; simp
  refine ⟨ws, h2, by omega, ?_⟩
  rw [← upD_intsT] at h3
  have hu : (upD 0 n).length ≤ 100000 := by simp [upD]; omega
  rw [ap_comp]
  have hu' : n ≤ 100000 := by omega
  simp [er, hu', innerD, h3]
/-- one turn of the law's loop -/
noncomputable def Bd : SDen := (sSeq (sSet 6 (gCall d_l_cell_at (gCons (gVar 1) (gCons (gVar 5) gNil)))) (sSeq (sSet 7 (gComp [none, some 6] (gRng rng1 (gCons (gOp addD (gC (.int 1)) (gOp modD (gOp modD (gOp divD (gVar 6) (gC (.int 7))) (gC (.int 40))) (gC (.int 31)))) gNil)) (bName 0) gTrue (gTup (gCons (gVar 0) (gCons (gOp modD (gOp addD (gOp addD (gVar 0) (gC (.int 1))) (gOp modD (gVar 1) (gC (.int 7)))) (gC (.int 32))) gNil))))) (sSeq (sSet 8 (gCB list1D (gCons (gVar 7) gNil))) (sSeq (sSet 9 (gOp modD (gOp divD (gVar 6) (gC (.int 300))) (gC (.int 2)))) (sSeq (sSet 10 (gClo "by_turns" "by_turns.<locals>.turn_of" "turns" (runD 2 2 sd_turn_of_of_by_turns) (gOp ixD (gVar 4) (gVar 9)) (gVar 7))) (sSeq (sIf (gOrT (gNotT (gT (gCall d_l_whole (gCons (gVar 10) gNil)))) (gT (gOp (eqD true) (gVar 10) (gMIx (gVar 3) (gVar 9))))) (sRet (gC (.bl false))) sNext) (sSeq (sSetM (gVar 3) (gVar 9) (gOp addD (gMIx (gVar 3) (gVar 9)) (gC (.int 1)))) (sSeq (sIf (gOrT (gNotT (gT (gCall d_l_whole (gCons (gCall d_first_of (gCons (gVar 7) gNil)) gNil)))) (gOrT (gT (gOp (eqD true) (gCall d_first_of (gCons (gVar 7) gNil)) (gC (.int 0)))) (gT (gOp (eqD true) (gCall d_last_of (gCons (gVar 7) gNil)) (gOp subD (gCB lenD (gCons (gVar 8) gNil)) (gC (.int 1))))))) (sRet (gC (.bl false))) sNext) (sIf (gT (gOp (eqD true) (gVar 7) (gVar 8))) (sRet (gC (.bl false))) sNext)))))))))
abbrev Rho (ns xs : List Int) (c : Int) (x5 x6 x7 x8 x9 x10 : Sl) : List Sl := [.dat (.scr ns), .dat (.lst (xs.map D.int)), .dat (.int c), .dat (.obj 1), .dat (.lst [.obj 3, .obj 5]), x5, x6, x7, x8, x9, x10]
theorem eqI (i : Int) : eqD true (.int i) (.int i) = some (.bl false) := eq_self_pl true (p := .int i) rfl (Nat.zero_le _)
theorem body_den {ns xs : List Int} {c a b : Int} {k : Nat} (hk : k < xs.length) (x6 x7 x8 x9 x10 : Sl) : ∃ (a' b' : Int) (y6 y7 y8 y9 y10 : Sl), Bd (Rho ns xs c (.dat (.int k)) x6 x7 x8 x9 x10) (Ωs a b) = some (.nx (Rho ns xs c (.dat (.int k)) y6 y7 y8 y9 y10) (Ωs a' b')) := by
  have ec := cell_den hk (Ωs a b)
  generalize xs[k] = s at ec
  obtain ⟨ws, hw, hl, ew⟩ := wait_den s [x7, x8, x9, x10] (Ωs a b) (.dat (.scr ns)) (.dat (.lst (xs.map D.int))) (.dat (.int c)) (.dat (.obj 1)) (.dat (.lst [.obj 3, .obj 5])) (.dat (.int k))
  have hs : s / 300 % 2 = 0 ∨ s / 300 % 2 = 1 := by omega
  have ek := kept_same hw
  have pre : ∀ {t : SDen}, sSeq (sSet 6 (gCall d_l_cell_at (gCons (gVar 1) (gCons (gVar 5) gNil)))) t (Rho ns xs c (.dat (.int k)) x6 x7 x8 x9 x10) (Ωs a b) = t (Rho ns xs c (.dat (.int k)) (.dat (.int s)) x7 x8 x9 x10) (Ωs a b) := seq_nx (by simp [ec])
  rcases hs with h0 | h1
  · refine ⟨a + 1, b, .dat (.int s), .dat (.lst ws), .dat (.lst ws), .dat (.int 0), .dat (.int a), ?_⟩
    have et := turn_den (.lst ws) (Ω := Ωs a b) (m := 2) (a := a) rfl
    have hset : (Ωs a b).set 2 (tu (a + 1)) = [tb, .mls [.int a, .int b], tu (a + 1), cl 2, tu b, cl 4] := rfl
    unfold Bd
    rw [pre]
    refine (seq_nx (ρ' := Rho ns xs c (.dat (.int k)) (.dat (.int s)) (.dat (.lst ws)) x8 x9 x10) (Ω' := Ωs a b) (by rw [ap_set, ew]; rfl)).trans ?_
    refine (seq_nx (ρ' := Rho ns xs c (.dat (.int k)) (.dat (.int s)) (.dat (.lst ws)) (.dat (.lst ws)) x9 x10) (Ω' := Ωs a b) (by simp [list1D])).trans ?_
    refine (seq_nx (ρ' := Rho ns xs c (.dat (.int k)) (.dat (.int s)) (.dat (.lst ws)) (.dat (.lst ws)) (.dat (.int 0)) x10) (Ω' := Ωs a b) (by simp [h0])).trans ?_
    refine (seq_nx (ρ' := Rho ns xs c (.dat (.int k)) (.dat (.int s)) (.dat (.lst ws)) (.dat (.lst ws)) (.dat (.int 0)) (.dat (.int a))) (Ω' := [tb, .mls [.int a, .int b], tu (a + 1), cl 2, tu b, cl 4]) (by
      rw [← hset, ap_set]
      unfold gClo
      have e : (Ωs a b)[3]? = some (.clo "by_turns" "by_turns.<locals>.turn_of" "turns" 2) := rfl
      simp [e, et])).trans ?_
    refine (seq_nx (ρ' := Rho ns xs c (.dat (.int k)) (.dat (.int s)) (.dat (.lst ws)) (.dat (.lst ws)) (.dat (.int 0)) (.dat (.int a))) (Ω' := [tb, .mls [.int a, .int b], tu (a + 1), cl 2, tu b, cl 4]) (by
      simp [whole_den, gMIx, objN, intN, mlsO, eqI])).trans ?_
    refine (seq_nx (ρ' := Rho ns xs c (.dat (.int k)) (.dat (.int s)) (.dat (.lst ws)) (.dat (.lst ws)) (.dat (.int 0)) (.dat (.int a))) (Ω' := Ωs (a + 1) b) (by
      simp [sSetM, gMIx, objN, intN, mlsO, L2.ixN, Ωs])).trans ?_
    refine (seq_nx (ρ' := Rho ns xs c (.dat (.int k)) (.dat (.int s)) (.dat (.lst ws)) (.dat (.lst ws)) (.dat (.int 0)) (.dat (.int a))) (Ω' := Ωs (a + 1) b) (by
      simp [whole_den, first_den, last_den, eqI])).trans ?_
    simp [ek]
  · refine ⟨a, b + 1, .dat (.int s), .dat (.lst ws), .dat (.lst ws), .dat (.int 1), .dat (.int b), ?_⟩
    have et := turn_den (.lst ws) (Ω := Ωs a b) (m := 4) (a := b) rfl
    have hset : (Ωs a b).set 4 (tu (b + 1)) = [tb, .mls [.int a, .int b], tu a, cl 2, tu (b + 1), cl 4] := rfl
    unfold Bd
    rw [pre]
    refine (seq_nx (ρ' := Rho ns xs c (.dat (.int k)) (.dat (.int s)) (.dat (.lst ws)) x8 x9 x10) (Ω' := Ωs a b) (by rw [ap_set, ew]; rfl)).trans ?_
    refine (seq_nx (ρ' := Rho ns xs c (.dat (.int k)) (.dat (.int s)) (.dat (.lst ws)) (.dat (.lst ws)) x9 x10) (Ω' := Ωs a b) (by simp [list1D])).trans ?_
    refine (seq_nx (ρ' := Rho ns xs c (.dat (.int k)) (.dat (.int s)) (.dat (.lst ws)) (.dat (.lst ws)) (.dat (.int 1)) x10) (Ω' := Ωs a b) (by simp [h1])).trans ?_
    refine (seq_nx (ρ' := Rho ns xs c (.dat (.int k)) (.dat (.int s)) (.dat (.lst ws)) (.dat (.lst ws)) (.dat (.int 1)) (.dat (.int b))) (Ω' := [tb, .mls [.int a, .int b], tu a, cl 2, tu (b + 1), cl 4]) (by
      rw [← hset, ap_set]
      unfold gClo
      have e : (Ωs a b)[5]? = some (.clo "by_turns" "by_turns.<locals>.turn_of" "turns" 4) := rfl
      simp [e, et])).trans ?_
    refine (seq_nx (ρ' := Rho ns xs c (.dat (.int k)) (.dat (.int s)) (.dat (.lst ws)) (.dat (.lst ws)) (.dat (.int 1)) (.dat (.int b))) (Ω' := [tb, .mls [.int a, .int b], tu a, cl 2, tu (b + 1), cl 4]) (by
      simp [whole_den, gMIx, objN, intN, mlsO, eqI])).trans ?_
    refine (seq_nx (ρ' := Rho ns xs c (.dat (.int k)) (.dat (.int s)) (.dat (.lst ws)) (.dat (.lst ws)) (.dat (.int 1)) (.dat (.int b))) (Ω' := Ωs a (b + 1)) (by
      simp [sSetM, gMIx, objN, intN, mlsO, L2.ixN, Ωs])).trans ?_
    refine (seq_nx (ρ' := Rho ns xs c (.dat (.int k)) (.dat (.int s)) (.dat (.lst ws)) (.dat (.lst ws)) (.dat (.int 1)) (.dat (.int b))) (Ω' := Ωs a (b + 1)) (by
      simp [whole_den, first_den, last_den, eqI])).trans ?_
    simp [ek]
theorem loop_den {ns xs : List Int} {c : Int} : ∀ (ks : List Nat) (a b : Int) (x5 x6 x7 x8 x9 x10 : Sl), (∀ k ∈ ks, k < xs.length) → ∃ ρ' Ω', forD (bName 5) Bd (ks.map fun (k : Nat) => D.int k) (Rho ns xs c x5 x6 x7 x8 x9 x10) (Ωs a b) = some (.nx ρ' Ω')
  | [], a, b, x5, x6, x7, x8, x9, x10, _ => ⟨_, _, rfl⟩
  | k :: ks, a, b, x5, x6, x7, x8, x9, x10, h => by
    obtain ⟨a', b', y6, y7, y8, y9, y10, e⟩ := body_den (ns := ns) (c := c) (a := a) (b := b) (h k List.mem_cons_self) x6 x7 x8 x9 x10
    obtain ⟨ρ', Ω', e2⟩ := loop_den ks a' b' (.dat (.int k)) y6 y7 y8 y9 y10 fun j hj => h j (List.mem_cons_of_mem _ hj)
    refine ⟨ρ', Ω', ?_⟩
    rw [List.map_cons, for_cons]
    have e1 : bName 5 (.int k) (Rho ns xs c x5 x6 x7 x8 x9 x10) = some (Rho ns xs c (.dat (.int k)) x6 x7 x8 x9 x10) := rfl
    rw [e1]
    dsimp only
    rw [e]
    exact e2
theorem holds (ns : List Int) (hn : ns.length ≤ 63) : ∃ Ω, d_law [.scr ns] [.tab "by_turns" ⟨18, 4, 19, 27⟩ "by_turns.<locals>.turn_of"] = some (.bl true, Ω) := by
  show ∃ Ω, d_law [.scr ns] [tb] = some (.bl true, Ω)
  obtain ⟨xs, x1, x2, x3, ex⟩ := mixed_den hn [tb]
  have e0 : d_l_cell_at [.lst (xs.map D.int), .int 0] [tb] = some (.int xs[0], [tb]) := cell_den (xs := xs) (k := 0) (by omega) [tb]
  generalize xs[0] = c at e0
  obtain ⟨m, hm⟩ : ∃ m : Nat, (m : Int) = 2 + c / 400 % 18 := ⟨(2 + c / 400 % 18).toNat, by omega⟩
  obtain ⟨b, es⟩ : ∃ b : Int, gNewM (gCons (gOp subD (gOp modD (gVar 2) (gC (.int 19))) (gC (.int 9))) (gCons (gOp ixD (gLst (gCons (gOp subD (gOp modD (gOp divD (gVar 2) (gC (.int 19))) (gC (.int 19))) (gC (.int 9))) (gCons (gOp modD (gOp divD (gVar 2) (gC (.int 19))) (gOp powD (gC (.int 10)) (gC (.int 9)))) gNil))) (gOp modD (gOp divD (gVar 2) (gC (.int 361))) (gC (.int 2)))) gNil)) [.dat (.scr ns), .dat (.lst (xs.map D.int)), .dat (.int c), .und, .und, .und, .und, .und, .und, .und, .und] [tb] = some (.obj 1, [tb, .mls [.int (c % 19 - 9), .int b]]) := by
    have hp : powD (.int 10) (.int 9) = some (.int 1000000000) := by first | rfl | (simp [powD]; done) | exact grd_pos (by decide)
    have h2 : c / 361 % 2 = 0 ∨ c / 361 % 2 = 1 := by omega
    rcases h2 with h | h
    · exact ⟨c / 19 % 19 - 9, by simp [gNewM, hp, h, big]⟩
    · exact ⟨c / 19 % 1000000000, by simp [gNewM, hp, h, big]⟩
  obtain ⟨ρ', Ω', el⟩ := loop_den (ns := ns) (xs := xs) (c := c) ((List.range m).map fun k => k + 1) (c % 19 - 9) b .und .und .und .und .und .und (fun k hk => by
    obtain ⟨j, hj, rfl⟩ := List.mem_map.mp hk
    have := List.mem_range.mp hj
    omega)
  have er : rng2 [.int 1, .int (3 + c / 400 % 18)] = some (upD 1 m) := by
    rw [rng_2 (by decide) (by decide) (by omega) (by omega)]
    congr 2
    omega
  have eu : upD 1 m = ((List.range m).map fun k => k + 1).map fun (k : Nat) => D.int k := by
    unfold upD
    rw [List.map_map]
    apply List.map_congr_left
    intro k _
    show D.int (1 + (k : Int)) = D.int ((k + 1 : Nat) : Int)
    congr 1
    omega
  have b1 := by_den [.mls [.int (c % 19 - 9), .int b]] (c % 19 - 9)
  have b2 := by_den [.mls [.int (c % 19 - 9), .int b], tu (c % 19 - 9), cl 2] b
  refine ⟨Ω', run_rt rfl ?_⟩
  refine (seq_nx (ρ' := [.dat (.scr ns), .dat (.lst (xs.map D.int)), .und, .und, .und, .und, .und, .und, .und, .und, .und]) (Ω' := [tb]) (by simp [ex])).trans ?_
  refine (seq_nx (ρ' := [.dat (.scr ns), .dat (.lst (xs.map D.int)), .dat (.int c), .und, .und, .und, .und, .und, .und, .und, .und]) (Ω' := [tb]) (by simp [e0])).trans ?_
  refine (seq_nx (ρ' := [.dat (.scr ns), .dat (.lst (xs.map D.int)), .dat (.int c), .dat (.obj 1), .und, .und, .und, .und, .und, .und, .und]) (Ω' := [tb, .mls [.int (c % 19 - 9), .int b]]) (by rw [ap_set, es]; rfl)).trans ?_
  refine (seq_nx (ρ' := Rho ns xs c .und .und .und .und .und .und) (Ω' := Ωs (c % 19 - 9) b) (by
    simp at b1 b2
    simp [gMIx, objN, intN, mlsO, b1, b2, Ωs])).trans ?_
  refine (seq_nx (ρ' := ρ') (Ω' := Ω') ?_).trans (by simp)
  rw [ap_for]
  have eγ : gRng rng2 (gCons (gC (.int 1)) (gCons (gOp addD (gC (.int 3)) (gOp modD (gOp divD (gVar 2) (gC (.int 400))) (gC (.int 18)))) gNil)) (Rho ns xs c .und .und .und .und .und .und) (Ωs (c % 19 - 9) b) = some (upD 1 m, Ωs (c % 19 - 9) b) := by simp [er]
  rw [eγ, eu]
  exact el
end Law
namespace Law
open PySem PySem.Spec PyProof.Rows L2 DL
set_option maxHeartbeats 4000000
seal PD PDA PDS PDB PDT PDI PDG RD RDS RDB PV
def top (i : Nat) : Stmt := PySem.Challenge.pw_posthouse_k38_picks.main.body.getD i (.Pass ⟨0, 0, 0, 0⟩)
abbrev s_l_mixed : Stmt := top 6
abbrev s_l_cell_at : Stmt := top 7
abbrev s_Turns_take : Stmt := inClass (top 1) 1
abbrev s_Turns___init__ : Stmt := inClass (top 1) 0
abbrev s_by_turns : Stmt := top 4
abbrev s_l_whole : Stmt := top 9
abbrev s_first_of : Stmt := top 2
abbrev s_last_of : Stmt := top 3
abbrev s_law : Stmt := top 11
section
variable {P : Program} {w : World} {K : PySem.W.Frag} {mg : Str → Option Value} {base : Heap} {C : Cl}
theorem kit_bool : ∀ t ∈ ["NoneType", "bool", "int", "str", "tuple", "list"], PySem.W.kitOne K (.type t) (.type "bool") = some (decide (t = "bool") || (decide (t = "bool") && decide ("bool" = "int"))) := by
  intro t ht
  simp only [List.mem_cons, List.not_mem_nil, or_false] at ht
  rcases ht with rfl | rfl | rfl | rfl | rfl | rfl <;> rfl
theorem kit_int : ∀ t ∈ ["NoneType", "bool", "int", "str", "tuple", "list"], PySem.W.kitOne K (.type t) (.type "int") = some (decide (t = "int") || (decide (t = "bool") && decide ("int" = "int"))) := by
  intro t ht
  simp only [List.mem_cons, List.not_mem_nil, or_false] at ht
  rcases ht with rfl | rfl | rfl | rfl | rfl | rfl <;> rfl
theorem kit_list : ∀ t ∈ ["NoneType", "bool", "int", "str", "tuple", "list"], PySem.W.kitOne K (.type t) (.type "list") = some (decide (t = "list") || (decide (t = "bool") && decide ("list" = "int"))) := by
  intro t ht
  simp only [List.mem_cons, List.not_mem_nil, or_false] at ht
  rcases ht with rfl | rfl | rfl | rfl | rfl | rfl <;> rfl
theorem sc_l_mixed : FnScope ["_law_script", "_law_found", "_law_more", "_law_cell"] ["_law_script"] (defScope s_l_mixed) := ⟨rfl, rfl, rfl, by decide +kernel, rfl, by decide +kernel, by decide +kernel⟩
theorem ok_l_mixed (T : TF K mg "_law_mixed" s_l_mixed) (b_len : mg "len" = none) : Fn P w K mg base C 1 "_law_mixed" d_l_mixed :=
  fn_F T sc_l_mixed rfl rfl (fun _ _ _ _ _ _ us hl => len1 us hl (fun _ => rfl)) fun f cdv A outer sh H E hr =>
    have nd : (cxOf CX0 P w K mg base ["_law_script", "_law_found", "_law_more", "_law_cell"] "_law_mixed" (defScope s_l_mixed) f cdv A outer sh H E).nox.N.Nodup := sc_l_mixed.nd
    (pdb_cons (pds_own (i := 1) nd rfl (by first | exact Or.inl rfl | exact Or.inr rfl) pda_nil) (pdb_cons (pds_set (i := 2) nd rfl (by first | exact Or.inl rfl | exact Or.inr rfl) pd_int) (pdb_cons (pds_for PassesOwn.never rfl (pdi_list (pd_var (pv 0))) (pdg_name nd rfl (by first | exact Or.inl rfl | exact Or.inr rfl)) (pdb_cons (pds_set (i := 2) nd rfl (by first | exact Or.inl rfl | exact Or.inr rfl) (pd_op opD_mod (pd_op opD_add (pd_op opD_add (pd_op opD_mul (pd_var (pv 2)) pd_int) (pd_var (pv 3))) pd_int) pd_int)) (pdb_one (pds_app (pv 1) (pd_var (pv 2)))))) (pdb_cons (pds_while 1000 PassesOwn.never (pdt_cmp opD_lt (pl_len rfl b_len PySem.boot_len (pdl_own (pv 1))) pd_int (nomark _)) (pdb_cons (pds_set (i := 2) nd rfl (by first | exact Or.inl rfl | exact Or.inr rfl) (pd_op opD_mod (pd_op opD_add (pd_op opD_mul (pd_var (pv 2)) pd_int) pd_int) pd_int)) (pdb_one (pds_app (pv 1) (pd_var (pv 2)))))) (pdb_ghost (ghost_frz 1) (pdb_one (pds_ret (pd_var (pv 1)))))))))
theorem sc_l_cell_at : FnScope ["_law_cells", "_law_k"] ["_law_cells", "_law_k"] (defScope s_l_cell_at) := ⟨rfl, rfl, rfl, by decide +kernel, rfl, by decide +kernel, by decide +kernel⟩
theorem ok_l_cell_at (T : TF K mg "_law_cell_at" s_l_cell_at) (b_len : mg "len" = none) : Fn P w K mg base C 1 "_law_cell_at" d_l_cell_at :=
  fn_F T sc_l_cell_at rfl rfl (fun _ _ _ _ _ _ us hl => len2 us hl (fun _ _ => rfl)) fun f cdv A outer sh H E hr =>
    have nd : (cxOf CX0 P w K mg base ["_law_cells", "_law_k"] "_law_cell_at" (defScope s_l_cell_at) f cdv A outer sh H E).nox.N.Nodup := sc_l_cell_at.nd
    (pdb_cons (pds_if (pdt_cmp opD_lt (pd_var (pv 1)) (pd_callB callD_len rfl b_len PySem.boot_len (pda_cons (pd_var (pv 0)) pda_nil)) (nomark _)) (pdb_one (pds_ret (pd_ix (pd_var (pv 0)) (pd_var (pv 1))))) pdb_nil) (pdb_one (pds_ret (pd_op opD_mul (pd_op opD_mul (pd_op opD_add (pd_var (pv 1)) pd_int) (pd_op opD_add (pd_var (pv 1)) pd_int)) pd_int))))
theorem sc_Turns_take : FnScope ["self", "turn"] ["self"] (defScope s_Turns_take) := ⟨rfl, rfl, rfl, by decide +kernel, rfl, by decide +kernel, by decide +kernel⟩
theorem ok_Turns_take {dV : Value} {f : Addr} {fd : FuncData} (F : FunV K "take" "Turns.take" s_Turns_take dV f fd) (T_Turns : ClD K C "Turns") (n_Turns_turn : NoA K C "Turns" "turn") : FnOk P w K mg base CX0 1 f fd ["self"] (spD K C d_Turns_take) :=
  fn_DV F sc_Turns_take rfl rfl fun cdv A outer sh H E hr =>
    have nd : (cxOf CX0 P w K mg base ["self", "turn"] "Turns.take" (defScope s_Turns_take) f cdv A outer sh H E).nox.N.Nodup := sc_Turns_take.nd
    (pdb_cons (pds_set (i := 1) nd rfl (by first | exact Or.inl rfl | exact Or.inr rfl) (pd_fld T_Turns n_Turns_turn (pd_var (pv 0)))) (pdb_cons (pds_fldinc T_Turns n_Turns_turn (pd_var (pv 0)) pd_int) (pdb_one (pds_ret (pd_var (pv 1))))))
theorem sc_Turns___init__ : FnScope ["self", "start"] ["self", "start"] (defScope s_Turns___init__) := ⟨rfl, rfl, rfl, by decide +kernel, rfl, by decide +kernel, by decide +kernel⟩
theorem ok_Turns___init__ {dV : Value} {f : Addr} {fd : FuncData} (F : FunV K "__init__" "Turns.__init__" s_Turns___init__ dV f fd) (T_Turns : ClD K C "Turns") (n_Turns_turn : NoA K C "Turns" "turn") : FnOk P w K mg base CX0 1 f fd ["self", "start"] (spD K C d_Turns___init__) :=
  fn_DV F sc_Turns___init__ rfl rfl fun cdv A outer sh H E hr =>
    have nd : (cxOf CX0 P w K mg base ["self", "start"] "Turns.__init__" (defScope s_Turns___init__) f cdv A outer sh H E).nox.N.Nodup := sc_Turns___init__.nd
    (pdb_one (pds_fld T_Turns n_Turns_turn (pd_var (pv 0)) (pd_var (pv 1))))
abbrev ns_by_turns : Stmt := (defBody s_by_turns).getD 1 (.Pass ⟨0, 0, 0, 0⟩)
theorem cs_turn_of_of_by_turns : CloScope "waiting" "turns" (defScope ns_by_turns) := cloScope rfl rfl rfl (by decide +kernel) rfl rfl (by decide +kernel) (by decide +kernel)
theorem bd_turn_of_of_by_turns  (M_Turns_take_0 : Mt P w K mg base C 1 "Turns" "take" d_Turns_take []) {f : Addr} {cdv : Value} {cl : List (Str × Addr)} {A : Around} {outer : List Env} {sh : Shared} {H : Hp} (hr : Room 1 (A.deeper (PySem.W.envX "by_turns.<locals>.turn_of" (defScope ns_by_turns) sh.heap.objs.size f cdv cl))) : PDB (cxX P w K mg base ["waiting", "turns"] "by_turns.<locals>.turn_of" (defScope ns_by_turns) f cdv cl A outer sh H) C (defBody ns_by_turns) sd_turn_of_of_by_turns :=
  have nd : (cxX P w K mg base ["waiting", "turns"] "by_turns.<locals>.turn_of" (defScope ns_by_turns) f cdv cl A outer sh H).N.Nodup := (by decide +kernel : (["waiting", "turns"] : List Str).Nodup)
  (pdb_one (pds_ret (pd_meth0 M_Turns_take_0 (hr.mono (by decide)) (pd_var (pv 1)))))
theorem sc_by_turns : FnScope ["start", "turns", "turn_of"] ["start"] (defScope s_by_turns) := ⟨rfl, rfl, rfl, by decide +kernel, rfl, by decide +kernel, by decide +kernel⟩
theorem ok_by_turns {f : Addr} {fd : FuncData} (F : Fun K "by_turns" "by_turns" s_by_turns f fd) (hm : mg "by_turns" = some (.ref f)) (ha : PySem.W.nsIn K mainGlobals "by_turns" = some (some (.ref f))) (NA : NestAt K mg base "by_turns") (K_Turns : MkD P w K mg base C 1 "Turns" d_Turns___init__ []) : Fn P w K mg base C 3 "by_turns" d_by_turns :=
  ⟨f, fd, ["start"], hm, F.kp, F.binds (fun _ _ _ _ _ _ us hl => len1 us hl (fun _ => rfl)), fn_cloF F ha sc_by_turns rfl rfl (fun cdv A outer sh H E hr =>
    have nd : (cxOf CX0 P w K mg base ["start", "turns", "turn_of"] "by_turns" (defScope s_by_turns) f cdv A outer sh H E).nox.N.Nodup := sc_by_turns.nd
    (pds_set (i := 1) nd rfl (by first | exact Or.inl rfl | exact Or.inr rfl) (pd_make K_Turns (hr.mono (by decide)) rfl (pda_cons (pd_var (pv 0)) pda_nil)))) NA rfl rfl (fun _ _ _ => rfl) (fun _ => rfl) (fun _ _ _ => rfl) rfl rfl (fun _ _ _ => rfl)⟩
theorem sc_l_whole : FnScope ["_law_found"] ["_law_found"] (defScope s_l_whole) := ⟨rfl, rfl, rfl, by decide +kernel, rfl, by decide +kernel, by decide +kernel⟩
theorem ok_l_whole (T : TF K mg "_law_whole" s_l_whole) (b_bool : mg "bool" = none) (b_int : mg "int" = none) (b_isinstance : mg "isinstance" = none) : Fn P w K mg base C 1 "_law_whole" d_l_whole :=
  fn_F T sc_l_whole rfl rfl (fun _ _ _ _ _ _ us hl => len1 us hl (fun _ => rfl)) fun f cdv A outer sh H E hr =>
    have nd : (cxOf CX0 P w K mg base ["_law_found"] "_law_whole" (defScope s_l_whole) f cdv A outer sh H E).nox.N.Nodup := sc_l_whole.nd
    (pdb_one (pds_ret (pd_and (pd_isinst (pd_var (pv 0)) (pe_bltn rfl b_int boot_int rfl) rfl b_isinstance boot_isinstance kit_int) (pd_one (pd_not (pd_isinst (pd_var (pv 0)) (pe_bltn rfl b_bool boot_bool rfl) rfl b_isinstance boot_isinstance kit_bool))))))
theorem sc_first_of : FnScope ["waiting"] ["waiting"] (defScope s_first_of) := ⟨rfl, rfl, rfl, by decide +kernel, rfl, by decide +kernel, by decide +kernel⟩
theorem ok_first_of (T : TF K mg "first_of" s_first_of) : Fn P w K mg base C 1 "first_of" d_first_of :=
  fn_F T sc_first_of rfl rfl (fun _ _ _ _ _ _ us hl => len1 us hl (fun _ => rfl)) fun f cdv A outer sh H E hr =>
    have nd : (cxOf CX0 P w K mg base ["waiting"] "first_of" (defScope s_first_of) f cdv A outer sh H E).nox.N.Nodup := sc_first_of.nd
    (pdb_one (pds_ret pd_int))
theorem sc_last_of : FnScope ["waiting"] ["waiting"] (defScope s_last_of) := ⟨rfl, rfl, rfl, by decide +kernel, rfl, by decide +kernel, by decide +kernel⟩
theorem ok_last_of (T : TF K mg "last_of" s_last_of) (b_len : mg "len" = none) : Fn P w K mg base C 1 "last_of" d_last_of :=
  fn_F T sc_last_of rfl rfl (fun _ _ _ _ _ _ us hl => len1 us hl (fun _ => rfl)) fun f cdv A outer sh H E hr =>
    have nd : (cxOf CX0 P w K mg base ["waiting"] "last_of" (defScope s_last_of) f cdv A outer sh H E).nox.N.Nodup := sc_last_of.nd
    (pdb_one (pds_ret (pd_op opD_sub (pd_callB callD_len rfl b_len PySem.boot_len (pda_cons (pd_var (pv 0)) pda_nil)) pd_int)))
theorem sc_law : FnScope ["_law_script", "_law_cells", "_law_cell", "_law_starts", "_law_picks", "_law_k", "_law_some", "_law_waiting", "_law_kept", "_law_side", "_law_told"] ["_law_script"] (defScope s_law) := ⟨rfl, rfl, rfl, by decide +kernel, rfl, by decide +kernel, by decide +kernel⟩
end
theorem law_fn {P : Program} {w : World} {K : PySem.W.Frag} {mg : Str → Option Value} {base : Heap} {C : Cl} {f : Addr} {fd : FuncData} (F : Fun K "law" "law" s_law f fd) (M_Turns_take_0 : Mt P w K mg base C 1 "Turns" "take" d_Turns_take []) (b_len : mg "len" = none) (b_list : mg "list" = none) (b_range : mg "range" = none) (G_l_mixed : Fn P w K mg base C 1 "_law_mixed" d_l_mixed) (G_l_cell_at : Fn P w K mg base C 1 "_law_cell_at" d_l_cell_at) (G_by_turns : Fn P w K mg base C 3 "by_turns" d_by_turns) (G_l_whole : Fn P w K mg base C 1 "_law_whole" d_l_whole) (G_first_of : Fn P w K mg base C 1 "first_of" d_first_of) (G_last_of : Fn P w K mg base C 1 "last_of" d_last_of) (hni_by_turns : nestIn K "by_turns" = some ns_by_turns) : FnOk P w K mg base CX0 4 f fd ["_law_script"] (spD K C d_law) :=
  fn_D F sc_law rfl rfl fun cdv A outer sh H E hr =>
    have nd : (cxOf CX0 P w K mg base ["_law_script", "_law_cells", "_law_cell", "_law_starts", "_law_picks", "_law_k", "_law_some", "_law_waiting", "_law_kept", "_law_side", "_law_told"] "law" (defScope s_law) f cdv A outer sh H E).nox.N.Nodup := sc_law.nd
    (pdb_cons (pds_set (i := 1) nd rfl (by first | exact Or.inl rfl | exact Or.inr rfl) (pd_callF G_l_mixed (hr.mono (by decide)) rfl (pda_cons (pd_var (pv 0)) pda_nil))) (pdb_cons (pds_set (i := 2) nd rfl (by first | exact Or.inl rfl | exact Or.inr rfl) (pd_callF G_l_cell_at (hr.mono (by decide)) rfl (pda_cons (pd_var (pv 1)) (pda_cons pd_int pda_nil)))) (pdb_cons (pds_set (i := 3) nd rfl (by first | exact Or.inl rfl | exact Or.inr rfl) (pd_newM (pda_cons (pd_op opD_sub (pd_op opD_mod (pd_var (pv 2)) pd_int) pd_int) (pda_cons (pd_ix (pd_lst (pda_cons (pd_op opD_sub (pd_op opD_mod (pd_op opD_div (pd_var (pv 2)) pd_int) pd_int) pd_int) (pda_cons (pd_op opD_mod (pd_op opD_div (pd_var (pv 2)) pd_int) (pd_op opD_pow pd_int pd_int)) pda_nil))) (pd_op opD_mod (pd_op opD_div (pd_var (pv 2)) pd_int) pd_int)) pda_nil)))) (pdb_cons (pds_set (i := 4) nd rfl (by first | exact Or.inl rfl | exact Or.inr rfl) (pd_lst (pda_cons (pd_callF G_by_turns (hr.mono (by decide)) rfl (pda_cons (pd_mix (pd_var (pv 3)) pd_int) pda_nil)) (pda_cons (pd_callF G_by_turns (hr.mono (by decide)) rfl (pda_cons (pd_mix (pd_var (pv 3)) pd_int) pda_nil)) pda_nil)))) (pdb_cons (pds_for PassesOwn.never rfl (pdi_range2 rfl b_range (pda_cons pd_int (pda_cons (pd_op opD_add pd_int (pd_op opD_mod (pd_op opD_div (pd_var (pv 2)) pd_int) pd_int)) pda_nil))) (pdg_name nd rfl (by first | exact Or.inl rfl | exact Or.inr rfl)) (pdb_cons (pds_set (i := 6) nd rfl (by first | exact Or.inl rfl | exact Or.inr rfl) (pd_callF G_l_cell_at (hr.mono (by decide)) rfl (pda_cons (pd_var (pv 1)) (pda_cons (pd_var (pv 5)) pda_nil)))) (pdb_cons (pds_compN (i := 7) nd rfl (by first | exact Or.inl rfl | exact Or.inr rfl) rfl (compOk_of (oN := ["_law_script", "_law_cells", "_law_cell", "_law_starts", "_law_picks", "_law_k", "_law_some", "_law_waiting", "_law_kept", "_law_side", "_law_told"]) (osc := defScope s_law) (N := ["_law_j", "_law_some"]) (μ := [none, some 6]) rfl rfl (by decide +kernel)) (pdi_range1 rfl b_range (pda_cons (pd_op opD_add pd_int (pd_op opD_mod (pd_op opD_mod (pd_op opD_div (pd_var (pv 6)) pd_int) pd_int) pd_int)) pda_nil)) (fun _ _ _ _ => (pdg_name (show List.Nodup (["_law_j", "_law_some"] : List Str) by decide +kernel) rfl (by first | exact Or.inl rfl | exact Or.inr rfl))) (fun _ _ _ _ => pdts_nil) (fun _ _ _ _ => (pd_tup (pda_cons (pd_var (pv 0)) (pda_cons (pd_op opD_mod (pd_op opD_add (pd_op opD_add (pd_var (pv 0)) pd_int) (pd_op opD_mod (pd_var (pv 1)) pd_int)) pd_int) pda_nil))))) (pdb_cons (pds_set (i := 8) nd rfl (by first | exact Or.inl rfl | exact Or.inr rfl) (pd_callTy callD_list rfl b_list boot_list (pda_cons (pd_var (pv 7)) pda_nil))) (pdb_cons (pds_set (i := 9) nd rfl (by first | exact Or.inl rfl | exact Or.inr rfl) (pd_op opD_mod (pd_op opD_div (pd_var (pv 6)) pd_int) pd_int)) (pdb_cons (pds_set (i := 10) nd rfl (by first | exact Or.inl rfl | exact Or.inr rfl) (pd_clo (k := 1) hni_by_turns cs_turn_of_of_by_turns (hr.mono (by decide)) (pd_ix (pd_var (pv 4)) (pd_var (pv 9))) (pd_var (pv 7)) (fun _ _ _ _ _ _ _ => rfl) fun f cdv cl A outer sh H hr => bd_turn_of_of_by_turns M_Turns_take_0 hr)) (pdb_cons (pds_if (PDW.pt (pdw_or (pdt_not (pdt_val (pd_callF G_l_whole (hr.mono (by decide)) rfl (pda_cons (pd_var (pv 10)) pda_nil)))) (pdw_or1 (pdt_cmp (opD_ne hr.units) (pd_var (pv 10)) (pd_mix (pd_var (pv 3)) (pd_var (pv 9))) (nomark _))))) (pdb_one (pds_ret pd_bl)) pdb_nil) (pdb_cons (pds_setM (pd_var (pv 3)) (pd_var (pv 9)) (pd_op opD_add (pd_mix (pd_var (pv 3)) (pd_var (pv 9))) pd_int)) (pdb_cons (pds_if (PDW.pt (pdw_or (pdt_not (pdt_val (pd_callF G_l_whole (hr.mono (by decide)) rfl (pda_cons (pd_callF G_first_of (hr.mono (by decide)) rfl (pda_cons (pd_var (pv 7)) pda_nil)) pda_nil)))) (pdw_or (pdt_cmp (opD_ne hr.units) (pd_callF G_first_of (hr.mono (by decide)) rfl (pda_cons (pd_var (pv 7)) pda_nil)) pd_int (nomark _)) (pdw_or1 (pdt_cmp (opD_ne hr.units) (pd_callF G_last_of (hr.mono (by decide)) rfl (pda_cons (pd_var (pv 7)) pda_nil)) (pd_op opD_sub (pd_callB callD_len rfl b_len PySem.boot_len (pda_cons (pd_var (pv 8)) pda_nil)) pd_int) (nomark _)))))) (pdb_one (pds_ret pd_bl)) pdb_nil) (pdb_one (pds_if (pdt_cmp (opD_ne hr.units) (pd_var (pv 7)) (pd_var (pv 8)) (nomark _)) (pdb_one (pds_ret pd_bl)) pdb_nil))))))))))) (pdb_one (pds_ret pd_bl)))))))
theorem all_mk {P : Program} {w : World} {K : PySem.W.Frag} {h : Heap} {mg : Str → Option Value} {fa f_l_mixed f_l_cell_at f_Turns_take f_Turns___init__ f_by_turns f_l_whole f_first_of f_last_of f_law C_Turns : Addr} (X : K.In h) (G : h.Ns mainGlobals mg) (hfa : mg "law" = some (.ref fa))
    {od_l_mixed an_l_mixed : Option Addr} {sl_l_mixed : Array (Option Value)} {oc_l_mixed kV_l_mixed dc_l_mixed pm_l_mixed cd_l_mixed ct_l_mixed : Value}
    {od_l_cell_at an_l_cell_at : Option Addr} {sl_l_cell_at : Array (Option Value)} {oc_l_cell_at kV_l_cell_at dc_l_cell_at pm_l_cell_at cd_l_cell_at ct_l_cell_at : Value}
    {od_Turns_take an_Turns_take : Option Addr} {sl_Turns_take : Array (Option Value)} {oc_Turns_take kV_Turns_take dc_Turns_take pm_Turns_take cd_Turns_take ct_Turns_take : Value}
    {od_Turns___init__ an_Turns___init__ : Option Addr} {sl_Turns___init__ : Array (Option Value)} {oc_Turns___init__ kV_Turns___init__ dc_Turns___init__ pm_Turns___init__ cd_Turns___init__ ct_Turns___init__ : Value}
    {od_by_turns an_by_turns : Option Addr} {sl_by_turns : Array (Option Value)} {oc_by_turns kV_by_turns dc_by_turns pm_by_turns ct_by_turns : Value} {cA_by_turns tP_by_turns : Addr} {to_by_turns : Value} {td_by_turns : Option Addr} {tf_by_turns : Array Value} {ts_by_turns : Array (Option Value)}
    {od_l_whole an_l_whole : Option Addr} {sl_l_whole : Array (Option Value)} {oc_l_whole kV_l_whole dc_l_whole pm_l_whole cd_l_whole ct_l_whole : Value}
    {od_first_of an_first_of : Option Addr} {sl_first_of : Array (Option Value)} {oc_first_of kV_first_of dc_first_of pm_first_of cd_first_of ct_first_of : Value}
    {od_last_of an_last_of : Option Addr} {sl_last_of : Array (Option Value)} {oc_last_of kV_last_of dc_last_of pm_last_of cd_last_of ct_last_of : Value}
    {od_law an_law : Option Addr} {sl_law : Array (Option Value)} {oc_law kV_law dc_law pm_law cd_law ct_law : Value}
    (a_l_mixed : PySem.W.nsIn K mainGlobals "_law_mixed" = some (some (.ref f_l_mixed)))
    (l_l_mixed : K.lookup f_l_mixed = some ⟨oc_l_mixed, od_l_mixed, .func (PySem.W.fnOf "_law_mixed" "_law_mixed" (defArgs s_l_mixed) (defBody s_l_mixed) (defScope s_l_mixed) .none kV_l_mixed dc_l_mixed pm_l_mixed an_l_mixed cd_l_mixed ct_l_mixed), sl_l_mixed⟩) (cc_l_mixed : PySem.W.codeIn K cd_l_mixed "_law_mixed" = true) (k_l_mixed : PySem.W.keepIn K (.ref f_l_mixed) = true)
    (a_l_cell_at : PySem.W.nsIn K mainGlobals "_law_cell_at" = some (some (.ref f_l_cell_at)))
    (l_l_cell_at : K.lookup f_l_cell_at = some ⟨oc_l_cell_at, od_l_cell_at, .func (PySem.W.fnOf "_law_cell_at" "_law_cell_at" (defArgs s_l_cell_at) (defBody s_l_cell_at) (defScope s_l_cell_at) .none kV_l_cell_at dc_l_cell_at pm_l_cell_at an_l_cell_at cd_l_cell_at ct_l_cell_at), sl_l_cell_at⟩) (cc_l_cell_at : PySem.W.codeIn K cd_l_cell_at "_law_cell_at" = true) (k_l_cell_at : PySem.W.keepIn K (.ref f_l_cell_at) = true)
    (a_Turns_take : PySem.W.findIn K (.ref C_Turns) "take" = some (some (.ref f_Turns_take))) (i_Turns_take : PySem.W.isFn K (.ref f_Turns_take) = true)
    (l_Turns_take : K.lookup f_Turns_take = some ⟨oc_Turns_take, od_Turns_take, .func (PySem.W.fnOf "take" "Turns.take" (defArgs s_Turns_take) (defBody s_Turns_take) (defScope s_Turns_take) .none kV_Turns_take dc_Turns_take pm_Turns_take an_Turns_take cd_Turns_take ct_Turns_take), sl_Turns_take⟩) (cc_Turns_take : PySem.W.codeIn K cd_Turns_take "Turns.take" = true) (k_Turns_take : PySem.W.keepIn K (.ref f_Turns_take) = true)
    (a_Turns___init__ : PySem.W.findIn K (.ref C_Turns) "__init__" = some (some (.ref f_Turns___init__))) (i_Turns___init__ : PySem.W.isFn K (.ref f_Turns___init__) = true)
    (l_Turns___init__ : K.lookup f_Turns___init__ = some ⟨oc_Turns___init__, od_Turns___init__, .func (PySem.W.fnOf "__init__" "Turns.__init__" (defArgs s_Turns___init__) (defBody s_Turns___init__) (defScope s_Turns___init__) .none kV_Turns___init__ dc_Turns___init__ pm_Turns___init__ an_Turns___init__ cd_Turns___init__ ct_Turns___init__), sl_Turns___init__⟩) (cc_Turns___init__ : PySem.W.codeIn K cd_Turns___init__ "Turns.__init__" = true) (k_Turns___init__ : PySem.W.keepIn K (.ref f_Turns___init__) = true)
    (a_by_turns : PySem.W.nsIn K mainGlobals "by_turns" = some (some (.ref f_by_turns)))
    (l_by_turns : K.lookup f_by_turns = some ⟨oc_by_turns, od_by_turns, .func (PySem.W.fnOf "by_turns" "by_turns" (defArgs s_by_turns) (defBody s_by_turns) (defScope s_by_turns) .none kV_by_turns dc_by_turns pm_by_turns an_by_turns (.ref cA_by_turns) ct_by_turns), sl_by_turns⟩) (cc_by_turns : PySem.W.codeIn K (.ref cA_by_turns) "by_turns" = true) (k_by_turns : PySem.W.keepIn K (.ref f_by_turns) = true)
    (tk_by_turns : K.lookup cA_by_turns = some ⟨to_by_turns, td_by_turns, .fields tf_by_turns, ts_by_turns⟩) (tv_by_turns : tf_by_turns[11]? = some (.ref tP_by_turns))
    (a_l_whole : PySem.W.nsIn K mainGlobals "_law_whole" = some (some (.ref f_l_whole)))
    (l_l_whole : K.lookup f_l_whole = some ⟨oc_l_whole, od_l_whole, .func (PySem.W.fnOf "_law_whole" "_law_whole" (defArgs s_l_whole) (defBody s_l_whole) (defScope s_l_whole) .none kV_l_whole dc_l_whole pm_l_whole an_l_whole cd_l_whole ct_l_whole), sl_l_whole⟩) (cc_l_whole : PySem.W.codeIn K cd_l_whole "_law_whole" = true) (k_l_whole : PySem.W.keepIn K (.ref f_l_whole) = true)
    (a_first_of : PySem.W.nsIn K mainGlobals "first_of" = some (some (.ref f_first_of)))
    (l_first_of : K.lookup f_first_of = some ⟨oc_first_of, od_first_of, .func (PySem.W.fnOf "first_of" "first_of" (defArgs s_first_of) (defBody s_first_of) (defScope s_first_of) .none kV_first_of dc_first_of pm_first_of an_first_of cd_first_of ct_first_of), sl_first_of⟩) (cc_first_of : PySem.W.codeIn K cd_first_of "first_of" = true) (k_first_of : PySem.W.keepIn K (.ref f_first_of) = true)
    (a_last_of : PySem.W.nsIn K mainGlobals "last_of" = some (some (.ref f_last_of)))
    (l_last_of : K.lookup f_last_of = some ⟨oc_last_of, od_last_of, .func (PySem.W.fnOf "last_of" "last_of" (defArgs s_last_of) (defBody s_last_of) (defScope s_last_of) .none kV_last_of dc_last_of pm_last_of an_last_of cd_last_of ct_last_of), sl_last_of⟩) (cc_last_of : PySem.W.codeIn K cd_last_of "last_of" = true) (k_last_of : PySem.W.keepIn K (.ref f_last_of) = true)
    (a_law : PySem.W.nsIn K mainGlobals "law" = some (some (.ref f_law)))
    (l_law : K.lookup f_law = some ⟨oc_law, od_law, .func (PySem.W.fnOf "law" "law" (defArgs s_law) (defBody s_law) (defScope s_law) .none kV_law dc_law pm_law an_law cd_law ct_law), sl_law⟩) (cc_law : PySem.W.codeIn K cd_law "law" = true) (k_law : PySem.W.keepIn K (.ref f_law) = true)
    (a_Turns : PySem.W.nsIn K mainGlobals "Turns" = some (some (.ref C_Turns))) (pg_Turns : PySem.W.plainGet K C_Turns Str.empty = true) (hd_Turns : PySem.W.hasDictIn K C_Turns = true) (po_Turns : PySem.W.plainOver K C_Turns = true) (sa_Turns : PySem.W.findIn K (.ref C_Turns) "__setattr__" = some (some (.builtin "object.__setattr__"))) (mk_Turns : PySem.W.makesIn K C_Turns = true) (kc_Turns : PySem.W.keepIn K (.ref C_Turns) = true)
    (nf_Turns_turn : PySem.W.findIn K (.ref C_Turns) "turn" = some none)
    (z_bool : PySem.W.nsIn K mainGlobals "bool" = some none)
    (z_int : PySem.W.nsIn K mainGlobals "int" = some none)
    (z_isinstance : PySem.W.nsIn K mainGlobals "isinstance" = some none)
    (z_len : PySem.W.nsIn K mainGlobals "len" = some none)
    (z_list : PySem.W.nsIn K mainGlobals "list" = some none)
    (z_range : PySem.W.nsIn K mainGlobals "range" = some none)
    (nt_ : PySem.W.noTabs K = true) :
    ∃ fd : FuncData, ∃ cd T, PySem.W.tabIn K "by_turns" = some (cd, T) ∧ PySem.W.noTabs K = true ∧ (∀ (s : Shared) (v : Value), BindsTo s fd ⟨[v], []⟩ [("_law_script", v)]) ∧ ∀ base : Heap, K.In base → base.Ns mainGlobals mg → NestAt K mg base "by_turns" → FnOk P w K mg base CX0 4 fa fd ["_law_script"] (spC K d_law) := by
  have e := hfa.symm.trans (PySem.W.mg_of X G a_law)
  cases e
  have hC_Turns : (clAdd C0 "Turns" C_Turns) "Turns" = some C_Turns := clAdd_same
  have T_Turns : ClD K (clAdd C0 "Turns" C_Turns) "Turns" := ⟨C_Turns, hC_Turns, ⟨pg_Turns, hd_Turns, po_Turns, sa_Turns⟩⟩
  have n_Turns_turn : NoA K (clAdd C0 "Turns" C_Turns) "Turns" "turn" := noA_of hC_Turns nf_Turns_turn
  have T_l_mixed : TF K mg "_law_mixed" s_l_mixed := ⟨f_l_mixed, _, PySem.W.mg_of X G a_l_mixed, fun_mk (st := s_l_mixed) l_l_mixed cc_l_mixed k_l_mixed⟩
  have T_l_cell_at : TF K mg "_law_cell_at" s_l_cell_at := ⟨f_l_cell_at, _, PySem.W.mg_of X G a_l_cell_at, fun_mk (st := s_l_cell_at) l_l_cell_at cc_l_cell_at k_l_cell_at⟩
  have T_l_whole : TF K mg "_law_whole" s_l_whole := ⟨f_l_whole, _, PySem.W.mg_of X G a_l_whole, fun_mk (st := s_l_whole) l_l_whole cc_l_whole k_l_whole⟩
  have T_first_of : TF K mg "first_of" s_first_of := ⟨f_first_of, _, PySem.W.mg_of X G a_first_of, fun_mk (st := s_first_of) l_first_of cc_first_of k_first_of⟩
  have T_last_of : TF K mg "last_of" s_last_of := ⟨f_last_of, _, PySem.W.mg_of X G a_last_of, fun_mk (st := s_last_of) l_last_of cc_last_of k_last_of⟩
  have F_by_turns := fun_mk (st := s_by_turns) l_by_turns cc_by_turns k_by_turns
  have hni_by_turns : nestIn K "by_turns" = some ns_by_turns := nest_mk a_by_turns l_by_turns rfl rfl
  refine ⟨PySem.W.fnOf "law" "law" (defArgs s_law) (defBody s_law) (defScope s_law) .none kV_law dc_law pm_law an_law cd_law ct_law, cA_by_turns, tP_by_turns, tab_mk a_by_turns l_by_turns rfl tk_by_turns tv_by_turns, nt_, fun s v => .of_eq rfl, fun base KB _ NA => ?_⟩
  have G_l_mixed : Fn P w K mg base (clAdd C0 "Turns" C_Turns) 1 "_law_mixed" d_l_mixed := ok_l_mixed T_l_mixed (PySem.W.mg_none_of X G z_len)
  have G_l_cell_at : Fn P w K mg base (clAdd C0 "Turns" C_Turns) 1 "_law_cell_at" d_l_cell_at := ok_l_cell_at T_l_cell_at (PySem.W.mg_none_of X G z_len)
  have O_Turns_take : FnOk P w K mg base CX0 1 f_Turns_take _ ["self"] (spD K (clAdd C0 "Turns" C_Turns) d_Turns_take) := ok_Turns_take (funV_mk (st := s_Turns_take) l_Turns_take cc_Turns_take) T_Turns n_Turns_turn
  have M_Turns_take_0 : Mt P w K mg base (clAdd C0 "Turns" C_Turns) 1 "Turns" "take" d_Turns_take [] := ⟨C_Turns, f_Turns_take, _, _, [], [], hC_Turns, ⟨pg_Turns, hd_Turns, po_Turns, sa_Turns⟩, ⟨a_Turns_take, i_Turns_take, k_Turns_take⟩, (bindsN (ps := ["self"]) fun us hl => len1 us hl (fun _ => rfl)), .nil, fun _ _ => .nil, O_Turns_take⟩
  have O_Turns___init__ : FnOk P w K mg base CX0 1 f_Turns___init__ _ ["self", "start"] (spD K (clAdd C0 "Turns" C_Turns) d_Turns___init__) := ok_Turns___init__ (funV_mk (st := s_Turns___init__) l_Turns___init__ cc_Turns___init__) T_Turns n_Turns_turn
  have K_Turns : MkD P w K mg base (clAdd C0 "Turns" C_Turns) 1 "Turns" d_Turns___init__ [] := ⟨C_Turns, f_Turns___init__, _, _, [], [], hC_Turns, PySem.W.mg_of X G a_Turns, ⟨mk_Turns, a_Turns___init__, i_Turns___init__, kc_Turns⟩, (bindsN (ps := ["self", "start"]) fun us hl => len2 us hl (fun _ _ => rfl)), .nil, fun _ _ => .nil, O_Turns___init__⟩
  have G_by_turns : Fn P w K mg base (clAdd C0 "Turns" C_Turns) 3 "by_turns" d_by_turns := ok_by_turns F_by_turns (PySem.W.mg_of X G a_by_turns) a_by_turns NA K_Turns
  have G_l_whole : Fn P w K mg base (clAdd C0 "Turns" C_Turns) 1 "_law_whole" d_l_whole := ok_l_whole T_l_whole (PySem.W.mg_none_of X G z_bool) (PySem.W.mg_none_of X G z_int) (PySem.W.mg_none_of X G z_isinstance)
  have G_first_of : Fn P w K mg base (clAdd C0 "Turns" C_Turns) 1 "first_of" d_first_of := ok_first_of T_first_of 
  have G_last_of : Fn P w K mg base (clAdd C0 "Turns" C_Turns) 1 "last_of" d_last_of := ok_last_of T_last_of (PySem.W.mg_none_of X G z_len)
  exact (law_fn (C := (clAdd C0 "Turns" C_Turns)) (fun_mk (st := s_law) l_law cc_law k_law) M_Turns_take_0 (PySem.W.mg_none_of X G z_len) (PySem.W.mg_none_of X G z_list) (PySem.W.mg_none_of X G z_range) G_l_mixed G_l_cell_at G_by_turns G_l_whole G_first_of G_last_of hni_by_turns).imp fun vs H Q E h => h _
theorem walk {l : PySem.W.OpenLaw} {q : Program} {loose : List Str} {XP : (Str → Option Value) → Heap → Prop} {YP : World → Heap → Prop} {d d' : DefRec} {K : Params → PySem.W.Frag} (hn : l.most = some 63) (hdf : d.params.defaults = [])
    (hY : ∀ (w : World) (h : Heap), YP w h → (K w.params).In h) (hrec : (recsOf q).find? (fun e => e.name == ("by_turns" : Str)) = some d') (holds : ∀ ns : List Int, ns.length ≤ 63 → ∃ Ω, d_law [.scr ns] [.tab "by_turns" ⟨18, 4, 19, 27⟩ "by_turns.<locals>.turn_of"] = some (.bl true, Ω))
    (F : ∀ (w : World) (mg : Str → Option Value) (fa : Addr) (h : Heap), (K w.params).In h → h.Ns mainGlobals mg → mg d.name = some (.ref fa) →
      ∃ fd : FuncData, ∃ cd T, PySem.W.tabIn (K w.params) "by_turns" = some (cd, T) ∧ PySem.W.noTabs (K w.params) = true ∧ (∀ (s : Shared) (u : Value), BindsTo s fd ⟨[u], []⟩ [("_law_script", u)]) ∧ ∀ base : Heap, (K w.params).In base → base.Ns mainGlobals mg → NestAt (K w.params) mg base "by_turns" → FnOk l.prog w (K w.params) mg base CX0 4 fa fd ["_law_script"] (spC (K w.params) d_law)) :
    PySem.W.WalkO q loose XP YP l.row.toRowW d [] (fun f vs => PySem.call f vs) :=
  walkT (n := 63) (k := 4) (x := "_law_script") (CX := fun _ => CX0) (sp := fun w => spC (K w.params) d_law) hn (by decide) hdf ⟨rfl, by decide, by decide, rfl⟩ hY hrec F (fun _ _ a ns cd T hl hT ht hS => law_okT hS hT ht (holds ns hl)) fun _ _ _ _ _ z => z
end Law

open PySem PySem.W PyProof.Rows
set_option maxRecDepth 100000 in
set_option maxHeartbeats 0 in
theorem PySem.Challenge.cw_posthouse_k38_picks_holds : PySem.Challenge.rw_posthouse_k38_picks.Holds := by
  w_on; o_law; k_head; (case hw => w_witness2)
  k_fill
  refine Law.walk (l := PySem.Challenge.rw_posthouse_k38_picks) rfl rfl (fun w h Y => PySem.W.km_in_of Y) rfl Law.holds ?F
  case F =>
    intro w mg fa h KX G hmg
    refine' Law.all_mk KX G hmg ?a_l_mixed ?l_l_mixed ?cc_l_mixed ?k_l_mixed ?a_l_cell_at ?l_l_cell_at ?cc_l_cell_at ?k_l_cell_at ?a_Turns_take ?i_Turns_take ?l_Turns_take ?cc_Turns_take ?k_Turns_take ?a_Turns___init__ ?i_Turns___init__ ?l_Turns___init__ ?cc_Turns___init__ ?k_Turns___init__ ?a_by_turns ?l_by_turns ?cc_by_turns ?k_by_turns ?tk_by_turns ?tv_by_turns ?a_l_whole ?l_l_whole ?cc_l_whole ?k_l_whole ?a_first_of ?l_first_of ?cc_first_of ?k_first_of ?a_last_of ?l_last_of ?cc_last_of ?k_last_of ?a_law ?l_law ?cc_law ?k_law ?a_Turns ?pg_Turns ?hd_Turns ?po_Turns ?sa_Turns ?mk_Turns ?kc_Turns ?nf_Turns_turn ?z_bool ?z_int ?z_isinstance ?z_len ?z_list ?z_range ?nt_
    (case a_Turns => k_is)
    (case a_l_mixed => k_is)
    (case l_l_mixed => k_is)
    (case cc_l_mixed => k_is)
    (case k_l_mixed => k_is)
    (case a_l_cell_at => k_is)
    (case l_l_cell_at => k_is)
    (case cc_l_cell_at => k_is)
    (case k_l_cell_at => k_is)
    (case a_Turns_take => k_is)
    (case i_Turns_take => k_is)
    (case l_Turns_take => k_is)
    (case cc_Turns_take => k_is)
    (case k_Turns_take => k_is)
    (case a_Turns___init__ => k_is)
    (case i_Turns___init__ => k_is)
    (case l_Turns___init__ => k_is)
    (case cc_Turns___init__ => k_is)
    (case k_Turns___init__ => k_is)
    (case a_by_turns => k_is)
    (case l_by_turns => k_is)
    (case cc_by_turns => k_is)
    (case k_by_turns => k_is)
    (case tk_by_turns => k_is)
    (case tv_by_turns => exact rfl)
    (case a_l_whole => k_is)
    (case l_l_whole => k_is)
    (case cc_l_whole => k_is)
    (case k_l_whole => k_is)
    (case a_first_of => k_is)
    (case l_first_of => k_is)
    (case cc_first_of => k_is)
    (case k_first_of => k_is)
    (case a_last_of => k_is)
    (case l_last_of => k_is)
    (case cc_last_of => k_is)
    (case k_last_of => k_is)
    (case a_law => k_is)
    (case l_law => k_is)
    (case cc_law => k_is)
    (case k_law => k_is)
    (case pg_Turns => k_is)
    (case hd_Turns => k_is)
    (case po_Turns => k_is)
    (case sa_Turns => k_is)
    (case mk_Turns => k_is)
    (case kc_Turns => k_is)
    (case nf_Turns_turn => k_is)
    (case z_bool => k_is)
    (case z_int => k_is)
    (case z_isinstance => k_is)
    (case z_len => k_is)
    (case z_list => k_is)
    (case z_range => k_is)
    (case nt_ => kernel_rfl)

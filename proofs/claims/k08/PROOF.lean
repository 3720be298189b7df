import PyProof.Rows.All
import Wide.All
import OpenK.AllK
import Wide.FinOn
import Lean
import PyProof.EqAt
import PyProof.EqKinds
import PyProof.TupleCall
import KE.KSortTup
import KE.KIntText
import KE.KTryMore
import PyProof.ExcArgs
import KE.KIsAll
import PyProof.ReprNest
import PyProof.NsMap
import PyProof.Rows.Own
import PyProof.ReprStr
import PyProof.ExcBaseAll.ValueError
import PyProof.FitsInt
import PySem.Challenge.RW_posthouse_k08_rows_put_and_cut
set_option Elab.async false
set_option linter.all false
set_option maxRecDepth 100000
set_option genSizeOf false
set_option Elab.async false
set_option linter.all false
set_option maxRecDepth 100000
set_option genSizeOf false
/-! THE HAND LAYER, for ints, bools, texts, own classes, LISTS and tuples (index, slices, in, append, pop ..), calls, loops. Paste it whole ahead of your own text; what your proof does not reach may be deleted. -/
namespace L2
open PySem PySem.Spec PyProof.Rows

/-- a key: an int or a str -/
abbrev Key := Sum Int Str
def keyIs : Key → Value → Bool
  | .inl k, v => Value.isInt k v
  | .inr x, v => Value.isStrOf x v
def keyH (w : World) : Key → Int
  | .inl k => hashInt k
  | .inr x => hashStr w x
theorem keyIs_shape : ∀ {k : Key} {v : Value}, keyIs k v = true → (∃ i t, k = Sum.inl i ∧ v = Value.int i t) ∨ (∃ x t, k = Sum.inr x ∧ v = Value.str x t)
  | .inl i, v, h => by
    obtain ⟨t, e⟩ := Value.isInt_shape (k := i) (v := v) h
    exact .inl ⟨i, t, rfl, e⟩
  | .inr x, v, h => by
    obtain ⟨t, e⟩ := Value.isStrOf_shape (x := x) (v := v) h
    exact .inr ⟨x, t, rfl, e⟩
theorem keyIs_int (i : Int) (t : Tok) : keyIs (.inl i) (.int i t) = true := by simp [keyIs, Value.isInt]
theorem keyIs_str (x : Str) (t : Tok) : keyIs (.inr x) (.str x t) = true := by simp [keyIs, Value.isStrOf]
theorem key_ll (a b : Int) : decide ((Sum.inl a : Key) = Sum.inl b) = (a == b) := by
  by_cases e : a = b
  · subst e; simp
  · have h : ¬ (Sum.inl a : Key) = Sum.inl b := fun q => e (Sum.inl.inj q)
    rw [decide_eq_false h]
    exact (beq_eq_false_iff_ne.mpr e).symm
theorem key_rr (a b : Str) : decide ((Sum.inr a : Key) = Sum.inr b) = decide (a = b) := by
  by_cases e : a = b
  · subst e; simp
  · have h : ¬ (Sum.inr a : Key) = Sum.inr b := fun q => e (Sum.inr.inj q)
    rw [decide_eq_false h, decide_eq_false e]
theorem key_lr (a : Int) (b : Str) : decide ((Sum.inl a : Key) = Sum.inr b) = false := decide_eq_false (fun q => nomatch q)
theorem key_rl (a : Str) (b : Int) : decide ((Sum.inr a : Key) = Sum.inl b) = false := decide_eq_false (fun q => nomatch q)

def mixKind (prog : Program) (w : World) : PySem.KeyKind prog w Key where
  is := keyIs
  hash := keyH w
  inj := fun v a b ha hb => by
    rcases keyIs_shape ha with ⟨i, t, rfl, rfl⟩ | ⟨x, t, rfl, rfl⟩
    · rcases keyIs_shape hb with ⟨j, u, rfl, e⟩ | ⟨y, u, rfl, e⟩
      · injection e with e1 _; rw [e1]
      · exact nomatch e
    · rcases keyIs_shape hb with ⟨j, u, rfl, e⟩ | ⟨y, u, rfl, e⟩
      · exact nomatch e
      · injection e with e1 _; rw [e1]
  byValue := fun k v h => by
    rcases keyIs_shape h with ⟨i, t, rfl, rfl⟩ | ⟨x, t, rfl, rfl⟩ <;> rfl
  pyHash := fun hv h => by
    rcases keyIs_shape hv with ⟨i, t, rfl, rfl⟩ | ⟨x, t, rfl, rfl⟩
    · exact wpAny_pyHash_int h
    · exact wpAny_pyHash_str h
  eqBool := fun hu hv h => by
    rcases keyIs_shape hu with ⟨i, t, rfl, rfl⟩ | ⟨x, t, rfl, rfl⟩
    · rcases keyIs_shape hv with ⟨j, u, rfl, rfl⟩ | ⟨y, u, rfl, rfl⟩
      · rw [key_ll] at h; exact wpAny_eqBool_int h
      · rw [key_lr] at h; exact SeqAt.EqAt.int_str i t y u _ _ _ _ h
    · rcases keyIs_shape hv with ⟨j, u, rfl, rfl⟩ | ⟨y, u, rfl, rfl⟩
      · rw [key_rl] at h; exact SeqAt.EqAt.str_int x t j u _ _ _ _ h
      · rw [key_rr] at h; exact wpAny_eqBool_str h
  «strs» := fun k x t v h => by
    rcases keyIs_shape h with ⟨i, u, rfl, e⟩ | ⟨y, u, rfl, e⟩
    · exact nomatch e
    · injection e with e1 _
      subst e1
      cases v <;> rfl

theorem mixKind_int (prog : Program) (w : World) (i : Int) (t : Tok) : (mixKind prog w).is (.inl i) (.int i t) = true := keyIs_int i t
theorem mixKind_str (prog : Program) (w : World) (x : Str) (t : Tok) : (mixKind prog w).is (.inr x) (.str x t) = true := keyIs_str x t
end L2

namespace L2
open PySem PySem.Spec PyProof.Rows

/-- a value, without the heap -/
inductive V where
  | non | bl (b : Bool) | int (i : Int) | str (x : Str) | byt (b : Array UInt8) | flt (b : UInt64) | ref (a : Addr) | ty (n : String)
  deriving DecidableEq

def RelV : V → Value → Prop
  | .non, u => u = Value.none
  | .bl b, u => u = Value.bool b
  | .int i, u => ∃ t, u = Value.int i t
  | .str x, u => ∃ t, u = Value.str x t
  | .byt b, u => ∃ t, u = Value.bytes b t
  | .flt b, u => ∃ t, u = Value.float b t
  | .ref a, u => u = Value.ref a
  | .ty n, u => u = Value.type n

abbrev Vals : List V → List Value → Prop := Paired RelV
theorem Vals.length {xs : List V} {us : List Value} (r : Vals xs us) : xs.length = us.length := Paired.length r
theorem Vals.get : ∀ {xs : List V} {us : List Value} {i : Nat} {x : V}, Vals xs us → xs[i]? = some x → ∃ u, us[i]? = some u ∧ RelV x u
  | _, _, _, _, .nil, e => by simp at e
  | _, _, 0, _, .cons r _, e => by simp at e; subst e; exact ⟨_, rfl, r⟩
  | _, _, i + 1, x, .cons _ t, e => by
    obtain ⟨u, h1, h2⟩ := Vals.get (i := i) (x := x) t (by simpa using e)
    exact ⟨u, by simpa using h1, h2⟩
theorem Vals.append : ∀ {xs ys : List V} {us ws : List Value}, Vals xs us → Vals ys ws → Vals (xs ++ ys) (us ++ ws)
  | _, _, _, _, .nil, s => s
  | _, _, _, _, .cons r t, s => .cons r (Vals.append t s)
theorem Vals.take : ∀ {xs : List V} {us : List Value} (n : Nat), Vals xs us → Vals (xs.take n) (us.take n)
  | _, _, 0, _ => .nil
  | _, _, _ + 1, .nil => .nil
  | _, _, n + 1, .cons r t => .cons r (Vals.take n t)
theorem Vals.drop : ∀ {xs : List V} {us : List Value} (n : Nat), Vals xs us → Vals (xs.drop n) (us.drop n)
  | _, _, 0, r => r
  | _, _, _ + 1, .nil => .nil
  | _, _, n + 1, .cons _ t => Vals.drop n t
def RelO : Option V → Option Value → Prop
  | some v, some u => RelV v u
  | none, none => True
  | _, _ => False
def KV {κ : Type} : List (κ × V) → List (κ × Value) → Prop := Paired fun (p : κ × V) (q : κ × Value) => p.1 = q.1 ∧ RelV p.2 q.2

/-- a key of a dict (00_mix): an int or a text -/
def kV : Key → V
  | .inl i => .int i
  | .inr x => .str x

/-- what stands at a tracked address -/
inductive HO where
  /-- a list -/
  | lst (xs : List V)
  /-- a tuple (never changes) -/
  | tup (xs : List V)
  /-- a dict whose keys are ints and texts; one whose keys are tuples of ints and texts (the empty one is both) -/
  | dK (kvs : List (Key × V)) | dT (kvs : List (List Key × V))
  /-- a set of ints: its members, its size -/
  | set (S : Int → Bool) (n : Nat)
  /-- an instance of the class at C, its dict at dx, its attributes -/
  | ins (C dx : Addr) (fs : List (Str × V))
  /-- the dict of the instance at x -/
  | own (x : Addr)
  /-- the dict of an exception -/
  | xd (fs : List (Str × V))
  /-- a bound method, f of x -/
  | met (f x : Addr)
  /-- a range object lo, lo + 1, .. below hi -/
  | rng (lo hi : Int)
  /-- a thing that is known to the object (the script; a dict while a loop walks it): read, never written while it is so -/
  | frz (o : Obj) (u : HO)
  /-- a code object's table -/
  | tbl (ps : Array Value)
  /-- any other thing, by what is true of its one object (a def of one's own: SetO a S n := HO.ext fun h => ..) -/
  | ext (φ : Heap → Prop)

abbrev Hp := Addr → Option HO
def upd (H : Hp) (a : Addr) (o : HO) : Hp := fun b => if b = a then some o else H b
theorem upd_same {H : Hp} {a : Addr} {o : HO} : upd H a o a = some o := by unfold upd; rw [if_pos rfl]
theorem upd_ne {H : Hp} {a b : Addr} {o : HO} (h : b ≠ a) : upd H a o b = H b := by unfold upd; rw [if_neg h]
/-- two objects of different content stand apart -/
theorem ne_of {H : Hp} {a b : Addr} {o u : HO} (h : H a = some o) (h' : H b = some u) (d : o ≠ u) : a ≠ b := by
  intro e; subst e; rw [h] at h'; exact d (Option.some.inj h')
theorem ne_of_none {H : Hp} {a b : Addr} {o : HO} (h : H a = some o) (h' : H b = none) : a ≠ b := by
  intro e; subst e; rw [h] at h'; cases h'

section
variable (P : Program) (w : World)
def ObjOk (H : Hp) (h : Heap) (a : Addr) : HO → Prop
  | .lst xs => xs.length ≤ sizeLine ∧ ∃ (its : List Value) (n : Nat), Vals xs its ∧ h.get? a = some { cls := .type "list", data := .seq its.toArray n }
  | .tup xs => xs.length ≤ sizeLine ∧ ∃ its : List Value, Vals xs its ∧ IsTup h a its.toArray
  | .dK kvs => kvs.length ≤ sizeLine ∧ (a == sysModules) = false ∧ ∃ vs, KV kvs vs ∧ h.DictOf (mixKind P w) a vs
  | .dT kvs => kvs.length ≤ sizeLine ∧ (a == sysModules) = false ∧ ∃ xs : List (List Key × Addr × Value),
      Paired (fun (p : List Key × V) (q : List Key × Addr × Value) => p.1 = q.1 ∧ H q.2.1 = some (.tup (p.1.map kV)) ∧ RelV p.2 q.2.2) kvs xs ∧
      ∃ o es ep, h.get? a = some o ∧ o.ExactDict ∧ o.data = .dict es ep ∧ es.toList = xs.map (entryOfKey (tupleKind (mixKind P w))) ∧ (xs.map (·.1)).Nodup
  | .set S n => h.SetOf (intKind P w) a S n
  | .ins C dx fs => H dx = some (.own a) ∧ fs.length ≤ 1000 ∧ dx ≠ a ∧ h.get? a = some (PySem.W.instObj C dx) ∧
      ∃ mA, h.Ns1 dx mA ∧ (∀ f, RelO (fs.lookup f) (mA f)) ∧ PySem.Within mA (fs.map (·.1))
  | .own _ => ∃ o, h.get? a = some o
  | .xd fs => ∃ mA, h.Ns1 a mA ∧ ∀ f, RelO (fs.lookup f) (mA f)
  | .rng lo hi => ∃ t u v, h.get? a = some { cls := .type "range", data := .fields #[.int lo t, .int hi u, .int 1 v] }
  | .frz o u => h.get? a = some o ∧ ObjOk H h a u
  | .tbl ps => h.get? a = some { cls := .none, data := .fields ps }
  | .met f x => h.get? a = some (PySem.W.methodObj (.ref f) (.ref x))
  | .ext φ => φ h ∧ (∃ o, h.get? a = some o) ∧ ∀ h1 h2 : Heap, φ h1 → (∀ o, h1.get? a = some o → h2.get? a = some o) → φ h2
/-- the abstract heap is held -/
def HOk (H : Hp) (h : Heap) : Prop := ∀ a o, H a = some o → ObjOk P w H h a o
end

section
variable {P : Program} {w : World} {H H' : Hp} {h h' : Heap} {a : Addr} {o : HO}
theorem ObjOk.lt (x : ObjOk P w H h a o) : a < h.objs.size := by
  cases o with
  | lst xs => obtain ⟨_, _, _, _, e⟩ := x; exact Heap.lt_size e
  | tup xs => obtain ⟨_, _, _, p⟩ := x; exact p.lt
  | dK kvs => obtain ⟨_, _, _, _, o, _, _, e, _⟩ := x; exact Heap.lt_size e
  | dT kvs => obtain ⟨_, _, _, _, o, _, _, e, _⟩ := x; exact Heap.lt_size e
  | set S n => obtain ⟨o, _, _, _, e, _⟩ := x; exact Heap.lt_size e
  | ins C dx fs => obtain ⟨_, _, _, e, _⟩ := x; exact Heap.lt_size e
  | own y => obtain ⟨_, e⟩ := x; exact Heap.lt_size e
  | xd fs => obtain ⟨_, ⟨_, _, _, e, _⟩, _⟩ := x; exact Heap.lt_size e
  | rng lo hi => obtain ⟨_, _, _, e⟩ := x; exact Heap.lt_size e
  | frz ob u => obtain ⟨e, _⟩ := x; exact Heap.lt_size e
  | tbl ps => exact Heap.lt_size (show h.get? a = some _ from x)
  | met f y => exact Heap.lt_size (show h.get? a = some _ from x)
  | ext φ => obtain ⟨_, ⟨_, e⟩, _⟩ := x; exact Heap.lt_size e
theorem Paired.mapP {α β : Type} {F G : α → β → Prop} : ∀ {l₁ : List α} {l₂ : List β}, Paired F l₁ l₂ → (∀ a b, F a b → G a b) → Paired G l₁ l₂
  | _, _, .nil, _ => .nil
  | _, _, .cons r t, f => .cons (f _ _ r) (Paired.mapP t f)
/-- what an object's description leans on: its own object, its own dict, the tuples -/
theorem ObjOk.stay (x : ObjOk P w H h a o) (k : ∀ b u, (b = a ∨ H b = some (.own a)) → h.get? b = some u → h'.get? b = some u)
    (ho : ∀ b, H b = some (.own a) → H' b = some (.own a)) (ht : ∀ b xs, H b = some (.tup xs) → H' b = some (.tup xs)) : ObjOk P w H' h' a o := by
  induction o with
  | lst xs => obtain ⟨z, its, n, r, e⟩ := x; exact ⟨z, its, n, r, k _ _ (.inl rfl) e⟩
  | tup xs => obtain ⟨z, its, r, ob, e, c⟩ := x; exact ⟨z, its, r, ob, k _ _ (.inl rfl) e, c⟩
  | dK kvs => obtain ⟨z, y, vs, r, ob, es, ep, e, c⟩ := x; exact ⟨z, y, vs, r, ob, es, ep, k _ _ (.inl rfl) e, c⟩
  | dT kvs =>
    obtain ⟨z, y, xs, r, ob, es, ep, e, c⟩ := x
    exact ⟨z, y, xs, Paired.mapP r fun p q z => ⟨z.1, ht _ _ z.2.1, z.2.2⟩, ob, es, ep, k _ _ (.inl rfl) e, c⟩
  | set S n => obtain ⟨ob, es, ep, t, e, c⟩ := x; exact ⟨ob, es, ep, t, k _ _ (.inl rfl) e, c⟩
  | ins C dx fs =>
    obtain ⟨d, z, ne, e, mA, ⟨od, es, ep, e2, c⟩, r⟩ := x
    exact ⟨ho _ d, z, ne, k _ _ (.inl rfl) e, mA, ⟨od, es, ep, k _ _ (.inr d) e2, c⟩, r⟩
  | own y => obtain ⟨ob, e⟩ := x; exact ⟨ob, k _ _ (.inl rfl) e⟩
  | xd fs => obtain ⟨mA, ⟨od, es, ep, e, c⟩, r⟩ := x; exact ⟨mA, ⟨od, es, ep, k _ _ (.inl rfl) e, c⟩, r⟩
  | rng lo hi => obtain ⟨t, u, v, e⟩ := x; exact ⟨t, u, v, k _ _ (.inl rfl) e⟩
  | frz ob u ih => obtain ⟨e, q⟩ := x; exact ⟨k _ _ (.inl rfl) e, ih q⟩
  | tbl ps =>
    have e : h.get? a = some { cls := .none, data := .fields ps } := x
    show h'.get? a = some { cls := .none, data := .fields ps }
    exact k a _ (.inl rfl) e
  | met f y =>
    have e : h.get? a = some (PySem.W.methodObj (.ref f) (.ref y)) := x
    show h'.get? a = some (PySem.W.methodObj (.ref f) (.ref y))
    exact k a _ (.inl rfl) e
  | ext φ => obtain ⟨p, ⟨o, e⟩, st⟩ := x; exact ⟨st _ _ p fun o q => k _ _ (.inl rfl) q, ⟨o, k _ _ (.inl rfl) e⟩, st⟩
theorem HOk.lt (x : HOk P w H h) (e : H a = some o) : a < h.objs.size := (x a o e).lt
theorem HOk.fresh (x : HOk P w H h) (e : h.objs.size ≤ a) : H a = none := by
  cases q : H a with
  | none => rfl
  | some u => exact absurd (Nat.lt_of_lt_of_le (x.lt q) e) (Nat.lt_irrefl _)
/-- every object of the heap is kept -/
theorem HOk.kept (x : HOk P w H h) (k : ∀ b u, h.get? b = some u → h'.get? b = some u) : HOk P w H h' := fun a o e =>
  (x a o e).stay (fun b u _ q => k b u q) (fun _ q => q) fun _ _ q => q
/-- a new object is laid and tracked -/
theorem HOk.laid (x : HOk P w H h) (k : ∀ b u, h.get? b = some u → h'.get? b = some u) (hp : h.objs.size ≤ a) (new : ObjOk P w (upd H a o) h' a o) : HOk P w (upd H a o) h' := fun b u e => by
  have hn := x.fresh hp
  by_cases hb : b = a
  · subst hb; rw [upd_same] at e; cases e; exact new
  · rw [upd_ne hb] at e
    exact (x b u e).stay (fun c v _ q => k c v q) (fun c q => by rw [upd_ne (ne_of_none q hn)]; exact q) fun c xs q => by rw [upd_ne (ne_of_none q hn)]; exact q
end

/-- what may be read as u: it is u, or a known u -/
def Rd (H : Hp) (a : Addr) (u : HO) : Prop := H a = some u ∨ ∃ o, H a = some (.frz o u)
theorem Rd.ok {P : Program} {w : World} {H : Hp} {h : Heap} {a : Addr} {u : HO} (r : Rd H a u) (x : HOk P w H h) : ObjOk P w H h a u := by
  rcases r with r | ⟨o, r⟩
  · exact x a u r
  · obtain ⟨_, q⟩ := x a _ r
    exact q
/-- what may be written -/
def Mut : Option HO → Prop
  | some (.lst _) => True
  | some (.dK _) => True
  | some (.dT _) => True
  | some (.set _ _) => True
  | some (.ins _ _ _) => True
  | some (.ext _) => True
  | _ => False
section
variable {P : Program} {w : World} {H : Hp} {h h' : Heap} {x e : Addr} {o' : HO}
/-- the object at e is changed: x itself, or the dict of the instance x -/
theorem HOk.write (ok : HOk P w H h) (mu : Mut (H x)) (he : e = x ∨ H e = some (.own x)) (k : ∀ b u, b ≠ e → h.get? b = some u → h'.get? b = some u) (heo : ∃ u, h'.get? e = some u)
    (new : ObjOk P w (upd H x o') h' x o') : HOk P w (upd H x o') h' := fun b u q => by
  have nown : ∀ c y, H c = some (.own y) → c ≠ x := fun c y r z => by subst z; rw [r] at mu; exact mu
  have ntup : ∀ c xs, H c = some (.tup xs) → c ≠ x := fun c xs r z => by subst z; rw [r] at mu; exact mu
  by_cases hb : b = x
  · subst hb; rw [upd_same] at q; cases q; exact new
  · rw [upd_ne hb] at q
    by_cases hbe : b = e
    · have q' : H b = some (.own x) := by
        rcases he with z | z
        · exact absurd (hbe.trans z) hb
        · rw [hbe]; exact z
      rw [q] at q'; cases q'
      obtain ⟨v, hv⟩ := heo
      exact ⟨v, by rw [hbe]; exact hv⟩
    · refine (ok b u q).stay (fun c v hc r => k c v ?_ r) (fun c r => by rw [upd_ne (nown c b r)]; exact r) fun c xs r => by rw [upd_ne (ntup c xs r)]; exact r
      rcases hc with rfl | hc
      · exact hbe
      · rintro rfl
        rcases he with z | z
        · exact nown c b hc z
        · rw [hc] at z; cases z; exact hb rfl
end

/-! ### kept unless tracked; of the frames at fs (the callers') the slots may change (an exception that passes writes there); of the records at ex (iterators) nothing is said -/
structure Un (fs ex : List Addr) (H H' : Hp) (h h' : Heap) : Prop where
  keep : ∀ b o, h.get? b = some o → H b = none → b ∉ fs → b ∉ ex → h'.get? b = some o
  slot : ∀ b o, h.get? b = some o → H b = none → b ∈ fs → b ∉ ex → ∃ sl, h'.get? b = some { o with slots := sl }
  free : ∀ b o, h.get? b = some o → H b = none → b ∉ ex → H' b = none
  there : ∀ b o, h.get? b = some o → b ∉ ex → ∃ o', h'.get? b = some o'
  tups : ∀ b xs, H b = some (.tup xs) → H' b = some (.tup xs)
  frzs : ∀ b o u, H b = some (.frz o u) → H' b = some (.frz o u)
  tbls : ∀ b ps, H b = some (.tbl ps) → ∃ more, H' b = some (.tbl (ps ++ more))
section
variable {fs fs' ex ex' : List Addr} {H H1 H2 : Hp} {h h1 h2 h' : Heap} {a x e : Addr} {o : HO}
theorem Un.any (u : Un fs ex H H1 h h1) {b : Addr} {ob : Obj} (q : h.get? b = some ob) (n : H b = none) (hx : b ∉ ex) : ∃ sl, h1.get? b = some { ob with slots := sl } := by
  by_cases hb : b ∈ fs
  · exact u.slot b ob q n hb hx
  · exact ⟨ob.slots, u.keep b ob q n hb hx⟩
theorem Un.kept (k : ∀ b u, h.get? b = some u → h'.get? b = some u) : Un fs ex H H h h' :=
  ⟨fun b ob q _ _ _ => k b ob q, fun b ob q _ _ _ => ⟨ob.slots, k b ob q⟩, fun _ _ _ n _ => n, fun b ob q _ => ⟨ob, k b ob q⟩, fun _ _ q => q, fun _ _ _ q => q, fun _ ps q => ⟨#[], by rw [q]; simp⟩⟩
theorem Un.refl : Un fs ex H H h h := Un.kept fun _ _ q => q
theorem Un.laid (k : ∀ b u, h.get? b = some u → h'.get? b = some u) (hp : h.objs.size ≤ a) (hn : H a = none) : Un fs ex H (upd H a o) h h' where
  keep := fun b u q _ _ _ => k b u q
  slot := fun b u q _ _ _ => ⟨u.slots, k b u q⟩
  free := fun b u q n _ => by rw [upd_ne (Nat.ne_of_lt (Nat.lt_of_lt_of_le (Heap.lt_size q) hp))]; exact n
  there := fun b u q _ => ⟨u, k b u q⟩
  tups := fun b xs q => by rw [upd_ne (ne_of_none q hn)]; exact q
  frzs := fun b u xs q => by rw [upd_ne (ne_of_none q hn)]; exact q
  tbls := fun b ps q => ⟨#[], by rw [upd_ne (ne_of_none q hn), q]; simp⟩
theorem Un.write (mu : Mut (H x)) (he : e = x ∨ H e = some (.own x)) (k : ∀ b u, b ≠ e → h.get? b = some u → h'.get? b = some u) (heo : ∃ u, h'.get? e = some u) : Un fs ex H (upd H x o) h h' := by
  have hx : ∀ b, H b = none → b ≠ x := fun b n z => by subst z; rw [n] at mu; exact mu
  have hb : ∀ b, H b = none → b ≠ e := fun b n z => by
    subst z
    rcases he with r | r
    · exact hx b n r
    · rw [n] at r; cases r
  have hm : ∀ b u, H b = some u → ¬ Mut (some u) → b ≠ x := fun b u q nm z => by subst z; rw [q] at mu; exact nm mu
  refine ⟨fun b u q n _ _ => k b u (hb b n) q, fun b u q n _ _ => ⟨u.slots, k b u (hb b n) q⟩, fun b u q n _ => by rw [upd_ne (hx b n)]; exact n, fun b u q _ => ?_,
    fun b xs q => by rw [upd_ne (hm b _ q fun z => z)]; exact q, fun b u xs q => by rw [upd_ne (hm b _ q fun z => z)]; exact q, fun b ps q => ⟨#[], by rw [upd_ne (hm b _ q fun z => z), q]; simp⟩⟩
  by_cases hbe : b = e
  · subst hbe; exact heo
  · exact ⟨u, k b u hbe q⟩
end

/-! ### the heap without what is tracked -/
def trk (h : Heap) (H : Hp) : List Addr := (List.range h.objs.size).filter fun a => (H a).isSome
def hidT (h : Heap) (H : Hp) : Heap := PySem.W.hideAll h (trk h H)
theorem hidT_size (h : Heap) (H : Hp) : (hidT h H).objs.size = h.objs.size := PySem.W.hideAll_size _ _
theorem hidT_get {h : Heap} {H : Hp} {b : Addr} {o : Obj} (e : h.get? b = some o) (n : H b = none) : (hidT h H).get? b = some o :=
  PySem.W.hideAll_get _ e fun hm => by
    have q : (H b).isSome = true := (List.mem_filter.mp hm).2
    rw [n] at q; simp at q
theorem of_hidT {h : Heap} {H : Hp} {b : Addr} {o : Obj} (e : (hidT h H).get? b = some o) : h.get? b = some o ∧ H b = none := by
  have e' : h.get? b = some o := PySem.W.of_hideAll (trk h H) e
  refine ⟨e', ?_⟩
  cases q : H b with
  | none => rfl
  | some x =>
    have hm : b ∈ trk h H := List.mem_filter.mpr ⟨List.mem_range.mpr (Heap.lt_size e'), by simp [q]⟩
    have z : (hidT h H).get? b = none := PySem.W.hideAll_none (trk h H) hm
    rw [z] at e; cases e

/-! ### OpenK's ledger, filled with every new object but one -/
def allNews (g h : Heap) (L : Addr) : List (Addr × Obj) := (List.range h.objs.size).filterMap fun a => if a = L ∨ (g.get? a).isSome = true then none else (h.get? a).map fun o => (a, o)
def rest (g h : Heap) (L d : Addr) : List (Addr × Obj) := (allNews g h L).filter fun p => decide (p.1 ≠ d)
end L2

namespace L2
open PySem PySem.Spec PyProof.Rows

/-- the module's facts, over the base: the heap at the law's entry without what is tracked there -/
structure Mod (K : PySem.W.Frag) (mg : Str → Option Value) (base : Heap) : Prop where
  kin : K.In base
  glob : base.Ns mainGlobals mg
  blt : ∃ mb, base.Ns builtinsNs mb ∧ ∀ x : Str, x ≠ "__name__" → mb x = bootBuiltins x
  nolimit : base.NoLimit

/-- the context: a def's body (or a comprehension's block) running. base: fixed through the whole law; s₀, H₀: the entry; outer: the frames whose slots others may change (a def's callers); stack: all frames that run;
   ex: iterators that were made ahead of the entry and are walked here (a comprehension's); fn: the names whose cells were made at the entry (a def: all; a comprehension's block: its own); calm: not within an except suite; pn: pins that every state bears; xe: what is wanted of an exception that leaves the code -/
structure Cx where
  prog : Program
  w : World
  K : PySem.W.Frag
  mg : Str → Option Value
  base : Heap
  A : Around
  N : List Str
  s₀ : Shared
  H₀ : Hp
  env : Env
  outer : List Env
  stack : List Env
  ex : List Addr
  fn : Str → Bool
  calm : Bool
  pn : List (Addr × Obj)
  xe : Value → Shared → Prop
/-- the callers' frames -/
def frs (l : List Env) : List Addr := l.filterMap (·.frame)
abbrev Cx.fs (X : Cx) : List Addr := frs X.outer

def Vis (sc : Scope) (x : Str) : Prop := sc.names.lookup x = some .local ∨ sc.names.lookup x = some .cell ∨ sc.names.lookup x = some .free
def Loc (sc : Scope) (x : Str) : Prop := sc.names.lookup x = some .local ∨ sc.names.lookup x = some .cell
def Look (env : Env) (h : Heap) (m : Str → Option Value) (x : Str) (u : Value) : Prop :=
  (env.kindOf x = some .local ∧ m x = some u) ∨ ((env.kindOf x = some .cell ∨ env.kindOf x = some .free) ∧ ∃ c, env.cells.lookup x = some c ∧ h.IsCell c (some u))

structure Cx.Ok (X : Cx) : Prop where
  mod : Mod X.K X.mg X.base
  kind : X.env.scope.kind = .function
  glob : X.env.globals = mainGlobals
  blt : X.env.builtins = builtinsNs
  above : X.s₀.heap.objs.size ≤ X.env.locals
  inj : ∀ x y c, X.env.cells.lookup x = some c → X.env.cells.lookup y = some c → x = y
  has : ∀ x, (X.env.kindOf x = some .cell ∨ X.env.kindOf x = some .free) → ∃ c, X.env.cells.lookup x = some c
  cab : ∀ x c, X.fn x = true → X.env.cells.lookup x = some c → X.s₀.heap.objs.size ≤ c
  hd : X.calm = true → X.A.handled = none
  frames : X.A.frames = some X.stack
  stk : X.stack = X.outer ∨ (X.stack = X.env :: X.outer ∧ X.env.frame = some X.env.locals)
  exf : ∀ b ∈ X.ex, b ≠ X.env.locals ∧ ∀ x c, X.env.cells.lookup x = some c → c ≠ b
  bs : ∀ b o, X.base.get? b = some o → X.s₀.heap.get? b = some o ∧ X.H₀ b = none
  bsz : X.base.objs.size ≤ X.s₀.heap.objs.size
  noex : ∀ b o, X.base.get? b = some o → b ∉ X.ex
  exfs : ∀ b ∈ X.ex, b ∉ X.fs
  funs : X.s₀.heap.FunFrames X.base X.outer
  frf : ∀ b ∈ X.fs, X.H₀ b = none

structure Inv (X : Cx) (pins : List (Addr × Obj)) (σ : List (Option V)) (H : Hp) (s : Shared) : Prop where
  ok : X.Ok
  os : s.os = X.s₀.os
  bare : AllBare s.gens
  base : Un X.fs X.ex X.H₀ H X.s₀.heap s.heap
  loc : ∃ m, s.heap.Ns X.env.locals m ∧ ∀ (i : Nat) (x : Str) (v : V), X.N[i]? = some x → σ[i]? = some (some v) → Vis X.env.scope x → ∃ u, RelV v u ∧ Look X.env s.heap m x u
  cell : ∀ x c, X.env.cells.lookup x = some c → ∃ v, s.heap.IsCell c v
  free : H X.env.locals = none
  freeC : ∀ x c, X.env.cells.lookup x = some c → H c = none
  pin : ∀ p ∈ X.pn ++ pins, s.heap.get? p.1 = some p.2 ∧ H p.1 = none ∧ p.1 ≠ X.env.locals ∧ p.1 ∉ X.fs ∧ ∀ v, p.2.data ≠ .cell v
  hok : HOk X.prog X.w H s.heap
  len : σ.length = X.N.length

section
variable {X : Cx} {pins : List (Addr × Obj)} {σ : List (Option V)} {H H' : Hp} {s : Shared} {h' : Heap}

theorem Cx.Ok.nofr (ok : X.Ok) {b : Addr} {o : Obj} (e : X.base.get? b = some o) : b ∉ X.fs := fun hb => by
  have := (ok.funs.mem hb).1
  rw [e] at this; cases this
theorem Inv.bs (I : Inv X pins σ H s) : ∀ b o, X.base.get? b = some o → s.heap.get? b = some o ∧ H b = none := fun b o e =>
  ⟨I.base.keep b o (I.ok.bs b o e).1 (I.ok.bs b o e).2 (I.ok.nofr e) (I.ok.noex b o e), I.base.free b o (I.ok.bs b o e).1 (I.ok.bs b o e).2 (I.ok.noex b o e)⟩
theorem Inv.bk (I : Inv X pins σ H s) : ∀ b o, X.base.get? b = some o → s.heap.get? b = some o := fun b o e => (I.bs b o e).1
theorem Inv.mod (I : Inv X pins σ H s) : Mod X.K X.mg X.base := I.ok.mod
theorem Inv.kIn (I : Inv X pins σ H s) : X.K.In s.heap := I.ok.mod.kin.keeps I.bk
theorem Inv.lt (I : Inv X pins σ H s) : X.env.locals < s.heap.objs.size := let ⟨_, hn, _⟩ := I.loc; hn.lt
theorem Inv.sz (I : Inv X pins σ H s) : X.s₀.heap.objs.size ≤ s.heap.objs.size := Nat.le_trans I.ok.above (Nat.le_of_lt I.lt)
theorem Inv.nofs (I : Inv X pins σ H s) {a : Addr} (h : s.heap.objs.size ≤ a) : a ∉ X.fs := fun hb => by
  obtain ⟨_, o, ho, _⟩ := I.ok.funs.mem hb
  exact absurd (Nat.lt_of_lt_of_le (Heap.lt_size ho) (Nat.le_trans I.sz h)) (Nat.lt_irrefl _)
theorem Inv.cne (I : Inv X pins σ H s) : ∀ x c, X.env.cells.lookup x = some c → c ≠ X.env.locals := fun x c e z => by
  obtain ⟨v, o, ho, hd⟩ := I.cell x c e
  obtain ⟨m, ⟨o', es, ep, ho', hd', _⟩, _⟩ := I.loc
  rw [z, ho'] at ho; cases ho; rw [hd'] at hd; cases hd
theorem Inv.funs (I : Inv X pins σ H s) : s.heap.FunFrames X.base X.outer := by
  have all : ∀ (l : List Env), (∀ b ∈ frs l, b ∈ X.fs) → X.s₀.heap.FunFrames X.base l → s.heap.FunFrames X.base l := by
    intro l
    induction l with
    | nil => intro _ _; trivial
    | cons env r ih =>
      intro hs hl
      obtain ⟨hk, ⟨L, o, hf, hn, ho, hd⟩, hr⟩ := hl
      have hL : L ∈ X.fs := hs L (by unfold frs; rw [List.filterMap_cons, hf]; exact List.mem_cons_self)
      obtain ⟨sl, e⟩ := I.base.slot L o ho (I.ok.frf L hL) hL fun z => I.ok.exfs L z hL
      exact ⟨hk, ⟨L, _, hf, hn, e, hd⟩, ih (fun b hb => hs b (by unfold frs; rw [List.filterMap_cons, hf]; exact List.mem_cons_of_mem _ hb)) hr⟩
  exact all X.outer (fun _ hb => hb) I.ok.funs

/-- the frames that run, for a call -/
theorem Inv.stack (I : Inv X pins σ H s) : s.heap.FunFrames X.base X.stack := by
  rcases I.ok.stk with e | ⟨e, hf⟩
  · rw [e]; exact I.funs
  · rw [e]
    obtain ⟨m, hn, _⟩ := I.loc
    refine .cons (by rw [I.ok.kind]; decide) hf hn ?_ I.funs
    exact Heap.get?_none_of_le (Nat.le_trans I.ok.bsz I.ok.above)
theorem Inv.stkSub (I : Inv X pins σ H s) : ∀ b ∈ frs X.stack, b ∈ X.env.locals :: X.fs := fun b hb => by
  rcases I.ok.stk with e | ⟨e, hf⟩
  · rw [e] at hb; exact List.mem_cons_of_mem _ hb
  · rw [e] at hb
    unfold frs at hb
    rw [List.filterMap_cons, hf] at hb
    exact hb
theorem Inv.stkFree (I : Inv X pins σ H s) : ∀ b ∈ frs X.stack, H b = none := fun b hb => by
  rcases List.mem_cons.mp (I.stkSub b hb) with e | hb
  · rw [e]; exact I.free
  · obtain ⟨_, o, ho, _⟩ := I.ok.funs.mem hb
    exact I.base.free b o ho (I.ok.frf b hb) fun z => I.ok.exfs b z hb

/-- THE STEP: the untracked objects but the frame and the records at ch are kept (the callers' frames up to slots), the frame's map is kept, the new abstract heap is held -/
theorem Inv.step {g' : Array GenState} {t' : Nat} {d' : Drawn} {ch : List Addr} (I : Inv X pins σ H s)
    (hch : ∀ b ∈ ch, (b ∈ X.ex ∨ X.s₀.heap.objs.size ≤ b) ∧ b ≠ X.env.locals ∧ (∀ x c, X.env.cells.lookup x = some c → c ≠ b) ∧ ∀ p ∈ X.pn ++ pins, p.1 ≠ b)
    (keep : ∀ b o, b ≠ X.env.locals → b ∉ X.fs → b ∉ ch → s.heap.get? b = some o → H b = none → h'.get? b = some o)
    (slot : ∀ b o, b ≠ X.env.locals → b ∈ X.fs → b ∉ ch → s.heap.get? b = some o → H b = none → ∃ sl, h'.get? b = some { o with slots := sl }) (free : ∀ b o, b ∉ ch → s.heap.get? b = some o → H b = none → H' b = none)
    (there : ∀ b o, b ∉ ch → s.heap.get? b = some o → ∃ o', h'.get? b = some o')
    (tups : ∀ b xs, H b = some (.tup xs) → H' b = some (.tup xs)) (frzs : ∀ b o u, H b = some (.frz o u) → H' b = some (.frz o u)) (tbls : ∀ b ps, H b = some (.tbl ps) → ∃ more, H' b = some (.tbl (ps ++ more)))
    (ns : ∀ m, s.heap.Ns X.env.locals m → h'.Ns X.env.locals m) (hok : HOk X.prog X.w H' h') (hg : AllBare g') :
    Inv X pins σ H' { s with heap := h', gens := g', drawn := d', toks := t' } := by
  have neL : ∀ b o, X.s₀.heap.get? b = some o → b ≠ X.env.locals := fun b o e => Nat.ne_of_lt (Nat.lt_of_lt_of_le (Heap.lt_size e) I.ok.above)
  have neC : ∀ b o, X.s₀.heap.get? b = some o → b ∉ X.ex → b ∉ ch := fun b o e hx hb => by
    rcases (hch b hb).1 with z | z
    · exact hx z
    · exact absurd (Nat.lt_of_lt_of_le (Heap.lt_size e) z) (Nat.lt_irrefl _)
  have cellK : ∀ x c, X.env.cells.lookup x = some c → ∀ v, s.heap.IsCell c v → h'.IsCell c v := fun x c e v ⟨o, ho, hd⟩ => by
    have nch : c ∉ ch := fun z => (hch c z).2.2.1 x c e rfl
    by_cases hc : c ∈ X.fs
    · obtain ⟨sl, q⟩ := slot c o (I.cne x c e) hc nch ho (I.freeC x c e)
      exact ⟨_, q, hd⟩
    · exact ⟨o, keep c o (I.cne x c e) hc nch ho (I.freeC x c e), hd⟩
  refine ⟨I.ok, I.os, hg, ⟨fun b o e n hb hx => ?_, fun b o e n hb hx => ?_, fun b o e n hx => ?_, fun b o e hx => ?_, fun b xs e => tups b xs (I.base.tups b xs e), fun b o xs e => frzs b o xs (I.base.frzs b o xs e), fun b ps e => ?_⟩, ?_, fun x c e => ?_, ?_, fun x c e => ?_, fun p hp => ?_, hok, I.len⟩
  · exact keep b o (neL b o e) hb (neC b o e hx) (I.base.keep b o e n hb hx) (I.base.free b o e n hx)
  · obtain ⟨sl, e1⟩ := I.base.slot b o e n hb hx
    obtain ⟨sl', e2⟩ := slot b _ (neL b o e) hb (neC b o e hx) e1 (I.base.free b o e n hx)
    exact ⟨sl', e2⟩
  · obtain ⟨o', e1⟩ := I.base.there b o e hx
    exact free b o' (neC b o e hx) e1 (I.base.free b o e n hx)
  · obtain ⟨o', e1⟩ := I.base.there b o e hx
    exact there b o' (neC b o e hx) e1
  · obtain ⟨m1, e1⟩ := I.base.tbls b ps e
    obtain ⟨m2, e2⟩ := tbls b _ e1
    exact ⟨m1 ++ m2, by rw [e2, Array.append_assoc]⟩
  · obtain ⟨m, hn, hl⟩ := I.loc
    refine ⟨m, ns m hn, fun i x v e1 e2 e3 => ?_⟩
    obtain ⟨u, r, l⟩ := hl i x v e1 e2 e3
    refine ⟨u, r, ?_⟩
    rcases l with l | ⟨k, c, e, z⟩
    · exact .inl l
    · exact .inr ⟨k, c, e, cellK x c e _ z⟩
  · obtain ⟨v, z⟩ := I.cell x c e
    exact ⟨v, cellK x c e v z⟩
  · obtain ⟨m, ⟨o, _, _, ho, _⟩, _⟩ := I.loc
    exact free _ o (fun z => (hch _ z).2.1 rfl) ho I.free
  · obtain ⟨v, o, ho, hd⟩ := I.cell x c e
    exact free c o (fun z => (hch c z).2.2.1 x c e rfl) ho (I.freeC x c e)
  · obtain ⟨e, n, ne, nf, d⟩ := I.pin p hp
    have nch : p.1 ∉ ch := fun z => (hch p.1 z).2.2.2 p hp rfl
    exact ⟨keep p.1 p.2 ne nf nch e n, free p.1 p.2 nch e n, ne, nf, d⟩
/-- .. where the frame's own object is kept too -/
theorem Inv.un {t' : Nat} (I : Inv X pins σ H s) (u : Un X.fs [] H H' s.heap h') (hok : HOk X.prog X.w H' h') : Inv X pins σ H' { s with heap := h', toks := t' } := by
  obtain ⟨m, ⟨o, es, ep, ho, r⟩, _⟩ := id I.loc
  obtain ⟨sl, hL⟩ := u.any ho I.free (by simp)
  exact I.step (g' := s.gens) (d' := s.drawn) (ch := []) (fun _ z => nomatch z) (fun b o _ hb _ e n => u.keep b o e n hb (by simp)) (fun b o _ hb _ e n => u.slot b o e n hb (by simp)) (fun b o _ e n => u.free b o e n (by simp)) (fun b o _ e => u.there b o e (by simp)) u.tups u.frzs u.tbls (fun m' hm => by
    obtain ⟨o', es', ep', ho', r'⟩ := hm
    rw [ho] at ho'; cases ho'
    exact ⟨_, es', ep', hL, r'⟩) hok I.bare
/-- behind a call (or a comprehension's block): the slots of this frame may have changed too, the records at ch may have turned -/
theorem Inv.call {g' : Array GenState} {t' : Nat} {d' : Drawn} {ch : List Addr} (I : Inv X pins σ H s) (u : Un (frs X.stack) ch H H' s.heap h') (hok : HOk X.prog X.w H' h') (hg : AllBare g')
    (hch : ∀ b ∈ ch, (b ∈ X.ex ∨ X.s₀.heap.objs.size ≤ b) ∧ b ≠ X.env.locals ∧ (∀ x c, X.env.cells.lookup x = some c → c ≠ b) ∧ ∀ p ∈ X.pn ++ pins, p.1 ≠ b) :
    Inv X pins σ H' { s with heap := h', gens := g', drawn := d', toks := t' } := by
  obtain ⟨m, ⟨o, es, ep, ho, r⟩, _⟩ := id I.loc
  obtain ⟨sl, hL⟩ := u.any ho I.free fun z => (hch _ z).2.1 rfl
  exact I.step (ch := ch) hch (fun b o hL hb hc e n => u.keep b o e n (fun z => (List.mem_cons.mp (I.stkSub b z)).elim hL hb) hc) (fun b o _ _ hc e n => u.any e n hc) (fun b o hc e n => u.free b o e n hc) (fun b o hc e => u.there b o e hc) u.tups u.frzs u.tbls (fun m' hm => by
    obtain ⟨o', es', ep', ho', r'⟩ := hm
    rw [ho] at ho'; cases ho'
    exact ⟨_, es', ep', hL, r'⟩) hok hg
/-- an untracked record of ours (an iterator) has turned -/
theorem Inv.turned {t' : Nat} {it : Addr} (I : Inv X pins σ H s) (k : ∀ b o, b ≠ it → s.heap.get? b = some o → h'.get? b = some o) (hn : H it = none) (hL : it ≠ X.env.locals)
    (h1 : it ∈ X.ex ∨ X.s₀.heap.objs.size ≤ it) (h2 : ∀ x c, X.env.cells.lookup x = some c → c ≠ it) (h3 : ∀ p ∈ X.pn ++ pins, p.1 ≠ it) : Inv X pins σ H { s with heap := h', toks := t' } := by
  have nit : ∀ b u, H b = some u → b ≠ it := fun b u e z => by rw [z, hn] at e; cases e
  refine I.step (g' := s.gens) (d' := s.drawn) (ch := [it]) (fun b hb => ?_) (fun b o _ _ hc e _ => k b o (fun z => hc (by simp [z])) e) (fun b o _ _ hc e _ => ⟨o.slots, k b o (fun z => hc (by simp [z])) e⟩) (fun _ _ _ _ n => n)
    (fun b o hc e => ⟨o, k b o (fun z => hc (by simp [z])) e⟩) (fun _ _ e => e) (fun _ _ _ e => e) (fun b ps e => ⟨#[], by rw [e]; simp⟩) (fun m hm => ?_) (fun b u e => ?_) I.bare
  · have e : b = it := by simpa using hb
    subst e
    exact ⟨h1, hL, h2, h3⟩
  · obtain ⟨o, es, ep, ho, r⟩ := hm
    exact ⟨o, es, ep, k _ o (Ne.symm hL) ho, r⟩
  · refine (I.hok b u e).stay (fun c v hc q => k c v ?_ q) (fun _ q => q) fun _ _ q => q
    rcases hc with z | z
    · rw [z]; exact nit b u e
    · exact nit c _ z
theorem Inv.tok (I : Inv X pins σ H s) (t : Nat) : Inv X pins σ H { s with toks := t } := I.un (h' := s.heap) (t' := t) Un.refl I.hok
/-- all objects kept -/
theorem Inv.kept {t' : Nat} (I : Inv X pins σ H s) (k : ∀ b u, s.heap.get? b = some u → h'.get? b = some u) : Inv X pins σ H { s with heap := h', toks := t' } := I.un (Un.kept k) (I.hok.kept k)
/-- a new object laid and tracked -/
theorem Inv.laid {a : Addr} {o : HO} {t' : Nat} (I : Inv X pins σ H s) (k : ∀ b u, s.heap.get? b = some u → h'.get? b = some u) (hp : s.heap.objs.size ≤ a) (new : ObjOk X.prog X.w (upd H a o) h' a o) :
    Inv X pins σ (upd H a o) { s with heap := h', toks := t' } := I.un (Un.laid k hp (I.hok.fresh hp)) (I.hok.laid k hp new)
/-- an object written -/
theorem Inv.write {x e : Addr} {o : HO} {t' : Nat} (I : Inv X pins σ H s) (mu : Mut (H x)) (he : e = x ∨ H e = some (.own x)) (k : ∀ b u, b ≠ e → s.heap.get? b = some u → h'.get? b = some u) (heo : ∃ u, h'.get? e = some u)
    (new : ObjOk X.prog X.w (upd H x o) h' x o) : Inv X pins σ (upd H x o) { s with heap := h', toks := t' } := I.un (Un.write mu he k heo) (I.hok.write mu he k heo new)
theorem Inv.pins_of {pins' : List (Addr × Obj)} (I : Inv X pins σ H s) (h : ∀ p ∈ pins', s.heap.get? p.1 = some p.2 ∧ H p.1 = none ∧ p.1 ≠ X.env.locals ∧ p.1 ∉ X.fs ∧ ∀ v, p.2.data ≠ .cell v) : Inv X pins' σ H s :=
  ⟨I.ok, I.os, I.bare, I.base, I.loc, I.cell, I.free, I.freeC, fun p hp => (List.mem_append.mp hp).elim (fun z => I.pin p (List.mem_append_left _ z)) (h p), I.hok, I.len⟩

theorem nodup_ix {N : List Str} (hN : N.Nodup) {i j : Nat} {x : Str} (a : N[i]? = some x) (b : N[j]? = some x) : i = j := by
  obtain ⟨h1, e1⟩ := List.getElem?_eq_some_iff.mp a
  obtain ⟨h2, e2⟩ := List.getElem?_eq_some_iff.mp b
  exact (List.getElem_inj hN).mp (e1.trans e2.symm)

/-- a name is stored; what changed -/
theorem store_ok2 {M : Model} {A : Around} {E : Value → Shared → Prop} {i : Nat} {x : Str} {v : V} {u : Value} {Q : Unit → Shared → Prop} (I : Inv X pins σ H s) (hN : X.N.Nodup) (hi : X.N[i]? = some x) (hx : Loc X.env.scope x) (r : RelV v u)
    (h : ∀ s', Inv X pins (σ.set i (some v)) H s' → (∃ a, Heap.SameBut a s.heap s'.heap ∧ (a = X.env.locals ∨ X.env.cells.lookup x = some a)) → Q () s') (hf : X.fn x = true ∨ X.env.scope.names.lookup x = some .local := by first | exact .inl rfl | exact .inr rfl | assumption) : wpAny M A (storeName X.env x u) Q E s := by
  obtain ⟨m, hn, hl⟩ := id I.loc
  have hcls : (X.env.scope.kind == .class || (X.env.scope.kind == .module && X.env.locals != X.env.globals)) = false := by rw [I.ok.kind]; rfl
  have hiσ : i < σ.length := by rw [I.len]; exact (List.getElem?_eq_some_iff.mp hi).1
  have cne := I.cne
  have tracked : ∀ {a : Addr} {h' : Heap}, (∃ o, s.heap.get? a = some o ∧ H a = none) → Heap.SameBut a s.heap h' → HOk X.prog X.w H h' := fun {a h'} ha hs b ob e => by
    obtain ⟨_, _, hfree⟩ := ha
    refine (I.hok b ob e).stay (fun c w' hc q => (hs.2 c ?_).trans q) (fun _ q => q) fun _ _ q => q
    rintro rfl
    rcases hc with rfl | hc
    · rw [hfree] at e; cases e
    · rw [hfree] at hc; cases hc
  rcases hx with hk | hk
  · refine wpAny_storeName_local hk hn (fun h' hn' hs => ?_) hcls
    obtain ⟨oL, _, _, hoL, _⟩ := id hn
    refine h _ ⟨I.ok, I.os, I.bare, ⟨fun b o e n hb hx => ?_, fun b o e n hb hx => ?_, I.base.free, fun b o e hx => ?_, I.base.tups, I.base.frzs, I.base.tbls⟩, ⟨_, hn', fun j y v' e1 e2 e3 => ?_⟩, fun y c e => ?_, I.free, I.freeC, fun p hp => ?_, tracked ⟨oL, hoL, I.free⟩ hs, by simpa using I.len⟩ ⟨_, hs, .inl rfl⟩
    · exact (hs.2 b (Nat.ne_of_lt (Nat.lt_of_lt_of_le (Heap.lt_size e) I.ok.above))).trans (I.base.keep b o e n hb hx)
    · obtain ⟨sl, e1⟩ := I.base.slot b o e n hb hx
      exact ⟨sl, (hs.2 b (Nat.ne_of_lt (Nat.lt_of_lt_of_le (Heap.lt_size e) I.ok.above))).trans e1⟩
    · obtain ⟨o', e1⟩ := I.base.there b o e hx
      exact ⟨o', (hs.2 b (Nat.ne_of_lt (Nat.lt_of_lt_of_le (Heap.lt_size e) I.ok.above))).trans e1⟩
    · by_cases hj : j = i
      · subst hj
        rw [hi] at e1; cases e1
        rw [List.getElem?_set_self hiσ] at e2
        cases e2
        exact ⟨u, r, .inl ⟨hk, by simp⟩⟩
      · rw [List.getElem?_set_ne (Ne.symm hj)] at e2
        obtain ⟨u', r', q⟩ := hl j y v' e1 e2 e3
        refine ⟨u', r', ?_⟩
        rcases q with ⟨k, e⟩ | ⟨k, c, e, z⟩
        · refine .inl ⟨k, ?_⟩
          have : y ≠ x := fun e => hj (nodup_ix hN e1 (e ▸ hi))
          simp [this, e]
        · exact .inr ⟨k, c, e, z.sameBut hs (cne y c e)⟩
    · obtain ⟨w', z⟩ := I.cell y c e
      exact ⟨w', z.sameBut hs (cne y c e)⟩
    · obtain ⟨e, n, ne, nf, d⟩ := I.pin p hp
      exact ⟨(hs.2 p.1 ne).trans e, n, ne, nf, d⟩
  · have hfn : X.fn x = true := by
      rcases hf with z | z
      · exact z
      · rw [z] at hk; cases hk
    obtain ⟨c, hc⟩ := I.ok.has x (.inl hk)
    obtain ⟨w', z⟩ := I.cell x c hc
    refine wpAny_storeName_cell I.ok.kind hk hc z (fun h' hc' hs => ?_)
    obtain ⟨oc, hoc, hocd⟩ := id z
    refine h { s with heap := h' } ⟨I.ok, I.os, I.bare, ⟨fun b o e n hb hx => ?_, fun b o e n hb hx => ?_, I.base.free, fun b o e hx => ?_, I.base.tups, I.base.frzs, I.base.tbls⟩, ⟨m, hn.sameBut hs (Ne.symm (cne x c hc)), fun j y v' e1 e2 e3 => ?_⟩, fun y c' e => ?_, I.free, I.freeC, fun p hp => ?_, tracked ⟨oc, hoc, I.freeC x c hc⟩ hs, by simpa using I.len⟩ ⟨c, hs, .inr hc⟩
    · exact (hs.2 b (Nat.ne_of_lt (Nat.lt_of_lt_of_le (Heap.lt_size e) (I.ok.cab x c hfn hc)))).trans (I.base.keep b o e n hb hx)
    · obtain ⟨sl, e1⟩ := I.base.slot b o e n hb hx
      exact ⟨sl, (hs.2 b (Nat.ne_of_lt (Nat.lt_of_lt_of_le (Heap.lt_size e) (I.ok.cab x c hfn hc)))).trans e1⟩
    · obtain ⟨o', e1⟩ := I.base.there b o e hx
      exact ⟨o', (hs.2 b (Nat.ne_of_lt (Nat.lt_of_lt_of_le (Heap.lt_size e) (I.ok.cab x c hfn hc)))).trans e1⟩
    · by_cases hj : j = i
      · subst hj
        rw [hi] at e1; cases e1
        rw [List.getElem?_set_self hiσ] at e2
        cases e2
        exact ⟨u, r, .inr ⟨.inl hk, c, hc, hc'⟩⟩
      · rw [List.getElem?_set_ne (Ne.symm hj)] at e2
        obtain ⟨u', r', q⟩ := hl j y v' e1 e2 e3
        refine ⟨u', r', ?_⟩
        rcases q with q | ⟨k, c', e, z'⟩
        · exact .inl q
        · refine .inr ⟨k, c', e, z'.sameBut hs ?_⟩
          rintro rfl
          exact hj (nodup_ix hN e1 (I.ok.inj _ _ _ e hc ▸ hi))
    · by_cases hcc : c' = c
      · subst hcc; exact ⟨_, hc'⟩
      · obtain ⟨w2, z2⟩ := I.cell y c' e
        exact ⟨w2, z2.sameBut hs hcc⟩
    · obtain ⟨e, n, ne, nf, d⟩ := I.pin p hp
      refine ⟨(hs.2 p.1 ?_).trans e, n, ne, nf, d⟩
      intro q
      rw [q, hoc] at e
      have q' : oc = p.2 := Option.some.inj e
      exact d w' (by rw [← q']; exact hocd)
theorem store_ok {M : Model} {A : Around} {E : Value → Shared → Prop} {i : Nat} {x : Str} {v : V} {u : Value} {Q : Unit → Shared → Prop} (I : Inv X pins σ H s) (hN : X.N.Nodup) (hi : X.N[i]? = some x) (hx : Loc X.env.scope x) (r : RelV v u)
    (h : ∀ s', Inv X pins (σ.set i (some v)) H s' → Q () s') (hf : X.fn x = true ∨ X.env.scope.names.lookup x = some .local := by first | exact .inl rfl | exact .inr rfl | assumption) : wpAny M A (storeName X.env x u) Q E s :=
  store_ok2 I hN hi hx r (fun s' I' _ => h s' I') hf
/-- behind a call or a block, the state as it is -/
theorem Inv.call' {s' : Shared} {ch : List Addr} (I : Inv X pins σ H s) (ho : s'.os = s.os) (u : Un (frs X.stack) ch H H' s.heap s'.heap) (hok : HOk X.prog X.w H' s'.heap) (hg : AllBare s'.gens)
    (hch : ∀ b ∈ ch, (b ∈ X.ex ∨ X.s₀.heap.objs.size ≤ b) ∧ b ≠ X.env.locals ∧ (∀ x c, X.env.cells.lookup x = some c → c ≠ b) ∧ ∀ p ∈ X.pn ++ pins, p.1 ≠ b) : Inv X pins σ H' s' := by
  obtain ⟨h', g', d', t', o'⟩ := s'
  have e : o' = s.os := ho
  subst e
  exact I.call (g' := g') (t' := t') (d' := d') u hok hg hch
end

/-! ### the judgements -/
/-- an exception: its class, its own dict's address (where it has one), the abstract heap behind it -/
abbrev XK := Value → Option Addr → Hp → Prop
abbrev St := List (Option V)
abbrev VK := V → Hp → Prop
/-- an expression's reading; a test's; an argument list's -/
abbrev TE := St → Hp → VK → Prop
abbrev TT := St → Hp → (Bool → Hp → Prop) → Prop
abbrev TA := St → Hp → (List V → Hp → Prop) → Prop
/-- what is wanted behind a statement -/
structure Ends where
  nx : St → Hp → Prop
  rt : VK
  bk : St → Hp → Prop := fun _ _ => False
  ct : St → Hp → Prop := fun _ _ => False
abbrev TS := Ends → St → Hp → Prop

def EP (X : Cx) (pins : List (Addr × Obj)) (σ : St) (Q : VK) (u : Value) (s' : Shared) : Prop := ∃ v H', Inv X pins σ H' s' ∧ RelV v u ∧ Q v H'
def TP (X : Cx) (pins : List (Addr × Obj)) (σ : St) (Q : Bool → Hp → Prop) (b : Bool) (s' : Shared) : Prop := ∃ H', Inv X pins σ H' s' ∧ Q b H'
def AP (X : Cx) (pins : List (Addr × Obj)) (σ : St) (Q : List V → Hp → Prop) (us : List Value) (s' : Shared) : Prop := ∃ vs H', Inv X pins σ H' s' ∧ Vals vs us ∧ Q vs H'
def SP (X : Cx) (pins : List (Addr × Obj)) (D : Ends) (f : Flow) (s' : Shared) : Prop :=
  match f with
  | .next => ∃ σ' H', Inv X pins σ' H' s' ∧ D.nx σ' H'
  | .brk => ∃ σ' H', Inv X pins σ' H' s' ∧ D.bk σ' H'
  | .cont => ∃ σ' H', Inv X pins σ' H' s' ∧ D.ct σ' H'
  | .ret u => ∃ v σ' H', Inv X pins σ' H' s' ∧ RelV v u ∧ D.rt v H'

def PE (X : Cx) (e : Expr) (t : TE) : Prop :=
  ∀ (pins : List (Addr × Obj)) (s : Shared) (σ : St) (H : Hp) (Q : VK), Inv X pins σ H s → t σ H Q → wpAny (model X.prog X.w) X.A (eval e X.env) (EP X pins σ Q) X.xe s
def PT (X : Cx) (e : Expr) (t : TT) : Prop :=
  ∀ (pins : List (Addr × Obj)) (s : Shared) (σ : St) (H : Hp) (Q : Bool → Hp → Prop), Inv X pins σ H s → t σ H Q → wpAny (model X.prog X.w) X.A (isTrue e X.env (eval e X.env)) (TP X pins σ Q) X.xe s
/-- a test whatever its 'whole' is (and, or) -/
def PW (X : Cx) (e : Expr) (t : TT) : Prop :=
  ∀ (whole : Sem Value) (pins : List (Addr × Obj)) (s : Shared) (σ : St) (H : Hp) (Q : Bool → Hp → Prop), Inv X pins σ H s → t σ H Q → wpAny (model X.prog X.w) X.A (isTrue e X.env whole) (TP X pins σ Q) X.xe s
theorem PW.pt {X : Cx} {e : Expr} {t : TT} (h : PW X e t) : PT X e t := h _
/-- an argument list (no star), from the left -/
def PA (X : Cx) (es : List Expr) (t : TA) : Prop :=
  ∀ (pos : Pos) (pins : List (Addr × Obj)) (s : Shared) (σ : St) (H : Hp) (Q : List V → Hp → Prop), Inv X pins σ H s → t σ H Q → wpAny (model X.prog X.w) X.A (spliced (backTo pos (starEach es X.env))) (AP X pins σ Q) X.xe s
def PS (X : Cx) (st : Stmt) (t : TS) : Prop :=
  ∀ (pins : List (Addr × Obj)) (s : Shared) (σ : St) (H : Hp) (D : Ends), Inv X pins σ H s → t D σ H → wpAny (model X.prog X.w) X.A (exec st X.env) (SP X pins D) X.xe s
def PSs (X : Cx) (st : List Stmt) (t : TS) : Prop :=
  ∀ (pins : List (Addr × Obj)) (s : Shared) (σ : St) (H : Hp) (D : Ends), Inv X pins σ H s → t D σ H → wpAny (model X.prog X.w) X.A (execs st X.env) (SP X pins D) X.xe s
/-- weaken the end -/
theorem thn {α : Type} {t : Sem α} {Q Q' : α → Shared → Prop} {M : Model} {A : Around} {E : Value → Shared → Prop} {s : Shared} (h : wpAny M A t Q E s) (hQ : ∀ a s, Q a s → Q' a s) : wpAny M A t Q' E s := wpAny_mono h hQ fun _ _ x => x
end L2

namespace L2
open PySem PySem.Spec PyProof.Rows
section
variable {X : Cx}

/-- two expressions in a row -/
theorem bin {a b : Expr} {ta tb : TE} (ha : PE X a ta) (hb : PE X b tb) {pins : List (Addr × Obj)} {s : Shared} {σ : St} {H : Hp} {R : V → V → Hp → Prop} (I : Inv X pins σ H s) (h : ta σ H fun x H1 => tb σ H1 fun y H2 => R x y H2)
    {α : Type} {Q : α → Shared → Prop} {f : Value → Value → Sem α}
    (hf : ∀ v u s2 x y H2, Inv X pins σ H2 s2 → RelV x v → RelV y u → R x y H2 → wpAny (model X.prog X.w) X.A (f v u) Q X.xe s2) :
    wpAny (model X.prog X.w) X.A (eval a X.env) (fun v s₁ => wpAny (model X.prog X.w) X.A (eval b X.env) (fun u s₂ => wpAny (model X.prog X.w) X.A (f v u) Q X.xe s₂) X.xe s₁) X.xe s := by
  refine thn (ha pins s σ H _ I h) fun v s1 ⟨x, H1, I1, r1, q1⟩ => ?_
  refine thn (hb pins s1 σ H1 _ I1 q1) fun u s2 ⟨y, H2, I2, r2, q2⟩ => ?_
  exact hf v u s2 x y H2 I2 r1 r2 q2

/-! ### names and constants -/
def tVar (i : Nat) : TE := fun σ H Q => ∃ v, σ[i]? = some (some v) ∧ Q v H
def tC (v : V) : TE := fun _ H Q => Q v H
theorem pe_var {i : Nat} {x : Str} {pos : Pos} (hN : X.N[i]? = some x) (hv : Vis X.env.scope x) (hd : (x == ("__debug__" : Str)) = false := by decide) (hcd : (x == ("__classdict__" : Str)) = false := by decide) : PE X (.Name x pos) (tVar i) := by
  intro pins s σ H Q I h
  obtain ⟨v, e, h⟩ := h
  obtain ⟨m, hn, hl⟩ := I.loc
  obtain ⟨u, r, l⟩ := hl i x v hN e hv
  have fin : EP X pins σ Q u s := ⟨v, H, I, r, h⟩
  rcases l with ⟨hk, hm⟩ | ⟨hk, c, hc, hcell⟩
  · exact wpAny_Name (wpAny_loadName_local I.ok.kind hk hn hm fin) hd
  · rcases hk with hk | hk
    · exact wpAny_Name (wpAny_loadName_cell I.ok.kind hk hc hcell fin) hd
    · exact wpAny_Name (wpAny_loadName_free I.ok.kind hk hc hcell fin hcd) hd
theorem pe_int {i j pos} : PE X (.Constant (.int i) j pos) (tC (.int i)) := fun _ _ _ H _ I h => wpAny_Constant_int ⟨.int i, H, I.tok _, ⟨_, rfl⟩, h⟩
theorem pe_bl {b j pos} : PE X (.Constant (.bool b) j pos) (tC (.bl b)) := fun _ _ _ H _ I h => Constant_bool ⟨.bl b, H, I, rfl, h⟩
theorem pe_non {j pos} : PE X (.Constant .none j pos) (tC .non) := fun _ _ _ H _ I h => Constant_none ⟨.non, H, I, rfl, h⟩
theorem pe_str {x j pos} : PE X (.Constant (.str x) j pos) (tC (.str x)) := fun _ _ _ H _ I h => Calls.Constant_str ⟨.str x, H, I.tok _, ⟨_, rfl⟩, h⟩

/-- a global name of the def -/
def Gl (X : Cx) (x : Str) : Prop := X.env.kindOf x = some .globalImplicit
theorem ld_glob {E : Value → Shared → Prop} {pins : List (Addr × Obj)} {s : Shared} {σ : St} {H : Hp} {x : Str} {u : Value} {pos : Pos} {Q : Value → Shared → Prop} (I : Inv X pins σ H s) (hg : Gl X x) (hm : X.mg x = some u) (h : Q u s)
    (hd : (x == ("__debug__" : Str)) = false := by decide) : wpAny (model X.prog X.w) X.A (eval (.Name x pos) X.env) Q E s :=
  Calls.Name_function_global I.ok.kind hg (Calls.loadGlobal_global (by rw [I.ok.glob]; exact I.mod.glob.keeps I.bk) hm h) hd
theorem ld_blt {E : Value → Shared → Prop} {pins : List (Addr × Obj)} {s : Shared} {σ : St} {H : Hp} {x : Str} {u : Value} {pos : Pos} {Q : Value → Shared → Prop} (I : Inv X pins σ H s) (hg : Gl X x) (hm : X.mg x = none) (hv : bootBuiltins x = some u) (h : Q u s)
    (hn : x ≠ "__name__" := by decide) (hd : (x == ("__debug__" : Str)) = false := by decide) : wpAny (model X.prog X.w) X.A (eval (.Name x pos) X.env) Q E s := by
  obtain ⟨mb, h1, h2⟩ := I.mod.blt
  exact Calls.Name_function_global I.ok.kind hg (Calls.loadGlobal_builtin (by rw [I.ok.glob]; exact I.mod.glob.keeps I.bk) hm (by rw [I.ok.blt]; exact h1.keeps I.bk) ((h2 x hn).trans hv) h) hd
/-- a module's constant, a class, a function, as a value -/
theorem pe_glob {x : Str} {v : V} {u : Value} {pos : Pos} (hg : Gl X x) (hm : X.mg x = some u) (r : RelV v u) (hd : (x == ("__debug__" : Str)) = false := by decide) : PE X (.Name x pos) (tC v) :=
  fun _ _ _ H _ I h => ld_glob I hg hm ⟨v, H, I, r, h⟩ hd
theorem pe_bltn {x : Str} {v : V} {u : Value} {pos : Pos} (hg : Gl X x) (hm : X.mg x = none) (hv : bootBuiltins x = some u) (r : RelV v u) (hn : x ≠ "__name__" := by decide) (hd : (x == ("__debug__" : Str)) = false := by decide) : PE X (.Name x pos) (tC v) :=
  fun _ _ _ H _ I h => ld_blt I hg hm hv ⟨v, H, I, r, h⟩ hn hd

variable {a b : Expr} {ta tb : TE} {pos : Pos}
/-! ### comparisons -/
def PC (X : Cx) (op : CmpOp) (a b : Expr) (t : TE) : Prop :=
  ∀ (pins : List (Addr × Obj)) (s : Shared) (σ : St) (H : Hp) (Q : VK), Inv X pins σ H s → t σ H Q →
    wpAny (model X.prog X.w) X.A (eval a X.env) (fun v s₁ => wpAny (model X.prog X.w) X.A (eval b X.env) (fun u s₂ => wpAny (model X.prog X.w) X.A (compareOp op v u) (EP X pins σ Q) X.xe s₂) X.xe s₁) X.xe s
theorem nobehind (b : Expr) {op : CmpOp} (h : op ≠ .In) (h2 : op ≠ .NotIn) : behindInMarks op b = false := by
  have e1 : (op == CmpOp.In) = false := by cases op <;> first | rfl | exact absurd rfl h
  have e2 : (op == CmpOp.NotIn) = false := by cases op <;> first | rfl | exact absurd rfl h2
  cases b <;> simp [behindInMarks, e1, e2]
/-- a comparison as a value, as a test -/
def tB (t : TE) : TT := fun σ H Q => t σ H fun x H1 => ∃ c, x = .bl c ∧ Q c H1
theorem pe_cmp {op : CmpOp} {t : TE} (h : PC X op a b t) (h1 : behindInMarks op b = false := by first | exact nobehind _ (by decide) (by decide) | rfl) : PE X (.Compare a [op] [b] pos) t := fun pins s σ H Q I hw => wpAny_Compare1 (h pins s σ H Q I hw) h1
theorem pt_cmp {op : CmpOp} {t : TE} (h : PC X op a b t) (h1 : behindInMarks op b = false := by first | exact nobehind _ (by decide) (by decide) | rfl) : PT X (.Compare a [op] [b] pos) (tB t) := by
  intro pins s σ H Q I hw
  refine wpAny_isTrue_Compare1 (thn (h pins s σ H _ I hw) fun v s1 h1 => thn h1 fun u s2 h2 => thn h2 fun c s3 ⟨x, H1, I1, r1, q1⟩ => ?_) h1
  obtain ⟨d, rfl, q⟩ := q1
  cases r1
  exact wpAny_truthy_bool ⟨H1, I1, q⟩
/-- an expression whose value is a bool, as a test -/
theorem pt_val {e : Expr} {t : TE} (h : PE X e t) (he : ∀ whole, isTrue e X.env whole = (do let v ← whole; standAt e.pos; holding [v] (truthy v)) := by intro _; rfl) : PT X e (tB t) := by
  intro pins s σ H Q I hw
  refine isTrue_plain (thn (h pins s σ H _ I hw) fun v s1 ⟨x, H1, I1, r1, q1⟩ => ?_) (he _)
  obtain ⟨d, rfl, q⟩ := q1
  cases r1
  exact wpAny_truthy_bool ⟨H1, I1, q⟩

/-! ### and, or, not -/
variable {tA tB' : TT} {rest : List Expr}
def tAnd (t u : TT) : TT := fun σ H Q => t σ H fun c H1 => if c = true then u σ H1 Q else Q false H1
def tOr (t u : TT) : TT := fun σ H Q => t σ H fun c H1 => if c = true then Q true H1 else u σ H1 Q
def tNot (t : TT) : TT := fun σ H Q => t σ H fun c H1 => Q (!c) H1
theorem pw_and1 (ha : PT X a tA) : PW X (.BoolOp .And [a] pos) tA := by
  intro wh pins s σ H Q I h
  refine isTrue_and (thn (ha pins s σ H Q I h) fun c s1 e => ?_)
  cases c with
  | true => exact isTrue_and_nil e
  | false => exact e
theorem pw_or1 (ha : PT X a tA) : PW X (.BoolOp .Or [a] pos) tA := by
  intro wh pins s σ H Q I h
  refine isTrue_or (thn (ha pins s σ H Q I h) fun c s1 e => ?_)
  cases c with
  | false => exact isTrue_or_nil e
  | true => exact e
theorem pw_and (ha : PT X a tA) (hb : PW X (.BoolOp .And (b :: rest) pos) tB') : PW X (.BoolOp .And (a :: b :: rest) pos) (tAnd tA tB') := by
  intro wh pins s σ H Q I h
  refine isTrue_and (thn (ha pins s σ H _ I h) fun c s1 ⟨H1, I1, q1⟩ => ?_)
  cases c with
  | true => exact hb wh pins s1 σ H1 Q I1 q1
  | false => exact ⟨H1, I1, q1⟩
theorem pw_or (ha : PT X a tA) (hb : PW X (.BoolOp .Or (b :: rest) pos) tB') : PW X (.BoolOp .Or (a :: b :: rest) pos) (tOr tA tB') := by
  intro wh pins s σ H Q I h
  refine isTrue_or (thn (ha pins s σ H _ I h) fun c s1 ⟨H1, I1, q1⟩ => ?_)
  cases c with
  | true => exact ⟨H1, I1, q1⟩
  | false => exact hb wh pins s1 σ H1 Q I1 q1
theorem pt_not (ha : PT X a tA) : PT X (.UnaryOp .Not a pos) (tNot tA) := by
  intro pins s σ H Q I h
  exact isTrue_not (ha pins s σ H (fun c H1 => Q (!c) H1) I h)
/-- .. as values (bools) -/
def tAndV (ta tb : TE) : TE := fun σ H Q => ta σ H fun x H1 => ∃ c, x = .bl c ∧ if c = true then tb σ H1 Q else Q (.bl false) H1
def tNotV (ta : TE) : TE := fun σ H Q => ta σ H fun x H1 => ∃ c, x = .bl c ∧ Q (.bl (!c)) H1
theorem pe_one {op} {t : TE} (h : PE X a t) : PE X (.BoolOp op [a] pos) t := fun pins s σ H Q I hw => BoolOp_one (h pins s σ H Q I hw)
theorem pe_and (ha : PE X a ta) (hb : PE X (.BoolOp .And (b :: rest) pos) tb) : PE X (.BoolOp .And (a :: b :: rest) pos) (tAndV ta tb) := by
  intro pins s σ H Q I h
  refine BoolOp_and (thn (ha pins s σ H _ I h) fun v s1 ⟨x, H1, I1, r1, q1⟩ => ?_)
  obtain ⟨c, rfl, q1⟩ := q1
  cases r1
  refine wpAny_truthy_bool ?_
  cases c with
  | true => exact hb pins s1 σ H1 Q I1 q1
  | false => exact ⟨.bl false, H1, I1, rfl, q1⟩
theorem pe_not (ha : PE X a ta) : PE X (.UnaryOp .Not a pos) (tNotV ta) := by
  intro pins s σ H Q I h
  refine UnaryOp_ (thn (ha pins s σ H _ I h) fun v s1 ⟨x, H1, I1, r1, q1⟩ => ?_)
  obtain ⟨c, rfl, q1⟩ := q1
  cases r1
  exact not_of (wpAny_truthy_bool ⟨.bl (!c), H1, I1, rfl, q1⟩)
end
end L2

namespace L2
open PySem PySem.Spec PyProof.Rows

/-! ### a list, a tuple that is read: tracked, frozen, or an object of the module -/
def SqL (K : PySem.W.Frag) (H : Hp) (a : Addr) (xs : List V) : Prop :=
  Rd H a (.lst xs) ∨
    ∃ (o : Obj) (its : Array Value) (n : Nat), K.lookup a = some o ∧ o.cls = .type "list" ∧ o.dict = none ∧ o.data = .seq its n ∧ its.size ≤ sizeLine ∧ Vals xs its.toList
def SqT (K : PySem.W.Frag) (H : Hp) (a : Addr) (xs : List V) : Prop :=
  Rd H a (.tup xs) ∨
    ∃ (o : Obj) (its : Array Value) (n : Nat), K.lookup a = some o ∧ o.cls = .type "tuple" ∧ o.data = .seq its n ∧ its.size ≤ sizeLine ∧ Vals xs its.toList
def absV : Value → Option V
  | .none => some .non
  | .bool b => some (.bl b)
  | .int i _ => some (.int i)
  | .str x _ => some (.str x)
  | .bytes b _ => some (.byt b)
  | .float b _ => some (.flt b)
  | .ref a => some (.ref a)
  | .type n => some (.ty n)
  | _ => none
theorem RelV.abs {x : V} {u : Value} (r : RelV x u) : absV u = some x := by
  cases x with
  | non => cases r; rfl
  | bl _ => cases r; rfl
  | int _ => obtain ⟨t, rfl⟩ := r; rfl
  | str _ => obtain ⟨t, rfl⟩ := r; rfl
  | byt _ => obtain ⟨t, rfl⟩ := r; rfl
  | flt _ => obtain ⟨t, rfl⟩ := r; rfl
  | ref _ => cases r; rfl
  | ty _ => cases r; rfl
theorem RelV.inj {x y : V} {u : Value} (r : RelV x u) (q : RelV y u) : x = y := Option.some.inj (r.abs.symm.trans q.abs)
theorem Vals.inj : ∀ {xs ys : List V} {us : List Value}, Vals xs us → Vals ys us → xs = ys
  | _, _, _, .nil, .nil => rfl
  | _, _, _, .cons r t, .cons r' t' => by rw [r.inj r', Vals.inj t t']
section
variable {X : Cx} {pins : List (Addr × Obj)} {σ : St} {H : Hp} {s : Shared} {a : Addr} {xs ys : List V}
theorem SqL.of {K : PySem.W.Frag} (h : H a = some (.lst xs)) : SqL K H a xs := .inl (.inl h)
theorem SqT.of {K : PySem.W.Frag} (h : H a = some (.tup xs)) : SqT K H a xs := .inl (.inl h)
theorem Inv.list (I : Inv X pins σ H s) (h : SqL X.K H a xs) : ∃ its : List Value, Vals xs its ∧ PlainL s.heap a its.toArray ∧ xs.length ≤ sizeLine := by
  rcases h with h | ⟨o, its, n, hk, hc, hd, hs, hz, r⟩
  · obtain ⟨z, its, n, r, e⟩ := h.ok I.hok
    exact ⟨its, r, ⟨_, n, e, rfl, rfl, rfl⟩, z⟩
  · refine ⟨its.toList, r, ⟨o, n, I.kIn a o hk, hc, hd, by simpa using hs⟩, ?_⟩
    have e := r.length
    simp only [Array.length_toList] at e
    omega
theorem Inv.tuple (I : Inv X pins σ H s) (h : SqT X.K H a xs) : ∃ its : List Value, Vals xs its ∧ IsTup s.heap a its.toArray ∧ xs.length ≤ sizeLine := by
  rcases h with h | ⟨o, its, n, hk, hc, hs, hz, r⟩
  · obtain ⟨z, its, r, p⟩ := h.ok I.hok
    exact ⟨its, r, p, z⟩
  · refine ⟨its.toList, r, ⟨o, I.kIn a o hk, hc, n, by simpa using hs⟩, ?_⟩
    have e := r.length
    simp only [Array.length_toList] at e
    omega
theorem Inv.list_inj (I : Inv X pins σ H s) (h : SqL X.K H a xs) (h' : SqL X.K H a ys) : xs = ys := by
  obtain ⟨its, r, ⟨o, n, e, _, _, d⟩, _⟩ := I.list h
  obtain ⟨its', r', ⟨o', n', e', _, _, d'⟩, _⟩ := I.list h'
  rw [e] at e'; cases e'
  rw [d] at d'
  injection d' with d1 _
  have : its = its' := by simpa using congrArg Array.toList d1
  subst this
  exact r.inj r'
end

/-! ### another wish about exceptions -/
abbrev Cx.wish (X : Cx) (E : Value → Shared → Prop) : Cx := { X with xe := E }
/-- no exception leaves -/
abbrev Cx.nox (X : Cx) : Cx := X.wish fun _ _ => False
theorem Cx.Ok.wish {X : Cx} (ok : X.Ok) (E : Value → Shared → Prop) : (X.wish E).Ok :=
  ⟨ok.mod, ok.kind, ok.glob, ok.blt, ok.above, ok.inj, ok.has, ok.cab, ok.hd, ok.frames, ok.stk, ok.exf, ok.bs, ok.bsz, ok.noex, ok.exfs, ok.funs, ok.frf⟩
theorem Cx.Ok.unwish {X : Cx} {E : Value → Shared → Prop} (ok : (X.wish E).Ok) : X.Ok :=
  ⟨ok.mod, ok.kind, ok.glob, ok.blt, ok.above, ok.inj, ok.has, ok.cab, ok.hd, ok.frames, ok.stk, ok.exf, ok.bs, ok.bsz, ok.noex, ok.exfs, ok.funs, ok.frf⟩
section
variable {X : Cx} {pins : List (Addr × Obj)} {σ : St} {H : Hp} {s : Shared} {E : Value → Shared → Prop}
theorem Inv.wish (I : Inv X pins σ H s) (E : Value → Shared → Prop) : Inv (X.wish E) pins σ H s := ⟨I.ok.wish E, I.os, I.bare, I.base, I.loc, I.cell, I.free, I.freeC, I.pin, I.hok, I.len⟩
theorem Inv.unwish (I : Inv (X.wish E) pins σ H s) : Inv X pins σ H s := ⟨I.ok.unwish, I.os, I.bare, I.base, I.loc, I.cell, I.free, I.freeC, I.pin, I.hok, I.len⟩
theorem SP.unwish {D : Ends} {f : Flow} {s' : Shared} (h : SP (X.wish E) pins D f s') : SP X pins D f s' := by
  cases f with
  | next => obtain ⟨σ', H', I, q⟩ := h; exact ⟨σ', H', I.unwish, q⟩
  | brk => obtain ⟨σ', H', I, q⟩ := h; exact ⟨σ', H', I.unwish, q⟩
  | cont => obtain ⟨σ', H', I, q⟩ := h; exact ⟨σ', H', I.unwish, q⟩
  | ret u => obtain ⟨v, σ', H', I, r, q⟩ := h; exact ⟨v, σ', H', I.unwish, r, q⟩
theorem PSs.nox {st : List Stmt} {t : TS} (h : PSs X.nox st t) : PSs X st t := fun pins s σ H D I hw =>
  wpAny_mono (h pins s σ H D (I.wish _) hw) (fun _ _ q => q.unwish) fun _ _ z => False.elim z
end

/-! ### blocks and small statements -/
section
variable {X : Cx} {st : Stmt} {rest : List Stmt} {t u : TS} {e : Expr} {te : TE} {pos : Pos}
def tNext : TS := fun D σ H => D.nx σ H
def tSeq (t u : TS) : TS := fun D σ H => t { D with nx := u D } σ H
theorem pss_nil : PSs X [] tNext := fun _ _ σ H _ I h => wpAny_execs_nil ⟨σ, H, I, h⟩
theorem pss_cons (h1 : PS X st t) (h2 : PSs X rest u) : PSs X (st :: rest) (tSeq t u) := by
  intro pins s σ H D I h
  refine wpAny_execs_cons (thn (h1 pins s σ H { D with nx := u D } I h) fun f s1 q => ?_)
  cases f with
  | next =>
    obtain ⟨σ', H', I', q⟩ := q
    exact h2 pins s1 σ' H' D I' q
  | ret v => exact q
  | brk => exact q
  | cont => exact q
theorem pss_one (h1 : PS X st t) : PSs X [st] t := by
  intro pins s σ H D I h
  refine wpAny_execs_cons (thn (h1 pins s σ H D I h) fun f s1 q => ?_)
  cases f with
  | next => exact wpAny_execs_nil q
  | ret v => exact q
  | brk => exact q
  | cont => exact q
/-- in a def's body nothing is shown -/
theorem Inv.quiet {pins : List (Addr × Obj)} {σ : St} {H : Hp} {s : Shared} (I : Inv X pins σ H s) : interactive X.env = false := by simp [interactive, I.ok.kind]
/-- an expression whose value is dropped -/
def tDrop (te : TE) : TS := fun D σ H => te σ H fun _ H1 => D.nx σ H1
theorem ps_expr (he : PE X e te) (hs : swapsWith e none pos.line X.env = pure false := by rfl) : PS X (.Expr e pos) (tDrop te) := by
  intro pins s σ H D I h
  exact wpAny_Expr_any (thn (he pins s σ H _ I h) fun v s1 ⟨x, H1, I1, r1, q1⟩ => ⟨σ, H1, I1, q1⟩) I.quiet hs
def tRet (te : TE) : TS := fun D σ H => te σ H D.rt
theorem ps_ret (he : PE X e te) : PS X (.Return (some e) pos) (tRet te) := by
  intro pins s σ H D I h
  exact wpAny_Return_some (thn (he pins s σ H _ I h) fun v s1 ⟨x, H1, I1, r1, q1⟩ => ⟨x, σ, H1, I1, r1, q1⟩)
def tIfS (c : TT) (t u : TS) : TS := fun D σ H => c σ H fun b H1 => if b = true then t D σ H1 else u D σ H1
theorem ps_if {c : Expr} {a b : List Stmt} {tc : TT} (hc : PT X c tc) (ha : PSs X a t) (hb : PSs X b u) : PS X (.If c a b pos) (tIfS tc t u) := by
  intro pins s σ H D I h
  refine wpAny_If (thn (hc pins s σ H _ I h) fun d s1 ⟨H1, I1, q1⟩ => ?_)
  cases d with
  | true => exact ha pins s1 σ H1 D I1 q1
  | false => exact hb pins s1 σ H1 D I1 q1
/-- code that the proof never comes to -/
def tNever : TS := fun _ _ _ => False
theorem ps_never : PS X st tNever := fun _ _ _ _ _ _ h => h.elim
theorem pss_never {sts : List Stmt} : PSs X sts tNever := fun _ _ _ _ _ _ h => h.elim
end

/-! ### targets -/
abbrev TG := V → St → Hp → (St → Hp → Prop) → Prop
abbrev TGs := List V → St → Hp → (St → Hp → Prop) → Prop
def PG (X : Cx) (target : Expr) (t : TG) : Prop :=
  ∀ (pins : List (Addr × Obj)) (s : Shared) (σ : St) (H : Hp) (v : V) (u : Value) (Q : St → Hp → Prop), Inv X pins σ H s → RelV v u → t v σ H Q →
    wpAny (model X.prog X.w) X.A (assign target X.env u) (fun _ s' => ∃ σ' H', Inv X pins σ' H' s' ∧ Q σ' H') X.xe s
/-- several targets, one after another -/
def PGs (X : Cx) (ts : List Expr) (t : TGs) : Prop :=
  ∀ (pins : List (Addr × Obj)) (s : Shared) (σ : St) (H : Hp) (vs : List V) (us : List Value) (Q : St → Hp → Prop), Inv X pins σ H s → Vals vs us → t vs σ H Q →
    wpAny (model X.prog X.w) X.A (assignInOrder ((assignEach ts X.env).map (·.2)) us) (fun _ s' => ∃ σ' H', Inv X pins σ' H' s' ∧ Q σ' H') X.xe s
section
variable {X : Cx} {pos : Pos}
def gName (i : Nat) : TG := fun v σ H Q => Q (σ.set i (some v)) H
theorem pg_name {i : Nat} {x : Str} (hN : X.N.Nodup) (hi : X.N[i]? = some x) (hx : Loc X.env.scope x) (hf : X.fn x = true ∨ X.env.scope.names.lookup x = some .local := by first | exact .inl rfl | exact .inr rfl | assumption) : PG X (.Name x pos) (gName i) := by
  intro pins s σ H v u Q I r h
  exact wpAny_assign_Name (store_ok I hN hi hx r (fun s' I' => ⟨_, H, I', h⟩) hf)
def gNil : TGs := fun vs σ H Q => vs = [] ∧ Q σ H
def gCons (t : TG) (u : TGs) : TGs := fun vs σ H Q => ∃ v r, vs = v :: r ∧ t v σ H fun σ' H' => u r σ' H' Q
theorem pgs_nil : PGs X [] gNil := by
  intro pins s σ H vs us Q I r h
  obtain ⟨e, h⟩ := h
  subst e
  cases r
  exact assignInOrder_nil ⟨σ, H, I, h⟩
theorem pgs_cons {e : Expr} {es : List Expr} {t : TG} {u : TGs} (h1 : PG X e t) (h2 : PGs X es u)
    (hs : (assignEach (e :: es) X.env).map (·.2) = assign e X.env :: (assignEach es X.env).map (·.2) := by rfl) : PGs X (e :: es) (gCons t u) := by
  intro pins s σ H vs us Q I r h
  obtain ⟨v, vr, e1, h⟩ := h
  subst e1
  cases r with
  | cons r rr =>
    rw [hs]
    refine assignInOrder_cons (thn (h1 pins s σ H _ _ _ I r h) fun _ s1 ⟨σ1, H1, I1, q1⟩ => ?_)
    exact h2 pins s1 σ1 H1 _ _ Q I1 rr q1
/-- (a, b, ..) = a tuple of that length -/
def gTup (K : PySem.W.Frag) (n : Nat) (t : TGs) : TG := fun v σ H Q => ∃ a xs, v = .ref a ∧ SqT K H a xs ∧ xs.length = n ∧ t xs σ H Q
theorem pg_tup {es : List Expr} {k : Nat} {t : TGs} {n : Nat} (hc : X.calm = true) (h : PGs X es t)
    (hn : (assignEach es X.env).length = n := by rfl) (hst : (assignEach es X.env).findIdx? (·.1) = none := by rfl) : PG X (.Tuple es k pos) (gTup X.K n t) := by
  intro pins s σ H v u Q I r hw
  obtain ⟨a, xs, e1, hq, hl, hw⟩ := hw
  subst e1
  cases r
  obtain ⟨its, rv, ht, hz⟩ := I.tuple hq
  refine assign_Tuple_tuple (I.ok.hd hc) ht (by simp [hn, ← hl, rv.length]) hst fun h' hx => ?_
  have I1 : Inv X pins σ H { s with heap := h' } := I.kept (t' := s.toks) fun b o e => hx b o (Nat.ne_of_lt (Heap.lt_size e)) e
  exact h pins _ σ H xs _ Q I1 (by simpa using rv) hw
/-- target = value -/
def tAsg (te : TE) (g : TG) : TS := fun D σ H => te σ H fun x H1 => g x σ H1 D.nx
theorem ps_asg {tg e : Expr} {te : TE} {g : TG} (he : PE X e te) (hg : PG X tg g) (hs : swapsWithSole [tg] e pos.line X.env = pure false := by rfl) (hw : swappedStores [tg] e X.env = pure none := by rfl)
    (h1 : (assignEach [tg] X.env).map (·.2) = [assign tg X.env] := by rfl) : PS X (.Assign [tg] e pos) (tAsg te g) := by
  intro pins s σ H D I h
  refine wpAny_Assign_stores (thn (he pins s σ H _ I h) fun v s1 ⟨x, H1, I1, r1, q1⟩ => ?_) hs hw
  rw [h1]
  exact thn (hg pins s1 σ H1 x v _ I1 r1 q1) fun _ s2 q => q
/-- name = value -/
theorem ps_set {i : Nat} {x : Str} {e : Expr} {te : TE} {pos' : Pos} (hN : X.N.Nodup) (hi : X.N[i]? = some x) (hx : Loc X.env.scope x) (he : PE X e te) (hs : swapsWith e (some (.Name x pos')) pos.line X.env = pure false := by rfl) (hf : X.fn x = true ∨ X.env.scope.names.lookup x = some .local := by first | exact .inl rfl | exact .inr rfl | assumption) :
    PS X (.Assign [.Name x pos'] e pos) (tAsg te (gName i)) := by
  intro pins s σ H D I h
  refine wpAny_Assign_Name (thn (he pins s σ H _ I h) fun v s1 ⟨y, H1, I1, r1, q1⟩ => ?_) hs
  exact store_ok I1 hN hi hx r1 (fun s2 I2 => ⟨_, H1, I2, q1⟩) hf
end

/-! ### while -/
section
variable {X : Cx} {pos : Pos}
end

/-! ### what a loop or a comprehension walks -/
/-- at turn i: it yields x (the heap may grow), or it stops -/
structure It where
  go : Nat → Hp → Prop
  yld : Nat → Hp → V → Hp → Prop
  stop : Nat → Hp → Prop
/-- the iterator's own objects may turn: they are not the frame's, not pinned, younger than the entry (or a comprehension's own) -/
def FpOk (X : Cx) (pins : List (Addr × Obj)) (H : Hp) (b : Addr) : Prop :=
  H b = none ∧ b ≠ X.env.locals ∧ b ∉ X.fs ∧ (b ∈ X.ex ∨ X.s₀.heap.objs.size ≤ b) ∧ (∀ x c, X.env.cells.lookup x = some c → c ≠ b) ∧ ∀ p ∈ X.pn ++ pins, p.1 ≠ b
theorem Inv.fpOk {X : Cx} {pins : List (Addr × Obj)} {σ : St} {H H' : Hp} {s : Shared} {b : Addr} (I : Inv X pins σ H s) (hb : s.heap.objs.size ≤ b) (hn : H' b = none) : FpOk X pins H' b := by
  refine ⟨hn, Nat.ne_of_gt (Nat.lt_of_lt_of_le I.lt hb), I.nofs hb, .inr (Nat.le_trans I.sz hb), fun x c e z => ?_, fun p hp z => ?_⟩
  · obtain ⟨v, q⟩ := I.cell x c e
    exact absurd (Nat.lt_of_lt_of_le q.lt (by rw [z]; exact hb)) (Nat.lt_irrefl _)
  · exact absurd (Nat.lt_of_lt_of_le (Heap.lt_size (I.pin p hp).1) (by rw [z]; exact hb)) (Nat.lt_irrefl _)
structure Turn (P : Program) (w : World) (K : PySem.W.Frag) (tg : Expr) (J : It) (fp : List Addr) (it : Addr) (tn : Nat → Heap → Prop) : Prop where
  mem : it ∈ fp
  obj : ∀ i h, tn i h → ∀ b ∈ fp, ∃ o, h.get? b = some o ∧ ∀ v, o.data ≠ .cell v
  keep : ∀ i h h', tn i h → (∀ b ∈ fp, ∀ o, h.get? b = some o → h'.get? b = some o) → tn i h'
  item : ∀ (X : Cx), X.prog = P → X.w = w → X.K = K → X.calm = true → ∀ (i : Nat) (pins : List (Addr × Obj)) (s : Shared) (σ : St) (H : Hp) (E : Value → Shared → Prop), Inv X pins σ H s → (∀ b ∈ fp, FpOk X pins H b) → tn i s.heap → J.go i H →
    wpAny (model P w) X.A (pyNext (.ref it)) (fun r s1 => ∃ u, r = some u ∧
      wpAny (model P w) X.A (letOwnedTupleGo tg (.ref it) u) (fun _ s2 => ∃ x H', Inv X pins σ H' s2 ∧ RelV x u ∧ J.yld i H x H' ∧ tn (i + 1) s2.heap ∧ ∀ b ∈ fp, H' b = none) E s1) E s
  done : ∀ (X : Cx), X.prog = P → X.w = w → X.K = K → X.calm = true → ∀ (i : Nat) (pins : List (Addr × Obj)) (s : Shared) (σ : St) (H : Hp) (E : Value → Shared → Prop), Inv X pins σ H s → (∀ b ∈ fp, FpOk X pins H b) → tn i s.heap → J.stop i H →
    wpAny (model P w) X.A (pyNext (.ref it)) (fun r s1 => r = none ∧ Inv X pins σ H s1) E s
  self : ∀ (A : Around) (i : Nat) (s : Shared) (Q : Value → Shared → Prop) (E : Value → Shared → Prop), tn i s.heap → Q (.ref it) s → wpAny (model P w) A (pyIter (.ref it)) Q E s
abbrev TI := St → Hp → (It → Hp → Prop) → Prop
/-- an iterator has come -/
def PIE (X : Cx) (pins : List (Addr × Obj)) (σ : St) (tg : Expr) (R : It → Hp → Prop) (itv : Value) (s2 : Shared) : Prop :=
  ∃ (it : Addr) (fp : List Addr) (tn : Nat → Heap → Prop) (J : It) (H' : Hp), itv = .ref it ∧ Inv X pins σ H' s2 ∧ Turn X.prog X.w X.K tg J fp it tn ∧ tn 0 s2.heap ∧ (∀ b ∈ fp, FpOk X pins H' b) ∧ R J H'
def PI (X : Cx) (tg iter : Expr) (wi : TI) : Prop :=
  ∀ (pins : List (Addr × Obj)) (s : Shared) (σ : St) (H : Hp) (R : It → Hp → Prop), Inv X pins σ H s → wi σ H R →
    wpAny (model X.prog X.w) X.A (eval iter X.env) (fun v s1 => wpAny (model X.prog X.w) X.A (pyIter v) (PIE X pins σ tg R) X.xe s1) X.xe s

/-- the step ahead of the store is nothing for an iterator that keeps no tuple -/
theorem go_of {M : Model} {A : Around} {E : Value → Shared → Prop} {s : Shared} {tg : Expr} {it : Addr} {u : Value} {o : Obj} {n : String} {vs : Array Value} {Q : Unit → Shared → Prop} (ho : s.heap.get? it = some o) (hc : o.cls = .type n) (hd : o.data = .fields vs)
    (hn : ["enumerate", "zip", "dict_itemiterator", "dict_reverseitemiterator", "odict_iterator", "itertools.zip_longest", "itertools.pairwise"].contains n = false) (hQ : Q () s) : wpAny M A (letOwnedTupleGo tg (.ref it) u) Q E s := by
  unfold letOwnedTupleGo
  cases tg <;> first
    | exact wpAny_pure hQ
    | (cases u <;> first
        | exact wpAny_pure hQ
        | (refine wpAny_bind (wpAny_load ho ?_)
           rw [hc, hd]
           show wpAny M A (if (["enumerate", "zip", "dict_itemiterator", "dict_reverseitemiterator", "odict_iterator", "itertools.zip_longest", "itertools.pairwise"].contains n && vs[0]? == some (rawInt _)) = true then _ else _) Q E s
           rw [if_neg (by intro h; rw [hn, Bool.false_and] at h; cases h)]
           exact wpAny_pure hQ))

/-- the list at a, as it stands at each turn (a loop may append to it) -/
def Itl (K : PySem.W.Frag) (a : Addr) : It :=
  ⟨fun i H => ∃ xs x, SqL K H a xs ∧ xs[i]? = some x, fun i H x H' => H' = H ∧ ∀ xs, SqL K H a xs → xs[i]? = some x, fun i H => ∃ xs, SqL K H a xs ∧ xs.length ≤ i⟩
/-- lo, lo + 1, .. (n of them) -/
def Itr (lo : Int) (n : Nat) : It := ⟨fun i _ => i < n, fun i H x H' => H' = H ∧ x = .int (lo + i), fun i _ => n ≤ i⟩
theorem turn_list {P : Program} {w : World} {K : PySem.W.Frag} {tg : Expr} (a it : Addr) : Turn P w K tg (Itl K a) [it] it (fun i h => h.IsListIter it a i) where
  mem := by simp
  obj := fun i h st b hb => by
    have e : b = it := by simpa using hb
    subst e
    obtain ⟨o, e, c, d⟩ := st
    exact ⟨o, e, fun v z => by rw [d] at z; cases z⟩
  keep := fun i h h' st k => st.at fun o e => k it (by simp) o e
  item := by
    intro X hP hw hK hc i pins s σ H E I hf st hg
    subst hP hw hK
    obtain ⟨xs, x, hq, hx⟩ := hg
    obtain ⟨its, rv, p, hz⟩ := I.list hq
    obtain ⟨u, hu, ru⟩ := rv.get hx
    obtain ⟨f0, f1, f2, f3, f4, f5⟩ := hf it (by simp)
    refine wpAny_pyNext_list_item st p.isList (x := u) (by simpa using hu) fun h' st' sb => ?_
    have I1 : Inv X pins σ H { s with heap := h' } := I.turned (t' := s.toks) (fun b o hb e => (sb.2 b hb).trans e) f0 f1 f3 f4 f5
    obtain ⟨o, e, c, d⟩ := id st'
    exact ⟨u, rfl, go_of (s := { s with heap := h' }) e c d (by decide) ⟨x, H, I1, ru, ⟨rfl, fun ys hy => by rw [I.list_inj hy hq]; exact hx⟩, st', fun b hb => (hf b hb).1⟩⟩
  done := by
    intro X hP hw hK hc i pins s σ H E I hf st hg
    subst hP hw hK
    obtain ⟨xs, hq, hx⟩ := hg
    obtain ⟨its, rv, p, hz⟩ := I.list hq
    obtain ⟨f0, f1, f2, f3, f4, f5⟩ := hf it (by simp)
    have hl := rv.length
    exact wpAny_pyNext_list_end (I.ok.hd hc) st p.isList (by simp; omega) fun h' eb => ⟨rfl, I.turned (t' := s.toks) (fun b o hb e => eb b o hb e) f0 f1 f3 f4 f5⟩
  self := fun _ _ _ _ _ st h => wpAny_pyIter_listiter st h
theorem turn_range {P : Program} {w : World} {K : PySem.W.Frag} {tg : Expr} (it : Addr) (lo : Int) (n : Nat) : Turn P w K tg (Itr lo n) [it] it (fun i h => IsRangeIter h it (lo + (i : Nat) * 1) ((n : Int) - (i : Nat)) 1) where
  mem := by simp
  obj := fun i h st b hb => by
    have e : b = it := by simpa using hb
    subst e
    exact ⟨_, st, fun v z => by
      have z' : Data.fields _ = Data.cell v := z
      cases z'⟩
  keep := fun i h h' st k => k it (by simp) _ st
  item := by
    intro X hP hw hK hc i pins s σ H E I hf st hg
    subst hP hw hK
    obtain ⟨f0, f1, f2, f3, f4, f5⟩ := hf it (by simp)
    have W := Walks.range (prog := X.prog) (w := X.w) (I.ok.hd hc) it lo 1 n
    refine W.item i s _ _ hg st fun v h' tk hv st' kk => ?_
    obtain ⟨t, rfl⟩ := hv
    have I1 : Inv X pins σ H { s with heap := h', toks := tk } := I.turned (fun b o hb e => kk b o (by simpa using hb) e) f0 f1 f3 f4 f5
    refine ⟨_, rfl, go_of (s := { s with heap := h', toks := tk }) (n := "range_iterator") st' rfl rfl (by decide) ⟨.int (lo + i), H, I1, ⟨t, ?_⟩, ⟨rfl, rfl⟩, st', fun b hb => (hf b hb).1⟩⟩
    rw [Int.mul_one]
  done := by
    intro X hP hw hK hc i pins s σ H E I hf st hg
    subst hP hw hK
    obtain ⟨f0, f1, f2, f3, f4, f5⟩ := hf it (by simp)
    exact wpAny_pyNext_range_end (I.ok.hd hc) st (by have : n ≤ i := hg; omega) fun h' eb => ⟨rfl, I.turned (t' := s.toks) (fun b o hb e => eb b o hb e) f0 f1 f3 f4 f5⟩
  self := fun _ _ _ _ _ st h => wpAny_pyIter_rangeiter st h
end L2

namespace L2
open PySem PySem.Spec PyProof.Rows
section
variable {X : Cx} {tg : Expr}
def iList (K : PySem.W.Frag) (tl : TE) : TI := fun σ H R => tl σ H fun x H1 => ∃ a, x = .ref a ∧ (∃ xs, SqL K H1 a xs) ∧ R (Itl K a) H1
theorem pi_list {l : Expr} {tl : TE} (hl : PE X l tl) : PI X tg l (iList X.K tl) := by
  intro pins s σ H R I h
  refine thn (hl pins s σ H _ I h) fun v s1 ⟨x, H1, I1, r1, q1⟩ => ?_
  obtain ⟨a, e, ⟨xs, hq⟩, q⟩ := q1
  subst e
  cases r1
  obtain ⟨its, rv, p, hz⟩ := I1.list hq
  refine wpAny_pyIter_list p.isList ?_
  refine ⟨s1.heap.objs.size, [s1.heap.objs.size], _, _, H1, rfl, I1.kept (t' := s1.toks) fun b o e => Heap.get?_push_of_some _ e, turn_list a _, ⟨_, Heap.get?_push_size _ rfl, rfl, rfl⟩, fun b hb => ?_, q⟩
  have e : b = s1.heap.objs.size := by simpa using hb
  subst e
  exact I1.fpOk (Nat.le_refl _) (I1.hok.fresh (Nat.le_refl _))
/-- a range object just made, walked -/
theorem range_it {pins : List (Addr × Obj)} {σ : St} {H : Hp} {s : Shared} {R : It → Hp → Prop} {E : Value → Shared → Prop} {lo hi : Int} {t u v : Tok} {tk : Nat} (I : Inv X pins σ H s) (h1 : -(2 ^ 62) ≤ lo) (h2 : lo < 2 ^ 62) (h3 : -(2 ^ 62) ≤ hi) (h4 : hi < 2 ^ 62)
    (q : R (Itr lo (hi - lo).toNat) H) : wpAny (model X.prog X.w) X.A (pyIter (.ref s.heap.objs.size)) (PIE X pins σ tg R) E { s with heap := s.heap.push { cls := .type "range", data := .fields #[.int lo t, .int hi u, .int 1 v] }, toks := tk } := by
  refine wpAny_pyIter_range (IsRange.new ..) (small_one h1 h2 h3 h4) ?_
  have I1 : Inv X pins σ H { s with heap := s.heap.push { cls := .type "range", data := .fields #[.int lo t, .int hi u, .int 1 v] }, toks := tk } := I.kept fun b o e => Heap.get?_push_of_some _ e
  refine ⟨(s.heap.push { cls := .type "range", data := .fields #[.int lo t, .int hi u, .int 1 v] }).objs.size, [(s.heap.push { cls := .type "range", data := .fields #[.int lo t, .int hi u, .int 1 v] }).objs.size], _, _, H, rfl,
    I1.kept (t' := tk) fun b o e => Heap.get?_push_of_some _ e, turn_range _ lo (hi - lo).toNat, ?_, fun b hb => ?_, q⟩
  · have e1 : lo + ((0 : Nat) : Int) * 1 = lo := by simp
    have e2 : (((hi - lo).toNat : Nat) : Int) - ((0 : Nat) : Int) = Builtin.Range.rangeSize lo hi 1 := by rw [rangeSize_one]; split <;> omega
    show IsRangeIter _ _ (lo + ((0 : Nat) : Int) * 1) ((((hi - lo).toNat : Nat) : Int) - ((0 : Nat) : Int)) 1
    rw [e1, e2]
    exact Heap.get?_push_size _ rfl
  · have e : b = (s.heap.push { cls := .type "range", data := .fields #[.int lo t, .int hi u, .int 1 v] }).objs.size := by simpa using hb
    subst e
    exact I1.fpOk (Nat.le_refl _) (I1.hok.fresh (Nat.le_refl _))
def iRng1 (ta : TA) : TI := fun σ H R => ta σ H fun vs H1 => ∃ j : Int, vs = [.int j] ∧ -(2 ^ 62) ≤ j ∧ j < 2 ^ 62 ∧ R (Itr 0 j.toNat) H1
theorem pi_range1 {a : Expr} {ta : TA} {p pos : Pos} (hg : Gl X "range") (hm : X.mg "range" = none) (ha : PA X [a] ta) (hs : starEach [a] X.env = [(false, eval a X.env)] := by rfl) : PI X tg (.Call (.Name "range" p) [a] [] pos) (iRng1 ta) := by
  intro pins s σ H R I h
  refine Call_ (ld_blt I hg hm boot_range (PyProof.Rows.callWith_type1 (thn (ha pos pins s σ H _ I h) fun us s1 ⟨vs, H1, I1, r1, q1⟩ => ?_) hs rfl))
  obtain ⟨j, e, q1, q2, q⟩ := q1
  subst e
  cases r1 with
  | cons r rr =>
    cases rr
    obtain ⟨t, rfl⟩ := r
    exact call_range_1 (range_it I1 (by omega) (by omega) q1 q2 (by simpa using q))
/-! ### for -/
/-- W: the invariant by the turn and a measure; N: what the body is to reach -/
def tFor (wi : TI) (g : TG) (tb : TS) : TS := fun D σ H => wi σ H fun J H1 => ∃ W : Nat → Nat → St → Hp → Prop, (∃ m, W 0 m σ H1) ∧ ∀ i m σ H, W i m σ H →
  (J.stop i H ∧ D.nx σ H) ∨ (J.go i H ∧ ∃ N : St → Hp → Prop, (∀ σ' H', N σ' H' → ∃ m', m' < m ∧ W (i + 1) m' σ' H') ∧ ∀ x H', J.yld i H x H' → g x σ H' fun σ2 H2 => tb { D with nx := N, ct := N, bk := D.nx } σ2 H2)
/-- the records at fp as they stand -/
def pinsAt (fp : List Addr) (h : Heap) : List (Addr × Obj) := fp.filterMap fun b => (h.get? b).map fun o => (b, o)
theorem mem_pinsAt {fp : List Addr} {h : Heap} {b : Addr} {o : Obj} (hb : b ∈ fp) (e : h.get? b = some o) : (b, o) ∈ pinsAt fp h := List.mem_filterMap.mpr ⟨b, hb, by rw [e]; rfl⟩
theorem of_pinsAt {fp : List Addr} {h : Heap} {p : Addr × Obj} (hp : p ∈ pinsAt fp h) : p.1 ∈ fp ∧ h.get? p.1 = some p.2 := by
  obtain ⟨b, hb, e⟩ := List.mem_filterMap.mp hp
  cases q : h.get? b with
  | none => rw [q] at e; cases e
  | some o =>
    rw [q] at e
    have e' : (b, o) = p := Option.some.inj e
    subst e'
    exact ⟨hb, q⟩
theorem Inv.pinned {pins : List (Addr × Obj)} {σ : St} {H : Hp} {s : Shared} {fp : List Addr} (I : Inv X pins σ H s) (hf : ∀ b ∈ fp, FpOk X pins H b) (ho : ∀ b ∈ fp, ∃ o, s.heap.get? b = some o ∧ ∀ v, o.data ≠ .cell v) : Inv X (pins ++ pinsAt fp s.heap) σ H s :=
  I.pins_of fun p hp => (List.mem_append.mp hp).elim (fun z => I.pin p (List.mem_append_right _ z)) fun z => by
    obtain ⟨hb, e⟩ := of_pinsAt z
    obtain ⟨f0, f1, f2, _⟩ := hf p.1 hb
    obtain ⟨o, e', d⟩ := ho p.1 hb
    rw [e] at e'; cases e'
    exact ⟨e, f0, f1, f2, d⟩
theorem Inv.unpinned {pins pl : List (Addr × Obj)} {σ : St} {H : Hp} {s : Shared} (I : Inv X (pins ++ pl) σ H s) : Inv X pins σ H s := I.pins_of fun p hp => I.pin p (List.mem_append_right _ (List.mem_append_left _ hp))
theorem ps_for {iter : Expr} {body : List Stmt} {wi : TI} {g : TG} {tb : TS} {pos : Pos} (hp : PassesOwn (model X.prog X.w) X.A X.env X.xe) (hc : X.calm = true) (hi : PI X tg iter wi) (hg : PG X tg g) (hb : PSs X body tb)
    (hs : ∀ x, foldedSetIterable iter X.env x = pure x := by intro _; rfl) : PS X (.For tg iter body [] pos) (tFor wi g tb) := by
  intro pins s σ H D I h
  refine wpAny_For (thn (hi pins s σ H _ I h) fun v s1 h1 => thn h1 fun itv s2 h2 => ?_) hs
  obtain ⟨it, fp, tn, J, H2, e, I2, T, st2, f2, W, ⟨m0, w0⟩, turn⟩ := h2
  subst e
  -- what stays true of the iterator's objects through the loop
  have stat : ∀ {H' : Hp}, (∀ b ∈ fp, H' b = none) → ∀ b ∈ fp, FpOk X pins H' b := fun hn b hb => ⟨hn b hb, (f2 b hb).2⟩
  refine codeAny_forLoop_any (fun n s' => ∃ i σ' H', Inv X pins σ' H' s' ∧ tn i s'.heap ∧ (∀ b ∈ fp, H' b = none) ∧ W i n σ' H') ?_ m0 ⟨0, σ, H2, I2, st2, fun b hb => (f2 b hb).1, w0⟩
  rintro n s3 ⟨i, σ3, H3, I3, st3, fr3, w3⟩
  rcases turn i n σ3 H3 w3 with ⟨stop, qn⟩ | ⟨go, N, hN, step⟩
  · refine wpAny_passesOwn hp (thn (T.done X rfl rfl rfl hc i pins s3 σ3 H3 X.xe I3 (stat fr3) st3 stop) fun r s4 ⟨hr, I4⟩ => ?_)
    subst hr
    exact wpAny_execs_nil ⟨σ3, H3, I4, qn⟩
  · refine wpAny_passesOwn hp (thn (T.item X rfl rfl rfl hc i pins s3 σ3 H3 X.xe I3 (stat fr3) st3 go) fun r s4 ⟨u, hr, h4⟩ => ?_)
    subst hr
    refine wpAny_passesOwn hp (thn h4 fun _ s5 ⟨x, H5, I5, r5, y5, st5, fr5⟩ => ?_)
    have I5' := I5.pinned (stat fr5) (T.obj _ _ st5)
    refine wpAny_passesOwn hp (thn (hg _ s5 σ3 H5 x u _ I5' r5 (step x H5 y5)) fun _ s6 ⟨σ6, H6, I6, q6⟩ => ?_)
    refine wpAny_passesOwn hp (thn (hb _ s6 σ6 H6 _ I6 q6) fun f s7 q7 => ?_)
    have again : ∀ {σ7 : St} {H7 : Hp}, Inv X (pins ++ pinsAt fp s5.heap) σ7 H7 s7 → N σ7 H7 → ∃ m, m < n ∧ ∃ i σ' H', Inv X pins σ' H' s7 ∧ tn i s7.heap ∧ (∀ b ∈ fp, H' b = none) ∧ W i m σ' H' := fun {σ7 H7} I7 n7 => by
      obtain ⟨m', hm, w7⟩ := hN σ7 H7 n7
      refine ⟨m', hm, i + 1, σ7, H7, I7.unpinned, T.keep _ _ _ st5 fun b hb o e => (I7.pin (b, o) (List.mem_append_right _ (List.mem_append_right _ (mem_pinsAt hb e)))).1, fun b hb => ?_, w7⟩
      obtain ⟨o, e, d⟩ := T.obj _ _ st5 b hb
      exact (I7.pin (b, o) (List.mem_append_right _ (List.mem_append_right _ (mem_pinsAt hb e)))).2.1
    cases f with
    | next => obtain ⟨σ7, H7, I7, n7⟩ := q7; exact again I7 n7
    | cont => obtain ⟨σ7, H7, I7, n7⟩ := q7; exact again I7 n7
    | brk => obtain ⟨σ7, H7, I7, q7⟩ := q7; exact ⟨σ7, H7, I7.unpinned, q7⟩
    | ret v => obtain ⟨x7, σ7, H7, I7, r7, q7⟩ := q7; exact ⟨x7, σ7, H7, I7.unpinned, r7, q7⟩
end

end L2

namespace L2
open PySem PySem.Spec PyProof.Rows

abbrev R2 := V → V → Hp → VK → Prop
/-- a two-place operation on values: f is binaryOp op, inplaceOp op or compareOp op -/
def OpR (X : Cx) (f : Value → Value → Sem Value) (r : R2) : Prop :=
  ∀ (pins : List (Addr × Obj)) (s : Shared) (σ : St) (H : Hp) (x y : V) (v u : Value) (Q : VK), Inv X pins σ H s → RelV x v → RelV y u → r x y H Q →
    wpAny (model X.prog X.w) X.A (f v u) (EP X pins σ Q) X.xe s
/-- a one-place operation -/
def UnR (X : Cx) (f : Value → Sem Value) (r : V → Hp → VK → Prop) : Prop :=
  ∀ (pins : List (Addr × Obj)) (s : Shared) (σ : St) (H : Hp) (x : V) (v : Value) (Q : VK), Inv X pins σ H s → RelV x v → r x H Q →
    wpAny (model X.prog X.w) X.A (f v) (EP X pins σ Q) X.xe s
/-- a call of a value that is known (a builtin, a type) with values -/
def CallR (X : Cx) (f : Value) (r : List V → Hp → VK → Prop) : Prop :=
  ∀ (pins : List (Addr × Obj)) (s : Shared) (σ : St) (H : Hp) (xs : List V) (us : List Value) (Q : VK), Inv X pins σ H s → Vals xs us → r xs H Q →
    wpAny (model X.prog X.w) X.A (call f us) (EP X pins σ Q) X.xe s
def tOp (r : R2) (ta tb : TE) : TE := fun σ H Q => ta σ H fun x H1 => tb σ H1 fun y H2 => r x y H2 Q
def tUn (r : V → Hp → VK → Prop) (ta : TE) : TE := fun σ H Q => ta σ H fun x H1 => r x H1 Q
/-- ints in, under C, and a value out -/
def rI (C : Int → Int → Prop) (g : Int → Int → V) : R2 := fun x y H Q => ∃ i j, x = .int i ∧ y = .int j ∧ C i j ∧ Q (g i j) H
def rI0 (g : Int → Int → V) : R2 := fun x y H Q => ∃ i j, x = .int i ∧ y = .int j ∧ Q (g i j) H
def rU (g : Int → V) : V → Hp → VK → Prop := fun x H Q => ∃ i, x = .int i ∧ Q (g i) H

section
variable {X : Cx} {a b c : Expr} {ta tb tc : TE} {pos : Pos}

theorem binT (ha : PE X a ta) (hb : PE X b tb) {pins : List (Addr × Obj)} {s : Shared} {σ : St} {H : Hp} {R : V → V → Hp → Prop} (I : Inv X pins σ H s)
    (h : ta σ H fun x H1 => tb σ H1 fun y H2 => R x y H2) {Q : Value → Shared → Prop} {f : Value → Value → Sem Value}
    (hf : ∀ v u s2 x y H2, Inv X pins σ H2 s2 → RelV x v → RelV y u → R x y H2 → wpAny (model X.prog X.w) X.A (f v u) Q X.xe s2) :
    wpAny (model X.prog X.w) X.A (eval a X.env) (fun v s₁ => wpAny (model X.prog X.w) X.A (eval b X.env) (fun u s₂ => wpAny (model X.prog X.w) X.A (f v u) Q X.xe s₂) X.xe s₁) X.xe s := by
  refine thn (ha pins s σ H _ I h) fun v s1 ⟨x, H1, I1, r1, q1⟩ => ?_
  refine thn (hb pins s1 σ H1 _ I1 q1) fun u s2 ⟨y, H2, I2, r2, q2⟩ => ?_
  exact hf v u s2 x y H2 I2 r1 r2 q2

theorem pe_op {op : Operator} {r : R2} (ho : OpR X (binaryOp op) r) (ha : PE X a ta) (hb : PE X b tb) : PE X (.BinOp a op b pos) (tOp r ta tb) := by
  intro pins s σ H Q I h
  exact wpAny_BinOp (binT ha hb I h fun v u s2 x y H2 I2 rx ry q => ho pins s2 σ H2 x y v u Q I2 rx ry q)
theorem pe_un {op : UnaryOp} {r : V → Hp → VK → Prop} (ho : UnR X (unaryOp op) r) (ha : PE X a ta) : PE X (.UnaryOp op a pos) (tUn r ta) := by
  intro pins s σ H Q I h
  exact UnaryOp_ (thn (ha pins s σ H _ I h) fun v s1 ⟨x, H1, I1, r1, q1⟩ => ho pins s1 σ H1 x v Q I1 r1 q1)
/-! ### ints -/
theorem opI {f : Value → Value → Sem Value} {C : Int → Int → Prop} {g : Int → Int → Int}
    (rule : ∀ (i j : Int) (t u : Tok) (s : Shared) (Q : Value → Shared → Prop) (E : Value → Shared → Prop), C i j → Q (.int (g i j) s.toks) { s with toks := s.toks + 1 } → wpAny (model X.prog X.w) X.A (f (.int i t) (.int j u)) Q E s) :
    OpR X f (rI C fun i j => .int (g i j)) := by
  intro pins s σ H x y v u Q I rx ry h
  obtain ⟨i, j, rfl, rfl, hc, q⟩ := h
  obtain ⟨t, rfl⟩ := rx
  obtain ⟨t', rfl⟩ := ry
  exact rule i j t t' s _ _ hc ⟨.int (g i j), H, I.tok _, ⟨_, rfl⟩, q⟩
theorem opI0 {f : Value → Value → Sem Value} {g : Int → Int → Int}
    (rule : ∀ (i j : Int) (t u : Tok) (s : Shared) (Q : Value → Shared → Prop) (E : Value → Shared → Prop), Q (.int (g i j) s.toks) { s with toks := s.toks + 1 } → wpAny (model X.prog X.w) X.A (f (.int i t) (.int j u)) Q E s) :
    OpR X f (rI0 fun i j => .int (g i j)) := by
  intro pins s σ H x y v u Q I rx ry h
  obtain ⟨i, j, rfl, rfl, q⟩ := h
  obtain ⟨t, rfl⟩ := rx
  obtain ⟨t', rfl⟩ := ry
  exact rule i j t t' s _ _ ⟨.int (g i j), H, I.tok _, ⟨_, rfl⟩, q⟩
theorem opB0 {f : Value → Value → Sem Value} {g : Int → Int → Bool}
    (rule : ∀ (i j : Int) (t u : Tok) (s : Shared) (Q : Value → Shared → Prop) (E : Value → Shared → Prop), Q (.bool (g i j)) s → wpAny (model X.prog X.w) X.A (f (.int i t) (.int j u)) Q E s) :
    OpR X f (rI0 fun i j => .bl (g i j)) := by
  intro pins s σ H x y v u Q I rx ry h
  obtain ⟨i, j, rfl, rfl, q⟩ := h
  obtain ⟨t, rfl⟩ := rx
  obtain ⟨t', rfl⟩ := ry
  exact rule i j t t' s _ _ ⟨.bl (g i j), H, I, rfl, q⟩

def CDiv (i j : Int) : Prop := 0 < j ∧ j < 1073741824
def CMul (i j : Int) : Prop := (-(2 ^ 64) < i ∧ i < 2 ^ 64) ∨ (-(2 ^ 64) < j ∧ j < 2 ^ 64)
theorem CMul.ok {i j : Int} (h : CMul i j) : IntMulOk i j := by
  rcases h with ⟨h1, h2⟩ | ⟨h1, h2⟩
  · exact .of_left (intBits_le_64 h1 h2)
  · exact .of_right (intBits_le_64 h1 h2)
theorem op_add : OpR X (binaryOp .Add) (rI0 fun i j => .int (i + j)) := opI0 fun _ _ _ _ _ _ _ q => add_int q
theorem op_sub : OpR X (binaryOp .Sub) (rI0 fun i j => .int (i - j)) := opI0 fun _ _ _ _ _ _ _ q => sub_int q
theorem op_mul : OpR X (binaryOp .Mult) (rI CMul fun i j => .int (i * j)) := opI fun _ _ _ _ _ _ _ hc q => mul_int q hc.ok
/-- // by a positive divisor -/
theorem op_fdiv : OpR X (binaryOp .FloorDiv) (rI CDiv fun i j => .int (i / j)) := opI fun i j _ _ _ _ _ hc q => by
  have h1 : (0 : Int) < j := hc.1
  have h2 : j < 1073741824 := hc.2
  exact floordiv_int (by omega) (by rw [Int.fdiv_eq_ediv_of_nonneg i (by omega)]; exact q) (.inl (PyProof.noPylong_small (by omega)))
/-- % by a positive divisor of any size -/
theorem op_mod : OpR X (binaryOp .Mod) (rI (fun _ j => 0 < j) fun i j => .int (i % j)) := opI fun i j _ _ _ _ _ hc q => by
  have h1 : (0 : Int) < j := hc
  exact mod_int' (by omega) (by rw [Int.fmod_eq_emod_of_nonneg i (by omega)]; exact q)
theorem unI {f : Value → Sem Value} {g : Int → Int}
    (rule : ∀ (i : Int) (t : Tok) (s : Shared) (Q : Value → Shared → Prop) (E : Value → Shared → Prop), Q (.int (g i) s.toks) { s with toks := s.toks + 1 } → wpAny (model X.prog X.w) X.A (f (.int i t)) Q E s) :
    UnR X f (rU fun i => .int (g i)) := by
  intro pins s σ H x v Q I rx h
  obtain ⟨i, rfl, q⟩ := h
  obtain ⟨t, rfl⟩ := rx
  exact rule i t s _ _ ⟨.int (g i), H, I.tok _, ⟨_, rfl⟩, q⟩
theorem un_neg : UnR X (unaryOp .USub) (rU fun i => .int (-i)) := unI fun _ _ _ _ _ q => neg_int q
end

section
variable {X : Cx} {a b c : Expr} {ta tb tc : TE} {pos : Pos}
theorem fin_bl {pins : List (Addr × Obj)} {σ : St} {H : Hp} {s : Shared} {Q : VK} {k k' : Bool} (I : Inv X pins σ H s) (q : Q (.bl k) H) (e : k = k') : EP X pins σ Q (.bool k') s := by
  subst e
  exact ⟨.bl k, H, I, rfl, q⟩
theorem op_lt : OpR X (compareOp .Lt) (rI0 fun i j => .bl (decide (i < j))) := opB0 fun _ _ _ _ _ _ _ q => lt_int q
/-- is None, is not None: the right side a value none -/
theorem op_isN : OpR X (compareOp .Is) (fun x y H Q => y = .non ∧ Q (.bl (decide (x = .non))) H) := by
  intro pins s σ H x y v u Q I rx ry h
  obtain ⟨rfl, q⟩ := h
  cases ry
  refine is_none_gen (fin_bl I q ?_)
  cases x <;> first
    | (cases rx; rfl)
    | (obtain ⟨t, rfl⟩ := rx; rfl)
theorem op_notN : OpR X (compareOp .IsNot) (fun x y H Q => y = .non ∧ Q (.bl (!decide (x = .non))) H) := by
  intro pins s σ H x y v u Q I rx ry h
  obtain ⟨rfl, q⟩ := h
  cases ry
  refine isnot_none_gen (fin_bl I q ?_)
  cases x <;> first
    | (cases rx; rfl)
    | (obtain ⟨t, rfl⟩ := rx; rfl)

theorem nomark (b : Expr) {op : CmpOp} (h : op ≠ .In := by decide) (h2 : op ≠ .NotIn := by decide) : behindInMarks op b = false := by
  have e1 : (op == CmpOp.In) = false := by cases op <;> first | rfl | exact absurd rfl h
  have e2 : (op == CmpOp.NotIn) = false := by cases op <;> first | rfl | exact absurd rfl h2
  cases b <;> simp [behindInMarks, e1, e2]
/-- a comparison as a value; hm: nomark b, or (for in, not in) by with_unfolding_all rfl -/
theorem pe_cmpR {op : CmpOp} {r : R2} (ho : OpR X (compareOp op) r) (ha : PE X a ta) (hb : PE X b tb) (hm : behindInMarks op b = false) : PE X (.Compare a [op] [b] pos) (tOp r ta tb) := by
  intro pins s σ H Q I h
  exact wpAny_Compare1 (binT ha hb I h fun v u s2 x y H2 I2 rx ry q => ho pins s2 σ H2 x y v u Q I2 rx ry q) hm
/-- a reading of a value as a test -/
def tTest (t : TE) : TT := fun σ H Q => t σ H fun x H' => ∃ k, x = .bl k ∧ Q k H'
theorem pt_cmpR {op : CmpOp} {r : R2} (ho : OpR X (compareOp op) r) (ha : PE X a ta) (hb : PE X b tb) (hm : behindInMarks op b = false) : PT X (.Compare a [op] [b] pos) (tTest (tOp r ta tb)) := by
  intro pins s σ H Q I h
  refine wpAny_isTrue_Compare1 (thn (ha pins s σ H _ I h) fun v s1 ⟨x, H1, I1, r1, q1⟩ => thn (hb pins s1 σ H1 _ I1 q1) fun u s2 ⟨y, H2, I2, r2, q2⟩ =>
    thn (ho pins s2 σ H2 x y v u _ I2 r1 r2 q2) fun c s3 ⟨z, H3, I3, r3, k, e, q3⟩ => ?_) hm
  subst e
  cases r3
  exact wpAny_truthy_bool ⟨H3, I3, q3⟩
theorem line63 : (sizeLine : Nat) < 2 ^ 63 := by rw [sizeLine_eq]; decide
theorem op_add_str : OpR X (binaryOp .Add) (fun x y H Q => ∃ i j, x = .str i ∧ y = .str j ∧ i.length + j.length ≤ sizeLine ∧ Q (.str (i ++ j)) H) := by
  intro pins s σ H x y v u Q I rx ry h
  obtain ⟨i, j, rfl, rfl, hz, q⟩ := h
  obtain ⟨t, rfl⟩ := rx
  obtain ⟨t', rfl⟩ := ry
  exact add_str (fun t' tk => ⟨.str (i ++ j), H, I.tok _, ⟨_, rfl⟩, q⟩) hz
/-! ### scalar builtins, by CallR -/
theorem vals1 {x : V} {us : List Value} (r : Vals [x] us) : ∃ u, us = [u] ∧ RelV x u := by
  cases r with
  | cons r1 r2 => cases r2; exact ⟨_, rfl, r1⟩
theorem vals2 {x y : V} {us : List Value} (r : Vals [x, y] us) : ∃ u w', us = [u, w'] ∧ RelV x u ∧ RelV y w' := by
  cases r with
  | cons r1 r2 =>
    cases r2 with
    | cons r3 r4 => cases r4; exact ⟨_, _, rfl, r1, r3⟩
theorem call_max2 (hc : X.calm = true) : CallR X (.builtin "max") (fun xs H Q => ∃ i j, xs = [.int i, .int j] ∧ Q (.int (if j > i then j else i)) H) := by
  intro pins s σ H xs us Q I r h
  obtain ⟨i, j, rfl, q⟩ := h
  obtain ⟨u, w', rfl, ⟨t, rfl⟩, ⟨t', rfl⟩⟩ := vals2 r
  refine max_two_ints (I.ok.hd hc) fun h' tk k => ⟨_, H, I.kept k, ?_, q⟩
  by_cases hj : j > i
  · rw [if_pos hj, if_pos hj]; exact ⟨_, rfl⟩
  · rw [if_neg hj, if_neg hj]; exact ⟨_, rfl⟩
theorem call_int1 : CallR X (.type "int") (fun xs H Q => (∃ i, xs = [.int i] ∧ Q (.int i) H) ∨ ∃ k, xs = [.bl k] ∧ Q (.int (if k then 1 else 0)) H) := by
  intro pins s σ H xs us Q I r h
  rcases h with ⟨i, rfl, q⟩ | ⟨k, rfl, q⟩
  · obtain ⟨u, rfl, t, rfl⟩ := vals1 r
    exact call_int_int ⟨.int i, H, I, ⟨_, rfl⟩, q⟩
  · obtain ⟨u, rfl, r1⟩ := vals1 r
    cases r1
    exact call_int_bool ⟨.int (if k then 1 else 0), H, I.tok _, ⟨_, rfl⟩, q⟩
end
end L2

namespace L2
open PySem PySem.Spec PyProof.Rows

/-! ### an instance, its attributes a map -/
structure ObjM (h : Heap) (x dx C : Addr) (mA : Str → Option Value) : Prop where
  obj : h.get? x = some (PySem.W.instObj C dx)
  ns : h.Ns1 dx mA
  ne : dx ≠ x

theorem lookIn_ns {h : Heap} {dx : Addr} {mA : Str → Option Value} (n : h.Ns1 dx mA) : ∃ od, h.get? dx = some od ∧ ∀ name, PySem.W.lookIn name od = some (mA name) := by
  obtain ⟨o, es, ep, ho, hd, hk, _, hm⟩ := n
  refine ⟨o, ho, fun name => ?_⟩
  have e := hm name
  unfold nsFind findBy at e
  rw [← Array.find?_toList] at e
  unfold PySem.W.lookIn
  rw [hd]
  dsimp only
  split
  · rename_i y q
    rw [q] at e
    exact congrArg some e
  · rename_i q
    rw [q] at e
    have a : es.toList.any (·.refKey) = false := by
      rw [List.any_eq_false]
      intro y hy
      obtain ⟨z, t, hkey⟩ := hk y (Array.mem_toList_iff.mp hy)
      simp [DictEntry.refKey, hkey]
    have a' : ¬ es.toList.any (·.refKey) = true := by rw [a]; exact Bool.false_ne_true
    rw [if_neg a']
    exact congrArg some e

theorem ObjM.look {h : Heap} {x dx C : Addr} {mA : Str → Option Value} (I : ObjM h x dx C mA) : ∃ od, PySem.W.InstAt h x (PySem.W.instObj C dx) C (some od) ∧ ∀ name, PySem.W.lookIn name od = some (mA name) :=
  let ⟨od, ho, hl⟩ := lookIn_ns I.ns
  ⟨od, ⟨I.obj, rfl, rfl, ho⟩, hl⟩

section
variable {prog : Program} {w : World} {A : Around} {E : Value → Shared → Prop} {s : Shared} {K : PySem.W.Frag} {x dx C f : Addr} {mA : Str → Option Value} {name : Str} {v : Value}

theorem get_map {expr : Bool} {Q : Value → Shared → Prop} (X : K.In s.heap) (I : ObjM s.heap x dx C mA) (hg : PySem.W.plainGet K C name = true) (hh : PySem.W.hasDictIn K C = true)
    (ha : PySem.W.findIn K (.ref C) name = some none) (hv : mA name = some v) (hv' : PySem.W.handedIn v = true) (h : Q v { s with toks := s.toks + 1 }) :
    wpAny (model prog w) A (getAttr (.ref x) name expr) Q E s := by
  obtain ⟨od, J, hl⟩ := I.look
  exact PySem.W.get_value X J (PySem.W.plainGet_of hg).1 (PySem.W.findObj_own hh ha rfl (by rw [hl, hv])) hv' h

theorem get_meth {pl : Sem Bool} {Q : Value × List Value → Shared → Prop} (X : K.In s.heap) (I : ObjM s.heap x dx C mA) (hg : PySem.W.plainGet K C name = true)
    (hf : PySem.W.findIn K (.ref C) name = some (some (.ref f))) (ht : PySem.W.isFn K (.ref f) = true) (hv : mA name = none) (h : Q (.ref f, [.ref x]) s) :
    wpAny (model prog w) A (getMethod (.ref x) name pl) Q E s := by
  obtain ⟨od, J, hl⟩ := I.look
  exact PySem.W.method_fn X J (PySem.W.plainGet_of hg).1 (PySem.W.plainGet_of hg).2 hf (beq_iff_eq.mp ht) (by show (PySem.W.lookIn name od).map (·.isSome) = some false; rw [hl, hv]; rfl) h

theorem set_map {ns : List Str} {Q : Unit → Shared → Prop} (X : K.In s.heap) (I : ObjM s.heap x dx C mA)
    (hs : PySem.W.findIn K (.ref C) "__setattr__" = some (some (.builtin "object.__setattr__"))) (hp : PySem.W.plainOver K C = true) (ht : PySem.W.takerIn K C name = some none) (hh : PySem.W.hasDictIn K C = true)
    (hw : PySem.Within mA ns) (hsz : ns.length ≤ sizeLine)
    (h : ∀ h', ObjM h' x dx C (fun y => if y = name then some v else mA y) → Heap.SameBut dx s.heap h' → Q () { s with heap := h', toks := s.toks + 2 }) :
    wpAny (model prog w) A (setAttr (.ref x) name v) Q E s := by
  obtain ⟨od, J, hl⟩ := I.look
  refine PySem.W.set_plain X J hs (PySem.W.osa_open (s := { s with toks := s.toks + 1 }) (r := none) X J hp ht fun b => ?_)
  obtain ⟨cd, hc, hd'⟩ := PySem.W.any_some hh
  have hx : s.heap.get? x = some ⟨.ref C, some dx, .plain, #[]⟩ := I.obj
  refine wpAny_bind (wpAny_pure (wpAny_bind (wpAny_bind (wpAny_loadPart hx (wpAny_bind (PySem.W.Looks.here (s := { s with toks := s.toks + 1 }) (PySem.W.looks_clsIn X hc) ?_))))))
  rw [hd']
  refine wpAny_pure (a := some dx) (wpAny_bind (wpAny_pure (wpAny_bind ?_)))
  refine wpAny_nsSet1 (s := { s with toks := s.toks + 1 }) I.ns fun h' hn2 hs2 => ?_
  obtain ⟨oD, esD, epD, hoD, hdD, hcD⟩ := hn2.count (PySem.Within.cons name v hw)
  refine wpAny_bind (wpAny_lookBehind hoD (by rw [hdD]; exact pastItsLine_dict (Nat.le_trans hcD (by rw [List.length_cons]; omega))) ?_)
  exact wpAny_pure (h _ ⟨(hs2.2 _ (Ne.symm I.ne)).trans I.obj, hn2, I.ne⟩ hs2)

/-- C(..): the dict at the heap's end, the instance behind it; then its __init__ -/
theorem make_map {R : Result → Shared → Prop} {vs : List Value} {kw : List (Str × Value)} (X : K.In s.heap) (hm : PySem.W.makesIn K C = true)
    (hi : PySem.W.findIn K (.ref C) "__init__" = some (some (.ref f))) (hf : PySem.W.typeIn K (.ref f) = some (.type "function"))
    (h : codeAny (model prog w) (A.under (.builtin "type.__call__" ⟨.ref C :: vs, kw⟩)) (.call (.ref f) ⟨.ref (s.heap.objs.size + 1) :: vs, kw⟩) (PySem.W.InitBack (s.heap.objs.size + 1) R)
      { s with heap := (s.heap.push PySem.W.emptyDict).push (PySem.W.instObj C s.heap.objs.size) }) :
    codeAny (model prog w) A (.call (.ref C) ⟨vs, kw⟩) R s := by
  obtain ⟨hh, g, d, t, os⟩ := s
  exact PySem.W.make_core (PySem.W.makes_of X hm) (PySem.W.looks_findIn X hi) (fun self => PySem.W.bind_fn X self hf) (.inl rfl) h
end

/-! ### the attributes as a list of pairs -/
def putF (f : Str) (v : V) : List (Str × V) → List (Str × V)
  | [] => [(f, v)]
  | (g, x) :: r => if g = f then (g, v) :: r else (g, x) :: putF f v r
theorem lookup_putF (f g : Str) (v : V) : ∀ fs : List (Str × V), (putF f v fs).lookup g = if g = f then some v else fs.lookup g
  | [] => by
    show List.lookup g [(f, v)] = _
    by_cases h : g = f
    · have hb : (g == f) = true := beq_iff_eq.mpr h
      simp only [List.lookup, hb, if_pos h]
    · have hb : (g == f) = false := beq_eq_false_iff_ne.mpr h
      simp only [List.lookup, hb, if_neg h]
  | (k, x) :: r => by
    have ih := lookup_putF f g v r
    rw [show putF f v ((k, x) :: r) = (if k = f then (k, v) :: r else (k, x) :: putF f v r) from rfl]
    by_cases hk : k = f
    · rw [if_pos hk]
      by_cases h : g = k
      · have hb : (g == k) = true := beq_iff_eq.mpr h
        simp only [List.lookup, hb, if_pos (h.trans hk)]
      · have hb : (g == k) = false := beq_eq_false_iff_ne.mpr h
        simp only [List.lookup, hb, if_neg (fun e : g = f => h (e.trans hk.symm))]
    · rw [if_neg hk]
      by_cases h : g = k
      · have hb : (g == k) = true := beq_iff_eq.mpr h
        simp only [List.lookup, hb, if_neg (fun e : g = f => hk (h.symm.trans e))]
      · have hb : (g == k) = false := beq_eq_false_iff_ne.mpr h
        simp only [List.lookup, hb]
        exact ih
theorem keys_putF (f : Str) (v : V) : ∀ fs : List (Str × V), f ∈ (putF f v fs).map (·.1) ∧ ∀ g, g ∈ fs.map (·.1) → g ∈ (putF f v fs).map (·.1)
  | [] => ⟨by simp [putF], fun g h => by simp at h⟩
  | (k, x) :: r => by
    obtain ⟨i1, i2⟩ := keys_putF f v r
    rw [show putF f v ((k, x) :: r) = (if k = f then (k, v) :: r else (k, x) :: putF f v r) from rfl]
    by_cases hk : k = f
    · rw [if_pos hk]
      subst hk
      exact ⟨by simp, fun g h => by simpa using h⟩
    · rw [if_neg hk]
      refine ⟨?_, fun g h => ?_⟩
      · rw [List.map_cons]
        exact List.mem_cons_of_mem _ i1
      · rw [List.map_cons] at h ⊢
        rcases List.mem_cons.mp h with e | e
        · exact List.mem_cons.mpr (.inl e)
        · exact List.mem_cons_of_mem _ (i2 g e)
theorem length_putF (f : Str) (v : V) : ∀ fs : List (Str × V), (putF f v fs).length ≤ fs.length + 1
  | [] => by simp [putF]
  | (k, x) :: r => by
    have ih := length_putF f v r
    rw [show putF f v ((k, x) :: r) = (if k = f then (k, v) :: r else (k, x) :: putF f v r) from rfl]
    by_cases hk : k = f
    · rw [if_pos hk, List.length_cons, List.length_cons]; omega
    · rw [if_neg hk, List.length_cons, List.length_cons]; omega

theorem RelO.some_of {v : V} {o : Option Value} (r : RelO (some v) o) : ∃ u, o = some u ∧ RelV v u := by
  cases o with
  | none => exact (show False from r).elim
  | some u => exact ⟨u, rfl, r⟩
theorem RelO.none_of {o : Option Value} (r : RelO none o) : o = none := by
  cases o with
  | none => rfl
  | some u => exact (show False from r).elim
theorem handed_of {v : V} {u : Value} (r : RelV v u) : PySem.W.handedIn u = true := by
  cases v with
  | non => cases (show u = Value.none from r); rfl
  | bl b => cases (show u = Value.bool b from r); rfl
  | int i => obtain ⟨t, e⟩ := (show ∃ t, u = Value.int i t from r); cases e; rfl
  | str x => obtain ⟨t, e⟩ := (show ∃ t, u = Value.str x t from r); cases e; rfl
  | byt b => obtain ⟨t, e⟩ := (show ∃ t, u = Value.bytes b t from r); cases e; rfl
  | flt b => obtain ⟨t, e⟩ := (show ∃ t, u = Value.float b t from r); cases e; rfl
  | ref a => cases (show u = Value.ref a from r); rfl
  | ty n => cases (show u = Value.type n from r); rfl

section
variable {P : Program} {w : World} {H H' : Hp} {h h' : Heap} {a C dx : Addr} {fs fs' : List (Str × V)}
theorem ins_get (hok : HOk P w H h) (e : H a = some (.ins C dx fs)) : ∃ mA, ObjM h a dx C mA ∧ (∀ f, RelO (fs.lookup f) (mA f)) ∧ PySem.Within mA (fs.map (·.1)) ∧ fs.length ≤ 1000 ∧ H dx = some (.own a) := by
  obtain ⟨d, z, ne, ob, mA, n, r, q⟩ := (show ObjOk P w H h a (.ins C dx fs) from hok a _ e)
  exact ⟨mA, ⟨ob, n, ne⟩, r, q, z, d⟩
end

/-! ### what of the text a class must have -/
structure Cls (K : PySem.W.Frag) (C : Addr) : Prop where
  pg : PySem.W.plainGet K C Str.empty = true
  hd : PySem.W.hasDictIn K C = true
  po : PySem.W.plainOver K C = true
  sa : PySem.W.findIn K (.ref C) "__setattr__" = some (some (.builtin "object.__setattr__"))
theorem Cls.get {K : PySem.W.Frag} {C : Addr} (c : Cls K C) (f : Str) : PySem.W.plainGet K C f = true := c.pg
/-- no class of it has the name -/
def NoAttr (K : PySem.W.Frag) (C : Addr) (f : Str) : Prop := PySem.W.findIn K (.ref C) f = some none
theorem NoAttr.taker {K : PySem.W.Frag} {C : Addr} {f : Str} (n : NoAttr K C f) : PySem.W.takerIn K C f = some none := by
  unfold PySem.W.takerIn
  rw [show PySem.W.findIn K (.ref C) f = some none from n]
  rfl
/-- a method: a plain def of the class or of one above it -/
structure Meth (K : PySem.W.Frag) (C : Addr) (m : Str) (f : Addr) : Prop where
  at_ : PySem.W.findIn K (.ref C) m = some (some (.ref f))
  fn : PySem.W.isFn K (.ref f) = true
  kp : PySem.W.keepIn K (.ref f) = true

section
variable {X : Cx} {pins : List (Addr × Obj)} {σ : St} {H : Hp} {s : Shared} {a C dx : Addr} {fs : List (Str × V)} {f : Str} {v : V} {A : Around} {E : Value → Shared → Prop}

theorem getattr_ok {b : Bool} {Q : Value → Shared → Prop} (I : Inv X pins σ H s) (e : H a = some (.ins C dx fs)) (c : Cls X.K C) (n : NoAttr X.K C f) (l : fs.lookup f = some v)
    (h : ∀ u s', Inv X pins σ H s' → RelV v u → Q u s') : wpAny (model X.prog X.w) A (getAttr (.ref a) f b) Q E s := by
  obtain ⟨mA, O, r, _, _, _⟩ := ins_get I.hok e
  obtain ⟨u, hu, ru⟩ := RelO.some_of (v := v) (o := mA f) (by rw [← l]; exact r f)
  exact get_map I.kIn O (c.get f) c.hd n hu (handed_of ru) (h u _ (I.tok _) ru)

theorem getmeth_ok {m : Str} {g : Addr} {pl : Sem Bool} {Q : Value × List Value → Shared → Prop} (I : Inv X pins σ H s) (e : H a = some (.ins C dx fs)) (c : Cls X.K C) (k : Meth X.K C m g) (l : fs.lookup m = none)
    (h : Q (.ref g, [.ref a]) s) : wpAny (model X.prog X.w) A (getMethod (.ref a) m pl) Q E s := by
  obtain ⟨mA, O, r, _, _, _⟩ := ins_get I.hok e
  have hn : mA m = none := RelO.none_of (by rw [← l]; exact r m)
  exact get_meth I.kIn O (c.get m) k.at_ k.fn hn h

theorem setattr_ok {y : V} {u : Value} {Q : Unit → Shared → Prop} (I : Inv X pins σ H s) (e : H a = some (.ins C dx fs)) (c : Cls X.K C) (n : NoAttr X.K C f) (hl : fs.length < 1000) (ry : RelV y u)
    (h : ∀ s', Inv X pins σ (upd H a (.ins C dx (putF f y fs))) s' → Q () s') : wpAny (model X.prog X.w) A (setAttr (.ref a) f u) Q E s := by
  obtain ⟨mA, O, r, wi, _, ho⟩ := ins_get I.hok e
  have hz : (fs.map (·.1)).length ≤ sizeLine := by rw [List.length_map, sizeLine_eq]; omega
  refine set_map I.kIn O c.sa c.po n.taker c.hd wi hz fun h' O' sb => h _ ?_
  have hd : ∃ o, h'.get? dx = some o := let ⟨o, _, _, e', _⟩ := O'.ns; ⟨o, e'⟩
  refine I.write (x := a) (e := dx) (by rw [e]; exact True.intro) (.inr ho) (fun b q hb z => (sb.2 b hb).trans z) hd ?_
  refine ⟨by rw [upd_ne O.ne]; exact ho, ?_, O.ne, O'.obj, _, O'.ns, fun g => ?_, fun g hg => ?_⟩
  · have := length_putF f y fs; omega
  · show RelO ((putF f y fs).lookup g) (if g = f then some u else mA g)
    rw [lookup_putF]
    by_cases q : g = f
    · rw [if_pos q, if_pos q]; exact ry
    · rw [if_neg q, if_neg q]; exact r g
  · by_cases q : g = f
    · rw [q]; exact (keys_putF f y fs).1
    · refine (keys_putF f y fs).2 g (wi g fun z => hg ?_)
      show (if g = f then some u else mA g) = none
      rw [if_neg q]; exact z

/-- a new instance, tracked, without attributes -/
theorem Inv.made (I : Inv X pins σ H s) : Inv X pins σ (upd (upd H s.heap.objs.size (.own (s.heap.objs.size + 1))) (s.heap.objs.size + 1) (.ins C s.heap.objs.size []))
    { s with heap := (s.heap.push PySem.W.emptyDict).push (PySem.W.instObj C s.heap.objs.size) } := by
  have e1 : (s.heap.push PySem.W.emptyDict).get? s.heap.objs.size = some PySem.W.emptyDict := Heap.get?_push_size s.heap rfl
  have e2 : ((s.heap.push PySem.W.emptyDict).push (PySem.W.instObj C s.heap.objs.size)).get? (s.heap.objs.size + 1) = some (PySem.W.instObj C s.heap.objs.size) := by
    have := Heap.get?_push_size (s.heap.push PySem.W.emptyDict) (o := PySem.W.instObj C s.heap.objs.size) rfl
    rwa [Heap.size_push] at this
  have e3 : (s.heap.push PySem.W.emptyDict).Ns s.heap.objs.size (fun _ => none) := ⟨PySem.W.emptyDict, #[], _, e1, rfl, (fun e he => absurd he (by simp)), fun _ => rfl⟩
  have I1 := I.laid (a := s.heap.objs.size) (o := .own (s.heap.objs.size + 1)) (h' := s.heap.push PySem.W.emptyDict) (t' := s.toks) (fun b u q => Heap.get?_push_of_some _ q) (Nat.le_refl _) ⟨_, e1⟩
  refine I1.laid (a := s.heap.objs.size + 1) (o := .ins C s.heap.objs.size []) (t' := s.toks) (fun b u q => Heap.get?_push_of_some _ q) (Nat.le_of_eq (Heap.size_push _ _)) ?_
  have ne : s.heap.objs.size ≠ s.heap.objs.size + 1 := Nat.ne_of_lt (Nat.lt_succ_self _)
  refine ⟨by rw [upd_ne ne, upd_same], Nat.zero_le _, ne, e2, fun _ => none, (Heap.Ns1.of_empty e3).at fun o q => Heap.get?_push_of_some _ q, fun _ => True.intro, fun y hy => absurd rfl hy⟩

/-- e.f where nothing but the object is asked: through attributeBase (super) and the last hold -/
theorem attr_of {prog : Program} {w : World} {env : Env} {e : Expr} {f : Str} {pos : Pos} {s : Shared} {Q : Value → Shared → Prop} (hb : attributeBase e f env (eval e env) = eval e env)
    (h : wpAny (model prog w) A (eval e env) (fun o s₁ => wpAny (model prog w) A (getAttr o f true) Q E s₁) E s) : wpAny (model prog w) A (eval (.Attribute e f pos) env) Q E s :=
  Attribute_any_ h (by rw [arm_eval_Attribute, hb])
end

/-! ### readings and rules -/
/-- e.f, an attribute of the instance -/
def tFld (K : PySem.W.Frag) (ta : TE) (f : Str) : TE := fun σ H Q => ta σ H fun x H1 => ∃ a C dx fs v, x = .ref a ∧ H1 a = some (.ins C dx fs) ∧ Cls K C ∧ NoAttr K C f ∧ fs.lookup f = some v ∧ Q v H1
/-- e.f = value -/
def sFld (K : PySem.W.Frag) (ta tv : TE) (f : Str) : TS := fun D σ H => tv σ H fun y H1 => ta σ H1 fun x H2 => ∃ a C dx fs, x = .ref a ∧ H2 a = some (.ins C dx fs) ∧ Cls K C ∧ NoAttr K C f ∧ fs.length < 1000 ∧
  D.nx σ (upd H2 a (.ins C dx (putF f y fs)))
section
variable {X : Cx} {o e value : Expr} {f : Str} {pos pos' tpos : Pos} {ta tv : TE}
theorem pe_fld (he : PE X e ta) (hb : attributeBase e f X.env (eval e X.env) = eval e X.env) : PE X (.Attribute e f pos) (tFld X.K ta f) := by
  intro pins s σ H Q I h
  refine attr_of hb (thn (he pins s σ H _ I h) fun u s1 ⟨x, H1, I1, rx, a, C, dx, fs, v, ex, ea, c, n, l, q⟩ => ?_)
  subst ex
  obtain rfl : u = Value.ref a := rx
  exact getattr_ok I1 ea c n l fun u' s2 I2 ru => ⟨v, H1, I2, ru, q⟩
theorem ps_fld (ha : PE X o ta) (hv : PE X value tv) (hs : swapsWith value (some (.Attribute o f pos')) pos.line X.env = pure false) : PS X (.Assign [.Attribute o f pos'] value pos) (sFld X.K ta tv f) := by
  intro pins s σ H D I h
  refine plainObj_wpAny_Assign_Attribute (thn (hv pins s σ H _ I h) fun u s1 ⟨y, H1, I1, ry, q⟩ => thn (ha pins s1 σ H1 _ I1 q) fun ov s2 ⟨x, H2, I2, rx, a, C, dx, fs, ex, ea, c, n, l, q2⟩ => ?_) hs
  subst ex
  obtain rfl : ov = Value.ref a := rx
  exact setattr_ok I2 ea c n l ry fun s3 I3 => ⟨σ, _, I3, q2⟩
end

/-! ### isinstance -/
section
variable {X : Cx} {pins : List (Addr × Obj)} {σ : St} {H : Hp} {s : Shared} {A : Around} {E : Value → Shared → Prop} {Q : Value → Shared → Prop} {c : Value} {b : Bool}
/-- the type of a value, as the fragment's deciders take it; for an instance its class -/
inductive TyOf (K : PySem.W.Frag) (H : Hp) : V → Value → Prop where
  | non : TyOf K H .non (.type "NoneType")
  | bl (x : Bool) : TyOf K H (.bl x) (.type "bool")
  | int (i : Int) : TyOf K H (.int i) (.type "int")
  | str (x : Str) : TyOf K H (.str x) (.type "str")
  | flt (x : UInt64) : TyOf K H (.flt x) (.type "float")
  | lst {a : Addr} {xs : List V} (e : H a = some (.lst xs)) : TyOf K H (.ref a) (.type "list")
  | frz {a : Addr} {o : Obj} {xs : List V} (e : H a = some (.frz o (.lst xs))) : TyOf K H (.ref a) (.type "list")
  | tup {a : Addr} {xs : List V} (e : H a = some (.tup xs)) : TyOf K H (.ref a) (.type "tuple")
  | dK {a : Addr} {kvs : List (Key × V)} (e : H a = some (.dK kvs)) : TyOf K H (.ref a) (.type "dict")
  | dT {a : Addr} {kvs : List (List Key × V)} (e : H a = some (.dT kvs)) : TyOf K H (.ref a) (.type "dict")
  | ins {a C dx : Addr} {fs : List (Str × V)} (e : H a = some (.ins C dx fs)) (cl : Cls K C) (ha : PySem.W.findIn K (.ref C) "__class__" = some (some (.builtin "object.__class__")))
      (hn : PySem.W.specialIn K (.builtin "object.__class__") "__get__" = some (some (.builtin "getset_descriptor.__get__"))) (htk : PySem.W.takesIn K (.builtin "object.__class__") = some true)
      (hm : PySem.W.mroIn K C (.type "object") = some true) : TyOf K H (.ref a) (.ref C)
/-- isinstance(x, c) for one class c, a built-in or an own one: kitOne's answer -/
theorem isinst_ok {x : V} {u t : Value} (I : Inv X pins σ H s) (rx : RelV x u) (ty : TyOf X.K H x t) (e : PySem.W.kitOne X.K t c = some b) (h : ∀ tk, Q (.bool b) { s with toks := tk }) :
    wpAny (model X.prog X.w) A (call (.builtin "isinstance") [u, c]) Q E s := by
  cases ty with
  | non => cases (show u = Value.none from rx); exact PySem.W.kia_one PySem.W.kitx_none I.kIn True.intro e (fun z => nomatch z) h
  | bl y => cases (show u = Value.bool y from rx); exact PySem.W.kia_one PySem.W.kitx_bool I.kIn True.intro e (fun z => nomatch z) h
  | int i => obtain ⟨t, q⟩ := (show ∃ t, u = Value.int i t from rx); cases q; exact PySem.W.kia_one PySem.W.kitx_int I.kIn True.intro e (fun z => nomatch z) h
  | str y => obtain ⟨t, q⟩ := (show ∃ t, u = Value.str y t from rx); cases q; exact PySem.W.kia_one PySem.W.kitx_str I.kIn True.intro e (fun z => nomatch z) h
  | flt y => obtain ⟨t, q⟩ := (show ∃ t, u = Value.float y t from rx); cases q; exact PySem.W.kia_one PySem.W.kitx_float I.kIn True.intro e (fun z => nomatch z) h
  | @lst a xs ea =>
    cases (show u = Value.ref a from rx)
    obtain ⟨_, _, n, _, h1⟩ := (show ObjOk X.prog X.w H s.heap a (.lst xs) from I.hok a _ ea)
    exact PySem.W.kia_one PySem.W.kitx_list I.kIn ⟨_, h1, rfl⟩ e (fun z => nomatch z) h
  | @frz a ob xs ea =>
    cases (show u = Value.ref a from rx)
    obtain ⟨_, _, _, n, _, h1⟩ := (show ObjOk X.prog X.w H s.heap a (.frz ob (.lst xs)) from I.hok a _ ea)
    exact PySem.W.kia_one PySem.W.kitx_list I.kIn ⟨_, h1, rfl⟩ e (fun z => nomatch z) h
  | @tup a xs ea =>
    cases (show u = Value.ref a from rx)
    obtain ⟨_, _, _, p⟩ := (show ObjOk X.prog X.w H s.heap a (.tup xs) from I.hok a _ ea)
    obtain ⟨o, h1, h2, _⟩ := p
    exact PySem.W.kia_one PySem.W.kitx_tuple I.kIn ⟨o, h1, h2⟩ e (fun z => nomatch z) h
  | @dK a kvs ea =>
    cases (show u = Value.ref a from rx)
    obtain ⟨_, _, vs, _, p⟩ := (show ObjOk X.prog X.w H s.heap a (.dK kvs) from I.hok a _ ea)
    obtain ⟨o, es, ep, h1, h2, _⟩ := p
    exact PySem.W.kia_one PySem.W.kitx_dict I.kIn ⟨o, h1, h2.1⟩ e (fun z => nomatch z) h
  | @dT a kvs ea =>
    cases (show u = Value.ref a from rx)
    obtain ⟨_, _, xs, _, o, es, ep, h1, h2, _⟩ := (show ObjOk X.prog X.w H s.heap a (.dT kvs) from I.hok a _ ea)
    exact PySem.W.kia_one PySem.W.kitx_dict I.kIn ⟨o, h1, h2.1⟩ e (fun z => nomatch z) h
  | @ins a C dx fs ea cl ha hn htk hm =>
    cases (show u = Value.ref a from rx)
    obtain ⟨mA, O, _⟩ := ins_get I.hok ea
    obtain ⟨od, J, _⟩ := O.look
    exact PySem.W.kia_one (PySem.W.kitx_own (cl.get _) cl.hd ha hn htk hm) I.kIn J e (fun z => nomatch z) h
end
end L2

namespace L2
open PySem PySem.Spec PyProof.Rows

/-! ### room -/
structure Room (k : Nat) (A : Around) : Prop where
  hd : A.handled = none
  dp : A.depth + 3 * k + 5 < recursionLimit
  un : A.units + 16 * k + 200 < cLine
  gd : A.guards = some [] := by rfl
theorem Room.mono {j k : Nat} {A : Around} (r : Room k A) (h : j ≤ k) : Room j A := ⟨r.hd, by have := r.dp; omega, by have := r.un; omega, r.gd⟩
theorem Room.deeper {k : Nat} {A : Around} (r : Room (k + 1) A) (env : Env) : Room k (A.deeper env) :=
  ⟨r.hd, by have := r.dp; show A.depth + 1 + 3 * k + 5 < _; omega, by have := r.un; show A.units + 3 + 16 * k + 200 < _; omega, r.gd⟩
theorem make_depth {A : Around} {C : Addr} {us : List Value} {kw : List (Str × Value)} : (A.under (.builtin "type.__call__" ⟨.ref C :: us, kw⟩)).depth = A.depth + 1 := by
  first | rfl | simp [Around.under, Code.weight, Code.isCreation, Code.isGuard, Code.isCaller, Code.frames, Code.isFrame, guardIds]
theorem make_units {A : Around} {C : Addr} {us : List Value} {kw : List (Str × Value)} : (A.under (.builtin "type.__call__" ⟨.ref C :: us, kw⟩)).units = A.units + 1 := by
  first | rfl | simp [Around.under, Code.cUnits, Code.frames, Code.isFrame]
theorem Room.make {k : Nat} {A : Around} (r : Room (k + 1) A) (C : Addr) (us : List Value) (kw : List (Str × Value)) : Room k (A.under (.builtin "type.__call__" ⟨.ref C :: us, kw⟩)) :=
  ⟨r.hd, by have := r.dp; rw [make_depth]; omega, by have := r.un; rw [make_units]; omega, by first | exact r.gd | simpa [Around.under, Code.isGuard, Code.frames, Code.isFrame, guardIds] using r.gd⟩
theorem Room.depth {k : Nat} {A : Around} (r : Room k A) : A.depth < recursionLimit := by have := r.dp; omega
theorem Room.units {k : Nat} {A : Around} (r : Room k A) : A.units + 64 < cLine := by have := r.un; omega
/-! ### argument lists and displays -/
def tNil : TA := fun _ H Q => Q [] H
def tCons (ta : TE) (tr : TA) : TA := fun σ H Q => ta σ H fun x H1 => tr σ H1 fun xs H2 => Q (x :: xs) H2
section
variable {X : Cx} {e : Expr} {es : List Expr} {te : TE} {t : TA} {pos : Pos}
theorem pa_nil : PA X [] tNil := fun _ _ _ _ H Q I h => Calls.spliced_nil ⟨[], H, I, .nil, h⟩
theorem pa_cons (ha : PE X e te) (hr : PA X es t) (hs : starEach (e :: es) X.env = (false, eval e X.env) :: starEach es X.env := by rfl) : PA X (e :: es) (tCons te t) := by
  intro pos pins s σ H Q I h
  rw [hs]
  show wpAny _ _ (spliced ((false, eval e X.env) :: backTo pos (starEach es X.env))) _ _ s
  refine Calls.spliced_cons (thn (ha pins s σ H _ I h) fun u s1 ⟨x, H1, I1, r1, q1⟩ => ?_)
  exact thn (hr pos pins s1 σ H1 _ I1 q1) fun us s2 ⟨xs, H2, I2, r2, q2⟩ => ⟨x :: xs, H2, I2, .cons r1 r2, q2⟩

/-- a tuple, a list of written items -/
def tTup (t : TA) : TE := fun σ H Q => t σ H fun xs H1 => xs.length ≤ sizeLine ∧ ∀ p, H1 p = none → Q (.ref p) (upd H1 p (.tup xs))
def tLst (t : TA) : TE := fun σ H Q => t σ H fun xs H1 => xs.length ≤ sizeLine ∧ ∀ p, H1 p = none → Q (.ref p) (upd H1 p (.lst xs))
theorem pe_tup {x1} (h : PA X es t) : PE X (.Tuple es x1 pos) (tTup t) := by
  intro pins s σ H Q I hq
  refine wpAny_Tuple_spliced (thn (h pos pins s σ H _ I hq) fun us s1 ⟨xs, H1, I1, r, z, q⟩ => ⟨by rw [← r.length]; exact z, ?_⟩)
  have hf : H1 s1.heap.objs.size = none := I1.hok.fresh (Nat.le_refl _)
  refine ⟨.ref s1.heap.objs.size, upd H1 s1.heap.objs.size (.tup xs), I1.laid (t' := s1.toks) (fun b u e => Heap.get?_push_of_some _ e) (Nat.le_refl _) ?_, rfl, q _ hf⟩
  exact ⟨z, us, r, ⟨_, Heap.get?_push_size _ rfl, rfl, _, rfl⟩⟩
theorem pe_lst (h : PA X es t) : PE X (.List es pos) (tLst t) := by
  intro pins s σ H Q I hq
  refine wpAny_List_spliced (thn (h pos pins s σ H _ I hq) fun us s1 ⟨xs, H1, I1, r, z, q⟩ => ⟨by rw [← r.length]; exact z, ?_⟩)
  have hf : H1 s1.heap.objs.size = none := I1.hok.fresh (Nat.le_refl _)
  refine ⟨.ref s1.heap.objs.size, upd H1 s1.heap.objs.size (.lst xs), I1.laid (t' := s1.toks) (fun b u e => Heap.get?_push_of_some _ e) (Nat.le_refl _) ?_, rfl, q _ hf⟩
  exact ⟨z, us, 0, r, Heap.get?_push_size _ rfl⟩
end

/-! ### what a def promises -/
/-- a def's promise: the bound arguments in the parameters' order, the heap, the wanted end, the wanted exception -/
abbrev Sp := List V → Hp → VK → XK → Prop
/-- how an exception lies behind a call (file 08 gives it): the callers' frames, abstract heap and state ahead of the call, the wish, the exception, the state -/
abbrev CXT := List Env → Hp → Shared → XK → Value → Shared → Prop

/-- the state at a call -/
structure Env0 (P : Program) (w : World) (K : PySem.W.Frag) (mg : Str → Option Value) (base : Heap) (A : Around) (outer : List Env) (s : Shared) (H : Hp) : Prop where
  frames : A.frames = some outer
  mod : Mod K mg base
  bs : ∀ b o, base.get? b = some o → s.heap.get? b = some o ∧ H b = none
  bsz : base.objs.size ≤ s.heap.objs.size
  funs : s.heap.FunFrames base outer
  frf : ∀ b ∈ frs outer, H b = none
  hok : HOk P w H s.heap
  bare : AllBare s.gens
/-- a call's end -/
def CE (outer : List Env) (P : Program) (w : World) (H : Hp) (s : Shared) (Q : VK) (u : Value) (s' : Shared) : Prop :=
  ∃ v H', s'.os = s.os ∧ AllBare s'.gens ∧ Un (frs outer) [] H H' s.heap s'.heap ∧ HOk P w H' s'.heap ∧ RelV v u ∧ Q v H'
def CR (CX : CXT) (outer : List Env) (P : Program) (w : World) (H : Hp) (s : Shared) (Q : VK) (E : XK) (r : Result) (s' : Shared) : Prop :=
  match r with
  | .ok (.ret u) => CE outer P w H s Q u s'
  | .ok _ => False
  | .error e => CX outer H s E e s'
structure FnOk (P : Program) (w : World) (K : PySem.W.Frag) (mg : Str → Option Value) (base : Heap) (CX : CXT) (k : Nat) (f : Addr) (fd : FuncData) (ps : List Str) (sp : Sp) : Prop where
  len : ∀ vs H Q E, sp vs H Q E → vs.length = ps.length
  run : ∀ (A : Around) (outer : List Env) (s : Shared) (H : Hp) (args : Args) (us : List Value) (vs : List V) (Q : VK) (E : XK), Room k A → Env0 P w K mg base A outer s H → BindsTo s fd args (ps.zip us) → Vals vs us → sp vs H Q E →
    codeAny (model P w) A (.call (.ref f) args) (CR CX outer P w H s Q E) s
/-- a weaker promise -/
theorem FnOk.imp {P : Program} {w : World} {K : PySem.W.Frag} {mg : Str → Option Value} {base : Heap} {CX : CXT} {k : Nat} {f : Addr} {fd : FuncData} {ps : List Str} {sp sp' : Sp} (F : FnOk P w K mg base CX k f fd ps sp)
    (h : ∀ vs H Q E, sp' vs H Q E → sp vs H Q E) : FnOk P w K mg base CX k f fd ps sp' :=
  ⟨fun vs H Q E q => F.len vs H Q E (h _ _ _ _ q), fun A outer s H args us vs Q E hr he hb hv hs => F.run A outer s H args us vs Q E hr he hb hv (h _ _ _ _ hs)⟩

theorem Env0.make {P : Program} {w : World} {K : PySem.W.Frag} {mg : Str → Option Value} {base : Heap} {A : Around} {outer : List Env} {s : Shared} {H : Hp} (e : Env0 P w K mg base A outer s H) (C : Addr) (us : List Value) (kw : List (Str × Value)) :
    Env0 P w K mg base (A.under (.builtin "type.__call__" ⟨.ref C :: us, kw⟩)) outer s H := ⟨by first | exact e.frames | (simpa [Around.under, Code.envs, Code.isFrame, pushEnvs] using e.frames), e.mod, e.bs, e.bsz, e.funs, e.frf, e.hok, e.bare⟩
section
variable {X : Cx} {pins : List (Addr × Obj)} {σ : St} {H : Hp} {s s' : Shared}
/-- from a body: what a callee wants -/
theorem Inv.env0 (I : Inv X pins σ H s) : Env0 X.prog X.w X.K X.mg X.base X.A X.stack s H :=
  ⟨I.ok.frames, I.ok.mod, I.bs, Nat.le_trans I.ok.bsz I.sz, I.stack, I.stkFree, I.hok, I.bare⟩
/-- behind a call -/
theorem Inv.after {Q : VK} {u : Value} (I : Inv X pins σ H s) (h : CE X.stack X.prog X.w H s Q u s') : EP X pins σ Q u s' := by
  obtain ⟨v, H', os, bare, un, hok, r, q⟩ := h
  obtain ⟨hh, g, d, t, os'⟩ := s'
  obtain rfl : os' = s.os := os
  exact ⟨v, H', I.call (h' := hh) (g' := g) (d' := d) (t' := t) (ch := []) un hok bare (fun b z => absurd z (by simp)), r, q⟩
end

/-! ### calls -/
/-- f(..): the written arguments, then the defaults dvs; E: what is wanted of an exception -/
def tCall (sp : Sp) (dvs : List V) (E : XK) (t : TA) : TE := fun σ H Q => t σ H fun vs H1 => sp (vs ++ dvs) H1 Q E
/-- o.m(..) of an instance of the class at C -/
def tMeth (C : Addr) (m : Str) (sp : Sp) (dvs : List V) (E : XK) (ta : TE) (t : TA) : TE := fun σ H Q => ta σ H fun x H1 => ∃ a dx fs, x = .ref a ∧ H1 a = some (.ins C dx fs) ∧ fs.lookup m = none ∧
  t σ H1 fun vs H2 => sp (x :: (vs ++ dvs)) H2 Q E
/-- C(..): a new instance and its dict, then __init__ -/
def tMake (C : Addr) (sp : Sp) (dvs : List V) (E : XK) (t : TA) : TE := fun σ H Q => t σ H fun vs H1 => ∀ x dx, H1 x = none → H1 dx = none → dx ≠ x →
  sp (.ref x :: (vs ++ dvs)) (upd (upd H1 dx (.own x)) x (.ins C dx [])) (fun v H2 => v = .non ∧ Q (.ref x) H2) E

/-- how the parameters are bound: us the positional arguments, kw the keywords' values by name, ds the defaults that fill up -/
def Binds (K : PySem.W.Frag) (fd : FuncData) (ps : List Str) (ds : List Value) : Prop :=
  ∀ (s : Shared) (us : List Value), K.In s.heap → (us ++ ds).length = ps.length → BindsTo s fd ⟨us, []⟩ (ps.zip (us ++ ds))
/-- every parameter is given -/
theorem Binds.all {K : PySem.W.Frag} {fd : FuncData} {ps : List Str} (h : ∀ us : List Value, us.length = ps.length → bindArgs fd ⟨us, []⟩ = pure (ps.zip us)) : Binds K fd ps [] := fun s us _ hl => by
  rw [List.append_nil] at hl ⊢
  exact .of_eq (h us hl)

/-- an exception of a callee reaches what this body wants of exceptions -/
def Passes (CX : CXT) (X : Cx) (E : XK) : Prop := ∀ (pins : List (Addr × Obj)) (σ : St) (H : Hp) (s : Shared) (e : Value) (s' : Shared), Inv X pins σ H s → CX X.stack H s E e s' → X.xe e s'

section
variable {X : Cx} {CX : CXT} {k : Nat} {f C : Addr} {fd : FuncData} {ps : List Str} {sp : Sp} {dvs : List V} {ds : List Value} {E : XK} {x m : Str} {p pos apos : Pos} {e o : Expr} {es : List Expr} {ta : TE} {t : TA}

/-- the callee runs -/
theorem run_fn {pins : List (Addr × Obj)} {σ : St} {H : Hp} {s : Shared} {Q : VK} {us : List Value} {vs : List V} (F : FnOk X.prog X.w X.K X.mg X.base CX k f fd ps sp) (hr : Room k X.A) (hb : Binds X.K fd ps ds) (hd : Vals dvs ds) (hx : Passes CX X E)
    (I : Inv X pins σ H s) (r : Vals vs us) (h : sp (vs ++ dvs) H Q E) : wpAny (model X.prog X.w) X.A (call (.ref f) us) (EP X pins σ Q) X.xe s := by
  have r2 : Vals (vs ++ dvs) (us ++ ds) := r.append hd
  have hl : (us ++ ds).length = ps.length := by rw [← r2.length]; exact F.len _ _ _ _ h
  refine wpAny_call (codeAny_mono (F.run X.A X.stack s H ⟨us, []⟩ (us ++ ds) (vs ++ dvs) Q E hr I.env0 (hb s us I.kIn hl) r2 h) fun r s' hq => ?_)
  cases r with
  | error e => exact hx pins σ H s e s' I hq
  | ok fl =>
    cases fl with
    | ret u => exact I.after hq
    | next => exact False.elim hq
    | brk => exact False.elim hq
    | cont => exact False.elim hq

theorem pe_call (F : FnOk X.prog X.w X.K X.mg X.base CX k f fd ps sp) (hr : Room k X.A) (hg : Gl X x) (hm : X.mg x = some (.ref f)) (hk : PySem.W.keepIn X.K (.ref f) = true) (hb : Binds X.K fd ps ds) (hd : Vals dvs ds) (hx : Passes CX X E)
    (ha : PA X (e :: es) t) (hdb : (x == ("__debug__" : Str)) = false := by decide) (he : starEach (e :: es) X.env = (false, eval e X.env) :: starEach es X.env := by rfl) (hpl : (backTo pos (starEach es X.env)).any (·.1) = false := by rfl) :
    PE X (.Call (.Name x p) (e :: es) [] pos) (tCall sp dvs E t) := by
  intro pins s σ H Q I h
  refine wpAny_Call_Name_kw (ld_glob I hg hm ?_ hdb)
  refine PySem.W.callWith_K (h₀ := X.base) I.ok.mod.kin hk (thn (ha pos pins s σ H _ I h) fun us s1 ⟨vs, H1, I1, r, q⟩ => ⟨I1.kIn, ?_⟩) he hpl
  exact run_fn F hr hb hd hx I1 r q
/-- o.m(e, ..) -/
theorem pe_meth {pl : Sem Bool} (he : PE X o ta) (c : Cls X.K C) (hm : Meth X.K C m f) (F : FnOk X.prog X.w X.K X.mg X.base CX k f fd ps sp) (hr : Room k X.A) (hb : Binds X.K fd ps ds) (hd : Vals dvs ds) (hx : Passes CX X E) (ha : PA X (e :: es) t)
    (hst : starEach (e :: es) X.env = (false, eval e X.env) :: starEach es X.env := by rfl) (hpl : (backTo pos (starEach es X.env)).any (·.1) = false := by rfl)
    (ht : eval (.Call (.Attribute o m apos) (e :: es) [] pos) X.env = (do
      let ov ← eval o X.env
      standAt apos.atName
      let (f, first) ← holding [ov] (getMethod ov m pl)
      callWith pos f first (backTo pos (starEach (e :: es) X.env)) (backToKw pos (keywordEach [] X.env))) := by rfl) :
    PE X (.Call (.Attribute o m apos) (e :: es) [] pos) (tMeth C m sp dvs E ta t) := by
  intro pins s σ H Q I h
  refine PySem.W.methodCall_KW (pl := pl) (thn (he pins s σ H _ I h) fun u s1 ⟨x, H1, I1, rx, a, dx, fs, ex, ea, l, q⟩ => ?_) ht
  subst ex
  obtain rfl : u = Value.ref a := rx
  refine getmeth_ok I1 ea c hm l ?_
  refine PySem.W.callWith_K (first := [.ref a]) (h₀ := X.base) I.ok.mod.kin hm.kp (thn (ha pos pins s1 σ H1 _ I1 q) fun us s2 ⟨vs, H2, I2, r, q2⟩ => ⟨I2.kIn, ?_⟩) hst hpl
  exact run_fn (us := .ref a :: us) (vs := .ref a :: vs) F hr hb hd hx I2 (.cons rfl r) q2
/-- o.m() -/
theorem pe_meth0 {pl : Sem Bool} (he : PE X o ta) (c : Cls X.K C) (hm : Meth X.K C m f) (F : FnOk X.prog X.w X.K X.mg X.base CX k f fd ps sp) (hr : Room k X.A) (hb : Binds X.K fd ps ds) (hd : Vals dvs ds) (hx : Passes CX X E)
    (ht : eval (.Call (.Attribute o m apos) [] [] pos) X.env = (do
      let ov ← eval o X.env
      standAt apos.atName
      let (f, first) ← holding [ov] (getMethod ov m pl)
      callWith pos f first (backTo pos (starEach [] X.env)) (backToKw pos (keywordEach [] X.env))) := by rfl) :
    PE X (.Call (.Attribute o m apos) [] [] pos) (tMeth C m sp dvs E ta tNil) := by
  intro pins s σ H Q I h
  refine PySem.W.methodCall_KW (pl := pl) (thn (he pins s σ H _ I h) fun u s1 ⟨x, H1, I1, rx, a, dx, fs, ex, ea, l, q⟩ => ?_) ht
  subst ex
  obtain rfl : u = Value.ref a := rx
  refine getmeth_ok I1 ea c hm l ?_
  exact PySem.W.callWith_K0 (first := [.ref a]) I1.kIn hm.kp (run_fn (us := [.ref a]) (vs := [.ref a]) F hr hb hd hx I1 (.cons rfl .nil) q)

/-- what a class must have to be made -/
structure Mk (K : PySem.W.Frag) (C f : Addr) : Prop where
  makes : PySem.W.makesIn K C = true
  init : PySem.W.findIn K (.ref C) "__init__" = some (some (.ref f))
  fn : PySem.W.isFn K (.ref f) = true
  kp : PySem.W.keepIn K (.ref C) = true

theorem run_make {pins : List (Addr × Obj)} {σ : St} {H : Hp} {s : Shared} {Q : VK} {us : List Value} {vs : List V} (M : Mk X.K C f) (F : FnOk X.prog X.w X.K X.mg X.base CX k f fd ps sp) (hr : Room (k + 1) X.A) (hb : Binds X.K fd ps ds) (hd : Vals dvs ds)
    (hx : Passes CX X E) (I : Inv X pins σ H s) (r : Vals vs us)
    (h : ∀ x dx, H x = none → H dx = none → dx ≠ x → sp (.ref x :: (vs ++ dvs)) (upd (upd H dx (.own x)) x (.ins C dx [])) (fun v H2 => v = .non ∧ Q (.ref x) H2) E) :
    wpAny (model X.prog X.w) X.A (call (.ref C) us) (EP X pins σ Q) X.xe s := by
  have hq := h (s.heap.objs.size + 1) s.heap.objs.size (I.hok.fresh (Nat.le_succ _)) (I.hok.fresh (Nat.le_refl _)) (Nat.ne_of_lt (Nat.lt_succ_self _))
  have I2 := Inv.made (C := C) I
  have r2 : Vals (V.ref (s.heap.objs.size + 1) :: (vs ++ dvs)) (Value.ref (s.heap.objs.size + 1) :: (us ++ ds)) := .cons rfl (r.append hd)
  have hl : (Value.ref (s.heap.objs.size + 1) :: us ++ ds).length = ps.length := by
    have e := r2.length
    rw [F.len _ _ _ _ hq] at e
    exact e.symm
  refine wpAny_call (make_map (f := f) I.kIn M.makes M.init (beq_iff_eq.mp M.fn) (codeAny_mono (F.run _ X.stack _ _ ⟨Value.ref (s.heap.objs.size + 1) :: us, []⟩ (Value.ref (s.heap.objs.size + 1) :: (us ++ ds)) _ _ E (hr.make C us [])
    (I2.env0.make C us []) (hb _ (Value.ref (s.heap.objs.size + 1) :: us) I2.kIn hl) r2 hq) fun r s' hq' => ?_))
  cases r with
  | error e => exact hx pins σ _ _ e s' I2 hq'
  | ok fl =>
    cases fl with
    | ret u =>
      obtain ⟨v, H', I3, rv, ev, q3⟩ := I2.after hq'
      subst ev
      exact ⟨rv, ⟨V.ref (s.heap.objs.size + 1), H', I3, rfl, q3⟩⟩
    | next => exact False.elim hq'
    | brk => exact False.elim hq'
    | cont => exact False.elim hq'
theorem pe_make0 (M : Mk X.K C f) (F : FnOk X.prog X.w X.K X.mg X.base CX k f fd ps sp) (hr : Room (k + 1) X.A) (hg : Gl X x) (hm : X.mg x = some (.ref C)) (hb : Binds X.K fd ps ds) (hd : Vals dvs ds) (hx : Passes CX X E)
    (hdb : (x == ("__debug__" : Str)) = false := by decide) : PE X (.Call (.Name x p) [] [] pos) (tMake C sp dvs E tNil) := by
  intro pins s σ H Q I h
  refine wpAny_Call_Name_kw (ld_glob I hg hm ?_ hdb)
  exact PySem.W.callWith_K0 I.kIn M.kp (run_make (us := []) M F hr hb hd hx I .nil h)
end

section
variable {X : Cx} {CX : CXT} {k : Nat} {f C : Addr} {fd : FuncData} {ps ks : List Str} {sp : Sp} {E : XK} {x m : Str} {p pos apos kpos : Pos} {e o : Expr} {es : List Expr} {kws : List Keyword} {te ta : TE} {t tk : TA} {nm : Option Str}
variable {g : List Value → List Value → List Value} {gV : List V → List V → List V}
end

/-! ### a def's body keeps its promise -/
/-- names: the parameters first -/
structure FnScope (N P : List Str) (sc : Scope) : Prop where
  kind : sc.kind = .function
  co : sc.isCoroutine = false
  gen : sc.isGenerator = false
  nd : N.Nodup
  pre : N.take P.length = P
  par : ∀ x ∈ P, sc.names.lookup x = some .local ∨ sc.names.lookup x = some .cell
  nofree : ∀ y ∈ sc.names, y.2 ≠ .free

theorem bindL_out {kindOf : Str → Option NameKind} {x : Str} : ∀ {binds : List (Str × Value)} {m : Str → Option Value}, (∀ v, (x, v) ∉ binds) → bindL kindOf binds m x = m x
  | [], _, _ => rfl
  | (n, v) :: r, m, h => by
    unfold bindL
    rw [bindL_out fun w hw => h w (List.mem_cons_of_mem _ hw)]
    split
    · have : x ≠ n := by rintro rfl; exact h v List.mem_cons_self
      simp [this]
    · rfl
theorem bindC_out {kindOf : Str → Option NameKind} {x : Str} : ∀ {binds : List (Str × Value)} {m : Str → Option Value}, (∀ v, (x, v) ∉ binds) → bindC kindOf binds m x = m x
  | [], _, _ => rfl
  | (n, v) :: r, m, h => by
    unfold bindC
    rw [bindC_out fun w hw => h w (List.mem_cons_of_mem _ hw)]
    split
    · rfl
    · have : x ≠ n := by rintro rfl; exact h v List.mem_cons_self
      simp [this]
theorem bindL_get {kindOf : Str → Option NameKind} {x : Str} {v : Value} : ∀ {P : List Str} {vs : List Value} {i : Nat} {m : Str → Option Value}, P.Nodup → P[i]? = some x → vs[i]? = some v → kindOf x = some .local →
    bindL kindOf (P.zip vs) m x = some v
  | [], _, _, _, _, h, _, _ => by simp at h
  | _ :: _, [], _, _, _, _, h, _ => by simp at h
  | p :: P, w :: vs, 0, m, nd, h1, h2, hk => by
    simp at h1 h2; subst h1; subst h2
    show bindL kindOf ((p, w) :: P.zip vs) m p = _
    unfold bindL
    rw [bindL_out fun v hv => (List.nodup_cons.mp nd).1 (List.of_mem_zip hv).1, if_pos hk]
    simp
  | p :: P, w :: vs, i + 1, m, nd, h1, h2, hk => by
    show bindL kindOf ((p, w) :: P.zip vs) m x = _
    unfold bindL
    exact bindL_get (i := i) (List.nodup_cons.mp nd).2 (by simpa using h1) (by simpa using h2) hk
theorem bindC_get {kindOf : Str → Option NameKind} {x : Str} {v : Value} : ∀ {P : List Str} {vs : List Value} {i : Nat} {m : Str → Option Value}, P.Nodup → P[i]? = some x → vs[i]? = some v → kindOf x ≠ some .local →
    bindC kindOf (P.zip vs) m x = some v
  | [], _, _, _, _, h, _, _ => by simp at h
  | _ :: _, [], _, _, _, _, h, _ => by simp at h
  | p :: P, w :: vs, 0, m, nd, h1, h2, hk => by
    simp at h1 h2; subst h1; subst h2
    show bindC kindOf ((p, w) :: P.zip vs) m p = _
    unfold bindC
    rw [bindC_out fun v hv => (List.nodup_cons.mp nd).1 (List.of_mem_zip hv).1, if_neg hk]
    simp
  | p :: P, w :: vs, i + 1, m, nd, h1, h2, hk => by
    show bindC kindOf ((p, w) :: P.zip vs) m x = _
    unfold bindC
    exact bindC_get (i := i) (List.nodup_cons.mp nd).2 (by simpa using h1) (by simpa using h2) hk

/-- the names' values at the entry -/
def start (N : List Str) (vs : List V) : St := vs.map some ++ List.replicate (N.length - vs.length) none

/-- the context of a def's body, at its entry; an exception leaves the frame, then lies as CX says -/
def cxOf (CX : CXT) (P : Program) (w : World) (K : PySem.W.Frag) (mg : Str → Option Value) (base : Heap) (N : List Str) (qual : Str) (scope : Scope) (f : Addr) (cd : Value) (A : Around) (outer : List Env) (s : Shared) (H : Hp) (E : XK) : Cx where
  prog := P
  w := w
  K := K
  mg := mg
  base := base
  A := A.deeper (envOfC qual scope s.heap.objs.size f cd)
  N := N
  s₀ := s
  H₀ := H
  env := envOfC qual scope s.heap.objs.size f cd
  outer := outer
  stack := envOfC qual scope s.heap.objs.size f cd :: outer
  ex := []
  calm := true
  fn := fun _ => true
  pn := []
  xe := fun e s' => wpAny (model P w) (A.deeper (envOfC qual scope s.heap.objs.size f cd)) (leaving (envOfC qual scope s.heap.objs.size f cd) e) (fun _ s'' => CX outer H s E e s'') (fun e' s'' => CX outer H s E e' s'') s'

theorem cell_has {sc : Scope} {n : Nat} {x : Str} (h : sc.names.lookup x = some .cell) : ∃ c, (cellsFrom n sc.names []).lookup x = some c := by
  have q := PySem.W.cellsFrom_some sc.names n [] (.inl h)
  exact Option.isSome_iff_exists.mp q

theorem inv_start {CX : CXT} {P : Program} {w : World} {K : PySem.W.Frag} {mg : Str → Option Value} {base : Heap} {N ps : List Str} {qual : Str} {scope : Scope} {f : Addr} {cd : Value} {A : Around} {outer : List Env} {s s1 : Shared} {H : Hp} {E : XK} {us : List Value} {vs : List V}
    (S : FnScope N ps scope) (hd : A.handled = none) (e0 : Env0 P w K mg base A outer s H) (hl : vs.length = ps.length) (r : Vals vs us)
    (x : InCallC s s.heap.objs.size (bindL (envOfC qual scope s.heap.objs.size f cd).kindOf (ps.zip us) fun _ => none) (cellsFrom (s.heap.objs.size + 1) scope.names []) (bindC (envOfC qual scope s.heap.objs.size f cd).kindOf (ps.zip us) fun _ => none) s1) :
    Inv (cxOf CX P w K mg base N qual scope f cd A outer s H E) [] (start N vs) H s1 := by
  have hpl : ps.length ≤ N.length := by have := congrArg List.length S.pre; rw [List.length_take] at this; omega
  obtain ⟨h1, tk, rfl, hk⟩ := x.done
  have noA : ∀ b : Addr, b ∉ (cxOf CX P w K mg base N qual scope f cd A outer s H E).ex := fun b z => absurd (show b ∈ ([] : List Addr) from z) (by simp)
  refine ⟨⟨e0.mod, S.kind, rfl, rfl, Nat.le_refl _, fun y z c h1 h2 => ?_, fun y hy => ?_, fun y c _ h => ?_, fun _ => hd, Around.frames_deeper e0.frames, .inr ⟨rfl, rfl⟩, fun b z => absurd z (noA b), e0.bs, e0.bsz, fun b _ _ => noA b, fun b z => absurd z (noA b), e0.funs, e0.frf⟩,
    rfl, e0.bare, Un.kept hk, ⟨_, x.toInCall.ns, fun i y v h1 h2 h3 => ?_⟩, fun y c h => ⟨_, x.cell y c h⟩, e0.hok.fresh (Nat.le_refl _), fun y c h => ?_, fun p hp => absurd (show p ∈ ([] : List (Addr × Obj)) from hp) (by simp), e0.hok.kept hk, ?_⟩
  · exact name_of_addr x.apart (PySem.mem_of_lookup h1) (PySem.mem_of_lookup h2)
  · have hy : scope.names.lookup y = some .cell ∨ scope.names.lookup y = some .free := hy
    rcases hy with hy | hy
    · exact cell_has hy
    · exact absurd rfl (S.nofree _ (PySem.mem_of_lookup hy))
  · exact Nat.le_of_lt (x.above y c (PySem.mem_of_lookup h))
  · have hi : i < vs.length := by
      unfold start at h2
      by_cases hi : i < vs.length
      · exact hi
      · rw [List.getElem?_append_right (by simpa using hi)] at h2
        rw [List.getElem?_replicate] at h2
        split at h2 <;> cases h2
    have ha : vs[i]? = some v := by
      unfold start at h2
      rw [List.getElem?_append_left (by simpa using hi), List.getElem?_map] at h2
      cases e : vs[i]? with
      | none => rw [e] at h2; cases h2
      | some a => rw [e] at h2; cases h2; rfl
    obtain ⟨u, hu, rv⟩ := r.get ha
    have hp : ps[i]? = some y := by
      rw [← S.pre, List.getElem?_take_of_lt (by omega)]; exact h1
    have ndP : ps.Nodup := by rw [← S.pre]; exact S.nd.sublist (List.take_sublist _ _)
    refine ⟨u, rv, ?_⟩
    rcases S.par y (List.mem_of_getElem? hp) with k | k
    · exact .inl ⟨k, bindL_get ndP hp hu k⟩
    · obtain ⟨c, e⟩ := cell_has (n := s.heap.objs.size + 1) k
      refine .inr ⟨.inl k, c, e, ?_⟩
      have q := x.cell y c e
      rw [bindC_get ndP hp hu (by show scope.names.lookup y ≠ _; rw [k]; decide)] at q
      exact q
  · exact e0.hok.fresh (Nat.le_of_lt (x.above y c (PySem.mem_of_lookup h)))
  · unfold start
    show _ = N.length
    rw [List.length_append, List.length_map, List.length_replicate]
    omega

/-- THE RULE: a def (or a method) of the text, by its body. The body's reading t is chosen for each entry; it is run at the parameters' values -/
theorem fn_of {CX : CXT} {P : Program} {w : World} {K : PySem.W.Frag} {mg : Str → Option Value} {base : Heap} {k : Nat} {f : Addr} {name qual : Str} {params : Arguments} {body : List Stmt} {scope : Scope} {dV kV doc pm cdv ct oc : Value} {an od : Option Addr}
    {osl : Array (Option Value)} {N ps : List Str} {sp : Sp} (lk : K.lookup f = some ⟨oc, od, .func (PySem.W.fnOf name qual params body scope dV kV doc pm an cdv ct), osl⟩) (hcd : PySem.W.codeIn K cdv qual = true) (S : FnScope N ps scope)
    (len : ∀ vs H Q E, sp vs H Q E → vs.length = ps.length)
    (hbody : ∀ (A : Around) (outer : List Env) (s : Shared) (H : Hp) (vs : List V) (Q : VK) (E : XK), Room k (A.deeper (envOfC qual scope s.heap.objs.size f cdv)) → sp vs H Q E →
      ∃ t, PSs (cxOf CX P w K mg base N qual scope f cdv A outer s H E) body t ∧ t { nx := fun _ H' => Q .non H', rt := Q } (start N vs) H) :
    FnOk P w K mg base CX (k + 1) f (PySem.W.fnOf name qual params body scope dV kV doc pm an cdv ct) ps sp := by
  refine ⟨len, fun A outer s H args us vs Q E hr e0 hb r hsp => ?_⟩
  have hl := len _ _ _ _ hsp
  have KX : K.In s.heap := e0.mod.kin.keeps fun b o e => (e0.bs b o e).1
  have lim : s.heap.NoLimit := e0.mod.nolimit.keeps fun b o e => (e0.bs b o e).1
  have hkind : ∀ y ∈ ps.zip us, scope.names.lookup y.1 = some .local ∨ (scope.names.lookup y.1 = some .cell ∧ ((cellsFrom (s.heap.objs.size + 1) scope.names []).lookup y.1).isSome = true) := fun ⟨n, v⟩ hy => by
    rcases S.par n (List.of_mem_zip hy).1 with q | q
    · exact .inl q
    · exact .inr ⟨q, PySem.W.cellsFrom_some _ _ _ (.inl q)⟩
  refine codeAny_call_function hr.depth (KX _ _ lk) rfl S.co S.gen rfl (PySem.W.codeRec_of KX hcd) (hb _ _ _ _ ?_)
  refine wpAny_newFunctionEnv_cells S.kind hkind fun env he s1 x => ?_
  subst he
  refine ⟨lim.keeps x.toInCall.keep, codeAny_func ?_⟩
  obtain ⟨t, ht, hq⟩ := hbody A outer s H vs Q E (hr.deeper _) hsp
  have I : Inv (cxOf CX P w K mg base N qual scope f cdv A outer s H E) [] (start N vs) H s1 := inv_start S hr.hd e0 hl r x
  refine wpAny_mono (ht [] s1 (start N vs) H _ I hq) (fun fl s' hs => ?_) fun e s' hs => hs
  have fin : ∀ {σ' : St} {H' : Hp} {v : V} {u : Value}, Inv (cxOf CX P w K mg base N qual scope f cdv A outer s H E) [] σ' H' s' → RelV v u → Q v H' → CE outer P w H s Q u s' :=
    fun {σ' H' v u} J rv q => ⟨v, H', J.os, J.bare, J.base, J.hok, rv, q⟩
  cases fl with
  | ret u =>
    obtain ⟨v, σ', H', J, rv, q⟩ := hs
    exact fin J rv q
  | next =>
    obtain ⟨σ', H', J, q⟩ := hs
    exact fin (v := V.non) (u := Value.none) J rfl q
  | brk =>
    obtain ⟨_, _, _, q⟩ := hs
    exact False.elim q
  | cont =>
    obtain ⟨_, _, _, q⟩ := hs
    exact False.elim q
end L2

namespace L2
open PySem PySem.Spec PyProof.Rows
section
variable {X : Cx} {x : Str} {p pos : Pos} {e : Expr} {es : List Expr} {t : TA} {id T : String} {r : List V → Hp → VK → Prop}

def tCB (r : List V → Hp → VK → Prop) (t : TA) : TE := fun σ H Q => t σ H fun vs H1 => r vs H1 Q
/-- f(e, ..), f a built-in function -/
theorem pe_callB (hc : CallR X (.builtin id) r) (hg : Gl X x) (hm : X.mg x = none) (hv : bootBuiltins x = some (.builtin id)) (ha : PA X (e :: es) t) (hn : x ≠ "__name__" := by decide) (hdb : (x == ("__debug__" : Str)) = false := by decide)
    (he : starEach (e :: es) X.env = (false, eval e X.env) :: starEach es X.env := by rfl) (hpl : (backTo pos (starEach es X.env)).any (·.1) = false := by rfl) : PE X (.Call (.Name x p) (e :: es) [] pos) (tCB r t) := by
  intro pins s σ H Q I h
  refine wpAny_Call_Name_kw (ld_blt I hg hm hv ?_ hn hdb)
  exact PyProof.Rows.callWith_builtin1 (thn (ha pos pins s σ H _ I h) fun us s1 ⟨vs, H1, I1, r1, q1⟩ => hc pins s1 σ H1 vs us Q I1 r1 q1) he hpl
/-- T(e, ..), T a built-in type -/
theorem pe_callTy (hc : CallR X (.type T) r) (hg : Gl X x) (hm : X.mg x = none) (hv : bootBuiltins x = some (.type T)) (ha : PA X (e :: es) t) (hn : x ≠ "__name__" := by decide) (hdb : (x == ("__debug__" : Str)) = false := by decide)
    (he : starEach (e :: es) X.env = (false, eval e X.env) :: starEach es X.env := by rfl) (hpl : (backTo pos (starEach es X.env)).any (·.1) = false := by rfl) : PE X (.Call (.Name x p) (e :: es) [] pos) (tCB r t) := by
  intro pins s σ H Q I h
  refine wpAny_Call_Name_kw (ld_blt I hg hm hv ?_ hn hdb)
  exact PyProof.Rows.callWith_type1 (thn (ha pos pins s σ H _ I h) fun us s1 ⟨vs, H1, I1, r1, q1⟩ => hc pins s1 σ H1 vs us Q I1 r1 q1) he hpl
end
end L2

namespace HT
open PySem PyProof.Rows

section
open PySem.SeqAt
open PySem.AutoSeq1 (wpAny_loadPart')
open PySem.MeetsSeq PySem.MeetsSeq2 PySem.MeetsSeq3

end

section
variable {prog : Program} {w : World} {A : Around} {E : Value → Shared → Prop} {s : Shared}

/-! ### t[a:b], not the whole -/
/-- a slice's bound as a place among n (d where it is left out) -/
def sIx (n d : Nat) : Option Int → Nat
  | none => d
  | some v => if v < 0 then (v + (n : Int)).toNat else min v.toNat n
theorem sIx_none (n d : Nat) : sIx n d none = d := rfl
theorem sIx_nat (n d k : Nat) : sIx n d (some (k : Int)) = min k n := by
  show (if (k : Int) < 0 then ((k : Int) + (n : Int)).toNat else min (k : Int).toNat n) = min k n
  rw [if_neg (by omega), Int.toNat_natCast]
end
end HT

namespace L2
open PySem PySem.Spec PyProof.Rows

/-! ### the parts of a slice -/
abbrev TO := St → Hp → (Option Int → Hp → Prop) → Prop
/-- a slice's part (left out, or an int) -/
def PO (X : Cx) (e : Option Expr) (t : TO) : Prop :=
  ∀ (pins : List (Addr × Obj)) (s : Shared) (σ : St) (H : Hp) (Q : Option Int → Hp → Prop), Inv X pins σ H s → t σ H Q →
    wpAny (model X.prog X.w) X.A (evalPart e X.env) (fun u s' => ∃ o H', Inv X pins σ H' s' ∧ IsPart u o ∧ Q o H') X.xe s
def tNoPart : TO := fun _ H Q => Q none H
def tPart (t : TE) : TO := fun σ H Q => t σ H fun x H1 => ∃ i, x = .int i ∧ Q (some i) H1

theorem intsAre_of {ns : List Int} : ∀ {us : List Value}, Vals (ns.map V.int) us → IntsAre us ns := by
  induction ns with
  | nil => intro us r; rw [List.map_nil] at r; cases r; exact .nil
  | cons n ns ih =>
    intro us r
    rw [List.map_cons] at r
    cases r with
    | cons r1 r2 =>
      obtain ⟨t, e⟩ := r1
      subst e
      exact .cons n t (ih r2)

section
variable {X : Cx} {e : Expr} {te : TE} {lo hi : Option Expr} {tl th : TO} {pos p2 : Pos}

theorem po_none : PO X none tNoPart := by
  intro pins s σ H Q I h
  rw [evalPart_none]
  exact wpAny_pure ⟨none, H, I, .none, h⟩
theorem po_some (h : PE X e te) : PO X (some e) (tPart te) := by
  intro pins s σ H Q I hw
  rw [evalPart_some]
  refine thn (h pins s σ H _ I hw) fun u s1 ⟨x, H1, I1, r1, q1⟩ => ?_
  obtain ⟨i, rfl, q⟩ := q1
  obtain ⟨t, rfl⟩ := r1
  exact ⟨some i, H1, I1, .int i t, q⟩

/-- what a slice of a value is, by values: the slice object stands at sl -/
def SlR (X : Cx) (r : V → Option Int → Option Int → Hp → VK → Prop) : Prop :=
  ∀ (pins : List (Addr × Obj)) (s : Shared) (σ : St) (H : Hp) (x : V) (v vl vu : Value) (lo hi : Option Int) (sl : Addr) (Q : VK), Inv X pins σ H s → RelV x v → s.heap.IsSliceOf sl vl vu .none → IsPart vl lo → IsPart vu hi → r x lo hi H Q →
    ∃ T id, typeLookup (.type T) "__getitem__" = pure (some (.builtin id)) ∧ s.TypeIs v T ∧ wpAny (model X.prog X.w) X.A (getItem v (.ref sl)) (EP X pins σ Q) X.xe s
def tSl (r : V → Option Int → Option Int → Hp → VK → Prop) (te : TE) (tl th : TO) : TE := fun σ H Q => te σ H fun x H1 => tl σ H1 fun l H2 => th σ H2 fun u H3 => r x l u H3 Q
/-- a[lo:hi], any a -/
theorem pe_slice {r : V → Option Int → Option Int → Hp → VK → Prop} (hr : SlR X r) (he : PE X e te) (hl : PO X lo tl) (hu : PO X hi th) : PE X (.Subscript e (.Slice lo hi none p2) pos) (tSl r te tl th) := by
  intro pins s σ H Q I h
  refine Subscript_ (thn (he pins s σ H _ I h) fun v s1 ⟨x, H1, I1, r1, q1⟩ => ?_)
  refine wpAny_Slice (thn (hl pins s1 σ H1 _ I1 q1) fun vl s2 ⟨l, H2, I2, pl, q2⟩ => thn (hu pins s2 σ H2 _ I2 q2) fun vu s3 ⟨u, H3, I3, pu, q3⟩ => ?_)
  rw [evalPart_none]
  refine wpAny_pure ?_
  have I4 : Inv X pins σ H3 { s3 with heap := s3.heap.push { cls := .type "slice", data := .fields #[vl, vu, .none] } } := I3.kept (t' := s3.toks) fun b ob q => Heap.get?_push_of_some _ q
  obtain ⟨T, id, hT, ht, hg⟩ := hr pins { s3 with heap := s3.heap.push { cls := .type "slice", data := .fields #[vl, vu, .none] } } σ H3 x v vl vu l u s3.heap.objs.size Q I4 r1 (Heap.IsSliceOf.new ..) pl pu q3
  show wpAny (model X.prog X.w) X.A (subscriptTail e (.Slice lo hi none p2) v (.ref s3.heap.objs.size)) (EP X pins σ Q) X.xe { s3 with heap := s3.heap.push { cls := .type "slice", data := .fields #[vl, vu, .none] } }
  exact tail_any (ops := [.ref s3.heap.objs.size, v]) ht hT hg (by with_unfolding_all rfl)

/-- the items of xs[lo:hi] -/
def cutV (xs : List V) (lo hi : Option Int) : List V := (xs.drop (HT.sIx xs.length 0 lo)).take (HT.sIx xs.length xs.length hi - HT.sIx xs.length 0 lo)
theorem cutV_length (xs : List V) (lo hi : Option Int) : (cutV xs lo hi).length ≤ xs.length := by
  unfold cutV
  rw [List.length_take, List.length_drop]
  omega
end
end L2

namespace L2
open PySem PySem.Spec PyProof.Rows

/-! ### places -/
/-- the place that an index of any sign means -/
def ixN (n : Nat) (i : Int) : Option Nat := if 0 ≤ i then (if i < n then some i.toNat else none) else if -(n : Int) ≤ i then some (i + n).toNat else none
def atI {α : Type} (xs : List α) (i : Int) : Option α := (ixN xs.length i).bind fun j => xs[j]?
theorem ixN_seq {n : Nat} {i : Int} {j : Nat} (h : ixN n i = some j) : seqIndex? i n = some j ∧ j < n ∧ -(n : Int) ≤ i ∧ i < n := by
  unfold ixN at h
  by_cases h0 : 0 ≤ i
  · rw [if_pos h0] at h
    by_cases h1 : i < n
    · rw [if_pos h1] at h
      have e : i.toNat = j := Option.some.inj h
      exact ⟨by rw [seqIndex_of h0 h1, e], by omega, by omega, h1⟩
    · rw [if_neg h1] at h; cases h
  · rw [if_neg h0] at h
    by_cases h1 : -(n : Int) ≤ i
    · rw [if_pos h1] at h
      have e : (i + n).toNat = j := Option.some.inj h
      exact ⟨by rw [seqIndex_neg (by omega) h1, e], by omega, h1, by omega⟩
    · rw [if_neg h1] at h; cases h
theorem atI_get {α : Type} {xs : List α} {i : Int} {v : α} (h : atI xs i = some v) : ∃ j, seqIndex? i xs.length = some j ∧ xs[j]? = some v ∧ j < xs.length ∧ -(xs.length : Int) ≤ i ∧ i < xs.length := by
  unfold atI at h
  cases e : ixN xs.length i with
  | none => rw [e] at h; cases h
  | some j =>
    rw [e] at h
    obtain ⟨h1, h2, h3, h4⟩ := ixN_seq e
    exact ⟨j, h1, h, h2, h3, h4⟩
theorem atI_nat {α : Type} {xs : List α} {j : Nat} {v : α} (h : xs[j]? = some v) : atI xs (j : Int) = some v := by
  have hj : j < xs.length := (List.getElem?_eq_some_iff.mp h).1
  have e : ixN xs.length (j : Int) = some j := by
    unfold ixN
    rw [if_pos (by omega), if_pos (by omega)]; simp
  unfold atI; rw [e]; exact h
/-! ### what may be subscripted -/
/-- what stands as an index of a plain subscript -/
def PlainIx (b : Expr) : Prop := ∀ o i, subscripted b false o i = operate [o, i] (getItem o i)
/-- a subscript by values -/
def IxR (X : Cx) (r : R2) : Prop :=
  ∀ (value slice : Expr) (pins : List (Addr × Obj)) (s : Shared) (σ : St) (H : Hp) (x y : V) (v u : Value) (Q : VK), Inv X pins σ H s → RelV x v → RelV y u → r x y H Q →
    subscripted slice false v u = operate [v, u] (getItem v u) → wpAny (model X.prog X.w) X.A (subscriptTail value slice v u) (EP X pins σ Q) X.xe s
/-- a call of a builtin's method by values: the receiver, the arguments -/
def MtR (X : Cx) (id : String) (r : V → List V → Hp → VK → Prop) : Prop :=
  ∀ (pins : List (Addr × Obj)) (s : Shared) (σ : St) (H : Hp) (x : V) (xs : List V) (v : Value) (us : List Value) (Q : VK), Inv X pins σ H s → RelV x v → Vals xs us → r x xs H Q →
    wpAny (model X.prog X.w) X.A (call (.builtin id) (v :: us)) (EP X pins σ Q) X.xe s
section
variable {X : Cx} {a b : Expr} {ta tb : TE} {pos : Pos}
theorem IxR.or {r r' : R2} (h : IxR X r) (h' : IxR X r') : IxR X (fun x y H Q => r x y H Q ∨ r' x y H Q) := by
  intro value slice pins s σ H x y v u Q I rx ry q hs
  rcases q with q | q
  · exact h value slice pins s σ H x y v u Q I rx ry q hs
  · exact h' value slice pins s σ H x y v u Q I rx ry q hs
/-- a[b] -/
theorem pe_ix {r : R2} (hr : IxR X r) (ha : PE X a ta) (hb : PE X b tb) (hs : PlainIx b) : PE X (.Subscript a b pos) (tOp r ta tb) := by
  intro pins s σ H Q I h
  exact Subscript_ (binT ha hb I h fun v u s2 x y H2 I2 rx ry q => hr a b pins s2 σ H2 x y v u Q I2 rx ry q (hs _ _))

def rIxL (K : PySem.W.Frag) : R2 := fun x y H Q => ∃ p xs i v, x = .ref p ∧ y = .int i ∧ SqL K H p xs ∧ atI xs i = some v ∧ Q v H
def rIxT (K : PySem.W.Frag) : R2 := fun x y H Q => ∃ p xs i v, x = .ref p ∧ y = .int i ∧ SqT K H p xs ∧ atI xs i = some v ∧ Q v H
def rIxS : R2 := fun x y H Q => ∃ z i c, x = .str z ∧ y = .int i ∧ z.length ≤ sizeLine ∧ atI z.cps.toList i = some c ∧ Q (.str ⟨#[c]⟩) H
theorem ix_list : IxR X (rIxL X.K) := by
  intro value slice pins s σ H x y v u Q I rx ry h hs
  obtain ⟨p, xs, i, z, rfl, rfl, hq, he, q⟩ := h
  cases rx
  obtain ⟨t, rfl⟩ := ry
  obtain ⟨its, r, pl, hz⟩ := I.list hq
  obtain ⟨j, h1, h2, h3, h4, h5⟩ := atI_get he
  obtain ⟨w, ew, rw'⟩ := r.get h2
  have hl := r.length
  have hn := line63
  have fin : EP X pins σ Q w s := ⟨z, H, I, rw', q⟩
  by_cases h0 : 0 ≤ i
  · have hj : i.toNat = j := by
      rw [seqIndex_of h0 h5] at h1
      exact Option.some.inj h1
    exact item_listR pl.isList h0 (by omega) (by rw [hj]; simpa using ew) fin hs
  · have hj : (i + (its.toArray.size : Int)).toNat = j := by
      rw [seqIndex_neg (by omega) h4] at h1
      rw [List.size_toArray, ← hl]
      exact Option.some.inj h1
    exact subscriptTail_builtinR (x := w) pl.isList.typeIs slot_list_getitem.lookup
      (wpAny_getItem_list_neg (Q := fun r s' => r = w ∧ EP X pins σ Q r s') pl.isList (by omega) (by rw [List.size_toArray] <;> omega) (by omega) (by rw [hj]; simpa using ew) ⟨rfl, fin⟩) hs
theorem ix_tup : IxR X (rIxT X.K) := by
  intro value slice pins s σ H x y v u Q I rx ry h hs
  obtain ⟨p, xs, i, z, rfl, rfl, hq, he, q⟩ := h
  cases rx
  obtain ⟨t, rfl⟩ := ry
  obtain ⟨its, r, pl, hz⟩ := I.tuple hq
  obtain ⟨j, h1, h2, h3, h4, h5⟩ := atI_get he
  obtain ⟨w, ew, rw'⟩ := r.get h2
  have hl := r.length
  have hn := line63
  have fin : EP X pins σ Q w s := ⟨z, H, I, rw', q⟩
  exact subscriptTail_builtinR (x := w) pl.typeIs slot_tuple_getitem.lookup
    (getItem_tuple (j := j) (Q := fun r s' => r = w ∧ EP X pins σ Q r s') pl (by omega) (by omega) (by rw [List.size_toArray, ← hl]; exact h1) (by simpa using ew) ⟨rfl, fin⟩) hs
theorem ix_str : IxR X rIxS := by
  intro value slice pins s σ H x y v u Q I rx ry h hs
  obtain ⟨z, i, c, rfl, rfl, hz, he, q⟩ := h
  obtain ⟨t, rfl⟩ := rx
  obtain ⟨t', rfl⟩ := ry
  obtain ⟨j, h1, h2, h3, h4, h5⟩ := atI_get he
  have hl : z.cps.toList.length = z.length := by simp [Str.length]
  rw [hl] at h1 h4 h5
  have hn := line63
  exact tail_any (typeIs_str s z t) slot_str_getitem.lookup (getItem_str (c := c) (by
    have e1 : decide (i < -(2 ^ 63 : Int)) = false := decide_eq_false (by omega)
    have e2 : decide (i ≥ 2 ^ 63) = false := decide_eq_false (by omega)
    rw [e1, e2, Bool.or_false]) (by rw [h1]; simpa using h2) ⟨.str ⟨#[c]⟩, H, I.tok _, ⟨_, rfl⟩, q⟩) hs
/-- list, tuple or str -/
def rIx (K : PySem.W.Frag) : R2 := fun x y H Q => rIxL K x y H Q ∨ rIxT K x y H Q ∨ rIxS x y H Q
theorem ix_seq : IxR X (rIx X.K) := ix_list.or (ix_tup.or ix_str)

/-! ### slices -/
theorem slice_bounds (lo hi : Option Int) (n : Nat) : (sliceBounds lo hi none n).1 = ((HT.sIx n 0 lo : Nat) : Int) ∧ (sliceBounds lo hi none n).2.1 = ((HT.sIx n n hi : Nat) : Int) ∧ (sliceBounds lo hi none n).2.2 = 1 := by
  refine ⟨?_, ?_, rfl⟩
  · cases lo with
    | none => simp [sliceBounds, HT.sIx]
    | some i =>
      simp only [sliceBounds, HT.sIx, Option.getD_none, show (1 : Int) > 0 by decide, if_true]
      by_cases h : i < 0
      · simp only [h, if_true] <;> omega
      · simp only [h, if_false] <;> omega
  · cases hi with
    | none => simp [sliceBounds, HT.sIx]
    | some i =>
      simp only [sliceBounds, HT.sIx, Option.getD_none, show (1 : Int) > 0 by decide, if_true]
      by_cases h : i < 0
      · simp only [h, if_true] <;> omega
      · simp only [h, if_false] <;> omega
theorem slicePick_cut (its : List Value) (lo hi : Option Int) : slicePick its.toArray lo hi none = ((its.drop (HT.sIx its.length 0 lo)).take (HT.sIx its.length its.length hi - HT.sIx its.length 0 lo)).toArray := by
  obtain ⟨h1, h2, h3⟩ := slice_bounds lo hi its.toArray.size
  unfold slicePick
  rw [h1, h2, h3]
  simp only [sliceRange_one, pick_run, List.size_toArray] <;> rfl
/-- xs[lo:hi] of a list: a new list -/
def rSlL (K : PySem.W.Frag) : V → Option Int → Option Int → Hp → VK → Prop := fun x lo hi H Q => ∃ a xs, x = .ref a ∧ SqL K H a xs ∧ ∀ p, H p = none → Q (.ref p) (upd H p (.lst (cutV xs lo hi)))
theorem sl_list : SlR X (rSlL X.K) := by
  intro pins s σ H x v vl vu lo hi sl Q I rx hs pl pu h
  obtain ⟨a, xs, rfl, hx, q⟩ := h
  cases rx
  obtain ⟨its, r, ht, hz⟩ := I.list hx
  have hlen := r.length
  refine ⟨"list", _, slot_list_getitem.lookup, ht.isList.typeIs, ?_⟩
  refine wpAny_getItem_list_slice ht.isList hs pl pu .none (by simp) ?_ (by rw [List.size_toArray] <;> omega)
  rw [slicePick_cut, ← hlen]
  refine ⟨.ref s.heap.objs.size, _, I.laid (t' := s.toks) (o := .lst (cutV xs lo hi)) (fun b ob q => Heap.get?_push_of_some _ q) (Nat.le_refl _) ?_, rfl, q _ (I.hok.fresh (Nat.le_refl _))⟩
  exact ⟨Nat.le_trans (cutV_length xs lo hi) hz, _, 0, (r.drop (HT.sIx xs.length 0 lo)).take (HT.sIx xs.length xs.length hi - HT.sIx xs.length 0 lo), Heap.get?_push_size _ rfl⟩

/-! ### len, list(x), tuple(x) of any list or tuple that is read -/
theorem call_len_seq : CallR X (.builtin "len") (fun xs H Q => ∃ p ys, xs = [.ref p] ∧ (SqL X.K H p ys ∨ SqT X.K H p ys) ∧ Q (.int ys.length) H) := by
  intro pins s σ H xs us Q I r h
  obtain ⟨p, ys, rfl, hq, q⟩ := h
  obtain ⟨u, rfl, rx⟩ := vals1 r
  cases rx
  have hn := line63
  rcases hq with hq | hq
  · obtain ⟨its, r', pl, hz⟩ := I.list hq
    have hlen := r'.length
    exact Calls.call_len_list pl.isList (by simp only [List.size_toArray] <;> omega) ⟨.int ys.length, H, I.tok _, ⟨s.toks + 1, by rw [List.size_toArray, hlen]⟩, q⟩
  · obtain ⟨its, r', pl, hz⟩ := I.tuple hq
    have hlen := r'.length
    exact len_tuple pl (by simp only [List.size_toArray] <;> omega) ⟨.int ys.length, H, I.tok _, ⟨s.toks + 1, by rw [List.size_toArray, hlen]⟩, q⟩
theorem call_len_str : CallR X (.builtin "len") (fun xs H Q => ∃ z, xs = [.str z] ∧ z.length ≤ sizeLine ∧ Q (.int z.length) H) := by
  intro pins s σ H xs us Q I r h
  obtain ⟨z, rfl, hz, q⟩ := h
  obtain ⟨u, rfl, t, rfl⟩ := vals1 r
  have hn := line63
  exact len_str (by omega) ⟨.int z.length, H, I.tok _, ⟨_, rfl⟩, q⟩
/-! ### the call of a builtin's method: o.m(..) -/
/-- the value is of that builtin type -/
def tyV (K : PySem.W.Frag) (T : String) (x : V) (H : Hp) : Prop := match x with
  | .str _ => T = "str"
  | .int _ => T = "int"
  | .ref p => (T = "list" ∧ ∃ xs, SqL K H p xs) ∨ (T = "tuple" ∧ ∃ o, K.lookup p = some o ∧ o.cls = .type "tuple" ∧ o.dict = none) ∨
      (T = "dict" ∧ ((∃ kvs, H p = some (.dK kvs)) ∨ ∃ kvs, H p = some (.dT kvs))) ∨ (T = "set" ∧ ∃ S n, H p = some (.set S n))
  | _ => False
theorem tyV_is {pins : List (Addr × Obj)} {σ : St} {H : Hp} {s : Shared} {T : String} {x : V} {v : Value} (I : Inv X pins σ H s) (r : RelV x v) (ty : tyV X.K T x H) :
    s.TypeIs v T ∧ ∀ a, v = .ref a → ∃ ob, s.heap.get? a = some ob ∧ ob.dict = none := by
  cases x with
  | str z =>
    obtain ⟨t, rfl⟩ := r
    cases (show T = "str" from ty)
    exact ⟨typeIs_str s z t, fun _ e => nomatch e⟩
  | int i =>
    obtain ⟨t, rfl⟩ := r
    cases (show T = "int" from ty)
    exact ⟨typeIs_int s i t, fun _ e => nomatch e⟩
  | ref p =>
    cases r
    rcases ty with ⟨rfl, xs, hq⟩ | ⟨rfl, o, hk, hc, hd⟩ | ⟨rfl, hk⟩ | ⟨rfl, S, n, hk⟩
    · obtain ⟨its, _, pl, _⟩ := I.list hq
      refine ⟨pl.isList.typeIs, fun a e => ?_⟩
      cases e
      obtain ⟨o, n, e, c, hd, _⟩ := pl
      exact ⟨o, e, hd⟩
    · refine ⟨⟨o, I.kIn p o hk, hc⟩, fun a e => ?_⟩
      cases e
      exact ⟨o, I.kIn _ o hk, hd⟩
    · have z : ∃ o, s.heap.get? p = some o ∧ o.ExactDict := by
        rcases hk with ⟨kvs, hk⟩ | ⟨kvs, hk⟩
        · obtain ⟨_, _, _, _, o, _, _, e, ex, _⟩ := I.hok p _ hk
          exact ⟨o, e, ex⟩
        · obtain ⟨_, _, _, _, o, _, _, e, ex, _⟩ := I.hok p _ hk
          exact ⟨o, e, ex⟩
      obtain ⟨o, e, ex⟩ := z
      refine ⟨⟨o, e, ex.1⟩, fun a e2 => ?_⟩
      cases e2
      exact ⟨o, e, ex.2.1⟩
    · obtain ⟨o, _, _, _, e, ex, _⟩ := I.hok p _ hk
      refine ⟨⟨o, e, ex.1⟩, fun a e2 => ?_⟩
      cases e2
      exact ⟨o, e, ex.2.1⟩
  | _ => exact False.elim ty
def tBM (K : PySem.W.Frag) (T : String) (r : V → List V → Hp → VK → Prop) (to : TE) (t : TA) : TE := fun σ H Q => to σ H fun x H1 => tyV K T x H1 ∧ t σ H1 fun xs H2 => r x xs H2 Q
variable {o e : Expr} {es : List Expr} {to : TE} {t : TA} {name : Str} {apos cpos : Pos} {T id : String} {r : V → List V → Hp → VK → Prop}
theorem pe_bm (pa : PlainAttrs T) (slot : Slot T name id) (hty : typeOf (.builtin id) = pure (.type "method_descriptor")) (hm : MtR X id r) (ho : PE X o to) (ha : PA X (e :: es) t)
    (hbase : attributeBase o name X.env (eval o X.env) = eval o X.env := by rfl)
    (hfew : ((backTo cpos (starEach (e :: es) X.env)).all (fun x => !x.1) && (backToKw cpos (keywordEach [] X.env)).all (fun x => x.1.isSome)
      && decide ((e :: es).length + ([] : List Keyword).length + (if ([] : List Keyword).isEmpty then 0 else 1) < 30)) = true := by rfl)
    (hline : (apos.endLine == cpos.line) = true := by rfl) (hs : starEach (e :: es) X.env = (false, eval e X.env) :: starEach es X.env := by rfl) (hplain : (backTo cpos (starEach es X.env)).any (·.1) = false := by rfl) :
    PE X (.Call (.Attribute o name apos) (e :: es) [] cpos) (tBM X.K T r to t) := by
  intro pins s σ H Q I h
  refine wpAny_Call_method_late hbase hfew hline rfl (thn (ho pins s σ H _ I h) fun v s1 ⟨x, H1, I1, r1, ty, q1⟩ => ?_)
  obtain ⟨h1, h2⟩ := tyV_is I1 r1 ty
  refine ⟨T, id, pa, slot, hty, h1, h2, ?_⟩
  have hA := ha cpos pins s1 σ H1 _ I1 q1
  rw [hs] at hA ⊢
  refine Calls.callWith_builtin (by show (false || (backTo cpos (starEach es X.env)).any (·.1)) = false; rw [hplain] <;> rfl) (Calls.evalArgs_plain ?_)
  exact thn hA fun us s2 ⟨vs, H2, I2, r2, q2⟩ => hm pins s2 σ H2 x vs v us Q I2 r1 r2 q2
/- xs.append(e), list.index on a module's tuple .. are MtR facts of 06m -/
end
end L2

namespace L2
open PySem PySem.Spec PyProof.Rows

def MtM (X : Cx) (id : String) (r : V → List V → Hp → VK → Prop) : Prop :=
  ∀ (pins : List (Addr × Obj)) (s : Shared) (σ : St) (H : Hp) (x : V) (xs : List V) (v : Value) (us : List Value) (Q : VK), Inv X pins σ H s → RelV x v → Vals xs us → r x xs H Q →
    wpAny (model X.prog X.w) X.A (call (.builtin id) (v :: us)) (EP X pins σ Q) X.xe s

/-! ### lists of values -/
theorem Vals.one : ∀ {x : V} {us : List Value}, Vals [x] us → ∃ u, us = [u] ∧ RelV x u
  | _, _, .cons r .nil => ⟨_, rfl, r⟩
theorem Vals.rep {xs : List V} {us : List Value} (h : Vals xs us) : ∀ k : Nat, Vals (List.replicate k xs).flatten (List.replicate k us).flatten
  | 0 => .nil
  | k + 1 => by
    rw [List.replicate_succ, List.replicate_succ, List.flatten_cons, List.flatten_cons]
    exact Vals.append h (Vals.rep h k)
theorem foldl_rep (its : List Value) : ∀ (k : Nat) (acc : List Value),
    List.foldl (fun x1 x2 => x1 ++ x2) acc.toArray (List.replicate k its.toArray) = (acc ++ (List.replicate k its).flatten).toArray
  | 0, acc => by simp
  | k + 1, acc => by
    have e : acc.toArray ++ its.toArray = (acc ++ its).toArray := by simp
    have e2 : (acc ++ its) ++ (List.replicate k its).flatten = acc ++ (List.replicate (k + 1) its).flatten := by
      rw [List.replicate_succ, List.flatten_cons, List.append_assoc]
    rw [← e2, ← foldl_rep its k (acc ++ its), ← e, List.replicate_succ, List.foldl_cons]

section
variable {X : Cx} {pins : List (Addr × Obj)} {σ : St} {H : Hp} {s : Shared} {l b : Addr} {xs ys zs : List V}

/-! ### the two steps: a tracked list is rewritten, a new list is laid -/
theorem Inv.lset {its its' : List Value} {n : Nat} {f : Array Value → Array Value} {t' : Nat} (I : Inv X pins σ H s) (hH : H l = some (.lst xs))
    (e : s.heap.get? l = some { cls := .type "list", data := .seq its.toArray n }) (hf : f its.toArray = its'.toArray) (hv : Vals ys its') (hz : ys.length ≤ sizeLine) :
    Inv X pins σ (upd H l (.lst ys)) { s with heap := s.heap.update l (Obj.mapSeq f), toks := t' } := by
  have q := PySem.IsL.update e f
  rw [hf] at q
  refine I.write (x := l) (e := l) (by rw [hH]; exact trivial) (.inl rfl) (fun b' u hb hu => (Heap.get?_update_other s.heap (Obj.mapSeq f) (Ne.symm hb)).trans hu) ⟨_, q⟩ ?_
  exact ⟨hz, its', _, hv, q⟩
theorem Inv.lnew {its : List Value} {t' : Nat} (I : Inv X pins σ H s) (hv : Vals ys its) (hz : ys.length ≤ sizeLine) :
    Inv X pins σ (upd H s.heap.objs.size (.lst ys)) { s with heap := s.heap.push { cls := .type "list", data := .seq its.toArray }, toks := t' } :=
  I.laid (fun _ _ q => Heap.get?_push_of_some _ q) (Nat.le_refl _) ⟨hz, its, 0, hv, Heap.get?_push_size _ rfl⟩
theorem Inv.fresh (I : Inv X pins σ H s) : H s.heap.objs.size = none := I.hok.fresh (Nat.le_refl _)
theorem Inv.lstM (I : Inv X pins σ H s) (hH : H l = some (.lst xs)) : xs.length ≤ sizeLine ∧ ∃ (its : List Value) (n : Nat), Vals xs its ∧ xs.length = its.length ∧ s.heap.get? l = some { cls := .type "list", data := .seq its.toArray n } := by
  obtain ⟨z, its, n, r, e⟩ := I.hok l _ hH
  exact ⟨z, its, n, r, r.length, e⟩

theorem notLongL {n : Nat} (h : n ≤ sizeLine) : Builtin.List.listTooLong n = false := by
  unfold Builtin.List.listTooLong
  exact decide_eq_false (by omega)
end

section
variable {X : Cx}

/-! ### methods -/
def rAppend : V → List V → Hp → VK → Prop := fun x vs H Q => ∃ l xs y, x = .ref l ∧ vs = [y] ∧ H l = some (.lst xs) ∧ xs.length < sizeLine ∧ Q .non (upd H l (.lst (xs ++ [y])))
theorem mt_append : MtM X "list.append" rAppend := by
  intro pins s σ H x vs v us Q I rx rv h
  obtain ⟨l, xs, y, rfl, rfl, hH, hz, q⟩ := h
  cases rx
  obtain ⟨u, rfl, ru⟩ := rv.one
  obtain ⟨z, its, n, r, hl, e⟩ := I.lstM hH
  refine call_meets F.slot_list_append ⟨_, e, rfl⟩ F.entry_list_append (F.args_list_append_2 _ _) (PySem.list_append l its.toArray n u (by rw [List.size_toArray]; omega)) ⟨e, ?_⟩
  refine ⟨.non, _, I.lset (its' := its ++ [u]) hH e (by simp) (r.append (.cons ru .nil)) ?_, rfl, q⟩
  rw [List.length_append, List.length_singleton]
  omega

/-! ### list + list, list += list, list * int -/
def rCat : R2 := fun x y H Q => ∃ l b xs zs, x = .ref l ∧ y = .ref b ∧ H l = some (.lst xs) ∧ H b = some (.lst zs) ∧ xs.length + zs.length ≤ sizeLine ∧ ∀ p, H p = none → Q (.ref p) (upd H p (.lst (xs ++ zs)))
theorem op_cat : OpR X (binaryOp .Add) rCat := by
  intro pins s σ H x y v u Q I rx ry h
  obtain ⟨l, b, xs, zs, rfl, rfl, hH, hB, hz, q⟩ := h
  cases rx
  cases ry
  obtain ⟨z, its, n, r, hl, e⟩ := I.lstM hH
  obtain ⟨z2, its2, n2, r2, hl2, e2⟩ := I.lstM hB
  refine PySem.P.add_list e e2 ?_ (by rw [List.size_toArray, List.size_toArray]; omega)
  have ea : its.toArray ++ its2.toArray = (its ++ its2).toArray := by simp
  rw [ea]
  exact ⟨.ref _, _, I.lnew (t' := s.toks) (r.append r2) (by rw [List.length_append]; omega), rfl, q _ I.fresh⟩
/-- a list times an int (a negative one is nothing) -/
def rRep : R2 := fun x y H Q => ∃ l k xs, x = .ref l ∧ y = .int k ∧ H l = some (.lst xs) ∧ -(2 ^ 63) ≤ k ∧ k < 2 ^ 63 ∧ xs.length * k.toNat ≤ sizeLine ∧
  ∀ p, H p = none → Q (.ref p) (upd H p (.lst (List.replicate k.toNat xs).flatten))
theorem len_rep {α : Type} (xs : List α) (k : Nat) : (List.replicate k xs).flatten.length = k * xs.length := by
  induction k with
  | zero => simp
  | succ k ih => rw [List.replicate_succ, List.flatten_cons, List.length_append, ih, Nat.succ_mul, Nat.add_comm]
theorem op_rep : OpR X (binaryOp .Mult) rRep := by
  intro pins s σ H x y v u Q I rx ry h
  obtain ⟨l, k, xs, rfl, rfl, hH, h1, h2, hz, q⟩ := h
  cases rx
  obtain ⟨t, rfl⟩ := ry
  obtain ⟨z, its, n, r, hl, e⟩ := I.lstM hH
  have hlen : its.toArray.size * k.toNat ≤ sizeLine := by rw [List.size_toArray, ← hl]; exact hz
  have hcap : ¬ its.toArray.size * k.toNat > (2 ^ 63 - 1) / 8 := by
    have : (sizeLine : Nat) ≤ (2 ^ 63 - 1) / 8 := by decide
    omega
  have hfit : ¬ (!Builtin.List.listFitsIndex k) = true := by
    rw [fitsIndex_both h1 h2]
    exact Bool.false_ne_true
  have hlong : ¬ Builtin.List.listTooLong (its.toArray.size * k.toNat) = true := by
    rw [notLongL hlen]
    exact Bool.false_ne_true
  have hnew : List.foldl (fun x1 x2 => x1 ++ x2) #[] (List.replicate (if its.toArray.isEmpty = true then 0 else k.toNat) its.toArray) = (List.replicate k.toNat its).flatten.toArray := by
    have f0 : ∀ m : Nat, List.foldl (fun x1 x2 => x1 ++ x2) #[] (List.replicate m its.toArray) = (List.replicate m its).flatten.toArray := fun m => by
      have := foldl_rep its m []
      rw [List.nil_append] at this
      exact this
    rw [f0]
    cases its with
    | nil => simp
    | cons a r' => rw [if_neg (by simp)]
  refine wpAny_binaryOp_repeat_ref (T := "list") (U := "int") (by decide) ⟨_, e, rfl⟩ (fun s' => typeIs_int s' k t) noFill_list_mul F.fills_int_mul F.slot_int_rmul repeat_list F.slot_int_index.lookup
    (call_meets F.slot_int_rmul (typeIs_int s k t) F.entry_int_rmul (F.args_int_rmul_2 _ _) (int___rmul___int_list k t l its.toArray n)
      ⟨e, rfl, ⟨_, e, rfl⟩, call_meets F.slot_list_mul ⟨_, e, rfl⟩ F.entry_list_mul (F.args_list_mul_2 _ _) (AutoListH.list___mul___list_int_3 l its.toArray n k t hfit hcap hlong) ⟨e, ?_⟩⟩)
  rw [hnew]
  exact ⟨.ref _, _, I.lnew (t' := s.toks) (r.rep k.toNat) (by rw [len_rep, Nat.mul_comm]; exact hz), rfl, q _ I.fresh⟩

end

/-! ### xs[a:b] = ys -/
section
variable {prog : Program} {w : World} {A : Around} {E : Value → Shared → Prop} {s : Shared}
set_option maxRecDepth 100000 in
end

section
variable {X : Cx}
end
end L2

namespace L2
open PySem PySem.Spec PyProof.Rows

/-! ### lists of pairs as tables -/
section
variable {κ : Type} [DecidableEq κ]
def valV (kvs : List (κ × V)) (k : κ) : Option V := (kvs.find? fun kv => decide (kv.1 = k)).map (·.2)
/-- in its place, or at the end -/
def putK (kvs : List (κ × V)) (k : κ) (v : V) : List (κ × V) :=
  if (kvs.any fun kv => decide (kv.1 = k)) = true then kvs.map (fun kv => if kv.1 = k then (kv.1, v) else kv) else kvs ++ [(k, v)]
def dropK (kvs : List (κ × V)) (k : κ) : List (κ × V) := kvs.filter fun kv => decide (kv.1 ≠ k)

theorem valV_pos {p : κ × V} {r : List (κ × V)} {k : κ} (e : p.1 = k) : valV (p :: r) k = some p.2 := by simp [valV, List.find?_cons, e]
theorem valV_neg {p : κ × V} {r : List (κ × V)} {k : κ} (e : ¬ p.1 = k) : valV (p :: r) k = valV r k := by simp [valV, List.find?_cons, e]
theorem valV_any (k : κ) : ∀ kvs : List (κ × V), (kvs.any fun kv => decide (kv.1 = k)) = (valV kvs k).isSome
  | [] => rfl
  | p :: r => by
    rw [List.any_cons]
    by_cases e : p.1 = k
    · simp only [valV_pos e, decide_eq_true e, Bool.true_or, Option.isSome_some]
    · rw [valV_neg e, decide_eq_false e, Bool.false_or]; exact valV_any k r
theorem length_putK (kvs : List (κ × V)) (k : κ) (v : V) : (putK kvs k v).length ≤ kvs.length + 1 := by
  unfold putK
  split
  · rw [List.length_map]; omega
  · rw [List.length_append, List.length_cons, List.length_nil]; omega
theorem RelO.isSome_eq {o : Option V} {u : Option Value} (r : RelO o u) : o.isSome = u.isSome := by
  cases o with
  | none => cases u with
    | none => rfl
    | some _ => exact (show False from r).elim
  | some _ => cases u with
    | none => exact (show False from r).elim
    | some _ => rfl
theorem RelO.getD {o : Option V} {u : Option Value} {d : V} {d' : Value} (r : RelO o u) (rd : RelV d d') : RelV (o.getD d) (u.getD d') := by
  cases o with
  | none => cases u with
    | none => exact rd
    | some _ => exact (show False from r).elim
  | some _ => cases u with
    | none => exact (show False from r).elim
    | some _ => exact r

/-- raw tables of the same keys -/
theorem KV.val {kvs : List (κ × V)} {vs : List (κ × Value)} (r : KV kvs vs) (k : κ) : RelO (valV kvs k) (valueAt vs k) := by
  unfold KV at r
  induction r with
  | nil => exact True.intro
  | @cons p q ps qs h t ih =>
    obtain ⟨h1, h2⟩ := h
    by_cases e : p.1 = k
    · have e' : q.1 = k := h1.symm.trans e
      have b : valueAt (q :: qs) k = some q.2 := by simp [valueAt, List.find?_cons, e']
      rw [valV_pos e, b]; exact h2
    · have e' : ¬ q.1 = k := fun z => e (h1.trans z)
      have b : valueAt (q :: qs) k = valueAt qs k := by simp [valueAt, List.find?_cons, e']
      rw [valV_neg e, b]; exact ih
theorem KV.any {kvs : List (κ × V)} {vs : List (κ × Value)} (r : KV kvs vs) (k : κ) : (kvs.any fun kv => decide (kv.1 = k)) = vs.any fun kv => decide (kv.1 = k) := by
  unfold KV at r
  induction r with
  | nil => rfl
  | cons h t ih => rw [List.any_cons, List.any_cons, ih, h.1]
theorem KV.repl {kvs : List (κ × V)} {vs : List (κ × Value)} (r : KV kvs vs) (k : κ) {y : V} {u : Value} (ry : RelV y u) :
    KV (kvs.map fun kv => if kv.1 = k then (kv.1, y) else kv) (vs.map fun kv => if kv.1 = k then (kv.1, u) else kv) := by
  unfold KV at r ⊢
  induction r with
  | nil => exact .nil
  | @cons p q ps qs h t ih =>
    rw [List.map_cons, List.map_cons]
    refine .cons ?_ ih
    obtain ⟨h1, h2⟩ := h
    by_cases e : p.1 = k
    · rw [if_pos e, if_pos (h1.symm.trans e)]; exact ⟨h1, ry⟩
    · rw [if_neg e, if_neg (fun z => e (h1.trans z))]; exact ⟨h1, h2⟩
theorem KV.put {kvs : List (κ × V)} {vs : List (κ × Value)} (r : KV kvs vs) (k : κ) {y : V} {u : Value} (ry : RelV y u) : KV (putK kvs k y) (stored vs k u) := by
  unfold putK stored
  rw [r.any k]
  by_cases e : (vs.any fun kv => decide (kv.1 = k)) = true
  · rw [if_pos e, if_pos e]; exact r.repl k ry
  · rw [if_neg e, if_neg e]; exact Paired.snoc r ⟨rfl, ry⟩
theorem KV.drop {kvs : List (κ × V)} {vs : List (κ × Value)} (r : KV kvs vs) (k : κ) : KV (dropK kvs k) (without vs k) := by
  unfold KV at r ⊢
  unfold dropK without
  induction r with
  | nil => exact .nil
  | @cons p q ps qs h t ih =>
    obtain ⟨h1, h2⟩ := h
    rw [List.filter_cons, List.filter_cons]
    by_cases e : p.1 = k
    · have a : ¬ decide (p.1 ≠ k) = true := by simp [e]
      have b : ¬ decide (q.1 ≠ k) = true := by simp [h1.symm.trans e]
      rw [if_neg a, if_neg b]; exact ih
    · have e' : ¬ q.1 = k := fun z => e (h1.trans z)
      have a : decide (p.1 ≠ k) = true := by simp [e]
      have b : decide (q.1 ≠ k) = true := by simp [e']
      rw [if_pos a, if_pos b]; exact .cons ⟨h1, h2⟩ ih
theorem KV.length {kvs : List (κ × V)} {vs : List (κ × Value)} (r : KV kvs vs) : kvs.length = vs.length := Paired.length r
theorem dropK_le (kvs : List (κ × V)) (k : κ) : (dropK kvs k).length ≤ kvs.length := List.length_filter_le _ _
end


/-! ### a tracked dict, its keys ints and texts or tuples of these -/
theorem kV_is {P : Program} {w : World} {k : Key} {u : Value} (r : RelV (kV k) u) : (mixKind P w).is k u = true := by
  cases k with
  | inl i => obtain ⟨t, e⟩ := (show ∃ t, u = Value.int i t from r); subst e; exact mixKind_int P w i t
  | inr x => obtain ⟨t, e⟩ := (show ∃ t, u = Value.str x t from r); subst e; exact mixKind_str P w x t
theorem items_are {P : Program} {w : World} : ∀ {ks : List Key} {us : List Value}, Vals (ks.map kV) us → ItemsAre (mixKind P w) ks us
  | [], _, r => by rw [List.map_nil] at r; cases r; exact .nil
  | k :: ks, _, r => by
    rw [List.map_cons] at r
    cases r with
    | cons h t => exact .cons (kV_is h) (items_are t)

/-- raw entries of a dict with tuple keys -/
abbrev KT (H : Hp) : List (List Key × V) → List (List Key × Addr × Value) → Prop := Paired fun p q => p.1 = q.1 ∧ H q.2.1 = some (.tup (p.1.map kV)) ∧ RelV p.2 q.2.2
theorem KT.val {H : Hp} {kvs : List (List Key × V)} {xs : List (List Key × Addr × Value)} (r : KT H kvs xs) (k : List Key) : RelO (valV kvs k) ((atKey xs k).map (·.2)) := by
  induction r with
  | nil => exact True.intro
  | @cons p q ps qs h t ih =>
    obtain ⟨h1, _, h2⟩ := h
    by_cases e : p.1 = k
    · have e' : q.1 = k := h1.symm.trans e
      have b : atKey (q :: qs) k = some q.2 := by simp [atKey, List.find?_cons, e']
      rw [valV_pos e, b]; exact h2
    · have e' : ¬ q.1 = k := fun z => e (h1.trans z)
      have b : atKey (q :: qs) k = atKey qs k := by simp [atKey, List.find?_cons, e']
      rw [valV_neg e, b]; exact ih
theorem KT.repl {H : Hp} {kvs : List (List Key × V)} {xs : List (List Key × Addr × Value)} (r : KT H kvs xs) (k : List Key) {y : V} {u : Value} (ry : RelV y u) :
    KT H (kvs.map fun kv => if kv.1 = k then (kv.1, y) else kv) (xs.map (putAt k u)) := by
  induction r with
  | nil => exact .nil
  | @cons p q ps qs h t ih =>
    rw [List.map_cons, List.map_cons]
    refine .cons ?_ ih
    obtain ⟨h1, h2, h3⟩ := h
    unfold putAt
    by_cases e : p.1 = k
    · rw [if_pos e, if_pos (h1.symm.trans e)]; exact ⟨h1, h2, ry⟩
    · rw [if_neg e, if_neg (fun z => e (h1.trans z))]; exact ⟨h1, h2, h3⟩
theorem KT.put {H : Hp} {kvs : List (List Key × V)} {xs : List (List Key × Addr × Value)} (r : KT H kvs xs) (k : List Key) {b : Addr} {y : V} {u : Value} (hb : H b = some (.tup (k.map kV))) (ry : RelV y u) :
    KT H (putK kvs k y) (storedH xs k b u) := by
  have e : (kvs.any fun kv => decide (kv.1 = k)) = (atKey xs k).isSome := by
    rw [valV_any, (r.val k).isSome_eq, Option.isSome_map]
  unfold putK storedH
  rw [e]
  by_cases q : (atKey xs k).isSome = true
  · rw [if_pos q, if_pos q]; exact r.repl k ry
  · rw [if_neg q, if_neg q]; exact Paired.snoc r ⟨rfl, hb, ry⟩
theorem KT.keeps {H H' : Hp} {kvs : List (List Key × V)} {xs : List (List Key × Addr × Value)} (r : KT H kvs xs) (ht : ∀ b ys, H b = some (.tup ys) → H' b = some (.tup ys)) : KT H' kvs xs :=
  Paired.mapP r fun _ _ z => ⟨z.1, ht _ _ z.2.1, z.2.2⟩

section
variable {P : Program} {w : World} {H : Hp} {h : Heap} {a : Addr}
theorem rd_of {u : HO} (ok : HOk P w H h) (e : Rd H a u) : ObjOk P w H h a u := e.ok ok
theorem dk_rd {kvs : List (Key × V)} (ok : HOk P w H h) (e : Rd H a (.dK kvs)) : kvs.length ≤ sizeLine ∧ (a == sysModules) = false ∧ ∃ vs, KV kvs vs ∧ h.DictOf (mixKind P w) a vs :=
  show ObjOk P w H h a (.dK kvs) from rd_of ok e
theorem dk_of {kvs : List (Key × V)} (ok : HOk P w H h) (e : H a = some (.dK kvs)) : kvs.length ≤ sizeLine ∧ (a == sysModules) = false ∧ ∃ vs, KV kvs vs ∧ h.DictOf (mixKind P w) a vs := dk_rd ok (.inl e)
/-- a tracked tuple of ints and texts is a key -/
theorem key_of {ks : List Key} (ok : HOk P w H h) (e : H a = some (.tup (ks.map kV))) : (tupleKind (mixKind P w)).is h ks a := by
  obtain ⟨_, its, r, o, h1, h2, n, h3⟩ := (show ObjOk P w H h a (.tup (ks.map kV)) from ok a _ e)
  exact ⟨o, its.toArray, n, h1, h2, h3, by simpa using items_are r⟩
theorem dt_rd {kvs : List (List Key × V)} (ok : HOk P w H h) (e : Rd H a (.dT kvs)) : kvs.length ≤ sizeLine ∧ (a == sysModules) = false ∧
    ∃ xs, KT H kvs xs ∧ h.DictOfH (tupleKind (mixKind P w)) a xs := by
  obtain ⟨z, y, xs, r, o, es, ep, h1, h2, h3, h4, h5⟩ := (show ObjOk P w H h a (.dT kvs) from rd_of ok e)
  refine ⟨z, y, xs, r, o, es, ep, h1, h2, h3, h4, fun x hx => ?_, h5⟩
  have all : ∀ {l : List (List Key × V)} {m : List (List Key × Addr × Value)}, KT H l m → ∀ x ∈ m, (tupleKind (mixKind P w)).is h x.1 x.2.1 := by
    intro l m q
    induction q with
    | nil => intro x hx; exact nomatch hx
    | @cons p q ps qs hq t ih =>
      intro x hx
      rcases List.mem_cons.mp hx with e | hx
      · subst e
        exact key_of ok (by rw [← hq.1]; exact hq.2.1)
      · exact ih x hx
  exact all r x hx
theorem dt_of {kvs : List (List Key × V)} (ok : HOk P w H h) (e : H a = some (.dT kvs)) : kvs.length ≤ sizeLine ∧ (a == sysModules) = false ∧
    ∃ xs, KT H kvs xs ∧ h.DictOfH (tupleKind (mixKind P w)) a xs := dt_rd ok (.inl e)
end

/-- what the dict at a holds at the key y -/
def DGet (H : Hp) (a : Addr) (y : V) (r : Option V) : Prop :=
  (∃ kvs k, Rd H a (.dK kvs) ∧ y = kV k ∧ r = valV kvs k) ∨ ∃ kvs k b, Rd H a (.dT kvs) ∧ y = .ref b ∧ H b = some (.tup (k.map kV)) ∧ r = valV kvs k
/-- the heap behind a[y] = v -/
def DPut (H : Hp) (a : Addr) (y v : V) (H' : Hp) : Prop :=
  (∃ kvs k, H a = some (.dK kvs) ∧ y = kV k ∧ kvs.length < sizeLine ∧ H' = upd H a (.dK (putK kvs k v))) ∨
  ∃ kvs k b, H a = some (.dT kvs) ∧ y = .ref b ∧ H b = some (.tup (k.map kV)) ∧ kvs.length < sizeLine ∧ H' = upd H a (.dT (putK kvs k v))
theorem DGet.k {H : Hp} {a : Addr} {kvs : List (Key × V)} {k : Key} (e : H a = some (.dK kvs)) : DGet H a (kV k) (valV kvs k) := .inl ⟨kvs, k, .inl e, rfl, rfl⟩
theorem DGet.t {H : Hp} {a b : Addr} {kvs : List (List Key × V)} {k : List Key} (e : H a = some (.dT kvs)) (eb : H b = some (.tup (k.map kV))) : DGet H a (.ref b) (valV kvs k) := .inr ⟨kvs, k, b, .inl e, rfl, eb, rfl⟩
theorem DPut.k {H : Hp} {a : Addr} {kvs : List (Key × V)} {k : Key} {v : V} (e : H a = some (.dK kvs)) (hl : kvs.length < sizeLine) : DPut H a (kV k) v (upd H a (.dK (putK kvs k v))) := .inl ⟨kvs, k, e, rfl, hl, rfl⟩
theorem DPut.t {H : Hp} {a b : Addr} {kvs : List (List Key × V)} {k : List Key} {v : V} (e : H a = some (.dT kvs)) (eb : H b = some (.tup (k.map kV))) (hl : kvs.length < sizeLine) :
    DPut H a (.ref b) v (upd H a (.dT (putK kvs k v))) := .inr ⟨kvs, k, b, e, rfl, eb, hl, rfl⟩


section
variable {X : Cx} {pins : List (Addr × Obj)} {σ : St} {H : Hp} {s : Shared} {a : Addr} {y v : V} {u r : Value} {o : Option V} {A : Around} {E : Value → Shared → Prop}

theorem Inv.big (I : Inv X pins σ H s) : sysModules < s.heap.objs.size := by
  have h : mainGlobals < s.heap.objs.size := (I.mod.glob.keeps I.bk).lt
  exact Nat.lt_trans (by decide) h

/-- y in d -/
theorem d_in {Q : Value → Shared → Prop} (hu : A.units + 1 < cLine) (I : Inv X pins σ H s) (g : DGet H a y o) (ry : RelV y u) (h : ∀ s', Inv X pins σ H s' → Q (.bool o.isSome) s') :
    wpAny (model X.prog X.w) A (compareOp .In u (.ref a)) Q E s := by
  rcases g with ⟨kvs, k, e, ey, l⟩ | ⟨kvs, k, b, e, ey, eb, l⟩
  · subst ey
    obtain ⟨z, hd, vs, rel, dd⟩ := dk_rd I.hok e
    refine wpAny_in_of (kV_is ry) hd dd.mapOf ?_
    rw [← (rel.val k).isSome_eq, ← l]
    exact h _ (I.tok _)
  · subst ey
    cases (show u = Value.ref b from ry)
    obtain ⟨z, hd, xs, rel, dd⟩ := dt_rd I.hok e
    refine wpAny_in_heap (tupleKind_room_in1 hu) (key_of I.hok eb) hd dd ?_
    have q := (rel.val k).isSome_eq
    rw [Option.isSome_map] at q
    rw [← q, ← l]
    exact h _ (I.tok _)
theorem d_notIn {Q : Value → Shared → Prop} (hu : A.units + 1 < cLine) (I : Inv X pins σ H s) (g : DGet H a y o) (ry : RelV y u) (h : ∀ s', Inv X pins σ H s' → Q (.bool (!o.isSome)) s') :
    wpAny (model X.prog X.w) A (compareOp .NotIn u (.ref a)) Q E s := by
  rcases g with ⟨kvs, k, e, ey, l⟩ | ⟨kvs, k, b, e, ey, eb, l⟩
  · subst ey
    obtain ⟨z, hd, vs, rel, dd⟩ := dk_rd I.hok e
    refine wpAny_notIn_of (kV_is ry) hd dd.mapOf ?_
    rw [← (rel.val k).isSome_eq, ← l]
    exact h _ (I.tok _)
  · subst ey
    cases (show u = Value.ref b from ry)
    obtain ⟨z, hd, xs, rel, dd⟩ := dt_rd I.hok e
    refine wpAny_notIn_heap (tupleKind_room_in1 hu) (key_of I.hok eb) hd dd ?_
    have q := (rel.val k).isSome_eq
    rw [Option.isSome_map] at q
    rw [← q, ← l]
    exact h _ (I.tok _)
/-- a dict's object is replaced -/
theorem d_write {h' : Heap} {t' : Nat} {ob : HO} (I : Inv X pins σ H s) (mu : Mut (H a)) (hs : Heap.SameBut a s.heap h') (he : ∃ q, h'.get? a = some q) (new : ObjOk X.prog X.w (upd H a ob) h' a ob) :
    Inv X pins σ (upd H a ob) { s with heap := h', toks := t' } :=
  I.write (x := a) (e := a) mu (.inl rfl) (fun b q hb z => (hs.2 b hb).trans z) he new
theorem dk_new {P : Program} {w : World} {H' : Hp} {h' : Heap} {kvs : List (Key × V)} {vs : List (Key × Value)} (z : kvs.length ≤ sizeLine) (hd : (a == sysModules) = false) (rel : KV kvs vs) (dd : h'.DictOf (mixKind P w) a vs) :
    ObjOk P w H' h' a (.dK kvs) := ⟨z, hd, vs, rel, dd⟩
/-- d[y] = v -/
theorem d_setItem {H' : Hp} {Q : Unit → Shared → Prop} (hu : A.units + 1 < cLine) (I : Inv X pins σ H s) (g : DPut H a y v H') (ry : RelV y u) (rv : RelV v r) (h : ∀ s', Inv X pins σ H' s' → Q () s') :
    wpAny (model X.prog X.w) A (setItem (.ref a) u r) Q E s := by
  rcases g with ⟨kvs, k, e, ey, l, eH⟩ | ⟨kvs, k, b, e, ey, eb, l, eH⟩
  · subst ey eH
    obtain ⟨z, hd, vs, rel, dd⟩ := dk_of I.hok e
    have hz : vs.length ≤ sizeLine := by rw [← rel.length]; exact z
    have hl : (putK kvs k v).length ≤ sizeLine := by have := length_putK kvs k v; omega
    refine wpAny_setItem_pairs (hsz := hz) (kV_is ry) dd fun h' dd' hs => h _ ?_
    have he : ∃ q, h'.get? a = some q := let ⟨q, _, _, hq, _⟩ := dd'; ⟨q, hq⟩
    exact d_write I (by rw [e]; exact True.intro) hs he (dk_new hl hd (rel.put k rv) dd')
  · subst ey eH
    cases (show u = Value.ref b from ry)
    obtain ⟨z, hd, xs, rel, dd⟩ := dt_of I.hok e
    have hz : xs.length ≤ sizeLine := by rw [← Paired.length rel]; exact z
    have hl : (putK kvs k v).length ≤ sizeLine := by have := length_putK kvs k v; omega
    refine wpAny_setItem_heap (hsz := hz) (tupleKind_room_in1 hu) (key_of I.hok eb) dd fun h' dd' hs => h _ ?_
    obtain ⟨q, es, ep, hq, h2, h3, h4, _, h5⟩ := dd'
    refine d_write I (by rw [e]; exact True.intro) hs ⟨q, hq⟩ ⟨hl, hd, _, (rel.put k eb rv).keeps fun c ys ec => ?_, q, es, ep, hq, h2, h3, h4, h5⟩
    rw [upd_ne (ne_of ec e (fun z => nomatch z))]
    exact ec
end

section
variable {X : Cx} {pins : List (Addr × Obj)} {σ : St} {H : Hp} {s : Shared} {a : Addr} {kvs : List (Key × V)} {k : Key} {u : Value} {A : Around} {E : Value → Shared → Prop}
/-- d.pop(k[, x]), there -/
theorem d_pop {v : V} {more : List Value} {Q : Value → Shared → Prop} (I : Inv X pins σ H s) (e : H a = some (.dK kvs)) (ry : RelV (kV k) u) (l : valV kvs k = some v) (hm : more = [] ∨ ∃ x, more = [x])
    (h : ∀ w' s', Inv X pins σ (upd H a (.dK (dropK kvs k))) s' → RelV v w' → Q w' s') : wpAny (model X.prog X.w) A (call (.builtin "dict.pop") (.ref a :: u :: more)) Q E s := by
  obtain ⟨z, hd, vs, rel, dd⟩ := dk_of I.hok e
  obtain ⟨w', hw, rw'⟩ := RelO.some_of (v := v) (o := valueAt vs k) (by rw [← l]; exact rel.val k)
  have hp : (keyPart u).isSome = true := by
    cases k with
    | inl i => obtain ⟨t, q⟩ := (show ∃ t, u = Value.int i t from ry); subst q; rfl
    | inr x => obtain ⟨t, q⟩ := (show ∃ t, u = Value.str x t from ry); subst q; rfl
  have ha : argsOk "dict.pop" ⟨.ref a :: u :: more, []⟩ := by
    rcases hm with q | ⟨x, q⟩
    · subst q; exact PySem.F.args_dict_pop_2 _ _
    · subst q; exact PySem.F.args_dict_pop_3 _ _ _
  refine call_meetsIn PySem.F.slot_dict_pop dd.typeIs PySem.F.entry_dict_pop ha (meets_dict_pop_there (mixKind X.prog X.w) a (kV_is ry) more hm hp)
    ⟨vs, w', dd, by rw [← rel.length]; exact z, hw, fun h' dd' hs => h w' _ ?_ rw'⟩
  have he : ∃ q, h'.get? a = some q := let ⟨q, _, _, hq, _⟩ := dd'; ⟨q, hq⟩
  exact d_write I (by rw [e]; exact True.intro) hs he (dk_new (Nat.le_trans (dropK_le kvs k) z) hd (rel.drop k) dd')
/-- len(d) -/
theorem d_len {Q : Value → Shared → Prop} (I : Inv X pins σ H s) (e : Rd H a (.dK kvs)) (h : ∀ t s', Inv X pins σ H s' → Q (.int kvs.length t) s') : wpAny (model X.prog X.w) A (call (.builtin "len") [.ref a]) Q E s := by
  obtain ⟨z, hd, vs, rel, dd⟩ := dk_rd I.hok e
  refine call_len_dict hd dd (by rw [← rel.length]; rw [sizeLine_eq] at z; omega) ?_
  rw [← rel.length]
  exact h _ _ (I.tok _)
end


/-- y in d, y not in d -/
def tDIn (ty td : TE) : TE := fun σ H Q => ty σ H fun y H1 => td σ H1 fun x H2 => ∃ a o, x = .ref a ∧ DGet H2 a y o ∧ Q (.bl o.isSome) H2
def tDNotIn (ty td : TE) : TE := fun σ H Q => ty σ H fun y H1 => td σ H1 fun x H2 => ∃ a o, x = .ref a ∧ DGet H2 a y o ∧ Q (.bl (!o.isSome)) H2
/-- d[y] = v -/
def sDPut (td ty tv : TE) : TS := fun D σ H => tv σ H fun v H1 => td σ H1 fun x H2 => ty σ H2 fun y H3 => ∃ a H4, x = .ref a ∧ DPut H3 a y v H4 ∧ D.nx σ H4
section
variable {X : Cx} {o i e value : Expr} {pos pos' tpos : Pos} {td ty tv : TE}
theorem pc_din (hu : X.A.units + 1 < cLine) (hi : PE X i ty) (ho : PE X o td) : PC X .In i o (tDIn ty td) := by
  intro pins s σ H Q I h
  refine thn (hi pins s σ H _ I h) fun iv s1 ⟨y, H1, I1, ry, q1⟩ => thn (ho pins s1 σ H1 _ I1 q1) fun u s2 ⟨x, H2, I2, rx, a, ov, ex, g, q2⟩ => ?_
  subst ex
  obtain rfl : u = Value.ref a := rx
  exact d_in hu I2 g ry fun s3 I3 => ⟨.bl ov.isSome, H2, I3, rfl, q2⟩
theorem pc_dnotin (hu : X.A.units + 1 < cLine) (hi : PE X i ty) (ho : PE X o td) : PC X .NotIn i o (tDNotIn ty td) := by
  intro pins s σ H Q I h
  refine thn (hi pins s σ H _ I h) fun iv s1 ⟨y, H1, I1, ry, q1⟩ => thn (ho pins s1 σ H1 _ I1 q1) fun u s2 ⟨x, H2, I2, rx, a, ov, ex, g, q2⟩ => ?_
  subst ex
  obtain rfl : u = Value.ref a := rx
  exact d_notIn hu I2 g ry fun s3 I3 => ⟨.bl (!ov.isSome), H2, I3, rfl, q2⟩
theorem ps_dput (hu : X.A.units + 1 < cLine) (ho : PE X o td) (hi : PE X i ty) (hv : PE X value tv) (hs : swapsWith value (some (.Subscript o i pos')) pos.line X.env = pure false) :
    PS X (.Assign [.Subscript o i pos'] value pos) (sDPut td ty tv) := by
  intro pins s σ H D I h
  refine wpAny_Assign_Subscript (thn (hv pins s σ H _ I h) fun r s1 ⟨v, H1, I1, rv, q1⟩ => thn (ho pins s1 σ H1 _ I1 q1) fun u s2 ⟨x, H2, I2, rx, q2⟩ => thn (hi pins s2 σ H2 _ I2 q2) fun iv s3 ⟨y, H3, I3, ry, a, H4, ex, g, q3⟩ => ?_) hs
  subst ex
  obtain rfl : u = Value.ref a := rx
  exact d_setItem hu I3 g ry rv fun s4 I4 => ⟨σ, H4, I4, q3⟩
end


theorem dt_empty {P : Program} {w : World} {H : Hp} (h : Heap) (hb : sysModules < h.objs.size) : ObjOk P w H (h.push { cls := .type "dict", data := .dict #[] }) h.objs.size (.dT []) :=
  ⟨Nat.zero_le _, beq_eq_false_iff_ne.mpr (Ne.symm (Nat.ne_of_lt hb)), [], .nil, _, #[], 0, Heap.get?_push_size _ rfl, ⟨rfl, rfl, rfl⟩, rfl, rfl, List.nodup_nil⟩
def tDNewT : TE := fun _ H Q => ∀ p, H p = none → Q (.ref p) (upd H p (.dT []))
section
variable {X : Cx} {pos : Pos}
theorem pe_dnewT : PE X (.Dict [] [] pos) tDNewT := fun pins s σ H Q I h =>
  wpAny_Dict_empty ⟨.ref s.heap.objs.size, _, I.laid (a := s.heap.objs.size) (o := .dT []) (t' := s.toks) (fun _ _ q => Heap.get?_push_of_some _ q) (Nat.le_refl _) (dt_empty s.heap I.big), rfl, h _ (I.hok.fresh (Nat.le_refl _))⟩
end

/-! ### methods -/
/-- a method call o.m(e) of a built-in, with one argument: what must be seen of the text -/
structure M1 (X : Cx) (o : Expr) (m : Str) (apos : Pos) (e : Expr) (cpos : Pos) : Prop where
  base : attributeBase o m X.env (eval o X.env) = eval o X.env
  few : ((backTo cpos (starEach [e] X.env)).all (fun x => !x.1) && (backToKw cpos (keywordEach [] X.env)).all (fun x => x.1.isSome)
    && decide (([e] : List Expr).length + ([] : List Keyword).length + (if ([] : List Keyword).isEmpty then 0 else 1) < 30)) = true
  line : (apos.endLine == cpos.line) = true
  trees : backTo cpos (starEach [e] X.env) = [(false, eval e X.env)]
structure M2 (X : Cx) (o : Expr) (m : Str) (apos : Pos) (e f : Expr) (cpos : Pos) : Prop where
  base : attributeBase o m X.env (eval o X.env) = eval o X.env
  few : ((backTo cpos (starEach [e, f] X.env)).all (fun x => !x.1) && (backToKw cpos (keywordEach [] X.env)).all (fun x => x.1.isSome)
    && decide (([e, f] : List Expr).length + ([] : List Keyword).length + (if ([] : List Keyword).isEmpty then 0 else 1) < 30)) = true
  line : (apos.endLine == cpos.line) = true
  trees : backTo cpos (starEach [e, f] X.env) = [(false, eval e X.env), (false, eval f X.env)]

/-- a is a dict, whatever its keys -/
def IsD (H : Hp) (a : Addr) : Prop := (∃ kvs, Rd H a (.dK kvs)) ∨ ∃ kvs, Rd H a (.dT kvs)
theorem isD_at {X : Cx} {pins : List (Addr × Obj)} {σ : St} {H : Hp} {s : Shared} {a : Addr} (I : Inv X pins σ H s) (d : IsD H a) :
    s.TypeIs (.ref a) "dict" ∧ (∀ b, Value.ref a = .ref b → ∃ ob, s.heap.get? b = some ob ∧ ob.dict = none) ∧ (a == sysModules) = false := by
  rcases d with ⟨kvs, e⟩ | ⟨kvs, e⟩
  · obtain ⟨_, hd, vs, _, dd⟩ := dk_rd I.hok e
    refine ⟨dd.typeIs, fun b q => ?_, hd⟩
    cases q
    obtain ⟨ob, _, _, h1, h2, _⟩ := dd
    exact ⟨ob, h1, h2.2.1⟩
  · obtain ⟨_, hd, xs, _, dd⟩ := dt_rd I.hok e
    refine ⟨dd.typeIs, fun b q => ?_, hd⟩
    cases q
    obtain ⟨ob, _, _, h1, h2, _⟩ := dd
    exact ⟨ob, h1, h2.2.1⟩

section
variable {X : Cx} {pins : List (Addr × Obj)} {σ : St} {H : Hp} {s : Shared} {a : Addr} {y d : V} {u r : Value} {o : Option V} {A : Around} {E : Value → Shared → Prop}
/-- d.get(y, x) -/
theorem d_get2 {Q : Value → Shared → Prop} (hu : A.units + 1 < cLine) (I : Inv X pins σ H s) (g : DGet H a y o) (ry : RelV y u) (rd : RelV d r) (h : ∀ w' s', Inv X pins σ H s' → RelV (o.getD d) w' → Q w' s') :
    wpAny (model X.prog X.w) A (call (.builtin "dict.get") [.ref a, u, r]) Q E s := by
  rcases g with ⟨kvs, k, e, ey, l⟩ | ⟨kvs, k, b, e, ey, eb, l⟩
  · subst ey
    obtain ⟨z, hd, vs, rel, dd⟩ := dk_rd I.hok e
    refine call_meetsIn PySem.F.slot_dict_get dd.typeIs PySem.F.entry_dict_get (PySem.F.args_dict_get_3 _ _ _) (meets_dict_get_default (mixKind X.prog X.w) a (kV_is ry) hd r) ⟨_, dd.mapOf, h _ _ (I.tok _) ?_⟩
    rw [l]
    exact (rel.val k).getD rd
  · subst ey
    cases (show u = Value.ref b from ry)
    obtain ⟨z, hd, xs, rel, dd⟩ := dt_rd I.hok e
    refine call_meetsIn PySem.F.slot_dict_get dd.typeIs PySem.F.entry_dict_get (PySem.F.args_dict_get_3 _ _ _) (meetsH_dict_get_default (tupleKind (mixKind X.prog X.w)) a b hd r) ⟨tupleKind_room_in1 hu, k, xs, key_of I.hok eb, dd, h _ _ (I.tok _) ?_⟩
    rw [l]
    exact (rel.val k).getD rd
end

def tDGet2 (td ty tx : TE) : TE := fun σ H Q => td σ H fun x H1 => ∃ a, x = .ref a ∧ IsD H1 a ∧ ty σ H1 fun y H2 => tx σ H2 fun z H3 => ∃ o, DGet H3 a y o ∧ Q (o.getD z) H3
section
variable {X : Cx} {o e f : Expr} {apos cpos : Pos} {td ty tx : TE}
theorem pe_dget2 (hu : X.A.units + 1 < cLine) (ho : PE X o td) (he : PE X e ty) (hf : PE X f tx) (m : M2 X o "get" apos e f cpos) : PE X (.Call (.Attribute o "get" apos) [e, f] [] cpos) (tDGet2 td ty tx) := by
  intro pins s σ H Q I h
  refine wpAny_Call_method m.base m.few m.line PySem.F.plainAttrs_dict PySem.F.slot_dict_get PySem.F.type_dict_get (thn (ho pins s σ H _ I h) fun u s1 ⟨x, H1, I1, rx, a, ex, d, q1⟩ => ?_)
  subst ex
  obtain rfl : u = Value.ref a := rx
  obtain ⟨t1, t2, _⟩ := isD_at I1 d
  refine ⟨t1, t2, ?_⟩
  rw [m.trees]
  refine Calls.callWith_builtin rfl (Calls.evalArgs_plain (Calls.spliced_cons (thn (he pins s1 σ H1 _ I1 q1) fun iv s2 ⟨y, H2, I2, ry, q2⟩ =>
    Calls.spliced_cons (thn (hf pins s2 σ H2 _ I2 q2) fun fv s3 ⟨z, H3, I3, rz, ov, g, q3⟩ => Calls.spliced_nil ?_))))
  exact d_get2 hu I3 g ry rz fun w' s4 I4 rw' => ⟨_, H3, I4, rw', q3⟩
end

/-! ### dict(d): a copy -/
section
variable {X : Cx} {pins : List (Addr × Obj)} {σ : St} {H : Hp} {s : Shared} {a : Addr} {kvs : List (Key × V)} {A : Around} {E : Value → Shared → Prop}
end


section
variable {X : Cx} {pins : List (Addr × Obj)} {σ : St} {H : Hp} {s : Shared} {a : Addr} {y : V} {u : Value} {A : Around} {E : Value → Shared → Prop}
end
end L2

namespace Att
open PySem PySem.W PySem.Calls PyProof.Rows

/-! ### the script -/
theorem ints_of_wellAll {P : Params} {h : Heap} : ∀ (ns : List Int) (vs : List Value), WellAll P h vs (ns.map WData.int) → IntsAre vs ns := by
  intro ns
  induction ns with
  | nil =>
    intro vs w
    rw [List.map_nil] at w
    cases w
    exact .nil
  | cons n ns ih =>
    intro vs w
    rw [List.map_cons] at w
    cases w with
    | cons a b =>
      cases a
      exact .cons _ _ (ih _ b)

theorem script_of {l : OpenLaw} {n : Nat} (hn : l.most = some n) {P : Params} {h : Heap} {args : List WData} {vals : List Value}
    (hpre : l.row.toRowW.claim.pre args = true) (hwl : WellAll P h vals args) :
    ∃ a vs ns, vals = [Value.ref a] ∧ args = [WData.list (ns.map WData.int)] ∧ h.get? a = some { cls := .type "list", data := .seq vs.toArray } ∧ IntsAre vs ns ∧ ns.length ≤ n := by
  have hsh : WShape.hasAll [] args [.list .int] = true := (pre_splitW hpre).1
  have hc : l.pre.holds [] { args := args } = true := (pre_splitW hpre).2
  obtain ⟨d, r, rfl, h1, h2⟩ := hasAllW_cons hsh
  obtain rfl := hasAllW_nil h2
  obtain ⟨xs, rfl, h3⟩ := hasW_list h1
  obtain ⟨ns, rfl⟩ := items_int h3
  have hlen : ns.length ≤ n := by
    unfold OpenLaw.pre at hc
    have h4 : (WTm.not (.lt (.lit (.int (n : Int))) (.len (.arg 0)))).holds [] { args := [.list (ns.map .int)] } = true := by
      have h4 := (holds_andW hc).1
      rw [hn] at h4
      exact h4
    have h5 := condW_of h4 (w_not (w_lt w_lit (w_len_list (w_arg rfl))))
    rw [List.length_map] at h5
    refine Nat.le_of_not_lt fun q => ?_
    have q' : (n : Int) < ((ns.length : Nat) : Int) := by omega
    first
      | (rw [decide_eq_true q'] at h5; exact absurd h5 (by decide))
      | (simp at h5; omega)
  cases hwl with
  | cons w1 w2 =>
    cases w2
    cases w1 with
    | list ho hall => exact ⟨_, _, ns, rfl, rfl, ho, ints_of_wellAll ns _ hall, hlen⟩

theorem post_true (l : OpenLaw) (args : List WData) : l.row.toRowW.claim.post args (.bool true) args = true :=
  postW_of (r := l.row.toRowW) (X := (true == true))
    (show WShape.has [] (.bool true) .bool = true by first | rfl | decide | simp [WShape.has, WShape.arms, WShape.armsAll])
    (show (WTm.eq .res (.lit (.bool true))).value [] { args := args, res := some (.bool true), after := args } = some (.bool (true == true)) from w_eq_bool (w_res rfl) w_lit) rfl

/-- the same from a codeAny of the CALL (for a layer whose function contracts speak of calls) -/
theorem attach_call {l : OpenLaw} {n : Nat} {q : Program} {loose : List Str} {XP : (Str → Option Value) → Heap → Prop} {YP : World → Heap → Prop} {d : DefRec}
    (hn : l.most = some n) (hdf : d.params.defaults = [])
    (call : ∀ (w : World) (s₀ s₁ : Shared) (mg mb : Str → Option Value) (fa : Addr) (o : Obj) (pm cd doc : Value) (a : Addr) (vs : List Value) (ns : List Int),
      Ground q loose [] XP w s₀ mg mb s₁.heap → YP w s₁.heap →
      s₁.heap.get? fa = some o → o.data = .func (docDef d.name d.params d.body d.scope pm cd doc) → s₁.heap.CodeRec cd d.name → mg d.name = some (.ref fa) →
      s₁.heap.get? a = some { cls := .type "list", data := .seq vs.toArray } → IntsAre vs ns → ns.length ≤ n → s₁.gens = #[] →
      codeAny (model l.prog w) callerA (.call (.ref fa) ⟨[.ref a], []⟩) (fun r s' => r = .ok (.ret (.bool true)) ∧ OldK s₁.heap s'.heap ∧ s'.os = s₁.os ∧ AllBare s'.gens) s₁) :
    WalkO q loose XP YP l.row.toRowW d [] (fun f vs => PySem.call f vs) := by
  intro w s₀ s₁ mg mb G Y fa o pm cd doc dV kV ho hd hcd hD hmg hg args vals as hpre hlay hrd hwl hlo
  obtain rfl : dV = .none := Dflts.none hD hdf
  obtain rfl : kV = .none := Dflts.noKw hD
  obtain ⟨a, vs, ns, rfl, rfl, hobj, hints, hlen⟩ := script_of hn hpre hwl
  refine enter_call (codeAny_mono (call w s₀ s₁ mg mb fa o pm cd doc a vs ns G Y ho (fd_plain hd) hcd hmg hobj hints hlen hg) fun r s' hq => ?_)
  obtain ⟨rfl, h2, h3, h4⟩ := hq
  exact ⟨.inl ⟨.bool true, .bool true, [], rfl, fun _ => rfl, .bool true, post_true l _, fun _ => ⟨List.Pairwise.nil, fun _ hm => (nomatch hm)⟩⟩, h2, h3, h4⟩

/-! ### rules over ANY heap (no ledger) from facts about the written part K: the library's own take a ledger (News) for what they write -/
section
variable {prog : Program} {w : World} {A : Around} {E : Value → Shared → Prop} {s : Shared} {K : Frag}

def ledger (h : Heap) (L d : Addr) : List (Addr × Obj) := (List.range h.objs.size).filterMap fun a => if a = L ∨ a = d then none else (h.get? a).map fun o => (a, o)
end
end Att

namespace L2
open PySem PySem.Spec PyProof.Rows

theorem vals_ints : ∀ {vs : List Value} {ns : List Int}, IntsAre vs ns → Vals (ns.map V.int) vs
  | _, _, .nil => .nil
  | _, _, .cons n t h => .cons ⟨t, rfl⟩ (vals_ints h)

/-- nothing is tracked but the script, known to the object (or it is an object of the module) -/
def Only (H : Hp) : Prop := ∀ b, H b = none ∨ ∃ o xs, H b = some (.frz o (.lst xs))

/-- THE HEAD: the law's promise, at the heap behind the top. F, the promise of the law's def, may use that base is part of the heap (so K.In base, base.Ns mainGlobals mg stand in Mod) -/
theorem law_call {P : Program} {w : World} {K : PySem.W.Frag} {mg mb : Str → Option Value} {CX : CXT} {k : Nat} {fa a : Addr} {fd : FuncData} {x : Str} {sp : Sp} {s₁ : Shared} {vs : List Value} {ns : List Int}
    (KX : K.In s₁.heap) (hns : s₁.heap.Ns mainGlobals mg) (hb : s₁.heap.Ns builtinsNs mb) (hbb : ∀ x : Str, x ≠ "__name__" → mb x = bootBuiltins x) (hlim : s₁.heap.NoLimit) (hg : s₁.gens = #[])
    (ha : s₁.heap.get? a = some { cls := .type "list", data := .seq vs.toArray }) (hi : IntsAre vs ns) (hl : ns.length ≤ sizeLine) (hr : Room k callerA)
    (F : ∀ base : Heap, K.In base → base.Ns mainGlobals mg → FnOk P w K mg base CX k fa fd [x] sp) (hbind : ∀ (s : Shared) (u : Value), BindsTo s fd ⟨[u], []⟩ [(x, u)])
    (hsp : ∀ H : Hp, Only H → SqL K H a (ns.map V.int) → sp [.ref a] H (fun v _ => v = .bl true) fun _ _ _ => False)
    (hCX : ∀ H e s', CX [] H s₁ (fun _ _ _ => False) e s' → False) :
    codeAny (model P w) callerA (.call (.ref fa) ⟨[.ref a], []⟩) (fun r s' => r = .ok (.ret (.bool true)) ∧ OldK s₁.heap s'.heap ∧ s'.os = s₁.os ∧ AllBare s'.gens) s₁ := by
  have rv := vals_ints hi
  have lenV := hi.length
  -- from an abstract heap in which nothing but the script may be tracked
  have core : ∀ H : Hp, Only H → SqL K H a (ns.map V.int) → HOk P w H s₁.heap → (∀ b, H b ≠ none → b = a) → (H a ≠ none → K.lookup a = none) →
      codeAny (model P w) callerA (.call (.ref fa) ⟨[.ref a], []⟩) (fun r s' => r = .ok (.ret (.bool true)) ∧ OldK s₁.heap s'.heap ∧ s'.os = s₁.os ∧ AllBare s'.gens) s₁ := by
    intro H hO hS hok hA hK
    have base_of : ∀ {b : Addr} {o : Obj}, s₁.heap.get? b = some o → H b = none → (hidT s₁.heap H).get? b = some o := fun e n => hidT_get e n
    have noA : ∀ {b : Addr} {o : Obj} {es : Array DictEntry} {ep : Nat}, s₁.heap.get? b = some o → o.data = .dict es ep → H b = none := fun {b o es ep} e d => by
      cases q : H b with
      | none => rfl
      | some u =>
        have e' : b = a := hA b (by rw [q]; simp)
        subst e'
        rw [ha] at e; cases e
        have d' : Data.seq vs.toArray _ = Data.dict es ep := d
        cases d'
    have nsK : ∀ {b : Addr} {m : Str → Option Value}, s₁.heap.Ns b m → (hidT s₁.heap H).Ns b m := fun {b m} ⟨o, es, ep, e, d, r⟩ => ⟨o, es, ep, base_of e (noA e d), d, r⟩
    have hKb : K.In (hidT s₁.heap H) := fun b o e => base_of (KX b o e) (by
      cases q : H b with
      | none => rfl
      | some u =>
        have e' : b = a := hA b (by rw [q]; simp)
        subst e'
        rw [hK (by rw [q]; simp)] at e; cases e)
    have hM : Mod K mg (hidT s₁.heap H) := ⟨hKb, nsK hns, ⟨mb, nsK hb, hbb⟩, let ⟨mc, h1, h2⟩ := hlim; ⟨mc, nsK h1, h2⟩⟩
    have e0 : Env0 P w K mg (hidT s₁.heap H) callerA [] s₁ H := ⟨rfl, hM, fun b o e => of_hidT e, Nat.le_of_eq (hidT_size _ _), trivial, fun b hb => absurd (show b ∈ ([] : List Addr) from hb) (by simp), hok, .of_eq hg⟩
    refine codeAny_mono ((F _ hKb (nsK hns)).run callerA [] s₁ H ⟨[.ref a], []⟩ [.ref a] [.ref a] _ _ hr e0 (hbind s₁ (.ref a)) (.cons rfl .nil) (hsp H hO hS)) fun r s' h => ?_
    cases r with
    | error e => exact (hCX H e s' h).elim
    | ok fl =>
      cases fl with
      | next => exact False.elim h
      | brk => exact False.elim h
      | cont => exact False.elim h
      | ret u =>
        obtain ⟨v, H', os, bare, un, hok', r', q⟩ := h
        have q' : v = .bl true := q
        subst q'
        obtain rfl : u = Value.bool true := r'
        refine ⟨rfl, OldK.of_keep fun b o e => ?_, os, bare⟩
        cases q : H b with
        | none => exact un.keep b o e q (by intro z; exact absurd (show b ∈ ([] : List Addr) from z) (by simp)) (by simp)
        | some u =>
          rcases hO b with z | ⟨ob, xs, z⟩
          · rw [q] at z; cases z
          · have z2 := un.frzs b ob _ z
            obtain ⟨e1, _⟩ := hok b _ z
            obtain ⟨e2, _⟩ := hok' b _ z2
            rw [e] at e1; cases e1
            exact e2
  cases hk : K.lookup a with
  | some o =>
    -- the script is one of the module's own objects
    have e := KX a o hk
    rw [ha] at e
    cases e
    refine core (fun _ => none) (fun _ => .inl rfl) (.inr ⟨_, vs.toArray, _, hk, rfl, rfl, rfl, by rw [List.size_toArray, lenV]; exact hl, by simpa using rv⟩) (fun b u z => by have z' : (none : Option HO) = some u := z; cases z') (fun b z => absurd rfl z) fun z => absurd rfl z
  | none =>
    refine core (fun b => if b = a then some (.frz { cls := .type "list", data := .seq vs.toArray } (.lst (ns.map V.int))) else none) (fun b => ?_) (.inl (.inr ⟨{ cls := .type "list", data := .seq vs.toArray }, if_pos rfl⟩)) (fun b u z => ?_) (fun b z => ?_) fun _ => hk
    · by_cases hb : b = a
      · exact .inr ⟨_, _, if_pos hb⟩
      · exact .inl (if_neg hb)
    · by_cases hb : b = a
      · have z' := (if_pos hb).symm.trans z
        cases z'
        subst hb
        exact ⟨ha, by rw [List.length_map]; exact hl, vs, _, rv, ha⟩
      · have z' := (if_neg hb).symm.trans z
        cases z'
    · by_cases hb : b = a
      · exact hb
      · exact absurd (if_neg hb) z
end L2

namespace L2
open PySem PySem.Spec PyProof.Rows

abbrev KOf {K : PySem.W.Frag} {h : Heap} (_ : K.In h) : PySem.W.Frag := K

/-- the goal that k_head leaves (case hc), from the law's promise. F gives the function object fd (K's own) once, then the promise over every base -/
theorem walk_of {l : PySem.W.OpenLaw} {n k : Nat} {q : Program} {loose : List Str} {XP : (Str → Option Value) → Heap → Prop} {YP : World → Heap → Prop} {d : DefRec} {K : Params → PySem.W.Frag} {CX : World → CXT} {sp : World → Sp} {x : Str}
    (hn : l.most = some n) (hn2 : n ≤ sizeLine) (hdf : d.params.defaults = []) (hr : Room k callerA)
    (hY : ∀ (w : World) (h : Heap), YP w h → (K w.params).In h)
    (F : ∀ (w : World) (mg : Str → Option Value) (fa : Addr) (h : Heap), (K w.params).In h → h.Ns mainGlobals mg → mg d.name = some (.ref fa) →
      ∃ fd : FuncData, (∀ (s : Shared) (u : Value), BindsTo s fd ⟨[u], []⟩ [(x, u)]) ∧
        ∀ base : Heap, (K w.params).In base → base.Ns mainGlobals mg → FnOk l.prog w (K w.params) mg base (CX w) k fa fd [x] (sp w))
    (hsp : ∀ (w : World) (H : Hp) (a : Addr) (ns : List Int), ns.length ≤ n → Only H → SqL (K w.params) H a (ns.map V.int) → sp w [.ref a] H (fun v _ => v = .bl true) fun _ _ _ => False)
    (hCX : ∀ (w : World) (H : Hp) (s : Shared) (e : Value) (s' : Shared), CX w [] H s (fun _ _ _ => False) e s' → False) :
    PySem.W.WalkO q loose XP YP l.row.toRowW d [] (fun f vs => PySem.call f vs) := by
  refine Att.attach_call hn hdf fun w s₀ s₁ mg mb fa o pm cd doc a vs ns G Y ho hd hcd hmg hobj hints hlen hg => ?_
  have KX := hY w _ Y
  obtain ⟨fd, hb, hF⟩ := F w mg fa _ KX G.T.g hmg
  exact law_call KX G.T.g G.T.b G.T.builtins G.T.nolimit hg hobj hints (Nat.le_trans hlen hn2) hr hF hb (fun H hO hS => hsp w H a ns hlen hO hS) fun H e s' => hCX w H s₁ e s'
end L2

/- THE LAST THEOREM (shape; LID, My.* are yours):
   My.Adr: a structure of the addresses that your layer names (classes, functions); My.Txt K t: a structure (Prop) of the equations over K;
   My.txt_mk : {K} {implicit addresses ..} (e1 : nsIn K mainGlobals "law" = some (some (.ref f))) (e2 : K.lookup f = some ⟨oc, od, .func (fnOf "law" "law" params body scope dV kV doc pm an cdv ct), sl⟩) (e3 : codeIn K cdv "law" = true) .. : ∃ t, My.Txt K t

set_option maxRecDepth 100000 in
set_option maxHeartbeats 0 in
theorem PySem.Challenge.cw_LID_holds : PySem.Challenge.rw_LID.Holds := by
  w_on; o_law; k_head; (case hw => w_witness2)
  k_fill
  refine L2.walk_of (l := PySem.Challenge.rw_LID) (n := 63) (k := 40) (x := "script") (CX := fun w => ..) (sp := fun _ => My.sp_law) rfl (by decide) rfl ⟨rfl, by decide, by decide⟩ (fun w h Y => PySem.W.kIn_of Y) ?F ?S ?C
  case F =>
    intro w mg fa h KX G hmg
    have T : ∃ t, My.Txt (L2.KOf KX) t := by
      dsimp only [L2.KOf]                          -- K must stand as «<heap const> w.params» for k_is
      refine' My.txt_mk ?e1 ?e2 ?e3 ..
      (case e1 => PySem.W.k_is)                    -- in the order: a name -> its address -> its object -> its parts
      (case e2 => PySem.W.k_is)
      ..
    obtain ⟨t, T⟩ := T
    have e0 := hmg.symm.trans (PySem.W.mg_of KX G T.law)
    cases e0                                       -- fa is the law's own address
    exact ⟨_, fun s u => .of_eq rfl, fun base kb nb => My.law_fn T kb nb⟩     -- if «.of_eq rfl» comes too early: refine' ⟨_, ?b, fun base kb nb => My.law_fn T kb nb⟩; exact fun s u => .of_eq rfl
  case S => exact fun w H a ns hl hO hS => ..
  case C => exact ..
(the tactic k_is has no namespace: write k_is) -/

/-! SHORT WORDS over the layer: a def of the text, its body, what a loop and a test want. -/
namespace L2
open PySem PySem.Spec PyProof.Rows

/-! ### the text by places -/
/-- the j-th statement of a class's body -/
def inClass (s : Stmt) (j : Nat) : Stmt := match s with
  | .ClassDef _ _ _ body _ _ _ _ _ _ _ => body.getD j (.Pass ⟨0, 0, 0, 0⟩)
  | _ => .Pass ⟨0, 0, 0, 0⟩
def defArgs (s : Stmt) : Arguments := match s with
  | .FunctionDef _ a _ _ _ _ _ _ _ _ => a
  | _ => { posonlyargs := [], args := [], vararg := none, kwonlyargs := [], kw_defaults := [], kwarg := none, defaults := [] }
def defBody (s : Stmt) : List Stmt := match s with
  | .FunctionDef _ _ b _ _ _ _ _ _ _ => b
  | _ => []
def defScope (s : Stmt) : Scope := match s with
  | .FunctionDef _ _ _ _ _ _ sc _ _ _ => sc
  | _ => { kind := .function, names := [], isGenerator := false, isCoroutine := false }

/-! ### no exception leaves a def -/
abbrev CX0 : CXT := fun _ _ _ _ _ _ => False
abbrev E0 : XK := fun _ _ _ => False
theorem pass0 {X : Cx} : Passes CX0 X E0 := fun _ _ _ _ _ _ _ h => h.elim

/-! ### a def (or method) of the text as it stands behind the top -/
structure Fun (K : PySem.W.Frag) (x qual : Str) (st : Stmt) (f : Addr) (fd : FuncData) : Prop where
  ex : ∃ (oc : Value) (od : Option Addr) (kV doc pm : Value) (an : Option Addr) (cdv ct : Value) (osl : Array (Option Value)),
    fd = PySem.W.fnOf x qual (defArgs st) (defBody st) (defScope st) .none kV doc pm an cdv ct ∧ K.lookup f = some ⟨oc, od, .func fd, osl⟩ ∧ PySem.W.codeIn K cdv qual = true
  kp : PySem.W.keepIn K (.ref f) = true
section
variable {P : Program} {w : World} {K : PySem.W.Frag} {mg : Str → Option Value} {base : Heap}
/-- THE RULE for a def: its body as a term of rules, and the reading of that term -/
theorem Fun.ok {x qual : Str} {st : Stmt} {f : Addr} {fd : FuncData} {N ps : List Str} {k : Nat} {sp : Sp} (F : Fun K x qual st f fd) (S : FnScope N ps (defScope st)) (len : ∀ vs H Q E, sp vs H Q E → vs.length = ps.length)
    (hbody : ∀ (cdv : Value) (A : Around) (outer : List Env) (s : Shared) (H : Hp) (vs : List V) (Q : VK) (E : XK), Room k (A.deeper (envOfC qual (defScope st) s.heap.objs.size f cdv)) → sp vs H Q E →
      ∃ t, PSs (cxOf CX0 P w K mg base N qual (defScope st) f cdv A outer s H E).nox (defBody st) t ∧ t { nx := fun _ H' => Q .non H', rt := Q } (start N vs) H) : FnOk P w K mg base CX0 (k + 1) f fd ps sp := by
  obtain ⟨oc, od, kV, doc, pm, an, cdv, ct, osl, rfl, lk, hcd⟩ := F.ex
  refine fn_of lk hcd S len fun A outer s H vs Q E hr hsp => ?_
  obtain ⟨t, h, q⟩ := hbody cdv A outer s H vs Q E hr hsp
  exact ⟨t, h.nox, q⟩
/-- how its arguments bind (no defaults): h is «fun _ _ _ _ _ _ us hl => match us, hl with | [_, _], _ => rfl», one _ a parameter -/
theorem Fun.binds {x qual : Str} {st : Stmt} {f : Addr} {fd : FuncData} {ps : List Str} (F : Fun K x qual st f fd)
    (h : ∀ (kV doc pm : Value) (an : Option Addr) (cdv ct : Value) (us : List Value), us.length = ps.length → bindArgs (PySem.W.fnOf x qual (defArgs st) (defBody st) (defScope st) .none kV doc pm an cdv ct) ⟨us, []⟩ = pure (ps.zip us)) : Binds K fd ps [] := by
  obtain ⟨oc, od, kV, doc, pm, an, cdv, ct, osl, rfl, lk, hcd⟩ := F.ex
  exact .all (h kV doc pm an cdv ct)
theorem fun_mk {x qual : Str} {st : Stmt} {f : Addr} {oc : Value} {od an : Option Addr} {osl : Array (Option Value)} {kV doc pm cdv ct : Value} (l : K.lookup f = some ⟨oc, od, .func (PySem.W.fnOf x qual (defArgs st) (defBody st) (defScope st) .none kV doc pm an cdv ct), osl⟩)
    (c : PySem.W.codeIn K cdv qual = true) (k : PySem.W.keepIn K (.ref f) = true) : Fun K x qual st f (PySem.W.fnOf x qual (defArgs st) (defBody st) (defScope st) .none kV doc pm an cdv ct) := ⟨⟨oc, od, kV, doc, pm, an, cdv, ct, osl, rfl, l, c⟩, k⟩
end
theorem hu_of {A : Around} {k : Nat} (hr : Room k A) : A.units + 1 < cLine := Nat.lt_of_le_of_lt (Nat.add_le_add_left (by decide : 1 ≤ 64) _) hr.units
/-! ### expressions in short: the name that stands in the i-th slot -/
section
variable {X : Cx}
theorem pv (i : Nat) {x : Str} {pos : Pos} (hN : X.N[i]? = some x := by rfl) (hv : Vis X.env.scope x := by first | exact Or.inl rfl | exact Or.inr (Or.inl rfl) | exact Or.inr (Or.inr rfl)) (hd : (x == ("__debug__" : Str)) = false := by decide)
    (hcd : (x == ("__classdict__" : Str)) = false := by decide) : PE X (.Name x pos) (tVar i) := pe_var hN hv hd hcd
end

/-! ### tests -/
theorem iteF {A B : Prop} (h : B) : if false = true then A else B := by
  rw [if_neg Bool.false_ne_true]
  exact h
theorem iteT {A B : Prop} (h : A) : if true = true then A else B := by
  rw [if_pos rfl]
  exact h
/-! ### heaps -/
/-- all that was tracked is as it was -/
def Same (H H' : Hp) : Prop := ∀ b o, H b = some o → H' b = some o
theorem Same.refl (H : Hp) : Same H H := fun _ _ h => h
theorem Same.trans {H H1 H2 : Hp} (a : Same H H1) (b : Same H1 H2) : Same H H2 := fun c o h => b c o (a c o h)
theorem Same.seq {K : PySem.W.Frag} {H H' : Hp} {a : Addr} {xs : List V} (e : Same H H') (h : SqL K H a xs) : SqL K H' a xs := by
  rcases h with (h | ⟨o, h⟩) | h
  · exact .inl (.inl (e _ _ h))
  · exact .inl (.inr ⟨o, e _ _ h⟩)
  · exact .inr h

end L2
namespace L2
open PySem PySem.Spec PyProof.Rows
section
variable {X : Cx}
end
/-! ### a dict's pairs: keys that differ -/
section
variable {κ : Type} [DecidableEq κ]
end
end L2
set_option Elab.async false
set_option linter.all false
set_option maxRecDepth 100000
set_option genSizeOf false
/-! A LIST COMPREHENSION with one generator, over the layer. -/
namespace L2
open PySem PySem.Spec PyProof.Rows

/-- the closure's cells -/
def clos (cells : List (Str × Addr)) : List (Str × NameKind) → List (Str × Addr) → List (Str × Addr)
  | [], acc => acc
  | (n, k) :: r, acc => clos cells r (if k == .free then (n, (cells.lookup n).getD 0) :: acc else acc)
theorem clos_run {env : Env} : ∀ (names : List (Str × NameKind)) (acc : List (Str × Addr)), (∀ y ∈ names, y.2 = .free → ∃ c, env.cells.lookup y.1 = some c) →
    (forIn names acc (fun (x : Str × NameKind) (r : List (Str × Addr)) => if (x.2 == NameKind.free) = true then (do let a ← cellOf env x.1; pure (ForInStep.yield ((x.1, a) :: r))) else pure (ForInStep.yield r)) : Sem (List (Str × Addr))) = pure (clos env.cells names acc)
  | [], acc, _ => rfl
  | (n, k) :: r, acc, h => by
    rw [List.forIn_cons]
    have ih := fun a => clos_run r a fun y hy => h y (List.mem_cons_of_mem _ hy)
    cases hk : (k == NameKind.free) with
    | true =>
      have hk' : k = .free := by cases k <;> first | rfl | exact absurd hk (by decide)
      obtain ⟨c, hc⟩ := h (n, k) List.mem_cons_self hk'
      have hc' : env.cells.lookup n = some c := hc
      have e : cellOf env n = pure c := by unfold cellOf; rw [hc']
      dsimp only
      rw [if_pos rfl, e]
      show (forIn r ((n, c) :: acc) _ : Sem _) = _
      rw [ih]
      conv => rhs; unfold clos
      rw [if_pos hk, hc']
      rfl
    | false =>
      dsimp only
      rw [if_neg (by decide)]
      show (forIn r acc _ : Sem _) = _
      rw [ih]
      conv => rhs; unfold clos
      rw [if_neg (by rw [hk]; decide)]
theorem closure_of {scope : Scope} {env : Env} (h : ∀ y ∈ scope.names, y.2 = .free → ∃ c, env.cells.lookup y.1 = some c) : closureFor scope env = pure (clos env.cells scope.names []) := by
  have e := clos_run scope.names [] h
  simp only [closureFor]
  rw [e]
  rfl
theorem clos_in {cells : List (Str × Addr)} : ∀ {names : List (Str × NameKind)} {acc : List (Str × Addr)} {x : Str} {c : Addr}, (∀ y ∈ names, y.2 = .free → ∃ c, cells.lookup y.1 = some c) → (∀ x c, acc.lookup x = some c → cells.lookup x = some c) →
    (clos cells names acc).lookup x = some c → cells.lookup x = some c
  | [], acc, x, c, _, ha, h => ha x c h
  | (n, k) :: r, acc, x, c, hn, ha, h => by
    unfold clos at h
    refine clos_in (fun y hy => hn y (List.mem_cons_of_mem _ hy)) (fun y d hy => ?_) h
    split at hy
    · rename_i hk
      have hk' : k = .free := by cases k <;> first | rfl | exact absurd hk (by decide)
      obtain ⟨c', hc⟩ := hn (n, k) List.mem_cons_self hk'
      have hc' : cells.lookup n = some c' := hc
      rw [List.lookup_cons] at hy
      cases e : (y == n) with
      | true =>
        rw [e] at hy
        have ey : y = n := by simpa using e
        subst ey
        rw [hc'] at hy ⊢
        exact hy
      | false =>
        rw [e] at hy
        exact ha y d hy
    · exact ha y d hy
theorem clos_acc {cells : List (Str × Addr)} : ∀ {names : List (Str × NameKind)} {acc : List (Str × Addr)} {x : Str}, (∃ c, acc.lookup x = some c) → ∃ c, (clos cells names acc).lookup x = some c
  | [], _, _, h => h
  | (n, k) :: r, acc, x, h => by
    unfold clos
    refine clos_acc ?_
    split
    · rw [List.lookup_cons]
      cases (x == n) with
      | true => exact ⟨_, rfl⟩
      | false => exact h
    · exact h
theorem clos_has {cells : List (Str × Addr)} : ∀ {names : List (Str × NameKind)} {acc : List (Str × Addr)} {x : Str}, (x, NameKind.free) ∈ names → ∃ c, (clos cells names acc).lookup x = some c
  | [], _, _, h => by cases h
  | (n, k) :: r, acc, x, h => by
    unfold clos
    rcases List.mem_cons.mp h with e | e
    · cases e
      refine clos_acc ?_
      rw [if_pos (by decide), List.lookup_cons]
      simp
    · exact clos_has e

/-- the context of a comprehension's block -/
def cxComp (X : Cx) (N : List Str) (scope : Scope) (cl : List (Str × Addr)) (C : Addr) (fp : List Addr) (s : Shared) (H : Hp) : Cx :=
  { X with N := N, s₀ := s, H₀ := H, env := compEnvC scope cl C X.env, outer := X.stack, stack := X.stack, ex := fp, fn := fun _ => false, pn := [], xe := fun _ _ => False }

/-- the block's names: its own (none) and the ones of the def about it (their slots there) -/
def inner (μ : List (Option Nat)) (σ : St) : St := μ.map fun o => o.bind fun j => (σ[j]?).join
def muOk (oN : List Str) (osc : Scope) (N : List Str) (isc : Scope) (μ : List (Option Nat)) : Bool :=
  decide (μ.length = N.length) && (μ.zip N).all fun (o, x) => match o with
    | none => true
    | some j => decide (oN[j]? = some x) && decide (osc.names.lookup x = some .cell) && (decide (isc.names.lookup x = some .cell) || decide (isc.names.lookup x = some .free))
theorem muOk.get {oN N : List Str} {osc isc : Scope} {μ : List (Option Nat)} (h : muOk oN osc N isc μ = true) {i j : Nat} {x : Str} (h1 : μ[i]? = some (some j)) (h2 : N[i]? = some x) :
    oN[j]? = some x ∧ osc.names.lookup x = some .cell ∧ (isc.names.lookup x = some .cell ∨ isc.names.lookup x = some .free) := by
  unfold muOk at h
  rw [Bool.and_eq_true] at h
  have hz : (μ.zip N)[i]? = some (some j, x) := by rw [List.getElem?_zip_eq_some]; exact ⟨h1, h2⟩
  have q := List.all_eq_true.mp h.2 _ (List.mem_of_getElem? hz)
  simp only [Bool.and_eq_true, Bool.or_eq_true, decide_eq_true_eq] at q
  exact ⟨q.1.1, q.1.2, q.2⟩

section
variable {prog : Program} {w : World} {A : Around} {R : Result → Shared → Prop} {s : Shared}
/-- the block's loop, the iterator's step as it is -/
theorem compLoop_go {elt target iter : Expr} {ifs : List Expr} {scope : Scope} {pos : Pos} {it acc : Value} {env : Env} (I : Nat → Shared → Prop)
    (turn : ∀ n s, I n s → wpAny (model prog w) A (pyNext it) (fun r s₁ => match r with
      | none => R (.ok .next) s₁
      | some v => wpAny (model prog w) A (letOwnedTupleGo target it v) (fun _ s₂ => wpAny (model prog w) A (assign target env v) (fun _ s₂ =>
          wpAny (model prog w) A (forIn ifs true fun c r => if r = true then do let ok ← isTrue c env (eval c env); pure (ForInStep.yield ok) else pure (ForInStep.yield r)) (fun ok s₃ =>
            if ok = true then wpAny (model prog w) A (eval elt env) (fun x s₄ =>
              wpAny (model prog w) A (call (.builtin "list.append") [acc, x]) (fun _ s₅ => ∃ m, m < n ∧ I m s₅) (fun _ _ => False) s₄) (fun _ _ => False) s₃
            else ∃ m, m < n ∧ I m s₃) (fun _ _ => False) s₂) (fun _ _ => False) s₂) (fun _ _ => False) s₁) (fun _ _ => False) s)
    (n : Nat) (h : I n s) :
    codeAny (model prog w) A (.compLoop (.ListComp elt [⟨target, iter, ifs, 0⟩] scope pos) 0 it acc env) R s := by
  refine codeAny_loop rfl I (fun n s hI => ?_) n h
  show wpAny _ A ((compTurn (.ListComp elt [⟨target, iter, ifs, 0⟩] scope pos) 0 it acc env).onRaise (fun x => do noteFrame x env; theTreesLotGoes x)) _ _ s
  refine wpAny_noted ?_
  rw [compTurn_list]
  refine wpAny_bind (wpAny_standAt (wpAny_bind (wpAny_mono (turn n s hI) (fun r s₁ h₁ => ?_) fun _ _ h' => h'.elim)))
  cases r with
  | none => exact wpAny_pure h₁
  | some v =>
    refine wpAny_bind (wpAny_mono h₁ (fun _ s₂ h₂ => wpAny_bind (wpAny_mono h₂ (fun _ s₃ h₃ => wpAny_bind (wpAny_mono h₃ (fun ok s₄ h₄ => ?_) fun _ _ h' => h'.elim)) fun _ _ h' => h'.elim)) fun _ _ h' => h'.elim)
    cases ok with
    | false => exact wpAny_pure ⟨rfl, h₄⟩
    | true =>
      exact wpAny_bind (wpAny_bind (wpAny_mono h₄ (fun x s₅ h₅ => wpAny_bind (wpAny_mono h₅ (fun _ s₆ h₆ => wpAny_pure (wpAny_pure ⟨rfl, h₆⟩)) fun _ _ h' => h'.elim)) fun _ _ h' => h'.elim))
end

/-- the block's tests -/
def PTs (X : Cx) (ifs : List Expr) (t : TT) : Prop :=
  ∀ (pins : List (Addr × Obj)) (s : Shared) (σ : St) (H : Hp) (Q : Bool → Hp → Prop), Inv X pins σ H s → t σ H Q →
    wpAny (model X.prog X.w) X.A (forIn ifs true fun c r => if r = true then do let ok ← isTrue c X.env (eval c X.env); pure (ForInStep.yield ok) else pure (ForInStep.yield r)) (TP X pins σ Q) X.xe s
theorem pts_one {X : Cx} {c : Expr} {t : TT} (h : PT X c t) : PTs X [c] t := fun pins s σ H Q I hw => wpAny_tests_one (h pins s σ H Q I hw)

/-- what a comprehension wants: p the new list -/
def compW (μ : List (Option Nat)) (g : TG) (tt : TT) (te : TE) (σ : St) (Q : VK) (J : It) (H1 : Hp) : Prop :=
  ∀ p, H1 p = none → ∃ W : Nat → Nat → St → Hp → Prop, (∃ m, W 0 m (inner μ σ) (upd H1 p (.lst []))) ∧ ∀ i m σ' H', W i m σ' H' →
    (J.stop i H' ∧ Q (.ref p) H') ∨ (J.go i H' ∧ ∃ Nn : St → Hp → Prop, (∀ σ2 H2, Nn σ2 H2 → ∃ m', m' < m ∧ W (i + 1) m' σ2 H2) ∧
      ∀ x H2, J.yld i H' x H2 → g x σ' H2 fun σ3 H3 => tt σ3 H3 fun b H4 => if b = true then te σ3 H4 fun y H5 => ∃ ys, H5 p = some (.lst ys) ∧ ys.length < sizeLine ∧ Nn σ3 (upd H5 p (.lst (ys ++ [y]))) else Nn σ3 H4)
def tComp (μ : List (Option Nat)) (wi : TI) (g : TG) (tt : TT) (te : TE) : TE := fun σ H Q => wi σ H (compW μ g tt te σ Q)

section
variable {X : Cx} {pins : List (Addr × Obj)} {σ : St} {H2 : Hp} {s2 : Shared} {tg iter elt : Expr} {ifs : List Expr} {scope : Scope} {pos : Pos} {it : Addr} {fp : List Addr} {tn : Nat → Heap → Prop} {J : It} {N : List Str} {μ : List (Option Nat)} {g : TG} {tt : TT} {te : TE} {Q : VK}
theorem comp_core {RR : Value → Addr → Result → Shared → Prop} (I2 : Inv X pins σ H2 s2) (T : Turn X.prog X.w X.K tg J fp it tn) (st2 : tn 0 s2.heap) (f2 : ∀ b ∈ fp, FpOk X pins H2 b) (hc : X.calm = true)
    (hcell : ∀ y ∈ scope.names, y.2 ≠ .cell) (hkind : scope.kind = .function) (hfr : ∀ y ∈ scope.names, y.2 = .free → ∃ c, X.env.cells.lookup y.1 = some c)
    (hhas : ∀ x, ((relabel scope X.env).names.lookup x = some .cell ∨ (relabel scope X.env).names.lookup x = some .free) → (x, NameKind.free) ∈ scope.names)
    (hμ : muOk X.N X.env.scope N (relabel scope X.env) μ = true)
    (hg : ∀ C s H, PG (cxComp X N scope (clos X.env.cells scope.names []) C fp s H) tg g) (ht : ∀ C s H, PTs (cxComp X N scope (clos X.env.cells scope.names []) C fp s H) ifs tt) (he : ∀ C s H, PE (cxComp X N scope (clos X.env.cells scope.names []) C fp s H) elt te)
    (hW : compW μ g tt te σ Q J H2)
    (hRR : ∀ p C s' H' m, Inv X pins σ H' s' → s'.heap.Ns C m → FpOk X pins H' C → Q (.ref p) H' → RR (.ref p) C (.ok .next) s') :
    wpAny (model X.prog X.w) X.A (newList []) (fun acc s₃ => wpAny (model X.prog X.w) X.A (newFunctionEnv scope X.env.globals (clos X.env.cells scope.names []) [] X.env.qual none .none (some X.env)) (fun cenv s₄ =>
      codeAny (model X.prog X.w) X.A (.compStart (.ListComp elt [⟨tg, iter, ifs, 0⟩] scope pos) 0 (.ref it) acc { cenv with scope := relabel scope X.env }) (RR acc cenv.locals) s₄) X.xe s₃) X.xe s2 := by
  refine wpAny_newObj_type (wpAny_newFunctionEnv hcell (by intro y hy; simp at hy) (fun h₁ hns₁ hsb₁ => ?_) hkind)
  dsimp only at hns₁ hsb₁ ⊢
  generalize hH2 : s2.heap.push { cls := .type "list", dict := none, data := .seq ([] : List Value).toArray } = G at hns₁ hsb₁ ⊢
  have hC : G.objs.size = s2.heap.objs.size + 1 := by rw [← hH2, Heap.size_push]
  have hDC : s2.heap.objs.size ≠ G.objs.size := by rw [hC]; exact Nat.ne_of_lt (Nat.lt_succ_self _)
  have hCle : s2.heap.objs.size ≤ G.objs.size := by rw [hC]; exact Nat.le_succ _
  have below : ∀ b, b < s2.heap.objs.size → b ≠ G.objs.size ∧ b ≠ s2.heap.objs.size := fun b hb => ⟨by rw [hC]; exact Nat.ne_of_lt (Nat.lt_succ_of_lt hb), Nat.ne_of_lt hb⟩
  have old : ∀ b o, s2.heap.get? b = some o → h₁.get? b = some o := fun b o e => hsb₁.extBut b o (below b (Heap.lt_size e)).1 (Heap.get?_push_of_some _ (hH2 ▸ Heap.get?_push_of_some _ e))
  have hobj : h₁.get? s2.heap.objs.size = some { cls := .type "list", dict := none, data := .seq ([] : List Value).toArray } := hsb₁.extBut _ _ hDC (Heap.get?_push_of_some _ (hH2 ▸ Heap.get?_push_size _ rfl))
  have hclin : ∀ x c, (clos X.env.cells scope.names []).lookup x = some c → X.env.cells.lookup x = some c := fun x c h => clos_in hfr (fun _ _ z => by simp at z) h
  have cellt : ∀ x c, (clos X.env.cells scope.names []).lookup x = some c → c < s2.heap.objs.size := fun x c h => by
    obtain ⟨v, o, ho, _⟩ := I2.cell x c (hclin x c h)
    exact Heap.lt_size ho
  have fplt : ∀ b ∈ fp, b < s2.heap.objs.size := fun b hb => by
    obtain ⟨o, ho, _⟩ := T.obj 0 _ st2 b hb
    exact Heap.lt_size ho
  have Hn : ∀ a, s2.heap.objs.size ≤ a → H2 a = none := fun a ha => I2.hok.fresh ha
  obtain ⟨W, ⟨m0, w0⟩, turn⟩ := hW s2.heap.objs.size (Hn _ (Nat.le_refl _))
  have okc : (cxComp X N scope (clos X.env.cells scope.names []) G.objs.size fp s2 H2).Ok := by
    refine ⟨I2.ok.mod, by show (relabel scope X.env).kind = _; exact hkind, I2.ok.glob, I2.ok.blt, hCle, fun x y c h1 h2 => ?_, fun x hx => ?_, fun _ _ z => (by cases z), I2.ok.hd, I2.ok.frames, .inl rfl, fun b hb => ⟨?_, fun x c h z => ?_⟩, I2.bs, Nat.le_trans I2.ok.bsz I2.sz, fun b o e hb => ?_, fun b hb z => ?_, I2.stack, I2.stkFree⟩
    · exact I2.ok.inj x y c (hclin x c h1) (hclin y c h2)
    · exact clos_has (hhas x hx)
    · exact (below b (fplt b hb)).1
    · exact (f2 b hb).2.2.2.2.1 x c (hclin x c h) z
    · rcases (f2 b hb).2.2.2.1 with z | z
      · exact I2.ok.noex b o e z
      · exact absurd (Nat.lt_of_lt_of_le (Heap.lt_size e) (Nat.le_trans I2.ok.bsz z)) (Nat.lt_irrefl _)
    · rcases List.mem_cons.mp (I2.stkSub b z) with e | e
      · exact (f2 b hb).2.1 e
      · exact (f2 b hb).2.2.1 e
  have Hfree : ∀ b, b ≠ s2.heap.objs.size → H2 b = none → (upd H2 s2.heap.objs.size (.lst [])) b = none := fun b h1 h2 => by rw [upd_ne h1]; exact h2
  have I3 : Inv (cxComp X N scope (clos X.env.cells scope.names []) G.objs.size fp s2 H2) [] (inner μ σ) (upd H2 s2.heap.objs.size (.lst [])) { s2 with heap := h₁, toks := s2.toks + ([] : List (Str × Value)).length } := by
    refine ⟨okc, rfl, I2.bare, Un.laid old (Nat.le_refl _) (Hn _ (Nat.le_refl _)), ⟨_, hns₁, fun i x v e1 e2 e3 => ?_⟩, fun x c h => ?_, Hfree _ hDC.symm (Hn _ hCle), fun x c h => Hfree _ (below c (cellt x c h)).2 (I2.freeC x c (hclin x c h)), fun p hp => absurd (show p ∈ ([] : List (Addr × Obj)) from hp) (by simp), I2.hok.laid old (Nat.le_refl _) ⟨by decide, [], 0, .nil, hobj⟩, ?_⟩
    · have e1' : N[i]? = some x := e1
      have e2' : (μ.map fun o => o.bind fun j => (σ[j]?).join)[i]? = some (some v) := e2
      rw [List.getElem?_map] at e2'
      cases q : μ[i]? with
      | none => rw [q] at e2'; cases e2'
      | some o =>
        rw [q] at e2'
        cases o with
        | none => cases e2'
        | some j =>
          have e4 : (σ[j]?).join = some v := Option.some.inj e2'
          have e5 : σ[j]? = some (some v) := by
            cases z : σ[j]? with
            | none => rw [z] at e4; cases e4
            | some y => rw [z] at e4; cases y with
              | none => cases e4
              | some y => rw [show y = v from Option.some.inj e4]
          obtain ⟨a1, a2, a3⟩ := muOk.get hμ q e1'
          obtain ⟨m, hn, hl⟩ := I2.loc
          obtain ⟨u, r, l⟩ := hl j x v a1 e5 (.inr (.inl a2))
          refine ⟨u, r, ?_⟩
          rcases l with ⟨k, _⟩ | ⟨_, c, hcc, hce⟩
          · exact absurd ((show X.env.scope.names.lookup x = some .local from k).symm.trans a2) (by intro z; cases z)
          · obtain ⟨c', hc'⟩ : ∃ c, (clos X.env.cells scope.names []).lookup x = some c := clos_has (hhas x a3)
            have ec : c' = c := Option.some.inj ((hclin x c' hc').symm.trans hcc)
            subst ec
            exact .inr ⟨a3, c', hc', hce.keeps old⟩
    · obtain ⟨v, z⟩ := I2.cell x c (hclin x c h)
      exact ⟨v, z.keeps old⟩
    · show (μ.map _).length = N.length
      rw [List.length_map]
      have q := hμ
      unfold muOk at q
      rw [Bool.and_eq_true] at q
      exact of_decide_eq_true q.1
  have fin : ∀ {σ' : St} {H' : Hp} {s' : Shared}, Inv (cxComp X N scope (clos X.env.cells scope.names []) G.objs.size fp s2 H2) [] σ' H' s' → Q (.ref s2.heap.objs.size) H' → RR (.ref s2.heap.objs.size) G.objs.size (.ok .next) s' := fun {σ' H' s'} I4 q => by
    have I5 : Inv X pins σ H' s' := I2.call' (ch := fp) I4.os I4.base I4.hok I4.bare fun b hb => ⟨(f2 b hb).2.2.2.1, (f2 b hb).2.1, (f2 b hb).2.2.2.2.1, (f2 b hb).2.2.2.2.2⟩
    obtain ⟨m, hn, _⟩ := I4.loc
    have hn' : s'.heap.Ns G.objs.size m := hn
    refine hRR _ _ s' H' m I5 hn' ⟨I4.free, Nat.ne_of_gt (Nat.lt_of_lt_of_le I2.lt hCle), I2.nofs hCle, .inr (Nat.le_trans I2.sz hCle), fun x c h z => ?_, fun p hp z => ?_⟩ q
    · obtain ⟨v, o, ho, _⟩ := I2.cell x c h
      exact (below c (Heap.lt_size ho)).1 z
    · exact (below p.1 (Heap.lt_size (I2.pin p hp).1)).1 z
  have stat : ∀ {H' : Hp}, (∀ b ∈ fp, H' b = none) → ∀ b ∈ fp, FpOk (cxComp X N scope (clos X.env.cells scope.names []) G.objs.size fp s2 H2) [] H' b := fun {H'} hn b hb => by
    refine ⟨hn b hb, (below b (fplt b hb)).1, fun z => ?_, .inl hb, fun x c h z => (f2 b hb).2.2.2.2.1 x c (hclin x c h) z, fun p hp => absurd (show p ∈ ([] : List (Addr × Obj)) from hp) (by simp)⟩
    exact okc.exfs b hb z
  have loop : codeAny (model X.prog X.w) X.A (.compLoop (.ListComp elt [⟨tg, iter, ifs, 0⟩] scope pos) 0 (.ref it) (.ref s2.heap.objs.size) (compEnvC scope (clos X.env.cells scope.names []) G.objs.size X.env))
      (RR (.ref s2.heap.objs.size) G.objs.size) { s2 with heap := h₁, toks := s2.toks + ([] : List (Str × Value)).length } := by
    refine compLoop_go (fun n s' => ∃ i σ' H', Inv (cxComp X N scope (clos X.env.cells scope.names []) G.objs.size fp s2 H2) [] σ' H' s' ∧ tn i s'.heap ∧ (∀ b ∈ fp, H' b = none) ∧ W i n σ' H') ?_ m0
      ⟨0, inner μ σ, _, I3, T.keep _ _ _ st2 (fun b hb o e => old b o e), fun b hb => Hfree b (below b (fplt b hb)).2 (f2 b hb).1, w0⟩
    rintro n s3 ⟨i, σ3, H3, I3, st3, fr3, w3⟩
    rcases turn i n σ3 H3 w3 with ⟨stop, qn⟩ | ⟨go, Nn, hN, step⟩
    · refine thn (T.done (cxComp X N scope (clos X.env.cells scope.names []) G.objs.size fp s2 H2) rfl rfl rfl hc i [] s3 σ3 H3 _ I3 (stat fr3) st3 stop) fun r s4 ⟨hr, I4⟩ => ?_
      subst hr
      exact fin I4 qn
    · refine thn (T.item (cxComp X N scope (clos X.env.cells scope.names []) G.objs.size fp s2 H2) rfl rfl rfl hc i [] s3 σ3 H3 _ I3 (stat fr3) st3 go) fun r s4 ⟨u, hr, h4⟩ => ?_
      subst hr
      refine thn h4 fun _ s5 ⟨x, H5, I5, r5, y5, st5, fr5⟩ => ?_
      have I5' := I5.pinned (stat fr5) (T.obj _ _ st5)
      have again : ∀ {σ7 : St} {H7 : Hp} {s7 : Shared}, Inv (cxComp X N scope (clos X.env.cells scope.names []) G.objs.size fp s2 H2) ([] ++ pinsAt fp s5.heap) σ7 H7 s7 → Nn σ7 H7 →
          ∃ m, m < n ∧ ∃ i σ' H', Inv (cxComp X N scope (clos X.env.cells scope.names []) G.objs.size fp s2 H2) [] σ' H' s7 ∧ tn i s7.heap ∧ (∀ b ∈ fp, H' b = none) ∧ W i m σ' H' := fun {σ7 H7 s7} I7 n7 => by
        obtain ⟨m', hm, w7⟩ := hN σ7 H7 n7
        refine ⟨m', hm, i + 1, σ7, H7, I7.unpinned, T.keep _ _ _ st5 fun b hb o e => (I7.pin (b, o) (List.mem_append_right _ (List.mem_append_right _ (mem_pinsAt hb e)))).1, fun b hb => ?_, w7⟩
        obtain ⟨o, e, d⟩ := T.obj _ _ st5 b hb
        exact (I7.pin (b, o) (List.mem_append_right _ (List.mem_append_right _ (mem_pinsAt hb e)))).2.1
      refine thn (hg G.objs.size s2 H2 _ s5 σ3 H5 x u _ I5' r5 (step x H5 y5)) fun _ s6 ⟨σ6, H6, I6, q6⟩ => ?_
      refine thn (ht G.objs.size s2 H2 _ s6 σ6 H6 _ I6 q6) fun ok s7 ⟨H7, I7, q7⟩ => ?_
      cases ok with
      | false =>
        rw [if_neg (by decide)] at q7 ⊢
        exact again I7 q7
      | true =>
        rw [if_pos rfl] at q7 ⊢
        refine thn (he G.objs.size s2 H2 _ s7 σ6 H7 _ I7 q7) fun u8 s8 ⟨y, H8, I8, r8, ys, e8, l8, q8⟩ => ?_
        have ma := mt_append (X := cxComp X N scope (clos X.env.cells scope.names []) G.objs.size fp s2 H2) _ s8 σ6 H8 (.ref s2.heap.objs.size) [y] (.ref s2.heap.objs.size) [u8]
          (fun _ H9 => Nn σ6 H9) I8 rfl (.cons r8 .nil) ⟨_, ys, y, rfl, rfl, e8, l8, q8⟩
        exact thn ma fun _ s9 ⟨_, H9, I9, _, q9⟩ => again I9 q9
  exact codeAny_compStart_list loop (T.self _ 0 _ _ _ (T.keep _ _ _ st2 (fun b hb o e => old b o e)) loop)

/-- name = [..], stored ahead of the block's end -/
theorem ps_comp {wi : TI} {i : Nat} {y : Str} {py spos : Pos} (hN : X.N.Nodup) (hiN : X.N[i]? = some y) (hx : Loc X.env.scope y) (hc : X.calm = true) (hcell : ∀ y ∈ scope.names, y.2 ≠ .cell) (hkind : scope.kind = .function) (hnames : ∀ y ∈ scope.names, y.2 = .local → scope.names.lookup y.1 = some .local)
    (hfree : ∀ y ∈ scope.names, y.2 = .free → X.env.kindOf y.1 = some .cell ∨ X.env.kindOf y.1 = some .free)
    (hhas : ∀ x, ((relabel scope X.env).names.lookup x = some .cell ∨ (relabel scope X.env).names.lookup x = some .free) → (x, NameKind.free) ∈ scope.names)
    (hμ : muOk X.N X.env.scope N (relabel scope X.env) μ = true) (hi : PI X tg iter wi)
    (hg : ∀ fp C s H, PG (cxComp X N scope (clos X.env.cells scope.names []) C fp s H) tg g) (ht : ∀ fp C s H, PTs (cxComp X N scope (clos X.env.cells scope.names []) C fp s H) ifs tt) (he : ∀ fp C s H, PE (cxComp X N scope (clos X.env.cells scope.names []) C fp s H) elt te)
    (hsw : swapsWith (.ListComp elt [⟨tg, iter, ifs, 0⟩] scope pos) (some (.Name y py)) spos.line X.env = pure true := by rfl)
    (hf : X.fn y = true ∨ X.env.scope.names.lookup y = some .local := by first | exact .inl rfl | exact .inr rfl | assumption)
    (hs : ∀ x, foldedSetIterable iter X.env x = pure x := by intro _; rfl) : PS X (.Assign [.Name y py] (.ListComp elt [⟨tg, iter, ifs, 0⟩] scope pos) spos) (tAsg (tComp μ wi g tt te) (gName i)) := by
  intro pins s σ H D I h
  have hfr : ∀ y ∈ scope.names, y.2 = .free → ∃ c, X.env.cells.lookup y.1 = some c := fun y hy hk => I.ok.has y.1 (hfree y hy hk)
  rw [exec_Assign_Name_used _ _ _ _ hsw]
  refine wpAny_bind (wpAny_standAt (wpAny_bind ?_))
  show wpAny _ _ (do let _ ← comprehension (.ListComp elt [⟨tg, iter, ifs, 0⟩] scope pos) scope X.env _ (newList []) false (eval iter X.env) (some (assign (.Name y py) X.env))) _ _ s
  refine wpAny_bind (wpAny_mono (wpAny_comprehension_free (use := some (assign (.Name y py) X.env)) (Q := fun _ s' => SP X pins D .next s') rfl hs (closure_of hfr) hkind hnames
    (thn (hi pins s σ H _ I h) fun v s1 h1 => thn h1 fun itv s2 h2 => ?_)) (fun _ s' hq => wpAny_pure (wpAny_pure hq)) fun _ _ e => e)
  obtain ⟨it, fp, tn, J, H2, rfl, I2, T, st2, f2, W⟩ := h2
  refine comp_core (RR := fun acc C => compPost (model X.prog X.w) X.A X.xe (some (assign (.Name y py) X.env)) (fun _ s' => SP X pins D .next s') acc C) I2 T st2 f2 hc hcell hkind hfr hhas hμ (hg fp) (ht fp) (he fp) W ?_
  intro p C s' H' m I' hn fc q
  show wpAny _ _ (assign (.Name y py) X.env (.ref p)) _ _ s'
  refine wpAny_assign_Name (store_ok2 (v := .ref p) I' hN hiN hx rfl (fun s'' I'' hsm => ?_) hf)
  obtain ⟨a, sb, ha⟩ := hsm
  have ne : C ≠ a := by
    rcases ha with ha | ha
    · rw [ha]; exact fc.2.1
    · exact (fc.2.2.2.2.1 y a ha).symm
  exact ⟨m, hn.sameBut sb ne, fun h' hsb => ⟨_, H', I''.turned (t' := s''.toks) (fun b o ne e => (hsb.2 b ne).trans e) fc.1 fc.2.1 fc.2.2.2.1 fc.2.2.2.2.1 fc.2.2.2.2.2, q⟩⟩
end
end L2
set_option Elab.async false
set_option linter.all false
set_option maxRecDepth 100000
set_option genSizeOf false
/-! PLAIN DATA OVER THE LAYER: what an expression, a block, a def is worth as a total Lean function over plain data. -/
namespace DL
open PySem PySem.Spec PyProof.Rows L2

abbrev St := L2.St
/-- plain data; scr: the script; obj: the n-th object that may change -/
inductive D where
  | non | bl (b : Bool) | int (i : Int) | str (x : Str) | tup (xs : List D) | lst (xs : List D) | scr (ns : List Int) | obj (n : Nat)

mutual
def Is (K : PySem.W.Frag) (α : List Addr) (F : Hp) : D → V → Prop
  | .non, v => v = .non
  | .bl b, v => v = .bl b
  | .int i, v => v = .int i
  | .str x, v => v = .str x
  | .tup xs, v => ∃ a vs, v = .ref a ∧ F a = some (.tup vs) ∧ IsL K α F xs vs
  | .lst xs, v => ∃ a vs, v = .ref a ∧ F a = some (.lst vs) ∧ IsL K α F xs vs
  | .scr ns, v => ∃ a, v = .ref a ∧ SqL K F a (ns.map V.int)
  | .obj n, v => ∃ a, α[n]? = some a ∧ v = .ref a
def IsL (K : PySem.W.Frag) (α : List Addr) (F : Hp) : List D → List V → Prop
  | [], vs => vs = []
  | d :: ds, vs => ∃ v r, vs = v :: r ∧ Is K α F d v ∧ IsL K α F ds r
end

section
variable {K : PySem.W.Frag} {α α' : List Addr} {F F' : Hp}
mutual
theorem Is.mono (ff : Same F F') (al : ∃ more, α' = α ++ more) : ∀ (d : D) {v : V}, Is K α F d v → Is K α' F' d v
  | .non, _, h => by rw [Is] at h ⊢; exact h
  | .bl _, _, h => by rw [Is] at h ⊢; exact h
  | .int _, _, h => by rw [Is] at h ⊢; exact h
  | .str _, _, h => by rw [Is] at h ⊢; exact h
  | .tup xs, _, h => by
    rw [Is] at h ⊢
    obtain ⟨a, vs, e, q, r⟩ := h
    exact ⟨a, vs, e, ff _ _ q, IsL.mono ff al xs r⟩
  | .lst xs, _, h => by
    rw [Is] at h ⊢
    obtain ⟨a, vs, e, q, r⟩ := h
    exact ⟨a, vs, e, ff _ _ q, IsL.mono ff al xs r⟩
  | .scr ns, _, h => by
    rw [Is] at h ⊢
    obtain ⟨a, e, q⟩ := h
    exact ⟨a, e, ff.seq q⟩
  | .obj n, _, h => by
    rw [Is] at h ⊢
    obtain ⟨a, e, q⟩ := h
    obtain ⟨more, rfl⟩ := al
    refine ⟨a, ?_, q⟩
    rw [List.getElem?_append_left (List.getElem?_eq_some_iff.mp e).1]
    exact e
theorem IsL.mono (ff : Same F F') (al : ∃ more, α' = α ++ more) : ∀ (ds : List D) {vs : List V}, IsL K α F ds vs → IsL K α' F' ds vs
  | [], _, h => by rw [IsL] at h ⊢; exact h
  | d :: ds, _, h => by
    rw [IsL] at h ⊢
    obtain ⟨v, r, e, h1, h2⟩ := h
    exact ⟨v, r, e, Is.mono ff al d h1, IsL.mono ff al ds h2⟩
end
theorem IsL.nil : IsL K α F [] [] := by rw [IsL]
theorem IsL.cons {d : D} {v : V} {ds : List D} {vs : List V} (h : Is K α F d v) (r : IsL K α F ds vs) : IsL K α F (d :: ds) (v :: vs) := by rw [IsL]; exact ⟨v, vs, rfl, h, r⟩
theorem IsL.of_nil {vs : List V} (h : IsL K α F [] vs) : vs = [] := by rw [IsL] at h; exact h
theorem IsL.of_cons {d : D} {ds : List D} {vs : List V} (h : IsL K α F (d :: ds) vs) : ∃ v r, vs = v :: r ∧ Is K α F d v ∧ IsL K α F ds r := by rw [IsL] at h; exact h
theorem IsL.length : ∀ {ds : List D} {vs : List V}, IsL K α F ds vs → ds.length = vs.length
  | [], vs, h => by rw [h.of_nil]; rfl
  | d :: ds, vs, h => by
    obtain ⟨v, r, rfl, _, t⟩ := h.of_cons
    rw [List.length_cons, List.length_cons, t.length]
theorem IsL.append : ∀ {ds es : List D} {vs us : List V}, IsL K α F ds vs → IsL K α F es us → IsL K α F (ds ++ es) (vs ++ us)
  | [], _, _, _, h, q => by rw [h.of_nil]; exact q
  | d :: ds, es, vs, us, h, q => by
    obtain ⟨v, r, rfl, h1, t⟩ := h.of_cons
    exact .cons h1 (t.append q)
theorem IsL.take : ∀ {ds : List D} {vs : List V} (n : Nat), IsL K α F ds vs → IsL K α F (ds.take n) (vs.take n)
  | [], _, n, h => by rw [h.of_nil, List.take_nil, List.take_nil]; exact .nil
  | d :: ds, vs, 0, h => by rw [List.take_zero, List.take_zero]; exact .nil
  | d :: ds, vs, n + 1, h => by
    obtain ⟨v, r, rfl, h1, t⟩ := h.of_cons
    exact .cons h1 (t.take n)
theorem IsL.drop : ∀ {ds : List D} {vs : List V} (n : Nat), IsL K α F ds vs → IsL K α F (ds.drop n) (vs.drop n)
  | [], _, n, h => by rw [h.of_nil, List.drop_nil, List.drop_nil]; exact .nil
  | d :: ds, vs, 0, h => h
  | d :: ds, vs, n + 1, h => by
    obtain ⟨v, r, rfl, h1, t⟩ := h.of_cons
    exact t.drop n
theorem IsL.get : ∀ {ds : List D} {vs : List V} {i : Nat} {d : D}, IsL K α F ds vs → ds[i]? = some d → ∃ v, vs[i]? = some v ∧ Is K α F d v
  | [], _, _, _, _, e => by simp at e
  | d :: ds, vs, 0, x, h, e => by
    obtain ⟨v, r, rfl, h1, t⟩ := h.of_cons
    rw [List.getElem?_cons_zero] at e
    cases e
    exact ⟨v, rfl, h1⟩
  | d :: ds, vs, i + 1, x, h, e => by
    obtain ⟨v, r, rfl, h1, t⟩ := h.of_cons
    rw [List.getElem?_cons_succ] at e
    obtain ⟨u, e1, q⟩ := t.get e
    exact ⟨u, by rw [List.getElem?_cons_succ]; exact e1, q⟩
theorem IsL.rep {ds : List D} {vs : List V} (h : IsL K α F ds vs) : ∀ n : Nat, IsL K α F (List.replicate n ds).flatten (List.replicate n vs).flatten
  | 0 => .nil
  | n + 1 => by
    rw [List.replicate_succ, List.replicate_succ, List.flatten_cons, List.flatten_cons]
    exact h.append (h.rep n)
theorem IsL.ints : ∀ (ns : List Int), IsL K α F (ns.map D.int) (ns.map V.int)
  | [] => .nil
  | n :: ns => .cons (by rw [Is]) (IsL.ints ns)
end

/-- the state at a place: the objects' places, what stands for ever, what belongs to the objects, the whole -/
structure E4 where
  α : List Addr
  F : Hp
  A : Addr → Prop
  H : Hp
structure Ext (e e' : E4) : Prop where
  hk : ∀ b o, e.H b = some o → ¬ e.A b → e'.H b = some o
  dm : ∀ b o, e.H b = some o → ∃ o', e'.H b = some o'
  ff : Same e.F e'.F
  fn : ∀ b o, e'.F b = some o → e.F b = some o ∨ e.H b = none ∨ ((∃ xs, o = .tup xs) ∧ e.H b = some o ∧ ¬ e.A b)
  an : ∀ b, e'.A b → e.A b ∨ e.H b = none
  aa : ∀ b, e.A b → e'.A b
  al : ∃ more, e'.α = e.α ++ more
theorem Ext.refl (e : E4) : Ext e e := ⟨fun _ _ h _ => h, fun _ o h => ⟨o, h⟩, Same.refl _, fun _ _ h => .inl h, fun _ h => .inl h, fun _ h => h, [], by simp⟩
theorem Ext.back {e e' : E4} (x : Ext e e') {b : Addr} (h : e'.H b = none) : e.H b = none := by
  cases q : e.H b with
  | none => rfl
  | some o => obtain ⟨o', z⟩ := x.dm b o q; rw [h] at z; cases z
theorem Ext.trans {a b c : E4} (x : Ext a b) (y : Ext b c) : Ext a c := by
  refine ⟨fun p o h hn => y.hk p o (x.hk p o h hn) fun z => ?_, fun p o h => ?_, x.ff.trans y.ff, fun p o h => ?_, fun p h => ?_, fun p h => y.aa p (x.aa p h), ?_⟩
  · rcases x.an p z with q | q
    · exact hn q
    · rw [q] at h; cases h
  · obtain ⟨o', h'⟩ := x.dm p o h
    exact y.dm p o' h'
  · rcases y.fn p o h with q | q | ⟨q1, q2, q3⟩
    · exact x.fn p o q
    · exact .inr (.inl (x.back q))
    · have n : ¬ a.A p := fun z => q3 (x.aa p z)
      cases z : a.H p with
      | none => exact .inr (.inl rfl)
      | some o' =>
        have z' := x.hk p o' z n
        rw [q2] at z'
        cases z'
        exact .inr (.inr ⟨q1, rfl, n⟩)
  · rcases y.an p h with q | q
    · exact x.an p q
    · exact .inr (x.back q)
  · obtain ⟨m, e1⟩ := x.al
    obtain ⟨n, e2⟩ := y.al
    exact ⟨m ++ n, by rw [e2, e1, List.append_assoc]⟩

/-- an object that may change -/
inductive OS where
  | mls (xs : List D) | dead | exc (c : Str) | ins (c : Str) (fs : List (Str × D)) | dK (kvs : List (Key × D)) | dT (kvs : List (List Key × D))
/-- pairs by their keys -/
def PsIs (K : PySem.W.Frag) (α : List Addr) (F : Hp) {κ : Type} : List (κ × D) → List (κ × V) → Prop
  | [], vs => vs = []
  | p :: r, vs => ∃ v t, vs = (p.1, v) :: t ∧ Is K α F p.2 v ∧ PsIs K α F r t
theorem PsIs.mono {K : PySem.W.Frag} {α α' : List Addr} {F F' : Hp} {κ : Type} (ff : Same F F') (al : ∃ more, α' = α ++ more) : ∀ {ps : List (κ × D)} {vs : List (κ × V)}, PsIs K α F ps vs → PsIs K α' F' ps vs
  | [], _, h => h
  | p :: r, _, ⟨v, t, e, i, q⟩ => ⟨v, t, e, Is.mono ff al _ i, PsIs.mono ff al q⟩
abbrev Cl := Str → Option Addr
def OSIs (K : PySem.W.Frag) (C : Cl) (e : E4) (a : Addr) : OS → Prop
  | .mls xs => ∃ vs, e.H a = some (.lst vs) ∧ IsL K e.α e.F xs vs
  | .dead => True
  | .exc c => ∃ Ca ob u, C c = some Ca ∧ e.H a = some (.frz ob u) ∧ ob.cls = .ref Ca
  | .ins c fs => ∃ Ca dx fvs, C c = some Ca ∧ e.H a = some (.ins Ca dx fvs) ∧ PsIs K e.α e.F fs fvs
  | .dK kvs => ∃ vs, e.H a = some (.dK vs) ∧ PsIs K e.α e.F kvs vs
  | .dT kvs => ∃ vs, e.H a = some (.dT vs) ∧ PsIs K e.α e.F kvs vs
structure Wf (K : PySem.W.Frag) (C : Cl) (e : E4) (Ω : List OS) : Prop where
  fh : Same e.F e.H
  fa : ∀ b, e.A b → e.F b = none
  ah : ∀ b, e.A b → e.H b ≠ none ∧ ∀ xs, e.H b ≠ some (.tup xs)
  ol : e.α.length = Ω.length
  nd : e.α.Nodup
  ob : ∀ (n : Nat) (a : Addr) (o : OS), e.α[n]? = some a → Ω[n]? = some o → e.A a ∧ OSIs K C e a o
section
variable {K : PySem.W.Frag} {C : Cl} {e e' : E4} {Ω Ω' : List OS}
theorem Is.ext (x : Ext e e') {d : D} {v : V} (h : Is K e.α e.F d v) : Is K e'.α e'.F d v := Is.mono x.ff x.al d h
theorem IsL.ext (x : Ext e e') {d : List D} {v : List V} (h : IsL K e.α e.F d v) : IsL K e'.α e'.F d v := IsL.mono x.ff x.al d h
/-- a new thing that stands for ever -/
def E4.new (e : E4) (p : Addr) (o : HO) : E4 := ⟨e.α, upd e.F p o, e.A, upd e.H p o⟩
theorem Wf.nF (w : Wf K C e Ω) {p : Addr} (hp : e.H p = none) : e.F p = none := by
  cases q : e.F p with
  | none => rfl
  | some o => rw [w.fh p o q] at hp; cases hp
theorem Wf.new_ext (w : Wf K C e Ω) {p : Addr} {o : HO} (hp : e.H p = none) : Ext e (e.new p o) := by
  refine ⟨fun b u h _ => ?_, fun b u h => ⟨u, ?_⟩, fun b u h => ?_, fun b u h => ?_, fun b h => .inl h, fun b h => h, [], by simp [E4.new]⟩
  · show upd e.H p o b = some u; rw [upd_ne (ne_of_none h hp)]; exact h
  · show upd e.H p o b = some u; rw [upd_ne (ne_of_none h hp)]; exact h
  · show upd e.F p o b = some u; rw [upd_ne (ne_of_none h (w.nF hp))]; exact h
  · have h : upd e.F p o b = some u := h
    by_cases hb : b = p
    · subst hb; exact .inr (.inl hp)
    · rw [upd_ne hb] at h; exact .inl h
theorem OSIs.keep {a : Addr} {o : OS} (h : OSIs K C e a o) (hH : ∀ u, e.H a = some u → e'.H a = some u) (ff : Same e.F e'.F) (al : ∃ more, e'.α = e.α ++ more) : OSIs K C e' a o := by
  cases o with
  | mls xs => obtain ⟨vs, h1, h2⟩ := h; exact ⟨vs, hH _ h1, IsL.mono ff al xs h2⟩
  | dead => trivial
  | exc c => obtain ⟨Ca, ob, u, h1, h2, h3⟩ := h; exact ⟨Ca, ob, u, h1, hH _ h2, h3⟩
  | ins c fs => obtain ⟨Ca, dx, fvs, h1, h2, h3⟩ := h; exact ⟨Ca, dx, fvs, h1, hH _ h2, h3.mono ff al⟩
  | dK kvs => obtain ⟨vs, h1, h2⟩ := h; exact ⟨vs, hH _ h1, h2.mono ff al⟩
  | dT kvs => obtain ⟨vs, h1, h2⟩ := h; exact ⟨vs, hH _ h1, h2.mono ff al⟩
theorem Wf.new (w : Wf K C e Ω) {p : Addr} {o : HO} (hp : e.H p = none) : Wf K C (e.new p o) Ω := by
  have x : Ext e (e.new p o) := w.new_ext hp
  have ne : ∀ b, e.A b → b ≠ p := fun b h z => by subst z; exact (w.ah b h).1 hp
  refine ⟨fun b u h => ?_, fun b h => ?_, fun b h => ?_, w.ol, w.nd, fun n a u h1 h2 => ⟨(w.ob n a u h1 h2).1, (w.ob n a u h1 h2).2.keep (fun v hv => ?_) x.ff x.al⟩⟩
  · have h : upd e.F p o b = some u := h
    show upd e.H p o b = some u
    by_cases hb : b = p
    · subst hb; rw [upd_same] at h ⊢; exact h
    · rw [upd_ne hb] at h ⊢; exact w.fh b u h
  · show upd e.F p o b = none
    rw [upd_ne (ne b h)]; exact w.fa b h
  · show upd e.H p o b ≠ none ∧ ∀ xs, upd e.H p o b ≠ some (.tup xs)
    rw [upd_ne (ne b h)]; exact w.ah b h
  · show upd e.H p o a = some v
    rw [upd_ne (ne a (w.ob n a u h1 h2).1)]; exact hv
end

/-- a name: nothing known, data, a list of its own -/
inductive Sl where
  | und | dat (d : D) | own (xs : List D)
structure RelE (K : PySem.W.Frag) (e : E4) (σ : St) (ρ : List Sl) : Prop where
  len : σ.length = ρ.length
  dat : ∀ (i : Nat) (d : D), ρ[i]? = some (.dat d) → ∃ v, σ[i]? = some (some v) ∧ Is K e.α e.F d v
  own : ∀ (i : Nat) (ds : List D), ρ[i]? = some (.own ds) → ∃ a vs, σ[i]? = some (some (.ref a)) ∧ e.H a = some (.lst vs) ∧ IsL K e.α e.F ds vs ∧ e.F a = none ∧ ¬ e.A a
  sep : ∀ (i j : Nat) (ds es : List D) (a : Addr), ρ[i]? = some (.own ds) → ρ[j]? = some (.own es) → σ[i]? = some (some (.ref a)) → σ[j]? = some (some (.ref a)) → i = j
section
variable {K : PySem.W.Frag} {C : Cl} {e e' e₀ : E4} {Ω Ω' : List OS} {σ : St} {ρ : List Sl}
theorem RelE.ext (r : RelE K e σ ρ) (x : Ext e e') : RelE K e' σ ρ := by
  refine ⟨r.len, fun i d h => ?_, fun i ds h => ?_, r.sep⟩
  · obtain ⟨v, e1, q⟩ := r.dat i d h
    exact ⟨v, e1, q.ext x⟩
  · obtain ⟨a, vs, e1, e2, q, n1, n2⟩ := r.own i ds h
    refine ⟨a, vs, e1, x.hk a _ e2 n2, q.ext x, ?_, fun z => ?_⟩
    · cases z : e'.F a with
      | none => rfl
      | some o =>
        rcases x.fn a o z with y | y | ⟨⟨xs, rfl⟩, y, _⟩
        · rw [n1] at y; cases y
        · rw [e2] at y; cases y
        · rw [e2] at y; cases y
    · rcases x.an a z with y | y
      · exact n2 y
      · rw [e2] at y; cases y
theorem RelE.set (r : RelE K e σ ρ) (i : Nat) {d : D} {v : V} (h : Is K e.α e.F d v) : RelE K e (σ.set i (some v)) (ρ.set i (.dat d)) := by
  refine ⟨by simp [r.len], fun j d' hj => ?_, fun j ds hj => ?_, fun j k ds es a hj hk h1 h2 => ?_⟩
  · by_cases e1 : i = j
    · subst e1
      have hl : i < ρ.length := by
        have := (List.getElem?_eq_some_iff.mp hj).1
        simpa using this
      rw [List.getElem?_set_self hl] at hj
      cases hj
      exact ⟨v, List.getElem?_set_self (by rw [r.len]; exact hl), h⟩
    · rw [List.getElem?_set_ne e1] at hj ⊢
      exact r.dat j d' hj
  · by_cases e1 : i = j
    · subst e1
      have hl : i < ρ.length := by
        have := (List.getElem?_eq_some_iff.mp hj).1
        simpa using this
      rw [List.getElem?_set_self hl] at hj
      cases hj
    · rw [List.getElem?_set_ne e1] at hj ⊢
      exact r.own j ds hj
  · have ne : ∀ (j : Nat) (ds : List D), (ρ.set i (.dat d))[j]? = some (.own ds) → i ≠ j := fun j ds hj e1 => by
      subst e1
      have hl : i < ρ.length := by
        have := (List.getElem?_eq_some_iff.mp hj).1
        simpa using this
      rw [List.getElem?_set_self hl] at hj
      cases hj
    have n1 := ne j ds hj
    have n2 := ne k es hk
    rw [List.getElem?_set_ne n1] at hj h1
    rw [List.getElem?_set_ne n2] at hk h2
    exact r.sep j k ds es a hj hk h1 h2
end

/-! ### the readings -/
abbrev Den := List Sl → List OS → Option (D × List OS)
abbrev TDen := List Sl → List OS → Option (Bool × List OS)
abbrev ADen := List Sl → List OS → Option (List D × List OS)
def tD (K : PySem.W.Frag) (C : Cl) (g : Den) : TE := fun σ H Q => ∃ e Ω ρ d Ω', e.H = H ∧ Wf K C e Ω ∧ RelE K e σ ρ ∧ g ρ Ω = some (d, Ω') ∧ ∀ v e', Ext e e' → Wf K C e' Ω' → Is K e'.α e'.F d v → Q v e'.H
def tDT (K : PySem.W.Frag) (C : Cl) (g : TDen) : TT := fun σ H Q => ∃ e Ω ρ b Ω', e.H = H ∧ Wf K C e Ω ∧ RelE K e σ ρ ∧ g ρ Ω = some (b, Ω') ∧ ∀ e', Ext e e' → Wf K C e' Ω' → Q b e'.H
def tDA (K : PySem.W.Frag) (C : Cl) (g : ADen) : TA := fun σ H Q => ∃ e Ω ρ ds Ω', e.H = H ∧ Wf K C e Ω ∧ RelE K e σ ρ ∧ g ρ Ω = some (ds, Ω') ∧ ∀ vs e', Ext e e' → Wf K C e' Ω' → IsL K e'.α e'.F ds vs → Q vs e'.H
def PD (X : Cx) (C : Cl) (x : Expr) (g : Den) : Prop := PE X x (tD X.K C g)
def PDT (X : Cx) (C : Cl) (x : Expr) (g : TDen) : Prop := PT X x (tDT X.K C g)
def PDW (X : Cx) (C : Cl) (x : Expr) (g : TDen) : Prop := PW X x (tDT X.K C g)
def PDA (X : Cx) (C : Cl) (xs : List Expr) (g : ADen) : Prop := PA X xs (tDA X.K C g)
section
variable {X : Cx} {C : Cl} {x : Expr}
theorem pe_imp {t t' : TE} (h : PE X x t) (i : ∀ σ H Q, t' σ H Q → t σ H Q) : PE X x t' := fun pins s σ H Q I hw => h pins s σ H Q I (i σ H Q hw)
theorem pt_imp {t t' : TT} (h : PT X x t) (i : ∀ σ H Q, t' σ H Q → t σ H Q) : PT X x t' := fun pins s σ H Q I hw => h pins s σ H Q I (i σ H Q hw)
theorem pw_imp {t t' : TT} (h : PW X x t) (i : ∀ σ H Q, t' σ H Q → t σ H Q) : PW X x t' := fun whole pins s σ H Q I hw => h whole pins s σ H Q I (i σ H Q hw)
theorem pa_imp {xs : List Expr} {t t' : TA} (h : PA X xs t) (i : ∀ σ H Q, t' σ H Q → t σ H Q) : PA X xs t' := fun pos pins s σ H Q I hw => h pos pins s σ H Q I (i σ H Q hw)
theorem ps_imp {st : Stmt} {t t' : TS} (h : PS X st t) (i : ∀ D σ H, t' D σ H → t D σ H) : PS X st t' := fun pins s σ H D I hw => h pins s σ H D I (i D σ H hw)
theorem pss_imp {st : List Stmt} {t t' : TS} (h : PSs X st t) (i : ∀ D σ H, t' D σ H → t D σ H) : PSs X st t' := fun pins s σ H D I hw => h pins s σ H D I (i D σ H hw)

/-! ### names, constants -/
def gVar (i : Nat) : Den := fun ρ Ω => match ρ[i]? with | some (.dat d) => some (d, Ω) | _ => none
theorem pd_var {i : Nat} (h : PE X x (tVar i)) : PD X C x (gVar i) := pe_imp h fun σ H Q ⟨e, Ω, ρ, d, Ω', eH, w, r, g, k⟩ => by
  subst eH
  unfold gVar at g
  cases q : ρ[i]? with
  | none => rw [q] at g; cases g
  | some s =>
    rw [q] at g
    cases s with
    | dat d' =>
      cases g
      obtain ⟨v, e1, i1⟩ := r.dat _ _ q
      exact ⟨v, e1, k v e (Ext.refl e) w i1⟩
    | und => cases g
    | own _ => cases g
def gC (d : D) : Den := fun _ Ω => some (d, Ω)
theorem pd_c {v : V} {d : D} (h : PE X x (tC v)) (hd : ∀ α F, Is X.K α F d v) : PD X C x (gC d) := pe_imp h fun σ H Q ⟨e, Ω, ρ, d', Ω', eH, w, r, g, k⟩ => by
  subst eH
  cases g
  exact k v e (Ext.refl e) w (hd _ _)
theorem pd_int {i : Int} {j pos} : PD X C (.Constant (.int i) j pos) (gC (.int i)) := pd_c pe_int fun _ _ => by rw [Is]
theorem pd_bl {b : Bool} {j pos} : PD X C (.Constant (.bool b) j pos) (gC (.bl b)) := pd_c pe_bl fun _ _ => by rw [Is]
theorem pd_non {j pos} : PD X C (.Constant .none j pos) (gC .non) := pd_c pe_non fun _ _ => by rw [Is]
end

/-! ### two-place operations -/
def OpD (X : Cx) (C : Cl) (f : Value → Value → Sem Value) (r : D → D → Option D) : Prop :=
  OpR X f fun x y H Q => ∃ e Ω d₁ d₂ z, e.H = H ∧ Wf X.K C e Ω ∧ Is X.K e.α e.F d₁ x ∧ Is X.K e.α e.F d₂ y ∧ r d₁ d₂ = some z ∧ ∀ v e', Ext e e' → Wf X.K C e' Ω → Is X.K e'.α e'.F z v → Q v e'.H
def gOp (r : D → D → Option D) (f g : Den) : Den := fun ρ Ω => match f ρ Ω with
  | some (x, Ω₁) => match g ρ Ω₁ with
    | some (y, Ω₂) => match r x y with
      | some z => some (z, Ω₂)
      | none => none
    | none => none
  | none => none
section
variable {X : Cx} {C : Cl} {a b : Expr} {f g : Den} {r : D → D → Option D} {pos : Pos}
theorem op_read {K : PySem.W.Frag} {r' : R2} (hr : ∀ x y H Q, (∃ e Ω d₁ d₂ z, e.H = H ∧ Wf K C e Ω ∧ Is K e.α e.F d₁ x ∧ Is K e.α e.F d₂ y ∧ r d₁ d₂ = some z ∧ ∀ v e', Ext e e' → Wf K C e' Ω → Is K e'.α e'.F z v → Q v e'.H) → r' x y H Q)
    {σ : St} {H : Hp} {Q : VK} (h : tD K C (gOp r f g) σ H Q) : tOp r' (tD K C f) (tD K C g) σ H Q := by
  obtain ⟨e, Ω, ρ, d, Ω', eH, w, rl, q, k⟩ := h
  unfold gOp at q
  cases q1 : f ρ Ω with
  | none => rw [q1] at q; cases q
  | some p1 =>
    obtain ⟨x, Ω₁⟩ := p1
    rw [q1] at q
    dsimp only at q
    cases q2 : g ρ Ω₁ with
    | none => rw [q2] at q; cases q
    | some p2 =>
      obtain ⟨y, Ω₂⟩ := p2
      rw [q2] at q
      dsimp only at q
      cases q3 : r x y with
      | none => rw [q3] at q; cases q
      | some z =>
        rw [q3] at q
        cases q
        refine ⟨e, Ω, ρ, x, Ω₁, eH, w, rl, q1, fun v e1 x1 w1 i1 => ?_⟩
        refine ⟨e1, Ω₁, ρ, y, _, rfl, w1, rl.ext x1, q2, fun u e2 x2 w2 i2 => ?_⟩
        exact hr v u e2.H Q ⟨e2, _, x, y, d, rfl, w2, i1.ext x2, i2, q3, fun v' e3 x3 w3 i3 => k v' e3 ((x1.trans x2).trans x3) w3 i3⟩
theorem pd_op {op : Operator} (ho : OpD X C (binaryOp op) r) (ha : PD X C a f) (hb : PD X C b g) : PD X C (.BinOp a op b pos) (gOp r f g) :=
  pe_imp (pe_op ho ha hb) fun σ H Q h => op_read (fun _ _ _ _ h => h) h
theorem pd_cmp {op : CmpOp} (ho : OpD X C (compareOp op) r) (ha : PD X C a f) (hb : PD X C b g) (hm : behindInMarks op b = false) : PD X C (.Compare a [op] [b] pos) (gOp r f g) :=
  pe_imp (pe_cmpR ho ha hb hm) fun σ H Q h => op_read (fun _ _ _ _ h => h) h
/-- a value's truth, where it is a bool -/
def gT (g : Den) : TDen := fun ρ Ω => match g ρ Ω with
  | some (.bl b, Ω') => some (b, Ω')
  | _ => none
theorem gT_read {K : PySem.W.Frag} {σ : St} {H : Hp} {Q : Bool → Hp → Prop} (h : tDT K C (gT g) σ H Q) : tD K C g σ H fun x H' => ∃ c, x = V.bl c ∧ Q c H' := by
  obtain ⟨e, Ω, ρ, b, Ω', eH, w, rl, q, k⟩ := h
  unfold gT at q
  cases q1 : g ρ Ω with
  | none => rw [q1] at q; cases q
  | some p1 =>
    obtain ⟨x, Ω₁⟩ := p1
    rw [q1] at q
    cases x with
    | bl c =>
      cases q
      refine ⟨e, Ω, ρ, _, _, eH, w, rl, q1, fun v e1 x1 w1 i1 => ?_⟩
      rw [Is] at i1
      exact ⟨b, i1, k e1 x1 w1⟩
    | _ => cases q
theorem pdt_cmp {op : CmpOp} (ho : OpD X C (compareOp op) r) (ha : PD X C a f) (hb : PD X C b g) (hm : behindInMarks op b = false) : PDT X C (.Compare a [op] [b] pos) (gT (gOp r f g)) :=
  pt_imp (pt_cmpR ho ha hb hm) fun σ H Q h => op_read (fun _ _ _ _ h => h) (gT_read h)
theorem pdt_val {x : Expr} (h : PD X C x g) (he : ∀ whole, isTrue x X.env whole = (do let v ← whole; standAt x.pos; holding [v] (truthy v)) := by intro _; rfl) : PDT X C x (gT g) :=
  pt_imp (pt_val h he) fun σ H Q h => gT_read h
/-- ints -/
def dI (c : Int → Int → Bool) (f : Int → Int → Int) : D → D → Option D
  | .int i, .int j => if c i j = true then some (.int (f i j)) else none
  | _, _ => none
def dB (f : Int → Int → Bool) : D → D → Option D
  | .int i, .int j => some (.bl (f i j))
  | _, _ => none
theorem opD_I {h : Value → Value → Sem Value} {P : Int → Int → Prop} {c : Int → Int → Bool} {k : Int → Int → Int} (ho : OpR X h (rI P fun i j => .int (k i j))) (hc : ∀ i j, c i j = true → P i j) : OpD X C h (dI c k) := by
  intro pins s σ H x y v u Q I rx ry hw
  obtain ⟨e, Ω, d₁, d₂, z, eH, w, i1, i2, q, kk⟩ := hw
  subst eH
  refine ho pins s σ _ x y v u Q I rx ry ?_
  unfold dI at q
  cases d₁ <;> cases d₂ <;> first | cases q | skip
  rename_i i j
  dsimp only at q
  rw [Is] at i1 i2
  subst i1 i2
  split at q
  · rename_i hcc
    cases q
    exact ⟨i, j, rfl, rfl, hc i j hcc, kk _ e (Ext.refl e) w (by rw [Is])⟩
  · cases q
theorem opD_I0 {h : Value → Value → Sem Value} {k : Int → Int → Int} (ho : OpR X h (rI0 fun i j => .int (k i j))) : OpD X C h (dI (fun _ _ => true) k) := by
  intro pins s σ H x y v u Q I rx ry hw
  obtain ⟨e, Ω, d₁, d₂, z, eH, w, i1, i2, q, kk⟩ := hw
  subst eH
  refine ho pins s σ _ x y v u Q I rx ry ?_
  unfold dI at q
  cases d₁ <;> cases d₂ <;> first | cases q | skip
  rename_i i j
  rw [Is] at i1 i2
  subst i1 i2
  exact ⟨i, j, rfl, rfl, kk _ e (Ext.refl e) w (by rw [Is])⟩
theorem opD_B {h : Value → Value → Sem Value} {k : Int → Int → Bool} (ho : OpR X h (rI0 fun i j => .bl (k i j))) : OpD X C h (dB k) := by
  intro pins s σ H x y v u Q I rx ry hw
  obtain ⟨e, Ω, d₁, d₂, z, eH, w, i1, i2, q, kk⟩ := hw
  subst eH
  refine ho pins s σ _ x y v u Q I rx ry ?_
  unfold dB at q
  cases d₁ <;> cases d₂ <;> first | cases q | skip
  rename_i i j
  rw [Is] at i1 i2
  subst i1 i2
  exact ⟨i, j, rfl, rfl, kk _ e (Ext.refl e) w (by rw [Is])⟩
end
end DL
set_option Elab.async false
set_option linter.all false
set_option maxRecDepth 100000
set_option genSizeOf false
namespace DL
open PySem PySem.Spec PyProof.Rows L2

/-- how long lists and texts may grow here -/
abbrev big : Nat := 100000
theorem big_line {n : Nat} (h : n ≤ big) : n ≤ sizeLine := Nat.le_trans h (by decide)
theorem big_lt {n : Nat} (h : n < big) : n < sizeLine := Nat.lt_of_lt_of_le h (by decide)

open Classical in
/-- a bound: nothing here is reckoned by evaluation -/
noncomputable def grd {β : Type} (P : Prop) (x : Option β) : Option β := if P then x else none
theorem grd_pos {β : Type} {P : Prop} {x : Option β} (h : P) : grd P x = x := if_pos h
theorem grd_some {β : Type} {P : Prop} {x : Option β} {z : β} (h : grd P x = some z) : P ∧ x = some z := by
  by_cases q : P
  · rw [grd_pos q] at h; exact ⟨q, h⟩
  · have e : grd P x = none := if_neg q
    rw [e] at h; cases h
section
variable {X : Cx} {C : Cl} {a b c x : Expr} {f g h : Den} {r : D → D → Option D} {pos : Pos}

/-! ### the kinds of + and * -/
def addD : D → D → Option D
  | .int i, .int j => some (.int (i + j))
  | .lst xs, .lst ys => if xs.length + ys.length ≤ big then some (.lst (xs ++ ys)) else none
  | .str p, .str q => if p.length + q.length ≤ big then some (.str (p ++ q)) else none
  | _, _ => none
theorem opD_add : OpD X C (binaryOp .Add) addD := by
  intro pins s σ H x y v u Q I rx ry hw
  obtain ⟨e, Ω, d₁, d₂, z, eH, w, i1, i2, q, kk⟩ := hw
  subst eH
  unfold addD at q
  cases d₁ <;> cases d₂ <;> first | cases q | skip
  · rename_i i j
    simp only [Is] at i1 i2
    subst i1 i2
    exact op_add pins s σ _ _ _ v u Q I rx ry ⟨i, j, rfl, rfl, kk _ e (Ext.refl e) w (by rw [Is])⟩
  · rename_i i j
    dsimp only at q
    simp only [Is] at i1 i2
    subst i1 i2
    split at q
    · rename_i hl
      cases q
      exact op_add_str pins s σ _ _ _ v u Q I rx ry ⟨i, j, rfl, rfl, big_line hl, kk _ e (Ext.refl e) w (by rw [Is])⟩
    · cases q
  · rename_i xs ys
    dsimp only at q
    simp only [Is] at i1 i2
    obtain ⟨l, vs, rfl, h1, r1⟩ := i1
    obtain ⟨m, us, rfl, h2, r2⟩ := i2
    split at q
    · rename_i hl
      cases q
      refine op_cat pins s σ _ _ _ v u Q I rx ry ⟨l, m, vs, us, rfl, rfl, w.fh _ _ h1, w.fh _ _ h2, by rw [← r1.length, ← r2.length]; exact big_line hl, fun p hp => ?_⟩
      refine kk _ (e.new p _) (w.new_ext hp) (w.new hp) ?_
      rw [Is]
      exact ⟨p, _, rfl, upd_same, (r1.append r2).ext (w.new_ext hp)⟩
    · cases q
noncomputable def mulD : D → D → Option D
  | .int i, .int j => grd ((-(2 ^ 64) < i ∧ i < 2 ^ 64) ∨ (-(2 ^ 64) < j ∧ j < 2 ^ 64)) (some (.int (i * j)))
  | .lst xs, .int k => grd (-(2 ^ 62) ≤ k ∧ k < 2 ^ 62 ∧ xs.length * k.toNat ≤ big) (some (.lst (List.replicate k.toNat xs).flatten))
  | _, _ => none
theorem opD_mul : OpD X C (binaryOp .Mult) mulD := by
  intro pins s σ H x y v u Q I rx ry hw
  obtain ⟨e, Ω, d₁, d₂, z, eH, w, i1, i2, q, kk⟩ := hw
  subst eH
  unfold mulD at q
  cases d₁ <;> cases d₂ <;> first | cases q | skip
  · rename_i i j
    obtain ⟨hl, q⟩ := grd_some q
    simp only [Is] at i1 i2
    subst i1 i2
    cases q
    exact op_mul pins s σ _ _ _ v u Q I rx ry ⟨i, j, rfl, rfl, hl, kk _ e (Ext.refl e) w (by rw [Is])⟩
  · rename_i xs k
    obtain ⟨hl, q⟩ := grd_some q
    simp only [Is] at i1 i2
    obtain ⟨l, vs, rfl, h1, r1⟩ := i1
    subst i2
    cases q
    refine op_rep pins s σ _ _ _ v u Q I rx ry ⟨l, k, vs, rfl, rfl, w.fh _ _ h1, by omega, by omega, by rw [← r1.length]; exact big_line hl.2.2, fun p hp => ?_⟩
    refine kk _ (e.new p _) (w.new_ext hp) (w.new hp) ?_
    rw [Is]
    exact ⟨p, _, rfl, upd_same, (r1.rep _).ext (w.new_ext hp)⟩
abbrev subD : D → D → Option D := dI (fun _ _ => true) fun i j => i - j
theorem opD_sub : OpD X C (binaryOp .Sub) subD := opD_I0 op_sub
abbrev modD : D → D → Option D := dI (fun _ j => decide (0 < j)) fun i j => i % j
theorem opD_mod : OpD X C (binaryOp .Mod) modD := opD_I op_mod fun _ _ h => of_decide_eq_true h
abbrev divD : D → D → Option D := dI (fun _ j => decide (0 < j) && decide (j < 1073741824)) fun i j => i / j
theorem opD_div : OpD X C (binaryOp .FloorDiv) divD := opD_I op_fdiv fun _ _ h => by
  rw [Bool.and_eq_true, decide_eq_true_eq, decide_eq_true_eq] at h
  exact h
abbrev ltD : D → D → Option D := dB fun i j => decide (i < j)
theorem opD_lt : OpD X C (compareOp .Lt) ltD := opD_B op_lt
/-! ### == and in, of data of any make -/
mutual
def toP : D → PyData
  | .non => .none
  | .bl b => .bool b
  | .int i => .int i
  | .str x => .str x
  | .tup xs => .tuple (toPs xs)
  | .lst xs => .list (toPs xs)
  | .scr ns => .list (ns.map PyData.int)
  | .obj _ => .dict []
def toPs : List D → List PyData
  | [] => []
  | d :: ds => toP d :: toPs ds
end
end

section
variable {X : Cx} {pins : List (Addr × Obj)} {σ : St} {H : Hp} {s : Shared} {K : PySem.W.Frag} {α : List Addr} {F : Hp}
mutual
theorem reads_of (I : Inv X pins σ H s) (hK : K = X.K) (ff : Same F H) : ∀ (d : D) {v : V} {u : Value}, (toP d).canLay0 = true → Is K α F d v → RelV v u → ∃ as, Reads s.heap u (toP d) as
  | .non, v, u, _, h, r => by
    rw [Is] at h; subst h; cases (show u = Value.none from r); rw [toP]; exact ⟨_, .none⟩
  | .bl b, v, u, _, h, r => by
    rw [Is] at h; subst h; cases (show u = Value.bool b from r); rw [toP]; exact ⟨_, .bool b⟩
  | .int i, v, u, _, h, r => by
    rw [Is] at h; subst h; obtain ⟨t, q⟩ := (show ∃ t, u = Value.int i t from r); subst q; rw [toP]; exact ⟨_, .int i t⟩
  | .str x, v, u, _, h, r => by
    rw [Is] at h; subst h; obtain ⟨t, q⟩ := (show ∃ t, u = Value.str x t from r); subst q; rw [toP]; exact ⟨_, .str x t⟩
  | .tup xs, v, u, hc, h, r => by
    rw [Is] at h
    obtain ⟨a, vs, rfl, e, q⟩ := h
    cases (show u = Value.ref a from r)
    obtain ⟨_, its, rv, o, e1, e2, n, e3⟩ := (show ObjOk X.prog X.w H s.heap a (.tup vs) from I.hok a _ (ff _ _ e))
    rw [toP] at hc ⊢
    obtain ⟨as, z⟩ := readsL_of I hK ff xs (by simpa [PyData.canLay0] using hc) q rv
    exact ⟨as, .tuple e1 e2 e3 (by simpa using z)⟩
  | .lst xs, v, u, hc, h, r => by
    rw [Is] at h
    obtain ⟨a, vs, rfl, e, q⟩ := h
    cases (show u = Value.ref a from r)
    obtain ⟨_, its, n, rv, e1⟩ := (show ObjOk X.prog X.w H s.heap a (.lst vs) from I.hok a _ (ff _ _ e))
    rw [toP] at hc ⊢
    obtain ⟨as, z⟩ := readsL_of I hK ff xs (by simpa [PyData.canLay0] using hc) q rv
    exact ⟨_, .list e1 rfl rfl (by simpa using z)⟩
  | .scr ns, v, u, hc, h, r => by
    rw [Is] at h
    obtain ⟨a, rfl, q⟩ := h
    cases (show u = Value.ref a from r)
    subst hK
    obtain ⟨its, rv, pl, _⟩ := I.list (ff.seq q)
    rw [toP]
    exact ⟨_, reads_newData pl.isList (PySem.W.ke_carried (intsAre_of rv))⟩
  | .obj n, v, u, hc, h, r => by rw [toP] at hc; simp [PyData.canLay0] at hc
theorem readsL_of (I : Inv X pins σ H s) (hK : K = X.K) (ff : Same F H) : ∀ (ds : List D) {vs : List V} {us : List Value}, PyData.canLayAll0 (toPs ds) = true → IsL K α F ds vs → Vals vs us → ∃ as, ReadsAll s.heap us (toPs ds) as
  | [], vs, us, _, h, r => by
    rw [h.of_nil] at r; cases r; rw [toPs]; exact ⟨_, .nil⟩
  | d :: ds, vs, us, hc, h, r => by
    obtain ⟨v, t, rfl, h1, h2⟩ := h.of_cons
    cases r with
    | cons r1 r2 =>
      rw [toPs] at hc ⊢
      have hc' : (toP d).canLay0 = true ∧ PyData.canLayAll0 (toPs ds) = true := by simpa [PyData.canLayAll0] using hc
      obtain ⟨as, z1⟩ := reads_of I hK ff d hc'.1 h1 r1
      obtain ⟨bs, z2⟩ := readsL_of I hK ff ds hc'.2 h2 r2
      exact ⟨_, .cons z1 z2⟩
end
end
end DL
set_option Elab.async false
set_option linter.all false
set_option maxRecDepth 100000
set_option genSizeOf false
namespace DL
open PySem PySem.Spec PyProof.Rows L2

section
variable {X : Cx} {C : Cl} {a b c x : Expr} {f g h : Den} {r : D → D → Option D} {pos : Pos}
/-! ### ==, != -/
def eqD (neg : Bool) (p q : D) : Option D := if SeqAt.shaped (toP p) && SeqAt.shaped (toP q) then some (.bl (if neg then !PyData.eqv (toP p) (toP q) else PyData.eqv (toP p) (toP q))) else none
theorem opD_eq (hu : X.A.units + 64 < cLine) : OpD X C (compareOp .Eq) (eqD false) := by
  intro pins s σ H x y v u Q I rx ry hw
  obtain ⟨e, Ω, d₁, d₂, z, eH, w, i1, i2, q, kk⟩ := hw
  subst eH
  unfold eqD at q
  split at q
  · rename_i hs
    rw [Bool.and_eq_true] at hs
    cases q
    obtain ⟨as, r1⟩ := reads_of I rfl w.fh d₁ (SeqAt.canLay_of_shaped hs.1) i1 rx
    obtain ⟨bs, r2⟩ := reads_of I rfl w.fh d₂ (SeqAt.canLay_of_shaped hs.2) i2 ry
    exact eq_dataH r1 r2 hs.1 hs.2 hu ⟨.bl _, e.H, I, rfl, kk _ e (Ext.refl e) w (by rw [Is]; rfl)⟩
  · cases q
theorem opD_ne (hu : X.A.units + 64 < cLine) : OpD X C (compareOp .NotEq) (eqD true) := by
  intro pins s σ H x y v u Q I rx ry hw
  obtain ⟨e, Ω, d₁, d₂, z, eH, w, i1, i2, q, kk⟩ := hw
  subst eH
  unfold eqD at q
  split at q
  · rename_i hs
    rw [Bool.and_eq_true] at hs
    cases q
    obtain ⟨as, r1⟩ := reads_of I rfl w.fh d₁ (SeqAt.canLay_of_shaped hs.1) i1 rx
    obtain ⟨bs, r2⟩ := reads_of I rfl w.fh d₂ (SeqAt.canLay_of_shaped hs.2) i2 ry
    exact ne_dataH r1 r2 hs.1 hs.2 hu ⟨.bl _, e.H, I, rfl, kk _ e (Ext.refl e) w (by rw [Is]; rfl)⟩
  · cases q
/-! ### is -/
def isNone : D → Bool
  | .non => true
  | _ => false
def isD (neg : Bool) : D → D → Option D
  | p, .non => some (.bl (if neg then !isNone p else isNone p))
  | .bl p, .bl q => some (.bl (if neg then !(p == q) else p == q))
  | .non, .bl q => some (.bl neg)
  | .int _, .bl q => some (.bl neg)
  | .tup _, .bl q => some (.bl neg)
  | .lst _, .bl q => some (.bl neg)
  | _, _ => none
theorem none_iff {K : PySem.W.Frag} {α : List Addr} {F : Hp} {d : D} {v : V} (h : Is K α F d v) : decide (v = .non) = isNone d := by
  cases d <;> rw [Is] at h
  · subst h; rfl
  · subst h; rfl
  · subst h; rfl
  · subst h; rfl
  · obtain ⟨a, vs, rfl, _⟩ := h; rfl
  · obtain ⟨a, vs, rfl, _⟩ := h; rfl
  · obtain ⟨a, rfl, _⟩ := h; rfl
  · obtain ⟨a, _, rfl⟩ := h; rfl
theorem opD_is : OpD X C (compareOp .Is) (isD false) := by
  intro pins s σ H x y v u Q I rx ry hw
  obtain ⟨e, Ω, d₁, d₂, z, eH, w, i1, i2, q, kk⟩ := hw
  subst eH
  have fin : ∀ {k : Bool}, some z = some (D.bl k) → EP X pins σ Q (.bool k) s := fun {k} hz => by
    cases hz
    exact ⟨.bl k, e.H, I, rfl, kk _ e (Ext.refl e) w (by rw [Is])⟩
  unfold isD at q
  cases d₂ with
  | non =>
    rw [Is] at i2
    subst i2
    refine op_isN pins s σ _ _ _ v u Q I rx ry ⟨rfl, ?_⟩
    rw [none_iff i1]
    have q' : some (D.bl (isNone d₁)) = some z := by cases d₁ <;> exact q
    cases q'
    exact kk _ e (Ext.refl e) w (by rw [Is])
  | bl p =>
    rw [Is] at i2
    subst i2
    cases (show u = Value.bool p from ry)
    cases d₁ with
    | bl p' =>
      rw [Is] at i1
      subst i1
      cases (show v = Value.bool p' from rx)
      refine wpAny_is_plain rfl ?_
      have : (Value.bool p' == Value.bool p) = (p' == p) := by cases p' <;> cases p <;> rfl
      rw [this]
      exact fin q.symm
    | non =>
      rw [Is] at i1
      subst i1
      cases (show v = Value.none from rx)
      exact wpAny_is_other rfl (by intro z; cases z) (fin q.symm)
    | int i =>
      rw [Is] at i1
      subst i1
      obtain ⟨t, rfl⟩ := (show ∃ t, v = Value.int i t from rx)
      exact wpAny_is_other rfl (by intro z; cases z) (fin q.symm)
    | tup _ =>
      rw [Is] at i1
      obtain ⟨l, vs, rfl, _⟩ := i1
      cases (show v = Value.ref l from rx)
      exact wpAny_is_other rfl (by intro z; cases z) (fin q.symm)
    | lst _ =>
      rw [Is] at i1
      obtain ⟨l, vs, rfl, _⟩ := i1
      cases (show v = Value.ref l from rx)
      exact wpAny_is_other rfl (by intro z; cases z) (fin q.symm)
    | _ => cases q
  | _ => cases d₁ <;> cases q
theorem opD_isnot : OpD X C (compareOp .IsNot) (isD true) := by
  intro pins s σ H x y v u Q I rx ry hw
  obtain ⟨e, Ω, d₁, d₂, z, eH, w, i1, i2, q, kk⟩ := hw
  subst eH
  have fin : ∀ {k : Bool}, some z = some (D.bl k) → EP X pins σ Q (.bool k) s := fun {k} hz => by
    cases hz
    exact ⟨.bl k, e.H, I, rfl, kk _ e (Ext.refl e) w (by rw [Is])⟩
  unfold isD at q
  cases d₂ with
  | non =>
    rw [Is] at i2
    subst i2
    refine op_notN pins s σ _ _ _ v u Q I rx ry ⟨rfl, ?_⟩
    rw [none_iff i1]
    have q' : some (D.bl (!isNone d₁)) = some z := by cases d₁ <;> exact q
    cases q'
    exact kk _ e (Ext.refl e) w (by rw [Is])
  | bl p =>
    rw [Is] at i2
    subst i2
    cases (show u = Value.bool p from ry)
    cases d₁ with
    | bl p' =>
      rw [Is] at i1
      subst i1
      cases (show v = Value.bool p' from rx)
      refine wpAny_isNot_plain rfl ?_
      have : (Value.bool p' == Value.bool p) = (p' == p) := by cases p' <;> cases p <;> rfl
      rw [this]
      exact fin q.symm
    | non =>
      rw [Is] at i1
      subst i1
      cases (show v = Value.none from rx)
      exact wpAny_isNot_other rfl (by intro z; cases z) (fin q.symm)
    | int i =>
      rw [Is] at i1
      subst i1
      obtain ⟨t, rfl⟩ := (show ∃ t, v = Value.int i t from rx)
      exact wpAny_isNot_other rfl (by intro z; cases z) (fin q.symm)
    | tup _ =>
      rw [Is] at i1
      obtain ⟨l, vs, rfl, _⟩ := i1
      cases (show v = Value.ref l from rx)
      exact wpAny_isNot_other rfl (by intro z; cases z) (fin q.symm)
    | lst _ =>
      rw [Is] at i1
      obtain ⟨l, vs, rfl, _⟩ := i1
      cases (show v = Value.ref l from rx)
      exact wpAny_isNot_other rfl (by intro z; cases z) (fin q.symm)
    | _ => cases q
  | _ => cases d₁ <;> cases q

/-! ### and, or, not, if -/
def gAndT (p q : TDen) : TDen := fun ρ Ω => match p ρ Ω with
  | some (true, Ω') => q ρ Ω'
  | some (false, Ω') => some (false, Ω')
  | none => none
def gOrT (p q : TDen) : TDen := fun ρ Ω => match p ρ Ω with
  | some (true, Ω') => some (true, Ω')
  | some (false, Ω') => q ρ Ω'
  | none => none
def gNotT (p : TDen) : TDen := fun ρ Ω => match p ρ Ω with
  | some (k, Ω') => some (!k, Ω')
  | none => none
variable {p q : TDen} {rest : List Expr}
theorem and_read {K : PySem.W.Frag} {σ : St} {H : Hp} {Q : Bool → Hp → Prop} (hw : tDT K C (gAndT p q) σ H Q) : tAnd (tDT K C p) (tDT K C q) σ H Q := by
  obtain ⟨e, Ω, ρ, k, Ω', eH, w, rl, e1, kk⟩ := hw
  unfold gAndT at e1
  cases e2 : p ρ Ω with
  | none => rw [e2] at e1; cases e1
  | some z =>
    obtain ⟨k1, Ω1⟩ := z
    rw [e2] at e1
    refine ⟨e, Ω, ρ, k1, Ω1, eH, w, rl, e2, fun e' x' w' => ?_⟩
    cases k1 with
    | true =>
      rw [if_pos rfl]
      exact ⟨e', Ω1, ρ, k, Ω', rfl, w', rl.ext x', e1, fun e'' x'' w'' => kk e'' (x'.trans x'') w''⟩
    | false =>
      rw [if_neg (by decide)]
      cases e1
      exact kk e' x' w'
theorem or_read {K : PySem.W.Frag} {σ : St} {H : Hp} {Q : Bool → Hp → Prop} (hw : tDT K C (gOrT p q) σ H Q) : tOr (tDT K C p) (tDT K C q) σ H Q := by
  obtain ⟨e, Ω, ρ, k, Ω', eH, w, rl, e1, kk⟩ := hw
  unfold gOrT at e1
  cases e2 : p ρ Ω with
  | none => rw [e2] at e1; cases e1
  | some z =>
    obtain ⟨k1, Ω1⟩ := z
    rw [e2] at e1
    refine ⟨e, Ω, ρ, k1, Ω1, eH, w, rl, e2, fun e' x' w' => ?_⟩
    cases k1 with
    | true =>
      rw [if_pos rfl]
      cases e1
      exact kk e' x' w'
    | false =>
      rw [if_neg (by decide)]
      exact ⟨e', Ω1, ρ, k, Ω', rfl, w', rl.ext x', e1, fun e'' x'' w'' => kk e'' (x'.trans x'') w''⟩
theorem pdw_and1 (ha : PDT X C a p) : PDW X C (.BoolOp .And [a] pos) p := pw_and1 ha
theorem pdw_or1 (ha : PDT X C a p) : PDW X C (.BoolOp .Or [a] pos) p := pw_or1 ha
theorem pdw_and (ha : PDT X C a p) (hb : PDW X C (.BoolOp .And (b :: rest) pos) q) : PDW X C (.BoolOp .And (a :: b :: rest) pos) (gAndT p q) := pw_imp (pw_and ha hb) fun _ _ _ h => and_read h
theorem pdw_or (ha : PDT X C a p) (hb : PDW X C (.BoolOp .Or (b :: rest) pos) q) : PDW X C (.BoolOp .Or (a :: b :: rest) pos) (gOrT p q) := pw_imp (pw_or ha hb) fun _ _ _ h => or_read h
theorem PDW.pt (h : PDW X C x p) : PDT X C x p := PW.pt h
theorem pdt_not (ha : PDT X C a p) : PDT X C (.UnaryOp .Not a pos) (gNotT p) := pt_imp (pt_not ha) fun σ H Q ⟨e, Ω, ρ, k, Ω', eH, w, rl, e1, kk⟩ => by
  unfold gNotT at e1
  cases e2 : p ρ Ω with
  | none => rw [e2] at e1; cases e1
  | some z =>
    obtain ⟨k1, Ω1⟩ := z
    rw [e2] at e1
    cases e1
    exact ⟨e, Ω, ρ, k1, _, eH, w, rl, e2, kk⟩
/-- as values: bools -/
def gAndV (f g : Den) : Den := fun ρ Ω => match f ρ Ω with
  | some (.bl true, Ω') => g ρ Ω'
  | some (.bl false, Ω') => some (.bl false, Ω')
  | _ => none
def gNotV (f : Den) : Den := fun ρ Ω => match f ρ Ω with
  | some (.bl k, Ω') => some (.bl (!k), Ω')
  | _ => none
theorem pd_one {op} (h : PD X C a f) : PD X C (.BoolOp op [a] pos) f := pe_one h
theorem pd_and (ha : PD X C a f) (hb : PD X C (.BoolOp .And (b :: rest) pos) g) : PD X C (.BoolOp .And (a :: b :: rest) pos) (gAndV f g) := pe_imp (pe_and ha hb) fun σ H Q ⟨e, Ω, ρ, d, Ω', eH, w, rl, e1, kk⟩ => by
  unfold gAndV at e1
  cases e2 : f ρ Ω with
  | none => rw [e2] at e1; cases e1
  | some z =>
    obtain ⟨d1, Ω1⟩ := z
    rw [e2] at e1
    refine ⟨e, Ω, ρ, d1, Ω1, eH, w, rl, e2, fun v e' x' w' i' => ?_⟩
    cases d1 with
    | bl k1 =>
      rw [Is] at i'
      refine ⟨k1, i', ?_⟩
      cases k1 with
      | true =>
        rw [if_pos rfl]
        exact ⟨e', Ω1, ρ, d, Ω', rfl, w', rl.ext x', e1, fun v e'' x'' w'' => kk v e'' (x'.trans x'') w''⟩
      | false =>
        rw [if_neg (by decide)]
        cases e1
        exact kk _ e' x' w' (by rw [Is])
    | _ => cases e1
theorem pd_not (ha : PD X C a f) : PD X C (.UnaryOp .Not a pos) (gNotV f) := pe_imp (pe_not ha) fun σ H Q ⟨e, Ω, ρ, d, Ω', eH, w, rl, e1, kk⟩ => by
  unfold gNotV at e1
  cases e2 : f ρ Ω with
  | none => rw [e2] at e1; cases e1
  | some z =>
    obtain ⟨d1, Ω1⟩ := z
    rw [e2] at e1
    refine ⟨e, Ω, ρ, d1, Ω1, eH, w, rl, e2, fun v e' x' w' i' => ?_⟩
    cases d1 with
    | bl k1 =>
      rw [Is] at i'
      cases e1
      exact ⟨k1, i', kk _ e' x' w' (by rw [Is])⟩
    | _ => cases e1
end
end DL
set_option Elab.async false
set_option linter.all false
set_option maxRecDepth 100000
set_option genSizeOf false
namespace DL
open PySem PySem.Spec PyProof.Rows L2

section
variable {X : Cx} {C : Cl} {a b c x : Expr} {es : List Expr} {f g h : Den} {ga : ADen} {pos : Pos}
/-! ### argument lists, displays -/
def gNil : ADen := fun _ Ω => some ([], Ω)
def gCons (f : Den) (g : ADen) : ADen := fun ρ Ω => match f ρ Ω with
  | some (d, Ω1) => match g ρ Ω1 with
    | some (ds, Ω2) => some (d :: ds, Ω2)
    | none => none
  | none => none
theorem pda_nil : PDA X C [] gNil := pa_imp pa_nil fun σ H Q ⟨e, Ω, ρ, ds, Ω', eH, w, rl, e1, kk⟩ => by
  subst eH
  cases e1
  exact kk [] e (Ext.refl e) w .nil
theorem pda_cons (ha : PD X C x f) (hr : PDA X C es ga) (hs : starEach (x :: es) X.env = (false, eval x X.env) :: starEach es X.env := by rfl) : PDA X C (x :: es) (gCons f ga) :=
  pa_imp (pa_cons ha hr hs) fun σ H Q ⟨e, Ω, ρ, ds, Ω', eH, w, rl, e1, kk⟩ => by
    unfold gCons at e1
    cases q1 : f ρ Ω with
    | none => rw [q1] at e1; cases e1
    | some p1 =>
      obtain ⟨d, Ω1⟩ := p1
      rw [q1] at e1
      dsimp only at e1
      cases q2 : ga ρ Ω1 with
      | none => rw [q2] at e1; cases e1
      | some p2 =>
        obtain ⟨ds', Ω2⟩ := p2
        rw [q2] at e1
        cases e1
        refine ⟨e, Ω, ρ, d, Ω1, eH, w, rl, q1, fun v e' x' w' i' => ?_⟩
        exact ⟨e', Ω1, ρ, ds', _, rfl, w', rl.ext x', q2, fun vs e'' x'' w'' i'' => kk _ e'' (x'.trans x'') w'' (.cons (i'.ext x'') i'')⟩
def gTup (g : ADen) : Den := fun ρ Ω => match g ρ Ω with
  | some (ds, Ω') => if ds.length ≤ big then some (.tup ds, Ω') else none
  | none => none
def gLst (g : ADen) : Den := fun ρ Ω => match g ρ Ω with
  | some (ds, Ω') => if ds.length ≤ big then some (.lst ds, Ω') else none
  | none => none
theorem pd_tup {x1} (ha : PDA X C es ga) : PD X C (.Tuple es x1 pos) (gTup ga) := pe_imp (pe_tup ha) fun σ H Q ⟨e, Ω, ρ, d, Ω', eH, w, rl, e1, kk⟩ => by
  unfold gTup at e1
  cases q1 : ga ρ Ω with
  | none => rw [q1] at e1; cases e1
  | some p1 =>
    obtain ⟨ds, Ω1⟩ := p1
    rw [q1] at e1
    dsimp only at e1
    split at e1
    · rename_i hl
      cases e1
      refine ⟨e, Ω, ρ, ds, _, eH, w, rl, q1, fun vs e' x' w' i' => ⟨by rw [← i'.length]; exact big_line hl, fun p hp => ?_⟩⟩
      refine kk _ (e'.new p (.tup vs)) (x'.trans (w'.new_ext hp)) (w'.new hp) ?_
      rw [Is]
      exact ⟨p, vs, rfl, upd_same, i'.ext (w'.new_ext hp)⟩
    · cases e1
theorem pd_lst (ha : PDA X C es ga) : PD X C (.List es pos) (gLst ga) := pe_imp (pe_lst ha) fun σ H Q ⟨e, Ω, ρ, d, Ω', eH, w, rl, e1, kk⟩ => by
  unfold gLst at e1
  cases q1 : ga ρ Ω with
  | none => rw [q1] at e1; cases e1
  | some p1 =>
    obtain ⟨ds, Ω1⟩ := p1
    rw [q1] at e1
    dsimp only at e1
    split at e1
    · rename_i hl
      cases e1
      refine ⟨e, Ω, ρ, ds, _, eH, w, rl, q1, fun vs e' x' w' i' => ⟨by rw [← i'.length]; exact big_line hl, fun p hp => ?_⟩⟩
      refine kk _ (e'.new p (.lst vs)) (x'.trans (w'.new_ext hp)) (w'.new hp) ?_
      rw [Is]
      exact ⟨p, vs, rfl, upd_same, i'.ext (w'.new_ext hp)⟩
    · cases e1

/-! ### a[i] -/
def ixD : D → D → Option D
  | .lst xs, .int i => atI xs i
  | .tup xs, .int i => atI xs i
  | .scr ns, .int i => (atI ns i).map D.int
  | .str z, .int i => if z.length ≤ big then (atI z.cps.toList i).map fun c => D.str ⟨#[c]⟩ else none
  | _, _ => none
theorem atI_is {K : PySem.W.Frag} {α : List Addr} {F : Hp} {ds : List D} {vs : List V} {i : Int} {d : D} (r : IsL K α F ds vs) (h : atI ds i = some d) : ∃ v, atI vs i = some v ∧ Is K α F d v := by
  unfold atI at h ⊢
  rw [← r.length]
  cases q : ixN ds.length i with
  | none => rw [q] at h; cases h
  | some j =>
    rw [q] at h
    exact r.get h
theorem ixD_read {K : PySem.W.Frag} : ∀ x y H Q, (∃ e Ω d₁ d₂ z, e.H = H ∧ Wf K C e Ω ∧ Is K e.α e.F d₁ x ∧ Is K e.α e.F d₂ y ∧ ixD d₁ d₂ = some z ∧ ∀ v e', Ext e e' → Wf K C e' Ω → Is K e'.α e'.F z v → Q v e'.H) → rIx K x y H Q := by
  intro x y H Q ⟨e, Ω, d₁, d₂, z, eH, w, i1, i2, q, kk⟩
  subst eH
  unfold ixD at q
  cases d₁ <;> cases d₂ <;> first | cases q | skip
  · rename_i zz i
    dsimp only at q
    simp only [Is] at i1 i2
    subst i1 i2
    split at q
    · rename_i hl
      cases e2 : atI zz.cps.toList i with
      | none => rw [e2] at q; cases q
      | some c =>
        rw [e2] at q
        cases q
        exact .inr (.inr ⟨zz, i, c, rfl, rfl, big_line hl, e2, kk _ e (Ext.refl e) w (by rw [Is])⟩)
    · cases q
  · rename_i xs i
    simp only [Is] at i1 i2
    obtain ⟨p, vs, rfl, h1, r1⟩ := i1
    subst i2
    obtain ⟨v, e1, i3⟩ := atI_is r1 q
    exact .inr (.inl ⟨p, vs, i, v, rfl, rfl, SqT.of (w.fh _ _ h1), e1, kk v e (Ext.refl e) w i3⟩)
  · rename_i xs i
    simp only [Is] at i1 i2
    obtain ⟨p, vs, rfl, h1, r1⟩ := i1
    subst i2
    obtain ⟨v, e1, i3⟩ := atI_is r1 q
    exact .inl ⟨p, vs, i, v, rfl, rfl, SqL.of (w.fh _ _ h1), e1, kk v e (Ext.refl e) w i3⟩
  · rename_i ns i
    simp only [Is] at i1 i2
    obtain ⟨p, rfl, h1⟩ := i1
    subst i2
    dsimp only at q
    cases e2 : atI ns i with
    | none => rw [e2] at q; cases q
    | some n =>
      rw [e2] at q
      cases q
      refine .inl ⟨p, ns.map V.int, i, .int n, rfl, rfl, w.fh.seq h1, ?_, kk _ e (Ext.refl e) w (by rw [Is])⟩
      unfold atI at e2 ⊢
      rw [List.length_map]
      cases e3 : ixN ns.length i with
      | none => rw [e3] at e2; cases e2
      | some j =>
        rw [e3] at e2
        show (ns.map V.int)[j]? = _
        rw [List.getElem?_map, show ns[j]? = some n from e2]
        rfl
theorem pd_ix (ha : PD X C a f) (hb : PD X C b g) (hs : PlainIx b := by intro _ _; rfl) : PD X C (.Subscript a b pos) (gOp ixD f g) :=
  pe_imp (pe_ix ix_seq ha hb hs) fun σ H Q hw => op_read ixD_read hw

/-! ### a[lo:hi] -/
abbrev PDen := List Sl → List OS → Option (Option Int × List OS)
def gNoPart : PDen := fun _ Ω => some (none, Ω)
def gPart (g : Den) : PDen := fun ρ Ω => match g ρ Ω with
  | some (.int i, Ω') => some (some i, Ω')
  | _ => none
def tDO (K : PySem.W.Frag) (C : Cl) (g : PDen) : TO := fun σ H Q => ∃ e Ω ρ o Ω', e.H = H ∧ Wf K C e Ω ∧ RelE K e σ ρ ∧ g ρ Ω = some (o, Ω') ∧ ∀ e', Ext e e' → Wf K C e' Ω' → Q o e'.H
def PDO (X : Cx) (C : Cl) (e : Option Expr) (g : PDen) : Prop := PO X e (tDO X.K C g)
theorem po_imp {o : Option Expr} {t t' : TO} (h : PO X o t) (i : ∀ σ H Q, t' σ H Q → t σ H Q) : PO X o t' := fun pins s σ H Q I hw => h pins s σ H Q I (i σ H Q hw)
theorem pdo_none : PDO X C none gNoPart := po_imp po_none fun σ H Q ⟨e, Ω, ρ, o, Ω', eH, w, rl, e1, kk⟩ => by
  subst eH
  cases e1
  exact kk e (Ext.refl e) w
theorem pdo_some (h : PD X C x g) : PDO X C (some x) (gPart g) := po_imp (po_some h) fun σ H Q ⟨e, Ω, ρ, o, Ω', eH, w, rl, e1, kk⟩ => by
  unfold gPart at e1
  cases q1 : g ρ Ω with
  | none => rw [q1] at e1; cases e1
  | some p1 =>
    obtain ⟨d, Ω1⟩ := p1
    rw [q1] at e1
    cases d with
    | int i =>
      cases e1
      refine ⟨e, Ω, ρ, _, _, eH, w, rl, q1, fun v e' x' w' i' => ?_⟩
      rw [Is] at i'
      exact ⟨i, i', kk e' x' w'⟩
    | _ => cases e1
def cutL {β : Type} (xs : List β) (lo hi : Option Int) : List β := (xs.drop (HT.sIx xs.length 0 lo)).take (HT.sIx xs.length xs.length hi - HT.sIx xs.length 0 lo)
def slD : D → Option Int → Option Int → Option D
  | .lst xs, lo, hi => some (.lst (cutL xs lo hi))
  | .scr ns, lo, hi => some (.lst ((cutL ns lo hi).map D.int))
  | _, _, _ => none
def gSl (f : Den) (lo hi : PDen) : Den := fun ρ Ω => match f ρ Ω with
  | some (d, Ω1) => match lo ρ Ω1 with
    | some (l, Ω2) => match hi ρ Ω2 with
      | some (u, Ω3) => match slD d l u with
        | some z => some (z, Ω3)
        | none => none
      | none => none
    | none => none
  | none => none
theorem pd_sl {lo hi : Option Expr} {gl gh : PDen} {p2 : Pos} (ha : PD X C a f) (hl : PDO X C lo gl) (hh : PDO X C hi gh) : PD X C (.Subscript a (.Slice lo hi none p2) pos) (gSl f gl gh) :=
  pe_imp (pe_slice sl_list ha hl hh) fun σ H Q ⟨e, Ω, ρ, d, Ω', eH, w, rl, e1, kk⟩ => by
    unfold gSl at e1
    cases q1 : f ρ Ω with
    | none => rw [q1] at e1; cases e1
    | some p1 =>
      obtain ⟨d1, Ω1⟩ := p1
      rw [q1] at e1
      dsimp only at e1
      cases q2 : gl ρ Ω1 with
      | none => rw [q2] at e1; cases e1
      | some p2 =>
        obtain ⟨l, Ω2⟩ := p2
        rw [q2] at e1
        dsimp only at e1
        cases q3 : gh ρ Ω2 with
        | none => rw [q3] at e1; cases e1
        | some p3 =>
          obtain ⟨u, Ω3⟩ := p3
          rw [q3] at e1
          dsimp only at e1
          cases q4 : slD d1 l u with
          | none => rw [q4] at e1; cases e1
          | some z =>
            rw [q4] at e1
            cases e1
            refine ⟨e, Ω, ρ, d1, Ω1, eH, w, rl, q1, fun v e' x' w' i' => ?_⟩
            refine ⟨e', Ω1, ρ, l, Ω2, rfl, w', rl.ext x', q2, fun e2 x2 w2 => ?_⟩
            refine ⟨e2, Ω2, ρ, u, _, rfl, w2, (rl.ext x').ext x2, q3, fun e3 x3 w3 => ?_⟩
            have i3 := i'.ext (x2.trans x3)
            unfold slD at q4
            cases d1 with
            | lst xs =>
              cases q4
              rw [Is] at i3
              obtain ⟨p, vs, rfl, h1, r1⟩ := i3
              refine ⟨p, vs, rfl, SqL.of (w3.fh _ _ h1), fun p' hp => ?_⟩
              refine kk _ (e3.new p' _) (((x'.trans x2).trans x3).trans (w3.new_ext hp)) (w3.new hp) ?_
              rw [Is]
              refine ⟨p', _, rfl, upd_same, ?_⟩
              unfold cutL cutV
              rw [← r1.length]
              exact ((r1.drop _).take _).ext (w3.new_ext hp)
            | scr ns =>
              cases q4
              rw [Is] at i3
              obtain ⟨p, rfl, h1⟩ := i3
              refine ⟨p, _, rfl, w3.fh.seq h1, fun p' hp => ?_⟩
              refine kk _ (e3.new p' _) (((x'.trans x2).trans x3).trans (w3.new_ext hp)) (w3.new hp) ?_
              rw [Is]
              refine ⟨p', _, rfl, upd_same, ?_⟩
              unfold cutL cutV
              rw [List.length_map, List.map_take, List.map_drop]
              exact (((IsL.ints ns).drop _).take _)
            | _ => cases q4

/-! ### calls of built-ins -/
def CallD (X : Cx) (C : Cl) (f : Value) (r : List D → Option D) : Prop :=
  CallR X f fun xs H Q => ∃ e Ω ds z, e.H = H ∧ Wf X.K C e Ω ∧ IsL X.K e.α e.F ds xs ∧ r ds = some z ∧ ∀ v e', Ext e e' → Wf X.K C e' Ω → Is X.K e'.α e'.F z v → Q v e'.H
def gCB (r : List D → Option D) (g : ADen) : Den := fun ρ Ω => match g ρ Ω with
  | some (ds, Ω1) => match r ds with
    | some z => some (z, Ω1)
    | none => none
  | none => none
theorem cb_read {K : PySem.W.Frag} {r : List D → Option D} {σ : St} {H : Hp} {Q : VK} (hw : tD K C (gCB r ga) σ H Q) :
    tCB (fun xs H Q => ∃ e Ω ds z, e.H = H ∧ Wf K C e Ω ∧ IsL K e.α e.F ds xs ∧ r ds = some z ∧ ∀ v e', Ext e e' → Wf K C e' Ω → Is K e'.α e'.F z v → Q v e'.H) (tDA K C ga) σ H Q := by
  obtain ⟨e, Ω, ρ, d, Ω', eH, w, rl, e1, kk⟩ := hw
  unfold gCB at e1
  cases q1 : ga ρ Ω with
  | none => rw [q1] at e1; cases e1
  | some p1 =>
    obtain ⟨ds, Ω1⟩ := p1
    rw [q1] at e1
    dsimp only at e1
    cases q2 : r ds with
    | none => rw [q2] at e1; cases e1
    | some z =>
      rw [q2] at e1
      cases e1
      exact ⟨e, Ω, ρ, ds, _, eH, w, rl, q1, fun vs e' x' w' i' => ⟨e', _, ds, _, rfl, w', i', q2, fun v e'' x'' w'' => kk v e'' (x'.trans x'') w''⟩⟩
theorem pd_callB {id : String} {n : Str} {p : Pos} {r : List D → Option D} (hc : CallD X C (.builtin id) r) (hg : Gl X n) (hm : X.mg n = none) (hv : bootBuiltins n = some (.builtin id)) (ha : PDA X C (x :: es) ga) (hn : n ≠ "__name__" := by decide) (hdb : (n == ("__debug__" : Str)) = false := by decide)
    (he : starEach (x :: es) X.env = (false, eval x X.env) :: starEach es X.env := by rfl) (hpl : (backTo pos (starEach es X.env)).any (·.1) = false := by rfl) : PD X C (.Call (.Name n p) (x :: es) [] pos) (gCB r ga) :=
  pe_imp (pe_callB hc hg hm hv ha hn hdb he hpl) fun _ _ _ hw => cb_read hw
theorem pd_callTy {T : String} {n : Str} {p : Pos} {r : List D → Option D} (hc : CallD X C (.type T) r) (hg : Gl X n) (hm : X.mg n = none) (hv : bootBuiltins n = some (.type T)) (ha : PDA X C (x :: es) ga) (hn : n ≠ "__name__" := by decide) (hdb : (n == ("__debug__" : Str)) = false := by decide)
    (he : starEach (x :: es) X.env = (false, eval x X.env) :: starEach es X.env := by rfl) (hpl : (backTo pos (starEach es X.env)).any (·.1) = false := by rfl) : PD X C (.Call (.Name n p) (x :: es) [] pos) (gCB r ga) :=
  pe_imp (pe_callTy hc hg hm hv ha hn hdb he hpl) fun _ _ _ hw => cb_read hw
theorem isL_one {K : PySem.W.Frag} {α : List Addr} {F : Hp} {d : D} {vs : List V} (h : IsL K α F [d] vs) : ∃ v, vs = [v] ∧ Is K α F d v := by
  obtain ⟨v, r, rfl, i, t⟩ := h.of_cons
  rw [t.of_nil]
  exact ⟨v, rfl, i⟩
theorem isL_two {K : PySem.W.Frag} {α : List Addr} {F : Hp} {d d' : D} {vs : List V} (h : IsL K α F [d, d'] vs) : ∃ v u, vs = [v, u] ∧ Is K α F d v ∧ Is K α F d' u := by
  obtain ⟨v, r, rfl, i, t⟩ := h.of_cons
  obtain ⟨u, rfl, i2⟩ := isL_one t
  exact ⟨v, u, rfl, i, i2⟩
def lenD : List D → Option D
  | [.lst xs] => some (.int xs.length)
  | [.tup xs] => some (.int xs.length)
  | [.scr ns] => some (.int ns.length)
  | [.str z] => if z.length ≤ big then some (.int z.length) else none
  | _ => none
theorem callD_len : CallD X C (.builtin "len") lenD := by
  intro pins s σ H xs us Q I r hw
  obtain ⟨e, Ω, ds, z, eH, w, i, q, kk⟩ := hw
  subst eH
  match ds, q with
  | [.lst ys], q =>
    obtain ⟨v, rfl, iv⟩ := isL_one i
    rw [Is] at iv
    obtain ⟨p, vs, rfl, h1, r1⟩ := iv
    cases q
    exact call_len_seq pins s σ _ _ us Q I r ⟨p, vs, rfl, .inl (SqL.of (w.fh _ _ h1)), kk _ e (Ext.refl e) w (by rw [Is, r1.length])⟩
  | [.tup ys], q =>
    obtain ⟨v, rfl, iv⟩ := isL_one i
    rw [Is] at iv
    obtain ⟨p, vs, rfl, h1, r1⟩ := iv
    cases q
    exact call_len_seq pins s σ _ _ us Q I r ⟨p, vs, rfl, .inr (SqT.of (w.fh _ _ h1)), kk _ e (Ext.refl e) w (by rw [Is, r1.length])⟩
  | [.scr ns], q =>
    obtain ⟨v, rfl, iv⟩ := isL_one i
    rw [Is] at iv
    obtain ⟨p, rfl, h1⟩ := iv
    cases q
    exact call_len_seq pins s σ _ _ us Q I r ⟨p, _, rfl, .inl (w.fh.seq h1), kk _ e (Ext.refl e) w (by rw [Is, List.length_map])⟩
  | [.str zz], q =>
    obtain ⟨v, rfl, iv⟩ := isL_one i
    rw [Is] at iv
    subst iv
    have q : (if zz.length ≤ big then some (D.int zz.length) else none) = some z := q
    split at q
    · rename_i hl
      cases q
      exact call_len_str pins s σ _ _ us Q I r ⟨zz, rfl, big_line hl, kk _ e (Ext.refl e) w (by rw [Is])⟩
    · cases q
def max2D : List D → Option D
  | [.int i, .int j] => some (.int (if j > i then j else i))
  | _ => none
theorem callD_max (hc : X.calm = true) : CallD X C (.builtin "max") max2D := by
  intro pins s σ H xs us Q I r hw
  obtain ⟨e, Ω, ds, z, eH, w, i, q, kk⟩ := hw
  subst eH
  match ds, q with
  | [.int k, .int j], q =>
    obtain ⟨v, u, rfl, i1, i2⟩ := isL_two i
    simp only [Is] at i1 i2
    subst i1 i2
    cases q
    exact call_max2 hc pins s σ _ _ us Q I r ⟨k, j, rfl, kk _ e (Ext.refl e) w (by rw [Is])⟩
def int1D : List D → Option D
  | [.int i] => some (.int i)
  | [.bl k] => some (.int (if k then 1 else 0))
  | _ => none
theorem callD_int : CallD X C (.type "int") int1D := by
  intro pins s σ H xs us Q I r hw
  obtain ⟨e, Ω, ds, z, eH, w, i, q, kk⟩ := hw
  subst eH
  match ds, q with
  | [.int k], q =>
    obtain ⟨v, rfl, iv⟩ := isL_one i
    rw [Is] at iv
    subst iv
    cases q
    exact call_int1 pins s σ _ _ us Q I r (.inl ⟨k, rfl, kk _ e (Ext.refl e) w (by rw [Is])⟩)
  | [.bl k], q =>
    obtain ⟨v, rfl, iv⟩ := isL_one i
    rw [Is] at iv
    subst iv
    cases q
    exact call_int1 pins s σ _ _ us Q I r (.inr ⟨k, rfl, kk _ e (Ext.refl e) w (by rw [Is])⟩)
/-! ### isinstance(x, T), T a built-in type -/
def tyD : D → Option String
  | .non => some "NoneType"
  | .bl _ => some "bool"
  | .int _ => some "int"
  | .str _ => some "str"
  | .tup _ => some "tuple"
  | .lst _ => some "list"
  | _ => none
def instD (T : String) (d : D) : Option D := match tyD d with
  | some t => some (.bl (decide (t = T) || (decide (t = "bool") && decide (T = "int"))))
  | none => none
def gUn (r : D → Option D) (g : Den) : Den := fun ρ Ω => match g ρ Ω with
  | some (d, Ω1) => match r d with
    | some z => some (z, Ω1)
    | none => none
  | none => none
theorem tyOf_of {K : PySem.W.Frag} {α : List Addr} {F H : Hp} (ff : Same F H) {d : D} {v : V} {t : String} (i : Is K α F d v) (h : tyD d = some t) : TyOf K H v (.type t) := by
  cases d <;> rw [Is] at i <;> (try cases h)
  · subst i; exact .non
  · subst i; exact .bl _
  · subst i; exact .int _
  · subst i; exact .str _
  · obtain ⟨a, vs, rfl, e, _⟩ := i; exact .tup (ff _ _ e)
  · obtain ⟨a, vs, rfl, e, _⟩ := i; exact .lst (ff _ _ e)
theorem pd_isinst {T : String} {n : Str} {p : Pos} {y : Expr} (ha : PD X C x g) (hy : PE X y (tC (.ty T))) (hg : Gl X n) (hm : X.mg n = none) (hv : bootBuiltins n = some (.builtin "isinstance"))
    (hk : ∀ t ∈ ["NoneType", "bool", "int", "str", "tuple", "list"], PySem.W.kitOne X.K (.type t) (.type T) = some (decide (t = T) || (decide (t = "bool") && decide (T = "int"))))
    (hn : n ≠ "__name__" := by decide) (hdb : (n == ("__debug__" : Str)) = false := by decide)
    (he : starEach [x, y] X.env = (false, eval x X.env) :: starEach [y] X.env := by rfl) (he2 : starEach [y] X.env = (false, eval y X.env) :: starEach [] X.env := by rfl) (hpl : (backTo pos (starEach [y] X.env)).any (·.1) = false := by rfl) :
    PD X C (.Call (.Name n p) [x, y] [] pos) (gUn (instD T) g) := by
  have hc : CallR X (.builtin "isinstance") (fun xs H Q => ∃ v t k, xs = [v, .ty T] ∧ TyOf X.K H v (.type t) ∧ PySem.W.kitOne X.K (.type t) (.type T) = some k ∧ Q (.bl k) H) := by
    intro pins s σ H xs us Q I r hw
    obtain ⟨v, t, k, rfl, ty, e, q⟩ := hw
    obtain ⟨u, w', rfl, r1, r2⟩ := vals2 r
    cases (show w' = Value.type T from r2)
    exact isinst_ok I r1 ty e fun tk => ⟨.bl k, H, I.tok tk, rfl, q⟩
  refine pe_imp (pe_callB hc hg hm hv (pa_cons ha (pa_cons hy pa_nil he2) he) hn hdb he hpl) fun σ H Q ⟨e, Ω, ρ, d, Ω', eH, w, rl, e1, kk⟩ => ?_
  unfold gUn at e1
  cases q1 : g ρ Ω with
  | none => rw [q1] at e1; cases e1
  | some p1 =>
    obtain ⟨d1, Ω1⟩ := p1
    rw [q1] at e1
    dsimp only at e1
    unfold instD at e1
    cases q2 : tyD d1 with
    | none => rw [q2] at e1; cases e1
    | some t =>
      rw [q2] at e1
      cases e1
      refine ⟨e, Ω, ρ, d1, _, eH, w, rl, q1, fun v e' x' w' i' => ?_⟩
      refine ⟨v, t, _, rfl, tyOf_of w'.fh i' q2, hk t ?_, kk _ e' x' w' (by rw [Is])⟩
      cases d1 <;> cases q2 <;> simp
end
end DL
set_option Elab.async false
set_option linter.all false
set_option maxRecDepth 100000
set_option genSizeOf false
namespace DL
open PySem PySem.Spec PyProof.Rows L2

/-! ### blocks -/
inductive Out where
  | nx (ρ : List Sl) (Ω : List OS) | rt (d : D) (Ω : List OS) | bk (ρ : List Sl) (Ω : List OS) | ct (ρ : List Sl) (Ω : List OS)
abbrev SDen := List Sl → List OS → Option Out
structure RelS (K : PySem.W.Frag) (C : Cl) (e₀ e : E4) (Ω : List OS) (σ : St) (ρ : List Sl) : Prop where
  wf : Wf K C e Ω
  rel : RelE K e σ ρ
  ext : Ext e₀ e
  fresh : ∀ (i : Nat) (ds : List D) (a : Addr), ρ[i]? = some (.own ds) → σ[i]? = some (some (.ref a)) → e₀.H a = none
def OutOk (K : PySem.W.Frag) (C : Cl) (e₀ : E4) (Dn : Ends) : Out → Prop
  | .nx ρ Ω => ∀ e σ, RelS K C e₀ e Ω σ ρ → Dn.nx σ e.H
  | .bk ρ Ω => ∀ e σ, RelS K C e₀ e Ω σ ρ → Dn.bk σ e.H
  | .ct ρ Ω => ∀ e σ, RelS K C e₀ e Ω σ ρ → Dn.ct σ e.H
  | .rt d Ω => ∀ e v, Ext e₀ e → Wf K C e Ω → Is K e.α e.F d v → Dn.rt v e.H
def tDS (K : PySem.W.Frag) (C : Cl) (e₀ : E4) (g : SDen) : TS := fun Dn σ H => ∃ e Ω ρ o, e.H = H ∧ RelS K C e₀ e Ω σ ρ ∧ g ρ Ω = some o ∧ OutOk K C e₀ Dn o
def PDS (X : Cx) (C : Cl) (st : Stmt) (g : SDen) : Prop := ∀ e₀, PS X st (tDS X.K C e₀ g)
def PDB (X : Cx) (C : Cl) (st : List Stmt) (g : SDen) : Prop := ∀ e₀, PSs X st (tDS X.K C e₀ g)
section
variable {K : PySem.W.Frag} {C : Cl} {e₀ e e' : E4} {Ω Ω' : List OS} {σ : St} {ρ : List Sl}
theorem RelS.to (r : RelS K C e₀ e Ω σ ρ) (x : Ext e e') (w : Wf K C e' Ω') : RelS K C e₀ e' Ω' σ ρ := ⟨w, r.rel.ext x, r.ext.trans x, r.fresh⟩
theorem set_own_ne {i j : Nat} {d : D} {ds : List D} (h : (ρ.set i (.dat d))[j]? = some (.own ds)) : i ≠ j := fun e1 => by
  subst e1
  have hl : i < ρ.length := by
    have := (List.getElem?_eq_some_iff.mp h).1
    simpa using this
  rw [List.getElem?_set_self hl] at h
  cases h
theorem RelS.set (r : RelS K C e₀ e Ω σ ρ) (i : Nat) {d : D} {v : V} (h : Is K e.α e.F d v) : RelS K C e₀ e Ω (σ.set i (some v)) (ρ.set i (.dat d)) :=
  ⟨r.wf, r.rel.set i h, r.ext, fun j ds a h1 h2 => by
    have n := set_own_ne h1
    rw [List.getElem?_set_ne n] at h1 h2
    exact r.fresh j ds a h1 h2⟩
end
section
variable {X : Cx} {C : Cl} {a b c x : Expr} {f g : Den} {p : TDen} {st : Stmt} {rest sts sts' : List Stmt} {s t : SDen} {pos : Pos}
def sNext : SDen := fun ρ Ω => some (.nx ρ Ω)
def sSeq (s t : SDen) : SDen := fun ρ Ω => match s ρ Ω with
  | some (.nx ρ' Ω') => t ρ' Ω'
  | r => r
theorem pdb_nil : PDB X C [] sNext := fun e₀ => pss_imp pss_nil fun Dn σ H ⟨e, Ω, ρ, o, eH, r, q, k⟩ => by
  subst eH
  cases q
  exact k e σ r
theorem pdb_cons (h1 : PDS X C st s) (h2 : PDB X C rest t) : PDB X C (st :: rest) (sSeq s t) := fun e₀ => pss_imp (pss_cons (h1 e₀) (h2 e₀)) fun Dn σ H ⟨e, Ω, ρ, o, eH, r, q, k⟩ => by
  unfold sSeq at q
  cases q1 : s ρ Ω with
  | none => rw [q1] at q; cases q
  | some o1 =>
    rw [q1] at q
    refine ⟨e, Ω, ρ, o1, eH, r, q1, ?_⟩
    cases o1 with
    | nx ρ' Ω' => exact fun e' σ' r' => ⟨e', Ω', ρ', o, rfl, r', q, k⟩
    | rt d Ω' => cases q; exact k
    | bk ρ' Ω' => cases q; exact k
    | ct ρ' Ω' => cases q; exact k
theorem pdb_one (h1 : PDS X C st s) : PDB X C [st] s := fun e₀ => pss_one (h1 e₀)
/-- what is known is forgotten or turned, between two statements -/
def sGhost (γ : List Sl → Option (List Sl)) (s : SDen) : SDen := fun ρ Ω => match γ ρ with
  | some ρ' => s ρ' Ω
  | none => none
def Ghost (γ : List Sl → Option (List Sl)) : Prop := ∀ (K : PySem.W.Frag) (C : Cl) (e₀ e : E4) (Ω : List OS) (σ : St) (ρ ρ' : List Sl), γ ρ = some ρ' → RelS K C e₀ e Ω σ ρ → ∃ e', e'.H = e.H ∧ RelS K C e₀ e' Ω σ ρ'
theorem pdb_ghost {γ : List Sl → Option (List Sl)} (hγ : Ghost γ) (h : PDB X C sts s) : PDB X C sts (sGhost γ s) := fun e₀ => pss_imp (h e₀) fun Dn σ H ⟨e, Ω, ρ, o, eH, r, q, k⟩ => by
  unfold sGhost at q
  cases q1 : γ ρ with
  | none => rw [q1] at q; cases q
  | some ρ' =>
    rw [q1] at q
    obtain ⟨e', he, r'⟩ := hγ _ _ _ _ _ _ _ _ q1 r
    exact ⟨e', Ω, ρ', o, he.trans eH, r', q, k⟩
/-- a list of one's own is changed no more -/
def frz (i : Nat) : List Sl → Option (List Sl) := fun ρ => match ρ[i]? with
  | some (.own ds) => some (ρ.set i (.dat (.lst ds)))
  | _ => some ρ
theorem ghost_frz (i : Nat) : Ghost (frz i) := by
  intro K C e₀ e Ω σ ρ ρ' h r
  unfold frz at h
  cases q : ρ[i]? with
  | none => rw [q] at h; cases h; exact ⟨e, rfl, r⟩
  | some sl =>
    rw [q] at h
    cases sl with
    | und => cases h; exact ⟨e, rfl, r⟩
    | dat d => cases h; exact ⟨e, rfl, r⟩
    | own ds =>
      cases h
      obtain ⟨a, vs, e1, e2, i1, n1, n2⟩ := r.rel.own i ds q
      have h0 := r.fresh i ds a q e1
      have ff : Same e.F (upd e.F a (.lst vs)) := fun b o hb => by rw [upd_ne (ne_of_none hb n1)]; exact hb
      have fh : Same (upd e.F a (.lst vs)) e.H := fun b o hb => by
        by_cases hba : b = a
        · subst hba; rw [upd_same] at hb; cases hb; exact e2
        · rw [upd_ne hba] at hb; exact r.wf.fh b o hb
      have fn : ∀ b o, (upd e.F a (.lst vs)) b = some o → e.F b = some o ∨ b = a := fun b o hb => by
        by_cases hba : b = a
        · exact .inr hba
        · rw [upd_ne hba] at hb; exact .inl hb
      refine ⟨⟨e.α, upd e.F a (.lst vs), e.A, e.H⟩, rfl, ⟨fh, fun b hb => ?_, r.wf.ah, r.wf.ol, r.wf.nd, fun n b o h1 h2 => ⟨(r.wf.ob n b o h1 h2).1, (r.wf.ob n b o h1 h2).2.keep (fun u hu => hu) ff ⟨[], by simp⟩⟩⟩, ⟨by simp [r.rel.len], fun j d hj => ?_, fun j es hj => ?_, fun j k ds' es b hj hk hj' hk' => ?_⟩, ⟨r.ext.hk, r.ext.dm, r.ext.ff.trans ff, fun b o hb => ?_, r.ext.an, r.ext.aa, r.ext.al⟩, fun j es b hj hj' => ?_⟩
      · show upd e.F a _ b = none
        rw [upd_ne (fun z => n2 (by rw [← z]; exact hb))]
        exact r.wf.fa b hb
      · by_cases e3 : i = j
        · subst e3
          have hl : i < ρ.length := (List.getElem?_eq_some_iff.mp q).1
          rw [List.getElem?_set_self hl] at hj
          cases hj
          refine ⟨.ref a, e1, ?_⟩
          rw [Is]
          exact ⟨a, vs, rfl, upd_same, IsL.mono ff ⟨[], by simp⟩ ds i1⟩
        · rw [List.getElem?_set_ne e3] at hj
          obtain ⟨v, z1, z2⟩ := r.rel.dat j d hj
          exact ⟨v, z1, Is.mono ff ⟨[], by simp⟩ d z2⟩
      · have n := set_own_ne hj
        rw [List.getElem?_set_ne n] at hj
        obtain ⟨a', vs', z1, z2, z3, z4, z5⟩ := r.rel.own j es hj
        have na : a' ≠ a := fun z => n (r.rel.sep i j ds es a q hj e1 (by rw [← z]; exact z1))
        exact ⟨a', vs', z1, z2, IsL.mono ff ⟨[], by simp⟩ es z3, by show upd e.F a _ a' = none; rw [upd_ne na]; exact z4, z5⟩
      · have n := set_own_ne hj
        have n' := set_own_ne hk
        rw [List.getElem?_set_ne n] at hj
        rw [List.getElem?_set_ne n'] at hk
        exact r.rel.sep j k ds' es b hj hk hj' hk'
      · rcases fn b o hb with z | z
        · exact r.ext.fn b o z
        · subst z; exact .inr (.inl h0)
      · have n := set_own_ne hj
        rw [List.getElem?_set_ne n] at hj
        exact r.fresh j es b hj hj'

/-! ### statements -/
def sSet (i : Nat) (g : Den) : SDen := fun ρ Ω => match g ρ Ω with
  | some (d, Ω') => some (.nx (ρ.set i (.dat d)) Ω')
  | none => none
theorem set_read {K : PySem.W.Frag} {e₀ : E4} {i : Nat} {Dn : Ends} {σ : St} {H : Hp} (hw : tDS K C e₀ (sSet i g) Dn σ H) : tAsg (tD K C g) (gName i) Dn σ H := by
  obtain ⟨e, Ω, ρ, o, eH, r, q, k⟩ := hw
  unfold sSet at q
  cases q1 : g ρ Ω with
  | none => rw [q1] at q; cases q
  | some p1 =>
    obtain ⟨d, Ω'⟩ := p1
    rw [q1] at q
    cases q
    exact ⟨e, Ω, ρ, d, Ω', eH, r.wf, r.rel, q1, fun v e' x' w' i' => k e' _ ((r.to x' w').set i i')⟩
theorem pds_set {i : Nat} {n : Str} {pos' : Pos} (hN : X.N.Nodup) (hi : X.N[i]? = some n) (hx : Loc X.env.scope n) (he : PD X C x g) (hs : swapsWith x (some (.Name n pos')) pos.line X.env = pure false := by rfl) (hf : X.fn n = true ∨ X.env.scope.names.lookup n = some .local := by first | exact .inl rfl | exact .inr rfl | assumption) :
    PDS X C (.Assign [.Name n pos'] x pos) (sSet i g) := fun e₀ => ps_imp (ps_set hN hi hx he hs hf) fun Dn σ H h => set_read h
def sRet (g : Den) : SDen := fun ρ Ω => match g ρ Ω with
  | some (d, Ω') => some (.rt d Ω')
  | none => none
theorem pds_ret (he : PD X C x g) : PDS X C (.Return (some x) pos) (sRet g) := fun e₀ => ps_imp (ps_ret he) fun Dn σ H ⟨e, Ω, ρ, o, eH, r, q, k⟩ => by
  unfold sRet at q
  cases q1 : g ρ Ω with
  | none => rw [q1] at q; cases q
  | some p1 =>
    obtain ⟨d, Ω'⟩ := p1
    rw [q1] at q
    cases q
    exact ⟨e, Ω, ρ, d, Ω', eH, r.wf, r.rel, q1, fun v e' x' w' i' => k e' v (r.ext.trans x') w' i'⟩
def sIf (p : TDen) (s t : SDen) : SDen := fun ρ Ω => match p ρ Ω with
  | some (true, Ω') => s ρ Ω'
  | some (false, Ω') => t ρ Ω'
  | none => none
theorem pds_if (hc : PDT X C c p) (ha : PDB X C sts s) (hb : PDB X C sts' t) : PDS X C (.If c sts sts' pos) (sIf p s t) := fun e₀ => ps_imp (ps_if hc (ha e₀) (hb e₀)) fun Dn σ H ⟨e, Ω, ρ, o, eH, r, q, k⟩ => by
  unfold sIf at q
  cases q1 : p ρ Ω with
  | none => rw [q1] at q; cases q
  | some p1 =>
    obtain ⟨d, Ω'⟩ := p1
    rw [q1] at q
    refine ⟨e, Ω, ρ, d, Ω', eH, r.wf, r.rel, q1, fun e' x' w' => ?_⟩
    cases d with
    | true => rw [if_pos rfl]; exact ⟨e', Ω', ρ, o, rfl, r.to x' w', q, k⟩
    | false => rw [if_neg (by decide)]; exact ⟨e', Ω', ρ, o, rfl, r.to x' w', q, k⟩
def sExpr (g : Den) : SDen := fun ρ Ω => match g ρ Ω with
  | some (_, Ω') => some (.nx ρ Ω')
  | none => none
theorem pds_expr (he : PD X C x g) (hs : swapsWith x none pos.line X.env = pure false := by rfl) : PDS X C (.Expr x pos) (sExpr g) := fun e₀ => ps_imp (ps_expr he hs) fun Dn σ H ⟨e, Ω, ρ, o, eH, r, q, k⟩ => by
  unfold sExpr at q
  cases q1 : g ρ Ω with
  | none => rw [q1] at q; cases q
  | some p1 =>
    obtain ⟨d, Ω'⟩ := p1
    rw [q1] at q
    cases q
    exact ⟨e, Ω, ρ, d, Ω', eH, r.wf, r.rel, q1, fun v e' x' w' i' => k e' σ (r.to x' w')⟩
def sNever : SDen := fun _ _ => none
theorem pds_never : PDS X C st sNever := fun e₀ => ps_imp ps_never fun Dn σ H ⟨e, Ω, ρ, o, eH, r, q, k⟩ => by cases q
/-! ### a list of one's own -/
def sOwn (i : Nat) (g : ADen) : SDen := fun ρ Ω => match g ρ Ω with
  | some (ds, Ω') => if ds.length ≤ big then some (.nx (ρ.set i (.own ds)) Ω') else none
  | none => none
theorem pds_own {i : Nat} {n : Str} {pos' lp : Pos} {es : List Expr} {ga : ADen} (hN : X.N.Nodup) (hi : X.N[i]? = some n) (hx : Loc X.env.scope n) (he : PDA X C es ga) (hs : swapsWith (.List es lp) (some (.Name n pos')) pos.line X.env = pure false := by rfl) (hf : X.fn n = true ∨ X.env.scope.names.lookup n = some .local := by first | exact .inl rfl | exact .inr rfl | assumption) :
    PDS X C (.Assign [.Name n pos'] (.List es lp) pos) (sOwn i ga) := fun e₀ => ps_imp (ps_set hN hi hx (pe_lst he) hs hf) fun Dn σ H ⟨e, Ω, ρ, o, eH, r, q, k⟩ => by
  unfold sOwn at q
  cases q1 : ga ρ Ω with
  | none => rw [q1] at q; cases q
  | some p1 =>
    obtain ⟨ds, Ω'⟩ := p1
    rw [q1] at q
    dsimp only at q
    split at q
    · rename_i hl
      cases q
      refine ⟨e, Ω, ρ, ds, Ω', eH, r.wf, r.rel, q1, fun vs e' x' w' i' => ⟨by rw [← i'.length]; exact big_line hl, fun a ha => ?_⟩⟩
      have r' := r.to x' w'
      have hne : ∀ b u, e'.H b = some u → b ≠ a := fun b u hb => ne_of_none hb ha
      have hF : e'.F a = none := w'.nF ha
      have hA : ¬ e'.A a := fun z => (w'.ah a z).1 ha
      have own1 : ∀ (j : Nat) (es : List D), (ρ.set i (.own ds))[j]? = some (.own es) → (j = i ∧ es = ds ∧ i < ρ.length) ∨ (j ≠ i ∧ ρ[j]? = some (.own es)) := fun j es hj => by
        by_cases e1 : i = j
        · subst e1
          have hl : i < ρ.length := by
            have := (List.getElem?_eq_some_iff.mp hj).1
            simpa using this
          rw [List.getElem?_set_self hl] at hj
          cases hj
          exact .inl ⟨rfl, rfl, hl⟩
        · rw [List.getElem?_set_ne e1] at hj
          exact .inr ⟨fun z => e1 z.symm, hj⟩
      refine k ⟨e'.α, e'.F, e'.A, upd e'.H a (.lst vs)⟩ _ ⟨⟨fun b u hb => ?_, w'.fa, fun b hb => ?_, w'.ol, w'.nd, fun n b u h1 h2 => ⟨(w'.ob n b u h1 h2).1, (w'.ob n b u h1 h2).2.keep (fun z hz => ?_) (Same.refl _) ⟨[], by simp⟩⟩⟩, ⟨by simp [r'.rel.len], fun j d hj => ?_, fun j es hj => ?_, fun j m es fs b hj hm h1 h2 => ?_⟩, ⟨fun b u hb hn => ?_, fun b u hb => ?_, r'.ext.ff, r'.ext.fn, r'.ext.an, r'.ext.aa, r'.ext.al⟩, fun j es b hj h1 => ?_⟩
      · show upd e'.H a _ b = some u
        rw [upd_ne (hne b u (w'.fh b u hb))]; exact w'.fh b u hb
      · show upd e'.H a _ b ≠ none ∧ ∀ xs, upd e'.H a _ b ≠ some (.tup xs)
        rw [upd_ne (fun z => hA (by rw [← z]; exact hb))]; exact w'.ah b hb
      · show upd e'.H a _ b = some z
        rw [upd_ne (hne b z hz)]; exact hz
      · have n : i ≠ j := fun e1 => by
          subst e1
          have hl : i < ρ.length := by
            have := (List.getElem?_eq_some_iff.mp hj).1
            simpa using this
          rw [List.getElem?_set_self hl] at hj
          cases hj
        rw [List.getElem?_set_ne n] at hj ⊢
        exact r'.rel.dat j d hj
      · rcases own1 j es hj with ⟨rfl, rfl, hq⟩ | ⟨n, hj'⟩
        · exact ⟨a, vs, List.getElem?_set_self (by rw [r'.rel.len]; exact hq), upd_same, i', hF, hA⟩
        · obtain ⟨b, us, z1, z2, z3, z4, z5⟩ := r'.rel.own j es hj'
          exact ⟨b, us, by rw [List.getElem?_set_ne n.symm]; exact z1, by show upd e'.H a _ b = _; rw [upd_ne (hne b _ z2)]; exact z2, z3, z4, z5⟩
      · rcases own1 j es hj with ⟨rfl, rfl, hq⟩ | ⟨n, hj'⟩
        · rcases own1 m fs hm with ⟨rfl, _, _⟩ | ⟨n', hm'⟩
          · rfl
          · rw [List.getElem?_set_self (by rw [r'.rel.len]; exact hq)] at h1
            rw [List.getElem?_set_ne n'.symm] at h2
            obtain ⟨b', us, z1, z2, _⟩ := r'.rel.own m fs hm'
            rw [h2] at z1
            cases h1
            cases z1
            exact absurd rfl (hne _ _ z2)
        · rcases own1 m fs hm with ⟨rfl, _, hq⟩ | ⟨n', hm'⟩
          · rw [List.getElem?_set_self (by rw [r'.rel.len]; exact hq)] at h2
            rw [List.getElem?_set_ne n.symm] at h1
            obtain ⟨b', us, z1, z2, _⟩ := r'.rel.own j es hj'
            rw [h1] at z1
            cases h2
            cases z1
            exact absurd rfl (hne _ _ z2)
          · rw [List.getElem?_set_ne n.symm] at h1
            rw [List.getElem?_set_ne n'.symm] at h2
            exact r'.rel.sep j m es fs b hj' hm' h1 h2
      · show upd e'.H a _ b = some u
        have z := r'.ext.hk b u hb hn
        rw [upd_ne (hne b u z)]; exact z
      · obtain ⟨u', z⟩ := r'.ext.dm b u hb
        exact ⟨u', by show upd e'.H a _ b = some u'; rw [upd_ne (hne b u' z)]; exact z⟩
      · rcases own1 j es hj with ⟨rfl, rfl, hq⟩ | ⟨n, hj'⟩
        · rw [List.getElem?_set_self (by rw [r'.rel.len]; exact hq)] at h1
          cases h1
          exact r'.ext.back ha
        · rw [List.getElem?_set_ne n.symm] at h1
          exact r'.fresh j es b hj' h1
    · cases q
/-- found.append(e), found a list of one's own -/
def sApp (i : Nat) (g : Den) : SDen := fun ρ Ω => match g ρ Ω with
  | some (d, Ω') => match ρ[i]? with
    | some (.own ds) => if ds.length < big then some (.nx (ρ.set i (.own (ds ++ [d]))) Ω') else none
    | _ => none
  | none => none
theorem app_read {K : PySem.W.Frag} {e₀ : E4} {i : Nat} {Dn : Ends} {σ : St} {H : Hp} (hw : tDS K C e₀ (sApp i g) Dn σ H) :
    tDrop (tBM K "list" rAppend (tVar i) (tCons (tD K C g) tNil)) Dn σ H := by
  obtain ⟨e, Ω, ρ, o, eH, r, q, k⟩ := hw
  subst eH
  unfold sApp at q
  cases q1 : g ρ Ω with
  | none => rw [q1] at q; cases q
  | some p1 =>
    obtain ⟨d, Ω'⟩ := p1
    rw [q1] at q
    dsimp only at q
    cases q2 : ρ[i]? with
    | none => rw [q2] at q; cases q
    | some sl =>
      rw [q2] at q
      cases sl with
      | own ds =>
        dsimp only at q
        split at q
        · rename_i hl
          cases q
          obtain ⟨a, vs, e1, e2, i1, n1, n2⟩ := r.rel.own i ds q2
          refine ⟨.ref a, e1, .inl ⟨rfl, _, SqL.of e2⟩, ?_⟩
          refine ⟨e, Ω, ρ, d, Ω', rfl, r.wf, r.rel, q1, fun v e' x' w' i' => ?_⟩
          have r' := r.to x' w'
          obtain ⟨a', vs', e1', e2', i1', n1', n2'⟩ := r'.rel.own i ds q2
          rw [e1] at e1'
          cases e1'
          refine ⟨a, vs', v, rfl, rfl, e2', by rw [← i1'.length]; exact big_lt hl, ?_⟩
          have hil : i < ρ.length := (List.getElem?_eq_some_iff.mp q2).1
          have neH : ∀ (j : Nat) (es : List D) (b : Addr), j ≠ i → ρ[j]? = some (.own es) → σ[j]? = some (some (.ref b)) → b ≠ a := fun j es b n hj h1 z => by
            subst z
            exact n (r'.rel.sep j i es ds b hj q2 h1 e1)
          have own1 : ∀ (j : Nat) (es : List D), (ρ.set i (.own (ds ++ [d])))[j]? = some (.own es) → (j = i ∧ es = ds ++ [d]) ∨ (j ≠ i ∧ ρ[j]? = some (.own es)) := fun j es hj => by
            by_cases e3 : i = j
            · subst e3
              rw [List.getElem?_set_self hil] at hj
              cases hj
              exact .inl ⟨rfl, rfl⟩
            · rw [List.getElem?_set_ne e3] at hj
              exact .inr ⟨fun z => e3 z.symm, hj⟩
          refine k ⟨e'.α, e'.F, e'.A, upd e'.H a (.lst (vs' ++ [v]))⟩ σ ⟨⟨fun b u hb => ?_, w'.fa, fun b hb => ?_, w'.ol, w'.nd, fun n b u h1 h2 => ⟨(w'.ob n b u h1 h2).1, (w'.ob n b u h1 h2).2.keep (fun z hz => ?_) (Same.refl _) ⟨[], by simp⟩⟩⟩, ⟨by simp [r'.rel.len], fun j d' hj => ?_, fun j es hj => ?_, fun j m es fs b hj hm h1 h2 => ?_⟩, ⟨fun b u hb hn => ?_, fun b u hb => ?_, r'.ext.ff, r'.ext.fn, r'.ext.an, r'.ext.aa, r'.ext.al⟩, fun j es b hj h1 => ?_⟩
          · show upd e'.H a _ b = some u
            rw [upd_ne (fun z => by subst z; rw [n1'] at hb; cases hb)]
            exact w'.fh b u hb
          · show upd e'.H a _ b ≠ none ∧ ∀ xs, upd e'.H a _ b ≠ some (.tup xs)
            rw [upd_ne (fun z => n2' (by rw [← z]; exact hb))]
            exact w'.ah b hb
          · show upd e'.H a _ b = some z
            rw [upd_ne (fun y => n2' (by rw [← y]; exact (w'.ob n b u h1 h2).1))]
            exact hz
          · have n : i ≠ j := fun e3 => by
              subst e3
              rw [List.getElem?_set_self hil] at hj
              cases hj
            rw [List.getElem?_set_ne n] at hj
            exact r'.rel.dat j d' hj
          · rcases own1 j es hj with ⟨rfl, rfl⟩ | ⟨n, hj'⟩
            · exact ⟨a, _, e1, upd_same, i1'.append (.cons i' .nil), n1', n2'⟩
            · obtain ⟨b, us, z1, z2, z3, z4, z5⟩ := r'.rel.own j es hj'
              exact ⟨b, us, z1, by show upd e'.H a _ b = _; rw [upd_ne (neH j es b n hj' z1)]; exact z2, z3, z4, z5⟩
          · rcases own1 j es hj with ⟨rfl, _⟩ | ⟨n, hj'⟩
            · rcases own1 m fs hm with ⟨rfl, _⟩ | ⟨n', hm'⟩
              · rfl
              · exact r'.rel.sep _ m ds fs b q2 hm' h1 h2
            · rcases own1 m fs hm with ⟨rfl, _⟩ | ⟨n', hm'⟩
              · exact r'.rel.sep j _ es ds b hj' q2 h1 h2
              · exact r'.rel.sep j m es fs b hj' hm' h1 h2
          · show upd e'.H a _ b = some u
            have h0 := r'.fresh i ds a q2 e1
            rw [upd_ne (ne_of_none hb h0)]
            exact r'.ext.hk b u hb hn
          · have h0 := r'.fresh i ds a q2 e1
            obtain ⟨u', z⟩ := r'.ext.dm b u hb
            exact ⟨u', by show upd e'.H a _ b = some u'; rw [upd_ne (ne_of_none hb h0)]; exact z⟩
          · rcases own1 j es hj with ⟨rfl, _⟩ | ⟨n, hj'⟩
            · exact r'.fresh _ ds b q2 h1
            · exact r'.fresh j es b hj' h1
        · cases q
      | und => cases q
      | dat _ => cases q
end
end DL
set_option Elab.async false
set_option linter.all false
set_option maxRecDepth 100000
set_option genSizeOf false
namespace DL
open PySem PySem.Spec PyProof.Rows L2

open Classical in
noncomputable def hid (P : Addr → Prop) (H : Hp) : Hp := fun b => if P b then none else H b
theorem hid_pos {P : Addr → Prop} {H : Hp} {b : Addr} (h : P b) : hid P H b = none := if_pos h
theorem hid_neg {P : Addr → Prop} {H : Hp} {b : Addr} (h : ¬ P b) : hid P H b = H b := if_neg h
theorem hid_some {P : Addr → Prop} {H : Hp} {b : Addr} {o : HO} (h : hid P H b = some o) : H b = some o := by
  by_cases q : P b
  · rw [hid_pos q] at h; cases h
  · rw [hid_neg q] at h; exact h
section
variable {K : PySem.W.Frag} {C : Cl} {e₀ e e' : E4} {Ω Ω' : List OS} {σ : St} {ρ : List Sl}
/-- a mark in the middle of a body: what stands there stands from there on -/
theorem RelS.mark (r : RelS K C e₀ e Ω σ ρ) : ∃ e₁ : E4, e₁.F = e.F ∧ e₁.α = e.α ∧ RelS K C e₁ e Ω σ ρ ∧ (∀ e', Ext e₁ e' → Ext e₀ e') ∧ ∀ b, e₁.H b = none → e₀.H b = none := by
  have ho : ∀ b, (∃ (i : Nat) (ds : List D), ρ[i]? = some (Sl.own ds) ∧ σ[i]? = some (some (V.ref b))) → e₀.H b = none := fun b ⟨i, ds, h1, h2⟩ => r.fresh i ds b h1 h2
  generalize hP : (fun b : Addr => ∃ (i : Nat) (ds : List D), ρ[i]? = some (Sl.own ds) ∧ σ[i]? = some (some (V.ref b))) = P
  have ho' : ∀ b, P b → e₀.H b = none := fun b h => ho b (by rw [← hP] at h; exact h)
  have hno : ∀ b, hid P e.H b = none → e₀.H b = none := fun b h => by
    by_cases q : P b
    · exact ho' b q
    · rw [hid_neg q] at h; exact r.ext.back h
  have hs : ∀ b o, e₀.H b = some o → hid P e.H b = e.H b := fun b o h => hid_neg (fun q => by rw [ho' b q] at h; cases h)
  refine ⟨⟨e.α, e.F, e.A, hid P e.H⟩, rfl, rfl, ⟨r.wf, r.rel, ⟨fun b o h _ => hid_some h, fun b o h => ⟨o, hid_some h⟩, Same.refl _, fun b o h => .inl h, fun b h => .inl h, fun b h => h, [], by simp⟩, fun i ds a h1 h2 => ?_⟩, fun e' x => ⟨fun b o h hn => ?_, fun b o h => ?_, r.ext.ff.trans x.ff, fun b o h => ?_, fun b h => ?_, fun b h => x.aa b (r.ext.aa b h), ?_⟩, hno⟩
  · exact hid_pos (by rw [← hP]; exact ⟨i, ds, h1, h2⟩)
  · have z := r.ext.hk b o h hn
    refine x.hk b o ((hs b o h).trans z) fun hA => ?_
    rcases r.ext.an b hA with q | q
    · exact hn q
    · rw [q] at h; cases h
  · obtain ⟨o', z⟩ := r.ext.dm b o h
    exact x.dm b o' ((hs b o h).trans z)
  · rcases x.fn b o h with q | q | ⟨q1, q2, q3⟩
    · exact r.ext.fn b o q
    · exact .inr (.inl (hno b q))
    · have n : ¬ e₀.A b := fun z => q3 (r.ext.aa b z)
      cases z : e₀.H b with
      | none => exact .inr (.inl rfl)
      | some o' =>
        have z' := r.ext.hk b o' z n
        rw [hid_some q2] at z'
        cases z'
        exact .inr (.inr ⟨q1, rfl, n⟩)
  · rcases x.an b h with q | q
    · exact r.ext.an b q
    · exact .inr (hno b q)
  · obtain ⟨m, e1⟩ := r.ext.al
    obtain ⟨n, e2⟩ := x.al
    exact ⟨m ++ n, by rw [e2]; show e.α ++ n = _; rw [e1, List.append_assoc]⟩
end

/-! ### targets -/
abbrev BDen := D → List Sl → Option (List Sl)
def tDG (K : PySem.W.Frag) (C : Cl) (β : BDen) : TG := fun v σ H Q => ∃ e Ω ρ d ρ', e.H = H ∧ Wf K C e Ω ∧ RelE K e σ ρ ∧ Is K e.α e.F d v ∧ β d ρ = some ρ' ∧
  ∀ σ', RelE K e σ' ρ' → (∀ (j : Nat) (ds : List D), ρ'[j]? = some (.own ds) → ρ[j]? = some (.own ds) ∧ σ'[j]? = σ[j]?) → Q σ' e.H
def PDG (X : Cx) (C : Cl) (tg : Expr) (β : BDen) : Prop := PG X tg (tDG X.K C β)
theorem pg_imp {X : Cx} {tg : Expr} {t t' : TG} (h : PG X tg t) (i : ∀ v σ H Q, t' v σ H Q → t v σ H Q) : PG X tg t' := fun pins s σ H v u Q I r hw => h pins s σ H v u Q I r (i v σ H Q hw)
theorem pgs_imp {X : Cx} {ts : List Expr} {t t' : TGs} (h : PGs X ts t) (i : ∀ v σ H Q, t' v σ H Q → t v σ H Q) : PGs X ts t' := fun pins s σ H v u Q I r hw => h pins s σ H v u Q I r (i v σ H Q hw)
def bName (i : Nat) : BDen := fun d ρ => some (ρ.set i (.dat d))
theorem own_set {ρ : List Sl} {σ : St} {i : Nat} {d : D} {v : V} (j : Nat) (ds : List D) (h : (ρ.set i (.dat d))[j]? = some (.own ds)) : ρ[j]? = some (.own ds) ∧ (σ.set i (some v))[j]? = σ[j]? := by
  have n := set_own_ne h
  rw [List.getElem?_set_ne n] at h
  exact ⟨h, List.getElem?_set_ne n⟩
section
variable {X : Cx} {C : Cl} {pos : Pos}
theorem pdg_name {i : Nat} {x : Str} (hN : X.N.Nodup) (hi : X.N[i]? = some x) (hx : Loc X.env.scope x) (hf : X.fn x = true ∨ X.env.scope.names.lookup x = some .local := by first | exact .inl rfl | exact .inr rfl | assumption) : PDG X C (.Name x pos) (bName i) :=
  pg_imp (pg_name hN hi hx hf) fun v σ H Q ⟨e, Ω, ρ, d, ρ', eH, w, r, is, b, k⟩ => by
    subst eH
    cases b
    exact k _ (r.set i is) own_set
/-- a tuple of names -/
def bNames : List Nat → List D → List Sl → Option (List Sl)
  | [], [], ρ => some ρ
  | i :: is, d :: ds, ρ => bNames is ds (ρ.set i (.dat d))
  | _, _, _ => none
def tDGs (K : PySem.W.Frag) (C : Cl) (is : List Nat) : TGs := fun vs σ H Q => ∃ e Ω ρ ds ρ', e.H = H ∧ Wf K C e Ω ∧ RelE K e σ ρ ∧ IsL K e.α e.F ds vs ∧ bNames is ds ρ = some ρ' ∧
  ∀ σ', RelE K e σ' ρ' → (∀ (j : Nat) (ds : List D), ρ'[j]? = some (.own ds) → ρ[j]? = some (.own ds) ∧ σ'[j]? = σ[j]?) → Q σ' e.H
def PDGs (X : Cx) (C : Cl) (ts : List Expr) (is : List Nat) : Prop := PGs X ts (tDGs X.K C is)
theorem pdgs_nil : PDGs X C [] [] := pgs_imp pgs_nil fun vs σ H Q ⟨e, Ω, ρ, ds, ρ', eH, w, r, is, b, k⟩ => by
  subst eH
  cases ds with
  | nil => cases b; exact ⟨is.of_nil, k _ r fun _ _ h => ⟨h, rfl⟩⟩
  | cons => cases b
theorem pdgs_cons {i : Nat} {is : List Nat} {x : Str} {ts : List Expr} {px : Pos} (hN : X.N.Nodup) (hi : X.N[i]? = some x) (hx : Loc X.env.scope x) (h2 : PDGs X C ts is) (hf : X.fn x = true ∨ X.env.scope.names.lookup x = some .local := by first | exact .inl rfl | exact .inr rfl | assumption)
    (hs : (assignEach (.Name x px :: ts) X.env).map (·.2) = assign (.Name x px) X.env :: (assignEach ts X.env).map (·.2) := by rfl) : PDGs X C (.Name x px :: ts) (i :: is) := by
  refine pgs_imp (pgs_cons (pg_name hN hi hx hf) h2 hs) fun vs σ H Q ⟨e, Ω, ρ, ds, ρ', eH, w, r, il, b, k⟩ => ?_
  subst eH
  cases ds with
  | nil => cases b
  | cons d ds =>
    obtain ⟨v, vr, rfl, i1, i2⟩ := il.of_cons
    refine ⟨v, vr, rfl, ?_⟩
    refine ⟨e, Ω, _, ds, ρ', rfl, w, r.set i i1, i2, b, fun σ' r' o' => k σ' r' fun j es hj => ?_⟩
    obtain ⟨z1, z2⟩ := o' j es hj
    obtain ⟨y1, y2⟩ := own_set (σ := σ) (v := v) j es z1
    exact ⟨y1, z2.trans y2⟩
def bTup (is : List Nat) : BDen := fun d ρ => match d with
  | .tup ds => bNames is ds ρ
  | _ => none
theorem bNames_len : ∀ {is : List Nat} {ds : List D} {ρ ρ' : List Sl}, bNames is ds ρ = some ρ' → ds.length = is.length
  | [], [], _, _, _ => rfl
  | i :: is, d :: ds, ρ, ρ', h => by
    rw [List.length_cons, List.length_cons, bNames_len (is := is) (ds := ds) h]
  | [], _ :: _, _, _, h => by cases h
  | _ :: _, [], _, _, h => by cases h
theorem pdg_tup {es : List Expr} {k : Nat} {is : List Nat} (hc : X.calm = true) (h : PDGs X C es is)
    (hn : (assignEach es X.env).length = is.length := by rfl) (hst : (assignEach es X.env).findIdx? (·.1) = none := by rfl) : PDG X C (.Tuple es k pos) (bTup is) := by
  refine pg_imp (pg_tup hc h hn hst) fun v σ H Q ⟨e, Ω, ρ, d, ρ', eH, w, r, il, b, k⟩ => ?_
  subst eH
  unfold bTup at b
  cases d with
  | tup ds =>
    rw [Is] at il
    obtain ⟨a, vs, rfl, e1, i1⟩ := il
    exact ⟨a, vs, rfl, SqT.of (w.fh _ _ e1), by rw [← i1.length]; exact bNames_len b, e, Ω, ρ, ds, ρ', rfl, w, r, i1, b, k⟩
  | _ => cases b
/-- target = value -/
def sAsg (β : BDen) (g : Den) : SDen := fun ρ Ω => match g ρ Ω with
  | some (d, Ω') => match β d ρ with
    | some ρ' => some (.nx ρ' Ω')
    | none => none
  | none => none
theorem RelS.by {K : PySem.W.Frag} {e₀ e : E4} {Ω : List OS} {σ σ' : St} {ρ ρ' : List Sl} (r : RelS K C e₀ e Ω σ ρ) (r' : RelE K e σ' ρ') (o : ∀ (j : Nat) (ds : List D), ρ'[j]? = some (.own ds) → ρ[j]? = some (.own ds) ∧ σ'[j]? = σ[j]?) : RelS K C e₀ e Ω σ' ρ' :=
  ⟨r.wf, r', r.ext, fun i ds a h1 h2 => by
    obtain ⟨z1, z2⟩ := o i ds h1
    rw [z2] at h2
    exact r.fresh i ds a z1 h2⟩
theorem pds_asg {tg x : Expr} {β : BDen} {g : Den} (he : PD X C x g) (hg : PDG X C tg β) (hs : swapsWithSole [tg] x pos.line X.env = pure false := by rfl) (hw : swappedStores [tg] x X.env = pure none := by rfl)
    (h1 : (assignEach [tg] X.env).map (·.2) = [assign tg X.env] := by rfl) : PDS X C (.Assign [tg] x pos) (sAsg β g) := by
  refine fun e₀ => ps_imp (ps_asg he hg hs hw h1) fun Dn σ H ⟨e, Ω, ρ, o, eH, r, q, k⟩ => ?_
  unfold sAsg at q
  cases q1 : g ρ Ω with
  | none => rw [q1] at q; cases q
  | some p1 =>
    obtain ⟨d, Ω'⟩ := p1
    rw [q1] at q
    dsimp only at q
    cases q2 : β d ρ with
    | none => rw [q2] at q; cases q
    | some ρ' =>
      rw [q2] at q
      cases q
      refine ⟨e, Ω, ρ, d, Ω', eH, r.wf, r.rel, q1, fun v e' x' w' i' => ?_⟩
      have r' := r.to x' w'
      exact ⟨e', Ω', ρ, d, ρ', rfl, w', r'.rel, i', q2, fun σ' z o' => k e' σ' (r'.by z o')⟩
end

/-! ### what is walked -/
def Walk (K : PySem.W.Frag) (e : E4) (J : It) (ds : List D) : Prop := ∀ (i : Nat) (e2 : E4), Same e.F e2.F → (∃ more, e2.α = e.α ++ more) → Same e2.F e2.H →
  (i = ds.length → J.stop i e2.H) ∧ ∀ d, ds[i]? = some d → J.go i e2.H ∧ ∀ x H', J.yld i e2.H x H' → ∃ e3 : E4, e3.H = H' ∧ Is K e3.α e3.F d x ∧ ∀ (C : Cl) (Ω : List OS), Wf K C e2 Ω → Ext e2 e3 ∧ Wf K C e3 Ω
theorem Walk.still {K : PySem.W.Frag} {e : E4} {J : It} {ds : List D} (h : ∀ (i : Nat) (e2 : E4), Same e.F e2.F → (∃ more, e2.α = e.α ++ more) → Same e2.F e2.H →
    (i = ds.length → J.stop i e2.H) ∧ ∀ d, ds[i]? = some d → J.go i e2.H ∧ ∀ x H', J.yld i e2.H x H' → H' = e2.H ∧ Is K e2.α e2.F d x) : Walk K e J ds := fun i e2 h1 h2 h3 => by
  obtain ⟨a, b⟩ := h i e2 h1 h2 h3
  refine ⟨a, fun d hd => ⟨(b d hd).1, fun x H' hy => ?_⟩⟩
  obtain ⟨z, q⟩ := (b d hd).2 x H' hy
  exact ⟨e2, z.symm, q, fun C Ω w => ⟨Ext.refl _, w⟩⟩
def tDI (K : PySem.W.Frag) (C : Cl) (γ : ADen) : TI := fun σ H R => ∃ e Ω ρ ds Ω', e.H = H ∧ Wf K C e Ω ∧ RelE K e σ ρ ∧ γ ρ Ω = some (ds, Ω') ∧ ∀ e' J, Ext e e' → Wf K C e' Ω' → Walk K e' J ds → R J e'.H
def PDI (X : Cx) (C : Cl) (tg iter : Expr) (γ : ADen) : Prop := PI X tg iter (tDI X.K C γ)
theorem pi_imp {X : Cx} {tg iter : Expr} {t t' : TI} (h : PI X tg iter t) (i : ∀ σ H R, t' σ H R → t σ H R) : PI X tg iter t' := fun pins s σ H R I hw => h pins s σ H R I (i σ H R hw)
section
variable {X : Cx} {C : Cl} {tg iter : Expr} {g : Den} {ga : ADen} {pos p : Pos}
def seqD : D → Option (List D)
  | .lst xs => some xs
  | .scr ns => some (ns.map D.int)
  | _ => none
def gSeq (g : Den) : ADen := fun ρ Ω => match g ρ Ω with
  | some (d, Ω') => match seqD d with
    | some ds => some (ds, Ω')
    | none => none
  | none => none
theorem walk_list {K : PySem.W.Frag} {e : E4} {a : Addr} {vs : List V} {ds : List D} (h : SqL K e.F a vs) (r : IsL K e.α e.F ds vs) : Walk K e (Itl K a) ds := by
  refine Walk.still ?_
  intro i e2 ff al fh
  have h2 : SqL K e2.H a vs := fh.seq (ff.seq h)
  refine ⟨fun z => ⟨vs, h2, by rw [← r.length]; exact Nat.le_of_eq z.symm⟩, fun d hd => ?_⟩
  obtain ⟨v, hv, iv⟩ := (IsL.mono ff al ds r).get hd
  exact ⟨⟨vs, v, h2, hv⟩, fun x H' ⟨z1, z2⟩ => ⟨z1, by
    have := z2 vs h2
    rw [hv] at this
    cases this
    exact iv⟩⟩
theorem pdi_list (h : PD X C iter g) : PDI X C tg iter (gSeq g) := pi_imp (pi_list h) fun σ H R ⟨e, Ω, ρ, ds, Ω', eH, w, rl, q, k⟩ => by
  unfold gSeq at q
  cases q1 : g ρ Ω with
  | none => rw [q1] at q; cases q
  | some p1 =>
    obtain ⟨d, Ω1⟩ := p1
    rw [q1] at q
    dsimp only at q
    refine ⟨e, Ω, ρ, d, Ω1, eH, w, rl, q1, fun v e' x' w' i' => ?_⟩
    cases d with
    | lst xs =>
      cases q
      rw [Is] at i'
      obtain ⟨a, vs, rfl, h1, r1⟩ := i'
      exact ⟨a, rfl, ⟨vs, SqL.of (w'.fh _ _ h1)⟩, k e' _ x' w' (walk_list (SqL.of h1) r1)⟩
    | scr ns =>
      cases q
      rw [Is] at i'
      obtain ⟨a, rfl, h1⟩ := i'
      exact ⟨a, rfl, ⟨_, w'.fh.seq h1⟩, k e' _ x' w' (walk_list h1 (IsL.ints ns))⟩
    | _ => cases q
/-- lo, lo + 1 .. -/
def upD (lo : Int) (n : Nat) : List D := (List.range n).map fun (k : Nat) => D.int (lo + (k : Int))
theorem walk_range {K : PySem.W.Frag} {e : E4} {lo : Int} {n : Nat} : Walk K e (Itr lo n) (upD lo n) := by
  refine Walk.still ?_
  intro i e2 _ _ _
  refine ⟨fun z => Nat.le_of_eq (by rw [z]; simp [upD]), fun d hd => ?_⟩
  have hi : i < n := by
    have := (List.getElem?_eq_some_iff.mp hd).1
    simpa [upD] using this
  refine ⟨hi, fun x H' ⟨z1, z2⟩ => ⟨z1, ?_⟩⟩
  have : d = D.int (lo + (i : Int)) := by
    simp [upD, hi] at hd
    exact hd.symm
  subst this z2
  rw [Is]
noncomputable def rng1 : List D → Option (List D)
  | [.int j] => grd (-(2 ^ 62) ≤ j ∧ j < 2 ^ 62) (some (upD 0 j.toNat))
  | _ => none
def gRng (r : List D → Option (List D)) (g : ADen) : ADen := fun ρ Ω => match g ρ Ω with
  | some (ds, Ω') => match r ds with
    | some es => some (es, Ω')
    | none => none
  | none => none
theorem pdi_range1 {a : Expr} (hg : Gl X "range") (hm : X.mg "range" = none) (ha : PDA X C [a] ga) (hs : starEach [a] X.env = [(false, eval a X.env)] := by rfl) : PDI X C tg (.Call (.Name "range" p) [a] [] pos) (gRng rng1 ga) :=
  pi_imp (pi_range1 hg hm ha hs) fun σ H R ⟨e, Ω, ρ, ds, Ω', eH, w, rl, q, k⟩ => by
    unfold gRng at q
    cases q1 : ga ρ Ω with
    | none => rw [q1] at q; cases q
    | some p1 =>
      obtain ⟨es, Ω1⟩ := p1
      rw [q1] at q
      dsimp only at q
      refine ⟨e, Ω, ρ, es, Ω1, eH, w, rl, q1, fun v e' x' w' i' => ?_⟩
      match es, q, i' with
      | [.int j], q, i' =>
        obtain ⟨v, rfl, iv⟩ := isL_one i'
        rw [Is] at iv
        subst iv
        have ez : rng1 [D.int j] = grd (-(2 ^ 62) ≤ j ∧ j < 2 ^ 62) (some (upD 0 j.toNat)) := rfl
        rw [ez] at q
        by_cases hb : (-(2 ^ 62) ≤ j ∧ j < 2 ^ 62)
        · rw [grd_pos hb] at q
          cases q
          exact ⟨j, rfl, hb.1, hb.2, k e' _ x' w' walk_range⟩
        · have en : grd (-(2 ^ 62) ≤ j ∧ j < 2 ^ 62) (some (upD 0 j.toNat)) = none := if_neg hb
          rw [en] at q
          cases q
end

/-! ### for, while -/
def forD (β : BDen) (s : SDen) : List D → SDen
  | [], ρ, Ω => some (.nx ρ Ω)
  | d :: ds, ρ, Ω => match β d ρ with
    | some ρ1 => match s ρ1 Ω with
      | some (.nx ρ' Ω') => forD β s ds ρ' Ω'
      | some (.ct ρ' Ω') => forD β s ds ρ' Ω'
      | some (.bk ρ' Ω') => some (.nx ρ' Ω')
      | some (.rt z Ω') => some (.rt z Ω')
      | none => none
    | none => none
def sFor (γ : ADen) (β : BDen) (s : SDen) : SDen := fun ρ Ω => match γ ρ Ω with
  | some (ds, Ω') => forD β s ds ρ Ω'
  | none => none
section
variable {X : Cx} {C : Cl} {tg iter c : Expr} {γ : ADen} {β : BDen} {s : SDen} {body : List Stmt} {pos : Pos} {p : TDen}
theorem pdb_ex {sts : List Stmt} (h : PDB X C sts s) : PSs X sts (fun Dn σ H => ∃ e₁, tDS X.K C e₁ s Dn σ H) := fun pins sh σ H Dn I ⟨e₁, hw⟩ => h e₁ pins sh σ H Dn I hw
theorem pds_for (hp : PassesOwn (model X.prog X.w) X.A X.env X.xe) (hc : X.calm = true) (hi : PDI X C tg iter γ) (hg : PDG X C tg β) (hb : PDB X C body s)
    (hs : ∀ x, foldedSetIterable iter X.env x = pure x := by intro _; rfl) : PDS X C (.For tg iter body [] pos) (sFor γ β s) := by
  refine fun e₀ => ps_imp (ps_for hp hc hi hg (pdb_ex hb) hs) fun Dn σ H ⟨e, Ω, ρ, o, eH, r, q, k⟩ => ?_
  unfold sFor at q
  cases q1 : γ ρ Ω with
  | none => rw [q1] at q; cases q
  | some p1 =>
    obtain ⟨ds, Ω'⟩ := p1
    rw [q1] at q
    dsimp only at q
    refine ⟨e, Ω, ρ, ds, Ω', eH, r.wf, r.rel, q1, fun e' J x' w' wk => ?_⟩
    refine ⟨fun i m σ H => m = ds.length - i ∧ i ≤ ds.length ∧ ∃ e2 Ω2 ρ2, e2.H = H ∧ RelS X.K C e₀ e2 Ω2 σ ρ2 ∧ Same e'.F e2.F ∧ (∃ more, e2.α = e'.α ++ more) ∧ forD β s (ds.drop i) ρ2 Ω2 = some o, ⟨ds.length, by simp, Nat.zero_le _, e', Ω', ρ, rfl, r.to x' w', Same.refl _, ⟨[], by simp⟩, by simpa using q⟩, ?_⟩
    rintro i m σ2 H2 ⟨rfl, hil, e2, Ω2, ρ2, rfl, r2, ff, al, q2⟩
    obtain ⟨stop, go⟩ := wk i e2 ff al r2.wf.fh
    by_cases hlt : i < ds.length
    · have hd : ds[i]? = some ds[i] := List.getElem?_eq_getElem hlt
      obtain ⟨g1, y1⟩ := go _ hd
      have edrop : ds.drop i = ds[i] :: ds.drop (i + 1) := List.drop_eq_getElem_cons hlt
      rw [edrop] at q2
      refine .inr ⟨g1, fun σ' H' => ∃ e3 Ω3 ρ3, e3.H = H' ∧ RelS X.K C e₀ e3 Ω3 σ' ρ3 ∧ Same e'.F e3.F ∧ (∃ more, e3.α = e'.α ++ more) ∧ forD β s (ds.drop (i + 1)) ρ3 Ω3 = some o, fun σ' H' hN => ⟨ds.length - (i + 1), by omega, rfl, hlt, hN⟩, fun x H' hy => ?_⟩
      obtain ⟨e2', rfl, ix, up⟩ := y1 x H' hy
      obtain ⟨x2', w2'⟩ := up C Ω2 r2.wf
      replace r2 := r2.to x2' w2'
      replace ff := ff.trans x2'.ff
      replace al : ∃ more, e2'.α = e'.α ++ more := by
        obtain ⟨m1, z1⟩ := al
        obtain ⟨m2, z2⟩ := x2'.al
        exact ⟨m1 ++ m2, by rw [z2, z1, List.append_assoc]⟩
      clear y1 g1 stop go
      revert r2 ff al ix
      generalize e2' = e2
      intro ix r2 ff al
      unfold forD at q2
      cases q3 : β ds[i] ρ2 with
      | none => rw [q3] at q2; cases q2
      | some ρ3 =>
        rw [q3] at q2
        dsimp only at q2
        refine ⟨e2, Ω2, ρ2, _, ρ3, rfl, r2.wf, r2.rel, ix, q3, fun σ3 r3 o3 => ?_⟩
        have r3' := r2.by r3 o3
        obtain ⟨e₁, hF, hα, r4, toE, toN⟩ := r3'.mark
        cases q4 : s ρ3 Ω2 with
        | none => rw [q4] at q2; cases q2
        | some o4 =>
          rw [q4] at q2
          refine ⟨e₁, e2, Ω2, ρ3, o4, rfl, r4, q4, ?_⟩
          have back : ∀ {e5 : E4} {Ω5 : List OS} {σ5 : St} {ρ5 : List Sl}, RelS X.K C e₁ e5 Ω5 σ5 ρ5 → RelS X.K C e₀ e5 Ω5 σ5 ρ5 ∧ Same e'.F e5.F ∧ ∃ more, e5.α = e'.α ++ more := fun {e5 Ω5 σ5 ρ5} r5 => by
            refine ⟨⟨r5.wf, r5.rel, toE _ r5.ext, fun i ds a h1 h2 => toN _ (r5.fresh i ds a h1 h2)⟩, ff.trans (hF ▸ r5.ext.ff), ?_⟩
            obtain ⟨m1, z1⟩ := al
            obtain ⟨m2, z2⟩ := r5.ext.al
            exact ⟨m1 ++ m2, by rw [z2, hα, z1, List.append_assoc]⟩
          cases o4 with
          | nx ρ5 Ω5 => exact fun e5 σ5 r5 => ⟨e5, Ω5, ρ5, rfl, (back r5).1, (back r5).2.1, (back r5).2.2, q2⟩
          | ct ρ5 Ω5 => exact fun e5 σ5 r5 => ⟨e5, Ω5, ρ5, rfl, (back r5).1, (back r5).2.1, (back r5).2.2, q2⟩
          | bk ρ5 Ω5 => cases q2; exact fun e5 σ5 r5 => k e5 σ5 (back r5).1
          | rt z Ω5 => cases q2; exact fun e5 v5 x5 w5 i5 => k e5 v5 (toE _ x5) w5 i5
    · have ei : i = ds.length := by omega
      subst ei
      rw [List.drop_length] at q2
      cases q2
      exact .inl ⟨stop rfl, k e2 σ2 r2⟩
end
end DL
set_option Elab.async false
set_option linter.all false
set_option maxRecDepth 100000
set_option genSizeOf false
namespace DL
open PySem PySem.Spec PyProof.Rows L2

/-! ### defs -/
abbrev FDen := List D → List OS → Option (D × List OS)
def spD (K : PySem.W.Frag) (C : Cl) (f : FDen) : Sp := fun vs H Q _ => ∃ e Ω ds d Ω', e.H = H ∧ Wf K C e Ω ∧ IsL K e.α e.F ds vs ∧ f ds Ω = some (d, Ω') ∧ ∀ v e', Ext e e' → Wf K C e' Ω' → Is K e'.α e'.F d v → Q v e'.H
/-- a def of n parameters and m names in all, by its body -/
def runD (n m : Nat) (s : SDen) : FDen := fun ds Ω => if ds.length = n then match s (ds.map Sl.dat ++ List.replicate (m - n) Sl.und) Ω with
    | some (.rt d Ω') => some (d, Ω')
    | some (.nx _ Ω') => some (.non, Ω')
    | _ => none
  else none
theorem start_rel {K : PySem.W.Frag} {C : Cl} {e : E4} {Ω : List OS} {N : List Str} {ds : List D} {vs : List V} (w : Wf K C e Ω) (i : IsL K e.α e.F ds vs) : RelS K C e e Ω (L2.start N vs) (ds.map Sl.dat ++ List.replicate (N.length - ds.length) Sl.und) := by
  have noown : ∀ (j : Nat) (es : List D), (ds.map Sl.dat ++ List.replicate (N.length - ds.length) Sl.und)[j]? ≠ some (.own es) := fun j es h => by
    by_cases hj : j < ds.length
    · rw [List.getElem?_append_left (by simpa using hj), List.getElem?_map] at h
      cases q : ds[j]? with
      | none => rw [q] at h; cases h
      | some d => rw [q] at h; cases h
    · rw [List.getElem?_append_right (by simpa using hj), List.getElem?_replicate] at h
      split at h <;> cases h
  refine ⟨w, ⟨?_, fun j d h => ?_, fun j es h => absurd h (noown j es), fun j k es fs a h => absurd h (noown j es)⟩, Ext.refl e, fun j es a h => absurd h (noown j es)⟩
  · unfold L2.start
    simp [i.length]
  · by_cases hj : j < ds.length
    · rw [List.getElem?_append_left (by simpa using hj), List.getElem?_map] at h
      cases q : ds[j]? with
      | none => rw [q] at h; cases h
      | some d' =>
        rw [q] at h
        cases h
        obtain ⟨v, hv, iv⟩ := i.get q
        refine ⟨v, ?_, iv⟩
        unfold L2.start
        rw [List.getElem?_append_left (by simpa [← i.length] using hj), List.getElem?_map, hv]
        rfl
    · rw [List.getElem?_append_right (by simpa using hj), List.getElem?_replicate] at h
      split at h <;> cases h
theorem fn_D {P : Program} {w : World} {K : PySem.W.Frag} {mg : Str → Option Value} {base : Heap} {C : Cl} {x qual : Str} {st : Stmt} {f : Addr} {fd : FuncData} {N ps : List Str} {k n m : Nat} {s : SDen} (F : Fun K x qual st f fd) (S : FnScope N ps (defScope st)) (hn : ps.length = n) (hm : N.length = m)
    (hbody : ∀ (cdv : Value) (A : Around) (outer : List Env) (sh : Shared) (H : Hp) (E : XK), Room k (A.deeper (envOfC qual (defScope st) sh.heap.objs.size f cdv)) →
      PDB (cxOf CX0 P w K mg base N qual (defScope st) f cdv A outer sh H E).nox C (defBody st) s) : FnOk P w K mg base CX0 (k + 1) f fd ps (spD K C (runD n m s)) := by
  refine F.ok S (fun vs H Q E h => ?_) (fun cdv A outer sh H vs Q E hr h => ?_)
  · obtain ⟨e, Ω, ds, d, Ω', _, _, i, q, _⟩ := h
    unfold runD at q
    by_cases hl : ds.length = n
    · rw [← i.length, hl, hn]
    · rw [if_neg hl] at q; cases q
  · obtain ⟨e, Ω, ds, d, Ω', eH, wf, i, q, kk⟩ := h
    unfold runD at q
    by_cases hl : ds.length = n
    · rw [if_pos hl] at q
      cases q1 : s (ds.map Sl.dat ++ List.replicate (m - n) Sl.und) Ω with
      | none => rw [q1] at q; cases q
      | some o =>
        rw [q1] at q
        refine ⟨_, hbody cdv A outer sh H E hr e, e, Ω, _, o, eH, start_rel wf i, by rw [hl, hm]; exact q1, ?_⟩
        cases o with
        | rt d' Ω2 => cases q; exact fun e' v x' w' i' => kk v e' x' w' i'
        | nx ρ' Ω2 => cases q; exact fun e' σ' r' => kk .non e' r'.ext r'.wf (by rw [Is])
        | bk ρ' Ω2 => cases q
        | ct ρ' Ω2 => cases q
    · rw [if_neg hl] at q; cases q
def gCall (f : FDen) (g : ADen) : Den := fun ρ Ω => match g ρ Ω with
  | some (ds, Ω1) => f ds Ω1
  | none => none
section
variable {X : Cx} {C : Cl} {k : Nat} {f : Addr} {fd : FuncData} {ps : List Str} {F : FDen} {n : Str} {p pos : Pos} {x : Expr} {es : List Expr} {ga : ADen}
theorem call_read {K : PySem.W.Frag} {σ : St} {H : Hp} {Q : VK} {E : XK} (hw : tD K C (gCall F ga) σ H Q) : tCall (spD K C F) [] E (tDA K C ga) σ H Q := by
  obtain ⟨e, Ω, ρ, d, Ω', eH, w, rl, q, kk⟩ := hw
  unfold gCall at q
  cases q1 : ga ρ Ω with
  | none => rw [q1] at q; cases q
  | some p1 =>
    obtain ⟨ds, Ω1⟩ := p1
    rw [q1] at q
    refine ⟨e, Ω, ρ, ds, Ω1, eH, w, rl, q1, fun vs e' x' w' i' => ?_⟩
    show spD K C F (vs ++ []) e'.H Q E
    rw [List.append_nil]
    exact ⟨e', Ω1, ds, d, Ω', rfl, w', i', q, fun v e'' x'' w'' i'' => kk v e'' (x'.trans x'') w'' i''⟩
theorem pd_call (G : FnOk X.prog X.w X.K X.mg X.base CX0 k f fd ps (spD X.K C F)) (hr : Room k X.A) (hg : Gl X n) (hm : X.mg n = some (.ref f)) (hk : PySem.W.keepIn X.K (.ref f) = true) (hb : Binds X.K fd ps [])
    (ha : PDA X C (x :: es) ga) (hdb : (n == ("__debug__" : Str)) = false := by decide) (he : starEach (x :: es) X.env = (false, eval x X.env) :: starEach es X.env := by rfl) (hpl : (backTo pos (starEach es X.env)).any (·.1) = false := by rfl) :
    PD X C (.Call (.Name n p) (x :: es) [] pos) (gCall F ga) :=
  pe_imp (pe_call G hr hg hm hk hb .nil pass0 ha hdb he hpl) fun _ _ _ hw => call_read hw
end

/-! ### comprehensions -/
def PDTs (X : Cx) (C : Cl) (ifs : List Expr) (p : TDen) : Prop := PTs X ifs (tDT X.K C p)
theorem pdts_one {X : Cx} {C : Cl} {c : Expr} {p : TDen} (h : PDT X C c p) : PDTs X C [c] p := pts_one h
def compD (β : BDen) (p : TDen) (g : Den) : List D → List Sl → List OS → Option (List D × List OS)
  | [], _, Ω => some ([], Ω)
  | d :: ds, ρ, Ω => match β d ρ with
    | some ρ1 => match p ρ1 Ω with
      | some (true, Ω1) => match g ρ1 Ω1 with
        | some (y, Ω2) => match compD β p g ds ρ1 Ω2 with
          | some (ys, Ω3) => some (y :: ys, Ω3)
          | none => none
        | none => none
      | some (false, Ω1) => compD β p g ds ρ1 Ω1
      | none => none
    | none => none
def innerD (μ : List (Option Nat)) (ρ : List Sl) : List Sl := μ.map fun o => match o with
  | none => Sl.und
  | some j => match ρ[j]? with
    | some (.dat d) => .dat d
    | _ => .und
def gComp (μ : List (Option Nat)) (γ : ADen) (β : BDen) (p : TDen) (g : Den) : Den := fun ρ Ω => match γ ρ Ω with
  | some (ds, Ω1) => if ds.length ≤ big then match compD β p g ds (innerD μ ρ) Ω1 with
      | some (ys, Ω2) => some (.lst ys, Ω2)
      | none => none
    else none
  | none => none
section
variable {K : PySem.W.Frag} {C : Cl} {e : E4} {σ : St} {ρ : List Sl} {μ : List (Option Nat)}
theorem inner_dat {j : Nat} {d : D} (h : (innerD μ ρ)[j]? = some (.dat d)) : ∃ i, μ[j]? = some (some i) ∧ ρ[i]? = some (.dat d) := by
  unfold innerD at h
  rw [List.getElem?_map] at h
  cases q : μ[j]? with
  | none => rw [q] at h; cases h
  | some o =>
    rw [q] at h
    cases o with
    | none => cases h
    | some i =>
      cases q2 : ρ[i]? with
      | none => simp [q2] at h
      | some sl =>
        cases sl with
        | dat d' => simp [q2] at h; subst h; exact ⟨i, rfl, q2⟩
        | und => simp [q2] at h
        | own _ => simp [q2] at h
theorem inner_own {j : Nat} {ds : List D} : (innerD μ ρ)[j]? ≠ some (.own ds) := fun h => by
  unfold innerD at h
  rw [List.getElem?_map] at h
  cases q : μ[j]? with
  | none => rw [q] at h; cases h
  | some o =>
    rw [q] at h
    cases o with
    | none => cases h
    | some i =>
      cases q2 : ρ[i]? with
      | none => simp [q2] at h
      | some sl => cases sl <;> simp [q2] at h
theorem inner_rel (r : RelE K e σ ρ) : RelE K e (inner μ σ) (innerD μ ρ) := by
  refine ⟨by simp [inner, innerD], fun j d h => ?_, fun j ds h => absurd h inner_own, fun j k ds es a h => absurd h inner_own⟩
  obtain ⟨i, h1, h2⟩ := inner_dat h
  obtain ⟨v, e1, iv⟩ := r.dat i d h2
  refine ⟨v, ?_, iv⟩
  unfold inner
  rw [List.getElem?_map, h1]
  show some ((σ[i]?).join) = _
  rw [e1]
  rfl
end
section
variable {K : PySem.W.Frag} {C : Cl} {γ : ADen} {β : BDen} {p : TDen} {g : Den} {μ : List (Option Nat)}
theorem comp_read {σ : St} {H : Hp} {Q : VK} (hw : tD K C (gComp μ γ β p g) σ H Q) : tComp μ (tDI K C γ) (tDG K C β) (tDT K C p) (tD K C g) σ H Q := by
  obtain ⟨e, Ω, ρ, d, Ωf, eH, w, rl, q, kk⟩ := hw
  unfold gComp at q
  cases q1 : γ ρ Ω with
  | none => rw [q1] at q; cases q
  | some p1 =>
    obtain ⟨ds, Ω1⟩ := p1
    rw [q1] at q
    dsimp only at q
    split at q
    · rename_i hbig
      cases q2 : compD β p g ds (innerD μ ρ) Ω1 with
      | none => rw [q2] at q; cases q
      | some p2 =>
        obtain ⟨ysAll, Ω2⟩ := p2
        rw [q2] at q
        cases q
        refine ⟨e, Ω, ρ, ds, Ω1, eH, w, rl, q1, fun e' J x' w' wk a ha => ?_⟩
        refine ⟨fun i m σ' H' => m = ds.length - i ∧ i ≤ ds.length ∧ ∃ e2 Ω2 ρ2 vs ys0 ys1, e2.H = H' ∧ Wf K C e2 Ω2 ∧ RelE K e2 σ' ρ2 ∧ (∀ (j : Nat) (es : List D), ρ2[j]? ≠ some (.own es)) ∧ e2.H a = some (.lst vs) ∧ e2.F a = none ∧ ¬ e2.A a ∧ IsL K e2.α e2.F ys0 vs ∧ Ext e' e2 ∧
          compD β p g (ds.drop i) ρ2 Ω2 = some (ys1, Ωf) ∧ ys0 ++ ys1 = ysAll ∧ ys0.length ≤ i, ⟨ds.length, by simp, Nat.zero_le _, ⟨e'.α, e'.F, e'.A, upd e'.H a (.lst [])⟩, Ω1, innerD μ ρ, [], [], ysAll, rfl, ?_, ?_, fun j es => inner_own, upd_same, w'.nF ha, fun z => (w'.ah a z).1 ha, .nil, ?_, by simpa using q2, rfl, Nat.zero_le _⟩, ?_⟩
        · refine ⟨fun b u hb => ?_, w'.fa, fun b hb => ?_, w'.ol, w'.nd, fun n b u h1 h2 => ⟨(w'.ob n b u h1 h2).1, (w'.ob n b u h1 h2).2.keep (fun z hz => ?_) (Same.refl _) ⟨[], by simp⟩⟩⟩
          · show upd e'.H a _ b = some u
            rw [upd_ne (ne_of_none (w'.fh b u hb) ha)]; exact w'.fh b u hb
          · show upd e'.H a _ b ≠ none ∧ ∀ xs, upd e'.H a _ b ≠ some (.tup xs)
            rw [upd_ne (fun z => (w'.ah b hb).1 (by rw [z]; exact ha))]; exact w'.ah b hb
          · show upd e'.H a _ b = some z
            rw [upd_ne (ne_of_none hz ha)]; exact hz
        · have r1 := inner_rel (μ := μ) (rl.ext x')
          exact ⟨r1.len, r1.dat, fun j es h => absurd h inner_own, r1.sep⟩
        · refine ⟨fun b u hb _ => ?_, fun b u hb => ⟨u, ?_⟩, Same.refl _, fun b u hb => .inl hb, fun b hb => .inl hb, fun b hb => hb, [], by simp⟩
          · show upd e'.H a _ b = some u
            rw [upd_ne (ne_of_none hb ha)]; exact hb
          · show upd e'.H a _ b = some u
            rw [upd_ne (ne_of_none hb ha)]; exact hb
        · rintro i m σ2 H2 ⟨rfl, hil, e2, Ω2, ρ2, vs, ys0, ys1, rfl, w2, r2, no2, ha2, hF2, hA2, iy, x2, q3, ey, hy⟩
          obtain ⟨stop, go⟩ := wk i e2 x2.ff x2.al w2.fh
          by_cases hlt : i < ds.length
          · have hd : ds[i]? = some ds[i] := List.getElem?_eq_getElem hlt
            obtain ⟨g1, y1⟩ := go _ hd
            have edrop : ds.drop i = ds[i] :: ds.drop (i + 1) := List.drop_eq_getElem_cons hlt
            rw [edrop] at q3
            refine .inr ⟨g1, fun σ' H' => i + 1 ≤ ds.length ∧ ∃ e2 Ω2 ρ2 vs ys0 ys1, e2.H = H' ∧ Wf K C e2 Ω2 ∧ RelE K e2 σ' ρ2 ∧ (∀ (j : Nat) (es : List D), ρ2[j]? ≠ some (.own es)) ∧ e2.H a = some (.lst vs) ∧ e2.F a = none ∧ ¬ e2.A a ∧ IsL K e2.α e2.F ys0 vs ∧ Ext e' e2 ∧
              compD β p g (ds.drop (i + 1)) ρ2 Ω2 = some (ys1, Ωf) ∧ ys0 ++ ys1 = ysAll ∧ ys0.length ≤ i + 1, fun σ' H' hN => ⟨ds.length - (i + 1), by omega, rfl, hN⟩, fun x H' hyl => ?_⟩
            obtain ⟨e2', rfl, ix, up⟩ := y1 x H' hyl
            obtain ⟨xx, ww⟩ := up C Ω2 w2
            have hh' : e2'.H a = some (.lst vs) := xx.hk a _ ha2 hA2
            have hf' : e2'.F a = none := by
              cases z : e2'.F a with
              | none => rfl
              | some o =>
                rcases xx.fn a o z with y | y | ⟨⟨xs, rfl⟩, y, _⟩
                · rw [hF2] at y; cases y
                · rw [ha2] at y; cases y
                · rw [ha2] at y; cases y
            have ha' : ¬ e2'.A a := fun z => by
              rcases xx.an a z with y | y
              · exact hA2 y
              · rw [ha2] at y; cases y
            replace r2 := r2.ext xx
            replace iy := iy.ext xx
            replace x2 := x2.trans xx
            clear y1 g1 stop go w2 ha2 hF2 hA2
            revert r2 iy x2 ww hh' hf' ha' ix
            generalize e2' = e2
            intro ix w2 ha2 hF2 hA2 r2 iy x2
            unfold compD at q3
            cases q4 : β ds[i] ρ2 with
            | none => rw [q4] at q3; cases q3
            | some ρ3 =>
              rw [q4] at q3
              dsimp only at q3
              refine ⟨e2, Ω2, ρ2, _, ρ3, rfl, w2, r2, ix, q4, fun σ3 r3 o3 => ?_⟩
              have no3 : ∀ (j : Nat) (es : List D), ρ3[j]? ≠ some (.own es) := fun j es h => no2 j es (o3 j es h).1
              cases q5 : p ρ3 Ω2 with
              | none => rw [q5] at q3; cases q3
              | some p5 =>
                obtain ⟨b, Ω3⟩ := p5
                rw [q5] at q3
                refine ⟨e2, Ω2, ρ3, b, Ω3, rfl, w2, r3, q5, fun e3 x3 w3 => ?_⟩
                have keepA : ∀ {e3 : E4}, Ext e2 e3 → e3.H a = some (.lst vs) ∧ e3.F a = none ∧ ¬ e3.A a := fun {e3} x3 => by
                  refine ⟨x3.hk a _ ha2 hA2, ?_, fun z => ?_⟩
                  · cases z : e3.F a with
                    | none => rfl
                    | some o =>
                      rcases x3.fn a o z with y | y | ⟨⟨xs, rfl⟩, y, _⟩
                      · rw [hF2] at y; cases y
                      · rw [ha2] at y; cases y
                      · rw [ha2] at y; cases y
                  · rcases x3.an a z with y | y
                    · exact hA2 y
                    · rw [ha2] at y; cases y
                cases b with
                | false =>
                  refine iteF ?_
                  obtain ⟨z1, z2, z3⟩ := keepA x3
                  exact ⟨hlt, e3, Ω3, ρ3, vs, ys0, ys1, rfl, w3, r3.ext x3, no3, z1, z2, z3, iy.ext x3, x2.trans x3, q3, ey, Nat.le_succ_of_le hy⟩
                | true =>
                  refine iteT ?_
                  dsimp only at q3
                  cases q6 : g ρ3 Ω3 with
                  | none => rw [q6] at q3; cases q3
                  | some p6 =>
                    obtain ⟨y, Ω4⟩ := p6
                    rw [q6] at q3
                    dsimp only at q3
                    cases q7 : compD β p g (ds.drop (i + 1)) ρ3 Ω4 with
                    | none => rw [q7] at q3; cases q3
                    | some p7 =>
                      obtain ⟨ys2, Ω5⟩ := p7
                      rw [q7] at q3
                      cases q3
                      refine ⟨e3, Ω3, ρ3, y, Ω4, rfl, w3, r3.ext x3, q6, fun v e4 x4 w4 i4 => ?_⟩
                      obtain ⟨z1, z2, z3⟩ := keepA (x3.trans x4)
                      have x24 := x3.trans x4
                      refine ⟨vs, z1, by rw [← iy.length]; exact big_lt (by omega), hlt, ⟨e4.α, e4.F, e4.A, upd e4.H a (.lst (vs ++ [v]))⟩, Ω4, ρ3, _, ys0 ++ [y], ys2, rfl, ⟨fun b u hb => ?_, w4.fa, fun b hb => ?_, w4.ol, w4.nd, fun n b u h1 h2 => ⟨(w4.ob n b u h1 h2).1, (w4.ob n b u h1 h2).2.keep (fun z hz => ?_) (Same.refl _) ⟨[], by simp⟩⟩⟩,
                        ⟨((r3.ext x3).ext x4).len, ((r3.ext x3).ext x4).dat, fun j es h => absurd h (no3 j es), ((r3.ext x3).ext x4).sep⟩, no3, upd_same, z2, z3, (iy.ext x24).append (.cons i4 .nil), ⟨fun b u hb hn => ?_, fun b u hb => ?_, (x2.trans x24).ff, (x2.trans x24).fn, (x2.trans x24).an, (x2.trans x24).aa, (x2.trans x24).al⟩, q7, by rw [← ey]; simp, by simp; omega⟩
                      · show upd e4.H a _ b = some u
                        rw [upd_ne (fun z => by subst z; rw [z2] at hb; cases hb)]; exact w4.fh b u hb
                      · show upd e4.H a _ b ≠ none ∧ ∀ xs, upd e4.H a _ b ≠ some (.tup xs)
                        rw [upd_ne (fun z => z3 (by rw [← z]; exact hb))]; exact w4.ah b hb
                      · show upd e4.H a _ b = some z
                        rw [upd_ne (fun y => z3 (by rw [← y]; exact (w4.ob n b u h1 h2).1))]; exact hz
                      · show upd e4.H a _ b = some u
                        rw [upd_ne (ne_of_none hb ha)]; exact (x2.trans x24).hk b u hb hn
                      · obtain ⟨u', z⟩ := (x2.trans x24).dm b u hb
                        exact ⟨u', by show upd e4.H a _ b = some u'; rw [upd_ne (ne_of_none hb ha)]; exact z⟩
          · have ei : i = ds.length := by omega
            subst ei
            rw [List.drop_length] at q3
            cases q3
            rw [List.append_nil] at ey
            subst ey
            refine .inl ⟨stop rfl, ?_⟩
            have ff : Same e2.F (upd e2.F a (.lst vs)) := fun b o hb => by rw [upd_ne (ne_of_none hb hF2)]; exact hb
            refine kk (.ref a) ⟨e2.α, upd e2.F a (.lst vs), e2.A, e2.H⟩ ⟨(x'.trans x2).hk, (x'.trans x2).dm, (x'.trans x2).ff.trans ff, fun b u hb => ?_, (x'.trans x2).an, (x'.trans x2).aa, (x'.trans x2).al⟩ ⟨fun b u hb => ?_, fun b hb => ?_, w2.ah, w2.ol, w2.nd, fun n b u h1 h2 => ⟨(w2.ob n b u h1 h2).1, (w2.ob n b u h1 h2).2.keep (fun z hz => hz) ff ⟨[], by simp⟩⟩⟩ ?_
            · have hb : upd e2.F a (.lst vs) b = some u := hb
              by_cases hba : b = a
              · subst hba; exact .inr (.inl (x'.back ha))
              · rw [upd_ne hba] at hb; exact (x'.trans x2).fn b u hb
            · have hb : upd e2.F a (.lst vs) b = some u := hb
              by_cases hba : b = a
              · subst hba; rw [upd_same] at hb; cases hb; exact ha2
              · rw [upd_ne hba] at hb; exact w2.fh b u hb
            · show upd e2.F a _ b = none
              rw [upd_ne (fun z => hA2 (by rw [← z]; exact hb))]; exact w2.fa b hb
            · rw [Is]
              exact ⟨a, vs, rfl, upd_same, IsL.mono ff ⟨[], by simp⟩ _ iy⟩
    · cases q
end
section
variable {X : Cx} {C : Cl} {tg iter elt : Expr} {ifs : List Expr} {scope : Scope} {pos : Pos} {N : List Str} {μ : List (Option Nat)} {γ : ADen} {β : BDen} {p : TDen} {g : Den}
theorem pds_comp {i : Nat} {y : Str} {py spos : Pos} (hN : X.N.Nodup) (hiN : X.N[i]? = some y) (hx : Loc X.env.scope y) (hc : X.calm = true) (hcell : ∀ y ∈ scope.names, y.2 ≠ .cell) (hkind : scope.kind = .function) (hnames : ∀ y ∈ scope.names, y.2 = .local → scope.names.lookup y.1 = some .local)
    (hfree : ∀ y ∈ scope.names, y.2 = .free → X.env.kindOf y.1 = some .cell ∨ X.env.kindOf y.1 = some .free)
    (hhas : ∀ x, ((relabel scope X.env).names.lookup x = some .cell ∨ (relabel scope X.env).names.lookup x = some .free) → (x, NameKind.free) ∈ scope.names)
    (hμ : muOk X.N X.env.scope N (relabel scope X.env) μ = true) (hi : PDI X C tg iter γ)
    (hg : ∀ fp A s H, PDG (cxComp X N scope (clos X.env.cells scope.names []) A fp s H) C tg β) (ht : ∀ fp A s H, PDTs (cxComp X N scope (clos X.env.cells scope.names []) A fp s H) C ifs p) (he : ∀ fp A s H, PD (cxComp X N scope (clos X.env.cells scope.names []) A fp s H) C elt g)
    (hsw : swapsWith (.ListComp elt [⟨tg, iter, ifs, 0⟩] scope pos) (some (.Name y py)) spos.line X.env = pure true := by rfl)
    (hf : X.fn y = true ∨ X.env.scope.names.lookup y = some .local := by first | exact .inl rfl | exact .inr rfl | assumption)
    (hs : ∀ x, foldedSetIterable iter X.env x = pure x := by intro _; rfl) : PDS X C (.Assign [.Name y py] (.ListComp elt [⟨tg, iter, ifs, 0⟩] scope pos) spos) (sSet i (gComp μ γ β p g)) := fun e₀ =>
  ps_imp (ps_comp (g := tDG X.K C β) (tt := tDT X.K C p) (te := tD X.K C g) hN hiN hx hc hcell hkind hnames hfree hhas hμ hi hg ht he hsw hf hs) fun Dn σ H hw => by
    obtain ⟨e, Ω, ρ, o, eH, r, q, k⟩ := hw
    have h2 : tAsg (tD X.K C (gComp μ γ β p g)) (gName i) Dn σ H := set_read ⟨e, Ω, ρ, o, eH, r, q, k⟩
    exact comp_read h2
end
end DL
set_option Elab.async false
set_option linter.all false
set_option maxRecDepth 100000
set_option genSizeOf false
namespace DL
open PySem PySem.Spec PyProof.Rows L2

/-! ### a def of the text, as its callers need it -/
structure Fn (P : Program) (w : World) (K : PySem.W.Frag) (mg : Str → Option Value) (base : Heap) (C : Cl) (k : Nat) (n : Str) (F : FDen) : Prop where
  ex : ∃ f fd ps, mg n = some (.ref f) ∧ PySem.W.keepIn K (.ref f) = true ∧ Binds K fd ps [] ∧ FnOk P w K mg base CX0 k f fd ps (spD K C F)
/-- the def st stands at the top under its name -/
structure TF (K : PySem.W.Frag) (mg : Str → Option Value) (n : Str) (st : Stmt) : Prop where
  ex : ∃ f fd, mg n = some (.ref f) ∧ Fun K n n st f fd
theorem fn_F {P : Program} {w : World} {K : PySem.W.Frag} {mg : Str → Option Value} {base : Heap} {C : Cl} {x : Str} {st : Stmt} {N ps : List Str} {k n m : Nat} {s : SDen} (T : TF K mg x st) (S : FnScope N ps (defScope st)) (hn : ps.length = n) (hm : N.length = m)
    (hb : ∀ (kV doc pm : Value) (an : Option Addr) (cdv ct : Value) (us : List Value), us.length = ps.length → bindArgs (PySem.W.fnOf x x (defArgs st) (defBody st) (defScope st) .none kV doc pm an cdv ct) ⟨us, []⟩ = pure (ps.zip us))
    (hbody : ∀ (f : Addr) (cdv : Value) (A : Around) (outer : List Env) (sh : Shared) (H : Hp) (E : XK), Room k (A.deeper (envOfC x (defScope st) sh.heap.objs.size f cdv)) →
      PDB (cxOf CX0 P w K mg base N x (defScope st) f cdv A outer sh H E).nox C (defBody st) s) : Fn P w K mg base C (k + 1) x (runD n m s) := by
  obtain ⟨f, fd, hm', F⟩ := T.ex
  exact ⟨f, fd, ps, hm', F.kp, F.binds hb, fn_D F S hn hm (hbody f)⟩
section
variable {X : Cx} {C : Cl} {k : Nat} {F : FDen} {n : Str} {p pos : Pos} {x : Expr} {es : List Expr} {ga : ADen}
theorem pd_callF (G : Fn X.prog X.w X.K X.mg X.base C k n F) (hr : Room k X.A) (hg : Gl X n)
    (ha : PDA X C (x :: es) ga) (hdb : (n == ("__debug__" : Str)) = false := by decide) (he : starEach (x :: es) X.env = (false, eval x X.env) :: starEach es X.env := by rfl) (hpl : (backTo pos (starEach es X.env)).any (·.1) = false := by rfl) :
    PD X C (.Call (.Name n p) (x :: es) [] pos) (gCall F ga) := by
  obtain ⟨f, fd, ps, hm, hk, hb, ok⟩ := G.ex
  exact pd_call ok hr hg hm hk hb ha hdb he hpl
end
/-! ### comprehensions: one look -/
def relabelS (scope osc : Scope) : Scope :=
  { scope with names := scope.names.map fun (n, k) => if (k == .free && osc.kind == .function && osc.names.lookup n == some .cell) then (n, .cell) else (n, k) }
def compOk (oN : List Str) (osc : Scope) (N : List Str) (scope : Scope) (μ : List (Option Nat)) : Bool :=
  scope.names.all (fun y => decide (y.2 ≠ .cell)) && decide (scope.kind = .function) && scope.names.all (fun y => !decide (y.2 = .local) || decide (scope.names.lookup y.1 = some .local)) &&
    scope.names.all (fun y => !decide (y.2 = .free) || decide (osc.names.lookup y.1 = some .cell)) &&
    (relabelS scope osc).names.all (fun y => !(decide (y.2 = .cell) || decide (y.2 = .free)) || decide ((y.1, NameKind.free) ∈ scope.names)) && muOk oN osc N (relabelS scope osc) μ
structure CompOk (X : Cx) (N : List Str) (scope : Scope) (μ : List (Option Nat)) : Prop where
  cell : ∀ y ∈ scope.names, y.2 ≠ .cell
  kind : scope.kind = .function
  names : ∀ y ∈ scope.names, y.2 = .local → scope.names.lookup y.1 = some .local
  free : ∀ y ∈ scope.names, y.2 = .free → X.env.kindOf y.1 = some .cell ∨ X.env.kindOf y.1 = some .free
  has : ∀ x, ((relabel scope X.env).names.lookup x = some .cell ∨ (relabel scope X.env).names.lookup x = some .free) → (x, NameKind.free) ∈ scope.names
  mu : muOk X.N X.env.scope N (relabel scope X.env) μ = true
theorem compOk_of {X : Cx} {oN : List Str} {osc : Scope} {N : List Str} {scope : Scope} {μ : List (Option Nat)} (hN : X.N = oN) (hs : X.env.scope = osc) (h : compOk oN osc N scope μ = true) : CompOk X N scope μ := by
  subst hN hs
  unfold compOk at h
  simp only [Bool.and_eq_true] at h
  obtain ⟨⟨⟨⟨⟨h1, h2⟩, h3⟩, h4⟩, h5⟩, h6⟩ := h
  refine ⟨fun y hy => of_decide_eq_true (List.all_eq_true.mp h1 y hy), of_decide_eq_true h2, fun y hy e => ?_, fun y hy e => .inl ?_, fun x hx => ?_, h6⟩
  · have := List.all_eq_true.mp h3 y hy
    simp only [Bool.or_eq_true, Bool.not_eq_true', decide_eq_false_iff_not, decide_eq_true_eq] at this
    exact this.resolve_left fun z => z e
  · have := List.all_eq_true.mp h4 y hy
    simp only [Bool.or_eq_true, Bool.not_eq_true', decide_eq_false_iff_not, decide_eq_true_eq] at this
    exact this.resolve_left fun z => z e
  · have hx : (relabelS scope X.env.scope).names.lookup x = some .cell ∨ (relabelS scope X.env.scope).names.lookup x = some .free := hx
    have q : ∀ k : NameKind, (k = .cell ∨ k = .free) → (relabelS scope X.env.scope).names.lookup x = some k → (x, NameKind.free) ∈ scope.names := fun k hk hl => by
      have := List.all_eq_true.mp h5 (x, k) (PySem.mem_of_lookup hl)
      simp only [Bool.or_eq_true, Bool.not_eq_true', Bool.or_eq_false_iff, decide_eq_false_iff_not, decide_eq_true_eq] at this
      rcases this with ⟨a, b⟩ | c
      · exact (hk.elim a b).elim
      · exact c
    rcases hx with hx | hx
    · exact q _ (.inl rfl) hx
    · exact q _ (.inr rfl) hx
section
variable {X : Cx} {C : Cl} {tg iter elt : Expr} {ifs : List Expr} {scope : Scope} {pos : Pos} {N : List Str} {μ : List (Option Nat)} {γ : ADen} {β : BDen} {p : TDen} {g : Den}
theorem pds_compN {i : Nat} {y : Str} {py spos : Pos} (hN : X.N.Nodup) (hiN : X.N[i]? = some y) (hx : Loc X.env.scope y) (hc : X.calm = true) (ok : CompOk X N scope μ) (hi : PDI X C tg iter γ)
    (hg : ∀ fp A s H, PDG (cxComp X N scope (clos X.env.cells scope.names []) A fp s H) C tg β) (ht : ∀ fp A s H, PDTs (cxComp X N scope (clos X.env.cells scope.names []) A fp s H) C ifs p) (he : ∀ fp A s H, PD (cxComp X N scope (clos X.env.cells scope.names []) A fp s H) C elt g)
    (hsw : swapsWith (.ListComp elt [⟨tg, iter, ifs, 0⟩] scope pos) (some (.Name y py)) spos.line X.env = pure true := by rfl)
    (hf : X.fn y = true ∨ X.env.scope.names.lookup y = some .local := by first | exact .inl rfl | exact .inr rfl | assumption)
    (hs : ∀ x, foldedSetIterable iter X.env x = pure x := by intro _; rfl) : PDS X C (.Assign [.Name y py] (.ListComp elt [⟨tg, iter, ifs, 0⟩] scope pos) spos) (sSet i (gComp μ γ β p g)) :=
  pds_comp hN hiN hx hc ok.cell ok.kind ok.names ok.free ok.has ok.mu hi hg ht he hsw hf hs
end
/-! ### more of one's own lists; -x -/
section
variable {X : Cx} {C : Cl} {x b : Expr} {g : Den} {pos : Pos}
theorem pds_app {i : Nat} {n : Str} {p ap cp : Pos} (hv : PE X (.Name n p) (tVar i)) (he : PD X C x g)
    (hbase : attributeBase (.Name n p) "append" X.env (eval (.Name n p) X.env) = eval (.Name n p) X.env := by rfl)
    (hline : (ap.endLine == cp.line) = true := by rfl) (hs1 : starEach [x] X.env = (false, eval x X.env) :: starEach [] X.env := by rfl)
    (hfew : ((backTo cp (starEach [x] X.env)).all (fun x => !x.1) && (backToKw cp (keywordEach [] X.env)).all (fun x => x.1.isSome)
      && decide ([x].length + ([] : List Keyword).length + (if ([] : List Keyword).isEmpty then 0 else 1) < 30)) = true := by rfl)
    (hpl : (backTo cp (starEach [] X.env)).any (·.1) = false := by rfl)
    (hs : swapsWith (.Call (.Attribute (.Name n p) "append" ap) [x] [] cp) none pos.line X.env = pure false := by rfl) :
    PDS X C (.Expr (.Call (.Attribute (.Name n p) "append" ap) [x] [] cp) pos) (sApp i g) := fun e₀ =>
  ps_imp (ps_expr (pe_bm PySem.F.plainAttrs_list PySem.F.slot_list_append PySem.F.type_list_append mt_append hv (pa_cons he pa_nil hs1) hbase hfew hline hs1 hpl) hs) fun Dn σ H hw => app_read hw
def gNeg (g : Den) : Den := fun ρ Ω => match g ρ Ω with
  | some (.int i, Ω') => some (.int (-i), Ω')
  | _ => none
theorem pd_neg (h : PD X C x g) : PD X C (.UnaryOp .USub x pos) (gNeg g) := pe_imp (pe_un un_neg h) fun σ H Q ⟨e, Ω, ρ, d, Ω', eH, w, rl, q, kk⟩ => by
  unfold gNeg at q
  cases q1 : g ρ Ω with
  | none => rw [q1] at q; cases q
  | some p1 =>
    obtain ⟨d1, Ω1⟩ := p1
    rw [q1] at q
    refine ⟨e, Ω, ρ, d1, Ω1, eH, w, rl, q1, fun v e' x' w' i' => ?_⟩
    cases d1 with
    | int i =>
      rw [Is] at i'
      cases q
      exact ⟨i, i', kk _ e' x' w' (by rw [Is])⟩
    | _ => cases q
end
abbrev C0 : Cl := fun _ => none
end DL
set_option Elab.async false
set_option linter.all false
set_option maxRecDepth 100000
set_option genSizeOf false
/-! what each word is worth at a place -/
namespace DL
open PySem
section
variable (ρ : List Sl) (Ω : List OS)
@[simp] theorem ap_var (i : Nat) : gVar i ρ Ω = match ρ[i]? with | some (.dat d) => some (d, Ω) | _ => none := (rfl)
@[simp] theorem ap_c (d : D) : gC d ρ Ω = some (d, Ω) := (rfl)
@[simp] theorem ap_op (r : D → D → Option D) (f g : Den) : gOp r f g ρ Ω = match f ρ Ω with
  | some (x, Ω₁) => (match g ρ Ω₁ with
    | some (y, Ω₂) => (match r x y with
      | some z => some (z, Ω₂)
      | none => none)
    | none => none)
  | none => none := (rfl)
@[simp] theorem ap_T (g : Den) : gT g ρ Ω = match g ρ Ω with | some (.bl b, Ω') => some (b, Ω') | _ => none := (rfl)
@[simp] theorem ap_andT (p q : TDen) : gAndT p q ρ Ω = match p ρ Ω with | some (true, Ω') => q ρ Ω' | some (false, Ω') => some (false, Ω') | none => none := (rfl)
@[simp] theorem ap_orT (p q : TDen) : gOrT p q ρ Ω = match p ρ Ω with | some (true, Ω') => some (true, Ω') | some (false, Ω') => q ρ Ω' | none => none := (rfl)
@[simp] theorem ap_notT (p : TDen) : gNotT p ρ Ω = match p ρ Ω with | some (k, Ω') => some (!k, Ω') | none => none := (rfl)
@[simp] theorem ap_andV (f g : Den) : gAndV f g ρ Ω = match f ρ Ω with | some (.bl true, Ω') => g ρ Ω' | some (.bl false, Ω') => some (.bl false, Ω') | _ => none := (rfl)
@[simp] theorem ap_notV (f : Den) : gNotV f ρ Ω = match f ρ Ω with | some (.bl k, Ω') => some (.bl (!k), Ω') | _ => none := (rfl)
@[simp] theorem ap_nil : gNil ρ Ω = some ([], Ω) := (rfl)
@[simp] theorem ap_cons (f : Den) (g : ADen) : gCons f g ρ Ω = match f ρ Ω with
  | some (d, Ω1) => (match g ρ Ω1 with | some (ds, Ω2) => some (d :: ds, Ω2) | none => none)
  | none => none := (rfl)
@[simp] theorem ap_tup (g : ADen) : gTup g ρ Ω = match g ρ Ω with | some (ds, Ω') => (if ds.length ≤ 100000 then some (.tup ds, Ω') else none) | none => none := (rfl)
@[simp] theorem ap_lst (g : ADen) : gLst g ρ Ω = match g ρ Ω with | some (ds, Ω') => (if ds.length ≤ 100000 then some (.lst ds, Ω') else none) | none => none := (rfl)
@[simp] theorem ap_noPart : gNoPart ρ Ω = some (none, Ω) := (rfl)
@[simp] theorem ap_part (g : Den) : gPart g ρ Ω = match g ρ Ω with | some (.int i, Ω') => some (some i, Ω') | _ => none := (rfl)
@[simp] theorem ap_sl (f : Den) (lo hi : PDen) : gSl f lo hi ρ Ω = match f ρ Ω with
  | some (d, Ω1) => (match lo ρ Ω1 with
    | some (l, Ω2) => (match hi ρ Ω2 with
      | some (u, Ω3) => (match slD d l u with | some z => some (z, Ω3) | none => none)
      | none => none)
    | none => none)
  | none => none := (rfl)
@[simp] theorem ap_CB (r : List D → Option D) (g : ADen) : gCB r g ρ Ω = match g ρ Ω with | some (ds, Ω1) => (match r ds with | some z => some (z, Ω1) | none => none) | none => none := (rfl)
@[simp] theorem ap_un (r : D → Option D) (g : Den) : gUn r g ρ Ω = match g ρ Ω with | some (d, Ω1) => (match r d with | some z => some (z, Ω1) | none => none) | none => none := (rfl)
@[simp] theorem ap_neg (g : Den) : gNeg g ρ Ω = match g ρ Ω with | some (.int i, Ω') => some (.int (-i), Ω') | _ => none := (rfl)
@[simp] theorem ap_call (f : FDen) (g : ADen) : gCall f g ρ Ω = match g ρ Ω with | some (ds, Ω1) => f ds Ω1 | none => none := (rfl)
@[simp] theorem ap_seq (g : Den) : gSeq g ρ Ω = match g ρ Ω with | some (d, Ω') => (match seqD d with | some ds => some (ds, Ω') | none => none) | none => none := (rfl)
@[simp] theorem ap_rng (r : List D → Option (List D)) (g : ADen) : gRng r g ρ Ω = match g ρ Ω with | some (ds, Ω') => (match r ds with | some es => some (es, Ω') | none => none) | none => none := (rfl)
@[simp] theorem ap_comp (μ : List (Option Nat)) (γ : ADen) (β : BDen) (p : TDen) (g : Den) : gComp μ γ β p g ρ Ω = match γ ρ Ω with
  | some (ds, Ω1) => (if ds.length ≤ 100000 then (match compD β p g ds (innerD μ ρ) Ω1 with | some (ys, Ω2) => some (.lst ys, Ω2) | none => none) else none)
  | none => none := (rfl)
@[simp] theorem ap_next : sNext ρ Ω = some (.nx ρ Ω) := (rfl)
@[simp] theorem ap_sSeq (s t : SDen) : sSeq s t ρ Ω = match s ρ Ω with | some (.nx ρ' Ω') => t ρ' Ω' | r => r := (rfl)
@[simp] theorem ap_ghost (γ : List Sl → Option (List Sl)) (s : SDen) : sGhost γ s ρ Ω = match γ ρ with | some ρ' => s ρ' Ω | none => none := (rfl)
@[simp] theorem ap_set (i : Nat) (g : Den) : sSet i g ρ Ω = match g ρ Ω with | some (d, Ω') => some (.nx (ρ.set i (.dat d)) Ω') | none => none := (rfl)
@[simp] theorem ap_ret (g : Den) : sRet g ρ Ω = match g ρ Ω with | some (d, Ω') => some (.rt d Ω') | none => none := (rfl)
@[simp] theorem ap_sIf (p : TDen) (s t : SDen) : sIf p s t ρ Ω = match p ρ Ω with | some (true, Ω') => s ρ Ω' | some (false, Ω') => t ρ Ω' | none => none := (rfl)
@[simp] theorem ap_own (i : Nat) (g : ADen) : sOwn i g ρ Ω = match g ρ Ω with | some (ds, Ω') => (if ds.length ≤ 100000 then some (.nx (ρ.set i (.own ds)) Ω') else none) | none => none := (rfl)
@[simp] theorem ap_app (i : Nat) (g : Den) : sApp i g ρ Ω = match g ρ Ω with
  | some (d, Ω') => (match ρ[i]? with | some (.own ds) => (if ds.length < 100000 then some (.nx (ρ.set i (.own (ds ++ [d]))) Ω') else none) | _ => none)
  | none => none := (rfl)
@[simp] theorem ap_asg (β : BDen) (g : Den) : sAsg β g ρ Ω = match g ρ Ω with | some (d, Ω') => (match β d ρ with | some ρ' => some (.nx ρ' Ω') | none => none) | none => none := (rfl)
@[simp] theorem ap_for (γ : ADen) (β : BDen) (s : SDen) : sFor γ β s ρ Ω = match γ ρ Ω with | some (ds, Ω') => forD β s ds ρ Ω' | none => none := (rfl)
@[simp] theorem ap_bName (i : Nat) (d : D) : bName i d ρ = some (ρ.set i (.dat d)) := (rfl)
@[simp] theorem ap_bTup (is : List Nat) (ds : List D) : bTup is (.tup ds) ρ = bNames is ds ρ := (rfl)
@[simp] theorem for_nil (β : BDen) (s : SDen) : forD β s [] ρ Ω = some (.nx ρ Ω) := (rfl)
theorem for_cons (β : BDen) (s : SDen) (d : D) (ds : List D) : forD β s (d :: ds) ρ Ω = match β d ρ with
    | some ρ1 => (match s ρ1 Ω with
      | some (.nx ρ' Ω') => forD β s ds ρ' Ω'
      | some (.ct ρ' Ω') => forD β s ds ρ' Ω'
      | some (.bk ρ' Ω') => some (.nx ρ' Ω')
      | some (.rt z Ω') => some (.rt z Ω')
      | none => none)
    | none => none := (rfl)
theorem ap_run (n m : Nat) (s : SDen) (ds : List D) : runD n m s ds Ω = if ds.length = n then (match s (ds.map Sl.dat ++ List.replicate (m - n) Sl.und) Ω with
    | some (.rt d Ω') => some (d, Ω')
    | some (.nx _ Ω') => some (.non, Ω')
    | _ => none)
  else none := (rfl)
@[simp] theorem ap_dI (c : Int → Int → Bool) (f : Int → Int → Int) (i j : Int) : dI c f (.int i) (.int j) = if c i j = true then some (.int (f i j)) else none := (rfl)
@[simp] theorem ap_dB (f : Int → Int → Bool) (i j : Int) : dB f (.int i) (.int j) = some (.bl (f i j)) := (rfl)
@[simp] theorem add_int (i j : Int) : addD (.int i) (.int j) = some (.int (i + j)) := (rfl)
@[simp] theorem add_lst (xs ys : List D) : addD (.lst xs) (.lst ys) = if xs.length + ys.length ≤ 100000 then some (.lst (xs ++ ys)) else none := (rfl)
@[simp] theorem ix_lst (xs : List D) (i : Int) : ixD (.lst xs) (.int i) = L2.atI xs i := (rfl)
@[simp] theorem ix_tup (xs : List D) (i : Int) : ixD (.tup xs) (.int i) = L2.atI xs i := (rfl)
@[simp] theorem ix_scr (ns : List Int) (i : Int) : ixD (.scr ns) (.int i) = (L2.atI ns i).map D.int := (rfl)
@[simp] theorem sl_lst (xs : List D) (lo hi : Option Int) : slD (.lst xs) lo hi = some (.lst (cutL xs lo hi)) := (rfl)
@[simp] theorem sl_scr (ns : List Int) (lo hi : Option Int) : slD (.scr ns) lo hi = some (.lst ((cutL ns lo hi).map D.int)) := (rfl)
@[simp] theorem len_lst (xs : List D) : lenD [.lst xs] = some (.int xs.length) := (rfl)
@[simp] theorem len_scr (ns : List Int) : lenD [.scr ns] = some (.int ns.length) := (rfl)
@[simp] theorem max_2 (i j : Int) : max2D [.int i, .int j] = some (.int (if j > i then j else i)) := (rfl)
@[simp] theorem int_b (b : Bool) : int1D [.bl b] = some (.int (if b then 1 else 0)) := (rfl)
@[simp] theorem seq_lst (xs : List D) : seqD (.lst xs) = some xs := (rfl)
theorem rng_1 {j : Int} (h0 : -1000000 ≤ j) (h : j ≤ 1000000) : rng1 [.int j] = some (upD 0 j.toNat) := grd_pos (by omega)
theorem mul_i {i j : Int} (h : (-1000000000000000000 < i ∧ i < 1000000000000000000) ∨ (-1000000000000000000 < j ∧ j < 1000000000000000000)) : mulD (.int i) (.int j) = some (.int (i * j)) := grd_pos (by omega)
theorem mul_l {xs : List D} {k : Int} (h0 : -1000000 ≤ k) (h : k ≤ 1000000) (hl : xs.length * k.toNat ≤ 100000) : mulD (.lst xs) (.int k) = some (.lst (List.replicate k.toNat xs).flatten) := grd_pos ⟨by omega, by omega, hl⟩
end
theorem run_rt {n m : Nat} {s : SDen} {ds : List D} {Ω Ω' : List OS} {d : D} (hl : ds.length = n) (h : s (ds.map Sl.dat ++ List.replicate (m - n) Sl.und) Ω = some (.rt d Ω')) : runD n m s ds Ω = some (d, Ω') := by
  rw [ap_run, if_pos hl, h]
theorem seq_nx {s t : SDen} {ρ ρ' : List Sl} {Ω Ω' : List OS} (h : s ρ Ω = some (.nx ρ' Ω')) : sSeq s t ρ Ω = t ρ' Ω' := by rw [ap_sSeq, h]
theorem seq_rt {s t : SDen} {ρ : List Sl} {Ω Ω' : List OS} {d : D} (h : s ρ Ω = some (.rt d Ω')) : sSeq s t ρ Ω = some (.rt d Ω') := by rw [ap_sSeq, h]
@[simp] theorem upD_length (lo : Int) (n : Nat) : (upD lo n).length = n := by simp [upD]
/-! places -/
theorem atI_nat' {β : Type} (xs : List β) (i : Nat) (h : i < xs.length) : L2.atI xs (i : Int) = some xs[i] := L2.atI_nat (List.getElem?_eq_getElem h)
theorem atI_map {β γ : Type} (f : β → γ) (xs : List β) (i : Int) : L2.atI (xs.map f) i = (L2.atI xs i).map f := by
  unfold L2.atI
  rw [List.length_map]
  cases L2.ixN xs.length i with
  | none => rfl
  | some j => simp
theorem cut_to {β : Type} (xs : List β) (k : Nat) : cutL xs none (some (k : Int)) = xs.take k := by
  unfold cutL
  rw [HT.sIx_none, HT.sIx_nat, List.drop_zero, Nat.sub_zero]
  rcases Nat.le_total k xs.length with h | h
  · rw [Nat.min_eq_left h]
  · rw [Nat.min_eq_right h, List.take_length, List.take_of_length_le h]
theorem cut_from {β : Type} (xs : List β) (k : Nat) : cutL xs (some (k : Int)) none = xs.drop k := by
  unfold cutL
  rw [HT.sIx_none, HT.sIx_nat]
  rcases Nat.le_total k xs.length with h | h
  · rw [Nat.min_eq_left h, List.take_of_length_le (by simp)]
  · rw [Nat.min_eq_right h, List.drop_length, List.drop_eq_nil_of_le h]; simp
theorem cut_map {β γ : Type} (f : β → γ) (xs : List β) (lo hi : Option Int) : cutL (xs.map f) lo hi = (cutL xs lo hi).map f := by
  unfold cutL
  rw [List.length_map, List.map_take, List.map_drop]
/-! == -/
theorem toPs_map {β : Type} (f : β → D) (g : β → PyData) (h : ∀ x, toP (f x) = g x) : ∀ xs : List β, toPs (xs.map f) = xs.map g
  | [] => by rw [List.map_nil, List.map_nil, toPs]
  | x :: xs => by rw [List.map_cons, List.map_cons, toPs, h, toPs_map f g h xs]
theorem toP_ints (ns : List Int) : toP (.lst (ns.map D.int)) = .list (ns.map PyData.int) := by
  rw [toP, toPs_map D.int PyData.int (fun _ => by rw [toP])]
theorem shaped_int (i : Int) : SeqAt.shaped (toP (.int i)) = true := by rw [toP]; rfl
theorem shaped_bl (b : Bool) : SeqAt.shaped (toP (.bl b)) = true := by rw [toP]; rfl
theorem shaped_ints (ns : List Int) : SeqAt.shaped (toP (.lst (ns.map D.int))) = true := by rw [toP_ints]; exact PySem.W.ke_shaped_ints ns
@[simp] theorem eq_int_int (neg : Bool) (i j : Int) : eqD neg (.int i) (.int j) = some (.bl (if neg then !decide (i = j) else decide (i = j))) := by
  unfold eqD
  rw [shaped_int, shaped_int]
  have e : PyData.eqv (toP (.int i)) (toP (.int j)) = decide (i = j) := by
    rw [toP, toP, PyData.eqv]
    by_cases h : i = j <;> simp [h]
  rw [e]
  rfl
@[simp] theorem eq_bl_bl (neg : Bool) (i j : Bool) : eqD neg (.bl i) (.bl j) = some (.bl (if neg then !decide (i = j) else decide (i = j))) := by
  unfold eqD
  rw [shaped_bl, shaped_bl]
  have e : PyData.eqv (toP (.bl i)) (toP (.bl j)) = decide (i = j) := by
    rw [toP, toP]
    cases i <;> cases j <;> rfl
  rw [e]
  rfl
theorem eq_ints (neg : Bool) (ns ms : List Int) : eqD neg (.lst (ns.map D.int)) (.lst (ms.map D.int)) = some (.bl (if neg then !decide (ns = ms) else decide (ns = ms))) := by
  unfold eqD
  rw [shaped_ints, shaped_ints]
  have e : PyData.eqv (toP (.lst (ns.map D.int))) (toP (.lst (ms.map D.int))) = decide (ns = ms) := by
    rw [toP_ints, toP_ints, PyData.eqv, PySem.W.ked_eqvAll]
  rw [e]
  rfl
theorem eq_ints_nil (neg : Bool) (ns : List Int) : eqD neg (.lst (ns.map D.int)) (.lst []) = some (.bl (if neg then !decide (ns = []) else decide (ns = []))) := eq_ints neg ns []
end DL
set_option Elab.async false
set_option linter.all false
set_option maxRecDepth 100000
set_option genSizeOf false
namespace DL
open PySem PySem.Spec PyProof.Rows L2
section
variable {X : Cx} {C : Cl} {x : Expr} {g : Den} {cp ap : Pos}
end
end DL
set_option Elab.async false
set_option linter.all false
set_option maxRecDepth 100000
set_option genSizeOf false
/-! OBJECTS: instances, dicts. -/
namespace DL
open PySem PySem.Spec PyProof.Rows L2

def OIs (K : PySem.W.Frag) (α : List Addr) (F : Hp) : Option D → Option V → Prop
  | none, none => True
  | some d, some v => Is K α F d v
  | _, _ => False
section
variable {κ : Type} [DecidableEq κ]
def valD (kvs : List (κ × D)) (k : κ) : Option D := (kvs.find? fun kv => decide (kv.1 = k)).map (·.2)
def putD (kvs : List (κ × D)) (k : κ) (v : D) : List (κ × D) :=
  if (kvs.any fun kv => decide (kv.1 = k)) = true then kvs.map (fun kv => if kv.1 = k then (kv.1, v) else kv) else kvs ++ [(k, v)]
def dropD (kvs : List (κ × D)) (k : κ) : List (κ × D) := kvs.filter fun kv => decide (kv.1 ≠ k)
variable {K : PySem.W.Frag} {α : List Addr} {F : Hp}
theorem PsIs.len : ∀ {ps : List (κ × D)} {vs : List (κ × V)}, PsIs K α F ps vs → ps.length = vs.length
  | [], _, h => by rw [show _ = [] from h]; rfl
  | p :: r, _, ⟨v, t, e, _, q⟩ => by rw [e, List.length_cons, List.length_cons, q.len]
theorem PsIs.val (k : κ) : ∀ {ps : List (κ × D)} {vs : List (κ × V)}, PsIs K α F ps vs → OIs K α F (valD ps k) (valV vs k)
  | [], _, h => by rw [show _ = [] from h]; exact trivial
  | p :: r, _, ⟨v, t, e, i, q⟩ => by
    subst e
    by_cases h : p.1 = k
    · have e1 : valD (p :: r) k = some p.2 := by simp [valD, List.find?_cons, h]
      rw [e1, valV_pos h]; exact i
    · have e1 : valD (p :: r) k = valD r k := by simp [valD, List.find?_cons, h]
      rw [e1, valV_neg h]; exact q.val k
theorem PsIs.repl (k : κ) {d : D} {y : V} (iy : Is K α F d y) : ∀ {ps : List (κ × D)} {vs : List (κ × V)}, PsIs K α F ps vs → PsIs K α F (ps.map fun kv => if kv.1 = k then (kv.1, d) else kv) (vs.map fun kv => if kv.1 = k then (kv.1, y) else kv)
  | [], _, h => by rw [show _ = [] from h]; exact rfl
  | p :: r, _, ⟨v, t, e, i, q⟩ => by
    subst e
    rw [List.map_cons, List.map_cons]
    by_cases h : p.1 = k
    · rw [if_pos h, if_pos h]; exact ⟨y, _, rfl, iy, q.repl k iy⟩
    · rw [if_neg h, if_neg h]; exact ⟨v, _, rfl, i, q.repl k iy⟩
theorem PsIs.snoc (k : κ) {d : D} {y : V} (iy : Is K α F d y) : ∀ {ps : List (κ × D)} {vs : List (κ × V)}, PsIs K α F ps vs → PsIs K α F (ps ++ [(k, d)]) (vs ++ [(k, y)])
  | [], _, h => by rw [show _ = [] from h]; exact ⟨y, [], rfl, iy, rfl⟩
  | p :: r, _, ⟨v, t, e, i, q⟩ => by
    subst e
    exact ⟨v, _, rfl, i, q.snoc k iy⟩
theorem PsIs.any (k : κ) : ∀ {ps : List (κ × D)} {vs : List (κ × V)}, PsIs K α F ps vs → (ps.any fun kv => decide (kv.1 = k)) = vs.any fun kv => decide (kv.1 = k)
  | [], _, h => by rw [show _ = [] from h]; rfl
  | p :: r, _, ⟨v, t, e, i, q⟩ => by
    subst e
    rw [List.any_cons, List.any_cons, q.any k]
theorem PsIs.put {ps : List (κ × D)} {vs : List (κ × V)} (h : PsIs K α F ps vs) (k : κ) {d : D} {y : V} (iy : Is K α F d y) : PsIs K α F (putD ps k d) (putK vs k y) := by
  unfold putD putK
  rw [h.any k]
  split
  · exact h.repl k iy
  · exact h.snoc k iy
theorem PsIs.drop (k : κ) : ∀ {ps : List (κ × D)} {vs : List (κ × V)}, PsIs K α F ps vs → PsIs K α F (dropD ps k) (dropK vs k)
  | [], _, h => by rw [show _ = [] from h]; exact rfl
  | p :: r, _, ⟨v, t, e, i, q⟩ => by
    subst e
    unfold dropD dropK
    by_cases h : p.1 = k
    · rw [List.filter_cons_of_neg (by simp [h]), List.filter_cons_of_neg (by simp [h])]; exact q.drop k
    · rw [List.filter_cons_of_pos (by simp [h]), List.filter_cons_of_pos (by simp [h])]; exact ⟨v, _, rfl, i, q.drop k⟩
end
section
variable {K : PySem.W.Frag} {α : List Addr} {F : Hp}
theorem PsIs.look (f : Str) : ∀ {ps : List (Str × D)} {vs : List (Str × V)}, PsIs K α F ps vs → OIs K α F (ps.lookup f) (vs.lookup f)
  | [], _, h => by rw [show _ = [] from h]; exact trivial
  | (g, d) :: r, _, ⟨v, t, e, i, q⟩ => by
    subst e
    by_cases h : (f == g) = true
    · rw [List.lookup_cons, List.lookup_cons, h]; exact i
    · have h' : (f == g) = false := by cases z : (f == g) with | true => exact absurd z h | false => rfl
      rw [List.lookup_cons, List.lookup_cons, h']; exact q.look f
def putFD (f : Str) (v : D) : List (Str × D) → List (Str × D)
  | [] => [(f, v)]
  | (g, x) :: r => if g = f then (g, v) :: r else (g, x) :: putFD f v r
theorem PsIs.putF (f : Str) {d : D} {y : V} (iy : Is K α F d y) : ∀ {ps : List (Str × D)} {vs : List (Str × V)}, PsIs K α F ps vs → PsIs K α F (putFD f d ps) (L2.putF f y vs)
  | [], _, h => by rw [show _ = [] from h]; exact ⟨y, [], rfl, iy, rfl⟩
  | (g, x) :: r, _, ⟨v, t, e, i, q⟩ => by
    subst e
    unfold putFD L2.putF
    by_cases h : g = f
    · rw [if_pos h, if_pos h]; exact ⟨y, t, rfl, iy, q⟩
    · rw [if_neg h, if_neg h]; exact ⟨v, _, rfl, i, q.putF f iy⟩
end

/-! ### a new object, an object changed -/
def E4.obj (e : E4) (p : Addr) (H' : Hp) : E4 := ⟨e.α ++ [p], e.F, fun b => e.A b ∨ b = p, H'⟩
def E4.at (e : E4) (a : Addr) (o : HO) : E4 := ⟨e.α, e.F, e.A, upd e.H a o⟩
section
variable {K : PySem.W.Frag} {C : Cl} {e : E4} {Ω : List OS}
theorem Wf.objA (w : Wf K C e Ω) {n : Nat} {a : Addr} (h : e.α[n]? = some a) : e.A a ∧ ∃ o, Ω[n]? = some o := by
  have hl : n < Ω.length := by rw [← w.ol]; exact (List.getElem?_eq_some_iff.mp h).1
  exact ⟨(w.ob n a _ h (List.getElem?_eq_getElem hl)).1, _, List.getElem?_eq_getElem hl⟩
theorem Wf.obj (w : Wf K C e Ω) {p : Addr} {H' : Hp} {o : OS} (hp : e.H p = none) (hk : ∀ b u, e.H b = some u → H' b = some u) (hn : H' p ≠ none ∧ ∀ xs, H' p ≠ some (.tup xs)) (ho : OSIs K C (e.obj p H') p o) :
    Wf K C (e.obj p H') (Ω ++ [o]) ∧ Ext e (e.obj p H') := by
  have nA : ¬ e.A p := fun z => (w.ah p z).1 hp
  have npα : p ∉ e.α := fun z => by
    obtain ⟨n, h⟩ := List.getElem?_of_mem z
    exact nA (w.objA h).1
  refine ⟨⟨fun b u h => hk b u (w.fh b u h), fun b h => ?_, fun b h => ?_, ?_, ?_, fun n b u h1 h2 => ?_⟩, ⟨fun b u h _ => hk b u h, fun b u h => ⟨u, hk b u h⟩, Same.refl _, fun b u h => .inl h, fun b h => ?_, fun b h => .inl h, [p], rfl⟩⟩
  · rcases h with h | rfl
    · exact w.fa b h
    · exact w.nF hp
  · rcases h with h | rfl
    · obtain ⟨h1, h2⟩ := w.ah b h
      cases q : e.H b with
      | none => exact absurd q h1
      | some u =>
        show H' b ≠ none ∧ ∀ xs, H' b ≠ some (.tup xs)
        rw [hk b u q, ← q]
        exact ⟨h1, h2⟩
    · exact hn
  · show (e.α ++ [p]).length = (Ω ++ [o]).length
    rw [List.length_append, List.length_append, w.ol]; rfl
  · show (e.α ++ [p]).Nodup
    rw [List.nodup_append]
    refine ⟨w.nd, by simp, fun x hx y hy => ?_⟩
    simp only [List.mem_singleton] at hy
    subst hy
    exact fun z => npα (z ▸ hx)
  · have h1 : (e.α ++ [p])[n]? = some b := h1
    by_cases hl : n < e.α.length
    · rw [List.getElem?_append_left hl] at h1
      rw [List.getElem?_append_left (by rw [← w.ol]; exact hl)] at h2
      exact ⟨.inl (w.ob n b u h1 h2).1, (w.ob n b u h1 h2).2.keep (fun v hv => hk b v hv) (Same.refl _) ⟨[p], rfl⟩⟩
    · have en : n = e.α.length := by
        have := (List.getElem?_eq_some_iff.mp h1).1
        rw [List.length_append] at this
        simp at this
        omega
      subst en
      rw [List.getElem?_append_right (Nat.le_refl _), Nat.sub_self] at h1
      rw [w.ol, List.getElem?_append_right (Nat.le_refl _), Nat.sub_self] at h2
      cases h1
      cases h2
      exact ⟨.inr rfl, ho⟩
  · rcases h with h | rfl
    · exact .inl h
    · exact .inr hp
theorem Wf.at (w : Wf K C e Ω) {n : Nat} {a : Addr} {o' : OS} {ho : HO} (hα : e.α[n]? = some a) (hn : ∀ xs, ho ≠ .tup xs) (h' : OSIs K C (e.at a ho) a o') :
    Wf K C (e.at a ho) (Ω.set n o') ∧ Ext e (e.at a ho) := by
  have hA := (w.objA hα).1
  have hF := w.fa a hA
  have neF : ∀ b u, e.F b = some u → b ≠ a := fun b u h z => by subst z; rw [hF] at h; cases h
  refine ⟨⟨fun b u h => ?_, w.fa, fun b h => ?_, by simp [E4.at, w.ol], w.nd, fun m b u h1 h2 => ?_⟩, ⟨fun b u h hn => ?_, fun b u h => ?_, Same.refl _, fun b u h => .inl h, fun b h => .inl h, fun b h => h, [], by simp [E4.at]⟩⟩
  · show upd e.H a ho b = some u
    rw [upd_ne (neF b u h)]; exact w.fh b u h
  · show upd e.H a ho b ≠ none ∧ ∀ xs, upd e.H a ho b ≠ some (.tup xs)
    by_cases z : b = a
    · subst z; rw [upd_same]; exact ⟨by simp, fun xs q => hn xs (Option.some.inj q)⟩
    · rw [upd_ne z]; exact w.ah b h
  · by_cases z : m = n
    · subst z
      have h1 : e.α[m]? = some b := h1
      rw [hα] at h1
      cases h1
      have hl : m < Ω.length := by rw [← w.ol]; exact (List.getElem?_eq_some_iff.mp hα).1
      rw [List.getElem?_set_self hl] at h2
      cases h2
      exact ⟨hA, h'⟩
    · rw [List.getElem?_set_ne (fun q => z q.symm)] at h2
      have nb : b ≠ a := fun q => by
        subst q
        exact z ((List.getElem?_inj (List.getElem?_eq_some_iff.mp h1).1 w.nd).mp (h1.trans hα.symm))
      refine ⟨(w.ob m b u h1 h2).1, (w.ob m b u h1 h2).2.keep (fun v hv => ?_) (Same.refl _) ⟨[], by simp [E4.at]⟩⟩
      show upd e.H a ho b = some v
      rw [upd_ne nb]; exact hv
  · show upd e.H a ho b = some u
    rw [upd_ne (fun z => hn (by rw [z]; exact hA))]; exact h
  · by_cases z : b = a
    · subst z; exact ⟨ho, upd_same⟩
    · exact ⟨u, by show upd e.H a ho b = some u; rw [upd_ne z]; exact h⟩
end

/-! ### keys -/
def keyD : D → Option Key
  | .int i => some (.inl i)
  | .str x => some (.inr x)
  | _ => none
def keysD : List D → Option (List Key)
  | [] => some []
  | d :: ds => match keyD d with
    | some k => (match keysD ds with | some ks => some (k :: ks) | none => none)
    | none => none
def tkeyD : D → Option (List Key)
  | .tup xs => keysD xs
  | _ => none
section
variable {K : PySem.W.Frag} {α : List Addr} {F : Hp}
theorem keyD_v {d : D} {k : Key} {v : V} (h : keyD d = some k) (i : Is K α F d v) : v = kV k := by
  cases d <;> first | cases h | skip
  · rw [Is] at i; exact i
  · rw [Is] at i; exact i
theorem keysD_v : ∀ {ds : List D} {ks : List Key} {vs : List V}, keysD ds = some ks → IsL K α F ds vs → vs = ks.map kV
  | [], ks, vs, h, i => by cases h; rw [i.of_nil]; rfl
  | d :: ds, ks, vs, h, i => by
    obtain ⟨v, r, rfl, i1, i2⟩ := i.of_cons
    unfold keysD at h
    cases q : keyD d with
    | none => rw [q] at h; cases h
    | some k =>
      rw [q] at h
      dsimp only at h
      cases q2 : keysD ds with
      | none => rw [q2] at h; cases h
      | some ks' =>
        rw [q2] at h
        cases h
        rw [List.map_cons, keyD_v q i1, keysD_v q2 i2]
theorem tkeyD_v {d : D} {ks : List Key} {v : V} (h : tkeyD d = some ks) (i : Is K α F d v) : ∃ b, v = .ref b ∧ F b = some (.tup (ks.map kV)) := by
  cases d <;> first | cases h | skip
  rw [Is] at i
  obtain ⟨a, vs, rfl, e, q⟩ := i
  rw [keysD_v h q] at e
  exact ⟨a, rfl, e⟩
end

/-! ### what a dict holds -/
def lookO : OS → D → Option (Option D)
  | .dK kvs, d => (match keyD d with | some k => some (valD kvs k) | none => none)
  | .dT kvs, d => (match tkeyD d with | some k => some (valD kvs k) | none => none)
  | _, _ => none
def putO : OS → D → D → Option OS
  | .dK kvs, d, v => (match keyD d with | some k => if kvs.length < 100000 then some (.dK (putD kvs k v)) else none | none => none)
  | .dT kvs, d, v => (match tkeyD d with | some k => if kvs.length < 100000 then some (.dT (putD kvs k v)) else none | none => none)
  | _, _, _ => none
def isDct : OS → Bool
  | .dK _ => true
  | .dT _ => true
  | _ => false
section
variable {K : PySem.W.Frag} {C : Cl} {e : E4} {Ω : List OS}
theorem dget_of (w : Wf K C e Ω) {n : Nat} {a : Addr} {o : OS} {d : D} {r : Option D} {y : V} (hα : e.α[n]? = some a) (hΩ : Ω[n]? = some o) (hl : lookO o d = some r) (i : Is K e.α e.F d y) :
    ∃ r', DGet e.H a y r' ∧ OIs K e.α e.F r r' := by
  have ob := (w.ob n a o hα hΩ).2
  unfold lookO at hl
  cases o with
  | dK kvs =>
    obtain ⟨vs, h1, h2⟩ := ob
    dsimp only at hl
    cases q : keyD d with
    | none => rw [q] at hl; cases hl
    | some k =>
      rw [q] at hl
      cases hl
      rw [keyD_v q i]
      exact ⟨_, DGet.k h1, h2.val k⟩
  | dT kvs =>
    obtain ⟨vs, h1, h2⟩ := ob
    dsimp only at hl
    cases q : tkeyD d with
    | none => rw [q] at hl; cases hl
    | some k =>
      rw [q] at hl
      cases hl
      obtain ⟨b, rfl, hb⟩ := tkeyD_v q i
      exact ⟨_, DGet.t h1 (w.fh _ _ hb), h2.val k⟩
  | _ => cases hl
theorem isD_of (w : Wf K C e Ω) {n : Nat} {a : Addr} {o : OS} (hα : e.α[n]? = some a) (hΩ : Ω[n]? = some o) (h : isDct o = true) : IsD e.H a := by
  have ob := (w.ob n a o hα hΩ).2
  cases o with
  | dK kvs => obtain ⟨vs, h1, _⟩ := ob; exact .inl ⟨vs, .inl h1⟩
  | dT kvs => obtain ⟨vs, h1, _⟩ := ob; exact .inr ⟨vs, .inl h1⟩
  | _ => cases h
theorem dput_of (w : Wf K C e Ω) {n : Nat} {a : Addr} {o o' : OS} {d x : D} {y v : V} (hα : e.α[n]? = some a) (hΩ : Ω[n]? = some o) (hp : putO o d x = some o') (i : Is K e.α e.F d y) (ix : Is K e.α e.F x v) :
    ∃ H', DPut e.H a y v H' ∧ ∃ e', e'.H = H' ∧ Wf K C e' (Ω.set n o') ∧ Ext e e' := by
  have ob := (w.ob n a o hα hΩ).2
  unfold putO at hp
  cases o with
  | dK kvs =>
    obtain ⟨vs, h1, h2⟩ := ob
    dsimp only at hp
    cases q : keyD d with
    | none => rw [q] at hp; cases hp
    | some k =>
      rw [q] at hp
      dsimp only at hp
      split at hp
      · rename_i hl
        cases hp
        rw [keyD_v q i]
        refine ⟨_, DPut.k h1 (by rw [← h2.len]; exact big_lt hl), e.at a _, rfl, w.at hα (fun xs z => nomatch z) ⟨_, upd_same, h2.put k ix⟩⟩
      · cases hp
  | dT kvs =>
    obtain ⟨vs, h1, h2⟩ := ob
    dsimp only at hp
    cases q : tkeyD d with
    | none => rw [q] at hp; cases hp
    | some k =>
      rw [q] at hp
      dsimp only at hp
      split at hp
      · rename_i hl
        cases hp
        obtain ⟨b, rfl, hb⟩ := tkeyD_v q i
        refine ⟨_, DPut.t h1 (w.fh _ _ hb) (by rw [← h2.len]; exact big_lt hl), e.at a _, rfl, w.at hα (fun xs z => nomatch z) ⟨_, upd_same, h2.put k ix⟩⟩
      · cases hp
  | _ => cases hp
end

def gNewT : Den := fun _ Ω => some (.obj Ω.length, Ω ++ [.dT []])
def gDIn (neg : Bool) (gk go : Den) : Den := fun ρ Ω => match gk ρ Ω with
  | some (k, Ω1) => (match go ρ Ω1 with
    | some (.obj n, Ω2) => (match Ω2[n]? with
      | some o => (match lookO o k with | some r => some (.bl (if neg then !r.isSome else r.isSome), Ω2) | none => none)
      | none => none)
    | _ => none)
  | none => none
def gDGet2 (go gk gx : Den) : Den := fun ρ Ω => match go ρ Ω with
  | some (.obj n, Ω1) => (match Ω1[n]? with
    | some o => if isDct o = true then (match gk ρ Ω1 with
      | some (k, Ω2) => (match gx ρ Ω2 with
        | some (x, Ω3) => (match Ω3[n]? with
          | some o2 => (match lookO o2 k with | some r => some (r.getD x, Ω3) | none => none)
          | none => none)
        | none => none)
      | none => none) else none
    | none => none)
  | _ => none
def sDPut (go gi gv : Den) : SDen := fun ρ Ω => match gv ρ Ω with
  | some (v, Ω1) => (match go ρ Ω1 with
    | some (.obj n, Ω2) => (match gi ρ Ω2 with
      | some (k, Ω3) => (match Ω3[n]? with
        | some o => (match putO o k v with | some o' => some (.nx ρ (Ω3.set n o')) | none => none)
        | none => none)
      | none => none)
    | _ => none)
  | none => none
def gDLen (go : Den) : Den := fun ρ Ω => match go ρ Ω with
  | some (.obj n, Ω1) => (match Ω1[n]? with
    | some (.dK kvs) => some (.int kvs.length, Ω1)
    | some (.dT kvs) => some (.int kvs.length, Ω1)
    | _ => none)
  | _ => none
section
variable {X : Cx} {C : Cl} {a b c x y : Expr} {f g h : Den} {pos pos' ap cp : Pos}
theorem pd_newT : PD X C (.Dict [] [] pos) gNewT := pe_imp pe_dnewT fun σ H Q ⟨e, Ω, ρ, d, Ω', eH, w, rl, q, kk⟩ => by
  subst eH
  cases q
  intro p hp
  obtain ⟨w', x'⟩ := w.obj (H' := upd e.H p (.dT [])) (o := .dT []) hp (fun b u hb => by rw [upd_ne (ne_of_none hb hp)]; exact hb) (by rw [upd_same]; exact ⟨by simp, fun xs z => nomatch z⟩) ⟨[], upd_same, rfl⟩
  refine kk _ (e.obj p _) x' w' ?_
  rw [Is]
  exact ⟨p, by show (e.α ++ [p])[Ω.length]? = some p; rw [← w.ol]; simp, rfl⟩
theorem OIs.some_of {K : PySem.W.Frag} {α : List Addr} {F : Hp} {d : D} {r : Option V} (h : OIs K α F (some d) r) : ∃ v, r = some v ∧ Is K α F d v := by
  cases r with
  | none => exact h.elim
  | some v => exact ⟨v, rfl, h⟩
theorem OIs.isSome {K : PySem.W.Frag} {α : List Addr} {F : Hp} {d : Option D} {r : Option V} (h : OIs K α F d r) : r.isSome = d.isSome := by
  cases r <;> cases d <;> first | rfl | exact h.elim
theorem OIs.getD {K : PySem.W.Frag} {α : List Addr} {F : Hp} {d : Option D} {r : Option V} {x : D} {v : V} (h : OIs K α F d r) (i : Is K α F x v) : Is K α F (d.getD x) (r.getD v) := by
  cases r <;> cases d <;> first | exact h.elim | exact i | exact h
theorem din_read {K : PySem.W.Frag} {neg : Bool} {σ : St} {H : Hp} {Q : VK} (h : tD K C (gDIn neg f g) σ H Q) :
    tD K C f σ H fun y H1 => tD K C g σ H1 fun x H2 => ∃ a o, x = .ref a ∧ DGet H2 a y o ∧ Q (.bl (if neg then !o.isSome else o.isSome)) H2 := by
  obtain ⟨e, Ω, ρ, d, Ω', eH, w, rl, q, kk⟩ := h
  unfold gDIn at q
  cases q1 : f ρ Ω with
  | none => rw [q1] at q; cases q
  | some p1 =>
    obtain ⟨k, Ω1⟩ := p1
    rw [q1] at q
    dsimp only at q
    cases q2 : g ρ Ω1 with
    | none => rw [q2] at q; cases q
    | some p2 =>
      obtain ⟨d2, Ω2⟩ := p2
      rw [q2] at q
      cases d2 with
      | obj n =>
        dsimp only at q
        cases q3 : Ω2[n]? with
        | none => rw [q3] at q; cases q
        | some o =>
          rw [q3] at q
          dsimp only at q
          cases q4 : lookO o k with
          | none => rw [q4] at q; cases q
          | some r =>
            rw [q4] at q
            cases q
            refine ⟨e, Ω, ρ, k, Ω1, eH, w, rl, q1, fun v e1 x1 w1 i1 => ?_⟩
            refine ⟨e1, Ω1, ρ, _, _, rfl, w1, rl.ext x1, q2, fun u e2 x2 w2 i2 => ?_⟩
            rw [Is] at i2
            obtain ⟨p, hα, rfl⟩ := i2
            obtain ⟨r', g1, o1⟩ := dget_of w2 hα q3 q4 (i1.ext x2)
            refine ⟨p, r', rfl, g1, ?_⟩
            rw [o1.isSome]
            exact kk _ e2 (x1.trans x2) w2 (by rw [Is])
      | _ => cases q
theorem pd_din (hu : X.A.units + 1 < cLine) (hk : PD X C a f) (ho : PD X C b g) (h1 : behindInMarks .In b = false := by rfl) : PD X C (.Compare a [.In] [b] pos) (gDIn false f g) :=
  pe_imp (pe_cmp (pc_din hu hk ho) h1) fun σ H Q h => din_read h
theorem pdt_dnotin (hu : X.A.units + 1 < cLine) (hk : PD X C a f) (ho : PD X C b g) (h1 : behindInMarks .NotIn b = false := by rfl) : PDT X C (.Compare a [.NotIn] [b] pos) (gT (gDIn true f g)) :=
  pt_imp (pt_cmp (pc_dnotin hu hk ho) h1) fun σ H Q h => din_read (gT_read h)
theorem pd_dget2 (hu : X.A.units + 1 < cLine) (ho : PD X C a f) (hi : PD X C b g) (hx : PD X C c h) (m : M2 X a "get" ap b c cp) : PD X C (.Call (.Attribute a "get" ap) [b, c] [] cp) (gDGet2 f g h) := pe_imp (pe_dget2 hu ho hi hx m) fun σ H Q ⟨e, Ω, ρ, d, Ω', eH, w, rl, q, kk⟩ => by
  unfold gDGet2 at q
  cases q1 : f ρ Ω with
  | none => rw [q1] at q; cases q
  | some p1 =>
    obtain ⟨d1, Ω1⟩ := p1
    rw [q1] at q
    cases d1 with
    | obj n =>
      dsimp only at q
      cases q0 : Ω1[n]? with
      | none => rw [q0] at q; cases q
      | some o0 =>
        rw [q0] at q
        dsimp only at q
        by_cases hd : isDct o0 = true
        · rw [if_pos hd] at q
          cases q2 : g ρ Ω1 with
          | none => rw [q2] at q; cases q
          | some p2 =>
            obtain ⟨k, Ω2⟩ := p2
            rw [q2] at q
            dsimp only at q
            cases q5 : h ρ Ω2 with
            | none => rw [q5] at q; cases q
            | some p5 =>
              obtain ⟨xd, Ω3⟩ := p5
              rw [q5] at q
              dsimp only at q
              cases q3 : Ω3[n]? with
              | none => rw [q3] at q; cases q
              | some o =>
                rw [q3] at q
                dsimp only at q
                cases q4 : lookO o k with
                | none => rw [q4] at q; cases q
                | some r =>
                  rw [q4] at q
                  cases q
                  refine ⟨e, Ω, ρ, _, Ω1, eH, w, rl, q1, fun v e1 x1 w1 i1 => ?_⟩
                  rw [Is] at i1
                  obtain ⟨p, hα, rfl⟩ := i1
                  refine ⟨p, rfl, isD_of w1 hα q0 hd, ?_⟩
                  refine ⟨e1, Ω1, ρ, k, _, rfl, w1, rl.ext x1, q2, fun u e2 x2 w2 i2 => ?_⟩
                  refine ⟨e2, Ω2, ρ, xd, _, rfl, w2, (rl.ext x1).ext x2, q5, fun u3 e3 x3 w3 i3' => ?_⟩
                  have hα2 : e3.α[n]? = some p := by
                    have i3 : Is X.K e3.α e3.F (.obj n) (.ref p) := Is.ext (x2.trans x3) (by rw [Is]; exact ⟨p, hα, rfl⟩)
                    rw [Is] at i3
                    obtain ⟨p', z, zz⟩ := i3
                    cases zz
                    exact z
                  obtain ⟨r', g1, o1⟩ := dget_of w3 hα2 q3 q4 (i2.ext x3)
                  exact ⟨r', g1, kk _ e3 ((x1.trans x2).trans x3) w3 (o1.getD i3')⟩
        · rw [if_neg hd] at q; cases q
    | _ => cases q
theorem pds_dput (hu : X.A.units + 1 < cLine) (ho : PD X C a f) (hi : PD X C b g) (hv : PD X C x h) (hs : swapsWith x (some (.Subscript a b pos')) pos.line X.env = pure false := by rfl) :
    PDS X C (.Assign [.Subscript a b pos'] x pos) (sDPut f g h) := fun e₀ => ps_imp (ps_dput hu ho hi hv hs) fun Dn σ H ⟨e, Ω, ρ, o, eH, r, q, k⟩ => by
  unfold sDPut at q
  cases q1 : h ρ Ω with
  | none => rw [q1] at q; cases q
  | some p1 =>
    obtain ⟨v, Ω1⟩ := p1
    rw [q1] at q
    dsimp only at q
    cases q2 : f ρ Ω1 with
    | none => rw [q2] at q; cases q
    | some p2 =>
      obtain ⟨d2, Ω2⟩ := p2
      rw [q2] at q
      cases d2 with
      | obj n =>
        dsimp only at q
        cases q3 : g ρ Ω2 with
        | none => rw [q3] at q; cases q
        | some p3 =>
          obtain ⟨kd, Ω3⟩ := p3
          rw [q3] at q
          dsimp only at q
          cases q4 : Ω3[n]? with
          | none => rw [q4] at q; cases q
          | some ob =>
            rw [q4] at q
            dsimp only at q
            cases q5 : putO ob kd v with
            | none => rw [q5] at q; cases q
            | some ob' =>
              rw [q5] at q
              cases q
              refine ⟨e, Ω, ρ, v, Ω1, eH, r.wf, r.rel, q1, fun uv e1 x1 w1 i1 => ?_⟩
              refine ⟨e1, Ω1, ρ, _, Ω2, rfl, w1, r.rel.ext x1, q2, fun uo e2 x2 w2 i2 => ?_⟩
              refine ⟨e2, Ω2, ρ, kd, Ω3, rfl, w2, (r.rel.ext x1).ext x2, q3, fun uk e3 x3 w3 i3 => ?_⟩
              have i2' := i2.ext x3
              rw [Is] at i2'
              obtain ⟨p, hα, rfl⟩ := i2'
              obtain ⟨H', hp, e4, rfl, w4, x4⟩ := dput_of w3 hα q4 q5 i3 (i1.ext (x2.trans x3))
              exact ⟨p, e4.H, rfl, hp, k e4 σ (r.to (((x1.trans x2).trans x3).trans x4) w4)⟩
      | _ => cases q
end
end DL
set_option Elab.async false
set_option linter.all false
set_option maxRecDepth 100000
set_option genSizeOf false
/-! A DICT BY ITS ENTRIES: walked, counted; a pair taken out by a tuple. -/
namespace DR
open PySem PyProof.Rows
open Sem (wp)

def RawD (h : Heap) (a : Addr) (es : Array DictEntry) (ep : Nat) : Prop := ∃ o, h.get? a = some o ∧ o.ExactDict ∧ o.data = .dict es ep
theorem RawD.ty {s : Shared} {a : Addr} {es : Array DictEntry} {ep : Nat} (r : RawD s.heap a es ep) : s.TypeIs (.ref a) "dict" := let ⟨o, h1, h2, _⟩ := r; ⟨o, h1, h2.1⟩
section
variable {prog : Program} {w : World} {A : Around} {E : Value → Shared → Prop} {s : Shared} {d it : Addr} {es : Array DictEntry} {ep i : Nat}
/-- len(d) -/
theorem raw_len {Q : Value → Shared → Prop} (hd : (d == sysModules) = false) (hm : RawD s.heap d es ep) (hfit : (es.size : Int) < 2 ^ 63)
    (h : Q (.int es.size (s.toks + 1)) { s with toks := s.toks + 1 + 1 }) : wpAny (model prog w) A (call (.builtin "len") [.ref d]) Q E s := by
  obtain ⟨o, ho, hc, hx⟩ := id hm
  have ty := hm.ty
  have ml : MeetsIn prog w (Builtin.«dict.__len__» ⟨[.ref d], []⟩) (fun _ R s => RawD s.heap d es ep ∧ R (.ok (.ret (.int es.size s.toks))) { s with toks := s.toks + 1 }) := .of_wp fun A R s ⟨⟨o, ho, hc, hx⟩, h⟩ => by
    show wpAny _ _ (dictSize d >>= _) _ _ s; unfold dictSize
    refine wpAny_bind (wpAny_bind (wpAny_dictEntries ho hx (wpAny_pure ?_)))
    show wpAny _ _ (Builtin.Dict.pendingCount d >>= _) _ _ s; refine wpAny_bind (wpAny_pendingCount_other hd ?_)
    refine wpAny_ret_mkInt ?_; rw [Nat.add_zero]; exact h
  refine Calls.call_function_entry kind_len plain_len entry_len (args_len1 _) ?_
  unfold Builtin.«len»; refine wpAny_bind (m := oneArg "len" _) (wpAny_pure ?_)
  refine wpAny_bind (m := callSpecial? (.ref d) (Str.ofString "__len__")) (wpAny_callSpecial?_slot (name := Str.ofString "__len__") ty F.slot_dict_len (call_meetsIn F.slot_dict_len ty F.entry_dict_len (F.args_dict_len_1 _) ml ⟨hm, ?_⟩))
  show wpAny _ _ _ _ _ { s with toks := s.toks + 1 }; refine wpAny_bind (wpAny_holding (wpAny_pure ?_))
  refine wpAny_bind (wpAny_letGo ?_); show wpAny _ _ (if ((es.size : Nat) : Int) < 0 then _ else _) _ _ _
  rw [if_neg (by omega)]; show wpAny _ _ (if ((es.size : Nat) : Int) ≥ 2 ^ 63 then _ else _) _ _ _
  rw [if_neg (by omega)]; exact wpAny_bind (wpAny_mkInt (wpAny_pure ⟨_, rfl, h⟩))
end

/-! ### pop of a heap key -/
section
variable {κ : Type} [DecidableEq κ]
def outH (xs : List (κ × Addr × Value)) (k : κ) : List (κ × Addr × Value) := xs.filter fun x => decide (x.1 ≠ k)
theorem outH_no : ∀ {xs : List (κ × Addr × Value)} {k : κ}, k ∉ xs.map (·.1) → outH xs k = xs := fun {xs k} h => by
  unfold outH
  rw [List.filter_eq_self]
  intro x hx
  exact decide_eq_true fun e => h (List.mem_map.mpr ⟨x, hx, e⟩)
theorem outH_erase : ∀ {xs : List (κ × Addr × Value)} {k : κ} {j : Nat} {p : Addr × Value}, (xs.map (·.1)).Nodup → xs[j]? = some (k, p) → outH xs k = xs.eraseIdx j
  | [], _, _, _, _, h => by simp at h
  | x :: r, k, 0, p, hn, h => by
    rw [List.getElem?_cons_zero] at h
    cases h
    rw [List.map_cons, List.nodup_cons] at hn
    rw [List.eraseIdx_cons_zero]
    show List.filter _ _ = _
    rw [List.filter_cons_of_neg (by simp)]
    exact outH_no hn.1
  | x :: r, k, j + 1, p, hn, h => by
    rw [List.getElem?_cons_succ] at h
    rw [List.map_cons, List.nodup_cons] at hn
    have ne : ¬ x.1 = k := fun e => hn.1 (e ▸ List.mem_map.mpr ⟨(k, p), List.mem_of_getElem? h, rfl⟩)
    rw [List.eraseIdx_cons_succ, ← outH_erase hn.2 h]
    show List.filter _ _ = _
    rw [List.filter_cons_of_pos (by simp [ne])]
    rfl
theorem map_erase {α β : Type} (f : α → β) : ∀ (l : List α) (j : Nat), (l.eraseIdx j).map f = (l.map f).eraseIdx j
  | [], _ => rfl
  | _ :: _, 0 => rfl
  | x :: l, j + 1 => by rw [List.eraseIdx_cons_succ, List.map_cons, List.map_cons, List.eraseIdx_cons_succ, map_erase f l j]
variable {prog : Program} {w : World} {knd : HeapKind prog w κ} {A : Around} {E : Value → Shared → Prop} {s : Shared}
theorem out_heap {d a : Addr} {xs : List (κ × Addr × Value)} {k : κ} {p : Addr × Value} {Q : Option DictEntry → Shared → Prop} (hu : knd.room A) (hkey : knd.is s.heap k a) (hm : s.heap.DictOfH knd d xs) (hp : atKey xs k = some p)
    (hsome : ∀ e h', e.val = p.2 → h'.DictOfH knd d (outH xs k) → Heap.SameBut d s.heap h' → Q (some e) { s with heap := h', toks := s.toks + knd.draws k }) (hsz : xs.length ≤ sizeLine) :
    wpAny (model prog w) A (Builtin.Dict.takeOut d (.ref a)) Q E s := by
  obtain ⟨o, es, ep, ho, hc, hd, he, his, hn⟩ := hm
  unfold Builtin.Dict.takeOut
  try with_reducible refine wpAny_holding ?_
  refine wpAny_bind (knd.pyHash hu hkey (wpAny_bind (wpAny_dictFind_heap (s := { s with toks := s.toks + knd.draws k }) hu hkey ho hd he his hn (fun hno => ?_) (fun j p' hj => ?_))))
  · rw [atKey_none_of_get hno] at hp; cases hp
  · rw [atKey_of_get hn hj] at hp
    cases hp
    refine wpAny_bind (wpAny_dictEntries (s := { s with toks := s.toks + knd.draws k }) ho hd ?_)
    rw [entry_at he j, hj]
    refine wpAny_bind (wpAny_updateDictKeys (hz := by have e := size_of_entries he; omega) (s := { s with toks := s.toks + knd.draws k }) ho hd (wpAny_pure (hsome _ _ rfl ⟨_, _, ep + 1, Heap.get?_update_self _ ho (Obj.isFreed_of_dict (Obj.data_mapDictKeys hd _)), hc.mapDictKeys _, Obj.data_mapDictKeys hd _, ?_, ?_, ?_⟩ (Heap.SameBut.update ..))))
    · rw [outH_erase hn hj, map_erase, ← he]
      obtain ⟨l⟩ := es
      simp
    · intro x hx
      exact knd.keeps (his x (List.mem_filter.mp hx).1) ho hd (Heap.SameBut.update ..)
    · exact hn.sublist (List.filter_sublist.map _)
theorem pop_heap {d a : Addr} {xs : List (κ × Addr × Value)} {k : κ} {p : Addr × Value} {R : Result → Shared → Prop} (hu : knd.room A.in1) (hkey : knd.is s.heap k a) (hm : s.heap.DictOfH knd d xs) (hp : atKey xs k = some p) (hsz : xs.length ≤ sizeLine)
    (h : ∀ h', h'.DictOfH knd d (outH xs k) → Heap.SameBut d s.heap h' → R (.ok (.ret p.2)) { s with heap := h', toks := s.toks + knd.draws k }) :
    wpAny (model prog w) A.in1 (Builtin.«dict.pop» ⟨[.ref d, .ref a], []⟩) (fun fin s' => match fin with | .done f => R (.ok f) s' | .again c' => c'.quiet = true ∧ codeAny (model prog w) A c' R s') (fun e s' => R (.error e) s') s := by
  obtain ⟨o, es, ep, ho, hc, hd, he, his, hn⟩ := id hm
  have ne : es.isEmpty = false := by
    rw [Array.isEmpty_eq_false_iff]
    intro z
    rw [z] at he
    have e2 : xs = [] := by
      cases xs with
      | nil => rfl
      | cons x r => simp at he
    rw [e2] at hp
    cases hp
  unfold Builtin.«dict.pop»; refine wpAny_bind ?_
  unfold Builtin.Dict.keyAndDefault; refine wpAny_bind (wpAny_notOrdered_dict hm.typeIs ?_)
  show wpAny _ _ (pure (d, Value.ref a, none)) _ _ s; refine wpAny_pure ?_
  dsimp only; rw [if_neg (show ¬ ((keyPart (Value.ref a)).isSome = true) from by simp [keyPart])]
  refine wpAny_bind (wpAny_dictEntries ho hd ?_); refine wpAny_bind (wpAny_pure ?_)
  rw [ne]; simp only [Bool.false_eq_true, if_false]
  refine wpAny_bind (out_heap hu hkey hm hp (fun e h' hv hm' hs' => ?_) hsz)
  simp only [Option.isNone_some, Bool.false_eq_true, if_false]; refine wpAny_bind (wpAny_letGo (wpAny_pure ?_))
  show R (.ok (.ret e.val)) _
  rw [hv]; exact h h' hm' hs'
theorem popH (d a : Addr) : MeetsIn prog w (Builtin.«dict.pop» ⟨[.ref d, .ref a], []⟩) (fun A R s => knd.room A.in1 ∧ ∃ k xs p, knd.is s.heap k a ∧ s.heap.DictOfH knd d xs ∧ atKey xs k = some p ∧ xs.length ≤ sizeLine ∧
    ∀ h', h'.DictOfH knd d (outH xs k) → Heap.SameBut d s.heap h' → R (.ok (.ret p.2)) { s with heap := h', toks := s.toks + knd.draws k }) :=
  fun A R s ⟨hu, k, xs, p, h1, h2, h3, h4, h⟩ => pop_heap hu h1 h2 h3 h4 h
end
end DR
set_option Elab.async false
set_option linter.all false
set_option maxRecDepth 100000
set_option genSizeOf false
namespace L2
open PySem PySem.Spec PyProof.Rows
theorem KT.out {H : Hp} {kvs : List (List Key × V)} {xs : List (List Key × Addr × Value)} (r : KT H kvs xs) (k : List Key) : KT H (dropK kvs k) (DR.outH xs k) := by
  induction r with
  | nil => exact .nil
  | @cons p q ps qs h t ih =>
    unfold dropK DR.outH
    by_cases e : p.1 = k
    · rw [List.filter_cons_of_neg (by simp [e]), List.filter_cons_of_neg (by simp [← h.1, e])]; exact ih
    · rw [List.filter_cons_of_pos (by simp [e]), List.filter_cons_of_pos (by simp [← h.1, e])]; exact .cons h ih
section
variable {X : Cx} {pins : List (Addr × Obj)} {σ : St} {H : Hp} {s : Shared} {a b : Addr} {A : Around} {E : Value → Shared → Prop}
/-- d.pop(t), t a tuple that is there -/
theorem d_popT {kvs : List (List Key × V)} {k : List Key} {v : V} {Q : Value → Shared → Prop} (hu : A.units + 1 < cLine) (I : Inv X pins σ H s) (e : H a = some (.dT kvs)) (eb : H b = some (.tup (k.map kV))) (l : valV kvs k = some v)
    (h : ∀ w' s', Inv X pins σ (upd H a (.dT (dropK kvs k))) s' → RelV v w' → Q w' s') : wpAny (model X.prog X.w) A (call (.builtin "dict.pop") [.ref a, .ref b]) Q E s := by
  obtain ⟨z, hd, xs, rel, dd⟩ := dt_of I.hok e
  obtain ⟨w', hw, rw'⟩ := RelO.some_of (v := v) (o := (atKey xs k).map (·.2)) (by rw [← l]; exact rel.val k)
  obtain ⟨p, hp, hp2⟩ := Option.map_eq_some_iff.mp hw
  have hz : xs.length ≤ sizeLine := by rw [← Paired.length rel]; exact z
  have hl : (dropK kvs k).length ≤ sizeLine := Nat.le_trans (dropK_le kvs k) z
  refine call_meetsIn PySem.F.slot_dict_pop dd.typeIs PySem.F.entry_dict_pop (PySem.F.args_dict_pop_2 _ _) (DR.popH (knd := tupleKind (mixKind X.prog X.w)) a b) ⟨tupleKind_room_in1 hu, k, xs, p, key_of I.hok eb, dd, hp, hz, fun h' dd' hs => ?_⟩
  obtain ⟨q, es, ep, hq, h2, h3, h4, _, h5⟩ := dd'
  show Q p.2 _
  rw [hp2]
  refine h w' _ (d_write I (by rw [e]; exact True.intro) hs ⟨q, hq⟩ ⟨hl, hd, _, (rel.out k).keeps fun c ys ec => ?_, q, es, ep, hq, h2, h3, h4, h5⟩) rw'
  rw [upd_ne (ne_of ec e (fun z => nomatch z))]
  exact ec
/-- len(d), tuple keys -/
theorem d_lenT {kvs : List (List Key × V)} {Q : Value → Shared → Prop} (I : Inv X pins σ H s) (e : H a = some (.dT kvs)) (h : ∀ t s', Inv X pins σ H s' → Q (.int kvs.length t) s') : wpAny (model X.prog X.w) A (call (.builtin "len") [.ref a]) Q E s := by
  obtain ⟨z, hd, xs, rel, o, es, ep, h1, h2, h3, h4, h5⟩ := (show ObjOk X.prog X.w H s.heap a (.dT kvs) from I.hok a _ e)
  have en : es.size = kvs.length := by rw [← Array.length_toList, h4, List.length_map, Paired.length rel]
  refine DR.raw_len hd ⟨o, h1, h2, h3⟩ (by rw [en]; rw [sizeLine_eq] at z; omega) ?_
  rw [en]
  exact h _ _ (I.tok _)
end
/-- d.pop(e), the key there -/
def tPop (td ty : TE) : TE := fun σ H Q => td σ H fun x H1 => ∃ a, x = .ref a ∧ IsD H1 a ∧ ty σ H1 fun y H2 => (∃ kvs k v, H2 a = some (.dK kvs) ∧ y = kV k ∧ valV kvs k = some v ∧ Q v (upd H2 a (.dK (dropK kvs k)))) ∨
  ∃ kvs k b v, H2 a = some (.dT kvs) ∧ y = .ref b ∧ H2 b = some (.tup (k.map kV)) ∧ valV kvs k = some v ∧ Q v (upd H2 a (.dT (dropK kvs k)))
section
variable {X : Cx} {o e : Expr} {apos cpos : Pos} {td ty : TE}
theorem pe_pop (hu : X.A.units + 1 < cLine) (ho : PE X o td) (he : PE X e ty) (m : M1 X o "pop" apos e cpos) : PE X (.Call (.Attribute o "pop" apos) [e] [] cpos) (tPop td ty) := by
  intro pins s σ H Q I h
  refine wpAny_Call_method m.base m.few m.line PySem.F.plainAttrs_dict PySem.F.slot_dict_pop PySem.F.type_dict_pop (thn (ho pins s σ H _ I h) fun u s1 ⟨x, H1, I1, rx, a, ex, d, q1⟩ => ?_)
  subst ex; obtain rfl : u = Value.ref a := rx
  obtain ⟨t1, t2, _⟩ := isD_at I1 d
  refine ⟨t1, t2, ?_⟩; rw [m.trees]
  refine Calls.callWith_builtin rfl (Calls.evalArgs_plain (Calls.spliced_cons (thn (he pins s1 σ H1 _ I1 q1) fun iv s2 ⟨y, H2, I2, ry, q2⟩ => Calls.spliced_nil ?_)))
  rcases q2 with ⟨kvs, k, v, ea, ey, l, q2⟩ | ⟨kvs, k, b, v, ea, ey, eb, l, q2⟩
  · subst ey; exact d_pop I2 ea ry l (.inl rfl) fun w' s3 I3 rw' => ⟨v, _, I3, rw', q2⟩
  · subst ey; obtain rfl : iv = Value.ref b := ry; exact d_popT hu I2 ea eb l fun w' s3 I3 rw' => ⟨v, _, I3, rw', q2⟩
theorem call_lenO : CallR X (.builtin "len") (fun xs H Q => ∃ a n, xs = [V.ref a] ∧ ((∃ kvs, H a = some (.dK kvs) ∧ kvs.length = n) ∨ ∃ kvs, H a = some (.dT kvs) ∧ kvs.length = n) ∧ Q (.int n) H) := by
  intro pins s σ H xs us Q I r h
  obtain ⟨a, n, rfl, h, q⟩ := h
  obtain ⟨u, rfl, ru⟩ := vals1 r
  cases ru
  rcases h with ⟨kvs, ha, rfl⟩ | ⟨kvs, ha, rfl⟩
  · exact d_len I (.inl ha) fun t s' I' => ⟨.int kvs.length, H, I', ⟨t, rfl⟩, q⟩
  · exact d_lenT I ha fun t s' I' => ⟨.int kvs.length, H, I', ⟨t, rfl⟩, q⟩
end
end L2
set_option Elab.async false
set_option linter.all false
set_option maxRecDepth 100000
set_option genSizeOf false
namespace DL
open PySem PySem.Spec PyProof.Rows L2

/-! ### d.pop(k), len(d), list(d) -/
def dropO : OS → D → Option (D × OS)
  | .dK kvs, d => (match keyD d with | some k => (match valD kvs k with | some v => some (v, .dK (dropD kvs k)) | none => none) | none => none)
  | .dT kvs, d => (match tkeyD d with | some k => (match valD kvs k with | some v => some (v, .dT (dropD kvs k)) | none => none) | none => none)
  | _, _ => none
def gDPop (go gk : Den) : Den := fun ρ Ω => match go ρ Ω with
  | some (.obj n, Ω1) => (match Ω1[n]? with
    | some o => if isDct o = true then (match gk ρ Ω1 with
      | some (k, Ω2) => (match Ω2[n]? with
        | some o2 => (match dropO o2 k with | some (v, o3) => some (v, Ω2.set n o3) | none => none)
        | none => none)
      | none => none) else none
    | none => none)
  | _ => none
section
variable {K : PySem.W.Frag} {C : Cl} {e : E4} {Ω : List OS}
theorem dpop_of (w : Wf K C e Ω) {n : Nat} {a : Addr} {o o' : OS} {d x : D} {y : V} {Q : VK} (hα : e.α[n]? = some a) (hΩ : Ω[n]? = some o) (hp : dropO o d = some (x, o')) (i : Is K e.α e.F d y)
    (k : ∀ v e', Ext e e' → Wf K C e' (Ω.set n o') → Is K e'.α e'.F x v → Q v e'.H) :
    (∃ kvs k v, e.H a = some (.dK kvs) ∧ y = kV k ∧ valV kvs k = some v ∧ Q v (upd e.H a (.dK (dropK kvs k)))) ∨
    ∃ kvs k b v, e.H a = some (.dT kvs) ∧ y = .ref b ∧ e.H b = some (.tup (k.map kV)) ∧ valV kvs k = some v ∧ Q v (upd e.H a (.dT (dropK kvs k))) := by
  have ob := (w.ob n a o hα hΩ).2
  unfold dropO at hp
  cases o with
  | dK kvs =>
    obtain ⟨vs, h1, h2⟩ := ob
    dsimp only at hp
    cases q : keyD d with
    | none => rw [q] at hp; cases hp
    | some kk =>
      rw [q] at hp
      dsimp only at hp
      cases q2 : valD kvs kk with
      | none => rw [q2] at hp; cases hp
      | some v0 =>
        rw [q2] at hp
        cases hp
        have ov := h2.val kk
        rw [q2] at ov
        obtain ⟨v, e1, iv⟩ := ov.some_of
        obtain ⟨w', x'⟩ := w.at (o' := .dK (dropD kvs kk)) (ho := .dK (dropK vs kk)) hα (fun xs z => nomatch z) ⟨_, upd_same, h2.drop kk⟩
        exact .inl ⟨vs, kk, v, h1, keyD_v q i, e1, k v (e.at a _) x' w' iv⟩
  | dT kvs =>
    obtain ⟨vs, h1, h2⟩ := ob
    dsimp only at hp
    cases q : tkeyD d with
    | none => rw [q] at hp; cases hp
    | some kk =>
      rw [q] at hp
      dsimp only at hp
      cases q2 : valD kvs kk with
      | none => rw [q2] at hp; cases hp
      | some v0 =>
        rw [q2] at hp
        cases hp
        have ov := h2.val kk
        rw [q2] at ov
        obtain ⟨v, e1, iv⟩ := ov.some_of
        obtain ⟨b, rfl, hb⟩ := tkeyD_v q i
        obtain ⟨w', x'⟩ := w.at (o' := .dT (dropD kvs kk)) (ho := .dT (dropK vs kk)) hα (fun xs z => nomatch z) ⟨_, upd_same, h2.drop kk⟩
        exact .inr ⟨vs, kk, b, v, h1, rfl, w.fh _ _ hb, e1, k v (e.at a _) x' w' iv⟩
  | _ => cases hp
end
theorem obj_ext {K : PySem.W.Frag} {e e' : E4} {n : Nat} {p : Addr} (x : Ext e e') (h : e.α[n]? = some p) : e'.α[n]? = some p := by
  obtain ⟨more, z⟩ := x.al
  rw [z, List.getElem?_append_left (List.getElem?_eq_some_iff.mp h).1]; exact h
section
variable {X : Cx} {C : Cl} {a b x : Expr} {f g h : Den} {ga : ADen} {pos pos' ap cp : Pos}
theorem pd_dpop (hu : X.A.units + 1 < cLine) (ho : PD X C a f) (hi : PD X C b g) (m : M1 X a "pop" ap b cp) : PD X C (.Call (.Attribute a "pop" ap) [b] [] cp) (gDPop f g) := pe_imp (pe_pop hu ho hi m) fun σ H Q ⟨e, Ω, ρ, d, Ω', eH, w, rl, q, kk⟩ => by
  unfold gDPop at q
  cases q1 : f ρ Ω with
  | none => rw [q1] at q; cases q
  | some p1 =>
    obtain ⟨d1, Ω1⟩ := p1
    rw [q1] at q
    cases d1 with
    | obj n =>
      dsimp only at q
      cases q0 : Ω1[n]? with
      | none => rw [q0] at q; cases q
      | some o0 =>
        rw [q0] at q
        dsimp only at q
        by_cases hd : isDct o0 = true
        · rw [if_pos hd] at q
          cases q2 : g ρ Ω1 with
          | none => rw [q2] at q; cases q
          | some p2 =>
            obtain ⟨k, Ω2⟩ := p2
            rw [q2] at q
            dsimp only at q
            cases q3 : Ω2[n]? with
            | none => rw [q3] at q; cases q
            | some o =>
              rw [q3] at q
              dsimp only at q
              cases q4 : dropO o k with
              | none => rw [q4] at q; cases q
              | some r =>
                obtain ⟨v0, o3⟩ := r
                rw [q4] at q
                cases q
                refine ⟨e, Ω, ρ, _, Ω1, eH, w, rl, q1, fun v e1 x1 w1 i1 => ?_⟩
                rw [Is] at i1
                obtain ⟨p, hα, rfl⟩ := i1
                refine ⟨p, rfl, isD_of w1 hα q0 hd, ?_⟩
                refine ⟨e1, Ω1, ρ, k, _, rfl, w1, rl.ext x1, q2, fun u e2 x2 w2 i2 => ?_⟩
                exact dpop_of w2 (obj_ext (K := X.K) x2 hα) q3 q4 i2 fun v e' x' w' iv => kk v e' ((x1.trans x2).trans x') w' iv
        · rw [if_neg hd] at q; cases q
    | _ => cases q
theorem pd_dlen {n : Str} {p : Pos} (hg : Gl X n) (hm : X.mg n = none) (hv : bootBuiltins n = some (.builtin "len")) (ho : PD X C a f) (hn : n ≠ "__name__" := by decide) (hdb : (n == ("__debug__" : Str)) = false := by decide)
    (he : starEach [a] X.env = (false, eval a X.env) :: starEach [] X.env := by rfl) (hpl : (backTo pos (starEach [] X.env)).any (·.1) = false := by rfl) : PD X C (.Call (.Name n p) [a] [] pos) (gDLen f) :=
  pe_imp (pe_callB call_lenO hg hm hv (pa_cons ho pa_nil he) hn hdb he hpl) fun σ H Q ⟨e, Ω, ρ, d, Ω', eH, w, rl, q, kk⟩ => by
    unfold gDLen at q
    cases q1 : f ρ Ω with
    | none => rw [q1] at q; cases q
    | some p1 =>
      obtain ⟨d1, Ω1⟩ := p1
      rw [q1] at q
      cases d1 with
      | obj n =>
        dsimp only at q
        cases q0 : Ω1[n]? with
        | none => rw [q0] at q; cases q
        | some o0 =>
          rw [q0] at q
          refine ⟨e, Ω, ρ, _, Ω1, eH, w, rl, q1, fun v e1 x1 w1 i1 => ?_⟩
          rw [Is] at i1
          obtain ⟨p, hα, rfl⟩ := i1
          have ob := (w1.ob n p _ hα q0).2
          cases o0 with
          | dK kvs =>
            cases q
            obtain ⟨vs, h1, h2⟩ := ob
            exact ⟨p, _, rfl, .inl ⟨vs, h1, h2.len.symm⟩, kk _ e1 x1 w1 (by rw [Is])⟩
          | dT kvs =>
            cases q
            obtain ⟨vs, h1, h2⟩ := ob
            exact ⟨p, _, rfl, .inr ⟨vs, h1, h2.len.symm⟩, kk _ e1 x1 w1 (by rw [Is])⟩
          | _ => cases q
      | _ => cases q
/-! ### fields -/
structure ClD (K : PySem.W.Frag) (C : Cl) (c : Str) : Prop where
  ex : ∃ Ca, C c = some Ca ∧ Cls K Ca
def NoA (K : PySem.W.Frag) (C : Cl) (c f : Str) : Prop := ∀ Ca, C c = some Ca → NoAttr K Ca f
def gFld (c fl : Str) (g : Den) : Den := fun ρ Ω => match g ρ Ω with
  | some (.obj n, Ω1) => (match Ω1[n]? with
    | some (.ins c' fs) => if c' = c then (match fs.lookup fl with | some d => some (d, Ω1) | none => none) else none
    | _ => none)
  | _ => none
def sFldD (c fl : Str) (go gv : Den) : SDen := fun ρ Ω => match gv ρ Ω with
  | some (v, Ω1) => (match go ρ Ω1 with
    | some (.obj n, Ω2) => (match Ω2[n]? with
      | some (.ins c' fs) => if c' = c ∧ fs.length < 1000 then some (.nx ρ (Ω2.set n (.ins c (putFD fl v fs)))) else none
      | _ => none)
    | _ => none)
  | none => none
theorem pd_fld {c fl : Str} (T : ClD X.K C c) (hn : NoA X.K C c fl) (h : PD X C a f) (hb : attributeBase a fl X.env (eval a X.env) = eval a X.env := by rfl) : PD X C (.Attribute a fl pos) (gFld c fl f) := pe_imp (pe_fld h hb) fun σ H Q ⟨e, Ω, ρ, d, Ω', eH, w, rl, q, kk⟩ => by
  obtain ⟨Ca, hC, cl⟩ := T.ex
  unfold gFld at q
  cases q1 : f ρ Ω with
  | none => rw [q1] at q; cases q
  | some p1 =>
    obtain ⟨d1, Ω1⟩ := p1
    rw [q1] at q
    cases d1 with
    | obj n =>
      dsimp only at q
      cases q0 : Ω1[n]? with
      | none => rw [q0] at q; cases q
      | some o0 =>
        rw [q0] at q
        refine ⟨e, Ω, ρ, _, Ω1, eH, w, rl, q1, fun v e1 x1 w1 i1 => ?_⟩
        rw [Is] at i1
        obtain ⟨p, hα, rfl⟩ := i1
        have ob := (w1.ob n p _ hα q0).2
        cases o0 with
        | ins c' fs =>
          dsimp only at q
          by_cases ec : c' = c
          · rw [if_pos ec] at q
            subst ec
            cases q2 : fs.lookup fl with
            | none => rw [q2] at q; cases q
            | some v0 =>
              rw [q2] at q
              cases q
              obtain ⟨Cb, dx, fvs, h1, h2, h3⟩ := ob
              rw [hC] at h1
              cases h1
              have ov := h3.look fl
              rw [q2] at ov
              obtain ⟨v', e2, iv⟩ := ov.some_of
              exact ⟨p, Ca, dx, fvs, v', rfl, h2, cl, hn Ca hC, e2, kk _ e1 x1 w1 iv⟩
          · rw [if_neg ec] at q; cases q
        | _ => cases q
    | _ => cases q
theorem pds_fld {c fl : Str} (T : ClD X.K C c) (hn : NoA X.K C c fl) (ho : PD X C a f) (hv : PD X C x g) (hs : swapsWith x (some (.Attribute a fl pos')) pos.line X.env = pure false := by rfl) :
    PDS X C (.Assign [.Attribute a fl pos'] x pos) (sFldD c fl f g) := fun e₀ => ps_imp (ps_fld ho hv hs) fun Dn σ H ⟨e, Ω, ρ, o, eH, r, q, k⟩ => by
  obtain ⟨Ca, hC, cl⟩ := T.ex
  unfold sFldD at q
  cases q1 : g ρ Ω with
  | none => rw [q1] at q; cases q
  | some p1 =>
    obtain ⟨v, Ω1⟩ := p1
    rw [q1] at q
    dsimp only at q
    cases q2 : f ρ Ω1 with
    | none => rw [q2] at q; cases q
    | some p2 =>
      obtain ⟨d2, Ω2⟩ := p2
      rw [q2] at q
      cases d2 with
      | obj n =>
        dsimp only at q
        cases q0 : Ω2[n]? with
        | none => rw [q0] at q; cases q
        | some o0 =>
          rw [q0] at q
          refine ⟨e, Ω, ρ, v, Ω1, eH, r.wf, r.rel, q1, fun uv e1 x1 w1 i1 => ?_⟩
          refine ⟨e1, Ω1, ρ, _, Ω2, rfl, w1, r.rel.ext x1, q2, fun uo e2 x2 w2 i2 => ?_⟩
          rw [Is] at i2
          obtain ⟨p, hα, rfl⟩ := i2
          have ob := (w2.ob n p _ hα q0).2
          cases o0 with
          | ins c' fs =>
            dsimp only at q
            by_cases ec : c' = c ∧ fs.length < 1000
            · rw [if_pos ec] at q
              obtain ⟨rfl, hl⟩ := ec
              cases q
              obtain ⟨Cb, dx, fvs, h1, h2, h3⟩ := ob
              rw [hC] at h1
              cases h1
              obtain ⟨w', x'⟩ := w2.at (o' := .ins c' (putFD fl v fs)) (ho := .ins Ca dx (putF fl uv fvs)) hα (fun xs z => nomatch z) ⟨Ca, dx, _, hC, upd_same, h3.putF fl (i1.ext x2)⟩
              exact ⟨p, Ca, dx, fvs, rfl, h2, cl, hn Ca hC, by rw [← h3.len]; exact hl, k (e2.at p _) σ (r.to ((x1.trans x2).trans x') w')⟩
            · rw [if_neg ec] at q; cases q
          | _ => cases q
      | _ => cases q

/-! ### methods -/
structure Mt (P : Program) (w : World) (K : PySem.W.Frag) (mg : Str → Option Value) (base : Heap) (C : Cl) (k : Nat) (c m : Str) (F : FDen) (dfl : List D) : Prop where
  ex : ∃ Ca f fd ps ds dvs, C c = some Ca ∧ Cls K Ca ∧ Meth K Ca m f ∧ Binds K fd ps ds ∧ Vals dvs ds ∧ (∀ α H, IsL K α H dfl dvs) ∧ FnOk P w K mg base CX0 k f fd ps (spD K C F)
def gMeth (c m : Str) (F : FDen) (dfl : List D) (go : Den) (ga : ADen) : Den := fun ρ Ω => match go ρ Ω with
  | some (.obj n, Ω1) => (match Ω1[n]? with
    | some (.ins c' fs) => if c' = c then (match fs.lookup m with
      | none => (match ga ρ Ω1 with | some (ds, Ω2) => F (.obj n :: (ds ++ dfl)) Ω2 | none => none)
      | some _ => none) else none
    | _ => none)
  | _ => none
theorem meth_read {K : PySem.W.Frag} {c m : Str} {F : FDen} {dfl : List D} {dvs : List V} {Ca : Addr} (hC : C c = some Ca) (hd : ∀ α H, IsL K α H dfl dvs) {σ : St} {H : Hp} {Q : VK} {E : XK} (hw : tD K C (gMeth c m F dfl f ga) σ H Q) :
    tMeth Ca m (spD K C F) dvs E (tD K C f) (tDA K C ga) σ H Q := by
  obtain ⟨e, Ω, ρ, d, Ω', eH, w, rl, q, kk⟩ := hw
  unfold gMeth at q
  cases q1 : f ρ Ω with
  | none => rw [q1] at q; cases q
  | some p1 =>
    obtain ⟨d1, Ω1⟩ := p1
    rw [q1] at q
    cases d1 with
    | obj n =>
      dsimp only at q
      cases q0 : Ω1[n]? with
      | none => rw [q0] at q; cases q
      | some o0 =>
        rw [q0] at q
        refine ⟨e, Ω, ρ, _, Ω1, eH, w, rl, q1, fun v e1 x1 w1 i1 => ?_⟩
        rw [Is] at i1
        obtain ⟨p, hα, rfl⟩ := i1
        have ob := (w1.ob n p _ hα q0).2
        cases o0 with
        | ins c' fs =>
          dsimp only at q
          by_cases ec : c' = c
          · rw [if_pos ec] at q
            subst ec
            cases q2 : fs.lookup m with
            | some v0 => rw [q2] at q; cases q
            | none =>
              rw [q2] at q
              dsimp only at q
              cases q3 : ga ρ Ω1 with
              | none => rw [q3] at q; cases q
              | some p3 =>
                obtain ⟨ds, Ω2⟩ := p3
                rw [q3] at q
                obtain ⟨Cb, dx, fvs, h1, h2, h3⟩ := ob
                rw [hC] at h1
                cases h1
                have ov := h3.look m
                rw [q2] at ov
                have e2 : fvs.lookup m = none := by
                  cases z : fvs.lookup m with
                  | none => rfl
                  | some v => rw [z] at ov; exact ov.elim
                refine ⟨p, dx, fvs, rfl, h2, e2, e1, Ω1, ρ, ds, Ω2, rfl, w1, rl.ext x1, q3, fun vs e3 x3 w3 i3 => ?_⟩
                exact ⟨e3, Ω2, _, d, Ω', rfl, w3, .cons (by rw [Is]; exact ⟨p, obj_ext (K := K) x3 hα, rfl⟩) (i3.append (hd _ _)), q, fun v' e4 x4 w4 i4 => kk v' e4 ((x1.trans x3).trans x4) w4 i4⟩
          · rw [if_neg ec] at q; cases q
        | _ => cases q
    | _ => cases q
theorem pd_meth {k : Nat} {c m : Str} {F : FDen} {dfl : List D} {es : List Expr} {pl : Sem Bool} (G : Mt X.prog X.w X.K X.mg X.base C k c m F dfl) (hr : Room k X.A) (ho : PD X C a f) (ha : PDA X C (x :: es) ga)
    (hst : starEach (x :: es) X.env = (false, eval x X.env) :: starEach es X.env := by rfl) (hpl : (backTo cp (starEach es X.env)).any (·.1) = false := by rfl)
    (ht : eval (.Call (.Attribute a m ap) (x :: es) [] cp) X.env = (do
      let ov ← eval a X.env
      standAt ap.atName
      let (f, first) ← holding [ov] (getMethod ov m pl)
      callWith cp f first (backTo cp (starEach (x :: es) X.env)) (backToKw cp (keywordEach [] X.env))) := by rfl) :
    PD X C (.Call (.Attribute a m ap) (x :: es) [] cp) (gMeth c m F dfl f ga) := by
  obtain ⟨Ca, fa, fd, ps, ds, dvs, hC, cl, me, hb, hd, hdd, ok⟩ := G.ex
  exact pe_imp (pe_meth ho cl me ok hr hb hd pass0 ha hst hpl ht) fun _ _ _ hw => meth_read hC hdd hw
theorem pd_meth0 {k : Nat} {c m : Str} {F : FDen} {dfl : List D} {pl : Sem Bool} (G : Mt X.prog X.w X.K X.mg X.base C k c m F dfl) (hr : Room k X.A) (ho : PD X C a f)
    (ht : eval (.Call (.Attribute a m ap) [] [] cp) X.env = (do
      let ov ← eval a X.env
      standAt ap.atName
      let (f, first) ← holding [ov] (getMethod ov m pl)
      callWith cp f first (backTo cp (starEach [] X.env)) (backToKw cp (keywordEach [] X.env))) := by rfl) :
    PD X C (.Call (.Attribute a m ap) [] [] cp) (gMeth c m F dfl f gNil) := by
  obtain ⟨Ca, fa, fd, ps, ds, dvs, hC, cl, me, hb, hd, hdd, ok⟩ := G.ex
  exact pe_imp (pe_meth0 ho cl me ok hr hb hd pass0 ht) fun σ H Q hw => by
    have z := meth_read (ga := gNil) (E := E0) hC hdd hw
    obtain ⟨e, Ω, ρ, d, Ω', eH, w, rl, q, kk⟩ := z
    refine ⟨e, Ω, ρ, d, Ω', eH, w, rl, q, fun v e1 x1 w1 i1 => ?_⟩
    obtain ⟨a', dx, fs, e2, e3, e4, z⟩ := kk v e1 x1 w1 i1
    refine ⟨a', dx, fs, e2, e3, e4, ?_⟩
    obtain ⟨e5, Ω5, ρ5, ds5, Ω6, eH5, w5, rl5, q5, kk5⟩ := z
    cases q5
    have := kk5 [] e5 (Ext.refl _) w5 .nil
    rw [eH5] at this
    exact this

/-! ### a new instance -/
structure MkD (P : Program) (w : World) (K : PySem.W.Frag) (mg : Str → Option Value) (base : Heap) (C : Cl) (k : Nat) (c : Str) (F : FDen) (dfl : List D) : Prop where
  ex : ∃ Ca f fd ps ds dvs, C c = some Ca ∧ mg c = some (.ref Ca) ∧ Mk K Ca f ∧ Binds K fd ps ds ∧ Vals dvs ds ∧ (∀ α H, IsL K α H dfl dvs) ∧ FnOk P w K mg base CX0 k f fd ps (spD K C F)
def gMake (c : Str) (F : FDen) (dfl : List D) (ga : ADen) : Den := fun ρ Ω => match ga ρ Ω with
  | some (ds, Ω1) => (match F (.obj Ω1.length :: (ds ++ dfl)) (Ω1 ++ [.ins c []]) with
    | some (.non, Ω2) => some (.obj Ω1.length, Ω2)
    | _ => none)
  | none => none
theorem make_read {K : PySem.W.Frag} {c : Str} {F : FDen} {dfl : List D} {dvs : List V} {Ca : Addr} (hC : C c = some Ca) (hd : ∀ α H, IsL K α H dfl dvs) {σ : St} {H : Hp} {Q : VK} {E : XK} (hw : tD K C (gMake c F dfl ga) σ H Q) :
    tMake Ca (spD K C F) dvs E (tDA K C ga) σ H Q := by
  obtain ⟨e, Ω, ρ, d, Ω', eH, w, rl, q, kk⟩ := hw
  unfold gMake at q
  cases q1 : ga ρ Ω with
  | none => rw [q1] at q; cases q
  | some p1 =>
    obtain ⟨ds, Ω1⟩ := p1
    rw [q1] at q
    dsimp only at q
    cases q2 : F (.obj Ω1.length :: (ds ++ dfl)) (Ω1 ++ [.ins c []]) with
    | none => rw [q2] at q; cases q
    | some p2 =>
      obtain ⟨d2, Ω2⟩ := p2
      rw [q2] at q
      cases d2 with
      | non =>
        cases q
        refine ⟨e, Ω, ρ, ds, Ω1, eH, w, rl, q1, fun vs e1 x1 w1 i1 p dx hp hdx hne => ?_⟩
        obtain ⟨w2, x2⟩ := w1.obj (H' := upd (upd e1.H dx (.own p)) p (.ins Ca dx [])) (o := .ins c []) hp (fun b u hb => by rw [upd_ne (ne_of_none hb hp), upd_ne (ne_of_none hb hdx)]; exact hb)
          (by rw [upd_same]; exact ⟨by simp, fun xs z => nomatch z⟩) ⟨Ca, dx, [], hC, upd_same, rfl⟩
        have ip : (e1.obj p (upd (upd e1.H dx (.own p)) p (.ins Ca dx []))).α[Ω1.length]? = some p := by show (e1.α ++ [p])[Ω1.length]? = some p; rw [← w1.ol]; simp
        refine ⟨e1.obj p (upd (upd e1.H dx (.own p)) p (.ins Ca dx [])), Ω1 ++ [.ins c []], _, .non, _, rfl, w2, .cons (by rw [Is]; exact ⟨p, ip, rfl⟩) ((i1.ext x2).append (hd _ _)), q2, fun v' e4 x4 w4 i4 => ?_⟩
        rw [Is] at i4
        exact ⟨i4, kk _ e4 ((x1.trans x2).trans x4) w4 (by rw [Is]; exact ⟨p, obj_ext (K := K) x4 ip, rfl⟩)⟩
      | _ => cases q
theorem pd_make0 {k : Nat} {c : Str} {F : FDen} {dfl : List D} {p : Pos} (G : MkD X.prog X.w X.K X.mg X.base C k c F dfl) (hr : Room (k + 1) X.A) (hg : Gl X c)
    (hdb : (c == ("__debug__" : Str)) = false := by decide) : PD X C (.Call (.Name c p) [] [] cp) (gMake c F dfl gNil) := by
  obtain ⟨Ca, fa, fd, ps, ds, dvs, hC, hm, mk, hb, hd, hdd, ok⟩ := G.ex
  exact pe_imp (pe_make0 mk ok hr hg hm hb hd pass0 hdb) fun σ H Q hw => by
    have z := make_read (ga := gNil) (E := E0) hC hdd hw
    obtain ⟨e, Ω, ρ, ds5, Ω', eH, w, rl, q, kk⟩ := z
    cases q
    have := kk [] e (Ext.refl _) w .nil
    rw [eH] at this
    exact this
end
/-! ### a def of no parameter is called; the law with objects -/
theorem law_okO {K : PySem.W.Frag} {C : Cl} {F : FDen} {H : Hp} {a : Addr} {ns : List Int} {E : XK} (hS : SqL K H a (ns.map V.int)) (h : ∃ Ω, F [.scr ns] [] = some (.bl true, Ω)) : spD K C F [.ref a] H (fun v _ => v = .bl true) E := by
  obtain ⟨Ω, h⟩ := h
  refine ⟨⟨[], H, fun _ => False, H⟩, [], [.scr ns], .bl true, Ω, rfl, ⟨Same.refl _, fun _ h => h.elim, fun _ h => h.elim, rfl, List.nodup_nil, fun n a o h => by simp at h⟩, ?_, h, fun v e' _ _ i => ?_⟩
  · exact .cons (by rw [Is]; exact ⟨a, rfl, hS⟩) .nil
  · rw [Is] at i; exact i
end DL
set_option Elab.async false
set_option linter.all false
set_option maxRecDepth 100000
set_option genSizeOf false
namespace DL
open PySem PySem.Spec PyProof.Rows L2
/-! ### a def with defaults; methods -/
structure FunV (K : PySem.W.Frag) (x qual : Str) (st : Stmt) (dV : Value) (f : Addr) (fd : FuncData) : Prop where
  ex : ∃ (oc : Value) (od : Option Addr) (kV doc pm : Value) (an : Option Addr) (cdv ct : Value) (osl : Array (Option Value)),
    fd = PySem.W.fnOf x qual (defArgs st) (defBody st) (defScope st) dV kV doc pm an cdv ct ∧ K.lookup f = some ⟨oc, od, .func fd, osl⟩ ∧ PySem.W.codeIn K cdv qual = true
theorem funV_mk {K : PySem.W.Frag} {x qual : Str} {st : Stmt} {dV : Value} {f : Addr} {oc : Value} {od an : Option Addr} {osl : Array (Option Value)} {kV doc pm cdv ct : Value}
    (l : K.lookup f = some ⟨oc, od, .func (PySem.W.fnOf x qual (defArgs st) (defBody st) (defScope st) dV kV doc pm an cdv ct), osl⟩) (c : PySem.W.codeIn K cdv qual = true) :
    FunV K x qual st dV f (PySem.W.fnOf x qual (defArgs st) (defBody st) (defScope st) dV kV doc pm an cdv ct) := ⟨oc, od, kV, doc, pm, an, cdv, ct, osl, rfl, l, c⟩
theorem fn_DV {P : Program} {w : World} {K : PySem.W.Frag} {mg : Str → Option Value} {base : Heap} {C : Cl} {x qual : Str} {st : Stmt} {dV : Value} {f : Addr} {fd : FuncData} {N ps : List Str} {k n m : Nat} {s : SDen} (F : FunV K x qual st dV f fd) (S : FnScope N ps (defScope st)) (hn : ps.length = n) (hm : N.length = m)
    (hbody : ∀ (cdv : Value) (A : Around) (outer : List Env) (sh : Shared) (H : Hp) (E : XK), Room k (A.deeper (envOfC qual (defScope st) sh.heap.objs.size f cdv)) →
      PDB (cxOf CX0 P w K mg base N qual (defScope st) f cdv A outer sh H E).nox C (defBody st) s) : FnOk P w K mg base CX0 (k + 1) f fd ps (spD K C (runD n m s)) := by
  obtain ⟨oc, od, kV, doc, pm, an, cdv, ct, osl, rfl, lk, hcd⟩ := F.ex
  refine fn_of lk hcd S (fun vs H Q E h => ?_) fun A outer sh H vs Q E hr h => ?_
  · obtain ⟨e, Ω, ds, d, Ω', _, _, i, q, _⟩ := h
    unfold runD at q
    by_cases hl : ds.length = n
    · rw [← i.length, hl, hn]
    · rw [if_neg hl] at q; cases q
  · obtain ⟨e, Ω, ds, d, Ω', eH, wf, i, q, kk⟩ := h
    unfold runD at q
    by_cases hl : ds.length = n
    · rw [if_pos hl] at q
      cases q1 : s (ds.map Sl.dat ++ List.replicate (m - n) Sl.und) Ω with
      | none => rw [q1] at q; cases q
      | some o =>
        rw [q1] at q
        refine ⟨_, (hbody cdv A outer sh H E hr e).nox, e, Ω, _, o, eH, start_rel wf i, by rw [hl, hm]; exact q1, ?_⟩
        cases o with
        | rt d' Ω2 => cases q; exact fun e' v x' w' i' => kk v e' x' w' i'
        | nx ρ' Ω2 => cases q; exact fun e' σ' r' => kk .non e' r'.ext r'.wf (by rw [Is])
        | bk ρ' Ω2 => cases q
        | ct ρ' Ω2 => cases q
    · rw [if_neg hl] at q; cases q
/-- the arguments bind: none is left out and there is no default -/
theorem bindsN {K : PySem.W.Frag} {fd : FuncData} {ps : List Str} (h : ∀ us : List Value, us.length = ps.length → bindArgs fd ⟨us, []⟩ = pure (ps.zip us)) : Binds K fd ps [] := .all h
/-- .. with defaults, of which ds fill up -/
theorem bindsV {K : PySem.W.Frag} {fd : FuncData} {ps : List Str} {T : Addr} {oT : Obj} {items : Array Value} {n : Nat} {ds : List Value} (hd : fd.defaults = .ref T) (hT : K.lookup T = some oT) (hs : oT.data = .seq items n) (m : Nat) (hm : m + ds.length = ps.length)
    (h : ∀ us : List Value, us.length = m → ∃ k : Option (Array Value) → Sem (List (Str × Value)), bindArgs fd ⟨us, []⟩ = seqItems? fd.defaults >>= k ∧ k (some items) = pure (ps.zip (us ++ ds))) : Binds K fd ps ds := fun s us KX hl => by
  obtain ⟨k, h1, h2⟩ := h us (by rw [List.length_append] at hl; omega)
  exact BindsTo.of_defaults hd (KX _ _ hT) hs h1 h2
/-- the law, whatever the classes' places are -/
def spC (K : PySem.W.Frag) (F : FDen) : Sp := fun vs H Q E => ∀ C : Cl, spD K C F vs H Q E
theorem law_okC {K : PySem.W.Frag} {F : FDen} {H : Hp} {a : Addr} {ns : List Int} {E : XK} (hS : SqL K H a (ns.map V.int)) (h : ∃ Ω, F [.scr ns] [] = some (.bl true, Ω)) : spC K F [.ref a] H (fun v _ => v = .bl true) E := fun C => law_okO hS h
/-- one class more -/
def clAdd (C : Cl) (c : Str) (a : Addr) : Cl := fun x => if x = c then some a else C x
theorem clAdd_same {C : Cl} {c : Str} {a : Addr} : clAdd C c a c = some a := if_pos rfl
theorem noA_of {K : PySem.W.Frag} {C : Cl} {c f : Str} {a : Addr} (h : C c = some a) (n : NoAttr K a f) : NoA K C c f := fun Ca e => by rw [h] at e; cases e; exact n

/-! what each word is worth at a place -/
section
variable (ρ : List Sl) (Ω : List OS)
@[simp] theorem ap_newT : gNewT ρ Ω = some (.obj Ω.length, Ω ++ [.dT []]) := (rfl)
@[simp] theorem ap_din (neg : Bool) (gk go : Den) : gDIn neg gk go ρ Ω = match gk ρ Ω with
  | some (k, Ω1) => (match go ρ Ω1 with
    | some (.obj n, Ω2) => (match Ω2[n]? with
      | some o => (match lookO o k with | some r => some (.bl (if neg then !r.isSome else r.isSome), Ω2) | none => none)
      | none => none)
    | _ => none)
  | none => none := (rfl)
@[simp] theorem ap_dget2 (go gk gx : Den) : gDGet2 go gk gx ρ Ω = match go ρ Ω with
  | some (.obj n, Ω1) => (match Ω1[n]? with
    | some o => (if isDct o = true then (match gk ρ Ω1 with
      | some (k, Ω2) => (match gx ρ Ω2 with
        | some (x, Ω3) => (match Ω3[n]? with
          | some o2 => (match lookO o2 k with | some r => some (r.getD x, Ω3) | none => none)
          | none => none)
        | none => none)
      | none => none) else none)
    | none => none)
  | _ => none := (rfl)
@[simp] theorem ap_dput (go gi gv : Den) : sDPut go gi gv ρ Ω = match gv ρ Ω with
  | some (v, Ω1) => (match go ρ Ω1 with
    | some (.obj n, Ω2) => (match gi ρ Ω2 with
      | some (k, Ω3) => (match Ω3[n]? with
        | some o => (match putO o k v with | some o' => some (.nx ρ (Ω3.set n o')) | none => none)
        | none => none)
      | none => none)
    | _ => none)
  | none => none := (rfl)
@[simp] theorem ap_dlen (go : Den) : gDLen go ρ Ω = match go ρ Ω with
  | some (.obj n, Ω1) => (match Ω1[n]? with
    | some (.dK kvs) => some (.int kvs.length, Ω1)
    | some (.dT kvs) => some (.int kvs.length, Ω1)
    | _ => none)
  | _ => none := (rfl)
@[simp] theorem ap_dpop (go gk : Den) : gDPop go gk ρ Ω = match go ρ Ω with
  | some (.obj n, Ω1) => (match Ω1[n]? with
    | some o => (if isDct o = true then (match gk ρ Ω1 with
      | some (k, Ω2) => (match Ω2[n]? with
        | some o2 => (match dropO o2 k with | some (v, o3) => some (v, Ω2.set n o3) | none => none)
        | none => none)
      | none => none) else none)
    | none => none)
  | _ => none := (rfl)
@[simp] theorem ap_fld (c fl : Str) (g : Den) : gFld c fl g ρ Ω = match g ρ Ω with
  | some (.obj n, Ω1) => (match Ω1[n]? with
    | some (.ins c' fs) => (if c' = c then (match fs.lookup fl with | some d => some (d, Ω1) | none => none) else none)
    | _ => none)
  | _ => none := (rfl)
@[simp] theorem ap_sfld (c fl : Str) (go gv : Den) : sFldD c fl go gv ρ Ω = match gv ρ Ω with
  | some (v, Ω1) => (match go ρ Ω1 with
    | some (.obj n, Ω2) => (match Ω2[n]? with
      | some (.ins c' fs) => (if c' = c ∧ fs.length < 1000 then some (.nx ρ (Ω2.set n (.ins c (putFD fl v fs)))) else none)
      | _ => none)
    | _ => none)
  | none => none := (rfl)
@[simp] theorem ap_meth (c m : Str) (F : FDen) (dfl : List D) (go : Den) (ga : ADen) : gMeth c m F dfl go ga ρ Ω = match go ρ Ω with
  | some (.obj n, Ω1) => (match Ω1[n]? with
    | some (.ins c' fs) => (if c' = c then (match fs.lookup m with
      | none => (match ga ρ Ω1 with | some (ds, Ω2) => F (.obj n :: (ds ++ dfl)) Ω2 | none => none)
      | some _ => none) else none)
    | _ => none)
  | _ => none := (rfl)
@[simp] theorem ap_make (c : Str) (F : FDen) (dfl : List D) (ga : ADen) : gMake c F dfl ga ρ Ω = match ga ρ Ω with
  | some (ds, Ω1) => (match F (.obj Ω1.length :: (ds ++ dfl)) (Ω1 ++ [.ins c []]) with
    | some (.non, Ω2) => some (.obj Ω1.length, Ω2)
    | _ => none)
  | none => none := (rfl)
@[simp] theorem look_dT (kvs : List (List Key × D)) (xs : List D) : lookO (.dT kvs) (.tup xs) = (match keysD xs with | some k => some (valD kvs k) | none => none) := (rfl)
@[simp] theorem put_dT (kvs : List (List Key × D)) (xs : List D) (v : D) : putO (.dT kvs) (.tup xs) v = (match keysD xs with | some k => (if kvs.length < 100000 then some (.dT (putD kvs k v)) else none) | none => none) := (rfl)
@[simp] theorem drop_dT (kvs : List (List Key × D)) (xs : List D) : dropO (.dT kvs) (.tup xs) = (match keysD xs with | some k => (match valD kvs k with | some v => some (v, .dT (dropD kvs k)) | none => none) | none => none) := (rfl)
@[simp] theorem keys_2 (i j : Int) : keysD [.int i, .int j] = some [.inl i, .inl j] := (rfl)
@[simp] theorem isDct_dT (kvs : List (List Key × D)) : isDct (.dT kvs) = true := (rfl)
@[simp] theorem ap_expr (g : Den) : sExpr g ρ Ω = match g ρ Ω with | some (_, Ω') => some (.nx ρ Ω') | none => none := (rfl)
end
end DL
set_option Elab.async false
set_option linter.all false
set_option maxRecDepth 100000
set_option genSizeOf false
namespace L2
open PySem PySem.Spec PyProof.Rows
section
variable {X : Cx} {tg : Expr}
end
end L2
namespace DL
open PySem PySem.Spec PyProof.Rows L2
section
variable {X : Cx} {C : Cl} {tg : Expr} {ga : ADen} {pos p : Pos}
end
end DL
set_option Elab.async false
set_option linter.all false
set_option maxRecDepth 100000
set_option genSizeOf false
/-! the tree of questions of a sort, answered by ranks -/
namespace KS
open PySem PySem.W PyProof.Rows

section
variable {N : Nat} {r : Nat → Nat}
end

/-! ranks -/
section
variable {β : Type} (lt : β → β → Bool)
end
end KS
set_option Elab.async false
set_option linter.all false
set_option maxRecDepth 100000
set_option genSizeOf false
/-! sorted(xs, key=f), over any heap -/
namespace KS
open PySem PySem.W PySem.Calls PyProof.Rows
section
variable {prog : Program} {w : World} {A : Around} {E : Value → Shared → Prop} {s : Shared} {a kS : Addr} {vs ks : List Value} {κ : SortKind}
end
end KS
set_option Elab.async false
set_option linter.all false
set_option maxRecDepth 100000
set_option genSizeOf false
namespace L2
open PySem PySem.Spec PyProof.Rows KS PySem.W
section
variable {X : Cx} {k : Nat} {f : Addr} {fd : FuncData} {ps : List Str} {sp : Sp} {pins : List (Addr × Obj)} {σ : St} {H : Hp} {s : Shared}
end
end L2
set_option Elab.async false
set_option linter.all false
set_option maxRecDepth 100000
set_option genSizeOf false
/-! == of plain data: as it stands -/
namespace DL
open PySem
mutual
def pl : D → Bool
  | .non => true
  | .int _ => true
  | .str x => (PyData.str x).canLay0
  | .tup xs => plL xs
  | .lst xs => plL xs
  | _ => false
def plL : List D → Bool
  | [] => true
  | d :: ds => pl d && plL ds
end
mutual
def dep : D → Nat
  | .tup xs => depL xs + 1
  | .lst xs => depL xs + 1
  | _ => 0
def depL : List D → Nat
  | [] => 0
  | d :: ds => max (dep d) (depL ds)
end
mutual
theorem lay_pl : ∀ d : D, pl d = true → (toP d).canLay0 = true
  | .non, _ => by rw [toP]; rfl
  | .int _, _ => by rw [toP]; rfl
  | .str x, h => by rw [pl] at h; rw [toP]; exact h
  | .tup xs, h => by rw [pl] at h; rw [toP, PyData.canLay0]; exact lay_plL xs h
  | .lst xs, h => by rw [pl] at h; rw [toP, PyData.canLay0]; exact lay_plL xs h
  | .bl _, h => by simp [pl] at h
  | .scr _, h => by simp [pl] at h
  | .obj _, h => by simp [pl] at h
theorem lay_plL : ∀ ds : List D, plL ds = true → PyData.canLayAll0 (toPs ds) = true
  | [], _ => by rw [toPs]; rfl
  | d :: ds, h => by
    rw [plL, Bool.and_eq_true] at h
    rw [toPs, PyData.canLayAll0, Bool.and_eq_true]
    exact ⟨lay_pl d h.1, lay_plL ds h.2⟩
end
mutual
theorem dep_pl : ∀ d : D, pl d = true → (toP d).depth = dep d
  | .non, _ => by rw [toP, dep]; rfl; all_goals (intro _ z; cases z)
  | .int _, _ => by rw [toP, dep]; rfl; all_goals (intro _ z; cases z)
  | .str x, h => by rw [toP, dep]; rfl; all_goals (intro _ z; cases z)
  | .tup xs, h => by rw [pl] at h; rw [toP, dep, PyData.depth, dep_plL xs h]
  | .lst xs, h => by rw [pl] at h; rw [toP, dep, PyData.depth, dep_plL xs h]
  | .bl _, h => by simp [pl] at h
  | .scr _, h => by simp [pl] at h
  | .obj _, h => by simp [pl] at h
theorem dep_plL : ∀ ds : List D, plL ds = true → PyData.depthAll (toPs ds) = depL ds
  | [], _ => by rw [toPs, depL]; rfl
  | d :: ds, h => by
    rw [plL, Bool.and_eq_true] at h
    rw [toPs, depL, PyData.depthAll, dep_pl d h.1, dep_plL ds h.2]
end
theorem shaped_pl {d : D} (h : pl d = true) (hd : dep d ≤ 64) : SeqAt.shaped (toP d) = true := by
  unfold SeqAt.shaped
  rw [lay_pl d h, dep_pl d h]
  simp [hd]
mutual
theorem eqv_pl : ∀ (p q : D), pl p = true → pl q = true → (PyData.eqv (toP p) (toP q) = true ↔ p = q)
  | .non, q, _, hq => by cases q <;> simp [toP, PyData.eqv, pl] at hq ⊢
  | .int i, q, _, hq => by cases q <;> simp [toP, PyData.eqv, pl] at hq ⊢
  | .str x, q, _, hq => by cases q <;> simp [toP, PyData.eqv, pl] at hq ⊢
  | .tup xs, q, hp, hq => by
    cases q with
    | tup ys =>
      rw [pl] at hp hq
      rw [toP, toP, PyData.eqv, eqv_plL xs ys hp hq]
      exact ⟨fun h => by rw [h], fun h => by injection h⟩
    | _ => simp [toP, PyData.eqv, pl] at hq ⊢
  | .lst xs, q, hp, hq => by
    cases q with
    | lst ys =>
      rw [pl] at hp hq
      rw [toP, toP, PyData.eqv, eqv_plL xs ys hp hq]
      exact ⟨fun h => by rw [h], fun h => by injection h⟩
    | _ => simp [toP, PyData.eqv, pl] at hq ⊢
  | .bl _, _, h, _ => by simp [pl] at h
  | .scr _, _, h, _ => by simp [pl] at h
  | .obj _, _, h, _ => by simp [pl] at h
theorem eqv_plL : ∀ (ps qs : List D), plL ps = true → plL qs = true → (PyData.eqvAll (toPs ps) (toPs qs) = true ↔ ps = qs)
  | [], [], _, _ => by simp [toPs, PyData.eqvAll]
  | [], _ :: _, _, _ => by simp [toPs, PyData.eqvAll]
  | _ :: _, [], _, _ => by simp [toPs, PyData.eqvAll]
  | p :: ps, q :: qs, hp, hq => by
    rw [plL, Bool.and_eq_true] at hp hq
    rw [toPs, toPs, PyData.eqvAll, Bool.and_eq_true, eqv_pl p q hp.1 hq.1, eqv_plL ps qs hp.2 hq.2]
    exact ⟨fun h => by rw [h.1, h.2], fun h => by injection h with a b; exact ⟨a, b⟩⟩
end
theorem eq_self_pl (neg : Bool) {p : D} (h : pl p = true) (hd : dep p ≤ 64) : eqD neg p p = some (.bl (!neg)) := by
  unfold eqD
  rw [shaped_pl h hd, (eqv_pl p p h h).mpr rfl]
  cases neg <;> rfl
theorem eq_ne_pl (neg : Bool) {p q : D} (hp : pl p = true) (hq : pl q = true) (dp : dep p ≤ 64) (dq : dep q ≤ 64) (n : p ≠ q) : eqD neg p q = some (.bl neg) := by
  unfold eqD
  have e : PyData.eqv (toP p) (toP q) = false := by
    cases z : PyData.eqv (toP p) (toP q) with
    | false => rfl
    | true => exact absurd ((eqv_pl p q hp hq).mp z) n
  rw [shaped_pl hp dp, shaped_pl hq dq, e]
  cases neg <;> rfl
end DL
set_option Elab.async false
set_option linter.all false
set_option maxRecDepth 100000
set_option genSizeOf false
/-! sorted(xs), over any heap -/
namespace KS
open PySem PySem.W PySem.Calls PyProof.Rows
section
variable {prog : Program} {w : World} {A : Around} {E : Value → Shared → Prop} {s : Shared} {a : Addr} {vs : List Value}
end
end KS
set_option Elab.async false
set_option linter.all false
set_option maxRecDepth 100000
set_option genSizeOf false
namespace L2
open PySem PySem.Spec PyProof.Rows KS PySem.W
section
variable {X : Cx} {pins : List (Addr × Obj)} {σ : St} {H : Hp} {s : Shared}
end
end L2
set_option Elab.async false
set_option linter.all false
set_option maxRecDepth 100000
set_option genSizeOf false
namespace DL
open PySem PySem.Spec PyProof.Rows L2
section
variable {X : Cx} {C : Cl} {n : Str} {p pos kpos npos : Pos} {a : Expr} {g : Den} {k : Nat}
end
end DL
set_option Elab.async false
set_option linter.all false
set_option maxRecDepth 100000
set_option genSizeOf false
namespace HT
open PySem PySem.Spec PyProof.Rows PySem.SeqAt
open PySem.AutoSeq1 (wpAny_loadPart')
open PySem.MeetsSeq PySem.MeetsSeq2 PySem.MeetsSeq3
end HT
set_option Elab.async false
set_option linter.all false
set_option maxRecDepth 100000
set_option genSizeOf false
namespace L2
open PySem PySem.Spec PyProof.Rows
section
variable {X : Cx}
open Classical in
open Classical in
end
end L2
namespace DL
open PySem PySem.Spec PyProof.Rows L2
section
variable {X : Cx} {C : Cl} {x a b : Expr} {f g : Den} {gl : ADen} {n : Str} {p pos : Pos}
end
end DL
set_option Elab.async false
set_option linter.all false
set_option maxRecDepth 100000
set_option genSizeOf false
namespace DL
open PySem PySem.Spec PyProof.Rows L2
section
variable {X : Cx} {C : Cl} {k : Nat} {n : Str} {p pos kpos npos : Pos} {x a : Expr} {es : List Expr} {ga : ADen} {g : Den}
end
end DL
set_option Elab.async false
set_option linter.all false
set_option maxRecDepth 100000
set_option genSizeOf false
/-! texts -/
namespace L2
open PySem PySem.Spec PyProof.Rows
section
variable {X : Cx} {tg : Expr}
end
end L2
set_option Elab.async false
set_option linter.all false
set_option maxRecDepth 100000
set_option genSizeOf false
namespace L2
open PySem PySem.Spec PyProof.Rows
section
variable {X : Cx}
end
end L2
set_option Elab.async false
set_option linter.all false
set_option maxRecDepth 100000
set_option genSizeOf false
namespace DL
open PySem PySem.Spec PyProof.Rows L2
section
variable {X : Cx} {C : Cl} {x a b tg : Expr} {f g : Den} {n : Str} {p pos ap cp : Pos}
end
end DL
set_option Elab.async false
set_option linter.all false
set_option maxRecDepth 100000
set_option genSizeOf false
/-! an exception of a class of the text is raised -/
namespace L2
open PySem PySem.Spec PyProof.Rows
section
variable {X : Cx} {x : Str} {C : Addr} {bmB : List Value} {B newId initId : String} {np cpos pos : Pos} {e : Expr} {te : TE}
/-- what is wanted where an exception of the class at C is thrown at H -/
def Thrown (X : Cx) (C : Addr) (σ : St) (H : Hp) : Prop := ∀ (pins : List (Addr × Obj)) (s : Shared) (h' : Heap) (ea : Addr) (args : List Value), Inv X pins σ H s → Heap.MadeExcOf s.heap h' ea (.ref C) args → X.xe (.ref ea) { s with heap := h' }
theorem ps_raise (O : OwnCls x C bmB newId X.mg X.base) (FB : ExcBaseFacts B newId initId bmB) (hh : X.A.handled = none) (hg : Gl X x) (ha : PE X e te) (te_mono : ∀ {σ : St} {H : Hp}, te σ H (fun _ H1 => Thrown X C σ H1) → te σ H (fun v H1 => [v].length = 1 ∧ Thrown X C σ H1)) (he : starEach [e] X.env = (false, eval e X.env) :: starEach [] X.env := by rfl) (hpl : (backTo cpos (starEach [e] X.env)).any (·.1) = false := by rfl)
    (hd : (x == ("__debug__" : Str)) = false := by decide) : PS X (.Raise (some (.Call (.Name x np) [e] [] cpos)) none pos) (fun _ σ H => te σ H fun _ H1 => Thrown X C σ H1) := by
  intro pins s σ H D I h
  obtain ⟨tl, N, nm, q, bs, hdct, sn, sub, ab, col, dd, k0, k1, k2, k3, k5, mN, hC, hN, hni, T⟩ := O.obj
  refine wpAny_Raise_call_subT (C := C) (nm := nm) (q := q) (N := N) (bs := bs) (bm := tl) (hdct := hdct) (sn := sn) (sub := sub) (ab := ab) (col := col) (dd := dd) (k0 := k0) (k1 := k1) (k2 := k2) (k3 := k3) (k5 := k5) FB (mN := mN) (T.hasType FB.hasBase) hh hpl hni (ld_glob I hg O.bound ⟨rfl, ?_⟩ hd)
  have sp := (pa_cons ha pa_nil he) cpos pins s σ H (fun vs H1 => vs.length = 1 ∧ Thrown X C σ H1) I (show te σ H (fun v H1 => [v].length = 1 ∧ Thrown X C σ H1) from (te_mono h))
  rw [he] at sp ⊢
  refine Calls.evalArgs_plain (thn sp fun us s2 ⟨vs, H1, I1, r1, l1, q1⟩ => ?_)
  have k := I1.bk
  exact ⟨rfl, by show us.length ≤ sizeLine; rw [← r1.length, l1]; decide, k _ _ hC, hN.keeps k, T.keeps k, fun h' ea hm => q1 pins s2 h' ea us I1 hm⟩
end
theorem ok_there {P : Program} {w : World} {H : Hp} {h : Heap} {a : Addr} {o : HO} (x : ObjOk P w H h a o) : ∃ ob, h.get? a = some ob := by
  cases o with
  | lst xs => obtain ⟨_, _, _, _, e⟩ := x; exact ⟨_, e⟩
  | tup xs => obtain ⟨_, _, _, ob, e, _⟩ := x; exact ⟨ob, e⟩
  | dK kvs => obtain ⟨_, _, _, _, o, _, _, e, _⟩ := x; exact ⟨_, e⟩
  | dT kvs => obtain ⟨_, _, _, _, o, _, _, e, _⟩ := x; exact ⟨_, e⟩
  | set S n => obtain ⟨o, _, _, _, e, _⟩ := x; exact ⟨_, e⟩
  | ins C dx fs => obtain ⟨_, _, _, e, _⟩ := x; exact ⟨_, e⟩
  | own y => exact x
  | xd fs => obtain ⟨_, ⟨_, _, _, e, _⟩, _⟩ := x; exact ⟨_, e⟩
  | rng lo hi => obtain ⟨_, _, _, e⟩ := x; exact ⟨_, e⟩
  | frz ob u => exact ⟨_, x.1⟩
  | tbl ps => exact ⟨_, x⟩
  | met f y => exact ⟨_, x⟩
  | ext φ => exact x.2.1
/-- how an exception of a class of the text lies behind a call: its object flies over the callers' frames, what is tracked lies as H' tells -/
def CXr (P : Program) (w : World) : CXT := fun outer H s E e s' => ∃ (ea C t : Addr) (H' : Hp) (B : Heap), e = .ref ea ∧ E (.ref C) none H' ∧ s'.os = s.os ∧ AllBare s'.gens ∧ Un (frs outer) [] H H' s.heap s'.heap ∧ HOk P w H' s'.heap ∧
  Heap.FlyingW B outer ea (.ref C) (.ref t) s'.heap ∧ (∀ b o, H' b = some o → ∃ ob, B.get? b = some ob) ∧ H' ea = none ∧ ∀ b o, s.heap.get? b = some o → H b = none → b ∉ frs outer → B.get? b = some o
theorem thrown_leaves {P : Program} {w : World} {K : PySem.W.Frag} {mg : Str → Option Value} {base : Heap} {N : List Str} {qual : Str} {scope : Scope} {f C : Addr} {cd : Value} {A : Around} {outer : List Env} {s₀ : Shared} {H₀ H : Hp} {E : XK} {σ : St}
    (hE : E (.ref C) none H) : Thrown (cxOf (CXr P w) P w K mg base N qual scope f cd A outer s₀ H₀ E) C σ H := by
  intro pins s h' ea args I hm
  have hst : (cxOf (CXr P w) P w K mg base N qual scope f cd A outer s₀ H₀ E).stack = envOfC qual scope s₀.heap.objs.size f cd :: outer := rfl
  have hB : ∀ b o, s.heap.get? b = some o → b ∉ frs (envOfC qual scope s₀.heap.objs.size f cd :: outer) → (PySem.W.hideAll s.heap (frs (envOfC qual scope s₀.heap.objs.size f cd :: outer))).get? b = some o := fun b o e n => PySem.W.hideAll_get _ e n
  have sub : ∀ b ∈ frs (envOfC qual scope s₀.heap.objs.size f cd :: outer), b = s₀.heap.objs.size ∨ b ∈ frs outer := fun b hb => List.mem_cons.mp (I.stkSub b hb)
  have old : ∀ b o, s₀.heap.get? b = some o → b ∉ frs outer → b ∉ frs (envOfC qual scope s₀.heap.objs.size f cd :: outer) := fun b o e n hb => by
    rcases sub b hb with z | z
    · exact absurd (Heap.lt_size e) (by rw [z]; exact Nat.lt_irrefl _)
    · exact n z
  have trk : ∀ b o, H b = some o → b ∉ frs (envOfC qual scope s₀.heap.objs.size f cd :: outer) := fun b o e hb => by
    have := I.stkFree b hb
    rw [this] at e; cases e
  refine wpAny_leaves_madeW (base := PySem.W.hideAll s.heap (frs (envOfC qual scope s₀.heap.objs.size f cd :: outer))) (env := envOfC qual scope s₀.heap.objs.size f cd) (outer := outer) (L := s₀.heap.objs.size) (h := s.heap) I.ok.frames rfl (fun b o q => PySem.W.of_hideAll _ q)
    (PySem.W.funFrames_hide I.stack fun env he b hb => List.mem_filterMap.mpr ⟨env, he, hb⟩) hm fun h'' t x1 x2 x3 x4 => ?_
  have k1 := x1.1
  have un : Un (frs outer) [] H₀ H s₀.heap h'' := by
    refine ⟨fun b o e n nf _ => k1 b o (hB b o (I.base.keep b o e n nf (by intro z; cases z)) (old b o e nf)), fun b o e n hf _ => ?_, fun b o e n _ => I.base.free b o e n (by intro z; cases z), fun b o e _ => ?_, I.base.tups, I.base.frzs, I.base.tbls⟩
    · obtain ⟨sl, q⟩ := I.base.slot b o e n hf (by intro z; cases z)
      obtain ⟨_, o', ho', hd⟩ := I.ok.funs.mem hf
      have ho'' : s₀.heap.get? b = some o' := ho'
      rw [e] at ho''
      cases ho''
      obtain ⟨sl', q'⟩ := x4 b { o with slots := sl } (hm.keeps b _ q) hd
      exact ⟨sl', q'⟩
    · by_cases hf : b ∈ frs outer
      · obtain ⟨_, o', ho', hd⟩ := I.ok.funs.mem hf
        have ho'' : s₀.heap.get? b = some o' := ho'
        rw [e] at ho''
        cases ho''
        obtain ⟨sl, q⟩ := I.base.slot b o e (I.ok.frf b hf) hf (by intro z; cases z)
        obtain ⟨sl', q'⟩ := x4 b { o with slots := sl } (hm.keeps b _ q) hd
        exact ⟨_, q'⟩
      · obtain ⟨o', q⟩ := I.base.there b o e (by intro z; cases z)
        exact ⟨o', k1 b o' (hB b o' q (old b o e hf))⟩
  have hok : HOk P w H h'' := fun b o e => (I.hok b o e).stay (fun c u hc q => by
    refine k1 c u (hB c u q ?_)
    rcases hc with z | z
    · rw [z]; exact trk b o e
    · exact trk c _ z) (fun _ q => q) (fun _ _ q => q)
  refine ⟨ea, C, t, H, PySem.W.hideAll s.heap (frs (envOfC qual scope s₀.heap.objs.size f cd :: outer)), rfl, hE, I.os, I.bare, un, hok, x1, fun b o e => ?_, ?_, fun b o e n nf => ?_⟩
  · obtain ⟨ob, q⟩ := ok_there (I.hok b o e)
    exact ⟨ob, hB b ob q (trk b o e)⟩
  · cases q : H ea with
    | none => rfl
    | some o =>
      obtain ⟨ob, z⟩ := ok_there (I.hok ea o q)
      rw [hm.new] at z; cases z
  · exact hB b o (I.base.keep b o e n nf (by intro z; cases z)) (old b o e nf)
end L2
set_option Elab.async false
set_option linter.all false
set_option maxRecDepth 100000
set_option genSizeOf false
/-! an exception of a class of the text is caught -/
namespace L2
open PySem PySem.Spec PyProof.Rows
/-- what has come of a call that raised: whatever is noted of the exception, the state is as H' tells -/
structure Flown (X : Cx) (pins : List (Addr × Obj)) (σ : St) (ea C t : Addr) (H : Hp) (B : Heap) (s : Shared) : Prop where
  fl : Heap.FlyingW B X.stack ea (.ref C) (.ref t) s.heap
  nea : H ea = none
  inv : ∀ h', B.StaysIn h' → s.heap.UpToSlots h' → Inv X pins σ H { s with heap := h' }
  new : ∀ b o, X.s₀.heap.get? b = some o → X.H₀ b = none → b ∉ X.ex → b ≠ ea
  pne : ∀ p ∈ X.pn ++ pins, p.1 ≠ ea
theorem flown {X : Cx} {pins : List (Addr × Obj)} {σ : St} {H : Hp} {s s' : Shared} {E : XK} {e : Value} (I : Inv X pins σ H s) (h : CXr X.prog X.w X.stack H s E e s') (hdm : ∀ C H', E C none H' → ∀ b o, H b = some o → ∃ o', H' b = some o') :
    ∃ ea C t H' B, e = .ref ea ∧ E (.ref C) none H' ∧ Flown X pins σ ea C t H' B s' := by
  obtain ⟨ea, C, t, H', B, e1, hE, os, bare, un, hok, fl, trk, nea, old⟩ := h
  have gen : ∀ b o, s.heap.get? b = some o → H b = none → b ≠ ea := fun b o e n z => by
    subst z
    by_cases hf : b ∈ frs X.stack
    · obtain ⟨_, o', ho', hd⟩ := I.stack.mem hf
      rw [e] at ho'
      cases ho'
      obtain ⟨sl, q⟩ := un.slot b o e n hf (by intro z; cases z)
      obtain ⟨oe, ws, hoe, _, hoed, _⟩ := fl.first
      rw [q] at hoe
      cases hoe
      exact hd _ hoed
    · have z := old b o e n hf
      rw [fl.2.1] at z
      cases z
  refine ⟨ea, C, t, H', B, e1, hE, fl, nea, fun h'' kB up => ?_, fun b o e n nx => ?_, fun p hp => gen _ _ (I.pin p hp).1 (I.pin p hp).2.1⟩
  rotate_left
  · obtain ⟨o', q⟩ := I.base.there b o e nx
    exact gen b o' q (I.base.free b o e n nx)
  have dm := hdm _ _ hE
  have slot : ∀ b o, s.heap.get? b = some o → H b = none → b ∈ frs X.stack → ∃ sl, h''.get? b = some { o with slots := sl } := fun b o e n hf => by
    obtain ⟨sl, q⟩ := un.slot b o e n hf (by intro z; cases z)
    obtain ⟨_, o', ho', hd⟩ := I.stack.mem hf
    rw [e] at ho'
    cases ho'
    obtain ⟨sl', q'⟩ := up b { o with slots := sl } q hd
    exact ⟨sl', q'⟩
  have un' : Un (frs X.stack) [] H H' s.heap h'' := by
    refine ⟨fun b o e n nf _ => kB b o (old b o e n nf), fun b o e n hf _ => slot b o e n hf, un.free, fun b o e _ => ?_, un.tups, un.frzs, un.tbls⟩
    cases q : H b with
    | none =>
      by_cases hf : b ∈ frs X.stack
      · obtain ⟨sl, z⟩ := slot b o e q hf
        exact ⟨_, z⟩
      · exact ⟨o, kB b o (old b o e q hf)⟩
    | some u =>
      obtain ⟨u', q'⟩ := dm b u q
      obtain ⟨ob, z⟩ := trk b u' q'
      exact ⟨ob, kB b ob z⟩
  have hok' : HOk X.prog X.w H' h'' := fun b o e => (hok b o e).stay (fun c u hc q => by
    obtain ⟨ob, z⟩ : ∃ ob, B.get? c = some ob := by
      rcases hc with y | y
      · rw [y]; exact trk b o e
      · exact trk c _ y
    have z' := fl.1 c ob z
    rw [q] at z'
    cases z'
    exact kB c _ z) (fun _ q => q) (fun _ _ q => q)
  exact I.call' (s' := { s' with heap := h'' }) os un' hok' bare (fun b z => absurd z (by simp))
/-- within an except suite -/
abbrev Cx.mark (X : Cx) (v : Value) : Cx := { X with A := X.A.mark (some v), calm := false }
theorem Inv.mark {X : Cx} {pins : List (Addr × Obj)} {σ : St} {H : Hp} {s : Shared} (I : Inv X pins σ H s) (v : Value) : Inv (X.mark v) pins σ H s :=
  ⟨⟨I.ok.mod, I.ok.kind, I.ok.glob, I.ok.blt, I.ok.above, I.ok.inj, I.ok.has, I.ok.cab, (fun z => absurd z Bool.false_ne_true), I.ok.frames, I.ok.stk, I.ok.exf, I.ok.bs, I.ok.bsz, I.ok.noex, I.ok.exfs, I.ok.funs, I.ok.frf⟩, I.os, I.bare, I.base, I.loc, I.cell, I.free, I.freeC, I.pin, I.hok, I.len⟩
/-- an object that is there is taken into what is told -/
theorem Inv.track {X : Cx} {pins : List (Addr × Obj)} {σ : St} {H : Hp} {s : Shared} {ea : Addr} {oe : Obj} (I : Inv X pins σ H s) (ho : s.heap.get? ea = some oe) (nea : H ea = none) (neL : ea ≠ X.env.locals) (neC : ∀ y c, X.env.cells.lookup y = some c → c ≠ ea)
    (new : ∀ b o, X.s₀.heap.get? b = some o → X.H₀ b = none → b ∉ X.ex → b ≠ ea) (pne : ∀ p ∈ X.pn ++ pins, p.1 ≠ ea) : Inv X pins σ (upd H ea (.frz oe (.own 0))) s := by
  have up : ∀ b u, H b = some u → upd H ea (.frz oe (.own 0)) b = some u := fun b u e => by rw [upd_ne (ne_of_none e nea)]; exact e
  refine ⟨I.ok, I.os, I.bare, ⟨I.base.keep, I.base.slot, fun b o e n nx => ?_, I.base.there, fun b xs e => up _ _ (I.base.tups b xs e), fun b o u e => up _ _ (I.base.frzs b o u e), fun b ps e => ?_⟩, I.loc, I.cell, ?_, fun y c hc => ?_, fun p hp => ?_, fun b o e => ?_, I.len⟩
  · rw [upd_ne (new b o e n nx)]; exact I.base.free b o e n nx
  · obtain ⟨m, z⟩ := I.base.tbls b ps e
    exact ⟨m, up _ _ z⟩
  · rw [upd_ne (Ne.symm neL)]; exact I.free
  · rw [upd_ne (neC y c hc)]; exact I.freeC y c hc
  · have z := I.pin p hp
    refine ⟨z.1, ?_, z.2.2⟩
    rw [upd_ne (pne p hp)]; exact z.2.1
  · by_cases hb : b = ea
    · subst hb
      rw [upd_same] at e
      cases e
      exact ⟨ho, oe, ho⟩
    · rw [upd_ne hb] at e
      exact (I.hok b o e).stay (fun c u _ q => q) (fun c q => up _ _ q) (fun c xs q => up _ _ q)
section
variable {X : Cx} {pins : List (Addr × Obj)} {σ : St} {ea C t : Addr} {H : Hp} {B : Heap} {s : Shared} {x n : Str} {np hpos : Pos} {cv : Value} {i : Nat} {b₀ : Stmt} {suite : List Stmt} {rest : List ExceptHandler} {Q : Flow → Shared → Prop} {E : Value → Shared → Prop} {b : Bool}
theorem ty_looks {M : Model} {h : Heap} {ob : Obj} {cls : Value} (ho : h.get? ea = some ob) (hc : ob.cls = cls) : PySem.W.Looks M h (typeOf (.ref ea)) cls := by
  rw [← hc]; exact (show PySem.W.Looks M h (typeOf (.ref ea)) ob.cls from (PySem.W.Looks.ld ho).andThen .now)
/-- except x as n, the class fits -/
theorem caught_as (F : Flown X pins σ ea C t H B s) (hs : X.stack = X.env :: X.outer) (hfr : X.env.frame = some X.env.locals) (hg : Gl X x) (hm : X.mg x = some cv) (hx : PySem.W.exmOne X.K (.ref C) cv = some true) (hN : X.N.Nodup) (hi : X.N[i]? = some n) (hl : X.env.scope.names.lookup n = some .local) (hd : (x == ("__debug__" : Str)) = false)
    (k : ∀ s7 oe, Inv (X.mark (.ref ea)) pins (σ.set i (some (.ref ea))) (upd H ea (.frz oe (.own 0))) s7 → oe.cls = .ref C →
      wpAny (model X.prog X.w) (X.A.mark (some (.ref ea))) (execs (b₀ :: suite) X.env) (fun f s3 => wpAny (model X.prog X.w) X.A (do bindName X.env n .none; unbindBehindTheSuite X.env n hpos) (fun _ s5 => Q f s5) E s3) (fun _ _ => False) s7) :
    wpAny (model X.prog X.w) X.A (noteFrame (.ref ea) X.env) (fun _ s2 => wpAny (model X.prog X.w) X.A (setFlight (.ref ea) none) (fun _ s3 => wpAny (model X.prog X.w) X.A (handleBy (.ref ea) X.env (.ExceptHandler (some (.Name x np)) (some n) (b₀ :: suite) hpos :: rest)) Q E s3) E s2) E s := by
  have I0 := F.inv s.heap F.fl.1 (Heap.UpToSlots.refl _)
  have fl := F.fl
  rw [hs] at fl
  have fr : X.A.frames = some (X.env :: X.outer) := by rw [← hs]; exact I0.ok.frames
  refine wpAny_looks_onW fr hfr fl fun h4 held4 up4 => ?_
  refine wpAny_landsW held4 fun h5 fl5 up5 => ?_
  have up45 := up4.trans up5
  have I5 := (F.inv h5 fl5.1 up45).mark (.ref ea)
  obtain ⟨ob, hob, hobc⟩ := fl5.there
  refine wpAny_handleBy_cons (codeAny_handlers_test (ld_glob I5 hg hm ?_ hd)) (by intro q; cases q)
  refine (PySem.W.exm_one I5.kIn (ty_looks hob hobc) hx).here ?_
  refine codeAny_handlers_suite_as (lands_againW fl5 fun h6 fl6 up6 => ?_)
  have I6 := (F.inv h6 fl6.1 (up45.trans up6)).mark (.ref ea)
  obtain ⟨oe, ws, hoe, hoec, hoed, _⟩ := fl6.first
  refine store_ok2 (X := X.mark (.ref ea)) (i := i) (v := .ref ea) I6 hN hi (.inl hl) rfl (fun s7 I7 ⟨a, sb, ha⟩ => ?_) (.inr hl)
  have neL : ea ≠ X.env.locals := fun z => by
    obtain ⟨m, ⟨o', es, ep, ho', hd', _⟩, _⟩ := I6.loc
    have ho'' : h6.get? X.env.locals = some o' := ho'
    rw [← z, hoe] at ho''
    cases ho''
    rw [hoed] at hd'
    cases hd'
  have neC : ∀ y c, X.env.cells.lookup y = some c → c ≠ ea := fun y c hc z => by
    obtain ⟨v, o', ho', hd'⟩ := I6.cell y c hc
    have ho'' : h6.get? c = some o' := ho'
    rw [z, hoe] at ho''
    cases ho''
    rw [hoed] at hd'
    cases hd'
  have nefs : ea ∉ X.fs := fun z => by
    obtain ⟨_, o', ho', hd'⟩ := I6.funs.mem z
    have ho'' : h6.get? ea = some o' := ho'
    rw [hoe] at ho''
    cases ho''
    exact hd' _ hoed
  have h7 : s7.heap.get? ea = some oe := by
    rw [sb.2 ea (by
      rcases ha with z | z
      · rw [z]; exact neL
      · exact fun q => neC n a z q.symm)]
    exact hoe
  exact wpAny_mono (k s7 oe (I7.track h7 F.nea neL neC F.new F.pne) hoec) (fun f s3 q => q) fun _ _ z => z.elim
end
end L2
set_option Elab.async false
set_option linter.all false
set_option maxRecDepth 100000
set_option genSizeOf false
/-! calls that may raise; try: .. return, except C as n: .. return -/
namespace L2
open PySem PySem.Spec PyProof.Rows
section
variable {X : Cx} {k : Nat} {f C : Addr} {fd : FuncData} {ps : List Str} {sp : Sp} {dvs : List V} {ds : List Value} {x m : Str} {p pos apos : Pos} {e o : Expr} {es : List Expr} {ta : TE} {t : TA}
/-- the exceptions of a callee that was called at H reach what is wanted of them here -/
def PassX (X : Cx) (σ : St) (H : Hp) (E : XK) : Prop := ∀ (pins : List (Addr × Obj)) (s : Shared) (e : Value) (s' : Shared), Inv X pins σ H s → CXr X.prog X.w X.stack H s E e s' → X.xe e s'
theorem run_fnX {pins : List (Addr × Obj)} {σ : St} {H : Hp} {s : Shared} {Q : VK} {E : XK} {us : List Value} {vs : List V} (F : FnOk X.prog X.w X.K X.mg X.base (CXr X.prog X.w) k f fd ps sp) (hr : Room k X.A) (hb : Binds X.K fd ps ds) (hd : Vals dvs ds)
    (I : Inv X pins σ H s) (r : Vals vs us) (h : sp (vs ++ dvs) H Q E) (hx : PassX X σ H E) : wpAny (model X.prog X.w) X.A (call (.ref f) us) (EP X pins σ Q) X.xe s := by
  have r2 : Vals (vs ++ dvs) (us ++ ds) := r.append hd
  have hl : (us ++ ds).length = ps.length := by rw [← r2.length]; exact F.len _ _ _ _ h
  refine wpAny_call (codeAny_mono (F.run X.A X.stack s H ⟨us, []⟩ (us ++ ds) (vs ++ dvs) Q E hr I.env0 (hb s us I.kIn hl) r2 h) fun r s' hq => ?_)
  cases r with
  | error e => exact hx pins s e s' I hq
  | ok fl => cases fl with
    | ret u => exact I.after hq
    | _ => exact False.elim hq
def tMethX (X : Cx) (C : Addr) (m : Str) (sp : Sp) (dvs : List V) (ta : TE) (t : TA) : TE := fun σ H Q => ta σ H fun x H1 => ∃ a dx fs, x = .ref a ∧ H1 a = some (.ins C dx fs) ∧ fs.lookup m = none ∧ t σ H1 fun vs H2 => ∃ E, sp (x :: (vs ++ dvs)) H2 Q E ∧ PassX X σ H2 E
theorem pe_methX {pl : Sem Bool} (he : PE X o ta) (c : Cls X.K C) (hm : Meth X.K C m f) (F : FnOk X.prog X.w X.K X.mg X.base (CXr X.prog X.w) k f fd ps sp) (hr : Room k X.A) (hb : Binds X.K fd ps ds) (hd : Vals dvs ds) (ha : PA X (e :: es) t)
    (hst : starEach (e :: es) X.env = (false, eval e X.env) :: starEach es X.env := by rfl) (hpl : (backTo pos (starEach es X.env)).any (·.1) = false := by rfl)
    (ht : eval (.Call (.Attribute o m apos) (e :: es) [] pos) X.env = (do
      let ov ← eval o X.env; standAt apos.atName
      let (f, first) ← holding [ov] (getMethod ov m pl); callWith pos f first (backTo pos (starEach (e :: es) X.env)) (backToKw pos (keywordEach [] X.env))) := by rfl) :
    PE X (.Call (.Attribute o m apos) (e :: es) [] pos) (tMethX X C m sp dvs ta t) := by
  intro pins s σ H Q I h
  refine PySem.W.methodCall_KW (pl := pl) (thn (he pins s σ H _ I h) fun u s1 ⟨x, H1, I1, rx, a, dx, fs, ex, ea, l, q⟩ => ?_) ht
  subst ex; obtain rfl : u = Value.ref a := rx
  refine getmeth_ok I1 ea c hm l ?_
  exact PySem.W.callWith_K (first := [.ref a]) (h₀ := X.base) I.ok.mod.kin hm.kp (thn (ha pos pins s1 σ H1 _ I1 q) fun us s2 ⟨vs, H2, I2, r, E, q2, hx⟩ => ⟨I2.kIn, run_fnX (us := .ref a :: us) (vs := .ref a :: vs) F hr hb hd I2 (.cons rfl r) q2 hx⟩) hst hpl
end
/-- with these pins kept for good, and this wish about exceptions -/
abbrev Cx.hold (X : Cx) (pn : List (Addr × Obj)) (E : Value → Shared → Prop) : Cx := { X with pn := pn, xe := E }
theorem Inv.hold {X : Cx} {pins : List (Addr × Obj)} {σ : St} {H : Hp} {s : Shared} (I : Inv X pins σ H s) (E : Value → Shared → Prop) : Inv (X.hold (X.pn ++ pins) E) [] σ H s :=
  ⟨⟨I.ok.mod, I.ok.kind, I.ok.glob, I.ok.blt, I.ok.above, I.ok.inj, I.ok.has, I.ok.cab, I.ok.hd, I.ok.frames, I.ok.stk, I.ok.exf, I.ok.bs, I.ok.bsz, I.ok.noex, I.ok.exfs, I.ok.funs, I.ok.frf⟩, I.os, I.bare, I.base, I.loc, I.cell, I.free, I.freeC, fun p hp => I.pin p (by simpa using hp), I.hok, I.len⟩
theorem Inv.unhold {X : Cx} {pins pins' : List (Addr × Obj)} {σ : St} {H : Hp} {s : Shared} {E : Value → Shared → Prop} (ok : X.Ok) (I : Inv (X.hold (X.pn ++ pins) E) pins' σ H s) : Inv X pins σ H s :=
  ⟨ok, I.os, I.bare, I.base, I.loc, I.cell, I.free, I.freeC, fun p hp => I.pin p (List.mem_append_left _ hp), I.hok, I.len⟩
/-- only a return is wanted -/
def Ends.only (r : VK) : Ends := { nx := fun _ _ => False, rt := r, bk := fun _ _ => False, ct := fun _ _ => False }
/-- what is wanted of an exception within a try: it flies, and the suite serves -/
def Served (X : Cx) (pins : List (Addr × Obj)) (Hw : St → Addr → Hp → Prop) : Value → Shared → Prop := fun e s' => ∃ σ ea C t H' B, e = .ref ea ∧ Flown X pins σ ea C t H' B s' ∧ Hw σ C H'
section
variable {X : Cx} {body : List Stmt} {x n : Str} {np hpos pos : Pos} {cv : Value} {i : Nat} {b₀ : Stmt} {suite : List Stmt} {tb : List (Addr × Obj) → (Value → Shared → Prop) → TS} {th : TS}
theorem ps_try (hb : ∀ pn E, PSs (X.hold pn E) body (tb pn E)) (hh : ∀ (v : Value) (pn : List (Addr × Obj)), PSs ((X.mark v).hold pn fun _ _ => False) (b₀ :: suite) th)
    (hs : X.stack = X.env :: X.outer) (hfr : X.env.frame = some X.env.locals) (hg : Gl X x) (hm : X.mg x = some cv) (hN : X.N.Nodup) (hi : X.N[i]? = some n) (hl : X.env.scope.names.lookup n = some .local) (hkn : X.env.kindOf n = some .local) (hd : (x == ("__debug__" : Str)) = false := by decide) :
    PS X (.Try body [.ExceptHandler (some (.Name x np)) (some n) (b₀ :: suite) hpos] [] [] pos) (fun D σ H => ∀ pins, tb (X.pn ++ pins) (Served X pins fun σ' C H' => PySem.W.exmOne X.K (.ref C) cv = some true ∧ ∀ ea oe, H' ea = none → oe.cls = .ref C → th (Ends.only D.rt) (σ'.set i (some (.ref ea))) (upd H' ea (.frz oe (.own 0)))) (Ends.only D.rt) σ H) := by
  intro pins s σ H D I h
  have ok := I.ok
  have sp := hb (X.pn ++ pins) (Served X pins fun σ' C H' => PySem.W.exmOne X.K (.ref C) cv = some true ∧ ∀ ea oe, H' ea = none → oe.cls = .ref C → th (Ends.only D.rt) (σ'.set i (some (.ref ea))) (upd H' ea (.frz oe (.own 0)))) [] s σ H (Ends.only D.rt) (I.hold _) (h pins)
  refine wpAny_Try_except (wpAny_mono sp (fun fl s1 q => ?_) fun e s1 q => ?_)
  · cases fl with
    | ret u => obtain ⟨v, σ', H', I', r, q⟩ := q; exact ⟨v, σ', H', I'.unhold ok, r, q⟩
    | next => obtain ⟨_, _, _, q⟩ := q; exact q.elim
    | brk => obtain ⟨_, _, _, q⟩ := q; exact q.elim
    | cont => obtain ⟨_, _, _, q⟩ := q; exact q.elim
  · obtain ⟨σ1, ea, C, t, H', B, rfl, F, hx, q⟩ := q
    have I1 := F.inv s1.heap F.fl.1 (Heap.UpToSlots.refl _)
    have hiσ : i < σ1.length := by rw [I1.len]; exact (List.getElem?_eq_some_iff.mp hi).1
    refine caught_as (i := i) F hs hfr hg hm hx hN hi hl hd fun s7 oe I7 hoe => ?_
    refine wpAny_mono (hh (.ref ea) (X.pn ++ pins) [] s7 _ _ _ (I7.hold _) (q ea oe F.nea hoe)) (fun fl s3 q3 => ?_) fun _ _ z => z
    cases fl with
    | ret u =>
      obtain ⟨v, σ3, H3, I3, r3, q3⟩ := q3
      obtain ⟨m, hn, _⟩ := I3.loc
      refine wpAny_nameGoes hkn hn (by rw [ok.kind]; rfl) fun h5 m5 hn5 sb => ?_
      have ne : ∀ b o, X.s₀.heap.get? b = some o → b ≠ X.env.locals := fun b o e z => by
        have := Heap.lt_size e
        have a := ok.above
        rw [z] at this
        exact Nat.lt_irrefl _ (Nat.lt_of_lt_of_le this a)
      have cne := I3.cne
      have kp : ∀ b o, b ≠ X.env.locals → s3.heap.get? b = some o → h5.get? b = some o := fun b o z e => (sb.2 b z).trans e
      refine ⟨v, List.replicate X.N.length none, H3, ⟨ok, I3.os, I3.bare, ⟨fun b o e n nf nx => kp b o (ne b o e) (I3.base.keep b o e n nf nx), fun b o e n hf nx => ?_, I3.base.free, fun b o e nx => ?_, I3.base.tups, I3.base.frzs, I3.base.tbls⟩, ⟨m5, hn5, fun j y w _ z => ?_⟩, fun y c hc => ?_, I3.free, I3.freeC, fun p hp => ?_, fun b o e => ?_, by simp⟩, r3, q3⟩
      · obtain ⟨sl, z⟩ := I3.base.slot b o e n hf nx
        exact ⟨sl, kp b _ (ne b o e) z⟩
      · obtain ⟨o', z⟩ := I3.base.there b o e nx
        exact ⟨o', kp b o' (ne b o e) z⟩
      · rw [List.getElem?_replicate] at z
        split at z <;> cases z
      · obtain ⟨w, o, ho, hd⟩ := I3.cell y c hc
        exact ⟨w, o, kp c o (cne y c hc) ho, hd⟩
      · have z := I3.pin p (List.mem_append_left _ hp)
        exact ⟨kp _ _ z.2.2.1 z.1, z.2⟩
      · refine (I3.hok b o e).stay (fun c u hc q => kp c u (fun z => ?_) q) (fun _ q => q) (fun _ _ q => q)
        have f := I3.free
        rcases hc with y | y
        · rw [← y, z] at e
          have f' : H3 X.env.locals = none := f
          rw [f'] at e; cases e
        · rw [z] at y
          have f' : H3 X.env.locals = none := f
          rw [f'] at y; cases y
    | next => obtain ⟨_, _, _, q⟩ := q3; exact q.elim
    | brk => obtain ⟨_, _, _, q⟩ := q3; exact q.elim
    | cont => obtain ⟨_, _, _, q⟩ := q3; exact q.elim
end
end L2
set_option Elab.async false
set_option linter.all false
set_option maxRecDepth 100000
set_option genSizeOf false
/-! isinstance of an exception of a class of the text -/
namespace PySem.W
open PySem PySem.Spec PySem.Calls PyProof.Rows PySem.Builtin.ObjectAttr PySem PySem.Calls PyProof.Rows Builtin Builtin.ObjectAttr Builtin.Getset_descriptor
/-- an object of the class D, whatever its dict -/
def ObAt (h : Heap) (x D : Addr) : Prop := ∃ ox, h.get? x = some ox ∧ ox.cls = .ref D
theorem ObAt.type {M : Model} {h : Heap} {x D : Addr} (I : ObAt h x D) : Looks M h (typeOf (.ref x)) (.ref D) := by
  obtain ⟨ox, h1, h2⟩ := I
  exact h2 ▸ (Looks.ld h1).andThen .now
section
variable {prog : Program} {w : World} {A : Around} {E : Value → Shared → Prop} {s : Shared} {K : Frag} {x D : Addr}
theorem bexc_check {M : Model} {Q : Unit → Shared → Prop} {tk : Tok} {y : Str} (X : K.In s.heap) (I : ObAt s.heap x D) (hsub : subIn K (.ref D) (.type "BaseException") = some true) (h : Q () s) :
    wpAny M A (checkBuiltinCall "BaseException.__getattribute__" ⟨[.ref x, .str y tk], []⟩) Q E s := by
  have hsplit : splitId "BaseException.__getattribute__" = some ("BaseException", "__getattribute__") := by decide +kernel
  have hk : builtinKind "BaseException.__getattribute__" = some .slot := by decide +kernel
  have LI : Looks M s.heap (isInstance (.ref x) (.type "BaseException")) true := I.type.andThen (looks_subIn X hsub)
  have ha := F.args_bexc_ga (.ref x) (.str y tk)
  simp only [checkBuiltinCall, hk, hsplit]
  refine wpAny_bind (LI.at ?_)
  simp only [Bool.not_true, Bool.false_eq_true, if_false]
  cases hsig : Manifest.signature? "BaseException.__getattribute__" with
  | none => exact wpAny_pure h
  | some sig =>
    simp only [argsOk, hsig] at ha
    have h2 : Bind.checkArgs "BaseException.__getattribute__" sig ⟨[.ref x, .str y tk], []⟩ = pure () := ha
    show wpAny M A (Bind.checkArgs _ sig _) Q E s
    rw [h2]; exact wpAny_pure h
/-- what isinstance wants to know of an exception class of the text -/
structure ExcLook (K : Frag) (D : Addr) : Prop where
  cl : (clsIn K D).isSome = true
  ga : findIn K (.ref D) "__getattribute__" = some (some (.builtin "BaseException.__getattribute__"))
  hk : findIn K (.ref D) "__getattr__" = some none
  sub : subIn K (.ref D) (.type "BaseException") = some true
  ha : findIn K (.ref D) "__class__" = some (some (.builtin "object.__class__"))
  hn : specialIn K (.builtin "object.__class__") "__get__" = some (some (.builtin "getset_descriptor.__get__"))
  tk : takesIn K (.builtin "object.__class__") = some true
  hm : mroIn K D (.type "object") = some true
theorem ExcLook.find {M : Model} {h : Heap} (T : ExcLook K D) (X : K.In h) : Looks M h (find (.ref x) (.ref D) "__class__") (.bind (.builtin "getset_descriptor.__get__") (.builtin "object.__class__")) := by
  have L1 := looks_findIn (M := M) X T.ha
  have L2 : Looks M h (getOf (some (.builtin "object.__class__"))) (some (.builtin "getset_descriptor.__get__")) := looks_specialIn X T.hn
  have L3 := looks_takesIn (M := M) X T.tk
  unfold Builtin.ObjectAttr.find
  refine L1.andThen (L2.andThen ?_)
  have L4 : Looks M h (dataDescriptor? (some (.builtin "object.__class__")) (some (.builtin "getset_descriptor.__get__"))) (some (.builtin "getset_descriptor.__get__", .builtin "object.__class__")) := L3.andThen .now
  exact L4.andThen (Looks.tag .now)
theorem class_getX {R : Result → Shared → Prop} {tp : Value} (X : K.In s.heap) (I : ObAt s.heap x D) (hm : mroIn K D (.type "object") = some true)
    (h : R (.ok (.ret (.ref D))) s) : codeAny (model prog w) A (.call (.builtin "getset_descriptor.__get__") ⟨[.builtin "object.__class__", .ref x, tp], []⟩) R s := by
  obtain ⟨hh, g, dr, t, os⟩ := s
  have L0 := I.type (M := model prog w)
  have L1 := looks_mroIn (M := model prog w) X hm
  refine codeAny_call_builtin KF.slot_gs.plain KF.entry_gs (KF.slot_gs.check _ _ _ _ _ _ _ _ KF.type_class (KF.args_gs _ _ _) ?_)
  unfold Builtin.«getset_descriptor.__get__» descrGet
  rw [dga_obj]
  refine wpAny_bind (wpAny_pure ?_)
  unfold descrGetter descrCheckInstance descrNameAndClass isInstance
  simp only [KF.owner_class]
  repeat lk
  refine ⟨Code.quiet_builtin _ (by decide +kernel), codeAny_builtin KF.entry_class ?_⟩
  unfold Builtin.«object.__class__» shownTypeOf
  repeat lk
  exact h
theorem exc_entry {tk : Tok} {Q : Fin → Shared → Prop} (T : ExcLook K D) (X : K.In s.heap) (I : ObAt s.heap x D) (h : Q (.done (.ret (.ref D))) s) :
    wpAny (model prog w) A (Builtin.«object.__getattribute__» ⟨[.ref x, .str "__class__" tk], []⟩) Q E s := by
  obtain ⟨hh, gg, d, t, os⟩ := s
  have L0 := I.type (M := model prog w)
  have L1 := T.find (M := model prog w) (x := x) X
  unfold Builtin.«object.__getattribute__»
  repeat (first | with_reducible refine wpAny_bind (L0.at ?_) | with_reducible refine wpAny_bind (L1.at ?_) | wp_step)
  exact class_getX X I T.hm (wpAny_pure h)
theorem exc_class {Q : Option Value → Shared → Prop} (T : ExcLook K D) (X : K.In s.heap) (I : ObAt s.heap x D) (h : Q (some (.ref D)) { s with toks := s.toks + 1 }) : wpAny (model prog w) A (getAttr? (.ref x) "__class__") Q E s := by
  obtain ⟨hh, g, d, t, os⟩ := s
  have L0 := I.type (M := model prog w)
  have L1 := looks_findIn (M := model prog w) X T.ga
  have L2 := looks_findIn (M := model prog w) X T.hk
  unfold getAttr? getAttrBy? getAttrBy
  refine wpAny_bind (wpAny_mkText (wpAny_bind (wpAny_attempt (wpAny_holding (wpAny_bind (L0.at (wpAny_bind (L1.at ?_))))))))
  show wpAny _ _ (getAttrByItsOwn _ _ _ _ _ _) _ _ _
  unfold getAttrByItsOwn hookBefore
  refine wpAny_bind (L2.at ?_)
  refine wpAny_bind (wpAny_attempt (wpAny_holding ?_))
  show wpAny _ _ (boundAndCalled _ _ _) _ _ _
  unfold boundAndCalled
  rw [F.excAttr_ValueError.ga.bind]
  refine wpAny_bind (wpAny_pure ?_)
  refine wpAny_call (codeAny_call_builtin F.excAttr_ValueError.ga.plain F.entry_bexc_ga (bexc_check (s := ⟨hh, g, d, t + 1, os⟩) X I T.sub (exc_entry (s := ⟨hh, g, d, t + 1, os⟩) T X I ?_)))
  dsimp only
  refine handed_on rfl ?_
  exact wpAny_pure h
theorem kitx_exc (T : ExcLook K D) : KitX K (.ref x) (.ref D) (fun h => ObAt h x D) where
  ty := fun _ _ _ I => I.type
  it := fun _ _ X _ => by
    obtain ⟨cdD, hcD⟩ := Option.isSome_iff_exists.mp T.cl
    unfold clsIn at hcD
    split at hcD
    · rename_i c' d' cd' sl' ho
      intro A' Q' E' s' k q
      unfold isType loadHead
      exact wpAny_bind (wpAny_loadPart (k _ _ (X _ _ ho)) (wpAny_pure q))
    · cases hcD
  ne := fun h tp dd its n sl X htp => by
    obtain ⟨cdD, hcD⟩ := Option.isSome_iff_exists.mp T.cl
    refine Bool.eq_false_iff.mpr fun q => ?_
    have e : D = tp := Value.ref.inj (beq_iff_eq.mp q)
    subst e
    unfold clsIn at hcD
    split at hcD
    · rename_i c' d' cd' sl' ho
      have z := (X _ _ ho).symm.trans htp
      cases z
    · cases hcD
  ca := fun X I k => exc_class T X I k
end
end PySem.W
set_option Elab.async false
set_option linter.all false
set_option maxRecDepth 100000
set_option genSizeOf false
namespace DL
open PySem PySem.Spec PyProof.Rows L2
/-! ### isinstance(x, C), isinstance(x, (C, ..)), x an exception of the text -/
/-- t: of which classes it is so -/
def gIsX (t : Str → Option Bool) (g : Den) : Den := fun ρ Ω => match g ρ Ω with
  | some (.obj n, Ω1) => match Ω1[n]? with
    | some (.exc c) => match t c with
      | some b => some (.bl b, Ω1)
      | none => none
    | _ => none
  | _ => none
section
variable {X : Cx} {C : Cl} {x y : Expr} {g : Den} {pos p : Pos} {n : Str} {t : Str → Option Bool}
theorem isx_read {K : PySem.W.Frag} {σ : St} {H : Hp} {Q : VK} {R : VK} (hw : tD K C (gIsX t g) σ H Q)
    (k : ∀ a Ca ob u e' Ω' (c : Str) b, Wf K C e' Ω' → e'.H a = some (.frz ob u) → ob.cls = .ref Ca → C c = some Ca → t c = some b → (∀ e'', Ext e' e'' → Wf K C e'' Ω' → Q (.bl b) e''.H) → R (.ref a) e'.H) : tD K C g σ H R := by
  obtain ⟨e, Ω, ρ, d, Ω', eH, w, rl, q, kk⟩ := hw
  unfold gIsX at q
  cases q1 : g ρ Ω with
  | none => rw [q1] at q; cases q
  | some p1 =>
    obtain ⟨d1, Ω1⟩ := p1
    rw [q1] at q
    cases d1 with
    | obj n =>
      dsimp only at q
      cases q2 : Ω1[n]? with
      | none => rw [q2] at q; cases q
      | some o =>
        rw [q2] at q
        cases o with
        | exc c =>
          dsimp only at q
          cases q3 : t c with
          | none => rw [q3] at q; cases q
          | some b =>
            rw [q3] at q
            cases q
            refine ⟨e, Ω, ρ, .obj n, _, eH, w, rl, q1, fun v e' x' w' i' => ?_⟩
            rw [Is] at i'
            obtain ⟨a, ha, rfl⟩ := i'
            obtain ⟨_, Ca, ob, u, h1, h2, h3⟩ := w'.ob n a (.exc c) ha q2
            exact k a Ca ob u e' _ c b w' h2 h3 h1 q3 fun e'' y w'' => kk _ e'' (x'.trans y) w'' (by rw [Is])
        | _ => cases q
    | _ => cases q
theorem pd_isx {v : V} {cv : Value} (ha : PD X C x g) (hy : PE X y (tC v)) (hv' : ∀ u, RelV v u → u = cv) (hg : Gl X n) (hm : X.mg n = none) (hv : bootBuiltins n = some (.builtin "isinstance"))
    (hk : ∀ c Ca b, t c = some b → C c = some Ca → PySem.W.ExcLook X.K Ca ∧ PySem.W.kitOne X.K (.ref Ca) cv = some b)
    (hn : n ≠ "__name__" := by decide) (hdb : (n == ("__debug__" : Str)) = false := by decide)
    (he : starEach [x, y] X.env = (false, eval x X.env) :: starEach [y] X.env := by rfl) (he2 : starEach [y] X.env = (false, eval y X.env) :: starEach [] X.env := by rfl) (hpl : (backTo pos (starEach [y] X.env)).any (·.1) = false := by rfl) :
    PD X C (.Call (.Name n p) [x, y] [] pos) (gIsX t g) := by
  have hc : CallR X (.builtin "isinstance") (fun xs H Q => ∃ a Ca ob u k, xs = [.ref a, v] ∧ H a = some (.frz ob u) ∧ ob.cls = .ref Ca ∧ PySem.W.ExcLook X.K Ca ∧ PySem.W.kitOne X.K (.ref Ca) cv = some k ∧ Q (.bl k) H) := by
    intro pins s σ H xs us Q I r hw
    obtain ⟨a, Ca, ob, u, k, rfl, h1, h2, T, e, q⟩ := hw
    obtain ⟨u1, w', rfl, r1, r2⟩ := vals2 r
    obtain rfl : u1 = Value.ref a := r1
    obtain rfl := hv' _ r2
    have ho : s.heap.get? a = some ob := (show ObjOk X.prog X.w H s.heap a (.frz ob u) from I.hok a _ h1).1
    exact PySem.W.kia_one (PySem.W.kitx_exc T) I.kIn ⟨ob, ho, h2⟩ e (fun z => nomatch z) fun tk => ⟨.bl k, H, I.tok tk, rfl, q⟩
  refine pe_imp (pe_callB hc hg hm hv (pa_cons ha (pa_cons hy pa_nil he2) he) hn hdb he hpl) fun σ H Q hw => ?_
  refine isx_read hw fun a Ca ob u e' Ω' c b w' h1 h2 h3 h4 q => ?_
  obtain ⟨T, z⟩ := hk c Ca b h4 h3
  exact ⟨a, Ca, ob, u, b, rfl, h1, h2, T, z, q e' (Ext.refl _) w'⟩
theorem pd_isxs {ys : List Expr} {tt : TA} {vs : List V} {cvs : List Value} {x1} {ypos : Pos} (ha : PD X C x g) (hy : PA X ys tt) (htt : ∀ σ H Q, Q vs H → tt σ H Q) (hvs : ∀ us, Vals vs us → us = cvs) (hlen : vs.length ≤ sizeLine) (hg : Gl X n) (hm : X.mg n = none) (hv : bootBuiltins n = some (.builtin "isinstance"))
    (hk : ∀ c Ca b, t c = some b → C c = some Ca → PySem.W.ExcLook X.K Ca ∧ PySem.W.kitAny X.K (.ref Ca) cvs = some b)
    (hn : n ≠ "__name__" := by decide) (hdb : (n == ("__debug__" : Str)) = false := by decide)
    (he : starEach [x, .Tuple ys x1 ypos] X.env = (false, eval x X.env) :: starEach [.Tuple ys x1 ypos] X.env := by rfl) (he2 : starEach [.Tuple ys x1 ypos] X.env = (false, eval (.Tuple ys x1 ypos) X.env) :: starEach [] X.env := by rfl) (hpl : (backTo pos (starEach [.Tuple ys x1 ypos] X.env)).any (·.1) = false := by rfl) :
    PD X C (.Call (.Name n p) [x, .Tuple ys x1 ypos] [] pos) (gIsX t g) := by
  have hc : CallR X (.builtin "isinstance") (fun xs H Q => ∃ a tp Ca ob u k, xs = [.ref a, .ref tp] ∧ H tp = some (.tup vs) ∧ H a = some (.frz ob u) ∧ ob.cls = .ref Ca ∧ PySem.W.ExcLook X.K Ca ∧ PySem.W.kitAny X.K (.ref Ca) cvs = some k ∧ Q (.bl k) H) := by
    intro pins s σ H xs us Q I r hw
    obtain ⟨a, tp, Ca, ob, u, k, rfl, h0, h1, h2, T, e, q⟩ := hw
    obtain ⟨u1, w', rfl, r1, r2⟩ := vals2 r
    obtain rfl : u1 = Value.ref a := r1
    obtain rfl : w' = Value.ref tp := r2
    have ho : s.heap.get? a = some ob := (show ObjOk X.prog X.w H s.heap a (.frz ob u) from I.hok a _ h1).1
    obtain ⟨_, its, ri, ⟨oc, od, odt, osl⟩, g1, g2, m, g3⟩ := (show ObjOk X.prog X.w H s.heap tp (.tup vs) from I.hok tp _ h0)
    obtain rfl := hvs _ ri
    dsimp only at g2 g3
    subst g2 g3
    exact PySem.W.kia_tup (PySem.W.kitx_exc T) I.kIn ⟨ob, ho, h2⟩ g1 e (fun z => nomatch z) fun tk => ⟨.bl k, H, I.tok tk, rfl, q⟩
  refine pe_imp (pe_callB hc hg hm hv (pa_cons ha (pa_cons (pe_tup hy) pa_nil he2) he) hn hdb he hpl) fun σ H Q hw => ?_
  unfold tCB tCons
  refine isx_read hw fun a Ca ob u e' Ω' c b w' h1 h2 h3 h4 q => ?_
  obtain ⟨T, z⟩ := hk c Ca b h4 h3
  refine htt _ _ _ ⟨hlen, fun tp hp => ?_⟩
  refine ⟨a, tp, Ca, ob, u, b, rfl, upd_same, ?_, h2, T, z, q (e'.new tp (.tup vs)) (w'.new_ext hp) (w'.new hp)⟩
  rw [upd_ne (ne_of_none h1 hp)]; exact h1
end
end DL
set_option Elab.async false
set_option linter.all false
set_option maxRecDepth 100000
set_option genSizeOf false
/-! THE WAY OUT BY AN EXCEPTION, beside the way through (PD, PDS, PDB): what raises, of which class, with which objects. -/
namespace DL
open PySem PySem.Spec PyProof.Rows L2
abbrev RDen := List Sl → List OS → Option (Str × List OS)
abbrev XFDen := List D → List OS → Option (Str × List OS)
abbrev SRDen := List Sl → List OS → Option (Str × List Sl × List OS)
abbrev XWt := St → Addr → Hp → Prop
def tR (K : PySem.W.Frag) (C : Cl) (XW : XWt) (r : RDen) : TE := fun σ H _ => ∃ e Ω ρ c Ω' Ca, e.H = H ∧ Wf K C e Ω ∧ RelE K e σ ρ ∧ r ρ Ω = some (c, Ω') ∧ C c = some Ca ∧ ∀ e', Ext e e' → Wf K C e' Ω' → XW σ Ca e'.H
def RD (X : Cx) (C : Cl) (XW : XWt) (x : Expr) (r : RDen) : Prop := PE X x (tR X.K C XW r)
def tRS (K : PySem.W.Frag) (C : Cl) (XW : XWt) (e₀ : E4) (r : SRDen) : TS := fun _ σ H => ∃ e Ω ρ c ρ' Ω' Ca, e.H = H ∧ RelS K C e₀ e Ω σ ρ ∧ r ρ Ω = some (c, ρ', Ω') ∧ C c = some Ca ∧ ∀ e' σ', RelS K C e₀ e' Ω' σ' ρ' → XW σ' Ca e'.H
def RDS (X : Cx) (C : Cl) (XW : XWt) (st : Stmt) (r : SRDen) : Prop := ∀ e₀, PS X st (tRS X.K C XW e₀ r)
def RDB (X : Cx) (C : Cl) (XW : XWt) (sts : List Stmt) (r : SRDen) : Prop := ∀ e₀, PSs X sts (tRS X.K C XW e₀ r)
def dmH (H H' : Hp) : Prop := ∀ b o, H b = some o → ∃ o', H' b = some o'
/-- what raises here leaves as is wanted; what a callee raised does -/
def ThrowOk (X : Cx) (XW : XWt) : Prop := ∀ Ca σ H, XW σ Ca H → Thrown X Ca σ H
def FlyOk (X : Cx) (XW : XWt) : Prop := ∀ σ H, PassX X σ H fun cv _ H' => ∃ Ca, cv = .ref Ca ∧ XW σ Ca H' ∧ dmH H H'
section
variable {X : Cx} {C : Cl} {XW : XWt} {a b c x : Expr} {f g : Den} {p : TDen} {st : Stmt} {rest sts sts' : List Stmt} {s : SDen} {r r1 r2 : SRDen} {rx : RDen} {pos : Pos}
theorem rdb_one (h : RDS X C XW st r) : RDB X C XW [st] r := fun e₀ => pss_one (h e₀)
/-- the first statement raises -/
theorem rdb_here (h : RDS X C XW st r) : RDB X C XW (st :: rest) r := fun e₀ => pss_imp (pss_cons (h e₀) (pss_never (sts := rest))) fun Dn σ H ⟨e, Ω, ρ, c, ρ', Ω', Ca, eH, rl, q, hC, k⟩ => ⟨e, Ω, ρ, c, ρ', Ω', Ca, eH, rl, q, hC, k⟩
def rNever : SRDen := fun _ _ => none
theorem rdb_never : RDB X C XW sts rNever := fun e₀ => pss_imp pss_never fun Dn σ H ⟨e, Ω, ρ, c, ρ', Ω', Ca, eH, rl, q, hC, k⟩ => by cases q
def rIf (p : TDen) (s t : SRDen) : SRDen := fun ρ Ω => match p ρ Ω with
  | some (true, Ω') => s ρ Ω'
  | some (false, Ω') => t ρ Ω'
  | none => none
theorem rds_if (hc : PDT X C c p) (ha : RDB X C XW sts r1) (hb : RDB X C XW sts' r2) : RDS X C XW (.If c sts sts' pos) (rIf p r1 r2) := fun e₀ => ps_imp (ps_if hc (ha e₀) (hb e₀)) fun Dn σ H ⟨e, Ω, ρ, c, ρ', Ω', Ca, eH, rl, q, hC, k⟩ => by
  unfold rIf at q
  cases q1 : p ρ Ω with
  | none => rw [q1] at q; cases q
  | some p1 =>
    obtain ⟨d, Ω1⟩ := p1
    rw [q1] at q
    refine ⟨e, Ω, ρ, d, Ω1, eH, rl.wf, rl.rel, q1, fun e' x' w' => ?_⟩
    cases d with
    | true => rw [if_pos rfl]; exact ⟨e', Ω1, ρ, c, ρ', Ω', Ca, rfl, rl.to x' w', q, hC, k⟩
    | false => rw [if_neg (by decide)]; exact ⟨e', Ω1, ρ, c, ρ', Ω', Ca, rfl, rl.to x' w', q, hC, k⟩
def rE (rx : RDen) : SRDen := fun ρ Ω => match rx ρ Ω with
  | some (c, Ω') => some (c, ρ, Ω')
  | none => none
theorem rE_read {K : PySem.W.Frag} {e₀ : E4} {σ : St} {H : Hp} {Dn : Ends} {Q : VK} (hw : tRS K C XW e₀ (rE rx) Dn σ H) : tR K C XW rx σ H Q := by
  obtain ⟨e, Ω, ρ, c, ρ', Ω', Ca, eH, rl, q, hC, k⟩ := hw
  unfold rE at q
  cases q1 : rx ρ Ω with
  | none => rw [q1] at q; cases q
  | some p1 =>
    obtain ⟨c1, Ω1⟩ := p1
    rw [q1] at q
    cases q
    exact ⟨e, Ω, ρ, _, _, Ca, eH, rl.wf, rl.rel, q1, hC, fun e' x' w' => k e' σ (rl.to x' w')⟩
theorem rds_ret (h : RD X C XW x rx) : RDS X C XW (.Return (some x) pos) (rE rx) := fun e₀ => ps_imp (ps_ret h) fun Dn σ H hw => rE_read hw
end
end DL
set_option Elab.async false
set_option linter.all false
set_option maxRecDepth 100000
set_option genSizeOf false
namespace DL
open PySem PySem.Spec PyProof.Rows L2
/-! ### defs that may raise -/
def spX (K : PySem.W.Frag) (C : Cl) (F : FDen) (R : XFDen) : Sp := fun vs H Q E => spD K C F vs H Q E ∨ ∃ e Ω ds c Ω' Ca, e.H = H ∧ Wf K C e Ω ∧ IsL K e.α e.F ds vs ∧ R ds Ω = some (c, Ω') ∧ C c = some Ca ∧ ∀ e', Ext e e' → Wf K C e' Ω' → E (.ref Ca) none e'.H
def runR (n m : Nat) (r : SRDen) : XFDen := fun ds Ω => if ds.length = n then match r (ds.map Sl.dat ++ List.replicate (m - n) Sl.und) Ω with
  | some (c, _, Ω') => some (c, Ω')
  | none => none
  else none
theorem throwOk_def {P : Program} {w : World} {K : PySem.W.Frag} {mg : Str → Option Value} {base : Heap} {N : List Str} {qual : Str} {scope : Scope} {f : Addr} {cd : Value} {A : Around} {outer : List Env} {s₀ : Shared} {H₀ : Hp} {E : XK} :
    ThrowOk (cxOf (CXr P w) P w K mg base N qual scope f cd A outer s₀ H₀ E) fun _ Ca H' => E (.ref Ca) none H' := fun Ca σ H h => thrown_leaves h
theorem fn_DX {P : Program} {w : World} {K : PySem.W.Frag} {mg : Str → Option Value} {base : Heap} {C : Cl} {x qual : Str} {st : Stmt} {dV : Value} {f : Addr} {fd : FuncData} {N ps : List Str} {k n m : Nat} {s : SDen} {r : SRDen} (F : FunV K x qual st dV f fd) (S : FnScope N ps (defScope st)) (hn : ps.length = n) (hm : N.length = m)
    (hbody : ∀ (cdv : Value) (A : Around) (outer : List Env) (sh : Shared) (H : Hp) (E : XK), Room k (A.deeper (envOfC qual (defScope st) sh.heap.objs.size f cdv)) →
      PDB (cxOf (CXr P w) P w K mg base N qual (defScope st) f cdv A outer sh H E).nox C (defBody st) s)
    (hout : ∀ (cdv : Value) (A : Around) (outer : List Env) (sh : Shared) (H : Hp) (E : XK), Room k (A.deeper (envOfC qual (defScope st) sh.heap.objs.size f cdv)) →
      RDB (cxOf (CXr P w) P w K mg base N qual (defScope st) f cdv A outer sh H E) C (fun _ Ca H' => E (.ref Ca) none H') (defBody st) r) : FnOk P w K mg base (CXr P w) (k + 1) f fd ps (spX K C (runD n m s) (runR n m r)) := by
  obtain ⟨oc, od, kV, doc, pm, an, cdv, ct, osl, rfl, lk, hcd⟩ := F
  refine fn_of lk hcd S (fun vs H Q E h => ?_) fun A outer sh H vs Q E hr h => ?_
  · rcases h with ⟨e, Ω, ds, d, Ω', _, _, i, q, _⟩ | ⟨e, Ω, ds, c, Ω', Ca, _, _, i, q, _⟩
    · unfold runD at q
      by_cases hl : ds.length = n
      · rw [← i.length, hl, hn]
      · rw [if_neg hl] at q; cases q
    · unfold runR at q
      by_cases hl : ds.length = n
      · rw [← i.length, hl, hn]
      · rw [if_neg hl] at q; cases q
  · rcases h with ⟨e, Ω, ds, d, Ω', eH, wf, i, q, kk⟩ | ⟨e, Ω, ds, c, Ω', Ca, eH, wf, i, q, hC, kk⟩
    · unfold runD at q
      by_cases hl : ds.length = n
      · rw [if_pos hl] at q
        cases q1 : s (ds.map Sl.dat ++ List.replicate (m - n) Sl.und) Ω with
        | none => rw [q1] at q; cases q
        | some o =>
          rw [q1] at q
          refine ⟨_, (hbody cdv A outer sh H E hr e).nox, e, Ω, _, o, eH, start_rel wf i, by rw [hl, hm]; exact q1, ?_⟩
          cases o with
          | rt d' Ω2 => cases q; exact fun e' v x' w' i' => kk v e' x' w' i'
          | nx ρ' Ω2 => cases q; exact fun e' σ' r' => kk .non e' r'.ext r'.wf (by rw [Is])
          | bk ρ' Ω2 => cases q
          | ct ρ' Ω2 => cases q
      · rw [if_neg hl] at q; cases q
    · unfold runR at q
      by_cases hl : ds.length = n
      · rw [if_pos hl] at q
        cases q1 : r (ds.map Sl.dat ++ List.replicate (m - n) Sl.und) Ω with
        | none => rw [q1] at q; cases q
        | some p1 =>
          obtain ⟨c1, ρ1, Ω1⟩ := p1
          rw [q1] at q
          cases q
          exact ⟨_, hout cdv A outer sh H E hr e, e, Ω, _, _, ρ1, _, Ca, eH, start_rel wf i, by rw [hl, hm]; exact q1, hC, fun e' σ' r' => kk e' r'.ext r'.wf⟩
      · rw [if_neg hl] at q; cases q
/-! ### methods that may raise -/
structure MtX (P : Program) (w : World) (K : PySem.W.Frag) (mg : Str → Option Value) (base : Heap) (C : Cl) (k : Nat) (c m : Str) (F : FDen) (R : XFDen) (dfl : List D) : Prop where
  ex : ∃ Ca f fd ps ds dvs, C c = some Ca ∧ Cls K Ca ∧ Meth K Ca m f ∧ Binds K fd ps ds ∧ Vals dvs ds ∧ (∀ α H, IsL K α H dfl dvs) ∧ FnOk P w K mg base (CXr P w) k f fd ps (spX K C F R)
theorem tD_mono {K : PySem.W.Frag} {C : Cl} {g : Den} {σ : St} {H : Hp} {Q Q' : VK} (h : tD K C g σ H Q) (i : ∀ v H', Q v H' → Q' v H') : tD K C g σ H Q' := by
  obtain ⟨e, Ω, ρ, d, Ω', eH, w, rl, q, kk⟩ := h
  exact ⟨e, Ω, ρ, d, Ω', eH, w, rl, q, fun v e' x' w' i' => i _ _ (kk v e' x' w' i')⟩
theorem tDA_mono {K : PySem.W.Frag} {C : Cl} {g : ADen} {σ : St} {H : Hp} {Q Q' : List V → Hp → Prop} (h : tDA K C g σ H Q) (i : ∀ v H', Q v H' → Q' v H') : tDA K C g σ H Q' := by
  obtain ⟨e, Ω, ρ, d, Ω', eH, w, rl, q, kk⟩ := h
  exact ⟨e, Ω, ρ, d, Ω', eH, w, rl, q, fun v e' x' w' i' => i _ _ (kk v e' x' w' i')⟩
theorem passX_none {X : Cx} {σ : St} {H : Hp} : PassX X σ H fun _ _ _ => False := fun pins s e s' I ⟨ea, C, t, H', B, _, z, _⟩ => z.elim
def rMeth (c m : Str) (R : XFDen) (dfl : List D) (go : Den) (ga : ADen) : RDen := fun ρ Ω => match go ρ Ω with
  | some (.obj n, Ω1) => (match Ω1[n]? with
    | some (.ins c' fs) => if c' = c then (match fs.lookup m with
      | none => (match ga ρ Ω1 with | some (ds, Ω2) => R (.obj n :: (ds ++ dfl)) Ω2 | none => none)
      | some _ => none) else none
    | _ => none)
  | _ => none
section
variable {X : Cx} {C : Cl} {XW : XWt} {a b x : Expr} {f g : Den} {ga : ADen} {r : RDen} {pos ap cp : Pos}
theorem rmeth_read {K : PySem.W.Frag} {c m : Str} {F : FDen} {R : XFDen} {dfl : List D} {dvs : List V} {Ca : Addr} (hX : FlyOk X XW) (hC : C c = some Ca) (hd : ∀ α H, IsL K α H dfl dvs) {σ : St} {H : Hp} {Q : VK} (hw : tR K C XW (rMeth c m R dfl f ga) σ H Q) :
    tMethX X Ca m (spX K C F R) dvs (tD K C f) (tDA K C ga) σ H Q := by
  obtain ⟨e, Ω, ρ, xc, Ω', Xa, eH, w, rl, q, hXa, kk⟩ := hw
  unfold rMeth at q
  cases q1 : f ρ Ω with
  | none => rw [q1] at q; cases q
  | some p1 =>
    obtain ⟨d1, Ω1⟩ := p1
    rw [q1] at q
    cases d1 with
    | obj n =>
      dsimp only at q
      cases q0 : Ω1[n]? with
      | none => rw [q0] at q; cases q
      | some o0 =>
        rw [q0] at q
        refine ⟨e, Ω, ρ, _, Ω1, eH, w, rl, q1, fun v e1 x1 w1 i1 => ?_⟩
        rw [Is] at i1
        obtain ⟨p, hα, rfl⟩ := i1
        have ob := (w1.ob n p _ hα q0).2
        cases o0 with
        | ins c' fs =>
          dsimp only at q
          by_cases ec : c' = c
          · rw [if_pos ec] at q
            subst ec
            cases q2 : fs.lookup m with
            | some v0 => rw [q2] at q; cases q
            | none =>
              rw [q2] at q
              dsimp only at q
              cases q3 : ga ρ Ω1 with
              | none => rw [q3] at q; cases q
              | some p3 =>
                obtain ⟨ds, Ω2⟩ := p3
                rw [q3] at q
                obtain ⟨Cb, dx, fvs, h1, h2, h3⟩ := ob
                rw [hC] at h1
                cases h1
                have ov := h3.look m
                rw [q2] at ov
                have e2 : fvs.lookup m = none := by
                  cases z : fvs.lookup m with
                  | none => rfl
                  | some v => rw [z] at ov; exact ov.elim
                refine ⟨p, dx, fvs, rfl, h2, e2, e1, Ω1, ρ, ds, Ω2, rfl, w1, rl.ext x1, q3, fun vs e3 x3 w3 i3 => ?_⟩
                refine ⟨_, .inr ⟨e3, Ω2, _, xc, Ω', Xa, rfl, w3, .cons (by rw [Is]; exact ⟨p, obj_ext (K := K) x3 hα, rfl⟩) (i3.append (hd _ _)), q, hXa, fun e4 x4 w4 => ?_⟩, hX σ e3.H⟩
                exact ⟨Xa, rfl, kk e4 ((x1.trans x3).trans x4) w4, x4.dm⟩
          · rw [if_neg ec] at q; cases q
        | _ => cases q
    | _ => cases q
theorem rd_meth {k : Nat} {c m : Str} {F : FDen} {R : XFDen} {dfl : List D} {es : List Expr} {pl : Sem Bool} (hX : FlyOk X XW) (G : MtX X.prog X.w X.K X.mg X.base C k c m F R dfl) (hr : Room k X.A) (ho : PD X C a f) (ha : PDA X C (x :: es) ga)
    (hst : starEach (x :: es) X.env = (false, eval x X.env) :: starEach es X.env := by rfl) (hpl : (backTo cp (starEach es X.env)).any (·.1) = false := by rfl)
    (ht : eval (.Call (.Attribute a m ap) (x :: es) [] cp) X.env = (do
      let ov ← eval a X.env
      standAt ap.atName
      let (f, first) ← holding [ov] (getMethod ov m pl)
      callWith cp f first (backTo cp (starEach (x :: es) X.env)) (backToKw cp (keywordEach [] X.env))) := by rfl) :
    RD X C XW (.Call (.Attribute a m ap) (x :: es) [] cp) (rMeth c m R dfl f ga) := by
  obtain ⟨Ca, fa, fd, ps, ds, dvs, hC, cl, me, hb, hd, hdd, ok⟩ := G.ex
  exact pe_imp (pe_methX ho cl me ok hr hb hd ha hst hpl ht) fun _ _ _ hw => rmeth_read hX hC hdd hw
theorem pd_methX {k : Nat} {c m : Str} {F : FDen} {R : XFDen} {dfl : List D} {es : List Expr} {pl : Sem Bool} (G : MtX X.prog X.w X.K X.mg X.base C k c m F R dfl) (hr : Room k X.A) (ho : PD X C a f) (ha : PDA X C (x :: es) ga)
    (hst : starEach (x :: es) X.env = (false, eval x X.env) :: starEach es X.env := by rfl) (hpl : (backTo cp (starEach es X.env)).any (·.1) = false := by rfl)
    (ht : eval (.Call (.Attribute a m ap) (x :: es) [] cp) X.env = (do
      let ov ← eval a X.env
      standAt ap.atName
      let (f, first) ← holding [ov] (getMethod ov m pl)
      callWith cp f first (backTo cp (starEach (x :: es) X.env)) (backToKw cp (keywordEach [] X.env))) := by rfl) :
    PD X C (.Call (.Attribute a m ap) (x :: es) [] cp) (gMeth c m F dfl f ga) := by
  obtain ⟨Ca, fa, fd, ps, ds, dvs, hC, cl, me, hb, hd, hdd, ok⟩ := G.ex
  exact pe_imp (pe_methX ho cl me ok hr hb hd ha hst hpl ht) fun _ _ _ hw => tD_mono (meth_read (E := fun _ _ _ => False) hC hdd hw) fun v H1 ⟨a, dx, fs, h1, h2, h3, z⟩ => ⟨a, dx, fs, h1, h2, h3, tDA_mono z fun vs H2 z2 => ⟨_, .inl z2, passX_none⟩⟩
/-! ### calls of defs that may raise -/
end
section
variable {X : Cx} {C : Cl} {XW : XWt} {k : Nat} {F : FDen} {R : XFDen} {n : Str} {p pos : Pos} {a b x : Expr} {es : List Expr} {ga : ADen} {f g : Den} {r : RDen}
/-! ### where a part raises -/
def rAft (f : Den) (r : RDen) : RDen := fun ρ Ω => match f ρ Ω with
  | some (_, Ω1) => r ρ Ω1
  | none => none
theorem raft_read {K : PySem.W.Frag} {σ : St} {H : Hp} {Q : VK} {R : VK} (hw : tR K C XW (rAft f r) σ H Q) (k : ∀ v H1, tR K C XW r σ H1 Q → R v H1) : tD K C f σ H R := by
  obtain ⟨e, Ω, ρ, c, Ω', Ca, eH, w, rl, q, hC, kk⟩ := hw
  unfold rAft at q
  cases q1 : f ρ Ω with
  | none => rw [q1] at q; cases q
  | some p1 =>
    obtain ⟨d, Ω1⟩ := p1
    rw [q1] at q
    exact ⟨e, Ω, ρ, d, Ω1, eH, w, rl, q1, fun v e' x' w' i' => k v _ ⟨e', Ω1, ρ, c, Ω', Ca, rfl, w', rl.ext x', q, hC, fun e'' x'' w'' => kk e'' (x'.trans x'') w''⟩⟩
/-- a[b], b raises -/
theorem rd_ix (ha : PD X C a f) (hb : RD X C XW b r) (hs : PlainIx b := by intro _ _; rfl) : RD X C XW (.Subscript a b pos) (rAft f r) :=
  pe_imp (pe_ix ix_seq ha hb hs) fun σ H Q hw => raft_read hw fun v H1 z => z
end
end DL
set_option Elab.async false
set_option linter.all false
set_option maxRecDepth 100000
set_option genSizeOf false
namespace L2
open PySem PySem.Spec PyProof.Rows
theorem Cx.Ok.unhold {X : Cx} {pn : List (Addr × Obj)} {E : Value → Shared → Prop} (h : (X.hold pn E).Ok) : X.Ok :=
  ⟨h.mod, h.kind, h.glob, h.blt, h.above, h.inj, h.has, h.cab, h.hd, h.frames, h.stk, h.exf, h.bs, h.bsz, h.noex, h.exfs, h.funs, h.frf⟩
end L2
namespace DL
open PySem PySem.Spec PyProof.Rows L2
/-! ### try: .. return ..; except C as n: .. return .. -/
theorem flyOk_try {X : Cx} {pins : List (Addr × Obj)} {Hw : XWt} : FlyOk (X.hold (X.pn ++ pins) (Served X pins Hw)) Hw := fun σ H pins' s e s' I h => by
  have I' : Inv X pins σ H s := I.unhold I.ok.unhold
  obtain ⟨ea, Cc, t, H', B, rfl, ⟨Ca, hc, hw, _⟩, F⟩ := flown I' h fun Cv H' ⟨Ca, _, _, dm⟩ => dm
  cases hc
  exact ⟨σ, ea, _, t, H', B, rfl, F, hw⟩
def sTry (s : SDen) (r : SRDen) (i : Nat) (tc : Str → Bool) (t : SDen) : SDen := fun ρ Ω => match s ρ Ω with
  | some (.rt d Ω') => some (.rt d Ω')
  | some _ => none
  | none => match r ρ Ω with
    | some (c, ρ1, Ω1) => if tc c = true then match t (ρ1.set i (.dat (.obj Ω1.length))) (Ω1 ++ [.exc c]) with
        | some (.rt d Ω') => some (.rt d Ω')
        | _ => none
      else none
    | none => none
section
variable {X : Cx} {C : Cl} {body : List Stmt} {x n : Str} {np hpos pos : Pos} {cv : Value} {i : Nat} {b₀ : Stmt} {suite : List Stmt} {s t : SDen} {r : SRDen} {tc : Str → Bool}
theorem pds_try (hb : ∀ pn E, PDB (X.hold pn E) C body s) (hr : ∀ pn E XW, FlyOk (X.hold pn E) XW → RDB (X.hold pn E) C XW body r) (ht : ∀ v pn, PDB ((X.mark v).hold pn fun _ _ => False) C (b₀ :: suite) t)
    (htc : ∀ c, tc c = true → ∃ Ca, C c = some Ca ∧ PySem.W.exmOne X.K (.ref Ca) cv = some true)
    (hs : X.stack = X.env :: X.outer) (hfr : X.env.frame = some X.env.locals) (hg : Gl X x) (hm : X.mg x = some cv) (hN : X.N.Nodup) (hi : X.N[i]? = some n) (hl : X.env.scope.names.lookup n = some .local) (hkn : X.env.kindOf n = some .local) (hd : (x == ("__debug__" : Str)) = false := by decide) :
    PDS X C (.Try body [.ExceptHandler (some (.Name x np)) (some n) (b₀ :: suite) hpos] [] [] pos) (sTry s r i tc t) := fun e₀ =>
  ps_imp (ps_try (tb := fun pn E Dn σ H => tDS X.K C e₀ s Dn σ H ∨ ∃ XW, FlyOk (X.hold pn E) XW ∧ tRS X.K C XW e₀ r Dn σ H) (th := tDS X.K C e₀ t)
    (fun pn E pins sh σ H D I h => h.elim (fun z => hb pn E e₀ pins sh σ H D I z) fun ⟨XW, hX, z⟩ => hr pn E XW hX e₀ pins sh σ H D I z) (fun v pn => ht v pn e₀) hs hfr hg hm hN hi hl hkn hd) fun Dn σ H ⟨e, Ω, ρ, o, eH, rl, q, k⟩ pins => by
    unfold sTry at q
    cases q1 : s ρ Ω with
    | some o1 =>
      rw [q1] at q
      cases o1 with
      | rt d Ω' => cases q; exact .inl ⟨e, Ω, ρ, _, eH, rl, q1, k⟩
      | _ => cases q
    | none =>
      rw [q1] at q
      dsimp only at q
      cases q2 : r ρ Ω with
      | none => rw [q2] at q; cases q
      | some p2 =>
        obtain ⟨c, ρ1, Ω1⟩ := p2
        rw [q2] at q
        dsimp only at q
        by_cases hc : tc c = true
        · rw [if_pos hc] at q
          obtain ⟨Ca, hC, hx⟩ := htc c hc
          refine .inr ⟨_, flyOk_try, e, Ω, ρ, c, ρ1, Ω1, Ca, eH, rl, q2, hC, fun e' σ' r' => ⟨hx, fun ea oe hn ho => ?_⟩⟩
          obtain ⟨w', x'⟩ := r'.wf.obj (H' := upd e'.H ea (.frz oe (.own 0))) (o := .exc c) hn (fun b u hb => by rw [upd_ne (ne_of_none hb hn)]; exact hb) (by rw [upd_same]; exact ⟨by simp, fun xs z => nomatch z⟩) ⟨Ca, oe, _, hC, upd_same, ho⟩
          have r2 := (r'.to x' w').set i (d := .obj Ω1.length) (v := .ref ea) (by
            rw [Is]
            exact ⟨ea, by show (e'.α ++ [ea])[Ω1.length]? = some ea; rw [← r'.wf.ol]; simp, rfl⟩)
          cases q3 : t (ρ1.set i (.dat (.obj Ω1.length))) (Ω1 ++ [.exc c]) with
          | none => rw [q3] at q; cases q
          | some o3 =>
            rw [q3] at q
            cases o3 with
            | rt d Ω' => cases q; exact ⟨_, _, _, _, rfl, r2, q3, k⟩
            | _ => cases q
        · rw [if_neg hc] at q; cases q
end
/-! ### more places where a part raises -/
section
variable {X : Cx} {C : Cl} {XW : XWt} {a b x : Expr} {es : List Expr} {rx : RDen} {n : Str} {p pos : Pos}
/-- int(x), bool(x) .., x raises -/
theorem rd_ty {T : String} (h : RD X C XW x rx) (hg : Gl X n) (hm : X.mg n = none) (hv : bootBuiltins n = some (.type T)) (hn : n ≠ "__name__" := by decide) (hdb : (n == ("__debug__" : Str)) = false := by decide)
    (he : starEach [x] X.env = (false, eval x X.env) :: starEach [] X.env := by rfl) (hpl : (backTo pos (starEach [] X.env)).any (·.1) = false := by rfl) : RD X C XW (.Call (.Name n p) [x] [] pos) rx :=
  pe_imp (pe_callTy (T := T) (r := fun _ _ _ => False) (fun _ _ _ _ _ _ _ _ _ z => z.elim) hg hm hv (pa_cons h pa_nil he) hn hdb he hpl) fun σ H Q hw => hw
/-- a op b, a raises -/
theorem rd_cmp {op : CmpOp} (h : RD X C XW a rx) (h1 : behindInMarks op b = false := by first | exact nobehind _ (by decide) (by decide) | rfl) : RD X C XW (.Compare a [op] [b] pos) rx :=
  pe_cmp (fun pins s σ H Q I hw => wpAny_mono (h pins s σ H (fun _ _ => False) I hw) (fun v s1 ⟨_, _, _, _, z⟩ => z.elim) fun _ _ z => z) h1
end
end DL
set_option Elab.async false
set_option linter.all false
set_option maxRecDepth 100000
set_option genSizeOf false
namespace L2
open PySem PySem.Spec PyProof.Rows
section
variable {X : Cx} {a : Expr} {ta : TE} {z : Str} {kk : Nat} {p1 p2 pos : Pos}
/-- f'z{a!r}', a a pair of ints; what it reads is not told -/
def tFR (ta : TE) : TE := fun σ H Q => ta σ H fun x H1 => ∃ (p : Addr) (i j : Int), x = .ref p ∧ H1 p = some (.tup [.int i, .int j]) ∧ i.natAbs.log2 < 1920 ∧ j.natAbs.log2 < 1920 ∧ (Str.ofString (toString i)).length ≤ 1000 ∧ (Str.ofString (toString j)).length ≤ 1000 ∧ ∀ t, Q (.str t) H1
theorem pe_fr {k : Nat} (hr : Room k X.A) (ha : PE X a ta) (hz : z.length ≤ 1000 := by decide) (hs : evalEach [.Constant (.str z) kk p1, .FormattedValue a 114 none p2] X.env = [eval (.Constant (.str z) kk p1) X.env, eval (.FormattedValue a 114 none p2) X.env] := by rfl) :
    PE X (.JoinedStr [.Constant (.str z) kk p1, .FormattedValue a 114 none p2] pos) (tFR ta) := by
  intro pins s σ H Q I h
  have len : ∀ p q : Str, (p ++ q).length = p.length + q.length := fun p q => strLen_append p q
  have sl : (100000 : Nat) ≤ sizeLine := by rw [sizeLine_eq]; decide
  refine PySem.wpAny_JoinedStr ?_
  rw [hs]
  refine wpAny_mono (pe_str (X := X) (x := z) (j := kk) (pos := p1) pins s σ H (fun v H' => v = .str z ∧ H' = H) I ⟨rfl, rfl⟩) (fun u s2 ⟨y, H2, I2, r2, e2, e3⟩ => ?_) fun _ _ e => e
  subst e2 e3
  obtain ⟨t2, rfl⟩ := r2
  refine ⟨z, t2, rfl, ?_, ?_⟩
  · rw [PySem.W.KT.empty_app]; omega
  rw [PySem.W.KT.empty_app]
  refine PySem.wpAny_FormattedValue_repr (thn (ha pins s2 σ _ _ I2 h) fun u s3 ⟨y, H3, I3, r3, p, i, j, ey, hp, hi, hj, li, lj, q⟩ => ?_)
  subst ey
  obtain rfl : u = Value.ref p := r3
  obtain ⟨_, its, ri, ob, g1, g2, m, g3⟩ := (show ObjOk X.prog X.w H3 s3.heap p (.tup [.int i, .int j]) from I3.hok p _ hp)
  obtain ⟨u1, u2, rfl, ⟨k1, rfl⟩, k2, rfl⟩ := vals2 ri
  have tl : (tupleText [Str.ofString (toString i), Str.ofString (toString j)]).length ≤ 2010 := by
    have := join_length_add [Str.ofString (toString i), Str.ofString (toString j)] (by simp)
    rw [piled_cons, piled_cons, piled_nil] at this
    have e : tupleText [Str.ofString (toString i), Str.ofString (toString j)] = ("(" : Str) ++ Str.join ", " [Str.ofString (toString i), Str.ofString (toString j)] ++ (")" : Str) := rfl
    have e1 : ("(" : Str).length = 1 := by decide
    have e2 : (")" : Str).length = 1 := by decide
    rw [e, len, len, e1, e2]
    omega
  refine wpAny_pyReprObj_tupleK (as := []) (h₀ := s3.heap) (d := 0) (ts := [Str.ofString (toString i), Str.ofString (toString j)]) g1 g2 g3 (by simp) (.cons (ReprK.of_is (ReprIs.int _ hi) _ _ _) (.cons (ReprK.of_is (ReprIs.int _ hj) _ _ _) .nil)) hr.gd (fun b _ => Clear.nil b) (by have := hr.un; omega) (fun _ _ e => e) (fun h' u tk kp => ?_) (by omega)
  have I4 := I3.kept (h' := h') (t' := tk) kp
  have fin : ∀ (u : Tok) (tk : Nat), ∃ y t, Value.str (tupleText [Str.ofString (toString i), Str.ofString (toString j)]) u = .str y t ∧ (z ++ y).length ≤ sizeLine ∧ ((z ++ y).length ≤ sizeLine ∧ EP X pins σ Q (.str (z ++ y) tk) { s3 with heap := h', toks := tk + 1 }) := fun u tk =>
    ⟨_, _, rfl, by rw [len]; omega, by rw [len]; omega, .str _, H3, I4.tok _, ⟨_, rfl⟩, q _⟩
  exact wpAny_formatField_str (fin _ _) (fin _ _) (by omega)
end
end L2
namespace DL
open PySem PySem.Spec PyProof.Rows L2
/-! ### what has a value that is not told -/
abbrev VDen := List Sl → List OS → Option (List OS)
def tV (K : PySem.W.Frag) (C : Cl) (p : VDen) : TE := fun σ H Q => ∃ e Ω ρ Ω', e.H = H ∧ Wf K C e Ω ∧ RelE K e σ ρ ∧ p ρ Ω = some Ω' ∧ ∀ v e', Ext e e' → Wf K C e' Ω' → Q v e'.H
def PV (X : Cx) (C : Cl) (x : Expr) (p : VDen) : Prop := PE X x (tV X.K C p)
section
variable {X : Cx} {C : Cl} {XW : XWt} {a x : Expr} {f g : Den} {p : VDen} {pos p1 p2 : Pos}
def smallI (i : Int) : Prop := i.natAbs.log2 < 1920 ∧ (Str.ofString (toString i)).length ≤ 1000
instance (i : Int) : Decidable (smallI i) := by unfold smallI; infer_instance
def pFr (f : Den) : VDen := fun ρ Ω => match f ρ Ω with
  | some (.tup [.int i, .int j], Ω') => if smallI i ∧ smallI j then some Ω' else none
  | _ => none
theorem pv_fr {z : Str} {kk k : Nat} (hr : Room k X.A) (ha : PD X C a f) (hz : z.length ≤ 1000 := by decide) (hs : evalEach [.Constant (.str z) kk p1, .FormattedValue a 114 none p2] X.env = [eval (.Constant (.str z) kk p1) X.env, eval (.FormattedValue a 114 none p2) X.env] := by rfl) :
    PV X C (.JoinedStr [.Constant (.str z) kk p1, .FormattedValue a 114 none p2] pos) (pFr f) := pe_imp (pe_fr hr ha hz hs) fun σ H Q ⟨e, Ω, ρ, Ω', eH, w, rl, q, k⟩ => by
  unfold pFr at q
  split at q
  · rename_i i j Ω1 q1
    split at q
    · rename_i hij
      cases q
      refine ⟨e, Ω, ρ, _, _, eH, w, rl, q1, fun v e' x' w' i' => ?_⟩
      rw [Is] at i'
      obtain ⟨b, vs, rfl, hb, il⟩ := i'
      obtain ⟨v1, v2, rfl, i1, i2⟩ := isL_two il
      rw [Is] at i1 i2
      subst i1 i2
      exact ⟨b, i, j, rfl, w'.fh _ _ hb, hij.1.1, hij.2.1, hij.1.2, hij.2.2, fun t => k _ e' x' w'⟩
    · cases q
  · cases q
/-- raise C(e), whatever e reads -/
def rRaiseV (c : Str) (p : VDen) : SRDen := fun ρ Ω => match p ρ Ω with
  | some Ω' => some (c, ρ, Ω')
  | none => none
theorem rds_raiseV {cn : Str} {Ca : Addr} {bmB : List Value} {B newId initId : String} {np cpos : Pos} (hX : ThrowOk X XW) (hC : C cn = some Ca) (O : OwnCls cn Ca bmB newId X.mg X.base) (FB : ExcBaseFacts B newId initId bmB) (hh : X.A.handled = none) (hg : Gl X cn) (ha : PV X C x p)
    (he : starEach [x] X.env = (false, eval x X.env) :: starEach [] X.env := by rfl) (hpl : (backTo cpos (starEach [x] X.env)).any (·.1) = false := by rfl)
    (hd : (cn == ("__debug__" : Str)) = false := by decide) : RDS X C XW (.Raise (some (.Call (.Name cn np) [x] [] cpos)) none pos) (rRaiseV cn p) := fun e₀ =>
  ps_imp (ps_raise O FB hh hg ha (fun {σ H} ⟨e, Ω, ρ, Ω', eH, w, rl, q, k⟩ => ⟨e, Ω, ρ, Ω', eH, w, rl, q, fun v e' x' w' => ⟨rfl, k v e' x' w'⟩⟩) he hpl hd) fun Dn σ H ⟨e, Ω, ρ, c, ρ', Ω', Cb, eH, rl, q, hCb, k⟩ => by
    unfold rRaiseV at q
    cases q1 : p ρ Ω with
    | none => rw [q1] at q; cases q
    | some Ω1 =>
      rw [q1] at q
      cases q
      rw [hC] at hCb
      cases hCb
      exact ⟨e, Ω, ρ, _, eH, rl.wf, rl.rel, q1, fun v e' x' w' => hX Ca σ _ (k e' σ (rl.to x' w'))⟩
end
end DL
set_option Elab.async false
set_option linter.all false
set_option maxRecDepth 100000
set_option genSizeOf false
/-! the exception classes of the text, told by the fragment -/
namespace L2
open PySem PySem.Spec PyProof.Rows
section
variable {K : PySem.W.Frag} {h : Heap} {bmB : List Value} {newId : String} {mg : Str → Option Value} {x : Str}
def nsNoInit (K : PySem.W.Frag) (N : Addr) : Bool := match K.lookup N with
  | some o => (match o.data with
    | .dict es _ => es.all (fun e => match e.key with | .str _ _ => true | _ => false) && (nsFind es "__init__").isNone
    | _ => false)
  | none => false
theorem ns_no {N : Addr} (X : K.In h) (q : nsNoInit K N = true) : ∃ mN, h.Ns N mN ∧ mN "__init__" = none := by
  unfold nsNoInit at q
  split at q
  · rename_i o ho
    split at q
    · rename_i es ep hd
      rw [Bool.and_eq_true] at q
      refine ⟨h.nsMap N, .of_isNs ?_, ?_⟩
      · unfold Heap.isNs; rw [X _ _ ho]; simp only [hd]; exact q.1
      · unfold Heap.nsMap; rw [X _ _ ho]; simp only [hd]; exact Option.isNone_iff_eq_none.mp q.2
    · cases q
  · cases q
def tailIn (K : PySem.W.Frag) (bmB : List Value) : List Value → Bool
  | [] => bmB == []
  | v :: tl => (bmB == v :: tl) || (match v with
    | .ref A => (match K.lookup A with | some ⟨_, _, .cls cd, _⟩ => nsNoInit K cd.ns && tailIn K bmB tl | _ => false)
    | _ => false)
theorem tail_in (X : K.In h) : ∀ {tl : List Value}, tailIn K bmB tl = true → OwnTail h bmB tl
  | [], q => by
    unfold tailIn at q
    rw [beq_iff_eq] at q
    rw [← q]; exact .base
  | v :: tl, q => by
    unfold tailIn at q
    rw [Bool.or_eq_true] at q
    rcases q with q | q
    · rw [beq_iff_eq] at q
      rw [← q]; exact .base
    · split at q
      · split at q
        · rename_i ho
          rw [Bool.and_eq_true] at q
          obtain ⟨mA, h1, h2⟩ := ns_no X q.1
          exact .own (X _ _ ho) h1 h2 (tail_in X q.2)
        · cases q
      · cases q
def ownIn (K : PySem.W.Frag) (C : Addr) (bmB : List Value) (newId : String) : Bool := match K.lookup C with
  | some ⟨.type "type", _, .cls cd, sl⟩ => (match cd.mro, sl.toList with
    | .ref C' :: bm, [_, _, _, _, some (.builtin n), _] => C' == C && !cd.hasDel && n == newId && nsNoInit K cd.ns && tailIn K bmB bm
    | _, _ => false)
  | _ => false
theorem own_in {C : Addr} (X : K.In h) (q : ownIn K C bmB newId = true) (hm : mg x = some (.ref C)) : OwnCls x C bmB newId mg h := by
  unfold ownIn at q
  split at q
  · rename_i dd cd sl ho
    split at q
    · rename_i C' bm k0 k1 k2 k3 n k5 hmr hs
      simp only [Bool.and_eq_true, beq_iff_eq, Bool.not_eq_true'] at q
      obtain ⟨⟨⟨⟨rfl, hdel⟩, rfl⟩, hn⟩, ht⟩ := q
      obtain ⟨mN, h1, h2⟩ := ns_no X hn
      obtain ⟨nm, bs, mro, ns, qn, hd, sn, sub, ab, col, del⟩ := cd
      dsimp only at hmr hdel h1
      subst hmr hdel
      have hsl : sl = #[k0, k1, k2, k3, some (.builtin n), k5] := by
        obtain ⟨l⟩ := sl
        simp only at hs
        rw [hs]
      subst hsl
      exact ⟨hm, bm, ns, nm, qn, bs, hd, sn, sub, ab, col, dd, k0, k1, k2, k3, k5, mN, X _ _ ho, h1, h2, tail_in X ht⟩
    · cases q
  · cases q
end
end L2
set_option Elab.async false
set_option linter.all false
set_option maxRecDepth 100000
set_option genSizeOf false
/-! an exception that a callee raised leaves a def that does not catch it -/
namespace L2
open PySem PySem.Spec PyProof.Rows
end L2
namespace DL
open PySem PySem.Spec PyProof.Rows L2
end DL
set_option Elab.async false
set_option linter.all false
set_option maxRecDepth 100000
set_option genSizeOf false
/-! a for loop that an item's turn leaves by an exception -/
namespace DL
open PySem PySem.Spec PyProof.Rows L2
section
variable {X : Cx} {C : Cl} {XW : XWt} {tg iter c : Expr} {γ : ADen} {β : BDen} {s : SDen} {r : SRDen} {body : List Stmt} {pos : Pos}
end
end DL
set_option Elab.async false
set_option linter.all false
set_option maxRecDepth 100000
set_option genSizeOf false
namespace L2
open PySem PySem.Spec PyProof.Rows
section
variable {X : Cx} {a : Expr} {ta : TE} {z : Str} {kk : Nat} {p1 p2 pos : Pos}
end
end L2
namespace DL
open PySem PySem.Spec PyProof.Rows L2
section
variable {X : Cx} {C : Cl} {a : Expr} {f : Den} {pos p1 p2 : Pos}
end
end DL
set_option Elab.async false
set_option linter.all false
set_option maxRecDepth 100000
set_option genSizeOf false
namespace DL
open PySem PySem.Spec PyProof.Rows L2
theorem clAdd_ne {C : Cl} {c x : Str} {a b : Addr} (h : (x == c) = false) (e : C x = some b) : clAdd C c a x = some b := by
  have h' : x ≠ c := fun z => by rw [z] at h; simp at h
  show (if x = c then some a else C x) = some b
  rw [if_neg h', e]
@[elab_as_elim] theorem len1 {p : List Value → Prop} (us : List Value) (hl : us.length = 1) (h : ∀ a, p [a]) : p us := match us, hl with
  | [a], _ => h a
@[elab_as_elim] theorem len2 {p : List Value → Prop} (us : List Value) (hl : us.length = 2) (h : ∀ a b, p [a, b]) : p us := match us, hl with
  | [a, b], _ => h a b
@[elab_as_elim] theorem len3 {p : List Value → Prop} (us : List Value) (hl : us.length = 3) (h : ∀ a b c, p [a, b, c]) : p us := match us, hl with
  | [a, b, c], _ => h a b c
@[elab_as_elim] theorem len4 {p : List Value → Prop} (us : List Value) (hl : us.length = 4) (h : ∀ a b c d, p [a, b, c, d]) : p us := match us, hl with
  | [a, b, c, d], _ => h a b c d
end DL
namespace Law
open PySem DL
def xt_0 : Str → Option Bool := fun c => if c = "NoRow" then some false else none
def xt_1 : Str → Option Bool := fun c => if c = "NoRow" then some true else none
def xt_2 : Str → Option Bool := fun c => if c = "NoRow" then some true else none
def tcf_PostError : Str → Bool := fun c => decide (c = "NoRow")
noncomputable def d_Table___init__ : FDen := runD 1 1 (sFldD "Table" "thing_by" (gVar 0) gNewT)
noncomputable def d_l_stream : FDen := runD 2 5 (sSeq (sOwn 2 gNil) (sSeq (sSet 3 (gOp addD (gOp modD (gVar 0) (gC (.int 2147483647))) (gC (.int 48271)))) (sSeq (sFor (gRng rng1 (gCons (gOp addD (gVar 1) (gC (.int 1))) gNil)) (bName 4) (sSeq (sSet 3 (gOp modD (gOp addD (gOp addD (gOp mulD (gVar 3) (gVar 3)) (gOp mulD (gC (.int 48271)) (gVar 3))) (gVar 4)) (gC (.int 2147483647)))) (sApp 2 (gVar 3)))) (sGhost (frz 2) (sRet (gSl (gVar 2) (gPart (gC (.int 1))) gNoPart))))))
noncomputable def d_l_bits : FDen := runD 2 4 (sSeq (sSet 2 (gLst gNil)) (sSeq (sFor (gRng rng1 (gCons (gVar 1) gNil)) (bName 3) (sSeq (sSet 2 (gOp addD (gLst (gCons (gOp modD (gVar 0) (gC (.int 2))) gNil)) (gVar 2))) (sSet 0 (gOp divD (gVar 0) (gC (.int 2)))))) (sRet (gVar 2))))
noncomputable def d_l_number : FDen := runD 1 3 (sSeq (sSet 1 (gC (.int 0))) (sSeq (sFor (gSeq (gVar 0)) (bName 2) (sSet 1 (gOp addD (gOp mulD (gC (.int 2)) (gVar 1)) (gVar 2)))) (sRet (gVar 1))))
noncomputable def d_l_beginning : FDen := runD 2 5 (sSeq (sSet 2 (gCall d_l_stream (gCons (gVar 0) (gCons (gC (.int 4)) gNil)))) (sSeq (sSet 3 (gSl (gCall d_l_bits (gCons (gVar 1) (gCons (gC (.int 16)) gNil))) gNoPart (gPart (gOp modD (gOp ixD (gVar 2) (gC (.int 0))) (gC (.int 17)))))) (sSeq (sIf (gAndT (gT (gOp (eqD false) (gOp modD (gOp ixD (gVar 2) (gC (.int 1))) (gC (.int 4))) (gC (.int 1)))) (gT (gOp (eqD true) (gVar 3) (gLst gNil)))) (sSeq (sSet 4 (gOp ixD (gLst (gCons (gOp subD (gCB lenD (gCons (gVar 3) gNil)) (gC (.int 1))) (gCons (gOp modD (gOp ixD (gVar 2) (gC (.int 2))) (gCB lenD (gCons (gVar 3) gNil))) gNil))) (gOp modD (gOp divD (gOp ixD (gVar 2) (gC (.int 1))) (gC (.int 4))) (gC (.int 2))))) (sSet 3 (gOp addD (gOp addD (gSl (gVar 3) gNoPart (gPart (gVar 4))) (gLst (gCons (gOp subD (gC (.int 1)) (gOp ixD (gVar 3) (gVar 4))) gNil))) (gSl (gVar 3) (gPart (gOp addD (gVar 4) (gC (.int 1)))) gNoPart)))) sNext) (sSeq (sIf (gT (gOp (eqD false) (gOp modD (gOp ixD (gVar 2) (gC (.int 1))) (gC (.int 4))) (gC (.int 2)))) (sSet 3 (gOp addD (gSl (gVar 3) gNoPart (gPart (gOp modD (gOp ixD (gVar 2) (gC (.int 2))) (gOp addD (gCB lenD (gCons (gVar 3) gNil)) (gC (.int 1)))))) (gSl (gCall d_l_bits (gCons (gOp ixD (gVar 2) (gC (.int 3))) (gCons (gOp subD (gC (.int 16)) (gOp modD (gOp ixD (gVar 2) (gC (.int 0))) (gC (.int 17)))) gNil))) gNoPart (gPart (gOp modD (gOp ixD (gVar 2) (gC (.int 0))) (gC (.int 5))))))) sNext) (sSeq (sIf (gT (gOp (eqD false) (gOp modD (gOp ixD (gVar 2) (gC (.int 1))) (gC (.int 16))) (gC (.int 3)))) (sSet 3 (gOp mulD (gLst (gCons (gOp ixD (gLst (gCons (gC (.int 0)) (gCons (gC (.int 1)) gNil))) (gOp modD (gOp ixD (gVar 2) (gC (.int 2))) (gC (.int 2)))) gNil)) (gCB lenD (gCons (gVar 3) gNil)))) sNext) (sRet (gTup (gCons (gCall d_l_number (gCons (gVar 3) gNil)) (gCons (gCB lenD (gCons (gVar 3) gNil)) gNil)))))))))
noncomputable def d_l_picked : FDen := runD 3 6 (sSeq (sSet 3 (gCall d_l_stream (gCons (gVar 0) (gCons (gC (.int 3)) gNil)))) (sSeq (sIf (gOrT (gT (gOp (eqD false) (gVar 1) (gLst gNil))) (gT (gOp (eqD false) (gOp modD (gOp ixD (gVar 3) (gC (.int 0))) (gC (.int 3))) (gC (.int 0))))) (sRet (gCall d_l_beginning (gCons (gOp ixD (gVar 3) (gC (.int 1))) (gCons (gVar 2) gNil)))) sNext) (sSeq (sAsg (bTup [4, 5]) (gOp ixD (gOp ixD (gVar 1) (gOp modD (gOp ixD (gVar 3) (gC (.int 2))) (gCB lenD (gCons (gVar 1) gNil)))) (gC (.int 0)))) (sSeq (sIf (gT (gOp (eqD false) (gOp modD (gOp ixD (gVar 3) (gC (.int 0))) (gC (.int 3))) (gC (.int 1)))) (sRet (gTup (gCons (gVar 4) (gCons (gVar 5) gNil)))) sNext) (sSeq (sIf (gT (gOp (eqD false) (gOp modD (gOp divD (gOp ixD (gVar 3) (gC (.int 0))) (gC (.int 3))) (gC (.int 2))) (gC (.int 0)))) (sRet (gTup (gCons (gOp divD (gVar 4) (gC (.int 2))) (gCons (gCB max2D (gCons (gC (.int 0)) (gCons (gOp subD (gVar 5) (gC (.int 1))) gNil))) gNil)))) sNext) (sRet (gOp ixD (gLst (gCons (gTup (gCons (gOp addD (gOp mulD (gC (.int 2)) (gVar 4)) (gOp modD (gOp ixD (gVar 3) (gC (.int 1))) (gC (.int 2)))) (gCons (gOp addD (gVar 5) (gC (.int 1))) gNil))) (gCons (gTup (gCons (gVar 4) (gCons (gVar 5) gNil))) gNil))) (gCB int1D (gCons (gOp (eqD false) (gVar 5) (gC (.int 16))) gNil)))))))))
noncomputable def d_l_place : FDen := runD 2 3 (sSeq (sFor (gRng rng1 (gCons (gCB lenD (gCons (gVar 0) gNil)) gNil)) (bName 2) (sIf (gT (gOp (eqD false) (gOp ixD (gOp ixD (gVar 0) (gVar 2)) (gC (.int 0))) (gVar 1))) (sRet (gVar 2)) sNext)) (sRet (gC .non)))
noncomputable def d_l_put : FDen := runD 3 4 (sSeq (sSet 3 (gCall d_l_place (gCons (gVar 0) (gCons (gVar 1) gNil)))) (sSeq (sIf (gT (gOp (isD false) (gVar 3) (gC .non))) (sRet (gOp addD (gVar 0) (gLst (gCons (gTup (gCons (gVar 1) (gCons (gVar 2) gNil))) gNil)))) sNext) (sRet (gOp addD (gOp addD (gSl (gVar 0) gNoPart (gPart (gVar 3))) (gLst (gCons (gTup (gCons (gVar 1) (gCons (gVar 2) gNil))) gNil))) (gSl (gVar 0) (gPart (gOp addD (gVar 3) (gC (.int 1)))) gNoPart)))))
noncomputable def d_l_cell_at : FDen := runD 2 2 (sSeq (sIf (gT (gOp ltD (gVar 1) (gCB lenD (gCons (gVar 0) gNil)))) (sRet (gOp ixD (gVar 0) (gVar 1))) sNext) (sRet (gC (.int 0))))
noncomputable def d_Table_put : FDen := runD 3 3 (sDPut (gFld "Table" "thing_by" (gVar 0)) (gVar 1) (gVar 2))
noncomputable def d_l_thing_by : FDen := runD 1 1 (sRet (gOp ixD (gLst (gCons (gC .non) (gCons (gC (.int 0)) (gCons (gOp modD (gOp divD (gVar 0) (gC (.int 8))) (gC (.int 32))) (gCons (gOp modD (gOp divD (gVar 0) (gC (.int 8))) (gC (.int 32))) (gCons (gOp subD (gNeg (gC (.int 1))) (gOp modD (gOp divD (gVar 0) (gC (.int 8))) (gC (.int 99)))) (gCons (gOp mulD (gVar 0) (gVar 0)) (gCons (gC (.int 31)) (gCons (gOp modD (gOp divD (gVar 0) (gC (.int 8))) (gC (.int 3))) gNil))))))))) (gOp modD (gVar 0) (gC (.int 8)))))
noncomputable def d_l_truth : FDen := runD 2 2 (sRet (gAndV (gUn (instD "bool") (gVar 0)) (gOp (eqD false) (gVar 0) (gVar 1))))
noncomputable def d_l_whole : FDen := runD 1 1 (sRet (gAndV (gUn (instD "int") (gVar 0)) (gNotV (gUn (instD "bool") (gVar 0)))))
noncomputable def d_Table_count : FDen := runD 1 1 (sRet (gDLen (gFld "Table" "thing_by" (gVar 0))))
noncomputable def d_l_same : FDen := runD 2 2 (sSeq (sIf (gT (gOp (isD false) (gVar 1) (gC .non))) (sRet (gOp (isD false) (gVar 0) (gC .non))) sNext) (sRet (gAndV (gCall d_l_whole (gCons (gVar 0) gNil)) (gOp (eqD false) (gVar 0) (gVar 1)))))
noncomputable def d_Table_get : FDen := runD 3 3 (sRet (gDGet2 (gFld "Table" "thing_by" (gVar 0)) (gVar 1) (gVar 2)))
noncomputable def d_l_stands : FDen := runD 3 4 (sSeq (sSet 3 (gCall d_l_place (gCons (gVar 0) (gCons (gVar 1) gNil)))) (sSeq (sIf (gT (gOp (isD false) (gVar 3) (gC .non))) (sRet (gVar 2)) sNext) (sRet (gOp ixD (gOp ixD (gVar 0) (gVar 3)) (gC (.int 1))))))
noncomputable def d_Table_has : FDen := runD 2 2 (sRet (gDIn false (gVar 1) (gFld "Table" "thing_by" (gVar 0))))
noncomputable def d_l_one_told : FDen := runD 4 7 (sSeq (sSet 4 (gCall d_l_thing_by (gCons (gOp divD (gVar 3) (gC (.int 7))) gNil))) (sSeq (sFor (gRng rng1 (gCons (gC (.int 3)) gNil)) (bName 5) (sSeq (sSet 6 (gOp modD (gOp addD (gVar 3) (gVar 5)) (gC (.int 3)))) (sSeq (sIf (gAndT (gT (gOp (eqD false) (gVar 6) (gC (.int 0)))) (gNotT (gT (gCall d_l_same (gCons (gMeth "Table" "get" d_Table_get [.non] (gVar 0) (gCons (gVar 2) gNil)) (gCons (gCall d_l_stands (gCons (gVar 1) (gCons (gVar 2) (gCons (gC .non) gNil)))) gNil)))))) (sRet (gC (.bl false))) sNext) (sSeq (sIf (gAndT (gT (gOp (eqD false) (gVar 6) (gC (.int 1)))) (gNotT (gT (gCall d_l_same (gCons (gMeth "Table" "get" d_Table_get [] (gVar 0) (gCons (gVar 2) (gCons (gVar 4) gNil))) (gCons (gCall d_l_stands (gCons (gVar 1) (gCons (gVar 2) (gCons (gVar 4) gNil)))) gNil)))))) (sRet (gC (.bl false))) sNext) (sIf (gAndT (gT (gOp (eqD false) (gVar 6) (gC (.int 2)))) (gNotT (gT (gCall d_l_truth (gCons (gMeth "Table" "has" d_Table_has [] (gVar 0) (gCons (gVar 2) gNil)) (gCons (gOp (isD true) (gCall d_l_place (gCons (gVar 1) (gCons (gVar 2) gNil))) (gC .non)) gNil)))))) (sRet (gC (.bl false))) sNext))))) (sRet (gAndV (gCall d_l_whole (gCons (gMeth "Table" "count" d_Table_count [] (gVar 0) gNil) gNil)) (gOp (eqD false) (gMeth "Table" "count" d_Table_count [] (gVar 0) gNil) (gCB lenD (gCons (gVar 1) gNil)))))))
noncomputable def d_Table_cut : FDen := runD 2 2 (sSeq (sIf (gT (gDIn true (gVar 1) (gFld "Table" "thing_by" (gVar 0)))) sNever sNext) (sExpr (gDPop (gFld "Table" "thing_by" (gVar 0)) (gVar 1))))
noncomputable def r_Table_cut : XFDen := runR 2 2 (rIf (gT (gDIn true (gVar 1) (gFld "Table" "thing_by" (gVar 0)))) (rRaiseV "NoRow" (pFr (gVar 1))) rNever)
noncomputable def d_l_cut : FDen := runD 2 3 (sTry (sRet (gOp ixD (gLst (gCons (gC .non) (gCons (gC (.bl true)) gNil))) (gCB int1D (gCons (gOp (isD false) (gMeth "Table" "cut" d_Table_cut [] (gVar 0) (gCons (gVar 1) gNil)) (gC .non)) gNil)))) (rE (rAft (gLst (gCons (gC .non) (gCons (gC (.bl true)) gNil))) (rMeth "Table" "cut" r_Table_cut [] (gVar 0) (gCons (gVar 1) gNil)))) 2 tcf_PostError (sSeq (sIf (gT (gIsX xt_0 (gVar 2))) (sRet (gC .non)) sNext) (sRet (gOp ixD (gLst (gCons (gC .non) (gCons (gC (.bl false)) gNil))) (gCB int1D (gCons (gAndV (gIsX xt_1 (gVar 2)) (gIsX xt_2 (gVar 2))) gNil))))))
noncomputable def d_law : FDen := runD 1 8 (sSeq (sSet 1 (gOp modD (gOp ixD (gCall d_l_stream (gCons (gCall d_l_cell_at (gCons (gVar 0) (gCons (gC (.int 0)) gNil))) (gCons (gC (.int 1)) gNil))) (gC (.int 0))) (gC (.int 65536)))) (sSeq (sSet 2 (gMake "Table" d_Table___init__ [] gNil)) (sSeq (sSet 3 (gLst gNil)) (sSeq (sFor (gSeq (gSl (gVar 0) (gPart (gC (.int 1))) (gPart (gC (.int 15))))) (bName 4) (sSeq (sSet 5 (gCall d_l_stream (gCons (gVar 4) (gCons (gC (.int 7)) gNil)))) (sSeq (sSet 6 (gCall d_l_picked (gCons (gOp ixD (gVar 5) (gC (.int 0))) (gCons (gVar 3) (gCons (gVar 1) gNil))))) (sSeq (sIf (gT (gOp ltD (gOp modD (gOp ixD (gVar 5) (gC (.int 1))) (gC (.int 5))) (gC (.int 3)))) (sSeq (sIf (gT (gOp (isD true) (gMeth "Table" "put" d_Table_put [] (gVar 2) (gCons (gVar 6) (gCons (gCall d_l_thing_by (gCons (gOp ixD (gVar 5) (gC (.int 2))) gNil)) gNil))) (gC .non))) (sRet (gC (.bl false))) sNext) (sSet 3 (gCall d_l_put (gCons (gVar 3) (gCons (gVar 6) (gCons (gCall d_l_thing_by (gCons (gOp ixD (gVar 5) (gC (.int 2))) gNil)) gNil)))))) (sSeq (sIf (gNotT (gT (gCall d_l_truth (gCons (gCall d_l_cut (gCons (gVar 2) (gCons (gVar 6) gNil))) (gCons (gOp (isD true) (gCall d_l_place (gCons (gVar 3) (gCons (gVar 6) gNil))) (gC .non)) gNil))))) (sRet (gC (.bl false))) sNext) (sSeq (sSet 3 (gComp [none, some 6] (gSeq (gVar 3)) (bName 0) (gT (gOp (eqD true) (gOp ixD (gVar 0) (gC (.int 0))) (gVar 1))) (gVar 0))) (sIf (gT (gOp (eqD false) (gOp modD (gOp divD (gOp ixD (gVar 5) (gC (.int 1))) (gC (.int 5))) (gC (.int 3))) (gC (.int 0)))) (sSeq (sExpr (gMeth "Table" "put" d_Table_put [] (gVar 2) (gCons (gVar 6) (gCons (gCall d_l_thing_by (gCons (gOp ixD (gVar 5) (gC (.int 2))) gNil)) gNil)))) (sIf (gOrT (gT (gOp (isD true) (gCall d_l_cut (gCons (gVar 2) (gCons (gVar 6) gNil))) (gC (.bl true)))) (gT (gOp (isD true) (gCall d_l_cut (gCons (gVar 2) (gCons (gVar 6) gNil))) (gC (.bl false))))) (sRet (gC (.bl false))) sNext)) sNext)))) (sFor (gSeq (gLst (gCons (gVar 6) (gCons (gCall d_l_picked (gCons (gOp ixD (gVar 5) (gC (.int 3))) (gCons (gVar 3) (gCons (gVar 1) gNil)))) (gCons (gCall d_l_picked (gCons (gOp ixD (gVar 5) (gC (.int 4))) (gCons (gVar 3) (gCons (gVar 1) gNil)))) gNil))))) (bName 7) (sIf (gNotT (gT (gCall d_l_one_told (gCons (gVar 2) (gCons (gVar 3) (gCons (gVar 7) (gCons (gOp ixD (gVar 5) (gC (.int 5))) gNil))))))) (sRet (gC (.bl false))) sNext)))))) (sRet (gC (.bl true)))))))
end Law

namespace Law
open PySem DL
/-! ### the draws -/
def strmL : List Int → Int → List Int
  | [], _ => []
  | k :: ks, n => (n * n + 48271 * n + k) % 2147483647 :: strmL ks ((n * n + 48271 * n + k) % 2147483647)
theorem strmL_length : ∀ (ks : List Int) (n : Int), (strmL ks n).length = ks.length
  | [], _ => rfl
  | k :: ks, n => by simp [strmL, strmL_length ks]
theorem strmL_bd : ∀ (ks : List Int) (n : Int), ∀ x ∈ strmL ks n, 0 ≤ x ∧ x < 2147483647
  | [], _, x, h => by simp [strmL] at h
  | k :: ks, n, x, h => by
    simp only [strmL, List.mem_cons] at h
    rcases h with rfl | h
    · exact ⟨Int.emod_nonneg _ (by decide), Int.emod_lt_of_pos _ (by decide)⟩
    · exact strmL_bd ks _ x h
theorem strm_loop (ks : List Int) : ∀ (c m n : Int) (fs : List Int) (x : Sl) (Ω : List OS), fs.length + ks.length ≤ 1000 → -3000000000 < n → n < 3000000000 → ∃ (z : Int) (y : Sl),
    forD (bName 4) (sSeq (sSet 3 (gOp modD (gOp addD (gOp addD (gOp mulD (gVar 3) (gVar 3)) (gOp mulD (gC (.int 48271)) (gVar 3))) (gVar 4)) (gC (.int 2147483647)))) (sApp 2 (gVar 3))) (ks.map D.int) [.dat (.int c), .dat (.int m), .own (fs.map D.int), .dat (.int n), x] Ω
      = some (.nx [.dat (.int c), .dat (.int m), .own ((fs ++ strmL ks n).map D.int), .dat (.int z), y] Ω) := by
  induction ks with
  | nil => intro c m n fs x Ω _ _ _; exact ⟨n, x, by simp [strmL]⟩
  | cons k ks ih =>
    intro c m n fs x Ω hl h0 h1
    simp only [List.length_cons] at hl
    have b0 : 0 ≤ (n * n + 48271 * n + k) % 2147483647 := Int.emod_nonneg _ (by decide)
    have b1 : (n * n + 48271 * n + k) % 2147483647 < 2147483647 := Int.emod_lt_of_pos _ (by decide)
    obtain ⟨z, y, h⟩ := ih c m ((n * n + 48271 * n + k) % 2147483647) (fs ++ [(n * n + 48271 * n + k) % 2147483647]) (.dat (.int k)) Ω (by simp; omega) (by omega) (by omega)
    refine ⟨z, y, ?_⟩
    have e : fs ++ strmL (k :: ks) n = fs ++ [(n * n + 48271 * n + k) % 2147483647] ++ strmL ks ((n * n + 48271 * n + k) % 2147483647) := by simp [strmL]
    have m1 : mulD (.int n) (.int n) = some (.int (n * n)) := mul_i (.inl ⟨by omega, by omega⟩)
    have m2 : mulD (.int 48271) (.int n) = some (.int (48271 * n)) := mul_i (.inl ⟨by decide, by decide⟩)
    have hb : fs.length < 100000 := by omega
    rw [e, ← h, List.map_cons, for_cons]
    simp [m1, m2, hb]
theorem upD_ints (lo : Int) (n : Nat) : upD lo n = ((List.range n).map fun (k : Nat) => lo + (k : Int)).map D.int := by simp [upD]
theorem strm_den (c : Int) (m : Nat) (hm : m ≤ 900) (Ω : List OS) : ∃ xs : List Int, xs.length = m ∧ (∀ x ∈ xs, 0 ≤ x ∧ x < 2147483647) ∧ d_l_stream [.int c, .int m] Ω = some (.lst (xs.map D.int), Ω) := by
  have b0 : 0 ≤ c % 2147483647 := Int.emod_nonneg _ (by decide)
  have b1 : c % 2147483647 < 2147483647 := Int.emod_lt_of_pos _ (by decide)
  have et : ((m : Int) + 1).toNat = m + 1 := by omega
  have e1 : rng1 [.int ((m : Int) + 1)] = some (upD 0 (m + 1)) := by
    rw [rng_1 (by omega) (by omega), et]
  have eu := upD_ints 0 (m + 1)
  have el : ((List.range (m + 1)).map fun (k : Nat) => 0 + (k : Int)).length = m + 1 := by simp
  generalize ((List.range (m + 1)).map fun (k : Nat) => 0 + (k : Int)) = ks at eu el
  obtain ⟨z, y, h⟩ := strm_loop ks c m (c % 2147483647 + 48271) [] .und Ω (by rw [el, List.length_nil]; omega) (by omega) (by omega)
  have e2 : cutL (strmL ks (c % 2147483647 + 48271)) (some 1) none = (strmL ks (c % 2147483647 + 48271)).drop 1 := cut_from _ 1
  refine ⟨(strmL ks (c % 2147483647 + 48271)).drop 1, by rw [List.length_drop, strmL_length, el]; rfl, fun x hx => strmL_bd _ _ x (List.mem_of_mem_drop hx), ?_⟩
  rw [List.map_nil, List.nil_append, ← eu] at h
  generalize strmL ks (c % 2147483647 + 48271) = xs at h e2 ⊢
  unfold d_l_stream
  rw [ap_run]
  simp only [List.map_cons, List.map_nil, List.length_cons, List.length_nil]
  simp [e1, h, frz, cut_map, e2]
/-! ### bits -/
def bitsL (n : Int) : Nat → List Int
  | 0 => []
  | s + 1 => bitsL (n / 2) s ++ [n % 2]
@[simp] theorem bitsL_length (n : Int) (s : Nat) : (bitsL n s).length = s := by
  induction s generalizing n with
  | zero => rfl
  | succ s ih => simp [bitsL, ih]
theorem bits_loop (l : List D) : ∀ (n m : Int) (fs : List Int) (x : Sl) (Ω : List OS), fs.length + l.length ≤ 1000 → ∃ (z : Int) (y : Sl),
    forD (bName 3) (sSeq (sSet 2 (gOp addD (gLst (gCons (gOp modD (gVar 0) (gC (.int 2))) gNil)) (gVar 2))) (sSet 0 (gOp divD (gVar 0) (gC (.int 2))))) l [.dat (.int n), .dat (.int m), .dat (.lst (fs.map D.int)), x] Ω
      = some (.nx [.dat (.int z), .dat (.int m), .dat (.lst ((bitsL n l.length ++ fs).map D.int)), y] Ω) := by
  induction l with
  | nil => intro n m fs x Ω _; exact ⟨n, x, rfl⟩
  | cons d l ih =>
    intro n m fs x Ω hl
    simp only [List.length_cons] at hl
    obtain ⟨z, y, h⟩ := ih (n / 2) m (n % 2 :: fs) (.dat d) Ω (by simp only [List.length_cons]; omega)
    refine ⟨z, y, ?_⟩
    have e : bitsL n (l.length + 1) ++ fs = bitsL (n / 2) l.length ++ (n % 2 :: fs) := by simp [bitsL]
    rw [List.length_cons, e, ← h, for_cons]
    have hb : 1 + fs.length ≤ 100000 := by omega
    simp [hb]
theorem bits_den (n : Int) (s : Nat) (hs : s ≤ 900) (Ω : List OS) : d_l_bits [.int n, .int s] Ω = some (.lst ((bitsL n s).map D.int), Ω) := by
  obtain ⟨z, y, h⟩ := bits_loop (upD 0 s) n s [] .und Ω (by simp; omega)
  have e1 : rng1 [.int (s : Int)] = some (upD 0 s) := by
    rw [rng_1 (by omega) (by omega), Int.toNat_natCast]
  rw [upD_length, List.append_nil, List.map_nil] at h
  unfold d_l_bits
  rw [ap_run]
  simp only [List.map_cons, List.map_nil, List.length_cons, List.length_nil]
  simp [e1, h]
/-! ### numbers -/
def numL (bs : List Int) : Int := bs.foldl (fun a b => 2 * a + b) 0
theorem num_loop (bs : List Int) : ∀ (a : Int) (x0 x : Sl) (Ω : List OS), ∃ y : Sl,
    forD (bName 2) (sSet 1 (gOp addD (gOp mulD (gC (.int 2)) (gVar 1)) (gVar 2))) (bs.map D.int) [x0, .dat (.int a), x] Ω = some (.nx [x0, .dat (.int (bs.foldl (fun a b => 2 * a + b) a)), y] Ω) := by
  induction bs with
  | nil => intro a x0 x Ω; exact ⟨x, rfl⟩
  | cons b bs ih =>
    intro a x0 x Ω
    obtain ⟨y, h⟩ := ih (2 * a + b) x0 (.dat (.int b)) Ω
    refine ⟨y, ?_⟩
    have m2 : mulD (.int 2) (.int a) = some (.int (2 * a)) := mul_i (.inl ⟨by decide, by decide⟩)
    rw [List.foldl_cons, ← h, List.map_cons, for_cons]
    simp [m2]
theorem num_den (bs : List Int) (Ω : List OS) : d_l_number [.lst (bs.map D.int)] Ω = some (.int (numL bs), Ω) := by
  obtain ⟨y, h⟩ := num_loop bs 0 (.dat (.lst (bs.map D.int))) .und Ω
  unfold d_l_number
  rw [ap_run]
  simp only [List.map_cons, List.map_nil, List.length_cons, List.length_nil]
  simp [h, numL]
end Law
namespace Law
open PySem DL
@[simp] theorem atI_0 {β : Type} (a : β) (l : List β) : L2.atI (a :: l) 0 = some a := by
  have := atI_nat' (a :: l) 0 (by simp)
  simpa using this
@[simp] theorem atI_1 {β : Type} (a b : β) (l : List β) : L2.atI (a :: b :: l) 1 = some b := by
  have := atI_nat' (a :: b :: l) 1 (by simp)
  simpa using this
@[simp] theorem atI_2 {β : Type} (a b c : β) (l : List β) : L2.atI (a :: b :: c :: l) 2 = some c := by
  have := atI_nat' (a :: b :: c :: l) 2 (by simp)
  simpa using this
@[simp] theorem atI_3 {β : Type} (a b c d : β) (l : List β) : L2.atI (a :: b :: c :: d :: l) 3 = some d := by
  have := atI_nat' (a :: b :: c :: d :: l) 3 (by simp)
  simpa using this
/-- bits -/
structure B (bs : List Int) : Prop where
  len : bs.length ≤ 16
  bit : ∀ b ∈ bs, b = 0 ∨ b = 1
theorem bitsL_bit (n : Int) (s : Nat) : ∀ b ∈ bitsL n s, b = 0 ∨ b = 1 := by
  induction s generalizing n with
  | zero => intro b h; simp [bitsL] at h
  | succ s ih =>
    intro b h
    simp only [bitsL, List.mem_append, List.mem_singleton] at h
    rcases h with h | h
    · exact ih _ b h
    · omega
theorem B.take {bs : List Int} (h : B bs) (k : Nat) : B (bs.take k) := ⟨by have := h.len; rw [List.length_take]; omega, fun b hb => h.bit b (List.mem_of_mem_take hb)⟩
theorem bitsL_B (n : Int) {s : Nat} (h : s ≤ 16) : B (bitsL n s) := ⟨by simp [h], bitsL_bit n s⟩
theorem B.flip {bs : List Int} (h : B bs) {a : Nat} (ha : a < bs.length) : B (bs.take a ++ [1 - bs[a]] ++ bs.drop (a + 1)) := by
  refine ⟨?_, fun b hb => ?_⟩
  · have := h.len
    simp only [List.length_append, List.length_take, List.length_drop, List.length_singleton]
    omega
  · simp only [List.mem_append, List.mem_singleton] at hb
    rcases hb with (hb | hb) | hb
    · exact h.bit b (List.mem_of_mem_take hb)
    · have := h.bit bs[a] (List.getElem_mem ha)
      omega
    · exact h.bit b (List.mem_of_mem_drop hb)
noncomputable def gAt : Den := gOp ixD (gLst (gCons (gOp subD (gCB lenD (gCons (gVar 3) gNil)) (gC (.int 1))) (gCons (gOp modD (gOp ixD (gVar 2) (gC (.int 2))) (gCB lenD (gCons (gVar 3) gNil))) gNil))) (gOp modD (gOp divD (gOp ixD (gVar 2) (gC (.int 1))) (gC (.int 4))) (gC (.int 2)))
theorem at_den (X0 X1 y : Sl) (x0 x1 x2 x3 : Int) (bs : List Int) (hne : bs ≠ []) (Ω : List OS) : ∃ a : Nat, a < bs.length ∧ gAt [X0, X1, .dat (.lst ([x0, x1, x2, x3].map D.int)), .dat (.lst (bs.map D.int)), y] Ω = some (.int a, Ω) := by
  have hL : 0 < bs.length := List.length_pos_iff.mpr hne
  have hL' : (0 : Int) < bs.length := by omega
  rcases (by omega : x1 / 4 % 2 = 0 ∨ x1 / 4 % 2 = 1) with h | h
  · refine ⟨bs.length - 1, by omega, ?_⟩
    unfold gAt
    simp [h, hL]
    omega
  · refine ⟨(x2 % bs.length).toNat, ?_, ?_⟩
    · have := Int.emod_lt_of_pos x2 hL'
      have := Int.emod_nonneg x2 (by omega : (bs.length : Int) ≠ 0)
      omega
    · have := Int.emod_nonneg x2 (by omega : (bs.length : Int) ≠ 0)
      unfold gAt
      simp [h, hL]
      omega
theorem st1 (X0 X1 y : Sl) (x0 x1 x2 x3 : Int) (bs : List Int) (hB : B bs) (Ω : List OS) : ∃ (bs' : List Int) (y' : Sl), B bs' ∧ bs'.length = bs.length ∧
    sIf (gAndT (gT (gOp (eqD false) (gOp modD (gOp ixD (gVar 2) (gC (.int 1))) (gC (.int 4))) (gC (.int 1)))) (gT (gOp (eqD true) (gVar 3) (gLst gNil)))) (sSeq (sSet 4 gAt) (sSet 3 (gOp addD (gOp addD (gSl (gVar 3) gNoPart (gPart (gVar 4))) (gLst (gCons (gOp subD (gC (.int 1)) (gOp ixD (gVar 3) (gVar 4))) gNil))) (gSl (gVar 3) (gPart (gOp addD (gVar 4) (gC (.int 1)))) gNoPart)))) sNext
      [X0, X1, .dat (.lst ([x0, x1, x2, x3].map D.int)), .dat (.lst (bs.map D.int)), y] Ω = some (.nx [X0, X1, .dat (.lst ([x0, x1, x2, x3].map D.int)), .dat (.lst (bs'.map D.int)), y'] Ω) := by
  by_cases h1 : x1 % 4 = 1
  · by_cases h2 : bs = []
    · refine ⟨bs, y, hB, rfl, ?_⟩
      have e : eqD true (.lst []) (.lst []) = some (.bl false) := eq_ints true [] []
      subst h2
      simp [h1, e]
    · obtain ⟨a, ha, e1⟩ := at_den X0 X1 y x0 x1 x2 x3 bs h2 Ω
      have e := eq_ints_nil true bs
      refine ⟨bs.take a ++ [1 - bs[a]] ++ bs.drop (a + 1), .dat (.int a), hB.flip ha, by simp only [List.length_append, List.length_take, List.length_drop, List.length_singleton]; omega, ?_⟩
      have c1 : cutL (bs.map D.int) none (some (a : Int)) = (bs.take a).map D.int := by rw [cut_to, List.map_take]
      have c2 : cutL (bs.map D.int) (some ((a : Int) + 1)) none = (bs.drop (a + 1)).map D.int := by
        have : ((a : Int) + 1) = ((a + 1 : Nat) : Int) := by omega
        rw [this, cut_from, List.map_drop]
      have c3 : L2.atI (bs.map D.int) (a : Int) = some (.int bs[a]) := by rw [atI_map, atI_nat' bs a ha]; rfl
      have l1 := hB.len
      have l2 : min a bs.length ≤ 99999 := by omega
      have l3 : min a bs.length + 1 + (bs.length - (a + 1)) ≤ 100000 := by omega
      simp at e1
      simp [h1, e, h2, e1, c1, c2, c3, l2, l3]
  · refine ⟨bs, y, hB, rfl, ?_⟩
    simp [h1]
theorem st2 (X0 X1 y : Sl) (x0 x1 x2 x3 : Int) (bs : List Int) (hB : B bs) (hl : (bs.length : Int) = x0 % 17) (Ω : List OS) : ∃ (bs' : List Int), B bs' ∧
    sIf (gT (gOp (eqD false) (gOp modD (gOp ixD (gVar 2) (gC (.int 1))) (gC (.int 4))) (gC (.int 2)))) (sSet 3 (gOp addD (gSl (gVar 3) gNoPart (gPart (gOp modD (gOp ixD (gVar 2) (gC (.int 2))) (gOp addD (gCB lenD (gCons (gVar 3) gNil)) (gC (.int 1)))))) (gSl (gCall d_l_bits (gCons (gOp ixD (gVar 2) (gC (.int 3))) (gCons (gOp subD (gC (.int 16)) (gOp modD (gOp ixD (gVar 2) (gC (.int 0))) (gC (.int 17)))) gNil))) gNoPart (gPart (gOp modD (gOp ixD (gVar 2) (gC (.int 0))) (gC (.int 5))))))) sNext
      [X0, X1, .dat (.lst ([x0, x1, x2, x3].map D.int)), .dat (.lst (bs.map D.int)), y] Ω = some (.nx [X0, X1, .dat (.lst ([x0, x1, x2, x3].map D.int)), .dat (.lst (bs'.map D.int)), y] Ω) := by
  by_cases h1 : x1 % 4 = 2
  · have l1 := hB.len
    obtain ⟨k, hk⟩ : ∃ k : Nat, x2 % ((bs.length : Int) + 1) = k := ⟨(x2 % ((bs.length : Int) + 1)).toNat, by
      have := Int.emod_nonneg x2 (by omega : (bs.length : Int) + 1 ≠ 0)
      omega⟩
    obtain ⟨s, hs⟩ : ∃ s : Nat, 16 - x0 % 17 = s := ⟨(16 - x0 % 17).toNat, by omega⟩
    obtain ⟨t, ht⟩ : ∃ t : Nat, x0 % 5 = t := ⟨(x0 % 5).toNat, by omega⟩
    have e1 := bits_den x3 s (by omega) Ω
    have c1 : cutL (bs.map D.int) none (some (k : Int)) = (bs.take k).map D.int := by rw [cut_to, List.map_take]
    have c2 : cutL ((bitsL x3 s).map D.int) none (some (t : Int)) = ((bitsL x3 s).take t).map D.int := by rw [cut_to, List.map_take]
    have p1 : (0 : Int) < (bs.length : Int) + 1 := by omega
    have l2 : min k bs.length + min t s ≤ 100000 := by omega
    refine ⟨bs.take k ++ (bitsL x3 s).take t, ⟨by rw [List.length_append, List.length_take, List.length_take, bitsL_length]; omega, fun b hb => ?_⟩, ?_⟩
    · rcases List.mem_append.mp hb with hb | hb
      · exact hB.bit b (List.mem_of_mem_take hb)
      · exact bitsL_bit _ _ b (List.mem_of_mem_take hb)
    · simp [h1, p1, hk, hs, ht, e1, c1, c2, l2]
  · refine ⟨bs, hB, ?_⟩
    simp [h1]
theorem flat_rep (k : Nat) (b : Int) : (List.replicate k [D.int b]).flatten = (List.replicate k b).map D.int := by
  induction k with
  | zero => rfl
  | succ k ih => simp [List.replicate_succ, ih]
theorem st3 (X0 X1 y : Sl) (x0 x1 x2 x3 : Int) (bs : List Int) (hB : B bs) (Ω : List OS) : ∃ (bs' : List Int), B bs' ∧
    sIf (gT (gOp (eqD false) (gOp modD (gOp ixD (gVar 2) (gC (.int 1))) (gC (.int 16))) (gC (.int 3)))) (sSet 3 (gOp mulD (gLst (gCons (gOp ixD (gLst (gCons (gC (.int 0)) (gCons (gC (.int 1)) gNil))) (gOp modD (gOp ixD (gVar 2) (gC (.int 2))) (gC (.int 2)))) gNil)) (gCB lenD (gCons (gVar 3) gNil)))) sNext
      [X0, X1, .dat (.lst ([x0, x1, x2, x3].map D.int)), .dat (.lst (bs.map D.int)), y] Ω = some (.nx [X0, X1, .dat (.lst ([x0, x1, x2, x3].map D.int)), .dat (.lst (bs'.map D.int)), y] Ω) := by
  by_cases h1 : x1 % 16 = 3
  · have l1 := hB.len
    have key : ∀ b : Int, mulD (.lst [.int b]) (.int (bs.length : Int)) = some (.lst ((List.replicate bs.length b).map D.int)) := fun b => by
      rw [mul_l (by omega) (by omega) (by simp; omega), Int.toNat_natCast, flat_rep]
    have k0 := key 0
    have k1 := key 1
    rcases (by omega : x2 % 2 = 0 ∨ x2 % 2 = 1) with h | h
    · refine ⟨List.replicate bs.length 0, ⟨by simp [l1], fun b hb => .inl (List.eq_of_mem_replicate hb)⟩, ?_⟩
      simp at k0
      simp [h1, h, k0]
    · refine ⟨List.replicate bs.length 1, ⟨by simp [l1], fun b hb => .inr (List.eq_of_mem_replicate hb)⟩, ?_⟩
      simp at k1
      simp [h1, h, k1]
  · refine ⟨bs, hB, ?_⟩
    simp [h1]
theorem beg_den (x base : Int) (Ω : List OS) : ∃ bs : List Int, B bs ∧ d_l_beginning [.int x, .int base] Ω = some (.tup [.int (numL bs), .int bs.length], Ω) := by
  obtain ⟨xs, hl, hb, e0⟩ := strm_den x 4 (by decide) Ω
  obtain ⟨x0, x1, x2, x3, rfl⟩ : ∃ x0 x1 x2 x3, xs = [x0, x1, x2, x3] := by
    match xs, hl with
    | [a, b, c, d], _ => exact ⟨a, b, c, d, rfl⟩
  have e1 := bits_den base 16 (by decide) Ω
  obtain ⟨s, hs⟩ : ∃ s : Nat, x0 % 17 = s := ⟨(x0 % 17).toNat, by omega⟩
  have hs' : s ≤ 16 := by omega
  have c1 : cutL ((bitsL base 16).map D.int) none (some (s : Int)) = ((bitsL base 16).take s).map D.int := by rw [cut_to, List.map_take]
  have B0 : B ((bitsL base 16).take s) := (bitsL_B base (Nat.le_refl 16)).take s
  obtain ⟨b1, y1, B1, len1, q1⟩ := st1 (.dat (.int x)) (.dat (.int base)) .und x0 x1 x2 x3 _ B0 Ω
  have hl1 : (b1.length : Int) = x0 % 17 := by rw [len1, hs, List.length_take, bitsL_length]; omega
  obtain ⟨b2, B2, q2⟩ := st2 (.dat (.int x)) (.dat (.int base)) y1 x0 x1 x2 x3 b1 B1 hl1 Ω
  obtain ⟨b3, B3, q3⟩ := st3 (.dat (.int x)) (.dat (.int base)) y1 x0 x1 x2 x3 b2 B2 Ω
  refine ⟨b3, B3, ?_⟩
  have e4 := num_den b3 Ω
  have e0' : d_l_stream [.int x, .int 4] Ω = some (.lst ([x0, x1, x2, x3].map D.int), Ω) := e0
  have e1' : d_l_bits [.int base, .int 16] Ω = some (.lst ((bitsL base 16).map D.int), Ω) := e1
  unfold gAt at q1
  refine run_rt rfl ?_
  refine (seq_nx (ρ' := [.dat (.int x), .dat (.int base), .dat (.lst ([x0, x1, x2, x3].map D.int)), .und, .und]) (Ω' := Ω) (by simp [e0'])).trans ?_
  refine (seq_nx (ρ' := [.dat (.int x), .dat (.int base), .dat (.lst ([x0, x1, x2, x3].map D.int)), .dat (.lst (((bitsL base 16).take s).map D.int)), .und]) (Ω' := Ω) (by simp [e1', hs, c1])).trans ?_
  refine (seq_nx q1).trans ?_
  refine (seq_nx q2).trans ?_
  refine (seq_nx q3).trans ?_
  simp [e4]
end Law
namespace Law
open PySem DL
theorem fold_num (ys : List Int) : ∀ a : Int, ys.foldl (fun a b => 2 * a + b) a = a * 2 ^ ys.length + numL ys := by
  induction ys with
  | nil => intro a; simp [numL]
  | cons b ys ih =>
    intro a
    have h1 := ih (2 * a + b)
    have h2 := ih (2 * 0 + b)
    show List.foldl (fun a b => 2 * a + b) (2 * a + b) ys = a * 2 ^ (ys.length + 1) + List.foldl (fun a b => 2 * a + b) (2 * 0 + b) ys
    rw [h1, h2]
    generalize numL ys = N
    rw [Int.pow_succ]
    generalize (2 : Int) ^ ys.length = p
    have e1 : (2 * a + b) * p = 2 * (a * p) + b * p := by rw [Int.add_mul, Int.mul_assoc]
    have e2 : (2 * 0 + b) * p = b * p := by simp
    have e3 : a * (p * 2) = 2 * (a * p) := by rw [← Int.mul_assoc, Int.mul_comm]
    rw [e1, e2, e3]
    omega
theorem numL_append (xs ys : List Int) : numL (xs ++ ys) = numL xs * 2 ^ ys.length + numL ys := by
  unfold numL
  rw [List.foldl_append, fold_num]
  rfl
theorem pow_pos2 (n : Nat) : (0 : Int) < 2 ^ n := Int.pow_pos (by decide)
theorem numL_bd : ∀ (bs : List Int), (∀ b ∈ bs, b = 0 ∨ b = 1) → 0 ≤ numL bs ∧ numL bs < 2 ^ bs.length
  | [], _ => by simp [numL]
  | b :: bs, h => by
    have ih := numL_bd bs fun c hc => h c (List.mem_cons_of_mem _ hc)
    have e := numL_append [b] bs
    have e1 : numL [b] = b := by simp [numL]
    rw [List.singleton_append, e1] at e
    rw [e, List.length_cons, Int.pow_succ]
    have p := pow_pos2 bs.length
    rcases h b (List.mem_cons_self) with rfl | rfl
    · simp; omega
    · omega
theorem cut_ab {β : Type} (xs : List β) {a b : Nat} (h : a ≤ b) : cutL xs (some (a : Int)) (some (b : Int)) = (xs.drop a).take (b - a) := by
  unfold cutL
  rw [HT.sIx_nat, HT.sIx_nat]
  rcases Nat.le_total a xs.length with h1 | h1
  · rw [Nat.min_eq_left h1]
    rcases Nat.le_total b xs.length with h2 | h2
    · rw [Nat.min_eq_left h2]
    · rw [Nat.min_eq_right h2, List.take_of_length_le (by simp), List.take_of_length_le (by simp; omega)]
  · rw [Nat.min_eq_right h1, List.drop_length, List.drop_eq_nil_of_le h1]; simp
end Law
namespace Law
open PySem DL
theorem cell_den (ns : List Int) (k : Nat) (Ω : List OS) : ∃ c : Int, d_l_cell_at [.scr ns, .int k] Ω = some (.int c, Ω) := by
  by_cases h : k < ns.length
  · refine ⟨ns[k], run_rt rfl (seq_rt ?_)⟩
    have e := atI_nat' ns k h
    simp [h, e]
  · refine ⟨0, run_rt rfl ((seq_nx (ρ' := [.dat (.scr ns), .dat (.int k)]) (Ω' := Ω) ?_).trans ?_)⟩
    · simp [h]
    · simp
theorem base_den (ns : List Int) (Ω : List OS) : ∃ base : Int, 0 ≤ base ∧ base ≤ 65535 ∧ ∀ ρ : List Sl, ρ[0]? = some (.dat (.scr ns)) → gOp modD (gOp ixD (gCall d_l_stream (gCons (gCall d_l_cell_at (gCons (gVar 0) (gCons (gC (.int 0)) gNil))) (gCons (gC (.int 1)) gNil))) (gC (.int 0))) (gC (.int 65536)) ρ Ω = some (.int base, Ω) := by
  obtain ⟨c, hc⟩ := cell_den ns 0 Ω
  obtain ⟨xs, hl, hb, e0⟩ := strm_den c 1 (by decide) Ω
  obtain ⟨x0, rfl⟩ : ∃ x0, xs = [x0] := by
    match xs, hl with
    | [a], _ => exact ⟨a, rfl⟩
  have hc' : d_l_cell_at [.scr ns, .int 0] Ω = some (.int c, Ω) := hc
  have e0' : d_l_stream [.int c, .int 1] Ω = some (.lst [.int x0], Ω) := e0
  refine ⟨x0 % 65536, by omega, by omega, fun ρ hρ => ?_⟩
  simp [hρ, hc', e0']
end Law
namespace Law
open PySem DL
/-! ### rows and tables -/
abbrev Bg := Int × Int
abbrev Rw := Bg × D
def bD (k : Bg) : D := .tup [.int k.1, .int k.2]
def rowD (r : Rw) : D := .tup [bD r.1, r.2]
def rowsD (rs : List Rw) : D := .lst (rs.map rowD)
def kk (k : Bg) : List L2.Key := [.inl k.1, .inl k.2]
def tab (rs : List Rw) : List (List L2.Key × D) := rs.map fun r => (kk r.1, r.2)
def findR (rs : List Rw) (k : Bg) : Option D := (rs.find? fun r => decide (r.1 = k)).map (·.2)
def putR (rs : List Rw) (k : Bg) (v : D) : List Rw := if (rs.any fun r => decide (r.1 = k)) = true then rs.map (fun r => if r.1 = k then (r.1, v) else r) else rs ++ [(k, v)]
def cutR (rs : List Rw) (k : Bg) : List Rw := rs.filter fun r => decide (r.1 ≠ k)
theorem kk_inj {a b : Bg} : kk a = kk b ↔ a = b := by
  obtain ⟨a1, a2⟩ := a
  obtain ⟨b1, b2⟩ := b
  simp [kk]
theorem val_tab (k : Bg) : ∀ rs : List Rw, valD (tab rs) (kk k) = findR rs k
  | [] => rfl
  | r :: rs => by
    have ih := val_tab k rs
    unfold valD findR tab at ih ⊢
    rw [List.map_cons, List.find?_cons, List.find?_cons]
    by_cases h : r.1 = k
    · simp [h]
    · have h' : ¬ kk r.1 = kk k := fun z => h (kk_inj.mp z)
      simpa [h, h'] using ih
theorem any_tab (k : Bg) : ∀ rs : List Rw, ((tab rs).any fun kv => decide (kv.1 = kk k)) = rs.any fun r => decide (r.1 = k)
  | [] => rfl
  | r :: rs => by
    have ih := any_tab k rs
    unfold tab at ih ⊢
    rw [List.map_cons, List.any_cons, List.any_cons, ih]
    congr 1
    exact decide_eq_decide.mpr kk_inj
theorem put_tab (rs : List Rw) (k : Bg) (v : D) : putD (tab rs) (kk k) v = tab (putR rs k v) := by
  unfold putD putR
  rw [any_tab]
  split
  · unfold tab
    rw [List.map_map, List.map_map]
    apply List.map_congr_left
    intro r _
    show (if kk r.1 = kk k then (kk r.1, v) else (kk r.1, r.2)) = _
    by_cases h : r.1 = k
    · rw [if_pos (by rw [h])]; simp [h]
    · rw [if_neg (fun z => h (kk_inj.mp z))]; simp [h]
  · simp [tab]
theorem drop_tab (rs : List Rw) (k : Bg) : dropD (tab rs) (kk k) = tab (cutR rs k) := by
  unfold dropD cutR tab
  rw [List.filter_map]
  congr 1
  apply List.filter_congr
  intro r _
  exact decide_eq_decide.mpr (not_congr kk_inj)
@[simp] theorem tab_length (rs : List Rw) : (tab rs).length = rs.length := by simp [tab]
/-- a beginning -/
structure Be (k : Bg) : Prop where
  s0 : 0 ≤ k.2
  s1 : k.2 ≤ 16
  b0 : 0 ≤ k.1
  b1 : k.1 < 2 ^ k.2.toNat
structure Okr (rs : List Rw) : Prop where
  be : ∀ r ∈ rs, Be r.1
  th : ∀ r ∈ rs, r.2 = .non ∨ ∃ i, r.2 = .int i
  nd : (rs.map (·.1)).Nodup
theorem Okr.nil : Okr [] := ⟨fun _ h => absurd h List.not_mem_nil, fun _ h => absurd h List.not_mem_nil, List.nodup_nil⟩
theorem cut_sub {rs : List Rw} {k : Bg} {r : Rw} (h : r ∈ cutR rs k) : r ∈ rs := (List.mem_filter.mp h).1
theorem Okr.cut {rs : List Rw} (h : Okr rs) (k : Bg) : Okr (cutR rs k) := ⟨fun r hr => h.be r (cut_sub hr), fun r hr => h.th r (cut_sub hr), h.nd.sublist (List.filter_sublist.map _)⟩
theorem keys_put (rs : List Rw) (k : Bg) (v : D) : (putR rs k v).map (·.1) = if (rs.any fun r => decide (r.1 = k)) = true then rs.map (·.1) else rs.map (·.1) ++ [k] := by
  unfold putR
  split
  · rw [List.map_map]
    apply List.map_congr_left
    intro r _
    show (if r.1 = k then (r.1, v) else r).1 = r.1
    split <;> rfl
  · simp
theorem mem_put {rs : List Rw} {k : Bg} {v : D} {r : Rw} (h : r ∈ putR rs k v) : r ∈ rs ∨ r = (k, v) := by
  unfold putR at h
  split at h
  · obtain ⟨q, hq, e⟩ := List.mem_map.mp h
    by_cases z : q.1 = k
    · rw [if_pos z] at e; exact .inr (by rw [← e, z])
    · rw [if_neg z] at e; exact .inl (by rw [← e]; exact hq)
  · rcases List.mem_append.mp h with h | h
    · exact .inl h
    · exact .inr (by simpa using h)
theorem Okr.put {rs : List Rw} (h : Okr rs) {k : Bg} {v : D} (hk : Be k) (hv : v = .non ∨ ∃ i, v = .int i) : Okr (putR rs k v) := by
  refine ⟨fun r hr => ?_, fun r hr => ?_, ?_⟩
  · rcases mem_put hr with z | rfl
    · exact h.be r z
    · exact hk
  · rcases mem_put hr with z | rfl
    · exact h.th r z
    · exact hv
  · rw [keys_put]
    split
    · exact h.nd
    · rename_i hn
      rw [List.nodup_append]
      refine ⟨h.nd, by simp, fun a ha b hb => ?_⟩
      simp only [List.mem_singleton] at hb
      subst hb
      intro z
      subst z
      obtain ⟨r, hr, rfl⟩ := List.mem_map.mp ha
      exact hn (List.any_eq_true.mpr ⟨r, hr, by simp⟩)
theorem len_put (rs : List Rw) (k : Bg) (v : D) : (putR rs k v).length ≤ rs.length + 1 := by
  unfold putR
  split <;> simp
theorem len_cut (rs : List Rw) (k : Bg) : (cutR rs k).length ≤ rs.length := List.length_filter_le _ _
/-! ### the methods of a table -/
structure IsTab (Ω : List OS) (n m : Nat) (rs : List Rw) : Prop where
  ob : Ω[n]? = some (.ins "Table" [("thing_by", .obj m)])
  dc : Ω[m]? = some (.dT (tab rs))
  ne : n ≠ m
theorem look_tb (d : D) : List.lookup ("thing_by" : Str) [("thing_by", d)] = some d := by simp [List.lookup_cons]
theorem look_no {f : Str} (h : (f == ("thing_by" : Str)) = false) (d : D) : List.lookup f [(("thing_by" : Str), d)] = none := by rw [List.lookup_cons, h]; rfl
theorem n_put : (("put" : Str) == "thing_by") = false := by decide +kernel
theorem n_cut : (("cut" : Str) == "thing_by") = false := by decide +kernel
theorem n_count : (("count" : Str) == "thing_by") = false := by decide +kernel
theorem n_get : (("get" : Str) == "thing_by") = false := by decide +kernel
theorem n_has : (("has" : Str) == "thing_by") = false := by decide +kernel
theorem IsTab.set {Ω : List OS} {n m : Nat} {rs rs' : List Rw} (h : IsTab Ω n m rs) : IsTab (Ω.set m (.dT (tab rs'))) n m rs' :=
  ⟨by rw [List.getElem?_set_ne h.ne.symm]; exact h.ob, List.getElem?_set_self (List.getElem?_eq_some_iff.mp h.dc).1, h.ne⟩
theorem tput_den {Ω : List OS} {n m : Nat} {rs : List Rw} (h : IsTab Ω n m rs) (hl : rs.length < 1000) (k : Bg) (v : D) : d_Table_put [.obj n, bD k, v] Ω = some (.non, Ω.set m (.dT (tab (putR rs k v)))) := by
  unfold d_Table_put
  rw [ap_run]
  have hl' : rs.length < 100000 := by omega
  have e : putD (tab rs) [.inl k.1, .inl k.2] v = tab (putR rs k v) := put_tab rs k v
  simp [h.ob, look_tb, bD, h.dc, hl', e]
theorem valb_tab (k : Bg) (rs : List Rw) : valD (tab rs) [.inl k.1, .inl k.2] = findR rs k := val_tab k rs
theorem tcut_den {Ω : List OS} {n m : Nat} {rs : List Rw} (h : IsTab Ω n m rs) (k : Bg) {v : D} (hv : findR rs k = some v) : d_Table_cut [.obj n, bD k] Ω = some (.non, Ω.set m (.dT (tab (cutR rs k)))) := by
  unfold d_Table_cut
  rw [ap_run]
  have e : dropD (tab rs) [.inl k.1, .inl k.2] = tab (cutR rs k) := drop_tab rs k
  have e2 := valb_tab k rs
  rw [hv] at e2
  simp [h.ob, look_tb, bD, h.dc, e, e2]
end Law
namespace Law
open PySem DL
@[simp] theorem ix_rows (rs : List Rw) (i : Int) : ixD (rowsD rs) (.int i) = L2.atI (rs.map rowD) i := (rfl)
@[simp] theorem len_rows (rs : List Rw) : lenD [rowsD rs] = some (.int rs.length) := by simp [rowsD]
@[simp] theorem sl_rows (rs : List Rw) (lo hi : Option Int) : slD (rowsD rs) lo hi = some (.lst (cutL (rs.map rowD) lo hi)) := (rfl)
@[simp] theorem seq_rows (rs : List Rw) : seqD (rowsD rs) = some (rs.map rowD) := (rfl)
@[simp] theorem ix_row0 (r : Rw) : ixD (rowD r) (.int 0) = some (bD r.1) := by unfold rowD; rw [ix_tup]; exact atI_0 _ _
@[simp] theorem ix_row1 (r : Rw) : ixD (rowD r) (.int 1) = some r.2 := by unfold rowD; rw [ix_tup]; exact atI_1 _ _ _
theorem add_rows (rs : List Rw) (xs : List D) (h : rs.length + xs.length ≤ 100000) : addD (rowsD rs) (.lst xs) = some (.lst (rs.map rowD ++ xs)) := by
  unfold rowsD
  rw [add_lst, if_pos (by simpa using h)]
theorem atI_rows {rs : List Rw} {i : Nat} (h : i < rs.length) : L2.atI (rs.map rowD) (i : Int) = some (rowD rs[i]) := by rw [atI_map, atI_nat' _ _ h]; rfl
theorem pl_bD (k : Bg) : pl (bD k) = true := by simp [bD, pl, plL]
theorem dep_bD (k : Bg) : dep (bD k) ≤ 64 := by simp [bD, dep, depL]
theorem bD_inj {a b : Bg} : bD a = bD b ↔ a = b := by
  obtain ⟨a1, a2⟩ := a
  obtain ⟨b1, b2⟩ := b
  simp [bD]
theorem eq_bD (neg : Bool) (a b : Bg) : eqD neg (bD a) (bD b) = some (.bl (if a = b then !neg else neg)) := by
  by_cases h : a = b
  · subst h
    rw [eq_self_pl neg (pl_bD a) (dep_bD a), if_pos rfl]
  · rw [eq_ne_pl neg (pl_bD a) (pl_bD b) (dep_bD a) (dep_bD b) fun z => h (bD_inj.mp z), if_neg h]
theorem th_pl {v : D} (h : v = .non ∨ ∃ i, v = .int i) : pl v = true ∧ dep v = 0 := by
  rcases h with rfl | ⟨i, rfl⟩ <;> simp [pl, dep]
theorem rows_pl : ∀ {rs : List Rw}, (∀ r ∈ rs, r.2 = .non ∨ ∃ i, r.2 = .int i) → plL (rs.map rowD) = true ∧ depL (rs.map rowD) ≤ 3
  | [], _ => by simp [plL, depL]
  | r :: rs, h => by
    obtain ⟨h1, h2⟩ := rows_pl fun q hq => h q (List.mem_cons_of_mem _ hq)
    obtain ⟨t1, t2⟩ := th_pl (h r List.mem_cons_self)
    refine ⟨?_, ?_⟩
    · simp [plL, h1, rowD, pl, bD, t1]
    · simp [depL, rowD, dep, bD, t2]
      omega
theorem pl_rows {rs : List Rw} (h : Okr rs) : pl (rowsD rs) = true ∧ dep (rowsD rs) ≤ 64 := by
  obtain ⟨h1, h2⟩ := rows_pl h.th
  unfold rowsD
  rw [pl, dep]
  exact ⟨h1, by omega⟩
theorem eq_rows_nil {rs : List Rw} (h : Okr rs) : eqD false (rowsD rs) (.lst []) = some (.bl (rs.isEmpty)) := by
  obtain ⟨h1, h2⟩ := pl_rows h
  cases rs with
  | nil => exact eq_self_pl false h1 h2
  | cons r rs => exact eq_ne_pl false h1 (by simp [pl, plL]) h2 (by simp [dep, depL]) (by simp [rowsD])
@[simp] theorem atI_4 {β : Type} (a b c d e : β) (l : List β) : L2.atI (a :: b :: c :: d :: e :: l) 4 = some e := by
  have := atI_nat' (a :: b :: c :: d :: e :: l) 4 (by simp)
  simpa using this
@[simp] theorem atI_5 {β : Type} (a b c d e f : β) (l : List β) : L2.atI (a :: b :: c :: d :: e :: f :: l) 5 = some f := by
  have := atI_nat' (a :: b :: c :: d :: e :: f :: l) 5 (by simp)
  simpa using this
@[simp] theorem atI_6 {β : Type} (a b c d e f g : β) (l : List β) : L2.atI (a :: b :: c :: d :: e :: f :: g :: l) 6 = some g := by
  have := atI_nat' (a :: b :: c :: d :: e :: f :: g :: l) 6 (by simp)
  simpa using this
@[simp] theorem atI_7 {β : Type} (a b c d e f g h : β) (l : List β) : L2.atI (a :: b :: c :: d :: e :: f :: g :: h :: l) 7 = some h := by
  have := atI_nat' (a :: b :: c :: d :: e :: f :: g :: h :: l) 7 (by simp)
  simpa using this
theorem upD_cons (lo : Int) (n : Nat) : upD lo (n + 1) = D.int lo :: upD (lo + 1) n := by
  unfold upD
  rw [List.range_succ_eq_map, List.map_cons, List.map_map]
  congr 1
  · simp
  · apply List.map_congr_left
    intro k _
    show D.int (lo + ((k + 1 : Nat) : Int)) = D.int (lo + 1 + (k : Int))
    congr 1
    omega
def idxR (rs : List Rw) (k : Bg) : Option Nat := rs.findIdx? fun r => decide (r.1 = k)
theorem place_loop (k : Bg) (Ω : List OS) : ∀ (suf pre : List Rw) (x : Sl), (∀ j, idxR suf k = some j → forD (bName 2) (sIf (gT (gOp (eqD false) (gOp ixD (gOp ixD (gVar 0) (gVar 2)) (gC (.int 0))) (gVar 1))) (sRet (gVar 2)) sNext) (upD pre.length suf.length) [.dat (rowsD (pre ++ suf)), .dat (bD k), x] Ω = some (.rt (.int (pre.length + j : Nat)) Ω)) ∧
    (idxR suf k = none → ∃ y, forD (bName 2) (sIf (gT (gOp (eqD false) (gOp ixD (gOp ixD (gVar 0) (gVar 2)) (gC (.int 0))) (gVar 1))) (sRet (gVar 2)) sNext) (upD pre.length suf.length) [.dat (rowsD (pre ++ suf)), .dat (bD k), x] Ω = some (.nx [.dat (rowsD (pre ++ suf)), .dat (bD k), y] Ω))
  | [], pre, x => ⟨fun j h => by simp [idxR] at h, fun _ => ⟨x, rfl⟩⟩
  | r :: suf, pre, x => by
    obtain ⟨ih1, ih2⟩ := place_loop k Ω suf (pre ++ [r]) (.dat (.int pre.length))
    have el : ((pre ++ [r]).length : Int) = (pre.length : Int) + 1 := by simp
    have ea : pre ++ [r] ++ suf = pre ++ r :: suf := by simp
    rw [el, ea] at ih1 ih2
    have eget : L2.atI ((pre ++ r :: suf).map rowD) (pre.length : Int) = some (rowD r) := by
      rw [atI_rows (by simp)]
      simp
    generalize pre ++ r :: suf = all at *
    have e1 := eq_bD false r.1 k
    rw [List.length_cons, upD_cons]
    by_cases h : r.1 = k
    · rw [if_pos h] at e1
      have ei : idxR (r :: suf) k = some 0 := by simp [idxR, List.findIdx?_cons, h]
      rw [ei]
      refine ⟨fun j hj => ?_, fun z => nomatch z⟩
      cases hj
      rw [for_cons]
      simp [eget, e1]
    · rw [if_neg h] at e1
      have ei : idxR (r :: suf) k = (idxR suf k).map (· + 1) := by simp [idxR, List.findIdx?_cons, h]
      have step : ∀ rest, forD (bName 2) (sIf (gT (gOp (eqD false) (gOp ixD (gOp ixD (gVar 0) (gVar 2)) (gC (.int 0))) (gVar 1))) (sRet (gVar 2)) sNext) (D.int pre.length :: rest) [.dat (rowsD all), .dat (bD k), x] Ω = forD (bName 2) (sIf (gT (gOp (eqD false) (gOp ixD (gOp ixD (gVar 0) (gVar 2)) (gC (.int 0))) (gVar 1))) (sRet (gVar 2)) sNext) rest [.dat (rowsD all), .dat (bD k), .dat (.int pre.length)] Ω := fun rest => by
        rw [for_cons]
        simp [eget, e1]
      rw [step, ei]
      refine ⟨fun j hj => ?_, fun hn => ?_⟩
      · obtain ⟨j', h1, rfl⟩ := Option.map_eq_some_iff.mp hj
        have := ih1 j' h1
        rw [this]
        congr 3
        simp
        omega
      · exact ih2 (by simpa using hn)
def optI : Option Nat → D
  | none => .non
  | some i => .int i
theorem place_den (rs : List Rw) (k : Bg) (hl : rs.length ≤ 900) (Ω : List OS) : d_l_place [rowsD rs, bD k] Ω = some (optI (idxR rs k), Ω) := by
  obtain ⟨h1, h2⟩ := place_loop k Ω rs [] .und
  have e1 : rng1 [.int (rs.length : Int)] = some (upD 0 rs.length) := by rw [rng_1 (by omega) (by omega), Int.toNat_natCast]
  unfold d_l_place
  rw [ap_run]
  cases q : idxR rs k with
  | some j =>
    have := h1 j q
    simp at this
    simp [e1, this, optI]
  | none =>
    obtain ⟨y, this⟩ := h2 q
    simp at this
    simp [e1, this, optI]
theorem idx_some {rs : List Rw} {k : Bg} {i : Nat} (h : idxR rs k = some i) : ∃ hi : i < rs.length, rs[i].1 = k ∧ ∀ j (hj : j < i), rs[j].1 ≠ k := by
  unfold idxR at h
  rw [List.findIdx?_eq_some_iff_getElem] at h
  obtain ⟨hi, h1, h2⟩ := h
  exact ⟨hi, by simpa using h1, fun j hj => by simpa using h2 j hj⟩
theorem idx_none {rs : List Rw} {k : Bg} : idxR rs k = none ↔ ∀ r ∈ rs, r.1 ≠ k := by
  unfold idxR
  rw [List.findIdx?_eq_none_iff]
  simp
theorem find_none {rs : List Rw} {k : Bg} : findR rs k = none ↔ ∀ r ∈ rs, r.1 ≠ k := by
  unfold findR
  rw [Option.map_eq_none_iff, List.find?_eq_none]
  simp
theorem find_mem {rs : List Rw} (h : (rs.map (·.1)).Nodup) {r : Rw} (hr : r ∈ rs) : findR rs r.1 = some r.2 := by
  induction rs with
  | nil => exact absurd hr List.not_mem_nil
  | cons q rs ih =>
    rw [List.map_cons, List.nodup_cons] at h
    unfold findR
    rw [List.find?_cons]
    rcases List.mem_cons.mp hr with rfl | hr
    · simp
    · have ne : ¬ q.1 = r.1 := fun z => h.1 (by rw [z]; exact List.mem_map.mpr ⟨r, hr, rfl⟩)
      have := ih h.2 hr
      unfold findR at this
      simp [ne, this]
theorem find_some {rs : List Rw} {k : Bg} {v : D} (h : findR rs k = some v) : (k, v) ∈ rs := by
  unfold findR at h
  obtain ⟨r, h1, h2⟩ := Option.map_eq_some_iff.mp h
  have := List.mem_of_find?_eq_some h1
  have e := List.find?_some h1
  simp at e
  rw [← h2, ← e]
  exact this
theorem put_at {k : Bg} {v : D} : ∀ {rs : List Rw} {i : Nat}, (rs.map (·.1)).Nodup → idxR rs k = some i → rs.take i ++ [(k, v)] ++ rs.drop (i + 1) = putR rs k v
  | [], i, _, h => by simp [idxR] at h
  | r :: rs, i, hn, h => by
    rw [List.map_cons, List.nodup_cons] at hn
    by_cases e : r.1 = k
    · have ei : idxR (r :: rs) k = some 0 := by simp [idxR, List.findIdx?_cons, e]
      rw [ei] at h
      cases h
      unfold putR
      rw [if_pos (by simp [e])]
      rw [List.map_cons, if_pos e]
      have : rs.map (fun r => if r.1 = k then (r.1, v) else r) = rs := by
        rw [List.map_congr_left (g := id) fun q hq => ?_]
        · simp
        · rw [if_neg (fun z => hn.1 (by rw [e, ← z]; exact List.mem_map.mpr ⟨q, hq, rfl⟩))]; rfl
      rw [this]
      simp [e]
    · have ei : idxR (r :: rs) k = (idxR rs k).map (· + 1) := by simp [idxR, List.findIdx?_cons, e]
      rw [ei] at h
      obtain ⟨j, h1, rfl⟩ := Option.map_eq_some_iff.mp h
      have ih := put_at (v := v) hn.2 h1
      have an : (rs.any fun r => decide (r.1 = k)) = true := by
        obtain ⟨hi, q, _⟩ := idx_some h1
        exact List.any_eq_true.mpr ⟨rs[j], List.getElem_mem hi, by simp [q]⟩
      unfold putR at ih ⊢
      rw [if_pos an] at ih
      rw [if_pos (by simp [an]), List.map_cons, if_neg e, ← ih]
      simp
theorem lput_den {rs : List Rw} (h : Okr rs) (hl : rs.length ≤ 900) (k : Bg) (v : D) (Ω : List OS) : d_l_put [rowsD rs, bD k, v] Ω = some (rowsD (putR rs k v), Ω) := by
  have e := place_den rs k hl Ω
  unfold d_l_put
  rw [ap_run]
  cases q : idxR rs k with
  | none =>
    rw [q] at e
    have en : putR rs k v = rs ++ [(k, v)] := by
      unfold putR
      rw [if_neg]
      intro z
      obtain ⟨r, hr, z⟩ := List.any_eq_true.mp z
      exact idx_none.mp q r hr (by simpa using z)
    have ha := add_rows rs [.tup [bD k, v]] (by simp; omega)
    rw [en]
    have e2 : rowsD (rs ++ [(k, v)]) = .lst (rs.map rowD ++ [.tup [bD k, v]]) := by simp [rowsD, rowD]
    rw [e2]
    simp [e, optI, isD, isNone, ha]
  | some i =>
    rw [q] at e
    obtain ⟨hi, _, _⟩ := idx_some q
    have hp := put_at (v := v) h.nd q
    have c1 : cutL (rs.map rowD) none (some (i : Int)) = (rs.take i).map rowD := by rw [cut_to, List.map_take]
    have c2 : cutL (rs.map rowD) (some ((i : Int) + 1)) none = (rs.drop (i + 1)).map rowD := by
      have : ((i : Int) + 1) = ((i + 1 : Nat) : Int) := by omega
      rw [this, cut_from, List.map_drop]
    have l2 : min i rs.length ≤ 99999 := by omega
    have l3 : min i rs.length + 1 + (rs.length - (i + 1)) ≤ 100000 := by omega
    rw [← hp]
    have en : rowsD (rs.take i ++ [(k, v)] ++ rs.drop (i + 1)) = .lst ((rs.take i).map rowD ++ (.tup [bD k, v] :: (rs.drop (i + 1)).map rowD)) := by simp [rowsD, rowD]
    rw [en]
    simp [e, optI, isD, isNone, c1, c2, l2, l3]
theorem thing_all {x : Int} (h0 : 0 ≤ x) (h1 : x < 2147483647) : ∃ v : D, (v = .non ∨ ∃ i, v = .int i) ∧ ∀ Ω, d_l_thing_by [.int x] Ω = some (v, Ω) := by
  have m : mulD (.int x) (.int x) = some (.int (x * x)) := mul_i (.inl ⟨by omega, by omega⟩)
  have r : ∀ i : Int, 0 ≤ i → i < 8 → ∃ v : D, (v = .non ∨ ∃ i, v = .int i) ∧ L2.atI [D.non, .int 0, .int (x / 8 % 32), .int (x / 8 % 32), .int (-1 - x / 8 % 99), .int (x * x), .int 31, .int (x / 8 % 3)] i = some v := fun i a b => by
    rcases (by omega : i = 0 ∨ i = 1 ∨ i = 2 ∨ i = 3 ∨ i = 4 ∨ i = 5 ∨ i = 6 ∨ i = 7) with rfl | rfl | rfl | rfl | rfl | rfl | rfl | rfl
    · exact ⟨_, .inl rfl, by simp⟩
    all_goals exact ⟨_, .inr ⟨_, rfl⟩, by simp; rfl⟩
  obtain ⟨v, hv, e⟩ := r (x % 8) (by omega) (by omega)
  refine ⟨v, hv, fun Ω => ?_⟩
  unfold d_l_thing_by
  rw [ap_run]
  simp [m, e]
theorem be_B {bs : List Int} (h : B bs) : Be (numL bs, (bs.length : Int)) := by
  have := numL_bd bs h.bit
  have := h.len
  exact ⟨by show (0 : Int) ≤ bs.length; omega, by show (bs.length : Int) ≤ 16; omega, by show 0 ≤ numL bs; omega, by show numL bs < 2 ^ (bs.length : Int).toNat; simp; omega⟩
theorem begb_den (x base : Int) (Ω : List OS) : ∃ k : Bg, Be k ∧ d_l_beginning [.int x, .int base] Ω = some (bD k, Ω) := by
  obtain ⟨bs, hB, e⟩ := beg_den x base Ω
  exact ⟨_, be_B hB, e⟩
theorem Be.up {k : Bg} (h : Be k) : Be (k.1 / 2, if k.2 - 1 > 0 then k.2 - 1 else 0) := by
  obtain ⟨b, s⟩ := k
  obtain ⟨s0, s1, b0, b1⟩ := h
  dsimp only at *
  obtain ⟨n, rfl⟩ : ∃ n : Nat, s = n := ⟨s.toNat, by omega⟩
  cases n with
  | zero =>
    simp at b1
    refine ⟨by simp, by simp, ?_, ?_⟩
    · show 0 ≤ b / 2; omega
    · show b / 2 < _; simp; omega
  | succ n =>
    rw [Int.toNat_natCast, Int.pow_succ] at b1
    have e : (if ((n + 1 : Nat) : Int) - 1 > 0 then ((n + 1 : Nat) : Int) - 1 else 0) = (n : Int) := by split <;> omega
    rw [e]
    refine ⟨by show (0 : Int) ≤ n; omega, by show (n : Int) ≤ 16; omega, by show 0 ≤ b / 2; omega, ?_⟩
    show b / 2 < 2 ^ (n : Int).toNat
    rw [Int.toNat_natCast]
    generalize (2 : Int) ^ n = p at *
    omega
theorem Be.dn {k : Bg} (h : Be k) (hs : k.2 ≠ 16) {c : Int} (c0 : 0 ≤ c) (c1 : c < 2) : Be (2 * k.1 + c, k.2 + 1) := by
  obtain ⟨b, s⟩ := k
  obtain ⟨s0, s1, b0, b1⟩ := h
  dsimp only at *
  obtain ⟨n, rfl⟩ : ∃ n : Nat, s = n := ⟨s.toNat, by omega⟩
  refine ⟨by show (0 : Int) ≤ (n : Int) + 1; omega, by show (n : Int) + 1 ≤ 16; omega, by show 0 ≤ 2 * b + c; omega, ?_⟩
  show 2 * b + c < 2 ^ ((n : Int) + 1).toNat
  rw [show ((n : Int) + 1).toNat = n + 1 by omega, Int.pow_succ]
  rw [Int.toNat_natCast] at b1
  generalize (2 : Int) ^ n = p at *
  omega
theorem picked_den (x base : Int) {rs : List Rw} (h : Okr rs) (hl : rs.length ≤ 900) (Ω : List OS) : ∃ k : Bg, Be k ∧ d_l_picked [.int x, rowsD rs, .int base] Ω = some (bD k, Ω) := by
  obtain ⟨xs, xl, xb, e0⟩ := strm_den x 3 (by decide) Ω
  obtain ⟨x0, x1, x2, rfl⟩ : ∃ x0 x1 x2, xs = [x0, x1, x2] := by
    match xs, xl with
    | [a, b, c], _ => exact ⟨a, b, c, rfl⟩
  have e0' : d_l_stream [.int x, .int 3] Ω = some (.lst ([x0, x1, x2].map D.int), Ω) := e0
  have en := eq_rows_nil h
  have s1 : sSet 3 (gCall d_l_stream (gCons (gVar 0) (gCons (gC (.int 3)) gNil))) [.dat (.int x), .dat (rowsD rs), .dat (.int base), .und, .und, .und] Ω = some (.nx [.dat (.int x), .dat (rowsD rs), .dat (.int base), .dat (.lst ([x0, x1, x2].map D.int)), .und, .und] Ω) := by simp [e0']
  by_cases hf : rs = [] ∨ x0 % 3 = 0
  · obtain ⟨k, hk, ek⟩ := begb_den x1 base Ω
    refine ⟨k, hk, run_rt rfl ((seq_nx s1).trans (seq_rt ?_))⟩
    by_cases hn : rs = []
    · subst hn
      simp [en, ek]
    · have hz := hf.resolve_left hn
      have he : rs.isEmpty = false := by simpa using hn
      rw [he] at en
      simp [en, hz, ek]
  · rw [not_or] at hf
    obtain ⟨hn, hz⟩ := hf
    have he : rs.isEmpty = false := by simpa using hn
    rw [he] at en
    have hL : 0 < rs.length := List.length_pos_iff.mpr hn
    obtain ⟨i, hi, ei⟩ : ∃ i : Nat, i < rs.length ∧ x2 % (rs.length : Int) = i := ⟨(x2 % (rs.length : Int)).toNat, by
      have := Int.emod_lt_of_pos x2 (by omega : (0 : Int) < rs.length)
      have := Int.emod_nonneg x2 (by omega : (rs.length : Int) ≠ 0)
      omega, by
      have := Int.emod_nonneg x2 (by omega : (rs.length : Int) ≠ 0)
      omega⟩
    have hk := h.be rs[i] (List.getElem_mem hi)
    obtain ⟨k, ek⟩ : ∃ k, rs[i].1 = k := ⟨_, rfl⟩
    rw [ek] at hk
    have eg := atI_rows hi
    have e00 : ixD (rowD rs[i]) (.int 0) = some (.tup [.int k.1, .int k.2]) := by rw [ix_row0, ek]; rfl
    have hL' : (0 : Int) < rs.length := by omega
    refine ⟨if x0 % 3 = 1 then k else if x0 / 3 % 2 = 0 then (k.1 / 2, if k.2 - 1 > 0 then k.2 - 1 else 0) else if k.2 = 16 then k else (2 * k.1 + x1 % 2, k.2 + 1), ?_, run_rt rfl ((seq_nx s1).trans ?_)⟩
    · split
      · exact hk
      · split
        · exact hk.up
        · split
          · exact hk
          · exact hk.dn (by assumption) (by omega) (by omega)
    · refine (seq_nx (ρ' := [.dat (.int x), .dat (rowsD rs), .dat (.int base), .dat (.lst ([x0, x1, x2].map D.int)), .und, .und]) (Ω' := Ω) (by simp [en, hz])).trans ?_
      refine (seq_nx (ρ' := [.dat (.int x), .dat (rowsD rs), .dat (.int base), .dat (.lst ([x0, x1, x2].map D.int)), .dat (.int k.1), .dat (.int k.2)]) (Ω' := Ω) (by simp [hL, ei, eg, e00, bNames])).trans ?_
      by_cases h1 : x0 % 3 = 1
      · rw [if_pos h1]
        exact seq_rt (by simp [h1, bD])
      · rw [if_neg h1]
        refine (seq_nx (ρ' := [.dat (.int x), .dat (rowsD rs), .dat (.int base), .dat (.lst ([x0, x1, x2].map D.int)), .dat (.int k.1), .dat (.int k.2)]) (Ω' := Ω) (by simp [h1])).trans ?_
        by_cases h2 : x0 / 3 % 2 = 0
        · rw [if_pos h2]
          exact seq_rt (by simp [h2, bD])
        · rw [if_neg h2]
          have m2 : mulD (.int 2) (.int k.1) = some (.int (2 * k.1)) := mul_i (.inl ⟨by decide, by decide⟩)
          refine (seq_nx (ρ' := [.dat (.int x), .dat (rowsD rs), .dat (.int base), .dat (.lst ([x0, x1, x2].map D.int)), .dat (.int k.1), .dat (.int k.2)]) (Ω' := Ω) (by simp [h2])).trans ?_
          by_cases h3 : k.2 = 16
          · simp [m2, h3, bD]
          · simp [m2, h3, bD]
end Law
namespace Law
open PySem DL
/-! ### ways out, as equations -/
section
variable {ρ : List Sl} {Ω : List OS}
@[simp] theorem ap_isx (t : Str → Option Bool) (g : Den) : gIsX t g ρ Ω = match g ρ Ω with
  | some (.obj n, Ω1) => (match Ω1[n]? with
    | some (.exc c) => (match t c with | some b => some (.bl b, Ω1) | none => none)
    | _ => none)
  | _ => none := by unfold gIsX; rfl
@[simp] theorem ap_rE (rx : RDen) : rE rx ρ Ω = match rx ρ Ω with | some (c, Ω') => some (c, ρ, Ω') | none => none := (rfl)
@[simp] theorem ap_rAft (f : Den) (r : RDen) : rAft f r ρ Ω = match f ρ Ω with | some (_, Ω1) => r ρ Ω1 | none => none := (rfl)
@[simp] theorem ap_rMeth (c m : Str) (R : XFDen) (dfl : List D) (go : Den) (ga : ADen) : rMeth c m R dfl go ga ρ Ω = match go ρ Ω with
  | some (.obj n, Ω1) => (match Ω1[n]? with
    | some (.ins c' fs) => (if c' = c then (match fs.lookup m with
      | none => (match ga ρ Ω1 with | some (ds, Ω2) => R (.obj n :: (ds ++ dfl)) Ω2 | none => none)
      | some _ => none) else none)
    | _ => none)
  | _ => none := (rfl)
@[simp] theorem ap_rRaiseV (c : Str) (p : VDen) : rRaiseV c p ρ Ω = match p ρ Ω with | some Ω' => some (c, ρ, Ω') | none => none := (rfl)
@[simp] theorem ap_rIf (p : TDen) (s t : SRDen) : rIf p s t ρ Ω = match p ρ Ω with | some (true, Ω') => s ρ Ω' | some (false, Ω') => t ρ Ω' | none => none := (rfl)
@[simp] theorem ap_never : sNever ρ Ω = none := (rfl)
theorem ap_runR (n m : Nat) (r : SRDen) (ds : List D) : runR n m r ds Ω = if ds.length = n then (match r (ds.map Sl.dat ++ List.replicate (m - n) Sl.und) Ω with
    | some (c, _, Ω') => some (c, Ω')
    | none => none) else none := (rfl)
theorem try_rt {s t : SDen} {r : SRDen} {i : Nat} {tc : Str → Bool} {d : D} {Ω' : List OS} (h : s ρ Ω = some (.rt d Ω')) : sTry s r i tc t ρ Ω = some (.rt d Ω') := by unfold sTry; rw [h]
theorem try_ex {s t : SDen} {r : SRDen} {i : Nat} {tc : Str → Bool} {c : Str} {ρ1 : List Sl} {d : D} {Ω1 Ω' : List OS} (h : s ρ Ω = none) (h1 : r ρ Ω = some (c, ρ1, Ω1)) (h2 : tc c = true) (h3 : t (ρ1.set i (.dat (.obj Ω1.length))) (Ω1 ++ [.exc c]) = some (.rt d Ω')) : sTry s r i tc t ρ Ω = some (.rt d Ω') := by
  unfold sTry
  rw [h, h1]
  dsimp only
  rw [if_pos h2, h3]
end
theorem small_i {i : Int} (h0 : -70000 < i) (h1 : i < 70000) : smallI i := by
  have hl : i.natAbs.log2 < 17 := by
    by_cases z : i.natAbs = 0
    · rw [z]; decide
    · exact (Nat.log2_lt z).mpr (by omega)
  refine ⟨by omega, ?_⟩
  have := int_text_length_le (a := i) (k := 17) (by decide) hl
  rw [ofString_length]
  omega
end Law
namespace Law
open PySem DL
theorem pow16le {s : Nat} (h : s ≤ 16) : (2 : Int) ^ s ≤ 65536 := by
  have := Nat.pow_le_pow_right (n := 2) (by decide) h
  have e : ((2 ^ s : Nat) : Int) = (2 : Int) ^ s := by simp
  rw [← e]
  omega
theorem Be.small {k : Bg} (h : Be k) : smallI k.1 ∧ smallI k.2 := by
  obtain ⟨s0, s1, b0, b1⟩ := h
  have   := pow16le (s := k.2.toNat) (by omega)
  exact ⟨small_i (by omega) (by omega), small_i (by omega) (by omega)⟩
theorem IsTab.app {Ω : List OS} {n m : Nat} {rs : List Rw} (h : IsTab Ω n m rs) (o : OS) : IsTab (Ω ++ [o]) n m rs :=
  ⟨by rw [List.getElem?_append_left (List.getElem?_eq_some_iff.mp h.ob).1]; exact h.ob, by rw [List.getElem?_append_left (List.getElem?_eq_some_iff.mp h.dc).1]; exact h.dc, h.ne⟩
theorem tcut_no {Ω : List OS} {n m : Nat} {rs : List Rw} (h : IsTab Ω n m rs) (k : Bg) (hv : findR rs k = none) : d_Table_cut [.obj n, bD k] Ω = none := by
  unfold d_Table_cut
  rw [ap_run]
  have e2 := valb_tab k rs
  rw [hv] at e2
  simp [h.ob, look_tb, bD, h.dc, e2]
theorem rcut_den {Ω : List OS} {n m : Nat} {rs : List Rw} (h : IsTab Ω n m rs) {k : Bg} (hk : Be k) (hv : findR rs k = none) : r_Table_cut [.obj n, bD k] Ω = some (("NoRow" : Str), Ω) := by
  unfold r_Table_cut
  rw [ap_runR]
  have e2 := valb_tab k rs
  rw [hv] at e2
  have hs := hk.small
  have ep : pFr (gVar 1) [.dat (.obj n), .dat (.tup [.int k.1, .int k.2])] Ω = some Ω := by
    unfold pFr
    simp [hs.1, hs.2]
  simp [h.ob, look_tb, bD, h.dc, e2, ep]
theorem lcut_yes {Ω : List OS} {n m : Nat} {rs : List Rw} (h : IsTab Ω n m rs) (k : Bg) {v : D} (hv : findR rs k = some v) : d_l_cut [.obj n, bD k] Ω = some (.bl true, Ω.set m (.dT (tab (cutR rs k)))) := by
  have e := tcut_den h k hv
  refine run_rt rfl (try_rt ?_)
  simp [h.ob, look_no n_cut, e, isD, isNone]
theorem lcut_no {Ω : List OS} {n m : Nat} {rs : List Rw} (h : IsTab Ω n m rs) {k : Bg} (hk : Be k) (hv : findR rs k = none) : d_l_cut [.obj n, bD k] Ω = some (.bl false, Ω ++ [.exc "NoRow"]) := by
  have e := tcut_no h k hv
  have e2 := rcut_den h hk hv
  refine run_rt rfl (try_ex (c := "NoRow") (ρ1 := [.dat (.obj n), .dat (bD k), .und]) (Ω1 := Ω) ?_ ?_ ?_ ?_)
  · simp [h.ob, look_no n_cut, e]
  · simp [h.ob, look_no n_cut, e2]
  · decide
  · simp [xt_0, xt_1, xt_2]
theorem thing_cut (rs : List Rw) (k : Bg) : (∀ r ∈ rs, r.1 ≠ k) → cutR rs k = rs := fun h => by
  unfold cutR
  rw [List.filter_eq_self]
  intro r hr
  simpa using h r hr
theorem cut_put {rs : List Rw} {k : Bg} {v : D} (h : ∀ r ∈ rs, r.1 ≠ k) : cutR (putR rs k v) k = rs := by
  unfold putR
  rw [if_neg (by
    intro z
    obtain ⟨r, hr, z⟩ := List.any_eq_true.mp z
    exact h r hr (by simpa using z))]
  unfold cutR
  rw [List.filter_append, List.filter_eq_self.mpr fun r hr => by simpa using h r hr]
  simp
theorem find_put (rs : List Rw) (k : Bg) (v : D) (h : ∀ r ∈ rs, r.1 ≠ k) : findR (putR rs k v) k = some v := by
  unfold putR
  rw [if_neg (by
    intro z
    obtain ⟨r, hr, z⟩ := List.any_eq_true.mp z
    exact h r hr (by simpa using z))]
  unfold findR
  rw [List.find?_append, List.find?_eq_none.mpr fun r hr => by simpa using h r hr]
  simp
theorem cut_none (rs : List Rw) (k : Bg) : ∀ r ∈ cutR rs k, r.1 ≠ k := fun r hr => by
  have := (List.mem_filter.mp hr).2
  simpa using this
/-! ### what is told -/
theorem tget_den {Ω : List OS} {n m : Nat} {rs : List Rw} (h : IsTab Ω n m rs) (k : Bg) (v : D) : d_Table_get [.obj n, bD k, v] Ω = some ((findR rs k).getD v, Ω) := by
  unfold d_Table_get
  rw [ap_run]
  have e2 := valb_tab k rs
  simp [h.ob, look_tb, bD, h.dc, e2]
theorem thas_den {Ω : List OS} {n m : Nat} {rs : List Rw} (h : IsTab Ω n m rs) (k : Bg) : d_Table_has [.obj n, bD k] Ω = some (.bl (findR rs k).isSome, Ω) := by
  unfold d_Table_has
  rw [ap_run]
  have e2 := valb_tab k rs
  simp [h.ob, look_tb, bD, h.dc, e2]
theorem tcount_den {Ω : List OS} {n m : Nat} {rs : List Rw} (h : IsTab Ω n m rs) : d_Table_count [.obj n] Ω = some (.int rs.length, Ω) := by
  unfold d_Table_count
  rw [ap_run]
  simp [h.ob, look_tb, h.dc]
theorem whole_den (i : Int) (Ω : List OS) : d_l_whole [.int i] Ω = some (.bl true, Ω) := by
  refine run_rt rfl ?_
  simp [instD, tyD]
theorem same_den {v : D} (h : v = .non ∨ ∃ i, v = .int i) (Ω : List OS) : d_l_same [v, v] Ω = some (.bl true, Ω) := by
  have := whole_den
  rcases h with rfl | ⟨i, rfl⟩
  · refine run_rt rfl (seq_rt ?_)
    simp [isD, isNone]
  · refine run_rt rfl ((seq_nx (ρ' := [.dat (.int i), .dat (.int i)]) (Ω' := Ω) (by simp [isD, isNone])).trans ?_)
    simp [this]
theorem find_idx {rs : List Rw} {k : Bg} (hn : (rs.map (·.1)).Nodup) : (∀ i, idxR rs k = some i → ∃ hi : i < rs.length, findR rs k = some rs[i].2) ∧ (idxR rs k = none → findR rs k = none) := by
  refine ⟨fun i h => ?_, fun h => find_none.mpr (idx_none.mp h)⟩
  obtain ⟨hi, e, _⟩ := idx_some h
  refine ⟨hi, ?_⟩
  have := find_mem hn (List.getElem_mem hi)
  rw [e] at this
  exact this
theorem stands_den {rs : List Rw} (ok : Okr rs) (hl : rs.length ≤ 900) (k : Bg) (v : D) (Ω : List OS) : d_l_stands [rowsD rs, bD k, v] Ω = some ((findR rs k).getD v, Ω) := by
  have e := place_den rs k hl Ω
  obtain ⟨f1, f2⟩ := find_idx (k := k) ok.nd
  cases q : idxR rs k with
  | none =>
    rw [q] at e
    rw [f2 q]
    refine run_rt rfl ((seq_nx (ρ' := [.dat (rowsD rs), .dat (bD k), .dat v, .dat .non]) (Ω' := Ω) (by simp [e, optI])).trans (seq_rt ?_))
    simp [isD, isNone]
  | some i =>
    rw [q] at e
    obtain ⟨hi, ef⟩ := f1 i q
    rw [ef]
    have eg := atI_rows hi
    refine run_rt rfl ((seq_nx (ρ' := [.dat (rowsD rs), .dat (bD k), .dat v, .dat (.int i)]) (Ω' := Ω) (by simp [e, optI])).trans ?_)
    refine (seq_nx (ρ' := [.dat (rowsD rs), .dat (bD k), .dat v, .dat (.int i)]) (Ω' := Ω) (by simp [isD, isNone])).trans ?_
    simp [eg]
theorem truth_den (b : Bool) (Ω : List OS) : d_l_truth [.bl b, .bl b] Ω = some (.bl true, Ω) := by
  refine run_rt rfl ?_
  cases b <;> simp [instD, tyD]
theorem isplace {rs : List Rw} (ok : Okr rs) (k : Bg) : isD true (optI (idxR rs k)) .non = some (.bl (findR rs k).isSome) := by
  obtain ⟨f1, f2⟩ := find_idx (k := k) ok.nd
  cases q : idxR rs k with
  | none => rw [f2 q]; simp [optI, isD, isNone]
  | some i => obtain ⟨_, ef⟩ := f1 i q; rw [ef]; simp [optI, isD, isNone]
theorem getD_ok {rs : List Rw} (ok : Okr rs) (k : Bg) {v : D} (hv : v = .non ∨ ∃ i, v = .int i) : (findR rs k).getD v = .non ∨ ∃ i, (findR rs k).getD v = .int i := by
  cases q : findR rs k with
  | none => exact hv
  | some w => exact ok.th _ (find_some q)
noncomputable def toldS : SDen := (sSeq (sSet 6 (gOp modD (gOp addD (gVar 3) (gVar 5)) (gC (.int 3)))) (sSeq (sIf (gAndT (gT (gOp (eqD false) (gVar 6) (gC (.int 0)))) (gNotT (gT (gCall d_l_same (gCons (gMeth "Table" "get" d_Table_get [.non] (gVar 0) (gCons (gVar 2) gNil)) (gCons (gCall d_l_stands (gCons (gVar 1) (gCons (gVar 2) (gCons (gC .non) gNil)))) gNil)))))) (sRet (gC (.bl false))) sNext) (sSeq (sIf (gAndT (gT (gOp (eqD false) (gVar 6) (gC (.int 1)))) (gNotT (gT (gCall d_l_same (gCons (gMeth "Table" "get" d_Table_get [] (gVar 0) (gCons (gVar 2) (gCons (gVar 4) gNil))) (gCons (gCall d_l_stands (gCons (gVar 1) (gCons (gVar 2) (gCons (gVar 4) gNil)))) gNil)))))) (sRet (gC (.bl false))) sNext) (sIf (gAndT (gT (gOp (eqD false) (gVar 6) (gC (.int 2)))) (gNotT (gT (gCall d_l_truth (gCons (gMeth "Table" "has" d_Table_has [] (gVar 0) (gCons (gVar 2) gNil)) (gCons (gOp (isD true) (gCall d_l_place (gCons (gVar 1) (gCons (gVar 2) gNil))) (gC .non)) gNil)))))) (sRet (gC (.bl false))) sNext))))
theorem told_step {Ω : List OS} {n m : Nat} {rs : List Rw} (h : IsTab Ω n m rs) (ok : Okr rs) (hl : rs.length ≤ 900) (k : Bg) (x j : Int) {v : D} (hv : v = .non ∨ ∃ i, v = .int i) (x6 : Sl) : ∃ y6 : Sl,
    toldS [.dat (.obj n), .dat (rowsD rs), .dat (bD k), .dat (.int x), .dat v, .dat (.int j), x6] Ω = some (.nx [.dat (.obj n), .dat (rowsD rs), .dat (bD k), .dat (.int x), .dat v, .dat (.int j), y6] Ω) := by
  have g1 := tget_den h k .non
  have g2 := tget_den h k v
  have g3 := thas_den h k
  have t1 := stands_den ok hl k .non Ω
  have t2 := stands_den ok hl k v Ω
  have s1 := same_den (getD_ok ok k (v := .non) (.inl rfl)) Ω
  have s2 := same_den (getD_ok ok k hv) Ω
  have p1 := place_den rs k hl Ω
  have p2 := isplace ok k
  have p3 := truth_den (findR rs k).isSome Ω
  refine ⟨.dat (.int ((x + j) % 3)), ?_⟩
  unfold toldS
  refine (seq_nx (ρ' := [.dat (.obj n), .dat (rowsD rs), .dat (bD k), .dat (.int x), .dat v, .dat (.int j), .dat (.int ((x + j) % 3))]) (Ω' := Ω) (by simp)).trans ?_
  generalize hw : (x + j) % 3 = w
  refine (seq_nx (ρ' := [.dat (.obj n), .dat (rowsD rs), .dat (bD k), .dat (.int x), .dat v, .dat (.int j), .dat (.int w)]) (Ω' := Ω) ?_).trans ?_
  · by_cases h0 : w = 0
    · simp [h0, h.ob, look_no n_get, g1, t1, s1]
    · simp [h0]
  refine (seq_nx (ρ' := [.dat (.obj n), .dat (rowsD rs), .dat (bD k), .dat (.int x), .dat v, .dat (.int j), .dat (.int w)]) (Ω' := Ω) ?_).trans ?_
  · by_cases h0 : w = 1
    · simp [h0, h.ob, look_no n_get, g2, t2, s2]
    · simp [h0]
  by_cases h0 : w = 2
  · simp [h0, h.ob, look_no n_has, g3, p1, p2, p3]
  · simp [h0]
theorem told_loop {Ω : List OS} {n m : Nat} {rs : List Rw} (h : IsTab Ω n m rs) (ok : Okr rs) (hl : rs.length ≤ 900) (k : Bg) (x : Int) {v : D} (hv : v = .non ∨ ∃ i, v = .int i) : ∀ (js : List Int) (x5 x6 : Sl), ∃ y5 y6 : Sl,
    forD (bName 5) toldS (js.map D.int) [.dat (.obj n), .dat (rowsD rs), .dat (bD k), .dat (.int x), .dat v, x5, x6] Ω = some (.nx [.dat (.obj n), .dat (rowsD rs), .dat (bD k), .dat (.int x), .dat v, y5, y6] Ω)
  | [], x5, x6 => ⟨x5, x6, rfl⟩
  | j :: js, x5, x6 => by
    obtain ⟨y6, e1⟩ := told_step h ok hl k x j hv x6
    obtain ⟨z5, z6, e2⟩ := told_loop h ok hl k x hv js (.dat (.int j)) y6
    refine ⟨z5, z6, ?_⟩
    rw [List.map_cons, for_cons, ap_bName]
    dsimp only [List.set]
    rw [e1]
    exact e2
theorem one_told {Ω : List OS} {n m : Nat} {rs : List Rw} (h : IsTab Ω n m rs) (ok : Okr rs) (hl : rs.length ≤ 900) (k : Bg) {x : Int} (h0 : 0 ≤ x) (h1 : x < 2147483647) : d_l_one_told [.obj n, rowsD rs, bD k, .int x] Ω = some (.bl true, Ω) := by
  obtain ⟨v, hv, ev0⟩ := thing_all (x := x / 7) (by omega) (by omega)
  have ev := ev0 Ω
  have er : rng1 [.int 3] = some ([0, 1, 2].map D.int) := rng_1 (by decide) (by decide)
  obtain ⟨y5, y6, el⟩ := told_loop h ok hl k x hv [0, 1, 2] .und .und
  have ec := tcount_den h
  have ew := whole_den (rs.length : Int) Ω
  refine run_rt rfl ((seq_nx (ρ' := [.dat (.obj n), .dat (rowsD rs), .dat (bD k), .dat (.int x), .dat v, .und, .und]) (Ω' := Ω) (by simp [ev])).trans ?_)
  refine (seq_nx (ρ' := [.dat (.obj n), .dat (rowsD rs), .dat (bD k), .dat (.int x), .dat v, y5, y6]) (Ω' := Ω) ?_).trans ?_
  · simp only [ap_for, ap_rng, ap_cons, ap_c, ap_nil, er]
    exact el
  · simp [h.ob, look_no n_count, ec, ew]
end Law
namespace Law
open PySem DL
noncomputable def eachS : SDen := (sIf (gNotT (gT (gCall d_l_one_told (gCons (gVar 2) (gCons (gVar 3) (gCons (gVar 7) (gCons (gOp ixD (gVar 5) (gC (.int 5))) gNil))))))) (sRet (gC (.bl false))) sNext)
noncomputable def putS : SDen := (sSeq (sIf (gT (gOp (isD true) (gMeth "Table" "put" d_Table_put [] (gVar 2) (gCons (gVar 6) (gCons (gCall d_l_thing_by (gCons (gOp ixD (gVar 5) (gC (.int 2))) gNil)) gNil))) (gC .non))) (sRet (gC (.bl false))) sNext) (sSet 3 (gCall d_l_put (gCons (gVar 3) (gCons (gVar 6) (gCons (gCall d_l_thing_by (gCons (gOp ixD (gVar 5) (gC (.int 2))) gNil)) gNil))))))
noncomputable def cutS : SDen := (sSeq (sIf (gNotT (gT (gCall d_l_truth (gCons (gCall d_l_cut (gCons (gVar 2) (gCons (gVar 6) gNil))) (gCons (gOp (isD true) (gCall d_l_place (gCons (gVar 3) (gCons (gVar 6) gNil))) (gC .non)) gNil))))) (sRet (gC (.bl false))) sNext) (sSeq (sSet 3 (gComp [none, some 6] (gSeq (gVar 3)) (bName 0) (gT (gOp (eqD true) (gOp ixD (gVar 0) (gC (.int 0))) (gVar 1))) (gVar 0))) (sIf (gT (gOp (eqD false) (gOp modD (gOp divD (gOp ixD (gVar 5) (gC (.int 1))) (gC (.int 5))) (gC (.int 3))) (gC (.int 0)))) (sSeq (sExpr (gMeth "Table" "put" d_Table_put [] (gVar 2) (gCons (gVar 6) (gCons (gCall d_l_thing_by (gCons (gOp ixD (gVar 5) (gC (.int 2))) gNil)) gNil)))) (sIf (gOrT (gT (gOp (isD true) (gCall d_l_cut (gCons (gVar 2) (gCons (gVar 6) gNil))) (gC (.bl true)))) (gT (gOp (isD true) (gCall d_l_cut (gCons (gVar 2) (gCons (gVar 6) gNil))) (gC (.bl false))))) (sRet (gC (.bl false))) sNext)) sNext)))
noncomputable def turnS : SDen := (sSeq (sSet 5 (gCall d_l_stream (gCons (gVar 4) (gCons (gC (.int 7)) gNil)))) (sSeq (sSet 6 (gCall d_l_picked (gCons (gOp ixD (gVar 5) (gC (.int 0))) (gCons (gVar 3) (gCons (gVar 1) gNil))))) (sSeq (sIf (gT (gOp ltD (gOp modD (gOp ixD (gVar 5) (gC (.int 1))) (gC (.int 5))) (gC (.int 3)))) putS cutS) (sFor (gSeq (gLst (gCons (gVar 6) (gCons (gCall d_l_picked (gCons (gOp ixD (gVar 5) (gC (.int 3))) (gCons (gVar 3) (gCons (gVar 1) gNil)))) (gCons (gCall d_l_picked (gCons (gOp ixD (gVar 5) (gC (.int 4))) (gCons (gVar 3) (gCons (gVar 1) gNil)))) gNil))))) (bName 7) eachS))))
theorem comp_cut (k : Bg) : ∀ (rs : List Rw) (x : Sl) (Ω : List OS), compD (bName 0) (gT (gOp (eqD true) (gOp ixD (gVar 0) (gC (.int 0))) (gVar 1))) (gVar 0) (rs.map rowD) [x, .dat (bD k)] Ω = some ((cutR rs k).map rowD, Ω)
  | [], x, Ω => rfl
  | r :: rs, x, Ω => by
    have ih := comp_cut k rs (.dat (rowD r)) Ω
    have e := eq_bD true r.1 k
    rw [List.map_cons]
    unfold compD
    by_cases h : r.1 = k
    · rw [if_pos h] at e
      have ec : cutR (r :: rs) k = cutR rs k := by simp [cutR, h]
      rw [ec]
      simp [e, ih]
    · rw [if_neg h] at e
      have ec : cutR (r :: rs) k = r :: cutR rs k := by simp [cutR, h]
      rw [ec]
      simp [e, ih]
/-- a cut, and what the table is then -/
theorem lcut_den {Ω : List OS} {n m : Nat} {rs : List Rw} (h : IsTab Ω n m rs) {k : Bg} (hk : Be k) : ∃ Ω', IsTab Ω' n m (cutR rs k) ∧ d_l_cut [.obj n, bD k] Ω = some (.bl (findR rs k).isSome, Ω') := by
  cases q : findR rs k with
  | none =>
    have e := thing_cut rs k (find_none.mp q)
    rw [e]
    exact ⟨_, h.app _, lcut_no h hk q⟩
  | some v => exact ⟨_, h.set, lcut_yes h k q⟩
theorem put_den (X0 X4 X6 X7 : Sl) (base x0 x1 x2 x3 x4 x5 x6 : Int) {rs : List Rw} (ok : Okr rs) (hl : rs.length ≤ 50) {Ω : List OS} {n m : Nat} (h : IsTab Ω n m rs) {k : Bg} (hk : Be k) (b0 : 0 ≤ x2) (b1 : x2 < 2147483647) : ∃ (rs' : List Rw) (Ω' : List OS), Okr rs' ∧ rs'.length ≤ rs.length + 1 ∧ IsTab Ω' n m rs' ∧
    putS [X0, .dat (.int base), .dat (.obj n), .dat (rowsD rs), X4, .dat (.lst ([x0, x1, x2, x3, x4, x5, x6].map D.int)), .dat (bD k), X7] Ω = some (.nx [X0, .dat (.int base), .dat (.obj n), .dat (rowsD rs'), X4, .dat (.lst ([x0, x1, x2, x3, x4, x5, x6].map D.int)), .dat (bD k), X7] Ω') := by
  obtain ⟨v, hv, ev⟩ := thing_all b0 b1
  have ep := tput_den h (by omega) k v
  have h' : IsTab (Ω.set m (.dT (tab (putR rs k v)))) n m (putR rs k v) := h.set
  have el := lput_den ok (by omega) k v (Ω.set m (.dT (tab (putR rs k v))))
  refine ⟨putR rs k v, Ω.set m (.dT (tab (putR rs k v))), ok.put hk hv, len_put rs k v, h', ?_⟩
  unfold putS
  refine (seq_nx (ρ' := [X0, .dat (.int base), .dat (.obj n), .dat (rowsD rs), X4, .dat (.lst ([x0, x1, x2, x3, x4, x5, x6].map D.int)), .dat (bD k), X7]) (Ω' := Ω.set m (.dT (tab (putR rs k v)))) ?_).trans ?_
  · simp [h.ob, look_no n_put, ev, ep, isD, isNone]
  · simp [ev, el]
theorem cut_den (X0 X4 X6 X7 : Sl) (base x0 x1 x2 x3 x4 x5 x6 : Int) {rs : List Rw} (ok : Okr rs) (hl : rs.length ≤ 50) {Ω : List OS} {n m : Nat} (h : IsTab Ω n m rs) {k : Bg} (hk : Be k) (b0 : 0 ≤ x2) (b1 : x2 < 2147483647) : ∃ (rs' : List Rw) (Ω' : List OS), Okr rs' ∧ rs'.length ≤ rs.length + 1 ∧ IsTab Ω' n m rs' ∧
    cutS [X0, .dat (.int base), .dat (.obj n), .dat (rowsD rs), X4, .dat (.lst ([x0, x1, x2, x3, x4, x5, x6].map D.int)), .dat (bD k), X7] Ω = some (.nx [X0, .dat (.int base), .dat (.obj n), .dat (rowsD rs'), X4, .dat (.lst ([x0, x1, x2, x3, x4, x5, x6].map D.int)), .dat (bD k), X7] Ω') := by
  obtain ⟨v, hv, ev⟩ := thing_all b0 b1
  obtain ⟨Ω1, h1, e1⟩ := lcut_den h hk
  have p1 := place_den rs k (by omega) Ω1
  have p2 := isplace ok k
  have p3 := truth_den (findR rs k).isSome Ω1
  have hlc := len_cut rs k
  have okc := ok.cut k
  have hc := comp_cut k rs .und Ω1
  have hno := cut_none rs k
  have lle : rs.length ≤ 100000 := by omega
  have ein : innerD [none, some 6] [X0, .dat (.int base), .dat (.obj n), .dat (rowsD rs), X4, .dat (.lst ([x0, x1, x2, x3, x4, x5, x6].map D.int)), .dat (bD k), X7] = [.und, .dat (bD k)] := rfl
  unfold cutS
  have s1 : ∀ t : SDen, (sSeq (sIf (gNotT (gT (gCall d_l_truth (gCons (gCall d_l_cut (gCons (gVar 2) (gCons (gVar 6) gNil))) (gCons (gOp (isD true) (gCall d_l_place (gCons (gVar 3) (gCons (gVar 6) gNil))) (gC .non)) gNil))))) (sRet (gC (.bl false))) sNext) (sSeq (sSet 3 (gComp [none, some 6] (gSeq (gVar 3)) (bName 0) (gT (gOp (eqD true) (gOp ixD (gVar 0) (gC (.int 0))) (gVar 1))) (gVar 0))) t)) [X0, .dat (.int base), .dat (.obj n), .dat (rowsD rs), X4, .dat (.lst ([x0, x1, x2, x3, x4, x5, x6].map D.int)), .dat (bD k), X7] Ω = t [X0, .dat (.int base), .dat (.obj n), .dat (rowsD (cutR rs k)), X4, .dat (.lst ([x0, x1, x2, x3, x4, x5, x6].map D.int)), .dat (bD k), X7] Ω1 := fun t => by
    refine (seq_nx (ρ' := [X0, .dat (.int base), .dat (.obj n), .dat (rowsD rs), X4, .dat (.lst ([x0, x1, x2, x3, x4, x5, x6].map D.int)), .dat (bD k), X7]) (Ω' := Ω1) ?_).trans ?_
    · simp [e1, p1, p2, p3]
    · refine seq_nx ?_
      rw [ap_set, ap_comp, ein, ap_seq, ap_var]
      dsimp only [List.getElem?_cons_zero, List.getElem?_cons_succ]
      rw [seq_rows]
      dsimp only
      rw [hc, if_pos (by simpa using lle)]
      rfl
  rw [s1]
  generalize cutR rs k = rc at *
  by_cases h3 : x1 / 5 % 3 = 0
  · have ep := tput_den h1 (by omega) k v
    have h2 : IsTab (Ω1.set m (.dT (tab (putR rc k v)))) n m (putR rc k v) := h1.set
    have ef := find_put rc k v hno
    obtain ⟨Ω2, h3', e3⟩ := lcut_den h2 hk
    rw [ef] at e3
    rw [cut_put hno] at h3'
    obtain ⟨Ω3, h4, e4⟩ := lcut_den h3' hk
    have en : findR rc k = none := find_none.mpr hno
    rw [en] at e4
    rw [thing_cut rc k hno] at h4
    refine ⟨rc, Ω3, okc, by omega, h4, ?_⟩
    have s0 : ∀ s t : SDen, sIf (gT (gOp (eqD false) (gOp modD (gOp divD (gOp ixD (gVar 5) (gC (.int 1))) (gC (.int 5))) (gC (.int 3))) (gC (.int 0)))) s t [X0, .dat (.int base), .dat (.obj n), .dat (rowsD rc), X4, .dat (.lst ([x0, x1, x2, x3, x4, x5, x6].map D.int)), .dat (bD k), X7] Ω1 = s [X0, .dat (.int base), .dat (.obj n), .dat (rowsD rc), X4, .dat (.lst ([x0, x1, x2, x3, x4, x5, x6].map D.int)), .dat (bD k), X7] Ω1 := fun s t => by simp [h3]
    rw [s0]
    refine (seq_nx (ρ' := [X0, .dat (.int base), .dat (.obj n), .dat (rowsD rc), X4, .dat (.lst ([x0, x1, x2, x3, x4, x5, x6].map D.int)), .dat (bD k), X7]) (Ω' := Ω1.set m (.dT (tab (putR rc k v)))) ?_).trans ?_
    · simp [h1.ob, look_no n_put, ev, ep]
    · simp [e3, e4, isD]
  · refine ⟨rc, Ω1, okc, by omega, h1, ?_⟩
    simp [h3]
theorem each_den (X0 X4 X6 : Sl) (base x0 x1 x2 x3 x4 x5 x6 : Int) {rs : List Rw} (ok : Okr rs) (hl : rs.length ≤ 60) {Ω : List OS} {n m : Nat} (h : IsTab Ω n m rs) (b0 : 0 ≤ x5) (b1 : x5 < 2147483647) : ∀ (ks : List Bg) (X7 : Sl), ∃ Y7 : Sl,
    forD (bName 7) eachS (ks.map bD) [X0, .dat (.int base), .dat (.obj n), .dat (rowsD rs), X4, .dat (.lst ([x0, x1, x2, x3, x4, x5, x6].map D.int)), X6, X7] Ω = some (.nx [X0, .dat (.int base), .dat (.obj n), .dat (rowsD rs), X4, .dat (.lst ([x0, x1, x2, x3, x4, x5, x6].map D.int)), X6, Y7] Ω)
  | [], X7 => ⟨X7, rfl⟩
  | k :: ks, X7 => by
    obtain ⟨Y7, ih⟩ := each_den X0 X4 X6 base x0 x1 x2 x3 x4 x5 x6 ok hl h b0 b1 ks (.dat (bD k))
    have e := one_told h ok (by omega) k b0 b1
    refine ⟨Y7, ?_⟩
    rw [List.map_cons, for_cons, ap_bName]
    dsimp only [List.set]
    have s1 : eachS [X0, .dat (.int base), .dat (.obj n), .dat (rowsD rs), X4, .dat (.lst ([x0, x1, x2, x3, x4, x5, x6].map D.int)), X6, .dat (bD k)] Ω = some (.nx [X0, .dat (.int base), .dat (.obj n), .dat (rowsD rs), X4, .dat (.lst ([x0, x1, x2, x3, x4, x5, x6].map D.int)), X6, .dat (bD k)] Ω) := by
      unfold eachS
      simp [e]
    rw [s1]
    exact ih
theorem turn_den (X0 x5 x6 x7 : Sl) (base c : Int) {rs : List Rw} (ok : Okr rs) (hl : rs.length ≤ 50) {Ω : List OS} {n m : Nat} (h : IsTab Ω n m rs) : ∃ (rs' : List Rw) (Ω' : List OS) (y5 y6 y7 : Sl), Okr rs' ∧ rs'.length ≤ rs.length + 1 ∧ IsTab Ω' n m rs' ∧
    turnS [X0, .dat (.int base), .dat (.obj n), .dat (rowsD rs), .dat (.int c), x5, x6, x7] Ω = some (.nx [X0, .dat (.int base), .dat (.obj n), .dat (rowsD rs'), .dat (.int c), y5, y6, y7] Ω') := by
  obtain ⟨xs, xl, xb, e0⟩ := strm_den c 7 (by decide) Ω
  obtain ⟨a0, a1, a2, a3, a4, a5, a6, rfl⟩ : ∃ x0 x1 x2 x3 x4 x5 x6, xs = [x0, x1, x2, x3, x4, x5, x6] := by
    match xs, xl with
    | [a, b, c, d, e, f, g], _ => exact ⟨a, b, c, d, e, f, g, rfl⟩
  have e0' : d_l_stream [.int c, .int 7] Ω = some (.lst ([a0, a1, a2, a3, a4, a5, a6].map D.int), Ω) := e0
  have b2 := xb a2 (by simp)
  have b5 := xb a5 (by simp)
  obtain ⟨k, hk, ek⟩ := picked_den a0 base ok (by omega) Ω
  unfold turnS
  have s1 : ∀ t : SDen, (sSeq (sSet 5 (gCall d_l_stream (gCons (gVar 4) (gCons (gC (.int 7)) gNil)))) (sSeq (sSet 6 (gCall d_l_picked (gCons (gOp ixD (gVar 5) (gC (.int 0))) (gCons (gVar 3) (gCons (gVar 1) gNil))))) t)) [X0, .dat (.int base), .dat (.obj n), .dat (rowsD rs), .dat (.int c), x5, x6, x7] Ω = t [X0, .dat (.int base), .dat (.obj n), .dat (rowsD rs), .dat (.int c), .dat (.lst ([a0, a1, a2, a3, a4, a5, a6].map D.int)), .dat (bD k), x7] Ω := fun t => by
    refine (seq_nx (ρ' := [X0, .dat (.int base), .dat (.obj n), .dat (rowsD rs), .dat (.int c), .dat (.lst ([a0, a1, a2, a3, a4, a5, a6].map D.int)), x6, x7]) (Ω' := Ω) (by simp [e0'])).trans ?_
    exact seq_nx (by simp [ek])
  rw [s1]
  have s2 : ∃ (rs' : List Rw) (Ω' : List OS), Okr rs' ∧ rs'.length ≤ rs.length + 1 ∧ IsTab Ω' n m rs' ∧
      sIf (gT (gOp ltD (gOp modD (gOp ixD (gVar 5) (gC (.int 1))) (gC (.int 5))) (gC (.int 3)))) putS cutS [X0, .dat (.int base), .dat (.obj n), .dat (rowsD rs), .dat (.int c), .dat (.lst ([a0, a1, a2, a3, a4, a5, a6].map D.int)), .dat (bD k), x7] Ω = some (.nx [X0, .dat (.int base), .dat (.obj n), .dat (rowsD rs'), .dat (.int c), .dat (.lst ([a0, a1, a2, a3, a4, a5, a6].map D.int)), .dat (bD k), x7] Ω') := by
    by_cases h3 : a1 % 5 < 3
    · obtain ⟨rs', Ω', q1, q2, q3, q4⟩ := put_den X0 (.dat (.int c)) (.dat (bD k)) x7 base a0 a1 a2 a3 a4 a5 a6 ok hl h hk b2.1 b2.2
      refine ⟨rs', Ω', q1, q2, q3, ?_⟩
      rw [← q4]
      simp [h3]
    · obtain ⟨rs', Ω', q1, q2, q3, q4⟩ := cut_den X0 (.dat (.int c)) (.dat (bD k)) x7 base a0 a1 a2 a3 a4 a5 a6 ok hl h hk b2.1 b2.2
      refine ⟨rs', Ω', q1, q2, q3, ?_⟩
      rw [← q4]
      simp [h3]
  obtain ⟨rs', Ω', ok', l', h', e'⟩ := s2
  obtain ⟨k1, _, ek1⟩ := picked_den a3 base ok' (by omega) Ω'
  obtain ⟨k2, _, ek2⟩ := picked_den a4 base ok' (by omega) Ω'
  obtain ⟨y7, el⟩ := each_den X0 (.dat (.int c)) (.dat (bD k)) base a0 a1 a2 a3 a4 a5 a6 ok' (by omega) h' b5.1 b5.2 [k, k1, k2] x7
  refine ⟨rs', Ω', .dat (.lst ([a0, a1, a2, a3, a4, a5, a6].map D.int)), .dat (bD k), y7, ok', l', h', (seq_nx e').trans ?_⟩
  have ei : gSeq (gLst (gCons (gVar 6) (gCons (gCall d_l_picked (gCons (gOp ixD (gVar 5) (gC (.int 3))) (gCons (gVar 3) (gCons (gVar 1) gNil)))) (gCons (gCall d_l_picked (gCons (gOp ixD (gVar 5) (gC (.int 4))) (gCons (gVar 3) (gCons (gVar 1) gNil)))) gNil)))) [X0, .dat (.int base), .dat (.obj n), .dat (rowsD rs'), .dat (.int c), .dat (.lst ([a0, a1, a2, a3, a4, a5, a6].map D.int)), .dat (bD k), x7] Ω' = some ([k, k1, k2].map bD, Ω') := by simp [ek1, ek2]
  rw [ap_for, ei]
  exact el
theorem turns_den (X0 : Sl) (base : Int) (n m : Nat) : ∀ (cs : List Int) (rs : List Rw) (x4 x5 x6 x7 : Sl) (Ω : List OS), Okr rs → rs.length + cs.length ≤ 50 → IsTab Ω n m rs → ∃ (rs' : List Rw) (Ω' : List OS) (y4 y5 y6 y7 : Sl), 
    forD (bName 4) turnS (cs.map D.int) [X0, .dat (.int base), .dat (.obj n), .dat (rowsD rs), x4, x5, x6, x7] Ω = some (.nx [X0, .dat (.int base), .dat (.obj n), .dat (rowsD rs'), y4, y5, y6, y7] Ω')
  | [], rs, x4, x5, x6, x7, Ω, ok, hl, h => ⟨rs, Ω, x4, x5, x6, x7, rfl⟩
  | c :: cs, rs, x4, x5, x6, x7, Ω, ok, hl, h => by
    rw [List.length_cons] at hl
    obtain ⟨rs1, Ω1, y5, y6, y7, ok1, l1, t1, e1⟩ := turn_den X0 x5 x6 x7 base c ok (by omega) h
    obtain ⟨rs2, Ω2, z4, z5, z6, z7, e2⟩ := turns_den X0 base n m cs rs1 (.dat (.int c)) y5 y6 y7 Ω1 ok1 (by omega) t1
    refine ⟨rs2, Ω2, z4, z5, z6, z7, ?_⟩
    rw [List.map_cons, for_cons, ap_bName]
    dsimp only [List.set]
    rw [e1]
    exact e2
theorem make_tab (ρ : List Sl) : gMake "Table" d_Table___init__ [] gNil ρ [] = some (.obj 0, [.ins "Table" [("thing_by", .obj 1)], .dT []]) := by
  have e : d_Table___init__ [.obj 0] [.ins "Table" []] = some (.non, [.ins "Table" [("thing_by", .obj 1)], .dT []]) := by
    unfold d_Table___init__
    rw [ap_run]
    simp [putFD]
  simp [e]
theorem holds : ∀ ns : List Int, ns.length ≤ 63 → ∃ Ω, d_law [.scr ns] [] = some (.bl true, Ω) := by
  intro ns hn
  obtain ⟨base, hb0, hb1, eb⟩ := base_den ns []
  have it : IsTab [.ins "Table" [("thing_by", .obj 1)], .dT (tab [])] 0 1 [] := ⟨rfl, rfl, by decide⟩
  obtain ⟨rs, Ω, y4, y5, y6, y7, e1⟩ := turns_den (.dat (.scr ns)) base 0 1 (cutL ns (some 1) (some 15)) [] .und .und .und .und _ Okr.nil (by
    have : (cutL ns (some 1) (some 15)).length ≤ 15 := by
      have := cut_ab ns (a := 1) (b := 15) (by decide)
      have e : cutL ns (some 1) (some 15) = (ns.drop 1).take (15 - 1) := this
      rw [e, List.length_take]
      omega
    simp
    omega) it
  refine ⟨Ω, run_rt rfl ?_⟩
  refine (seq_nx (ρ' := [.dat (.scr ns), .dat (.int base), .und, .und, .und, .und, .und, .und]) (Ω' := []) ?_).trans ?_
  · rw [ap_set, eb _ rfl]
    rfl
  refine (seq_nx (ρ' := [.dat (.scr ns), .dat (.int base), .dat (.obj 0), .und, .und, .und, .und, .und]) (Ω' := [.ins "Table" [("thing_by", .obj 1)], .dT (tab [])]) ?_).trans ?_
  · rw [ap_set, make_tab]
    rfl
  refine (seq_nx (ρ' := [.dat (.scr ns), .dat (.int base), .dat (.obj 0), .dat (rowsD []), .und, .und, .und, .und]) (Ω' := [.ins "Table" [("thing_by", .obj 1)], .dT (tab [])]) ?_).trans ?_
  · simp [rowsD]
  refine (seq_nx (ρ' := [.dat (.scr ns), .dat (.int base), .dat (.obj 0), .dat (rowsD rs), y4, y5, y6, y7]) (Ω' := Ω) ?_).trans ?_
  · simp only [ap_for, ap_seq, ap_sl, ap_var, ap_part, ap_c, List.getElem?_cons_zero, sl_scr, seq_lst]
    exact e1
  simp
end Law
namespace Law
open PySem PySem.Spec PyProof.Rows L2 DL
set_option maxHeartbeats 4000000
seal PD PDA PDS PDB PDT PDI PDG RD RDS RDB PV
def top (i : Nat) : Stmt := PySem.Challenge.pw_posthouse_k08_rows_put_and_cut.main.body.getD i (.Pass ⟨0, 0, 0, 0⟩)
abbrev s_Table___init__ : Stmt := inClass (top 12) 0
abbrev s_l_stream : Stmt := top 15
abbrev s_l_bits : Stmt := top 18
abbrev s_l_number : Stmt := top 19
abbrev s_l_beginning : Stmt := top 20
abbrev s_l_picked : Stmt := top 25
abbrev s_l_place : Stmt := top 23
abbrev s_l_put : Stmt := top 24
abbrev s_l_cell_at : Stmt := top 14
abbrev s_Table_put : Stmt := inClass (top 12) 1
abbrev s_l_thing_by : Stmt := top 22
abbrev s_l_truth : Stmt := top 29
abbrev s_l_whole : Stmt := top 16
abbrev s_Table_count : Stmt := inClass (top 12) 5
abbrev s_l_same : Stmt := top 27
abbrev s_Table_get : Stmt := inClass (top 12) 3
abbrev s_l_stands : Stmt := top 28
abbrev s_Table_has : Stmt := inClass (top 12) 4
abbrev s_l_one_told : Stmt := top 30
abbrev s_Table_cut : Stmt := inClass (top 12) 2
abbrev s_l_cut : Stmt := top 26
abbrev s_law : Stmt := top 31
abbrev bmVE : List Value := [.type "ValueError", .type "Exception", .type "BaseException", .type "object"]
theorem vals_refs : ∀ {as : List Addr} {us : List Value}, Vals (as.map V.ref) us → us = as.map Value.ref
  | [], _, .nil => rfl
  | a :: as, _, .cons r t => by rw [vals_refs t]; cases (show _ = Value.ref a from r); rfl
section
variable {P : Program} {w : World} {K : PySem.W.Frag} {mg : Str → Option Value} {base : Heap} {C : Cl}
theorem kit_bool : ∀ t ∈ ["NoneType", "bool", "int", "str", "tuple", "list"], PySem.W.kitOne K (.type t) (.type "bool") = some (decide (t = "bool") || (decide (t = "bool") && decide ("bool" = "int"))) := by
  intro t ht
  simp only [List.mem_cons, List.not_mem_nil, or_false] at ht
  rcases ht with rfl | rfl | rfl | rfl | rfl | rfl <;> rfl
theorem kit_int : ∀ t ∈ ["NoneType", "bool", "int", "str", "tuple", "list"], PySem.W.kitOne K (.type t) (.type "int") = some (decide (t = "int") || (decide (t = "bool") && decide ("int" = "int"))) := by
  intro t ht
  simp only [List.mem_cons, List.not_mem_nil, or_false] at ht
  rcases ht with rfl | rfl | rfl | rfl | rfl | rfl <;> rfl
theorem sc_Table___init__ : FnScope ["self"] ["self"] (defScope s_Table___init__) := ⟨rfl, rfl, rfl, by decide +kernel, rfl, by decide +kernel, by decide +kernel⟩
theorem ok_Table___init__ {dV : Value} {f : Addr} {fd : FuncData} (F : FunV K "__init__" "Table.__init__" s_Table___init__ dV f fd) (T_Table : ClD K C "Table") (n_Table_thing_by : NoA K C "Table" "thing_by") : FnOk P w K mg base CX0 1 f fd ["self"] (spD K C d_Table___init__) :=
  fn_DV F sc_Table___init__ rfl rfl fun cdv A outer sh H E hr =>
    have nd : (cxOf CX0 P w K mg base ["self"] "Table.__init__" (defScope s_Table___init__) f cdv A outer sh H E).nox.N.Nodup := sc_Table___init__.nd
    (pdb_one (pds_fld T_Table n_Table_thing_by (pd_var (pv 0)) pd_newT))
theorem sc_l_stream : FnScope ["_law_cell", "_law_many", "_law_found", "_law_number_here", "_law_k"] ["_law_cell", "_law_many"] (defScope s_l_stream) := ⟨rfl, rfl, rfl, by decide +kernel, rfl, by decide +kernel, by decide +kernel⟩
theorem ok_l_stream (T : TF K mg "_law_stream" s_l_stream) (b_range : mg "range" = none) : Fn P w K mg base C 1 "_law_stream" d_l_stream :=
  fn_F T sc_l_stream rfl rfl (fun _ _ _ _ _ _ us hl => len2 us hl (fun _ _ => rfl)) fun f cdv A outer sh H E hr =>
    have nd : (cxOf CX0 P w K mg base ["_law_cell", "_law_many", "_law_found", "_law_number_here", "_law_k"] "_law_stream" (defScope s_l_stream) f cdv A outer sh H E).nox.N.Nodup := sc_l_stream.nd
    (pdb_cons (pds_own (i := 2) nd rfl (by first | exact Or.inl rfl | exact Or.inr rfl) pda_nil) (pdb_cons (pds_set (i := 3) nd rfl (by first | exact Or.inl rfl | exact Or.inr rfl) (pd_op opD_add (pd_op opD_mod (pd_var (pv 0)) pd_int) pd_int)) (pdb_cons (pds_for PassesOwn.never rfl (pdi_range1 rfl b_range (pda_cons (pd_op opD_add (pd_var (pv 1)) pd_int) pda_nil)) (pdg_name nd rfl (by first | exact Or.inl rfl | exact Or.inr rfl)) (pdb_cons (pds_set (i := 3) nd rfl (by first | exact Or.inl rfl | exact Or.inr rfl) (pd_op opD_mod (pd_op opD_add (pd_op opD_add (pd_op opD_mul (pd_var (pv 3)) (pd_var (pv 3))) (pd_op opD_mul pd_int (pd_var (pv 3)))) (pd_var (pv 4))) pd_int)) (pdb_one (pds_app (pv 2) (pd_var (pv 3)))))) (pdb_ghost (ghost_frz 2) (pdb_one (pds_ret (pd_sl (pd_var (pv 2)) (pdo_some pd_int) pdo_none)))))))
theorem sc_l_bits : FnScope ["_law_number_here", "_law_size", "_law_found", "_law_turn"] ["_law_number_here", "_law_size"] (defScope s_l_bits) := ⟨rfl, rfl, rfl, by decide +kernel, rfl, by decide +kernel, by decide +kernel⟩
theorem ok_l_bits (T : TF K mg "_law_bits" s_l_bits) (b_range : mg "range" = none) : Fn P w K mg base C 1 "_law_bits" d_l_bits :=
  fn_F T sc_l_bits rfl rfl (fun _ _ _ _ _ _ us hl => len2 us hl (fun _ _ => rfl)) fun f cdv A outer sh H E hr =>
    have nd : (cxOf CX0 P w K mg base ["_law_number_here", "_law_size", "_law_found", "_law_turn"] "_law_bits" (defScope s_l_bits) f cdv A outer sh H E).nox.N.Nodup := sc_l_bits.nd
    (pdb_cons (pds_set (i := 2) nd rfl (by first | exact Or.inl rfl | exact Or.inr rfl) (pd_lst pda_nil)) (pdb_cons (pds_for PassesOwn.never rfl (pdi_range1 rfl b_range (pda_cons (pd_var (pv 1)) pda_nil)) (pdg_name nd rfl (by first | exact Or.inl rfl | exact Or.inr rfl)) (pdb_cons (pds_set (i := 2) nd rfl (by first | exact Or.inl rfl | exact Or.inr rfl) (pd_op opD_add (pd_lst (pda_cons (pd_op opD_mod (pd_var (pv 0)) pd_int) pda_nil)) (pd_var (pv 2)))) (pdb_one (pds_set (i := 0) nd rfl (by first | exact Or.inl rfl | exact Or.inr rfl) (pd_op opD_div (pd_var (pv 0)) pd_int))))) (pdb_one (pds_ret (pd_var (pv 2))))))
theorem sc_l_number : FnScope ["_law_bits_here", "_law_found", "_law_bit"] ["_law_bits_here"] (defScope s_l_number) := ⟨rfl, rfl, rfl, by decide +kernel, rfl, by decide +kernel, by decide +kernel⟩
theorem ok_l_number (T : TF K mg "_law_number" s_l_number) : Fn P w K mg base C 1 "_law_number" d_l_number :=
  fn_F T sc_l_number rfl rfl (fun _ _ _ _ _ _ us hl => len1 us hl (fun _ => rfl)) fun f cdv A outer sh H E hr =>
    have nd : (cxOf CX0 P w K mg base ["_law_bits_here", "_law_found", "_law_bit"] "_law_number" (defScope s_l_number) f cdv A outer sh H E).nox.N.Nodup := sc_l_number.nd
    (pdb_cons (pds_set (i := 1) nd rfl (by first | exact Or.inl rfl | exact Or.inr rfl) pd_int) (pdb_cons (pds_for PassesOwn.never rfl (pdi_list (pd_var (pv 0))) (pdg_name nd rfl (by first | exact Or.inl rfl | exact Or.inr rfl)) (pdb_one (pds_set (i := 1) nd rfl (by first | exact Or.inl rfl | exact Or.inr rfl) (pd_op opD_add (pd_op opD_mul pd_int (pd_var (pv 1))) (pd_var (pv 2)))))) (pdb_one (pds_ret (pd_var (pv 1))))))
theorem sc_l_beginning : FnScope ["_law_x", "_law_base", "_law_xs", "_law_bits_here", "_law_at"] ["_law_x", "_law_base"] (defScope s_l_beginning) := ⟨rfl, rfl, rfl, by decide +kernel, rfl, by decide +kernel, by decide +kernel⟩
theorem ok_l_beginning (T : TF K mg "_law_beginning" s_l_beginning) (b_len : mg "len" = none) (G_l_stream : Fn P w K mg base C 1 "_law_stream" d_l_stream) (G_l_bits : Fn P w K mg base C 1 "_law_bits" d_l_bits) (G_l_number : Fn P w K mg base C 1 "_law_number" d_l_number) : Fn P w K mg base C 2 "_law_beginning" d_l_beginning :=
  fn_F T sc_l_beginning rfl rfl (fun _ _ _ _ _ _ us hl => len2 us hl (fun _ _ => rfl)) fun f cdv A outer sh H E hr =>
    have nd : (cxOf CX0 P w K mg base ["_law_x", "_law_base", "_law_xs", "_law_bits_here", "_law_at"] "_law_beginning" (defScope s_l_beginning) f cdv A outer sh H E).nox.N.Nodup := sc_l_beginning.nd
    (pdb_cons (pds_set (i := 2) nd rfl (by first | exact Or.inl rfl | exact Or.inr rfl) (pd_callF G_l_stream (hr.mono (by decide)) rfl (pda_cons (pd_var (pv 0)) (pda_cons pd_int pda_nil)))) (pdb_cons (pds_set (i := 3) nd rfl (by first | exact Or.inl rfl | exact Or.inr rfl) (pd_sl (pd_callF G_l_bits (hr.mono (by decide)) rfl (pda_cons (pd_var (pv 1)) (pda_cons pd_int pda_nil))) pdo_none (pdo_some (pd_op opD_mod (pd_ix (pd_var (pv 2)) pd_int) pd_int)))) (pdb_cons (pds_if (PDW.pt (pdw_and (pdt_cmp (opD_eq hr.units) (pd_op opD_mod (pd_ix (pd_var (pv 2)) pd_int) pd_int) pd_int (nomark _)) (pdw_and1 (pdt_cmp (opD_ne hr.units) (pd_var (pv 3)) (pd_lst pda_nil) (nomark _))))) (pdb_cons (pds_set (i := 4) nd rfl (by first | exact Or.inl rfl | exact Or.inr rfl) (pd_ix (pd_lst (pda_cons (pd_op opD_sub (pd_callB callD_len rfl b_len PySem.boot_len (pda_cons (pd_var (pv 3)) pda_nil)) pd_int) (pda_cons (pd_op opD_mod (pd_ix (pd_var (pv 2)) pd_int) (pd_callB callD_len rfl b_len PySem.boot_len (pda_cons (pd_var (pv 3)) pda_nil))) pda_nil))) (pd_op opD_mod (pd_op opD_div (pd_ix (pd_var (pv 2)) pd_int) pd_int) pd_int))) (pdb_one (pds_set (i := 3) nd rfl (by first | exact Or.inl rfl | exact Or.inr rfl) (pd_op opD_add (pd_op opD_add (pd_sl (pd_var (pv 3)) pdo_none (pdo_some (pd_var (pv 4)))) (pd_lst (pda_cons (pd_op opD_sub pd_int (pd_ix (pd_var (pv 3)) (pd_var (pv 4)))) pda_nil))) (pd_sl (pd_var (pv 3)) (pdo_some (pd_op opD_add (pd_var (pv 4)) pd_int)) pdo_none))))) pdb_nil) (pdb_cons (pds_if (pdt_cmp (opD_eq hr.units) (pd_op opD_mod (pd_ix (pd_var (pv 2)) pd_int) pd_int) pd_int (nomark _)) (pdb_one (pds_set (i := 3) nd rfl (by first | exact Or.inl rfl | exact Or.inr rfl) (pd_op opD_add (pd_sl (pd_var (pv 3)) pdo_none (pdo_some (pd_op opD_mod (pd_ix (pd_var (pv 2)) pd_int) (pd_op opD_add (pd_callB callD_len rfl b_len PySem.boot_len (pda_cons (pd_var (pv 3)) pda_nil)) pd_int)))) (pd_sl (pd_callF G_l_bits (hr.mono (by decide)) rfl (pda_cons (pd_ix (pd_var (pv 2)) pd_int) (pda_cons (pd_op opD_sub pd_int (pd_op opD_mod (pd_ix (pd_var (pv 2)) pd_int) pd_int)) pda_nil))) pdo_none (pdo_some (pd_op opD_mod (pd_ix (pd_var (pv 2)) pd_int) pd_int)))))) pdb_nil) (pdb_cons (pds_if (pdt_cmp (opD_eq hr.units) (pd_op opD_mod (pd_ix (pd_var (pv 2)) pd_int) pd_int) pd_int (nomark _)) (pdb_one (pds_set (i := 3) nd rfl (by first | exact Or.inl rfl | exact Or.inr rfl) (pd_op opD_mul (pd_lst (pda_cons (pd_ix (pd_lst (pda_cons pd_int (pda_cons pd_int pda_nil))) (pd_op opD_mod (pd_ix (pd_var (pv 2)) pd_int) pd_int)) pda_nil)) (pd_callB callD_len rfl b_len PySem.boot_len (pda_cons (pd_var (pv 3)) pda_nil))))) pdb_nil) (pdb_one (pds_ret (pd_tup (pda_cons (pd_callF G_l_number (hr.mono (by decide)) rfl (pda_cons (pd_var (pv 3)) pda_nil)) (pda_cons (pd_callB callD_len rfl b_len PySem.boot_len (pda_cons (pd_var (pv 3)) pda_nil)) pda_nil))))))))))
theorem sc_l_picked : FnScope ["_law_x", "_law_rows", "_law_base", "_law_xs", "_law_bits_here", "_law_size"] ["_law_x", "_law_rows", "_law_base"] (defScope s_l_picked) := ⟨rfl, rfl, rfl, by decide +kernel, rfl, by decide +kernel, by decide +kernel⟩
theorem ok_l_picked (T : TF K mg "_law_picked" s_l_picked) (b_int : mg "int" = none) (b_len : mg "len" = none) (b_max : mg "max" = none) (G_l_stream : Fn P w K mg base C 1 "_law_stream" d_l_stream) (G_l_beginning : Fn P w K mg base C 2 "_law_beginning" d_l_beginning) : Fn P w K mg base C 3 "_law_picked" d_l_picked :=
  fn_F T sc_l_picked rfl rfl (fun _ _ _ _ _ _ us hl => len3 us hl (fun _ _ _ => rfl)) fun f cdv A outer sh H E hr =>
    have nd : (cxOf CX0 P w K mg base ["_law_x", "_law_rows", "_law_base", "_law_xs", "_law_bits_here", "_law_size"] "_law_picked" (defScope s_l_picked) f cdv A outer sh H E).nox.N.Nodup := sc_l_picked.nd
    (pdb_cons (pds_set (i := 3) nd rfl (by first | exact Or.inl rfl | exact Or.inr rfl) (pd_callF G_l_stream (hr.mono (by decide)) rfl (pda_cons (pd_var (pv 0)) (pda_cons pd_int pda_nil)))) (pdb_cons (pds_if (PDW.pt (pdw_or (pdt_cmp (opD_eq hr.units) (pd_var (pv 1)) (pd_lst pda_nil) (nomark _)) (pdw_or1 (pdt_cmp (opD_eq hr.units) (pd_op opD_mod (pd_ix (pd_var (pv 3)) pd_int) pd_int) pd_int (nomark _))))) (pdb_one (pds_ret (pd_callF G_l_beginning (hr.mono (by decide)) rfl (pda_cons (pd_ix (pd_var (pv 3)) pd_int) (pda_cons (pd_var (pv 2)) pda_nil))))) pdb_nil) (pdb_cons (pds_asg (pd_ix (pd_ix (pd_var (pv 1)) (pd_op opD_mod (pd_ix (pd_var (pv 3)) pd_int) (pd_callB callD_len rfl b_len PySem.boot_len (pda_cons (pd_var (pv 1)) pda_nil)))) pd_int) (pdg_tup rfl (pdgs_cons (i := 4) nd rfl (by first | exact Or.inl rfl | exact Or.inr rfl) (pdgs_cons (i := 5) nd rfl (by first | exact Or.inl rfl | exact Or.inr rfl) pdgs_nil)))) (pdb_cons (pds_if (pdt_cmp (opD_eq hr.units) (pd_op opD_mod (pd_ix (pd_var (pv 3)) pd_int) pd_int) pd_int (nomark _)) (pdb_one (pds_ret (pd_tup (pda_cons (pd_var (pv 4)) (pda_cons (pd_var (pv 5)) pda_nil))))) pdb_nil) (pdb_cons (pds_if (pdt_cmp (opD_eq hr.units) (pd_op opD_mod (pd_op opD_div (pd_ix (pd_var (pv 3)) pd_int) pd_int) pd_int) pd_int (nomark _)) (pdb_one (pds_ret (pd_tup (pda_cons (pd_op opD_div (pd_var (pv 4)) pd_int) (pda_cons (pd_callB (callD_max rfl) rfl b_max boot_max (pda_cons pd_int (pda_cons (pd_op opD_sub (pd_var (pv 5)) pd_int) pda_nil))) pda_nil))))) pdb_nil) (pdb_one (pds_ret (pd_ix (pd_lst (pda_cons (pd_tup (pda_cons (pd_op opD_add (pd_op opD_mul pd_int (pd_var (pv 4))) (pd_op opD_mod (pd_ix (pd_var (pv 3)) pd_int) pd_int)) (pda_cons (pd_op opD_add (pd_var (pv 5)) pd_int) pda_nil))) (pda_cons (pd_tup (pda_cons (pd_var (pv 4)) (pda_cons (pd_var (pv 5)) pda_nil))) pda_nil))) (pd_callTy callD_int rfl b_int boot_int (pda_cons (pd_cmp (opD_eq hr.units) (pd_var (pv 5)) pd_int (nomark _)) pda_nil))))))))))
theorem sc_l_place : FnScope ["_law_rows", "_law_beginning_here", "_law_at"] ["_law_rows", "_law_beginning_here"] (defScope s_l_place) := ⟨rfl, rfl, rfl, by decide +kernel, rfl, by decide +kernel, by decide +kernel⟩
theorem ok_l_place (T : TF K mg "_law_place" s_l_place) (b_len : mg "len" = none) (b_range : mg "range" = none) : Fn P w K mg base C 1 "_law_place" d_l_place :=
  fn_F T sc_l_place rfl rfl (fun _ _ _ _ _ _ us hl => len2 us hl (fun _ _ => rfl)) fun f cdv A outer sh H E hr =>
    have nd : (cxOf CX0 P w K mg base ["_law_rows", "_law_beginning_here", "_law_at"] "_law_place" (defScope s_l_place) f cdv A outer sh H E).nox.N.Nodup := sc_l_place.nd
    (pdb_cons (pds_for PassesOwn.never rfl (pdi_range1 rfl b_range (pda_cons (pd_callB callD_len rfl b_len PySem.boot_len (pda_cons (pd_var (pv 0)) pda_nil)) pda_nil)) (pdg_name nd rfl (by first | exact Or.inl rfl | exact Or.inr rfl)) (pdb_one (pds_if (pdt_cmp (opD_eq hr.units) (pd_ix (pd_ix (pd_var (pv 0)) (pd_var (pv 2))) pd_int) (pd_var (pv 1)) (nomark _)) (pdb_one (pds_ret (pd_var (pv 2)))) pdb_nil))) (pdb_one (pds_ret pd_non)))
theorem sc_l_put : FnScope ["_law_rows", "_law_beginning_here", "_law_thing", "_law_at"] ["_law_rows", "_law_beginning_here", "_law_thing"] (defScope s_l_put) := ⟨rfl, rfl, rfl, by decide +kernel, rfl, by decide +kernel, by decide +kernel⟩
theorem ok_l_put (T : TF K mg "_law_put" s_l_put) (G_l_place : Fn P w K mg base C 1 "_law_place" d_l_place) : Fn P w K mg base C 2 "_law_put" d_l_put :=
  fn_F T sc_l_put rfl rfl (fun _ _ _ _ _ _ us hl => len3 us hl (fun _ _ _ => rfl)) fun f cdv A outer sh H E hr =>
    have nd : (cxOf CX0 P w K mg base ["_law_rows", "_law_beginning_here", "_law_thing", "_law_at"] "_law_put" (defScope s_l_put) f cdv A outer sh H E).nox.N.Nodup := sc_l_put.nd
    (pdb_cons (pds_set (i := 3) nd rfl (by first | exact Or.inl rfl | exact Or.inr rfl) (pd_callF G_l_place (hr.mono (by decide)) rfl (pda_cons (pd_var (pv 0)) (pda_cons (pd_var (pv 1)) pda_nil)))) (pdb_cons (pds_if (pdt_cmp opD_is (pd_var (pv 3)) pd_non (nomark _)) (pdb_one (pds_ret (pd_op opD_add (pd_var (pv 0)) (pd_lst (pda_cons (pd_tup (pda_cons (pd_var (pv 1)) (pda_cons (pd_var (pv 2)) pda_nil))) pda_nil))))) pdb_nil) (pdb_one (pds_ret (pd_op opD_add (pd_op opD_add (pd_sl (pd_var (pv 0)) pdo_none (pdo_some (pd_var (pv 3)))) (pd_lst (pda_cons (pd_tup (pda_cons (pd_var (pv 1)) (pda_cons (pd_var (pv 2)) pda_nil))) pda_nil))) (pd_sl (pd_var (pv 0)) (pdo_some (pd_op opD_add (pd_var (pv 3)) pd_int)) pdo_none))))))
theorem sc_l_cell_at : FnScope ["_law_script", "_law_k"] ["_law_script", "_law_k"] (defScope s_l_cell_at) := ⟨rfl, rfl, rfl, by decide +kernel, rfl, by decide +kernel, by decide +kernel⟩
theorem ok_l_cell_at (T : TF K mg "_law_cell_at" s_l_cell_at) (b_len : mg "len" = none) : Fn P w K mg base C 1 "_law_cell_at" d_l_cell_at :=
  fn_F T sc_l_cell_at rfl rfl (fun _ _ _ _ _ _ us hl => len2 us hl (fun _ _ => rfl)) fun f cdv A outer sh H E hr =>
    have nd : (cxOf CX0 P w K mg base ["_law_script", "_law_k"] "_law_cell_at" (defScope s_l_cell_at) f cdv A outer sh H E).nox.N.Nodup := sc_l_cell_at.nd
    (pdb_cons (pds_if (pdt_cmp opD_lt (pd_var (pv 1)) (pd_callB callD_len rfl b_len PySem.boot_len (pda_cons (pd_var (pv 0)) pda_nil)) (nomark _)) (pdb_one (pds_ret (pd_ix (pd_var (pv 0)) (pd_var (pv 1))))) pdb_nil) (pdb_one (pds_ret pd_int)))
theorem sc_Table_put : FnScope ["self", "beginning", "thing"] ["self", "beginning", "thing"] (defScope s_Table_put) := ⟨rfl, rfl, rfl, by decide +kernel, rfl, by decide +kernel, by decide +kernel⟩
theorem ok_Table_put {dV : Value} {f : Addr} {fd : FuncData} (F : FunV K "put" "Table.put" s_Table_put dV f fd) (T_Table : ClD K C "Table") (n_Table_thing_by : NoA K C "Table" "thing_by") : FnOk P w K mg base CX0 1 f fd ["self", "beginning", "thing"] (spD K C d_Table_put) :=
  fn_DV F sc_Table_put rfl rfl fun cdv A outer sh H E hr =>
    have nd : (cxOf CX0 P w K mg base ["self", "beginning", "thing"] "Table.put" (defScope s_Table_put) f cdv A outer sh H E).nox.N.Nodup := sc_Table_put.nd
    (pdb_one (pds_dput (hu_of hr) (pd_fld T_Table n_Table_thing_by (pd_var (pv 0))) (pd_var (pv 1)) (pd_var (pv 2))))
theorem sc_l_thing_by : FnScope ["_law_x"] ["_law_x"] (defScope s_l_thing_by) := ⟨rfl, rfl, rfl, by decide +kernel, rfl, by decide +kernel, by decide +kernel⟩
theorem ok_l_thing_by (T : TF K mg "_law_thing_by" s_l_thing_by) : Fn P w K mg base C 1 "_law_thing_by" d_l_thing_by :=
  fn_F T sc_l_thing_by rfl rfl (fun _ _ _ _ _ _ us hl => len1 us hl (fun _ => rfl)) fun f cdv A outer sh H E hr =>
    have nd : (cxOf CX0 P w K mg base ["_law_x"] "_law_thing_by" (defScope s_l_thing_by) f cdv A outer sh H E).nox.N.Nodup := sc_l_thing_by.nd
    (pdb_one (pds_ret (pd_ix (pd_lst (pda_cons pd_non (pda_cons pd_int (pda_cons (pd_op opD_mod (pd_op opD_div (pd_var (pv 0)) pd_int) pd_int) (pda_cons (pd_op opD_mod (pd_op opD_div (pd_var (pv 0)) pd_int) pd_int) (pda_cons (pd_op opD_sub (pd_neg pd_int) (pd_op opD_mod (pd_op opD_div (pd_var (pv 0)) pd_int) pd_int)) (pda_cons (pd_op opD_mul (pd_var (pv 0)) (pd_var (pv 0))) (pda_cons pd_int (pda_cons (pd_op opD_mod (pd_op opD_div (pd_var (pv 0)) pd_int) pd_int) pda_nil))))))))) (pd_op opD_mod (pd_var (pv 0)) pd_int))))
theorem sc_l_truth : FnScope ["_law_found", "_law_due"] ["_law_found", "_law_due"] (defScope s_l_truth) := ⟨rfl, rfl, rfl, by decide +kernel, rfl, by decide +kernel, by decide +kernel⟩
theorem ok_l_truth (T : TF K mg "_law_truth" s_l_truth) (b_bool : mg "bool" = none) (b_isinstance : mg "isinstance" = none) : Fn P w K mg base C 1 "_law_truth" d_l_truth :=
  fn_F T sc_l_truth rfl rfl (fun _ _ _ _ _ _ us hl => len2 us hl (fun _ _ => rfl)) fun f cdv A outer sh H E hr =>
    have nd : (cxOf CX0 P w K mg base ["_law_found", "_law_due"] "_law_truth" (defScope s_l_truth) f cdv A outer sh H E).nox.N.Nodup := sc_l_truth.nd
    (pdb_one (pds_ret (pd_and (pd_isinst (pd_var (pv 0)) (pe_bltn rfl b_bool boot_bool rfl) rfl b_isinstance boot_isinstance kit_bool) (pd_one (pd_cmp (opD_eq hr.units) (pd_var (pv 0)) (pd_var (pv 1)) (nomark _))))))
theorem sc_l_whole : FnScope ["_law_found"] ["_law_found"] (defScope s_l_whole) := ⟨rfl, rfl, rfl, by decide +kernel, rfl, by decide +kernel, by decide +kernel⟩
theorem ok_l_whole (T : TF K mg "_law_whole" s_l_whole) (b_bool : mg "bool" = none) (b_int : mg "int" = none) (b_isinstance : mg "isinstance" = none) : Fn P w K mg base C 1 "_law_whole" d_l_whole :=
  fn_F T sc_l_whole rfl rfl (fun _ _ _ _ _ _ us hl => len1 us hl (fun _ => rfl)) fun f cdv A outer sh H E hr =>
    have nd : (cxOf CX0 P w K mg base ["_law_found"] "_law_whole" (defScope s_l_whole) f cdv A outer sh H E).nox.N.Nodup := sc_l_whole.nd
    (pdb_one (pds_ret (pd_and (pd_isinst (pd_var (pv 0)) (pe_bltn rfl b_int boot_int rfl) rfl b_isinstance boot_isinstance kit_int) (pd_one (pd_not (pd_isinst (pd_var (pv 0)) (pe_bltn rfl b_bool boot_bool rfl) rfl b_isinstance boot_isinstance kit_bool))))))
theorem sc_Table_count : FnScope ["self"] ["self"] (defScope s_Table_count) := ⟨rfl, rfl, rfl, by decide +kernel, rfl, by decide +kernel, by decide +kernel⟩
theorem ok_Table_count {dV : Value} {f : Addr} {fd : FuncData} (F : FunV K "count" "Table.count" s_Table_count dV f fd) (T_Table : ClD K C "Table") (n_Table_thing_by : NoA K C "Table" "thing_by") (b_len : mg "len" = none) : FnOk P w K mg base CX0 1 f fd ["self"] (spD K C d_Table_count) :=
  fn_DV F sc_Table_count rfl rfl fun cdv A outer sh H E hr =>
    have nd : (cxOf CX0 P w K mg base ["self"] "Table.count" (defScope s_Table_count) f cdv A outer sh H E).nox.N.Nodup := sc_Table_count.nd
    (pdb_one (pds_ret (pd_dlen rfl b_len PySem.boot_len (pd_fld T_Table n_Table_thing_by (pd_var (pv 0))))))
theorem sc_l_same : FnScope ["_law_found", "_law_due"] ["_law_found", "_law_due"] (defScope s_l_same) := ⟨rfl, rfl, rfl, by decide +kernel, rfl, by decide +kernel, by decide +kernel⟩
theorem ok_l_same (T : TF K mg "_law_same" s_l_same) (G_l_whole : Fn P w K mg base C 1 "_law_whole" d_l_whole) : Fn P w K mg base C 2 "_law_same" d_l_same :=
  fn_F T sc_l_same rfl rfl (fun _ _ _ _ _ _ us hl => len2 us hl (fun _ _ => rfl)) fun f cdv A outer sh H E hr =>
    have nd : (cxOf CX0 P w K mg base ["_law_found", "_law_due"] "_law_same" (defScope s_l_same) f cdv A outer sh H E).nox.N.Nodup := sc_l_same.nd
    (pdb_cons (pds_if (pdt_cmp opD_is (pd_var (pv 1)) pd_non (nomark _)) (pdb_one (pds_ret (pd_cmp opD_is (pd_var (pv 0)) pd_non (nomark _)))) pdb_nil) (pdb_one (pds_ret (pd_and (pd_callF G_l_whole (hr.mono (by decide)) rfl (pda_cons (pd_var (pv 0)) pda_nil)) (pd_one (pd_cmp (opD_eq hr.units) (pd_var (pv 0)) (pd_var (pv 1)) (nomark _)))))))
theorem sc_Table_get : FnScope ["self", "beginning", "other"] ["self", "beginning", "other"] (defScope s_Table_get) := ⟨rfl, rfl, rfl, by decide +kernel, rfl, by decide +kernel, by decide +kernel⟩
theorem ok_Table_get {dV : Value} {f : Addr} {fd : FuncData} (F : FunV K "get" "Table.get" s_Table_get dV f fd) (T_Table : ClD K C "Table") (n_Table_thing_by : NoA K C "Table" "thing_by") : FnOk P w K mg base CX0 1 f fd ["self", "beginning", "other"] (spD K C d_Table_get) :=
  fn_DV F sc_Table_get rfl rfl fun cdv A outer sh H E hr =>
    have nd : (cxOf CX0 P w K mg base ["self", "beginning", "other"] "Table.get" (defScope s_Table_get) f cdv A outer sh H E).nox.N.Nodup := sc_Table_get.nd
    (pdb_one (pds_ret (pd_dget2 (hu_of hr) (pd_fld T_Table n_Table_thing_by (pd_var (pv 0))) (pd_var (pv 1)) (pd_var (pv 2)) ⟨rfl, rfl, rfl, rfl⟩)))
theorem sc_l_stands : FnScope ["_law_rows", "_law_beginning_here", "_law_other", "_law_at"] ["_law_rows", "_law_beginning_here", "_law_other"] (defScope s_l_stands) := ⟨rfl, rfl, rfl, by decide +kernel, rfl, by decide +kernel, by decide +kernel⟩
theorem ok_l_stands (T : TF K mg "_law_stands" s_l_stands) (G_l_place : Fn P w K mg base C 1 "_law_place" d_l_place) : Fn P w K mg base C 2 "_law_stands" d_l_stands :=
  fn_F T sc_l_stands rfl rfl (fun _ _ _ _ _ _ us hl => len3 us hl (fun _ _ _ => rfl)) fun f cdv A outer sh H E hr =>
    have nd : (cxOf CX0 P w K mg base ["_law_rows", "_law_beginning_here", "_law_other", "_law_at"] "_law_stands" (defScope s_l_stands) f cdv A outer sh H E).nox.N.Nodup := sc_l_stands.nd
    (pdb_cons (pds_set (i := 3) nd rfl (by first | exact Or.inl rfl | exact Or.inr rfl) (pd_callF G_l_place (hr.mono (by decide)) rfl (pda_cons (pd_var (pv 0)) (pda_cons (pd_var (pv 1)) pda_nil)))) (pdb_cons (pds_if (pdt_cmp opD_is (pd_var (pv 3)) pd_non (nomark _)) (pdb_one (pds_ret (pd_var (pv 2)))) pdb_nil) (pdb_one (pds_ret (pd_ix (pd_ix (pd_var (pv 0)) (pd_var (pv 3))) pd_int)))))
theorem sc_Table_has : FnScope ["self", "beginning"] ["self", "beginning"] (defScope s_Table_has) := ⟨rfl, rfl, rfl, by decide +kernel, rfl, by decide +kernel, by decide +kernel⟩
theorem ok_Table_has {dV : Value} {f : Addr} {fd : FuncData} (F : FunV K "has" "Table.has" s_Table_has dV f fd) (T_Table : ClD K C "Table") (n_Table_thing_by : NoA K C "Table" "thing_by") : FnOk P w K mg base CX0 1 f fd ["self", "beginning"] (spD K C d_Table_has) :=
  fn_DV F sc_Table_has rfl rfl fun cdv A outer sh H E hr =>
    have nd : (cxOf CX0 P w K mg base ["self", "beginning"] "Table.has" (defScope s_Table_has) f cdv A outer sh H E).nox.N.Nodup := sc_Table_has.nd
    (pdb_one (pds_ret (pd_din (hu_of hr) (pd_var (pv 1)) (pd_fld T_Table n_Table_thing_by (pd_var (pv 0))))))
theorem sc_l_one_told : FnScope ["_law_table", "_law_rows", "_law_one", "_law_x", "_law_other", "_law_k", "_law_which"] ["_law_table", "_law_rows", "_law_one", "_law_x"] (defScope s_l_one_told) := ⟨rfl, rfl, rfl, by decide +kernel, rfl, by decide +kernel, by decide +kernel⟩
theorem ok_l_one_told (T : TF K mg "_law_one_told" s_l_one_told) (M_Table_get_1 : Mt P w K mg base C 1 "Table" "get" d_Table_get [.non]) (M_Table_get_0 : Mt P w K mg base C 1 "Table" "get" d_Table_get []) (M_Table_has_0 : Mt P w K mg base C 1 "Table" "has" d_Table_has []) (M_Table_count_0 : Mt P w K mg base C 1 "Table" "count" d_Table_count []) (b_len : mg "len" = none) (b_range : mg "range" = none) (G_l_thing_by : Fn P w K mg base C 1 "_law_thing_by" d_l_thing_by) (G_l_same : Fn P w K mg base C 2 "_law_same" d_l_same) (G_l_stands : Fn P w K mg base C 2 "_law_stands" d_l_stands) (G_l_truth : Fn P w K mg base C 1 "_law_truth" d_l_truth) (G_l_place : Fn P w K mg base C 1 "_law_place" d_l_place) (G_l_whole : Fn P w K mg base C 1 "_law_whole" d_l_whole) : Fn P w K mg base C 3 "_law_one_told" d_l_one_told :=
  fn_F T sc_l_one_told rfl rfl (fun _ _ _ _ _ _ us hl => len4 us hl (fun _ _ _ _ => rfl)) fun f cdv A outer sh H E hr =>
    have nd : (cxOf CX0 P w K mg base ["_law_table", "_law_rows", "_law_one", "_law_x", "_law_other", "_law_k", "_law_which"] "_law_one_told" (defScope s_l_one_told) f cdv A outer sh H E).nox.N.Nodup := sc_l_one_told.nd
    (pdb_cons (pds_set (i := 4) nd rfl (by first | exact Or.inl rfl | exact Or.inr rfl) (pd_callF G_l_thing_by (hr.mono (by decide)) rfl (pda_cons (pd_op opD_div (pd_var (pv 3)) pd_int) pda_nil))) (pdb_cons (pds_for PassesOwn.never rfl (pdi_range1 rfl b_range (pda_cons pd_int pda_nil)) (pdg_name nd rfl (by first | exact Or.inl rfl | exact Or.inr rfl)) (pdb_cons (pds_set (i := 6) nd rfl (by first | exact Or.inl rfl | exact Or.inr rfl) (pd_op opD_mod (pd_op opD_add (pd_var (pv 3)) (pd_var (pv 5))) pd_int)) (pdb_cons (pds_if (PDW.pt (pdw_and (pdt_cmp (opD_eq hr.units) (pd_var (pv 6)) pd_int (nomark _)) (pdw_and1 (pdt_not (pdt_val (pd_callF G_l_same (hr.mono (by decide)) rfl (pda_cons (pd_meth M_Table_get_1 (hr.mono (by decide)) (pd_var (pv 0)) (pda_cons (pd_var (pv 2)) pda_nil)) (pda_cons (pd_callF G_l_stands (hr.mono (by decide)) rfl (pda_cons (pd_var (pv 1)) (pda_cons (pd_var (pv 2)) (pda_cons pd_non pda_nil)))) pda_nil)))))))) (pdb_one (pds_ret pd_bl)) pdb_nil) (pdb_cons (pds_if (PDW.pt (pdw_and (pdt_cmp (opD_eq hr.units) (pd_var (pv 6)) pd_int (nomark _)) (pdw_and1 (pdt_not (pdt_val (pd_callF G_l_same (hr.mono (by decide)) rfl (pda_cons (pd_meth M_Table_get_0 (hr.mono (by decide)) (pd_var (pv 0)) (pda_cons (pd_var (pv 2)) (pda_cons (pd_var (pv 4)) pda_nil))) (pda_cons (pd_callF G_l_stands (hr.mono (by decide)) rfl (pda_cons (pd_var (pv 1)) (pda_cons (pd_var (pv 2)) (pda_cons (pd_var (pv 4)) pda_nil)))) pda_nil)))))))) (pdb_one (pds_ret pd_bl)) pdb_nil) (pdb_one (pds_if (PDW.pt (pdw_and (pdt_cmp (opD_eq hr.units) (pd_var (pv 6)) pd_int (nomark _)) (pdw_and1 (pdt_not (pdt_val (pd_callF G_l_truth (hr.mono (by decide)) rfl (pda_cons (pd_meth M_Table_has_0 (hr.mono (by decide)) (pd_var (pv 0)) (pda_cons (pd_var (pv 2)) pda_nil)) (pda_cons (pd_cmp opD_isnot (pd_callF G_l_place (hr.mono (by decide)) rfl (pda_cons (pd_var (pv 1)) (pda_cons (pd_var (pv 2)) pda_nil))) pd_non (nomark _)) pda_nil)))))))) (pdb_one (pds_ret pd_bl)) pdb_nil)))))) (pdb_one (pds_ret (pd_and (pd_callF G_l_whole (hr.mono (by decide)) rfl (pda_cons (pd_meth0 M_Table_count_0 (hr.mono (by decide)) (pd_var (pv 0))) pda_nil)) (pd_one (pd_cmp (opD_eq hr.units) (pd_meth0 M_Table_count_0 (hr.mono (by decide)) (pd_var (pv 0))) (pd_callB callD_len rfl b_len PySem.boot_len (pda_cons (pd_var (pv 1)) pda_nil)) (nomark _))))))))
theorem sc_Table_cut : FnScope ["self", "beginning"] ["self", "beginning"] (defScope s_Table_cut) := ⟨rfl, rfl, rfl, by decide +kernel, rfl, by decide +kernel, by decide +kernel⟩
theorem ok_Table_cut {dV : Value} {f : Addr} {fd : FuncData} (F : FunV K "cut" "Table.cut" s_Table_cut dV f fd) (T_Table : ClD K C "Table") (n_Table_thing_by : NoA K C "Table" "thing_by") {C_NoRow : Addr} (hC_NoRow : C "NoRow" = some C_NoRow) (O_NoRow : OwnCls "NoRow" C_NoRow bmVE "ValueError.__new__" mg base) : FnOk P w K mg base (CXr P w) 1 f fd ["self", "beginning"] (spX K C d_Table_cut r_Table_cut) :=
  fn_DX F sc_Table_cut rfl rfl (fun cdv A outer sh H E hr =>
    have nd : (cxOf (CXr P w) P w K mg base ["self", "beginning"] "Table.cut" (defScope s_Table_cut) f cdv A outer sh H E).nox.N.Nodup := sc_Table_cut.nd
    (pdb_cons (pds_if (pdt_dnotin (hu_of hr) (pd_var (pv 1)) (pd_fld T_Table n_Table_thing_by (pd_var (pv 0)))) (pdb_one pds_never) pdb_nil) (pdb_one (pds_expr (pd_dpop (hu_of hr) (pd_fld T_Table n_Table_thing_by (pd_var (pv 0))) (pd_var (pv 1)) ⟨rfl, rfl, rfl, rfl⟩)))))
    fun cdv A outer sh H E hr =>
    have nd : (cxOf (CXr P w) P w K mg base ["self", "beginning"] "Table.cut" (defScope s_Table_cut) f cdv A outer sh H E).N.Nodup := sc_Table_cut.nd
    (rdb_here (rds_if (pdt_dnotin (hu_of hr) (pd_var (pv 1)) (pd_fld T_Table n_Table_thing_by (pd_var (pv 0)))) (rdb_one (rds_raiseV throwOk_def hC_NoRow O_NoRow PySem.F.excBase_ValueError hr.hd rfl (pv_fr hr (pd_var (pv 1))))) rdb_never))
theorem sc_l_cut : FnScope ["_law_table", "_law_beginning_here", "e"] ["_law_table", "_law_beginning_here"] (defScope s_l_cut) := ⟨rfl, rfl, rfl, by decide +kernel, rfl, by decide +kernel, by decide +kernel⟩
theorem ok_l_cut (T : TF K mg "_law_cut" s_l_cut) (M_Table_cut_0 : MtX P w K mg base C 1 "Table" "cut" d_Table_cut r_Table_cut []) {C_BadDeed C_BadText C_NoHouse C_NoNote C_NoRow C_NotTied C_Owned C_PostError C_Tied : Addr} (m_BadDeed : mg "BadDeed" = some (.ref C_BadDeed)) (m_BadText : mg "BadText" = some (.ref C_BadText)) (m_NoHouse : mg "NoHouse" = some (.ref C_NoHouse)) (m_NoNote : mg "NoNote" = some (.ref C_NoNote)) (m_NoRow : mg "NoRow" = some (.ref C_NoRow)) (m_NotTied : mg "NotTied" = some (.ref C_NotTied)) (m_Owned : mg "Owned" = some (.ref C_Owned)) (m_PostError : mg "PostError" = some (.ref C_PostError)) (m_Tied : mg "Tied" = some (.ref C_Tied)) (tc_PostError : ∀ c, tcf_PostError c = true → ∃ Ca, C c = some Ca ∧ PySem.W.exmOne K (.ref Ca) (.ref C_PostError) = some true) (x_0 : ∀ c Ca b, xt_0 c = some b → C c = some Ca → PySem.W.ExcLook K Ca ∧ PySem.W.kitAny K (.ref Ca) [.ref C_BadText, .ref C_Tied, .ref C_NotTied, .ref C_Owned, .ref C_NoHouse, .ref C_NoNote, .ref C_BadDeed] = some b) (x_1 : ∀ c Ca b, xt_1 c = some b → C c = some Ca → PySem.W.ExcLook K Ca ∧ PySem.W.kitOne K (.ref Ca) (.ref C_NoRow) = some b) (x_2 : ∀ c Ca b, xt_2 c = some b → C c = some Ca → PySem.W.ExcLook K Ca ∧ PySem.W.kitOne K (.ref Ca) (.type "ValueError") = some b) (b_ValueError : mg "ValueError" = none) (b_int : mg "int" = none) (b_isinstance : mg "isinstance" = none) : Fn P w K mg base C 2 "_law_cut" d_l_cut :=
  fn_F T sc_l_cut rfl rfl (fun _ _ _ _ _ _ us hl => len2 us hl (fun _ _ => rfl)) fun f cdv A outer sh H E hr =>
    have nd : (cxOf CX0 P w K mg base ["_law_table", "_law_beginning_here", "e"] "_law_cut" (defScope s_l_cut) f cdv A outer sh H E).nox.N.Nodup := sc_l_cut.nd
    (pdb_one (pds_try (i := 2) (fun pn E => (pdb_one (pds_ret (pd_ix (pd_lst (pda_cons pd_non (pda_cons pd_bl pda_nil))) (pd_callTy callD_int rfl b_int boot_int (pda_cons (pd_cmp opD_is (pd_methX M_Table_cut_0 (hr.mono (by decide)) (pd_var (pv 0)) (pda_cons (pd_var (pv 1)) pda_nil)) pd_non (nomark _)) pda_nil)))))) (fun pn E XW hX => (rdb_one (rds_ret (rd_ix (pd_lst (pda_cons pd_non (pda_cons pd_bl pda_nil))) (rd_ty (rd_cmp (rd_meth hX M_Table_cut_0 (hr.mono (by decide)) (pd_var (pv 0)) (pda_cons (pd_var (pv 1)) pda_nil))) rfl b_int boot_int))))) (fun v pn => (pdb_cons (pds_if (pdt_val (pd_isxs (vs := [C_BadText, C_Tied, C_NotTied, C_Owned, C_NoHouse, C_NoNote, C_BadDeed].map V.ref) (cvs := [C_BadText, C_Tied, C_NotTied, C_Owned, C_NoHouse, C_NoNote, C_BadDeed].map Value.ref) (pd_var (pv 2)) (pa_cons (pe_glob (v := .ref C_BadText) rfl m_BadText rfl) (pa_cons (pe_glob (v := .ref C_Tied) rfl m_Tied rfl) (pa_cons (pe_glob (v := .ref C_NotTied) rfl m_NotTied rfl) (pa_cons (pe_glob (v := .ref C_Owned) rfl m_Owned rfl) (pa_cons (pe_glob (v := .ref C_NoHouse) rfl m_NoHouse rfl) (pa_cons (pe_glob (v := .ref C_NoNote) rfl m_NoNote rfl) (pa_cons (pe_glob (v := .ref C_BadDeed) rfl m_BadDeed rfl) pa_nil))))))) (fun _ _ _ q => q) (fun us h => vals_refs h) (by show 7 ≤ sizeLine; rw [sizeLine_eq]; decide) rfl b_isinstance boot_isinstance x_0)) (pdb_one (pds_ret pd_non)) pdb_nil) (pdb_one (pds_ret (pd_ix (pd_lst (pda_cons pd_non (pda_cons pd_bl pda_nil))) (pd_callTy callD_int rfl b_int boot_int (pda_cons (pd_and (pd_isx (pd_var (pv 2)) (pe_glob (v := .ref C_NoRow) rfl m_NoRow rfl) (fun u h => h) rfl b_isinstance boot_isinstance x_1) (pd_one (pd_isx (pd_var (pv 2)) (pe_bltn (v := .ty "ValueError") rfl b_ValueError (by decide +kernel) rfl) (fun u h => h) rfl b_isinstance boot_isinstance x_2))) pda_nil))))))) tc_PostError rfl rfl rfl m_PostError nd rfl rfl rfl))
theorem sc_law : FnScope ["_law_script", "_law_base", "_law_table", "_law_rows", "_law_cell", "_law_xs", "_law_beginning_here", "_law_one"] ["_law_script"] (defScope s_law) := ⟨rfl, rfl, rfl, by decide +kernel, rfl, by decide +kernel, by decide +kernel⟩
end
theorem law_fn {P : Program} {w : World} {K : PySem.W.Frag} {mg : Str → Option Value} {base : Heap} {C : Cl} {f : Addr} {fd : FuncData} (F : Fun K "law" "law" s_law f fd) (M_Table_put_0 : Mt P w K mg base C 1 "Table" "put" d_Table_put []) (K_Table : MkD P w K mg base C 1 "Table" d_Table___init__ []) (G_l_stream : Fn P w K mg base C 1 "_law_stream" d_l_stream) (G_l_cell_at : Fn P w K mg base C 1 "_law_cell_at" d_l_cell_at) (G_l_picked : Fn P w K mg base C 3 "_law_picked" d_l_picked) (G_l_thing_by : Fn P w K mg base C 1 "_law_thing_by" d_l_thing_by) (G_l_put : Fn P w K mg base C 2 "_law_put" d_l_put) (G_l_truth : Fn P w K mg base C 1 "_law_truth" d_l_truth) (G_l_place : Fn P w K mg base C 1 "_law_place" d_l_place) (G_l_cut : Fn P w K mg base C 2 "_law_cut" d_l_cut) (G_l_one_told : Fn P w K mg base C 3 "_law_one_told" d_l_one_told) : FnOk P w K mg base CX0 4 f fd ["_law_script"] (spD K C d_law) :=
  fn_D F sc_law rfl rfl fun cdv A outer sh H E hr =>
    have nd : (cxOf CX0 P w K mg base ["_law_script", "_law_base", "_law_table", "_law_rows", "_law_cell", "_law_xs", "_law_beginning_here", "_law_one"] "law" (defScope s_law) f cdv A outer sh H E).nox.N.Nodup := sc_law.nd
    (pdb_cons (pds_set (i := 1) nd rfl (by first | exact Or.inl rfl | exact Or.inr rfl) (pd_op opD_mod (pd_ix (pd_callF G_l_stream (hr.mono (by decide)) rfl (pda_cons (pd_callF G_l_cell_at (hr.mono (by decide)) rfl (pda_cons (pd_var (pv 0)) (pda_cons pd_int pda_nil))) (pda_cons pd_int pda_nil))) pd_int) pd_int)) (pdb_cons (pds_set (i := 2) nd rfl (by first | exact Or.inl rfl | exact Or.inr rfl) (pd_make0 K_Table (hr.mono (by decide)) rfl)) (pdb_cons (pds_set (i := 3) nd rfl (by first | exact Or.inl rfl | exact Or.inr rfl) (pd_lst pda_nil)) (pdb_cons (pds_for PassesOwn.never rfl (pdi_list (pd_sl (pd_var (pv 0)) (pdo_some pd_int) (pdo_some pd_int))) (pdg_name nd rfl (by first | exact Or.inl rfl | exact Or.inr rfl)) (pdb_cons (pds_set (i := 5) nd rfl (by first | exact Or.inl rfl | exact Or.inr rfl) (pd_callF G_l_stream (hr.mono (by decide)) rfl (pda_cons (pd_var (pv 4)) (pda_cons pd_int pda_nil)))) (pdb_cons (pds_set (i := 6) nd rfl (by first | exact Or.inl rfl | exact Or.inr rfl) (pd_callF G_l_picked (hr.mono (by decide)) rfl (pda_cons (pd_ix (pd_var (pv 5)) pd_int) (pda_cons (pd_var (pv 3)) (pda_cons (pd_var (pv 1)) pda_nil))))) (pdb_cons (pds_if (pdt_cmp opD_lt (pd_op opD_mod (pd_ix (pd_var (pv 5)) pd_int) pd_int) pd_int (nomark _)) (pdb_cons (pds_if (pdt_cmp opD_isnot (pd_meth M_Table_put_0 (hr.mono (by decide)) (pd_var (pv 2)) (pda_cons (pd_var (pv 6)) (pda_cons (pd_callF G_l_thing_by (hr.mono (by decide)) rfl (pda_cons (pd_ix (pd_var (pv 5)) pd_int) pda_nil)) pda_nil))) pd_non (nomark _)) (pdb_one (pds_ret pd_bl)) pdb_nil) (pdb_one (pds_set (i := 3) nd rfl (by first | exact Or.inl rfl | exact Or.inr rfl) (pd_callF G_l_put (hr.mono (by decide)) rfl (pda_cons (pd_var (pv 3)) (pda_cons (pd_var (pv 6)) (pda_cons (pd_callF G_l_thing_by (hr.mono (by decide)) rfl (pda_cons (pd_ix (pd_var (pv 5)) pd_int) pda_nil)) pda_nil))))))) (pdb_cons (pds_if (pdt_not (pdt_val (pd_callF G_l_truth (hr.mono (by decide)) rfl (pda_cons (pd_callF G_l_cut (hr.mono (by decide)) rfl (pda_cons (pd_var (pv 2)) (pda_cons (pd_var (pv 6)) pda_nil))) (pda_cons (pd_cmp opD_isnot (pd_callF G_l_place (hr.mono (by decide)) rfl (pda_cons (pd_var (pv 3)) (pda_cons (pd_var (pv 6)) pda_nil))) pd_non (nomark _)) pda_nil))))) (pdb_one (pds_ret pd_bl)) pdb_nil) (pdb_cons (pds_compN (i := 3) nd rfl (by first | exact Or.inl rfl | exact Or.inr rfl) rfl (compOk_of (oN := ["_law_script", "_law_base", "_law_table", "_law_rows", "_law_cell", "_law_xs", "_law_beginning_here", "_law_one"]) (osc := defScope s_law) (N := ["_law_row", "_law_beginning_here"]) (μ := [none, some 6]) rfl rfl (by decide +kernel)) (pdi_list (pd_var (pv 3))) (fun _ _ _ _ => (pdg_name (show List.Nodup (["_law_row", "_law_beginning_here"] : List Str) by decide +kernel) rfl (by first | exact Or.inl rfl | exact Or.inr rfl))) (fun _ _ _ _ => (pdts_one (pdt_cmp (opD_ne hr.units) (pd_ix (pd_var (pv 0)) pd_int) (pd_var (pv 1)) (nomark _)))) (fun _ _ _ _ => (pd_var (pv 0)))) (pdb_one (pds_if (pdt_cmp (opD_eq hr.units) (pd_op opD_mod (pd_op opD_div (pd_ix (pd_var (pv 5)) pd_int) pd_int) pd_int) pd_int (nomark _)) (pdb_cons (pds_expr (pd_meth M_Table_put_0 (hr.mono (by decide)) (pd_var (pv 2)) (pda_cons (pd_var (pv 6)) (pda_cons (pd_callF G_l_thing_by (hr.mono (by decide)) rfl (pda_cons (pd_ix (pd_var (pv 5)) pd_int) pda_nil)) pda_nil)))) (pdb_one (pds_if (PDW.pt (pdw_or (pdt_cmp opD_isnot (pd_callF G_l_cut (hr.mono (by decide)) rfl (pda_cons (pd_var (pv 2)) (pda_cons (pd_var (pv 6)) pda_nil))) pd_bl (nomark _)) (pdw_or1 (pdt_cmp opD_isnot (pd_callF G_l_cut (hr.mono (by decide)) rfl (pda_cons (pd_var (pv 2)) (pda_cons (pd_var (pv 6)) pda_nil))) pd_bl (nomark _))))) (pdb_one (pds_ret pd_bl)) pdb_nil))) pdb_nil))))) (pdb_one (pds_for PassesOwn.never rfl (pdi_list (pd_lst (pda_cons (pd_var (pv 6)) (pda_cons (pd_callF G_l_picked (hr.mono (by decide)) rfl (pda_cons (pd_ix (pd_var (pv 5)) pd_int) (pda_cons (pd_var (pv 3)) (pda_cons (pd_var (pv 1)) pda_nil)))) (pda_cons (pd_callF G_l_picked (hr.mono (by decide)) rfl (pda_cons (pd_ix (pd_var (pv 5)) pd_int) (pda_cons (pd_var (pv 3)) (pda_cons (pd_var (pv 1)) pda_nil)))) pda_nil))))) (pdg_name nd rfl (by first | exact Or.inl rfl | exact Or.inr rfl)) (pdb_one (pds_if (pdt_not (pdt_val (pd_callF G_l_one_told (hr.mono (by decide)) rfl (pda_cons (pd_var (pv 2)) (pda_cons (pd_var (pv 3)) (pda_cons (pd_var (pv 7)) (pda_cons (pd_ix (pd_var (pv 5)) pd_int) pda_nil))))))) (pdb_one (pds_ret pd_bl)) pdb_nil)))))))) (pdb_one (pds_ret pd_bl))))))
theorem all_mk {P : Program} {w : World} {K : PySem.W.Frag} {h : Heap} {mg : Str → Option Value} {fa f_Table___init__ f_l_stream f_l_bits f_l_number f_l_beginning f_l_picked f_l_place f_l_put f_l_cell_at f_Table_put f_l_thing_by f_l_truth f_l_whole f_Table_count f_l_same f_Table_get f_l_stands f_Table_has f_l_one_told f_Table_cut f_l_cut f_law C_Table C_BadDeed C_BadText C_NoHouse C_NoNote C_NoRow C_NotTied C_Owned C_PostError C_Tied : Addr} (X : K.In h) (G : h.Ns mainGlobals mg) (hfa : mg "law" = some (.ref fa))
    {od_Table___init__ an_Table___init__ : Option Addr} {sl_Table___init__ : Array (Option Value)} {oc_Table___init__ kV_Table___init__ dc_Table___init__ pm_Table___init__ cd_Table___init__ ct_Table___init__ : Value}
    {od_l_stream an_l_stream : Option Addr} {sl_l_stream : Array (Option Value)} {oc_l_stream kV_l_stream dc_l_stream pm_l_stream cd_l_stream ct_l_stream : Value}
    {od_l_bits an_l_bits : Option Addr} {sl_l_bits : Array (Option Value)} {oc_l_bits kV_l_bits dc_l_bits pm_l_bits cd_l_bits ct_l_bits : Value}
    {od_l_number an_l_number : Option Addr} {sl_l_number : Array (Option Value)} {oc_l_number kV_l_number dc_l_number pm_l_number cd_l_number ct_l_number : Value}
    {od_l_beginning an_l_beginning : Option Addr} {sl_l_beginning : Array (Option Value)} {oc_l_beginning kV_l_beginning dc_l_beginning pm_l_beginning cd_l_beginning ct_l_beginning : Value}
    {od_l_picked an_l_picked : Option Addr} {sl_l_picked : Array (Option Value)} {oc_l_picked kV_l_picked dc_l_picked pm_l_picked cd_l_picked ct_l_picked : Value}
    {od_l_place an_l_place : Option Addr} {sl_l_place : Array (Option Value)} {oc_l_place kV_l_place dc_l_place pm_l_place cd_l_place ct_l_place : Value}
    {od_l_put an_l_put : Option Addr} {sl_l_put : Array (Option Value)} {oc_l_put kV_l_put dc_l_put pm_l_put cd_l_put ct_l_put : Value}
    {od_l_cell_at an_l_cell_at : Option Addr} {sl_l_cell_at : Array (Option Value)} {oc_l_cell_at kV_l_cell_at dc_l_cell_at pm_l_cell_at cd_l_cell_at ct_l_cell_at : Value}
    {od_Table_put an_Table_put : Option Addr} {sl_Table_put : Array (Option Value)} {oc_Table_put kV_Table_put dc_Table_put pm_Table_put cd_Table_put ct_Table_put : Value}
    {od_l_thing_by an_l_thing_by : Option Addr} {sl_l_thing_by : Array (Option Value)} {oc_l_thing_by kV_l_thing_by dc_l_thing_by pm_l_thing_by cd_l_thing_by ct_l_thing_by : Value}
    {od_l_truth an_l_truth : Option Addr} {sl_l_truth : Array (Option Value)} {oc_l_truth kV_l_truth dc_l_truth pm_l_truth cd_l_truth ct_l_truth : Value}
    {od_l_whole an_l_whole : Option Addr} {sl_l_whole : Array (Option Value)} {oc_l_whole kV_l_whole dc_l_whole pm_l_whole cd_l_whole ct_l_whole : Value}
    {od_Table_count an_Table_count : Option Addr} {sl_Table_count : Array (Option Value)} {oc_Table_count kV_Table_count dc_Table_count pm_Table_count cd_Table_count ct_Table_count : Value}
    {od_l_same an_l_same : Option Addr} {sl_l_same : Array (Option Value)} {oc_l_same kV_l_same dc_l_same pm_l_same cd_l_same ct_l_same : Value}
    {od_Table_get an_Table_get : Option Addr} {sl_Table_get : Array (Option Value)} {oc_Table_get kV_Table_get dc_Table_get pm_Table_get cd_Table_get ct_Table_get : Value}
    {D_Table_get : Addr} {u_Table_get : Value} {v_Table_get : Option Addr} {w_Table_get : Array (Option Value)} {m_Table_get : Nat} 
    {od_l_stands an_l_stands : Option Addr} {sl_l_stands : Array (Option Value)} {oc_l_stands kV_l_stands dc_l_stands pm_l_stands cd_l_stands ct_l_stands : Value}
    {od_Table_has an_Table_has : Option Addr} {sl_Table_has : Array (Option Value)} {oc_Table_has kV_Table_has dc_Table_has pm_Table_has cd_Table_has ct_Table_has : Value}
    {od_l_one_told an_l_one_told : Option Addr} {sl_l_one_told : Array (Option Value)} {oc_l_one_told kV_l_one_told dc_l_one_told pm_l_one_told cd_l_one_told ct_l_one_told : Value}
    {od_Table_cut an_Table_cut : Option Addr} {sl_Table_cut : Array (Option Value)} {oc_Table_cut kV_Table_cut dc_Table_cut pm_Table_cut cd_Table_cut ct_Table_cut : Value}
    {od_l_cut an_l_cut : Option Addr} {sl_l_cut : Array (Option Value)} {oc_l_cut kV_l_cut dc_l_cut pm_l_cut cd_l_cut ct_l_cut : Value}
    {od_law an_law : Option Addr} {sl_law : Array (Option Value)} {oc_law kV_law dc_law pm_law cd_law ct_law : Value}
    (a_Table___init__ : PySem.W.findIn K (.ref C_Table) "__init__" = some (some (.ref f_Table___init__))) (i_Table___init__ : PySem.W.isFn K (.ref f_Table___init__) = true)
    (l_Table___init__ : K.lookup f_Table___init__ = some ⟨oc_Table___init__, od_Table___init__, .func (PySem.W.fnOf "__init__" "Table.__init__" (defArgs s_Table___init__) (defBody s_Table___init__) (defScope s_Table___init__) .none kV_Table___init__ dc_Table___init__ pm_Table___init__ an_Table___init__ cd_Table___init__ ct_Table___init__), sl_Table___init__⟩) (cc_Table___init__ : PySem.W.codeIn K cd_Table___init__ "Table.__init__" = true) (k_Table___init__ : PySem.W.keepIn K (.ref f_Table___init__) = true)
    (a_l_stream : PySem.W.nsIn K mainGlobals "_law_stream" = some (some (.ref f_l_stream)))
    (l_l_stream : K.lookup f_l_stream = some ⟨oc_l_stream, od_l_stream, .func (PySem.W.fnOf "_law_stream" "_law_stream" (defArgs s_l_stream) (defBody s_l_stream) (defScope s_l_stream) .none kV_l_stream dc_l_stream pm_l_stream an_l_stream cd_l_stream ct_l_stream), sl_l_stream⟩) (cc_l_stream : PySem.W.codeIn K cd_l_stream "_law_stream" = true) (k_l_stream : PySem.W.keepIn K (.ref f_l_stream) = true)
    (a_l_bits : PySem.W.nsIn K mainGlobals "_law_bits" = some (some (.ref f_l_bits)))
    (l_l_bits : K.lookup f_l_bits = some ⟨oc_l_bits, od_l_bits, .func (PySem.W.fnOf "_law_bits" "_law_bits" (defArgs s_l_bits) (defBody s_l_bits) (defScope s_l_bits) .none kV_l_bits dc_l_bits pm_l_bits an_l_bits cd_l_bits ct_l_bits), sl_l_bits⟩) (cc_l_bits : PySem.W.codeIn K cd_l_bits "_law_bits" = true) (k_l_bits : PySem.W.keepIn K (.ref f_l_bits) = true)
    (a_l_number : PySem.W.nsIn K mainGlobals "_law_number" = some (some (.ref f_l_number)))
    (l_l_number : K.lookup f_l_number = some ⟨oc_l_number, od_l_number, .func (PySem.W.fnOf "_law_number" "_law_number" (defArgs s_l_number) (defBody s_l_number) (defScope s_l_number) .none kV_l_number dc_l_number pm_l_number an_l_number cd_l_number ct_l_number), sl_l_number⟩) (cc_l_number : PySem.W.codeIn K cd_l_number "_law_number" = true) (k_l_number : PySem.W.keepIn K (.ref f_l_number) = true)
    (a_l_beginning : PySem.W.nsIn K mainGlobals "_law_beginning" = some (some (.ref f_l_beginning)))
    (l_l_beginning : K.lookup f_l_beginning = some ⟨oc_l_beginning, od_l_beginning, .func (PySem.W.fnOf "_law_beginning" "_law_beginning" (defArgs s_l_beginning) (defBody s_l_beginning) (defScope s_l_beginning) .none kV_l_beginning dc_l_beginning pm_l_beginning an_l_beginning cd_l_beginning ct_l_beginning), sl_l_beginning⟩) (cc_l_beginning : PySem.W.codeIn K cd_l_beginning "_law_beginning" = true) (k_l_beginning : PySem.W.keepIn K (.ref f_l_beginning) = true)
    (a_l_picked : PySem.W.nsIn K mainGlobals "_law_picked" = some (some (.ref f_l_picked)))
    (l_l_picked : K.lookup f_l_picked = some ⟨oc_l_picked, od_l_picked, .func (PySem.W.fnOf "_law_picked" "_law_picked" (defArgs s_l_picked) (defBody s_l_picked) (defScope s_l_picked) .none kV_l_picked dc_l_picked pm_l_picked an_l_picked cd_l_picked ct_l_picked), sl_l_picked⟩) (cc_l_picked : PySem.W.codeIn K cd_l_picked "_law_picked" = true) (k_l_picked : PySem.W.keepIn K (.ref f_l_picked) = true)
    (a_l_place : PySem.W.nsIn K mainGlobals "_law_place" = some (some (.ref f_l_place)))
    (l_l_place : K.lookup f_l_place = some ⟨oc_l_place, od_l_place, .func (PySem.W.fnOf "_law_place" "_law_place" (defArgs s_l_place) (defBody s_l_place) (defScope s_l_place) .none kV_l_place dc_l_place pm_l_place an_l_place cd_l_place ct_l_place), sl_l_place⟩) (cc_l_place : PySem.W.codeIn K cd_l_place "_law_place" = true) (k_l_place : PySem.W.keepIn K (.ref f_l_place) = true)
    (a_l_put : PySem.W.nsIn K mainGlobals "_law_put" = some (some (.ref f_l_put)))
    (l_l_put : K.lookup f_l_put = some ⟨oc_l_put, od_l_put, .func (PySem.W.fnOf "_law_put" "_law_put" (defArgs s_l_put) (defBody s_l_put) (defScope s_l_put) .none kV_l_put dc_l_put pm_l_put an_l_put cd_l_put ct_l_put), sl_l_put⟩) (cc_l_put : PySem.W.codeIn K cd_l_put "_law_put" = true) (k_l_put : PySem.W.keepIn K (.ref f_l_put) = true)
    (a_l_cell_at : PySem.W.nsIn K mainGlobals "_law_cell_at" = some (some (.ref f_l_cell_at)))
    (l_l_cell_at : K.lookup f_l_cell_at = some ⟨oc_l_cell_at, od_l_cell_at, .func (PySem.W.fnOf "_law_cell_at" "_law_cell_at" (defArgs s_l_cell_at) (defBody s_l_cell_at) (defScope s_l_cell_at) .none kV_l_cell_at dc_l_cell_at pm_l_cell_at an_l_cell_at cd_l_cell_at ct_l_cell_at), sl_l_cell_at⟩) (cc_l_cell_at : PySem.W.codeIn K cd_l_cell_at "_law_cell_at" = true) (k_l_cell_at : PySem.W.keepIn K (.ref f_l_cell_at) = true)
    (a_Table_put : PySem.W.findIn K (.ref C_Table) "put" = some (some (.ref f_Table_put))) (i_Table_put : PySem.W.isFn K (.ref f_Table_put) = true)
    (l_Table_put : K.lookup f_Table_put = some ⟨oc_Table_put, od_Table_put, .func (PySem.W.fnOf "put" "Table.put" (defArgs s_Table_put) (defBody s_Table_put) (defScope s_Table_put) .none kV_Table_put dc_Table_put pm_Table_put an_Table_put cd_Table_put ct_Table_put), sl_Table_put⟩) (cc_Table_put : PySem.W.codeIn K cd_Table_put "Table.put" = true) (k_Table_put : PySem.W.keepIn K (.ref f_Table_put) = true)
    (a_l_thing_by : PySem.W.nsIn K mainGlobals "_law_thing_by" = some (some (.ref f_l_thing_by)))
    (l_l_thing_by : K.lookup f_l_thing_by = some ⟨oc_l_thing_by, od_l_thing_by, .func (PySem.W.fnOf "_law_thing_by" "_law_thing_by" (defArgs s_l_thing_by) (defBody s_l_thing_by) (defScope s_l_thing_by) .none kV_l_thing_by dc_l_thing_by pm_l_thing_by an_l_thing_by cd_l_thing_by ct_l_thing_by), sl_l_thing_by⟩) (cc_l_thing_by : PySem.W.codeIn K cd_l_thing_by "_law_thing_by" = true) (k_l_thing_by : PySem.W.keepIn K (.ref f_l_thing_by) = true)
    (a_l_truth : PySem.W.nsIn K mainGlobals "_law_truth" = some (some (.ref f_l_truth)))
    (l_l_truth : K.lookup f_l_truth = some ⟨oc_l_truth, od_l_truth, .func (PySem.W.fnOf "_law_truth" "_law_truth" (defArgs s_l_truth) (defBody s_l_truth) (defScope s_l_truth) .none kV_l_truth dc_l_truth pm_l_truth an_l_truth cd_l_truth ct_l_truth), sl_l_truth⟩) (cc_l_truth : PySem.W.codeIn K cd_l_truth "_law_truth" = true) (k_l_truth : PySem.W.keepIn K (.ref f_l_truth) = true)
    (a_l_whole : PySem.W.nsIn K mainGlobals "_law_whole" = some (some (.ref f_l_whole)))
    (l_l_whole : K.lookup f_l_whole = some ⟨oc_l_whole, od_l_whole, .func (PySem.W.fnOf "_law_whole" "_law_whole" (defArgs s_l_whole) (defBody s_l_whole) (defScope s_l_whole) .none kV_l_whole dc_l_whole pm_l_whole an_l_whole cd_l_whole ct_l_whole), sl_l_whole⟩) (cc_l_whole : PySem.W.codeIn K cd_l_whole "_law_whole" = true) (k_l_whole : PySem.W.keepIn K (.ref f_l_whole) = true)
    (a_Table_count : PySem.W.findIn K (.ref C_Table) "count" = some (some (.ref f_Table_count))) (i_Table_count : PySem.W.isFn K (.ref f_Table_count) = true)
    (l_Table_count : K.lookup f_Table_count = some ⟨oc_Table_count, od_Table_count, .func (PySem.W.fnOf "count" "Table.count" (defArgs s_Table_count) (defBody s_Table_count) (defScope s_Table_count) .none kV_Table_count dc_Table_count pm_Table_count an_Table_count cd_Table_count ct_Table_count), sl_Table_count⟩) (cc_Table_count : PySem.W.codeIn K cd_Table_count "Table.count" = true) (k_Table_count : PySem.W.keepIn K (.ref f_Table_count) = true)
    (a_l_same : PySem.W.nsIn K mainGlobals "_law_same" = some (some (.ref f_l_same)))
    (l_l_same : K.lookup f_l_same = some ⟨oc_l_same, od_l_same, .func (PySem.W.fnOf "_law_same" "_law_same" (defArgs s_l_same) (defBody s_l_same) (defScope s_l_same) .none kV_l_same dc_l_same pm_l_same an_l_same cd_l_same ct_l_same), sl_l_same⟩) (cc_l_same : PySem.W.codeIn K cd_l_same "_law_same" = true) (k_l_same : PySem.W.keepIn K (.ref f_l_same) = true)
    (a_Table_get : PySem.W.findIn K (.ref C_Table) "get" = some (some (.ref f_Table_get))) (i_Table_get : PySem.W.isFn K (.ref f_Table_get) = true)
    (l_Table_get : K.lookup f_Table_get = some ⟨oc_Table_get, od_Table_get, .func (PySem.W.fnOf "get" "Table.get" (defArgs s_Table_get) (defBody s_Table_get) (defScope s_Table_get) (.ref D_Table_get) kV_Table_get dc_Table_get pm_Table_get an_Table_get cd_Table_get ct_Table_get), sl_Table_get⟩) (cc_Table_get : PySem.W.codeIn K cd_Table_get "Table.get" = true) (k_Table_get : PySem.W.keepIn K (.ref f_Table_get) = true)
    (ld_Table_get : K.lookup D_Table_get = some ⟨u_Table_get, v_Table_get, .seq #[.none] m_Table_get, w_Table_get⟩)
    (a_l_stands : PySem.W.nsIn K mainGlobals "_law_stands" = some (some (.ref f_l_stands)))
    (l_l_stands : K.lookup f_l_stands = some ⟨oc_l_stands, od_l_stands, .func (PySem.W.fnOf "_law_stands" "_law_stands" (defArgs s_l_stands) (defBody s_l_stands) (defScope s_l_stands) .none kV_l_stands dc_l_stands pm_l_stands an_l_stands cd_l_stands ct_l_stands), sl_l_stands⟩) (cc_l_stands : PySem.W.codeIn K cd_l_stands "_law_stands" = true) (k_l_stands : PySem.W.keepIn K (.ref f_l_stands) = true)
    (a_Table_has : PySem.W.findIn K (.ref C_Table) "has" = some (some (.ref f_Table_has))) (i_Table_has : PySem.W.isFn K (.ref f_Table_has) = true)
    (l_Table_has : K.lookup f_Table_has = some ⟨oc_Table_has, od_Table_has, .func (PySem.W.fnOf "has" "Table.has" (defArgs s_Table_has) (defBody s_Table_has) (defScope s_Table_has) .none kV_Table_has dc_Table_has pm_Table_has an_Table_has cd_Table_has ct_Table_has), sl_Table_has⟩) (cc_Table_has : PySem.W.codeIn K cd_Table_has "Table.has" = true) (k_Table_has : PySem.W.keepIn K (.ref f_Table_has) = true)
    (a_l_one_told : PySem.W.nsIn K mainGlobals "_law_one_told" = some (some (.ref f_l_one_told)))
    (l_l_one_told : K.lookup f_l_one_told = some ⟨oc_l_one_told, od_l_one_told, .func (PySem.W.fnOf "_law_one_told" "_law_one_told" (defArgs s_l_one_told) (defBody s_l_one_told) (defScope s_l_one_told) .none kV_l_one_told dc_l_one_told pm_l_one_told an_l_one_told cd_l_one_told ct_l_one_told), sl_l_one_told⟩) (cc_l_one_told : PySem.W.codeIn K cd_l_one_told "_law_one_told" = true) (k_l_one_told : PySem.W.keepIn K (.ref f_l_one_told) = true)
    (a_Table_cut : PySem.W.findIn K (.ref C_Table) "cut" = some (some (.ref f_Table_cut))) (i_Table_cut : PySem.W.isFn K (.ref f_Table_cut) = true)
    (l_Table_cut : K.lookup f_Table_cut = some ⟨oc_Table_cut, od_Table_cut, .func (PySem.W.fnOf "cut" "Table.cut" (defArgs s_Table_cut) (defBody s_Table_cut) (defScope s_Table_cut) .none kV_Table_cut dc_Table_cut pm_Table_cut an_Table_cut cd_Table_cut ct_Table_cut), sl_Table_cut⟩) (cc_Table_cut : PySem.W.codeIn K cd_Table_cut "Table.cut" = true) (k_Table_cut : PySem.W.keepIn K (.ref f_Table_cut) = true)
    (a_l_cut : PySem.W.nsIn K mainGlobals "_law_cut" = some (some (.ref f_l_cut)))
    (l_l_cut : K.lookup f_l_cut = some ⟨oc_l_cut, od_l_cut, .func (PySem.W.fnOf "_law_cut" "_law_cut" (defArgs s_l_cut) (defBody s_l_cut) (defScope s_l_cut) .none kV_l_cut dc_l_cut pm_l_cut an_l_cut cd_l_cut ct_l_cut), sl_l_cut⟩) (cc_l_cut : PySem.W.codeIn K cd_l_cut "_law_cut" = true) (k_l_cut : PySem.W.keepIn K (.ref f_l_cut) = true)
    (a_law : PySem.W.nsIn K mainGlobals "law" = some (some (.ref f_law)))
    (l_law : K.lookup f_law = some ⟨oc_law, od_law, .func (PySem.W.fnOf "law" "law" (defArgs s_law) (defBody s_law) (defScope s_law) .none kV_law dc_law pm_law an_law cd_law ct_law), sl_law⟩) (cc_law : PySem.W.codeIn K cd_law "law" = true) (k_law : PySem.W.keepIn K (.ref f_law) = true)
    (a_Table : PySem.W.nsIn K mainGlobals "Table" = some (some (.ref C_Table))) (pg_Table : PySem.W.plainGet K C_Table Str.empty = true) (hd_Table : PySem.W.hasDictIn K C_Table = true) (po_Table : PySem.W.plainOver K C_Table = true) (sa_Table : PySem.W.findIn K (.ref C_Table) "__setattr__" = some (some (.builtin "object.__setattr__"))) (mk_Table : PySem.W.makesIn K C_Table = true) (kc_Table : PySem.W.keepIn K (.ref C_Table) = true)
    (a_BadDeed : PySem.W.nsIn K mainGlobals "BadDeed" = some (some (.ref C_BadDeed)))
    (a_BadText : PySem.W.nsIn K mainGlobals "BadText" = some (some (.ref C_BadText)))
    (a_NoHouse : PySem.W.nsIn K mainGlobals "NoHouse" = some (some (.ref C_NoHouse)))
    (a_NoNote : PySem.W.nsIn K mainGlobals "NoNote" = some (some (.ref C_NoNote)))
    (a_NoRow : PySem.W.nsIn K mainGlobals "NoRow" = some (some (.ref C_NoRow)))
    (a_NotTied : PySem.W.nsIn K mainGlobals "NotTied" = some (some (.ref C_NotTied)))
    (a_Owned : PySem.W.nsIn K mainGlobals "Owned" = some (some (.ref C_Owned)))
    (a_PostError : PySem.W.nsIn K mainGlobals "PostError" = some (some (.ref C_PostError)))
    (a_Tied : PySem.W.nsIn K mainGlobals "Tied" = some (some (.ref C_Tied)))
    (lk_hn : PySem.W.specialIn K (.builtin "object.__class__") "__get__" = some (some (.builtin "getset_descriptor.__get__")))
    (lk_tk : PySem.W.takesIn K (.builtin "object.__class__") = some true)
    (ow_NoRow : ownIn K C_NoRow bmVE "ValueError.__new__" = true)
    (lk_cl_NoRow : (PySem.W.clsIn K C_NoRow).isSome = true)
    (lk_ga_NoRow : PySem.W.findIn K (.ref C_NoRow) "__getattribute__" = some (some (.builtin "BaseException.__getattribute__")))
    (lk_hk_NoRow : PySem.W.findIn K (.ref C_NoRow) "__getattr__" = some none)
    (lk_sub_NoRow : PySem.W.subIn K (.ref C_NoRow) (.type "BaseException") = some true)
    (lk_ha_NoRow : PySem.W.findIn K (.ref C_NoRow) "__class__" = some (some (.builtin "object.__class__")))
    (lk_hm_NoRow : PySem.W.mroIn K C_NoRow (.type "object") = some true)
    (ex_NoRow_PostError : PySem.W.exmOne K (.ref C_NoRow) (.ref C_PostError) = some true)
    (y_0_NoRow : PySem.W.kitAny K (.ref C_NoRow) [.ref C_BadText, .ref C_Tied, .ref C_NotTied, .ref C_Owned, .ref C_NoHouse, .ref C_NoNote, .ref C_BadDeed] = some false)
    (y_1_NoRow : PySem.W.kitOne K (.ref C_NoRow) (.ref C_NoRow) = some true)
    (y_2_NoRow : PySem.W.kitOne K (.ref C_NoRow) (.type "ValueError") = some true)
    (nf_Table_thing_by : PySem.W.findIn K (.ref C_Table) "thing_by" = some none)
    (z_ValueError : PySem.W.nsIn K mainGlobals "ValueError" = some none)
    (z_bool : PySem.W.nsIn K mainGlobals "bool" = some none)
    (z_int : PySem.W.nsIn K mainGlobals "int" = some none)
    (z_isinstance : PySem.W.nsIn K mainGlobals "isinstance" = some none)
    (z_len : PySem.W.nsIn K mainGlobals "len" = some none)
    (z_max : PySem.W.nsIn K mainGlobals "max" = some none)
    (z_range : PySem.W.nsIn K mainGlobals "range" = some none) :
    ∃ fd : FuncData, (∀ (s : Shared) (v : Value), BindsTo s fd ⟨[v], []⟩ [("_law_script", v)]) ∧ ∀ base : Heap, K.In base → base.Ns mainGlobals mg → FnOk P w K mg base CX0 4 fa fd ["_law_script"] (spC K d_law) := by
  have e := hfa.symm.trans (PySem.W.mg_of X G a_law)
  cases e
  have hC_NoRow : (clAdd (clAdd C0 "Table" C_Table) "NoRow" C_NoRow) "NoRow" = some C_NoRow := clAdd_same
  have L_NoRow : PySem.W.ExcLook K C_NoRow := ⟨lk_cl_NoRow, lk_ga_NoRow, lk_hk_NoRow, lk_sub_NoRow, lk_ha_NoRow, lk_hn, lk_tk, lk_hm_NoRow⟩
  have tc_PostError : ∀ c, tcf_PostError c = true → ∃ Ca, (clAdd (clAdd C0 "Table" C_Table) "NoRow" C_NoRow) c = some Ca ∧ PySem.W.exmOne K (.ref Ca) (.ref C_PostError) = some true := fun c hc => by
    simp only [tcf_PostError, Bool.or_eq_true, decide_eq_true_eq] at hc
    rcases hc with rfl
    · exact ⟨C_NoRow, hC_NoRow, ex_NoRow_PostError⟩
  have x_0 : ∀ c Ca b, xt_0 c = some b → (clAdd (clAdd C0 "Table" C_Table) "NoRow" C_NoRow) c = some Ca → PySem.W.ExcLook K Ca ∧ PySem.W.kitAny K (.ref Ca) [.ref C_BadText, .ref C_Tied, .ref C_NotTied, .ref C_Owned, .ref C_NoHouse, .ref C_NoNote, .ref C_BadDeed] = some b := fun c Ca b h1 h2 => by
    unfold xt_0 at h1
    by_cases e_NoRow : c = "NoRow"
    · subst e_NoRow; rw [if_pos rfl] at h1; cases h1; rw [hC_NoRow] at h2; cases h2; exact ⟨L_NoRow, y_0_NoRow⟩
    rw [if_neg e_NoRow] at h1
    cases h1
  have x_1 : ∀ c Ca b, xt_1 c = some b → (clAdd (clAdd C0 "Table" C_Table) "NoRow" C_NoRow) c = some Ca → PySem.W.ExcLook K Ca ∧ PySem.W.kitOne K (.ref Ca) (.ref C_NoRow) = some b := fun c Ca b h1 h2 => by
    unfold xt_1 at h1
    by_cases e_NoRow : c = "NoRow"
    · subst e_NoRow; rw [if_pos rfl] at h1; cases h1; rw [hC_NoRow] at h2; cases h2; exact ⟨L_NoRow, y_1_NoRow⟩
    rw [if_neg e_NoRow] at h1
    cases h1
  have x_2 : ∀ c Ca b, xt_2 c = some b → (clAdd (clAdd C0 "Table" C_Table) "NoRow" C_NoRow) c = some Ca → PySem.W.ExcLook K Ca ∧ PySem.W.kitOne K (.ref Ca) (.type "ValueError") = some b := fun c Ca b h1 h2 => by
    unfold xt_2 at h1
    by_cases e_NoRow : c = "NoRow"
    · subst e_NoRow; rw [if_pos rfl] at h1; cases h1; rw [hC_NoRow] at h2; cases h2; exact ⟨L_NoRow, y_2_NoRow⟩
    rw [if_neg e_NoRow] at h1
    cases h1
  have hC_Table : (clAdd (clAdd C0 "Table" C_Table) "NoRow" C_NoRow) "Table" = some C_Table := (clAdd_ne (by decide +kernel) clAdd_same)
  have T_Table : ClD K (clAdd (clAdd C0 "Table" C_Table) "NoRow" C_NoRow) "Table" := ⟨C_Table, hC_Table, ⟨pg_Table, hd_Table, po_Table, sa_Table⟩⟩
  have n_Table_thing_by : NoA K (clAdd (clAdd C0 "Table" C_Table) "NoRow" C_NoRow) "Table" "thing_by" := noA_of hC_Table nf_Table_thing_by
  have T_l_stream : TF K mg "_law_stream" s_l_stream := ⟨f_l_stream, _, PySem.W.mg_of X G a_l_stream, fun_mk (st := s_l_stream) l_l_stream cc_l_stream k_l_stream⟩
  have T_l_bits : TF K mg "_law_bits" s_l_bits := ⟨f_l_bits, _, PySem.W.mg_of X G a_l_bits, fun_mk (st := s_l_bits) l_l_bits cc_l_bits k_l_bits⟩
  have T_l_number : TF K mg "_law_number" s_l_number := ⟨f_l_number, _, PySem.W.mg_of X G a_l_number, fun_mk (st := s_l_number) l_l_number cc_l_number k_l_number⟩
  have T_l_beginning : TF K mg "_law_beginning" s_l_beginning := ⟨f_l_beginning, _, PySem.W.mg_of X G a_l_beginning, fun_mk (st := s_l_beginning) l_l_beginning cc_l_beginning k_l_beginning⟩
  have T_l_picked : TF K mg "_law_picked" s_l_picked := ⟨f_l_picked, _, PySem.W.mg_of X G a_l_picked, fun_mk (st := s_l_picked) l_l_picked cc_l_picked k_l_picked⟩
  have T_l_place : TF K mg "_law_place" s_l_place := ⟨f_l_place, _, PySem.W.mg_of X G a_l_place, fun_mk (st := s_l_place) l_l_place cc_l_place k_l_place⟩
  have T_l_put : TF K mg "_law_put" s_l_put := ⟨f_l_put, _, PySem.W.mg_of X G a_l_put, fun_mk (st := s_l_put) l_l_put cc_l_put k_l_put⟩
  have T_l_cell_at : TF K mg "_law_cell_at" s_l_cell_at := ⟨f_l_cell_at, _, PySem.W.mg_of X G a_l_cell_at, fun_mk (st := s_l_cell_at) l_l_cell_at cc_l_cell_at k_l_cell_at⟩
  have T_l_thing_by : TF K mg "_law_thing_by" s_l_thing_by := ⟨f_l_thing_by, _, PySem.W.mg_of X G a_l_thing_by, fun_mk (st := s_l_thing_by) l_l_thing_by cc_l_thing_by k_l_thing_by⟩
  have T_l_truth : TF K mg "_law_truth" s_l_truth := ⟨f_l_truth, _, PySem.W.mg_of X G a_l_truth, fun_mk (st := s_l_truth) l_l_truth cc_l_truth k_l_truth⟩
  have T_l_whole : TF K mg "_law_whole" s_l_whole := ⟨f_l_whole, _, PySem.W.mg_of X G a_l_whole, fun_mk (st := s_l_whole) l_l_whole cc_l_whole k_l_whole⟩
  have T_l_same : TF K mg "_law_same" s_l_same := ⟨f_l_same, _, PySem.W.mg_of X G a_l_same, fun_mk (st := s_l_same) l_l_same cc_l_same k_l_same⟩
  have T_l_stands : TF K mg "_law_stands" s_l_stands := ⟨f_l_stands, _, PySem.W.mg_of X G a_l_stands, fun_mk (st := s_l_stands) l_l_stands cc_l_stands k_l_stands⟩
  have T_l_one_told : TF K mg "_law_one_told" s_l_one_told := ⟨f_l_one_told, _, PySem.W.mg_of X G a_l_one_told, fun_mk (st := s_l_one_told) l_l_one_told cc_l_one_told k_l_one_told⟩
  have T_l_cut : TF K mg "_law_cut" s_l_cut := ⟨f_l_cut, _, PySem.W.mg_of X G a_l_cut, fun_mk (st := s_l_cut) l_l_cut cc_l_cut k_l_cut⟩
  refine ⟨PySem.W.fnOf "law" "law" (defArgs s_law) (defBody s_law) (defScope s_law) .none kV_law dc_law pm_law an_law cd_law ct_law, fun s v => .of_eq rfl, fun base KB _ => ?_⟩
  have O_NoRow : OwnCls "NoRow" C_NoRow bmVE "ValueError.__new__" mg base := own_in KB ow_NoRow (PySem.W.mg_of X G a_NoRow)
  have O_Table___init__ : FnOk P w K mg base CX0 1 f_Table___init__ _ ["self"] (spD K (clAdd (clAdd C0 "Table" C_Table) "NoRow" C_NoRow) d_Table___init__) := ok_Table___init__ (funV_mk (st := s_Table___init__) l_Table___init__ cc_Table___init__) T_Table n_Table_thing_by
  have K_Table : MkD P w K mg base (clAdd (clAdd C0 "Table" C_Table) "NoRow" C_NoRow) 1 "Table" d_Table___init__ [] := ⟨C_Table, f_Table___init__, _, _, [], [], hC_Table, PySem.W.mg_of X G a_Table, ⟨mk_Table, a_Table___init__, i_Table___init__, kc_Table⟩, (bindsN (ps := ["self"]) fun us hl => len1 us hl (fun _ => rfl)), .nil, fun _ _ => .nil, O_Table___init__⟩
  have G_l_stream : Fn P w K mg base (clAdd (clAdd C0 "Table" C_Table) "NoRow" C_NoRow) 1 "_law_stream" d_l_stream := ok_l_stream T_l_stream (PySem.W.mg_none_of X G z_range)
  have G_l_bits : Fn P w K mg base (clAdd (clAdd C0 "Table" C_Table) "NoRow" C_NoRow) 1 "_law_bits" d_l_bits := ok_l_bits T_l_bits (PySem.W.mg_none_of X G z_range)
  have G_l_number : Fn P w K mg base (clAdd (clAdd C0 "Table" C_Table) "NoRow" C_NoRow) 1 "_law_number" d_l_number := ok_l_number T_l_number 
  have G_l_beginning : Fn P w K mg base (clAdd (clAdd C0 "Table" C_Table) "NoRow" C_NoRow) 2 "_law_beginning" d_l_beginning := ok_l_beginning T_l_beginning (PySem.W.mg_none_of X G z_len) G_l_stream G_l_bits G_l_number
  have G_l_picked : Fn P w K mg base (clAdd (clAdd C0 "Table" C_Table) "NoRow" C_NoRow) 3 "_law_picked" d_l_picked := ok_l_picked T_l_picked (PySem.W.mg_none_of X G z_int) (PySem.W.mg_none_of X G z_len) (PySem.W.mg_none_of X G z_max) G_l_stream G_l_beginning
  have G_l_place : Fn P w K mg base (clAdd (clAdd C0 "Table" C_Table) "NoRow" C_NoRow) 1 "_law_place" d_l_place := ok_l_place T_l_place (PySem.W.mg_none_of X G z_len) (PySem.W.mg_none_of X G z_range)
  have G_l_put : Fn P w K mg base (clAdd (clAdd C0 "Table" C_Table) "NoRow" C_NoRow) 2 "_law_put" d_l_put := ok_l_put T_l_put G_l_place
  have G_l_cell_at : Fn P w K mg base (clAdd (clAdd C0 "Table" C_Table) "NoRow" C_NoRow) 1 "_law_cell_at" d_l_cell_at := ok_l_cell_at T_l_cell_at (PySem.W.mg_none_of X G z_len)
  have O_Table_put : FnOk P w K mg base CX0 1 f_Table_put _ ["self", "beginning", "thing"] (spD K (clAdd (clAdd C0 "Table" C_Table) "NoRow" C_NoRow) d_Table_put) := ok_Table_put (funV_mk (st := s_Table_put) l_Table_put cc_Table_put) T_Table n_Table_thing_by
  have M_Table_put_0 : Mt P w K mg base (clAdd (clAdd C0 "Table" C_Table) "NoRow" C_NoRow) 1 "Table" "put" d_Table_put [] := ⟨C_Table, f_Table_put, _, _, [], [], hC_Table, ⟨pg_Table, hd_Table, po_Table, sa_Table⟩, ⟨a_Table_put, i_Table_put, k_Table_put⟩, (bindsN (ps := ["self", "beginning", "thing"]) fun us hl => len3 us hl (fun _ _ _ => rfl)), .nil, fun _ _ => .nil, O_Table_put⟩
  have G_l_thing_by : Fn P w K mg base (clAdd (clAdd C0 "Table" C_Table) "NoRow" C_NoRow) 1 "_law_thing_by" d_l_thing_by := ok_l_thing_by T_l_thing_by 
  have G_l_truth : Fn P w K mg base (clAdd (clAdd C0 "Table" C_Table) "NoRow" C_NoRow) 1 "_law_truth" d_l_truth := ok_l_truth T_l_truth (PySem.W.mg_none_of X G z_bool) (PySem.W.mg_none_of X G z_isinstance)
  have G_l_whole : Fn P w K mg base (clAdd (clAdd C0 "Table" C_Table) "NoRow" C_NoRow) 1 "_law_whole" d_l_whole := ok_l_whole T_l_whole (PySem.W.mg_none_of X G z_bool) (PySem.W.mg_none_of X G z_int) (PySem.W.mg_none_of X G z_isinstance)
  have O_Table_count : FnOk P w K mg base CX0 1 f_Table_count _ ["self"] (spD K (clAdd (clAdd C0 "Table" C_Table) "NoRow" C_NoRow) d_Table_count) := ok_Table_count (funV_mk (st := s_Table_count) l_Table_count cc_Table_count) T_Table n_Table_thing_by (PySem.W.mg_none_of X G z_len)
  have M_Table_count_0 : Mt P w K mg base (clAdd (clAdd C0 "Table" C_Table) "NoRow" C_NoRow) 1 "Table" "count" d_Table_count [] := ⟨C_Table, f_Table_count, _, _, [], [], hC_Table, ⟨pg_Table, hd_Table, po_Table, sa_Table⟩, ⟨a_Table_count, i_Table_count, k_Table_count⟩, (bindsN (ps := ["self"]) fun us hl => len1 us hl (fun _ => rfl)), .nil, fun _ _ => .nil, O_Table_count⟩
  have G_l_same : Fn P w K mg base (clAdd (clAdd C0 "Table" C_Table) "NoRow" C_NoRow) 2 "_law_same" d_l_same := ok_l_same T_l_same G_l_whole
  have O_Table_get : FnOk P w K mg base CX0 1 f_Table_get _ ["self", "beginning", "other"] (spD K (clAdd (clAdd C0 "Table" C_Table) "NoRow" C_NoRow) d_Table_get) := ok_Table_get (funV_mk (st := s_Table_get) l_Table_get cc_Table_get) T_Table n_Table_thing_by
  have M_Table_get_0 : Mt P w K mg base (clAdd (clAdd C0 "Table" C_Table) "NoRow" C_NoRow) 1 "Table" "get" d_Table_get [] := ⟨C_Table, f_Table_get, _, _, [], [], hC_Table, ⟨pg_Table, hd_Table, po_Table, sa_Table⟩, ⟨a_Table_get, i_Table_get, k_Table_get⟩, (bindsV (ps := ["self", "beginning", "other"]) rfl ld_Table_get rfl 3 rfl fun us hl => len3 us hl (fun _ _ _ => ⟨_, rfl, rfl⟩)), .nil, fun _ _ => .nil, O_Table_get⟩
  have M_Table_get_1 : Mt P w K mg base (clAdd (clAdd C0 "Table" C_Table) "NoRow" C_NoRow) 1 "Table" "get" d_Table_get [.non] := ⟨C_Table, f_Table_get, _, _, [Value.none], [V.non], hC_Table, ⟨pg_Table, hd_Table, po_Table, sa_Table⟩, ⟨a_Table_get, i_Table_get, k_Table_get⟩, (bindsV (ps := ["self", "beginning", "other"]) rfl ld_Table_get rfl 2 rfl fun us hl => len2 us hl (fun _ _ => ⟨_, rfl, rfl⟩)), (.cons rfl .nil), fun _ _ => (.cons (by rw [Is]) .nil), O_Table_get⟩
  have G_l_stands : Fn P w K mg base (clAdd (clAdd C0 "Table" C_Table) "NoRow" C_NoRow) 2 "_law_stands" d_l_stands := ok_l_stands T_l_stands G_l_place
  have O_Table_has : FnOk P w K mg base CX0 1 f_Table_has _ ["self", "beginning"] (spD K (clAdd (clAdd C0 "Table" C_Table) "NoRow" C_NoRow) d_Table_has) := ok_Table_has (funV_mk (st := s_Table_has) l_Table_has cc_Table_has) T_Table n_Table_thing_by
  have M_Table_has_0 : Mt P w K mg base (clAdd (clAdd C0 "Table" C_Table) "NoRow" C_NoRow) 1 "Table" "has" d_Table_has [] := ⟨C_Table, f_Table_has, _, _, [], [], hC_Table, ⟨pg_Table, hd_Table, po_Table, sa_Table⟩, ⟨a_Table_has, i_Table_has, k_Table_has⟩, (bindsN (ps := ["self", "beginning"]) fun us hl => len2 us hl (fun _ _ => rfl)), .nil, fun _ _ => .nil, O_Table_has⟩
  have G_l_one_told : Fn P w K mg base (clAdd (clAdd C0 "Table" C_Table) "NoRow" C_NoRow) 3 "_law_one_told" d_l_one_told := ok_l_one_told T_l_one_told M_Table_get_1 M_Table_get_0 M_Table_has_0 M_Table_count_0 (PySem.W.mg_none_of X G z_len) (PySem.W.mg_none_of X G z_range) G_l_thing_by G_l_same G_l_stands G_l_truth G_l_place G_l_whole
  have O_Table_cut : FnOk P w K mg base (CXr P w) 1 f_Table_cut _ ["self", "beginning"] (spX K (clAdd (clAdd C0 "Table" C_Table) "NoRow" C_NoRow) d_Table_cut r_Table_cut) := ok_Table_cut (funV_mk (st := s_Table_cut) l_Table_cut cc_Table_cut) T_Table n_Table_thing_by hC_NoRow O_NoRow
  have M_Table_cut_0 : MtX P w K mg base (clAdd (clAdd C0 "Table" C_Table) "NoRow" C_NoRow) 1 "Table" "cut" d_Table_cut r_Table_cut [] := ⟨C_Table, f_Table_cut, _, _, [], [], hC_Table, ⟨pg_Table, hd_Table, po_Table, sa_Table⟩, ⟨a_Table_cut, i_Table_cut, k_Table_cut⟩, (bindsN (ps := ["self", "beginning"]) fun us hl => len2 us hl (fun _ _ => rfl)), .nil, fun _ _ => .nil, O_Table_cut⟩
  have G_l_cut : Fn P w K mg base (clAdd (clAdd C0 "Table" C_Table) "NoRow" C_NoRow) 2 "_law_cut" d_l_cut := ok_l_cut T_l_cut M_Table_cut_0 (PySem.W.mg_of X G a_BadDeed) (PySem.W.mg_of X G a_BadText) (PySem.W.mg_of X G a_NoHouse) (PySem.W.mg_of X G a_NoNote) (PySem.W.mg_of X G a_NoRow) (PySem.W.mg_of X G a_NotTied) (PySem.W.mg_of X G a_Owned) (PySem.W.mg_of X G a_PostError) (PySem.W.mg_of X G a_Tied) tc_PostError x_0 x_1 x_2 (PySem.W.mg_none_of X G z_ValueError) (PySem.W.mg_none_of X G z_int) (PySem.W.mg_none_of X G z_isinstance)
  exact (law_fn (C := (clAdd (clAdd C0 "Table" C_Table) "NoRow" C_NoRow)) (fun_mk (st := s_law) l_law cc_law k_law) M_Table_put_0 K_Table G_l_stream G_l_cell_at G_l_picked G_l_thing_by G_l_put G_l_truth G_l_place G_l_cut G_l_one_told).imp fun vs H Q E h => h _
theorem walk {l : PySem.W.OpenLaw} {q : Program} {loose : List Str} {XP : (Str → Option Value) → Heap → Prop} {YP : World → Heap → Prop} {d : DefRec} {K : Params → PySem.W.Frag} (hn : l.most = some 63) (hdf : d.params.defaults = [])
    (hY : ∀ (w : World) (h : Heap), YP w h → (K w.params).In h) (holds : ∀ ns : List Int, ns.length ≤ 63 → ∃ Ω, d_law [.scr ns] [] = some (.bl true, Ω))
    (F : ∀ (w : World) (mg : Str → Option Value) (fa : Addr) (h : Heap), (K w.params).In h → h.Ns mainGlobals mg → mg d.name = some (.ref fa) →
      ∃ fd : FuncData, (∀ (s : Shared) (u : Value), BindsTo s fd ⟨[u], []⟩ [("_law_script", u)]) ∧ ∀ base : Heap, (K w.params).In base → base.Ns mainGlobals mg → FnOk l.prog w (K w.params) mg base CX0 4 fa fd ["_law_script"] (spC (K w.params) d_law)) :
    PySem.W.WalkO q loose XP YP l.row.toRowW d [] (fun f vs => PySem.call f vs) :=
  L2.walk_of (n := 63) (k := 4) (x := "_law_script") (CX := fun _ => CX0) (sp := fun w => spC (K w.params) d_law) hn (by decide) hdf ⟨rfl, by decide, by decide, rfl⟩ hY F (fun _ _ a ns hl _ hS => law_okC hS (holds ns hl)) fun _ _ _ _ _ z => z
end Law

open PySem PySem.W PyProof.Rows
set_option maxRecDepth 100000 in
set_option maxHeartbeats 0 in
theorem PySem.Challenge.cw_posthouse_k08_rows_put_and_cut_holds : PySem.Challenge.rw_posthouse_k08_rows_put_and_cut.Holds := by
  w_on; o_law; k_head; (case hw => w_witness2)
  k_fill
  refine Law.walk (l := PySem.Challenge.rw_posthouse_k08_rows_put_and_cut) rfl rfl (fun w h Y => PySem.W.kIn_of Y) Law.holds ?F
  case F =>
    intro w mg fa h KX G hmg
    refine' Law.all_mk KX G hmg ?a_Table___init__ ?i_Table___init__ ?l_Table___init__ ?cc_Table___init__ ?k_Table___init__ ?a_l_stream ?l_l_stream ?cc_l_stream ?k_l_stream ?a_l_bits ?l_l_bits ?cc_l_bits ?k_l_bits ?a_l_number ?l_l_number ?cc_l_number ?k_l_number ?a_l_beginning ?l_l_beginning ?cc_l_beginning ?k_l_beginning ?a_l_picked ?l_l_picked ?cc_l_picked ?k_l_picked ?a_l_place ?l_l_place ?cc_l_place ?k_l_place ?a_l_put ?l_l_put ?cc_l_put ?k_l_put ?a_l_cell_at ?l_l_cell_at ?cc_l_cell_at ?k_l_cell_at ?a_Table_put ?i_Table_put ?l_Table_put ?cc_Table_put ?k_Table_put ?a_l_thing_by ?l_l_thing_by ?cc_l_thing_by ?k_l_thing_by ?a_l_truth ?l_l_truth ?cc_l_truth ?k_l_truth ?a_l_whole ?l_l_whole ?cc_l_whole ?k_l_whole ?a_Table_count ?i_Table_count ?l_Table_count ?cc_Table_count ?k_Table_count ?a_l_same ?l_l_same ?cc_l_same ?k_l_same ?a_Table_get ?i_Table_get ?l_Table_get ?cc_Table_get ?k_Table_get ?ld_Table_get ?a_l_stands ?l_l_stands ?cc_l_stands ?k_l_stands ?a_Table_has ?i_Table_has ?l_Table_has ?cc_Table_has ?k_Table_has ?a_l_one_told ?l_l_one_told ?cc_l_one_told ?k_l_one_told ?a_Table_cut ?i_Table_cut ?l_Table_cut ?cc_Table_cut ?k_Table_cut ?a_l_cut ?l_l_cut ?cc_l_cut ?k_l_cut ?a_law ?l_law ?cc_law ?k_law ?a_Table ?pg_Table ?hd_Table ?po_Table ?sa_Table ?mk_Table ?kc_Table ?a_BadDeed ?a_BadText ?a_NoHouse ?a_NoNote ?a_NoRow ?a_NotTied ?a_Owned ?a_PostError ?a_Tied ?lk_hn ?lk_tk ?ow_NoRow ?lk_cl_NoRow ?lk_ga_NoRow ?lk_hk_NoRow ?lk_sub_NoRow ?lk_ha_NoRow ?lk_hm_NoRow ?ex_NoRow_PostError ?y_0_NoRow ?y_1_NoRow ?y_2_NoRow ?nf_Table_thing_by ?z_ValueError ?z_bool ?z_int ?z_isinstance ?z_len ?z_max ?z_range
    (case a_Table => k_is)
    (case a_BadDeed => k_is)
    (case a_BadText => k_is)
    (case a_NoHouse => k_is)
    (case a_NoNote => k_is)
    (case a_NoRow => k_is)
    (case a_NotTied => k_is)
    (case a_Owned => k_is)
    (case a_PostError => k_is)
    (case a_Tied => k_is)
    (case a_Table___init__ => k_is)
    (case i_Table___init__ => k_is)
    (case l_Table___init__ => k_is)
    (case cc_Table___init__ => k_is)
    (case k_Table___init__ => k_is)
    (case a_l_stream => k_is)
    (case l_l_stream => k_is)
    (case cc_l_stream => k_is)
    (case k_l_stream => k_is)
    (case a_l_bits => k_is)
    (case l_l_bits => k_is)
    (case cc_l_bits => k_is)
    (case k_l_bits => k_is)
    (case a_l_number => k_is)
    (case l_l_number => k_is)
    (case cc_l_number => k_is)
    (case k_l_number => k_is)
    (case a_l_beginning => k_is)
    (case l_l_beginning => k_is)
    (case cc_l_beginning => k_is)
    (case k_l_beginning => k_is)
    (case a_l_picked => k_is)
    (case l_l_picked => k_is)
    (case cc_l_picked => k_is)
    (case k_l_picked => k_is)
    (case a_l_place => k_is)
    (case l_l_place => k_is)
    (case cc_l_place => k_is)
    (case k_l_place => k_is)
    (case a_l_put => k_is)
    (case l_l_put => k_is)
    (case cc_l_put => k_is)
    (case k_l_put => k_is)
    (case a_l_cell_at => k_is)
    (case l_l_cell_at => k_is)
    (case cc_l_cell_at => k_is)
    (case k_l_cell_at => k_is)
    (case a_Table_put => k_is)
    (case i_Table_put => k_is)
    (case l_Table_put => k_is)
    (case cc_Table_put => k_is)
    (case k_Table_put => k_is)
    (case a_l_thing_by => k_is)
    (case l_l_thing_by => k_is)
    (case cc_l_thing_by => k_is)
    (case k_l_thing_by => k_is)
    (case a_l_truth => k_is)
    (case l_l_truth => k_is)
    (case cc_l_truth => k_is)
    (case k_l_truth => k_is)
    (case a_l_whole => k_is)
    (case l_l_whole => k_is)
    (case cc_l_whole => k_is)
    (case k_l_whole => k_is)
    (case a_Table_count => k_is)
    (case i_Table_count => k_is)
    (case l_Table_count => k_is)
    (case cc_Table_count => k_is)
    (case k_Table_count => k_is)
    (case a_l_same => k_is)
    (case l_l_same => k_is)
    (case cc_l_same => k_is)
    (case k_l_same => k_is)
    (case a_Table_get => k_is)
    (case i_Table_get => k_is)
    (case l_Table_get => k_is)
    (case cc_Table_get => k_is)
    (case k_Table_get => k_is)
    (case ld_Table_get => k_is)
    (case a_l_stands => k_is)
    (case l_l_stands => k_is)
    (case cc_l_stands => k_is)
    (case k_l_stands => k_is)
    (case a_Table_has => k_is)
    (case i_Table_has => k_is)
    (case l_Table_has => k_is)
    (case cc_Table_has => k_is)
    (case k_Table_has => k_is)
    (case a_l_one_told => k_is)
    (case l_l_one_told => k_is)
    (case cc_l_one_told => k_is)
    (case k_l_one_told => k_is)
    (case a_Table_cut => k_is)
    (case i_Table_cut => k_is)
    (case l_Table_cut => k_is)
    (case cc_Table_cut => k_is)
    (case k_Table_cut => k_is)
    (case a_l_cut => k_is)
    (case l_l_cut => k_is)
    (case cc_l_cut => k_is)
    (case k_l_cut => k_is)
    (case a_law => k_is)
    (case l_law => k_is)
    (case cc_law => k_is)
    (case k_law => k_is)
    (case pg_Table => k_is)
    (case hd_Table => k_is)
    (case po_Table => k_is)
    (case sa_Table => k_is)
    (case mk_Table => k_is)
    (case kc_Table => k_is)
    (case lk_hn => k_is)
    (case lk_tk => k_is)
    (case ow_NoRow => kernel_rfl)
    (case lk_cl_NoRow => kernel_rfl)
    (case lk_ga_NoRow => k_is)
    (case lk_hk_NoRow => k_is)
    (case lk_sub_NoRow => k_is)
    (case lk_ha_NoRow => k_is)
    (case lk_hm_NoRow => k_is)
    (case ex_NoRow_PostError => kernel_rfl)
    (case y_0_NoRow => kernel_rfl)
    (case y_1_NoRow => kernel_rfl)
    (case y_2_NoRow => kernel_rfl)
    (case nf_Table_thing_by => k_is)
    (case z_ValueError => k_is)
    (case z_bool => k_is)
    (case z_int => k_is)
    (case z_isinstance => k_is)
    (case z_len => k_is)
    (case z_max => k_is)
    (case z_range => k_is)

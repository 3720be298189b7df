import PyProof.Rows.All
import Wide.All
import OpenK.AllK
import Wide.FinOn
import Lean
import PyProof.EqAt
import PyProof.EqKinds
import PyProof.TupleCall
import KE.KSortTup
import KE.KIntText
import KE.KTryMore
import PyProof.ExcArgs
import KE.KIsAll
import PyProof.ReprNest
import PyProof.NsMap
import PyProof.Rows.Own
import PyProof.ReprStr
import PyProof.ExcBaseAll.ValueError
import PyProof.FitsInt
import PyProof.ZipIter
import PySem.Challenge.RW_posthouse_k17_marks_get_better
set_option Elab.async false
set_option linter.all false
set_option maxRecDepth 100000
set_option genSizeOf false
set_option bootstrap.genMatcherCode false
set_option genInjectivity true
set_option Elab.async false
set_option linter.all false
set_option maxRecDepth 100000
set_option genSizeOf false
set_option bootstrap.genMatcherCode false
set_option genInjectivity true
/-! THE HAND LAYER, for ints, bools, texts, own classes, LISTS and tuples (index, slices, in, append, pop ..), calls, loops. Paste it whole ahead of your own text; what your proof does not reach may be deleted. -/
namespace L2
open PySem PySem.Spec PyProof.Rows

/-- a key: an int or a str -/
noncomputable abbrev Key := Sum Int Str
noncomputable def keyIs : Key → Value → Bool
  | .inl k, v => Value.isInt k v
  | .inr x, v => Value.isStrOf x v
noncomputable def keyH (w : World) : Key → Int
  | .inl k => hashInt k
  | .inr x => hashStr w x
theorem keyIs_shape : ∀ {k : Key} {v : Value}, keyIs k v = true → (∃ i t, k = Sum.inl i ∧ v = Value.int i t) ∨ (∃ x t, k = Sum.inr x ∧ v = Value.str x t)
  | .inl i, v, h => by
    obtain ⟨t, e⟩ := Value.isInt_shape (k := i) (v := v) h
    exact .inl ⟨i, t, rfl, e⟩
  | .inr x, v, h => by
    obtain ⟨t, e⟩ := Value.isStrOf_shape (x := x) (v := v) h
    exact .inr ⟨x, t, rfl, e⟩
theorem keyIs_int (i : Int) (t : Tok) : keyIs (.inl i) (.int i t) = true := by simp [keyIs, Value.isInt]
theorem keyIs_str (x : Str) (t : Tok) : keyIs (.inr x) (.str x t) = true := by simp [keyIs, Value.isStrOf]
theorem key_ll (a b : Int) : decide ((Sum.inl a : Key) = Sum.inl b) = (a == b) := by
  by_cases e : a = b
  · subst e; simp
  · have h : ¬ (Sum.inl a : Key) = Sum.inl b := fun q => e (Sum.inl.inj q)
    rw [decide_eq_false h]
    exact (beq_eq_false_iff_ne.mpr e).symm
theorem key_rr (a b : Str) : decide ((Sum.inr a : Key) = Sum.inr b) = decide (a = b) := by
  by_cases e : a = b
  · subst e; simp
  · have h : ¬ (Sum.inr a : Key) = Sum.inr b := fun q => e (Sum.inr.inj q)
    rw [decide_eq_false h, decide_eq_false e]
theorem key_lr (a : Int) (b : Str) : decide ((Sum.inl a : Key) = Sum.inr b) = false := decide_eq_false (fun q => nomatch q)
theorem key_rl (a : Str) (b : Int) : decide ((Sum.inr a : Key) = Sum.inl b) = false := decide_eq_false (fun q => nomatch q)

noncomputable def mixKind (prog : Program) (w : World) : PySem.KeyKind prog w Key where
  is := keyIs
  hash := keyH w
  inj := fun v a b ha hb => by
    rcases keyIs_shape ha with ⟨i, t, rfl, rfl⟩ | ⟨x, t, rfl, rfl⟩
    · rcases keyIs_shape hb with ⟨j, u, rfl, e⟩ | ⟨y, u, rfl, e⟩
      · injection e with e1 _; rw [e1]
      · exact nomatch e
    · rcases keyIs_shape hb with ⟨j, u, rfl, e⟩ | ⟨y, u, rfl, e⟩
      · exact nomatch e
      · injection e with e1 _; rw [e1]
  byValue := fun k v h => by
    rcases keyIs_shape h with ⟨i, t, rfl, rfl⟩ | ⟨x, t, rfl, rfl⟩ <;> rfl
  pyHash := fun hv h => by
    rcases keyIs_shape hv with ⟨i, t, rfl, rfl⟩ | ⟨x, t, rfl, rfl⟩
    · exact wpAny_pyHash_int h
    · exact wpAny_pyHash_str h
  eqBool := fun hu hv h => by
    rcases keyIs_shape hu with ⟨i, t, rfl, rfl⟩ | ⟨x, t, rfl, rfl⟩
    · rcases keyIs_shape hv with ⟨j, u, rfl, rfl⟩ | ⟨y, u, rfl, rfl⟩
      · rw [key_ll] at h; exact wpAny_eqBool_int h
      · rw [key_lr] at h; exact SeqAt.EqAt.int_str i t y u _ _ _ _ h
    · rcases keyIs_shape hv with ⟨j, u, rfl, rfl⟩ | ⟨y, u, rfl, rfl⟩
      · rw [key_rl] at h; exact SeqAt.EqAt.str_int x t j u _ _ _ _ h
      · rw [key_rr] at h; exact wpAny_eqBool_str h
  «strs» := fun k x t v h => by
    rcases keyIs_shape h with ⟨i, u, rfl, e⟩ | ⟨y, u, rfl, e⟩
    · exact nomatch e
    · injection e with e1 _
      subst e1
      cases v <;> rfl

theorem mixKind_int (prog : Program) (w : World) (i : Int) (t : Tok) : (mixKind prog w).is (.inl i) (.int i t) = true := keyIs_int i t
theorem mixKind_str (prog : Program) (w : World) (x : Str) (t : Tok) : (mixKind prog w).is (.inr x) (.str x t) = true := keyIs_str x t
end L2

namespace L2
open PySem PySem.Spec PyProof.Rows

/-- a value, without the heap -/
inductive V where
  | non | bl (b : Bool) | int (i : Int) | str (x : Str) | byt (b : Array UInt8) | flt (b : UInt64) | ref (a : Addr) | ty (n : String)
  deriving DecidableEq

noncomputable def RelV : V → Value → Prop
  | .non, u => u = Value.none
  | .bl b, u => u = Value.bool b
  | .int i, u => ∃ t, u = Value.int i t
  | .str x, u => ∃ t, u = Value.str x t
  | .byt b, u => ∃ t, u = Value.bytes b t
  | .flt b, u => ∃ t, u = Value.float b t
  | .ref a, u => u = Value.ref a
  | .ty n, u => u = Value.type n

noncomputable abbrev Vals : List V → List Value → Prop := Paired RelV
theorem Vals.length {xs : List V} {us : List Value} (r : Vals xs us) : xs.length = us.length := Paired.length r
theorem Vals.get : ∀ {xs : List V} {us : List Value} {i : Nat} {x : V}, Vals xs us → xs[i]? = some x → ∃ u, us[i]? = some u ∧ RelV x u
  | _, _, _, _, .nil, e => by simp at e
  | _, _, 0, _, .cons r _, e => by simp at e; subst e; exact ⟨_, rfl, r⟩
  | _, _, i + 1, x, .cons _ t, e => by
    obtain ⟨u, h1, h2⟩ := Vals.get (i := i) (x := x) t (by simpa using e)
    exact ⟨u, by simpa using h1, h2⟩
theorem Vals.append : ∀ {xs ys : List V} {us ws : List Value}, Vals xs us → Vals ys ws → Vals (xs ++ ys) (us ++ ws)
  | _, _, _, _, .nil, s => s
  | _, _, _, _, .cons r t, s => .cons r (Vals.append t s)
noncomputable def RelO : Option V → Option Value → Prop
  | some v, some u => RelV v u
  | none, none => True
  | _, _ => False
noncomputable def KV {κ : Type} : List (κ × V) → List (κ × Value) → Prop := Paired fun (p : κ × V) (q : κ × Value) => p.1 = q.1 ∧ RelV p.2 q.2

/-- a key of a dict (00_mix): an int or a text -/
noncomputable def kV : Key → V
  | .inl i => .int i
  | .inr x => .str x

/-- what stands at a tracked address -/
inductive HO where
  /-- a list -/
  | lst (xs : List V)
  /-- a tuple (never changes) -/
  | tup (xs : List V)
  /-- a dict whose keys are ints and texts; one whose keys are tuples of ints and texts (the empty one is both) -/
  | dK (kvs : List (Key × V)) | dT (kvs : List (List Key × V))
  /-- a set of ints: its members, its size -/
  | set (S : Int → Bool) (n : Nat)
  /-- an instance of the class at C, its dict at dx, its attributes -/
  | ins (C dx : Addr) (fs : List (Str × V))
  /-- the dict of the instance at x -/
  | own (x : Addr)
  /-- the dict of an exception -/
  | xd (fs : List (Str × V))
  /-- a bound method, f of x -/
  | met (f x : Addr)
  /-- a range object lo, lo + 1, .. below hi -/
  | rng (lo hi : Int)
  /-- a thing that is known to the object (the script; a dict while a loop walks it): read, never written while it is so -/
  | frz (o : Obj) (u : HO)
  /-- a code object's table -/
  | tbl (ps : Array Value)
  /-- any other thing, by what is true of its one object (a def of one's own: SetO a S n := HO.ext fun h => ..) -/
  | ext (φ : Heap → Prop)

noncomputable abbrev Hp := Addr → Option HO
noncomputable def upd (H : Hp) (a : Addr) (o : HO) : Hp := fun b => if b = a then some o else H b
theorem upd_same {H : Hp} {a : Addr} {o : HO} : upd H a o a = some o := by unfold upd; rw [if_pos rfl]
theorem upd_ne {H : Hp} {a b : Addr} {o : HO} (h : b ≠ a) : upd H a o b = H b := by unfold upd; rw [if_neg h]
/-- two objects of different content stand apart -/
theorem ne_of {H : Hp} {a b : Addr} {o u : HO} (h : H a = some o) (h' : H b = some u) (d : o ≠ u) : a ≠ b := by
  intro e; subst e; rw [h] at h'; exact d (Option.some.inj h')
theorem ne_of_none {H : Hp} {a b : Addr} {o : HO} (h : H a = some o) (h' : H b = none) : a ≠ b := by
  intro e; subst e; rw [h] at h'; cases h'

section
variable (P : Program) (w : World)
noncomputable def ObjOk (H : Hp) (h : Heap) (a : Addr) : HO → Prop
  | .lst xs => xs.length ≤ sizeLine ∧ ∃ (its : List Value) (n : Nat), Vals xs its ∧ h.get? a = some { cls := .type "list", data := .seq its.toArray n }
  | .tup xs => xs.length ≤ sizeLine ∧ ∃ its : List Value, Vals xs its ∧ IsTup h a its.toArray
  | .dK kvs => kvs.length ≤ sizeLine ∧ (a == sysModules) = false ∧ ∃ vs, KV kvs vs ∧ h.DictOf (mixKind P w) a vs
  | .dT kvs => kvs.length ≤ sizeLine ∧ (a == sysModules) = false ∧ ∃ xs : List (List Key × Addr × Value),
      Paired (fun (p : List Key × V) (q : List Key × Addr × Value) => p.1 = q.1 ∧ H q.2.1 = some (.tup (p.1.map kV)) ∧ RelV p.2 q.2.2) kvs xs ∧
      ∃ o es ep, h.get? a = some o ∧ o.ExactDict ∧ o.data = .dict es ep ∧ es.toList = xs.map (entryOfKey (tupleKind (mixKind P w))) ∧ (xs.map (·.1)).Nodup
  | .set S n => h.SetOf (intKind P w) a S n
  | .ins C dx fs => H dx = some (.own a) ∧ fs.length ≤ 1000 ∧ dx ≠ a ∧ h.get? a = some (PySem.W.instObj C dx) ∧
      ∃ mA, h.Ns1 dx mA ∧ (∀ f, RelO (fs.lookup f) (mA f)) ∧ PySem.Within mA (fs.map (·.1))
  | .own _ => ∃ o, h.get? a = some o
  | .xd fs => ∃ mA, h.Ns1 a mA ∧ ∀ f, RelO (fs.lookup f) (mA f)
  | .rng lo hi => ∃ t u v, h.get? a = some { cls := .type "range", data := .fields #[.int lo t, .int hi u, .int 1 v] }
  | .frz o u => h.get? a = some o ∧ ObjOk H h a u
  | .tbl ps => h.get? a = some { cls := .none, data := .fields ps }
  | .met f x => h.get? a = some (PySem.W.methodObj (.ref f) (.ref x))
  | .ext φ => φ h ∧ (∃ o, h.get? a = some o) ∧ ∀ h1 h2 : Heap, φ h1 → (∀ o, h1.get? a = some o → h2.get? a = some o) → φ h2
/-- the abstract heap is held -/
noncomputable def HOk (H : Hp) (h : Heap) : Prop := ∀ a o, H a = some o → ObjOk P w H h a o
end

section
variable {P : Program} {w : World} {H H' : Hp} {h h' : Heap} {a : Addr} {o : HO}
theorem ObjOk.lt (x : ObjOk P w H h a o) : a < h.objs.size := by
  cases o with
  | lst xs => obtain ⟨_, _, _, _, e⟩ := x; exact Heap.lt_size e
  | tup xs => obtain ⟨_, _, _, p⟩ := x; exact p.lt
  | dK kvs => obtain ⟨_, _, _, _, o, _, _, e, _⟩ := x; exact Heap.lt_size e
  | dT kvs => obtain ⟨_, _, _, _, o, _, _, e, _⟩ := x; exact Heap.lt_size e
  | set S n => obtain ⟨o, _, _, _, e, _⟩ := x; exact Heap.lt_size e
  | ins C dx fs => obtain ⟨_, _, _, e, _⟩ := x; exact Heap.lt_size e
  | own y => obtain ⟨_, e⟩ := x; exact Heap.lt_size e
  | xd fs => obtain ⟨_, ⟨_, _, _, e, _⟩, _⟩ := x; exact Heap.lt_size e
  | rng lo hi => obtain ⟨_, _, _, e⟩ := x; exact Heap.lt_size e
  | frz ob u => obtain ⟨e, _⟩ := x; exact Heap.lt_size e
  | tbl ps => exact Heap.lt_size (show h.get? a = some _ from x)
  | met f y => exact Heap.lt_size (show h.get? a = some _ from x)
  | ext φ => obtain ⟨_, ⟨_, e⟩, _⟩ := x; exact Heap.lt_size e
theorem Paired.mapP {α β : Type} {F G : α → β → Prop} : ∀ {l₁ : List α} {l₂ : List β}, Paired F l₁ l₂ → (∀ a b, F a b → G a b) → Paired G l₁ l₂
  | _, _, .nil, _ => .nil
  | _, _, .cons r t, f => .cons (f _ _ r) (Paired.mapP t f)
/-- what an object's description leans on: its own object, its own dict, the tuples -/
theorem ObjOk.stay (x : ObjOk P w H h a o) (k : ∀ b u, (b = a ∨ H b = some (.own a)) → h.get? b = some u → h'.get? b = some u)
    (ho : ∀ b, H b = some (.own a) → H' b = some (.own a)) (ht : ∀ b xs, H b = some (.tup xs) → H' b = some (.tup xs)) : ObjOk P w H' h' a o := by
  induction o with
  | lst xs => obtain ⟨z, its, n, r, e⟩ := x; exact ⟨z, its, n, r, k _ _ (.inl rfl) e⟩
  | tup xs => obtain ⟨z, its, r, ob, e, c⟩ := x; exact ⟨z, its, r, ob, k _ _ (.inl rfl) e, c⟩
  | dK kvs => obtain ⟨z, y, vs, r, ob, es, ep, e, c⟩ := x; exact ⟨z, y, vs, r, ob, es, ep, k _ _ (.inl rfl) e, c⟩
  | dT kvs =>
    obtain ⟨z, y, xs, r, ob, es, ep, e, c⟩ := x
    exact ⟨z, y, xs, Paired.mapP r fun p q z => ⟨z.1, ht _ _ z.2.1, z.2.2⟩, ob, es, ep, k _ _ (.inl rfl) e, c⟩
  | set S n => obtain ⟨ob, es, ep, t, e, c⟩ := x; exact ⟨ob, es, ep, t, k _ _ (.inl rfl) e, c⟩
  | ins C dx fs =>
    obtain ⟨d, z, ne, e, mA, ⟨od, es, ep, e2, c⟩, r⟩ := x
    exact ⟨ho _ d, z, ne, k _ _ (.inl rfl) e, mA, ⟨od, es, ep, k _ _ (.inr d) e2, c⟩, r⟩
  | own y => obtain ⟨ob, e⟩ := x; exact ⟨ob, k _ _ (.inl rfl) e⟩
  | xd fs => obtain ⟨mA, ⟨od, es, ep, e, c⟩, r⟩ := x; exact ⟨mA, ⟨od, es, ep, k _ _ (.inl rfl) e, c⟩, r⟩
  | rng lo hi => obtain ⟨t, u, v, e⟩ := x; exact ⟨t, u, v, k _ _ (.inl rfl) e⟩
  | frz ob u ih => obtain ⟨e, q⟩ := x; exact ⟨k _ _ (.inl rfl) e, ih q⟩
  | tbl ps =>
    have e : h.get? a = some { cls := .none, data := .fields ps } := x
    show h'.get? a = some { cls := .none, data := .fields ps }
    exact k a _ (.inl rfl) e
  | met f y =>
    have e : h.get? a = some (PySem.W.methodObj (.ref f) (.ref y)) := x
    show h'.get? a = some (PySem.W.methodObj (.ref f) (.ref y))
    exact k a _ (.inl rfl) e
  | ext φ => obtain ⟨p, ⟨o, e⟩, st⟩ := x; exact ⟨st _ _ p fun o q => k _ _ (.inl rfl) q, ⟨o, k _ _ (.inl rfl) e⟩, st⟩
theorem HOk.lt (x : HOk P w H h) (e : H a = some o) : a < h.objs.size := (x a o e).lt
theorem HOk.fresh (x : HOk P w H h) (e : h.objs.size ≤ a) : H a = none := by
  cases q : H a with
  | none => rfl
  | some u => exact absurd (Nat.lt_of_lt_of_le (x.lt q) e) (Nat.lt_irrefl _)
/-- every object of the heap is kept -/
theorem HOk.kept (x : HOk P w H h) (k : ∀ b u, h.get? b = some u → h'.get? b = some u) : HOk P w H h' := fun a o e =>
  (x a o e).stay (fun b u _ q => k b u q) (fun _ q => q) fun _ _ q => q
/-- a new object is laid and tracked -/
theorem HOk.laid (x : HOk P w H h) (k : ∀ b u, h.get? b = some u → h'.get? b = some u) (hp : h.objs.size ≤ a) (new : ObjOk P w (upd H a o) h' a o) : HOk P w (upd H a o) h' := fun b u e => by
  have hn := x.fresh hp
  by_cases hb : b = a
  · subst hb; rw [upd_same] at e; cases e; exact new
  · rw [upd_ne hb] at e
    exact (x b u e).stay (fun c v _ q => k c v q) (fun c q => by rw [upd_ne (ne_of_none q hn)]; exact q) fun c xs q => by rw [upd_ne (ne_of_none q hn)]; exact q
end

/-- what may be read as u: it is u, or a known u -/
noncomputable def Rd (H : Hp) (a : Addr) (u : HO) : Prop := H a = some u ∨ ∃ o, H a = some (.frz o u)
theorem Rd.ok {P : Program} {w : World} {H : Hp} {h : Heap} {a : Addr} {u : HO} (r : Rd H a u) (x : HOk P w H h) : ObjOk P w H h a u := by
  rcases r with r | ⟨o, r⟩
  · exact x a u r
  · obtain ⟨_, q⟩ := x a _ r
    exact q
/-- what may be written -/
noncomputable def Mut : Option HO → Prop
  | some (.lst _) => True
  | some (.dK _) => True
  | some (.dT _) => True
  | some (.set _ _) => True
  | some (.ins _ _ _) => True
  | some (.ext _) => True
  | _ => False
section
variable {P : Program} {w : World} {H : Hp} {h h' : Heap} {x e : Addr} {o' : HO}
/-- the object at e is changed: x itself, or the dict of the instance x -/
theorem HOk.write (ok : HOk P w H h) (mu : Mut (H x)) (he : e = x ∨ H e = some (.own x)) (k : ∀ b u, b ≠ e → h.get? b = some u → h'.get? b = some u) (heo : ∃ u, h'.get? e = some u)
    (new : ObjOk P w (upd H x o') h' x o') : HOk P w (upd H x o') h' := fun b u q => by
  have nown : ∀ c y, H c = some (.own y) → c ≠ x := fun c y r z => by subst z; rw [r] at mu; exact mu
  have ntup : ∀ c xs, H c = some (.tup xs) → c ≠ x := fun c xs r z => by subst z; rw [r] at mu; exact mu
  by_cases hb : b = x
  · subst hb; rw [upd_same] at q; cases q; exact new
  · rw [upd_ne hb] at q
    by_cases hbe : b = e
    · have q' : H b = some (.own x) := by
        rcases he with z | z
        · exact absurd (hbe.trans z) hb
        · rw [hbe]; exact z
      rw [q] at q'; cases q'
      obtain ⟨v, hv⟩ := heo
      exact ⟨v, by rw [hbe]; exact hv⟩
    · refine (ok b u q).stay (fun c v hc r => k c v ?_ r) (fun c r => by rw [upd_ne (nown c b r)]; exact r) fun c xs r => by rw [upd_ne (ntup c xs r)]; exact r
      rcases hc with rfl | hc
      · exact hbe
      · rintro rfl
        rcases he with z | z
        · exact nown c b hc z
        · rw [hc] at z; cases z; exact hb rfl
end

/-! ### kept unless tracked; of the frames at fs (the callers') the slots may change (an exception that passes writes there); of the records at ex (iterators) nothing is said -/
structure Un (fs ex : List Addr) (H H' : Hp) (h h' : Heap) : Prop where
  keep : ∀ b o, h.get? b = some o → H b = none → b ∉ fs → b ∉ ex → h'.get? b = some o
  slot : ∀ b o, h.get? b = some o → H b = none → b ∈ fs → b ∉ ex → ∃ sl, h'.get? b = some { o with slots := sl }
  free : ∀ b o, h.get? b = some o → H b = none → b ∉ ex → H' b = none
  there : ∀ b o, h.get? b = some o → b ∉ ex → ∃ o', h'.get? b = some o'
  tups : ∀ b xs, H b = some (.tup xs) → H' b = some (.tup xs)
  frzs : ∀ b o u, H b = some (.frz o u) → H' b = some (.frz o u)
  tbls : ∀ b ps, H b = some (.tbl ps) → ∃ more, H' b = some (.tbl (ps ++ more))
section
variable {fs fs' ex ex' : List Addr} {H H1 H2 : Hp} {h h1 h2 h' : Heap} {a x e : Addr} {o : HO}
theorem Un.any (u : Un fs ex H H1 h h1) {b : Addr} {ob : Obj} (q : h.get? b = some ob) (n : H b = none) (hx : b ∉ ex) : ∃ sl, h1.get? b = some { ob with slots := sl } := by
  by_cases hb : b ∈ fs
  · exact u.slot b ob q n hb hx
  · exact ⟨ob.slots, u.keep b ob q n hb hx⟩
theorem Un.kept (k : ∀ b u, h.get? b = some u → h'.get? b = some u) : Un fs ex H H h h' :=
  ⟨fun b ob q _ _ _ => k b ob q, fun b ob q _ _ _ => ⟨ob.slots, k b ob q⟩, fun _ _ _ n _ => n, fun b ob q _ => ⟨ob, k b ob q⟩, fun _ _ q => q, fun _ _ _ q => q, fun _ ps q => ⟨#[], by rw [q]; simp⟩⟩
theorem Un.refl : Un fs ex H H h h := Un.kept fun _ _ q => q
theorem Un.laid (k : ∀ b u, h.get? b = some u → h'.get? b = some u) (hp : h.objs.size ≤ a) (hn : H a = none) : Un fs ex H (upd H a o) h h' where
  keep := fun b u q _ _ _ => k b u q
  slot := fun b u q _ _ _ => ⟨u.slots, k b u q⟩
  free := fun b u q n _ => by rw [upd_ne (Nat.ne_of_lt (Nat.lt_of_lt_of_le (Heap.lt_size q) hp))]; exact n
  there := fun b u q _ => ⟨u, k b u q⟩
  tups := fun b xs q => by rw [upd_ne (ne_of_none q hn)]; exact q
  frzs := fun b u xs q => by rw [upd_ne (ne_of_none q hn)]; exact q
  tbls := fun b ps q => ⟨#[], by rw [upd_ne (ne_of_none q hn), q]; simp⟩
theorem Un.write (mu : Mut (H x)) (he : e = x ∨ H e = some (.own x)) (k : ∀ b u, b ≠ e → h.get? b = some u → h'.get? b = some u) (heo : ∃ u, h'.get? e = some u) : Un fs ex H (upd H x o) h h' := by
  have hx : ∀ b, H b = none → b ≠ x := fun b n z => by subst z; rw [n] at mu; exact mu
  have hb : ∀ b, H b = none → b ≠ e := fun b n z => by
    subst z
    rcases he with r | r
    · exact hx b n r
    · rw [n] at r; cases r
  have hm : ∀ b u, H b = some u → ¬ Mut (some u) → b ≠ x := fun b u q nm z => by subst z; rw [q] at mu; exact nm mu
  refine ⟨fun b u q n _ _ => k b u (hb b n) q, fun b u q n _ _ => ⟨u.slots, k b u (hb b n) q⟩, fun b u q n _ => by rw [upd_ne (hx b n)]; exact n, fun b u q _ => ?_,
    fun b xs q => by rw [upd_ne (hm b _ q fun z => z)]; exact q, fun b u xs q => by rw [upd_ne (hm b _ q fun z => z)]; exact q, fun b ps q => ⟨#[], by rw [upd_ne (hm b _ q fun z => z), q]; simp⟩⟩
  by_cases hbe : b = e
  · subst hbe; exact heo
  · exact ⟨u, k b u hbe q⟩
end

/-! ### the heap without what is tracked -/
noncomputable def trk (h : Heap) (H : Hp) : List Addr := (List.range h.objs.size).filter fun a => (H a).isSome
noncomputable def hidT (h : Heap) (H : Hp) : Heap := PySem.W.hideAll h (trk h H)
theorem hidT_size (h : Heap) (H : Hp) : (hidT h H).objs.size = h.objs.size := PySem.W.hideAll_size _ _
theorem hidT_get {h : Heap} {H : Hp} {b : Addr} {o : Obj} (e : h.get? b = some o) (n : H b = none) : (hidT h H).get? b = some o :=
  PySem.W.hideAll_get _ e fun hm => by
    have q : (H b).isSome = true := (List.mem_filter.mp hm).2
    rw [n] at q; simp at q
theorem of_hidT {h : Heap} {H : Hp} {b : Addr} {o : Obj} (e : (hidT h H).get? b = some o) : h.get? b = some o ∧ H b = none := by
  have e' : h.get? b = some o := PySem.W.of_hideAll (trk h H) e
  refine ⟨e', ?_⟩
  cases q : H b with
  | none => rfl
  | some x =>
    have hm : b ∈ trk h H := List.mem_filter.mpr ⟨List.mem_range.mpr (Heap.lt_size e'), by simp [q]⟩
    have z : (hidT h H).get? b = none := PySem.W.hideAll_none (trk h H) hm
    rw [z] at e; cases e

/-! ### OpenK's ledger, filled with every new object but one -/
noncomputable def allNews (g h : Heap) (L : Addr) : List (Addr × Obj) := (List.range h.objs.size).filterMap fun a => if a = L ∨ (g.get? a).isSome = true then none else (h.get? a).map fun o => (a, o)
noncomputable def rest (g h : Heap) (L d : Addr) : List (Addr × Obj) := (allNews g h L).filter fun p => decide (p.1 ≠ d)
end L2

namespace L2
open PySem PySem.Spec PyProof.Rows

/-- the module's facts, over the base: the heap at the law's entry without what is tracked there -/
structure Mod (K : PySem.W.Frag) (mg : Str → Option Value) (base : Heap) : Prop where
  kin : K.In base
  glob : base.Ns mainGlobals mg
  blt : ∃ mb, base.Ns builtinsNs mb ∧ ∀ x : Str, x ≠ "__name__" → mb x = bootBuiltins x
  nolimit : base.NoLimit

/-- the context: a def's body (or a comprehension's block) running. base: fixed through the whole law; s₀, H₀: the entry; outer: the frames whose slots others may change (a def's callers); stack: all frames that run;
   ex: iterators that were made ahead of the entry and are walked here (a comprehension's); fn: the names whose cells were made at the entry (a def: all; a comprehension's block: its own); calm: not within an except suite; pn: pins that every state bears; xe: what is wanted of an exception that leaves the code -/
structure Cx where
  prog : Program
  w : World
  K : PySem.W.Frag
  mg : Str → Option Value
  base : Heap
  A : Around
  N : List Str
  s₀ : Shared
  H₀ : Hp
  env : Env
  outer : List Env
  stack : List Env
  ex : List Addr
  fn : Str → Bool
  calm : Bool
  pn : List (Addr × Obj)
  xe : Value → Shared → Prop
/-- the callers' frames -/
noncomputable def frs (l : List Env) : List Addr := l.filterMap (·.frame)
noncomputable abbrev Cx.fs (X : Cx) : List Addr := frs X.outer

noncomputable def Vis (sc : Scope) (x : Str) : Prop := sc.names.lookup x = some .local ∨ sc.names.lookup x = some .cell ∨ sc.names.lookup x = some .free
noncomputable def Loc (sc : Scope) (x : Str) : Prop := sc.names.lookup x = some .local ∨ sc.names.lookup x = some .cell
noncomputable def Look (env : Env) (h : Heap) (m : Str → Option Value) (x : Str) (u : Value) : Prop :=
  (env.kindOf x = some .local ∧ m x = some u) ∨ ((env.kindOf x = some .cell ∨ env.kindOf x = some .free) ∧ ∃ c, env.cells.lookup x = some c ∧ h.IsCell c (some u))

structure Cx.Ok (X : Cx) : Prop where
  mod : Mod X.K X.mg X.base
  kind : X.env.scope.kind = .function
  glob : X.env.globals = mainGlobals
  blt : X.env.builtins = builtinsNs
  above : X.s₀.heap.objs.size ≤ X.env.locals
  inj : ∀ x y c, X.env.cells.lookup x = some c → X.env.cells.lookup y = some c → x = y
  has : ∀ x, (X.env.kindOf x = some .cell ∨ X.env.kindOf x = some .free) → ∃ c, X.env.cells.lookup x = some c
  cab : ∀ x c, X.fn x = true → X.env.cells.lookup x = some c → X.s₀.heap.objs.size ≤ c
  hd : X.calm = true → X.A.handled = none
  frames : X.A.frames = some X.stack
  stk : X.stack = X.outer ∨ (X.stack = X.env :: X.outer ∧ X.env.frame = some X.env.locals)
  exf : ∀ b ∈ X.ex, b ≠ X.env.locals ∧ ∀ x c, X.env.cells.lookup x = some c → c ≠ b
  bs : ∀ b o, X.base.get? b = some o → X.s₀.heap.get? b = some o ∧ X.H₀ b = none
  bsz : X.base.objs.size ≤ X.s₀.heap.objs.size
  noex : ∀ b o, X.base.get? b = some o → b ∉ X.ex
  exfs : ∀ b ∈ X.ex, b ∉ X.fs
  funs : X.s₀.heap.FunFrames X.base X.outer
  frf : ∀ b ∈ X.fs, X.H₀ b = none

structure Inv (X : Cx) (pins : List (Addr × Obj)) (σ : List (Option V)) (H : Hp) (s : Shared) : Prop where
  ok : X.Ok
  os : s.os = X.s₀.os
  bare : AllBare s.gens
  base : Un X.fs X.ex X.H₀ H X.s₀.heap s.heap
  loc : ∃ m, s.heap.Ns X.env.locals m ∧ ∀ (i : Nat) (x : Str) (v : V), X.N[i]? = some x → σ[i]? = some (some v) → Vis X.env.scope x → ∃ u, RelV v u ∧ Look X.env s.heap m x u
  cell : ∀ x c, X.env.cells.lookup x = some c → ∃ v, s.heap.IsCell c v
  free : H X.env.locals = none
  freeC : ∀ x c, X.env.cells.lookup x = some c → H c = none
  pin : ∀ p ∈ X.pn ++ pins, s.heap.get? p.1 = some p.2 ∧ H p.1 = none ∧ p.1 ≠ X.env.locals ∧ p.1 ∉ X.fs ∧ ∀ v, p.2.data ≠ .cell v
  hok : HOk X.prog X.w H s.heap
  len : σ.length = X.N.length

section
variable {X : Cx} {pins : List (Addr × Obj)} {σ : List (Option V)} {H H' : Hp} {s : Shared} {h' : Heap}

theorem Cx.Ok.nofr (ok : X.Ok) {b : Addr} {o : Obj} (e : X.base.get? b = some o) : b ∉ X.fs := fun hb => by
  have := (ok.funs.mem hb).1
  rw [e] at this; cases this
theorem Inv.bs (I : Inv X pins σ H s) : ∀ b o, X.base.get? b = some o → s.heap.get? b = some o ∧ H b = none := fun b o e =>
  ⟨I.base.keep b o (I.ok.bs b o e).1 (I.ok.bs b o e).2 (I.ok.nofr e) (I.ok.noex b o e), I.base.free b o (I.ok.bs b o e).1 (I.ok.bs b o e).2 (I.ok.noex b o e)⟩
theorem Inv.bk (I : Inv X pins σ H s) : ∀ b o, X.base.get? b = some o → s.heap.get? b = some o := fun b o e => (I.bs b o e).1
theorem Inv.mod (I : Inv X pins σ H s) : Mod X.K X.mg X.base := I.ok.mod
theorem Inv.kIn (I : Inv X pins σ H s) : X.K.In s.heap := I.ok.mod.kin.keeps I.bk
theorem Inv.lt (I : Inv X pins σ H s) : X.env.locals < s.heap.objs.size := let ⟨_, hn, _⟩ := I.loc; hn.lt
theorem Inv.sz (I : Inv X pins σ H s) : X.s₀.heap.objs.size ≤ s.heap.objs.size := Nat.le_trans I.ok.above (Nat.le_of_lt I.lt)
theorem Inv.nofs (I : Inv X pins σ H s) {a : Addr} (h : s.heap.objs.size ≤ a) : a ∉ X.fs := fun hb => by
  obtain ⟨_, o, ho, _⟩ := I.ok.funs.mem hb
  exact absurd (Nat.lt_of_lt_of_le (Heap.lt_size ho) (Nat.le_trans I.sz h)) (Nat.lt_irrefl _)
theorem Inv.cne (I : Inv X pins σ H s) : ∀ x c, X.env.cells.lookup x = some c → c ≠ X.env.locals := fun x c e z => by
  obtain ⟨v, o, ho, hd⟩ := I.cell x c e
  obtain ⟨m, ⟨o', es, ep, ho', hd', _⟩, _⟩ := I.loc
  rw [z, ho'] at ho; cases ho; rw [hd'] at hd; cases hd
theorem Inv.funs (I : Inv X pins σ H s) : s.heap.FunFrames X.base X.outer := by
  have all : ∀ (l : List Env), (∀ b ∈ frs l, b ∈ X.fs) → X.s₀.heap.FunFrames X.base l → s.heap.FunFrames X.base l := by
    intro l
    induction l with
    | nil => intro _ _; trivial
    | cons env r ih =>
      intro hs hl
      obtain ⟨hk, ⟨L, o, hf, hn, ho, hd⟩, hr⟩ := hl
      have hL : L ∈ X.fs := hs L (by unfold frs; rw [List.filterMap_cons, hf]; exact List.mem_cons_self)
      obtain ⟨sl, e⟩ := I.base.slot L o ho (I.ok.frf L hL) hL fun z => I.ok.exfs L z hL
      exact ⟨hk, ⟨L, _, hf, hn, e, hd⟩, ih (fun b hb => hs b (by unfold frs; rw [List.filterMap_cons, hf]; exact List.mem_cons_of_mem _ hb)) hr⟩
  exact all X.outer (fun _ hb => hb) I.ok.funs

/-- the frames that run, for a call -/
theorem Inv.stack (I : Inv X pins σ H s) : s.heap.FunFrames X.base X.stack := by
  rcases I.ok.stk with e | ⟨e, hf⟩
  · rw [e]; exact I.funs
  · rw [e]
    obtain ⟨m, hn, _⟩ := I.loc
    refine .cons (by rw [I.ok.kind]; decide) hf hn ?_ I.funs
    exact Heap.get?_none_of_le (Nat.le_trans I.ok.bsz I.ok.above)
theorem Inv.stkSub (I : Inv X pins σ H s) : ∀ b ∈ frs X.stack, b ∈ X.env.locals :: X.fs := fun b hb => by
  rcases I.ok.stk with e | ⟨e, hf⟩
  · rw [e] at hb; exact List.mem_cons_of_mem _ hb
  · rw [e] at hb
    unfold frs at hb
    rw [List.filterMap_cons, hf] at hb
    exact hb
theorem Inv.stkFree (I : Inv X pins σ H s) : ∀ b ∈ frs X.stack, H b = none := fun b hb => by
  rcases List.mem_cons.mp (I.stkSub b hb) with e | hb
  · rw [e]; exact I.free
  · obtain ⟨_, o, ho, _⟩ := I.ok.funs.mem hb
    exact I.base.free b o ho (I.ok.frf b hb) fun z => I.ok.exfs b z hb

/-- THE STEP: the untracked objects but the frame and the records at ch are kept (the callers' frames up to slots), the frame's map is kept, the new abstract heap is held -/
theorem Inv.step {g' : Array GenState} {t' : Nat} {d' : Drawn} {ch : List Addr} (I : Inv X pins σ H s)
    (hch : ∀ b ∈ ch, (b ∈ X.ex ∨ X.s₀.heap.objs.size ≤ b) ∧ b ≠ X.env.locals ∧ (∀ x c, X.env.cells.lookup x = some c → c ≠ b) ∧ ∀ p ∈ X.pn ++ pins, p.1 ≠ b)
    (keep : ∀ b o, b ≠ X.env.locals → b ∉ X.fs → b ∉ ch → s.heap.get? b = some o → H b = none → h'.get? b = some o)
    (slot : ∀ b o, b ≠ X.env.locals → b ∈ X.fs → b ∉ ch → s.heap.get? b = some o → H b = none → ∃ sl, h'.get? b = some { o with slots := sl }) (free : ∀ b o, b ∉ ch → s.heap.get? b = some o → H b = none → H' b = none)
    (there : ∀ b o, b ∉ ch → s.heap.get? b = some o → ∃ o', h'.get? b = some o')
    (tups : ∀ b xs, H b = some (.tup xs) → H' b = some (.tup xs)) (frzs : ∀ b o u, H b = some (.frz o u) → H' b = some (.frz o u)) (tbls : ∀ b ps, H b = some (.tbl ps) → ∃ more, H' b = some (.tbl (ps ++ more)))
    (ns : ∀ m, s.heap.Ns X.env.locals m → h'.Ns X.env.locals m) (hok : HOk X.prog X.w H' h') (hg : AllBare g') :
    Inv X pins σ H' { s with heap := h', gens := g', drawn := d', toks := t' } := by
  have neL : ∀ b o, X.s₀.heap.get? b = some o → b ≠ X.env.locals := fun b o e => Nat.ne_of_lt (Nat.lt_of_lt_of_le (Heap.lt_size e) I.ok.above)
  have neC : ∀ b o, X.s₀.heap.get? b = some o → b ∉ X.ex → b ∉ ch := fun b o e hx hb => by
    rcases (hch b hb).1 with z | z
    · exact hx z
    · exact absurd (Nat.lt_of_lt_of_le (Heap.lt_size e) z) (Nat.lt_irrefl _)
  have cellK : ∀ x c, X.env.cells.lookup x = some c → ∀ v, s.heap.IsCell c v → h'.IsCell c v := fun x c e v hw' => by
    obtain ⟨o, ho, hd⟩ := hw'
    have nch : c ∉ ch := fun z => (hch c z).2.2.1 x c e rfl
    by_cases hc : c ∈ X.fs
    · obtain ⟨sl, q⟩ := slot c o (I.cne x c e) hc nch ho (I.freeC x c e)
      exact ⟨_, q, hd⟩
    · exact ⟨o, keep c o (I.cne x c e) hc nch ho (I.freeC x c e), hd⟩
  refine ⟨I.ok, I.os, hg, ⟨fun b o e n hb hx => ?_, fun b o e n hb hx => ?_, fun b o e n hx => ?_, fun b o e hx => ?_, fun b xs e => tups b xs (I.base.tups b xs e), fun b o xs e => frzs b o xs (I.base.frzs b o xs e), fun b ps e => ?_⟩, ?_, fun x c e => ?_, ?_, fun x c e => ?_, fun p hp => ?_, hok, I.len⟩
  · exact keep b o (neL b o e) hb (neC b o e hx) (I.base.keep b o e n hb hx) (I.base.free b o e n hx)
  · obtain ⟨sl, e1⟩ := I.base.slot b o e n hb hx
    obtain ⟨sl', e2⟩ := slot b _ (neL b o e) hb (neC b o e hx) e1 (I.base.free b o e n hx)
    exact ⟨sl', e2⟩
  · obtain ⟨o', e1⟩ := I.base.there b o e hx
    exact free b o' (neC b o e hx) e1 (I.base.free b o e n hx)
  · obtain ⟨o', e1⟩ := I.base.there b o e hx
    exact there b o' (neC b o e hx) e1
  · obtain ⟨m1, e1⟩ := I.base.tbls b ps e
    obtain ⟨m2, e2⟩ := tbls b _ e1
    exact ⟨m1 ++ m2, by rw [e2, Array.append_assoc]⟩
  · obtain ⟨m, hn, hl⟩ := I.loc
    refine ⟨m, ns m hn, fun i x v e1 e2 e3 => ?_⟩
    obtain ⟨u, r, l⟩ := hl i x v e1 e2 e3
    refine ⟨u, r, ?_⟩
    rcases l with l | ⟨k, c, e, z⟩
    · exact .inl l
    · exact .inr ⟨k, c, e, cellK x c e _ z⟩
  · obtain ⟨v, z⟩ := I.cell x c e
    exact ⟨v, cellK x c e v z⟩
  · obtain ⟨m, ⟨o, _, _, ho, _⟩, _⟩ := I.loc
    exact free _ o (fun z => (hch _ z).2.1 rfl) ho I.free
  · obtain ⟨v, o, ho, hd⟩ := I.cell x c e
    exact free c o (fun z => (hch c z).2.2.1 x c e rfl) ho (I.freeC x c e)
  · obtain ⟨e, n, ne, nf, d⟩ := I.pin p hp
    have nch : p.1 ∉ ch := fun z => (hch p.1 z).2.2.2 p hp rfl
    exact ⟨keep p.1 p.2 ne nf nch e n, free p.1 p.2 nch e n, ne, nf, d⟩
/-- .. where the frame's own object is kept too -/
theorem Inv.un {t' : Nat} (I : Inv X pins σ H s) (u : Un X.fs [] H H' s.heap h') (hok : HOk X.prog X.w H' h') : Inv X pins σ H' { s with heap := h', toks := t' } := by
  obtain ⟨m, ⟨o, es, ep, ho, r⟩, _⟩ := id I.loc
  obtain ⟨sl, hL⟩ := u.any ho I.free (by simp)
  exact I.step (g' := s.gens) (d' := s.drawn) (ch := []) (fun _ z => nomatch z) (fun b o _ hb _ e n => u.keep b o e n hb (by simp)) (fun b o _ hb _ e n => u.slot b o e n hb (by simp)) (fun b o _ e n => u.free b o e n (by simp)) (fun b o _ e => u.there b o e (by simp)) u.tups u.frzs u.tbls (fun m' hm => by
    obtain ⟨o', es', ep', ho', r'⟩ := hm
    rw [ho] at ho'; cases ho'
    exact ⟨_, es', ep', hL, r'⟩) hok I.bare
/-- behind a call (or a comprehension's block): the slots of this frame may have changed too, the records at ch may have turned -/
theorem Inv.call {g' : Array GenState} {t' : Nat} {d' : Drawn} {ch : List Addr} (I : Inv X pins σ H s) (u : Un (frs X.stack) ch H H' s.heap h') (hok : HOk X.prog X.w H' h') (hg : AllBare g')
    (hch : ∀ b ∈ ch, (b ∈ X.ex ∨ X.s₀.heap.objs.size ≤ b) ∧ b ≠ X.env.locals ∧ (∀ x c, X.env.cells.lookup x = some c → c ≠ b) ∧ ∀ p ∈ X.pn ++ pins, p.1 ≠ b) :
    Inv X pins σ H' { s with heap := h', gens := g', drawn := d', toks := t' } := by
  obtain ⟨m, ⟨o, es, ep, ho, r⟩, _⟩ := id I.loc
  obtain ⟨sl, hL⟩ := u.any ho I.free fun z => (hch _ z).2.1 rfl
  exact I.step (ch := ch) hch (fun b o hL hb hc e n => u.keep b o e n (fun z => (List.mem_cons.mp (I.stkSub b z)).elim hL hb) hc) (fun b o _ _ hc e n => u.any e n hc) (fun b o hc e n => u.free b o e n hc) (fun b o hc e => u.there b o e hc) u.tups u.frzs u.tbls (fun m' hm => by
    obtain ⟨o', es', ep', ho', r'⟩ := hm
    rw [ho] at ho'; cases ho'
    exact ⟨_, es', ep', hL, r'⟩) hok hg
/-- an untracked record of ours (an iterator) has turned -/
theorem Inv.turned {t' : Nat} {it : Addr} (I : Inv X pins σ H s) (k : ∀ b o, b ≠ it → s.heap.get? b = some o → h'.get? b = some o) (hn : H it = none) (hL : it ≠ X.env.locals)
    (h1 : it ∈ X.ex ∨ X.s₀.heap.objs.size ≤ it) (h2 : ∀ x c, X.env.cells.lookup x = some c → c ≠ it) (h3 : ∀ p ∈ X.pn ++ pins, p.1 ≠ it) : Inv X pins σ H { s with heap := h', toks := t' } := by
  have nit : ∀ b u, H b = some u → b ≠ it := fun b u e z => by rw [z, hn] at e; cases e
  refine I.step (g' := s.gens) (d' := s.drawn) (ch := [it]) (fun b hb => ?_) (fun b o _ _ hc e _ => k b o (fun z => hc (by simp [z])) e) (fun b o _ _ hc e _ => ⟨o.slots, k b o (fun z => hc (by simp [z])) e⟩) (fun _ _ _ _ n => n)
    (fun b o hc e => ⟨o, k b o (fun z => hc (by simp [z])) e⟩) (fun _ _ e => e) (fun _ _ _ e => e) (fun b ps e => ⟨#[], by rw [e]; simp⟩) (fun m hm => ?_) (fun b u e => ?_) I.bare
  · have e : b = it := by simpa using hb
    subst e
    exact ⟨h1, hL, h2, h3⟩
  · obtain ⟨o, es, ep, ho, r⟩ := hm
    exact ⟨o, es, ep, k _ o (Ne.symm hL) ho, r⟩
  · refine (I.hok b u e).stay (fun c v hc q => k c v ?_ q) (fun _ q => q) fun _ _ q => q
    rcases hc with z | z
    · rw [z]; exact nit b u e
    · exact nit c _ z
theorem Inv.tok (I : Inv X pins σ H s) (t : Nat) : Inv X pins σ H { s with toks := t } := I.un (h' := s.heap) (t' := t) Un.refl I.hok
/-- all objects kept -/
theorem Inv.kept {t' : Nat} (I : Inv X pins σ H s) (k : ∀ b u, s.heap.get? b = some u → h'.get? b = some u) : Inv X pins σ H { s with heap := h', toks := t' } := I.un (Un.kept k) (I.hok.kept k)
/-- a new object laid and tracked -/
theorem Inv.laid {a : Addr} {o : HO} {t' : Nat} (I : Inv X pins σ H s) (k : ∀ b u, s.heap.get? b = some u → h'.get? b = some u) (hp : s.heap.objs.size ≤ a) (new : ObjOk X.prog X.w (upd H a o) h' a o) :
    Inv X pins σ (upd H a o) { s with heap := h', toks := t' } := I.un (Un.laid k hp (I.hok.fresh hp)) (I.hok.laid k hp new)
/-- an object written -/
theorem Inv.write {x e : Addr} {o : HO} {t' : Nat} (I : Inv X pins σ H s) (mu : Mut (H x)) (he : e = x ∨ H e = some (.own x)) (k : ∀ b u, b ≠ e → s.heap.get? b = some u → h'.get? b = some u) (heo : ∃ u, h'.get? e = some u)
    (new : ObjOk X.prog X.w (upd H x o) h' x o) : Inv X pins σ (upd H x o) { s with heap := h', toks := t' } := I.un (Un.write mu he k heo) (I.hok.write mu he k heo new)
theorem Inv.pins_of {pins' : List (Addr × Obj)} (I : Inv X pins σ H s) (h : ∀ p ∈ pins', s.heap.get? p.1 = some p.2 ∧ H p.1 = none ∧ p.1 ≠ X.env.locals ∧ p.1 ∉ X.fs ∧ ∀ v, p.2.data ≠ .cell v) : Inv X pins' σ H s :=
  ⟨I.ok, I.os, I.bare, I.base, I.loc, I.cell, I.free, I.freeC, fun p hp => (List.mem_append.mp hp).elim (fun z => I.pin p (List.mem_append_left _ z)) (h p), I.hok, I.len⟩

theorem nodup_ix {N : List Str} (hN : N.Nodup) {i j : Nat} {x : Str} (a : N[i]? = some x) (b : N[j]? = some x) : i = j := by
  obtain ⟨h1, e1⟩ := List.getElem?_eq_some_iff.mp a
  obtain ⟨h2, e2⟩ := List.getElem?_eq_some_iff.mp b
  exact (List.getElem_inj hN).mp (e1.trans e2.symm)

/-- a name is stored; what changed -/
theorem store_ok2 {M : Model} {A : Around} {E : Value → Shared → Prop} {i : Nat} {x : Str} {v : V} {u : Value} {Q : Unit → Shared → Prop} (I : Inv X pins σ H s) (hN : X.N.Nodup) (hi : X.N[i]? = some x) (hx : Loc X.env.scope x) (r : RelV v u)
    (h : ∀ s', Inv X pins (σ.set i (some v)) H s' → (∃ a, Heap.SameBut a s.heap s'.heap ∧ (a = X.env.locals ∨ X.env.cells.lookup x = some a)) → Q () s') (hf : X.fn x = true ∨ X.env.scope.names.lookup x = some .local := by first | exact .inl rfl | exact .inr rfl | assumption) : wpAny M A (storeName X.env x u) Q E s := by
  obtain ⟨m, hn, hl⟩ := id I.loc
  have hcls : (X.env.scope.kind == .class || (X.env.scope.kind == .module && X.env.locals != X.env.globals)) = false := by rw [I.ok.kind]; rfl
  have hiσ : i < σ.length := by rw [I.len]; exact (List.getElem?_eq_some_iff.mp hi).1
  have cne := I.cne
  have tracked : ∀ {a : Addr} {h' : Heap}, (∃ o, s.heap.get? a = some o ∧ H a = none) → Heap.SameBut a s.heap h' → HOk X.prog X.w H h' := fun {a h'} ha hs b ob e => by
    obtain ⟨_, _, hfree⟩ := ha
    refine (I.hok b ob e).stay (fun c w' hc q => (hs.2 c ?_).trans q) (fun _ q => q) fun _ _ q => q
    rintro rfl
    rcases hc with rfl | hc
    · rw [hfree] at e; cases e
    · rw [hfree] at hc; cases hc
  rcases hx with hk | hk
  · refine wpAny_storeName_local hk hn (fun h' hn' hs => ?_) hcls
    obtain ⟨oL, _, _, hoL, _⟩ := id hn
    refine h _ ⟨I.ok, I.os, I.bare, ⟨fun b o e n hb hx => ?_, fun b o e n hb hx => ?_, I.base.free, fun b o e hx => ?_, I.base.tups, I.base.frzs, I.base.tbls⟩, ⟨_, hn', fun j y v' e1 e2 e3 => ?_⟩, fun y c e => ?_, I.free, I.freeC, fun p hp => ?_, tracked ⟨oL, hoL, I.free⟩ hs, by simpa using I.len⟩ ⟨_, hs, .inl rfl⟩
    · exact (hs.2 b (Nat.ne_of_lt (Nat.lt_of_lt_of_le (Heap.lt_size e) I.ok.above))).trans (I.base.keep b o e n hb hx)
    · obtain ⟨sl, e1⟩ := I.base.slot b o e n hb hx
      exact ⟨sl, (hs.2 b (Nat.ne_of_lt (Nat.lt_of_lt_of_le (Heap.lt_size e) I.ok.above))).trans e1⟩
    · obtain ⟨o', e1⟩ := I.base.there b o e hx
      exact ⟨o', (hs.2 b (Nat.ne_of_lt (Nat.lt_of_lt_of_le (Heap.lt_size e) I.ok.above))).trans e1⟩
    · by_cases hj : j = i
      · subst hj
        rw [hi] at e1; cases e1
        rw [List.getElem?_set_self hiσ] at e2
        cases e2
        exact ⟨u, r, .inl ⟨hk, by simp⟩⟩
      · rw [List.getElem?_set_ne (Ne.symm hj)] at e2
        obtain ⟨u', r', q⟩ := hl j y v' e1 e2 e3
        refine ⟨u', r', ?_⟩
        rcases q with ⟨k, e⟩ | ⟨k, c, e, z⟩
        · refine .inl ⟨k, ?_⟩
          have : y ≠ x := fun e => hj (nodup_ix hN e1 (e ▸ hi))
          simp [this, e]
        · exact .inr ⟨k, c, e, z.sameBut hs (cne y c e)⟩
    · obtain ⟨w', z⟩ := I.cell y c e
      exact ⟨w', z.sameBut hs (cne y c e)⟩
    · obtain ⟨e, n, ne, nf, d⟩ := I.pin p hp
      exact ⟨(hs.2 p.1 ne).trans e, n, ne, nf, d⟩
  · have hfn : X.fn x = true := by
      rcases hf with z | z
      · exact z
      · rw [z] at hk; cases hk
    obtain ⟨c, hc⟩ := I.ok.has x (.inl hk)
    obtain ⟨w', z⟩ := I.cell x c hc
    refine wpAny_storeName_cell I.ok.kind hk hc z (fun h' hc' hs => ?_)
    obtain ⟨oc, hoc, hocd⟩ := id z
    refine h { s with heap := h' } ⟨I.ok, I.os, I.bare, ⟨fun b o e n hb hx => ?_, fun b o e n hb hx => ?_, I.base.free, fun b o e hx => ?_, I.base.tups, I.base.frzs, I.base.tbls⟩, ⟨m, hn.sameBut hs (Ne.symm (cne x c hc)), fun j y v' e1 e2 e3 => ?_⟩, fun y c' e => ?_, I.free, I.freeC, fun p hp => ?_, tracked ⟨oc, hoc, I.freeC x c hc⟩ hs, by simpa using I.len⟩ ⟨c, hs, .inr hc⟩
    · exact (hs.2 b (Nat.ne_of_lt (Nat.lt_of_lt_of_le (Heap.lt_size e) (I.ok.cab x c hfn hc)))).trans (I.base.keep b o e n hb hx)
    · obtain ⟨sl, e1⟩ := I.base.slot b o e n hb hx
      exact ⟨sl, (hs.2 b (Nat.ne_of_lt (Nat.lt_of_lt_of_le (Heap.lt_size e) (I.ok.cab x c hfn hc)))).trans e1⟩
    · obtain ⟨o', e1⟩ := I.base.there b o e hx
      exact ⟨o', (hs.2 b (Nat.ne_of_lt (Nat.lt_of_lt_of_le (Heap.lt_size e) (I.ok.cab x c hfn hc)))).trans e1⟩
    · by_cases hj : j = i
      · subst hj
        rw [hi] at e1; cases e1
        rw [List.getElem?_set_self hiσ] at e2
        cases e2
        exact ⟨u, r, .inr ⟨.inl hk, c, hc, hc'⟩⟩
      · rw [List.getElem?_set_ne (Ne.symm hj)] at e2
        obtain ⟨u', r', q⟩ := hl j y v' e1 e2 e3
        refine ⟨u', r', ?_⟩
        rcases q with q | ⟨k, c', e, z'⟩
        · exact .inl q
        · refine .inr ⟨k, c', e, z'.sameBut hs ?_⟩
          rintro rfl
          exact hj (nodup_ix hN e1 (I.ok.inj _ _ _ e hc ▸ hi))
    · by_cases hcc : c' = c
      · subst hcc; exact ⟨_, hc'⟩
      · obtain ⟨w2, z2⟩ := I.cell y c' e
        exact ⟨w2, z2.sameBut hs hcc⟩
    · obtain ⟨e, n, ne, nf, d⟩ := I.pin p hp
      refine ⟨(hs.2 p.1 ?_).trans e, n, ne, nf, d⟩
      intro q
      rw [q, hoc] at e
      have q' : oc = p.2 := Option.some.inj e
      exact d w' (by rw [← q']; exact hocd)
theorem store_ok {M : Model} {A : Around} {E : Value → Shared → Prop} {i : Nat} {x : Str} {v : V} {u : Value} {Q : Unit → Shared → Prop} (I : Inv X pins σ H s) (hN : X.N.Nodup) (hi : X.N[i]? = some x) (hx : Loc X.env.scope x) (r : RelV v u)
    (h : ∀ s', Inv X pins (σ.set i (some v)) H s' → Q () s') (hf : X.fn x = true ∨ X.env.scope.names.lookup x = some .local := by first | exact .inl rfl | exact .inr rfl | assumption) : wpAny M A (storeName X.env x u) Q E s :=
  store_ok2 I hN hi hx r (fun s' I' _ => h s' I') hf
/-- behind a call or a block, the state as it is -/
theorem Inv.call' {s' : Shared} {ch : List Addr} (I : Inv X pins σ H s) (ho : s'.os = s.os) (u : Un (frs X.stack) ch H H' s.heap s'.heap) (hok : HOk X.prog X.w H' s'.heap) (hg : AllBare s'.gens)
    (hch : ∀ b ∈ ch, (b ∈ X.ex ∨ X.s₀.heap.objs.size ≤ b) ∧ b ≠ X.env.locals ∧ (∀ x c, X.env.cells.lookup x = some c → c ≠ b) ∧ ∀ p ∈ X.pn ++ pins, p.1 ≠ b) : Inv X pins σ H' s' := by
  obtain ⟨h', g', d', t', o'⟩ := s'
  have e : o' = s.os := ho
  subst e
  exact I.call (g' := g') (t' := t') (d' := d') u hok hg hch
end

/-! ### the judgements -/
/-- an exception: its class, its own dict's address (where it has one), the abstract heap behind it -/
noncomputable abbrev XK := Value → Option Addr → Hp → Prop
noncomputable abbrev St := List (Option V)
noncomputable abbrev VK := V → Hp → Prop
/-- an expression's reading; a test's; an argument list's -/
noncomputable abbrev TE := St → Hp → VK → Prop
noncomputable abbrev TT := St → Hp → (Bool → Hp → Prop) → Prop
noncomputable abbrev TA := St → Hp → (List V → Hp → Prop) → Prop
/-- what is wanted behind a statement -/
structure Ends where
  nx : St → Hp → Prop
  rt : VK
  bk : St → Hp → Prop := fun _ _ => False
  ct : St → Hp → Prop := fun _ _ => False
noncomputable abbrev TS := Ends → St → Hp → Prop

noncomputable def EP (X : Cx) (pins : List (Addr × Obj)) (σ : St) (Q : VK) (u : Value) (s' : Shared) : Prop := ∃ v H', Inv X pins σ H' s' ∧ RelV v u ∧ Q v H'
noncomputable def TP (X : Cx) (pins : List (Addr × Obj)) (σ : St) (Q : Bool → Hp → Prop) (b : Bool) (s' : Shared) : Prop := ∃ H', Inv X pins σ H' s' ∧ Q b H'
noncomputable def AP (X : Cx) (pins : List (Addr × Obj)) (σ : St) (Q : List V → Hp → Prop) (us : List Value) (s' : Shared) : Prop := ∃ vs H', Inv X pins σ H' s' ∧ Vals vs us ∧ Q vs H'
noncomputable def SP (X : Cx) (pins : List (Addr × Obj)) (D : Ends) (f : Flow) (s' : Shared) : Prop :=
  match f with
  | .next => ∃ σ' H', Inv X pins σ' H' s' ∧ D.nx σ' H'
  | .brk => ∃ σ' H', Inv X pins σ' H' s' ∧ D.bk σ' H'
  | .cont => ∃ σ' H', Inv X pins σ' H' s' ∧ D.ct σ' H'
  | .ret u => ∃ v σ' H', Inv X pins σ' H' s' ∧ RelV v u ∧ D.rt v H'

noncomputable def PE (X : Cx) (e : Expr) (t : TE) : Prop :=
  ∀ (pins : List (Addr × Obj)) (s : Shared) (σ : St) (H : Hp) (Q : VK), Inv X pins σ H s → t σ H Q → wpAny (model X.prog X.w) X.A (eval e X.env) (EP X pins σ Q) X.xe s
noncomputable def PT (X : Cx) (e : Expr) (t : TT) : Prop :=
  ∀ (pins : List (Addr × Obj)) (s : Shared) (σ : St) (H : Hp) (Q : Bool → Hp → Prop), Inv X pins σ H s → t σ H Q → wpAny (model X.prog X.w) X.A (isTrue e X.env (eval e X.env)) (TP X pins σ Q) X.xe s
/-- a test whatever its 'whole' is (and, or) -/
noncomputable def PW (X : Cx) (e : Expr) (t : TT) : Prop :=
  ∀ (whole : Sem Value) (pins : List (Addr × Obj)) (s : Shared) (σ : St) (H : Hp) (Q : Bool → Hp → Prop), Inv X pins σ H s → t σ H Q → wpAny (model X.prog X.w) X.A (isTrue e X.env whole) (TP X pins σ Q) X.xe s
theorem PW.pt {X : Cx} {e : Expr} {t : TT} (h : PW X e t) : PT X e t := h _
/-- an argument list (no star), from the left -/
noncomputable def PA (X : Cx) (es : List Expr) (t : TA) : Prop :=
  ∀ (pos : Pos) (pins : List (Addr × Obj)) (s : Shared) (σ : St) (H : Hp) (Q : List V → Hp → Prop), Inv X pins σ H s → t σ H Q → wpAny (model X.prog X.w) X.A (spliced (backTo pos (starEach es X.env))) (AP X pins σ Q) X.xe s
noncomputable def PS (X : Cx) (st : Stmt) (t : TS) : Prop :=
  ∀ (pins : List (Addr × Obj)) (s : Shared) (σ : St) (H : Hp) (D : Ends), Inv X pins σ H s → t D σ H → wpAny (model X.prog X.w) X.A (exec st X.env) (SP X pins D) X.xe s
noncomputable def PSs (X : Cx) (st : List Stmt) (t : TS) : Prop :=
  ∀ (pins : List (Addr × Obj)) (s : Shared) (σ : St) (H : Hp) (D : Ends), Inv X pins σ H s → t D σ H → wpAny (model X.prog X.w) X.A (execs st X.env) (SP X pins D) X.xe s
/-- weaken the end -/
theorem thn {α : Type} {t : Sem α} {Q Q' : α → Shared → Prop} {M : Model} {A : Around} {E : Value → Shared → Prop} {s : Shared} (h : wpAny M A t Q E s) (hQ : ∀ a s, Q a s → Q' a s) : wpAny M A t Q' E s := wpAny_mono h hQ fun _ _ x => x
end L2

namespace L2
open PySem PySem.Spec PyProof.Rows
section
variable {X : Cx}

/-! ### names and constants -/
noncomputable def tVar (i : Nat) : TE := fun σ H Q => ∃ v, σ[i]? = some (some v) ∧ Q v H
noncomputable def tC (v : V) : TE := fun _ H Q => Q v H
theorem pe_var {i : Nat} {x : Str} {pos : Pos} (hN : X.N[i]? = some x) (hv : Vis X.env.scope x) (hd : (x == ("__debug__" : Str)) = false := by decide) (hcd : (x == ("__classdict__" : Str)) = false := by decide) : PE X (.Name x pos) (tVar i) := by
  intro pins s σ H Q I h
  obtain ⟨v, e, h⟩ := h
  obtain ⟨m, hn, hl⟩ := I.loc
  obtain ⟨u, r, l⟩ := hl i x v hN e hv
  have fin : EP X pins σ Q u s := ⟨v, H, I, r, h⟩
  rcases l with ⟨hk, hm⟩ | ⟨hk, c, hc, hcell⟩
  · exact wpAny_Name (wpAny_loadName_local I.ok.kind hk hn hm fin) hd
  · rcases hk with hk | hk
    · exact wpAny_Name (wpAny_loadName_cell I.ok.kind hk hc hcell fin) hd
    · exact wpAny_Name (wpAny_loadName_free I.ok.kind hk hc hcell fin hcd) hd
theorem pe_int {i j pos} : PE X (.Constant (.int i) j pos) (tC (.int i)) := fun _ _ _ H _ I h => wpAny_Constant_int ⟨.int i, H, I.tok _, ⟨_, rfl⟩, h⟩
theorem pe_bl {b j pos} : PE X (.Constant (.bool b) j pos) (tC (.bl b)) := fun _ _ _ H _ I h => Constant_bool ⟨.bl b, H, I, rfl, h⟩
theorem pe_non {j pos} : PE X (.Constant .none j pos) (tC .non) := fun _ _ _ H _ I h => Constant_none ⟨.non, H, I, rfl, h⟩
theorem pe_str {x j pos} : PE X (.Constant (.str x) j pos) (tC (.str x)) := fun _ _ _ H _ I h => Calls.Constant_str ⟨.str x, H, I.tok _, ⟨_, rfl⟩, h⟩

/-- a global name of the def -/
noncomputable def Gl (X : Cx) (x : Str) : Prop := X.env.kindOf x = some .globalImplicit
theorem ld_glob {E : Value → Shared → Prop} {pins : List (Addr × Obj)} {s : Shared} {σ : St} {H : Hp} {x : Str} {u : Value} {pos : Pos} {Q : Value → Shared → Prop} (I : Inv X pins σ H s) (hg : Gl X x) (hm : X.mg x = some u) (h : Q u s)
    (hd : (x == ("__debug__" : Str)) = false := by decide) : wpAny (model X.prog X.w) X.A (eval (.Name x pos) X.env) Q E s :=
  Calls.Name_function_global I.ok.kind hg (Calls.loadGlobal_global (by rw [I.ok.glob]; exact I.mod.glob.keeps I.bk) hm h) hd
theorem ld_blt {E : Value → Shared → Prop} {pins : List (Addr × Obj)} {s : Shared} {σ : St} {H : Hp} {x : Str} {u : Value} {pos : Pos} {Q : Value → Shared → Prop} (I : Inv X pins σ H s) (hg : Gl X x) (hm : X.mg x = none) (hv : bootBuiltins x = some u) (h : Q u s)
    (hn : x ≠ "__name__" := by decide) (hd : (x == ("__debug__" : Str)) = false := by decide) : wpAny (model X.prog X.w) X.A (eval (.Name x pos) X.env) Q E s := by
  obtain ⟨mb, h1, h2⟩ := I.mod.blt
  exact Calls.Name_function_global I.ok.kind hg (Calls.loadGlobal_builtin (by rw [I.ok.glob]; exact I.mod.glob.keeps I.bk) hm (by rw [I.ok.blt]; exact h1.keeps I.bk) ((h2 x hn).trans hv) h) hd
/-- a module's constant, a class, a function, as a value -/
theorem pe_glob {x : Str} {v : V} {u : Value} {pos : Pos} (hg : Gl X x) (hm : X.mg x = some u) (r : RelV v u) (hd : (x == ("__debug__" : Str)) = false := by decide) : PE X (.Name x pos) (tC v) :=
  fun _ _ _ H _ I h => ld_glob I hg hm ⟨v, H, I, r, h⟩ hd
variable {a b : Expr} {ta tb : TE} {pos : Pos}
/-! ### comparisons -/
noncomputable def PC (X : Cx) (op : CmpOp) (a b : Expr) (t : TE) : Prop :=
  ∀ (pins : List (Addr × Obj)) (s : Shared) (σ : St) (H : Hp) (Q : VK), Inv X pins σ H s → t σ H Q →
    wpAny (model X.prog X.w) X.A (eval a X.env) (fun v s₁ => wpAny (model X.prog X.w) X.A (eval b X.env) (fun u s₂ => wpAny (model X.prog X.w) X.A (compareOp op v u) (EP X pins σ Q) X.xe s₂) X.xe s₁) X.xe s
/-- a comparison as a value, as a test -/
noncomputable def tB (t : TE) : TT := fun σ H Q => t σ H fun x H1 => ∃ c, x = .bl c ∧ Q c H1
theorem pt_cmp {op : CmpOp} {t : TE} (h : PC X op a b t) (h1 : behindInMarks op b = false := by first | exact nobehind _ (by decide) (by decide) | rfl) : PT X (.Compare a [op] [b] pos) (tB t) := by
  intro pins s σ H Q I hw
  refine wpAny_isTrue_Compare1 (thn (h pins s σ H _ I hw) fun v s1 h1 => thn h1 fun u s2 h2 => thn h2 fun c s3 hw' => ?_) h1
  obtain ⟨x, H1, I1, r1, q1⟩ := hw'
  obtain ⟨d, rfl, q⟩ := q1
  cases r1
  exact wpAny_truthy_bool ⟨H1, I1, q⟩
/-- an expression whose value is a bool, as a test -/
theorem pt_val {e : Expr} {t : TE} (h : PE X e t) (he : ∀ whole, isTrue e X.env whole = (do let v ← whole; standAt e.pos; holding [v] (truthy v)) := by intro _; rfl) : PT X e (tB t) := by
  intro pins s σ H Q I hw
  refine isTrue_plain (thn (h pins s σ H _ I hw) fun v s1 ⟨x, H1, I1, r1, q1⟩ => ?_) (he _)
  obtain ⟨d, rfl, q⟩ := q1
  cases r1
  exact wpAny_truthy_bool ⟨H1, I1, q⟩

/-! ### and, or, not -/
variable {tA tB' : TT} {rest : List Expr}
noncomputable def tAnd (t u : TT) : TT := fun σ H Q => t σ H fun c H1 => if c = true then u σ H1 Q else Q false H1
noncomputable def tOr (t u : TT) : TT := fun σ H Q => t σ H fun c H1 => if c = true then Q true H1 else u σ H1 Q
noncomputable def tNot (t : TT) : TT := fun σ H Q => t σ H fun c H1 => Q (!c) H1
theorem pw_and1 (ha : PT X a tA) : PW X (.BoolOp .And [a] pos) tA := by
  intro wh pins s σ H Q I h
  refine isTrue_and (thn (ha pins s σ H Q I h) fun c s1 e => ?_)
  cases c with
  | true => exact isTrue_and_nil e
  | false => exact e
theorem pw_or1 (ha : PT X a tA) : PW X (.BoolOp .Or [a] pos) tA := by
  intro wh pins s σ H Q I h
  refine isTrue_or (thn (ha pins s σ H Q I h) fun c s1 e => ?_)
  cases c with
  | false => exact isTrue_or_nil e
  | true => exact e
theorem pw_and (ha : PT X a tA) (hb : PW X (.BoolOp .And (b :: rest) pos) tB') : PW X (.BoolOp .And (a :: b :: rest) pos) (tAnd tA tB') := by
  intro wh pins s σ H Q I h
  refine isTrue_and (thn (ha pins s σ H _ I h) fun c s1 ⟨H1, I1, q1⟩ => ?_)
  cases c with
  | true => exact hb wh pins s1 σ H1 Q I1 q1
  | false => exact ⟨H1, I1, q1⟩
theorem pw_or (ha : PT X a tA) (hb : PW X (.BoolOp .Or (b :: rest) pos) tB') : PW X (.BoolOp .Or (a :: b :: rest) pos) (tOr tA tB') := by
  intro wh pins s σ H Q I h
  refine isTrue_or (thn (ha pins s σ H _ I h) fun c s1 ⟨H1, I1, q1⟩ => ?_)
  cases c with
  | true => exact ⟨H1, I1, q1⟩
  | false => exact hb wh pins s1 σ H1 Q I1 q1
theorem pt_not (ha : PT X a tA) : PT X (.UnaryOp .Not a pos) (tNot tA) := by
  intro pins s σ H Q I h
  exact isTrue_not (ha pins s σ H (fun c H1 => Q (!c) H1) I h)
/-- .. as values (bools) -/
noncomputable def tAndV (ta tb : TE) : TE := fun σ H Q => ta σ H fun x H1 => ∃ c, x = .bl c ∧ if c = true then tb σ H1 Q else Q (.bl false) H1
noncomputable def tOrV (ta tb : TE) : TE := fun σ H Q => ta σ H fun x H1 => ∃ c, x = .bl c ∧ if c = true then Q (.bl true) H1 else tb σ H1 Q
theorem pe_one {op} {t : TE} (h : PE X a t) : PE X (.BoolOp op [a] pos) t := fun pins s σ H Q I hw => BoolOp_one (h pins s σ H Q I hw)
theorem pe_and (ha : PE X a ta) (hb : PE X (.BoolOp .And (b :: rest) pos) tb) : PE X (.BoolOp .And (a :: b :: rest) pos) (tAndV ta tb) := by
  intro pins s σ H Q I h
  refine BoolOp_and (thn (ha pins s σ H _ I h) fun v s1 hw' => ?_)
  obtain ⟨x, H1, I1, r1, q1⟩ := hw'
  obtain ⟨c, rfl, q1⟩ := q1
  cases r1
  refine wpAny_truthy_bool ?_
  cases c with
  | true => exact hb pins s1 σ H1 Q I1 q1
  | false => exact ⟨.bl false, H1, I1, rfl, q1⟩
theorem pe_or (ha : PE X a ta) (hb : PE X (.BoolOp .Or (b :: rest) pos) tb) : PE X (.BoolOp .Or (a :: b :: rest) pos) (tOrV ta tb) := by
  intro pins s σ H Q I h
  refine BoolOp_or (thn (ha pins s σ H _ I h) fun v s1 hw' => ?_)
  obtain ⟨x, H1, I1, r1, q1⟩ := hw'
  obtain ⟨c, rfl, q1⟩ := q1
  cases r1
  refine wpAny_truthy_bool ?_
  cases c with
  | false => exact hb pins s1 σ H1 Q I1 q1
  | true => exact ⟨.bl true, H1, I1, rfl, q1⟩
end
end L2

namespace L2
open PySem PySem.Spec PyProof.Rows

/-! ### a list, a tuple that is read: tracked, frozen, or an object of the module -/
noncomputable def SqL (K : PySem.W.Frag) (H : Hp) (a : Addr) (xs : List V) : Prop :=
  Rd H a (.lst xs) ∨
    ∃ (o : Obj) (its : Array Value) (n : Nat), K.lookup a = some o ∧ o.cls = .type "list" ∧ o.dict = none ∧ o.data = .seq its n ∧ its.size ≤ sizeLine ∧ Vals xs its.toList
noncomputable def SqT (K : PySem.W.Frag) (H : Hp) (a : Addr) (xs : List V) : Prop :=
  Rd H a (.tup xs) ∨
    ∃ (o : Obj) (its : Array Value) (n : Nat), K.lookup a = some o ∧ o.cls = .type "tuple" ∧ o.data = .seq its n ∧ its.size ≤ sizeLine ∧ Vals xs its.toList
noncomputable def absV : Value → Option V
  | .none => some .non
  | .bool b => some (.bl b)
  | .int i _ => some (.int i)
  | .str x _ => some (.str x)
  | .bytes b _ => some (.byt b)
  | .float b _ => some (.flt b)
  | .ref a => some (.ref a)
  | .type n => some (.ty n)
  | _ => none
theorem RelV.abs {x : V} {u : Value} (r : RelV x u) : absV u = some x := by
  cases x with
  | non => cases r; rfl
  | bl _ => cases r; rfl
  | int _ => obtain ⟨t, rfl⟩ := r; rfl
  | str _ => obtain ⟨t, rfl⟩ := r; rfl
  | byt _ => obtain ⟨t, rfl⟩ := r; rfl
  | flt _ => obtain ⟨t, rfl⟩ := r; rfl
  | ref _ => cases r; rfl
  | ty _ => cases r; rfl
theorem RelV.inj {x y : V} {u : Value} (r : RelV x u) (q : RelV y u) : x = y := Option.some.inj (r.abs.symm.trans q.abs)
theorem Vals.inj : ∀ {xs ys : List V} {us : List Value}, Vals xs us → Vals ys us → xs = ys
  | _, _, _, .nil, .nil => rfl
  | _, _, _, .cons r t, .cons r' t' => by rw [r.inj r', Vals.inj t t']
section
variable {X : Cx} {pins : List (Addr × Obj)} {σ : St} {H : Hp} {s : Shared} {a : Addr} {xs ys : List V}
theorem SqL.of {K : PySem.W.Frag} (h : H a = some (.lst xs)) : SqL K H a xs := .inl (.inl h)
theorem SqT.of {K : PySem.W.Frag} (h : H a = some (.tup xs)) : SqT K H a xs := .inl (.inl h)
theorem Inv.list (I : Inv X pins σ H s) (h : SqL X.K H a xs) : ∃ its : List Value, Vals xs its ∧ PlainL s.heap a its.toArray ∧ xs.length ≤ sizeLine := by
  rcases h with h | ⟨o, its, n, hk, hc, hd, hs, hz, r⟩
  · obtain ⟨z, its, n, r, e⟩ := h.ok I.hok
    exact ⟨its, r, ⟨_, n, e, rfl, rfl, rfl⟩, z⟩
  · refine ⟨its.toList, r, ⟨o, n, I.kIn a o hk, hc, hd, by simpa using hs⟩, ?_⟩
    have e := r.length
    simp only [Array.length_toList] at e
    omega
theorem Inv.tuple (I : Inv X pins σ H s) (h : SqT X.K H a xs) : ∃ its : List Value, Vals xs its ∧ IsTup s.heap a its.toArray ∧ xs.length ≤ sizeLine := by
  rcases h with h | ⟨o, its, n, hk, hc, hs, hz, r⟩
  · obtain ⟨z, its, r, p⟩ := h.ok I.hok
    exact ⟨its, r, p, z⟩
  · refine ⟨its.toList, r, ⟨o, I.kIn a o hk, hc, n, by simpa using hs⟩, ?_⟩
    have e := r.length
    simp only [Array.length_toList] at e
    omega
theorem Inv.list_inj (I : Inv X pins σ H s) (h : SqL X.K H a xs) (h' : SqL X.K H a ys) : xs = ys := by
  obtain ⟨its, r, ⟨o, n, e, _, _, d⟩, _⟩ := I.list h
  obtain ⟨its', r', ⟨o', n', e', _, _, d'⟩, _⟩ := I.list h'
  rw [e] at e'; cases e'
  rw [d] at d'
  injection d' with d1 _
  have : its = its' := by simpa using congrArg Array.toList d1
  subst this
  exact r.inj r'
end

/-! ### another wish about exceptions -/
noncomputable abbrev Cx.wish (X : Cx) (E : Value → Shared → Prop) : Cx := { X with xe := E }
/-- no exception leaves -/
noncomputable abbrev Cx.nox (X : Cx) : Cx := X.wish fun _ _ => False
theorem Cx.Ok.wish {X : Cx} (ok : X.Ok) (E : Value → Shared → Prop) : (X.wish E).Ok :=
  ⟨ok.mod, ok.kind, ok.glob, ok.blt, ok.above, ok.inj, ok.has, ok.cab, ok.hd, ok.frames, ok.stk, ok.exf, ok.bs, ok.bsz, ok.noex, ok.exfs, ok.funs, ok.frf⟩
theorem Cx.Ok.unwish {X : Cx} {E : Value → Shared → Prop} (ok : (X.wish E).Ok) : X.Ok :=
  ⟨ok.mod, ok.kind, ok.glob, ok.blt, ok.above, ok.inj, ok.has, ok.cab, ok.hd, ok.frames, ok.stk, ok.exf, ok.bs, ok.bsz, ok.noex, ok.exfs, ok.funs, ok.frf⟩
section
variable {X : Cx} {pins : List (Addr × Obj)} {σ : St} {H : Hp} {s : Shared} {E : Value → Shared → Prop}
theorem Inv.wish (I : Inv X pins σ H s) (E : Value → Shared → Prop) : Inv (X.wish E) pins σ H s := ⟨I.ok.wish E, I.os, I.bare, I.base, I.loc, I.cell, I.free, I.freeC, I.pin, I.hok, I.len⟩
theorem Inv.unwish (I : Inv (X.wish E) pins σ H s) : Inv X pins σ H s := ⟨I.ok.unwish, I.os, I.bare, I.base, I.loc, I.cell, I.free, I.freeC, I.pin, I.hok, I.len⟩
theorem SP.unwish {D : Ends} {f : Flow} {s' : Shared} (h : SP (X.wish E) pins D f s') : SP X pins D f s' := by
  cases f with
  | next => obtain ⟨σ', H', I, q⟩ := h; exact ⟨σ', H', I.unwish, q⟩
  | brk => obtain ⟨σ', H', I, q⟩ := h; exact ⟨σ', H', I.unwish, q⟩
  | cont => obtain ⟨σ', H', I, q⟩ := h; exact ⟨σ', H', I.unwish, q⟩
  | ret u => obtain ⟨v, σ', H', I, r, q⟩ := h; exact ⟨v, σ', H', I.unwish, r, q⟩
theorem PSs.nox {st : List Stmt} {t : TS} (h : PSs X.nox st t) : PSs X st t := fun pins s σ H D I hw =>
  wpAny_mono (h pins s σ H D (I.wish _) hw) (fun _ _ q => q.unwish) fun _ _ z => False.elim z
end

/-! ### blocks and small statements -/
section
variable {X : Cx} {st : Stmt} {rest : List Stmt} {t u : TS} {e : Expr} {te : TE} {pos : Pos}
noncomputable def tNext : TS := fun D σ H => D.nx σ H
noncomputable def tSeq (t u : TS) : TS := fun D σ H => t { D with nx := u D } σ H
theorem pss_nil : PSs X [] tNext := fun _ _ σ H _ I h => wpAny_execs_nil ⟨σ, H, I, h⟩
theorem pss_cons (h1 : PS X st t) (h2 : PSs X rest u) : PSs X (st :: rest) (tSeq t u) := by
  intro pins s σ H D I h
  refine wpAny_execs_cons (thn (h1 pins s σ H { D with nx := u D } I h) fun f s1 q => ?_)
  cases f with
  | next =>
    obtain ⟨σ', H', I', q⟩ := q
    exact h2 pins s1 σ' H' D I' q
  | ret v => exact q
  | brk => exact q
  | cont => exact q
theorem pss_one (h1 : PS X st t) : PSs X [st] t := by
  intro pins s σ H D I h
  refine wpAny_execs_cons (thn (h1 pins s σ H D I h) fun f s1 q => ?_)
  cases f with
  | next => exact wpAny_execs_nil q
  | ret v => exact q
  | brk => exact q
  | cont => exact q
/-- in a def's body nothing is shown -/
theorem Inv.quiet {pins : List (Addr × Obj)} {σ : St} {H : Hp} {s : Shared} (I : Inv X pins σ H s) : interactive X.env = false := by simp [interactive, I.ok.kind]
/-- an expression whose value is dropped -/
noncomputable def tDrop (te : TE) : TS := fun D σ H => te σ H fun _ H1 => D.nx σ H1
theorem ps_expr (he : PE X e te) (hs : swapsWith e none pos.line X.env = pure false := by rfl) : PS X (.Expr e pos) (tDrop te) := by
  intro pins s σ H D I h
  exact wpAny_Expr_any (thn (he pins s σ H _ I h) fun v s1 ⟨x, H1, I1, r1, q1⟩ => ⟨σ, H1, I1, q1⟩) I.quiet hs
noncomputable def tRet (te : TE) : TS := fun D σ H => te σ H D.rt
theorem ps_ret (he : PE X e te) : PS X (.Return (some e) pos) (tRet te) := by
  intro pins s σ H D I h
  exact wpAny_Return_some (thn (he pins s σ H _ I h) fun v s1 ⟨x, H1, I1, r1, q1⟩ => ⟨x, σ, H1, I1, r1, q1⟩)
noncomputable def tIfS (c : TT) (t u : TS) : TS := fun D σ H => c σ H fun b H1 => if b = true then t D σ H1 else u D σ H1
theorem ps_if {c : Expr} {a b : List Stmt} {tc : TT} (hc : PT X c tc) (ha : PSs X a t) (hb : PSs X b u) : PS X (.If c a b pos) (tIfS tc t u) := by
  intro pins s σ H D I h
  refine wpAny_If (thn (hc pins s σ H _ I h) fun d s1 ⟨H1, I1, q1⟩ => ?_)
  cases d with
  | true => exact ha pins s1 σ H1 D I1 q1
  | false => exact hb pins s1 σ H1 D I1 q1
/-- code that the proof never comes to -/
noncomputable def tNever : TS := fun _ _ _ => False
theorem ps_never : PS X st tNever := fun _ _ _ _ _ _ h => h.elim
theorem pss_never {sts : List Stmt} : PSs X sts tNever := fun _ _ _ _ _ _ h => h.elim
end

/-! ### targets -/
noncomputable abbrev TG := V → St → Hp → (St → Hp → Prop) → Prop
noncomputable abbrev TGs := List V → St → Hp → (St → Hp → Prop) → Prop
noncomputable def PG (X : Cx) (target : Expr) (t : TG) : Prop :=
  ∀ (pins : List (Addr × Obj)) (s : Shared) (σ : St) (H : Hp) (v : V) (u : Value) (Q : St → Hp → Prop), Inv X pins σ H s → RelV v u → t v σ H Q →
    wpAny (model X.prog X.w) X.A (assign target X.env u) (fun _ s' => ∃ σ' H', Inv X pins σ' H' s' ∧ Q σ' H') X.xe s
/-- several targets, one after another -/
noncomputable def PGs (X : Cx) (ts : List Expr) (t : TGs) : Prop :=
  ∀ (pins : List (Addr × Obj)) (s : Shared) (σ : St) (H : Hp) (vs : List V) (us : List Value) (Q : St → Hp → Prop), Inv X pins σ H s → Vals vs us → t vs σ H Q →
    wpAny (model X.prog X.w) X.A (assignInOrder ((assignEach ts X.env).map (·.2)) us) (fun _ s' => ∃ σ' H', Inv X pins σ' H' s' ∧ Q σ' H') X.xe s
section
variable {X : Cx} {pos : Pos}
noncomputable def gName (i : Nat) : TG := fun v σ H Q => Q (σ.set i (some v)) H
theorem pg_name {i : Nat} {x : Str} (hN : X.N.Nodup) (hi : X.N[i]? = some x) (hx : Loc X.env.scope x) (hf : X.fn x = true ∨ X.env.scope.names.lookup x = some .local := by first | exact .inl rfl | exact .inr rfl | assumption) : PG X (.Name x pos) (gName i) := by
  intro pins s σ H v u Q I r h
  exact wpAny_assign_Name (store_ok I hN hi hx r (fun s' I' => ⟨_, H, I', h⟩) hf)
noncomputable def gNil : TGs := fun vs σ H Q => vs = [] ∧ Q σ H
noncomputable def gCons (t : TG) (u : TGs) : TGs := fun vs σ H Q => ∃ v r, vs = v :: r ∧ t v σ H fun σ' H' => u r σ' H' Q
theorem pgs_nil : PGs X [] gNil := by
  intro pins s σ H vs us Q I r h
  obtain ⟨e, h⟩ := h
  subst e
  cases r
  exact assignInOrder_nil ⟨σ, H, I, h⟩
theorem pgs_cons {e : Expr} {es : List Expr} {t : TG} {u : TGs} (h1 : PG X e t) (h2 : PGs X es u)
    (hs : (assignEach (e :: es) X.env).map (·.2) = assign e X.env :: (assignEach es X.env).map (·.2) := by rfl) : PGs X (e :: es) (gCons t u) := by
  intro pins s σ H vs us Q I r h
  obtain ⟨v, vr, e1, h⟩ := h
  subst e1
  cases r with
  | cons r rr =>
    rw [hs]
    refine assignInOrder_cons (thn (h1 pins s σ H _ _ _ I r h) fun _ s1 hw' => ?_)
    obtain ⟨σ1, H1, I1, q1⟩ := hw'
    exact h2 pins s1 σ1 H1 _ _ Q I1 rr q1
/-- (a, b, ..) = a tuple of that length -/
noncomputable def gTup (K : PySem.W.Frag) (n : Nat) (t : TGs) : TG := fun v σ H Q => ∃ a xs, v = .ref a ∧ SqT K H a xs ∧ xs.length = n ∧ t xs σ H Q
theorem pg_tup {es : List Expr} {k : Nat} {t : TGs} {n : Nat} (hc : X.calm = true) (h : PGs X es t)
    (hn : (assignEach es X.env).length = n := by rfl) (hst : (assignEach es X.env).findIdx? (·.1) = none := by rfl) : PG X (.Tuple es k pos) (gTup X.K n t) := by
  intro pins s σ H v u Q I r hw
  obtain ⟨a, xs, e1, hq, hl, hw⟩ := hw
  subst e1
  cases r
  obtain ⟨its, rv, ht, hz⟩ := I.tuple hq
  refine assign_Tuple_tuple (I.ok.hd hc) ht (by simp [hn, ← hl, rv.length]) hst fun h' hx => ?_
  have I1 : Inv X pins σ H { s with heap := h' } := I.kept (t' := s.toks) fun b o e => hx b o (Nat.ne_of_lt (Heap.lt_size e)) e
  exact h pins _ σ H xs _ Q I1 (by simpa using rv) hw
/-- target = value -/
noncomputable def tAsg (te : TE) (g : TG) : TS := fun D σ H => te σ H fun x H1 => g x σ H1 D.nx
theorem ps_asg {tg e : Expr} {te : TE} {g : TG} (he : PE X e te) (hg : PG X tg g) (hs : swapsWithSole [tg] e pos.line X.env = pure false := by rfl) (hw : swappedStores [tg] e X.env = pure none := by rfl)
    (h1 : (assignEach [tg] X.env).map (·.2) = [assign tg X.env] := by rfl) : PS X (.Assign [tg] e pos) (tAsg te g) := by
  intro pins s σ H D I h
  refine wpAny_Assign_stores (thn (he pins s σ H _ I h) fun v s1 hw' => ?_) hs hw
  obtain ⟨x, H1, I1, r1, q1⟩ := hw'
  rw [h1]
  exact thn (hg pins s1 σ H1 x v _ I1 r1 q1) fun _ s2 q => q
/-- name = value -/
theorem ps_set {i : Nat} {x : Str} {e : Expr} {te : TE} {pos' : Pos} (hN : X.N.Nodup) (hi : X.N[i]? = some x) (hx : Loc X.env.scope x) (he : PE X e te) (hs : swapsWith e (some (.Name x pos')) pos.line X.env = pure false := by rfl) (hf : X.fn x = true ∨ X.env.scope.names.lookup x = some .local := by first | exact .inl rfl | exact .inr rfl | assumption) :
    PS X (.Assign [.Name x pos'] e pos) (tAsg te (gName i)) := by
  intro pins s σ H D I h
  refine wpAny_Assign_Name (thn (he pins s σ H _ I h) fun v s1 hw' => ?_) hs
  obtain ⟨y, H1, I1, r1, q1⟩ := hw'
  exact store_ok I1 hN hi hx r1 (fun s2 I2 => ⟨_, H1, I2, q1⟩) hf
end

/-! ### while -/
section
variable {X : Cx} {pos : Pos}
/-- the invariant W with its measure -/
noncomputable def tWhile (c : TT) (tb : TS) : TS := fun D σ H => ∃ W : Nat → St → Hp → Prop, (∃ m, W m σ H) ∧ ∀ m σ H, W m σ H →
  c σ H fun b H1 => if b = true then ∃ N : St → Hp → Prop, (∀ σ' H', N σ' H' → ∃ m', m' < m ∧ W m' σ' H') ∧ tb { D with nx := N, ct := N, bk := D.nx } σ H1 else D.nx σ H1
theorem ps_while {c : Expr} {body : List Stmt} {tc : TT} {tb : TS} (hp : PassesOwn (model X.prog X.w) X.A X.env X.xe) (hc : PT X c tc) (hb : PSs X body tb) : PS X (.While c body [] pos) (tWhile tc tb) := by
  intro pins s σ H D I h
  obtain ⟨W, ⟨m0, w0⟩, turn⟩ := h
  refine wpAny_While (codeAny_whileLoop (fun n s' => ∃ σ' H', Inv X pins σ' H' s' ∧ W n σ' H') ?_ m0 ⟨σ, H, I, w0⟩)
  rintro n s1 ⟨σ1, H1, I1, w1⟩
  refine wpAny_passesOwn hp (thn (hc pins s1 σ1 H1 _ I1 (turn n σ1 H1 w1)) fun b s2 ⟨H2, I2, q2⟩ => ?_)
  cases b with
  | true =>
    obtain ⟨N, hN, q2⟩ := q2
    rw [if_pos rfl]
    refine wpAny_passesOwn hp (thn (hb pins s2 σ1 H2 _ I2 q2) fun f s3 q3 => ?_)
    cases f with
    | next =>
      obtain ⟨σ3, H3, I3, n3⟩ := q3
      obtain ⟨m', hm, w3⟩ := hN σ3 H3 n3
      exact ⟨m', hm, σ3, H3, I3, w3⟩
    | cont =>
      obtain ⟨σ3, H3, I3, n3⟩ := q3
      obtain ⟨m', hm, w3⟩ := hN σ3 H3 n3
      exact ⟨m', hm, σ3, H3, I3, w3⟩
    | brk => exact q3
    | ret v => exact q3
  | false =>
    rw [if_neg Bool.false_ne_true]
    exact wpAny_execs_nil ⟨σ1, H2, I2, q2⟩
end

/-! ### what a loop or a comprehension walks -/
/-- at turn i: it yields x (the heap may grow), or it stops -/
structure It where
  go : Nat → Hp → Prop
  yld : Nat → Hp → V → Hp → Prop
  stop : Nat → Hp → Prop
/-- the iterator's own objects may turn: they are not the frame's, not pinned, younger than the entry (or a comprehension's own) -/
noncomputable def FpOk (X : Cx) (pins : List (Addr × Obj)) (H : Hp) (b : Addr) : Prop :=
  H b = none ∧ b ≠ X.env.locals ∧ b ∉ X.fs ∧ (b ∈ X.ex ∨ X.s₀.heap.objs.size ≤ b) ∧ (∀ x c, X.env.cells.lookup x = some c → c ≠ b) ∧ ∀ p ∈ X.pn ++ pins, p.1 ≠ b
theorem Inv.fpOk {X : Cx} {pins : List (Addr × Obj)} {σ : St} {H H' : Hp} {s : Shared} {b : Addr} (I : Inv X pins σ H s) (hb : s.heap.objs.size ≤ b) (hn : H' b = none) : FpOk X pins H' b := by
  refine ⟨hn, Nat.ne_of_gt (Nat.lt_of_lt_of_le I.lt hb), I.nofs hb, .inr (Nat.le_trans I.sz hb), fun x c e z => ?_, fun p hp z => ?_⟩
  · obtain ⟨v, q⟩ := I.cell x c e
    exact absurd (Nat.lt_of_lt_of_le q.lt (by rw [z]; exact hb)) (Nat.lt_irrefl _)
  · exact absurd (Nat.lt_of_lt_of_le (Heap.lt_size (I.pin p hp).1) (by rw [z]; exact hb)) (Nat.lt_irrefl _)
structure Turn (P : Program) (w : World) (K : PySem.W.Frag) (tg : Expr) (J : It) (fp : List Addr) (it : Addr) (tn : Nat → Heap → Prop) : Prop where
  mem : it ∈ fp
  obj : ∀ i h, tn i h → ∀ b ∈ fp, ∃ o, h.get? b = some o ∧ ∀ v, o.data ≠ .cell v
  keep : ∀ i h h', tn i h → (∀ b ∈ fp, ∀ o, h.get? b = some o → h'.get? b = some o) → tn i h'
  item : ∀ (X : Cx), X.prog = P → X.w = w → X.K = K → X.calm = true → ∀ (i : Nat) (pins : List (Addr × Obj)) (s : Shared) (σ : St) (H : Hp) (E : Value → Shared → Prop), Inv X pins σ H s → (∀ b ∈ fp, FpOk X pins H b) → tn i s.heap → J.go i H →
    wpAny (model P w) X.A (pyNext (.ref it)) (fun r s1 => ∃ u, r = some u ∧
      wpAny (model P w) X.A (letOwnedTupleGo tg (.ref it) u) (fun _ s2 => ∃ x H', Inv X pins σ H' s2 ∧ RelV x u ∧ J.yld i H x H' ∧ tn (i + 1) s2.heap ∧ ∀ b ∈ fp, H' b = none) E s1) E s
  done : ∀ (X : Cx), X.prog = P → X.w = w → X.K = K → X.calm = true → ∀ (i : Nat) (pins : List (Addr × Obj)) (s : Shared) (σ : St) (H : Hp) (E : Value → Shared → Prop), Inv X pins σ H s → (∀ b ∈ fp, FpOk X pins H b) → tn i s.heap → J.stop i H →
    wpAny (model P w) X.A (pyNext (.ref it)) (fun r s1 => r = none ∧ Inv X pins σ H s1) E s
  self : ∀ (A : Around) (i : Nat) (s : Shared) (Q : Value → Shared → Prop) (E : Value → Shared → Prop), tn i s.heap → Q (.ref it) s → wpAny (model P w) A (pyIter (.ref it)) Q E s
noncomputable abbrev TI := St → Hp → (It → Hp → Prop) → Prop
/-- an iterator has come -/
noncomputable def PIE (X : Cx) (pins : List (Addr × Obj)) (σ : St) (tg : Expr) (R : It → Hp → Prop) (itv : Value) (s2 : Shared) : Prop :=
  ∃ (it : Addr) (fp : List Addr) (tn : Nat → Heap → Prop) (J : It) (H' : Hp), itv = .ref it ∧ Inv X pins σ H' s2 ∧ Turn X.prog X.w X.K tg J fp it tn ∧ tn 0 s2.heap ∧ (∀ b ∈ fp, FpOk X pins H' b) ∧ R J H'
noncomputable def PI (X : Cx) (tg iter : Expr) (wi : TI) : Prop :=
  ∀ (pins : List (Addr × Obj)) (s : Shared) (σ : St) (H : Hp) (R : It → Hp → Prop), Inv X pins σ H s → wi σ H R →
    wpAny (model X.prog X.w) X.A (eval iter X.env) (fun v s1 => wpAny (model X.prog X.w) X.A (pyIter v) (PIE X pins σ tg R) X.xe s1) X.xe s

/-- the step ahead of the store is nothing for an iterator that keeps no tuple -/
theorem go_of {M : Model} {A : Around} {E : Value → Shared → Prop} {s : Shared} {tg : Expr} {it : Addr} {u : Value} {o : Obj} {n : String} {vs : Array Value} {Q : Unit → Shared → Prop} (ho : s.heap.get? it = some o) (hc : o.cls = .type n) (hd : o.data = .fields vs)
    (hn : ["enumerate", "zip", "dict_itemiterator", "dict_reverseitemiterator", "odict_iterator", "itertools.zip_longest", "itertools.pairwise"].contains n = false) (hQ : Q () s) : wpAny M A (letOwnedTupleGo tg (.ref it) u) Q E s := by
  unfold letOwnedTupleGo
  cases tg <;> first
    | exact wpAny_pure hQ
    | (cases u <;> first
        | exact wpAny_pure hQ
        | (refine wpAny_bind (wpAny_load ho ?_)
           rw [hc, hd]
           show wpAny M A (if (["enumerate", "zip", "dict_itemiterator", "dict_reverseitemiterator", "odict_iterator", "itertools.zip_longest", "itertools.pairwise"].contains n && vs[0]? == some (rawInt _)) = true then _ else _) Q E s
           rw [if_neg (by intro h; rw [hn, Bool.false_and] at h; cases h)]
           exact wpAny_pure hQ))

/-- the list at a, as it stands at each turn (a loop may append to it) -/
noncomputable def Itl (K : PySem.W.Frag) (a : Addr) : It :=
  ⟨fun i H => ∃ xs x, SqL K H a xs ∧ xs[i]? = some x, fun i H x H' => H' = H ∧ ∀ xs, SqL K H a xs → xs[i]? = some x, fun i H => ∃ xs, SqL K H a xs ∧ xs.length ≤ i⟩
/-- lo, lo + 1, .. (n of them) -/
noncomputable def Itr (lo : Int) (n : Nat) : It := ⟨fun i _ => i < n, fun i H x H' => H' = H ∧ x = .int (lo + i), fun i _ => n ≤ i⟩
theorem turn_list {P : Program} {w : World} {K : PySem.W.Frag} {tg : Expr} (a it : Addr) : Turn P w K tg (Itl K a) [it] it (fun i h => h.IsListIter it a i) where
  mem := by simp
  obj := fun i h st b hb => by
    have e : b = it := by simpa using hb
    subst e
    obtain ⟨o, e, c, d⟩ := st
    exact ⟨o, e, fun v z => by rw [d] at z; cases z⟩
  keep := fun i h h' st k => st.at fun o e => k it (by simp) o e
  item := by
    intro X hP hw hK hc i pins s σ H E I hf st hg
    subst hP hw hK
    obtain ⟨xs, x, hq, hx⟩ := hg
    obtain ⟨its, rv, p, hz⟩ := I.list hq
    obtain ⟨u, hu, ru⟩ := rv.get hx
    obtain ⟨f0, f1, f2, f3, f4, f5⟩ := hf it (by simp)
    refine wpAny_pyNext_list_item st p.isList (x := u) (by simpa using hu) fun h' st' sb => ?_
    have I1 : Inv X pins σ H { s with heap := h' } := I.turned (t' := s.toks) (fun b o hb e => (sb.2 b hb).trans e) f0 f1 f3 f4 f5
    obtain ⟨o, e, c, d⟩ := id st'
    exact ⟨u, rfl, go_of (s := { s with heap := h' }) e c d (by decide) ⟨x, H, I1, ru, ⟨rfl, fun ys hy => by rw [I.list_inj hy hq]; exact hx⟩, st', fun b hb => (hf b hb).1⟩⟩
  done := by
    intro X hP hw hK hc i pins s σ H E I hf st hg
    subst hP hw hK
    obtain ⟨xs, hq, hx⟩ := hg
    obtain ⟨its, rv, p, hz⟩ := I.list hq
    obtain ⟨f0, f1, f2, f3, f4, f5⟩ := hf it (by simp)
    have hl := rv.length
    exact wpAny_pyNext_list_end (I.ok.hd hc) st p.isList (by simp; omega) fun h' eb => ⟨rfl, I.turned (t' := s.toks) (fun b o hb e => eb b o hb e) f0 f1 f3 f4 f5⟩
  self := fun _ _ _ _ _ st h => wpAny_pyIter_listiter st h
theorem turn_range {P : Program} {w : World} {K : PySem.W.Frag} {tg : Expr} (it : Addr) (lo : Int) (n : Nat) : Turn P w K tg (Itr lo n) [it] it (fun i h => IsRangeIter h it (lo + (i : Nat) * 1) ((n : Int) - (i : Nat)) 1) where
  mem := by simp
  obj := fun i h st b hb => by
    have e : b = it := by simpa using hb
    subst e
    exact ⟨_, st, fun v z => by
      have z' : Data.fields _ = Data.cell v := z
      cases z'⟩
  keep := fun i h h' st k => k it (by simp) _ st
  item := by
    intro X hP hw hK hc i pins s σ H E I hf st hg
    subst hP hw hK
    obtain ⟨f0, f1, f2, f3, f4, f5⟩ := hf it (by simp)
    have W := Walks.range (prog := X.prog) (w := X.w) (I.ok.hd hc) it lo 1 n
    refine W.item i s _ _ hg st fun v h' tk hv st' kk => ?_
    obtain ⟨t, rfl⟩ := hv
    have I1 : Inv X pins σ H { s with heap := h', toks := tk } := I.turned (fun b o hb e => kk b o (by simpa using hb) e) f0 f1 f3 f4 f5
    refine ⟨_, rfl, go_of (s := { s with heap := h', toks := tk }) (n := "range_iterator") st' rfl rfl (by decide) ⟨.int (lo + i), H, I1, ⟨t, ?_⟩, ⟨rfl, rfl⟩, st', fun b hb => (hf b hb).1⟩⟩
    rw [Int.mul_one]
  done := by
    intro X hP hw hK hc i pins s σ H E I hf st hg
    subst hP hw hK
    obtain ⟨f0, f1, f2, f3, f4, f5⟩ := hf it (by simp)
    exact wpAny_pyNext_range_end (I.ok.hd hc) st (by have : n ≤ i := hg; omega) fun h' eb => ⟨rfl, I.turned (t' := s.toks) (fun b o hb e => eb b o hb e) f0 f1 f3 f4 f5⟩
  self := fun _ _ _ _ _ st h => wpAny_pyIter_rangeiter st h
end L2

namespace L2
open PySem PySem.Spec PyProof.Rows
section
variable {X : Cx} {tg : Expr}
noncomputable def iList (K : PySem.W.Frag) (tl : TE) : TI := fun σ H R => tl σ H fun x H1 => ∃ a, x = .ref a ∧ (∃ xs, SqL K H1 a xs) ∧ R (Itl K a) H1
theorem pi_list {l : Expr} {tl : TE} (hl : PE X l tl) : PI X tg l (iList X.K tl) := by
  intro pins s σ H R I h
  refine thn (hl pins s σ H _ I h) fun v s1 hw' => ?_
  obtain ⟨x, H1, I1, r1, q1⟩ := hw'
  obtain ⟨a, e, ⟨xs, hq⟩, q⟩ := q1
  subst e
  cases r1
  obtain ⟨its, rv, p, hz⟩ := I1.list hq
  refine wpAny_pyIter_list p.isList ?_
  refine ⟨s1.heap.objs.size, [s1.heap.objs.size], _, _, H1, rfl, I1.kept (t' := s1.toks) fun b o e => Heap.get?_push_of_some _ e, turn_list a _, ⟨_, Heap.get?_push_size _ rfl, rfl, rfl⟩, fun b hb => ?_, q⟩
  have e : b = s1.heap.objs.size := by simpa using hb
  subst e
  exact I1.fpOk (Nat.le_refl _) (I1.hok.fresh (Nat.le_refl _))
/-- a range object just made, walked -/
theorem range_it {pins : List (Addr × Obj)} {σ : St} {H : Hp} {s : Shared} {R : It → Hp → Prop} {E : Value → Shared → Prop} {lo hi : Int} {t u v : Tok} {tk : Nat} (I : Inv X pins σ H s) (h1 : -(2 ^ 62) ≤ lo) (h2 : lo < 2 ^ 62) (h3 : -(2 ^ 62) ≤ hi) (h4 : hi < 2 ^ 62)
    (q : R (Itr lo (hi - lo).toNat) H) : wpAny (model X.prog X.w) X.A (pyIter (.ref s.heap.objs.size)) (PIE X pins σ tg R) E { s with heap := s.heap.push { cls := .type "range", data := .fields #[.int lo t, .int hi u, .int 1 v] }, toks := tk } := by
  refine wpAny_pyIter_range (IsRange.new ..) (small_one h1 h2 h3 h4) ?_
  have I1 : Inv X pins σ H { s with heap := s.heap.push { cls := .type "range", data := .fields #[.int lo t, .int hi u, .int 1 v] }, toks := tk } := I.kept fun b o e => Heap.get?_push_of_some _ e
  refine ⟨(s.heap.push { cls := .type "range", data := .fields #[.int lo t, .int hi u, .int 1 v] }).objs.size, [(s.heap.push { cls := .type "range", data := .fields #[.int lo t, .int hi u, .int 1 v] }).objs.size], _, _, H, rfl,
    I1.kept (t' := tk) fun b o e => Heap.get?_push_of_some _ e, turn_range _ lo (hi - lo).toNat, ?_, fun b hb => ?_, q⟩
  · have e1 : lo + ((0 : Nat) : Int) * 1 = lo := by simp
    have e2 : (((hi - lo).toNat : Nat) : Int) - ((0 : Nat) : Int) = Builtin.Range.rangeSize lo hi 1 := by rw [rangeSize_one]; split <;> omega
    show IsRangeIter _ _ (lo + ((0 : Nat) : Int) * 1) ((((hi - lo).toNat : Nat) : Int) - ((0 : Nat) : Int)) 1
    rw [e1, e2]
    exact Heap.get?_push_size _ rfl
  · have e : b = (s.heap.push { cls := .type "range", data := .fields #[.int lo t, .int hi u, .int 1 v] }).objs.size := by simpa using hb
    subst e
    exact I1.fpOk (Nat.le_refl _) (I1.hok.fresh (Nat.le_refl _))
noncomputable def iRng1 (ta : TA) : TI := fun σ H R => ta σ H fun vs H1 => ∃ j : Int, vs = [.int j] ∧ -(2 ^ 62) ≤ j ∧ j < 2 ^ 62 ∧ R (Itr 0 j.toNat) H1
noncomputable def iRng2 (ta : TA) : TI := fun σ H R => ta σ H fun vs H1 => ∃ i j : Int, vs = [.int i, .int j] ∧ (-(2 ^ 62) ≤ i ∧ i < 2 ^ 62 ∧ -(2 ^ 62) ≤ j ∧ j < 2 ^ 62) ∧ R (Itr i (j - i).toNat) H1
theorem pi_range1 {a : Expr} {ta : TA} {p pos : Pos} (hg : Gl X "range") (hm : X.mg "range" = none) (ha : PA X [a] ta) (hs : starEach [a] X.env = [(false, eval a X.env)] := by rfl) : PI X tg (.Call (.Name "range" p) [a] [] pos) (iRng1 ta) := by
  intro pins s σ H R I h
  refine Call_ (ld_blt I hg hm boot_range (PyProof.Rows.callWith_type1 (thn (ha pos pins s σ H _ I h) fun us s1 hw' => ?_) hs rfl))
  obtain ⟨vs, H1, I1, r1, q1⟩ := hw'
  obtain ⟨j, e, q1, q2, q⟩ := q1
  subst e
  cases r1 with
  | cons r rr =>
    cases rr
    obtain ⟨t, rfl⟩ := r
    exact call_range_1 (range_it I1 (by omega) (by omega) q1 q2 (by simpa using q))
theorem pi_range2 {a b : Expr} {ta : TA} {p pos : Pos} (hg : Gl X "range") (hm : X.mg "range" = none) (ha : PA X [a, b] ta) (hs : starEach [a, b] X.env = [(false, eval a X.env), (false, eval b X.env)] := by rfl) (hs2 : starEach [b] X.env = [(false, eval b X.env)] := by rfl) :
    PI X tg (.Call (.Name "range" p) [a, b] [] pos) (iRng2 ta) := by
  intro pins s σ H R I h
  refine Call_ (ld_blt I hg hm boot_range (PyProof.Rows.callWith_type1 (thn (ha pos pins s σ H _ I h) fun us s1 ⟨vs, H1, I1, r1, q1⟩ => ?_) (by rw [hs, hs2]) (by rw [hs2]; rfl)))
  obtain ⟨i, j, e, ⟨q1, q2, q3, q4⟩, q⟩ := q1
  subst e
  cases r1 with
  | cons r rr =>
    cases rr with
    | cons r' rr =>
      cases rr
      obtain ⟨t, rfl⟩ := r
      obtain ⟨t', rfl⟩ := r'
      exact call_range_2 (range_it I1 q1 q2 q3 q4 q)

/-! ### for -/
/-- W: the invariant by the turn and a measure; N: what the body is to reach -/
noncomputable def tFor (wi : TI) (g : TG) (tb : TS) : TS := fun D σ H => wi σ H fun J H1 => ∃ W : Nat → Nat → St → Hp → Prop, (∃ m, W 0 m σ H1) ∧ ∀ i m σ H, W i m σ H →
  (J.stop i H ∧ D.nx σ H) ∨ (J.go i H ∧ ∃ N : St → Hp → Prop, (∀ σ' H', N σ' H' → ∃ m', m' < m ∧ W (i + 1) m' σ' H') ∧ ∀ x H', J.yld i H x H' → g x σ H' fun σ2 H2 => tb { D with nx := N, ct := N, bk := D.nx } σ2 H2)
/-- the records at fp as they stand -/
noncomputable def pinsAt (fp : List Addr) (h : Heap) : List (Addr × Obj) := fp.filterMap fun b => (h.get? b).map fun o => (b, o)
theorem mem_pinsAt {fp : List Addr} {h : Heap} {b : Addr} {o : Obj} (hb : b ∈ fp) (e : h.get? b = some o) : (b, o) ∈ pinsAt fp h := List.mem_filterMap.mpr ⟨b, hb, by rw [e]; rfl⟩
theorem of_pinsAt {fp : List Addr} {h : Heap} {p : Addr × Obj} (hp : p ∈ pinsAt fp h) : p.1 ∈ fp ∧ h.get? p.1 = some p.2 := by
  obtain ⟨b, hb, e⟩ := List.mem_filterMap.mp hp
  cases q : h.get? b with
  | none => rw [q] at e; cases e
  | some o =>
    rw [q] at e
    have e' : (b, o) = p := Option.some.inj e
    subst e'
    exact ⟨hb, q⟩
theorem Inv.pinned {pins : List (Addr × Obj)} {σ : St} {H : Hp} {s : Shared} {fp : List Addr} (I : Inv X pins σ H s) (hf : ∀ b ∈ fp, FpOk X pins H b) (ho : ∀ b ∈ fp, ∃ o, s.heap.get? b = some o ∧ ∀ v, o.data ≠ .cell v) : Inv X (pins ++ pinsAt fp s.heap) σ H s :=
  I.pins_of fun p hp => (List.mem_append.mp hp).elim (fun z => I.pin p (List.mem_append_right _ z)) fun z => by
    obtain ⟨hb, e⟩ := of_pinsAt z
    obtain ⟨f0, f1, f2, _⟩ := hf p.1 hb
    obtain ⟨o, e', d⟩ := ho p.1 hb
    rw [e] at e'; cases e'
    exact ⟨e, f0, f1, f2, d⟩
theorem Inv.unpinned {pins pl : List (Addr × Obj)} {σ : St} {H : Hp} {s : Shared} (I : Inv X (pins ++ pl) σ H s) : Inv X pins σ H s := I.pins_of fun p hp => I.pin p (List.mem_append_right _ (List.mem_append_left _ hp))
theorem ps_for {iter : Expr} {body : List Stmt} {wi : TI} {g : TG} {tb : TS} {pos : Pos} (hp : PassesOwn (model X.prog X.w) X.A X.env X.xe) (hc : X.calm = true) (hi : PI X tg iter wi) (hg : PG X tg g) (hb : PSs X body tb)
    (hs : ∀ x, foldedSetIterable iter X.env x = pure x := by intro _; rfl) : PS X (.For tg iter body [] pos) (tFor wi g tb) := by
  intro pins s σ H D I h
  refine wpAny_For (thn (hi pins s σ H _ I h) fun v s1 h1 => thn h1 fun itv s2 h2 => ?_) hs
  obtain ⟨it, fp, tn, J, H2, e, I2, T, st2, f2, W, ⟨m0, w0⟩, turn⟩ := h2
  subst e
  -- what stays true of the iterator's objects through the loop
  have stat : ∀ {H' : Hp}, (∀ b ∈ fp, H' b = none) → ∀ b ∈ fp, FpOk X pins H' b := fun hn b hb => ⟨hn b hb, (f2 b hb).2⟩
  refine codeAny_forLoop_any (fun n s' => ∃ i σ' H', Inv X pins σ' H' s' ∧ tn i s'.heap ∧ (∀ b ∈ fp, H' b = none) ∧ W i n σ' H') ?_ m0 ⟨0, σ, H2, I2, st2, fun b hb => (f2 b hb).1, w0⟩
  rintro n s3 ⟨i, σ3, H3, I3, st3, fr3, w3⟩
  rcases turn i n σ3 H3 w3 with ⟨stop, qn⟩ | ⟨go, N, hN, step⟩
  · refine wpAny_passesOwn hp (thn (T.done X rfl rfl rfl hc i pins s3 σ3 H3 X.xe I3 (stat fr3) st3 stop) fun r s4 ⟨hr, I4⟩ => ?_)
    subst hr
    exact wpAny_execs_nil ⟨σ3, H3, I4, qn⟩
  · refine wpAny_passesOwn hp (thn (T.item X rfl rfl rfl hc i pins s3 σ3 H3 X.xe I3 (stat fr3) st3 go) fun r s4 ⟨u, hr, h4⟩ => ?_)
    subst hr
    refine wpAny_passesOwn hp (thn h4 fun _ s5 hw' => ?_)
    obtain ⟨x, H5, I5, r5, y5, st5, fr5⟩ := hw'
    have I5' := I5.pinned (stat fr5) (T.obj _ _ st5)
    refine wpAny_passesOwn hp (thn (hg _ s5 σ3 H5 x u _ I5' r5 (step x H5 y5)) fun _ s6 hw' => ?_)
    obtain ⟨σ6, H6, I6, q6⟩ := hw'
    refine wpAny_passesOwn hp (thn (hb _ s6 σ6 H6 _ I6 q6) fun f s7 q7 => ?_)
    have again : ∀ {σ7 : St} {H7 : Hp}, Inv X (pins ++ pinsAt fp s5.heap) σ7 H7 s7 → N σ7 H7 → ∃ m, m < n ∧ ∃ i σ' H', Inv X pins σ' H' s7 ∧ tn i s7.heap ∧ (∀ b ∈ fp, H' b = none) ∧ W i m σ' H' := fun {σ7 H7} I7 n7 => by
      obtain ⟨m', hm, w7⟩ := hN σ7 H7 n7
      refine ⟨m', hm, i + 1, σ7, H7, I7.unpinned, T.keep _ _ _ st5 fun b hb o e => (I7.pin (b, o) (List.mem_append_right _ (List.mem_append_right _ (mem_pinsAt hb e)))).1, fun b hb => ?_, w7⟩
      obtain ⟨o, e, d⟩ := T.obj _ _ st5 b hb
      exact (I7.pin (b, o) (List.mem_append_right _ (List.mem_append_right _ (mem_pinsAt hb e)))).2.1
    cases f with
    | next => obtain ⟨σ7, H7, I7, n7⟩ := q7; exact again I7 n7
    | cont => obtain ⟨σ7, H7, I7, n7⟩ := q7; exact again I7 n7
    | brk => obtain ⟨σ7, H7, I7, q7⟩ := q7; exact ⟨σ7, H7, I7.unpinned, q7⟩
    | ret v => obtain ⟨x7, σ7, H7, I7, r7, q7⟩ := q7; exact ⟨x7, σ7, H7, I7.unpinned, r7, q7⟩
end

end L2

namespace L2
open PySem PySem.Spec PyProof.Rows

noncomputable abbrev R2 := V → V → Hp → VK → Prop
/-- a two-place operation on values: f is binaryOp op, inplaceOp op or compareOp op -/
noncomputable def OpR (X : Cx) (f : Value → Value → Sem Value) (r : R2) : Prop :=
  ∀ (pins : List (Addr × Obj)) (s : Shared) (σ : St) (H : Hp) (x y : V) (v u : Value) (Q : VK), Inv X pins σ H s → RelV x v → RelV y u → r x y H Q →
    wpAny (model X.prog X.w) X.A (f v u) (EP X pins σ Q) X.xe s
/-- a one-place operation -/
noncomputable def UnR (X : Cx) (f : Value → Sem Value) (r : V → Hp → VK → Prop) : Prop :=
  ∀ (pins : List (Addr × Obj)) (s : Shared) (σ : St) (H : Hp) (x : V) (v : Value) (Q : VK), Inv X pins σ H s → RelV x v → r x H Q →
    wpAny (model X.prog X.w) X.A (f v) (EP X pins σ Q) X.xe s
/-- a call of a value that is known (a builtin, a type) with values -/
noncomputable def CallR (X : Cx) (f : Value) (r : List V → Hp → VK → Prop) : Prop :=
  ∀ (pins : List (Addr × Obj)) (s : Shared) (σ : St) (H : Hp) (xs : List V) (us : List Value) (Q : VK), Inv X pins σ H s → Vals xs us → r xs H Q →
    wpAny (model X.prog X.w) X.A (call f us) (EP X pins σ Q) X.xe s
noncomputable def tOp (r : R2) (ta tb : TE) : TE := fun σ H Q => ta σ H fun x H1 => tb σ H1 fun y H2 => r x y H2 Q
noncomputable def tUn (r : V → Hp → VK → Prop) (ta : TE) : TE := fun σ H Q => ta σ H fun x H1 => r x H1 Q
/-- ints in, under C, and a value out -/
noncomputable def rI (C : Int → Int → Prop) (g : Int → Int → V) : R2 := fun x y H Q => ∃ i j, x = .int i ∧ y = .int j ∧ C i j ∧ Q (g i j) H
noncomputable def rI0 (g : Int → Int → V) : R2 := fun x y H Q => ∃ i j, x = .int i ∧ y = .int j ∧ Q (g i j) H
noncomputable def rU (g : Int → V) : V → Hp → VK → Prop := fun x H Q => ∃ i, x = .int i ∧ Q (g i) H

section
variable {X : Cx} {a b c : Expr} {ta tb tc : TE} {pos : Pos}

theorem binT (ha : PE X a ta) (hb : PE X b tb) {pins : List (Addr × Obj)} {s : Shared} {σ : St} {H : Hp} {R : V → V → Hp → Prop} (I : Inv X pins σ H s)
    (h : ta σ H fun x H1 => tb σ H1 fun y H2 => R x y H2) {Q : Value → Shared → Prop} {f : Value → Value → Sem Value}
    (hf : ∀ v u s2 x y H2, Inv X pins σ H2 s2 → RelV x v → RelV y u → R x y H2 → wpAny (model X.prog X.w) X.A (f v u) Q X.xe s2) :
    wpAny (model X.prog X.w) X.A (eval a X.env) (fun v s₁ => wpAny (model X.prog X.w) X.A (eval b X.env) (fun u s₂ => wpAny (model X.prog X.w) X.A (f v u) Q X.xe s₂) X.xe s₁) X.xe s := by
  refine thn (ha pins s σ H _ I h) fun v s1 hw' => ?_
  obtain ⟨x, H1, I1, r1, q1⟩ := hw'
  refine thn (hb pins s1 σ H1 _ I1 q1) fun u s2 hw' => ?_
  obtain ⟨y, H2, I2, r2, q2⟩ := hw'
  exact hf v u s2 x y H2 I2 r1 r2 q2

theorem pe_op {op : Operator} {r : R2} (ho : OpR X (binaryOp op) r) (ha : PE X a ta) (hb : PE X b tb) : PE X (.BinOp a op b pos) (tOp r ta tb) := by
  intro pins s σ H Q I h
  exact wpAny_BinOp (binT ha hb I h fun v u s2 x y H2 I2 rx ry q => ho pins s2 σ H2 x y v u Q I2 rx ry q)
theorem pe_un {op : UnaryOp} {r : V → Hp → VK → Prop} (ho : UnR X (unaryOp op) r) (ha : PE X a ta) : PE X (.UnaryOp op a pos) (tUn r ta) := by
  intro pins s σ H Q I h
  exact UnaryOp_ (thn (ha pins s σ H _ I h) fun v s1 ⟨x, H1, I1, r1, q1⟩ => ho pins s1 σ H1 x v Q I1 r1 q1)
/-! ### ints -/
theorem opI {f : Value → Value → Sem Value} {C : Int → Int → Prop} {g : Int → Int → Int}
    (rule : ∀ (i j : Int) (t u : Tok) (s : Shared) (Q : Value → Shared → Prop) (E : Value → Shared → Prop), C i j → Q (.int (g i j) s.toks) { s with toks := s.toks + 1 } → wpAny (model X.prog X.w) X.A (f (.int i t) (.int j u)) Q E s) :
    OpR X f (rI C fun i j => .int (g i j)) := by
  intro pins s σ H x y v u Q I rx ry h
  obtain ⟨i, j, rfl, rfl, hc, q⟩ := h
  obtain ⟨t, rfl⟩ := rx
  obtain ⟨t', rfl⟩ := ry
  exact rule i j t t' s _ _ hc ⟨.int (g i j), H, I.tok _, ⟨_, rfl⟩, q⟩
theorem opI0 {f : Value → Value → Sem Value} {g : Int → Int → Int}
    (rule : ∀ (i j : Int) (t u : Tok) (s : Shared) (Q : Value → Shared → Prop) (E : Value → Shared → Prop), Q (.int (g i j) s.toks) { s with toks := s.toks + 1 } → wpAny (model X.prog X.w) X.A (f (.int i t) (.int j u)) Q E s) :
    OpR X f (rI0 fun i j => .int (g i j)) := by
  intro pins s σ H x y v u Q I rx ry h
  obtain ⟨i, j, rfl, rfl, q⟩ := h
  obtain ⟨t, rfl⟩ := rx
  obtain ⟨t', rfl⟩ := ry
  exact rule i j t t' s _ _ ⟨.int (g i j), H, I.tok _, ⟨_, rfl⟩, q⟩
theorem opB0 {f : Value → Value → Sem Value} {g : Int → Int → Bool}
    (rule : ∀ (i j : Int) (t u : Tok) (s : Shared) (Q : Value → Shared → Prop) (E : Value → Shared → Prop), Q (.bool (g i j)) s → wpAny (model X.prog X.w) X.A (f (.int i t) (.int j u)) Q E s) :
    OpR X f (rI0 fun i j => .bl (g i j)) := by
  intro pins s σ H x y v u Q I rx ry h
  obtain ⟨i, j, rfl, rfl, q⟩ := h
  obtain ⟨t, rfl⟩ := rx
  obtain ⟨t', rfl⟩ := ry
  exact rule i j t t' s _ _ ⟨.bl (g i j), H, I, rfl, q⟩

noncomputable def CDiv (i j : Int) : Prop := 0 < j ∧ j < 1073741824
noncomputable def CMul (i j : Int) : Prop := (-(2 ^ 64) < i ∧ i < 2 ^ 64) ∨ (-(2 ^ 64) < j ∧ j < 2 ^ 64)
theorem CMul.ok {i j : Int} (h : CMul i j) : IntMulOk i j := by
  rcases h with ⟨h1, h2⟩ | ⟨h1, h2⟩
  · exact .of_left (intBits_le_64 h1 h2)
  · exact .of_right (intBits_le_64 h1 h2)
theorem op_add : OpR X (binaryOp .Add) (rI0 fun i j => .int (i + j)) := opI0 fun _ _ _ _ _ _ _ q => add_int q
theorem op_sub : OpR X (binaryOp .Sub) (rI0 fun i j => .int (i - j)) := opI0 fun _ _ _ _ _ _ _ q => sub_int q
theorem op_mul : OpR X (binaryOp .Mult) (rI CMul fun i j => .int (i * j)) := opI fun _ _ _ _ _ _ _ hc q => mul_int q hc.ok
/-- // by a positive divisor -/
theorem op_fdiv : OpR X (binaryOp .FloorDiv) (rI CDiv fun i j => .int (i / j)) := opI fun i j _ _ _ _ _ hc q => by
  have h1 : (0 : Int) < j := hc.1
  have h2 : j < 1073741824 := hc.2
  exact floordiv_int (by omega) (by rw [Int.fdiv_eq_ediv_of_nonneg i (by omega)]; exact q) (.inl (PyProof.noPylong_small (by omega)))
/-- % by a positive divisor of any size -/
theorem op_mod : OpR X (binaryOp .Mod) (rI (fun _ j => 0 < j) fun i j => .int (i % j)) := opI fun i j _ _ _ _ _ hc q => by
  have h1 : (0 : Int) < j := hc
  exact mod_int' (by omega) (by rw [Int.fmod_eq_emod_of_nonneg i (by omega)]; exact q)
theorem unI {f : Value → Sem Value} {g : Int → Int}
    (rule : ∀ (i : Int) (t : Tok) (s : Shared) (Q : Value → Shared → Prop) (E : Value → Shared → Prop), Q (.int (g i) s.toks) { s with toks := s.toks + 1 } → wpAny (model X.prog X.w) X.A (f (.int i t)) Q E s) :
    UnR X f (rU fun i => .int (g i)) := by
  intro pins s σ H x v Q I rx h
  obtain ⟨i, rfl, q⟩ := h
  obtain ⟨t, rfl⟩ := rx
  exact rule i t s _ _ ⟨.int (g i), H, I.tok _, ⟨_, rfl⟩, q⟩
theorem un_neg : UnR X (unaryOp .USub) (rU fun i => .int (-i)) := unI fun _ _ _ _ _ q => neg_int q
end

section
variable {X : Cx} {a b c : Expr} {ta tb tc : TE} {pos : Pos}
theorem fin_bl {pins : List (Addr × Obj)} {σ : St} {H : Hp} {s : Shared} {Q : VK} {k k' : Bool} (I : Inv X pins σ H s) (q : Q (.bl k) H) (e : k = k') : EP X pins σ Q (.bool k') s := by
  subst e
  exact ⟨.bl k, H, I, rfl, q⟩
theorem op_lt : OpR X (compareOp .Lt) (rI0 fun i j => .bl (decide (i < j))) := opB0 fun _ _ _ _ _ _ _ q => lt_int q
theorem op_gt : OpR X (compareOp .Gt) (rI0 fun i j => .bl (decide (j < i))) := opB0 fun _ _ _ _ _ _ _ q => gt_int q
/-- is None, is not None: the right side a value none -/
theorem op_isN : OpR X (compareOp .Is) (fun x y H Q => y = .non ∧ Q (.bl (decide (x = .non))) H) := by
  intro pins s σ H x y v u Q I rx ry h
  obtain ⟨rfl, q⟩ := h
  cases ry
  refine is_none_gen (fin_bl I q ?_)
  cases x <;> first
    | (cases rx; rfl)
    | (obtain ⟨t, rfl⟩ := rx; rfl)
theorem op_notN : OpR X (compareOp .IsNot) (fun x y H Q => y = .non ∧ Q (.bl (!decide (x = .non))) H) := by
  intro pins s σ H x y v u Q I rx ry h
  obtain ⟨rfl, q⟩ := h
  cases ry
  refine isnot_none_gen (fin_bl I q ?_)
  cases x <;> first
    | (cases rx; rfl)
    | (obtain ⟨t, rfl⟩ := rx; rfl)

theorem nomark (b : Expr) {op : CmpOp} (h : op ≠ .In := by decide) (h2 : op ≠ .NotIn := by decide) : behindInMarks op b = false := by
  have e1 : (op == CmpOp.In) = false := by cases op <;> first | rfl | exact absurd rfl h
  have e2 : (op == CmpOp.NotIn) = false := by cases op <;> first | rfl | exact absurd rfl h2
  cases b <;> simp [behindInMarks, e1, e2]
/-- a comparison as a value; hm: nomark b, or (for in, not in) by with_unfolding_all rfl -/
theorem pe_cmpR {op : CmpOp} {r : R2} (ho : OpR X (compareOp op) r) (ha : PE X a ta) (hb : PE X b tb) (hm : behindInMarks op b = false) : PE X (.Compare a [op] [b] pos) (tOp r ta tb) := by
  intro pins s σ H Q I h
  exact wpAny_Compare1 (binT ha hb I h fun v u s2 x y H2 I2 rx ry q => ho pins s2 σ H2 x y v u Q I2 rx ry q) hm
/-- a reading of a value as a test -/
noncomputable def tTest (t : TE) : TT := fun σ H Q => t σ H fun x H' => ∃ k, x = .bl k ∧ Q k H'
theorem pt_cmpR {op : CmpOp} {r : R2} (ho : OpR X (compareOp op) r) (ha : PE X a ta) (hb : PE X b tb) (hm : behindInMarks op b = false) : PT X (.Compare a [op] [b] pos) (tTest (tOp r ta tb)) := by
  intro pins s σ H Q I h
  refine wpAny_isTrue_Compare1 (thn (ha pins s σ H _ I h) fun v s1 ⟨x, H1, I1, r1, q1⟩ => thn (hb pins s1 σ H1 _ I1 q1) fun u s2 ⟨y, H2, I2, r2, q2⟩ =>
    thn (ho pins s2 σ H2 x y v u _ I2 r1 r2 q2) fun c s3 hw' => ?_) hm
  obtain ⟨z, H3, I3, r3, k, e, q3⟩ := hw'
  subst e
  cases r3
  exact wpAny_truthy_bool ⟨H3, I3, q3⟩
theorem line63 : (sizeLine : Nat) < 2 ^ 63 := by rw [sizeLine_eq]; decide
theorem op_add_str : OpR X (binaryOp .Add) (fun x y H Q => ∃ i j, x = .str i ∧ y = .str j ∧ i.length + j.length ≤ sizeLine ∧ Q (.str (i ++ j)) H) := by
  intro pins s σ H x y v u Q I rx ry h
  obtain ⟨i, j, rfl, rfl, hz, q⟩ := h
  obtain ⟨t, rfl⟩ := rx
  obtain ⟨t', rfl⟩ := ry
  exact add_str (fun t' tk => ⟨.str (i ++ j), H, I.tok _, ⟨_, rfl⟩, q⟩) hz
/-! ### scalar builtins, by CallR -/
theorem vals1 {x : V} {us : List Value} (r : Vals [x] us) : ∃ u, us = [u] ∧ RelV x u := by
  cases r with
  | cons r1 r2 => cases r2; exact ⟨_, rfl, r1⟩
theorem vals2 {x y : V} {us : List Value} (r : Vals [x, y] us) : ∃ u w', us = [u, w'] ∧ RelV x u ∧ RelV y w' := by
  cases r with
  | cons r1 r2 =>
    cases r2 with
    | cons r3 r4 => cases r4; exact ⟨_, _, rfl, r1, r3⟩
theorem call_max2 (hc : X.calm = true) : CallR X (.builtin "max") (fun xs H Q => ∃ i j, xs = [.int i, .int j] ∧ Q (.int (if j > i then j else i)) H) := by
  intro pins s σ H xs us Q I r h
  obtain ⟨i, j, rfl, q⟩ := h
  obtain ⟨u, w', rfl, ⟨t, rfl⟩, ⟨t', rfl⟩⟩ := vals2 r
  refine max_two_ints (I.ok.hd hc) fun h' tk k => ⟨_, H, I.kept k, ?_, q⟩
  by_cases hj : j > i
  · rw [if_pos hj, if_pos hj]; exact ⟨_, rfl⟩
  · rw [if_neg hj, if_neg hj]; exact ⟨_, rfl⟩
theorem call_min2 (hc : X.calm = true) : CallR X (.builtin "min") (fun xs H Q => ∃ i j, xs = [.int i, .int j] ∧ Q (.int (if j < i then j else i)) H) := by
  intro pins s σ H xs us Q I r h
  obtain ⟨i, j, rfl, q⟩ := h
  obtain ⟨u, w', rfl, ⟨t, rfl⟩, ⟨t', rfl⟩⟩ := vals2 r
  refine min_two_ints (I.ok.hd hc) fun h' tk k => ⟨_, H, I.kept k, ?_, q⟩
  by_cases hj : j < i
  · rw [if_pos hj, if_pos hj]; exact ⟨_, rfl⟩
  · rw [if_neg hj, if_neg hj]; exact ⟨_, rfl⟩
/-- len of a str, a bytes, a list, a tuple -/
noncomputable def LenV (K : PySem.W.Frag) (x : V) (H : Hp) (n : Nat) : Prop :=
  match x with
  | .str y => y.length ≤ sizeLine ∧ n = y.length
  | .byt y => y.size ≤ sizeLine ∧ n = y.size
  | .ref p => (∃ xs, SqL K H p xs ∧ n = xs.length) ∨ ∃ xs, SqT K H p xs ∧ n = xs.length
  | _ => False
theorem call_len : CallR X (.builtin "len") (fun xs H Q => ∃ x n, xs = [x] ∧ LenV X.K x H n ∧ Q (.int n) H) := by
  intro pins s σ H xs us Q I r h
  obtain ⟨x, n, rfl, e, q⟩ := h
  obtain ⟨u, rfl, rx⟩ := vals1 r
  have hl := line63
  have hs : sizeLine = 16777216 := sizeLine_eq
  cases x with
  | str y =>
    obtain ⟨t, rfl⟩ := rx
    obtain ⟨hy, e'⟩ : y.length ≤ sizeLine ∧ n = y.length := e
    subst e'
    exact len_str (by omega) ⟨.int _, H, I.tok _, ⟨_, rfl⟩, q⟩
  | byt y =>
    obtain ⟨t, rfl⟩ := rx
    obtain ⟨hy, e'⟩ : y.size ≤ sizeLine ∧ n = y.size := e
    subst e'
    exact PySem.W.len_bytes (by omega) ⟨.int _, H, I.tok _, ⟨_, rfl⟩, q⟩
  | ref p =>
    cases rx
    have e' : (∃ xs, SqL X.K H p xs ∧ n = xs.length) ∨ ∃ xs, SqT X.K H p xs ∧ n = xs.length := e
    rcases e' with ⟨xs, hx, e'⟩ | ⟨xs, hx, e'⟩
    · subst e'
      obtain ⟨its, r', pl, hz⟩ := I.list hx
      have hlen := r'.length
      exact Calls.call_len_list pl.isList (by simp only [List.size_toArray]; omega) ⟨.int xs.length, H, I.tok _, ⟨_, by simp only [List.size_toArray]; rw [hlen]⟩, q⟩
    · subst e'
      obtain ⟨its, r', pl, hz⟩ := I.tuple hx
      have hlen := r'.length
      exact len_tuple pl (by simp only [List.size_toArray]; omega) ⟨.int xs.length, H, I.tok _, ⟨_, by simp only [List.size_toArray]; rw [hlen]⟩, q⟩
  | _ => exact (show False from e).elim
end
end L2

namespace L2
open PySem PySem.Spec PyProof.Rows

/-! ### an instance, its attributes a map -/
structure ObjM (h : Heap) (x dx C : Addr) (mA : Str → Option Value) : Prop where
  obj : h.get? x = some (PySem.W.instObj C dx)
  ns : h.Ns1 dx mA
  ne : dx ≠ x

theorem lookIn_ns {h : Heap} {dx : Addr} {mA : Str → Option Value} (n : h.Ns1 dx mA) : ∃ od, h.get? dx = some od ∧ ∀ name, PySem.W.lookIn name od = some (mA name) := by
  obtain ⟨o, es, ep, ho, hd, hk, _, hm⟩ := n
  refine ⟨o, ho, fun name => ?_⟩
  have e := hm name
  unfold nsFind findBy at e
  rw [← Array.find?_toList] at e
  unfold PySem.W.lookIn
  rw [hd]
  dsimp only
  split
  · rename_i y q
    rw [q] at e
    exact congrArg some e
  · rename_i q
    rw [q] at e
    have a : es.toList.any (·.refKey) = false := by
      rw [List.any_eq_false]
      intro y hy
      obtain ⟨z, t, hkey⟩ := hk y (Array.mem_toList_iff.mp hy)
      simp [DictEntry.refKey, hkey]
    have a' : ¬ es.toList.any (·.refKey) = true := by rw [a]; exact Bool.false_ne_true
    rw [if_neg a']
    exact congrArg some e

theorem ObjM.look {h : Heap} {x dx C : Addr} {mA : Str → Option Value} (I : ObjM h x dx C mA) : ∃ od, PySem.W.InstAt h x (PySem.W.instObj C dx) C (some od) ∧ ∀ name, PySem.W.lookIn name od = some (mA name) :=
  let ⟨od, ho, hl⟩ := lookIn_ns I.ns
  ⟨od, ⟨I.obj, rfl, rfl, ho⟩, hl⟩

section
variable {prog : Program} {w : World} {A : Around} {E : Value → Shared → Prop} {s : Shared} {K : PySem.W.Frag} {x dx C f : Addr} {mA : Str → Option Value} {name : Str} {v : Value}

theorem get_map {expr : Bool} {Q : Value → Shared → Prop} (X : K.In s.heap) (I : ObjM s.heap x dx C mA) (hg : PySem.W.plainGet K C name = true) (hh : PySem.W.hasDictIn K C = true)
    (ha : PySem.W.findIn K (.ref C) name = some none) (hv : mA name = some v) (hv' : PySem.W.handedIn v = true) (h : Q v { s with toks := s.toks + 1 }) :
    wpAny (model prog w) A (getAttr (.ref x) name expr) Q E s := by
  obtain ⟨od, J, hl⟩ := I.look
  exact PySem.W.get_value X J (PySem.W.plainGet_of hg).1 (PySem.W.findObj_own hh ha rfl (by rw [hl, hv])) hv' h

theorem get_meth {pl : Sem Bool} {Q : Value × List Value → Shared → Prop} (X : K.In s.heap) (I : ObjM s.heap x dx C mA) (hg : PySem.W.plainGet K C name = true)
    (hf : PySem.W.findIn K (.ref C) name = some (some (.ref f))) (ht : PySem.W.isFn K (.ref f) = true) (hv : mA name = none) (h : Q (.ref f, [.ref x]) s) :
    wpAny (model prog w) A (getMethod (.ref x) name pl) Q E s := by
  obtain ⟨od, J, hl⟩ := I.look
  exact PySem.W.method_fn X J (PySem.W.plainGet_of hg).1 (PySem.W.plainGet_of hg).2 hf (beq_iff_eq.mp ht) (by show (PySem.W.lookIn name od).map (·.isSome) = some false; rw [hl, hv]; rfl) h

theorem set_map {ns : List Str} {Q : Unit → Shared → Prop} (X : K.In s.heap) (I : ObjM s.heap x dx C mA)
    (hs : PySem.W.findIn K (.ref C) "__setattr__" = some (some (.builtin "object.__setattr__"))) (hp : PySem.W.plainOver K C = true) (ht : PySem.W.takerIn K C name = some none) (hh : PySem.W.hasDictIn K C = true)
    (hw : PySem.Within mA ns) (hsz : ns.length ≤ sizeLine)
    (h : ∀ h', ObjM h' x dx C (fun y => if y = name then some v else mA y) → Heap.SameBut dx s.heap h' → Q () { s with heap := h', toks := s.toks + 2 }) :
    wpAny (model prog w) A (setAttr (.ref x) name v) Q E s := by
  obtain ⟨od, J, hl⟩ := I.look
  refine PySem.W.set_plain X J hs (PySem.W.osa_open (s := { s with toks := s.toks + 1 }) (r := none) X J hp ht fun b => ?_)
  obtain ⟨cd, hc, hd'⟩ := PySem.W.any_some hh
  have hx : s.heap.get? x = some ⟨.ref C, some dx, .plain, #[]⟩ := I.obj
  refine wpAny_bind (wpAny_pure (wpAny_bind (wpAny_bind (wpAny_loadPart hx (wpAny_bind (PySem.W.Looks.here (s := { s with toks := s.toks + 1 }) (PySem.W.looks_clsIn X hc) ?_))))))
  rw [hd']
  refine wpAny_pure (a := some dx) (wpAny_bind (wpAny_pure (wpAny_bind ?_)))
  refine wpAny_nsSet1 (s := { s with toks := s.toks + 1 }) I.ns fun h' hn2 hs2 => ?_
  obtain ⟨oD, esD, epD, hoD, hdD, hcD⟩ := hn2.count (PySem.Within.cons name v hw)
  refine wpAny_bind (wpAny_lookBehind hoD (by rw [hdD]; exact pastItsLine_dict (Nat.le_trans hcD (by rw [List.length_cons]; omega))) ?_)
  exact wpAny_pure (h _ ⟨(hs2.2 _ (Ne.symm I.ne)).trans I.obj, hn2, I.ne⟩ hs2)

/-- C(..): the dict at the heap's end, the instance behind it; then its __init__ -/
theorem make_map {R : Result → Shared → Prop} {vs : List Value} {kw : List (Str × Value)} (X : K.In s.heap) (hm : PySem.W.makesIn K C = true)
    (hi : PySem.W.findIn K (.ref C) "__init__" = some (some (.ref f))) (hf : PySem.W.typeIn K (.ref f) = some (.type "function"))
    (h : codeAny (model prog w) (A.under (.builtin "type.__call__" ⟨.ref C :: vs, kw⟩)) (.call (.ref f) ⟨.ref (s.heap.objs.size + 1) :: vs, kw⟩) (PySem.W.InitBack (s.heap.objs.size + 1) R)
      { s with heap := (s.heap.push PySem.W.emptyDict).push (PySem.W.instObj C s.heap.objs.size) }) :
    codeAny (model prog w) A (.call (.ref C) ⟨vs, kw⟩) R s := by
  obtain ⟨hh, g, d, t, os⟩ := s
  exact PySem.W.make_core (PySem.W.makes_of X hm) (PySem.W.looks_findIn X hi) (fun self => PySem.W.bind_fn X self hf) (.inl rfl) h
end

/-! ### the attributes as a list of pairs -/
noncomputable def putF (f : Str) (v : V) : List (Str × V) → List (Str × V)
  | [] => [(f, v)]
  | (g, x) :: r => if g = f then (g, v) :: r else (g, x) :: putF f v r
theorem lookup_putF (f g : Str) (v : V) : ∀ fs : List (Str × V), (putF f v fs).lookup g = if g = f then some v else fs.lookup g
  | [] => by
    show List.lookup g [(f, v)] = _
    by_cases h : g = f
    · have hb : (g == f) = true := beq_iff_eq.mpr h
      simp only [List.lookup, hb, if_pos h]
    · have hb : (g == f) = false := beq_eq_false_iff_ne.mpr h
      simp only [List.lookup, hb, if_neg h]
  | (k, x) :: r => by
    have ih := lookup_putF f g v r
    rw [show putF f v ((k, x) :: r) = (if k = f then (k, v) :: r else (k, x) :: putF f v r) from rfl]
    by_cases hk : k = f
    · rw [if_pos hk]
      by_cases h : g = k
      · have hb : (g == k) = true := beq_iff_eq.mpr h
        simp only [List.lookup, hb, if_pos (h.trans hk)]
      · have hb : (g == k) = false := beq_eq_false_iff_ne.mpr h
        simp only [List.lookup, hb, if_neg (fun e : g = f => h (e.trans hk.symm))]
    · rw [if_neg hk]
      by_cases h : g = k
      · have hb : (g == k) = true := beq_iff_eq.mpr h
        simp only [List.lookup, hb, if_neg (fun e : g = f => hk (h.symm.trans e))]
      · have hb : (g == k) = false := beq_eq_false_iff_ne.mpr h
        simp only [List.lookup, hb]
        exact ih
theorem keys_putF (f : Str) (v : V) : ∀ fs : List (Str × V), f ∈ (putF f v fs).map (·.1) ∧ ∀ g, g ∈ fs.map (·.1) → g ∈ (putF f v fs).map (·.1)
  | [] => ⟨by simp [putF], fun g h => by simp at h⟩
  | (k, x) :: r => by
    obtain ⟨i1, i2⟩ := keys_putF f v r
    rw [show putF f v ((k, x) :: r) = (if k = f then (k, v) :: r else (k, x) :: putF f v r) from rfl]
    by_cases hk : k = f
    · rw [if_pos hk]
      subst hk
      exact ⟨by simp, fun g h => by simpa using h⟩
    · rw [if_neg hk]
      refine ⟨?_, fun g h => ?_⟩
      · rw [List.map_cons]
        exact List.mem_cons_of_mem _ i1
      · rw [List.map_cons] at h ⊢
        rcases List.mem_cons.mp h with e | e
        · exact List.mem_cons.mpr (.inl e)
        · exact List.mem_cons_of_mem _ (i2 g e)
theorem length_putF (f : Str) (v : V) : ∀ fs : List (Str × V), (putF f v fs).length ≤ fs.length + 1
  | [] => by simp [putF]
  | (k, x) :: r => by
    have ih := length_putF f v r
    rw [show putF f v ((k, x) :: r) = (if k = f then (k, v) :: r else (k, x) :: putF f v r) from rfl]
    by_cases hk : k = f
    · rw [if_pos hk, List.length_cons, List.length_cons]; omega
    · rw [if_neg hk, List.length_cons, List.length_cons]; omega

theorem RelO.some_of {v : V} {o : Option Value} (r : RelO (some v) o) : ∃ u, o = some u ∧ RelV v u := by
  cases o with
  | none => exact (show False from r).elim
  | some u => exact ⟨u, rfl, r⟩
theorem RelO.none_of {o : Option Value} (r : RelO none o) : o = none := by
  cases o with
  | none => rfl
  | some u => exact (show False from r).elim
theorem handed_of {v : V} {u : Value} (r : RelV v u) : PySem.W.handedIn u = true := by
  cases v with
  | non => cases (show u = Value.none from r); rfl
  | bl b => cases (show u = Value.bool b from r); rfl
  | int i => obtain ⟨t, e⟩ := (show ∃ t, u = Value.int i t from r); cases e; rfl
  | str x => obtain ⟨t, e⟩ := (show ∃ t, u = Value.str x t from r); cases e; rfl
  | byt b => obtain ⟨t, e⟩ := (show ∃ t, u = Value.bytes b t from r); cases e; rfl
  | flt b => obtain ⟨t, e⟩ := (show ∃ t, u = Value.float b t from r); cases e; rfl
  | ref a => cases (show u = Value.ref a from r); rfl
  | ty n => cases (show u = Value.type n from r); rfl

section
variable {P : Program} {w : World} {H H' : Hp} {h h' : Heap} {a C dx : Addr} {fs fs' : List (Str × V)}
theorem ins_get (hok : HOk P w H h) (e : H a = some (.ins C dx fs)) : ∃ mA, ObjM h a dx C mA ∧ (∀ f, RelO (fs.lookup f) (mA f)) ∧ PySem.Within mA (fs.map (·.1)) ∧ fs.length ≤ 1000 ∧ H dx = some (.own a) := by
  obtain ⟨d, z, ne, ob, mA, n, r, q⟩ := (show ObjOk P w H h a (.ins C dx fs) from hok a _ e)
  exact ⟨mA, ⟨ob, n, ne⟩, r, q, z, d⟩
end

/-! ### what of the text a class must have -/
structure Cls (K : PySem.W.Frag) (C : Addr) : Prop where
  pg : PySem.W.plainGet K C Str.empty = true
  hd : PySem.W.hasDictIn K C = true
  po : PySem.W.plainOver K C = true
  sa : PySem.W.findIn K (.ref C) "__setattr__" = some (some (.builtin "object.__setattr__"))
theorem Cls.get {K : PySem.W.Frag} {C : Addr} (c : Cls K C) (f : Str) : PySem.W.plainGet K C f = true := c.pg
/-- no class of it has the name -/
noncomputable def NoAttr (K : PySem.W.Frag) (C : Addr) (f : Str) : Prop := PySem.W.findIn K (.ref C) f = some none
theorem NoAttr.taker {K : PySem.W.Frag} {C : Addr} {f : Str} (n : NoAttr K C f) : PySem.W.takerIn K C f = some none := by
  unfold PySem.W.takerIn
  rw [show PySem.W.findIn K (.ref C) f = some none from n]
  rfl
/-- a method: a plain def of the class or of one above it -/
structure Meth (K : PySem.W.Frag) (C : Addr) (m : Str) (f : Addr) : Prop where
  at_ : PySem.W.findIn K (.ref C) m = some (some (.ref f))
  fn : PySem.W.isFn K (.ref f) = true
  kp : PySem.W.keepIn K (.ref f) = true

section
variable {X : Cx} {pins : List (Addr × Obj)} {σ : St} {H : Hp} {s : Shared} {a C dx : Addr} {fs : List (Str × V)} {f : Str} {v : V} {A : Around} {E : Value → Shared → Prop}

theorem getattr_ok {b : Bool} {Q : Value → Shared → Prop} (I : Inv X pins σ H s) (e : H a = some (.ins C dx fs)) (c : Cls X.K C) (n : NoAttr X.K C f) (l : fs.lookup f = some v)
    (h : ∀ u s', Inv X pins σ H s' → RelV v u → Q u s') : wpAny (model X.prog X.w) A (getAttr (.ref a) f b) Q E s := by
  obtain ⟨mA, O, r, _, _, _⟩ := ins_get I.hok e
  obtain ⟨u, hu, ru⟩ := RelO.some_of (v := v) (o := mA f) (by rw [← l]; exact r f)
  exact get_map I.kIn O (c.get f) c.hd n hu (handed_of ru) (h u _ (I.tok _) ru)

theorem getmeth_ok {m : Str} {g : Addr} {pl : Sem Bool} {Q : Value × List Value → Shared → Prop} (I : Inv X pins σ H s) (e : H a = some (.ins C dx fs)) (c : Cls X.K C) (k : Meth X.K C m g) (l : fs.lookup m = none)
    (h : Q (.ref g, [.ref a]) s) : wpAny (model X.prog X.w) A (getMethod (.ref a) m pl) Q E s := by
  obtain ⟨mA, O, r, _, _, _⟩ := ins_get I.hok e
  have hn : mA m = none := RelO.none_of (by rw [← l]; exact r m)
  exact get_meth I.kIn O (c.get m) k.at_ k.fn hn h

theorem setattr_ok {y : V} {u : Value} {Q : Unit → Shared → Prop} (I : Inv X pins σ H s) (e : H a = some (.ins C dx fs)) (c : Cls X.K C) (n : NoAttr X.K C f) (hl : fs.length < 1000) (ry : RelV y u)
    (h : ∀ s', Inv X pins σ (upd H a (.ins C dx (putF f y fs))) s' → Q () s') : wpAny (model X.prog X.w) A (setAttr (.ref a) f u) Q E s := by
  obtain ⟨mA, O, r, wi, _, ho⟩ := ins_get I.hok e
  have hz : (fs.map (·.1)).length ≤ sizeLine := by rw [List.length_map, sizeLine_eq]; omega
  refine set_map I.kIn O c.sa c.po n.taker c.hd wi hz fun h' O' sb => h _ ?_
  have hd : ∃ o, h'.get? dx = some o := let ⟨o, _, _, e', _⟩ := O'.ns; ⟨o, e'⟩
  refine I.write (x := a) (e := dx) (by rw [e]; exact True.intro) (.inr ho) (fun b q hb z => (sb.2 b hb).trans z) hd ?_
  refine ⟨by rw [upd_ne O.ne]; exact ho, ?_, O.ne, O'.obj, _, O'.ns, fun g => ?_, fun g hg => ?_⟩
  · have := length_putF f y fs; omega
  · show RelO ((putF f y fs).lookup g) (if g = f then some u else mA g)
    rw [lookup_putF]
    by_cases q : g = f
    · rw [if_pos q, if_pos q]; exact ry
    · rw [if_neg q, if_neg q]; exact r g
  · by_cases q : g = f
    · rw [q]; exact (keys_putF f y fs).1
    · refine (keys_putF f y fs).2 g (wi g fun z => hg ?_)
      show (if g = f then some u else mA g) = none
      rw [if_neg q]; exact z

/-- a new instance, tracked, without attributes -/
theorem Inv.made (I : Inv X pins σ H s) : Inv X pins σ (upd (upd H s.heap.objs.size (.own (s.heap.objs.size + 1))) (s.heap.objs.size + 1) (.ins C s.heap.objs.size []))
    { s with heap := (s.heap.push PySem.W.emptyDict).push (PySem.W.instObj C s.heap.objs.size) } := by
  have e1 : (s.heap.push PySem.W.emptyDict).get? s.heap.objs.size = some PySem.W.emptyDict := Heap.get?_push_size s.heap rfl
  have e2 : ((s.heap.push PySem.W.emptyDict).push (PySem.W.instObj C s.heap.objs.size)).get? (s.heap.objs.size + 1) = some (PySem.W.instObj C s.heap.objs.size) := by
    have := Heap.get?_push_size (s.heap.push PySem.W.emptyDict) (o := PySem.W.instObj C s.heap.objs.size) rfl
    rwa [Heap.size_push] at this
  have e3 : (s.heap.push PySem.W.emptyDict).Ns s.heap.objs.size (fun _ => none) := ⟨PySem.W.emptyDict, #[], _, e1, rfl, (fun e he => absurd he (by simp)), fun _ => rfl⟩
  have I1 := I.laid (a := s.heap.objs.size) (o := .own (s.heap.objs.size + 1)) (h' := s.heap.push PySem.W.emptyDict) (t' := s.toks) (fun b u q => Heap.get?_push_of_some _ q) (Nat.le_refl _) ⟨_, e1⟩
  refine I1.laid (a := s.heap.objs.size + 1) (o := .ins C s.heap.objs.size []) (t' := s.toks) (fun b u q => Heap.get?_push_of_some _ q) (Nat.le_of_eq (Heap.size_push _ _)) ?_
  have ne : s.heap.objs.size ≠ s.heap.objs.size + 1 := Nat.ne_of_lt (Nat.lt_succ_self _)
  refine ⟨by rw [upd_ne ne, upd_same], Nat.zero_le _, ne, e2, fun _ => none, (Heap.Ns1.of_empty e3).at fun o q => Heap.get?_push_of_some _ q, fun _ => True.intro, fun y hy => absurd rfl hy⟩

/-- e.f where nothing but the object is asked: through attributeBase (super) and the last hold -/
theorem attr_of {prog : Program} {w : World} {env : Env} {e : Expr} {f : Str} {pos : Pos} {s : Shared} {Q : Value → Shared → Prop} (hb : attributeBase e f env (eval e env) = eval e env)
    (h : wpAny (model prog w) A (eval e env) (fun o s₁ => wpAny (model prog w) A (getAttr o f true) Q E s₁) E s) : wpAny (model prog w) A (eval (.Attribute e f pos) env) Q E s :=
  Attribute_any_ h (by rw [arm_eval_Attribute, hb])
end

/-! ### readings and rules -/
/-- e.f, an attribute of the instance -/
noncomputable def tFld (K : PySem.W.Frag) (ta : TE) (f : Str) : TE := fun σ H Q => ta σ H fun x H1 => ∃ a C dx fs v, x = .ref a ∧ H1 a = some (.ins C dx fs) ∧ Cls K C ∧ NoAttr K C f ∧ fs.lookup f = some v ∧ Q v H1
/-- e.f = value -/
noncomputable def sFld (K : PySem.W.Frag) (ta tv : TE) (f : Str) : TS := fun D σ H => tv σ H fun y H1 => ta σ H1 fun x H2 => ∃ a C dx fs, x = .ref a ∧ H2 a = some (.ins C dx fs) ∧ Cls K C ∧ NoAttr K C f ∧ fs.length < 1000 ∧
  D.nx σ (upd H2 a (.ins C dx (putF f y fs)))
section
variable {X : Cx} {o e value : Expr} {f : Str} {pos pos' tpos : Pos} {ta tv : TE}
theorem pe_fld (he : PE X e ta) (hb : attributeBase e f X.env (eval e X.env) = eval e X.env) : PE X (.Attribute e f pos) (tFld X.K ta f) := by
  intro pins s σ H Q I h
  refine attr_of hb (thn (he pins s σ H _ I h) fun u s1 hw' => ?_)
  obtain ⟨x, H1, I1, rx, a, C, dx, fs, v, ex, ea, c, n, l, q⟩ := hw'
  subst ex
  obtain rfl : u = Value.ref a := rx
  exact getattr_ok I1 ea c n l fun u' s2 I2 ru => ⟨v, H1, I2, ru, q⟩
theorem ps_fld (ha : PE X o ta) (hv : PE X value tv) (hs : swapsWith value (some (.Attribute o f pos')) pos.line X.env = pure false) : PS X (.Assign [.Attribute o f pos'] value pos) (sFld X.K ta tv f) := by
  intro pins s σ H D I h
  refine plainObj_wpAny_Assign_Attribute (thn (hv pins s σ H _ I h) fun u s1 ⟨y, H1, I1, ry, q⟩ => thn (ha pins s1 σ H1 _ I1 q) fun ov s2 hw' => ?_) hs
  obtain ⟨x, H2, I2, rx, a, C, dx, fs, ex, ea, c, n, l, q2⟩ := hw'
  subst ex
  obtain rfl : ov = Value.ref a := rx
  exact setattr_ok I2 ea c n l ry fun s3 I3 => ⟨σ, _, I3, q2⟩
end

/-! ### isinstance -/
section
variable {X : Cx} {pins : List (Addr × Obj)} {σ : St} {H : Hp} {s : Shared} {A : Around} {E : Value → Shared → Prop} {Q : Value → Shared → Prop} {c : Value} {b : Bool}
end
end L2

namespace L2
open PySem PySem.Spec PyProof.Rows

/-! ### room -/
structure Room (k : Nat) (A : Around) : Prop where
  hd : A.handled = none
  dp : A.depth + 3 * k + 5 < recursionLimit
  un : A.units + 16 * k + 200 < cLine
  gd : A.guards = some [] := by rfl
theorem Room.mono {j k : Nat} {A : Around} (r : Room k A) (h : j ≤ k) : Room j A := ⟨r.hd, by have := r.dp; omega, by have := r.un; omega, r.gd⟩
theorem Room.deeper {k : Nat} {A : Around} (r : Room (k + 1) A) (env : Env) : Room k (A.deeper env) :=
  ⟨r.hd, by have := r.dp; show A.depth + 1 + 3 * k + 5 < _; omega, by have := r.un; show A.units + 3 + 16 * k + 200 < _; omega, r.gd⟩
theorem Room.in1 {k : Nat} {A : Around} (r : Room (k + 1) A) : Room k A.in1 :=
  ⟨r.hd, by have := r.dp; show A.depth + 3 * k + 5 < _; omega, by have := r.un; show A.units + 1 + 16 * k + 200 < _; omega, r.gd⟩
theorem make_depth {A : Around} {C : Addr} {us : List Value} {kw : List (Str × Value)} : (A.under (.builtin "type.__call__" ⟨.ref C :: us, kw⟩)).depth = A.depth + 1 := by
  first | rfl | simp [Around.under, Code.weight, Code.isCreation, Code.isGuard, Code.isCaller, Code.frames, Code.isFrame, guardIds]
theorem make_units {A : Around} {C : Addr} {us : List Value} {kw : List (Str × Value)} : (A.under (.builtin "type.__call__" ⟨.ref C :: us, kw⟩)).units = A.units + 1 := by
  first | rfl | simp [Around.under, Code.cUnits, Code.frames, Code.isFrame]
theorem Room.make {k : Nat} {A : Around} (r : Room (k + 1) A) (C : Addr) (us : List Value) (kw : List (Str × Value)) : Room k (A.under (.builtin "type.__call__" ⟨.ref C :: us, kw⟩)) :=
  ⟨r.hd, by have := r.dp; rw [make_depth]; omega, by have := r.un; rw [make_units]; omega, by first | exact r.gd | simpa [Around.under, Code.isGuard, Code.frames, Code.isFrame, guardIds] using r.gd⟩
theorem Room.depth {k : Nat} {A : Around} (r : Room k A) : A.depth < recursionLimit := by have := r.dp; omega
theorem Room.units {k : Nat} {A : Around} (r : Room k A) : A.units + 64 < cLine := by have := r.un; omega
/-! ### argument lists and displays -/
noncomputable def tNil : TA := fun _ H Q => Q [] H
noncomputable def tCons (ta : TE) (tr : TA) : TA := fun σ H Q => ta σ H fun x H1 => tr σ H1 fun xs H2 => Q (x :: xs) H2
section
variable {X : Cx} {e : Expr} {es : List Expr} {te : TE} {t : TA} {pos : Pos}
theorem pa_nil : PA X [] tNil := fun _ _ _ _ H Q I h => Calls.spliced_nil ⟨[], H, I, .nil, h⟩
theorem pa_cons (ha : PE X e te) (hr : PA X es t) (hs : starEach (e :: es) X.env = (false, eval e X.env) :: starEach es X.env := by rfl) : PA X (e :: es) (tCons te t) := by
  intro pos pins s σ H Q I h
  rw [hs]
  show wpAny _ _ (spliced ((false, eval e X.env) :: backTo pos (starEach es X.env))) _ _ s
  refine Calls.spliced_cons (thn (ha pins s σ H _ I h) fun u s1 hw' => ?_)
  obtain ⟨x, H1, I1, r1, q1⟩ := hw'
  exact thn (hr pos pins s1 σ H1 _ I1 q1) fun us s2 ⟨xs, H2, I2, r2, q2⟩ => ⟨x :: xs, H2, I2, .cons r1 r2, q2⟩

/-- a tuple, a list of written items -/
noncomputable def tTup (t : TA) : TE := fun σ H Q => t σ H fun xs H1 => xs.length ≤ sizeLine ∧ ∀ p, H1 p = none → Q (.ref p) (upd H1 p (.tup xs))
noncomputable def tLst (t : TA) : TE := fun σ H Q => t σ H fun xs H1 => xs.length ≤ sizeLine ∧ ∀ p, H1 p = none → Q (.ref p) (upd H1 p (.lst xs))
theorem pe_tup {x1} (h : PA X es t) : PE X (.Tuple es x1 pos) (tTup t) := by
  intro pins s σ H Q I hq
  refine wpAny_Tuple_spliced (thn (h pos pins s σ H _ I hq) fun us s1 ⟨xs, H1, I1, r, z, q⟩ => ⟨by rw [← r.length]; exact z, ?_⟩)
  have hf : H1 s1.heap.objs.size = none := I1.hok.fresh (Nat.le_refl _)
  refine ⟨.ref s1.heap.objs.size, upd H1 s1.heap.objs.size (.tup xs), I1.laid (t' := s1.toks) (fun b u e => Heap.get?_push_of_some _ e) (Nat.le_refl _) ?_, rfl, q _ hf⟩
  exact ⟨z, us, r, ⟨_, Heap.get?_push_size _ rfl, rfl, _, rfl⟩⟩
theorem pe_lst (h : PA X es t) : PE X (.List es pos) (tLst t) := by
  intro pins s σ H Q I hq
  refine wpAny_List_spliced (thn (h pos pins s σ H _ I hq) fun us s1 ⟨xs, H1, I1, r, z, q⟩ => ⟨by rw [← r.length]; exact z, ?_⟩)
  have hf : H1 s1.heap.objs.size = none := I1.hok.fresh (Nat.le_refl _)
  refine ⟨.ref s1.heap.objs.size, upd H1 s1.heap.objs.size (.lst xs), I1.laid (t' := s1.toks) (fun b u e => Heap.get?_push_of_some _ e) (Nat.le_refl _) ?_, rfl, q _ hf⟩
  exact ⟨z, us, 0, r, Heap.get?_push_size _ rfl⟩
end

/-! ### what a def promises -/
/-- a def's promise: the bound arguments in the parameters' order, the heap, the wanted end, the wanted exception -/
noncomputable abbrev Sp := List V → Hp → VK → XK → Prop
/-- how an exception lies behind a call (file 08 gives it): the callers' frames, abstract heap and state ahead of the call, the wish, the exception, the state -/
noncomputable abbrev CXT := List Env → Hp → Shared → XK → Value → Shared → Prop

/-- the state at a call -/
structure Env0 (P : Program) (w : World) (K : PySem.W.Frag) (mg : Str → Option Value) (base : Heap) (A : Around) (outer : List Env) (s : Shared) (H : Hp) : Prop where
  frames : A.frames = some outer
  mod : Mod K mg base
  bs : ∀ b o, base.get? b = some o → s.heap.get? b = some o ∧ H b = none
  bsz : base.objs.size ≤ s.heap.objs.size
  funs : s.heap.FunFrames base outer
  frf : ∀ b ∈ frs outer, H b = none
  hok : HOk P w H s.heap
  bare : AllBare s.gens
/-- a call's end -/
noncomputable def CE (outer : List Env) (P : Program) (w : World) (H : Hp) (s : Shared) (Q : VK) (u : Value) (s' : Shared) : Prop :=
  ∃ v H', s'.os = s.os ∧ AllBare s'.gens ∧ Un (frs outer) [] H H' s.heap s'.heap ∧ HOk P w H' s'.heap ∧ RelV v u ∧ Q v H'
noncomputable def CR (CX : CXT) (outer : List Env) (P : Program) (w : World) (H : Hp) (s : Shared) (Q : VK) (E : XK) (r : Result) (s' : Shared) : Prop :=
  match r with
  | .ok (.ret u) => CE outer P w H s Q u s'
  | .ok _ => False
  | .error e => CX outer H s E e s'
structure FnOk (P : Program) (w : World) (K : PySem.W.Frag) (mg : Str → Option Value) (base : Heap) (CX : CXT) (k : Nat) (f : Addr) (fd : FuncData) (ps : List Str) (sp : Sp) : Prop where
  len : ∀ vs H Q E, sp vs H Q E → vs.length = ps.length
  run : ∀ (A : Around) (outer : List Env) (s : Shared) (H : Hp) (args : Args) (us : List Value) (vs : List V) (Q : VK) (E : XK), Room k A → Env0 P w K mg base A outer s H → BindsTo s fd args (ps.zip us) → Vals vs us → sp vs H Q E →
    codeAny (model P w) A (.call (.ref f) args) (CR CX outer P w H s Q E) s
/-- a weaker promise -/
theorem FnOk.imp {P : Program} {w : World} {K : PySem.W.Frag} {mg : Str → Option Value} {base : Heap} {CX : CXT} {k : Nat} {f : Addr} {fd : FuncData} {ps : List Str} {sp sp' : Sp} (F : FnOk P w K mg base CX k f fd ps sp)
    (h : ∀ vs H Q E, sp' vs H Q E → sp vs H Q E) : FnOk P w K mg base CX k f fd ps sp' :=
  ⟨fun vs H Q E q => F.len vs H Q E (h _ _ _ _ q), fun A outer s H args us vs Q E hr he hb hv hs => F.run A outer s H args us vs Q E hr he hb hv (h _ _ _ _ hs)⟩

theorem Env0.make {P : Program} {w : World} {K : PySem.W.Frag} {mg : Str → Option Value} {base : Heap} {A : Around} {outer : List Env} {s : Shared} {H : Hp} (e : Env0 P w K mg base A outer s H) (C : Addr) (us : List Value) (kw : List (Str × Value)) :
    Env0 P w K mg base (A.under (.builtin "type.__call__" ⟨.ref C :: us, kw⟩)) outer s H := ⟨by first | exact e.frames | (simpa [Around.under, Code.envs, Code.isFrame, pushEnvs] using e.frames), e.mod, e.bs, e.bsz, e.funs, e.frf, e.hok, e.bare⟩
theorem Env0.in1 {P : Program} {w : World} {K : PySem.W.Frag} {mg : Str → Option Value} {base : Heap} {A : Around} {outer : List Env} {s : Shared} {H : Hp} (e : Env0 P w K mg base A outer s H) :
    Env0 P w K mg base A.in1 outer s H := ⟨e.frames, e.mod, e.bs, e.bsz, e.funs, e.frf, e.hok, e.bare⟩

section
variable {X : Cx} {pins : List (Addr × Obj)} {σ : St} {H : Hp} {s s' : Shared}
/-- from a body: what a callee wants -/
theorem Inv.env0 (I : Inv X pins σ H s) : Env0 X.prog X.w X.K X.mg X.base X.A X.stack s H :=
  ⟨I.ok.frames, I.ok.mod, I.bs, Nat.le_trans I.ok.bsz I.sz, I.stack, I.stkFree, I.hok, I.bare⟩
/-- behind a call -/
theorem Inv.after {Q : VK} {u : Value} (I : Inv X pins σ H s) (h : CE X.stack X.prog X.w H s Q u s') : EP X pins σ Q u s' := by
  obtain ⟨v, H', os, bare, un, hok, r, q⟩ := h
  obtain ⟨hh, g, d, t, os'⟩ := s'
  obtain rfl : os' = s.os := os
  exact ⟨v, H', I.call (h' := hh) (g' := g) (d' := d) (t' := t) (ch := []) un hok bare (fun b z => absurd z (by simp)), r, q⟩
end

/-! ### calls -/
/-- f(..): the written arguments, then the defaults dvs; E: what is wanted of an exception -/
noncomputable def tCall (sp : Sp) (dvs : List V) (E : XK) (t : TA) : TE := fun σ H Q => t σ H fun vs H1 => sp (vs ++ dvs) H1 Q E
/-- o.m(..) of an instance of the class at C -/
noncomputable def tMeth (C : Addr) (m : Str) (sp : Sp) (dvs : List V) (E : XK) (ta : TE) (t : TA) : TE := fun σ H Q => ta σ H fun x H1 => ∃ a dx fs, x = .ref a ∧ H1 a = some (.ins C dx fs) ∧ fs.lookup m = none ∧
  t σ H1 fun vs H2 => sp (x :: (vs ++ dvs)) H2 Q E
/-- C(..): a new instance and its dict, then __init__ -/
noncomputable def tMake (C : Addr) (sp : Sp) (dvs : List V) (E : XK) (t : TA) : TE := fun σ H Q => t σ H fun vs H1 => ∀ x dx, H1 x = none → H1 dx = none → dx ≠ x →
  sp (.ref x :: (vs ++ dvs)) (upd (upd H1 dx (.own x)) x (.ins C dx [])) (fun v H2 => v = .non ∧ Q (.ref x) H2) E

/-- how the parameters are bound: us the positional arguments, kw the keywords' values by name, ds the defaults that fill up -/
noncomputable def Binds (K : PySem.W.Frag) (fd : FuncData) (ps : List Str) (ds : List Value) : Prop :=
  ∀ (s : Shared) (us : List Value), K.In s.heap → (us ++ ds).length = ps.length → BindsTo s fd ⟨us, []⟩ (ps.zip (us ++ ds))
/-- every parameter is given -/
theorem Binds.all {K : PySem.W.Frag} {fd : FuncData} {ps : List Str} (h : ∀ us : List Value, us.length = ps.length → bindArgs fd ⟨us, []⟩ = pure (ps.zip us)) : Binds K fd ps [] := fun s us _ hl => by
  rw [List.append_nil] at hl ⊢
  exact .of_eq (h us hl)

/-- an exception of a callee reaches what this body wants of exceptions -/
noncomputable def Passes (CX : CXT) (X : Cx) (E : XK) : Prop := ∀ (pins : List (Addr × Obj)) (σ : St) (H : Hp) (s : Shared) (e : Value) (s' : Shared), Inv X pins σ H s → CX X.stack H s E e s' → X.xe e s'

section
variable {X : Cx} {CX : CXT} {k : Nat} {f C : Addr} {fd : FuncData} {ps : List Str} {sp : Sp} {dvs : List V} {ds : List Value} {E : XK} {x m : Str} {p pos apos : Pos} {e o : Expr} {es : List Expr} {ta : TE} {t : TA}

/-- the callee runs -/
theorem run_fn {pins : List (Addr × Obj)} {σ : St} {H : Hp} {s : Shared} {Q : VK} {us : List Value} {vs : List V} (F : FnOk X.prog X.w X.K X.mg X.base CX k f fd ps sp) (hr : Room k X.A) (hb : Binds X.K fd ps ds) (hd : Vals dvs ds) (hx : Passes CX X E)
    (I : Inv X pins σ H s) (r : Vals vs us) (h : sp (vs ++ dvs) H Q E) : wpAny (model X.prog X.w) X.A (call (.ref f) us) (EP X pins σ Q) X.xe s := by
  have r2 : Vals (vs ++ dvs) (us ++ ds) := r.append hd
  have hl : (us ++ ds).length = ps.length := by rw [← r2.length]; exact F.len _ _ _ _ h
  refine wpAny_call (codeAny_mono (F.run X.A X.stack s H ⟨us, []⟩ (us ++ ds) (vs ++ dvs) Q E hr I.env0 (hb s us I.kIn hl) r2 h) fun r s' hq => ?_)
  cases r with
  | error e => exact hx pins σ H s e s' I hq
  | ok fl =>
    cases fl with
    | ret u => exact I.after hq
    | next => exact False.elim hq
    | brk => exact False.elim hq
    | cont => exact False.elim hq

theorem pe_call (F : FnOk X.prog X.w X.K X.mg X.base CX k f fd ps sp) (hr : Room k X.A) (hg : Gl X x) (hm : X.mg x = some (.ref f)) (hk : PySem.W.keepIn X.K (.ref f) = true) (hb : Binds X.K fd ps ds) (hd : Vals dvs ds) (hx : Passes CX X E)
    (ha : PA X (e :: es) t) (hdb : (x == ("__debug__" : Str)) = false := by decide) (he : starEach (e :: es) X.env = (false, eval e X.env) :: starEach es X.env := by rfl) (hpl : (backTo pos (starEach es X.env)).any (·.1) = false := by rfl) :
    PE X (.Call (.Name x p) (e :: es) [] pos) (tCall sp dvs E t) := by
  intro pins s σ H Q I h
  refine wpAny_Call_Name_kw (ld_glob I hg hm ?_ hdb)
  refine PySem.W.callWith_K (h₀ := X.base) I.ok.mod.kin hk (thn (ha pos pins s σ H _ I h) fun us s1 ⟨vs, H1, I1, r, q⟩ => ⟨I1.kIn, ?_⟩) he hpl
  exact run_fn F hr hb hd hx I1 r q
theorem pe_call0 (F : FnOk X.prog X.w X.K X.mg X.base CX k f fd ps sp) (hr : Room k X.A) (hg : Gl X x) (hm : X.mg x = some (.ref f)) (hk : PySem.W.keepIn X.K (.ref f) = true) (hb : Binds X.K fd ps ds) (hd : Vals dvs ds) (hx : Passes CX X E)
    (hdb : (x == ("__debug__" : Str)) = false := by decide) : PE X (.Call (.Name x p) [] [] pos) (tCall sp dvs E tNil) := by
  intro pins s σ H Q I h
  refine wpAny_Call_Name_kw (ld_glob I hg hm ?_ hdb)
  exact PySem.W.callWith_K0 I.kIn hk (run_fn (us := []) F hr hb hd hx I .nil h)

/-- o.m(e, ..) -/
theorem pe_meth {pl : Sem Bool} (he : PE X o ta) (c : Cls X.K C) (hm : Meth X.K C m f) (F : FnOk X.prog X.w X.K X.mg X.base CX k f fd ps sp) (hr : Room k X.A) (hb : Binds X.K fd ps ds) (hd : Vals dvs ds) (hx : Passes CX X E) (ha : PA X (e :: es) t)
    (hst : starEach (e :: es) X.env = (false, eval e X.env) :: starEach es X.env := by rfl) (hpl : (backTo pos (starEach es X.env)).any (·.1) = false := by rfl)
    (ht : eval (.Call (.Attribute o m apos) (e :: es) [] pos) X.env = (do
      let ov ← eval o X.env
      standAt apos.atName
      let (f, first) ← holding [ov] (getMethod ov m pl)
      callWith pos f first (backTo pos (starEach (e :: es) X.env)) (backToKw pos (keywordEach [] X.env))) := by rfl) :
    PE X (.Call (.Attribute o m apos) (e :: es) [] pos) (tMeth C m sp dvs E ta t) := by
  intro pins s σ H Q I h
  refine PySem.W.methodCall_KW (pl := pl) (thn (he pins s σ H _ I h) fun u s1 hw' => ?_) ht
  obtain ⟨x, H1, I1, rx, a, dx, fs, ex, ea, l, q⟩ := hw'
  subst ex
  obtain rfl : u = Value.ref a := rx
  refine getmeth_ok I1 ea c hm l ?_
  refine PySem.W.callWith_K (first := [.ref a]) (h₀ := X.base) I.ok.mod.kin hm.kp (thn (ha pos pins s1 σ H1 _ I1 q) fun us s2 ⟨vs, H2, I2, r, q2⟩ => ⟨I2.kIn, ?_⟩) hst hpl
  exact run_fn (us := .ref a :: us) (vs := .ref a :: vs) F hr hb hd hx I2 (.cons rfl r) q2
/-- what a class must have to be made -/
structure Mk (K : PySem.W.Frag) (C f : Addr) : Prop where
  makes : PySem.W.makesIn K C = true
  init : PySem.W.findIn K (.ref C) "__init__" = some (some (.ref f))
  fn : PySem.W.isFn K (.ref f) = true
  kp : PySem.W.keepIn K (.ref C) = true

theorem run_make {pins : List (Addr × Obj)} {σ : St} {H : Hp} {s : Shared} {Q : VK} {us : List Value} {vs : List V} (M : Mk X.K C f) (F : FnOk X.prog X.w X.K X.mg X.base CX k f fd ps sp) (hr : Room (k + 1) X.A) (hb : Binds X.K fd ps ds) (hd : Vals dvs ds)
    (hx : Passes CX X E) (I : Inv X pins σ H s) (r : Vals vs us)
    (h : ∀ x dx, H x = none → H dx = none → dx ≠ x → sp (.ref x :: (vs ++ dvs)) (upd (upd H dx (.own x)) x (.ins C dx [])) (fun v H2 => v = .non ∧ Q (.ref x) H2) E) :
    wpAny (model X.prog X.w) X.A (call (.ref C) us) (EP X pins σ Q) X.xe s := by
  have hq := h (s.heap.objs.size + 1) s.heap.objs.size (I.hok.fresh (Nat.le_succ _)) (I.hok.fresh (Nat.le_refl _)) (Nat.ne_of_lt (Nat.lt_succ_self _))
  have I2 := Inv.made (C := C) I
  have r2 : Vals (V.ref (s.heap.objs.size + 1) :: (vs ++ dvs)) (Value.ref (s.heap.objs.size + 1) :: (us ++ ds)) := .cons rfl (r.append hd)
  have hl : (Value.ref (s.heap.objs.size + 1) :: us ++ ds).length = ps.length := by
    have e := r2.length
    rw [F.len _ _ _ _ hq] at e
    exact e.symm
  refine wpAny_call (make_map (f := f) I.kIn M.makes M.init (beq_iff_eq.mp M.fn) (codeAny_mono (F.run _ X.stack _ _ ⟨Value.ref (s.heap.objs.size + 1) :: us, []⟩ (Value.ref (s.heap.objs.size + 1) :: (us ++ ds)) _ _ E (hr.make C us [])
    (I2.env0.make C us []) (hb _ (Value.ref (s.heap.objs.size + 1) :: us) I2.kIn hl) r2 hq) fun r s' hq' => ?_))
  cases r with
  | error e => exact hx pins σ _ _ e s' I2 hq'
  | ok fl =>
    cases fl with
    | ret u =>
      obtain ⟨v, H', I3, rv, ev, q3⟩ := I2.after hq'
      subst ev
      exact ⟨rv, ⟨V.ref (s.heap.objs.size + 1), H', I3, rfl, q3⟩⟩
    | next => exact False.elim hq'
    | brk => exact False.elim hq'
    | cont => exact False.elim hq'
theorem pe_make0 (M : Mk X.K C f) (F : FnOk X.prog X.w X.K X.mg X.base CX k f fd ps sp) (hr : Room (k + 1) X.A) (hg : Gl X x) (hm : X.mg x = some (.ref C)) (hb : Binds X.K fd ps ds) (hd : Vals dvs ds) (hx : Passes CX X E)
    (hdb : (x == ("__debug__" : Str)) = false := by decide) : PE X (.Call (.Name x p) [] [] pos) (tMake C sp dvs E tNil) := by
  intro pins s σ H Q I h
  refine wpAny_Call_Name_kw (ld_glob I hg hm ?_ hdb)
  exact PySem.W.callWith_K0 I.kIn M.kp (run_make (us := []) M F hr hb hd hx I .nil h)
end

/-! ### keywords -/
/-- the values of the keywords, from the left -/
noncomputable def PK (X : Cx) (kws : List Keyword) (t : TA) : Prop :=
  ∀ (pos : Pos) (pins : List (Addr × Obj)) (s : Shared) (σ : St) (H : Hp) (Q : List V → Hp → Prop), Inv X pins σ H s → t σ H Q → wpAny (model X.prog X.w) X.A (evalAll ((backToKw pos (keywordEach kws X.env)).map (·.2))) (AP X pins σ Q) X.xe s
section
variable {X : Cx} {CX : CXT} {k : Nat} {f C : Addr} {fd : FuncData} {ps ks : List Str} {sp : Sp} {E : XK} {x m : Str} {p pos apos kpos : Pos} {e o : Expr} {es : List Expr} {kws : List Keyword} {te ta : TE} {t tk : TA} {nm : Option Str}
theorem pk_nil : PK X [] tNil := fun _ _ _ _ H Q I h => wpAny_evalAll_nil ⟨[], H, I, .nil, h⟩
theorem pk_cons (ha : PE X e te) (hr : PK X kws t) : PK X (⟨nm, e, kpos⟩ :: kws) (tCons te t) := by
  intro pos pins s σ H Q I h
  show wpAny _ _ (evalAll ((do let v ← eval e X.env; standAt pos; pure v) :: (backToKw pos (keywordEach kws X.env)).map (·.2))) _ _ s
  refine wpAny_evalAll_cons (wpAny_bind (thn (ha pins s σ H _ I h) fun u s1 ⟨x, H1, I1, r1, q1⟩ => wpAny_bind (wpAny_standAt (wpAny_pure ?_))))
  exact thn (hr pos pins s1 σ H1 _ I1 q1) fun us s2 ⟨xs, H2, I2, r2, q2⟩ => ⟨x :: xs, H2, I2, .cons r1 r2, q2⟩

variable {g : List Value → List Value → List Value} {gV : List V → List V → List V}
end

/-! ### a def's body keeps its promise -/
/-- names: the parameters first -/
structure FnScope (N P : List Str) (sc : Scope) : Prop where
  kind : sc.kind = .function
  co : sc.isCoroutine = false
  gen : sc.isGenerator = false
  nd : N.Nodup
  pre : N.take P.length = P
  par : ∀ x ∈ P, sc.names.lookup x = some .local ∨ sc.names.lookup x = some .cell
  nofree : ∀ y ∈ sc.names, y.2 ≠ .free

theorem bindL_out {kindOf : Str → Option NameKind} {x : Str} : ∀ {binds : List (Str × Value)} {m : Str → Option Value}, (∀ v, (x, v) ∉ binds) → bindL kindOf binds m x = m x
  | [], _, _ => rfl
  | (n, v) :: r, m, h => by
    unfold bindL
    rw [bindL_out fun w hw => h w (List.mem_cons_of_mem _ hw)]
    split
    · have : x ≠ n := by rintro rfl; exact h v List.mem_cons_self
      simp [this]
    · rfl
theorem bindC_out {kindOf : Str → Option NameKind} {x : Str} : ∀ {binds : List (Str × Value)} {m : Str → Option Value}, (∀ v, (x, v) ∉ binds) → bindC kindOf binds m x = m x
  | [], _, _ => rfl
  | (n, v) :: r, m, h => by
    unfold bindC
    rw [bindC_out fun w hw => h w (List.mem_cons_of_mem _ hw)]
    split
    · rfl
    · have : x ≠ n := by rintro rfl; exact h v List.mem_cons_self
      simp [this]
theorem bindL_get {kindOf : Str → Option NameKind} {x : Str} {v : Value} : ∀ {P : List Str} {vs : List Value} {i : Nat} {m : Str → Option Value}, P.Nodup → P[i]? = some x → vs[i]? = some v → kindOf x = some .local →
    bindL kindOf (P.zip vs) m x = some v
  | [], _, _, _, _, h, _, _ => by simp at h
  | _ :: _, [], _, _, _, _, h, _ => by simp at h
  | p :: P, w :: vs, 0, m, nd, h1, h2, hk => by
    simp at h1 h2; subst h1; subst h2
    show bindL kindOf ((p, w) :: P.zip vs) m p = _
    unfold bindL
    rw [bindL_out fun v hv => (List.nodup_cons.mp nd).1 (List.of_mem_zip hv).1, if_pos hk]
    simp
  | p :: P, w :: vs, i + 1, m, nd, h1, h2, hk => by
    show bindL kindOf ((p, w) :: P.zip vs) m x = _
    unfold bindL
    exact bindL_get (i := i) (List.nodup_cons.mp nd).2 (by simpa using h1) (by simpa using h2) hk
theorem bindC_get {kindOf : Str → Option NameKind} {x : Str} {v : Value} : ∀ {P : List Str} {vs : List Value} {i : Nat} {m : Str → Option Value}, P.Nodup → P[i]? = some x → vs[i]? = some v → kindOf x ≠ some .local →
    bindC kindOf (P.zip vs) m x = some v
  | [], _, _, _, _, h, _, _ => by simp at h
  | _ :: _, [], _, _, _, _, h, _ => by simp at h
  | p :: P, w :: vs, 0, m, nd, h1, h2, hk => by
    simp at h1 h2; subst h1; subst h2
    show bindC kindOf ((p, w) :: P.zip vs) m p = _
    unfold bindC
    rw [bindC_out fun v hv => (List.nodup_cons.mp nd).1 (List.of_mem_zip hv).1, if_neg hk]
    simp
  | p :: P, w :: vs, i + 1, m, nd, h1, h2, hk => by
    show bindC kindOf ((p, w) :: P.zip vs) m x = _
    unfold bindC
    exact bindC_get (i := i) (List.nodup_cons.mp nd).2 (by simpa using h1) (by simpa using h2) hk

/-- the names' values at the entry -/
noncomputable def start (N : List Str) (vs : List V) : St := vs.map some ++ List.replicate (N.length - vs.length) none

/-- the context of a def's body, at its entry; an exception leaves the frame, then lies as CX says -/
noncomputable def cxOf (CX : CXT) (P : Program) (w : World) (K : PySem.W.Frag) (mg : Str → Option Value) (base : Heap) (N : List Str) (qual : Str) (scope : Scope) (f : Addr) (cd : Value) (A : Around) (outer : List Env) (s : Shared) (H : Hp) (E : XK) : Cx where
  prog := P
  w := w
  K := K
  mg := mg
  base := base
  A := A.deeper (envOfC qual scope s.heap.objs.size f cd)
  N := N
  s₀ := s
  H₀ := H
  env := envOfC qual scope s.heap.objs.size f cd
  outer := outer
  stack := envOfC qual scope s.heap.objs.size f cd :: outer
  ex := []
  calm := true
  fn := fun _ => true
  pn := []
  xe := fun e s' => wpAny (model P w) (A.deeper (envOfC qual scope s.heap.objs.size f cd)) (leaving (envOfC qual scope s.heap.objs.size f cd) e) (fun _ s'' => CX outer H s E e s'') (fun e' s'' => CX outer H s E e' s'') s'

theorem cell_has {sc : Scope} {n : Nat} {x : Str} (h : sc.names.lookup x = some .cell) : ∃ c, (cellsFrom n sc.names []).lookup x = some c := by
  have q := PySem.W.cellsFrom_some sc.names n [] (.inl h)
  exact Option.isSome_iff_exists.mp q

theorem inv_start {CX : CXT} {P : Program} {w : World} {K : PySem.W.Frag} {mg : Str → Option Value} {base : Heap} {N ps : List Str} {qual : Str} {scope : Scope} {f : Addr} {cd : Value} {A : Around} {outer : List Env} {s s1 : Shared} {H : Hp} {E : XK} {us : List Value} {vs : List V}
    (S : FnScope N ps scope) (hd : A.handled = none) (e0 : Env0 P w K mg base A outer s H) (hl : vs.length = ps.length) (r : Vals vs us)
    (x : InCallC s s.heap.objs.size (bindL (envOfC qual scope s.heap.objs.size f cd).kindOf (ps.zip us) fun _ => none) (cellsFrom (s.heap.objs.size + 1) scope.names []) (bindC (envOfC qual scope s.heap.objs.size f cd).kindOf (ps.zip us) fun _ => none) s1) :
    Inv (cxOf CX P w K mg base N qual scope f cd A outer s H E) [] (start N vs) H s1 := by
  have hpl : ps.length ≤ N.length := by have := congrArg List.length S.pre; rw [List.length_take] at this; omega
  obtain ⟨h1, tk, rfl, hk⟩ := x.done
  have noA : ∀ b : Addr, b ∉ (cxOf CX P w K mg base N qual scope f cd A outer s H E).ex := fun b z => absurd (show b ∈ ([] : List Addr) from z) (by simp)
  refine ⟨⟨e0.mod, S.kind, rfl, rfl, Nat.le_refl _, fun y z c h1 h2 => ?_, fun y hy => ?_, fun y c _ h => ?_, fun _ => hd, Around.frames_deeper e0.frames, .inr ⟨rfl, rfl⟩, fun b z => absurd z (noA b), e0.bs, e0.bsz, fun b _ _ => noA b, fun b z => absurd z (noA b), e0.funs, e0.frf⟩,
    rfl, e0.bare, Un.kept hk, ⟨_, x.toInCall.ns, fun i y v h1 h2 h3 => ?_⟩, fun y c h => ⟨_, x.cell y c h⟩, e0.hok.fresh (Nat.le_refl _), fun y c h => ?_, fun p hp => absurd (show p ∈ ([] : List (Addr × Obj)) from hp) (by simp), e0.hok.kept hk, ?_⟩
  · exact name_of_addr x.apart (PySem.mem_of_lookup h1) (PySem.mem_of_lookup h2)
  · have hy : scope.names.lookup y = some .cell ∨ scope.names.lookup y = some .free := hy
    rcases hy with hy | hy
    · exact cell_has hy
    · exact absurd rfl (S.nofree _ (PySem.mem_of_lookup hy))
  · exact Nat.le_of_lt (x.above y c (PySem.mem_of_lookup h))
  · have hi : i < vs.length := by
      unfold start at h2
      by_cases hi : i < vs.length
      · exact hi
      · rw [List.getElem?_append_right (by simpa using hi)] at h2
        rw [List.getElem?_replicate] at h2
        split at h2 <;> cases h2
    have ha : vs[i]? = some v := by
      unfold start at h2
      rw [List.getElem?_append_left (by simpa using hi), List.getElem?_map] at h2
      cases e : vs[i]? with
      | none => rw [e] at h2; cases h2
      | some a => rw [e] at h2; cases h2; rfl
    obtain ⟨u, hu, rv⟩ := r.get ha
    have hp : ps[i]? = some y := by
      rw [← S.pre, List.getElem?_take_of_lt (by omega)]; exact h1
    have ndP : ps.Nodup := by rw [← S.pre]; exact S.nd.sublist (List.take_sublist _ _)
    refine ⟨u, rv, ?_⟩
    rcases S.par y (List.mem_of_getElem? hp) with k | k
    · exact .inl ⟨k, bindL_get ndP hp hu k⟩
    · obtain ⟨c, e⟩ := cell_has (n := s.heap.objs.size + 1) k
      refine .inr ⟨.inl k, c, e, ?_⟩
      have q := x.cell y c e
      rw [bindC_get ndP hp hu (by show scope.names.lookup y ≠ _; rw [k]; decide)] at q
      exact q
  · exact e0.hok.fresh (Nat.le_of_lt (x.above y c (PySem.mem_of_lookup h)))
  · unfold start
    show _ = N.length
    rw [List.length_append, List.length_map, List.length_replicate]
    omega

/-- THE RULE: a def (or a method) of the text, by its body. The body's reading t is chosen for each entry; it is run at the parameters' values -/
theorem fn_of {CX : CXT} {P : Program} {w : World} {K : PySem.W.Frag} {mg : Str → Option Value} {base : Heap} {k : Nat} {f : Addr} {name qual : Str} {params : Arguments} {body : List Stmt} {scope : Scope} {dV kV doc pm cdv ct oc : Value} {an od : Option Addr}
    {osl : Array (Option Value)} {N ps : List Str} {sp : Sp} (lk : K.lookup f = some ⟨oc, od, .func (PySem.W.fnOf name qual params body scope dV kV doc pm an cdv ct), osl⟩) (hcd : PySem.W.codeIn K cdv qual = true) (S : FnScope N ps scope)
    (len : ∀ vs H Q E, sp vs H Q E → vs.length = ps.length)
    (hbody : ∀ (A : Around) (outer : List Env) (s : Shared) (H : Hp) (vs : List V) (Q : VK) (E : XK), Room k (A.deeper (envOfC qual scope s.heap.objs.size f cdv)) → sp vs H Q E →
      ∃ t, PSs (cxOf CX P w K mg base N qual scope f cdv A outer s H E) body t ∧ t { nx := fun _ H' => Q .non H', rt := Q } (start N vs) H) :
    FnOk P w K mg base CX (k + 1) f (PySem.W.fnOf name qual params body scope dV kV doc pm an cdv ct) ps sp := by
  refine ⟨len, fun A outer s H args us vs Q E hr e0 hb r hsp => ?_⟩
  have hl := len _ _ _ _ hsp
  have KX : K.In s.heap := e0.mod.kin.keeps fun b o e => (e0.bs b o e).1
  have lim : s.heap.NoLimit := e0.mod.nolimit.keeps fun b o e => (e0.bs b o e).1
  have hkind : ∀ y ∈ ps.zip us, scope.names.lookup y.1 = some .local ∨ (scope.names.lookup y.1 = some .cell ∧ ((cellsFrom (s.heap.objs.size + 1) scope.names []).lookup y.1).isSome = true) := fun hw' hy => by
    obtain ⟨n, v⟩ := hw'
    rcases S.par n (List.of_mem_zip hy).1 with q | q
    · exact .inl q
    · exact .inr ⟨q, PySem.W.cellsFrom_some _ _ _ (.inl q)⟩
  refine codeAny_call_function hr.depth (KX _ _ lk) rfl S.co S.gen rfl (PySem.W.codeRec_of KX hcd) (hb _ _ _ _ ?_)
  refine wpAny_newFunctionEnv_cells S.kind hkind fun env he s1 x => ?_
  subst he
  refine ⟨lim.keeps x.toInCall.keep, codeAny_func ?_⟩
  obtain ⟨t, ht, hq⟩ := hbody A outer s H vs Q E (hr.deeper _) hsp
  have I : Inv (cxOf CX P w K mg base N qual scope f cdv A outer s H E) [] (start N vs) H s1 := inv_start S hr.hd e0 hl r x
  refine wpAny_mono (ht [] s1 (start N vs) H _ I hq) (fun fl s' hs => ?_) fun e s' hs => hs
  have fin : ∀ {σ' : St} {H' : Hp} {v : V} {u : Value}, Inv (cxOf CX P w K mg base N qual scope f cdv A outer s H E) [] σ' H' s' → RelV v u → Q v H' → CE outer P w H s Q u s' :=
    fun {σ' H' v u} J rv q => ⟨v, H', J.os, J.bare, J.base, J.hok, rv, q⟩
  cases fl with
  | ret u =>
    obtain ⟨v, σ', H', J, rv, q⟩ := hs
    exact fin J rv q
  | next =>
    obtain ⟨σ', H', J, q⟩ := hs
    exact fin (v := V.non) (u := Value.none) J rfl q
  | brk =>
    obtain ⟨_, _, _, q⟩ := hs
    exact False.elim q
  | cont =>
    obtain ⟨_, _, _, q⟩ := hs
    exact False.elim q
end L2

namespace L2
open PySem PySem.Spec PyProof.Rows
section
variable {X : Cx} {x : Str} {p pos : Pos} {e : Expr} {es : List Expr} {t : TA} {id T : String} {r : List V → Hp → VK → Prop}

noncomputable def tCB (r : List V → Hp → VK → Prop) (t : TA) : TE := fun σ H Q => t σ H fun vs H1 => r vs H1 Q
/-- f(e, ..), f a built-in function -/
theorem pe_callB (hc : CallR X (.builtin id) r) (hg : Gl X x) (hm : X.mg x = none) (hv : bootBuiltins x = some (.builtin id)) (ha : PA X (e :: es) t) (hn : x ≠ "__name__" := by decide) (hdb : (x == ("__debug__" : Str)) = false := by decide)
    (he : starEach (e :: es) X.env = (false, eval e X.env) :: starEach es X.env := by rfl) (hpl : (backTo pos (starEach es X.env)).any (·.1) = false := by rfl) : PE X (.Call (.Name x p) (e :: es) [] pos) (tCB r t) := by
  intro pins s σ H Q I h
  refine wpAny_Call_Name_kw (ld_blt I hg hm hv ?_ hn hdb)
  exact PyProof.Rows.callWith_builtin1 (thn (ha pos pins s σ H _ I h) fun us s1 ⟨vs, H1, I1, r1, q1⟩ => hc pins s1 σ H1 vs us Q I1 r1 q1) he hpl
/-- T(e, ..), T a built-in type -/
theorem pe_callTy (hc : CallR X (.type T) r) (hg : Gl X x) (hm : X.mg x = none) (hv : bootBuiltins x = some (.type T)) (ha : PA X (e :: es) t) (hn : x ≠ "__name__" := by decide) (hdb : (x == ("__debug__" : Str)) = false := by decide)
    (he : starEach (e :: es) X.env = (false, eval e X.env) :: starEach es X.env := by rfl) (hpl : (backTo pos (starEach es X.env)).any (·.1) = false := by rfl) : PE X (.Call (.Name x p) (e :: es) [] pos) (tCB r t) := by
  intro pins s σ H Q I h
  refine wpAny_Call_Name_kw (ld_blt I hg hm hv ?_ hn hdb)
  exact PyProof.Rows.callWith_type1 (thn (ha pos pins s σ H _ I h) fun us s1 ⟨vs, H1, I1, r1, q1⟩ => hc pins s1 σ H1 vs us Q I1 r1 q1) he hpl
end
end L2

namespace HT
open PySem PyProof.Rows

/-- t < u of tuples of ints -/
noncomputable def lexLt : List Int → List Int → Bool
  | [], [] => false
  | [], _ :: _ => true
  | _ :: _, [] => false
  | x :: xs, y :: ys => if x = y then lexLt xs ys else decide (x < y)
theorem lexLt_cons (x y : Int) (xs ys : List Int) : lexLt (x :: xs) (y :: ys) = if x = y then lexLt xs ys else decide (x < y) := rfl
theorem lexLt_nil_nil : lexLt [] [] = false := rfl
theorem lexLt_nil_cons (y : Int) (ys : List Int) : lexLt [] (y :: ys) = true := rfl
theorem lexLt_cons_nil (x : Int) (xs : List Int) : lexLt (x :: xs) [] = false := rfl

theorem eqAt_int (A : Around) (s : Shared) (a : Int) (t : Tok) (c : Int) (u : Tok) : ∃ e, SeqAt.EqAt A s (.int a t) (.int c u) e ∧ (e = true ↔ a = c) :=
  ⟨(a == c), SeqAt.EqAt.int_int a t c u, by simp⟩
theorem rcLt_int (A : Around) (s : Shared) (a : Int) (t : Tok) (c : Int) (u : Tok) (prog : Program) (w : World) (E : Value → Shared → Prop) (Q : Value → Shared → Prop) (h : Q (.bool (decide (a < c))) s) :
    wpAny (model prog w) A (richCompare .Lt (.int a t) (.int c u)) Q E s :=
  (PyProof.Rows.lt_int h : wpAny (model prog w) A (compareOp .Lt (.int a t) (.int c u)) Q E s)

section
open PySem.SeqAt
open PySem.AutoSeq1 (wpAny_loadPart')
open PySem.MeetsSeq PySem.MeetsSeq2 PySem.MeetsSeq3

theorem tuple_lt_ints (l b : Addr) (items items2 : Array Value) (n n2 : Nat) (dd dd2 : Option Addr) (sl sl2 : Array (Option Value)) (ns ms : List Int) (hi : IntsAre items.toList ns) (hj : IntsAre items2.toList ms) :
    Meets (Builtin.«tuple.__lt__» ⟨[.ref l, .ref b], []⟩)
      (fun _ R s => s.heap.get? l = some { cls := .type "tuple", dict := dd, data := .seq items n, slots := sl } ∧ s.heap.get? b = some { cls := .type "tuple", dict := dd2, data := .seq items2 n2, slots := sl2 } ∧
        R (.ok (.ret (.bool (lexLt ns ms)))) s) :=
  .of_wp fun prog w A R s h => by
    obtain ⟨hp, g, d, tk, os⟩ := s; obtain ⟨hl, hb, h⟩ := h
    have f2 := AutoSeq1.sub_tuple_tuple
    have z1 : items.size = ns.length := by rw [← hi.length]; simp
    have z2 : items2.size = ms.length := by rw [← hj.length]; simp
    wp_walk using wpAny_loadPart' hl, wpAny_loadPart' hb, wpAny_forIn_list _ (fun rest b s' => b.1 = none ∧ s' = ⟨hp, g, d, tk, os⟩ ∧ ∃ (vs ws : List Value) (ns' ms' : List Int), rest = vs.zip ws ∧
      IntsAre vs ns' ∧ IntsAre ws ms' ∧ ns'.length + items2.size = ms'.length + items.size ∧ R (.ok (.ret (.bool (lexLt ns' ms')))) ⟨hp, g, d, tk, os⟩) _
    case turn =>
      rintro ⟨y, x⟩ rest b s' ⟨hb', rfl, vs, ws, ns', ms', hz, hvi, hwi, hlen, hR⟩
      cases hvi with
      | nil => rw [List.zip_nil_left] at hz; cases hz
      | cons a t hvi' =>
        cases hwi with
        | nil => rw [List.zip_nil_right] at hz; cases hz
        | cons c u hwi' =>
          rw [List.zip_cons_cons] at hz
          injection hz with hyx hrest
          injection hyx with hy hx
          subst hy hx
          rw [lexLt_cons] at hR
          simp only [List.length_cons] at hlen
          obtain ⟨e, he, hiff⟩ := eqAt_int A.in1 ⟨hp, g, d, tk, os⟩ a t c u
          refine wpAny_bind (he prog w _ _ ?_)
          cases e with
          | true =>
            rw [if_pos (hiff.mp rfl)] at hR
            wp_walk
            exact ⟨rfl, rfl, _, _, _, _, hrest, hvi', hwi', by omega, hR⟩
          | false =>
            rw [if_neg (fun q => absurd (hiff.mpr q) Bool.false_ne_true)] at hR
            have hri := rcLt_int A.in1 ⟨hp, g, d, tk, os⟩ a t c u prog w
            wp_walk using hri
            exact ⟨_, rfl, by simpa using hR⟩
    case fin =>
      rintro ⟨b1, b2⟩ s' ⟨hb', rfl, vs, ws, ns', ms', hz, hvi, hwi, hlen, hR⟩
      simp only at hb'
      subst hb'
      have hv : lexLt ns' ms' = decide (items.size < items2.size) := by
        cases hvi with
        | nil =>
          cases hwi with
          | nil =>
            simp only [List.length_nil] at hlen
            rw [lexLt_nil_nil]
            exact (decide_eq_false (by omega)).symm
          | cons c u hw =>
            simp only [List.length_nil, List.length_cons] at hlen
            rw [lexLt_nil_cons]
            exact (decide_eq_true (by omega)).symm
        | cons a t hv =>
          cases hwi with
          | nil =>
            simp only [List.length_nil, List.length_cons] at hlen
            rw [lexLt_cons_nil]
            exact (decide_eq_false (by omega)).symm
          | cons c u hw =>
            rw [List.zip_cons_cons] at hz
            cases hz
      rw [hv] at hR
      wp_walk
      exact ⟨_, rfl, by simpa [Builtin.Tuple.tupleCompareSizes] using hR⟩
    case h =>
      exact ⟨rfl, rfl, items.toList, items2.toList, ns, ms, rfl, hi, hj, by omega, h⟩
end

section
variable {prog : Program} {w : World} {A : Around} {E : Value → Shared → Prop} {s : Shared}

theorem lt_tupInts {l b : Addr} {items items2 : Array Value} {ns ms : List Int} {Q : Value → Shared → Prop} (hl : IsTup s.heap l items) (hb : IsTup s.heap b items2) (hi : IntsAre items.toList ns) (hj : IntsAre items2.toList ms)
    (hu : A.units < cLine) (h : Q (.bool (lexLt ns ms)) s) : wpAny (model prog w) A (compareOp .Lt (.ref l) (.ref b)) Q E s := by
  obtain ⟨⟨cls, dd, data, sl⟩, ho, hc, n, hd⟩ := id hl
  obtain ⟨⟨cls2, dd2, data2, sl2⟩, ho2, hc2, n2, hd2⟩ := id hb
  simp only at hc hd hc2 hd2
  subst hc hd hc2 hd2
  exact richCompare_meets_room (op := .Lt) ⟨_, ho, rfl⟩ ⟨_, ho2, rfl⟩ PySem.F.slot_tuple_lt PySem.F.entry_tuple_lt (PySem.F.args_tuple_lt_2 _ _) (tuple_lt_ints l b items items2 n n2 dd dd2 sl sl2 ns ms hi hj)
    ⟨ho, ho2, show Value.bool (lexLt ns ms) ≠ Value.notImplemented ∧ Q (.bool (lexLt ns ms)) s from ⟨(fun x => nomatch x), h⟩⟩ hu

end
end HT

namespace L2
open PySem PySem.Spec PyProof.Rows

theorem intsAre_of {ns : List Int} : ∀ {us : List Value}, Vals (ns.map V.int) us → IntsAre us ns := by
  induction ns with
  | nil => intro us r; rw [List.map_nil] at r; cases r; exact .nil
  | cons n ns ih =>
    intro us r
    rw [List.map_cons] at r
    cases r with
    | cons r1 r2 =>
      obtain ⟨t, e⟩ := r1
      subst e
      exact .cons n t (ih r2)

section
variable {X : Cx} {e : Expr} {te : TE} {lo hi : Option Expr} {tl th : TO} {pos p2 : Pos}

/-! ### t < u, t + u -/
noncomputable def rLtT (K : PySem.W.Frag) : R2 := fun x y H Q => ∃ a b ns ms, x = .ref a ∧ y = .ref b ∧ SqT K H a (ns.map V.int) ∧ SqT K H b (ms.map V.int) ∧ Q (.bl (HT.lexLt ns ms)) H
theorem op_ltT (hu : X.A.units < cLine) : OpR X (compareOp .Lt) (rLtT X.K) := by
  intro pins s σ H x y v u Q I rx ry h
  obtain ⟨a, b, ns, ms, rfl, rfl, ha, hb, q⟩ := h
  cases rx
  cases ry
  obtain ⟨its, r1, p1, _⟩ := I.tuple ha
  obtain ⟨its2, r2, p2, _⟩ := I.tuple hb
  have i1 : IntsAre its.toArray.toList ns := intsAre_of r1
  have i2 : IntsAre its2.toArray.toList ms := intsAre_of r2
  exact HT.lt_tupInts p1 p2 i1 i2 hu ⟨.bl (HT.lexLt ns ms), H, I, rfl, q⟩
end
end L2

namespace L2
open PySem PySem.Spec PyProof.Rows

/-! ### places -/
/-- the place that an index of any sign means -/
noncomputable def ixN (n : Nat) (i : Int) : Option Nat := if 0 ≤ i then (if i < n then some i.toNat else none) else if -(n : Int) ≤ i then some (i + n).toNat else none
noncomputable def atI {α : Type} (xs : List α) (i : Int) : Option α := (ixN xs.length i).bind fun j => xs[j]?
theorem ixN_seq {n : Nat} {i : Int} {j : Nat} (h : ixN n i = some j) : seqIndex? i n = some j ∧ j < n ∧ -(n : Int) ≤ i ∧ i < n := by
  unfold ixN at h
  by_cases h0 : 0 ≤ i
  · rw [if_pos h0] at h
    by_cases h1 : i < n
    · rw [if_pos h1] at h
      have e : i.toNat = j := Option.some.inj h
      exact ⟨by rw [seqIndex_of h0 h1, e], by omega, by omega, h1⟩
    · rw [if_neg h1] at h; cases h
  · rw [if_neg h0] at h
    by_cases h1 : -(n : Int) ≤ i
    · rw [if_pos h1] at h
      have e : (i + n).toNat = j := Option.some.inj h
      exact ⟨by rw [seqIndex_neg (by omega) h1, e], by omega, h1, by omega⟩
    · rw [if_neg h1] at h; cases h
theorem atI_get {α : Type} {xs : List α} {i : Int} {v : α} (h : atI xs i = some v) : ∃ j, seqIndex? i xs.length = some j ∧ xs[j]? = some v ∧ j < xs.length ∧ -(xs.length : Int) ≤ i ∧ i < xs.length := by
  unfold atI at h
  cases e : ixN xs.length i with
  | none => rw [e] at h; cases h
  | some j =>
    rw [e] at h
    obtain ⟨h1, h2, h3, h4⟩ := ixN_seq e
    exact ⟨j, h1, h, h2, h3, h4⟩
theorem atI_nat {α : Type} {xs : List α} {j : Nat} {v : α} (h : xs[j]? = some v) : atI xs (j : Int) = some v := by
  have hj : j < xs.length := (List.getElem?_eq_some_iff.mp h).1
  have e : ixN xs.length (j : Int) = some j := by
    unfold ixN
    rw [if_pos (by omega), if_pos (by omega)]; simp
  unfold atI; rw [e]; exact h
/-! ### what may be subscripted -/
/-- what stands as an index of a plain subscript -/
noncomputable def PlainIx (b : Expr) : Prop := ∀ o i, subscripted b false o i = operate [o, i] (getItem o i)
/-- a subscript by values -/
noncomputable def IxR (X : Cx) (r : R2) : Prop :=
  ∀ (value slice : Expr) (pins : List (Addr × Obj)) (s : Shared) (σ : St) (H : Hp) (x y : V) (v u : Value) (Q : VK), Inv X pins σ H s → RelV x v → RelV y u → r x y H Q →
    subscripted slice false v u = operate [v, u] (getItem v u) → wpAny (model X.prog X.w) X.A (subscriptTail value slice v u) (EP X pins σ Q) X.xe s
/-- a call of a builtin's method by values: the receiver, the arguments -/
noncomputable def MtR (X : Cx) (id : String) (r : V → List V → Hp → VK → Prop) : Prop :=
  ∀ (pins : List (Addr × Obj)) (s : Shared) (σ : St) (H : Hp) (x : V) (xs : List V) (v : Value) (us : List Value) (Q : VK), Inv X pins σ H s → RelV x v → Vals xs us → r x xs H Q →
    wpAny (model X.prog X.w) X.A (call (.builtin id) (v :: us)) (EP X pins σ Q) X.xe s
section
variable {X : Cx} {a b : Expr} {ta tb : TE} {pos : Pos}
theorem IxR.or {r r' : R2} (h : IxR X r) (h' : IxR X r') : IxR X (fun x y H Q => r x y H Q ∨ r' x y H Q) := by
  intro value slice pins s σ H x y v u Q I rx ry q hs
  rcases q with q | q
  · exact h value slice pins s σ H x y v u Q I rx ry q hs
  · exact h' value slice pins s σ H x y v u Q I rx ry q hs
/-- a[b] -/
theorem pe_ix {r : R2} (hr : IxR X r) (ha : PE X a ta) (hb : PE X b tb) (hs : PlainIx b) : PE X (.Subscript a b pos) (tOp r ta tb) := by
  intro pins s σ H Q I h
  exact Subscript_ (binT ha hb I h fun v u s2 x y H2 I2 rx ry q => hr a b pins s2 σ H2 x y v u Q I2 rx ry q (hs _ _))

noncomputable def rIxL (K : PySem.W.Frag) : R2 := fun x y H Q => ∃ p xs i v, x = .ref p ∧ y = .int i ∧ SqL K H p xs ∧ atI xs i = some v ∧ Q v H
noncomputable def rIxT (K : PySem.W.Frag) : R2 := fun x y H Q => ∃ p xs i v, x = .ref p ∧ y = .int i ∧ SqT K H p xs ∧ atI xs i = some v ∧ Q v H
noncomputable def rIxS : R2 := fun x y H Q => ∃ z i c, x = .str z ∧ y = .int i ∧ z.length ≤ sizeLine ∧ atI z.cps.toList i = some c ∧ Q (.str ⟨#[c]⟩) H
theorem ix_list : IxR X (rIxL X.K) := by
  intro value slice pins s σ H x y v u Q I rx ry h hs
  obtain ⟨p, xs, i, z, rfl, rfl, hq, he, q⟩ := h
  cases rx
  obtain ⟨t, rfl⟩ := ry
  obtain ⟨its, r, pl, hz⟩ := I.list hq
  obtain ⟨j, h1, h2, h3, h4, h5⟩ := atI_get he
  obtain ⟨w, ew, rw'⟩ := r.get h2
  have hl := r.length
  have hn := line63
  have fin : EP X pins σ Q w s := ⟨z, H, I, rw', q⟩
  by_cases h0 : 0 ≤ i
  · have hj : i.toNat = j := by
      rw [seqIndex_of h0 h5] at h1
      exact Option.some.inj h1
    exact item_listR pl.isList h0 (by omega) (by rw [hj]; simpa using ew) fin hs
  · have hj : (i + (its.toArray.size : Int)).toNat = j := by
      rw [seqIndex_neg (by omega) h4] at h1
      rw [List.size_toArray, ← hl]
      exact Option.some.inj h1
    exact subscriptTail_builtinR (x := w) pl.isList.typeIs slot_list_getitem.lookup
      (wpAny_getItem_list_neg (Q := fun r s' => r = w ∧ EP X pins σ Q r s') pl.isList (by omega) (by rw [List.size_toArray] <;> omega) (by omega) (by rw [hj]; simpa using ew) ⟨rfl, fin⟩) hs
theorem ix_tup : IxR X (rIxT X.K) := by
  intro value slice pins s σ H x y v u Q I rx ry h hs
  obtain ⟨p, xs, i, z, rfl, rfl, hq, he, q⟩ := h
  cases rx
  obtain ⟨t, rfl⟩ := ry
  obtain ⟨its, r, pl, hz⟩ := I.tuple hq
  obtain ⟨j, h1, h2, h3, h4, h5⟩ := atI_get he
  obtain ⟨w, ew, rw'⟩ := r.get h2
  have hl := r.length
  have hn := line63
  have fin : EP X pins σ Q w s := ⟨z, H, I, rw', q⟩
  exact subscriptTail_builtinR (x := w) pl.typeIs slot_tuple_getitem.lookup
    (getItem_tuple (j := j) (Q := fun r s' => r = w ∧ EP X pins σ Q r s') pl (by omega) (by omega) (by rw [List.size_toArray, ← hl]; exact h1) (by simpa using ew) ⟨rfl, fin⟩) hs
theorem ix_str : IxR X rIxS := by
  intro value slice pins s σ H x y v u Q I rx ry h hs
  obtain ⟨z, i, c, rfl, rfl, hz, he, q⟩ := h
  obtain ⟨t, rfl⟩ := rx
  obtain ⟨t', rfl⟩ := ry
  obtain ⟨j, h1, h2, h3, h4, h5⟩ := atI_get he
  have hl : z.cps.toList.length = z.length := by simp [Str.length]
  rw [hl] at h1 h4 h5
  have hn := line63
  exact tail_any (typeIs_str s z t) slot_str_getitem.lookup (getItem_str (c := c) (by
    have e1 : decide (i < -(2 ^ 63 : Int)) = false := decide_eq_false (by omega)
    have e2 : decide (i ≥ 2 ^ 63) = false := decide_eq_false (by omega)
    rw [e1, e2, Bool.or_false]) (by rw [h1]; simpa using h2) ⟨.str ⟨#[c]⟩, H, I.tok _, ⟨_, rfl⟩, q⟩) hs
/-- list, tuple or str -/
noncomputable def rIx (K : PySem.W.Frag) : R2 := fun x y H Q => rIxL K x y H Q ∨ rIxT K x y H Q ∨ rIxS x y H Q
theorem ix_seq : IxR X (rIx X.K) := ix_list.or (ix_tup.or ix_str)

/-! ### len, list(x), tuple(x) of any list or tuple that is read -/
theorem call_len_seq : CallR X (.builtin "len") (fun xs H Q => ∃ p ys, xs = [.ref p] ∧ (SqL X.K H p ys ∨ SqT X.K H p ys) ∧ Q (.int ys.length) H) := by
  intro pins s σ H xs us Q I r h
  obtain ⟨p, ys, rfl, hq, q⟩ := h
  obtain ⟨u, rfl, rx⟩ := vals1 r
  cases rx
  have hn := line63
  rcases hq with hq | hq
  · obtain ⟨its, r', pl, hz⟩ := I.list hq
    have hlen := r'.length
    exact Calls.call_len_list pl.isList (by simp only [List.size_toArray] <;> omega) ⟨.int ys.length, H, I.tok _, ⟨s.toks + 1, by rw [List.size_toArray, hlen]⟩, q⟩
  · obtain ⟨its, r', pl, hz⟩ := I.tuple hq
    have hlen := r'.length
    exact len_tuple pl (by simp only [List.size_toArray] <;> omega) ⟨.int ys.length, H, I.tok _, ⟨s.toks + 1, by rw [List.size_toArray, hlen]⟩, q⟩
theorem call_len_str : CallR X (.builtin "len") (fun xs H Q => ∃ z, xs = [.str z] ∧ z.length ≤ sizeLine ∧ Q (.int z.length) H) := by
  intro pins s σ H xs us Q I r h
  obtain ⟨z, rfl, hz, q⟩ := h
  obtain ⟨u, rfl, t, rfl⟩ := vals1 r
  have hn := line63
  exact len_str (by omega) ⟨.int z.length, H, I.tok _, ⟨_, rfl⟩, q⟩
/-! ### the call of a builtin's method: o.m(..) -/
/-- the value is of that builtin type -/
noncomputable def tyV (K : PySem.W.Frag) (T : String) (x : V) (H : Hp) : Prop := match x with
  | .str _ => T = "str"
  | .int _ => T = "int"
  | .ref p => (T = "list" ∧ ∃ xs, SqL K H p xs) ∨ (T = "tuple" ∧ ∃ o, K.lookup p = some o ∧ o.cls = .type "tuple" ∧ o.dict = none) ∨
      (T = "dict" ∧ ((∃ kvs, H p = some (.dK kvs)) ∨ ∃ kvs, H p = some (.dT kvs))) ∨ (T = "set" ∧ ∃ S n, H p = some (.set S n))
  | _ => False
theorem tyV_is {pins : List (Addr × Obj)} {σ : St} {H : Hp} {s : Shared} {T : String} {x : V} {v : Value} (I : Inv X pins σ H s) (r : RelV x v) (ty : tyV X.K T x H) :
    s.TypeIs v T ∧ ∀ a, v = .ref a → ∃ ob, s.heap.get? a = some ob ∧ ob.dict = none := by
  cases x with
  | str z =>
    obtain ⟨t, rfl⟩ := r
    cases (show T = "str" from ty)
    exact ⟨typeIs_str s z t, fun _ e => nomatch e⟩
  | int i =>
    obtain ⟨t, rfl⟩ := r
    cases (show T = "int" from ty)
    exact ⟨typeIs_int s i t, fun _ e => nomatch e⟩
  | ref p =>
    cases r
    rcases ty with ⟨rfl, xs, hq⟩ | ⟨rfl, o, hk, hc, hd⟩ | ⟨rfl, hk⟩ | ⟨rfl, S, n, hk⟩
    · obtain ⟨its, _, pl, _⟩ := I.list hq
      refine ⟨pl.isList.typeIs, fun a e => ?_⟩
      cases e
      obtain ⟨o, n, e, c, hd, _⟩ := pl
      exact ⟨o, e, hd⟩
    · refine ⟨⟨o, I.kIn p o hk, hc⟩, fun a e => ?_⟩
      cases e
      exact ⟨o, I.kIn _ o hk, hd⟩
    · have z : ∃ o, s.heap.get? p = some o ∧ o.ExactDict := by
        rcases hk with ⟨kvs, hk⟩ | ⟨kvs, hk⟩
        · obtain ⟨_, _, _, _, o, _, _, e, ex, _⟩ := I.hok p _ hk
          exact ⟨o, e, ex⟩
        · obtain ⟨_, _, _, _, o, _, _, e, ex, _⟩ := I.hok p _ hk
          exact ⟨o, e, ex⟩
      obtain ⟨o, e, ex⟩ := z
      refine ⟨⟨o, e, ex.1⟩, fun a e2 => ?_⟩
      cases e2
      exact ⟨o, e, ex.2.1⟩
    · obtain ⟨o, _, _, _, e, ex, _⟩ := I.hok p _ hk
      refine ⟨⟨o, e, ex.1⟩, fun a e2 => ?_⟩
      cases e2
      exact ⟨o, e, ex.2.1⟩
  | _ => exact False.elim ty
noncomputable def tBM (K : PySem.W.Frag) (T : String) (r : V → List V → Hp → VK → Prop) (to : TE) (t : TA) : TE := fun σ H Q => to σ H fun x H1 => tyV K T x H1 ∧ t σ H1 fun xs H2 => r x xs H2 Q
variable {o e : Expr} {es : List Expr} {to : TE} {t : TA} {name : Str} {apos cpos : Pos} {T id : String} {r : V → List V → Hp → VK → Prop}
theorem pe_bm (pa : PlainAttrs T) (slot : Slot T name id) (hty : typeOf (.builtin id) = pure (.type "method_descriptor")) (hm : MtR X id r) (ho : PE X o to) (ha : PA X (e :: es) t)
    (hbase : attributeBase o name X.env (eval o X.env) = eval o X.env := by rfl)
    (hfew : ((backTo cpos (starEach (e :: es) X.env)).all (fun x => !x.1) && (backToKw cpos (keywordEach [] X.env)).all (fun x => x.1.isSome)
      && decide ((e :: es).length + ([] : List Keyword).length + (if ([] : List Keyword).isEmpty then 0 else 1) < 30)) = true := by rfl)
    (hline : (apos.endLine == cpos.line) = true := by rfl) (hs : starEach (e :: es) X.env = (false, eval e X.env) :: starEach es X.env := by rfl) (hplain : (backTo cpos (starEach es X.env)).any (·.1) = false := by rfl) :
    PE X (.Call (.Attribute o name apos) (e :: es) [] cpos) (tBM X.K T r to t) := by
  intro pins s σ H Q I h
  refine wpAny_Call_method_late hbase hfew hline rfl (thn (ho pins s σ H _ I h) fun v s1 hw' => ?_)
  obtain ⟨x, H1, I1, r1, ty, q1⟩ := hw'
  obtain ⟨h1, h2⟩ := tyV_is I1 r1 ty
  refine ⟨T, id, pa, slot, hty, h1, h2, ?_⟩
  have hA := ha cpos pins s1 σ H1 _ I1 q1
  rw [hs] at hA ⊢
  refine Calls.callWith_builtin (by show (false || (backTo cpos (starEach es X.env)).any (·.1)) = false; rw [hplain] <;> rfl) (Calls.evalArgs_plain ?_)
  exact thn hA fun us s2 ⟨vs, H2, I2, r2, q2⟩ => hm pins s2 σ H2 x vs v us Q I2 r1 r2 q2
/- xs.append(e), list.index on a module's tuple .. are MtR facts of 06m -/
end
end L2

namespace L2
open PySem PySem.Spec PyProof.Rows

noncomputable def MtM (X : Cx) (id : String) (r : V → List V → Hp → VK → Prop) : Prop :=
  ∀ (pins : List (Addr × Obj)) (s : Shared) (σ : St) (H : Hp) (x : V) (xs : List V) (v : Value) (us : List Value) (Q : VK), Inv X pins σ H s → RelV x v → Vals xs us → r x xs H Q →
    wpAny (model X.prog X.w) X.A (call (.builtin id) (v :: us)) (EP X pins σ Q) X.xe s

/-! ### lists of values -/
theorem Vals.one : ∀ {x : V} {us : List Value}, Vals [x] us → ∃ u, us = [u] ∧ RelV x u
  | _, _, .cons r .nil => ⟨_, rfl, r⟩
theorem Vals.rep {xs : List V} {us : List Value} (h : Vals xs us) : ∀ k : Nat, Vals (List.replicate k xs).flatten (List.replicate k us).flatten
  | 0 => .nil
  | k + 1 => by
    rw [List.replicate_succ, List.replicate_succ, List.flatten_cons, List.flatten_cons]
    exact Vals.append h (Vals.rep h k)
theorem foldl_rep (its : List Value) : ∀ (k : Nat) (acc : List Value),
    List.foldl (fun x1 x2 => x1 ++ x2) acc.toArray (List.replicate k its.toArray) = (acc ++ (List.replicate k its).flatten).toArray
  | 0, acc => by simp
  | k + 1, acc => by
    have e : acc.toArray ++ its.toArray = (acc ++ its).toArray := by simp
    have e2 : (acc ++ its) ++ (List.replicate k its).flatten = acc ++ (List.replicate (k + 1) its).flatten := by
      rw [List.replicate_succ, List.flatten_cons, List.append_assoc]
    rw [← e2, ← foldl_rep its k (acc ++ its), ← e, List.replicate_succ, List.foldl_cons]

section
variable {X : Cx} {pins : List (Addr × Obj)} {σ : St} {H : Hp} {s : Shared} {l b : Addr} {xs ys zs : List V}

/-! ### the two steps: a tracked list is rewritten, a new list is laid -/
theorem Inv.lset {its its' : List Value} {n : Nat} {f : Array Value → Array Value} {t' : Nat} (I : Inv X pins σ H s) (hH : H l = some (.lst xs))
    (e : s.heap.get? l = some { cls := .type "list", data := .seq its.toArray n }) (hf : f its.toArray = its'.toArray) (hv : Vals ys its') (hz : ys.length ≤ sizeLine) :
    Inv X pins σ (upd H l (.lst ys)) { s with heap := s.heap.update l (Obj.mapSeq f), toks := t' } := by
  have q := PySem.IsL.update e f
  rw [hf] at q
  refine I.write (x := l) (e := l) (by rw [hH]; exact trivial) (.inl rfl) (fun b' u hb hu => (Heap.get?_update_other s.heap (Obj.mapSeq f) (Ne.symm hb)).trans hu) ⟨_, q⟩ ?_
  exact ⟨hz, its', _, hv, q⟩
theorem Inv.lnew {its : List Value} {t' : Nat} (I : Inv X pins σ H s) (hv : Vals ys its) (hz : ys.length ≤ sizeLine) :
    Inv X pins σ (upd H s.heap.objs.size (.lst ys)) { s with heap := s.heap.push { cls := .type "list", data := .seq its.toArray }, toks := t' } :=
  I.laid (fun _ _ q => Heap.get?_push_of_some _ q) (Nat.le_refl _) ⟨hz, its, 0, hv, Heap.get?_push_size _ rfl⟩
theorem Inv.fresh (I : Inv X pins σ H s) : H s.heap.objs.size = none := I.hok.fresh (Nat.le_refl _)
theorem Inv.lstM (I : Inv X pins σ H s) (hH : H l = some (.lst xs)) : xs.length ≤ sizeLine ∧ ∃ (its : List Value) (n : Nat), Vals xs its ∧ xs.length = its.length ∧ s.heap.get? l = some { cls := .type "list", data := .seq its.toArray n } := by
  obtain ⟨z, its, n, r, e⟩ := I.hok l _ hH
  exact ⟨z, its, n, r, r.length, e⟩

theorem notLongL {n : Nat} (h : n ≤ sizeLine) : Builtin.List.listTooLong n = false := by
  unfold Builtin.List.listTooLong
  exact decide_eq_false (by omega)
end

section
variable {X : Cx}

/-! ### methods -/
noncomputable def rAppend : V → List V → Hp → VK → Prop := fun x vs H Q => ∃ l xs y, x = .ref l ∧ vs = [y] ∧ H l = some (.lst xs) ∧ xs.length < sizeLine ∧ Q .non (upd H l (.lst (xs ++ [y])))
theorem mt_append : MtM X "list.append" rAppend := by
  intro pins s σ H x vs v us Q I rx rv h
  obtain ⟨l, xs, y, rfl, rfl, hH, hz, q⟩ := h
  cases rx
  obtain ⟨u, rfl, ru⟩ := rv.one
  obtain ⟨z, its, n, r, hl, e⟩ := I.lstM hH
  refine call_meets F.slot_list_append ⟨_, e, rfl⟩ F.entry_list_append (F.args_list_append_2 _ _) (PySem.list_append l its.toArray n u (by rw [List.size_toArray]; omega)) ⟨e, ?_⟩
  refine ⟨.non, _, I.lset (its' := its ++ [u]) hH e (by simp) (r.append (.cons ru .nil)) ?_, rfl, q⟩
  rw [List.length_append, List.length_singleton]
  omega

/-! ### list + list, list += list, list * int -/
noncomputable def rCat : R2 := fun x y H Q => ∃ l b xs zs, x = .ref l ∧ y = .ref b ∧ H l = some (.lst xs) ∧ H b = some (.lst zs) ∧ xs.length + zs.length ≤ sizeLine ∧ ∀ p, H p = none → Q (.ref p) (upd H p (.lst (xs ++ zs)))
theorem op_cat : OpR X (binaryOp .Add) rCat := by
  intro pins s σ H x y v u Q I rx ry h
  obtain ⟨l, b, xs, zs, rfl, rfl, hH, hB, hz, q⟩ := h
  cases rx
  cases ry
  obtain ⟨z, its, n, r, hl, e⟩ := I.lstM hH
  obtain ⟨z2, its2, n2, r2, hl2, e2⟩ := I.lstM hB
  refine PySem.P.add_list e e2 ?_ (by rw [List.size_toArray, List.size_toArray]; omega)
  have ea : its.toArray ++ its2.toArray = (its ++ its2).toArray := by simp
  rw [ea]
  exact ⟨.ref _, _, I.lnew (t' := s.toks) (r.append r2) (by rw [List.length_append]; omega), rfl, q _ I.fresh⟩
/-- a list times an int (a negative one is nothing) -/
noncomputable def rRep : R2 := fun x y H Q => ∃ l k xs, x = .ref l ∧ y = .int k ∧ H l = some (.lst xs) ∧ -(2 ^ 63) ≤ k ∧ k < 2 ^ 63 ∧ xs.length * k.toNat ≤ sizeLine ∧
  ∀ p, H p = none → Q (.ref p) (upd H p (.lst (List.replicate k.toNat xs).flatten))
theorem len_rep {α : Type} (xs : List α) (k : Nat) : (List.replicate k xs).flatten.length = k * xs.length := by
  induction k with
  | zero => simp
  | succ k ih => rw [List.replicate_succ, List.flatten_cons, List.length_append, ih, Nat.succ_mul, Nat.add_comm]
theorem op_rep : OpR X (binaryOp .Mult) rRep := by
  intro pins s σ H x y v u Q I rx ry h
  obtain ⟨l, k, xs, rfl, rfl, hH, h1, h2, hz, q⟩ := h
  cases rx
  obtain ⟨t, rfl⟩ := ry
  obtain ⟨z, its, n, r, hl, e⟩ := I.lstM hH
  have hlen : its.toArray.size * k.toNat ≤ sizeLine := by rw [List.size_toArray, ← hl]; exact hz
  have hcap : ¬ its.toArray.size * k.toNat > (2 ^ 63 - 1) / 8 := by
    have : (sizeLine : Nat) ≤ (2 ^ 63 - 1) / 8 := by decide
    omega
  have hfit : ¬ (!Builtin.List.listFitsIndex k) = true := by
    rw [fitsIndex_both h1 h2]
    exact Bool.false_ne_true
  have hlong : ¬ Builtin.List.listTooLong (its.toArray.size * k.toNat) = true := by
    rw [notLongL hlen]
    exact Bool.false_ne_true
  have hnew : List.foldl (fun x1 x2 => x1 ++ x2) #[] (List.replicate (if its.toArray.isEmpty = true then 0 else k.toNat) its.toArray) = (List.replicate k.toNat its).flatten.toArray := by
    have f0 : ∀ m : Nat, List.foldl (fun x1 x2 => x1 ++ x2) #[] (List.replicate m its.toArray) = (List.replicate m its).flatten.toArray := fun m => by
      have := foldl_rep its m []
      rw [List.nil_append] at this
      exact this
    rw [f0]
    cases its with
    | nil => simp
    | cons a r' => rw [if_neg (by simp)]
  refine wpAny_binaryOp_repeat_ref (T := "list") (U := "int") (by decide) ⟨_, e, rfl⟩ (fun s' => typeIs_int s' k t) noFill_list_mul F.fills_int_mul F.slot_int_rmul repeat_list F.slot_int_index.lookup
    (call_meets F.slot_int_rmul (typeIs_int s k t) F.entry_int_rmul (F.args_int_rmul_2 _ _) (int___rmul___int_list k t l its.toArray n)
      ⟨e, rfl, ⟨_, e, rfl⟩, call_meets F.slot_list_mul ⟨_, e, rfl⟩ F.entry_list_mul (F.args_list_mul_2 _ _) (AutoListH.list___mul___list_int_3 l its.toArray n k t hfit hcap hlong) ⟨e, ?_⟩⟩)
  rw [hnew]
  exact ⟨.ref _, _, I.lnew (t' := s.toks) (r.rep k.toNat) (by rw [len_rep, Nat.mul_comm]; exact hz), rfl, q _ I.fresh⟩

end

/-! ### xs[a:b] = ys -/
section
variable {prog : Program} {w : World} {A : Around} {E : Value → Shared → Prop} {s : Shared}
set_option maxRecDepth 100000 in
end

section
variable {X : Cx}
end
end L2

namespace L2
open PySem PySem.Spec PyProof.Rows

/-! ### lists of pairs as tables -/
section
variable {κ : Type} [DecidableEq κ]
noncomputable def valV (kvs : List (κ × V)) (k : κ) : Option V := (kvs.find? fun kv => decide (kv.1 = k)).map (·.2)
/-- in its place, or at the end -/
noncomputable def putK (kvs : List (κ × V)) (k : κ) (v : V) : List (κ × V) :=
  if (kvs.any fun kv => decide (kv.1 = k)) = true then kvs.map (fun kv => if kv.1 = k then (kv.1, v) else kv) else kvs ++ [(k, v)]
noncomputable def dropK (kvs : List (κ × V)) (k : κ) : List (κ × V) := kvs.filter fun kv => decide (kv.1 ≠ k)

theorem valV_pos {p : κ × V} {r : List (κ × V)} {k : κ} (e : p.1 = k) : valV (p :: r) k = some p.2 := by simp [valV, List.find?_cons, e]
theorem valV_neg {p : κ × V} {r : List (κ × V)} {k : κ} (e : ¬ p.1 = k) : valV (p :: r) k = valV r k := by simp [valV, List.find?_cons, e]
theorem valV_any (k : κ) : ∀ kvs : List (κ × V), (kvs.any fun kv => decide (kv.1 = k)) = (valV kvs k).isSome
  | [] => rfl
  | p :: r => by
    rw [List.any_cons]
    by_cases e : p.1 = k
    · simp only [valV_pos e, decide_eq_true e, Bool.true_or, Option.isSome_some]
    · rw [valV_neg e, decide_eq_false e, Bool.false_or]; exact valV_any k r
theorem length_putK (kvs : List (κ × V)) (k : κ) (v : V) : (putK kvs k v).length ≤ kvs.length + 1 := by
  unfold putK
  split
  · rw [List.length_map]; omega
  · rw [List.length_append, List.length_cons, List.length_nil]; omega
theorem RelO.isSome_eq {o : Option V} {u : Option Value} (r : RelO o u) : o.isSome = u.isSome := by
  cases o with
  | none => cases u with
    | none => rfl
    | some _ => exact (show False from r).elim
  | some _ => cases u with
    | none => exact (show False from r).elim
    | some _ => rfl
theorem RelO.getD {o : Option V} {u : Option Value} {d : V} {d' : Value} (r : RelO o u) (rd : RelV d d') : RelV (o.getD d) (u.getD d') := by
  cases o with
  | none => cases u with
    | none => exact rd
    | some _ => exact (show False from r).elim
  | some _ => cases u with
    | none => exact (show False from r).elim
    | some _ => exact r

/-- raw tables of the same keys -/
theorem KV.val {kvs : List (κ × V)} {vs : List (κ × Value)} (r : KV kvs vs) (k : κ) : RelO (valV kvs k) (valueAt vs k) := by
  unfold KV at r
  induction r with
  | nil => exact True.intro
  | @cons p q ps qs h t ih =>
    obtain ⟨h1, h2⟩ := h
    by_cases e : p.1 = k
    · have e' : q.1 = k := h1.symm.trans e
      have b : valueAt (q :: qs) k = some q.2 := by simp [valueAt, List.find?_cons, e']
      rw [valV_pos e, b]; exact h2
    · have e' : ¬ q.1 = k := fun z => e (h1.trans z)
      have b : valueAt (q :: qs) k = valueAt qs k := by simp [valueAt, List.find?_cons, e']
      rw [valV_neg e, b]; exact ih
theorem KV.any {kvs : List (κ × V)} {vs : List (κ × Value)} (r : KV kvs vs) (k : κ) : (kvs.any fun kv => decide (kv.1 = k)) = vs.any fun kv => decide (kv.1 = k) := by
  unfold KV at r
  induction r with
  | nil => rfl
  | cons h t ih => rw [List.any_cons, List.any_cons, ih, h.1]
theorem KV.repl {kvs : List (κ × V)} {vs : List (κ × Value)} (r : KV kvs vs) (k : κ) {y : V} {u : Value} (ry : RelV y u) :
    KV (kvs.map fun kv => if kv.1 = k then (kv.1, y) else kv) (vs.map fun kv => if kv.1 = k then (kv.1, u) else kv) := by
  unfold KV at r ⊢
  induction r with
  | nil => exact .nil
  | @cons p q ps qs h t ih =>
    rw [List.map_cons, List.map_cons]
    refine .cons ?_ ih
    obtain ⟨h1, h2⟩ := h
    by_cases e : p.1 = k
    · rw [if_pos e, if_pos (h1.symm.trans e)]; exact ⟨h1, ry⟩
    · rw [if_neg e, if_neg (fun z => e (h1.trans z))]; exact ⟨h1, h2⟩
theorem KV.put {kvs : List (κ × V)} {vs : List (κ × Value)} (r : KV kvs vs) (k : κ) {y : V} {u : Value} (ry : RelV y u) : KV (putK kvs k y) (stored vs k u) := by
  unfold putK stored
  rw [r.any k]
  by_cases e : (vs.any fun kv => decide (kv.1 = k)) = true
  · rw [if_pos e, if_pos e]; exact r.repl k ry
  · rw [if_neg e, if_neg e]; exact Paired.snoc r ⟨rfl, ry⟩
theorem KV.drop {kvs : List (κ × V)} {vs : List (κ × Value)} (r : KV kvs vs) (k : κ) : KV (dropK kvs k) (without vs k) := by
  unfold KV at r ⊢
  unfold dropK without
  induction r with
  | nil => exact .nil
  | @cons p q ps qs h t ih =>
    obtain ⟨h1, h2⟩ := h
    rw [List.filter_cons, List.filter_cons]
    by_cases e : p.1 = k
    · have a : ¬ decide (p.1 ≠ k) = true := by simp [e]
      have b : ¬ decide (q.1 ≠ k) = true := by simp [h1.symm.trans e]
      rw [if_neg a, if_neg b]; exact ih
    · have e' : ¬ q.1 = k := fun z => e (h1.trans z)
      have a : decide (p.1 ≠ k) = true := by simp [e]
      have b : decide (q.1 ≠ k) = true := by simp [e']
      rw [if_pos a, if_pos b]; exact .cons ⟨h1, h2⟩ ih
theorem KV.keys {kvs : List (κ × V)} {vs : List (κ × Value)} (r : KV kvs vs) : kvs.map (·.1) = vs.map (·.1) := by
  unfold KV at r
  induction r with
  | nil => rfl
  | cons h t ih => rw [List.map_cons, List.map_cons, ih, h.1]
theorem KV.length {kvs : List (κ × V)} {vs : List (κ × Value)} (r : KV kvs vs) : kvs.length = vs.length := Paired.length r
theorem dropK_le (kvs : List (κ × V)) (k : κ) : (dropK kvs k).length ≤ kvs.length := List.length_filter_le _ _
end


/-! ### a tracked dict, its keys ints and texts or tuples of these -/
theorem kV_is {P : Program} {w : World} {k : Key} {u : Value} (r : RelV (kV k) u) : (mixKind P w).is k u = true := by
  cases k with
  | inl i => obtain ⟨t, e⟩ := (show ∃ t, u = Value.int i t from r); subst e; exact mixKind_int P w i t
  | inr x => obtain ⟨t, e⟩ := (show ∃ t, u = Value.str x t from r); subst e; exact mixKind_str P w x t
theorem items_are {P : Program} {w : World} : ∀ {ks : List Key} {us : List Value}, Vals (ks.map kV) us → ItemsAre (mixKind P w) ks us
  | [], _, r => by rw [List.map_nil] at r; cases r; exact .nil
  | k :: ks, _, r => by
    rw [List.map_cons] at r
    cases r with
    | cons h t => exact .cons (kV_is h) (items_are t)

/-- raw entries of a dict with tuple keys -/
noncomputable abbrev KT (H : Hp) : List (List Key × V) → List (List Key × Addr × Value) → Prop := Paired fun p q => p.1 = q.1 ∧ H q.2.1 = some (.tup (p.1.map kV)) ∧ RelV p.2 q.2.2
theorem KT.val {H : Hp} {kvs : List (List Key × V)} {xs : List (List Key × Addr × Value)} (r : KT H kvs xs) (k : List Key) : RelO (valV kvs k) ((atKey xs k).map (·.2)) := by
  induction r with
  | nil => exact True.intro
  | @cons p q ps qs h t ih =>
    obtain ⟨h1, _, h2⟩ := h
    by_cases e : p.1 = k
    · have e' : q.1 = k := h1.symm.trans e
      have b : atKey (q :: qs) k = some q.2 := by simp [atKey, List.find?_cons, e']
      rw [valV_pos e, b]; exact h2
    · have e' : ¬ q.1 = k := fun z => e (h1.trans z)
      have b : atKey (q :: qs) k = atKey qs k := by simp [atKey, List.find?_cons, e']
      rw [valV_neg e, b]; exact ih
theorem KT.repl {H : Hp} {kvs : List (List Key × V)} {xs : List (List Key × Addr × Value)} (r : KT H kvs xs) (k : List Key) {y : V} {u : Value} (ry : RelV y u) :
    KT H (kvs.map fun kv => if kv.1 = k then (kv.1, y) else kv) (xs.map (putAt k u)) := by
  induction r with
  | nil => exact .nil
  | @cons p q ps qs h t ih =>
    rw [List.map_cons, List.map_cons]
    refine .cons ?_ ih
    obtain ⟨h1, h2, h3⟩ := h
    unfold putAt
    by_cases e : p.1 = k
    · rw [if_pos e, if_pos (h1.symm.trans e)]; exact ⟨h1, h2, ry⟩
    · rw [if_neg e, if_neg (fun z => e (h1.trans z))]; exact ⟨h1, h2, h3⟩
theorem KT.put {H : Hp} {kvs : List (List Key × V)} {xs : List (List Key × Addr × Value)} (r : KT H kvs xs) (k : List Key) {b : Addr} {y : V} {u : Value} (hb : H b = some (.tup (k.map kV))) (ry : RelV y u) :
    KT H (putK kvs k y) (storedH xs k b u) := by
  have e : (kvs.any fun kv => decide (kv.1 = k)) = (atKey xs k).isSome := by
    rw [valV_any, (r.val k).isSome_eq, Option.isSome_map]
  unfold putK storedH
  rw [e]
  by_cases q : (atKey xs k).isSome = true
  · rw [if_pos q, if_pos q]; exact r.repl k ry
  · rw [if_neg q, if_neg q]; exact Paired.snoc r ⟨rfl, hb, ry⟩
theorem KT.keeps {H H' : Hp} {kvs : List (List Key × V)} {xs : List (List Key × Addr × Value)} (r : KT H kvs xs) (ht : ∀ b ys, H b = some (.tup ys) → H' b = some (.tup ys)) : KT H' kvs xs :=
  Paired.mapP r fun _ _ z => ⟨z.1, ht _ _ z.2.1, z.2.2⟩

section
variable {P : Program} {w : World} {H : Hp} {h : Heap} {a : Addr}
theorem rd_of {u : HO} (ok : HOk P w H h) (e : Rd H a u) : ObjOk P w H h a u := e.ok ok
theorem dk_rd {kvs : List (Key × V)} (ok : HOk P w H h) (e : Rd H a (.dK kvs)) : kvs.length ≤ sizeLine ∧ (a == sysModules) = false ∧ ∃ vs, KV kvs vs ∧ h.DictOf (mixKind P w) a vs :=
  show ObjOk P w H h a (.dK kvs) from rd_of ok e
theorem dk_of {kvs : List (Key × V)} (ok : HOk P w H h) (e : H a = some (.dK kvs)) : kvs.length ≤ sizeLine ∧ (a == sysModules) = false ∧ ∃ vs, KV kvs vs ∧ h.DictOf (mixKind P w) a vs := dk_rd ok (.inl e)
/-- a tracked tuple of ints and texts is a key -/
theorem key_of {ks : List Key} (ok : HOk P w H h) (e : H a = some (.tup (ks.map kV))) : (tupleKind (mixKind P w)).is h ks a := by
  obtain ⟨_, its, r, o, h1, h2, n, h3⟩ := (show ObjOk P w H h a (.tup (ks.map kV)) from ok a _ e)
  exact ⟨o, its.toArray, n, h1, h2, h3, by simpa using items_are r⟩
theorem dt_rd {kvs : List (List Key × V)} (ok : HOk P w H h) (e : Rd H a (.dT kvs)) : kvs.length ≤ sizeLine ∧ (a == sysModules) = false ∧
    ∃ xs, KT H kvs xs ∧ h.DictOfH (tupleKind (mixKind P w)) a xs := by
  obtain ⟨z, y, xs, r, o, es, ep, h1, h2, h3, h4, h5⟩ := (show ObjOk P w H h a (.dT kvs) from rd_of ok e)
  refine ⟨z, y, xs, r, o, es, ep, h1, h2, h3, h4, fun x hx => ?_, h5⟩
  have all : ∀ {l : List (List Key × V)} {m : List (List Key × Addr × Value)}, KT H l m → ∀ x ∈ m, (tupleKind (mixKind P w)).is h x.1 x.2.1 := by
    intro l m q
    induction q with
    | nil => intro x hx; exact nomatch hx
    | @cons p q ps qs hq t ih =>
      intro x hx
      rcases List.mem_cons.mp hx with e | hx
      · subst e
        exact key_of ok (by rw [← hq.1]; exact hq.2.1)
      · exact ih x hx
  exact all r x hx
theorem dt_of {kvs : List (List Key × V)} (ok : HOk P w H h) (e : H a = some (.dT kvs)) : kvs.length ≤ sizeLine ∧ (a == sysModules) = false ∧
    ∃ xs, KT H kvs xs ∧ h.DictOfH (tupleKind (mixKind P w)) a xs := dt_rd ok (.inl e)
end

/-- what the dict at a holds at the key y -/
noncomputable def DGet (H : Hp) (a : Addr) (y : V) (r : Option V) : Prop :=
  (∃ kvs k, Rd H a (.dK kvs) ∧ y = kV k ∧ r = valV kvs k) ∨ ∃ kvs k b, Rd H a (.dT kvs) ∧ y = .ref b ∧ H b = some (.tup (k.map kV)) ∧ r = valV kvs k
/-- the heap behind a[y] = v -/
noncomputable def DPut (H : Hp) (a : Addr) (y v : V) (H' : Hp) : Prop :=
  (∃ kvs k, H a = some (.dK kvs) ∧ y = kV k ∧ kvs.length < sizeLine ∧ H' = upd H a (.dK (putK kvs k v))) ∨
  ∃ kvs k b, H a = some (.dT kvs) ∧ y = .ref b ∧ H b = some (.tup (k.map kV)) ∧ kvs.length < sizeLine ∧ H' = upd H a (.dT (putK kvs k v))
theorem DGet.k {H : Hp} {a : Addr} {kvs : List (Key × V)} {k : Key} (e : H a = some (.dK kvs)) : DGet H a (kV k) (valV kvs k) := .inl ⟨kvs, k, .inl e, rfl, rfl⟩
theorem DGet.t {H : Hp} {a b : Addr} {kvs : List (List Key × V)} {k : List Key} (e : H a = some (.dT kvs)) (eb : H b = some (.tup (k.map kV))) : DGet H a (.ref b) (valV kvs k) := .inr ⟨kvs, k, b, .inl e, rfl, eb, rfl⟩
theorem DPut.k {H : Hp} {a : Addr} {kvs : List (Key × V)} {k : Key} {v : V} (e : H a = some (.dK kvs)) (hl : kvs.length < sizeLine) : DPut H a (kV k) v (upd H a (.dK (putK kvs k v))) := .inl ⟨kvs, k, e, rfl, hl, rfl⟩
theorem DPut.t {H : Hp} {a b : Addr} {kvs : List (List Key × V)} {k : List Key} {v : V} (e : H a = some (.dT kvs)) (eb : H b = some (.tup (k.map kV))) (hl : kvs.length < sizeLine) :
    DPut H a (.ref b) v (upd H a (.dT (putK kvs k v))) := .inr ⟨kvs, k, b, e, rfl, eb, hl, rfl⟩


section
variable {X : Cx} {pins : List (Addr × Obj)} {σ : St} {H : Hp} {s : Shared} {a : Addr} {y v : V} {u r : Value} {o : Option V} {A : Around} {E : Value → Shared → Prop}

theorem Inv.big (I : Inv X pins σ H s) : sysModules < s.heap.objs.size := by
  have h : mainGlobals < s.heap.objs.size := (I.mod.glob.keeps I.bk).lt
  exact Nat.lt_trans (by decide) h

/-- d[y], there -/
theorem d_getItem {Q : Value → Shared → Prop} (hu : A.units + 1 < cLine) (I : Inv X pins σ H s) (g : DGet H a y (some v)) (ry : RelV y u) (h : ∀ w' s', Inv X pins σ H s' → RelV v w' → Q w' s') :
    wpAny (model X.prog X.w) A (getItem (.ref a) u) Q E s := by
  rcases g with ⟨kvs, k, e, ey, l⟩ | ⟨kvs, k, b, e, ey, eb, l⟩
  · subst ey
    obtain ⟨z, hd, vs, rel, dd⟩ := dk_rd I.hok e
    obtain ⟨w', hw, rw'⟩ := RelO.some_of (v := v) (o := valueAt vs k) (by rw [l]; exact rel.val k)
    exact wpAny_getItem_of (kV_is ry) dd.mapOf hw (h w' _ (I.tok _) rw')
  · subst ey
    cases (show u = Value.ref b from ry)
    obtain ⟨z, hd, xs, rel, dd⟩ := dt_rd I.hok e
    obtain ⟨w', hw, rw'⟩ := RelO.some_of (v := v) (o := (atKey xs k).map (·.2)) (by rw [l]; exact rel.val k)
    obtain ⟨p, hp, hp2⟩ := Option.map_eq_some_iff.mp hw
    refine wpAny_getItem_heap (tupleKind_room_in1 hu) (key_of I.hok eb) dd hp ?_
    rw [hp2]
    exact h w' _ (I.tok _) rw'
/-- y in d -/
theorem d_in {Q : Value → Shared → Prop} (hu : A.units + 1 < cLine) (I : Inv X pins σ H s) (g : DGet H a y o) (ry : RelV y u) (h : ∀ s', Inv X pins σ H s' → Q (.bool o.isSome) s') :
    wpAny (model X.prog X.w) A (compareOp .In u (.ref a)) Q E s := by
  rcases g with ⟨kvs, k, e, ey, l⟩ | ⟨kvs, k, b, e, ey, eb, l⟩
  · subst ey
    obtain ⟨z, hd, vs, rel, dd⟩ := dk_rd I.hok e
    refine wpAny_in_of (kV_is ry) hd dd.mapOf ?_
    rw [← (rel.val k).isSome_eq, ← l]
    exact h _ (I.tok _)
  · subst ey
    cases (show u = Value.ref b from ry)
    obtain ⟨z, hd, xs, rel, dd⟩ := dt_rd I.hok e
    refine wpAny_in_heap (tupleKind_room_in1 hu) (key_of I.hok eb) hd dd ?_
    have q := (rel.val k).isSome_eq
    rw [Option.isSome_map] at q
    rw [← q, ← l]
    exact h _ (I.tok _)
theorem d_notIn {Q : Value → Shared → Prop} (hu : A.units + 1 < cLine) (I : Inv X pins σ H s) (g : DGet H a y o) (ry : RelV y u) (h : ∀ s', Inv X pins σ H s' → Q (.bool (!o.isSome)) s') :
    wpAny (model X.prog X.w) A (compareOp .NotIn u (.ref a)) Q E s := by
  rcases g with ⟨kvs, k, e, ey, l⟩ | ⟨kvs, k, b, e, ey, eb, l⟩
  · subst ey
    obtain ⟨z, hd, vs, rel, dd⟩ := dk_rd I.hok e
    refine wpAny_notIn_of (kV_is ry) hd dd.mapOf ?_
    rw [← (rel.val k).isSome_eq, ← l]
    exact h _ (I.tok _)
  · subst ey
    cases (show u = Value.ref b from ry)
    obtain ⟨z, hd, xs, rel, dd⟩ := dt_rd I.hok e
    refine wpAny_notIn_heap (tupleKind_room_in1 hu) (key_of I.hok eb) hd dd ?_
    have q := (rel.val k).isSome_eq
    rw [Option.isSome_map] at q
    rw [← q, ← l]
    exact h _ (I.tok _)
/-- a dict's object is replaced -/
theorem d_write {h' : Heap} {t' : Nat} {ob : HO} (I : Inv X pins σ H s) (mu : Mut (H a)) (hs : Heap.SameBut a s.heap h') (he : ∃ q, h'.get? a = some q) (new : ObjOk X.prog X.w (upd H a ob) h' a ob) :
    Inv X pins σ (upd H a ob) { s with heap := h', toks := t' } :=
  I.write (x := a) (e := a) mu (.inl rfl) (fun b q hb z => (hs.2 b hb).trans z) he new
theorem dk_new {P : Program} {w : World} {H' : Hp} {h' : Heap} {kvs : List (Key × V)} {vs : List (Key × Value)} (z : kvs.length ≤ sizeLine) (hd : (a == sysModules) = false) (rel : KV kvs vs) (dd : h'.DictOf (mixKind P w) a vs) :
    ObjOk P w H' h' a (.dK kvs) := ⟨z, hd, vs, rel, dd⟩
/-- d[y] = v -/
theorem d_setItem {H' : Hp} {Q : Unit → Shared → Prop} (hu : A.units + 1 < cLine) (I : Inv X pins σ H s) (g : DPut H a y v H') (ry : RelV y u) (rv : RelV v r) (h : ∀ s', Inv X pins σ H' s' → Q () s') :
    wpAny (model X.prog X.w) A (setItem (.ref a) u r) Q E s := by
  rcases g with ⟨kvs, k, e, ey, l, eH⟩ | ⟨kvs, k, b, e, ey, eb, l, eH⟩
  · subst ey eH
    obtain ⟨z, hd, vs, rel, dd⟩ := dk_of I.hok e
    have hz : vs.length ≤ sizeLine := by rw [← rel.length]; exact z
    have hl : (putK kvs k v).length ≤ sizeLine := by have := length_putK kvs k v; omega
    refine wpAny_setItem_pairs (hsz := hz) (kV_is ry) dd fun h' dd' hs => h _ ?_
    have he : ∃ q, h'.get? a = some q := let ⟨q, _, _, hq, _⟩ := dd'; ⟨q, hq⟩
    exact d_write I (by rw [e]; exact True.intro) hs he (dk_new hl hd (rel.put k rv) dd')
  · subst ey eH
    cases (show u = Value.ref b from ry)
    obtain ⟨z, hd, xs, rel, dd⟩ := dt_of I.hok e
    have hz : xs.length ≤ sizeLine := by rw [← Paired.length rel]; exact z
    have hl : (putK kvs k v).length ≤ sizeLine := by have := length_putK kvs k v; omega
    refine wpAny_setItem_heap (hsz := hz) (tupleKind_room_in1 hu) (key_of I.hok eb) dd fun h' dd' hs => h _ ?_
    obtain ⟨q, es, ep, hq, h2, h3, h4, _, h5⟩ := dd'
    refine d_write I (by rw [e]; exact True.intro) hs ⟨q, hq⟩ ⟨hl, hd, _, (rel.put k eb rv).keeps fun c ys ec => ?_, q, es, ep, hq, h2, h3, h4, h5⟩
    rw [upd_ne (ne_of ec e (fun z => nomatch z))]
    exact ec
end

section
variable {X : Cx} {pins : List (Addr × Obj)} {σ : St} {H : Hp} {s : Shared} {a : Addr} {kvs : List (Key × V)} {k : Key} {u : Value} {A : Around} {E : Value → Shared → Prop}
/-- d.pop(k[, x]), there -/
theorem d_pop {v : V} {more : List Value} {Q : Value → Shared → Prop} (I : Inv X pins σ H s) (e : H a = some (.dK kvs)) (ry : RelV (kV k) u) (l : valV kvs k = some v) (hm : more = [] ∨ ∃ x, more = [x])
    (h : ∀ w' s', Inv X pins σ (upd H a (.dK (dropK kvs k))) s' → RelV v w' → Q w' s') : wpAny (model X.prog X.w) A (call (.builtin "dict.pop") (.ref a :: u :: more)) Q E s := by
  obtain ⟨z, hd, vs, rel, dd⟩ := dk_of I.hok e
  obtain ⟨w', hw, rw'⟩ := RelO.some_of (v := v) (o := valueAt vs k) (by rw [← l]; exact rel.val k)
  have hp : (keyPart u).isSome = true := by
    cases k with
    | inl i => obtain ⟨t, q⟩ := (show ∃ t, u = Value.int i t from ry); subst q; rfl
    | inr x => obtain ⟨t, q⟩ := (show ∃ t, u = Value.str x t from ry); subst q; rfl
  have ha : argsOk "dict.pop" ⟨.ref a :: u :: more, []⟩ := by
    rcases hm with q | ⟨x, q⟩
    · subst q; exact PySem.F.args_dict_pop_2 _ _
    · subst q; exact PySem.F.args_dict_pop_3 _ _ _
  refine call_meetsIn PySem.F.slot_dict_pop dd.typeIs PySem.F.entry_dict_pop ha (meets_dict_pop_there (mixKind X.prog X.w) a (kV_is ry) more hm hp)
    ⟨vs, w', dd, by rw [← rel.length]; exact z, hw, fun h' dd' hs => h w' _ ?_ rw'⟩
  have he : ∃ q, h'.get? a = some q := let ⟨q, _, _, hq, _⟩ := dd'; ⟨q, hq⟩
  exact d_write I (by rw [e]; exact True.intro) hs he (dk_new (Nat.le_trans (dropK_le kvs k) z) hd (rel.drop k) dd')
end


/-! ### readings and rules -/
/-- the element of a subscription, not a slice -/
noncomputable def NoSl (i : Expr) : Prop := ∀ ov iv, subscripted i false ov iv = operate [ov, iv] (getItem ov iv)
theorem subD_of {prog : Program} {w : World} {A : Around} {E : Value → Shared → Prop} {s : Shared} {env : Env} {value slice : Expr} {pos : Pos} {T id : String} {Q : Value → Shared → Prop}
    (hl : typeLookup (.type T) "__getitem__" = pure (some (.builtin id))) (hs : NoSl slice)
    (h : wpAny (model prog w) A (eval value env) (fun o s₁ => wpAny (model prog w) A (eval slice env) (fun i s₂ => s₂.TypeIs o T ∧ wpAny (model prog w) A (getItem o i) Q E s₂) E s₁) E s) :
    wpAny (model prog w) A (eval (.Subscript value slice pos) env) Q E s := by
  refine Subscript_ (wpAny_mono h (fun o s₁ h₁ => wpAny_mono h₁ (fun i s₂ h₂ => ?_) fun _ _ x => x) fun _ _ x => x)
  obtain ⟨hT, h₂⟩ := h₂
  unfold subscriptTail
  refine wpAny_bind ?_
  rw [getitemInPython_of_ne hT.not_modules]
  refine wpAny_bind (wpAny_specialOf hT hl ?_)
  have fin : wpAny (model prog w) A (subscripted slice false o i) (fun r s₃ => wpAny (model prog w) A (letTemporaryGo value o r >>= fun _ => pure r) Q E s₃) E s₂ := by
    rw [hs o i]
    exact wpAny_operating (wpAny_mono h₂ (fun r s₃ h₃ => wpAny_bind (wpAny_letTemporaryGo (wpAny_pure h₃))) fun _ _ x => x)
  first
    | exact wpAny_pure (wpAny_bind fin)
    | exact wpAny_bind (wpAny_pure (wpAny_bind fin))
    | exact wpAny_bind fin

theorem dict_typeIs {X : Cx} {pins : List (Addr × Obj)} {σ : St} {H : Hp} {s : Shared} {a : Addr} {y : V} {o : Option V} (I : Inv X pins σ H s) (g : DGet H a y o) : s.TypeIs (.ref a) "dict" := by
  rcases g with ⟨kvs, k, e, _, _⟩ | ⟨kvs, k, b, e, _, _, _⟩
  · obtain ⟨_, _, vs, _, dd⟩ := dk_rd I.hok e
    exact dd.typeIs
  · obtain ⟨_, _, xs, _, dd⟩ := dt_rd I.hok e
    exact dd.typeIs
/-- d[y] -/
noncomputable def tDGet (td ty : TE) : TE := fun σ H Q => td σ H fun x H1 => ty σ H1 fun y H2 => ∃ a v, x = .ref a ∧ DGet H2 a y (some v) ∧ Q v H2
/-- y in d, y not in d -/
noncomputable def tDIn (ty td : TE) : TE := fun σ H Q => ty σ H fun y H1 => td σ H1 fun x H2 => ∃ a o, x = .ref a ∧ DGet H2 a y o ∧ Q (.bl o.isSome) H2
noncomputable def tDNotIn (ty td : TE) : TE := fun σ H Q => ty σ H fun y H1 => td σ H1 fun x H2 => ∃ a o, x = .ref a ∧ DGet H2 a y o ∧ Q (.bl (!o.isSome)) H2
/-- d[y] = v -/
noncomputable def sDPut (td ty tv : TE) : TS := fun D σ H => tv σ H fun v H1 => td σ H1 fun x H2 => ty σ H2 fun y H3 => ∃ a H4, x = .ref a ∧ DPut H3 a y v H4 ∧ D.nx σ H4
section
variable {X : Cx} {o i e value : Expr} {pos pos' tpos : Pos} {td ty tv : TE}
theorem pe_dget (hu : X.A.units + 1 < cLine) (ho : PE X o td) (hi : PE X i ty) (hs : NoSl i) : PE X (.Subscript o i pos) (tDGet td ty) := by
  intro pins s σ H Q I h
  refine subD_of PySem.F.slot_dict_getitem.lookup hs (thn (ho pins s σ H _ I h) fun u s1 ⟨x, H1, I1, rx, q1⟩ => thn (hi pins s1 σ H1 _ I1 q1) fun iv s2 hw' => ?_)
  obtain ⟨y, H2, I2, ry, a, v, ex, g, q2⟩ := hw'
  subst ex
  obtain rfl : u = Value.ref a := rx
  exact ⟨dict_typeIs I2 g, d_getItem hu I2 g ry fun w' s3 I3 rw' => ⟨v, H2, I3, rw', q2⟩⟩
theorem pc_din (hu : X.A.units + 1 < cLine) (hi : PE X i ty) (ho : PE X o td) : PC X .In i o (tDIn ty td) := by
  intro pins s σ H Q I h
  refine thn (hi pins s σ H _ I h) fun iv s1 ⟨y, H1, I1, ry, q1⟩ => thn (ho pins s1 σ H1 _ I1 q1) fun u s2 hw' => ?_
  obtain ⟨x, H2, I2, rx, a, ov, ex, g, q2⟩ := hw'
  subst ex
  obtain rfl : u = Value.ref a := rx
  exact d_in hu I2 g ry fun s3 I3 => ⟨.bl ov.isSome, H2, I3, rfl, q2⟩
theorem pc_dnotin (hu : X.A.units + 1 < cLine) (hi : PE X i ty) (ho : PE X o td) : PC X .NotIn i o (tDNotIn ty td) := by
  intro pins s σ H Q I h
  refine thn (hi pins s σ H _ I h) fun iv s1 ⟨y, H1, I1, ry, q1⟩ => thn (ho pins s1 σ H1 _ I1 q1) fun u s2 hw' => ?_
  obtain ⟨x, H2, I2, rx, a, ov, ex, g, q2⟩ := hw'
  subst ex
  obtain rfl : u = Value.ref a := rx
  exact d_notIn hu I2 g ry fun s3 I3 => ⟨.bl (!ov.isSome), H2, I3, rfl, q2⟩
theorem ps_dput (hu : X.A.units + 1 < cLine) (ho : PE X o td) (hi : PE X i ty) (hv : PE X value tv) (hs : swapsWith value (some (.Subscript o i pos')) pos.line X.env = pure false) :
    PS X (.Assign [.Subscript o i pos'] value pos) (sDPut td ty tv) := by
  intro pins s σ H D I h
  refine wpAny_Assign_Subscript (thn (hv pins s σ H _ I h) fun r s1 ⟨v, H1, I1, rv, q1⟩ => thn (ho pins s1 σ H1 _ I1 q1) fun u s2 ⟨x, H2, I2, rx, q2⟩ => thn (hi pins s2 σ H2 _ I2 q2) fun iv s3 hw' => ?_) hs
  obtain ⟨y, H3, I3, ry, a, H4, ex, g, q3⟩ := hw'
  subst ex
  obtain rfl : u = Value.ref a := rx
  exact d_setItem hu I3 g ry rv fun s4 I4 => ⟨σ, H4, I4, q3⟩
end


/-! ### displays -/
theorem dk_empty {P : Program} {w : World} {H : Hp} (h : Heap) (hb : sysModules < h.objs.size) : ObjOk P w H (h.push { cls := .type "dict", data := .dict #[] }) h.objs.size (.dK []) :=
  ⟨Nat.zero_le _, beq_eq_false_iff_ne.mpr (Ne.symm (Nat.ne_of_lt hb)), [], .nil, Heap.DictOf.new h⟩
theorem dt_empty {P : Program} {w : World} {H : Hp} (h : Heap) (hb : sysModules < h.objs.size) : ObjOk P w H (h.push { cls := .type "dict", data := .dict #[] }) h.objs.size (.dT []) :=
  ⟨Nat.zero_le _, beq_eq_false_iff_ne.mpr (Ne.symm (Nat.ne_of_lt hb)), [], .nil, _, #[], 0, Heap.get?_push_size _ rfl, ⟨rfl, rfl, rfl⟩, rfl, rfl, List.nodup_nil⟩
/-- {}, to be a dict of the kind that is wanted -/
noncomputable def tDNewK : TE := fun _ H Q => ∀ p, H p = none → Q (.ref p) (upd H p (.dK []))
noncomputable def tDNewT : TE := fun _ H Q => ∀ p, H p = none → Q (.ref p) (upd H p (.dT []))
section
variable {X : Cx} {pos : Pos}
theorem pe_dnewK : PE X (.Dict [] [] pos) tDNewK := fun pins s σ H Q I h =>
  wpAny_Dict_empty ⟨.ref s.heap.objs.size, _, I.laid (a := s.heap.objs.size) (o := .dK []) (t' := s.toks) (fun _ _ q => Heap.get?_push_of_some _ q) (Nat.le_refl _) (dk_empty s.heap I.big), rfl, h _ (I.hok.fresh (Nat.le_refl _))⟩
theorem pe_dnewT : PE X (.Dict [] [] pos) tDNewT := fun pins s σ H Q I h =>
  wpAny_Dict_empty ⟨.ref s.heap.objs.size, _, I.laid (a := s.heap.objs.size) (o := .dT []) (t' := s.toks) (fun _ _ q => Heap.get?_push_of_some _ q) (Nat.le_refl _) (dt_empty s.heap I.big), rfl, h _ (I.hok.fresh (Nat.le_refl _))⟩
end

/-- the pairs of a display, from the left -/
noncomputable def tPairs : List (TE × TE) → St → Hp → (List (V × V) → Hp → Prop) → Prop
  | [], _, H, Q => Q [] H
  | (tk, tv) :: r, σ, H, Q => tk σ H fun x H1 => tv σ H1 fun y H2 => tPairs r σ H2 fun ps H3 => Q ((x, y) :: ps) H3
noncomputable abbrev VV : List (V × V) → List (Value × Value) → Prop := Paired fun p q => RelV p.1 q.1 ∧ RelV p.2 q.2
noncomputable def PPs (X : Cx) (pos : Pos) (keys : List (Option Expr)) (values : List Expr) (trs : List (TE × TE)) : Prop :=
  ∀ (pins : List (Addr × Obj)) (s : Shared) (σ : St) (H : Hp) (Q : List (V × V) → Hp → Prop), Inv X pins σ H s → tPairs trs σ H Q →
    wpAny (model X.prog X.w) X.A (evalPairs (pairTrees keys values X.env pos)) (fun vs s' => ∃ ps H', Inv X pins σ H' s' ∧ VV ps vs ∧ Q ps H') X.xe s
theorem pps_nil {X : Cx} {pos : Pos} : PPs X pos [] [] [] := fun pins s σ H Q I h => pairTrees_nil_walk ⟨[], H, I, .nil, h⟩
theorem pps_cons {X : Cx} {pos : Pos} {k v : Expr} {ks : List (Option Expr)} {vs : List Expr} {tk tv : TE} {trs : List (TE × TE)} (hk : PE X k tk) (hv : PE X v tv) (hr : PPs X pos ks vs trs) :
    PPs X pos (some k :: ks) (v :: vs) ((tk, tv) :: trs) := fun pins s σ H Q I h =>
  pairTrees_cons_walk (thn (hk pins s σ H _ I h) fun u s1 ⟨x, H1, I1, rx, q1⟩ => thn (hv pins s1 σ H1 _ I1 q1) fun w2 s2 ⟨y, H2, I2, ry, q2⟩ =>
    thn (hr pins s2 σ H2 _ I2 q2) fun ws s3 ⟨ps, H3, I3, rel, q3⟩ => ⟨(x, y) :: ps, H3, I3, .cons ⟨rx, ry⟩ rel, q3⟩)

noncomputable def mergeK (kvs more : List (Key × V)) : List (Key × V) := more.foldl (fun acc kv => putK acc kv.1 kv.2) kvs
theorem KV.merge : ∀ {more : List (Key × V)} {rs : List (Key × Value)} {kvs : List (Key × V)} {vs : List (Key × Value)}, KV more rs → KV kvs vs → KV (mergeK kvs more) (merged vs rs) := by
  intro more rs kvs vs r
  unfold KV at r
  induction r generalizing kvs vs with
  | nil => intro q; exact q
  | @cons p q ps qs h t ih =>
    intro r0
    have e : KV (putK kvs p.1 p.2) (stored vs q.1 q.2) := by
      have := r0.put p.1 h.2
      rw [← h.1]; exact this
    exact ih e
theorem length_mergeK : ∀ (more kvs : List (Key × V)), (mergeK kvs more).length ≤ kvs.length + more.length
  | [], kvs => by show kvs.length ≤ kvs.length + 0; omega
  | p :: r, kvs => by
    have h1 := length_mergeK r (putK kvs p.1 p.2)
    have h2 := length_putK kvs p.1 p.2
    show (mergeK (putK kvs p.1 p.2) r).length ≤ _
    rw [List.length_cons]; omega
theorem carries_of {P : Program} {w : World} : ∀ {kvs : List (Key × V)} {ws : List (Value × Value)}, VV (kvs.map fun kv => (kV kv.1, kv.2)) ws → ∃ rs, Carries (mixKind P w) ws rs ∧ KV kvs rs
  | [], _, r => by rw [List.map_nil] at r; cases r; exact ⟨[], True.intro, .nil⟩
  | p :: kvs, _, r => by
    rw [List.map_cons] at r
    cases r with
    | @cons a b as bs h t =>
      obtain ⟨rs, c, q⟩ := carries_of (P := P) (w := w) t
      obtain ⟨b1, b2⟩ := b
      exact ⟨(p.1, b2) :: rs, ⟨kV_is h.1, rfl, c⟩, .cons ⟨rfl, h.2⟩ q⟩
/-- {k: v, ..} with keys ints and texts; the new dict stands empty while the pairs are made -/
noncomputable def tDisp (trs : List (TE × TE)) : TE := fun σ H Q => ∀ p, H p = none → tPairs trs σ (upd H p (.dK [])) fun ps H2 => H2 p = some (.dK []) ∧ ∃ kvs : List (Key × V), ps = kvs.map (fun kv => (kV kv.1, kv.2)) ∧ kvs.length ≤ 15 ∧ Q (.ref p) (upd H2 p (.dK (mergeK [] kvs)))
theorem pe_disp {X : Cx} {pos : Pos} {keys : List (Option Expr)} {values : List Expr} {trs : List (TE × TE)} (h : PPs X pos keys values trs) (hall : keys.all (·.isSome) = true) (hl : keys.length = values.length) (h0 : keys ≠ [])
    (h15 : keys.length ≤ 15) : PE X (.Dict keys values pos) (tDisp trs) := by
  intro pins s σ H Q I q
  have hn := I.hok.fresh (Nat.le_refl s.heap.objs.size)
  have I1 := I.laid (a := s.heap.objs.size) (o := .dK []) (h' := s.heap.push { cls := .type "dict", data := .dict #[] }) (t' := s.toks) (fun _ _ q => Heap.get?_push_of_some _ q) (Nat.le_refl _) (dk_empty s.heap I.big)
  refine wpAny_Dict_walk (knd := mixKind X.prog X.w) hall hl h0 h15 (thn (h pins _ σ _ _ I1 (q _ hn)) fun ws s2 hw' => ?_)
  obtain ⟨ps, H2, I2, rel, e, kvs, ep, lk, q2⟩ := hw'
  subst ep
  obtain ⟨rs, c, rk⟩ := carries_of (P := X.prog) (w := X.w) rel
  obtain ⟨z, hd, vs0, r0, dd⟩ := dk_of I2.hok e
  cases r0
  refine ⟨rs, c, dd, fun h' dd' hs => ⟨.ref s.heap.objs.size, _, ?_, rfl, q2⟩⟩
  have hz : (mergeK [] kvs).length ≤ sizeLine := by
    have h1 := length_mergeK kvs []
    rw [List.length_nil] at h1
    rw [sizeLine_eq]; omega
  have he : ∃ q, h'.get? s.heap.objs.size = some q := let ⟨q, _, _, hq, _⟩ := dd'; ⟨q, hq⟩
  exact d_write I2 (by rw [e]; exact True.intro) hs he (dk_new hz hd (rk.merge .nil) dd')


/-! ### methods -/
/-- a method call o.m(e) of a built-in, with one argument: what must be seen of the text -/
structure M1 (X : Cx) (o : Expr) (m : Str) (apos : Pos) (e : Expr) (cpos : Pos) : Prop where
  base : attributeBase o m X.env (eval o X.env) = eval o X.env
  few : ((backTo cpos (starEach [e] X.env)).all (fun x => !x.1) && (backToKw cpos (keywordEach [] X.env)).all (fun x => x.1.isSome)
    && decide (([e] : List Expr).length + ([] : List Keyword).length + (if ([] : List Keyword).isEmpty then 0 else 1) < 30)) = true
  line : (apos.endLine == cpos.line) = true
  trees : backTo cpos (starEach [e] X.env) = [(false, eval e X.env)]
structure M2 (X : Cx) (o : Expr) (m : Str) (apos : Pos) (e f : Expr) (cpos : Pos) : Prop where
  base : attributeBase o m X.env (eval o X.env) = eval o X.env
  few : ((backTo cpos (starEach [e, f] X.env)).all (fun x => !x.1) && (backToKw cpos (keywordEach [] X.env)).all (fun x => x.1.isSome)
    && decide (([e, f] : List Expr).length + ([] : List Keyword).length + (if ([] : List Keyword).isEmpty then 0 else 1) < 30)) = true
  line : (apos.endLine == cpos.line) = true
  trees : backTo cpos (starEach [e, f] X.env) = [(false, eval e X.env), (false, eval f X.env)]

/-- a is a dict, whatever its keys -/
noncomputable def IsD (H : Hp) (a : Addr) : Prop := (∃ kvs, Rd H a (.dK kvs)) ∨ ∃ kvs, Rd H a (.dT kvs)
theorem isD_at {X : Cx} {pins : List (Addr × Obj)} {σ : St} {H : Hp} {s : Shared} {a : Addr} (I : Inv X pins σ H s) (d : IsD H a) :
    s.TypeIs (.ref a) "dict" ∧ (∀ b, Value.ref a = .ref b → ∃ ob, s.heap.get? b = some ob ∧ ob.dict = none) ∧ (a == sysModules) = false := by
  rcases d with ⟨kvs, e⟩ | ⟨kvs, e⟩
  · obtain ⟨_, hd, vs, _, dd⟩ := dk_rd I.hok e
    refine ⟨dd.typeIs, fun b q => ?_, hd⟩
    cases q
    obtain ⟨ob, _, _, h1, h2, _⟩ := dd
    exact ⟨ob, h1, h2.2.1⟩
  · obtain ⟨_, hd, xs, _, dd⟩ := dt_rd I.hok e
    refine ⟨dd.typeIs, fun b q => ?_, hd⟩
    cases q
    obtain ⟨ob, _, _, h1, h2, _⟩ := dd
    exact ⟨ob, h1, h2.2.1⟩

section
variable {X : Cx} {pins : List (Addr × Obj)} {σ : St} {H : Hp} {s : Shared} {a : Addr} {y d : V} {u r : Value} {o : Option V} {A : Around} {E : Value → Shared → Prop}
/-- d.get(y) -/
theorem d_get1 {Q : Value → Shared → Prop} (hu : A.units + 1 < cLine) (I : Inv X pins σ H s) (g : DGet H a y o) (ry : RelV y u) (h : ∀ w' s', Inv X pins σ H s' → RelV (o.getD .non) w' → Q w' s') :
    wpAny (model X.prog X.w) A (call (.builtin "dict.get") [.ref a, u]) Q E s := by
  rcases g with ⟨kvs, k, e, ey, l⟩ | ⟨kvs, k, b, e, ey, eb, l⟩
  · subst ey
    obtain ⟨z, hd, vs, rel, dd⟩ := dk_rd I.hok e
    refine call_meetsIn PySem.F.slot_dict_get dd.typeIs PySem.F.entry_dict_get (PySem.F.args_dict_get_2 _ _) (meets_dict_get (mixKind X.prog X.w) a (kV_is ry) hd) ⟨_, dd.mapOf, h _ _ (I.tok _) ?_⟩
    rw [l]
    exact (rel.val k).getD rfl
  · subst ey
    cases (show u = Value.ref b from ry)
    obtain ⟨z, hd, xs, rel, dd⟩ := dt_rd I.hok e
    refine call_meetsIn PySem.F.slot_dict_get dd.typeIs PySem.F.entry_dict_get (PySem.F.args_dict_get_2 _ _) (meetsH_dict_get (tupleKind (mixKind X.prog X.w)) a b hd) ⟨tupleKind_room_in1 hu, k, xs, key_of I.hok eb, dd, h _ _ (I.tok _) ?_⟩
    rw [l]
    exact (rel.val k).getD rfl
/-- d.get(y, x) -/
theorem d_get2 {Q : Value → Shared → Prop} (hu : A.units + 1 < cLine) (I : Inv X pins σ H s) (g : DGet H a y o) (ry : RelV y u) (rd : RelV d r) (h : ∀ w' s', Inv X pins σ H s' → RelV (o.getD d) w' → Q w' s') :
    wpAny (model X.prog X.w) A (call (.builtin "dict.get") [.ref a, u, r]) Q E s := by
  rcases g with ⟨kvs, k, e, ey, l⟩ | ⟨kvs, k, b, e, ey, eb, l⟩
  · subst ey
    obtain ⟨z, hd, vs, rel, dd⟩ := dk_rd I.hok e
    refine call_meetsIn PySem.F.slot_dict_get dd.typeIs PySem.F.entry_dict_get (PySem.F.args_dict_get_3 _ _ _) (meets_dict_get_default (mixKind X.prog X.w) a (kV_is ry) hd r) ⟨_, dd.mapOf, h _ _ (I.tok _) ?_⟩
    rw [l]
    exact (rel.val k).getD rd
  · subst ey
    cases (show u = Value.ref b from ry)
    obtain ⟨z, hd, xs, rel, dd⟩ := dt_rd I.hok e
    refine call_meetsIn PySem.F.slot_dict_get dd.typeIs PySem.F.entry_dict_get (PySem.F.args_dict_get_3 _ _ _) (meetsH_dict_get_default (tupleKind (mixKind X.prog X.w)) a b hd r) ⟨tupleKind_room_in1 hu, k, xs, key_of I.hok eb, dd, h _ _ (I.tok _) ?_⟩
    rw [l]
    exact (rel.val k).getD rd
end

noncomputable def tDGet1 (td ty : TE) : TE := fun σ H Q => td σ H fun x H1 => ∃ a, x = .ref a ∧ IsD H1 a ∧ ty σ H1 fun y H2 => ∃ o, DGet H2 a y o ∧ Q (o.getD .non) H2
noncomputable def tDGet2 (td ty tx : TE) : TE := fun σ H Q => td σ H fun x H1 => ∃ a, x = .ref a ∧ IsD H1 a ∧ ty σ H1 fun y H2 => tx σ H2 fun z H3 => ∃ o, DGet H3 a y o ∧ Q (o.getD z) H3
section
variable {X : Cx} {o e f : Expr} {apos cpos : Pos} {td ty tx : TE}
theorem pe_dget1 (hu : X.A.units + 1 < cLine) (ho : PE X o td) (he : PE X e ty) (m : M1 X o "get" apos e cpos) : PE X (.Call (.Attribute o "get" apos) [e] [] cpos) (tDGet1 td ty) := by
  intro pins s σ H Q I h
  refine wpAny_Call_method m.base m.few m.line PySem.F.plainAttrs_dict PySem.F.slot_dict_get PySem.F.type_dict_get (thn (ho pins s σ H _ I h) fun u s1 hw' => ?_)
  obtain ⟨x, H1, I1, rx, a, ex, d, q1⟩ := hw'
  subst ex
  obtain rfl : u = Value.ref a := rx
  obtain ⟨t1, t2, _⟩ := isD_at I1 d
  refine ⟨t1, t2, ?_⟩
  rw [m.trees]
  refine Calls.callWith_builtin rfl (Calls.evalArgs_plain (Calls.spliced_cons (thn (he pins s1 σ H1 _ I1 q1) fun iv s2 ⟨y, H2, I2, ry, ov, g, q2⟩ => Calls.spliced_nil ?_)))
  exact d_get1 hu I2 g ry fun w' s3 I3 rw' => ⟨_, H2, I3, rw', q2⟩
theorem pe_dget2 (hu : X.A.units + 1 < cLine) (ho : PE X o td) (he : PE X e ty) (hf : PE X f tx) (m : M2 X o "get" apos e f cpos) : PE X (.Call (.Attribute o "get" apos) [e, f] [] cpos) (tDGet2 td ty tx) := by
  intro pins s σ H Q I h
  refine wpAny_Call_method m.base m.few m.line PySem.F.plainAttrs_dict PySem.F.slot_dict_get PySem.F.type_dict_get (thn (ho pins s σ H _ I h) fun u s1 hw' => ?_)
  obtain ⟨x, H1, I1, rx, a, ex, d, q1⟩ := hw'
  subst ex
  obtain rfl : u = Value.ref a := rx
  obtain ⟨t1, t2, _⟩ := isD_at I1 d
  refine ⟨t1, t2, ?_⟩
  rw [m.trees]
  refine Calls.callWith_builtin rfl (Calls.evalArgs_plain (Calls.spliced_cons (thn (he pins s1 σ H1 _ I1 q1) fun iv s2 ⟨y, H2, I2, ry, q2⟩ =>
    Calls.spliced_cons (thn (hf pins s2 σ H2 _ I2 q2) fun fv s3 ⟨z, H3, I3, rz, ov, g, q3⟩ => Calls.spliced_nil ?_))))
  exact d_get2 hu I3 g ry rz fun w' s4 I4 rw' => ⟨_, H3, I4, rw', q3⟩
end

/-! ### dict(d): a copy -/
section
variable {X : Cx} {pins : List (Addr × Obj)} {σ : St} {H : Hp} {s : Shared} {a : Addr} {kvs : List (Key × V)} {A : Around} {E : Value → Shared → Prop}
end


section
variable {X : Cx} {pins : List (Addr × Obj)} {σ : St} {H : Hp} {s : Shared} {a : Addr} {y : V} {u : Value} {A : Around} {E : Value → Shared → Prop}
end
end L2

namespace Att
open PySem PySem.W PySem.Calls PyProof.Rows

/-! ### the script -/
theorem ints_of_wellAll {P : Params} {h : Heap} : ∀ (ns : List Int) (vs : List Value), WellAll P h vs (ns.map WData.int) → IntsAre vs ns := by
  intro ns
  induction ns with
  | nil =>
    intro vs w
    rw [List.map_nil] at w
    cases w
    exact .nil
  | cons n ns ih =>
    intro vs w
    rw [List.map_cons] at w
    cases w with
    | cons a b =>
      cases a
      exact .cons _ _ (ih _ b)

theorem script_of {l : OpenLaw} {n : Nat} (hn : l.most = some n) {P : Params} {h : Heap} {args : List WData} {vals : List Value}
    (hpre : l.row.toRowW.claim.pre args = true) (hwl : WellAll P h vals args) :
    ∃ a vs ns, vals = [Value.ref a] ∧ args = [WData.list (ns.map WData.int)] ∧ h.get? a = some { cls := .type "list", data := .seq vs.toArray } ∧ IntsAre vs ns ∧ ns.length ≤ n := by
  have hsh : WShape.hasAll [] args [.list .int] = true := (pre_splitW hpre).1
  have hc : l.pre.holds [] { args := args } = true := (pre_splitW hpre).2
  obtain ⟨d, r, rfl, h1, h2⟩ := hasAllW_cons hsh
  obtain rfl := hasAllW_nil h2
  obtain ⟨xs, rfl, h3⟩ := hasW_list h1
  obtain ⟨ns, rfl⟩ := items_int h3
  have hlen : ns.length ≤ n := by
    unfold OpenLaw.pre at hc
    have h4 : (WTm.not (.lt (.lit (.int (n : Int))) (.len (.arg 0)))).holds [] { args := [.list (ns.map .int)] } = true := by
      have h4 := (holds_andW hc).1
      rw [hn] at h4
      exact h4
    have h5 := condW_of h4 (w_not (w_lt w_lit (w_len_list (w_arg rfl))))
    rw [List.length_map] at h5
    refine Nat.le_of_not_lt fun q => ?_
    have q' : (n : Int) < ((ns.length : Nat) : Int) := by omega
    first
      | (rw [decide_eq_true q'] at h5; exact absurd h5 (by decide))
      | (simp at h5; omega)
  cases hwl with
  | cons w1 w2 =>
    cases w2
    cases w1 with
    | list ho hall => exact ⟨_, _, ns, rfl, rfl, ho, ints_of_wellAll ns _ hall, hlen⟩

theorem post_true (l : OpenLaw) (args : List WData) : l.row.toRowW.claim.post args (.bool true) args = true :=
  postW_of (r := l.row.toRowW) (X := (true == true))
    (show WShape.has [] (.bool true) .bool = true by first | rfl | decide | simp [WShape.has, WShape.arms, WShape.armsAll])
    (show (WTm.eq .res (.lit (.bool true))).value [] { args := args, res := some (.bool true), after := args } = some (.bool (true == true)) from w_eq_bool (w_res rfl) w_lit) rfl

/-- the same from a codeAny of the CALL (for a layer whose function contracts speak of calls) -/
theorem attach_call {l : OpenLaw} {n : Nat} {q : Program} {loose : List Str} {XP : (Str → Option Value) → Heap → Prop} {YP : World → Heap → Prop} {d : DefRec}
    (hn : l.most = some n) (hdf : d.params.defaults = [])
    (call : ∀ (w : World) (s₀ s₁ : Shared) (mg mb : Str → Option Value) (fa : Addr) (o : Obj) (pm cd doc : Value) (a : Addr) (vs : List Value) (ns : List Int),
      Ground q loose [] XP w s₀ mg mb s₁.heap → YP w s₁.heap →
      s₁.heap.get? fa = some o → o.data = .func (docDef d.name d.params d.body d.scope pm cd doc) → s₁.heap.CodeRec cd d.name → mg d.name = some (.ref fa) →
      s₁.heap.get? a = some { cls := .type "list", data := .seq vs.toArray } → IntsAre vs ns → ns.length ≤ n → s₁.gens = #[] →
      codeAny (model l.prog w) callerA (.call (.ref fa) ⟨[.ref a], []⟩) (fun r s' => r = .ok (.ret (.bool true)) ∧ OldK s₁.heap s'.heap ∧ s'.os = s₁.os ∧ AllBare s'.gens) s₁) :
    WalkO q loose XP YP l.row.toRowW d [] (fun f vs => PySem.call f vs) := by
  intro w s₀ s₁ mg mb G Y fa o pm cd doc dV kV ho hd hcd hD hmg hg args vals as hpre hlay hrd hwl hlo
  obtain rfl : dV = .none := Dflts.none hD hdf
  obtain rfl : kV = .none := Dflts.noKw hD
  obtain ⟨a, vs, ns, rfl, rfl, hobj, hints, hlen⟩ := script_of hn hpre hwl
  refine enter_call (codeAny_mono (call w s₀ s₁ mg mb fa o pm cd doc a vs ns G Y ho (fd_plain hd) hcd hmg hobj hints hlen hg) fun r s' hq => ?_)
  obtain ⟨rfl, h2, h3, h4⟩ := hq
  exact ⟨.inl ⟨.bool true, .bool true, [], rfl, fun _ => rfl, .bool true, post_true l _, fun _ => ⟨List.Pairwise.nil, fun _ hm => (nomatch hm)⟩⟩, h2, h3, h4⟩

/-! ### rules over ANY heap (no ledger) from facts about the written part K: the library's own take a ledger (News) for what they write -/
section
variable {prog : Program} {w : World} {A : Around} {E : Value → Shared → Prop} {s : Shared} {K : Frag}

noncomputable def ledger (h : Heap) (L d : Addr) : List (Addr × Obj) := (List.range h.objs.size).filterMap fun a => if a = L ∨ a = d then none else (h.get? a).map fun o => (a, o)
end
end Att

namespace L2
open PySem PySem.Spec PyProof.Rows

theorem vals_ints : ∀ {vs : List Value} {ns : List Int}, IntsAre vs ns → Vals (ns.map V.int) vs
  | _, _, .nil => .nil
  | _, _, .cons n t h => .cons ⟨t, rfl⟩ (vals_ints h)

/-- nothing is tracked but the script, known to the object (or it is an object of the module) -/
noncomputable def Only (H : Hp) : Prop := ∀ b, H b = none ∨ ∃ o xs, H b = some (.frz o (.lst xs))

/-- THE HEAD: the law's promise, at the heap behind the top. F, the promise of the law's def, may use that base is part of the heap (so K.In base, base.Ns mainGlobals mg stand in Mod) -/
theorem law_call {P : Program} {w : World} {K : PySem.W.Frag} {mg mb : Str → Option Value} {CX : CXT} {k : Nat} {fa a : Addr} {fd : FuncData} {x : Str} {sp : Sp} {s₁ : Shared} {vs : List Value} {ns : List Int}
    (KX : K.In s₁.heap) (hns : s₁.heap.Ns mainGlobals mg) (hb : s₁.heap.Ns builtinsNs mb) (hbb : ∀ x : Str, x ≠ "__name__" → mb x = bootBuiltins x) (hlim : s₁.heap.NoLimit) (hg : s₁.gens = #[])
    (ha : s₁.heap.get? a = some { cls := .type "list", data := .seq vs.toArray }) (hi : IntsAre vs ns) (hl : ns.length ≤ sizeLine) (hr : Room k callerA)
    (F : ∀ base : Heap, K.In base → base.Ns mainGlobals mg → FnOk P w K mg base CX k fa fd [x] sp) (hbind : ∀ (s : Shared) (u : Value), BindsTo s fd ⟨[u], []⟩ [(x, u)])
    (hsp : ∀ H : Hp, Only H → SqL K H a (ns.map V.int) → sp [.ref a] H (fun v _ => v = .bl true) fun _ _ _ => False)
    (hCX : ∀ H e s', CX [] H s₁ (fun _ _ _ => False) e s' → False) :
    codeAny (model P w) callerA (.call (.ref fa) ⟨[.ref a], []⟩) (fun r s' => r = .ok (.ret (.bool true)) ∧ OldK s₁.heap s'.heap ∧ s'.os = s₁.os ∧ AllBare s'.gens) s₁ := by
  have rv := vals_ints hi
  have lenV := hi.length
  -- from an abstract heap in which nothing but the script may be tracked
  have core : ∀ H : Hp, Only H → SqL K H a (ns.map V.int) → HOk P w H s₁.heap → (∀ b, H b ≠ none → b = a) → (H a ≠ none → K.lookup a = none) →
      codeAny (model P w) callerA (.call (.ref fa) ⟨[.ref a], []⟩) (fun r s' => r = .ok (.ret (.bool true)) ∧ OldK s₁.heap s'.heap ∧ s'.os = s₁.os ∧ AllBare s'.gens) s₁ := by
    intro H hO hS hok hA hK
    have base_of : ∀ {b : Addr} {o : Obj}, s₁.heap.get? b = some o → H b = none → (hidT s₁.heap H).get? b = some o := fun e n => hidT_get e n
    have noA : ∀ {b : Addr} {o : Obj} {es : Array DictEntry} {ep : Nat}, s₁.heap.get? b = some o → o.data = .dict es ep → H b = none := fun {b o es ep} e d => by
      cases q : H b with
      | none => rfl
      | some u =>
        have e' : b = a := hA b (by rw [q]; simp)
        subst e'
        rw [ha] at e; cases e
        have d' : Data.seq vs.toArray _ = Data.dict es ep := d
        cases d'
    have nsK : ∀ {b : Addr} {m : Str → Option Value}, s₁.heap.Ns b m → (hidT s₁.heap H).Ns b m := fun {b m} ⟨o, es, ep, e, d, r⟩ => ⟨o, es, ep, base_of e (noA e d), d, r⟩
    have hKb : K.In (hidT s₁.heap H) := fun b o e => base_of (KX b o e) (by
      cases q : H b with
      | none => rfl
      | some u =>
        have e' : b = a := hA b (by rw [q]; simp)
        subst e'
        rw [hK (by rw [q]; simp)] at e; cases e)
    have hM : Mod K mg (hidT s₁.heap H) := ⟨hKb, nsK hns, ⟨mb, nsK hb, hbb⟩, let ⟨mc, h1, h2⟩ := hlim; ⟨mc, nsK h1, h2⟩⟩
    have e0 : Env0 P w K mg (hidT s₁.heap H) callerA [] s₁ H := ⟨rfl, hM, fun b o e => of_hidT e, Nat.le_of_eq (hidT_size _ _), trivial, fun b hb => absurd (show b ∈ ([] : List Addr) from hb) (by simp), hok, .of_eq hg⟩
    refine codeAny_mono ((F _ hKb (nsK hns)).run callerA [] s₁ H ⟨[.ref a], []⟩ [.ref a] [.ref a] _ _ hr e0 (hbind s₁ (.ref a)) (.cons rfl .nil) (hsp H hO hS)) fun r s' h => ?_
    cases r with
    | error e => exact (hCX H e s' h).elim
    | ok fl =>
      cases fl with
      | next => exact False.elim h
      | brk => exact False.elim h
      | cont => exact False.elim h
      | ret u =>
        obtain ⟨v, H', os, bare, un, hok', r', q⟩ := h
        have q' : v = .bl true := q
        subst q'
        obtain rfl : u = Value.bool true := r'
        refine ⟨rfl, OldK.of_keep fun b o e => ?_, os, bare⟩
        cases q : H b with
        | none => exact un.keep b o e q (by intro z; exact absurd (show b ∈ ([] : List Addr) from z) (by simp)) (by simp)
        | some u =>
          rcases hO b with z | ⟨ob, xs, z⟩
          · rw [q] at z; cases z
          · have z2 := un.frzs b ob _ z
            obtain ⟨e1, _⟩ := hok b _ z
            obtain ⟨e2, _⟩ := hok' b _ z2
            rw [e] at e1; cases e1
            exact e2
  cases hk : K.lookup a with
  | some o =>
    -- the script is one of the module's own objects
    have e := KX a o hk
    rw [ha] at e
    cases e
    refine core (fun _ => none) (fun _ => .inl rfl) (.inr ⟨_, vs.toArray, _, hk, rfl, rfl, rfl, by rw [List.size_toArray, lenV]; exact hl, by simpa using rv⟩) (fun b u z => by have z' : (none : Option HO) = some u := z; cases z') (fun b z => absurd rfl z) fun z => absurd rfl z
  | none =>
    refine core (fun b => if b = a then some (.frz { cls := .type "list", data := .seq vs.toArray } (.lst (ns.map V.int))) else none) (fun b => ?_) (.inl (.inr ⟨{ cls := .type "list", data := .seq vs.toArray }, if_pos rfl⟩)) (fun b u z => ?_) (fun b z => ?_) fun _ => hk
    · by_cases hb : b = a
      · exact .inr ⟨_, _, if_pos hb⟩
      · exact .inl (if_neg hb)
    · by_cases hb : b = a
      · have z' := (if_pos hb).symm.trans z
        cases z'
        subst hb
        exact ⟨ha, by rw [List.length_map]; exact hl, vs, _, rv, ha⟩
      · have z' := (if_neg hb).symm.trans z
        cases z'
    · by_cases hb : b = a
      · exact hb
      · exact absurd (if_neg hb) z
end L2

namespace L2
open PySem PySem.Spec PyProof.Rows

noncomputable abbrev KOf {K : PySem.W.Frag} {h : Heap} (_ : K.In h) : PySem.W.Frag := K

/-- the goal that k_head leaves (case hc), from the law's promise. F gives the function object fd (K's own) once, then the promise over every base -/
theorem walk_of {l : PySem.W.OpenLaw} {n k : Nat} {q : Program} {loose : List Str} {XP : (Str → Option Value) → Heap → Prop} {YP : World → Heap → Prop} {d : DefRec} {K : Params → PySem.W.Frag} {CX : World → CXT} {sp : World → Sp} {x : Str}
    (hn : l.most = some n) (hn2 : n ≤ sizeLine) (hdf : d.params.defaults = []) (hr : Room k callerA)
    (hY : ∀ (w : World) (h : Heap), YP w h → (K w.params).In h)
    (F : ∀ (w : World) (mg : Str → Option Value) (fa : Addr) (h : Heap), (K w.params).In h → h.Ns mainGlobals mg → mg d.name = some (.ref fa) →
      ∃ fd : FuncData, (∀ (s : Shared) (u : Value), BindsTo s fd ⟨[u], []⟩ [(x, u)]) ∧
        ∀ base : Heap, (K w.params).In base → base.Ns mainGlobals mg → FnOk l.prog w (K w.params) mg base (CX w) k fa fd [x] (sp w))
    (hsp : ∀ (w : World) (H : Hp) (a : Addr) (ns : List Int), ns.length ≤ n → Only H → SqL (K w.params) H a (ns.map V.int) → sp w [.ref a] H (fun v _ => v = .bl true) fun _ _ _ => False)
    (hCX : ∀ (w : World) (H : Hp) (s : Shared) (e : Value) (s' : Shared), CX w [] H s (fun _ _ _ => False) e s' → False) :
    PySem.W.WalkO q loose XP YP l.row.toRowW d [] (fun f vs => PySem.call f vs) := by
  refine Att.attach_call hn hdf fun w s₀ s₁ mg mb fa o pm cd doc a vs ns G Y ho hd hcd hmg hobj hints hlen hg => ?_
  have KX := hY w _ Y
  obtain ⟨fd, hb, hF⟩ := F w mg fa _ KX G.T.g hmg
  exact law_call KX G.T.g G.T.b G.T.builtins G.T.nolimit hg hobj hints (Nat.le_trans hlen hn2) hr hF hb (fun H hO hS => hsp w H a ns hlen hO hS) fun H e s' => hCX w H s₁ e s'
end L2

/- THE LAST THEOREM (shape; LID, My.* are yours):
   My.Adr: a structure of the addresses that your layer names (classes, functions); My.Txt K t: a structure (Prop) of the equations over K;
   My.txt_mk : {K} {implicit addresses ..} (e1 : nsIn K mainGlobals "law" = some (some (.ref f))) (e2 : K.lookup f = some ⟨oc, od, .func (fnOf "law" "law" params body scope dV kV doc pm an cdv ct), sl⟩) (e3 : codeIn K cdv "law" = true) .. : ∃ t, My.Txt K t

set_option maxRecDepth 100000 in
set_option maxHeartbeats 0 in
theorem PySem.Challenge.cw_LID_holds : PySem.Challenge.rw_LID.Holds := by
  w_on; o_law; k_head; (case hw => w_witness2)
  k_fill
  refine L2.walk_of (l := PySem.Challenge.rw_LID) (n := 63) (k := 40) (x := "script") (CX := fun w => ..) (sp := fun _ => My.sp_law) rfl (by decide) rfl ⟨rfl, by decide, by decide⟩ (fun w h Y => PySem.W.kIn_of Y) ?F ?S ?C
  case F =>
    intro w mg fa h KX G hmg
    have T : ∃ t, My.Txt (L2.KOf KX) t := by
      dsimp only [L2.KOf]                          -- K must stand as «<heap const> w.params» for k_is
      refine' My.txt_mk ?e1 ?e2 ?e3 ..
      (case e1 => PySem.W.k_is)                    -- in the order: a name -> its address -> its object -> its parts
      (case e2 => PySem.W.k_is)
      ..
    obtain ⟨t, T⟩ := T
    have e0 := hmg.symm.trans (PySem.W.mg_of KX G T.law)
    cases e0                                       -- fa is the law's own address
    exact ⟨_, fun s u => .of_eq rfl, fun base kb nb => My.law_fn T kb nb⟩     -- if «.of_eq rfl» comes too early: refine' ⟨_, ?b, fun base kb nb => My.law_fn T kb nb⟩; exact fun s u => .of_eq rfl
  case S => exact fun w H a ns hl hO hS => ..
  case C => exact ..
(the tactic k_is has no namespace: write k_is) -/

/-! SHORT WORDS over the layer: a def of the text, its body, what a loop and a test want. -/
namespace L2
open PySem PySem.Spec PyProof.Rows

/-! ### the text by places -/
/-- the j-th statement of a class's body -/
noncomputable def inClass (s : Stmt) (j : Nat) : Stmt := match s with
  | .ClassDef _ _ _ body _ _ _ _ _ _ _ => body.getD j (.Pass ⟨0, 0, 0, 0⟩)
  | _ => .Pass ⟨0, 0, 0, 0⟩
noncomputable def defArgs (s : Stmt) : Arguments := match s with
  | .FunctionDef _ a _ _ _ _ _ _ _ _ => a
  | _ => { posonlyargs := [], args := [], vararg := none, kwonlyargs := [], kw_defaults := [], kwarg := none, defaults := [] }
noncomputable def defBody (s : Stmt) : List Stmt := match s with
  | .FunctionDef _ _ b _ _ _ _ _ _ _ => b
  | _ => []
noncomputable def defScope (s : Stmt) : Scope := match s with
  | .FunctionDef _ _ _ _ _ _ sc _ _ _ => sc
  | _ => { kind := .function, names := [], isGenerator := false, isCoroutine := false }

/-! ### no exception leaves a def -/
noncomputable abbrev CX0 : CXT := fun _ _ _ _ _ _ => False
noncomputable abbrev E0 : XK := fun _ _ _ => False
theorem pass0 {X : Cx} : Passes CX0 X E0 := fun _ _ _ _ _ _ _ h => h.elim

/-! ### a def (or method) of the text as it stands behind the top -/
structure Fun (K : PySem.W.Frag) (x qual : Str) (st : Stmt) (f : Addr) (fd : FuncData) : Prop where
  ex : ∃ (oc : Value) (od : Option Addr) (kV doc pm : Value) (an : Option Addr) (cdv ct : Value) (osl : Array (Option Value)),
    fd = PySem.W.fnOf x qual (defArgs st) (defBody st) (defScope st) .none kV doc pm an cdv ct ∧ K.lookup f = some ⟨oc, od, .func fd, osl⟩ ∧ PySem.W.codeIn K cdv qual = true
  kp : PySem.W.keepIn K (.ref f) = true
section
variable {P : Program} {w : World} {K : PySem.W.Frag} {mg : Str → Option Value} {base : Heap}
/-- THE RULE for a def: its body as a term of rules, and the reading of that term -/
theorem Fun.ok {x qual : Str} {st : Stmt} {f : Addr} {fd : FuncData} {N ps : List Str} {k : Nat} {sp : Sp} (F : Fun K x qual st f fd) (S : FnScope N ps (defScope st)) (len : ∀ vs H Q E, sp vs H Q E → vs.length = ps.length)
    (hbody : ∀ (cdv : Value) (A : Around) (outer : List Env) (s : Shared) (H : Hp) (vs : List V) (Q : VK) (E : XK), Room k (A.deeper (envOfC qual (defScope st) s.heap.objs.size f cdv)) → sp vs H Q E →
      ∃ t, PSs (cxOf CX0 P w K mg base N qual (defScope st) f cdv A outer s H E).nox (defBody st) t ∧ t { nx := fun _ H' => Q .non H', rt := Q } (start N vs) H) : FnOk P w K mg base CX0 (k + 1) f fd ps sp := by
  obtain ⟨oc, od, kV, doc, pm, an, cdv, ct, osl, rfl, lk, hcd⟩ := F.ex
  refine fn_of lk hcd S len fun A outer s H vs Q E hr hsp => ?_
  obtain ⟨t, h, q⟩ := hbody cdv A outer s H vs Q E hr hsp
  exact ⟨t, h.nox, q⟩
/-- how its arguments bind (no defaults): h is «fun _ _ _ _ _ _ us hl => match us, hl with | [_, _], _ => rfl», one _ a parameter -/
theorem Fun.binds {x qual : Str} {st : Stmt} {f : Addr} {fd : FuncData} {ps : List Str} (F : Fun K x qual st f fd)
    (h : ∀ (kV doc pm : Value) (an : Option Addr) (cdv ct : Value) (us : List Value), us.length = ps.length → bindArgs (PySem.W.fnOf x qual (defArgs st) (defBody st) (defScope st) .none kV doc pm an cdv ct) ⟨us, []⟩ = pure (ps.zip us)) : Binds K fd ps [] := by
  obtain ⟨oc, od, kV, doc, pm, an, cdv, ct, osl, rfl, lk, hcd⟩ := F.ex
  exact .all (h kV doc pm an cdv ct)
theorem fun_mk {x qual : Str} {st : Stmt} {f : Addr} {oc : Value} {od an : Option Addr} {osl : Array (Option Value)} {kV doc pm cdv ct : Value} (l : K.lookup f = some ⟨oc, od, .func (PySem.W.fnOf x qual (defArgs st) (defBody st) (defScope st) .none kV doc pm an cdv ct), osl⟩)
    (c : PySem.W.codeIn K cdv qual = true) (k : PySem.W.keepIn K (.ref f) = true) : Fun K x qual st f (PySem.W.fnOf x qual (defArgs st) (defBody st) (defScope st) .none kV doc pm an cdv ct) := ⟨⟨oc, od, kV, doc, pm, an, cdv, ct, osl, rfl, l, c⟩, k⟩
end
theorem hu_of {A : Around} {k : Nat} (hr : Room k A) : A.units + 1 < cLine := Nat.lt_of_le_of_lt (Nat.add_le_add_left (by decide : 1 ≤ 64) _) hr.units
/-! ### expressions in short: the name that stands in the i-th slot -/
section
variable {X : Cx}
theorem pv (i : Nat) {x : Str} {pos : Pos} (hN : X.N[i]? = some x := by rfl) (hv : Vis X.env.scope x := by first | exact Or.inl rfl | exact Or.inr (Or.inl rfl) | exact Or.inr (Or.inr rfl)) (hd : (x == ("__debug__" : Str)) = false := by decide)
    (hcd : (x == ("__classdict__" : Str)) = false := by decide) : PE X (.Name x pos) (tVar i) := pe_var hN hv hd hcd
end

/-! ### tests -/
theorem iteF {A B : Prop} (h : B) : if false = true then A else B := by
  rw [if_neg Bool.false_ne_true]
  exact h
theorem iteT {A B : Prop} (h : A) : if true = true then A else B := by
  rw [if_pos rfl]
  exact h
/-! ### heaps -/
/-- all that was tracked is as it was -/
noncomputable def Same (H H' : Hp) : Prop := ∀ b o, H b = some o → H' b = some o
theorem Same.refl (H : Hp) : Same H H := fun _ _ h => h
theorem Same.trans {H H1 H2 : Hp} (a : Same H H1) (b : Same H1 H2) : Same H H2 := fun c o h => b c o (a c o h)
theorem Same.seq {K : PySem.W.Frag} {H H' : Hp} {a : Addr} {xs : List V} (e : Same H H') (h : SqL K H a xs) : SqL K H' a xs := by
  rcases h with (h | ⟨o, h⟩) | h
  · exact .inl (.inl (e _ _ h))
  · exact .inl (.inr ⟨o, e _ _ h⟩)
  · exact .inr h

end L2
namespace L2
open PySem PySem.Spec PyProof.Rows
section
variable {X : Cx}
end
/-! ### a dict's pairs: keys that differ -/
section
variable {κ : Type} [DecidableEq κ]
end
end L2
set_option Elab.async false
set_option linter.all false
set_option maxRecDepth 100000
set_option genSizeOf false
set_option bootstrap.genMatcherCode false
set_option genInjectivity true
/-! A LIST COMPREHENSION with one generator, over the layer. -/
namespace L2
open PySem PySem.Spec PyProof.Rows

/-- the closure's cells -/
noncomputable def clos (cells : List (Str × Addr)) : List (Str × NameKind) → List (Str × Addr) → List (Str × Addr)
  | [], acc => acc
  | (n, k) :: r, acc => clos cells r (if k == .free then (n, (cells.lookup n).getD 0) :: acc else acc)
theorem clos_run {env : Env} : ∀ (names : List (Str × NameKind)) (acc : List (Str × Addr)), (∀ y ∈ names, y.2 = .free → ∃ c, env.cells.lookup y.1 = some c) →
    (forIn names acc (fun (x : Str × NameKind) (r : List (Str × Addr)) => if (x.2 == NameKind.free) = true then (do let a ← cellOf env x.1; pure (ForInStep.yield ((x.1, a) :: r))) else pure (ForInStep.yield r)) : Sem (List (Str × Addr))) = pure (clos env.cells names acc)
  | [], acc, _ => rfl
  | (n, k) :: r, acc, h => by
    rw [List.forIn_cons]
    have ih := fun a => clos_run r a fun y hy => h y (List.mem_cons_of_mem _ hy)
    cases hk : (k == NameKind.free) with
    | true =>
      have hk' : k = .free := by cases k <;> first | rfl | exact absurd hk (by decide)
      obtain ⟨c, hc⟩ := h (n, k) List.mem_cons_self hk'
      have hc' : env.cells.lookup n = some c := hc
      have e : cellOf env n = pure c := by unfold cellOf; rw [hc']
      dsimp only
      rw [if_pos rfl, e]
      show (forIn r ((n, c) :: acc) _ : Sem _) = _
      rw [ih]
      conv => rhs; unfold clos
      rw [if_pos hk, hc']
      rfl
    | false =>
      dsimp only
      rw [if_neg (by decide)]
      show (forIn r acc _ : Sem _) = _
      rw [ih]
      conv => rhs; unfold clos
      rw [if_neg (by rw [hk]; decide)]
theorem closure_of {scope : Scope} {env : Env} (h : ∀ y ∈ scope.names, y.2 = .free → ∃ c, env.cells.lookup y.1 = some c) : closureFor scope env = pure (clos env.cells scope.names []) := by
  have e := clos_run scope.names [] h
  simp only [closureFor]
  rw [e]
  rfl
theorem clos_in {cells : List (Str × Addr)} : ∀ {names : List (Str × NameKind)} {acc : List (Str × Addr)} {x : Str} {c : Addr}, (∀ y ∈ names, y.2 = .free → ∃ c, cells.lookup y.1 = some c) → (∀ x c, acc.lookup x = some c → cells.lookup x = some c) →
    (clos cells names acc).lookup x = some c → cells.lookup x = some c
  | [], acc, x, c, _, ha, h => ha x c h
  | (n, k) :: r, acc, x, c, hn, ha, h => by
    unfold clos at h
    refine clos_in (fun y hy => hn y (List.mem_cons_of_mem _ hy)) (fun y d hy => ?_) h
    split at hy
    · rename_i hk
      have hk' : k = .free := by cases k <;> first | rfl | exact absurd hk (by decide)
      obtain ⟨c', hc⟩ := hn (n, k) List.mem_cons_self hk'
      have hc' : cells.lookup n = some c' := hc
      rw [List.lookup_cons] at hy
      cases e : (y == n) with
      | true =>
        rw [e] at hy
        have ey : y = n := by simpa using e
        subst ey
        rw [hc'] at hy ⊢
        exact hy
      | false =>
        rw [e] at hy
        exact ha y d hy
    · exact ha y d hy
theorem clos_acc {cells : List (Str × Addr)} : ∀ {names : List (Str × NameKind)} {acc : List (Str × Addr)} {x : Str}, (∃ c, acc.lookup x = some c) → ∃ c, (clos cells names acc).lookup x = some c
  | [], _, _, h => h
  | (n, k) :: r, acc, x, h => by
    unfold clos
    refine clos_acc ?_
    split
    · rw [List.lookup_cons]
      cases (x == n) with
      | true => exact ⟨_, rfl⟩
      | false => exact h
    · exact h
theorem clos_has {cells : List (Str × Addr)} : ∀ {names : List (Str × NameKind)} {acc : List (Str × Addr)} {x : Str}, (x, NameKind.free) ∈ names → ∃ c, (clos cells names acc).lookup x = some c
  | [], _, _, h => by cases h
  | (n, k) :: r, acc, x, h => by
    unfold clos
    rcases List.mem_cons.mp h with e | e
    · cases e
      refine clos_acc ?_
      rw [if_pos (by decide), List.lookup_cons]
      simp
    · exact clos_has e

/-- the context of a comprehension's block -/
noncomputable def cxComp (X : Cx) (N : List Str) (scope : Scope) (cl : List (Str × Addr)) (C : Addr) (fp : List Addr) (s : Shared) (H : Hp) : Cx :=
  { X with N := N, s₀ := s, H₀ := H, env := compEnvC scope cl C X.env, outer := X.stack, stack := X.stack, ex := fp, fn := fun _ => false, pn := [], xe := fun _ _ => False }

/-- the block's names: its own (none) and the ones of the def about it (their slots there) -/
noncomputable def inner (μ : List (Option Nat)) (σ : St) : St := μ.map fun o => o.bind fun j => (σ[j]?).join
noncomputable def muOk (oN : List Str) (osc : Scope) (N : List Str) (isc : Scope) (μ : List (Option Nat)) : Bool :=
  decide (μ.length = N.length) && (μ.zip N).all fun (o, x) => match o with
    | none => true
    | some j => decide (oN[j]? = some x) && decide (osc.names.lookup x = some .cell) && (decide (isc.names.lookup x = some .cell) || decide (isc.names.lookup x = some .free))
theorem muOk.get {oN N : List Str} {osc isc : Scope} {μ : List (Option Nat)} (h : muOk oN osc N isc μ = true) {i j : Nat} {x : Str} (h1 : μ[i]? = some (some j)) (h2 : N[i]? = some x) :
    oN[j]? = some x ∧ osc.names.lookup x = some .cell ∧ (isc.names.lookup x = some .cell ∨ isc.names.lookup x = some .free) := by
  unfold muOk at h
  rw [Bool.and_eq_true] at h
  have hz : (μ.zip N)[i]? = some (some j, x) := by rw [List.getElem?_zip_eq_some]; exact ⟨h1, h2⟩
  have q := List.all_eq_true.mp h.2 _ (List.mem_of_getElem? hz)
  simp only [Bool.and_eq_true, Bool.or_eq_true, decide_eq_true_eq] at q
  exact ⟨q.1.1, q.1.2, q.2⟩

section
variable {prog : Program} {w : World} {A : Around} {R : Result → Shared → Prop} {s : Shared}
/-- the block's loop, the iterator's step as it is -/
theorem compLoop_go {elt target iter : Expr} {ifs : List Expr} {scope : Scope} {pos : Pos} {it acc : Value} {env : Env} (I : Nat → Shared → Prop)
    (turn : ∀ n s, I n s → wpAny (model prog w) A (pyNext it) (fun r s₁ => match r with
      | none => R (.ok .next) s₁
      | some v => wpAny (model prog w) A (letOwnedTupleGo target it v) (fun _ s₂ => wpAny (model prog w) A (assign target env v) (fun _ s₂ =>
          wpAny (model prog w) A (forIn ifs true fun c r => if r = true then do let ok ← isTrue c env (eval c env); pure (ForInStep.yield ok) else pure (ForInStep.yield r)) (fun ok s₃ =>
            if ok = true then wpAny (model prog w) A (eval elt env) (fun x s₄ =>
              wpAny (model prog w) A (call (.builtin "list.append") [acc, x]) (fun _ s₅ => ∃ m, m < n ∧ I m s₅) (fun _ _ => False) s₄) (fun _ _ => False) s₃
            else ∃ m, m < n ∧ I m s₃) (fun _ _ => False) s₂) (fun _ _ => False) s₂) (fun _ _ => False) s₁) (fun _ _ => False) s)
    (n : Nat) (h : I n s) :
    codeAny (model prog w) A (.compLoop (.ListComp elt [⟨target, iter, ifs, 0⟩] scope pos) 0 it acc env) R s := by
  refine codeAny_loop rfl I (fun n s hI => ?_) n h
  show wpAny _ A ((compTurn (.ListComp elt [⟨target, iter, ifs, 0⟩] scope pos) 0 it acc env).onRaise (fun x => do noteFrame x env; theTreesLotGoes x)) _ _ s
  refine wpAny_noted ?_
  rw [compTurn_list]
  refine wpAny_bind (wpAny_standAt (wpAny_bind (wpAny_mono (turn n s hI) (fun r s₁ h₁ => ?_) fun _ _ h' => h'.elim)))
  cases r with
  | none => exact wpAny_pure h₁
  | some v =>
    refine wpAny_bind (wpAny_mono h₁ (fun _ s₂ h₂ => wpAny_bind (wpAny_mono h₂ (fun _ s₃ h₃ => wpAny_bind (wpAny_mono h₃ (fun ok s₄ h₄ => ?_) fun _ _ h' => h'.elim)) fun _ _ h' => h'.elim)) fun _ _ h' => h'.elim)
    cases ok with
    | false => exact wpAny_pure ⟨rfl, h₄⟩
    | true =>
      exact wpAny_bind (wpAny_bind (wpAny_mono h₄ (fun x s₅ h₅ => wpAny_bind (wpAny_mono h₅ (fun _ s₆ h₆ => wpAny_pure (wpAny_pure ⟨rfl, h₆⟩)) fun _ _ h' => h'.elim)) fun _ _ h' => h'.elim))
end

/-- the block's tests -/
noncomputable def PTs (X : Cx) (ifs : List Expr) (t : TT) : Prop :=
  ∀ (pins : List (Addr × Obj)) (s : Shared) (σ : St) (H : Hp) (Q : Bool → Hp → Prop), Inv X pins σ H s → t σ H Q →
    wpAny (model X.prog X.w) X.A (forIn ifs true fun c r => if r = true then do let ok ← isTrue c X.env (eval c X.env); pure (ForInStep.yield ok) else pure (ForInStep.yield r)) (TP X pins σ Q) X.xe s
theorem pts_nil {X : Cx} : PTs X [] (fun _ H Q => Q true H) := fun pins s σ H Q I h => wpAny_tests_nil ⟨H, I, h⟩
/-- what a comprehension wants: p the new list -/
noncomputable def compW (μ : List (Option Nat)) (g : TG) (tt : TT) (te : TE) (σ : St) (Q : VK) (J : It) (H1 : Hp) : Prop :=
  ∀ p, H1 p = none → ∃ W : Nat → Nat → St → Hp → Prop, (∃ m, W 0 m (inner μ σ) (upd H1 p (.lst []))) ∧ ∀ i m σ' H', W i m σ' H' →
    (J.stop i H' ∧ Q (.ref p) H') ∨ (J.go i H' ∧ ∃ Nn : St → Hp → Prop, (∀ σ2 H2, Nn σ2 H2 → ∃ m', m' < m ∧ W (i + 1) m' σ2 H2) ∧
      ∀ x H2, J.yld i H' x H2 → g x σ' H2 fun σ3 H3 => tt σ3 H3 fun b H4 => if b = true then te σ3 H4 fun y H5 => ∃ ys, H5 p = some (.lst ys) ∧ ys.length < sizeLine ∧ Nn σ3 (upd H5 p (.lst (ys ++ [y]))) else Nn σ3 H4)
noncomputable def tComp (μ : List (Option Nat)) (wi : TI) (g : TG) (tt : TT) (te : TE) : TE := fun σ H Q => wi σ H (compW μ g tt te σ Q)

section
variable {X : Cx} {pins : List (Addr × Obj)} {σ : St} {H2 : Hp} {s2 : Shared} {tg iter elt : Expr} {ifs : List Expr} {scope : Scope} {pos : Pos} {it : Addr} {fp : List Addr} {tn : Nat → Heap → Prop} {J : It} {N : List Str} {μ : List (Option Nat)} {g : TG} {tt : TT} {te : TE} {Q : VK}
theorem comp_core {RR : Value → Addr → Result → Shared → Prop} (I2 : Inv X pins σ H2 s2) (T : Turn X.prog X.w X.K tg J fp it tn) (st2 : tn 0 s2.heap) (f2 : ∀ b ∈ fp, FpOk X pins H2 b) (hc : X.calm = true)
    (hcell : ∀ y ∈ scope.names, y.2 ≠ .cell) (hkind : scope.kind = .function) (hfr : ∀ y ∈ scope.names, y.2 = .free → ∃ c, X.env.cells.lookup y.1 = some c)
    (hhas : ∀ x, ((relabel scope X.env).names.lookup x = some .cell ∨ (relabel scope X.env).names.lookup x = some .free) → (x, NameKind.free) ∈ scope.names)
    (hμ : muOk X.N X.env.scope N (relabel scope X.env) μ = true)
    (hg : ∀ C s H, PG (cxComp X N scope (clos X.env.cells scope.names []) C fp s H) tg g) (ht : ∀ C s H, PTs (cxComp X N scope (clos X.env.cells scope.names []) C fp s H) ifs tt) (he : ∀ C s H, PE (cxComp X N scope (clos X.env.cells scope.names []) C fp s H) elt te)
    (hW : compW μ g tt te σ Q J H2)
    (hRR : ∀ p C s' H' m, Inv X pins σ H' s' → s'.heap.Ns C m → FpOk X pins H' C → Q (.ref p) H' → RR (.ref p) C (.ok .next) s') :
    wpAny (model X.prog X.w) X.A (newList []) (fun acc s₃ => wpAny (model X.prog X.w) X.A (newFunctionEnv scope X.env.globals (clos X.env.cells scope.names []) [] X.env.qual none .none (some X.env)) (fun cenv s₄ =>
      codeAny (model X.prog X.w) X.A (.compStart (.ListComp elt [⟨tg, iter, ifs, 0⟩] scope pos) 0 (.ref it) acc { cenv with scope := relabel scope X.env }) (RR acc cenv.locals) s₄) X.xe s₃) X.xe s2 := by
  refine wpAny_newObj_type (wpAny_newFunctionEnv hcell (by intro y hy; simp at hy) (fun h₁ hns₁ hsb₁ => ?_) hkind)
  dsimp only at hns₁ hsb₁ ⊢
  generalize hH2 : s2.heap.push { cls := .type "list", dict := none, data := .seq ([] : List Value).toArray } = G at hns₁ hsb₁ ⊢
  have hC : G.objs.size = s2.heap.objs.size + 1 := by rw [← hH2, Heap.size_push]
  have hDC : s2.heap.objs.size ≠ G.objs.size := by rw [hC]; exact Nat.ne_of_lt (Nat.lt_succ_self _)
  have hCle : s2.heap.objs.size ≤ G.objs.size := by rw [hC]; exact Nat.le_succ _
  have below : ∀ b, b < s2.heap.objs.size → b ≠ G.objs.size ∧ b ≠ s2.heap.objs.size := fun b hb => ⟨by rw [hC]; exact Nat.ne_of_lt (Nat.lt_succ_of_lt hb), Nat.ne_of_lt hb⟩
  have old : ∀ b o, s2.heap.get? b = some o → h₁.get? b = some o := fun b o e => hsb₁.extBut b o (below b (Heap.lt_size e)).1 (Heap.get?_push_of_some _ (hH2 ▸ Heap.get?_push_of_some _ e))
  have hobj : h₁.get? s2.heap.objs.size = some { cls := .type "list", dict := none, data := .seq ([] : List Value).toArray } := hsb₁.extBut _ _ hDC (Heap.get?_push_of_some _ (hH2 ▸ Heap.get?_push_size _ rfl))
  have hclin : ∀ x c, (clos X.env.cells scope.names []).lookup x = some c → X.env.cells.lookup x = some c := fun x c h => clos_in hfr (fun _ _ z => by simp at z) h
  have cellt : ∀ x c, (clos X.env.cells scope.names []).lookup x = some c → c < s2.heap.objs.size := fun x c h => by
    obtain ⟨v, o, ho, _⟩ := I2.cell x c (hclin x c h)
    exact Heap.lt_size ho
  have fplt : ∀ b ∈ fp, b < s2.heap.objs.size := fun b hb => by
    obtain ⟨o, ho, _⟩ := T.obj 0 _ st2 b hb
    exact Heap.lt_size ho
  have Hn : ∀ a, s2.heap.objs.size ≤ a → H2 a = none := fun a ha => I2.hok.fresh ha
  obtain ⟨W, ⟨m0, w0⟩, turn⟩ := hW s2.heap.objs.size (Hn _ (Nat.le_refl _))
  have okc : (cxComp X N scope (clos X.env.cells scope.names []) G.objs.size fp s2 H2).Ok := by
    refine ⟨I2.ok.mod, by show (relabel scope X.env).kind = _; exact hkind, I2.ok.glob, I2.ok.blt, hCle, fun x y c h1 h2 => ?_, fun x hx => ?_, fun _ _ z => (by cases z), I2.ok.hd, I2.ok.frames, .inl rfl, fun b hb => ⟨?_, fun x c h z => ?_⟩, I2.bs, Nat.le_trans I2.ok.bsz I2.sz, fun b o e hb => ?_, fun b hb z => ?_, I2.stack, I2.stkFree⟩
    · exact I2.ok.inj x y c (hclin x c h1) (hclin y c h2)
    · exact clos_has (hhas x hx)
    · exact (below b (fplt b hb)).1
    · exact (f2 b hb).2.2.2.2.1 x c (hclin x c h) z
    · rcases (f2 b hb).2.2.2.1 with z | z
      · exact I2.ok.noex b o e z
      · exact absurd (Nat.lt_of_lt_of_le (Heap.lt_size e) (Nat.le_trans I2.ok.bsz z)) (Nat.lt_irrefl _)
    · rcases List.mem_cons.mp (I2.stkSub b z) with e | e
      · exact (f2 b hb).2.1 e
      · exact (f2 b hb).2.2.1 e
  have Hfree : ∀ b, b ≠ s2.heap.objs.size → H2 b = none → (upd H2 s2.heap.objs.size (.lst [])) b = none := fun b h1 h2 => by rw [upd_ne h1]; exact h2
  have I3 : Inv (cxComp X N scope (clos X.env.cells scope.names []) G.objs.size fp s2 H2) [] (inner μ σ) (upd H2 s2.heap.objs.size (.lst [])) { s2 with heap := h₁, toks := s2.toks + ([] : List (Str × Value)).length } := by
    refine ⟨okc, rfl, I2.bare, Un.laid old (Nat.le_refl _) (Hn _ (Nat.le_refl _)), ⟨_, hns₁, fun i x v e1 e2 e3 => ?_⟩, fun x c h => ?_, Hfree _ hDC.symm (Hn _ hCle), fun x c h => Hfree _ (below c (cellt x c h)).2 (I2.freeC x c (hclin x c h)), fun p hp => absurd (show p ∈ ([] : List (Addr × Obj)) from hp) (by simp), I2.hok.laid old (Nat.le_refl _) ⟨by decide, [], 0, .nil, hobj⟩, ?_⟩
    · have e1' : N[i]? = some x := e1
      have e2' : (μ.map fun o => o.bind fun j => (σ[j]?).join)[i]? = some (some v) := e2
      rw [List.getElem?_map] at e2'
      cases q : μ[i]? with
      | none => rw [q] at e2'; cases e2'
      | some o =>
        rw [q] at e2'
        cases o with
        | none => cases e2'
        | some j =>
          have e4 : (σ[j]?).join = some v := Option.some.inj e2'
          have e5 : σ[j]? = some (some v) := by
            cases z : σ[j]? with
            | none => rw [z] at e4; cases e4
            | some y => rw [z] at e4; cases y with
              | none => cases e4
              | some y => rw [show y = v from Option.some.inj e4]
          obtain ⟨a1, a2, a3⟩ := muOk.get hμ q e1'
          obtain ⟨m, hn, hl⟩ := I2.loc
          obtain ⟨u, r, l⟩ := hl j x v a1 e5 (.inr (.inl a2))
          refine ⟨u, r, ?_⟩
          rcases l with ⟨k, _⟩ | ⟨_, c, hcc, hce⟩
          · exact absurd ((show X.env.scope.names.lookup x = some .local from k).symm.trans a2) (by intro z; cases z)
          · obtain ⟨c', hc'⟩ : ∃ c, (clos X.env.cells scope.names []).lookup x = some c := clos_has (hhas x a3)
            have ec : c' = c := Option.some.inj ((hclin x c' hc').symm.trans hcc)
            subst ec
            exact .inr ⟨a3, c', hc', hce.keeps old⟩
    · obtain ⟨v, z⟩ := I2.cell x c (hclin x c h)
      exact ⟨v, z.keeps old⟩
    · show (μ.map _).length = N.length
      rw [List.length_map]
      have q := hμ
      unfold muOk at q
      rw [Bool.and_eq_true] at q
      exact of_decide_eq_true q.1
  have fin : ∀ {σ' : St} {H' : Hp} {s' : Shared}, Inv (cxComp X N scope (clos X.env.cells scope.names []) G.objs.size fp s2 H2) [] σ' H' s' → Q (.ref s2.heap.objs.size) H' → RR (.ref s2.heap.objs.size) G.objs.size (.ok .next) s' := fun {σ' H' s'} I4 q => by
    have I5 : Inv X pins σ H' s' := I2.call' (ch := fp) I4.os I4.base I4.hok I4.bare fun b hb => ⟨(f2 b hb).2.2.2.1, (f2 b hb).2.1, (f2 b hb).2.2.2.2.1, (f2 b hb).2.2.2.2.2⟩
    obtain ⟨m, hn, _⟩ := I4.loc
    have hn' : s'.heap.Ns G.objs.size m := hn
    refine hRR _ _ s' H' m I5 hn' ⟨I4.free, Nat.ne_of_gt (Nat.lt_of_lt_of_le I2.lt hCle), I2.nofs hCle, .inr (Nat.le_trans I2.sz hCle), fun x c h z => ?_, fun p hp z => ?_⟩ q
    · obtain ⟨v, o, ho, _⟩ := I2.cell x c h
      exact (below c (Heap.lt_size ho)).1 z
    · exact (below p.1 (Heap.lt_size (I2.pin p hp).1)).1 z
  have stat : ∀ {H' : Hp}, (∀ b ∈ fp, H' b = none) → ∀ b ∈ fp, FpOk (cxComp X N scope (clos X.env.cells scope.names []) G.objs.size fp s2 H2) [] H' b := fun {H'} hn b hb => by
    refine ⟨hn b hb, (below b (fplt b hb)).1, fun z => ?_, .inl hb, fun x c h z => (f2 b hb).2.2.2.2.1 x c (hclin x c h) z, fun p hp => absurd (show p ∈ ([] : List (Addr × Obj)) from hp) (by simp)⟩
    exact okc.exfs b hb z
  have loop : codeAny (model X.prog X.w) X.A (.compLoop (.ListComp elt [⟨tg, iter, ifs, 0⟩] scope pos) 0 (.ref it) (.ref s2.heap.objs.size) (compEnvC scope (clos X.env.cells scope.names []) G.objs.size X.env))
      (RR (.ref s2.heap.objs.size) G.objs.size) { s2 with heap := h₁, toks := s2.toks + ([] : List (Str × Value)).length } := by
    refine compLoop_go (fun n s' => ∃ i σ' H', Inv (cxComp X N scope (clos X.env.cells scope.names []) G.objs.size fp s2 H2) [] σ' H' s' ∧ tn i s'.heap ∧ (∀ b ∈ fp, H' b = none) ∧ W i n σ' H') ?_ m0
      ⟨0, inner μ σ, _, I3, T.keep _ _ _ st2 (fun b hb o e => old b o e), fun b hb => Hfree b (below b (fplt b hb)).2 (f2 b hb).1, w0⟩
    rintro n s3 ⟨i, σ3, H3, I3, st3, fr3, w3⟩
    rcases turn i n σ3 H3 w3 with ⟨stop, qn⟩ | ⟨go, Nn, hN, step⟩
    · refine thn (T.done (cxComp X N scope (clos X.env.cells scope.names []) G.objs.size fp s2 H2) rfl rfl rfl hc i [] s3 σ3 H3 _ I3 (stat fr3) st3 stop) fun r s4 ⟨hr, I4⟩ => ?_
      subst hr
      exact fin I4 qn
    · refine thn (T.item (cxComp X N scope (clos X.env.cells scope.names []) G.objs.size fp s2 H2) rfl rfl rfl hc i [] s3 σ3 H3 _ I3 (stat fr3) st3 go) fun r s4 ⟨u, hr, h4⟩ => ?_
      subst hr
      refine thn h4 fun _ s5 hw' => ?_
      obtain ⟨x, H5, I5, r5, y5, st5, fr5⟩ := hw'
      have I5' := I5.pinned (stat fr5) (T.obj _ _ st5)
      have again : ∀ {σ7 : St} {H7 : Hp} {s7 : Shared}, Inv (cxComp X N scope (clos X.env.cells scope.names []) G.objs.size fp s2 H2) ([] ++ pinsAt fp s5.heap) σ7 H7 s7 → Nn σ7 H7 →
          ∃ m, m < n ∧ ∃ i σ' H', Inv (cxComp X N scope (clos X.env.cells scope.names []) G.objs.size fp s2 H2) [] σ' H' s7 ∧ tn i s7.heap ∧ (∀ b ∈ fp, H' b = none) ∧ W i m σ' H' := fun {σ7 H7 s7} I7 n7 => by
        obtain ⟨m', hm, w7⟩ := hN σ7 H7 n7
        refine ⟨m', hm, i + 1, σ7, H7, I7.unpinned, T.keep _ _ _ st5 fun b hb o e => (I7.pin (b, o) (List.mem_append_right _ (List.mem_append_right _ (mem_pinsAt hb e)))).1, fun b hb => ?_, w7⟩
        obtain ⟨o, e, d⟩ := T.obj _ _ st5 b hb
        exact (I7.pin (b, o) (List.mem_append_right _ (List.mem_append_right _ (mem_pinsAt hb e)))).2.1
      refine thn (hg G.objs.size s2 H2 _ s5 σ3 H5 x u _ I5' r5 (step x H5 y5)) fun _ s6 hw' => ?_
      obtain ⟨σ6, H6, I6, q6⟩ := hw'
      refine thn (ht G.objs.size s2 H2 _ s6 σ6 H6 _ I6 q6) fun ok s7 ⟨H7, I7, q7⟩ => ?_
      cases ok with
      | false =>
        rw [if_neg (by decide)] at q7 ⊢
        exact again I7 q7
      | true =>
        rw [if_pos rfl] at q7 ⊢
        refine thn (he G.objs.size s2 H2 _ s7 σ6 H7 _ I7 q7) fun u8 s8 hw' => ?_
        obtain ⟨y, H8, I8, r8, ys, e8, l8, q8⟩ := hw'
        have ma := mt_append (X := cxComp X N scope (clos X.env.cells scope.names []) G.objs.size fp s2 H2) _ s8 σ6 H8 (.ref s2.heap.objs.size) [y] (.ref s2.heap.objs.size) [u8]
          (fun _ H9 => Nn σ6 H9) I8 rfl (.cons r8 .nil) ⟨_, ys, y, rfl, rfl, e8, l8, q8⟩
        exact thn ma fun _ s9 ⟨_, H9, I9, _, q9⟩ => again I9 q9
  exact codeAny_compStart_list loop (T.self _ 0 _ _ _ (T.keep _ _ _ st2 (fun b hb o e => old b o e)) loop)

theorem pe_comp {wi : TI} (hc : X.calm = true) (hcell : ∀ y ∈ scope.names, y.2 ≠ .cell) (hkind : scope.kind = .function) (hnames : ∀ y ∈ scope.names, y.2 = .local → scope.names.lookup y.1 = some .local)
    (hfree : ∀ y ∈ scope.names, y.2 = .free → X.env.kindOf y.1 = some .cell ∨ X.env.kindOf y.1 = some .free)
    (hhas : ∀ x, ((relabel scope X.env).names.lookup x = some .cell ∨ (relabel scope X.env).names.lookup x = some .free) → (x, NameKind.free) ∈ scope.names)
    (hμ : muOk X.N X.env.scope N (relabel scope X.env) μ = true) (hi : PI X tg iter wi)
    (hg : ∀ fp C s H, PG (cxComp X N scope (clos X.env.cells scope.names []) C fp s H) tg g) (ht : ∀ fp C s H, PTs (cxComp X N scope (clos X.env.cells scope.names []) C fp s H) ifs tt) (he : ∀ fp C s H, PE (cxComp X N scope (clos X.env.cells scope.names []) C fp s H) elt te)
    (hs : ∀ x, foldedSetIterable iter X.env x = pure x := by intro _; rfl) : PE X (.ListComp elt [⟨tg, iter, ifs, 0⟩] scope pos) (tComp μ wi g tt te) := by
  intro pins s σ H Q I h
  have hfr : ∀ y ∈ scope.names, y.2 = .free → ∃ c, X.env.cells.lookup y.1 = some c := fun y hy hk => I.ok.has y.1 (hfree y hy hk)
  rw [eval_ListComp]
  refine wpAny_comprehension_free (use := none) rfl hs (closure_of hfr) hkind hnames (thn (hi pins s σ H _ I h) fun v s1 h1 => thn h1 fun itv s2 h2 => ?_)
  obtain ⟨it, fp, tn, J, H2, rfl, I2, T, st2, f2, W⟩ := h2
  refine comp_core (RR := fun acc C => compPost (model X.prog X.w) X.A X.xe none (EP X pins σ Q) acc C) I2 T st2 f2 hc hcell hkind hfr hhas hμ (hg fp) (ht fp) (he fp) W ?_
  intro p C s' H' m I' hn fc q
  exact ⟨m, hn, fun h' hsb => ⟨.ref p, H', I'.turned (t' := s'.toks) (fun b o ne e => (hsb.2 b ne).trans e) fc.1 (Ne.symm fc.2.1).symm fc.2.2.2.1 fc.2.2.2.2.1 fc.2.2.2.2.2, rfl, q⟩⟩
/-- name = [..], stored ahead of the block's end -/
theorem ps_comp {wi : TI} {i : Nat} {y : Str} {py spos : Pos} (hN : X.N.Nodup) (hiN : X.N[i]? = some y) (hx : Loc X.env.scope y) (hc : X.calm = true) (hcell : ∀ y ∈ scope.names, y.2 ≠ .cell) (hkind : scope.kind = .function) (hnames : ∀ y ∈ scope.names, y.2 = .local → scope.names.lookup y.1 = some .local)
    (hfree : ∀ y ∈ scope.names, y.2 = .free → X.env.kindOf y.1 = some .cell ∨ X.env.kindOf y.1 = some .free)
    (hhas : ∀ x, ((relabel scope X.env).names.lookup x = some .cell ∨ (relabel scope X.env).names.lookup x = some .free) → (x, NameKind.free) ∈ scope.names)
    (hμ : muOk X.N X.env.scope N (relabel scope X.env) μ = true) (hi : PI X tg iter wi)
    (hg : ∀ fp C s H, PG (cxComp X N scope (clos X.env.cells scope.names []) C fp s H) tg g) (ht : ∀ fp C s H, PTs (cxComp X N scope (clos X.env.cells scope.names []) C fp s H) ifs tt) (he : ∀ fp C s H, PE (cxComp X N scope (clos X.env.cells scope.names []) C fp s H) elt te)
    (hsw : swapsWith (.ListComp elt [⟨tg, iter, ifs, 0⟩] scope pos) (some (.Name y py)) spos.line X.env = pure true := by rfl)
    (hf : X.fn y = true ∨ X.env.scope.names.lookup y = some .local := by first | exact .inl rfl | exact .inr rfl | assumption)
    (hs : ∀ x, foldedSetIterable iter X.env x = pure x := by intro _; rfl) : PS X (.Assign [.Name y py] (.ListComp elt [⟨tg, iter, ifs, 0⟩] scope pos) spos) (tAsg (tComp μ wi g tt te) (gName i)) := by
  intro pins s σ H D I h
  have hfr : ∀ y ∈ scope.names, y.2 = .free → ∃ c, X.env.cells.lookup y.1 = some c := fun y hy hk => I.ok.has y.1 (hfree y hy hk)
  rw [exec_Assign_Name_used _ _ _ _ hsw]
  refine wpAny_bind (wpAny_standAt (wpAny_bind ?_))
  show wpAny _ _ (do let _ ← comprehension (.ListComp elt [⟨tg, iter, ifs, 0⟩] scope pos) scope X.env _ (newList []) false (eval iter X.env) (some (assign (.Name y py) X.env))) _ _ s
  refine wpAny_bind (wpAny_mono (wpAny_comprehension_free (use := some (assign (.Name y py) X.env)) (Q := fun _ s' => SP X pins D .next s') rfl hs (closure_of hfr) hkind hnames
    (thn (hi pins s σ H _ I h) fun v s1 h1 => thn h1 fun itv s2 h2 => ?_)) (fun _ s' hq => wpAny_pure (wpAny_pure hq)) fun _ _ e => e)
  obtain ⟨it, fp, tn, J, H2, rfl, I2, T, st2, f2, W⟩ := h2
  refine comp_core (RR := fun acc C => compPost (model X.prog X.w) X.A X.xe (some (assign (.Name y py) X.env)) (fun _ s' => SP X pins D .next s') acc C) I2 T st2 f2 hc hcell hkind hfr hhas hμ (hg fp) (ht fp) (he fp) W ?_
  intro p C s' H' m I' hn fc q
  show wpAny _ _ (assign (.Name y py) X.env (.ref p)) _ _ s'
  refine wpAny_assign_Name (store_ok2 (v := .ref p) I' hN hiN hx rfl (fun s'' I'' hsm => ?_) hf)
  obtain ⟨a, sb, ha⟩ := hsm
  have ne : C ≠ a := by
    rcases ha with ha | ha
    · rw [ha]; exact fc.2.1
    · exact (fc.2.2.2.2.1 y a ha).symm
  exact ⟨m, hn.sameBut sb ne, fun h' hsb => ⟨_, H', I''.turned (t' := s''.toks) (fun b o ne e => (hsb.2 b ne).trans e) fc.1 fc.2.1 fc.2.2.2.1 fc.2.2.2.2.1 fc.2.2.2.2.2, q⟩⟩
end
end L2
set_option Elab.async false
set_option linter.all false
set_option maxRecDepth 100000
set_option genSizeOf false
set_option bootstrap.genMatcherCode false
set_option genInjectivity true
/-! PLAIN DATA OVER THE LAYER: what an expression, a block, a def is worth as a total Lean function over plain data. -/
namespace DL
open PySem PySem.Spec PyProof.Rows L2

noncomputable abbrev St := L2.St
/-- plain data; scr: the script; obj: the n-th object that may change -/
inductive D where
  | non | bl (b : Bool) | int (i : Int) | str (x : Str) | tup (xs : List D) | lst (xs : List D) | scr (ns : List Int) | obj (n : Nat)

mutual
noncomputable def Is (K : PySem.W.Frag) (α : List Addr) (F : Hp) : D → V → Prop
  | .non, v => v = .non
  | .bl b, v => v = .bl b
  | .int i, v => v = .int i
  | .str x, v => v = .str x
  | .tup xs, v => ∃ a vs, v = .ref a ∧ F a = some (.tup vs) ∧ IsL K α F xs vs
  | .lst xs, v => ∃ a vs, v = .ref a ∧ F a = some (.lst vs) ∧ IsL K α F xs vs
  | .scr ns, v => ∃ a, v = .ref a ∧ SqL K F a (ns.map V.int)
  | .obj n, v => ∃ a, α[n]? = some a ∧ v = .ref a
noncomputable def IsL (K : PySem.W.Frag) (α : List Addr) (F : Hp) : List D → List V → Prop
  | [], vs => vs = []
  | d :: ds, vs => ∃ v r, vs = v :: r ∧ Is K α F d v ∧ IsL K α F ds r
end

section
variable {K : PySem.W.Frag} {α α' : List Addr} {F F' : Hp}
mutual
theorem Is.mono (ff : Same F F') (al : ∃ more, α' = α ++ more) : ∀ (d : D) {v : V}, Is K α F d v → Is K α' F' d v
  | .non, _, h => by rw [Is] at h ⊢; exact h
  | .bl _, _, h => by rw [Is] at h ⊢; exact h
  | .int _, _, h => by rw [Is] at h ⊢; exact h
  | .str _, _, h => by rw [Is] at h ⊢; exact h
  | .tup xs, _, h => by
    rw [Is] at h ⊢
    obtain ⟨a, vs, e, q, r⟩ := h
    exact ⟨a, vs, e, ff _ _ q, IsL.mono ff al xs r⟩
  | .lst xs, _, h => by
    rw [Is] at h ⊢
    obtain ⟨a, vs, e, q, r⟩ := h
    exact ⟨a, vs, e, ff _ _ q, IsL.mono ff al xs r⟩
  | .scr ns, _, h => by
    rw [Is] at h ⊢
    obtain ⟨a, e, q⟩ := h
    exact ⟨a, e, ff.seq q⟩
  | .obj n, _, h => by
    rw [Is] at h ⊢
    obtain ⟨a, e, q⟩ := h
    obtain ⟨more, rfl⟩ := al
    refine ⟨a, ?_, q⟩
    rw [List.getElem?_append_left (List.getElem?_eq_some_iff.mp e).1]
    exact e
theorem IsL.mono (ff : Same F F') (al : ∃ more, α' = α ++ more) : ∀ (ds : List D) {vs : List V}, IsL K α F ds vs → IsL K α' F' ds vs
  | [], _, h => by rw [IsL] at h ⊢; exact h
  | d :: ds, _, h => by
    rw [IsL] at h ⊢
    obtain ⟨v, r, e, h1, h2⟩ := h
    exact ⟨v, r, e, Is.mono ff al d h1, IsL.mono ff al ds h2⟩
end
theorem IsL.nil : IsL K α F [] [] := by rw [IsL]
theorem IsL.cons {d : D} {v : V} {ds : List D} {vs : List V} (h : Is K α F d v) (r : IsL K α F ds vs) : IsL K α F (d :: ds) (v :: vs) := by rw [IsL]; exact ⟨v, vs, rfl, h, r⟩
theorem IsL.of_nil {vs : List V} (h : IsL K α F [] vs) : vs = [] := by rw [IsL] at h; exact h
theorem IsL.of_cons {d : D} {ds : List D} {vs : List V} (h : IsL K α F (d :: ds) vs) : ∃ v r, vs = v :: r ∧ Is K α F d v ∧ IsL K α F ds r := by rw [IsL] at h; exact h
theorem IsL.length : ∀ {ds : List D} {vs : List V}, IsL K α F ds vs → ds.length = vs.length
  | [], vs, h => by rw [h.of_nil]; rfl
  | d :: ds, vs, h => by
    obtain ⟨v, r, rfl, _, t⟩ := h.of_cons
    rw [List.length_cons, List.length_cons, t.length]
theorem IsL.append : ∀ {ds es : List D} {vs us : List V}, IsL K α F ds vs → IsL K α F es us → IsL K α F (ds ++ es) (vs ++ us)
  | [], _, _, _, h, q => by rw [h.of_nil]; exact q
  | d :: ds, es, vs, us, h, q => by
    obtain ⟨v, r, rfl, h1, t⟩ := h.of_cons
    exact .cons h1 (t.append q)
theorem IsL.get : ∀ {ds : List D} {vs : List V} {i : Nat} {d : D}, IsL K α F ds vs → ds[i]? = some d → ∃ v, vs[i]? = some v ∧ Is K α F d v
  | [], _, _, _, _, e => by simp at e
  | d :: ds, vs, 0, x, h, e => by
    obtain ⟨v, r, rfl, h1, t⟩ := h.of_cons
    rw [List.getElem?_cons_zero] at e
    cases e
    exact ⟨v, rfl, h1⟩
  | d :: ds, vs, i + 1, x, h, e => by
    obtain ⟨v, r, rfl, h1, t⟩ := h.of_cons
    rw [List.getElem?_cons_succ] at e
    obtain ⟨u, e1, q⟩ := t.get e
    exact ⟨u, by rw [List.getElem?_cons_succ]; exact e1, q⟩
theorem IsL.rep {ds : List D} {vs : List V} (h : IsL K α F ds vs) : ∀ n : Nat, IsL K α F (List.replicate n ds).flatten (List.replicate n vs).flatten
  | 0 => .nil
  | n + 1 => by
    rw [List.replicate_succ, List.replicate_succ, List.flatten_cons, List.flatten_cons]
    exact h.append (h.rep n)
theorem IsL.ints : ∀ (ns : List Int), IsL K α F (ns.map D.int) (ns.map V.int)
  | [] => .nil
  | n :: ns => .cons (by rw [Is]) (IsL.ints ns)
end

/-- the state at a place: the objects' places, what stands for ever, what belongs to the objects, the whole -/
structure E4 where
  α : List Addr
  F : Hp
  A : Addr → Prop
  H : Hp
structure Ext (e e' : E4) : Prop where
  fz : ∀ b o u, e.H b = some (.frz o u) → e'.H b = some (.frz o u)
  hk : ∀ b o, e.H b = some o → ¬ e.A b → e'.H b = some o
  dm : ∀ b o, e.H b = some o → ∃ o', e'.H b = some o'
  ff : Same e.F e'.F
  fn : ∀ b o, e'.F b = some o → e.F b = some o ∨ e.H b = none ∨ ((∃ xs, o = .tup xs) ∧ e.H b = some o ∧ ¬ e.A b)
  an : ∀ b, e'.A b → e.A b ∨ e.H b = none
  aa : ∀ b, e.A b → e'.A b
  al : ∃ more, e'.α = e.α ++ more
theorem Ext.refl (e : E4) : Ext e e := ⟨fun _ _ _ h => h, fun _ _ h _ => h, fun _ o h => ⟨o, h⟩, Same.refl _, fun _ _ h => .inl h, fun _ h => .inl h, fun _ h => h, [], by simp⟩
theorem Ext.back {e e' : E4} (x : Ext e e') {b : Addr} (h : e'.H b = none) : e.H b = none := by
  cases q : e.H b with
  | none => rfl
  | some o => obtain ⟨o', z⟩ := x.dm b o q; rw [h] at z; cases z
theorem Ext.trans {a b c : E4} (x : Ext a b) (y : Ext b c) : Ext a c := by
  refine ⟨fun p o u h => y.fz p o u (x.fz p o u h), fun p o h hn => y.hk p o (x.hk p o h hn) fun z => ?_, fun p o h => ?_, x.ff.trans y.ff, fun p o h => ?_, fun p h => ?_, fun p h => y.aa p (x.aa p h), ?_⟩
  · rcases x.an p z with q | q
    · exact hn q
    · rw [q] at h; cases h
  · obtain ⟨o', h'⟩ := x.dm p o h
    exact y.dm p o' h'
  · rcases y.fn p o h with q | q | ⟨q1, q2, q3⟩
    · exact x.fn p o q
    · exact .inr (.inl (x.back q))
    · have n : ¬ a.A p := fun z => q3 (x.aa p z)
      cases z : a.H p with
      | none => exact .inr (.inl rfl)
      | some o' =>
        have z' := x.hk p o' z n
        rw [q2] at z'
        cases z'
        exact .inr (.inr ⟨q1, rfl, n⟩)
  · rcases y.an p h with q | q
    · exact x.an p q
    · exact .inr (x.back q)
  · obtain ⟨m, e1⟩ := x.al
    obtain ⟨n, e2⟩ := y.al
    exact ⟨m ++ n, by rw [e2, e1, List.append_assoc]⟩

/-- an object that may change -/
inductive OS where
  | mls (xs : List D) | dead | exc (c : Str) | ins (c : Str) (fs : List (Str × D)) | fzK (kvs : List (Key × D)) | dK (kvs : List (Key × D)) | dT (kvs : List (List Key × D))
/-- pairs by their keys -/
noncomputable def PsIs (K : PySem.W.Frag) (α : List Addr) (F : Hp) {κ : Type} : List (κ × D) → List (κ × V) → Prop
  | [], vs => vs = []
  | p :: r, vs => ∃ v t, vs = (p.1, v) :: t ∧ Is K α F p.2 v ∧ PsIs K α F r t
theorem PsIs.mono {K : PySem.W.Frag} {α α' : List Addr} {F F' : Hp} {κ : Type} (ff : Same F F') (al : ∃ more, α' = α ++ more) : ∀ {ps : List (κ × D)} {vs : List (κ × V)}, PsIs K α F ps vs → PsIs K α' F' ps vs
  | [], _, h => h
  | p :: r, _, ⟨v, t, e, i, q⟩ => ⟨v, t, e, Is.mono ff al _ i, PsIs.mono ff al q⟩
noncomputable abbrev Cl := Str → Option Addr
noncomputable def OSIs (K : PySem.W.Frag) (C : Cl) (e : E4) (a : Addr) : OS → Prop
  | .mls xs => ∃ vs, e.H a = some (.lst vs) ∧ IsL K e.α e.F xs vs
  | .dead => True
  | .exc c => ∃ Ca ob u, C c = some Ca ∧ e.H a = some (.frz ob u) ∧ ob.cls = .ref Ca
  | .ins c fs => ∃ Ca dx fvs, C c = some Ca ∧ e.H a = some (.ins Ca dx fvs) ∧ PsIs K e.α e.F fs fvs
  | .fzK kvs => ∃ vs o, e.H a = some (.frz o (.dK vs)) ∧ PsIs K e.α e.F kvs vs
  | .dK kvs => ∃ vs, e.H a = some (.dK vs) ∧ PsIs K e.α e.F kvs vs
  | .dT kvs => ∃ vs, e.H a = some (.dT vs) ∧ PsIs K e.α e.F kvs vs
structure Wf (K : PySem.W.Frag) (C : Cl) (e : E4) (Ω : List OS) : Prop where
  fh : Same e.F e.H
  fa : ∀ b, e.A b → e.F b = none
  ah : ∀ b, e.A b → e.H b ≠ none ∧ ∀ xs, e.H b ≠ some (.tup xs)
  ol : e.α.length = Ω.length
  nd : e.α.Nodup
  ob : ∀ (n : Nat) (a : Addr) (o : OS), e.α[n]? = some a → Ω[n]? = some o → e.A a ∧ OSIs K C e a o
section
variable {K : PySem.W.Frag} {C : Cl} {e e' : E4} {Ω Ω' : List OS}
theorem Is.ext (x : Ext e e') {d : D} {v : V} (h : Is K e.α e.F d v) : Is K e'.α e'.F d v := Is.mono x.ff x.al d h
theorem IsL.ext (x : Ext e e') {d : List D} {v : List V} (h : IsL K e.α e.F d v) : IsL K e'.α e'.F d v := IsL.mono x.ff x.al d h
/-- a new thing that stands for ever -/
noncomputable def E4.new (e : E4) (p : Addr) (o : HO) : E4 := ⟨e.α, upd e.F p o, e.A, upd e.H p o⟩
theorem Wf.nF (w : Wf K C e Ω) {p : Addr} (hp : e.H p = none) : e.F p = none := by
  cases q : e.F p with
  | none => rfl
  | some o => rw [w.fh p o q] at hp; cases hp
theorem Wf.new_ext (w : Wf K C e Ω) {p : Addr} {o : HO} (hp : e.H p = none) : Ext e (e.new p o) := by
  refine ⟨fun b o' u h => ?_, fun b u h _ => ?_, fun b u h => ⟨u, ?_⟩, fun b u h => ?_, fun b u h => ?_, fun b h => .inl h, fun b h => h, [], by simp [E4.new]⟩
  · show upd e.H p o b = some (.frz o' u); rw [upd_ne (ne_of_none h hp)]; exact h
  · show upd e.H p o b = some u; rw [upd_ne (ne_of_none h hp)]; exact h
  · show upd e.H p o b = some u; rw [upd_ne (ne_of_none h hp)]; exact h
  · show upd e.F p o b = some u; rw [upd_ne (ne_of_none h (w.nF hp))]; exact h
  · have h : upd e.F p o b = some u := h
    by_cases hb : b = p
    · subst hb; exact .inr (.inl hp)
    · rw [upd_ne hb] at h; exact .inl h
theorem OSIs.keep {a : Addr} {o : OS} (h : OSIs K C e a o) (hH : ∀ u, e.H a = some u → e'.H a = some u) (ff : Same e.F e'.F) (al : ∃ more, e'.α = e.α ++ more) : OSIs K C e' a o := by
  cases o with
  | mls xs => obtain ⟨vs, h1, h2⟩ := h; exact ⟨vs, hH _ h1, IsL.mono ff al xs h2⟩
  | dead => trivial
  | exc c => obtain ⟨Ca, ob, u, h1, h2, h3⟩ := h; exact ⟨Ca, ob, u, h1, hH _ h2, h3⟩
  | ins c fs => obtain ⟨Ca, dx, fvs, h1, h2, h3⟩ := h; exact ⟨Ca, dx, fvs, h1, hH _ h2, h3.mono ff al⟩
  | fzK kvs => obtain ⟨vs, ob, h1, h2⟩ := h; exact ⟨vs, ob, hH _ h1, h2.mono ff al⟩
  | dK kvs => obtain ⟨vs, h1, h2⟩ := h; exact ⟨vs, hH _ h1, h2.mono ff al⟩
  | dT kvs => obtain ⟨vs, h1, h2⟩ := h; exact ⟨vs, hH _ h1, h2.mono ff al⟩
theorem Wf.new (w : Wf K C e Ω) {p : Addr} {o : HO} (hp : e.H p = none) : Wf K C (e.new p o) Ω := by
  have x : Ext e (e.new p o) := w.new_ext hp
  have ne : ∀ b, e.A b → b ≠ p := fun b h z => by subst z; exact (w.ah b h).1 hp
  refine ⟨fun b u h => ?_, fun b h => ?_, fun b h => ?_, w.ol, w.nd, fun n a u h1 h2 => ⟨(w.ob n a u h1 h2).1, (w.ob n a u h1 h2).2.keep (fun v hv => ?_) x.ff x.al⟩⟩
  · have h : upd e.F p o b = some u := h
    show upd e.H p o b = some u
    by_cases hb : b = p
    · subst hb; rw [upd_same] at h ⊢; exact h
    · rw [upd_ne hb] at h ⊢; exact w.fh b u h
  · show upd e.F p o b = none
    rw [upd_ne (ne b h)]; exact w.fa b h
  · show upd e.H p o b ≠ none ∧ ∀ xs, upd e.H p o b ≠ some (.tup xs)
    rw [upd_ne (ne b h)]; exact w.ah b h
  · show upd e.H p o a = some v
    rw [upd_ne (ne a (w.ob n a u h1 h2).1)]; exact hv
end

/-- a name: nothing known, data, a list of its own -/
inductive Sl where
  | und | dat (d : D) | own (xs : List D)
structure RelE (K : PySem.W.Frag) (e : E4) (σ : St) (ρ : List Sl) : Prop where
  len : σ.length = ρ.length
  dat : ∀ (i : Nat) (d : D), ρ[i]? = some (.dat d) → ∃ v, σ[i]? = some (some v) ∧ Is K e.α e.F d v
  own : ∀ (i : Nat) (ds : List D), ρ[i]? = some (.own ds) → ∃ a vs, σ[i]? = some (some (.ref a)) ∧ e.H a = some (.lst vs) ∧ IsL K e.α e.F ds vs ∧ e.F a = none ∧ ¬ e.A a
  sep : ∀ (i j : Nat) (ds es : List D) (a : Addr), ρ[i]? = some (.own ds) → ρ[j]? = some (.own es) → σ[i]? = some (some (.ref a)) → σ[j]? = some (some (.ref a)) → i = j
section
variable {K : PySem.W.Frag} {C : Cl} {e e' e₀ : E4} {Ω Ω' : List OS} {σ : St} {ρ : List Sl}
theorem RelE.ext (r : RelE K e σ ρ) (x : Ext e e') : RelE K e' σ ρ := by
  refine ⟨r.len, fun i d h => ?_, fun i ds h => ?_, r.sep⟩
  · obtain ⟨v, e1, q⟩ := r.dat i d h
    exact ⟨v, e1, q.ext x⟩
  · obtain ⟨a, vs, e1, e2, q, n1, n2⟩ := r.own i ds h
    refine ⟨a, vs, e1, x.hk a _ e2 n2, q.ext x, ?_, fun z => ?_⟩
    · cases z : e'.F a with
      | none => rfl
      | some o =>
        rcases x.fn a o z with y | y | ⟨⟨xs, rfl⟩, y, _⟩
        · rw [n1] at y; cases y
        · rw [e2] at y; cases y
        · rw [e2] at y; cases y
    · rcases x.an a z with y | y
      · exact n2 y
      · rw [e2] at y; cases y
theorem RelE.set (r : RelE K e σ ρ) (i : Nat) {d : D} {v : V} (h : Is K e.α e.F d v) : RelE K e (σ.set i (some v)) (ρ.set i (.dat d)) := by
  refine ⟨by simp [r.len], fun j d' hj => ?_, fun j ds hj => ?_, fun j k ds es a hj hk h1 h2 => ?_⟩
  · by_cases e1 : i = j
    · subst e1
      have hl : i < ρ.length := by
        have := (List.getElem?_eq_some_iff.mp hj).1
        simpa using this
      rw [List.getElem?_set_self hl] at hj
      cases hj
      exact ⟨v, List.getElem?_set_self (by rw [r.len]; exact hl), h⟩
    · rw [List.getElem?_set_ne e1] at hj ⊢
      exact r.dat j d' hj
  · by_cases e1 : i = j
    · subst e1
      have hl : i < ρ.length := by
        have := (List.getElem?_eq_some_iff.mp hj).1
        simpa using this
      rw [List.getElem?_set_self hl] at hj
      cases hj
    · rw [List.getElem?_set_ne e1] at hj ⊢
      exact r.own j ds hj
  · have ne : ∀ (j : Nat) (ds : List D), (ρ.set i (.dat d))[j]? = some (.own ds) → i ≠ j := fun j ds hj e1 => by
      subst e1
      have hl : i < ρ.length := by
        have := (List.getElem?_eq_some_iff.mp hj).1
        simpa using this
      rw [List.getElem?_set_self hl] at hj
      cases hj
    have n1 := ne j ds hj
    have n2 := ne k es hk
    rw [List.getElem?_set_ne n1] at hj h1
    rw [List.getElem?_set_ne n2] at hk h2
    exact r.sep j k ds es a hj hk h1 h2
end

/-! ### the readings -/
noncomputable abbrev Den := List Sl → List OS → Option (D × List OS)
noncomputable abbrev TDen := List Sl → List OS → Option (Bool × List OS)
noncomputable abbrev ADen := List Sl → List OS → Option (List D × List OS)
noncomputable def tD (K : PySem.W.Frag) (C : Cl) (g : Den) : TE := fun σ H Q => ∃ e Ω ρ d Ω', e.H = H ∧ Wf K C e Ω ∧ RelE K e σ ρ ∧ g ρ Ω = some (d, Ω') ∧ ∀ v e', Ext e e' → Wf K C e' Ω' → Is K e'.α e'.F d v → Q v e'.H
noncomputable def tDT (K : PySem.W.Frag) (C : Cl) (g : TDen) : TT := fun σ H Q => ∃ e Ω ρ b Ω', e.H = H ∧ Wf K C e Ω ∧ RelE K e σ ρ ∧ g ρ Ω = some (b, Ω') ∧ ∀ e', Ext e e' → Wf K C e' Ω' → Q b e'.H
noncomputable def tDA (K : PySem.W.Frag) (C : Cl) (g : ADen) : TA := fun σ H Q => ∃ e Ω ρ ds Ω', e.H = H ∧ Wf K C e Ω ∧ RelE K e σ ρ ∧ g ρ Ω = some (ds, Ω') ∧ ∀ vs e', Ext e e' → Wf K C e' Ω' → IsL K e'.α e'.F ds vs → Q vs e'.H
noncomputable def PD (X : Cx) (C : Cl) (x : Expr) (g : Den) : Prop := PE X x (tD X.K C g)
noncomputable def PDT (X : Cx) (C : Cl) (x : Expr) (g : TDen) : Prop := PT X x (tDT X.K C g)
noncomputable def PDW (X : Cx) (C : Cl) (x : Expr) (g : TDen) : Prop := PW X x (tDT X.K C g)
noncomputable def PDA (X : Cx) (C : Cl) (xs : List Expr) (g : ADen) : Prop := PA X xs (tDA X.K C g)
section
variable {X : Cx} {C : Cl} {x : Expr}
theorem pe_imp {t t' : TE} (h : PE X x t) (i : ∀ σ H Q, t' σ H Q → t σ H Q) : PE X x t' := fun pins s σ H Q I hw => h pins s σ H Q I (i σ H Q hw)
theorem pt_imp {t t' : TT} (h : PT X x t) (i : ∀ σ H Q, t' σ H Q → t σ H Q) : PT X x t' := fun pins s σ H Q I hw => h pins s σ H Q I (i σ H Q hw)
theorem pw_imp {t t' : TT} (h : PW X x t) (i : ∀ σ H Q, t' σ H Q → t σ H Q) : PW X x t' := fun whole pins s σ H Q I hw => h whole pins s σ H Q I (i σ H Q hw)
theorem pa_imp {xs : List Expr} {t t' : TA} (h : PA X xs t) (i : ∀ σ H Q, t' σ H Q → t σ H Q) : PA X xs t' := fun pos pins s σ H Q I hw => h pos pins s σ H Q I (i σ H Q hw)
theorem ps_imp {st : Stmt} {t t' : TS} (h : PS X st t) (i : ∀ D σ H, t' D σ H → t D σ H) : PS X st t' := fun pins s σ H D I hw => h pins s σ H D I (i D σ H hw)
theorem pss_imp {st : List Stmt} {t t' : TS} (h : PSs X st t) (i : ∀ D σ H, t' D σ H → t D σ H) : PSs X st t' := fun pins s σ H D I hw => h pins s σ H D I (i D σ H hw)

/-! ### names, constants -/
noncomputable def gVar (i : Nat) : Den := fun ρ Ω => match ρ[i]? with | some (.dat d) => some (d, Ω) | _ => none
theorem pd_var {i : Nat} (h : PE X x (tVar i)) : PD X C x (gVar i) := pe_imp h fun σ H Q hw' => by
  obtain ⟨e, Ω, ρ, d, Ω', eH, w, r, g, k⟩ := hw'
  subst eH
  unfold gVar at g
  cases q : ρ[i]? with
  | none => rw [q] at g; cases g
  | some s =>
    rw [q] at g
    cases s with
    | dat d' =>
      cases g
      obtain ⟨v, e1, i1⟩ := r.dat _ _ q
      exact ⟨v, e1, k v e (Ext.refl e) w i1⟩
    | und => cases g
    | own _ => cases g
noncomputable def gC (d : D) : Den := fun _ Ω => some (d, Ω)
theorem pd_c {v : V} {d : D} (h : PE X x (tC v)) (hd : ∀ α F, Is X.K α F d v) : PD X C x (gC d) := pe_imp h fun σ H Q hw' => by
  obtain ⟨e, Ω, ρ, d', Ω', eH, w, r, g, k⟩ := hw'
  subst eH
  cases g
  exact k v e (Ext.refl e) w (hd _ _)
theorem pd_int {i : Int} {j pos} : PD X C (.Constant (.int i) j pos) (gC (.int i)) := pd_c pe_int fun _ _ => by rw [Is]
theorem pd_bl {b : Bool} {j pos} : PD X C (.Constant (.bool b) j pos) (gC (.bl b)) := pd_c pe_bl fun _ _ => by rw [Is]
theorem pd_non {j pos} : PD X C (.Constant .none j pos) (gC .non) := pd_c pe_non fun _ _ => by rw [Is]
theorem pd_str {z : Str} {j pos} : PD X C (.Constant (.str z) j pos) (gC (.str z)) := pd_c pe_str fun _ _ => by rw [Is]
end

/-! ### two-place operations -/
noncomputable def OpD (X : Cx) (C : Cl) (f : Value → Value → Sem Value) (r : D → D → Option D) : Prop :=
  OpR X f fun x y H Q => ∃ e Ω d₁ d₂ z, e.H = H ∧ Wf X.K C e Ω ∧ Is X.K e.α e.F d₁ x ∧ Is X.K e.α e.F d₂ y ∧ r d₁ d₂ = some z ∧ ∀ v e', Ext e e' → Wf X.K C e' Ω → Is X.K e'.α e'.F z v → Q v e'.H
noncomputable def gOp (r : D → D → Option D) (f g : Den) : Den := fun ρ Ω => match f ρ Ω with
  | some (x, Ω₁) => match g ρ Ω₁ with
    | some (y, Ω₂) => match r x y with
      | some z => some (z, Ω₂)
      | none => none
    | none => none
  | none => none
section
variable {X : Cx} {C : Cl} {a b : Expr} {f g : Den} {r : D → D → Option D} {pos : Pos}
theorem op_read {K : PySem.W.Frag} {r' : R2} (hr : ∀ x y H Q, (∃ e Ω d₁ d₂ z, e.H = H ∧ Wf K C e Ω ∧ Is K e.α e.F d₁ x ∧ Is K e.α e.F d₂ y ∧ r d₁ d₂ = some z ∧ ∀ v e', Ext e e' → Wf K C e' Ω → Is K e'.α e'.F z v → Q v e'.H) → r' x y H Q)
    {σ : St} {H : Hp} {Q : VK} (h : tD K C (gOp r f g) σ H Q) : tOp r' (tD K C f) (tD K C g) σ H Q := by
  obtain ⟨e, Ω, ρ, d, Ω', eH, w, rl, q, k⟩ := h
  unfold gOp at q
  cases q1 : f ρ Ω with
  | none => rw [q1] at q; cases q
  | some p1 =>
    obtain ⟨x, Ω₁⟩ := p1
    rw [q1] at q
    dsimp only at q
    cases q2 : g ρ Ω₁ with
    | none => rw [q2] at q; cases q
    | some p2 =>
      obtain ⟨y, Ω₂⟩ := p2
      rw [q2] at q
      dsimp only at q
      cases q3 : r x y with
      | none => rw [q3] at q; cases q
      | some z =>
        rw [q3] at q
        cases q
        refine ⟨e, Ω, ρ, x, Ω₁, eH, w, rl, q1, fun v e1 x1 w1 i1 => ?_⟩
        refine ⟨e1, Ω₁, ρ, y, _, rfl, w1, rl.ext x1, q2, fun u e2 x2 w2 i2 => ?_⟩
        exact hr v u e2.H Q ⟨e2, _, x, y, d, rfl, w2, i1.ext x2, i2, q3, fun v' e3 x3 w3 i3 => k v' e3 ((x1.trans x2).trans x3) w3 i3⟩
theorem pd_op {op : Operator} (ho : OpD X C (binaryOp op) r) (ha : PD X C a f) (hb : PD X C b g) : PD X C (.BinOp a op b pos) (gOp r f g) :=
  pe_imp (pe_op ho ha hb) fun σ H Q h => op_read (fun _ _ _ _ h => h) h
theorem pd_cmp {op : CmpOp} (ho : OpD X C (compareOp op) r) (ha : PD X C a f) (hb : PD X C b g) (hm : behindInMarks op b = false) : PD X C (.Compare a [op] [b] pos) (gOp r f g) :=
  pe_imp (pe_cmpR ho ha hb hm) fun σ H Q h => op_read (fun _ _ _ _ h => h) h
/-- a value's truth, where it is a bool -/
noncomputable def gT (g : Den) : TDen := fun ρ Ω => match g ρ Ω with
  | some (.bl b, Ω') => some (b, Ω')
  | _ => none
theorem gT_read {K : PySem.W.Frag} {σ : St} {H : Hp} {Q : Bool → Hp → Prop} (h : tDT K C (gT g) σ H Q) : tD K C g σ H fun x H' => ∃ c, x = V.bl c ∧ Q c H' := by
  obtain ⟨e, Ω, ρ, b, Ω', eH, w, rl, q, k⟩ := h
  unfold gT at q
  cases q1 : g ρ Ω with
  | none => rw [q1] at q; cases q
  | some p1 =>
    obtain ⟨x, Ω₁⟩ := p1
    rw [q1] at q
    cases x with
    | bl c =>
      cases q
      refine ⟨e, Ω, ρ, _, _, eH, w, rl, q1, fun v e1 x1 w1 i1 => ?_⟩
      rw [Is] at i1
      exact ⟨b, i1, k e1 x1 w1⟩
    | _ => cases q
theorem pdt_cmp {op : CmpOp} (ho : OpD X C (compareOp op) r) (ha : PD X C a f) (hb : PD X C b g) (hm : behindInMarks op b = false) : PDT X C (.Compare a [op] [b] pos) (gT (gOp r f g)) :=
  pt_imp (pt_cmpR ho ha hb hm) fun σ H Q h => op_read (fun _ _ _ _ h => h) (gT_read h)
theorem pdt_val {x : Expr} (h : PD X C x g) (he : ∀ whole, isTrue x X.env whole = (do let v ← whole; standAt x.pos; holding [v] (truthy v)) := by intro _; rfl) : PDT X C x (gT g) :=
  pt_imp (pt_val h he) fun σ H Q h => gT_read h
/-- ints -/
noncomputable def dI (c : Int → Int → Bool) (f : Int → Int → Int) : D → D → Option D
  | .int i, .int j => if c i j = true then some (.int (f i j)) else none
  | _, _ => none
noncomputable def dB (f : Int → Int → Bool) : D → D → Option D
  | .int i, .int j => some (.bl (f i j))
  | _, _ => none
theorem dI_inv {c : Int → Int → Bool} {f : Int → Int → Int} {d₁ d₂ z : D} (h : dI c f d₁ d₂ = some z) : ∃ i j, d₁ = .int i ∧ d₂ = .int j ∧ c i j = true ∧ z = .int (f i j) := by
  unfold dI at h
  split at h
  · split at h
    · cases h; exact ⟨_, _, rfl, rfl, ‹_›, rfl⟩
    · cases h
  · cases h
theorem dB_inv {f : Int → Int → Bool} {d₁ d₂ z : D} (h : dB f d₁ d₂ = some z) : ∃ i j, d₁ = .int i ∧ d₂ = .int j ∧ z = .bl (f i j) := by
  unfold dB at h
  split at h
  · cases h; exact ⟨_, _, rfl, rfl, rfl⟩
  · cases h
theorem is_i {K : PySem.W.Frag} {α : List Addr} {F : Hp} {i : Int} {v : V} (h : Is K α F (.int i) v) : v = .int i := by rw [Is] at h; exact h
theorem opD_I {h : Value → Value → Sem Value} {P : Int → Int → Prop} {c : Int → Int → Bool} {k : Int → Int → Int} (ho : OpR X h (rI P fun i j => .int (k i j))) (hc : ∀ i j, c i j = true → P i j) : OpD X C h (dI c k) := by
  rintro pins s σ H x y v u Q I rx ry ⟨e, Ω, d₁, d₂, z, eH, w, i1, i2, q, kk⟩
  obtain ⟨i, j, e1, e2, hcc, e3⟩ := dI_inv q
  rw [e1] at i1
  rw [e2] at i2
  refine ho pins s σ _ x y v u Q I rx ry ⟨i, j, is_i i1, is_i i2, hc i j hcc, ?_⟩
  rw [← eH]
  exact kk _ e (Ext.refl e) w (by rw [e3, Is])
theorem opD_I0 {h : Value → Value → Sem Value} {k : Int → Int → Int} (ho : OpR X h (rI0 fun i j => .int (k i j))) : OpD X C h (dI (fun _ _ => true) k) := by
  rintro pins s σ H x y v u Q I rx ry ⟨e, Ω, d₁, d₂, z, eH, w, i1, i2, q, kk⟩
  obtain ⟨i, j, e1, e2, hcc, e3⟩ := dI_inv q
  rw [e1] at i1
  rw [e2] at i2
  refine ho pins s σ _ x y v u Q I rx ry ⟨i, j, is_i i1, is_i i2, ?_⟩
  rw [← eH]
  exact kk _ e (Ext.refl e) w (by rw [e3, Is])
theorem opD_B {h : Value → Value → Sem Value} {k : Int → Int → Bool} (ho : OpR X h (rI0 fun i j => .bl (k i j))) : OpD X C h (dB k) := by
  rintro pins s σ H x y v u Q I rx ry ⟨e, Ω, d₁, d₂, z, eH, w, i1, i2, q, kk⟩
  obtain ⟨i, j, e1, e2, e3⟩ := dB_inv q
  rw [e1] at i1
  rw [e2] at i2
  refine ho pins s σ _ x y v u Q I rx ry ⟨i, j, is_i i1, is_i i2, ?_⟩
  rw [← eH]
  exact kk _ e (Ext.refl e) w (by rw [e3, Is])
end
end DL
set_option Elab.async false
set_option linter.all false
set_option maxRecDepth 100000
set_option genSizeOf false
set_option bootstrap.genMatcherCode false
set_option genInjectivity true
namespace DL
open PySem PySem.Spec PyProof.Rows L2

/-- how long lists and texts may grow here -/
noncomputable abbrev big : Nat := 100000
theorem big_line {n : Nat} (h : n ≤ big) : n ≤ sizeLine := Nat.le_trans h (by decide)
theorem big_lt {n : Nat} (h : n < big) : n < sizeLine := Nat.lt_of_lt_of_le h (by decide)

open Classical in
/-- a bound: nothing here is reckoned by evaluation -/
noncomputable def grd {β : Type} (P : Prop) (x : Option β) : Option β := if P then x else none
theorem grd_pos {β : Type} {P : Prop} {x : Option β} (h : P) : grd P x = x := if_pos h
theorem grd_some {β : Type} {P : Prop} {x : Option β} {z : β} (h : grd P x = some z) : P ∧ x = some z := by
  by_cases q : P
  · rw [grd_pos q] at h; exact ⟨q, h⟩
  · have e : grd P x = none := if_neg q
    rw [e] at h; cases h
section
variable {X : Cx} {C : Cl} {a b c x : Expr} {f g h : Den} {r : D → D → Option D} {pos : Pos}

/-! ### the kinds of + and * -/
noncomputable def addD : D → D → Option D
  | .int i, .int j => some (.int (i + j))
  | .lst xs, .lst ys => if xs.length + ys.length ≤ big then some (.lst (xs ++ ys)) else none
  | .str p, .str q => if p.length + q.length ≤ big then some (.str (p ++ q)) else none
  | _, _ => none
theorem opD_add : OpD X C (binaryOp .Add) addD := by
  intro pins s σ H x y v u Q I rx ry hw
  obtain ⟨e, Ω, d₁, d₂, z, eH, w, i1, i2, q, kk⟩ := hw
  subst eH
  unfold addD at q
  cases d₁ <;> cases d₂ <;> first | cases q | skip
  · rename_i i j
    simp only [Is] at i1 i2
    subst i1 i2
    exact op_add pins s σ _ _ _ v u Q I rx ry ⟨i, j, rfl, rfl, kk _ e (Ext.refl e) w (by rw [Is])⟩
  · rename_i i j
    dsimp only at q
    simp only [Is] at i1 i2
    subst i1 i2
    split at q
    · rename_i hl
      cases q
      exact op_add_str pins s σ _ _ _ v u Q I rx ry ⟨i, j, rfl, rfl, big_line hl, kk _ e (Ext.refl e) w (by rw [Is])⟩
    · cases q
  · rename_i xs ys
    dsimp only at q
    simp only [Is] at i1 i2
    obtain ⟨l, vs, rfl, h1, r1⟩ := i1
    obtain ⟨m, us, rfl, h2, r2⟩ := i2
    split at q
    · rename_i hl
      cases q
      refine op_cat pins s σ _ _ _ v u Q I rx ry ⟨l, m, vs, us, rfl, rfl, w.fh _ _ h1, w.fh _ _ h2, by rw [← r1.length, ← r2.length]; exact big_line hl, fun p hp => ?_⟩
      refine kk _ (e.new p _) (w.new_ext hp) (w.new hp) ?_
      rw [Is]
      exact ⟨p, _, rfl, upd_same, (r1.append r2).ext (w.new_ext hp)⟩
    · cases q
noncomputable def mulD : D → D → Option D
  | .int i, .int j => grd ((-(2 ^ 64) < i ∧ i < 2 ^ 64) ∨ (-(2 ^ 64) < j ∧ j < 2 ^ 64)) (some (.int (i * j)))
  | .lst xs, .int k => grd (-(2 ^ 62) ≤ k ∧ k < 2 ^ 62 ∧ xs.length * k.toNat ≤ big) (some (.lst (List.replicate k.toNat xs).flatten))
  | _, _ => none
theorem opD_mul : OpD X C (binaryOp .Mult) mulD := by
  intro pins s σ H x y v u Q I rx ry hw
  obtain ⟨e, Ω, d₁, d₂, z, eH, w, i1, i2, q, kk⟩ := hw
  subst eH
  unfold mulD at q
  cases d₁ <;> cases d₂ <;> first | cases q | skip
  · rename_i i j
    obtain ⟨hl, q⟩ := grd_some q
    simp only [Is] at i1 i2
    subst i1 i2
    cases q
    exact op_mul pins s σ _ _ _ v u Q I rx ry ⟨i, j, rfl, rfl, hl, kk _ e (Ext.refl e) w (by rw [Is])⟩
  · rename_i xs k
    obtain ⟨hl, q⟩ := grd_some q
    simp only [Is] at i1 i2
    obtain ⟨l, vs, rfl, h1, r1⟩ := i1
    subst i2
    cases q
    refine op_rep pins s σ _ _ _ v u Q I rx ry ⟨l, k, vs, rfl, rfl, w.fh _ _ h1, by omega, by omega, by rw [← r1.length]; exact big_line hl.2.2, fun p hp => ?_⟩
    refine kk _ (e.new p _) (w.new_ext hp) (w.new hp) ?_
    rw [Is]
    exact ⟨p, _, rfl, upd_same, (r1.rep _).ext (w.new_ext hp)⟩
noncomputable abbrev subD : D → D → Option D := dI (fun _ _ => true) fun i j => i - j
theorem opD_sub : OpD X C (binaryOp .Sub) subD := opD_I0 op_sub
noncomputable abbrev modD : D → D → Option D := dI (fun _ j => decide (0 < j)) fun i j => i % j
theorem opD_mod : OpD X C (binaryOp .Mod) modD := opD_I op_mod fun _ _ h => of_decide_eq_true h
noncomputable abbrev divD : D → D → Option D := dI (fun _ j => decide (0 < j) && decide (j < 1073741824)) fun i j => i / j
theorem opD_div : OpD X C (binaryOp .FloorDiv) divD := opD_I op_fdiv fun _ _ h => by
  rw [Bool.and_eq_true, decide_eq_true_eq, decide_eq_true_eq] at h
  exact h
noncomputable abbrev ltD : D → D → Option D := dB fun i j => decide (i < j)
theorem opD_lt : OpD X C (compareOp .Lt) ltD := opD_B op_lt
noncomputable abbrev gtD : D → D → Option D := dB fun i j => decide (j < i)
theorem opD_gt : OpD X C (compareOp .Gt) gtD := opD_B op_gt
/-! ### == and in, of data of any make -/
mutual
noncomputable def toP : D → PyData
  | .non => .none
  | .bl b => .bool b
  | .int i => .int i
  | .str x => .str x
  | .tup xs => .tuple (toPs xs)
  | .lst xs => .list (toPs xs)
  | .scr ns => .list (ns.map PyData.int)
  | .obj _ => .dict []
noncomputable def toPs : List D → List PyData
  | [] => []
  | d :: ds => toP d :: toPs ds
end
end

section
variable {X : Cx} {pins : List (Addr × Obj)} {σ : St} {H : Hp} {s : Shared} {K : PySem.W.Frag} {α : List Addr} {F : Hp}
mutual
theorem reads_of (I : Inv X pins σ H s) (hK : K = X.K) (ff : Same F H) : ∀ (d : D) {v : V} {u : Value}, (toP d).canLay0 = true → Is K α F d v → RelV v u → ∃ as, Reads s.heap u (toP d) as
  | .non, v, u, _, h, r => by
    rw [Is] at h; subst h; cases (show u = Value.none from r); rw [toP]; exact ⟨_, .none⟩
  | .bl b, v, u, _, h, r => by
    rw [Is] at h; subst h; cases (show u = Value.bool b from r); rw [toP]; exact ⟨_, .bool b⟩
  | .int i, v, u, _, h, r => by
    rw [Is] at h; subst h; obtain ⟨t, q⟩ := (show ∃ t, u = Value.int i t from r); subst q; rw [toP]; exact ⟨_, .int i t⟩
  | .str x, v, u, _, h, r => by
    rw [Is] at h; subst h; obtain ⟨t, q⟩ := (show ∃ t, u = Value.str x t from r); subst q; rw [toP]; exact ⟨_, .str x t⟩
  | .tup xs, v, u, hc, h, r => by
    rw [Is] at h
    obtain ⟨a, vs, rfl, e, q⟩ := h
    cases (show u = Value.ref a from r)
    obtain ⟨_, its, rv, o, e1, e2, n, e3⟩ := (show ObjOk X.prog X.w H s.heap a (.tup vs) from I.hok a _ (ff _ _ e))
    rw [toP] at hc ⊢
    obtain ⟨as, z⟩ := readsL_of I hK ff xs (by simpa [PyData.canLay0] using hc) q rv
    exact ⟨as, .tuple e1 e2 e3 (by simpa using z)⟩
  | .lst xs, v, u, hc, h, r => by
    rw [Is] at h
    obtain ⟨a, vs, rfl, e, q⟩ := h
    cases (show u = Value.ref a from r)
    obtain ⟨_, its, n, rv, e1⟩ := (show ObjOk X.prog X.w H s.heap a (.lst vs) from I.hok a _ (ff _ _ e))
    rw [toP] at hc ⊢
    obtain ⟨as, z⟩ := readsL_of I hK ff xs (by simpa [PyData.canLay0] using hc) q rv
    exact ⟨_, .list e1 rfl rfl (by simpa using z)⟩
  | .scr ns, v, u, hc, h, r => by
    rw [Is] at h
    obtain ⟨a, rfl, q⟩ := h
    cases (show u = Value.ref a from r)
    subst hK
    obtain ⟨its, rv, pl, _⟩ := I.list (ff.seq q)
    rw [toP]
    exact ⟨_, reads_newData pl.isList (PySem.W.ke_carried (intsAre_of rv))⟩
  | .obj n, v, u, hc, h, r => by rw [toP] at hc; simp [PyData.canLay0] at hc
theorem readsL_of (I : Inv X pins σ H s) (hK : K = X.K) (ff : Same F H) : ∀ (ds : List D) {vs : List V} {us : List Value}, PyData.canLayAll0 (toPs ds) = true → IsL K α F ds vs → Vals vs us → ∃ as, ReadsAll s.heap us (toPs ds) as
  | [], vs, us, _, h, r => by
    rw [h.of_nil] at r; cases r; rw [toPs]; exact ⟨_, .nil⟩
  | d :: ds, vs, us, hc, h, r => by
    obtain ⟨v, t, rfl, h1, h2⟩ := h.of_cons
    cases r with
    | cons r1 r2 =>
      rw [toPs] at hc ⊢
      have hc' : (toP d).canLay0 = true ∧ PyData.canLayAll0 (toPs ds) = true := by simpa [PyData.canLayAll0] using hc
      obtain ⟨as, z1⟩ := reads_of I hK ff d hc'.1 h1 r1
      obtain ⟨bs, z2⟩ := readsL_of I hK ff ds hc'.2 h2 r2
      exact ⟨_, .cons z1 z2⟩
end
end
end DL
set_option Elab.async false
set_option linter.all false
set_option maxRecDepth 100000
set_option genSizeOf false
set_option bootstrap.genMatcherCode false
set_option genInjectivity true
namespace DL
open PySem PySem.Spec PyProof.Rows L2

section
variable {X : Cx} {C : Cl} {a b c x : Expr} {f g h : Den} {r : D → D → Option D} {pos : Pos}
/-! ### ==, != -/
noncomputable def eqD (neg : Bool) (p q : D) : Option D := if SeqAt.shaped (toP p) && SeqAt.shaped (toP q) then some (.bl (if neg then !PyData.eqv (toP p) (toP q) else PyData.eqv (toP p) (toP q))) else none
theorem opD_eq (hu : X.A.units + 64 < cLine) : OpD X C (compareOp .Eq) (eqD false) := by
  intro pins s σ H x y v u Q I rx ry hw
  obtain ⟨e, Ω, d₁, d₂, z, eH, w, i1, i2, q, kk⟩ := hw
  subst eH
  unfold eqD at q
  split at q
  · rename_i hs
    rw [Bool.and_eq_true] at hs
    cases q
    obtain ⟨as, r1⟩ := reads_of I rfl w.fh d₁ (SeqAt.canLay_of_shaped hs.1) i1 rx
    obtain ⟨bs, r2⟩ := reads_of I rfl w.fh d₂ (SeqAt.canLay_of_shaped hs.2) i2 ry
    exact eq_dataH r1 r2 hs.1 hs.2 hu ⟨.bl _, e.H, I, rfl, kk _ e (Ext.refl e) w (by rw [Is]; rfl)⟩
  · cases q
theorem opD_ne (hu : X.A.units + 64 < cLine) : OpD X C (compareOp .NotEq) (eqD true) := by
  intro pins s σ H x y v u Q I rx ry hw
  obtain ⟨e, Ω, d₁, d₂, z, eH, w, i1, i2, q, kk⟩ := hw
  subst eH
  unfold eqD at q
  split at q
  · rename_i hs
    rw [Bool.and_eq_true] at hs
    cases q
    obtain ⟨as, r1⟩ := reads_of I rfl w.fh d₁ (SeqAt.canLay_of_shaped hs.1) i1 rx
    obtain ⟨bs, r2⟩ := reads_of I rfl w.fh d₂ (SeqAt.canLay_of_shaped hs.2) i2 ry
    exact ne_dataH r1 r2 hs.1 hs.2 hu ⟨.bl _, e.H, I, rfl, kk _ e (Ext.refl e) w (by rw [Is]; rfl)⟩
  · cases q
/-! ### is -/
noncomputable def isNone : D → Bool
  | .non => true
  | _ => false
noncomputable def isD (neg : Bool) : D → D → Option D
  | p, .non => some (.bl (if neg then !isNone p else isNone p))
  | .bl p, .bl q => some (.bl (if neg then !(p == q) else p == q))
  | .non, .bl q => some (.bl neg)
  | .int _, .bl q => some (.bl neg)
  | .tup _, .bl q => some (.bl neg)
  | .lst _, .bl q => some (.bl neg)
  | _, _ => none
theorem none_iff {K : PySem.W.Frag} {α : List Addr} {F : Hp} {d : D} {v : V} (h : Is K α F d v) : decide (v = .non) = isNone d := by
  cases d <;> rw [Is] at h
  · subst h; rfl
  · subst h; rfl
  · subst h; rfl
  · subst h; rfl
  · obtain ⟨a, vs, rfl, _⟩ := h; rfl
  · obtain ⟨a, vs, rfl, _⟩ := h; rfl
  · obtain ⟨a, rfl, _⟩ := h; rfl
  · obtain ⟨a, _, rfl⟩ := h; rfl
theorem opD_is : OpD X C (compareOp .Is) (isD false) := by
  intro pins s σ H x y v u Q I rx ry hw
  obtain ⟨e, Ω, d₁, d₂, z, eH, w, i1, i2, q, kk⟩ := hw
  subst eH
  have fin : ∀ {k : Bool}, some z = some (D.bl k) → EP X pins σ Q (.bool k) s := fun {k} hz => by
    cases hz
    exact ⟨.bl k, e.H, I, rfl, kk _ e (Ext.refl e) w (by rw [Is])⟩
  unfold isD at q
  cases d₂ with
  | non =>
    rw [Is] at i2
    subst i2
    refine op_isN pins s σ _ _ _ v u Q I rx ry ⟨rfl, ?_⟩
    rw [none_iff i1]
    have q' : some (D.bl (isNone d₁)) = some z := by cases d₁ <;> exact q
    cases q'
    exact kk _ e (Ext.refl e) w (by rw [Is])
  | bl p =>
    rw [Is] at i2
    subst i2
    cases (show u = Value.bool p from ry)
    cases d₁ with
    | bl p' =>
      rw [Is] at i1
      subst i1
      cases (show v = Value.bool p' from rx)
      refine wpAny_is_plain rfl ?_
      have : (Value.bool p' == Value.bool p) = (p' == p) := by cases p' <;> cases p <;> rfl
      rw [this]
      exact fin q.symm
    | non =>
      rw [Is] at i1
      subst i1
      cases (show v = Value.none from rx)
      exact wpAny_is_other rfl (by intro z; cases z) (fin q.symm)
    | int i =>
      rw [Is] at i1
      subst i1
      obtain ⟨t, rfl⟩ := (show ∃ t, v = Value.int i t from rx)
      exact wpAny_is_other rfl (by intro z; cases z) (fin q.symm)
    | tup _ =>
      rw [Is] at i1
      obtain ⟨l, vs, rfl, _⟩ := i1
      cases (show v = Value.ref l from rx)
      exact wpAny_is_other rfl (by intro z; cases z) (fin q.symm)
    | lst _ =>
      rw [Is] at i1
      obtain ⟨l, vs, rfl, _⟩ := i1
      cases (show v = Value.ref l from rx)
      exact wpAny_is_other rfl (by intro z; cases z) (fin q.symm)
    | _ => cases q
  | _ => cases d₁ <;> cases q
theorem opD_isnot : OpD X C (compareOp .IsNot) (isD true) := by
  intro pins s σ H x y v u Q I rx ry hw
  obtain ⟨e, Ω, d₁, d₂, z, eH, w, i1, i2, q, kk⟩ := hw
  subst eH
  have fin : ∀ {k : Bool}, some z = some (D.bl k) → EP X pins σ Q (.bool k) s := fun {k} hz => by
    cases hz
    exact ⟨.bl k, e.H, I, rfl, kk _ e (Ext.refl e) w (by rw [Is])⟩
  unfold isD at q
  cases d₂ with
  | non =>
    rw [Is] at i2
    subst i2
    refine op_notN pins s σ _ _ _ v u Q I rx ry ⟨rfl, ?_⟩
    rw [none_iff i1]
    have q' : some (D.bl (!isNone d₁)) = some z := by cases d₁ <;> exact q
    cases q'
    exact kk _ e (Ext.refl e) w (by rw [Is])
  | bl p =>
    rw [Is] at i2
    subst i2
    cases (show u = Value.bool p from ry)
    cases d₁ with
    | bl p' =>
      rw [Is] at i1
      subst i1
      cases (show v = Value.bool p' from rx)
      refine wpAny_isNot_plain rfl ?_
      have : (Value.bool p' == Value.bool p) = (p' == p) := by cases p' <;> cases p <;> rfl
      rw [this]
      exact fin q.symm
    | non =>
      rw [Is] at i1
      subst i1
      cases (show v = Value.none from rx)
      exact wpAny_isNot_other rfl (by intro z; cases z) (fin q.symm)
    | int i =>
      rw [Is] at i1
      subst i1
      obtain ⟨t, rfl⟩ := (show ∃ t, v = Value.int i t from rx)
      exact wpAny_isNot_other rfl (by intro z; cases z) (fin q.symm)
    | tup _ =>
      rw [Is] at i1
      obtain ⟨l, vs, rfl, _⟩ := i1
      cases (show v = Value.ref l from rx)
      exact wpAny_isNot_other rfl (by intro z; cases z) (fin q.symm)
    | lst _ =>
      rw [Is] at i1
      obtain ⟨l, vs, rfl, _⟩ := i1
      cases (show v = Value.ref l from rx)
      exact wpAny_isNot_other rfl (by intro z; cases z) (fin q.symm)
    | _ => cases q
  | _ => cases d₁ <;> cases q

/-! ### and, or, not, if -/
noncomputable def gAndT (p q : TDen) : TDen := fun ρ Ω => match p ρ Ω with
  | some (true, Ω') => q ρ Ω'
  | some (false, Ω') => some (false, Ω')
  | none => none
noncomputable def gOrT (p q : TDen) : TDen := fun ρ Ω => match p ρ Ω with
  | some (true, Ω') => some (true, Ω')
  | some (false, Ω') => q ρ Ω'
  | none => none
noncomputable def gNotT (p : TDen) : TDen := fun ρ Ω => match p ρ Ω with
  | some (k, Ω') => some (!k, Ω')
  | none => none
variable {p q : TDen} {rest : List Expr}
theorem and_read {K : PySem.W.Frag} {σ : St} {H : Hp} {Q : Bool → Hp → Prop} (hw : tDT K C (gAndT p q) σ H Q) : tAnd (tDT K C p) (tDT K C q) σ H Q := by
  obtain ⟨e, Ω, ρ, k, Ω', eH, w, rl, e1, kk⟩ := hw
  unfold gAndT at e1
  cases e2 : p ρ Ω with
  | none => rw [e2] at e1; cases e1
  | some z =>
    obtain ⟨k1, Ω1⟩ := z
    rw [e2] at e1
    refine ⟨e, Ω, ρ, k1, Ω1, eH, w, rl, e2, fun e' x' w' => ?_⟩
    cases k1 with
    | true =>
      rw [if_pos rfl]
      exact ⟨e', Ω1, ρ, k, Ω', rfl, w', rl.ext x', e1, fun e'' x'' w'' => kk e'' (x'.trans x'') w''⟩
    | false =>
      rw [if_neg (by decide)]
      cases e1
      exact kk e' x' w'
theorem or_read {K : PySem.W.Frag} {σ : St} {H : Hp} {Q : Bool → Hp → Prop} (hw : tDT K C (gOrT p q) σ H Q) : tOr (tDT K C p) (tDT K C q) σ H Q := by
  obtain ⟨e, Ω, ρ, k, Ω', eH, w, rl, e1, kk⟩ := hw
  unfold gOrT at e1
  cases e2 : p ρ Ω with
  | none => rw [e2] at e1; cases e1
  | some z =>
    obtain ⟨k1, Ω1⟩ := z
    rw [e2] at e1
    refine ⟨e, Ω, ρ, k1, Ω1, eH, w, rl, e2, fun e' x' w' => ?_⟩
    cases k1 with
    | true =>
      rw [if_pos rfl]
      cases e1
      exact kk e' x' w'
    | false =>
      rw [if_neg (by decide)]
      exact ⟨e', Ω1, ρ, k, Ω', rfl, w', rl.ext x', e1, fun e'' x'' w'' => kk e'' (x'.trans x'') w''⟩
theorem pdw_and1 (ha : PDT X C a p) : PDW X C (.BoolOp .And [a] pos) p := pw_and1 ha
theorem pdw_or1 (ha : PDT X C a p) : PDW X C (.BoolOp .Or [a] pos) p := pw_or1 ha
theorem pdw_and (ha : PDT X C a p) (hb : PDW X C (.BoolOp .And (b :: rest) pos) q) : PDW X C (.BoolOp .And (a :: b :: rest) pos) (gAndT p q) := pw_imp (pw_and ha hb) fun _ _ _ h => and_read h
theorem pdw_or (ha : PDT X C a p) (hb : PDW X C (.BoolOp .Or (b :: rest) pos) q) : PDW X C (.BoolOp .Or (a :: b :: rest) pos) (gOrT p q) := pw_imp (pw_or ha hb) fun _ _ _ h => or_read h
theorem PDW.pt (h : PDW X C x p) : PDT X C x p := PW.pt h
theorem pdt_not (ha : PDT X C a p) : PDT X C (.UnaryOp .Not a pos) (gNotT p) := pt_imp (pt_not ha) fun σ H Q hw' => by
  obtain ⟨e, Ω, ρ, k, Ω', eH, w, rl, e1, kk⟩ := hw'
  unfold gNotT at e1
  cases e2 : p ρ Ω with
  | none => rw [e2] at e1; cases e1
  | some z =>
    obtain ⟨k1, Ω1⟩ := z
    rw [e2] at e1
    cases e1
    exact ⟨e, Ω, ρ, k1, _, eH, w, rl, e2, kk⟩
/-- as values: bools -/
noncomputable def gAndV (f g : Den) : Den := fun ρ Ω => match f ρ Ω with
  | some (.bl true, Ω') => g ρ Ω'
  | some (.bl false, Ω') => some (.bl false, Ω')
  | _ => none
noncomputable def gOrV (f g : Den) : Den := fun ρ Ω => match f ρ Ω with
  | some (.bl true, Ω') => some (.bl true, Ω')
  | some (.bl false, Ω') => g ρ Ω'
  | _ => none
theorem pd_one {op} (h : PD X C a f) : PD X C (.BoolOp op [a] pos) f := pe_one h
theorem pd_and (ha : PD X C a f) (hb : PD X C (.BoolOp .And (b :: rest) pos) g) : PD X C (.BoolOp .And (a :: b :: rest) pos) (gAndV f g) := pe_imp (pe_and ha hb) fun σ H Q hw' => by
  obtain ⟨e, Ω, ρ, d, Ω', eH, w, rl, e1, kk⟩ := hw'
  unfold gAndV at e1
  cases e2 : f ρ Ω with
  | none => rw [e2] at e1; cases e1
  | some z =>
    obtain ⟨d1, Ω1⟩ := z
    rw [e2] at e1
    refine ⟨e, Ω, ρ, d1, Ω1, eH, w, rl, e2, fun v e' x' w' i' => ?_⟩
    cases d1 with
    | bl k1 =>
      rw [Is] at i'
      refine ⟨k1, i', ?_⟩
      cases k1 with
      | true =>
        rw [if_pos rfl]
        exact ⟨e', Ω1, ρ, d, Ω', rfl, w', rl.ext x', e1, fun v e'' x'' w'' => kk v e'' (x'.trans x'') w''⟩
      | false =>
        rw [if_neg (by decide)]
        cases e1
        exact kk _ e' x' w' (by rw [Is])
    | _ => cases e1
theorem pd_or (ha : PD X C a f) (hb : PD X C (.BoolOp .Or (b :: rest) pos) g) : PD X C (.BoolOp .Or (a :: b :: rest) pos) (gOrV f g) := pe_imp (pe_or ha hb) fun σ H Q hw' => by
  obtain ⟨e, Ω, ρ, d, Ω', eH, w, rl, e1, kk⟩ := hw'
  unfold gOrV at e1
  cases e2 : f ρ Ω with
  | none => rw [e2] at e1; cases e1
  | some z =>
    obtain ⟨d1, Ω1⟩ := z
    rw [e2] at e1
    refine ⟨e, Ω, ρ, d1, Ω1, eH, w, rl, e2, fun v e' x' w' i' => ?_⟩
    cases d1 with
    | bl k1 =>
      rw [Is] at i'
      refine ⟨k1, i', ?_⟩
      cases k1 with
      | true =>
        rw [if_pos rfl]
        cases e1
        exact kk _ e' x' w' (by rw [Is])
      | false =>
        rw [if_neg (by decide)]
        exact ⟨e', Ω1, ρ, d, Ω', rfl, w', rl.ext x', e1, fun v e'' x'' w'' => kk v e'' (x'.trans x'') w''⟩
    | _ => cases e1
end
end DL
set_option Elab.async false
set_option linter.all false
set_option maxRecDepth 100000
set_option genSizeOf false
set_option bootstrap.genMatcherCode false
set_option genInjectivity true
namespace DL
open PySem PySem.Spec PyProof.Rows L2

section
variable {X : Cx} {C : Cl} {a b c x : Expr} {es : List Expr} {f g h : Den} {ga : ADen} {pos : Pos}
/-! ### argument lists, displays -/
noncomputable def gNil : ADen := fun _ Ω => some ([], Ω)
noncomputable def gCons (f : Den) (g : ADen) : ADen := fun ρ Ω => match f ρ Ω with
  | some (d, Ω1) => match g ρ Ω1 with
    | some (ds, Ω2) => some (d :: ds, Ω2)
    | none => none
  | none => none
theorem pda_nil : PDA X C [] gNil := pa_imp pa_nil fun σ H Q hw' => by
  obtain ⟨e, Ω, ρ, ds, Ω', eH, w, rl, e1, kk⟩ := hw'
  subst eH
  cases e1
  exact kk [] e (Ext.refl e) w .nil
theorem pda_cons (ha : PD X C x f) (hr : PDA X C es ga) (hs : starEach (x :: es) X.env = (false, eval x X.env) :: starEach es X.env := by rfl) : PDA X C (x :: es) (gCons f ga) :=
  pa_imp (pa_cons ha hr hs) fun σ H Q hw' => by
    obtain ⟨e, Ω, ρ, ds, Ω', eH, w, rl, e1, kk⟩ := hw'
    unfold gCons at e1
    cases q1 : f ρ Ω with
    | none => rw [q1] at e1; cases e1
    | some p1 =>
      obtain ⟨d, Ω1⟩ := p1
      rw [q1] at e1
      dsimp only at e1
      cases q2 : ga ρ Ω1 with
      | none => rw [q2] at e1; cases e1
      | some p2 =>
        obtain ⟨ds', Ω2⟩ := p2
        rw [q2] at e1
        cases e1
        refine ⟨e, Ω, ρ, d, Ω1, eH, w, rl, q1, fun v e' x' w' i' => ?_⟩
        exact ⟨e', Ω1, ρ, ds', _, rfl, w', rl.ext x', q2, fun vs e'' x'' w'' i'' => kk _ e'' (x'.trans x'') w'' (.cons (i'.ext x'') i'')⟩
noncomputable def gTup (g : ADen) : Den := fun ρ Ω => match g ρ Ω with
  | some (ds, Ω') => if ds.length ≤ big then some (.tup ds, Ω') else none
  | none => none
noncomputable def gLst (g : ADen) : Den := fun ρ Ω => match g ρ Ω with
  | some (ds, Ω') => if ds.length ≤ big then some (.lst ds, Ω') else none
  | none => none
theorem pd_tup {x1} (ha : PDA X C es ga) : PD X C (.Tuple es x1 pos) (gTup ga) := pe_imp (pe_tup ha) fun σ H Q hw' => by
  obtain ⟨e, Ω, ρ, d, Ω', eH, w, rl, e1, kk⟩ := hw'
  unfold gTup at e1
  cases q1 : ga ρ Ω with
  | none => rw [q1] at e1; cases e1
  | some p1 =>
    obtain ⟨ds, Ω1⟩ := p1
    rw [q1] at e1
    dsimp only at e1
    split at e1
    · rename_i hl
      cases e1
      refine ⟨e, Ω, ρ, ds, _, eH, w, rl, q1, fun vs e' x' w' i' => ⟨by rw [← i'.length]; exact big_line hl, fun p hp => ?_⟩⟩
      refine kk _ (e'.new p (.tup vs)) (x'.trans (w'.new_ext hp)) (w'.new hp) ?_
      rw [Is]
      exact ⟨p, vs, rfl, upd_same, i'.ext (w'.new_ext hp)⟩
    · cases e1
theorem pd_lst (ha : PDA X C es ga) : PD X C (.List es pos) (gLst ga) := pe_imp (pe_lst ha) fun σ H Q hw' => by
  obtain ⟨e, Ω, ρ, d, Ω', eH, w, rl, e1, kk⟩ := hw'
  unfold gLst at e1
  cases q1 : ga ρ Ω with
  | none => rw [q1] at e1; cases e1
  | some p1 =>
    obtain ⟨ds, Ω1⟩ := p1
    rw [q1] at e1
    dsimp only at e1
    split at e1
    · rename_i hl
      cases e1
      refine ⟨e, Ω, ρ, ds, _, eH, w, rl, q1, fun vs e' x' w' i' => ⟨by rw [← i'.length]; exact big_line hl, fun p hp => ?_⟩⟩
      refine kk _ (e'.new p (.lst vs)) (x'.trans (w'.new_ext hp)) (w'.new hp) ?_
      rw [Is]
      exact ⟨p, vs, rfl, upd_same, i'.ext (w'.new_ext hp)⟩
    · cases e1

/-! ### a[i] -/
noncomputable def ixD : D → D → Option D
  | .lst xs, .int i => atI xs i
  | .tup xs, .int i => atI xs i
  | .scr ns, .int i => (atI ns i).map D.int
  | .str z, .int i => if z.length ≤ big then (atI z.cps.toList i).map fun c => D.str ⟨#[c]⟩ else none
  | _, _ => none
theorem atI_is {K : PySem.W.Frag} {α : List Addr} {F : Hp} {ds : List D} {vs : List V} {i : Int} {d : D} (r : IsL K α F ds vs) (h : atI ds i = some d) : ∃ v, atI vs i = some v ∧ Is K α F d v := by
  unfold atI at h ⊢
  rw [← r.length]
  cases q : ixN ds.length i with
  | none => rw [q] at h; cases h
  | some j =>
    rw [q] at h
    exact r.get h
theorem ixD_read {K : PySem.W.Frag} : ∀ x y H Q, (∃ e Ω d₁ d₂ z, e.H = H ∧ Wf K C e Ω ∧ Is K e.α e.F d₁ x ∧ Is K e.α e.F d₂ y ∧ ixD d₁ d₂ = some z ∧ ∀ v e', Ext e e' → Wf K C e' Ω → Is K e'.α e'.F z v → Q v e'.H) → rIx K x y H Q := by
  rintro x y H Q ⟨e, Ω, d₁, d₂, z, eH, w, i1, i2, q, kk⟩
  subst eH
  unfold ixD at q
  cases d₁ <;> cases d₂ <;> first | cases q | skip
  · rename_i zz i
    dsimp only at q
    simp only [Is] at i1 i2
    subst i1 i2
    split at q
    · rename_i hl
      cases e2 : atI zz.cps.toList i with
      | none => rw [e2] at q; cases q
      | some c =>
        rw [e2] at q
        cases q
        exact .inr (.inr ⟨zz, i, c, rfl, rfl, big_line hl, e2, kk _ e (Ext.refl e) w (by rw [Is])⟩)
    · cases q
  · rename_i xs i
    simp only [Is] at i1 i2
    obtain ⟨p, vs, rfl, h1, r1⟩ := i1
    subst i2
    obtain ⟨v, e1, i3⟩ := atI_is r1 q
    exact .inr (.inl ⟨p, vs, i, v, rfl, rfl, SqT.of (w.fh _ _ h1), e1, kk v e (Ext.refl e) w i3⟩)
  · rename_i xs i
    simp only [Is] at i1 i2
    obtain ⟨p, vs, rfl, h1, r1⟩ := i1
    subst i2
    obtain ⟨v, e1, i3⟩ := atI_is r1 q
    exact .inl ⟨p, vs, i, v, rfl, rfl, SqL.of (w.fh _ _ h1), e1, kk v e (Ext.refl e) w i3⟩
  · rename_i ns i
    simp only [Is] at i1 i2
    obtain ⟨p, rfl, h1⟩ := i1
    subst i2
    dsimp only at q
    cases e2 : atI ns i with
    | none => rw [e2] at q; cases q
    | some n =>
      rw [e2] at q
      cases q
      refine .inl ⟨p, ns.map V.int, i, .int n, rfl, rfl, w.fh.seq h1, ?_, kk _ e (Ext.refl e) w (by rw [Is])⟩
      unfold atI at e2 ⊢
      rw [List.length_map]
      cases e3 : ixN ns.length i with
      | none => rw [e3] at e2; cases e2
      | some j =>
        rw [e3] at e2
        show (ns.map V.int)[j]? = _
        rw [List.getElem?_map, show ns[j]? = some n from e2]
        rfl
theorem pd_ix (ha : PD X C a f) (hb : PD X C b g) (hs : PlainIx b := by intro _ _; rfl) : PD X C (.Subscript a b pos) (gOp ixD f g) :=
  pe_imp (pe_ix ix_seq ha hb hs) fun σ H Q hw => op_read ixD_read hw

/-! ### calls of built-ins -/
noncomputable def CallD (X : Cx) (C : Cl) (f : Value) (r : List D → Option D) : Prop :=
  CallR X f fun xs H Q => ∃ e Ω ds z, e.H = H ∧ Wf X.K C e Ω ∧ IsL X.K e.α e.F ds xs ∧ r ds = some z ∧ ∀ v e', Ext e e' → Wf X.K C e' Ω → Is X.K e'.α e'.F z v → Q v e'.H
noncomputable def gCB (r : List D → Option D) (g : ADen) : Den := fun ρ Ω => match g ρ Ω with
  | some (ds, Ω1) => match r ds with
    | some z => some (z, Ω1)
    | none => none
  | none => none
theorem cb_read {K : PySem.W.Frag} {r : List D → Option D} {σ : St} {H : Hp} {Q : VK} (hw : tD K C (gCB r ga) σ H Q) :
    tCB (fun xs H Q => ∃ e Ω ds z, e.H = H ∧ Wf K C e Ω ∧ IsL K e.α e.F ds xs ∧ r ds = some z ∧ ∀ v e', Ext e e' → Wf K C e' Ω → Is K e'.α e'.F z v → Q v e'.H) (tDA K C ga) σ H Q := by
  obtain ⟨e, Ω, ρ, d, Ω', eH, w, rl, e1, kk⟩ := hw
  unfold gCB at e1
  cases q1 : ga ρ Ω with
  | none => rw [q1] at e1; cases e1
  | some p1 =>
    obtain ⟨ds, Ω1⟩ := p1
    rw [q1] at e1
    dsimp only at e1
    cases q2 : r ds with
    | none => rw [q2] at e1; cases e1
    | some z =>
      rw [q2] at e1
      cases e1
      exact ⟨e, Ω, ρ, ds, _, eH, w, rl, q1, fun vs e' x' w' i' => ⟨e', _, ds, _, rfl, w', i', q2, fun v e'' x'' w'' => kk v e'' (x'.trans x'') w''⟩⟩
theorem pd_callB {id : String} {n : Str} {p : Pos} {r : List D → Option D} (hc : CallD X C (.builtin id) r) (hg : Gl X n) (hm : X.mg n = none) (hv : bootBuiltins n = some (.builtin id)) (ha : PDA X C (x :: es) ga) (hn : n ≠ "__name__" := by decide) (hdb : (n == ("__debug__" : Str)) = false := by decide)
    (he : starEach (x :: es) X.env = (false, eval x X.env) :: starEach es X.env := by rfl) (hpl : (backTo pos (starEach es X.env)).any (·.1) = false := by rfl) : PD X C (.Call (.Name n p) (x :: es) [] pos) (gCB r ga) :=
  pe_imp (pe_callB hc hg hm hv ha hn hdb he hpl) fun _ _ _ hw => cb_read hw
theorem isL_one {K : PySem.W.Frag} {α : List Addr} {F : Hp} {d : D} {vs : List V} (h : IsL K α F [d] vs) : ∃ v, vs = [v] ∧ Is K α F d v := by
  obtain ⟨v, r, rfl, i, t⟩ := h.of_cons
  rw [t.of_nil]
  exact ⟨v, rfl, i⟩
theorem isL_two {K : PySem.W.Frag} {α : List Addr} {F : Hp} {d d' : D} {vs : List V} (h : IsL K α F [d, d'] vs) : ∃ v u, vs = [v, u] ∧ Is K α F d v ∧ Is K α F d' u := by
  obtain ⟨v, r, rfl, i, t⟩ := h.of_cons
  obtain ⟨u, rfl, i2⟩ := isL_one t
  exact ⟨v, u, rfl, i, i2⟩
noncomputable def lenD : List D → Option D
  | [.lst xs] => some (.int xs.length)
  | [.tup xs] => some (.int xs.length)
  | [.scr ns] => some (.int ns.length)
  | [.str z] => if z.length ≤ big then some (.int z.length) else none
  | _ => none
theorem callD_len : CallD X C (.builtin "len") lenD := by
  intro pins s σ H xs us Q I r hw
  obtain ⟨e, Ω, ds, z, eH, w, i, q, kk⟩ := hw
  subst eH
  match ds, q with
  | [.lst ys], q =>
    obtain ⟨v, rfl, iv⟩ := isL_one i
    rw [Is] at iv
    obtain ⟨p, vs, rfl, h1, r1⟩ := iv
    cases q
    exact call_len_seq pins s σ _ _ us Q I r ⟨p, vs, rfl, .inl (SqL.of (w.fh _ _ h1)), kk _ e (Ext.refl e) w (by rw [Is, r1.length])⟩
  | [.tup ys], q =>
    obtain ⟨v, rfl, iv⟩ := isL_one i
    rw [Is] at iv
    obtain ⟨p, vs, rfl, h1, r1⟩ := iv
    cases q
    exact call_len_seq pins s σ _ _ us Q I r ⟨p, vs, rfl, .inr (SqT.of (w.fh _ _ h1)), kk _ e (Ext.refl e) w (by rw [Is, r1.length])⟩
  | [.scr ns], q =>
    obtain ⟨v, rfl, iv⟩ := isL_one i
    rw [Is] at iv
    obtain ⟨p, rfl, h1⟩ := iv
    cases q
    exact call_len_seq pins s σ _ _ us Q I r ⟨p, _, rfl, .inl (w.fh.seq h1), kk _ e (Ext.refl e) w (by rw [Is, List.length_map])⟩
  | [.str zz], q =>
    obtain ⟨v, rfl, iv⟩ := isL_one i
    rw [Is] at iv
    subst iv
    have q : (if zz.length ≤ big then some (D.int zz.length) else none) = some z := q
    split at q
    · rename_i hl
      cases q
      exact call_len_str pins s σ _ _ us Q I r ⟨zz, rfl, big_line hl, kk _ e (Ext.refl e) w (by rw [Is])⟩
    · cases q
noncomputable def min2D : List D → Option D
  | [.int i, .int j] => some (.int (if j < i then j else i))
  | _ => none
theorem callD_min (hc : X.calm = true) : CallD X C (.builtin "min") min2D := by
  intro pins s σ H xs us Q I r hw
  obtain ⟨e, Ω, ds, z, eH, w, i, q, kk⟩ := hw
  subst eH
  match ds, q with
  | [.int k, .int j], q =>
    obtain ⟨v, u, rfl, i1, i2⟩ := isL_two i
    simp only [Is] at i1 i2
    subst i1 i2
    cases q
    exact call_min2 hc pins s σ _ _ us Q I r ⟨k, j, rfl, kk _ e (Ext.refl e) w (by rw [Is])⟩
noncomputable def max2D : List D → Option D
  | [.int i, .int j] => some (.int (if j > i then j else i))
  | _ => none
theorem callD_max (hc : X.calm = true) : CallD X C (.builtin "max") max2D := by
  intro pins s σ H xs us Q I r hw
  obtain ⟨e, Ω, ds, z, eH, w, i, q, kk⟩ := hw
  subst eH
  match ds, q with
  | [.int k, .int j], q =>
    obtain ⟨v, u, rfl, i1, i2⟩ := isL_two i
    simp only [Is] at i1 i2
    subst i1 i2
    cases q
    exact call_max2 hc pins s σ _ _ us Q I r ⟨k, j, rfl, kk _ e (Ext.refl e) w (by rw [Is])⟩
end
end DL
set_option Elab.async false
set_option linter.all false
set_option maxRecDepth 100000
set_option genSizeOf false
set_option bootstrap.genMatcherCode false
set_option genInjectivity true
namespace DL
open PySem PySem.Spec PyProof.Rows L2

/-! ### blocks -/
inductive Out where
  | nx (ρ : List Sl) (Ω : List OS) | rt (d : D) (Ω : List OS) | bk (ρ : List Sl) (Ω : List OS) | ct (ρ : List Sl) (Ω : List OS)
noncomputable abbrev SDen := List Sl → List OS → Option Out
structure RelS (K : PySem.W.Frag) (C : Cl) (e₀ e : E4) (Ω : List OS) (σ : St) (ρ : List Sl) : Prop where
  wf : Wf K C e Ω
  rel : RelE K e σ ρ
  ext : Ext e₀ e
  fresh : ∀ (i : Nat) (ds : List D) (a : Addr), ρ[i]? = some (.own ds) → σ[i]? = some (some (.ref a)) → e₀.H a = none
noncomputable def OutOk (K : PySem.W.Frag) (C : Cl) (e₀ : E4) (Dn : Ends) : Out → Prop
  | .nx ρ Ω => ∀ e σ, RelS K C e₀ e Ω σ ρ → Dn.nx σ e.H
  | .bk ρ Ω => ∀ e σ, RelS K C e₀ e Ω σ ρ → Dn.bk σ e.H
  | .ct ρ Ω => ∀ e σ, RelS K C e₀ e Ω σ ρ → Dn.ct σ e.H
  | .rt d Ω => ∀ e v, Ext e₀ e → Wf K C e Ω → Is K e.α e.F d v → Dn.rt v e.H
noncomputable def tDS (K : PySem.W.Frag) (C : Cl) (e₀ : E4) (g : SDen) : TS := fun Dn σ H => ∃ e Ω ρ o, e.H = H ∧ RelS K C e₀ e Ω σ ρ ∧ g ρ Ω = some o ∧ OutOk K C e₀ Dn o
noncomputable def PDS (X : Cx) (C : Cl) (st : Stmt) (g : SDen) : Prop := ∀ e₀, PS X st (tDS X.K C e₀ g)
noncomputable def PDB (X : Cx) (C : Cl) (st : List Stmt) (g : SDen) : Prop := ∀ e₀, PSs X st (tDS X.K C e₀ g)
section
variable {K : PySem.W.Frag} {C : Cl} {e₀ e e' : E4} {Ω Ω' : List OS} {σ : St} {ρ : List Sl}
theorem RelS.to (r : RelS K C e₀ e Ω σ ρ) (x : Ext e e') (w : Wf K C e' Ω') : RelS K C e₀ e' Ω' σ ρ := ⟨w, r.rel.ext x, r.ext.trans x, r.fresh⟩
theorem set_own_ne {i j : Nat} {d : D} {ds : List D} (h : (ρ.set i (.dat d))[j]? = some (.own ds)) : i ≠ j := fun e1 => by
  subst e1
  have hl : i < ρ.length := by
    have := (List.getElem?_eq_some_iff.mp h).1
    simpa using this
  rw [List.getElem?_set_self hl] at h
  cases h
theorem RelS.set (r : RelS K C e₀ e Ω σ ρ) (i : Nat) {d : D} {v : V} (h : Is K e.α e.F d v) : RelS K C e₀ e Ω (σ.set i (some v)) (ρ.set i (.dat d)) :=
  ⟨r.wf, r.rel.set i h, r.ext, fun j ds a h1 h2 => by
    have n := set_own_ne h1
    rw [List.getElem?_set_ne n] at h1 h2
    exact r.fresh j ds a h1 h2⟩
end
section
variable {X : Cx} {C : Cl} {a b c x : Expr} {f g : Den} {p : TDen} {st : Stmt} {rest sts sts' : List Stmt} {s t : SDen} {pos : Pos}
noncomputable def sNext : SDen := fun ρ Ω => some (.nx ρ Ω)
noncomputable def sSeq (s t : SDen) : SDen := fun ρ Ω => match s ρ Ω with
  | some (.nx ρ' Ω') => t ρ' Ω'
  | r => r
theorem pdb_nil : PDB X C [] sNext := fun e₀ => pss_imp pss_nil fun Dn σ H hw' => by
  obtain ⟨e, Ω, ρ, o, eH, r, q, k⟩ := hw'
  subst eH
  cases q
  exact k e σ r
theorem pdb_cons (h1 : PDS X C st s) (h2 : PDB X C rest t) : PDB X C (st :: rest) (sSeq s t) := fun e₀ => pss_imp (pss_cons (h1 e₀) (h2 e₀)) fun Dn σ H hw' => by
  obtain ⟨e, Ω, ρ, o, eH, r, q, k⟩ := hw'
  unfold sSeq at q
  cases q1 : s ρ Ω with
  | none => rw [q1] at q; cases q
  | some o1 =>
    rw [q1] at q
    refine ⟨e, Ω, ρ, o1, eH, r, q1, ?_⟩
    cases o1 with
    | nx ρ' Ω' => exact fun e' σ' r' => ⟨e', Ω', ρ', o, rfl, r', q, k⟩
    | rt d Ω' => cases q; exact k
    | bk ρ' Ω' => cases q; exact k
    | ct ρ' Ω' => cases q; exact k
theorem pdb_one (h1 : PDS X C st s) : PDB X C [st] s := fun e₀ => pss_one (h1 e₀)
/-- what is known is forgotten or turned, between two statements -/
noncomputable def sGhost (γ : List Sl → Option (List Sl)) (s : SDen) : SDen := fun ρ Ω => match γ ρ with
  | some ρ' => s ρ' Ω
  | none => none
noncomputable def Ghost (γ : List Sl → Option (List Sl)) : Prop := ∀ (K : PySem.W.Frag) (C : Cl) (e₀ e : E4) (Ω : List OS) (σ : St) (ρ ρ' : List Sl), γ ρ = some ρ' → RelS K C e₀ e Ω σ ρ → ∃ e', e'.H = e.H ∧ RelS K C e₀ e' Ω σ ρ'
theorem pdb_ghost {γ : List Sl → Option (List Sl)} (hγ : Ghost γ) (h : PDB X C sts s) : PDB X C sts (sGhost γ s) := fun e₀ => pss_imp (h e₀) fun Dn σ H hw' => by
  obtain ⟨e, Ω, ρ, o, eH, r, q, k⟩ := hw'
  unfold sGhost at q
  cases q1 : γ ρ with
  | none => rw [q1] at q; cases q
  | some ρ' =>
    rw [q1] at q
    obtain ⟨e', he, r'⟩ := hγ _ _ _ _ _ _ _ _ q1 r
    exact ⟨e', Ω, ρ', o, he.trans eH, r', q, k⟩
/-- a list of one's own is changed no more -/
noncomputable def frz (i : Nat) : List Sl → Option (List Sl) := fun ρ => match ρ[i]? with
  | some (.own ds) => some (ρ.set i (.dat (.lst ds)))
  | _ => some ρ
theorem ghost_frz (i : Nat) : Ghost (frz i) := by
  intro K C e₀ e Ω σ ρ ρ' h r
  unfold frz at h
  cases q : ρ[i]? with
  | none => rw [q] at h; cases h; exact ⟨e, rfl, r⟩
  | some sl =>
    rw [q] at h
    cases sl with
    | und => cases h; exact ⟨e, rfl, r⟩
    | dat d => cases h; exact ⟨e, rfl, r⟩
    | own ds =>
      cases h
      obtain ⟨a, vs, e1, e2, i1, n1, n2⟩ := r.rel.own i ds q
      have h0 := r.fresh i ds a q e1
      have ff : Same e.F (upd e.F a (.lst vs)) := fun b o hb => by rw [upd_ne (ne_of_none hb n1)]; exact hb
      have fh : Same (upd e.F a (.lst vs)) e.H := fun b o hb => by
        by_cases hba : b = a
        · subst hba; rw [upd_same] at hb; cases hb; exact e2
        · rw [upd_ne hba] at hb; exact r.wf.fh b o hb
      have fn : ∀ b o, (upd e.F a (.lst vs)) b = some o → e.F b = some o ∨ b = a := fun b o hb => by
        by_cases hba : b = a
        · exact .inr hba
        · rw [upd_ne hba] at hb; exact .inl hb
      refine ⟨⟨e.α, upd e.F a (.lst vs), e.A, e.H⟩, rfl, ⟨fh, fun b hb => ?_, r.wf.ah, r.wf.ol, r.wf.nd, fun n b o h1 h2 => ⟨(r.wf.ob n b o h1 h2).1, (r.wf.ob n b o h1 h2).2.keep (fun u hu => hu) ff ⟨[], by simp⟩⟩⟩, ⟨by simp [r.rel.len], fun j d hj => ?_, fun j es hj => ?_, fun j k ds' es b hj hk hj' hk' => ?_⟩, ⟨r.ext.fz, r.ext.hk, r.ext.dm, r.ext.ff.trans ff, fun b o hb => ?_, r.ext.an, r.ext.aa, r.ext.al⟩, fun j es b hj hj' => ?_⟩
      · show upd e.F a _ b = none
        rw [upd_ne (fun z => n2 (by rw [← z]; exact hb))]
        exact r.wf.fa b hb
      · by_cases e3 : i = j
        · subst e3
          have hl : i < ρ.length := (List.getElem?_eq_some_iff.mp q).1
          rw [List.getElem?_set_self hl] at hj
          cases hj
          refine ⟨.ref a, e1, ?_⟩
          rw [Is]
          exact ⟨a, vs, rfl, upd_same, IsL.mono ff ⟨[], by simp⟩ ds i1⟩
        · rw [List.getElem?_set_ne e3] at hj
          obtain ⟨v, z1, z2⟩ := r.rel.dat j d hj
          exact ⟨v, z1, Is.mono ff ⟨[], by simp⟩ d z2⟩
      · have n := set_own_ne hj
        rw [List.getElem?_set_ne n] at hj
        obtain ⟨a', vs', z1, z2, z3, z4, z5⟩ := r.rel.own j es hj
        have na : a' ≠ a := fun z => n (r.rel.sep i j ds es a q hj e1 (by rw [← z]; exact z1))
        exact ⟨a', vs', z1, z2, IsL.mono ff ⟨[], by simp⟩ es z3, by show upd e.F a _ a' = none; rw [upd_ne na]; exact z4, z5⟩
      · have n := set_own_ne hj
        have n' := set_own_ne hk
        rw [List.getElem?_set_ne n] at hj
        rw [List.getElem?_set_ne n'] at hk
        exact r.rel.sep j k ds' es b hj hk hj' hk'
      · rcases fn b o hb with z | z
        · exact r.ext.fn b o z
        · subst z; exact .inr (.inl h0)
      · have n := set_own_ne hj
        rw [List.getElem?_set_ne n] at hj
        exact r.fresh j es b hj hj'

/-! ### statements -/
noncomputable def sSet (i : Nat) (g : Den) : SDen := fun ρ Ω => match g ρ Ω with
  | some (d, Ω') => some (.nx (ρ.set i (.dat d)) Ω')
  | none => none
theorem set_read {K : PySem.W.Frag} {e₀ : E4} {i : Nat} {Dn : Ends} {σ : St} {H : Hp} (hw : tDS K C e₀ (sSet i g) Dn σ H) : tAsg (tD K C g) (gName i) Dn σ H := by
  obtain ⟨e, Ω, ρ, o, eH, r, q, k⟩ := hw
  unfold sSet at q
  cases q1 : g ρ Ω with
  | none => rw [q1] at q; cases q
  | some p1 =>
    obtain ⟨d, Ω'⟩ := p1
    rw [q1] at q
    cases q
    exact ⟨e, Ω, ρ, d, Ω', eH, r.wf, r.rel, q1, fun v e' x' w' i' => k e' _ ((r.to x' w').set i i')⟩
theorem pds_set {i : Nat} {n : Str} {pos' : Pos} (hN : X.N.Nodup) (hi : X.N[i]? = some n) (hx : Loc X.env.scope n) (he : PD X C x g) (hs : swapsWith x (some (.Name n pos')) pos.line X.env = pure false := by rfl) (hf : X.fn n = true ∨ X.env.scope.names.lookup n = some .local := by first | exact .inl rfl | exact .inr rfl | assumption) :
    PDS X C (.Assign [.Name n pos'] x pos) (sSet i g) := fun e₀ => ps_imp (ps_set hN hi hx he hs hf) fun Dn σ H h => set_read h
noncomputable def sRet (g : Den) : SDen := fun ρ Ω => match g ρ Ω with
  | some (d, Ω') => some (.rt d Ω')
  | none => none
theorem pds_ret (he : PD X C x g) : PDS X C (.Return (some x) pos) (sRet g) := fun e₀ => ps_imp (ps_ret he) fun Dn σ H hw' => by
  obtain ⟨e, Ω, ρ, o, eH, r, q, k⟩ := hw'
  unfold sRet at q
  cases q1 : g ρ Ω with
  | none => rw [q1] at q; cases q
  | some p1 =>
    obtain ⟨d, Ω'⟩ := p1
    rw [q1] at q
    cases q
    exact ⟨e, Ω, ρ, d, Ω', eH, r.wf, r.rel, q1, fun v e' x' w' i' => k e' v (r.ext.trans x') w' i'⟩
noncomputable def sIf (p : TDen) (s t : SDen) : SDen := fun ρ Ω => match p ρ Ω with
  | some (true, Ω') => s ρ Ω'
  | some (false, Ω') => t ρ Ω'
  | none => none
theorem pds_if (hc : PDT X C c p) (ha : PDB X C sts s) (hb : PDB X C sts' t) : PDS X C (.If c sts sts' pos) (sIf p s t) := fun e₀ => ps_imp (ps_if hc (ha e₀) (hb e₀)) fun Dn σ H hw' => by
  obtain ⟨e, Ω, ρ, o, eH, r, q, k⟩ := hw'
  unfold sIf at q
  cases q1 : p ρ Ω with
  | none => rw [q1] at q; cases q
  | some p1 =>
    obtain ⟨d, Ω'⟩ := p1
    rw [q1] at q
    refine ⟨e, Ω, ρ, d, Ω', eH, r.wf, r.rel, q1, fun e' x' w' => ?_⟩
    cases d with
    | true => rw [if_pos rfl]; exact ⟨e', Ω', ρ, o, rfl, r.to x' w', q, k⟩
    | false => rw [if_neg (by decide)]; exact ⟨e', Ω', ρ, o, rfl, r.to x' w', q, k⟩
noncomputable def sExpr (g : Den) : SDen := fun ρ Ω => match g ρ Ω with
  | some (_, Ω') => some (.nx ρ Ω')
  | none => none
theorem pds_expr (he : PD X C x g) (hs : swapsWith x none pos.line X.env = pure false := by rfl) : PDS X C (.Expr x pos) (sExpr g) := fun e₀ => ps_imp (ps_expr he hs) fun Dn σ H hw' => by
  obtain ⟨e, Ω, ρ, o, eH, r, q, k⟩ := hw'
  unfold sExpr at q
  cases q1 : g ρ Ω with
  | none => rw [q1] at q; cases q
  | some p1 =>
    obtain ⟨d, Ω'⟩ := p1
    rw [q1] at q
    cases q
    exact ⟨e, Ω, ρ, d, Ω', eH, r.wf, r.rel, q1, fun v e' x' w' i' => k e' σ (r.to x' w')⟩
noncomputable def sNever : SDen := fun _ _ => none
theorem pds_never : PDS X C st sNever := fun e₀ => ps_imp ps_never fun Dn σ H hw' => by obtain ⟨e, Ω, ρ, o, eH, r, q, k⟩ := hw'; cases q
/-! ### a list of one's own -/
noncomputable def sOwn (i : Nat) (g : ADen) : SDen := fun ρ Ω => match g ρ Ω with
  | some (ds, Ω') => if ds.length ≤ big then some (.nx (ρ.set i (.own ds)) Ω') else none
  | none => none
theorem pds_own {i : Nat} {n : Str} {pos' lp : Pos} {es : List Expr} {ga : ADen} (hN : X.N.Nodup) (hi : X.N[i]? = some n) (hx : Loc X.env.scope n) (he : PDA X C es ga) (hs : swapsWith (.List es lp) (some (.Name n pos')) pos.line X.env = pure false := by rfl) (hf : X.fn n = true ∨ X.env.scope.names.lookup n = some .local := by first | exact .inl rfl | exact .inr rfl | assumption) :
    PDS X C (.Assign [.Name n pos'] (.List es lp) pos) (sOwn i ga) := fun e₀ => ps_imp (ps_set hN hi hx (pe_lst he) hs hf) fun Dn σ H hw' => by
  obtain ⟨e, Ω, ρ, o, eH, r, q, k⟩ := hw'
  unfold sOwn at q
  cases q1 : ga ρ Ω with
  | none => rw [q1] at q; cases q
  | some p1 =>
    obtain ⟨ds, Ω'⟩ := p1
    rw [q1] at q
    dsimp only at q
    split at q
    · rename_i hl
      cases q
      refine ⟨e, Ω, ρ, ds, Ω', eH, r.wf, r.rel, q1, fun vs e' x' w' i' => ⟨by rw [← i'.length]; exact big_line hl, fun a ha => ?_⟩⟩
      have r' := r.to x' w'
      have hne : ∀ b u, e'.H b = some u → b ≠ a := fun b u hb => ne_of_none hb ha
      have hF : e'.F a = none := w'.nF ha
      have hA : ¬ e'.A a := fun z => (w'.ah a z).1 ha
      have own1 : ∀ (j : Nat) (es : List D), (ρ.set i (.own ds))[j]? = some (.own es) → (j = i ∧ es = ds ∧ i < ρ.length) ∨ (j ≠ i ∧ ρ[j]? = some (.own es)) := fun j es hj => by
        by_cases e1 : i = j
        · subst e1
          have hl : i < ρ.length := by
            have := (List.getElem?_eq_some_iff.mp hj).1
            simpa using this
          rw [List.getElem?_set_self hl] at hj
          cases hj
          exact .inl ⟨rfl, rfl, hl⟩
        · rw [List.getElem?_set_ne e1] at hj
          exact .inr ⟨fun z => e1 z.symm, hj⟩
      refine k ⟨e'.α, e'.F, e'.A, upd e'.H a (.lst vs)⟩ _ ⟨⟨fun b u hb => ?_, w'.fa, fun b hb => ?_, w'.ol, w'.nd, fun n b u h1 h2 => ⟨(w'.ob n b u h1 h2).1, (w'.ob n b u h1 h2).2.keep (fun z hz => ?_) (Same.refl _) ⟨[], by simp⟩⟩⟩, ⟨by simp [r'.rel.len], fun j d hj => ?_, fun j es hj => ?_, fun j m es fs b hj hm h1 h2 => ?_⟩, ⟨fun b o' u hb => by show upd e'.H a _ b = some (.frz o' u); rw [upd_ne (hne b _ (r'.ext.fz b o' u hb))]; exact r'.ext.fz b o' u hb, fun b u hb hn => ?_, fun b u hb => ?_, r'.ext.ff, r'.ext.fn, r'.ext.an, r'.ext.aa, r'.ext.al⟩, fun j es b hj h1 => ?_⟩
      · show upd e'.H a _ b = some u
        rw [upd_ne (hne b u (w'.fh b u hb))]; exact w'.fh b u hb
      · show upd e'.H a _ b ≠ none ∧ ∀ xs, upd e'.H a _ b ≠ some (.tup xs)
        rw [upd_ne (fun z => hA (by rw [← z]; exact hb))]; exact w'.ah b hb
      · show upd e'.H a _ b = some z
        rw [upd_ne (hne b z hz)]; exact hz
      · have n : i ≠ j := fun e1 => by
          subst e1
          have hl : i < ρ.length := by
            have := (List.getElem?_eq_some_iff.mp hj).1
            simpa using this
          rw [List.getElem?_set_self hl] at hj
          cases hj
        rw [List.getElem?_set_ne n] at hj ⊢
        exact r'.rel.dat j d hj
      · rcases own1 j es hj with ⟨rfl, rfl, hq⟩ | ⟨n, hj'⟩
        · exact ⟨a, vs, List.getElem?_set_self (by rw [r'.rel.len]; exact hq), upd_same, i', hF, hA⟩
        · obtain ⟨b, us, z1, z2, z3, z4, z5⟩ := r'.rel.own j es hj'
          exact ⟨b, us, by rw [List.getElem?_set_ne n.symm]; exact z1, by show upd e'.H a _ b = _; rw [upd_ne (hne b _ z2)]; exact z2, z3, z4, z5⟩
      · rcases own1 j es hj with ⟨rfl, rfl, hq⟩ | ⟨n, hj'⟩
        · rcases own1 m fs hm with ⟨rfl, _, _⟩ | ⟨n', hm'⟩
          · rfl
          · rw [List.getElem?_set_self (by rw [r'.rel.len]; exact hq)] at h1
            rw [List.getElem?_set_ne n'.symm] at h2
            obtain ⟨b', us, z1, z2, _⟩ := r'.rel.own m fs hm'
            rw [h2] at z1
            cases h1
            cases z1
            exact absurd rfl (hne _ _ z2)
        · rcases own1 m fs hm with ⟨rfl, _, hq⟩ | ⟨n', hm'⟩
          · rw [List.getElem?_set_self (by rw [r'.rel.len]; exact hq)] at h2
            rw [List.getElem?_set_ne n.symm] at h1
            obtain ⟨b', us, z1, z2, _⟩ := r'.rel.own j es hj'
            rw [h1] at z1
            cases h2
            cases z1
            exact absurd rfl (hne _ _ z2)
          · rw [List.getElem?_set_ne n.symm] at h1
            rw [List.getElem?_set_ne n'.symm] at h2
            exact r'.rel.sep j m es fs b hj' hm' h1 h2
      · show upd e'.H a _ b = some u
        have z := r'.ext.hk b u hb hn
        rw [upd_ne (hne b u z)]; exact z
      · obtain ⟨u', z⟩ := r'.ext.dm b u hb
        exact ⟨u', by show upd e'.H a _ b = some u'; rw [upd_ne (hne b u' z)]; exact z⟩
      · rcases own1 j es hj with ⟨rfl, rfl, hq⟩ | ⟨n, hj'⟩
        · rw [List.getElem?_set_self (by rw [r'.rel.len]; exact hq)] at h1
          cases h1
          exact r'.ext.back ha
        · rw [List.getElem?_set_ne n.symm] at h1
          exact r'.fresh j es b hj' h1
    · cases q
/-- found.append(e), found a list of one's own -/
noncomputable def sApp (i : Nat) (g : Den) : SDen := fun ρ Ω => match g ρ Ω with
  | some (d, Ω') => match ρ[i]? with
    | some (.own ds) => if ds.length < big then some (.nx (ρ.set i (.own (ds ++ [d]))) Ω') else none
    | _ => none
  | none => none
theorem app_read {K : PySem.W.Frag} {e₀ : E4} {i : Nat} {Dn : Ends} {σ : St} {H : Hp} (hw : tDS K C e₀ (sApp i g) Dn σ H) :
    tDrop (tBM K "list" rAppend (tVar i) (tCons (tD K C g) tNil)) Dn σ H := by
  obtain ⟨e, Ω, ρ, o, eH, r, q, k⟩ := hw
  subst eH
  unfold sApp at q
  cases q1 : g ρ Ω with
  | none => rw [q1] at q; cases q
  | some p1 =>
    obtain ⟨d, Ω'⟩ := p1
    rw [q1] at q
    dsimp only at q
    cases q2 : ρ[i]? with
    | none => rw [q2] at q; cases q
    | some sl =>
      rw [q2] at q
      cases sl with
      | own ds =>
        dsimp only at q
        split at q
        · rename_i hl
          cases q
          obtain ⟨a, vs, e1, e2, i1, n1, n2⟩ := r.rel.own i ds q2
          refine ⟨.ref a, e1, .inl ⟨rfl, _, SqL.of e2⟩, ?_⟩
          refine ⟨e, Ω, ρ, d, Ω', rfl, r.wf, r.rel, q1, fun v e' x' w' i' => ?_⟩
          have r' := r.to x' w'
          obtain ⟨a', vs', e1', e2', i1', n1', n2'⟩ := r'.rel.own i ds q2
          rw [e1] at e1'
          cases e1'
          refine ⟨a, vs', v, rfl, rfl, e2', by rw [← i1'.length]; exact big_lt hl, ?_⟩
          have hil : i < ρ.length := (List.getElem?_eq_some_iff.mp q2).1
          have neH : ∀ (j : Nat) (es : List D) (b : Addr), j ≠ i → ρ[j]? = some (.own es) → σ[j]? = some (some (.ref b)) → b ≠ a := fun j es b n hj h1 z => by
            subst z
            exact n (r'.rel.sep j i es ds b hj q2 h1 e1)
          have own1 : ∀ (j : Nat) (es : List D), (ρ.set i (.own (ds ++ [d])))[j]? = some (.own es) → (j = i ∧ es = ds ++ [d]) ∨ (j ≠ i ∧ ρ[j]? = some (.own es)) := fun j es hj => by
            by_cases e3 : i = j
            · subst e3
              rw [List.getElem?_set_self hil] at hj
              cases hj
              exact .inl ⟨rfl, rfl⟩
            · rw [List.getElem?_set_ne e3] at hj
              exact .inr ⟨fun z => e3 z.symm, hj⟩
          refine k ⟨e'.α, e'.F, e'.A, upd e'.H a (.lst (vs' ++ [v]))⟩ σ ⟨⟨fun b u hb => ?_, w'.fa, fun b hb => ?_, w'.ol, w'.nd, fun n b u h1 h2 => ⟨(w'.ob n b u h1 h2).1, (w'.ob n b u h1 h2).2.keep (fun z hz => ?_) (Same.refl _) ⟨[], by simp⟩⟩⟩, ⟨by simp [r'.rel.len], fun j d' hj => ?_, fun j es hj => ?_, fun j m es fs b hj hm h1 h2 => ?_⟩, ⟨fun b o' u hb => by have q := r'.ext.fz b o' u hb; show upd e'.H a _ b = some (.frz o' u); rw [upd_ne (fun z => by rw [z, e2'] at q; cases q)]; exact q, fun b u hb hn => ?_, fun b u hb => ?_, r'.ext.ff, r'.ext.fn, r'.ext.an, r'.ext.aa, r'.ext.al⟩, fun j es b hj h1 => ?_⟩
          · show upd e'.H a _ b = some u
            rw [upd_ne (fun z => by subst z; rw [n1'] at hb; cases hb)]
            exact w'.fh b u hb
          · show upd e'.H a _ b ≠ none ∧ ∀ xs, upd e'.H a _ b ≠ some (.tup xs)
            rw [upd_ne (fun z => n2' (by rw [← z]; exact hb))]
            exact w'.ah b hb
          · show upd e'.H a _ b = some z
            rw [upd_ne (fun y => n2' (by rw [← y]; exact (w'.ob n b u h1 h2).1))]
            exact hz
          · have n : i ≠ j := fun e3 => by
              subst e3
              rw [List.getElem?_set_self hil] at hj
              cases hj
            rw [List.getElem?_set_ne n] at hj
            exact r'.rel.dat j d' hj
          · rcases own1 j es hj with ⟨rfl, rfl⟩ | ⟨n, hj'⟩
            · exact ⟨a, _, e1, upd_same, i1'.append (.cons i' .nil), n1', n2'⟩
            · obtain ⟨b, us, z1, z2, z3, z4, z5⟩ := r'.rel.own j es hj'
              exact ⟨b, us, z1, by show upd e'.H a _ b = _; rw [upd_ne (neH j es b n hj' z1)]; exact z2, z3, z4, z5⟩
          · rcases own1 j es hj with ⟨rfl, _⟩ | ⟨n, hj'⟩
            · rcases own1 m fs hm with ⟨rfl, _⟩ | ⟨n', hm'⟩
              · rfl
              · exact r'.rel.sep _ m ds fs b q2 hm' h1 h2
            · rcases own1 m fs hm with ⟨rfl, _⟩ | ⟨n', hm'⟩
              · exact r'.rel.sep j _ es ds b hj' q2 h1 h2
              · exact r'.rel.sep j m es fs b hj' hm' h1 h2
          · show upd e'.H a _ b = some u
            have h0 := r'.fresh i ds a q2 e1
            rw [upd_ne (ne_of_none hb h0)]
            exact r'.ext.hk b u hb hn
          · have h0 := r'.fresh i ds a q2 e1
            obtain ⟨u', z⟩ := r'.ext.dm b u hb
            exact ⟨u', by show upd e'.H a _ b = some u'; rw [upd_ne (ne_of_none hb h0)]; exact z⟩
          · rcases own1 j es hj with ⟨rfl, _⟩ | ⟨n, hj'⟩
            · exact r'.fresh _ ds b q2 h1
            · exact r'.fresh j es b hj' h1
        · cases q
      | und => cases q
      | dat _ => cases q
end
end DL
set_option Elab.async false
set_option linter.all false
set_option maxRecDepth 100000
set_option genSizeOf false
set_option bootstrap.genMatcherCode false
set_option genInjectivity true
namespace DL
open PySem PySem.Spec PyProof.Rows L2

open Classical in
noncomputable def hid (P : Addr → Prop) (H : Hp) : Hp := fun b => if P b then none else H b
theorem hid_pos {P : Addr → Prop} {H : Hp} {b : Addr} (h : P b) : hid P H b = none := if_pos h
theorem hid_neg {P : Addr → Prop} {H : Hp} {b : Addr} (h : ¬ P b) : hid P H b = H b := if_neg h
theorem hid_some {P : Addr → Prop} {H : Hp} {b : Addr} {o : HO} (h : hid P H b = some o) : H b = some o := by
  by_cases q : P b
  · rw [hid_pos q] at h; cases h
  · rw [hid_neg q] at h; exact h
section
variable {K : PySem.W.Frag} {C : Cl} {e₀ e e' : E4} {Ω Ω' : List OS} {σ : St} {ρ : List Sl}
/-- a mark in the middle of a body: what stands there stands from there on -/
theorem RelS.mark (r : RelS K C e₀ e Ω σ ρ) : ∃ e₁ : E4, e₁.F = e.F ∧ e₁.α = e.α ∧ RelS K C e₁ e Ω σ ρ ∧ (∀ e', Ext e₁ e' → Ext e₀ e') ∧ (∀ b, e₁.H b = none → e₀.H b = none) ∧ ∀ b o u, e.H b = some (.frz o u) → e₁.H b = some (.frz o u) := by
  have ho : ∀ b, (∃ (i : Nat) (ds : List D), ρ[i]? = some (Sl.own ds) ∧ σ[i]? = some (some (V.ref b))) → e₀.H b = none := fun b ⟨i, ds, h1, h2⟩ => r.fresh i ds b h1 h2
  generalize hP : (fun b : Addr => ∃ (i : Nat) (ds : List D), ρ[i]? = some (Sl.own ds) ∧ σ[i]? = some (some (V.ref b))) = P
  have ho' : ∀ b, P b → e₀.H b = none := fun b h => ho b (by rw [← hP] at h; exact h)
  have hno : ∀ b, hid P e.H b = none → e₀.H b = none := fun b h => by
    by_cases q : P b
    · exact ho' b q
    · rw [hid_neg q] at h; exact r.ext.back h
  have hs : ∀ b o, e₀.H b = some o → hid P e.H b = e.H b := fun b o h => hid_neg (fun q => by rw [ho' b q] at h; cases h)
  refine ⟨⟨e.α, e.F, e.A, hid P e.H⟩, rfl, rfl, ⟨r.wf, r.rel, ⟨fun b o u h => hid_some h, fun b o h _ => hid_some h, fun b o h => ⟨o, hid_some h⟩, Same.refl _, fun b o h => .inl h, fun b h => .inl h, fun b h => h, [], by simp⟩, fun i ds a h1 h2 => ?_⟩, fun e' x => ⟨fun b o u h => x.fz b o u ((hs b _ h).trans (r.ext.fz b o u h)), fun b o h hn => ?_, fun b o h => ?_, r.ext.ff.trans x.ff, fun b o h => ?_, fun b h => ?_, fun b h => x.aa b (r.ext.aa b h), ?_⟩, hno, fun b o u h => (hid_neg (fun q => ?_)).trans h⟩
  · exact hid_pos (by rw [← hP]; exact ⟨i, ds, h1, h2⟩)
  · have z := r.ext.hk b o h hn
    refine x.hk b o ((hs b o h).trans z) fun hA => ?_
    rcases r.ext.an b hA with q | q
    · exact hn q
    · rw [q] at h; cases h
  · obtain ⟨o', z⟩ := r.ext.dm b o h
    exact x.dm b o' ((hs b o h).trans z)
  · rcases x.fn b o h with q | q | ⟨q1, q2, q3⟩
    · exact r.ext.fn b o q
    · exact .inr (.inl (hno b q))
    · have n : ¬ e₀.A b := fun z => q3 (r.ext.aa b z)
      cases z : e₀.H b with
      | none => exact .inr (.inl rfl)
      | some o' =>
        have z' := r.ext.hk b o' z n
        rw [hid_some q2] at z'
        cases z'
        exact .inr (.inr ⟨q1, rfl, n⟩)
  · rcases x.an b h with q | q
    · exact r.ext.an b q
    · exact .inr (hno b q)
  · obtain ⟨m, e1⟩ := r.ext.al
    obtain ⟨n, e2⟩ := x.al
    exact ⟨m ++ n, by rw [e2]; show e.α ++ n = _; rw [e1, List.append_assoc]⟩
  · rw [← hP] at q
    obtain ⟨i, ds, h1, h2⟩ := q
    obtain ⟨a', vs, e1, e2, _⟩ := r.rel.own i ds h1
    rw [h2] at e1
    cases e1
    rw [h] at e2
    cases e2
end

/-! ### targets -/
noncomputable abbrev BDen := D → List Sl → Option (List Sl)
noncomputable def tDG (K : PySem.W.Frag) (C : Cl) (β : BDen) : TG := fun v σ H Q => ∃ e Ω ρ d ρ', e.H = H ∧ Wf K C e Ω ∧ RelE K e σ ρ ∧ Is K e.α e.F d v ∧ β d ρ = some ρ' ∧
  ∀ σ', RelE K e σ' ρ' → (∀ (j : Nat) (ds : List D), ρ'[j]? = some (.own ds) → ρ[j]? = some (.own ds) ∧ σ'[j]? = σ[j]?) → Q σ' e.H
noncomputable def PDG (X : Cx) (C : Cl) (tg : Expr) (β : BDen) : Prop := PG X tg (tDG X.K C β)
theorem pg_imp {X : Cx} {tg : Expr} {t t' : TG} (h : PG X tg t) (i : ∀ v σ H Q, t' v σ H Q → t v σ H Q) : PG X tg t' := fun pins s σ H v u Q I r hw => h pins s σ H v u Q I r (i v σ H Q hw)
theorem pgs_imp {X : Cx} {ts : List Expr} {t t' : TGs} (h : PGs X ts t) (i : ∀ v σ H Q, t' v σ H Q → t v σ H Q) : PGs X ts t' := fun pins s σ H v u Q I r hw => h pins s σ H v u Q I r (i v σ H Q hw)
noncomputable def bName (i : Nat) : BDen := fun d ρ => some (ρ.set i (.dat d))
theorem own_set {ρ : List Sl} {σ : St} {i : Nat} {d : D} {v : V} (j : Nat) (ds : List D) (h : (ρ.set i (.dat d))[j]? = some (.own ds)) : ρ[j]? = some (.own ds) ∧ (σ.set i (some v))[j]? = σ[j]? := by
  have n := set_own_ne h
  rw [List.getElem?_set_ne n] at h
  exact ⟨h, List.getElem?_set_ne n⟩
section
variable {X : Cx} {C : Cl} {pos : Pos}
theorem pdg_name {i : Nat} {x : Str} (hN : X.N.Nodup) (hi : X.N[i]? = some x) (hx : Loc X.env.scope x) (hf : X.fn x = true ∨ X.env.scope.names.lookup x = some .local := by first | exact .inl rfl | exact .inr rfl | assumption) : PDG X C (.Name x pos) (bName i) :=
  pg_imp (pg_name hN hi hx hf) fun v σ H Q hw' => by
    obtain ⟨e, Ω, ρ, d, ρ', eH, w, r, is, b, k⟩ := hw'
    subst eH
    cases b
    exact k _ (r.set i is) own_set
/-- a tuple of names -/
noncomputable def bNames : List Nat → List D → List Sl → Option (List Sl)
  | [], [], ρ => some ρ
  | i :: is, d :: ds, ρ => bNames is ds (ρ.set i (.dat d))
  | _, _, _ => none
noncomputable def tDGs (K : PySem.W.Frag) (C : Cl) (is : List Nat) : TGs := fun vs σ H Q => ∃ e Ω ρ ds ρ', e.H = H ∧ Wf K C e Ω ∧ RelE K e σ ρ ∧ IsL K e.α e.F ds vs ∧ bNames is ds ρ = some ρ' ∧
  ∀ σ', RelE K e σ' ρ' → (∀ (j : Nat) (ds : List D), ρ'[j]? = some (.own ds) → ρ[j]? = some (.own ds) ∧ σ'[j]? = σ[j]?) → Q σ' e.H
noncomputable def PDGs (X : Cx) (C : Cl) (ts : List Expr) (is : List Nat) : Prop := PGs X ts (tDGs X.K C is)
theorem pdgs_nil : PDGs X C [] [] := pgs_imp pgs_nil fun vs σ H Q hw' => by
  obtain ⟨e, Ω, ρ, ds, ρ', eH, w, r, is, b, k⟩ := hw'
  subst eH
  cases ds with
  | nil => cases b; exact ⟨is.of_nil, k _ r fun _ _ h => ⟨h, rfl⟩⟩
  | cons => cases b
theorem pdgs_cons {i : Nat} {is : List Nat} {x : Str} {ts : List Expr} {px : Pos} (hN : X.N.Nodup) (hi : X.N[i]? = some x) (hx : Loc X.env.scope x) (h2 : PDGs X C ts is) (hf : X.fn x = true ∨ X.env.scope.names.lookup x = some .local := by first | exact .inl rfl | exact .inr rfl | assumption)
    (hs : (assignEach (.Name x px :: ts) X.env).map (·.2) = assign (.Name x px) X.env :: (assignEach ts X.env).map (·.2) := by rfl) : PDGs X C (.Name x px :: ts) (i :: is) := by
  refine pgs_imp (pgs_cons (pg_name hN hi hx hf) h2 hs) fun vs σ H Q hw' => ?_
  obtain ⟨e, Ω, ρ, ds, ρ', eH, w, r, il, b, k⟩ := hw'
  subst eH
  cases ds with
  | nil => cases b
  | cons d ds =>
    obtain ⟨v, vr, rfl, i1, i2⟩ := il.of_cons
    refine ⟨v, vr, rfl, ?_⟩
    refine ⟨e, Ω, _, ds, ρ', rfl, w, r.set i i1, i2, b, fun σ' r' o' => k σ' r' fun j es hj => ?_⟩
    obtain ⟨z1, z2⟩ := o' j es hj
    obtain ⟨y1, y2⟩ := own_set (σ := σ) (v := v) j es z1
    exact ⟨y1, z2.trans y2⟩
noncomputable def bTup (is : List Nat) : BDen := fun d ρ => match d with
  | .tup ds => bNames is ds ρ
  | _ => none
theorem bNames_len : ∀ {is : List Nat} {ds : List D} {ρ ρ' : List Sl}, bNames is ds ρ = some ρ' → ds.length = is.length
  | [], [], _, _, _ => rfl
  | i :: is, d :: ds, ρ, ρ', h => by
    rw [List.length_cons, List.length_cons, bNames_len (is := is) (ds := ds) h]
  | [], _ :: _, _, _, h => by cases h
  | _ :: _, [], _, _, h => by cases h
theorem pdg_tup {es : List Expr} {k : Nat} {is : List Nat} (hc : X.calm = true) (h : PDGs X C es is)
    (hn : (assignEach es X.env).length = is.length := by rfl) (hst : (assignEach es X.env).findIdx? (·.1) = none := by rfl) : PDG X C (.Tuple es k pos) (bTup is) := by
  refine pg_imp (pg_tup hc h hn hst) fun v σ H Q hw' => ?_
  obtain ⟨e, Ω, ρ, d, ρ', eH, w, r, il, b, k⟩ := hw'
  subst eH
  unfold bTup at b
  cases d with
  | tup ds =>
    rw [Is] at il
    obtain ⟨a, vs, rfl, e1, i1⟩ := il
    exact ⟨a, vs, rfl, SqT.of (w.fh _ _ e1), by rw [← i1.length]; exact bNames_len b, e, Ω, ρ, ds, ρ', rfl, w, r, i1, b, k⟩
  | _ => cases b
/-- target = value -/
noncomputable def sAsg (β : BDen) (g : Den) : SDen := fun ρ Ω => match g ρ Ω with
  | some (d, Ω') => match β d ρ with
    | some ρ' => some (.nx ρ' Ω')
    | none => none
  | none => none
theorem RelS.by {K : PySem.W.Frag} {e₀ e : E4} {Ω : List OS} {σ σ' : St} {ρ ρ' : List Sl} (r : RelS K C e₀ e Ω σ ρ) (r' : RelE K e σ' ρ') (o : ∀ (j : Nat) (ds : List D), ρ'[j]? = some (.own ds) → ρ[j]? = some (.own ds) ∧ σ'[j]? = σ[j]?) : RelS K C e₀ e Ω σ' ρ' :=
  ⟨r.wf, r', r.ext, fun i ds a h1 h2 => by
    obtain ⟨z1, z2⟩ := o i ds h1
    rw [z2] at h2
    exact r.fresh i ds a z1 h2⟩
theorem pds_asg {tg x : Expr} {β : BDen} {g : Den} (he : PD X C x g) (hg : PDG X C tg β) (hs : swapsWithSole [tg] x pos.line X.env = pure false := by rfl) (hw : swappedStores [tg] x X.env = pure none := by rfl)
    (h1 : (assignEach [tg] X.env).map (·.2) = [assign tg X.env] := by rfl) : PDS X C (.Assign [tg] x pos) (sAsg β g) := by
  refine fun e₀ => ps_imp (ps_asg he hg hs hw h1) fun Dn σ H hw' => ?_
  obtain ⟨e, Ω, ρ, o, eH, r, q, k⟩ := hw'
  unfold sAsg at q
  cases q1 : g ρ Ω with
  | none => rw [q1] at q; cases q
  | some p1 =>
    obtain ⟨d, Ω'⟩ := p1
    rw [q1] at q
    dsimp only at q
    cases q2 : β d ρ with
    | none => rw [q2] at q; cases q
    | some ρ' =>
      rw [q2] at q
      cases q
      refine ⟨e, Ω, ρ, d, Ω', eH, r.wf, r.rel, q1, fun v e' x' w' i' => ?_⟩
      have r' := r.to x' w'
      exact ⟨e', Ω', ρ, d, ρ', rfl, w', r'.rel, i', q2, fun σ' z o' => k e' σ' (r'.by z o')⟩
end

/-! ### what is walked -/
noncomputable def Walk (K : PySem.W.Frag) (e : E4) (J : It) (ds : List D) : Prop := ∀ (i : Nat) (e2 : E4), Same e.F e2.F → (∃ more, e2.α = e.α ++ more) → Same e2.F e2.H →
  (i = ds.length → J.stop i e2.H) ∧ ∀ d, ds[i]? = some d → J.go i e2.H ∧ ∀ x H', J.yld i e2.H x H' → ∃ e3 : E4, e3.H = H' ∧ Is K e3.α e3.F d x ∧ ∀ (C : Cl) (Ω : List OS), Wf K C e2 Ω → Ext e2 e3 ∧ Wf K C e3 Ω
theorem Walk.still {K : PySem.W.Frag} {e : E4} {J : It} {ds : List D} (h : ∀ (i : Nat) (e2 : E4), Same e.F e2.F → (∃ more, e2.α = e.α ++ more) → Same e2.F e2.H →
    (i = ds.length → J.stop i e2.H) ∧ ∀ d, ds[i]? = some d → J.go i e2.H ∧ ∀ x H', J.yld i e2.H x H' → H' = e2.H ∧ Is K e2.α e2.F d x) : Walk K e J ds := fun i e2 h1 h2 h3 => by
  obtain ⟨a, b⟩ := h i e2 h1 h2 h3
  refine ⟨a, fun d hd => ⟨(b d hd).1, fun x H' hy => ?_⟩⟩
  obtain ⟨z, q⟩ := (b d hd).2 x H' hy
  exact ⟨e2, z.symm, q, fun C Ω w => ⟨Ext.refl _, w⟩⟩
noncomputable def tDI (K : PySem.W.Frag) (C : Cl) (γ : ADen) : TI := fun σ H R => ∃ e Ω ρ ds Ω', e.H = H ∧ Wf K C e Ω ∧ RelE K e σ ρ ∧ γ ρ Ω = some (ds, Ω') ∧ ∀ e' J, Ext e e' → Wf K C e' Ω' → Walk K e' J ds → R J e'.H
noncomputable def PDI (X : Cx) (C : Cl) (tg iter : Expr) (γ : ADen) : Prop := PI X tg iter (tDI X.K C γ)
theorem pi_imp {X : Cx} {tg iter : Expr} {t t' : TI} (h : PI X tg iter t) (i : ∀ σ H R, t' σ H R → t σ H R) : PI X tg iter t' := fun pins s σ H R I hw => h pins s σ H R I (i σ H R hw)
section
variable {X : Cx} {C : Cl} {tg iter : Expr} {g : Den} {ga : ADen} {pos p : Pos}
noncomputable def seqD : D → Option (List D)
  | .lst xs => some xs
  | .scr ns => some (ns.map D.int)
  | _ => none
noncomputable def gSeq (g : Den) : ADen := fun ρ Ω => match g ρ Ω with
  | some (d, Ω') => match seqD d with
    | some ds => some (ds, Ω')
    | none => none
  | none => none
theorem walk_list {K : PySem.W.Frag} {e : E4} {a : Addr} {vs : List V} {ds : List D} (h : SqL K e.F a vs) (r : IsL K e.α e.F ds vs) : Walk K e (Itl K a) ds := by
  refine Walk.still ?_
  intro i e2 ff al fh
  have h2 : SqL K e2.H a vs := fh.seq (ff.seq h)
  refine ⟨fun z => ⟨vs, h2, by rw [← r.length]; exact Nat.le_of_eq z.symm⟩, fun d hd => ?_⟩
  obtain ⟨v, hv, iv⟩ := (IsL.mono ff al ds r).get hd
  exact ⟨⟨vs, v, h2, hv⟩, fun x H' ⟨z1, z2⟩ => ⟨z1, by
    have := z2 vs h2
    rw [hv] at this
    cases this
    exact iv⟩⟩
theorem pdi_list (h : PD X C iter g) : PDI X C tg iter (gSeq g) := pi_imp (pi_list h) fun σ H R hw' => by
  obtain ⟨e, Ω, ρ, ds, Ω', eH, w, rl, q, k⟩ := hw'
  unfold gSeq at q
  cases q1 : g ρ Ω with
  | none => rw [q1] at q; cases q
  | some p1 =>
    obtain ⟨d, Ω1⟩ := p1
    rw [q1] at q
    dsimp only at q
    refine ⟨e, Ω, ρ, d, Ω1, eH, w, rl, q1, fun v e' x' w' i' => ?_⟩
    cases d with
    | lst xs =>
      cases q
      rw [Is] at i'
      obtain ⟨a, vs, rfl, h1, r1⟩ := i'
      exact ⟨a, rfl, ⟨vs, SqL.of (w'.fh _ _ h1)⟩, k e' _ x' w' (walk_list (SqL.of h1) r1)⟩
    | scr ns =>
      cases q
      rw [Is] at i'
      obtain ⟨a, rfl, h1⟩ := i'
      exact ⟨a, rfl, ⟨_, w'.fh.seq h1⟩, k e' _ x' w' (walk_list h1 (IsL.ints ns))⟩
    | _ => cases q
/-- lo, lo + 1 .. -/
noncomputable def upD (lo : Int) (n : Nat) : List D := (List.range n).map fun (k : Nat) => D.int (lo + (k : Int))
theorem walk_range {K : PySem.W.Frag} {e : E4} {lo : Int} {n : Nat} : Walk K e (Itr lo n) (upD lo n) := by
  refine Walk.still ?_
  intro i e2 _ _ _
  refine ⟨fun z => Nat.le_of_eq (by rw [z]; simp [upD]), fun d hd => ?_⟩
  have hi : i < n := by
    have := (List.getElem?_eq_some_iff.mp hd).1
    simpa [upD] using this
  refine ⟨hi, fun x H' ⟨z1, z2⟩ => ⟨z1, ?_⟩⟩
  have : d = D.int (lo + (i : Int)) := by
    simp [upD, hi] at hd
    exact hd.symm
  subst this z2
  rw [Is]
noncomputable def rng1 : List D → Option (List D)
  | [.int j] => grd (-(2 ^ 62) ≤ j ∧ j < 2 ^ 62) (some (upD 0 j.toNat))
  | _ => none
noncomputable def rng2 : List D → Option (List D)
  | [.int i, .int j] => grd (-(2 ^ 62) ≤ i ∧ i < 2 ^ 62 ∧ -(2 ^ 62) ≤ j ∧ j < 2 ^ 62) (some (upD i (j - i).toNat))
  | _ => none
noncomputable def gRng (r : List D → Option (List D)) (g : ADen) : ADen := fun ρ Ω => match g ρ Ω with
  | some (ds, Ω') => match r ds with
    | some es => some (es, Ω')
    | none => none
  | none => none
theorem pdi_range1 {a : Expr} (hg : Gl X "range") (hm : X.mg "range" = none) (ha : PDA X C [a] ga) (hs : starEach [a] X.env = [(false, eval a X.env)] := by rfl) : PDI X C tg (.Call (.Name "range" p) [a] [] pos) (gRng rng1 ga) :=
  pi_imp (pi_range1 hg hm ha hs) fun σ H R hw' => by
    obtain ⟨e, Ω, ρ, ds, Ω', eH, w, rl, q, k⟩ := hw'
    unfold gRng at q
    cases q1 : ga ρ Ω with
    | none => rw [q1] at q; cases q
    | some p1 =>
      obtain ⟨es, Ω1⟩ := p1
      rw [q1] at q
      dsimp only at q
      refine ⟨e, Ω, ρ, es, Ω1, eH, w, rl, q1, fun v e' x' w' i' => ?_⟩
      match es, q, i' with
      | [.int j], q, i' =>
        obtain ⟨v, rfl, iv⟩ := isL_one i'
        rw [Is] at iv
        subst iv
        have ez : rng1 [D.int j] = grd (-(2 ^ 62) ≤ j ∧ j < 2 ^ 62) (some (upD 0 j.toNat)) := rfl
        rw [ez] at q
        by_cases hb : (-(2 ^ 62) ≤ j ∧ j < 2 ^ 62)
        · rw [grd_pos hb] at q
          cases q
          exact ⟨j, rfl, hb.1, hb.2, k e' _ x' w' walk_range⟩
        · have en : grd (-(2 ^ 62) ≤ j ∧ j < 2 ^ 62) (some (upD 0 j.toNat)) = none := if_neg hb
          rw [en] at q
          cases q
theorem pdi_range2 {a b : Expr} (hg : Gl X "range") (hm : X.mg "range" = none) (ha : PDA X C [a, b] ga) (hs : starEach [a, b] X.env = [(false, eval a X.env), (false, eval b X.env)] := by rfl) (hs2 : starEach [b] X.env = [(false, eval b X.env)] := by rfl) : PDI X C tg (.Call (.Name "range" p) [a, b] [] pos) (gRng rng2 ga) :=
  pi_imp (pi_range2 hg hm ha hs hs2) fun σ H R hw' => by
    obtain ⟨e, Ω, ρ, ds, Ω', eH, w, rl, q, k⟩ := hw'
    unfold gRng at q
    cases q1 : ga ρ Ω with
    | none => rw [q1] at q; cases q
    | some p1 =>
      obtain ⟨es, Ω1⟩ := p1
      rw [q1] at q
      dsimp only at q
      refine ⟨e, Ω, ρ, es, Ω1, eH, w, rl, q1, fun v e' x' w' i' => ?_⟩
      match es, q, i' with
      | [.int i, .int j], q, i' =>
        obtain ⟨v, u, rfl, iv, iu⟩ := isL_two i'
        rw [Is] at iv iu
        subst iv iu
        have ez : rng2 [D.int i, D.int j] = grd (-(2 ^ 62) ≤ i ∧ i < 2 ^ 62 ∧ -(2 ^ 62) ≤ j ∧ j < 2 ^ 62) (some (upD i (j - i).toNat)) := rfl
        rw [ez] at q
        by_cases hb : (-(2 ^ 62) ≤ i ∧ i < 2 ^ 62 ∧ -(2 ^ 62) ≤ j ∧ j < 2 ^ 62)
        · rw [grd_pos hb] at q
          cases q
          exact ⟨i, j, rfl, hb, k e' _ x' w' walk_range⟩
        · have en : grd (-(2 ^ 62) ≤ i ∧ i < 2 ^ 62 ∧ -(2 ^ 62) ≤ j ∧ j < 2 ^ 62) (some (upD i (j - i).toNat)) = none := if_neg hb
          rw [en] at q
          cases q
end

/-! ### for, while -/
noncomputable def forD (β : BDen) (s : SDen) : List D → SDen
  | [], ρ, Ω => some (.nx ρ Ω)
  | d :: ds, ρ, Ω => match β d ρ with
    | some ρ1 => match s ρ1 Ω with
      | some (.nx ρ' Ω') => forD β s ds ρ' Ω'
      | some (.ct ρ' Ω') => forD β s ds ρ' Ω'
      | some (.bk ρ' Ω') => some (.nx ρ' Ω')
      | some (.rt z Ω') => some (.rt z Ω')
      | none => none
    | none => none
noncomputable def sFor (γ : ADen) (β : BDen) (s : SDen) : SDen := fun ρ Ω => match γ ρ Ω with
  | some (ds, Ω') => forD β s ds ρ Ω'
  | none => none
section
variable {X : Cx} {C : Cl} {tg iter c : Expr} {γ : ADen} {β : BDen} {s : SDen} {body : List Stmt} {pos : Pos} {p : TDen}
theorem pdb_ex {sts : List Stmt} (h : PDB X C sts s) : PSs X sts (fun Dn σ H => ∃ e₁, tDS X.K C e₁ s Dn σ H) := fun pins sh σ H Dn I ⟨e₁, hw⟩ => h e₁ pins sh σ H Dn I hw
theorem pds_for (hp : PassesOwn (model X.prog X.w) X.A X.env X.xe) (hc : X.calm = true) (hi : PDI X C tg iter γ) (hg : PDG X C tg β) (hb : PDB X C body s)
    (hs : ∀ x, foldedSetIterable iter X.env x = pure x := by intro _; rfl) : PDS X C (.For tg iter body [] pos) (sFor γ β s) := by
  refine fun e₀ => ps_imp (ps_for hp hc hi hg (pdb_ex hb) hs) fun Dn σ H hw' => ?_
  obtain ⟨e, Ω, ρ, o, eH, r, q, k⟩ := hw'
  unfold sFor at q
  cases q1 : γ ρ Ω with
  | none => rw [q1] at q; cases q
  | some p1 =>
    obtain ⟨ds, Ω'⟩ := p1
    rw [q1] at q
    dsimp only at q
    refine ⟨e, Ω, ρ, ds, Ω', eH, r.wf, r.rel, q1, fun e' J x' w' wk => ?_⟩
    refine ⟨fun i m σ H => m = ds.length - i ∧ i ≤ ds.length ∧ ∃ e2 Ω2 ρ2, e2.H = H ∧ RelS X.K C e₀ e2 Ω2 σ ρ2 ∧ Same e'.F e2.F ∧ (∃ more, e2.α = e'.α ++ more) ∧ forD β s (ds.drop i) ρ2 Ω2 = some o, ⟨ds.length, by simp, Nat.zero_le _, e', Ω', ρ, rfl, r.to x' w', Same.refl _, ⟨[], by simp⟩, by simpa using q⟩, ?_⟩
    rintro i m σ2 H2 ⟨rfl, hil, e2, Ω2, ρ2, rfl, r2, ff, al, q2⟩
    obtain ⟨stop, go⟩ := wk i e2 ff al r2.wf.fh
    by_cases hlt : i < ds.length
    · have hd : ds[i]? = some ds[i] := List.getElem?_eq_getElem hlt
      obtain ⟨g1, y1⟩ := go _ hd
      have edrop : ds.drop i = ds[i] :: ds.drop (i + 1) := List.drop_eq_getElem_cons hlt
      rw [edrop] at q2
      refine .inr ⟨g1, fun σ' H' => ∃ e3 Ω3 ρ3, e3.H = H' ∧ RelS X.K C e₀ e3 Ω3 σ' ρ3 ∧ Same e'.F e3.F ∧ (∃ more, e3.α = e'.α ++ more) ∧ forD β s (ds.drop (i + 1)) ρ3 Ω3 = some o, fun σ' H' hN => ⟨ds.length - (i + 1), by omega, rfl, hlt, hN⟩, fun x H' hy => ?_⟩
      obtain ⟨e2', rfl, ix, up⟩ := y1 x H' hy
      obtain ⟨x2', w2'⟩ := up C Ω2 r2.wf
      replace r2 := r2.to x2' w2'
      replace ff := ff.trans x2'.ff
      replace al : ∃ more, e2'.α = e'.α ++ more := by
        obtain ⟨m1, z1⟩ := al
        obtain ⟨m2, z2⟩ := x2'.al
        exact ⟨m1 ++ m2, by rw [z2, z1, List.append_assoc]⟩
      clear y1 g1 stop go
      revert r2 ff al ix
      generalize e2' = e2
      intro ix r2 ff al
      unfold forD at q2
      cases q3 : β ds[i] ρ2 with
      | none => rw [q3] at q2; cases q2
      | some ρ3 =>
        rw [q3] at q2
        dsimp only at q2
        refine ⟨e2, Ω2, ρ2, _, ρ3, rfl, r2.wf, r2.rel, ix, q3, fun σ3 r3 o3 => ?_⟩
        have r3' := r2.by r3 o3
        obtain ⟨e₁, hF, hα, r4, toE, toN, _⟩ := r3'.mark
        cases q4 : s ρ3 Ω2 with
        | none => rw [q4] at q2; cases q2
        | some o4 =>
          rw [q4] at q2
          refine ⟨e₁, e2, Ω2, ρ3, o4, rfl, r4, q4, ?_⟩
          have back : ∀ {e5 : E4} {Ω5 : List OS} {σ5 : St} {ρ5 : List Sl}, RelS X.K C e₁ e5 Ω5 σ5 ρ5 → RelS X.K C e₀ e5 Ω5 σ5 ρ5 ∧ Same e'.F e5.F ∧ ∃ more, e5.α = e'.α ++ more := fun {e5 Ω5 σ5 ρ5} r5 => by
            refine ⟨⟨r5.wf, r5.rel, toE _ r5.ext, fun i ds a h1 h2 => toN _ (r5.fresh i ds a h1 h2)⟩, ff.trans (hF ▸ r5.ext.ff), ?_⟩
            obtain ⟨m1, z1⟩ := al
            obtain ⟨m2, z2⟩ := r5.ext.al
            exact ⟨m1 ++ m2, by rw [z2, hα, z1, List.append_assoc]⟩
          cases o4 with
          | nx ρ5 Ω5 => exact fun e5 σ5 r5 => ⟨e5, Ω5, ρ5, rfl, (back r5).1, (back r5).2.1, (back r5).2.2, q2⟩
          | ct ρ5 Ω5 => exact fun e5 σ5 r5 => ⟨e5, Ω5, ρ5, rfl, (back r5).1, (back r5).2.1, (back r5).2.2, q2⟩
          | bk ρ5 Ω5 => cases q2; exact fun e5 σ5 r5 => k e5 σ5 (back r5).1
          | rt z Ω5 => cases q2; exact fun e5 v5 x5 w5 i5 => k e5 v5 (toE _ x5) w5 i5
    · have ei : i = ds.length := by omega
      subst ei
      rw [List.drop_length] at q2
      cases q2
      exact .inl ⟨stop rfl, k e2 σ2 r2⟩
noncomputable def whileD (p : TDen) (s : SDen) : Nat → SDen
  | 0, _, _ => none
  | n + 1, ρ, Ω => match p ρ Ω with
    | some (true, Ω1) => match s ρ Ω1 with
      | some (.nx ρ' Ω') => whileD p s n ρ' Ω'
      | some (.ct ρ' Ω') => whileD p s n ρ' Ω'
      | some (.bk ρ' Ω') => some (.nx ρ' Ω')
      | some (.rt z Ω') => some (.rt z Ω')
      | none => none
    | some (false, Ω1) => some (.nx ρ Ω1)
    | none => none
theorem pds_while (fuel : Nat) (hp : PassesOwn (model X.prog X.w) X.A X.env X.xe) (hc : PDT X C c p) (hb : PDB X C body s) : PDS X C (.While c body [] pos) (whileD p s fuel) := by
  refine fun e₀ => ps_imp (ps_while hp hc (pdb_ex hb)) fun Dn σ H hw' => ?_
  obtain ⟨e, Ω, ρ, o, eH, r, q, k⟩ := hw'
  refine ⟨fun m σ H => ∃ e2 Ω2 ρ2, e2.H = H ∧ RelS X.K C e₀ e2 Ω2 σ ρ2 ∧ whileD p s m ρ2 Ω2 = some o, ⟨fuel, e, Ω, ρ, eH, r, q⟩, ?_⟩
  rintro m σ2 H2 ⟨e2, Ω2, ρ2, rfl, r2, q2⟩
  cases m with
  | zero => cases q2
  | succ m =>
    unfold whileD at q2
    cases q3 : p ρ2 Ω2 with
    | none => rw [q3] at q2; cases q2
    | some p3 =>
      obtain ⟨b, Ω3⟩ := p3
      rw [q3] at q2
      refine ⟨e2, Ω2, ρ2, b, Ω3, rfl, r2.wf, r2.rel, q3, fun e3 x3 w3 => ?_⟩
      have r3 := r2.to x3 w3
      cases b with
      | false =>
        refine iteF ?_
        cases q2
        exact k e3 σ2 r3
      | true =>
        refine iteT ?_
        dsimp only at q2
        refine ⟨fun σ' H' => ∃ e5 Ω5 ρ5, e5.H = H' ∧ RelS X.K C e₀ e5 Ω5 σ' ρ5 ∧ whileD p s m ρ5 Ω5 = some o, fun σ' H' hN => ⟨m, Nat.lt_succ_self m, hN⟩, e₀, ?_⟩
        cases q4 : s ρ2 Ω3 with
        | none => rw [q4] at q2; cases q2
        | some o4 =>
          rw [q4] at q2
          refine ⟨e3, Ω3, ρ2, o4, rfl, r3, q4, ?_⟩
          cases o4 with
          | nx ρ5 Ω5 => exact fun e5 σ5 r5 => ⟨e5, Ω5, ρ5, rfl, r5, q2⟩
          | ct ρ5 Ω5 => exact fun e5 σ5 r5 => ⟨e5, Ω5, ρ5, rfl, r5, q2⟩
          | bk ρ5 Ω5 => cases q2; exact fun e5 σ5 r5 => k e5 σ5 r5
          | rt z Ω5 => cases q2; exact k
end
end DL
set_option Elab.async false
set_option linter.all false
set_option maxRecDepth 100000
set_option genSizeOf false
set_option bootstrap.genMatcherCode false
set_option genInjectivity true
namespace DL
open PySem PySem.Spec PyProof.Rows L2

/-! ### defs -/
noncomputable abbrev FDen := List D → List OS → Option (D × List OS)
noncomputable def spD (K : PySem.W.Frag) (C : Cl) (f : FDen) : Sp := fun vs H Q _ => ∃ e Ω ds d Ω', e.H = H ∧ Wf K C e Ω ∧ IsL K e.α e.F ds vs ∧ f ds Ω = some (d, Ω') ∧ ∀ v e', Ext e e' → Wf K C e' Ω' → Is K e'.α e'.F d v → Q v e'.H
/-- a def of n parameters and m names in all, by its body -/
noncomputable def runD (n m : Nat) (s : SDen) : FDen := fun ds Ω => if ds.length = n then match s (ds.map Sl.dat ++ List.replicate (m - n) Sl.und) Ω with
    | some (.rt d Ω') => some (d, Ω')
    | some (.nx _ Ω') => some (.non, Ω')
    | _ => none
  else none
theorem start_rel {K : PySem.W.Frag} {C : Cl} {e : E4} {Ω : List OS} {N : List Str} {ds : List D} {vs : List V} (w : Wf K C e Ω) (i : IsL K e.α e.F ds vs) : RelS K C e e Ω (L2.start N vs) (ds.map Sl.dat ++ List.replicate (N.length - ds.length) Sl.und) := by
  have noown : ∀ (j : Nat) (es : List D), (ds.map Sl.dat ++ List.replicate (N.length - ds.length) Sl.und)[j]? ≠ some (.own es) := fun j es h => by
    by_cases hj : j < ds.length
    · rw [List.getElem?_append_left (by simpa using hj), List.getElem?_map] at h
      cases q : ds[j]? with
      | none => rw [q] at h; cases h
      | some d => rw [q] at h; cases h
    · rw [List.getElem?_append_right (by simpa using hj), List.getElem?_replicate] at h
      split at h <;> cases h
  refine ⟨w, ⟨?_, fun j d h => ?_, fun j es h => absurd h (noown j es), fun j k es fs a h => absurd h (noown j es)⟩, Ext.refl e, fun j es a h => absurd h (noown j es)⟩
  · unfold L2.start
    simp [i.length]
  · by_cases hj : j < ds.length
    · rw [List.getElem?_append_left (by simpa using hj), List.getElem?_map] at h
      cases q : ds[j]? with
      | none => rw [q] at h; cases h
      | some d' =>
        rw [q] at h
        cases h
        obtain ⟨v, hv, iv⟩ := i.get q
        refine ⟨v, ?_, iv⟩
        unfold L2.start
        rw [List.getElem?_append_left (by simpa [← i.length] using hj), List.getElem?_map, hv]
        rfl
    · rw [List.getElem?_append_right (by simpa using hj), List.getElem?_replicate] at h
      split at h <;> cases h
theorem fn_D {P : Program} {w : World} {K : PySem.W.Frag} {mg : Str → Option Value} {base : Heap} {C : Cl} {x qual : Str} {st : Stmt} {f : Addr} {fd : FuncData} {N ps : List Str} {k n m : Nat} {s : SDen} (F : Fun K x qual st f fd) (S : FnScope N ps (defScope st)) (hn : ps.length = n) (hm : N.length = m)
    (hbody : ∀ (cdv : Value) (A : Around) (outer : List Env) (sh : Shared) (H : Hp) (E : XK), Room k (A.deeper (envOfC qual (defScope st) sh.heap.objs.size f cdv)) →
      PDB (cxOf CX0 P w K mg base N qual (defScope st) f cdv A outer sh H E).nox C (defBody st) s) : FnOk P w K mg base CX0 (k + 1) f fd ps (spD K C (runD n m s)) := by
  refine F.ok S (fun vs H Q E h => ?_) (fun cdv A outer sh H vs Q E hr h => ?_)
  · obtain ⟨e, Ω, ds, d, Ω', _, _, i, q, _⟩ := h
    unfold runD at q
    by_cases hl : ds.length = n
    · rw [← i.length, hl, hn]
    · rw [if_neg hl] at q; cases q
  · obtain ⟨e, Ω, ds, d, Ω', eH, wf, i, q, kk⟩ := h
    unfold runD at q
    by_cases hl : ds.length = n
    · rw [if_pos hl] at q
      cases q1 : s (ds.map Sl.dat ++ List.replicate (m - n) Sl.und) Ω with
      | none => rw [q1] at q; cases q
      | some o =>
        rw [q1] at q
        refine ⟨_, hbody cdv A outer sh H E hr e, e, Ω, _, o, eH, start_rel wf i, by rw [hl, hm]; exact q1, ?_⟩
        cases o with
        | rt d' Ω2 => cases q; exact fun e' v x' w' i' => kk v e' x' w' i'
        | nx ρ' Ω2 => cases q; exact fun e' σ' r' => kk .non e' r'.ext r'.wf (by rw [Is])
        | bk ρ' Ω2 => cases q
        | ct ρ' Ω2 => cases q
    · rw [if_neg hl] at q; cases q
noncomputable def gCall (f : FDen) (g : ADen) : Den := fun ρ Ω => match g ρ Ω with
  | some (ds, Ω1) => f ds Ω1
  | none => none
section
variable {X : Cx} {C : Cl} {k : Nat} {f : Addr} {fd : FuncData} {ps : List Str} {F : FDen} {n : Str} {p pos : Pos} {x : Expr} {es : List Expr} {ga : ADen}
theorem call_read {K : PySem.W.Frag} {σ : St} {H : Hp} {Q : VK} {E : XK} (hw : tD K C (gCall F ga) σ H Q) : tCall (spD K C F) [] E (tDA K C ga) σ H Q := by
  obtain ⟨e, Ω, ρ, d, Ω', eH, w, rl, q, kk⟩ := hw
  unfold gCall at q
  cases q1 : ga ρ Ω with
  | none => rw [q1] at q; cases q
  | some p1 =>
    obtain ⟨ds, Ω1⟩ := p1
    rw [q1] at q
    refine ⟨e, Ω, ρ, ds, Ω1, eH, w, rl, q1, fun vs e' x' w' i' => ?_⟩
    show spD K C F (vs ++ []) e'.H Q E
    rw [List.append_nil]
    exact ⟨e', Ω1, ds, d, Ω', rfl, w', i', q, fun v e'' x'' w'' i'' => kk v e'' (x'.trans x'') w'' i''⟩
theorem pd_call (G : FnOk X.prog X.w X.K X.mg X.base CX0 k f fd ps (spD X.K C F)) (hr : Room k X.A) (hg : Gl X n) (hm : X.mg n = some (.ref f)) (hk : PySem.W.keepIn X.K (.ref f) = true) (hb : Binds X.K fd ps [])
    (ha : PDA X C (x :: es) ga) (hdb : (n == ("__debug__" : Str)) = false := by decide) (he : starEach (x :: es) X.env = (false, eval x X.env) :: starEach es X.env := by rfl) (hpl : (backTo pos (starEach es X.env)).any (·.1) = false := by rfl) :
    PD X C (.Call (.Name n p) (x :: es) [] pos) (gCall F ga) :=
  pe_imp (pe_call G hr hg hm hk hb .nil pass0 ha hdb he hpl) fun _ _ _ hw => call_read hw
end

/-! ### comprehensions -/
noncomputable def PDTs (X : Cx) (C : Cl) (ifs : List Expr) (p : TDen) : Prop := PTs X ifs (tDT X.K C p)
noncomputable def gTrue : TDen := fun _ Ω => some (true, Ω)
theorem pdts_nil {X : Cx} {C : Cl} : PDTs X C [] gTrue := fun pins s σ H Q I hw' => by
  obtain ⟨e, Ω, ρ, b, Ω', eH, w, rl, q, k⟩ := hw'
  subst eH
  cases q
  exact pts_nil pins s σ _ Q I (k e (Ext.refl e) w)
noncomputable def compD (β : BDen) (p : TDen) (g : Den) : List D → List Sl → List OS → Option (List D × List OS)
  | [], _, Ω => some ([], Ω)
  | d :: ds, ρ, Ω => match β d ρ with
    | some ρ1 => match p ρ1 Ω with
      | some (true, Ω1) => match g ρ1 Ω1 with
        | some (y, Ω2) => match compD β p g ds ρ1 Ω2 with
          | some (ys, Ω3) => some (y :: ys, Ω3)
          | none => none
        | none => none
      | some (false, Ω1) => compD β p g ds ρ1 Ω1
      | none => none
    | none => none
noncomputable def innerD (μ : List (Option Nat)) (ρ : List Sl) : List Sl := μ.map fun o => match o with
  | none => Sl.und
  | some j => match ρ[j]? with
    | some (.dat d) => .dat d
    | _ => .und
noncomputable def gComp (μ : List (Option Nat)) (γ : ADen) (β : BDen) (p : TDen) (g : Den) : Den := fun ρ Ω => match γ ρ Ω with
  | some (ds, Ω1) => if ds.length ≤ big then match compD β p g ds (innerD μ ρ) Ω1 with
      | some (ys, Ω2) => some (.lst ys, Ω2)
      | none => none
    else none
  | none => none
section
variable {K : PySem.W.Frag} {C : Cl} {e : E4} {σ : St} {ρ : List Sl} {μ : List (Option Nat)}
theorem inner_dat {j : Nat} {d : D} (h : (innerD μ ρ)[j]? = some (.dat d)) : ∃ i, μ[j]? = some (some i) ∧ ρ[i]? = some (.dat d) := by
  unfold innerD at h
  rw [List.getElem?_map] at h
  cases q : μ[j]? with
  | none => rw [q] at h; cases h
  | some o =>
    rw [q] at h
    cases o with
    | none => cases h
    | some i =>
      cases q2 : ρ[i]? with
      | none => simp [q2] at h
      | some sl =>
        cases sl with
        | dat d' => simp [q2] at h; subst h; exact ⟨i, rfl, q2⟩
        | und => simp [q2] at h
        | own _ => simp [q2] at h
theorem inner_own {j : Nat} {ds : List D} : (innerD μ ρ)[j]? ≠ some (.own ds) := fun h => by
  unfold innerD at h
  rw [List.getElem?_map] at h
  cases q : μ[j]? with
  | none => rw [q] at h; cases h
  | some o =>
    rw [q] at h
    cases o with
    | none => cases h
    | some i =>
      cases q2 : ρ[i]? with
      | none => simp [q2] at h
      | some sl => cases sl <;> simp [q2] at h
theorem inner_rel (r : RelE K e σ ρ) : RelE K e (inner μ σ) (innerD μ ρ) := by
  refine ⟨by simp [inner, innerD], fun j d h => ?_, fun j ds h => absurd h inner_own, fun j k ds es a h => absurd h inner_own⟩
  obtain ⟨i, h1, h2⟩ := inner_dat h
  obtain ⟨v, e1, iv⟩ := r.dat i d h2
  refine ⟨v, ?_, iv⟩
  unfold inner
  rw [List.getElem?_map, h1]
  show some ((σ[i]?).join) = _
  rw [e1]
  rfl
end
section
variable {K : PySem.W.Frag} {C : Cl} {γ : ADen} {β : BDen} {p : TDen} {g : Den} {μ : List (Option Nat)}
theorem comp_read {σ : St} {H : Hp} {Q : VK} (hw : tD K C (gComp μ γ β p g) σ H Q) : tComp μ (tDI K C γ) (tDG K C β) (tDT K C p) (tD K C g) σ H Q := by
  obtain ⟨e, Ω, ρ, d, Ωf, eH, w, rl, q, kk⟩ := hw
  unfold gComp at q
  cases q1 : γ ρ Ω with
  | none => rw [q1] at q; cases q
  | some p1 =>
    obtain ⟨ds, Ω1⟩ := p1
    rw [q1] at q
    dsimp only at q
    split at q
    · rename_i hbig
      cases q2 : compD β p g ds (innerD μ ρ) Ω1 with
      | none => rw [q2] at q; cases q
      | some p2 =>
        obtain ⟨ysAll, Ω2⟩ := p2
        rw [q2] at q
        cases q
        refine ⟨e, Ω, ρ, ds, Ω1, eH, w, rl, q1, fun e' J x' w' wk a ha => ?_⟩
        refine ⟨fun i m σ' H' => m = ds.length - i ∧ i ≤ ds.length ∧ ∃ e2 Ω2 ρ2 vs ys0 ys1, e2.H = H' ∧ Wf K C e2 Ω2 ∧ RelE K e2 σ' ρ2 ∧ (∀ (j : Nat) (es : List D), ρ2[j]? ≠ some (.own es)) ∧ e2.H a = some (.lst vs) ∧ e2.F a = none ∧ ¬ e2.A a ∧ IsL K e2.α e2.F ys0 vs ∧ Ext e' e2 ∧
          compD β p g (ds.drop i) ρ2 Ω2 = some (ys1, Ωf) ∧ ys0 ++ ys1 = ysAll ∧ ys0.length ≤ i, ⟨ds.length, by simp, Nat.zero_le _, ⟨e'.α, e'.F, e'.A, upd e'.H a (.lst [])⟩, Ω1, innerD μ ρ, [], [], ysAll, rfl, ?_, ?_, fun j es => inner_own, upd_same, w'.nF ha, fun z => (w'.ah a z).1 ha, .nil, ?_, by simpa using q2, rfl, Nat.zero_le _⟩, ?_⟩
        · refine ⟨fun b u hb => ?_, w'.fa, fun b hb => ?_, w'.ol, w'.nd, fun n b u h1 h2 => ⟨(w'.ob n b u h1 h2).1, (w'.ob n b u h1 h2).2.keep (fun z hz => ?_) (Same.refl _) ⟨[], by simp⟩⟩⟩
          · show upd e'.H a _ b = some u
            rw [upd_ne (ne_of_none (w'.fh b u hb) ha)]; exact w'.fh b u hb
          · show upd e'.H a _ b ≠ none ∧ ∀ xs, upd e'.H a _ b ≠ some (.tup xs)
            rw [upd_ne (fun z => (w'.ah b hb).1 (by rw [z]; exact ha))]; exact w'.ah b hb
          · show upd e'.H a _ b = some z
            rw [upd_ne (ne_of_none hz ha)]; exact hz
        · have r1 := inner_rel (μ := μ) (rl.ext x')
          exact ⟨r1.len, r1.dat, fun j es h => absurd h inner_own, r1.sep⟩
        · refine ⟨fun b o' u hb => by show upd e'.H a _ b = some (.frz o' u); rw [upd_ne (ne_of_none hb ha)]; exact hb, fun b u hb _ => ?_, fun b u hb => ⟨u, ?_⟩, Same.refl _, fun b u hb => .inl hb, fun b hb => .inl hb, fun b hb => hb, [], by simp⟩
          · show upd e'.H a _ b = some u
            rw [upd_ne (ne_of_none hb ha)]; exact hb
          · show upd e'.H a _ b = some u
            rw [upd_ne (ne_of_none hb ha)]; exact hb
        · rintro i m σ2 H2 ⟨rfl, hil, e2, Ω2, ρ2, vs, ys0, ys1, rfl, w2, r2, no2, ha2, hF2, hA2, iy, x2, q3, ey, hy⟩
          obtain ⟨stop, go⟩ := wk i e2 x2.ff x2.al w2.fh
          by_cases hlt : i < ds.length
          · have hd : ds[i]? = some ds[i] := List.getElem?_eq_getElem hlt
            obtain ⟨g1, y1⟩ := go _ hd
            have edrop : ds.drop i = ds[i] :: ds.drop (i + 1) := List.drop_eq_getElem_cons hlt
            rw [edrop] at q3
            refine .inr ⟨g1, fun σ' H' => i + 1 ≤ ds.length ∧ ∃ e2 Ω2 ρ2 vs ys0 ys1, e2.H = H' ∧ Wf K C e2 Ω2 ∧ RelE K e2 σ' ρ2 ∧ (∀ (j : Nat) (es : List D), ρ2[j]? ≠ some (.own es)) ∧ e2.H a = some (.lst vs) ∧ e2.F a = none ∧ ¬ e2.A a ∧ IsL K e2.α e2.F ys0 vs ∧ Ext e' e2 ∧
              compD β p g (ds.drop (i + 1)) ρ2 Ω2 = some (ys1, Ωf) ∧ ys0 ++ ys1 = ysAll ∧ ys0.length ≤ i + 1, fun σ' H' hN => ⟨ds.length - (i + 1), by omega, rfl, hN⟩, fun x H' hyl => ?_⟩
            obtain ⟨e2', rfl, ix, up⟩ := y1 x H' hyl
            obtain ⟨xx, ww⟩ := up C Ω2 w2
            have hh' : e2'.H a = some (.lst vs) := xx.hk a _ ha2 hA2
            have hf' : e2'.F a = none := by
              cases z : e2'.F a with
              | none => rfl
              | some o =>
                rcases xx.fn a o z with y | y | ⟨⟨xs, rfl⟩, y, _⟩
                · rw [hF2] at y; cases y
                · rw [ha2] at y; cases y
                · rw [ha2] at y; cases y
            have ha' : ¬ e2'.A a := fun z => by
              rcases xx.an a z with y | y
              · exact hA2 y
              · rw [ha2] at y; cases y
            replace r2 := r2.ext xx
            replace iy := iy.ext xx
            replace x2 := x2.trans xx
            clear y1 g1 stop go w2 ha2 hF2 hA2
            revert r2 iy x2 ww hh' hf' ha' ix
            generalize e2' = e2
            intro ix w2 ha2 hF2 hA2 r2 iy x2
            unfold compD at q3
            cases q4 : β ds[i] ρ2 with
            | none => rw [q4] at q3; cases q3
            | some ρ3 =>
              rw [q4] at q3
              dsimp only at q3
              refine ⟨e2, Ω2, ρ2, _, ρ3, rfl, w2, r2, ix, q4, fun σ3 r3 o3 => ?_⟩
              have no3 : ∀ (j : Nat) (es : List D), ρ3[j]? ≠ some (.own es) := fun j es h => no2 j es (o3 j es h).1
              cases q5 : p ρ3 Ω2 with
              | none => rw [q5] at q3; cases q3
              | some p5 =>
                obtain ⟨b, Ω3⟩ := p5
                rw [q5] at q3
                refine ⟨e2, Ω2, ρ3, b, Ω3, rfl, w2, r3, q5, fun e3 x3 w3 => ?_⟩
                have keepA : ∀ {e3 : E4}, Ext e2 e3 → e3.H a = some (.lst vs) ∧ e3.F a = none ∧ ¬ e3.A a := fun {e3} x3 => by
                  refine ⟨x3.hk a _ ha2 hA2, ?_, fun z => ?_⟩
                  · cases z : e3.F a with
                    | none => rfl
                    | some o =>
                      rcases x3.fn a o z with y | y | ⟨⟨xs, rfl⟩, y, _⟩
                      · rw [hF2] at y; cases y
                      · rw [ha2] at y; cases y
                      · rw [ha2] at y; cases y
                  · rcases x3.an a z with y | y
                    · exact hA2 y
                    · rw [ha2] at y; cases y
                cases b with
                | false =>
                  refine iteF ?_
                  obtain ⟨z1, z2, z3⟩ := keepA x3
                  exact ⟨hlt, e3, Ω3, ρ3, vs, ys0, ys1, rfl, w3, r3.ext x3, no3, z1, z2, z3, iy.ext x3, x2.trans x3, q3, ey, Nat.le_succ_of_le hy⟩
                | true =>
                  refine iteT ?_
                  dsimp only at q3
                  cases q6 : g ρ3 Ω3 with
                  | none => rw [q6] at q3; cases q3
                  | some p6 =>
                    obtain ⟨y, Ω4⟩ := p6
                    rw [q6] at q3
                    dsimp only at q3
                    cases q7 : compD β p g (ds.drop (i + 1)) ρ3 Ω4 with
                    | none => rw [q7] at q3; cases q3
                    | some p7 =>
                      obtain ⟨ys2, Ω5⟩ := p7
                      rw [q7] at q3
                      cases q3
                      refine ⟨e3, Ω3, ρ3, y, Ω4, rfl, w3, r3.ext x3, q6, fun v e4 x4 w4 i4 => ?_⟩
                      obtain ⟨z1, z2, z3⟩ := keepA (x3.trans x4)
                      have x24 := x3.trans x4
                      refine ⟨vs, z1, by rw [← iy.length]; exact big_lt (by omega), hlt, ⟨e4.α, e4.F, e4.A, upd e4.H a (.lst (vs ++ [v]))⟩, Ω4, ρ3, _, ys0 ++ [y], ys2, rfl, ⟨fun b u hb => ?_, w4.fa, fun b hb => ?_, w4.ol, w4.nd, fun n b u h1 h2 => ⟨(w4.ob n b u h1 h2).1, (w4.ob n b u h1 h2).2.keep (fun z hz => ?_) (Same.refl _) ⟨[], by simp⟩⟩⟩,
                        ⟨((r3.ext x3).ext x4).len, ((r3.ext x3).ext x4).dat, fun j es h => absurd h (no3 j es), ((r3.ext x3).ext x4).sep⟩, no3, upd_same, z2, z3, (iy.ext x24).append (.cons i4 .nil), ⟨fun b o' u hb => by show upd e4.H a _ b = some (.frz o' u); rw [upd_ne (ne_of_none hb ha)]; exact (x2.trans x24).fz b o' u hb, fun b u hb hn => ?_, fun b u hb => ?_, (x2.trans x24).ff, (x2.trans x24).fn, (x2.trans x24).an, (x2.trans x24).aa, (x2.trans x24).al⟩, q7, by rw [← ey]; simp, by simp; omega⟩
                      · show upd e4.H a _ b = some u
                        rw [upd_ne (fun z => by subst z; rw [z2] at hb; cases hb)]; exact w4.fh b u hb
                      · show upd e4.H a _ b ≠ none ∧ ∀ xs, upd e4.H a _ b ≠ some (.tup xs)
                        rw [upd_ne (fun z => z3 (by rw [← z]; exact hb))]; exact w4.ah b hb
                      · show upd e4.H a _ b = some z
                        rw [upd_ne (fun y => z3 (by rw [← y]; exact (w4.ob n b u h1 h2).1))]; exact hz
                      · show upd e4.H a _ b = some u
                        rw [upd_ne (ne_of_none hb ha)]; exact (x2.trans x24).hk b u hb hn
                      · obtain ⟨u', z⟩ := (x2.trans x24).dm b u hb
                        exact ⟨u', by show upd e4.H a _ b = some u'; rw [upd_ne (ne_of_none hb ha)]; exact z⟩
          · have ei : i = ds.length := by omega
            subst ei
            rw [List.drop_length] at q3
            cases q3
            rw [List.append_nil] at ey
            subst ey
            refine .inl ⟨stop rfl, ?_⟩
            have ff : Same e2.F (upd e2.F a (.lst vs)) := fun b o hb => by rw [upd_ne (ne_of_none hb hF2)]; exact hb
            refine kk (.ref a) ⟨e2.α, upd e2.F a (.lst vs), e2.A, e2.H⟩ ⟨(x'.trans x2).fz, (x'.trans x2).hk, (x'.trans x2).dm, (x'.trans x2).ff.trans ff, fun b u hb => ?_, (x'.trans x2).an, (x'.trans x2).aa, (x'.trans x2).al⟩ ⟨fun b u hb => ?_, fun b hb => ?_, w2.ah, w2.ol, w2.nd, fun n b u h1 h2 => ⟨(w2.ob n b u h1 h2).1, (w2.ob n b u h1 h2).2.keep (fun z hz => hz) ff ⟨[], by simp⟩⟩⟩ ?_
            · have hb : upd e2.F a (.lst vs) b = some u := hb
              by_cases hba : b = a
              · subst hba; exact .inr (.inl (x'.back ha))
              · rw [upd_ne hba] at hb; exact (x'.trans x2).fn b u hb
            · have hb : upd e2.F a (.lst vs) b = some u := hb
              by_cases hba : b = a
              · subst hba; rw [upd_same] at hb; cases hb; exact ha2
              · rw [upd_ne hba] at hb; exact w2.fh b u hb
            · show upd e2.F a _ b = none
              rw [upd_ne (fun z => hA2 (by rw [← z]; exact hb))]; exact w2.fa b hb
            · rw [Is]
              exact ⟨a, vs, rfl, upd_same, IsL.mono ff ⟨[], by simp⟩ _ iy⟩
    · cases q
end
section
variable {X : Cx} {C : Cl} {tg iter elt : Expr} {ifs : List Expr} {scope : Scope} {pos : Pos} {N : List Str} {μ : List (Option Nat)} {γ : ADen} {β : BDen} {p : TDen} {g : Den}
theorem pd_comp (hc : X.calm = true) (hcell : ∀ y ∈ scope.names, y.2 ≠ .cell) (hkind : scope.kind = .function) (hnames : ∀ y ∈ scope.names, y.2 = .local → scope.names.lookup y.1 = some .local)
    (hfree : ∀ y ∈ scope.names, y.2 = .free → X.env.kindOf y.1 = some .cell ∨ X.env.kindOf y.1 = some .free)
    (hhas : ∀ x, ((relabel scope X.env).names.lookup x = some .cell ∨ (relabel scope X.env).names.lookup x = some .free) → (x, NameKind.free) ∈ scope.names)
    (hμ : muOk X.N X.env.scope N (relabel scope X.env) μ = true) (hi : PDI X C tg iter γ)
    (hg : ∀ fp A s H, PDG (cxComp X N scope (clos X.env.cells scope.names []) A fp s H) C tg β) (ht : ∀ fp A s H, PDTs (cxComp X N scope (clos X.env.cells scope.names []) A fp s H) C ifs p) (he : ∀ fp A s H, PD (cxComp X N scope (clos X.env.cells scope.names []) A fp s H) C elt g)
    (hs : ∀ x, foldedSetIterable iter X.env x = pure x := by intro _; rfl) : PD X C (.ListComp elt [⟨tg, iter, ifs, 0⟩] scope pos) (gComp μ γ β p g) :=
  pe_imp (pe_comp (g := tDG X.K C β) (tt := tDT X.K C p) (te := tD X.K C g) hc hcell hkind hnames hfree hhas hμ hi hg ht he hs) fun _ _ _ hw => comp_read hw
theorem pds_comp {i : Nat} {y : Str} {py spos : Pos} (hN : X.N.Nodup) (hiN : X.N[i]? = some y) (hx : Loc X.env.scope y) (hc : X.calm = true) (hcell : ∀ y ∈ scope.names, y.2 ≠ .cell) (hkind : scope.kind = .function) (hnames : ∀ y ∈ scope.names, y.2 = .local → scope.names.lookup y.1 = some .local)
    (hfree : ∀ y ∈ scope.names, y.2 = .free → X.env.kindOf y.1 = some .cell ∨ X.env.kindOf y.1 = some .free)
    (hhas : ∀ x, ((relabel scope X.env).names.lookup x = some .cell ∨ (relabel scope X.env).names.lookup x = some .free) → (x, NameKind.free) ∈ scope.names)
    (hμ : muOk X.N X.env.scope N (relabel scope X.env) μ = true) (hi : PDI X C tg iter γ)
    (hg : ∀ fp A s H, PDG (cxComp X N scope (clos X.env.cells scope.names []) A fp s H) C tg β) (ht : ∀ fp A s H, PDTs (cxComp X N scope (clos X.env.cells scope.names []) A fp s H) C ifs p) (he : ∀ fp A s H, PD (cxComp X N scope (clos X.env.cells scope.names []) A fp s H) C elt g)
    (hsw : swapsWith (.ListComp elt [⟨tg, iter, ifs, 0⟩] scope pos) (some (.Name y py)) spos.line X.env = pure true := by rfl)
    (hf : X.fn y = true ∨ X.env.scope.names.lookup y = some .local := by first | exact .inl rfl | exact .inr rfl | assumption)
    (hs : ∀ x, foldedSetIterable iter X.env x = pure x := by intro _; rfl) : PDS X C (.Assign [.Name y py] (.ListComp elt [⟨tg, iter, ifs, 0⟩] scope pos) spos) (sSet i (gComp μ γ β p g)) := fun e₀ =>
  ps_imp (ps_comp (g := tDG X.K C β) (tt := tDT X.K C p) (te := tD X.K C g) hN hiN hx hc hcell hkind hnames hfree hhas hμ hi hg ht he hsw hf hs) fun Dn σ H hw => by
    obtain ⟨e, Ω, ρ, o, eH, r, q, k⟩ := hw
    have h2 : tAsg (tD X.K C (gComp μ γ β p g)) (gName i) Dn σ H := set_read ⟨e, Ω, ρ, o, eH, r, q, k⟩
    exact comp_read h2
end
end DL
set_option Elab.async false
set_option linter.all false
set_option maxRecDepth 100000
set_option genSizeOf false
set_option bootstrap.genMatcherCode false
set_option genInjectivity true
namespace DL
open PySem PySem.Spec PyProof.Rows L2

/-! ### a def of the text, as its callers need it -/
structure Fn (P : Program) (w : World) (K : PySem.W.Frag) (mg : Str → Option Value) (base : Heap) (C : Cl) (k : Nat) (n : Str) (F : FDen) : Prop where
  ex : ∃ f fd ps, mg n = some (.ref f) ∧ PySem.W.keepIn K (.ref f) = true ∧ Binds K fd ps [] ∧ FnOk P w K mg base CX0 k f fd ps (spD K C F)
/-- the def st stands at the top under its name -/
structure TF (K : PySem.W.Frag) (mg : Str → Option Value) (n : Str) (st : Stmt) : Prop where
  ex : ∃ f fd, mg n = some (.ref f) ∧ Fun K n n st f fd
theorem fn_F {P : Program} {w : World} {K : PySem.W.Frag} {mg : Str → Option Value} {base : Heap} {C : Cl} {x : Str} {st : Stmt} {N ps : List Str} {k n m : Nat} {s : SDen} (T : TF K mg x st) (S : FnScope N ps (defScope st)) (hn : ps.length = n) (hm : N.length = m)
    (hb : ∀ (kV doc pm : Value) (an : Option Addr) (cdv ct : Value) (us : List Value), us.length = ps.length → bindArgs (PySem.W.fnOf x x (defArgs st) (defBody st) (defScope st) .none kV doc pm an cdv ct) ⟨us, []⟩ = pure (ps.zip us))
    (hbody : ∀ (f : Addr) (cdv : Value) (A : Around) (outer : List Env) (sh : Shared) (H : Hp) (E : XK), Room k (A.deeper (envOfC x (defScope st) sh.heap.objs.size f cdv)) →
      PDB (cxOf CX0 P w K mg base N x (defScope st) f cdv A outer sh H E).nox C (defBody st) s) : Fn P w K mg base C (k + 1) x (runD n m s) := by
  obtain ⟨f, fd, hm', F⟩ := T.ex
  exact ⟨f, fd, ps, hm', F.kp, F.binds hb, fn_D F S hn hm (hbody f)⟩
section
variable {X : Cx} {C : Cl} {k : Nat} {F : FDen} {n : Str} {p pos : Pos} {x : Expr} {es : List Expr} {ga : ADen}
theorem pd_callF (G : Fn X.prog X.w X.K X.mg X.base C k n F) (hr : Room k X.A) (hg : Gl X n)
    (ha : PDA X C (x :: es) ga) (hdb : (n == ("__debug__" : Str)) = false := by decide) (he : starEach (x :: es) X.env = (false, eval x X.env) :: starEach es X.env := by rfl) (hpl : (backTo pos (starEach es X.env)).any (·.1) = false := by rfl) :
    PD X C (.Call (.Name n p) (x :: es) [] pos) (gCall F ga) := by
  obtain ⟨f, fd, ps, hm, hk, hb, ok⟩ := G.ex
  exact pd_call ok hr hg hm hk hb ha hdb he hpl
end
/-! ### comprehensions: one look -/
noncomputable def relabelS (scope osc : Scope) : Scope :=
  { scope with names := scope.names.map fun (n, k) => if (k == .free && osc.kind == .function && osc.names.lookup n == some .cell) then (n, .cell) else (n, k) }
noncomputable def compOk (oN : List Str) (osc : Scope) (N : List Str) (scope : Scope) (μ : List (Option Nat)) : Bool :=
  scope.names.all (fun y => decide (y.2 ≠ .cell)) && decide (scope.kind = .function) && scope.names.all (fun y => !decide (y.2 = .local) || decide (scope.names.lookup y.1 = some .local)) &&
    scope.names.all (fun y => !decide (y.2 = .free) || decide (osc.names.lookup y.1 = some .cell)) &&
    (relabelS scope osc).names.all (fun y => !(decide (y.2 = .cell) || decide (y.2 = .free)) || decide ((y.1, NameKind.free) ∈ scope.names)) && muOk oN osc N (relabelS scope osc) μ
structure CompOk (X : Cx) (N : List Str) (scope : Scope) (μ : List (Option Nat)) : Prop where
  cell : ∀ y ∈ scope.names, y.2 ≠ .cell
  kind : scope.kind = .function
  names : ∀ y ∈ scope.names, y.2 = .local → scope.names.lookup y.1 = some .local
  free : ∀ y ∈ scope.names, y.2 = .free → X.env.kindOf y.1 = some .cell ∨ X.env.kindOf y.1 = some .free
  has : ∀ x, ((relabel scope X.env).names.lookup x = some .cell ∨ (relabel scope X.env).names.lookup x = some .free) → (x, NameKind.free) ∈ scope.names
  mu : muOk X.N X.env.scope N (relabel scope X.env) μ = true
theorem compOk_of {X : Cx} {oN : List Str} {osc : Scope} {N : List Str} {scope : Scope} {μ : List (Option Nat)} (hN : X.N = oN) (hs : X.env.scope = osc) (h : compOk oN osc N scope μ = true) : CompOk X N scope μ := by
  subst hN hs
  unfold compOk at h
  simp only [Bool.and_eq_true] at h
  obtain ⟨⟨⟨⟨⟨h1, h2⟩, h3⟩, h4⟩, h5⟩, h6⟩ := h
  refine ⟨fun y hy => of_decide_eq_true (List.all_eq_true.mp h1 y hy), of_decide_eq_true h2, fun y hy e => ?_, fun y hy e => .inl ?_, fun x hx => ?_, h6⟩
  · have := List.all_eq_true.mp h3 y hy
    simp only [Bool.or_eq_true, Bool.not_eq_true', decide_eq_false_iff_not, decide_eq_true_eq] at this
    exact this.resolve_left fun z => z e
  · have := List.all_eq_true.mp h4 y hy
    simp only [Bool.or_eq_true, Bool.not_eq_true', decide_eq_false_iff_not, decide_eq_true_eq] at this
    exact this.resolve_left fun z => z e
  · have hx : (relabelS scope X.env.scope).names.lookup x = some .cell ∨ (relabelS scope X.env.scope).names.lookup x = some .free := hx
    have q : ∀ k : NameKind, (k = .cell ∨ k = .free) → (relabelS scope X.env.scope).names.lookup x = some k → (x, NameKind.free) ∈ scope.names := fun k hk hl => by
      have := List.all_eq_true.mp h5 (x, k) (PySem.mem_of_lookup hl)
      simp only [Bool.or_eq_true, Bool.not_eq_true', Bool.or_eq_false_iff, decide_eq_false_iff_not, decide_eq_true_eq] at this
      rcases this with ⟨a, b⟩ | c
      · exact (hk.elim a b).elim
      · exact c
    rcases hx with hx | hx
    · exact q _ (.inl rfl) hx
    · exact q _ (.inr rfl) hx
section
variable {X : Cx} {C : Cl} {tg iter elt : Expr} {ifs : List Expr} {scope : Scope} {pos : Pos} {N : List Str} {μ : List (Option Nat)} {γ : ADen} {β : BDen} {p : TDen} {g : Den}
theorem pd_compN (hc : X.calm = true) (ok : CompOk X N scope μ) (hi : PDI X C tg iter γ)
    (hg : ∀ fp A s H, PDG (cxComp X N scope (clos X.env.cells scope.names []) A fp s H) C tg β) (ht : ∀ fp A s H, PDTs (cxComp X N scope (clos X.env.cells scope.names []) A fp s H) C ifs p) (he : ∀ fp A s H, PD (cxComp X N scope (clos X.env.cells scope.names []) A fp s H) C elt g)
    (hs : ∀ x, foldedSetIterable iter X.env x = pure x := by intro _; rfl) : PD X C (.ListComp elt [⟨tg, iter, ifs, 0⟩] scope pos) (gComp μ γ β p g) :=
  pd_comp hc ok.cell ok.kind ok.names ok.free ok.has ok.mu hi hg ht he hs
theorem pds_compN {i : Nat} {y : Str} {py spos : Pos} (hN : X.N.Nodup) (hiN : X.N[i]? = some y) (hx : Loc X.env.scope y) (hc : X.calm = true) (ok : CompOk X N scope μ) (hi : PDI X C tg iter γ)
    (hg : ∀ fp A s H, PDG (cxComp X N scope (clos X.env.cells scope.names []) A fp s H) C tg β) (ht : ∀ fp A s H, PDTs (cxComp X N scope (clos X.env.cells scope.names []) A fp s H) C ifs p) (he : ∀ fp A s H, PD (cxComp X N scope (clos X.env.cells scope.names []) A fp s H) C elt g)
    (hsw : swapsWith (.ListComp elt [⟨tg, iter, ifs, 0⟩] scope pos) (some (.Name y py)) spos.line X.env = pure true := by rfl)
    (hf : X.fn y = true ∨ X.env.scope.names.lookup y = some .local := by first | exact .inl rfl | exact .inr rfl | assumption)
    (hs : ∀ x, foldedSetIterable iter X.env x = pure x := by intro _; rfl) : PDS X C (.Assign [.Name y py] (.ListComp elt [⟨tg, iter, ifs, 0⟩] scope pos) spos) (sSet i (gComp μ γ β p g)) :=
  pds_comp hN hiN hx hc ok.cell ok.kind ok.names ok.free ok.has ok.mu hi hg ht he hsw hf hs
end
/-! ### more of one's own lists; -x -/
section
variable {X : Cx} {C : Cl} {x b : Expr} {g : Den} {pos : Pos}
theorem pds_app {i : Nat} {n : Str} {p ap cp : Pos} (hv : PE X (.Name n p) (tVar i)) (he : PD X C x g)
    (hbase : attributeBase (.Name n p) "append" X.env (eval (.Name n p) X.env) = eval (.Name n p) X.env := by rfl)
    (hline : (ap.endLine == cp.line) = true := by rfl) (hs1 : starEach [x] X.env = (false, eval x X.env) :: starEach [] X.env := by rfl)
    (hfew : ((backTo cp (starEach [x] X.env)).all (fun x => !x.1) && (backToKw cp (keywordEach [] X.env)).all (fun x => x.1.isSome)
      && decide ([x].length + ([] : List Keyword).length + (if ([] : List Keyword).isEmpty then 0 else 1) < 30)) = true := by rfl)
    (hpl : (backTo cp (starEach [] X.env)).any (·.1) = false := by rfl)
    (hs : swapsWith (.Call (.Attribute (.Name n p) "append" ap) [x] [] cp) none pos.line X.env = pure false := by rfl) :
    PDS X C (.Expr (.Call (.Attribute (.Name n p) "append" ap) [x] [] cp) pos) (sApp i g) := fun e₀ =>
  ps_imp (ps_expr (pe_bm PySem.F.plainAttrs_list PySem.F.slot_list_append PySem.F.type_list_append mt_append hv (pa_cons he pa_nil hs1) hbase hfew hline hs1 hpl) hs) fun Dn σ H hw => app_read hw
noncomputable def gNeg (g : Den) : Den := fun ρ Ω => match g ρ Ω with
  | some (.int i, Ω') => some (.int (-i), Ω')
  | _ => none
theorem pd_neg (h : PD X C x g) : PD X C (.UnaryOp .USub x pos) (gNeg g) := pe_imp (pe_un un_neg h) fun σ H Q hw' => by
  obtain ⟨e, Ω, ρ, d, Ω', eH, w, rl, q, kk⟩ := hw'
  unfold gNeg at q
  cases q1 : g ρ Ω with
  | none => rw [q1] at q; cases q
  | some p1 =>
    obtain ⟨d1, Ω1⟩ := p1
    rw [q1] at q
    refine ⟨e, Ω, ρ, d1, Ω1, eH, w, rl, q1, fun v e' x' w' i' => ?_⟩
    cases d1 with
    | int i =>
      rw [Is] at i'
      cases q
      exact ⟨i, i', kk _ e' x' w' (by rw [Is])⟩
    | _ => cases q
end
noncomputable abbrev C0 : Cl := fun _ => none
end DL
set_option Elab.async false
set_option linter.all false
set_option maxRecDepth 100000
set_option genSizeOf false
set_option bootstrap.genMatcherCode false
set_option genInjectivity true
/-! what each word is worth at a place -/
namespace DL
open PySem
section
variable (ρ : List Sl) (Ω : List OS)
@[simp] theorem ap_var (i : Nat) : gVar i ρ Ω = match ρ[i]? with | some (.dat d) => some (d, Ω) | _ => none := (rfl)
@[simp] theorem ap_c (d : D) : gC d ρ Ω = some (d, Ω) := (rfl)
@[simp] theorem ap_op (r : D → D → Option D) (f g : Den) : gOp r f g ρ Ω = match f ρ Ω with
  | some (x, Ω₁) => (match g ρ Ω₁ with
    | some (y, Ω₂) => (match r x y with
      | some z => some (z, Ω₂)
      | none => none)
    | none => none)
  | none => none := (rfl)
@[simp] theorem ap_T (g : Den) : gT g ρ Ω = match g ρ Ω with | some (.bl b, Ω') => some (b, Ω') | _ => none := (rfl)
@[simp] theorem ap_andT (p q : TDen) : gAndT p q ρ Ω = match p ρ Ω with | some (true, Ω') => q ρ Ω' | some (false, Ω') => some (false, Ω') | none => none := (rfl)
@[simp] theorem ap_orT (p q : TDen) : gOrT p q ρ Ω = match p ρ Ω with | some (true, Ω') => some (true, Ω') | some (false, Ω') => q ρ Ω' | none => none := (rfl)
@[simp] theorem ap_notT (p : TDen) : gNotT p ρ Ω = match p ρ Ω with | some (k, Ω') => some (!k, Ω') | none => none := (rfl)
@[simp] theorem ap_andV (f g : Den) : gAndV f g ρ Ω = match f ρ Ω with | some (.bl true, Ω') => g ρ Ω' | some (.bl false, Ω') => some (.bl false, Ω') | _ => none := (rfl)
@[simp] theorem ap_orV (f g : Den) : gOrV f g ρ Ω = match f ρ Ω with | some (.bl true, Ω') => some (.bl true, Ω') | some (.bl false, Ω') => g ρ Ω' | _ => none := (rfl)
@[simp] theorem ap_nil : gNil ρ Ω = some ([], Ω) := (rfl)
@[simp] theorem ap_cons (f : Den) (g : ADen) : gCons f g ρ Ω = match f ρ Ω with
  | some (d, Ω1) => (match g ρ Ω1 with | some (ds, Ω2) => some (d :: ds, Ω2) | none => none)
  | none => none := (rfl)
@[simp] theorem ap_tup (g : ADen) : gTup g ρ Ω = match g ρ Ω with | some (ds, Ω') => (if ds.length ≤ 100000 then some (.tup ds, Ω') else none) | none => none := (rfl)
@[simp] theorem ap_lst (g : ADen) : gLst g ρ Ω = match g ρ Ω with | some (ds, Ω') => (if ds.length ≤ 100000 then some (.lst ds, Ω') else none) | none => none := (rfl)
@[simp] theorem ap_CB (r : List D → Option D) (g : ADen) : gCB r g ρ Ω = match g ρ Ω with | some (ds, Ω1) => (match r ds with | some z => some (z, Ω1) | none => none) | none => none := (rfl)
@[simp] theorem ap_neg (g : Den) : gNeg g ρ Ω = match g ρ Ω with | some (.int i, Ω') => some (.int (-i), Ω') | _ => none := (rfl)
@[simp] theorem ap_call (f : FDen) (g : ADen) : gCall f g ρ Ω = match g ρ Ω with | some (ds, Ω1) => f ds Ω1 | none => none := (rfl)
@[simp] theorem ap_seq (g : Den) : gSeq g ρ Ω = match g ρ Ω with | some (d, Ω') => (match seqD d with | some ds => some (ds, Ω') | none => none) | none => none := (rfl)
@[simp] theorem ap_rng (r : List D → Option (List D)) (g : ADen) : gRng r g ρ Ω = match g ρ Ω with | some (ds, Ω') => (match r ds with | some es => some (es, Ω') | none => none) | none => none := (rfl)
@[simp] theorem ap_comp (μ : List (Option Nat)) (γ : ADen) (β : BDen) (p : TDen) (g : Den) : gComp μ γ β p g ρ Ω = match γ ρ Ω with
  | some (ds, Ω1) => (if ds.length ≤ 100000 then (match compD β p g ds (innerD μ ρ) Ω1 with | some (ys, Ω2) => some (.lst ys, Ω2) | none => none) else none)
  | none => none := (rfl)
@[simp] theorem ap_true : gTrue ρ Ω = some (true, Ω) := (rfl)
@[simp] theorem ap_next : sNext ρ Ω = some (.nx ρ Ω) := (rfl)
@[simp] theorem ap_sSeq (s t : SDen) : sSeq s t ρ Ω = match s ρ Ω with | some (.nx ρ' Ω') => t ρ' Ω' | r => r := (rfl)
@[simp] theorem ap_ghost (γ : List Sl → Option (List Sl)) (s : SDen) : sGhost γ s ρ Ω = match γ ρ with | some ρ' => s ρ' Ω | none => none := (rfl)
@[simp] theorem ap_set (i : Nat) (g : Den) : sSet i g ρ Ω = match g ρ Ω with | some (d, Ω') => some (.nx (ρ.set i (.dat d)) Ω') | none => none := (rfl)
@[simp] theorem ap_ret (g : Den) : sRet g ρ Ω = match g ρ Ω with | some (d, Ω') => some (.rt d Ω') | none => none := (rfl)
@[simp] theorem ap_sIf (p : TDen) (s t : SDen) : sIf p s t ρ Ω = match p ρ Ω with | some (true, Ω') => s ρ Ω' | some (false, Ω') => t ρ Ω' | none => none := (rfl)
@[simp] theorem ap_own (i : Nat) (g : ADen) : sOwn i g ρ Ω = match g ρ Ω with | some (ds, Ω') => (if ds.length ≤ 100000 then some (.nx (ρ.set i (.own ds)) Ω') else none) | none => none := (rfl)
@[simp] theorem ap_app (i : Nat) (g : Den) : sApp i g ρ Ω = match g ρ Ω with
  | some (d, Ω') => (match ρ[i]? with | some (.own ds) => (if ds.length < 100000 then some (.nx (ρ.set i (.own (ds ++ [d]))) Ω') else none) | _ => none)
  | none => none := (rfl)
@[simp] theorem ap_asg (β : BDen) (g : Den) : sAsg β g ρ Ω = match g ρ Ω with | some (d, Ω') => (match β d ρ with | some ρ' => some (.nx ρ' Ω') | none => none) | none => none := (rfl)
@[simp] theorem ap_for (γ : ADen) (β : BDen) (s : SDen) : sFor γ β s ρ Ω = match γ ρ Ω with | some (ds, Ω') => forD β s ds ρ Ω' | none => none := (rfl)
@[simp] theorem ap_bName (i : Nat) (d : D) : bName i d ρ = some (ρ.set i (.dat d)) := (rfl)
@[simp] theorem ap_bTup (is : List Nat) (ds : List D) : bTup is (.tup ds) ρ = bNames is ds ρ := (rfl)
@[simp] theorem for_nil (β : BDen) (s : SDen) : forD β s [] ρ Ω = some (.nx ρ Ω) := (rfl)
theorem for_cons (β : BDen) (s : SDen) (d : D) (ds : List D) : forD β s (d :: ds) ρ Ω = match β d ρ with
    | some ρ1 => (match s ρ1 Ω with
      | some (.nx ρ' Ω') => forD β s ds ρ' Ω'
      | some (.ct ρ' Ω') => forD β s ds ρ' Ω'
      | some (.bk ρ' Ω') => some (.nx ρ' Ω')
      | some (.rt z Ω') => some (.rt z Ω')
      | none => none)
    | none => none := (rfl)
theorem comp_cons (β : BDen) (p : TDen) (g : Den) (d : D) (ds : List D) : compD β p g (d :: ds) ρ Ω = match β d ρ with
    | some ρ1 => (match p ρ1 Ω with
      | some (true, Ω1) => (match g ρ1 Ω1 with
        | some (y, Ω2) => (match compD β p g ds ρ1 Ω2 with
          | some (ys, Ω3) => some (y :: ys, Ω3)
          | none => none)
        | none => none)
      | some (false, Ω1) => compD β p g ds ρ1 Ω1
      | none => none)
    | none => none := (rfl)
theorem ap_run (n m : Nat) (s : SDen) (ds : List D) : runD n m s ds Ω = if ds.length = n then (match s (ds.map Sl.dat ++ List.replicate (m - n) Sl.und) Ω with
    | some (.rt d Ω') => some (d, Ω')
    | some (.nx _ Ω') => some (.non, Ω')
    | _ => none)
  else none := (rfl)
@[simp] theorem ap_dI (c : Int → Int → Bool) (f : Int → Int → Int) (i j : Int) : dI c f (.int i) (.int j) = if c i j = true then some (.int (f i j)) else none := (rfl)
@[simp] theorem ap_dB (f : Int → Int → Bool) (i j : Int) : dB f (.int i) (.int j) = some (.bl (f i j)) := (rfl)
@[simp] theorem add_int (i j : Int) : addD (.int i) (.int j) = some (.int (i + j)) := (rfl)
@[simp] theorem ix_lst (xs : List D) (i : Int) : ixD (.lst xs) (.int i) = L2.atI xs i := (rfl)
@[simp] theorem ix_tup (xs : List D) (i : Int) : ixD (.tup xs) (.int i) = L2.atI xs i := (rfl)
@[simp] theorem len_lst (xs : List D) : lenD [.lst xs] = some (.int xs.length) := (rfl)
@[simp] theorem max_2 (i j : Int) : max2D [.int i, .int j] = some (.int (if j > i then j else i)) := (rfl)
@[simp] theorem min_2 (i j : Int) : min2D [.int i, .int j] = some (.int (if j < i then j else i)) := (rfl)
@[simp] theorem seq_lst (xs : List D) : seqD (.lst xs) = some xs := (rfl)
@[simp] theorem seq_scr (ns : List Int) : seqD (.scr ns) = some (ns.map D.int) := (rfl)
theorem rng_1 {j : Int} (h0 : -1000000 ≤ j) (h : j ≤ 1000000) : rng1 [.int j] = some (upD 0 j.toNat) := grd_pos (by omega)
theorem rng_2 {i j : Int} (h0 : -1000000 ≤ i) (h : i ≤ 1000000) (h1 : -1000000 ≤ j) (h2 : j ≤ 1000000) : rng2 [.int i, .int j] = some (upD i (j - i).toNat) := grd_pos (by omega)
theorem mul_i {i j : Int} (h : (-1000000000000000000 < i ∧ i < 1000000000000000000) ∨ (-1000000000000000000 < j ∧ j < 1000000000000000000)) : mulD (.int i) (.int j) = some (.int (i * j)) := grd_pos (by omega)
end
theorem run_rt {n m : Nat} {s : SDen} {ds : List D} {Ω Ω' : List OS} {d : D} (hl : ds.length = n) (h : s (ds.map Sl.dat ++ List.replicate (m - n) Sl.und) Ω = some (.rt d Ω')) : runD n m s ds Ω = some (d, Ω') := by
  rw [ap_run, if_pos hl, h]
theorem seq_nx {s t : SDen} {ρ ρ' : List Sl} {Ω Ω' : List OS} (h : s ρ Ω = some (.nx ρ' Ω')) : sSeq s t ρ Ω = t ρ' Ω' := by rw [ap_sSeq, h]
theorem seq_rt {s t : SDen} {ρ : List Sl} {Ω Ω' : List OS} {d : D} (h : s ρ Ω = some (.rt d Ω')) : sSeq s t ρ Ω = some (.rt d Ω') := by rw [ap_sSeq, h]
@[simp] theorem upD_length (lo : Int) (n : Nat) : (upD lo n).length = n := by simp [upD]
/-! places -/
theorem atI_nat' {β : Type} (xs : List β) (i : Nat) (h : i < xs.length) : L2.atI xs (i : Int) = some xs[i] := L2.atI_nat (List.getElem?_eq_getElem h)
theorem atI_of {β : Type} {xs : List β} {i : Int} (h0 : 0 ≤ i) (h : i.toNat < xs.length) : L2.atI xs i = some xs[i.toNat] := by
  have e : i = (i.toNat : Int) := by omega
  have q := atI_nat' xs i.toNat h
  rw [← e] at q
  exact q
theorem atI_map {β γ : Type} (f : β → γ) (xs : List β) (i : Int) : L2.atI (xs.map f) i = (L2.atI xs i).map f := by
  unfold L2.atI
  rw [List.length_map]
  cases L2.ixN xs.length i with
  | none => rfl
  | some j => simp
theorem shaped_int (i : Int) : SeqAt.shaped (toP (.int i)) = true := by rw [toP]; rfl
@[simp] theorem eq_int_int (neg : Bool) (i j : Int) : eqD neg (.int i) (.int j) = some (.bl (if neg then !decide (i = j) else decide (i = j))) := by
  unfold eqD
  rw [shaped_int, shaped_int]
  have e : PyData.eqv (toP (.int i)) (toP (.int j)) = decide (i = j) := by
    rw [toP, toP, PyData.eqv]
    by_cases h : i = j <;> simp [h]
  rw [e]
  rfl
end DL
set_option Elab.async false
set_option linter.all false
set_option maxRecDepth 100000
set_option genSizeOf false
set_option bootstrap.genMatcherCode false
set_option genInjectivity true
namespace DL
open PySem PySem.Spec PyProof.Rows L2
section
variable {X : Cx} {C : Cl} {x : Expr} {g : Den} {cp ap : Pos}
end
theorem while_def (p : TDen) (s : SDen) (n : Nat) (ρ : List Sl) (Ω : List OS) : whileD p s (n + 1) ρ Ω = match p ρ Ω with
    | some (true, Ω1) => (match s ρ Ω1 with
      | some (.nx ρ' Ω') => whileD p s n ρ' Ω'
      | some (.ct ρ' Ω') => whileD p s n ρ' Ω'
      | some (.bk ρ' Ω') => some (.nx ρ' Ω')
      | some (.rt z Ω') => some (.rt z Ω')
      | none => none)
    | some (false, Ω1) => some (.nx ρ Ω1)
    | none => none := (rfl)
end DL
set_option Elab.async false
set_option linter.all false
set_option maxRecDepth 100000
set_option genSizeOf false
set_option bootstrap.genMatcherCode false
set_option genInjectivity true
/-! OBJECTS: instances, dicts. -/
namespace DL
open PySem PySem.Spec PyProof.Rows L2

noncomputable def OIs (K : PySem.W.Frag) (α : List Addr) (F : Hp) : Option D → Option V → Prop
  | none, none => True
  | some d, some v => Is K α F d v
  | _, _ => False
section
variable {κ : Type} [DecidableEq κ]
noncomputable def valD (kvs : List (κ × D)) (k : κ) : Option D := (kvs.find? fun kv => decide (kv.1 = k)).map (·.2)
noncomputable def putD (kvs : List (κ × D)) (k : κ) (v : D) : List (κ × D) :=
  if (kvs.any fun kv => decide (kv.1 = k)) = true then kvs.map (fun kv => if kv.1 = k then (kv.1, v) else kv) else kvs ++ [(k, v)]
noncomputable def dropD (kvs : List (κ × D)) (k : κ) : List (κ × D) := kvs.filter fun kv => decide (kv.1 ≠ k)
variable {K : PySem.W.Frag} {α : List Addr} {F : Hp}
theorem PsIs.len : ∀ {ps : List (κ × D)} {vs : List (κ × V)}, PsIs K α F ps vs → ps.length = vs.length
  | [], _, h => by rw [show _ = [] from h]; rfl
  | p :: r, _, ⟨v, t, e, _, q⟩ => by rw [e, List.length_cons, List.length_cons, q.len]
theorem PsIs.keys : ∀ {ps : List (κ × D)} {vs : List (κ × V)}, PsIs K α F ps vs → ps.map (·.1) = vs.map (·.1)
  | [], _, h => by rw [show _ = [] from h]; rfl
  | p :: r, _, ⟨v, t, e, _, q⟩ => by rw [e, List.map_cons, List.map_cons, q.keys]
theorem PsIs.val (k : κ) : ∀ {ps : List (κ × D)} {vs : List (κ × V)}, PsIs K α F ps vs → OIs K α F (valD ps k) (valV vs k)
  | [], _, h => by rw [show _ = [] from h]; exact trivial
  | p :: r, _, ⟨v, t, e, i, q⟩ => by
    subst e
    by_cases h : p.1 = k
    · have e1 : valD (p :: r) k = some p.2 := by simp [valD, List.find?_cons, h]
      rw [e1, valV_pos h]; exact i
    · have e1 : valD (p :: r) k = valD r k := by simp [valD, List.find?_cons, h]
      rw [e1, valV_neg h]; exact q.val k
theorem PsIs.repl (k : κ) {d : D} {y : V} (iy : Is K α F d y) : ∀ {ps : List (κ × D)} {vs : List (κ × V)}, PsIs K α F ps vs → PsIs K α F (ps.map fun kv => if kv.1 = k then (kv.1, d) else kv) (vs.map fun kv => if kv.1 = k then (kv.1, y) else kv)
  | [], _, h => by rw [show _ = [] from h]; exact rfl
  | p :: r, _, ⟨v, t, e, i, q⟩ => by
    subst e
    rw [List.map_cons, List.map_cons]
    by_cases h : p.1 = k
    · rw [if_pos h, if_pos h]; exact ⟨y, _, rfl, iy, q.repl k iy⟩
    · rw [if_neg h, if_neg h]; exact ⟨v, _, rfl, i, q.repl k iy⟩
theorem PsIs.snoc (k : κ) {d : D} {y : V} (iy : Is K α F d y) : ∀ {ps : List (κ × D)} {vs : List (κ × V)}, PsIs K α F ps vs → PsIs K α F (ps ++ [(k, d)]) (vs ++ [(k, y)])
  | [], _, h => by rw [show _ = [] from h]; exact ⟨y, [], rfl, iy, rfl⟩
  | p :: r, _, ⟨v, t, e, i, q⟩ => by
    subst e
    exact ⟨v, _, rfl, i, q.snoc k iy⟩
theorem PsIs.any (k : κ) : ∀ {ps : List (κ × D)} {vs : List (κ × V)}, PsIs K α F ps vs → (ps.any fun kv => decide (kv.1 = k)) = vs.any fun kv => decide (kv.1 = k)
  | [], _, h => by rw [show _ = [] from h]; rfl
  | p :: r, _, ⟨v, t, e, i, q⟩ => by
    subst e
    rw [List.any_cons, List.any_cons, q.any k]
theorem PsIs.put {ps : List (κ × D)} {vs : List (κ × V)} (h : PsIs K α F ps vs) (k : κ) {d : D} {y : V} (iy : Is K α F d y) : PsIs K α F (putD ps k d) (putK vs k y) := by
  unfold putD putK
  rw [h.any k]
  split
  · exact h.repl k iy
  · exact h.snoc k iy
theorem PsIs.drop (k : κ) : ∀ {ps : List (κ × D)} {vs : List (κ × V)}, PsIs K α F ps vs → PsIs K α F (dropD ps k) (dropK vs k)
  | [], _, h => by rw [show _ = [] from h]; exact rfl
  | p :: r, _, ⟨v, t, e, i, q⟩ => by
    subst e
    unfold dropD dropK
    by_cases h : p.1 = k
    · rw [List.filter_cons_of_neg (by simp [h]), List.filter_cons_of_neg (by simp [h])]; exact q.drop k
    · rw [List.filter_cons_of_pos (by simp [h]), List.filter_cons_of_pos (by simp [h])]; exact ⟨v, _, rfl, i, q.drop k⟩
end
section
variable {K : PySem.W.Frag} {α : List Addr} {F : Hp}
theorem PsIs.look (f : Str) : ∀ {ps : List (Str × D)} {vs : List (Str × V)}, PsIs K α F ps vs → OIs K α F (ps.lookup f) (vs.lookup f)
  | [], _, h => by rw [show _ = [] from h]; exact trivial
  | (g, d) :: r, _, ⟨v, t, e, i, q⟩ => by
    subst e
    by_cases h : (f == g) = true
    · rw [List.lookup_cons, List.lookup_cons, h]; exact i
    · have h' : (f == g) = false := by cases z : (f == g) with | true => exact absurd z h | false => rfl
      rw [List.lookup_cons, List.lookup_cons, h']; exact q.look f
noncomputable def putFD (f : Str) (v : D) : List (Str × D) → List (Str × D)
  | [] => [(f, v)]
  | (g, x) :: r => if g = f then (g, v) :: r else (g, x) :: putFD f v r
theorem PsIs.putF (f : Str) {d : D} {y : V} (iy : Is K α F d y) : ∀ {ps : List (Str × D)} {vs : List (Str × V)}, PsIs K α F ps vs → PsIs K α F (putFD f d ps) (L2.putF f y vs)
  | [], _, h => by rw [show _ = [] from h]; exact ⟨y, [], rfl, iy, rfl⟩
  | (g, x) :: r, _, ⟨v, t, e, i, q⟩ => by
    subst e
    unfold putFD L2.putF
    by_cases h : g = f
    · rw [if_pos h, if_pos h]; exact ⟨y, t, rfl, iy, q⟩
    · rw [if_neg h, if_neg h]; exact ⟨v, _, rfl, i, q.putF f iy⟩
end

/-! ### a new object, an object changed -/
noncomputable def E4.obj (e : E4) (p : Addr) (H' : Hp) : E4 := ⟨e.α ++ [p], e.F, fun b => e.A b ∨ b = p, H'⟩
noncomputable def E4.at (e : E4) (a : Addr) (o : HO) : E4 := ⟨e.α, e.F, e.A, upd e.H a o⟩
section
variable {K : PySem.W.Frag} {C : Cl} {e : E4} {Ω : List OS}
theorem Wf.objA (w : Wf K C e Ω) {n : Nat} {a : Addr} (h : e.α[n]? = some a) : e.A a ∧ ∃ o, Ω[n]? = some o := by
  have hl : n < Ω.length := by rw [← w.ol]; exact (List.getElem?_eq_some_iff.mp h).1
  exact ⟨(w.ob n a _ h (List.getElem?_eq_getElem hl)).1, _, List.getElem?_eq_getElem hl⟩
theorem Wf.obj (w : Wf K C e Ω) {p : Addr} {H' : Hp} {o : OS} (hp : e.H p = none) (hk : ∀ b u, e.H b = some u → H' b = some u) (hn : H' p ≠ none ∧ ∀ xs, H' p ≠ some (.tup xs)) (ho : OSIs K C (e.obj p H') p o) :
    Wf K C (e.obj p H') (Ω ++ [o]) ∧ Ext e (e.obj p H') := by
  have nA : ¬ e.A p := fun z => (w.ah p z).1 hp
  have npα : p ∉ e.α := fun z => by
    obtain ⟨n, h⟩ := List.getElem?_of_mem z
    exact nA (w.objA h).1
  refine ⟨⟨fun b u h => hk b u (w.fh b u h), fun b h => ?_, fun b h => ?_, ?_, ?_, fun n b u h1 h2 => ?_⟩, ⟨fun b o' u h => hk b _ h, fun b u h _ => hk b u h, fun b u h => ⟨u, hk b u h⟩, Same.refl _, fun b u h => .inl h, fun b h => ?_, fun b h => .inl h, [p], rfl⟩⟩
  · rcases h with h | rfl
    · exact w.fa b h
    · exact w.nF hp
  · rcases h with h | rfl
    · obtain ⟨h1, h2⟩ := w.ah b h
      cases q : e.H b with
      | none => exact absurd q h1
      | some u =>
        show H' b ≠ none ∧ ∀ xs, H' b ≠ some (.tup xs)
        rw [hk b u q, ← q]
        exact ⟨h1, h2⟩
    · exact hn
  · show (e.α ++ [p]).length = (Ω ++ [o]).length
    rw [List.length_append, List.length_append, w.ol]; rfl
  · show (e.α ++ [p]).Nodup
    rw [List.nodup_append]
    refine ⟨w.nd, by simp, fun x hx y hy => ?_⟩
    simp only [List.mem_singleton] at hy
    subst hy
    exact fun z => npα (z ▸ hx)
  · have h1 : (e.α ++ [p])[n]? = some b := h1
    by_cases hl : n < e.α.length
    · rw [List.getElem?_append_left hl] at h1
      rw [List.getElem?_append_left (by rw [← w.ol]; exact hl)] at h2
      exact ⟨.inl (w.ob n b u h1 h2).1, (w.ob n b u h1 h2).2.keep (fun v hv => hk b v hv) (Same.refl _) ⟨[p], rfl⟩⟩
    · have en : n = e.α.length := by
        have := (List.getElem?_eq_some_iff.mp h1).1
        rw [List.length_append] at this
        simp at this
        omega
      subst en
      rw [List.getElem?_append_right (Nat.le_refl _), Nat.sub_self] at h1
      rw [w.ol, List.getElem?_append_right (Nat.le_refl _), Nat.sub_self] at h2
      cases h1
      cases h2
      exact ⟨.inr rfl, ho⟩
  · rcases h with h | rfl
    · exact .inl h
    · exact .inr hp
theorem Wf.atW (w : Wf K C e Ω) {n : Nat} {a : Addr} {o' : OS} {ho : HO} (hα : e.α[n]? = some a) (hn : ∀ xs, ho ≠ .tup xs) (h' : OSIs K C (e.at a ho) a o') : Wf K C (e.at a ho) (Ω.set n o') := by
  have hA := (w.objA hα).1
  have hF := w.fa a hA
  have neF : ∀ b u, e.F b = some u → b ≠ a := fun b u h z => by subst z; rw [hF] at h; cases h
  refine ⟨fun b u h => ?_, w.fa, fun b h => ?_, by simp [E4.at, w.ol], w.nd, fun m b u h1 h2 => ?_⟩
  · show upd e.H a ho b = some u
    rw [upd_ne (neF b u h)]; exact w.fh b u h
  · show upd e.H a ho b ≠ none ∧ ∀ xs, upd e.H a ho b ≠ some (.tup xs)
    by_cases z : b = a
    · subst z; rw [upd_same]; exact ⟨by simp, fun xs q => hn xs (Option.some.inj q)⟩
    · rw [upd_ne z]; exact w.ah b h
  · by_cases z : m = n
    · subst z
      have h1 : e.α[m]? = some b := h1
      rw [hα] at h1
      cases h1
      have hl : m < Ω.length := by rw [← w.ol]; exact (List.getElem?_eq_some_iff.mp hα).1
      rw [List.getElem?_set_self hl] at h2
      cases h2
      exact ⟨hA, h'⟩
    · rw [List.getElem?_set_ne (fun q => z q.symm)] at h2
      have nb : b ≠ a := fun q => by
        subst q
        exact z ((List.getElem?_inj (List.getElem?_eq_some_iff.mp h1).1 w.nd).mp (h1.trans hα.symm))
      refine ⟨(w.ob m b u h1 h2).1, (w.ob m b u h1 h2).2.keep (fun v hv => ?_) (Same.refl _) ⟨[], by simp [E4.at]⟩⟩
      show upd e.H a ho b = some v
      rw [upd_ne nb]; exact hv
theorem Wf.at (w : Wf K C e Ω) {n : Nat} {a : Addr} {o' : OS} {ho : HO} (hα : e.α[n]? = some a) (hn : ∀ xs, ho ≠ .tup xs) (h' : OSIs K C (e.at a ho) a o') (hz : ∀ o u, e.H a ≠ some (.frz o u)) :
    Wf K C (e.at a ho) (Ω.set n o') ∧ Ext e (e.at a ho) := by
  have hA := (w.objA hα).1
  refine ⟨w.atW hα hn h', ⟨fun b o' u h => ?_, fun b u h hn => ?_, fun b u h => ?_, Same.refl _, fun b u h => .inl h, fun b h => .inl h, fun b h => h, [], by simp [E4.at]⟩⟩
  · show upd e.H a ho b = some (.frz o' u)
    rw [upd_ne (fun z => hz o' u (by rw [← z]; exact h))]; exact h
  · show upd e.H a ho b = some u
    rw [upd_ne (fun z => hn (by rw [z]; exact hA))]; exact h
  · by_cases z : b = a
    · subst z; exact ⟨ho, upd_same⟩
    · exact ⟨u, by show upd e.H a ho b = some u; rw [upd_ne z]; exact h⟩
end

/-! ### keys -/
noncomputable def keyD : D → Option Key
  | .int i => some (.inl i)
  | .str x => some (.inr x)
  | _ => none
noncomputable def keysD : List D → Option (List Key)
  | [] => some []
  | d :: ds => match keyD d with
    | some k => (match keysD ds with | some ks => some (k :: ks) | none => none)
    | none => none
noncomputable def tkeyD : D → Option (List Key)
  | .tup xs => keysD xs
  | _ => none
noncomputable def ofK : Key → D
  | .inl i => .int i
  | .inr x => .str x
section
variable {K : PySem.W.Frag} {α : List Addr} {F : Hp}
theorem keyD_v {d : D} {k : Key} {v : V} (h : keyD d = some k) (i : Is K α F d v) : v = kV k := by
  cases d <;> first | cases h | skip
  · rw [Is] at i; exact i
  · rw [Is] at i; exact i
theorem keysD_v : ∀ {ds : List D} {ks : List Key} {vs : List V}, keysD ds = some ks → IsL K α F ds vs → vs = ks.map kV
  | [], ks, vs, h, i => by cases h; rw [i.of_nil]; rfl
  | d :: ds, ks, vs, h, i => by
    obtain ⟨v, r, rfl, i1, i2⟩ := i.of_cons
    unfold keysD at h
    cases q : keyD d with
    | none => rw [q] at h; cases h
    | some k =>
      rw [q] at h
      dsimp only at h
      cases q2 : keysD ds with
      | none => rw [q2] at h; cases h
      | some ks' =>
        rw [q2] at h
        cases h
        rw [List.map_cons, keyD_v q i1, keysD_v q2 i2]
theorem tkeyD_v {d : D} {ks : List Key} {v : V} (h : tkeyD d = some ks) (i : Is K α F d v) : ∃ b, v = .ref b ∧ F b = some (.tup (ks.map kV)) := by
  cases d <;> first | cases h | skip
  rw [Is] at i
  obtain ⟨a, vs, rfl, e, q⟩ := i
  rw [keysD_v h q] at e
  exact ⟨a, rfl, e⟩
theorem ofK_is (k : Key) : Is K α F (ofK k) (kV k) := by
  cases k with
  | inl i => show Is K α F (.int i) (.int i); rw [Is]
  | inr x => show Is K α F (.str x) (.str x); rw [Is]
theorem ofKs_is : ∀ ks : List Key, IsL K α F (ks.map ofK) (ks.map kV)
  | [] => .nil
  | k :: ks => .cons (ofK_is k) (ofKs_is ks)
end

/-! ### what a dict holds -/
noncomputable def lookO : OS → D → Option (Option D)
  | .fzK kvs, d => (match keyD d with | some k => some (valD kvs k) | none => none)
  | .dK kvs, d => (match keyD d with | some k => some (valD kvs k) | none => none)
  | .dT kvs, d => (match tkeyD d with | some k => some (valD kvs k) | none => none)
  | _, _ => none
noncomputable def putO : OS → D → D → Option OS
  | .dK kvs, d, v => (match keyD d with | some k => if kvs.length < 100000 then some (.dK (putD kvs k v)) else none | none => none)
  | .dT kvs, d, v => (match tkeyD d with | some k => if kvs.length < 100000 then some (.dT (putD kvs k v)) else none | none => none)
  | _, _, _ => none
noncomputable def isDct : OS → Bool
  | .fzK _ => true
  | .dK _ => true
  | .dT _ => true
  | _ => false
section
variable {K : PySem.W.Frag} {C : Cl} {e : E4} {Ω : List OS}
theorem dget_of (w : Wf K C e Ω) {n : Nat} {a : Addr} {o : OS} {d : D} {r : Option D} {y : V} (hα : e.α[n]? = some a) (hΩ : Ω[n]? = some o) (hl : lookO o d = some r) (i : Is K e.α e.F d y) :
    ∃ r', DGet e.H a y r' ∧ OIs K e.α e.F r r' := by
  have ob := (w.ob n a o hα hΩ).2
  unfold lookO at hl
  cases o with
  | fzK kvs =>
    obtain ⟨vs, ob', h1, h2⟩ := ob
    dsimp only at hl
    cases q : keyD d with
    | none => rw [q] at hl; cases hl
    | some k =>
      rw [q] at hl
      cases hl
      rw [keyD_v q i]
      exact ⟨_, .inl ⟨vs, k, .inr ⟨_, h1⟩, rfl, rfl⟩, h2.val k⟩
  | dK kvs =>
    obtain ⟨vs, h1, h2⟩ := ob
    dsimp only at hl
    cases q : keyD d with
    | none => rw [q] at hl; cases hl
    | some k =>
      rw [q] at hl
      cases hl
      rw [keyD_v q i]
      exact ⟨_, DGet.k h1, h2.val k⟩
  | dT kvs =>
    obtain ⟨vs, h1, h2⟩ := ob
    dsimp only at hl
    cases q : tkeyD d with
    | none => rw [q] at hl; cases hl
    | some k =>
      rw [q] at hl
      cases hl
      obtain ⟨b, rfl, hb⟩ := tkeyD_v q i
      exact ⟨_, DGet.t h1 (w.fh _ _ hb), h2.val k⟩
  | _ => cases hl
theorem isD_of (w : Wf K C e Ω) {n : Nat} {a : Addr} {o : OS} (hα : e.α[n]? = some a) (hΩ : Ω[n]? = some o) (h : isDct o = true) : IsD e.H a := by
  have ob := (w.ob n a o hα hΩ).2
  cases o with
  | fzK kvs => obtain ⟨vs, ob', h1, _⟩ := ob; exact .inl ⟨vs, .inr ⟨_, h1⟩⟩
  | dK kvs => obtain ⟨vs, h1, _⟩ := ob; exact .inl ⟨vs, .inl h1⟩
  | dT kvs => obtain ⟨vs, h1, _⟩ := ob; exact .inr ⟨vs, .inl h1⟩
  | _ => cases h
theorem dput_of (w : Wf K C e Ω) {n : Nat} {a : Addr} {o o' : OS} {d x : D} {y v : V} (hα : e.α[n]? = some a) (hΩ : Ω[n]? = some o) (hp : putO o d x = some o') (i : Is K e.α e.F d y) (ix : Is K e.α e.F x v) :
    ∃ H', DPut e.H a y v H' ∧ ∃ e', e'.H = H' ∧ Wf K C e' (Ω.set n o') ∧ Ext e e' := by
  have ob := (w.ob n a o hα hΩ).2
  unfold putO at hp
  cases o with
  | dK kvs =>
    obtain ⟨vs, h1, h2⟩ := ob
    dsimp only at hp
    cases q : keyD d with
    | none => rw [q] at hp; cases hp
    | some k =>
      rw [q] at hp
      dsimp only at hp
      split at hp
      · rename_i hl
        cases hp
        rw [keyD_v q i]
        refine ⟨_, DPut.k h1 (by rw [← h2.len]; exact big_lt hl), e.at a _, rfl, w.at hα (fun xs z => nomatch z) ⟨_, upd_same, h2.put k ix⟩ fun o u z => by rw [h1] at z; cases z⟩
      · cases hp
  | dT kvs =>
    obtain ⟨vs, h1, h2⟩ := ob
    dsimp only at hp
    cases q : tkeyD d with
    | none => rw [q] at hp; cases hp
    | some k =>
      rw [q] at hp
      dsimp only at hp
      split at hp
      · rename_i hl
        cases hp
        obtain ⟨b, rfl, hb⟩ := tkeyD_v q i
        refine ⟨_, DPut.t h1 (w.fh _ _ hb) (by rw [← h2.len]; exact big_lt hl), e.at a _, rfl, w.at hα (fun xs z => nomatch z) ⟨_, upd_same, h2.put k ix⟩ fun o u z => by rw [h1] at z; cases z⟩
      · cases hp
  | _ => cases hp
end

/-! ### the rules: dicts -/
noncomputable def gNewK : Den := fun _ Ω => some (.obj Ω.length, Ω ++ [.dK []])
noncomputable def gNewT : Den := fun _ Ω => some (.obj Ω.length, Ω ++ [.dT []])
noncomputable def gDGet (go gi : Den) : Den := fun ρ Ω => match go ρ Ω with
  | some (.obj n, Ω1) => (match gi ρ Ω1 with
    | some (k, Ω2) => (match Ω2[n]? with
      | some o => (match lookO o k with | some (some d) => some (d, Ω2) | _ => none)
      | none => none)
    | none => none)
  | _ => none
noncomputable def gDIn (neg : Bool) (gk go : Den) : Den := fun ρ Ω => match gk ρ Ω with
  | some (k, Ω1) => (match go ρ Ω1 with
    | some (.obj n, Ω2) => (match Ω2[n]? with
      | some o => (match lookO o k with | some r => some (.bl (if neg then !r.isSome else r.isSome), Ω2) | none => none)
      | none => none)
    | _ => none)
  | none => none
noncomputable def gDGet1 (go gk : Den) : Den := fun ρ Ω => match go ρ Ω with
  | some (.obj n, Ω1) => (match Ω1[n]? with
    | some o => if isDct o = true then (match gk ρ Ω1 with
      | some (k, Ω2) => (match Ω2[n]? with
        | some o2 => (match lookO o2 k with | some r => some (r.getD .non, Ω2) | none => none)
        | none => none)
      | none => none) else none
    | none => none)
  | _ => none
noncomputable def gDGet2 (go gk gx : Den) : Den := fun ρ Ω => match go ρ Ω with
  | some (.obj n, Ω1) => (match Ω1[n]? with
    | some o => if isDct o = true then (match gk ρ Ω1 with
      | some (k, Ω2) => (match gx ρ Ω2 with
        | some (x, Ω3) => (match Ω3[n]? with
          | some o2 => (match lookO o2 k with | some r => some (r.getD x, Ω3) | none => none)
          | none => none)
        | none => none)
      | none => none) else none
    | none => none)
  | _ => none
noncomputable def sDPut (go gi gv : Den) : SDen := fun ρ Ω => match gv ρ Ω with
  | some (v, Ω1) => (match go ρ Ω1 with
    | some (.obj n, Ω2) => (match gi ρ Ω2 with
      | some (k, Ω3) => (match Ω3[n]? with
        | some o => (match putO o k v with | some o' => some (.nx ρ (Ω3.set n o')) | none => none)
        | none => none)
      | none => none)
    | _ => none)
  | none => none
section
variable {X : Cx} {C : Cl} {a b c x y : Expr} {f g h : Den} {pos pos' ap cp : Pos}
theorem pd_newK : PD X C (.Dict [] [] pos) gNewK := pe_imp pe_dnewK fun σ H Q hw' => by
  obtain ⟨e, Ω, ρ, d, Ω', eH, w, rl, q, kk⟩ := hw'
  subst eH
  cases q
  intro p hp
  obtain ⟨w', x'⟩ := w.obj (H' := upd e.H p (.dK [])) (o := .dK []) hp (fun b u hb => by rw [upd_ne (ne_of_none hb hp)]; exact hb) (by rw [upd_same]; exact ⟨by simp, fun xs z => nomatch z⟩) ⟨[], upd_same, rfl⟩
  refine kk _ (e.obj p _) x' w' ?_
  rw [Is]
  exact ⟨p, by show (e.α ++ [p])[Ω.length]? = some p; rw [← w.ol]; simp, rfl⟩
theorem pd_newT : PD X C (.Dict [] [] pos) gNewT := pe_imp pe_dnewT fun σ H Q hw' => by
  obtain ⟨e, Ω, ρ, d, Ω', eH, w, rl, q, kk⟩ := hw'
  subst eH
  cases q
  intro p hp
  obtain ⟨w', x'⟩ := w.obj (H' := upd e.H p (.dT [])) (o := .dT []) hp (fun b u hb => by rw [upd_ne (ne_of_none hb hp)]; exact hb) (by rw [upd_same]; exact ⟨by simp, fun xs z => nomatch z⟩) ⟨[], upd_same, rfl⟩
  refine kk _ (e.obj p _) x' w' ?_
  rw [Is]
  exact ⟨p, by show (e.α ++ [p])[Ω.length]? = some p; rw [← w.ol]; simp, rfl⟩
theorem OIs.some_of {K : PySem.W.Frag} {α : List Addr} {F : Hp} {d : D} {r : Option V} (h : OIs K α F (some d) r) : ∃ v, r = some v ∧ Is K α F d v := by
  cases r with
  | none => exact h.elim
  | some v => exact ⟨v, rfl, h⟩
theorem OIs.isSome {K : PySem.W.Frag} {α : List Addr} {F : Hp} {d : Option D} {r : Option V} (h : OIs K α F d r) : r.isSome = d.isSome := by
  cases r <;> cases d <;> first | rfl | exact h.elim
theorem OIs.getD {K : PySem.W.Frag} {α : List Addr} {F : Hp} {d : Option D} {r : Option V} {x : D} {v : V} (h : OIs K α F d r) (i : Is K α F x v) : Is K α F (d.getD x) (r.getD v) := by
  cases r <;> cases d <;> first | exact h.elim | exact i | exact h
theorem pd_dget (hu : X.A.units + 1 < cLine) (ho : PD X C a f) (hi : PD X C b g) (hs : NoSl b) : PD X C (.Subscript a b pos) (gDGet f g) := pe_imp (pe_dget hu ho hi hs) fun σ H Q hw' => by
  obtain ⟨e, Ω, ρ, d, Ω', eH, w, rl, q, kk⟩ := hw'
  unfold gDGet at q
  cases q1 : f ρ Ω with
  | none => rw [q1] at q; cases q
  | some p1 =>
    obtain ⟨d1, Ω1⟩ := p1
    rw [q1] at q
    cases d1 with
    | obj n =>
      dsimp only at q
      cases q2 : g ρ Ω1 with
      | none => rw [q2] at q; cases q
      | some p2 =>
        obtain ⟨k, Ω2⟩ := p2
        rw [q2] at q
        dsimp only at q
        cases q3 : Ω2[n]? with
        | none => rw [q3] at q; cases q
        | some o =>
          rw [q3] at q
          dsimp only at q
          cases q4 : lookO o k with
          | none => rw [q4] at q; cases q
          | some r =>
            rw [q4] at q
            cases r with
            | none => cases q
            | some d' =>
              cases q
              refine ⟨e, Ω, ρ, _, Ω1, eH, w, rl, q1, fun v e1 x1 w1 i1 => ?_⟩
              refine ⟨e1, Ω1, ρ, k, _, rfl, w1, rl.ext x1, q2, fun u e2 x2 w2 i2 => ?_⟩
              have i3 := i1.ext x2
              rw [Is] at i3
              obtain ⟨p, hα, rfl⟩ := i3
              obtain ⟨r', g1, o1⟩ := dget_of w2 hα q3 q4 i2
              obtain ⟨v', rfl, iv⟩ := o1.some_of
              exact ⟨p, v', rfl, g1, kk v' e2 (x1.trans x2) w2 iv⟩
    | _ => cases q
theorem din_read {K : PySem.W.Frag} {neg : Bool} {σ : St} {H : Hp} {Q : VK} (h : tD K C (gDIn neg f g) σ H Q) :
    tD K C f σ H fun y H1 => tD K C g σ H1 fun x H2 => ∃ a o, x = .ref a ∧ DGet H2 a y o ∧ Q (.bl (if neg then !o.isSome else o.isSome)) H2 := by
  obtain ⟨e, Ω, ρ, d, Ω', eH, w, rl, q, kk⟩ := h
  unfold gDIn at q
  cases q1 : f ρ Ω with
  | none => rw [q1] at q; cases q
  | some p1 =>
    obtain ⟨k, Ω1⟩ := p1
    rw [q1] at q
    dsimp only at q
    cases q2 : g ρ Ω1 with
    | none => rw [q2] at q; cases q
    | some p2 =>
      obtain ⟨d2, Ω2⟩ := p2
      rw [q2] at q
      cases d2 with
      | obj n =>
        dsimp only at q
        cases q3 : Ω2[n]? with
        | none => rw [q3] at q; cases q
        | some o =>
          rw [q3] at q
          dsimp only at q
          cases q4 : lookO o k with
          | none => rw [q4] at q; cases q
          | some r =>
            rw [q4] at q
            cases q
            refine ⟨e, Ω, ρ, k, Ω1, eH, w, rl, q1, fun v e1 x1 w1 i1 => ?_⟩
            refine ⟨e1, Ω1, ρ, _, _, rfl, w1, rl.ext x1, q2, fun u e2 x2 w2 i2 => ?_⟩
            rw [Is] at i2
            obtain ⟨p, hα, rfl⟩ := i2
            obtain ⟨r', g1, o1⟩ := dget_of w2 hα q3 q4 (i1.ext x2)
            refine ⟨p, r', rfl, g1, ?_⟩
            rw [o1.isSome]
            exact kk _ e2 (x1.trans x2) w2 (by rw [Is])
      | _ => cases q
theorem pdt_din (hu : X.A.units + 1 < cLine) (hk : PD X C a f) (ho : PD X C b g) (h1 : behindInMarks .In b = false := by rfl) : PDT X C (.Compare a [.In] [b] pos) (gT (gDIn false f g)) :=
  pt_imp (pt_cmp (pc_din hu hk ho) h1) fun σ H Q h => din_read (gT_read h)
theorem pdt_dnotin (hu : X.A.units + 1 < cLine) (hk : PD X C a f) (ho : PD X C b g) (h1 : behindInMarks .NotIn b = false := by rfl) : PDT X C (.Compare a [.NotIn] [b] pos) (gT (gDIn true f g)) :=
  pt_imp (pt_cmp (pc_dnotin hu hk ho) h1) fun σ H Q h => din_read (gT_read h)
theorem pd_dget1 (hu : X.A.units + 1 < cLine) (ho : PD X C a f) (hi : PD X C b g) (m : M1 X a "get" ap b cp) : PD X C (.Call (.Attribute a "get" ap) [b] [] cp) (gDGet1 f g) := pe_imp (pe_dget1 hu ho hi m) fun σ H Q hw' => by
  obtain ⟨e, Ω, ρ, d, Ω', eH, w, rl, q, kk⟩ := hw'
  unfold gDGet1 at q
  cases q1 : f ρ Ω with
  | none => rw [q1] at q; cases q
  | some p1 =>
    obtain ⟨d1, Ω1⟩ := p1
    rw [q1] at q
    cases d1 with
    | obj n =>
      dsimp only at q
      cases q0 : Ω1[n]? with
      | none => rw [q0] at q; cases q
      | some o0 =>
        rw [q0] at q
        dsimp only at q
        by_cases hd : isDct o0 = true
        · rw [if_pos hd] at q
          cases q2 : g ρ Ω1 with
          | none => rw [q2] at q; cases q
          | some p2 =>
            obtain ⟨k, Ω2⟩ := p2
            rw [q2] at q
            dsimp only at q
            cases q3 : Ω2[n]? with
            | none => rw [q3] at q; cases q
            | some o =>
              rw [q3] at q
              dsimp only at q
              cases q4 : lookO o k with
              | none => rw [q4] at q; cases q
              | some r =>
                rw [q4] at q
                cases q
                refine ⟨e, Ω, ρ, _, Ω1, eH, w, rl, q1, fun v e1 x1 w1 i1 => ?_⟩
                rw [Is] at i1
                obtain ⟨p, hα, rfl⟩ := i1
                refine ⟨p, rfl, isD_of w1 hα q0 hd, ?_⟩
                refine ⟨e1, Ω1, ρ, k, _, rfl, w1, rl.ext x1, q2, fun u e2 x2 w2 i2 => ?_⟩
                have hα2 : e2.α[n]? = some p := by
                  have i3 : Is X.K e2.α e2.F (.obj n) (.ref p) := Is.ext x2 (by rw [Is]; exact ⟨p, hα, rfl⟩)
                  rw [Is] at i3
                  obtain ⟨p', z, zz⟩ := i3
                  cases zz
                  exact z
                obtain ⟨r', g1, o1⟩ := dget_of w2 hα2 q3 q4 i2
                exact ⟨r', g1, kk _ e2 (x1.trans x2) w2 (o1.getD (by rw [Is]))⟩
        · rw [if_neg hd] at q; cases q
    | _ => cases q
theorem pd_dget2 (hu : X.A.units + 1 < cLine) (ho : PD X C a f) (hi : PD X C b g) (hx : PD X C c h) (m : M2 X a "get" ap b c cp) : PD X C (.Call (.Attribute a "get" ap) [b, c] [] cp) (gDGet2 f g h) := pe_imp (pe_dget2 hu ho hi hx m) fun σ H Q hw' => by
  obtain ⟨e, Ω, ρ, d, Ω', eH, w, rl, q, kk⟩ := hw'
  unfold gDGet2 at q
  cases q1 : f ρ Ω with
  | none => rw [q1] at q; cases q
  | some p1 =>
    obtain ⟨d1, Ω1⟩ := p1
    rw [q1] at q
    cases d1 with
    | obj n =>
      dsimp only at q
      cases q0 : Ω1[n]? with
      | none => rw [q0] at q; cases q
      | some o0 =>
        rw [q0] at q
        dsimp only at q
        by_cases hd : isDct o0 = true
        · rw [if_pos hd] at q
          cases q2 : g ρ Ω1 with
          | none => rw [q2] at q; cases q
          | some p2 =>
            obtain ⟨k, Ω2⟩ := p2
            rw [q2] at q
            dsimp only at q
            cases q5 : h ρ Ω2 with
            | none => rw [q5] at q; cases q
            | some p5 =>
              obtain ⟨xd, Ω3⟩ := p5
              rw [q5] at q
              dsimp only at q
              cases q3 : Ω3[n]? with
              | none => rw [q3] at q; cases q
              | some o =>
                rw [q3] at q
                dsimp only at q
                cases q4 : lookO o k with
                | none => rw [q4] at q; cases q
                | some r =>
                  rw [q4] at q
                  cases q
                  refine ⟨e, Ω, ρ, _, Ω1, eH, w, rl, q1, fun v e1 x1 w1 i1 => ?_⟩
                  rw [Is] at i1
                  obtain ⟨p, hα, rfl⟩ := i1
                  refine ⟨p, rfl, isD_of w1 hα q0 hd, ?_⟩
                  refine ⟨e1, Ω1, ρ, k, _, rfl, w1, rl.ext x1, q2, fun u e2 x2 w2 i2 => ?_⟩
                  refine ⟨e2, Ω2, ρ, xd, _, rfl, w2, (rl.ext x1).ext x2, q5, fun u3 e3 x3 w3 i3' => ?_⟩
                  have hα2 : e3.α[n]? = some p := by
                    have i3 : Is X.K e3.α e3.F (.obj n) (.ref p) := Is.ext (x2.trans x3) (by rw [Is]; exact ⟨p, hα, rfl⟩)
                    rw [Is] at i3
                    obtain ⟨p', z, zz⟩ := i3
                    cases zz
                    exact z
                  obtain ⟨r', g1, o1⟩ := dget_of w3 hα2 q3 q4 (i2.ext x3)
                  exact ⟨r', g1, kk _ e3 ((x1.trans x2).trans x3) w3 (o1.getD i3')⟩
        · rw [if_neg hd] at q; cases q
    | _ => cases q
theorem pds_dput (hu : X.A.units + 1 < cLine) (ho : PD X C a f) (hi : PD X C b g) (hv : PD X C x h) (hs : swapsWith x (some (.Subscript a b pos')) pos.line X.env = pure false := by rfl) :
    PDS X C (.Assign [.Subscript a b pos'] x pos) (sDPut f g h) := fun e₀ => ps_imp (ps_dput hu ho hi hv hs) fun Dn σ H hw' => by
  obtain ⟨e, Ω, ρ, o, eH, r, q, k⟩ := hw'
  unfold sDPut at q
  cases q1 : h ρ Ω with
  | none => rw [q1] at q; cases q
  | some p1 =>
    obtain ⟨v, Ω1⟩ := p1
    rw [q1] at q
    dsimp only at q
    cases q2 : f ρ Ω1 with
    | none => rw [q2] at q; cases q
    | some p2 =>
      obtain ⟨d2, Ω2⟩ := p2
      rw [q2] at q
      cases d2 with
      | obj n =>
        dsimp only at q
        cases q3 : g ρ Ω2 with
        | none => rw [q3] at q; cases q
        | some p3 =>
          obtain ⟨kd, Ω3⟩ := p3
          rw [q3] at q
          dsimp only at q
          cases q4 : Ω3[n]? with
          | none => rw [q4] at q; cases q
          | some ob =>
            rw [q4] at q
            dsimp only at q
            cases q5 : putO ob kd v with
            | none => rw [q5] at q; cases q
            | some ob' =>
              rw [q5] at q
              cases q
              refine ⟨e, Ω, ρ, v, Ω1, eH, r.wf, r.rel, q1, fun uv e1 x1 w1 i1 => ?_⟩
              refine ⟨e1, Ω1, ρ, _, Ω2, rfl, w1, r.rel.ext x1, q2, fun uo e2 x2 w2 i2 => ?_⟩
              refine ⟨e2, Ω2, ρ, kd, Ω3, rfl, w2, (r.rel.ext x1).ext x2, q3, fun uk e3 x3 w3 i3 => ?_⟩
              have i2' := i2.ext x3
              rw [Is] at i2'
              obtain ⟨p, hα, rfl⟩ := i2'
              obtain ⟨H', hp, e4, rfl, w4, x4⟩ := dput_of w3 hα q4 q5 i3 (i1.ext (x2.trans x3))
              exact ⟨p, e4.H, rfl, hp, k e4 σ (r.to (((x1.trans x2).trans x3).trans x4) w4)⟩
      | _ => cases q
end
end DL
set_option Elab.async false
set_option linter.all false
set_option maxRecDepth 100000
set_option genSizeOf false
set_option bootstrap.genMatcherCode false
set_option genInjectivity true
/-! A DICT BY ITS ENTRIES: walked, counted; a pair taken out by a tuple. -/
namespace DR
open PySem PyProof.Rows
open Sem (wp)

noncomputable def RawD (h : Heap) (a : Addr) (es : Array DictEntry) (ep : Nat) : Prop := ∃ o, h.get? a = some o ∧ o.ExactDict ∧ o.data = .dict es ep
theorem RawD.ty {s : Shared} {a : Addr} {es : Array DictEntry} {ep : Nat} (r : RawD s.heap a es ep) : s.TypeIs (.ref a) "dict" := let ⟨o, h1, h2, _⟩ := r; ⟨o, h1, h2.1⟩
theorem RawD.to {h h' : Heap} {a : Addr} {es : Array DictEntry} {ep : Nat} (r : RawD h a es ep) (k : ∀ o, h.get? a = some o → h'.get? a = some o) : RawD h' a es ep := let ⟨o, h1, h2⟩ := r; ⟨o, k o h1, h2⟩
theorem RawD.lt {h : Heap} {a : Addr} {es : Array DictEntry} {ep : Nat} (r : RawD h a es ep) : a < h.objs.size := let ⟨_, h1, _⟩ := r; Heap.lt_size h1
section
variable {prog : Program} {w : World} {A : Around} {E : Value → Shared → Prop} {s : Shared} {d it : Addr} {es : Array DictEntry} {ep i : Nat}
theorem raw_iter {Q : Value → Shared → Prop} (hd : (d == sysModules) = false) (hm : RawD s.heap d es ep)
    (hq : Q (.ref s.heap.objs.size) { s with heap := s.heap.push { cls := .type "dict_keyiterator", data := .fields #[.ref d, .int 0 0, .int es.size 0, .int ep 0] } }) : wpAny (model prog w) A (pyIter (.ref d)) Q E s := by
  obtain ⟨o, ho, hc, hx⟩ := id hm
  have ty := hm.ty
  refine wpAny_pyIter_slot ty F.slot_dict_iter (wpAny_call_entry F.slot_dict_iter ty F.entry_dict_iter ?_ (F.args_dict_iter_1 _))
  unfold Builtin.«dict.__iter__»; refine wpAny_bind ?_
  unfold Builtin.Dict.dictSlotNone; refine wpAny_bind (wpAny_notOrdered_dict ty ?_)
  show wpAny _ _ (pure (Value.ref d)) _ _ s; refine wpAny_pure ?_
  show wpAny _ _ (Builtin.Dict.showsAll d >>= _) _ _ s; unfold Builtin.Dict.showsAll
  rw [if_neg (by rw [hd]; exact Bool.false_ne_true)]; refine wpAny_bind (wpAny_pure ?_)
  refine wpAny_bind (wpAny_dictEntries ho hx ?_); refine wpAny_bind (wpAny_dictEpoch ho hx ?_)
  refine wpAny_bind (wpAny_newObj_type (wpAny_pure ⟨_, rfl, "dict_keyiterator", _, ⟨_, Heap.get?_push_size _ rfl, rfl⟩, F.slot_dict_keyiterator_next.lookup, ?_⟩)); simpa [rawInt] using hq
theorem raw_item {Q : Option Value → Shared → Prop} (hit : s.heap.IsKeyIter it d i es.size ep) (hm : RawD s.heap d es ep) (hl : i < es.size)
    (hq : ∀ h', h'.IsKeyIter it d (i + 1) es.size ep → Heap.SameBut it s.heap h' → Q (some es[i].key) { s with heap := h' }) : wpAny (model prog w) A (pyNext (.ref it)) Q E s := by
  obtain ⟨o, ho, hc, hd⟩ := id hit
  obtain ⟨od, hod, hcd, hdd⟩ := id hm
  unfold pyNext
  refine wpAny_bind (wpAny_attempt (wpAny_callSpecial?_slot (name := Str.ofString "__next__") hit.typeIs F.slot_dict_keyiterator_next (wpAny_call_entry F.slot_dict_keyiterator_next hit.typeIs F.entry_dict_keyiterator_next ?_ (F.args_dict_keyiterator_next_1 _))))
  refine wpAny_bind (wpAny_pure ?_); refine wpAny_bind ?_; refine wpAny_bind ?_
  first | exact (wpAny_bind (wpAny_typeNameOfWhole_keyiter hit.typeIs (wpAny_pure (by fail)))) | (first | refine wpAny_bind (wpAny_typeNameOfWhole_keyiter hit.typeIs (wpAny_pure ?_)) | refine wpAny_bind (wpAny_typeNameOf_keyiter hit.typeIs (wpAny_pure ?_)))
  refine wpAny_bind (wpAny_fieldsOf ho hd ?_); have own0 : Builtin.Dict_items.ownsTuple "dict_keyiterator" = false := by decide
  simp only [own0, Bool.false_eq_true, if_false]; show wpAny _ _ (if (Value.ref d == Value.none) = true then _ else _) _ _ s
  rw [if_neg (show ¬ ((Value.ref d == Value.none) = true) from Bool.false_ne_true)]; refine wpAny_bind (wpAny_pure ?_)
  refine wpAny_bind (wpAny_dictEntries hod hdd ?_); rw [if_neg (by simp)]
  refine wpAny_bind (wpAny_pure ?_); refine wpAny_bind (wpAny_dictEpoch hod hdd ?_)
  rw [if_neg (by simp)]; refine wpAny_pure ?_
  simp only [show ¬ ((i : Int) < 0) from by omega, if_false, Int.toNat_natCast, Array.getElem?_eq_getElem hl]; refine wpAny_bind ?_
  first | refine wpAny_bind (wpAny_typeNameOfWhole_keyiter hit.typeIs (wpAny_pure ?_)) | skip
  first | refine wpAny_bind (wpAny_typeNameOf_keyiter hit.typeIs (wpAny_pure ?_)) | skip
  refine wpAny_bind (wpAny_isOneOf_keyiter hit.typeIs ?_); show wpAny _ _ (setField (.ref it) 1 (rawInt ((i : Int) + 1)) >>= _) _ _ s
  refine wpAny_bind (wpAny_setField ho hd (by simp) ?_)
  have it2 : (s.heap.update it (Obj.mapFields (·.setIfInBounds 1 (rawInt ((i : Int) + 1))))).IsKeyIter it d (i + 1) es.size ep :=
    ⟨_, Heap.get?_update_self _ ho (Obj.isFreed_of_fields (Obj.data_mapFields hd _)), (Obj.cls_mapFields ..).trans hc, by rw [Obj.data_mapFields hd]; simp [rawInt]⟩
  refine wpAny_bind (wpAny_holding ?_); refine wpAny_bind (wpAny_isOneOf_keyiter (s := { s with heap := s.heap.update it (Obj.mapFields (·.setIfInBounds 1 (rawInt ((i : Int) + 1)))) }) it2.typeIs ?_)
  show wpAny _ _ (pure es[i].key) _ _ _; exact wpAny_pure (wpAny_pure ⟨_, rfl, wpAny_pure (hq _ it2 (Heap.SameBut.update ..))⟩)
theorem raw_end {Q : Option Value → Shared → Prop} (hh : A.handled = none) (hit : s.heap.IsKeyIter it d i es.size ep) (hm : RawD s.heap d es ep) (hl : es.size ≤ i)
    (hq : ∀ h', Heap.ExtBut it s.heap h' → Q none { s with heap := h' }) : wpAny (model prog w) A (pyNext (.ref it)) Q E s := by
  obtain ⟨o, ho, hc, hd⟩ := id hit
  obtain ⟨od, hod, hcd, hdd⟩ := id hm
  unfold pyNext
  refine wpAny_bind (wpAny_attempt (wpAny_callSpecial?_slot (name := Str.ofString "__next__") hit.typeIs F.slot_dict_keyiterator_next (wpAny_call_entry F.slot_dict_keyiterator_next hit.typeIs F.entry_dict_keyiterator_next ?_ (F.args_dict_keyiterator_next_1 _))))
  refine wpAny_bind (wpAny_pure ?_); refine wpAny_bind ?_; refine wpAny_bind ?_
  first | exact (wpAny_bind (wpAny_typeNameOfWhole_keyiter hit.typeIs (wpAny_pure (by fail)))) | (first | refine wpAny_bind (wpAny_typeNameOfWhole_keyiter hit.typeIs (wpAny_pure ?_)) | refine wpAny_bind (wpAny_typeNameOf_keyiter hit.typeIs (wpAny_pure ?_)))
  refine wpAny_bind (wpAny_fieldsOf ho hd ?_); have own0 : Builtin.Dict_items.ownsTuple "dict_keyiterator" = false := by decide
  simp only [own0, Bool.false_eq_true, if_false]; show wpAny _ _ (if (Value.ref d == Value.none) = true then _ else _) _ _ s
  rw [if_neg (show ¬ ((Value.ref d == Value.none) = true) from Bool.false_ne_true)]; refine wpAny_bind (wpAny_pure ?_)
  refine wpAny_bind (wpAny_dictEntries hod hdd ?_); rw [if_neg (by simp)]
  refine wpAny_bind (wpAny_pure ?_); refine wpAny_bind (wpAny_dictEpoch hod hdd ?_)
  rw [if_neg (by simp)]; refine wpAny_pure ?_
  simp only [show ¬ ((i : Int) < 0) from by omega, if_false, Int.toNat_natCast, Array.getElem?_eq_none hl]; refine wpAny_bind ?_
  first | refine wpAny_bind (wpAny_typeNameOfWhole_keyiter hit.typeIs (wpAny_pure ?_)) | skip
  first | refine wpAny_bind (wpAny_typeNameOf_keyiter hit.typeIs (wpAny_pure ?_)) | skip
  show wpAny _ _ (setField (.ref it) 0 .none >>= _) _ _ s; refine wpAny_bind (wpAny_setField ho hd (by simp) ?_)
  show wpAny _ _ (newExc (.type "StopIteration") [] >>= _) _ _ _; refine wpAny_bind ?_
  simp only [newExc, newTuple]; refine wpAny_bind (wpAny_newObj_type ?_ (by size_fits))
  refine wpAny_bind (m := firstArgMember _ _) (wpAny_of_eq (a := Value.none) (by first | rfl | (simp only [firstArgMember]; rfl)) ?_); refine wpAny_newObj_type ?_ (by size_fits)
  simp only [raiseNew]; refine wpAny_bind (wpAny_handled ?_)
  rw [show A.in1.handled = none from hh]; refine wpAny_bind (wpAny_pure (wpAny_throw ?_))
  refine wpAny_bind (wpAny_isInstance (T := "StopIteration") (b := true) ⟨_, Heap.get?_push_size _ rfl, rfl⟩ isSubtype_stop ?_); exact wpAny_pure (hq _ (((Heap.SameBut.update ..).extBut.push _).push _))
theorem raw_walk (hh : A.handled = none) (I : Addr) (hne : d ≠ I) : Walks prog w A I [I, d] [I] es.size (fun i v => (es[i]?).map (·.key) = some v) (fun i h => h.IsKeyIter I d i es.size ep ∧ RawD h d es ep) where
  sub := fun b hb => by simp at hb; simp [hb]
  frame := fun _ _ _ st hk => ⟨st.1.at (hk I (by simp)), st.2.to (hk d (by simp))⟩
  item := fun i s Q E hi st hQ => raw_item st.1 st.2 hi fun h' it' hs' => hQ _ h' s.toks (by simp [hi]) ⟨it', st.2.to fun o e => hs'.extBut d o hne e⟩ fun b o hb e => hs'.extBut b o (fun z => hb (by simp [z])) e
  done := fun s Q E st hQ => raw_end hh st.1 st.2 (Nat.le_refl _) fun h' he' => hQ h' s.toks fun b o hb e => he' b o (fun z => hb (by simp [z])) e
  self := fun _ _ _ _ st hQ => wpAny_pyIter_keyiter st.1 hQ
theorem raw_src (lo : (d == sysModules) = false) : PySem.W.KdlSrc prog w "dict" d d es.size (fun i v => (es[i]?).map (·.key) = some v) (fun h => RawD h d es ep) where
  type := fun s hm => RawD.ty hm
  there := fun _ hm => ⟨hm.lt, hm.lt⟩
  keep := fun _ _ hm hk => hm.to fun o e => hk d (.inl rfl) o e
  notList := by decide
  notTuple := by decide
  hint := fun _ _ s _ hm hq => PySem.W.kdl_hint_dict (RawD.ty hm) hq
  iter := fun _ s hh hm => ⟨_, _, (fun _ _ hq => raw_iter lo hm hq), raw_walk hh _ (Nat.ne_of_lt hm.lt), ⟨⟨_, Heap.get?_push_size _ rfl, rfl, rfl⟩, hm.to fun o e => Heap.get?_push_of_some _ e⟩⟩
end

/-! ### pop of a heap key -/
section
variable {κ : Type} [DecidableEq κ]
noncomputable def outH (xs : List (κ × Addr × Value)) (k : κ) : List (κ × Addr × Value) := xs.filter fun x => decide (x.1 ≠ k)
theorem outH_no : ∀ {xs : List (κ × Addr × Value)} {k : κ}, k ∉ xs.map (·.1) → outH xs k = xs := fun {xs k} h => by
  unfold outH
  rw [List.filter_eq_self]
  intro x hx
  exact decide_eq_true fun e => h (List.mem_map.mpr ⟨x, hx, e⟩)
theorem outH_erase : ∀ {xs : List (κ × Addr × Value)} {k : κ} {j : Nat} {p : Addr × Value}, (xs.map (·.1)).Nodup → xs[j]? = some (k, p) → outH xs k = xs.eraseIdx j
  | [], _, _, _, _, h => by simp at h
  | x :: r, k, 0, p, hn, h => by
    rw [List.getElem?_cons_zero] at h
    cases h
    rw [List.map_cons, List.nodup_cons] at hn
    rw [List.eraseIdx_cons_zero]
    show List.filter _ _ = _
    rw [List.filter_cons_of_neg (by simp)]
    exact outH_no hn.1
  | x :: r, k, j + 1, p, hn, h => by
    rw [List.getElem?_cons_succ] at h
    rw [List.map_cons, List.nodup_cons] at hn
    have ne : ¬ x.1 = k := fun e => hn.1 (e ▸ List.mem_map.mpr ⟨(k, p), List.mem_of_getElem? h, rfl⟩)
    rw [List.eraseIdx_cons_succ, ← outH_erase hn.2 h]
    show List.filter _ _ = _
    rw [List.filter_cons_of_pos (by simp [ne])]
    rfl
theorem map_erase {α β : Type} (f : α → β) : ∀ (l : List α) (j : Nat), (l.eraseIdx j).map f = (l.map f).eraseIdx j
  | [], _ => rfl
  | _ :: _, 0 => rfl
  | x :: l, j + 1 => by rw [List.eraseIdx_cons_succ, List.map_cons, List.map_cons, List.eraseIdx_cons_succ, map_erase f l j]
variable {prog : Program} {w : World} {knd : HeapKind prog w κ} {A : Around} {E : Value → Shared → Prop} {s : Shared}
theorem out_heap {d a : Addr} {xs : List (κ × Addr × Value)} {k : κ} {p : Addr × Value} {Q : Option DictEntry → Shared → Prop} (hu : knd.room A) (hkey : knd.is s.heap k a) (hm : s.heap.DictOfH knd d xs) (hp : atKey xs k = some p)
    (hsome : ∀ e h', e.val = p.2 → h'.DictOfH knd d (outH xs k) → Heap.SameBut d s.heap h' → Q (some e) { s with heap := h', toks := s.toks + knd.draws k }) (hsz : xs.length ≤ sizeLine) :
    wpAny (model prog w) A (Builtin.Dict.takeOut d (.ref a)) Q E s := by
  obtain ⟨o, es, ep, ho, hc, hd, he, his, hn⟩ := hm
  unfold Builtin.Dict.takeOut
  try with_reducible refine wpAny_holding ?_
  refine wpAny_bind (knd.pyHash hu hkey (wpAny_bind (wpAny_dictFind_heap (s := { s with toks := s.toks + knd.draws k }) hu hkey ho hd he his hn (fun hno => ?_) (fun j p' hj => ?_))))
  · rw [atKey_none_of_get hno] at hp; cases hp
  · rw [atKey_of_get hn hj] at hp
    cases hp
    refine wpAny_bind (wpAny_dictEntries (s := { s with toks := s.toks + knd.draws k }) ho hd ?_)
    rw [entry_at he j, hj]
    refine wpAny_bind (wpAny_updateDictKeys (hz := by have e := size_of_entries he; omega) (s := { s with toks := s.toks + knd.draws k }) ho hd (wpAny_pure (hsome _ _ rfl ⟨_, _, ep + 1, Heap.get?_update_self _ ho (Obj.isFreed_of_dict (Obj.data_mapDictKeys hd _)), hc.mapDictKeys _, Obj.data_mapDictKeys hd _, ?_, ?_, ?_⟩ (Heap.SameBut.update ..))))
    · rw [outH_erase hn hj, map_erase, ← he]
      obtain ⟨l⟩ := es
      simp
    · intro x hx
      exact knd.keeps (his x (List.mem_filter.mp hx).1) ho hd (Heap.SameBut.update ..)
    · exact hn.sublist (List.filter_sublist.map _)
theorem pop_heap {d a : Addr} {xs : List (κ × Addr × Value)} {k : κ} {p : Addr × Value} {R : Result → Shared → Prop} (hu : knd.room A.in1) (hkey : knd.is s.heap k a) (hm : s.heap.DictOfH knd d xs) (hp : atKey xs k = some p) (hsz : xs.length ≤ sizeLine)
    (h : ∀ h', h'.DictOfH knd d (outH xs k) → Heap.SameBut d s.heap h' → R (.ok (.ret p.2)) { s with heap := h', toks := s.toks + knd.draws k }) :
    wpAny (model prog w) A.in1 (Builtin.«dict.pop» ⟨[.ref d, .ref a], []⟩) (fun fin s' => match fin with | .done f => R (.ok f) s' | .again c' => c'.quiet = true ∧ codeAny (model prog w) A c' R s') (fun e s' => R (.error e) s') s := by
  obtain ⟨o, es, ep, ho, hc, hd, he, his, hn⟩ := id hm
  have ne : es.isEmpty = false := by
    rw [Array.isEmpty_eq_false_iff]
    intro z
    rw [z] at he
    have e2 : xs = [] := by
      cases xs with
      | nil => rfl
      | cons x r => simp at he
    rw [e2] at hp
    cases hp
  unfold Builtin.«dict.pop»; refine wpAny_bind ?_
  unfold Builtin.Dict.keyAndDefault; refine wpAny_bind (wpAny_notOrdered_dict hm.typeIs ?_)
  show wpAny _ _ (pure (d, Value.ref a, none)) _ _ s; refine wpAny_pure ?_
  dsimp only; rw [if_neg (show ¬ ((keyPart (Value.ref a)).isSome = true) from by simp [keyPart])]
  refine wpAny_bind (wpAny_dictEntries ho hd ?_); refine wpAny_bind (wpAny_pure ?_)
  rw [ne]; simp only [Bool.false_eq_true, if_false]
  refine wpAny_bind (out_heap hu hkey hm hp (fun e h' hv hm' hs' => ?_) hsz)
  simp only [Option.isNone_some, Bool.false_eq_true, if_false]; refine wpAny_bind (wpAny_letGo (wpAny_pure ?_))
  show R (.ok (.ret e.val)) _
  rw [hv]; exact h h' hm' hs'
theorem popH (d a : Addr) : MeetsIn prog w (Builtin.«dict.pop» ⟨[.ref d, .ref a], []⟩) (fun A R s => knd.room A.in1 ∧ ∃ k xs p, knd.is s.heap k a ∧ s.heap.DictOfH knd d xs ∧ atKey xs k = some p ∧ xs.length ≤ sizeLine ∧
    ∀ h', h'.DictOfH knd d (outH xs k) → Heap.SameBut d s.heap h' → R (.ok (.ret p.2)) { s with heap := h', toks := s.toks + knd.draws k }) :=
  fun A R s hw' => by obtain ⟨hu, k, xs, p, h1, h2, h3, h4, h⟩ := hw'; exact pop_heap hu h1 h2 h3 h4 h
end
end DR
set_option Elab.async false
set_option linter.all false
set_option maxRecDepth 100000
set_option genSizeOf false
set_option bootstrap.genMatcherCode false
set_option genInjectivity true
namespace L2
open PySem PySem.Spec PyProof.Rows
theorem KT.out {H : Hp} {kvs : List (List Key × V)} {xs : List (List Key × Addr × Value)} (r : KT H kvs xs) (k : List Key) : KT H (dropK kvs k) (DR.outH xs k) := by
  induction r with
  | nil => exact .nil
  | @cons p q ps qs h t ih =>
    unfold dropK DR.outH
    by_cases e : p.1 = k
    · rw [List.filter_cons_of_neg (by simp [e]), List.filter_cons_of_neg (by simp [← h.1, e])]; exact ih
    · rw [List.filter_cons_of_pos (by simp [e]), List.filter_cons_of_pos (by simp [← h.1, e])]; exact .cons h ih
section
variable {X : Cx} {pins : List (Addr × Obj)} {σ : St} {H : Hp} {s : Shared} {a b : Addr} {A : Around} {E : Value → Shared → Prop}
/-- d.pop(t), t a tuple that is there -/
theorem d_popT {kvs : List (List Key × V)} {k : List Key} {v : V} {Q : Value → Shared → Prop} (hu : A.units + 1 < cLine) (I : Inv X pins σ H s) (e : H a = some (.dT kvs)) (eb : H b = some (.tup (k.map kV))) (l : valV kvs k = some v)
    (h : ∀ w' s', Inv X pins σ (upd H a (.dT (dropK kvs k))) s' → RelV v w' → Q w' s') : wpAny (model X.prog X.w) A (call (.builtin "dict.pop") [.ref a, .ref b]) Q E s := by
  obtain ⟨z, hd, xs, rel, dd⟩ := dt_of I.hok e
  obtain ⟨w', hw, rw'⟩ := RelO.some_of (v := v) (o := (atKey xs k).map (·.2)) (by rw [← l]; exact rel.val k)
  obtain ⟨p, hp, hp2⟩ := Option.map_eq_some_iff.mp hw
  have hz : xs.length ≤ sizeLine := by rw [← Paired.length rel]; exact z
  have hl : (dropK kvs k).length ≤ sizeLine := Nat.le_trans (dropK_le kvs k) z
  refine call_meetsIn PySem.F.slot_dict_pop dd.typeIs PySem.F.entry_dict_pop (PySem.F.args_dict_pop_2 _ _) (DR.popH (knd := tupleKind (mixKind X.prog X.w)) a b) ⟨tupleKind_room_in1 hu, k, xs, p, key_of I.hok eb, dd, hp, hz, fun h' dd' hs => ?_⟩
  obtain ⟨q, es, ep, hq, h2, h3, h4, _, h5⟩ := dd'
  show Q p.2 _
  rw [hp2]
  refine h w' _ (d_write I (by rw [e]; exact True.intro) hs ⟨q, hq⟩ ⟨hl, hd, _, (rel.out k).keeps fun c ys ec => ?_, q, es, ep, hq, h2, h3, h4, h5⟩) rw'
  rw [upd_ne (ne_of ec e (fun z => nomatch z))]
  exact ec
/-- list(d), tuple keys -/
theorem d_listT {kvs : List (List Key × V)} {Q : Value → Shared → Prop} (hh : A.handled = none) (I : Inv X pins σ H s) (e : H a = some (.dT kvs))
    (h : ∀ (bs : List Addr) (p : Addr) s', H p = none → Paired (fun (x : List Key × V) (b : Addr) => H b = some (.tup (x.1.map kV))) kvs bs → Inv X pins σ (upd H p (.lst (bs.map V.ref))) s' → Q (.ref p) s') :
    wpAny (model X.prog X.w) A (call (.type "list") [.ref a]) Q E s := by
  obtain ⟨z, hd, xs, rel, o, es, ep, h1, h2, h3, h4, h5⟩ := (show ObjOk X.prog X.w H s.heap a (.dT kvs) from I.hok a _ e)
  have en : es.size = kvs.length := by rw [← Array.length_toList, h4, List.length_map, Paired.length rel]
  refine PySem.W.kdl_call (DR.raw_src (es := es) (ep := ep) hd) hh ⟨o, h1, h2, h3⟩ (by rw [en]; exact z) fun h' tk acc' c' hk hS hacc => ?_
  have ea : acc'.toList = (xs.map fun x => Value.ref x.2.1) := by
    apply List.ext_getElem?
    intro i
    rw [List.getElem?_map, Array.getElem?_toList]
    by_cases hi : i < acc'.size
    · have q : (es[i]?).map (·.key) = some acc'[i] := hacc.2 i acc'[i] (Array.getElem?_eq_getElem hi)
      rw [entry_at h4 i] at q
      rw [Array.getElem?_eq_getElem hi, ← q]
      cases xs[i]? <;> rfl
    · have hx : xs.length ≤ i := by rw [← Paired.length rel, ← en, ← hacc.1]; omega
      rw [Array.getElem?_eq_none (by omega), List.getElem?_eq_none hx]; rfl
  have pr : ∀ {l : List (List Key × V)} {m : List (List Key × Addr × Value)}, KT H l m → Paired (fun (x : List Key × V) (b : Addr) => H b = some (.tup (x.1.map kV))) l (m.map (·.2.1)) := by
    intro l m q
    induction q with
    | nil => exact .nil
    | cons h t ih => exact .cons h.2.1 ih
  have vr : ∀ l : List (List Key × Addr × Value), Vals ((l.map (·.2.1)).map V.ref) (l.map fun x => Value.ref x.2.1) := by
    intro l
    induction l with
    | nil => exact .nil
    | cons x r ih => exact .cons rfl ih
  refine h (xs.map (·.2.1)) s.heap.objs.size _ (I.hok.fresh (Nat.le_refl _)) (pr rel) (I.laid hk (Nat.le_refl _) ⟨?_, (xs.map fun x => Value.ref x.2.1), c', vr xs, ?_⟩)
  · rw [List.length_map, List.length_map, ← Paired.length rel]; exact z
  · rw [hS, ← ea]
/-- list(d), keys ints and texts -/
theorem d_listK {kvs : List (Key × V)} {Q : Value → Shared → Prop} (hh : A.handled = none) (I : Inv X pins σ H s) (e : H a = some (.dK kvs))
    (h : ∀ (p : Addr) s', H p = none → Inv X pins σ (upd H p (.lst (kvs.map fun x => kV x.1))) s' → Q (.ref p) s') :
    wpAny (model X.prog X.w) A (call (.type "list") [.ref a]) Q E s := by
  obtain ⟨z, hd, vs, rel, dd⟩ := dk_of I.hok e
  obtain ⟨ep, da⟩ := dd.dictAt
  refine PySem.W.kdl_call (PySem.W.kdl_dict (knd := mixKind X.prog X.w) (kvs := vs) (ep := ep) hd) hh da (by rw [← rel.length]; exact z) fun h' tk acc' c' hk hS hacc => ?_
  have va : ∀ (l : List (Key × V)) (us : List Value), us.length = l.length → (∀ (i : Nat) (u : Value), us[i]? = some u → ∃ (k : Key) (x : Unit), (l[i]?).map (fun (y : Key × V) => y.1) = some k ∧ (mixKind X.prog X.w).is k u = true ∧ x = ()) → Vals (l.map fun x => kV x.1) us := by
    intro l
    induction l with
    | nil => intro us hl _; cases us with
      | nil => exact .nil
      | cons u r => simp at hl
    | cons p r ih =>
      intro us hl hx
      cases us with
      | nil => simp at hl
      | cons u t =>
        obtain ⟨k, _, h1, h2, _⟩ := hx 0 u rfl
        simp at h1
        subst h1
        refine .cons ?_ (ih t (by simpa using hl) fun i u hi => ?_)
        · rcases keyIs_shape h2 with ⟨i, t, e1, e2⟩ | ⟨x, t, e1, e2⟩
          · show RelV (kV p.1) u; rw [e1]; exact ⟨t, e2⟩
          · show RelV (kV p.1) u; rw [e1]; exact ⟨t, e2⟩
        · obtain ⟨k, x, z1, z2⟩ := hx (i + 1) u (by simpa using hi)
          exact ⟨k, x, by simpa using z1, z2⟩
  have hk2 := rel.keys
  refine h s.heap.objs.size _ (I.hok.fresh (Nat.le_refl _)) (I.laid hk (Nat.le_refl _) ⟨by rw [List.length_map]; exact z, acc'.toList, c', va kvs _ ?_ fun i u hi => ?_, ?_⟩)
  · rw [Array.length_toList, hacc.1, rel.length]
  · rw [Array.getElem?_toList] at hi
    obtain ⟨k, x, z1, z2⟩ := hacc.2 i u hi
    refine ⟨k, (), ?_, z2, rfl⟩
    have q : (kvs.map (·.1))[i]? = (vs.map (·.1))[i]? := by rw [hk2]
    rw [List.getElem?_map, List.getElem?_map, z1] at q
    exact q
  · rw [hS]
end
/-- d.pop(e), the key there -/
noncomputable def tPop (td ty : TE) : TE := fun σ H Q => td σ H fun x H1 => ∃ a, x = .ref a ∧ IsD H1 a ∧ ty σ H1 fun y H2 => (∃ kvs k v, H2 a = some (.dK kvs) ∧ y = kV k ∧ valV kvs k = some v ∧ Q v (upd H2 a (.dK (dropK kvs k)))) ∨
  ∃ kvs k b v, H2 a = some (.dT kvs) ∧ y = .ref b ∧ H2 b = some (.tup (k.map kV)) ∧ valV kvs k = some v ∧ Q v (upd H2 a (.dT (dropK kvs k)))
section
variable {X : Cx} {o e : Expr} {apos cpos : Pos} {td ty : TE}
theorem pe_pop (hu : X.A.units + 1 < cLine) (ho : PE X o td) (he : PE X e ty) (m : M1 X o "pop" apos e cpos) : PE X (.Call (.Attribute o "pop" apos) [e] [] cpos) (tPop td ty) := by
  intro pins s σ H Q I h
  refine wpAny_Call_method m.base m.few m.line PySem.F.plainAttrs_dict PySem.F.slot_dict_pop PySem.F.type_dict_pop (thn (ho pins s σ H _ I h) fun u s1 hw' => ?_)
  obtain ⟨x, H1, I1, rx, a, ex, d, q1⟩ := hw'
  subst ex; obtain rfl : u = Value.ref a := rx
  obtain ⟨t1, t2, _⟩ := isD_at I1 d
  refine ⟨t1, t2, ?_⟩; rw [m.trees]
  refine Calls.callWith_builtin rfl (Calls.evalArgs_plain (Calls.spliced_cons (thn (he pins s1 σ H1 _ I1 q1) fun iv s2 ⟨y, H2, I2, ry, q2⟩ => Calls.spliced_nil ?_)))
  rcases q2 with ⟨kvs, k, v, ea, ey, l, q2⟩ | ⟨kvs, k, b, v, ea, ey, eb, l, q2⟩
  · subst ey; exact d_pop I2 ea ry l (.inl rfl) fun w' s3 I3 rw' => ⟨v, _, I3, rw', q2⟩
  · subst ey; obtain rfl : iv = Value.ref b := ry; exact d_popT hu I2 ea eb l fun w' s3 I3 rw' => ⟨v, _, I3, rw', q2⟩
theorem call_listO (hh : X.A.handled = none) : CallR X (.type "list") (fun xs H Q => ∃ a, xs = [V.ref a] ∧ ((∃ kvs, H a = some (.dK kvs) ∧ ∀ p, H p = none → Q (.ref p) (upd H p (.lst (kvs.map fun x => kV x.1)))) ∨
    ∃ kvs, H a = some (.dT kvs) ∧ ∀ (bs : List Addr) p, H p = none → Paired (fun (x : List Key × V) (b : Addr) => H b = some (.tup (x.1.map kV))) kvs bs → Q (.ref p) (upd H p (.lst (bs.map V.ref))))) := by
  intro pins s σ H xs us Q I r h
  obtain ⟨a, rfl, h⟩ := h
  obtain ⟨u, rfl, ru⟩ := vals1 r
  cases ru
  rcases h with ⟨kvs, ha, q⟩ | ⟨kvs, ha, q⟩
  · exact d_listK hh I ha fun p s' hp I' => ⟨.ref p, _, I', rfl, q p hp⟩
  · exact d_listT hh I ha fun bs p s' hp pr I' => ⟨.ref p, _, I', rfl, q bs p hp pr⟩
end
end L2
set_option Elab.async false
set_option linter.all false
set_option maxRecDepth 100000
set_option genSizeOf false
set_option bootstrap.genMatcherCode false
set_option genInjectivity true
namespace DL
open PySem PySem.Spec PyProof.Rows L2

/-! ### d.pop(k), len(d), list(d) -/
noncomputable def dropO : OS → D → Option (D × OS)
  | .dK kvs, d => (match keyD d with | some k => (match valD kvs k with | some v => some (v, .dK (dropD kvs k)) | none => none) | none => none)
  | .dT kvs, d => (match tkeyD d with | some k => (match valD kvs k with | some v => some (v, .dT (dropD kvs k)) | none => none) | none => none)
  | _, _ => none
noncomputable def gDPop (go gk : Den) : Den := fun ρ Ω => match go ρ Ω with
  | some (.obj n, Ω1) => (match Ω1[n]? with
    | some o => if isDct o = true then (match gk ρ Ω1 with
      | some (k, Ω2) => (match Ω2[n]? with
        | some o2 => (match dropO o2 k with | some (v, o3) => some (v, Ω2.set n o3) | none => none)
        | none => none)
      | none => none) else none
    | none => none)
  | _ => none
noncomputable def keysO : OS → Option (List D)
  | .dK kvs => some (kvs.map fun x => ofK x.1)
  | .dT kvs => some (kvs.map fun x => .tup (x.1.map ofK))
  | _ => none
noncomputable def gDList (go : Den) : Den := fun ρ Ω => match go ρ Ω with
  | some (.obj n, Ω1) => (match Ω1[n]? with
    | some o => (match keysO o with | some ks => some (.lst ks, Ω1) | none => none)
    | none => none)
  | _ => none
section
variable {K : PySem.W.Frag} {C : Cl} {e : E4} {Ω : List OS}
theorem Wf.tups (w : Wf K C e Ω) : ∃ e1 : E4, e1.H = e.H ∧ e1.α = e.α ∧ Ext e e1 ∧ Wf K C e1 Ω ∧ ∀ b xs, e.H b = some (.tup xs) → e1.F b = some (.tup xs) := by
  let F' : Hp := fun b => match e.H b with
    | some (.tup xs) => some (.tup xs)
    | _ => e.F b
  have ft : ∀ b xs, e.H b = some (.tup xs) → F' b = some (.tup xs) := fun b xs h => by show (match e.H b with | some (.tup xs) => some (HO.tup xs) | _ => e.F b) = _; rw [h]
  have fo : ∀ b, (∀ xs, e.H b ≠ some (.tup xs)) → F' b = e.F b := fun b h => by
    show (match e.H b with | some (.tup xs) => some (HO.tup xs) | _ => e.F b) = _
    cases q : e.H b with
    | none => rfl
    | some o => cases o <;> first | rfl | exact absurd q (h _)
  have ff : Same e.F F' := fun b o h => by
    by_cases q : ∃ xs, e.H b = some (.tup xs)
    · obtain ⟨xs, q⟩ := q
      rw [ft b xs q, ← q]; exact w.fh b o h
    · rw [fo b fun xs z => q ⟨xs, z⟩]; exact h
  have fh : Same F' e.H := fun b o h => by
    by_cases q : ∃ xs, e.H b = some (.tup xs)
    · obtain ⟨xs, q⟩ := q
      rw [ft b xs q] at h; rw [q]; exact h
    · rw [fo b fun xs z => q ⟨xs, z⟩] at h; exact w.fh b o h
  refine ⟨⟨e.α, F', e.A, e.H⟩, rfl, rfl, ⟨fun _ _ _ h => h, fun _ _ h _ => h, fun _ o h => ⟨o, h⟩, ff, fun b o h => ?_, fun _ h => .inl h, fun _ h => h, [], by simp⟩, ⟨fh, fun b h => ?_, w.ah, w.ol, w.nd, fun n a o h1 h2 => ⟨(w.ob n a o h1 h2).1, (w.ob n a o h1 h2).2.keep (fun _ z => z) ff ⟨[], by simp⟩⟩⟩, ft⟩
  · have h : F' b = some o := h
    by_cases q : ∃ xs, e.H b = some (.tup xs)
    · obtain ⟨xs, q⟩ := q
      rw [ft b xs q] at h
      cases h
      exact .inr (.inr ⟨⟨xs, rfl⟩, q, fun z => (w.ah b z).2 xs q⟩)
    · rw [fo b fun xs z => q ⟨xs, z⟩] at h; exact .inl h
  · show F' b = none
    rw [fo b (w.ah b h).2]; exact w.fa b h
theorem dpop_of (w : Wf K C e Ω) {n : Nat} {a : Addr} {o o' : OS} {d x : D} {y : V} {Q : VK} (hα : e.α[n]? = some a) (hΩ : Ω[n]? = some o) (hp : dropO o d = some (x, o')) (i : Is K e.α e.F d y)
    (k : ∀ v e', Ext e e' → Wf K C e' (Ω.set n o') → Is K e'.α e'.F x v → Q v e'.H) :
    (∃ kvs k v, e.H a = some (.dK kvs) ∧ y = kV k ∧ valV kvs k = some v ∧ Q v (upd e.H a (.dK (dropK kvs k)))) ∨
    ∃ kvs k b v, e.H a = some (.dT kvs) ∧ y = .ref b ∧ e.H b = some (.tup (k.map kV)) ∧ valV kvs k = some v ∧ Q v (upd e.H a (.dT (dropK kvs k))) := by
  have ob := (w.ob n a o hα hΩ).2
  unfold dropO at hp
  cases o with
  | dK kvs =>
    obtain ⟨vs, h1, h2⟩ := ob
    dsimp only at hp
    cases q : keyD d with
    | none => rw [q] at hp; cases hp
    | some kk =>
      rw [q] at hp
      dsimp only at hp
      cases q2 : valD kvs kk with
      | none => rw [q2] at hp; cases hp
      | some v0 =>
        rw [q2] at hp
        cases hp
        have ov := h2.val kk
        rw [q2] at ov
        obtain ⟨v, e1, iv⟩ := ov.some_of
        obtain ⟨w', x'⟩ := w.at (o' := .dK (dropD kvs kk)) (ho := .dK (dropK vs kk)) hα (fun xs z => nomatch z) ⟨_, upd_same, h2.drop kk⟩ fun o u z => by rw [h1] at z; cases z
        exact .inl ⟨vs, kk, v, h1, keyD_v q i, e1, k v (e.at a _) x' w' iv⟩
  | dT kvs =>
    obtain ⟨vs, h1, h2⟩ := ob
    dsimp only at hp
    cases q : tkeyD d with
    | none => rw [q] at hp; cases hp
    | some kk =>
      rw [q] at hp
      dsimp only at hp
      cases q2 : valD kvs kk with
      | none => rw [q2] at hp; cases hp
      | some v0 =>
        rw [q2] at hp
        cases hp
        have ov := h2.val kk
        rw [q2] at ov
        obtain ⟨v, e1, iv⟩ := ov.some_of
        obtain ⟨b, rfl, hb⟩ := tkeyD_v q i
        obtain ⟨w', x'⟩ := w.at (o' := .dT (dropD kvs kk)) (ho := .dT (dropK vs kk)) hα (fun xs z => nomatch z) ⟨_, upd_same, h2.drop kk⟩ fun o u z => by rw [h1] at z; cases z
        exact .inr ⟨vs, kk, b, v, h1, rfl, w.fh _ _ hb, e1, k v (e.at a _) x' w' iv⟩
  | _ => cases hp
end
theorem obj_ext {K : PySem.W.Frag} {e e' : E4} {n : Nat} {p : Addr} (x : Ext e e') (h : e.α[n]? = some p) : e'.α[n]? = some p := by
  obtain ⟨more, z⟩ := x.al
  rw [z, List.getElem?_append_left (List.getElem?_eq_some_iff.mp h).1]; exact h
section
variable {X : Cx} {C : Cl} {a b x : Expr} {f g h : Den} {ga : ADen} {pos pos' ap cp : Pos}
theorem pd_dpop (hu : X.A.units + 1 < cLine) (ho : PD X C a f) (hi : PD X C b g) (m : M1 X a "pop" ap b cp) : PD X C (.Call (.Attribute a "pop" ap) [b] [] cp) (gDPop f g) := pe_imp (pe_pop hu ho hi m) fun σ H Q hw' => by
  obtain ⟨e, Ω, ρ, d, Ω', eH, w, rl, q, kk⟩ := hw'
  unfold gDPop at q
  cases q1 : f ρ Ω with
  | none => rw [q1] at q; cases q
  | some p1 =>
    obtain ⟨d1, Ω1⟩ := p1
    rw [q1] at q
    cases d1 with
    | obj n =>
      dsimp only at q
      cases q0 : Ω1[n]? with
      | none => rw [q0] at q; cases q
      | some o0 =>
        rw [q0] at q
        dsimp only at q
        by_cases hd : isDct o0 = true
        · rw [if_pos hd] at q
          cases q2 : g ρ Ω1 with
          | none => rw [q2] at q; cases q
          | some p2 =>
            obtain ⟨k, Ω2⟩ := p2
            rw [q2] at q
            dsimp only at q
            cases q3 : Ω2[n]? with
            | none => rw [q3] at q; cases q
            | some o =>
              rw [q3] at q
              dsimp only at q
              cases q4 : dropO o k with
              | none => rw [q4] at q; cases q
              | some r =>
                obtain ⟨v0, o3⟩ := r
                rw [q4] at q
                cases q
                refine ⟨e, Ω, ρ, _, Ω1, eH, w, rl, q1, fun v e1 x1 w1 i1 => ?_⟩
                rw [Is] at i1
                obtain ⟨p, hα, rfl⟩ := i1
                refine ⟨p, rfl, isD_of w1 hα q0 hd, ?_⟩
                refine ⟨e1, Ω1, ρ, k, _, rfl, w1, rl.ext x1, q2, fun u e2 x2 w2 i2 => ?_⟩
                exact dpop_of w2 (obj_ext (K := X.K) x2 hα) q3 q4 i2 fun v e' x' w' iv => kk v e' ((x1.trans x2).trans x') w' iv
        · rw [if_neg hd] at q; cases q
    | _ => cases q
theorem keysT_is {K : PySem.W.Frag} {α : List Addr} {F H : Hp} (hF : ∀ b xs, H b = some (.tup xs) → F b = some (.tup xs)) : ∀ {kvs : List (List Key × D)} {vs : List (List Key × V)} {bs : List Addr}, kvs.map (·.1) = vs.map (·.1) →
    Paired (fun (x : List Key × V) (b : Addr) => H b = some (.tup (x.1.map kV))) vs bs → IsL K α F (kvs.map fun x => .tup (x.1.map ofK)) (bs.map V.ref)
  | [], [], _, _, .nil => .nil
  | p :: r, v :: t, _, e, .cons h q => by
    rw [List.map_cons, List.map_cons] at e
    injection e with e1 e2
    refine .cons ?_ (keysT_is hF e2 q)
    rw [Is]
    rw [e1]
    exact ⟨_, _, rfl, hF _ _ h, ofKs_is v.1⟩
theorem keysK_is {K : PySem.W.Frag} {α : List Addr} {F : Hp} : ∀ {kvs : List (Key × D)} {vs : List (Key × V)}, kvs.map (·.1) = vs.map (·.1) → IsL K α F (kvs.map fun x => ofK x.1) (vs.map fun x => kV x.1)
  | [], [], _ => .nil
  | p :: r, v :: t, e => by
    rw [List.map_cons, List.map_cons] at e
    injection e with e1 e2
    refine .cons ?_ (keysK_is e2)
    show Is K α F (ofK p.1) (kV v.1)
    rw [e1]; exact ofK_is v.1
theorem pd_dlist {n : Str} {p : Pos} (hh : X.A.handled = none) (hg : Gl X n) (hm : X.mg n = none) (hv : bootBuiltins n = some (.type "list")) (ho : PD X C a f) (hn : n ≠ "__name__" := by decide) (hdb : (n == ("__debug__" : Str)) = false := by decide)
    (he : starEach [a] X.env = (false, eval a X.env) :: starEach [] X.env := by rfl) (hpl : (backTo pos (starEach [] X.env)).any (·.1) = false := by rfl) : PD X C (.Call (.Name n p) [a] [] pos) (gDList f) :=
  pe_imp (pe_callTy (call_listO hh) hg hm hv (pa_cons ho pa_nil he) hn hdb he hpl) fun σ H Q hw' => by
    obtain ⟨e, Ω, ρ, d, Ω', eH, w, rl, q, kk⟩ := hw'
    unfold gDList at q
    cases q1 : f ρ Ω with
    | none => rw [q1] at q; cases q
    | some p1 =>
      obtain ⟨d1, Ω1⟩ := p1
      rw [q1] at q
      cases d1 with
      | obj n =>
        dsimp only at q
        cases q0 : Ω1[n]? with
        | none => rw [q0] at q; cases q
        | some o0 =>
          rw [q0] at q
          refine ⟨e, Ω, ρ, _, Ω1, eH, w, rl, q1, fun v e1 x1 w1 i1 => ?_⟩
          rw [Is] at i1
          obtain ⟨p, hα, rfl⟩ := i1
          have ob := (w1.ob n p _ hα q0).2
          cases o0 with
          | dK kvs =>
            cases q
            obtain ⟨vs, h1, h2⟩ := ob
            refine ⟨p, rfl, .inl ⟨vs, h1, fun p' hp => kk _ (e1.new p' _) (x1.trans (w1.new_ext hp)) (w1.new hp) ?_⟩⟩
            rw [Is]
            exact ⟨p', _, rfl, upd_same, keysK_is h2.keys⟩
          | dT kvs =>
            cases q
            obtain ⟨vs, h1, h2⟩ := ob
            refine ⟨p, rfl, .inr ⟨vs, h1, fun bs p' hp pr => ?_⟩⟩
            obtain ⟨e2, eH2, eα2, x2, w2, ft⟩ := w1.tups
            have hp2 : e2.H p' = none := by rw [eH2]; exact hp
            have z := kk (.ref p') (e2.new p' (.lst (bs.map V.ref))) ((x1.trans x2).trans (w2.new_ext hp2)) (w2.new hp2) (by
              rw [Is]
              refine ⟨p', _, rfl, upd_same, keysT_is (H := e1.H) (fun b xs hb => ?_) h2.keys pr⟩
              show upd e2.F p' _ b = _
              rw [upd_ne (fun z => by subst z; rw [hp] at hb; cases hb)]
              exact ft b xs hb)
            have eq : (e2.new p' (.lst (bs.map V.ref))).H = upd e1.H p' (.lst (bs.map V.ref)) := by show upd e2.H p' _ = _; rw [eH2]
            rw [← eq]; exact z
          | _ => cases q
      | _ => cases q

/-! ### fields -/
structure ClD (K : PySem.W.Frag) (C : Cl) (c : Str) : Prop where
  ex : ∃ Ca, C c = some Ca ∧ Cls K Ca
noncomputable def NoA (K : PySem.W.Frag) (C : Cl) (c f : Str) : Prop := ∀ Ca, C c = some Ca → NoAttr K Ca f
noncomputable def gFld (c fl : Str) (g : Den) : Den := fun ρ Ω => match g ρ Ω with
  | some (.obj n, Ω1) => (match Ω1[n]? with
    | some (.ins c' fs) => if c' = c then (match fs.lookup fl with | some d => some (d, Ω1) | none => none) else none
    | _ => none)
  | _ => none
noncomputable def sFldD (c fl : Str) (go gv : Den) : SDen := fun ρ Ω => match gv ρ Ω with
  | some (v, Ω1) => (match go ρ Ω1 with
    | some (.obj n, Ω2) => (match Ω2[n]? with
      | some (.ins c' fs) => if c' = c ∧ fs.length < 1000 then some (.nx ρ (Ω2.set n (.ins c (putFD fl v fs)))) else none
      | _ => none)
    | _ => none)
  | none => none
theorem pd_fld {c fl : Str} (T : ClD X.K C c) (hn : NoA X.K C c fl) (h : PD X C a f) (hb : attributeBase a fl X.env (eval a X.env) = eval a X.env := by rfl) : PD X C (.Attribute a fl pos) (gFld c fl f) := pe_imp (pe_fld h hb) fun σ H Q hw' => by
  obtain ⟨e, Ω, ρ, d, Ω', eH, w, rl, q, kk⟩ := hw'
  obtain ⟨Ca, hC, cl⟩ := T.ex
  unfold gFld at q
  cases q1 : f ρ Ω with
  | none => rw [q1] at q; cases q
  | some p1 =>
    obtain ⟨d1, Ω1⟩ := p1
    rw [q1] at q
    cases d1 with
    | obj n =>
      dsimp only at q
      cases q0 : Ω1[n]? with
      | none => rw [q0] at q; cases q
      | some o0 =>
        rw [q0] at q
        refine ⟨e, Ω, ρ, _, Ω1, eH, w, rl, q1, fun v e1 x1 w1 i1 => ?_⟩
        rw [Is] at i1
        obtain ⟨p, hα, rfl⟩ := i1
        have ob := (w1.ob n p _ hα q0).2
        cases o0 with
        | ins c' fs =>
          dsimp only at q
          by_cases ec : c' = c
          · rw [if_pos ec] at q
            subst ec
            cases q2 : fs.lookup fl with
            | none => rw [q2] at q; cases q
            | some v0 =>
              rw [q2] at q
              cases q
              obtain ⟨Cb, dx, fvs, h1, h2, h3⟩ := ob
              rw [hC] at h1
              cases h1
              have ov := h3.look fl
              rw [q2] at ov
              obtain ⟨v', e2, iv⟩ := ov.some_of
              exact ⟨p, Ca, dx, fvs, v', rfl, h2, cl, hn Ca hC, e2, kk _ e1 x1 w1 iv⟩
          · rw [if_neg ec] at q; cases q
        | _ => cases q
    | _ => cases q
theorem pds_fld {c fl : Str} (T : ClD X.K C c) (hn : NoA X.K C c fl) (ho : PD X C a f) (hv : PD X C x g) (hs : swapsWith x (some (.Attribute a fl pos')) pos.line X.env = pure false := by rfl) :
    PDS X C (.Assign [.Attribute a fl pos'] x pos) (sFldD c fl f g) := fun e₀ => ps_imp (ps_fld ho hv hs) fun Dn σ H hw' => by
  obtain ⟨e, Ω, ρ, o, eH, r, q, k⟩ := hw'
  obtain ⟨Ca, hC, cl⟩ := T.ex
  unfold sFldD at q
  cases q1 : g ρ Ω with
  | none => rw [q1] at q; cases q
  | some p1 =>
    obtain ⟨v, Ω1⟩ := p1
    rw [q1] at q
    dsimp only at q
    cases q2 : f ρ Ω1 with
    | none => rw [q2] at q; cases q
    | some p2 =>
      obtain ⟨d2, Ω2⟩ := p2
      rw [q2] at q
      cases d2 with
      | obj n =>
        dsimp only at q
        cases q0 : Ω2[n]? with
        | none => rw [q0] at q; cases q
        | some o0 =>
          rw [q0] at q
          refine ⟨e, Ω, ρ, v, Ω1, eH, r.wf, r.rel, q1, fun uv e1 x1 w1 i1 => ?_⟩
          refine ⟨e1, Ω1, ρ, _, Ω2, rfl, w1, r.rel.ext x1, q2, fun uo e2 x2 w2 i2 => ?_⟩
          rw [Is] at i2
          obtain ⟨p, hα, rfl⟩ := i2
          have ob := (w2.ob n p _ hα q0).2
          cases o0 with
          | ins c' fs =>
            dsimp only at q
            by_cases ec : c' = c ∧ fs.length < 1000
            · rw [if_pos ec] at q
              obtain ⟨rfl, hl⟩ := ec
              cases q
              obtain ⟨Cb, dx, fvs, h1, h2, h3⟩ := ob
              rw [hC] at h1
              cases h1
              obtain ⟨w', x'⟩ := w2.at (o' := .ins c' (putFD fl v fs)) (ho := .ins Ca dx (putF fl uv fvs)) hα (fun xs z => nomatch z) ⟨Ca, dx, _, hC, upd_same, h3.putF fl (i1.ext x2)⟩ fun o u z => by rw [h2] at z; cases z
              exact ⟨p, Ca, dx, fvs, rfl, h2, cl, hn Ca hC, by rw [← h3.len]; exact hl, k (e2.at p _) σ (r.to ((x1.trans x2).trans x') w')⟩
            · rw [if_neg ec] at q; cases q
          | _ => cases q
      | _ => cases q

/-! ### methods -/
structure Mt (P : Program) (w : World) (K : PySem.W.Frag) (mg : Str → Option Value) (base : Heap) (C : Cl) (k : Nat) (c m : Str) (F : FDen) (dfl : List D) : Prop where
  ex : ∃ Ca f fd ps ds dvs, C c = some Ca ∧ Cls K Ca ∧ Meth K Ca m f ∧ Binds K fd ps ds ∧ Vals dvs ds ∧ (∀ α H, IsL K α H dfl dvs) ∧ FnOk P w K mg base CX0 k f fd ps (spD K C F)
noncomputable def gMeth (c m : Str) (F : FDen) (dfl : List D) (go : Den) (ga : ADen) : Den := fun ρ Ω => match go ρ Ω with
  | some (.obj n, Ω1) => (match Ω1[n]? with
    | some (.ins c' fs) => if c' = c then (match fs.lookup m with
      | none => (match ga ρ Ω1 with | some (ds, Ω2) => F (.obj n :: (ds ++ dfl)) Ω2 | none => none)
      | some _ => none) else none
    | _ => none)
  | _ => none
theorem meth_read {K : PySem.W.Frag} {c m : Str} {F : FDen} {dfl : List D} {dvs : List V} {Ca : Addr} (hC : C c = some Ca) (hd : ∀ α H, IsL K α H dfl dvs) {σ : St} {H : Hp} {Q : VK} {E : XK} (hw : tD K C (gMeth c m F dfl f ga) σ H Q) :
    tMeth Ca m (spD K C F) dvs E (tD K C f) (tDA K C ga) σ H Q := by
  obtain ⟨e, Ω, ρ, d, Ω', eH, w, rl, q, kk⟩ := hw
  unfold gMeth at q
  cases q1 : f ρ Ω with
  | none => rw [q1] at q; cases q
  | some p1 =>
    obtain ⟨d1, Ω1⟩ := p1
    rw [q1] at q
    cases d1 with
    | obj n =>
      dsimp only at q
      cases q0 : Ω1[n]? with
      | none => rw [q0] at q; cases q
      | some o0 =>
        rw [q0] at q
        refine ⟨e, Ω, ρ, _, Ω1, eH, w, rl, q1, fun v e1 x1 w1 i1 => ?_⟩
        rw [Is] at i1
        obtain ⟨p, hα, rfl⟩ := i1
        have ob := (w1.ob n p _ hα q0).2
        cases o0 with
        | ins c' fs =>
          dsimp only at q
          by_cases ec : c' = c
          · rw [if_pos ec] at q
            subst ec
            cases q2 : fs.lookup m with
            | some v0 => rw [q2] at q; cases q
            | none =>
              rw [q2] at q
              dsimp only at q
              cases q3 : ga ρ Ω1 with
              | none => rw [q3] at q; cases q
              | some p3 =>
                obtain ⟨ds, Ω2⟩ := p3
                rw [q3] at q
                obtain ⟨Cb, dx, fvs, h1, h2, h3⟩ := ob
                rw [hC] at h1
                cases h1
                have ov := h3.look m
                rw [q2] at ov
                have e2 : fvs.lookup m = none := by
                  cases z : fvs.lookup m with
                  | none => rfl
                  | some v => rw [z] at ov; exact ov.elim
                refine ⟨p, dx, fvs, rfl, h2, e2, e1, Ω1, ρ, ds, Ω2, rfl, w1, rl.ext x1, q3, fun vs e3 x3 w3 i3 => ?_⟩
                exact ⟨e3, Ω2, _, d, Ω', rfl, w3, .cons (by rw [Is]; exact ⟨p, obj_ext (K := K) x3 hα, rfl⟩) (i3.append (hd _ _)), q, fun v' e4 x4 w4 i4 => kk v' e4 ((x1.trans x3).trans x4) w4 i4⟩
          · rw [if_neg ec] at q; cases q
        | _ => cases q
    | _ => cases q
theorem pd_meth {k : Nat} {c m : Str} {F : FDen} {dfl : List D} {es : List Expr} {pl : Sem Bool} (G : Mt X.prog X.w X.K X.mg X.base C k c m F dfl) (hr : Room k X.A) (ho : PD X C a f) (ha : PDA X C (x :: es) ga)
    (hst : starEach (x :: es) X.env = (false, eval x X.env) :: starEach es X.env := by rfl) (hpl : (backTo cp (starEach es X.env)).any (·.1) = false := by rfl)
    (ht : eval (.Call (.Attribute a m ap) (x :: es) [] cp) X.env = (do
      let ov ← eval a X.env
      standAt ap.atName
      let (f, first) ← holding [ov] (getMethod ov m pl)
      callWith cp f first (backTo cp (starEach (x :: es) X.env)) (backToKw cp (keywordEach [] X.env))) := by rfl) :
    PD X C (.Call (.Attribute a m ap) (x :: es) [] cp) (gMeth c m F dfl f ga) := by
  obtain ⟨Ca, fa, fd, ps, ds, dvs, hC, cl, me, hb, hd, hdd, ok⟩ := G.ex
  exact pe_imp (pe_meth ho cl me ok hr hb hd pass0 ha hst hpl ht) fun _ _ _ hw => meth_read hC hdd hw
/-! ### a new instance -/
structure MkD (P : Program) (w : World) (K : PySem.W.Frag) (mg : Str → Option Value) (base : Heap) (C : Cl) (k : Nat) (c : Str) (F : FDen) (dfl : List D) : Prop where
  ex : ∃ Ca f fd ps ds dvs, C c = some Ca ∧ mg c = some (.ref Ca) ∧ Mk K Ca f ∧ Binds K fd ps ds ∧ Vals dvs ds ∧ (∀ α H, IsL K α H dfl dvs) ∧ FnOk P w K mg base CX0 k f fd ps (spD K C F)
noncomputable def gMake (c : Str) (F : FDen) (dfl : List D) (ga : ADen) : Den := fun ρ Ω => match ga ρ Ω with
  | some (ds, Ω1) => (match F (.obj Ω1.length :: (ds ++ dfl)) (Ω1 ++ [.ins c []]) with
    | some (.non, Ω2) => some (.obj Ω1.length, Ω2)
    | _ => none)
  | none => none
theorem make_read {K : PySem.W.Frag} {c : Str} {F : FDen} {dfl : List D} {dvs : List V} {Ca : Addr} (hC : C c = some Ca) (hd : ∀ α H, IsL K α H dfl dvs) {σ : St} {H : Hp} {Q : VK} {E : XK} (hw : tD K C (gMake c F dfl ga) σ H Q) :
    tMake Ca (spD K C F) dvs E (tDA K C ga) σ H Q := by
  obtain ⟨e, Ω, ρ, d, Ω', eH, w, rl, q, kk⟩ := hw
  unfold gMake at q
  cases q1 : ga ρ Ω with
  | none => rw [q1] at q; cases q
  | some p1 =>
    obtain ⟨ds, Ω1⟩ := p1
    rw [q1] at q
    dsimp only at q
    cases q2 : F (.obj Ω1.length :: (ds ++ dfl)) (Ω1 ++ [.ins c []]) with
    | none => rw [q2] at q; cases q
    | some p2 =>
      obtain ⟨d2, Ω2⟩ := p2
      rw [q2] at q
      cases d2 with
      | non =>
        cases q
        refine ⟨e, Ω, ρ, ds, Ω1, eH, w, rl, q1, fun vs e1 x1 w1 i1 p dx hp hdx hne => ?_⟩
        obtain ⟨w2, x2⟩ := w1.obj (H' := upd (upd e1.H dx (.own p)) p (.ins Ca dx [])) (o := .ins c []) hp (fun b u hb => by rw [upd_ne (ne_of_none hb hp), upd_ne (ne_of_none hb hdx)]; exact hb)
          (by rw [upd_same]; exact ⟨by simp, fun xs z => nomatch z⟩) ⟨Ca, dx, [], hC, upd_same, rfl⟩
        have ip : (e1.obj p (upd (upd e1.H dx (.own p)) p (.ins Ca dx []))).α[Ω1.length]? = some p := by show (e1.α ++ [p])[Ω1.length]? = some p; rw [← w1.ol]; simp
        refine ⟨e1.obj p (upd (upd e1.H dx (.own p)) p (.ins Ca dx [])), Ω1 ++ [.ins c []], _, .non, _, rfl, w2, .cons (by rw [Is]; exact ⟨p, ip, rfl⟩) ((i1.ext x2).append (hd _ _)), q2, fun v' e4 x4 w4 i4 => ?_⟩
        rw [Is] at i4
        exact ⟨i4, kk _ e4 ((x1.trans x2).trans x4) w4 (by rw [Is]; exact ⟨p, obj_ext (K := K) x4 ip, rfl⟩)⟩
      | _ => cases q
theorem pd_make0 {k : Nat} {c : Str} {F : FDen} {dfl : List D} {p : Pos} (G : MkD X.prog X.w X.K X.mg X.base C k c F dfl) (hr : Room (k + 1) X.A) (hg : Gl X c)
    (hdb : (c == ("__debug__" : Str)) = false := by decide) : PD X C (.Call (.Name c p) [] [] cp) (gMake c F dfl gNil) := by
  obtain ⟨Ca, fa, fd, ps, ds, dvs, hC, hm, mk, hb, hd, hdd, ok⟩ := G.ex
  exact pe_imp (pe_make0 mk ok hr hg hm hb hd pass0 hdb) fun σ H Q hw => by
    have z := make_read (ga := gNil) (E := E0) hC hdd hw
    obtain ⟨e, Ω, ρ, ds5, Ω', eH, w, rl, q, kk⟩ := z
    cases q
    have := kk [] e (Ext.refl _) w .nil
    rw [eH] at this
    exact this
end
/-! ### a def of no parameter is called; the law with objects -/
theorem law_okO {K : PySem.W.Frag} {C : Cl} {F : FDen} {H : Hp} {a : Addr} {ns : List Int} {E : XK} (hS : SqL K H a (ns.map V.int)) (h : ∃ Ω, F [.scr ns] [] = some (.bl true, Ω)) : spD K C F [.ref a] H (fun v _ => v = .bl true) E := by
  obtain ⟨Ω, h⟩ := h
  refine ⟨⟨[], H, fun _ => False, H⟩, [], [.scr ns], .bl true, Ω, rfl, ⟨Same.refl _, fun _ h => h.elim, fun _ h => h.elim, rfl, List.nodup_nil, fun n a o h => by simp at h⟩, ?_, h, fun v e' _ _ i => ?_⟩
  · exact .cons (by rw [Is]; exact ⟨a, rfl, hS⟩) .nil
  · rw [Is] at i; exact i
end DL
set_option Elab.async false
set_option linter.all false
set_option maxRecDepth 100000
set_option genSizeOf false
set_option bootstrap.genMatcherCode false
set_option genInjectivity true
namespace DL
open PySem PySem.Spec PyProof.Rows L2
/-! ### a def with defaults; methods -/
structure FunV (K : PySem.W.Frag) (x qual : Str) (st : Stmt) (dV : Value) (f : Addr) (fd : FuncData) : Prop where
  ex : ∃ (oc : Value) (od : Option Addr) (kV doc pm : Value) (an : Option Addr) (cdv ct : Value) (osl : Array (Option Value)),
    fd = PySem.W.fnOf x qual (defArgs st) (defBody st) (defScope st) dV kV doc pm an cdv ct ∧ K.lookup f = some ⟨oc, od, .func fd, osl⟩ ∧ PySem.W.codeIn K cdv qual = true
theorem funV_mk {K : PySem.W.Frag} {x qual : Str} {st : Stmt} {dV : Value} {f : Addr} {oc : Value} {od an : Option Addr} {osl : Array (Option Value)} {kV doc pm cdv ct : Value}
    (l : K.lookup f = some ⟨oc, od, .func (PySem.W.fnOf x qual (defArgs st) (defBody st) (defScope st) dV kV doc pm an cdv ct), osl⟩) (c : PySem.W.codeIn K cdv qual = true) :
    FunV K x qual st dV f (PySem.W.fnOf x qual (defArgs st) (defBody st) (defScope st) dV kV doc pm an cdv ct) := ⟨oc, od, kV, doc, pm, an, cdv, ct, osl, rfl, l, c⟩
theorem fn_DV {P : Program} {w : World} {K : PySem.W.Frag} {mg : Str → Option Value} {base : Heap} {C : Cl} {x qual : Str} {st : Stmt} {dV : Value} {f : Addr} {fd : FuncData} {N ps : List Str} {k n m : Nat} {s : SDen} (F : FunV K x qual st dV f fd) (S : FnScope N ps (defScope st)) (hn : ps.length = n) (hm : N.length = m)
    (hbody : ∀ (cdv : Value) (A : Around) (outer : List Env) (sh : Shared) (H : Hp) (E : XK), Room k (A.deeper (envOfC qual (defScope st) sh.heap.objs.size f cdv)) →
      PDB (cxOf CX0 P w K mg base N qual (defScope st) f cdv A outer sh H E).nox C (defBody st) s) : FnOk P w K mg base CX0 (k + 1) f fd ps (spD K C (runD n m s)) := by
  obtain ⟨oc, od, kV, doc, pm, an, cdv, ct, osl, rfl, lk, hcd⟩ := F.ex
  refine fn_of lk hcd S (fun vs H Q E h => ?_) fun A outer sh H vs Q E hr h => ?_
  · obtain ⟨e, Ω, ds, d, Ω', _, _, i, q, _⟩ := h
    unfold runD at q
    by_cases hl : ds.length = n
    · rw [← i.length, hl, hn]
    · rw [if_neg hl] at q; cases q
  · obtain ⟨e, Ω, ds, d, Ω', eH, wf, i, q, kk⟩ := h
    unfold runD at q
    by_cases hl : ds.length = n
    · rw [if_pos hl] at q
      cases q1 : s (ds.map Sl.dat ++ List.replicate (m - n) Sl.und) Ω with
      | none => rw [q1] at q; cases q
      | some o =>
        rw [q1] at q
        refine ⟨_, (hbody cdv A outer sh H E hr e).nox, e, Ω, _, o, eH, start_rel wf i, by rw [hl, hm]; exact q1, ?_⟩
        cases o with
        | rt d' Ω2 => cases q; exact fun e' v x' w' i' => kk v e' x' w' i'
        | nx ρ' Ω2 => cases q; exact fun e' σ' r' => kk .non e' r'.ext r'.wf (by rw [Is])
        | bk ρ' Ω2 => cases q
        | ct ρ' Ω2 => cases q
    · rw [if_neg hl] at q; cases q
/-- the arguments bind: none is left out and there is no default -/
theorem bindsN {K : PySem.W.Frag} {fd : FuncData} {ps : List Str} (h : ∀ us : List Value, us.length = ps.length → bindArgs fd ⟨us, []⟩ = pure (ps.zip us)) : Binds K fd ps [] := .all h
/-- the law, whatever the classes' places are -/
noncomputable def spC (K : PySem.W.Frag) (F : FDen) : Sp := fun vs H Q E => ∀ C : Cl, spD K C F vs H Q E
theorem law_okC {K : PySem.W.Frag} {F : FDen} {H : Hp} {a : Addr} {ns : List Int} {E : XK} (hS : SqL K H a (ns.map V.int)) (h : ∃ Ω, F [.scr ns] [] = some (.bl true, Ω)) : spC K F [.ref a] H (fun v _ => v = .bl true) E := fun C => law_okO hS h
/-- one class more -/
noncomputable def clAdd (C : Cl) (c : Str) (a : Addr) : Cl := fun x => if x = c then some a else C x
theorem clAdd_same {C : Cl} {c : Str} {a : Addr} : clAdd C c a c = some a := if_pos rfl
theorem noA_of {K : PySem.W.Frag} {C : Cl} {c f : Str} {a : Addr} (h : C c = some a) (n : NoAttr K a f) : NoA K C c f := fun Ca e => by rw [h] at e; cases e; exact n

/-! what each word is worth at a place -/
section
variable (ρ : List Sl) (Ω : List OS)
@[simp] theorem ap_newK : gNewK ρ Ω = some (.obj Ω.length, Ω ++ [.dK []]) := (rfl)
@[simp] theorem ap_newT : gNewT ρ Ω = some (.obj Ω.length, Ω ++ [.dT []]) := (rfl)
@[simp] theorem ap_dget (go gi : Den) : gDGet go gi ρ Ω = match go ρ Ω with
  | some (.obj n, Ω1) => (match gi ρ Ω1 with
    | some (k, Ω2) => (match Ω2[n]? with
      | some o => (match lookO o k with | some (some d) => some (d, Ω2) | _ => none)
      | none => none)
    | none => none)
  | _ => none := (rfl)
@[simp] theorem ap_din (neg : Bool) (gk go : Den) : gDIn neg gk go ρ Ω = match gk ρ Ω with
  | some (k, Ω1) => (match go ρ Ω1 with
    | some (.obj n, Ω2) => (match Ω2[n]? with
      | some o => (match lookO o k with | some r => some (.bl (if neg then !r.isSome else r.isSome), Ω2) | none => none)
      | none => none)
    | _ => none)
  | none => none := (rfl)
@[simp] theorem ap_dget1 (go gk : Den) : gDGet1 go gk ρ Ω = match go ρ Ω with
  | some (.obj n, Ω1) => (match Ω1[n]? with
    | some o => (if isDct o = true then (match gk ρ Ω1 with
      | some (k, Ω2) => (match Ω2[n]? with
        | some o2 => (match lookO o2 k with | some r => some (r.getD .non, Ω2) | none => none)
        | none => none)
      | none => none) else none)
    | none => none)
  | _ => none := (rfl)
@[simp] theorem ap_dget2 (go gk gx : Den) : gDGet2 go gk gx ρ Ω = match go ρ Ω with
  | some (.obj n, Ω1) => (match Ω1[n]? with
    | some o => (if isDct o = true then (match gk ρ Ω1 with
      | some (k, Ω2) => (match gx ρ Ω2 with
        | some (x, Ω3) => (match Ω3[n]? with
          | some o2 => (match lookO o2 k with | some r => some (r.getD x, Ω3) | none => none)
          | none => none)
        | none => none)
      | none => none) else none)
    | none => none)
  | _ => none := (rfl)
@[simp] theorem ap_dput (go gi gv : Den) : sDPut go gi gv ρ Ω = match gv ρ Ω with
  | some (v, Ω1) => (match go ρ Ω1 with
    | some (.obj n, Ω2) => (match gi ρ Ω2 with
      | some (k, Ω3) => (match Ω3[n]? with
        | some o => (match putO o k v with | some o' => some (.nx ρ (Ω3.set n o')) | none => none)
        | none => none)
      | none => none)
    | _ => none)
  | none => none := (rfl)
@[simp] theorem ap_dpop (go gk : Den) : gDPop go gk ρ Ω = match go ρ Ω with
  | some (.obj n, Ω1) => (match Ω1[n]? with
    | some o => (if isDct o = true then (match gk ρ Ω1 with
      | some (k, Ω2) => (match Ω2[n]? with
        | some o2 => (match dropO o2 k with | some (v, o3) => some (v, Ω2.set n o3) | none => none)
        | none => none)
      | none => none) else none)
    | none => none)
  | _ => none := (rfl)
@[simp] theorem ap_dlist (go : Den) : gDList go ρ Ω = match go ρ Ω with
  | some (.obj n, Ω1) => (match Ω1[n]? with
    | some o => (match keysO o with | some ks => some (.lst ks, Ω1) | none => none)
    | none => none)
  | _ => none := (rfl)
@[simp] theorem ap_fld (c fl : Str) (g : Den) : gFld c fl g ρ Ω = match g ρ Ω with
  | some (.obj n, Ω1) => (match Ω1[n]? with
    | some (.ins c' fs) => (if c' = c then (match fs.lookup fl with | some d => some (d, Ω1) | none => none) else none)
    | _ => none)
  | _ => none := (rfl)
@[simp] theorem ap_sfld (c fl : Str) (go gv : Den) : sFldD c fl go gv ρ Ω = match gv ρ Ω with
  | some (v, Ω1) => (match go ρ Ω1 with
    | some (.obj n, Ω2) => (match Ω2[n]? with
      | some (.ins c' fs) => (if c' = c ∧ fs.length < 1000 then some (.nx ρ (Ω2.set n (.ins c (putFD fl v fs)))) else none)
      | _ => none)
    | _ => none)
  | none => none := (rfl)
@[simp] theorem ap_meth (c m : Str) (F : FDen) (dfl : List D) (go : Den) (ga : ADen) : gMeth c m F dfl go ga ρ Ω = match go ρ Ω with
  | some (.obj n, Ω1) => (match Ω1[n]? with
    | some (.ins c' fs) => (if c' = c then (match fs.lookup m with
      | none => (match ga ρ Ω1 with | some (ds, Ω2) => F (.obj n :: (ds ++ dfl)) Ω2 | none => none)
      | some _ => none) else none)
    | _ => none)
  | _ => none := (rfl)
@[simp] theorem ap_make (c : Str) (F : FDen) (dfl : List D) (ga : ADen) : gMake c F dfl ga ρ Ω = match ga ρ Ω with
  | some (ds, Ω1) => (match F (.obj Ω1.length :: (ds ++ dfl)) (Ω1 ++ [.ins c []]) with
    | some (.non, Ω2) => some (.obj Ω1.length, Ω2)
    | _ => none)
  | none => none := (rfl)
@[simp] theorem look_dT (kvs : List (List Key × D)) (xs : List D) : lookO (.dT kvs) (.tup xs) = (match keysD xs with | some k => some (valD kvs k) | none => none) := (rfl)
@[simp] theorem put_dT (kvs : List (List Key × D)) (xs : List D) (v : D) : putO (.dT kvs) (.tup xs) v = (match keysD xs with | some k => (if kvs.length < 100000 then some (.dT (putD kvs k v)) else none) | none => none) := (rfl)
@[simp] theorem drop_dT (kvs : List (List Key × D)) (xs : List D) : dropO (.dT kvs) (.tup xs) = (match keysD xs with | some k => (match valD kvs k with | some v => some (v, .dT (dropD kvs k)) | none => none) | none => none) := (rfl)
@[simp] theorem keys_2 (i j : Int) : keysD [.int i, .int j] = some [.inl i, .inl j] := (rfl)
@[simp] theorem keysO_dT (kvs : List (List Key × D)) : keysO (.dT kvs) = some (kvs.map fun x => .tup (x.1.map ofK)) := (rfl)
@[simp] theorem isDct_dT (kvs : List (List Key × D)) : isDct (.dT kvs) = true := (rfl)
@[simp] theorem ap_expr (g : Den) : sExpr g ρ Ω = match g ρ Ω with | some (_, Ω') => some (.nx ρ Ω') | none => none := (rfl)
end
end DL
set_option Elab.async false
set_option linter.all false
set_option maxRecDepth 100000
set_option genSizeOf false
set_option bootstrap.genMatcherCode false
set_option genInjectivity true
namespace L2
open PySem PySem.Spec PyProof.Rows
section
variable {X : Cx} {tg : Expr}
end
end L2
namespace DL
open PySem PySem.Spec PyProof.Rows L2
section
variable {X : Cx} {C : Cl} {tg : Expr} {ga : ADen} {pos p : Pos}
end
end DL
set_option Elab.async false
set_option linter.all false
set_option maxRecDepth 100000
set_option genSizeOf false
set_option bootstrap.genMatcherCode false
set_option genInjectivity true
/-! the tree of questions of a sort, answered by ranks -/
namespace KS
open PySem PySem.W PyProof.Rows

section
variable {N : Nat} {r : Nat → Nat}
end

/-! ranks -/
section
variable {β : Type} (lt : β → β → Bool)
end
end KS
set_option Elab.async false
set_option linter.all false
set_option maxRecDepth 100000
set_option genSizeOf false
set_option bootstrap.genMatcherCode false
set_option genInjectivity true
/-! sorted(xs, key=f), over any heap -/
namespace KS
open PySem PySem.W PySem.Calls PyProof.Rows
section
variable {prog : Program} {w : World} {A : Around} {E : Value → Shared → Prop} {s : Shared} {a kS : Addr} {vs ks : List Value} {κ : SortKind}
end
end KS
set_option Elab.async false
set_option linter.all false
set_option maxRecDepth 100000
set_option genSizeOf false
set_option bootstrap.genMatcherCode false
set_option genInjectivity true
namespace L2
open PySem PySem.Spec PyProof.Rows KS PySem.W
theorem getD_get {β : Type} {l : List β} {i : Nat} {d : β} (h : i < l.length) : l.getD i d = l[i] := by rw [List.getD_eq_getElem?_getD, List.getElem?_eq_getElem h]; rfl
theorem fp_to {X : Cx} {pins : List (Addr × Obj)} {H H' : Hp} {b : Addr} (f : FpOk X pins H b) (h : H' b = none) : FpOk X pins H' b := ⟨h, f.2⟩
/-- a tuple of ints, none empty, at each place -/
noncomputable def KeysAre (H : Hp) (vks : List V) (nss : List (List Int)) : Prop := Paired (fun (v : V) (ns : List Int) => ∃ b, v = .ref b ∧ H b = some (.tup (ns.map V.int)) ∧ ns ≠ []) vks nss
section
variable {X : Cx} {k : Nat} {f : Addr} {fd : FuncData} {ps : List Str} {sp : Sp} {pins : List (Addr × Obj)} {σ : St} {H : Hp} {s : Shared}
theorem Paired.get {α β : Type} {R : α → β → Prop} : ∀ {xs : List α} {ys : List β} {i : Nat} {x : α}, Paired R xs ys → xs[i]? = some x → ∃ y, ys[i]? = some y ∧ R x y
  | _, _, 0, _, .cons r _, e => by cases e; exact ⟨_, rfl, r⟩
  | _, _, i + 1, x, .cons _ t, e => by
    obtain ⟨y, h1, h2⟩ := Paired.get (i := i) (x := x) t e
    exact ⟨y, h1, h2⟩
  | _, _, _, _, .nil, e => by simp at e
theorem lexLt_irrefl : ∀ a, HT.lexLt a a = false
  | [] => rfl
  | x :: a => by rw [HT.lexLt_cons, if_pos rfl]; exact lexLt_irrefl a
theorem lexLt_trans : ∀ a b c, HT.lexLt a b = true → HT.lexLt b c = true → HT.lexLt a c = true
  | [], [], _, h, _ => by cases h
  | [], _ :: _, [], _, h => by cases h
  | [], _ :: _, _ :: _, _, _ => rfl
  | _ :: _, [], _, h, _ => by cases h
  | x :: a, y :: b, [], _, h => by cases h
  | x :: a, y :: b, z :: c, h1, h2 => by
    rw [HT.lexLt_cons] at h1 h2 ⊢
    split at h1
    · rename_i e
      subst e
      split at h2
      · rename_i e
        subst e
        rw [if_pos rfl]; exact lexLt_trans a b c h1 h2
      · rename_i ne
        rw [if_neg ne]; exact h2
    · rename_i ne
      split at h2
      · rename_i e
        subst e
        rw [if_neg ne]; exact h1
      · have h1 := of_decide_eq_true h1
        have h2 := of_decide_eq_true h2
        rw [if_neg (by omega)]; exact decide_eq_true (by omega)
end
end L2
set_option Elab.async false
set_option linter.all false
set_option maxRecDepth 100000
set_option genSizeOf false
set_option bootstrap.genMatcherCode false
set_option genInjectivity true
/-! == of plain data: as it stands -/
namespace DL
open PySem
mutual
noncomputable def pl : D → Bool
  | .non => true
  | .int _ => true
  | .str x => (PyData.str x).canLay0
  | .tup xs => plL xs
  | .lst xs => plL xs
  | _ => false
noncomputable def plL : List D → Bool
  | [] => true
  | d :: ds => pl d && plL ds
end
mutual
noncomputable def dep : D → Nat
  | .tup xs => depL xs + 1
  | .lst xs => depL xs + 1
  | _ => 0
noncomputable def depL : List D → Nat
  | [] => 0
  | d :: ds => max (dep d) (depL ds)
end
mutual
theorem lay_pl : ∀ d : D, pl d = true → (toP d).canLay0 = true
  | .non, _ => by rw [toP]; rfl
  | .int _, _ => by rw [toP]; rfl
  | .str x, h => by rw [pl] at h; rw [toP]; exact h
  | .tup xs, h => by rw [pl] at h; rw [toP, PyData.canLay0]; exact lay_plL xs h
  | .lst xs, h => by rw [pl] at h; rw [toP, PyData.canLay0]; exact lay_plL xs h
  | .bl _, h => by simp [pl] at h
  | .scr _, h => by simp [pl] at h
  | .obj _, h => by simp [pl] at h
theorem lay_plL : ∀ ds : List D, plL ds = true → PyData.canLayAll0 (toPs ds) = true
  | [], _ => by rw [toPs]; rfl
  | d :: ds, h => by
    rw [plL, Bool.and_eq_true] at h
    rw [toPs, PyData.canLayAll0, Bool.and_eq_true]
    exact ⟨lay_pl d h.1, lay_plL ds h.2⟩
end
mutual
theorem dep_pl : ∀ d : D, pl d = true → (toP d).depth = dep d
  | .non, _ => by rw [toP, dep]; rfl; all_goals (intro _ z; cases z)
  | .int _, _ => by rw [toP, dep]; rfl; all_goals (intro _ z; cases z)
  | .str x, h => by rw [toP, dep]; rfl; all_goals (intro _ z; cases z)
  | .tup xs, h => by rw [pl] at h; rw [toP, dep, PyData.depth, dep_plL xs h]
  | .lst xs, h => by rw [pl] at h; rw [toP, dep, PyData.depth, dep_plL xs h]
  | .bl _, h => by simp [pl] at h
  | .scr _, h => by simp [pl] at h
  | .obj _, h => by simp [pl] at h
theorem dep_plL : ∀ ds : List D, plL ds = true → PyData.depthAll (toPs ds) = depL ds
  | [], _ => by rw [toPs, depL]; rfl
  | d :: ds, h => by
    rw [plL, Bool.and_eq_true] at h
    rw [toPs, depL, PyData.depthAll, dep_pl d h.1, dep_plL ds h.2]
end
theorem shaped_pl {d : D} (h : pl d = true) (hd : dep d ≤ 64) : SeqAt.shaped (toP d) = true := by
  unfold SeqAt.shaped
  rw [lay_pl d h, dep_pl d h]
  simp [hd]
mutual
theorem eqv_pl : ∀ (p q : D), pl p = true → pl q = true → (PyData.eqv (toP p) (toP q) = true ↔ p = q)
  | .non, q, _, hq => by cases q <;> simp [toP, PyData.eqv, pl] at hq ⊢
  | .int i, q, _, hq => by cases q <;> simp [toP, PyData.eqv, pl] at hq ⊢
  | .str x, q, _, hq => by cases q <;> simp [toP, PyData.eqv, pl] at hq ⊢
  | .tup xs, q, hp, hq => by
    cases q with
    | tup ys =>
      rw [pl] at hp hq
      rw [toP, toP, PyData.eqv, eqv_plL xs ys hp hq]
      exact ⟨fun h => by rw [h], fun h => by injection h⟩
    | _ => simp [toP, PyData.eqv, pl] at hq ⊢
  | .lst xs, q, hp, hq => by
    cases q with
    | lst ys =>
      rw [pl] at hp hq
      rw [toP, toP, PyData.eqv, eqv_plL xs ys hp hq]
      exact ⟨fun h => by rw [h], fun h => by injection h⟩
    | _ => simp [toP, PyData.eqv, pl] at hq ⊢
  | .bl _, _, h, _ => by simp [pl] at h
  | .scr _, _, h, _ => by simp [pl] at h
  | .obj _, _, h, _ => by simp [pl] at h
theorem eqv_plL : ∀ (ps qs : List D), plL ps = true → plL qs = true → (PyData.eqvAll (toPs ps) (toPs qs) = true ↔ ps = qs)
  | [], [], _, _ => by simp [toPs, PyData.eqvAll]
  | [], _ :: _, _, _ => by simp [toPs, PyData.eqvAll]
  | _ :: _, [], _, _ => by simp [toPs, PyData.eqvAll]
  | p :: ps, q :: qs, hp, hq => by
    rw [plL, Bool.and_eq_true] at hp hq
    rw [toPs, toPs, PyData.eqvAll, Bool.and_eq_true, eqv_pl p q hp.1 hq.1, eqv_plL ps qs hp.2 hq.2]
    exact ⟨fun h => by rw [h.1, h.2], fun h => by injection h with a b; exact ⟨a, b⟩⟩
end
theorem eq_self_pl (neg : Bool) {p : D} (h : pl p = true) (hd : dep p ≤ 64) : eqD neg p p = some (.bl (!neg)) := by
  unfold eqD
  rw [shaped_pl h hd, (eqv_pl p p h h).mpr rfl]
  cases neg <;> rfl
theorem eq_ne_pl (neg : Bool) {p q : D} (hp : pl p = true) (hq : pl q = true) (dp : dep p ≤ 64) (dq : dep q ≤ 64) (n : p ≠ q) : eqD neg p q = some (.bl neg) := by
  unfold eqD
  have e : PyData.eqv (toP p) (toP q) = false := by
    cases z : PyData.eqv (toP p) (toP q) with
    | false => rfl
    | true => exact absurd ((eqv_pl p q hp hq).mp z) n
  rw [shaped_pl hp dp, shaped_pl hq dq, e]
  cases neg <;> rfl
end DL
set_option Elab.async false
set_option linter.all false
set_option maxRecDepth 100000
set_option genSizeOf false
set_option bootstrap.genMatcherCode false
set_option genInjectivity true
/-! sorted(xs), over any heap -/
namespace KS
open PySem PySem.W PySem.Calls PyProof.Rows
section
variable {prog : Program} {w : World} {A : Around} {E : Value → Shared → Prop} {s : Shared} {a : Addr} {vs : List Value}
end
end KS
set_option Elab.async false
set_option linter.all false
set_option maxRecDepth 100000
set_option genSizeOf false
set_option bootstrap.genMatcherCode false
set_option genInjectivity true
namespace L2
open PySem PySem.Spec PyProof.Rows KS PySem.W
section
variable {X : Cx} {pins : List (Addr × Obj)} {σ : St} {H : Hp} {s : Shared}
end
end L2
set_option Elab.async false
set_option linter.all false
set_option maxRecDepth 100000
set_option genSizeOf false
set_option bootstrap.genMatcherCode false
set_option genInjectivity true
namespace DL
open PySem PySem.Spec PyProof.Rows L2
section
variable {X : Cx} {C : Cl} {n : Str} {p pos kpos npos : Pos} {a : Expr} {g : Den} {k : Nat}
/-! ### sorted(.., key = f) -/
noncomputable def intsD : List D → Option (List Int)
  | [] => some []
  | .int i :: r => match intsD r with
    | some ns => some (i :: ns)
    | none => none
  | _ => none
noncomputable def keyI : D → Option (List Int)
  | .tup ds => match intsD ds with
    | some (n :: ns) => some (n :: ns)
    | _ => none
  | _ => none
noncomputable def keysF (F : FDen) : List D → List OS → Option (List (List Int) × List OS)
  | [], Ω => some ([], Ω)
  | d :: ds, Ω => match F [d] Ω with
    | some (k, Ω1) => match keyI k with
      | some ns => match keysF F ds Ω1 with
        | some (nss, Ω2) => some (ns :: nss, Ω2)
        | none => none
      | none => none
    | none => none
theorem intsD_map : ∀ {ds : List D} {ns : List Int}, intsD ds = some ns → ds = ns.map D.int
  | [], ns, h => by cases h; rfl
  | .int i :: r, ns, h => by
    unfold intsD at h
    cases q : intsD r with
    | none => rw [q] at h; cases h
    | some ms => rw [q] at h; cases h; rw [intsD_map q]; rfl
  | .non :: _, _, h => nomatch h
  | .bl _ :: _, _, h => nomatch h
  | .str _ :: _, _, h => nomatch h
  | .tup _ :: _, _, h => nomatch h
  | .lst _ :: _, _, h => nomatch h
  | .scr _ :: _, _, h => nomatch h
  | .obj _ :: _, _, h => nomatch h
theorem keyI_of {d : D} {ns : List Int} (h : keyI d = some ns) : d = .tup (ns.map D.int) ∧ ns ≠ [] := by
  unfold keyI at h
  split at h
  · split at h
    · rename_i e
      cases h
      exact ⟨by rw [intsD_map e], by simp⟩
    · cases h
  · cases h
theorem isL_ints {K : PySem.W.Frag} {α : List Addr} {F : Hp} : ∀ {ns : List Int} {vs : List V}, IsL K α F (ns.map D.int) vs → vs = ns.map V.int
  | [], _, h => h.of_nil
  | n :: ns, _, h => by
    obtain ⟨v, r, rfl, h1, t⟩ := h.of_cons
    rw [Is] at h1
    rw [isL_ints t, h1]; rfl
theorem keysF_cut {F : FDen} : ∀ {ds : List D} {Ω Ω' : List OS} {nss : List (List Int)} {i : Nat}, keysF F ds Ω = some (nss, Ω') → i ≤ ds.length → ∃ ms Ωi, keysF F (ds.take i) Ω = some (ms, Ωi) ∧ ms = nss.take i ∧ keysF F (ds.drop i) Ωi = some (nss.drop i, Ω')
  | ds, Ω, Ω', nss, 0, h, _ => ⟨[], Ω, rfl, rfl, h⟩
  | [], Ω, Ω', nss, i + 1, h, hi => by simp at hi
  | d :: ds, Ω, Ω', nss, i + 1, h, hi => by
    unfold keysF at h
    cases q1 : F [d] Ω with
    | none => rw [q1] at h; cases h
    | some p1 =>
      obtain ⟨kd, Ω1⟩ := p1
      rw [q1] at h
      dsimp only at h
      cases q2 : keyI kd with
      | none => rw [q2] at h; cases h
      | some ns =>
        rw [q2] at h
        dsimp only at h
        cases q3 : keysF F ds Ω1 with
        | none => rw [q3] at h; cases h
        | some p3 =>
          obtain ⟨ms, Ω2⟩ := p3
          rw [q3] at h
          cases h
          obtain ⟨ms', Ωi, h1, h2, h3⟩ := keysF_cut (i := i) q3 (by simpa using hi)
          refine ⟨ns :: ms', Ωi, ?_, by rw [h2]; rfl, h3⟩
          show keysF F (d :: ds.take i) Ω = _
          unfold keysF
          rw [q1]
          dsimp only
          rw [q2]
          dsimp only
          rw [h1]
theorem keysF_len {F : FDen} : ∀ {ds : List D} {Ω Ω' : List OS} {nss : List (List Int)}, keysF F ds Ω = some (nss, Ω') → nss.length = ds.length
  | [], _, _, _, h => by cases h; rfl
  | d :: ds, Ω, Ω', nss, h => by
    unfold keysF at h
    cases q1 : F [d] Ω with
    | none => rw [q1] at h; cases h
    | some p1 =>
      obtain ⟨kd, Ω1⟩ := p1
      rw [q1] at h
      dsimp only at h
      cases q2 : keyI kd with
      | none => rw [q2] at h; cases h
      | some ns =>
        rw [q2] at h
        dsimp only at h
        cases q3 : keysF F ds Ω1 with
        | none => rw [q3] at h; cases h
        | some p3 =>
          obtain ⟨ms, Ω2⟩ := p3
          rw [q3] at h
          cases h
          simp [keysF_len q3]
theorem keys_of {K : PySem.W.Frag} {α : List Addr} {F H : Hp} (ff : Same F H) : ∀ {nss : List (List Int)} {vs : List V}, (∀ ns ∈ nss, ns ≠ []) → IsL K α F (nss.map fun ns => D.tup (ns.map D.int)) vs → KeysAre H vs nss
  | [], vs, _, h => by rw [h.of_nil]; exact .nil
  | ns :: nss, vs, hn, h => by
    obtain ⟨v, r, rfl, h1, t⟩ := h.of_cons
    refine .cons ?_ (keys_of ff (fun m hm => hn m (List.mem_cons_of_mem _ hm)) t)
    rw [Is] at h1
    obtain ⟨b, us, rfl, hb, ib⟩ := h1
    rw [isL_ints ib] at hb
    exact ⟨b, rfl, ff _ _ hb, hn ns List.mem_cons_self⟩
theorem keysF_ne {F : FDen} : ∀ {ds : List D} {Ω Ω' : List OS} {nss : List (List Int)}, keysF F ds Ω = some (nss, Ω') → ∀ ns ∈ nss, ns ≠ []
  | [], _, _, _, h, ns, hn => by cases h; cases hn
  | d :: ds, Ω, Ω', nss, h, ns, hn => by
    unfold keysF at h
    cases q1 : F [d] Ω with
    | none => rw [q1] at h; cases h
    | some p1 =>
      obtain ⟨kd, Ω1⟩ := p1
      rw [q1] at h
      dsimp only at h
      cases q2 : keyI kd with
      | none => rw [q2] at h; cases h
      | some ms =>
        rw [q2] at h
        dsimp only at h
        cases q3 : keysF F ds Ω1 with
        | none => rw [q3] at h; cases h
        | some p3 =>
          obtain ⟨mss, Ω2⟩ := p3
          rw [q3] at h
          cases h
          rcases List.mem_cons.mp hn with rfl | hn
          · exact (keyI_of q2).2
          · exact keysF_ne q3 ns hn
theorem keysF_snoc {F : FDen} : ∀ {ds : List D} {d : D} {Ω Ωi Ωj Ωk : List OS} {ms ms' : List (List Int)} {kd : D}, keysF F ds Ω = some (ms, Ωi) → F [d] Ωi = some (kd, Ωj) → keysF F (ds ++ [d]) Ω = some (ms', Ωk) → Ωj = Ωk
  | [], d, Ω, Ωi, Ωj, Ωk, ms, ms', kd, h1, h2, h3 => by
    cases h1
    rw [List.nil_append] at h3
    unfold keysF at h3
    rw [h2] at h3
    dsimp only at h3
    cases q : keyI kd with
    | none => rw [q] at h3; cases h3
    | some ns => rw [q] at h3; cases h3; rfl
  | c :: ds, d, Ω, Ωi, Ωj, Ωk, ms, ms', kd, h1, h2, h3 => by
    rw [List.cons_append] at h3
    unfold keysF at h1 h3
    cases q1 : F [c] Ω with
    | none => rw [q1] at h1; cases h1
    | some p1 =>
      obtain ⟨cd, Ω1⟩ := p1
      rw [q1] at h1 h3
      dsimp only at h1 h3
      cases q2 : keyI cd with
      | none => rw [q2] at h1; cases h1
      | some ns =>
        rw [q2] at h1 h3
        dsimp only at h1 h3
        cases q3 : keysF F ds Ω1 with
        | none => rw [q3] at h1; cases h1
        | some p3 =>
          obtain ⟨mss, Ω2⟩ := p3
          rw [q3] at h1
          cases h1
          cases q4 : keysF F (ds ++ [d]) Ω1 with
          | none => rw [q4] at h3; cases h3
          | some p4 =>
            obtain ⟨nss, Ω3⟩ := p4
            rw [q4] at h3
            cases h3
            exact keysF_snoc q3 h2 q4
end
end DL
set_option Elab.async false
set_option linter.all false
set_option maxRecDepth 100000
set_option genSizeOf false
set_option bootstrap.genMatcherCode false
set_option genInjectivity true
namespace HT
open PySem PySem.Spec PyProof.Rows PySem.SeqAt
open PySem.AutoSeq1 (wpAny_loadPart')
open PySem.MeetsSeq PySem.MeetsSeq2 PySem.MeetsSeq3
end HT
set_option Elab.async false
set_option linter.all false
set_option maxRecDepth 100000
set_option genSizeOf false
set_option bootstrap.genMatcherCode false
set_option genInjectivity true
namespace L2
open PySem PySem.Spec PyProof.Rows
section
variable {X : Cx}
open Classical in
open Classical in
end
end L2
namespace DL
open PySem PySem.Spec PyProof.Rows L2
/-! ### lists read where they lie -/
noncomputable def tDL (K : PySem.W.Frag) (C : Cl) (g : ADen) : TE := fun σ H Q => ∃ e Ω ρ ds Ω', e.H = H ∧ Wf K C e Ω ∧ RelE K e σ ρ ∧ g ρ Ω = some (ds, Ω') ∧
  ∀ a vs e', Ext e e' → Wf K C e' Ω' → (∀ e'' Ω'', Ext e' e'' → Wf K C e'' Ω'' → e''.H a = some (.lst vs)) → IsL K e'.α e'.F ds vs → Q (.ref a) e'.H
noncomputable def PDL (X : Cx) (C : Cl) (x : Expr) (g : ADen) : Prop := PE X x (tDL X.K C g)
noncomputable def gO (i : Nat) : ADen := fun ρ Ω => match ρ[i]? with
  | some (.own ds) => some (ds, Ω)
  | _ => none
noncomputable def gLLen (gl : ADen) : Den := fun ρ Ω => match gl ρ Ω with
  | some (ds, Ω1) => some (.int ds.length, Ω1)
  | none => none
section
variable {X : Cx} {C : Cl} {x a b : Expr} {f g : Den} {gl : ADen} {n : Str} {p pos : Pos}
theorem pdl_own {i : Nat} (hv : PE X (.Name n p) (tVar i)) : PDL X C (.Name n p) (gO i) := pe_imp hv fun σ H Q hw' => by
  obtain ⟨e, Ω, ρ, ds, Ω', eH, w, rl, q, kk⟩ := hw'
  unfold gO at q
  split at q
  · rename_i h
    cases q
    obtain ⟨a, vs, e1, e2, il, n1, n2⟩ := rl.own _ _ h
    exact ⟨.ref a, e1, by rw [← eH]; exact kk a vs e (Ext.refl e) w (fun e'' _ x' _ => x'.hk a _ e2 n2) il⟩
  · cases q
theorem pl_len (hg : Gl X n) (hm : X.mg n = none) (hv : bootBuiltins n = some (.builtin "len")) (ho : PDL X C a gl) (hn : n ≠ "__name__" := by decide) (hdb : (n == ("__debug__" : Str)) = false := by decide)
    (he : starEach [a] X.env = (false, eval a X.env) :: starEach [] X.env := by rfl) (hpl : (backTo pos (starEach [] X.env)).any (·.1) = false := by rfl) : PD X C (.Call (.Name n p) [a] [] pos) (gLLen gl) :=
  pe_imp (pe_callB call_len hg hm hv (pa_cons ho pa_nil he) hn hdb he hpl) fun σ H Q hw' => by
    obtain ⟨e, Ω, ρ, d, Ω', eH, w, rl, q, kk⟩ := hw'
    unfold gLLen at q
    cases q1 : gl ρ Ω with
    | none => rw [q1] at q; cases q
    | some p1 =>
      obtain ⟨ds, Ω1⟩ := p1
      rw [q1] at q
      cases q
      refine ⟨e, Ω, ρ, ds, _, eH, w, rl, q1, fun l vs e1 x1 w1 st il => ⟨.ref l, vs.length, rfl, .inl ⟨vs, SqL.of (st e1 _ (Ext.refl e1) w1), rfl⟩, ?_⟩⟩
      exact kk _ e1 x1 w1 (by rw [Is, il.length])
end
end DL
set_option Elab.async false
set_option linter.all false
set_option maxRecDepth 100000
set_option genSizeOf false
set_option bootstrap.genMatcherCode false
set_option genInjectivity true
namespace DL
open PySem PySem.Spec PyProof.Rows L2
section
variable {X : Cx} {C : Cl} {k : Nat} {n : Str} {p pos kpos npos : Pos} {x a : Expr} {es : List Expr} {ga : ADen} {g : Den}
end
end DL
set_option Elab.async false
set_option linter.all false
set_option maxRecDepth 100000
set_option genSizeOf false
set_option bootstrap.genMatcherCode false
set_option genInjectivity true
/-! texts -/
namespace L2
open PySem PySem.Spec PyProof.Rows
section
variable {X : Cx} {tg : Expr}
end
end L2
set_option Elab.async false
set_option linter.all false
set_option maxRecDepth 100000
set_option genSizeOf false
set_option bootstrap.genMatcherCode false
set_option genInjectivity true
namespace L2
open PySem PySem.Spec PyProof.Rows
section
variable {X : Cx}
end
end L2
set_option Elab.async false
set_option linter.all false
set_option maxRecDepth 100000
set_option genSizeOf false
set_option bootstrap.genMatcherCode false
set_option genInjectivity true
namespace DL
open PySem PySem.Spec PyProof.Rows L2
section
variable {X : Cx} {C : Cl} {x a b tg : Expr} {f g : Den} {n : Str} {p pos ap cp : Pos}
end
end DL
set_option Elab.async false
set_option linter.all false
set_option maxRecDepth 100000
set_option genSizeOf false
set_option bootstrap.genMatcherCode false
set_option genInjectivity true
/-! an exception of a class of the text is raised -/
namespace L2
open PySem PySem.Spec PyProof.Rows
section
variable {X : Cx} {x : Str} {C : Addr} {bmB : List Value} {B newId initId : String} {np cpos pos : Pos} {e : Expr} {te : TE}
/-- what is wanted where an exception of the class at C is thrown at H -/
noncomputable def Thrown (X : Cx) (C : Addr) (σ : St) (H : Hp) : Prop := ∀ (pins : List (Addr × Obj)) (s : Shared) (h' : Heap) (ea : Addr) (args : List Value), Inv X pins σ H s → Heap.MadeExcOf s.heap h' ea (.ref C) args → X.xe (.ref ea) { s with heap := h' }
theorem ps_raise (O : OwnCls x C bmB newId X.mg X.base) (FB : ExcBaseFacts B newId initId bmB) (hh : X.A.handled = none) (hg : Gl X x) (ha : PE X e te) (te_mono : ∀ {σ : St} {H : Hp}, te σ H (fun _ H1 => Thrown X C σ H1) → te σ H (fun v H1 => [v].length = 1 ∧ Thrown X C σ H1)) (he : starEach [e] X.env = (false, eval e X.env) :: starEach [] X.env := by rfl) (hpl : (backTo cpos (starEach [e] X.env)).any (·.1) = false := by rfl)
    (hd : (x == ("__debug__" : Str)) = false := by decide) : PS X (.Raise (some (.Call (.Name x np) [e] [] cpos)) none pos) (fun _ σ H => te σ H fun _ H1 => Thrown X C σ H1) := by
  intro pins s σ H D I h
  obtain ⟨tl, N, nm, q, bs, hdct, sn, sub, ab, col, dd, k0, k1, k2, k3, k5, mN, hC, hN, hni, T⟩ := O.obj
  refine wpAny_Raise_call_subT (C := C) (nm := nm) (q := q) (N := N) (bs := bs) (bm := tl) (hdct := hdct) (sn := sn) (sub := sub) (ab := ab) (col := col) (dd := dd) (k0 := k0) (k1 := k1) (k2 := k2) (k3 := k3) (k5 := k5) FB (mN := mN) (T.hasType FB.hasBase) hh hpl hni (ld_glob I hg O.bound ⟨rfl, ?_⟩ hd)
  have sp := (pa_cons ha pa_nil he) cpos pins s σ H (fun vs H1 => vs.length = 1 ∧ Thrown X C σ H1) I (show te σ H (fun v H1 => [v].length = 1 ∧ Thrown X C σ H1) from (te_mono h))
  rw [he] at sp ⊢
  refine Calls.evalArgs_plain (thn sp fun us s2 hw' => ?_)
  obtain ⟨vs, H1, I1, r1, l1, q1⟩ := hw'
  have k := I1.bk
  exact ⟨rfl, by show us.length ≤ sizeLine; rw [← r1.length, l1]; decide, k _ _ hC, hN.keeps k, T.keeps k, fun h' ea hm => q1 pins s2 h' ea us I1 hm⟩
end
theorem ok_there {P : Program} {w : World} {H : Hp} {h : Heap} {a : Addr} {o : HO} (x : ObjOk P w H h a o) : ∃ ob, h.get? a = some ob := by
  cases o with
  | lst xs => obtain ⟨_, _, _, _, e⟩ := x; exact ⟨_, e⟩
  | tup xs => obtain ⟨_, _, _, ob, e, _⟩ := x; exact ⟨ob, e⟩
  | dK kvs => obtain ⟨_, _, _, _, o, _, _, e, _⟩ := x; exact ⟨_, e⟩
  | dT kvs => obtain ⟨_, _, _, _, o, _, _, e, _⟩ := x; exact ⟨_, e⟩
  | set S n => obtain ⟨o, _, _, _, e, _⟩ := x; exact ⟨_, e⟩
  | ins C dx fs => obtain ⟨_, _, _, e, _⟩ := x; exact ⟨_, e⟩
  | own y => exact x
  | xd fs => obtain ⟨_, ⟨_, _, _, e, _⟩, _⟩ := x; exact ⟨_, e⟩
  | rng lo hi => obtain ⟨_, _, _, e⟩ := x; exact ⟨_, e⟩
  | frz ob u => exact ⟨_, x.1⟩
  | tbl ps => exact ⟨_, x⟩
  | met f y => exact ⟨_, x⟩
  | ext φ => exact x.2.1
/-- how an exception of a class of the text lies behind a call: its object flies over the callers' frames, what is tracked lies as H' tells -/
noncomputable def CXr (P : Program) (w : World) : CXT := fun outer H s E e s' => ∃ (ea C t : Addr) (H' : Hp) (B : Heap), e = .ref ea ∧ E (.ref C) none H' ∧ s'.os = s.os ∧ AllBare s'.gens ∧ Un (frs outer) [] H H' s.heap s'.heap ∧ HOk P w H' s'.heap ∧
  Heap.FlyingW B outer ea (.ref C) (.ref t) s'.heap ∧ (∀ b o, H' b = some o → ∃ ob, B.get? b = some ob) ∧ H' ea = none ∧ ∀ b o, s.heap.get? b = some o → H b = none → b ∉ frs outer → B.get? b = some o
theorem thrown_leaves {P : Program} {w : World} {K : PySem.W.Frag} {mg : Str → Option Value} {base : Heap} {N : List Str} {qual : Str} {scope : Scope} {f C : Addr} {cd : Value} {A : Around} {outer : List Env} {s₀ : Shared} {H₀ H : Hp} {E : XK} {σ : St}
    (hE : E (.ref C) none H) : Thrown (cxOf (CXr P w) P w K mg base N qual scope f cd A outer s₀ H₀ E) C σ H := by
  intro pins s h' ea args I hm
  have hst : (cxOf (CXr P w) P w K mg base N qual scope f cd A outer s₀ H₀ E).stack = envOfC qual scope s₀.heap.objs.size f cd :: outer := rfl
  have hB : ∀ b o, s.heap.get? b = some o → b ∉ frs (envOfC qual scope s₀.heap.objs.size f cd :: outer) → (PySem.W.hideAll s.heap (frs (envOfC qual scope s₀.heap.objs.size f cd :: outer))).get? b = some o := fun b o e n => PySem.W.hideAll_get _ e n
  have sub : ∀ b ∈ frs (envOfC qual scope s₀.heap.objs.size f cd :: outer), b = s₀.heap.objs.size ∨ b ∈ frs outer := fun b hb => List.mem_cons.mp (I.stkSub b hb)
  have old : ∀ b o, s₀.heap.get? b = some o → b ∉ frs outer → b ∉ frs (envOfC qual scope s₀.heap.objs.size f cd :: outer) := fun b o e n hb => by
    rcases sub b hb with z | z
    · exact absurd (Heap.lt_size e) (by rw [z]; exact Nat.lt_irrefl _)
    · exact n z
  have trk : ∀ b o, H b = some o → b ∉ frs (envOfC qual scope s₀.heap.objs.size f cd :: outer) := fun b o e hb => by
    have := I.stkFree b hb
    rw [this] at e; cases e
  refine wpAny_leaves_madeW (base := PySem.W.hideAll s.heap (frs (envOfC qual scope s₀.heap.objs.size f cd :: outer))) (env := envOfC qual scope s₀.heap.objs.size f cd) (outer := outer) (L := s₀.heap.objs.size) (h := s.heap) I.ok.frames rfl (fun b o q => PySem.W.of_hideAll _ q)
    (PySem.W.funFrames_hide I.stack fun env he b hb => List.mem_filterMap.mpr ⟨env, he, hb⟩) hm fun h'' t x1 x2 x3 x4 => ?_
  have k1 := x1.1
  have un : Un (frs outer) [] H₀ H s₀.heap h'' := by
    refine ⟨fun b o e n nf _ => k1 b o (hB b o (I.base.keep b o e n nf (by intro z; cases z)) (old b o e nf)), fun b o e n hf _ => ?_, fun b o e n _ => I.base.free b o e n (by intro z; cases z), fun b o e _ => ?_, I.base.tups, I.base.frzs, I.base.tbls⟩
    · obtain ⟨sl, q⟩ := I.base.slot b o e n hf (by intro z; cases z)
      obtain ⟨_, o', ho', hd⟩ := I.ok.funs.mem hf
      have ho'' : s₀.heap.get? b = some o' := ho'
      rw [e] at ho''
      cases ho''
      obtain ⟨sl', q'⟩ := x4 b { o with slots := sl } (hm.keeps b _ q) hd
      exact ⟨sl', q'⟩
    · by_cases hf : b ∈ frs outer
      · obtain ⟨_, o', ho', hd⟩ := I.ok.funs.mem hf
        have ho'' : s₀.heap.get? b = some o' := ho'
        rw [e] at ho''
        cases ho''
        obtain ⟨sl, q⟩ := I.base.slot b o e (I.ok.frf b hf) hf (by intro z; cases z)
        obtain ⟨sl', q'⟩ := x4 b { o with slots := sl } (hm.keeps b _ q) hd
        exact ⟨_, q'⟩
      · obtain ⟨o', q⟩ := I.base.there b o e (by intro z; cases z)
        exact ⟨o', k1 b o' (hB b o' q (old b o e hf))⟩
  have hok : HOk P w H h'' := fun b o e => (I.hok b o e).stay (fun c u hc q => by
    refine k1 c u (hB c u q ?_)
    rcases hc with z | z
    · rw [z]; exact trk b o e
    · exact trk c _ z) (fun _ q => q) (fun _ _ q => q)
  refine ⟨ea, C, t, H, PySem.W.hideAll s.heap (frs (envOfC qual scope s₀.heap.objs.size f cd :: outer)), rfl, hE, I.os, I.bare, un, hok, x1, fun b o e => ?_, ?_, fun b o e n nf => ?_⟩
  · obtain ⟨ob, q⟩ := ok_there (I.hok b o e)
    exact ⟨ob, hB b ob q (trk b o e)⟩
  · cases q : H ea with
    | none => rfl
    | some o =>
      obtain ⟨ob, z⟩ := ok_there (I.hok ea o q)
      rw [hm.new] at z; cases z
  · exact hB b o (I.base.keep b o e n nf (by intro z; cases z)) (old b o e nf)
end L2
set_option Elab.async false
set_option linter.all false
set_option maxRecDepth 100000
set_option genSizeOf false
set_option bootstrap.genMatcherCode false
set_option genInjectivity true
/-! an exception of a class of the text is caught -/
namespace L2
open PySem PySem.Spec PyProof.Rows
/-- what has come of a call that raised: whatever is noted of the exception, the state is as H' tells -/
structure Flown (X : Cx) (pins : List (Addr × Obj)) (σ : St) (ea C t : Addr) (H : Hp) (B : Heap) (s : Shared) : Prop where
  fl : Heap.FlyingW B X.stack ea (.ref C) (.ref t) s.heap
  nea : H ea = none
  inv : ∀ h', B.StaysIn h' → s.heap.UpToSlots h' → Inv X pins σ H { s with heap := h' }
  new : ∀ b o, X.s₀.heap.get? b = some o → X.H₀ b = none → b ∉ X.ex → b ≠ ea
  pne : ∀ p ∈ X.pn ++ pins, p.1 ≠ ea
theorem flown {X : Cx} {pins : List (Addr × Obj)} {σ : St} {H : Hp} {s s' : Shared} {E : XK} {e : Value} (I : Inv X pins σ H s) (h : CXr X.prog X.w X.stack H s E e s') (hdm : ∀ C H', E C none H' → ∀ b o, H b = some o → ∃ o', H' b = some o') :
    ∃ ea C t H' B, e = .ref ea ∧ E (.ref C) none H' ∧ Flown X pins σ ea C t H' B s' := by
  obtain ⟨ea, C, t, H', B, e1, hE, os, bare, un, hok, fl, trk, nea, old⟩ := h
  have gen : ∀ b o, s.heap.get? b = some o → H b = none → b ≠ ea := fun b o e n z => by
    subst z
    by_cases hf : b ∈ frs X.stack
    · obtain ⟨_, o', ho', hd⟩ := I.stack.mem hf
      rw [e] at ho'
      cases ho'
      obtain ⟨sl, q⟩ := un.slot b o e n hf (by intro z; cases z)
      obtain ⟨oe, ws, hoe, _, hoed, _⟩ := fl.first
      rw [q] at hoe
      cases hoe
      exact hd _ hoed
    · have z := old b o e n hf
      rw [fl.2.1] at z
      cases z
  refine ⟨ea, C, t, H', B, e1, hE, fl, nea, fun h'' kB up => ?_, fun b o e n nx => ?_, fun p hp => gen _ _ (I.pin p hp).1 (I.pin p hp).2.1⟩
  rotate_left
  · obtain ⟨o', q⟩ := I.base.there b o e nx
    exact gen b o' q (I.base.free b o e n nx)
  have dm := hdm _ _ hE
  have slot : ∀ b o, s.heap.get? b = some o → H b = none → b ∈ frs X.stack → ∃ sl, h''.get? b = some { o with slots := sl } := fun b o e n hf => by
    obtain ⟨sl, q⟩ := un.slot b o e n hf (by intro z; cases z)
    obtain ⟨_, o', ho', hd⟩ := I.stack.mem hf
    rw [e] at ho'
    cases ho'
    obtain ⟨sl', q'⟩ := up b { o with slots := sl } q hd
    exact ⟨sl', q'⟩
  have un' : Un (frs X.stack) [] H H' s.heap h'' := by
    refine ⟨fun b o e n nf _ => kB b o (old b o e n nf), fun b o e n hf _ => slot b o e n hf, un.free, fun b o e _ => ?_, un.tups, un.frzs, un.tbls⟩
    cases q : H b with
    | none =>
      by_cases hf : b ∈ frs X.stack
      · obtain ⟨sl, z⟩ := slot b o e q hf
        exact ⟨_, z⟩
      · exact ⟨o, kB b o (old b o e q hf)⟩
    | some u =>
      obtain ⟨u', q'⟩ := dm b u q
      obtain ⟨ob, z⟩ := trk b u' q'
      exact ⟨ob, kB b ob z⟩
  have hok' : HOk X.prog X.w H' h'' := fun b o e => (hok b o e).stay (fun c u hc q => by
    obtain ⟨ob, z⟩ : ∃ ob, B.get? c = some ob := by
      rcases hc with y | y
      · rw [y]; exact trk b o e
      · exact trk c _ y
    have z' := fl.1 c ob z
    rw [q] at z'
    cases z'
    exact kB c _ z) (fun _ q => q) (fun _ _ q => q)
  exact I.call' (s' := { s' with heap := h'' }) os un' hok' bare (fun b z => absurd z (by simp))
/-- within an except suite -/
noncomputable abbrev Cx.mark (X : Cx) (v : Value) : Cx := { X with A := X.A.mark (some v), calm := false }
theorem Inv.mark {X : Cx} {pins : List (Addr × Obj)} {σ : St} {H : Hp} {s : Shared} (I : Inv X pins σ H s) (v : Value) : Inv (X.mark v) pins σ H s :=
  ⟨⟨I.ok.mod, I.ok.kind, I.ok.glob, I.ok.blt, I.ok.above, I.ok.inj, I.ok.has, I.ok.cab, (fun z => absurd z Bool.false_ne_true), I.ok.frames, I.ok.stk, I.ok.exf, I.ok.bs, I.ok.bsz, I.ok.noex, I.ok.exfs, I.ok.funs, I.ok.frf⟩, I.os, I.bare, I.base, I.loc, I.cell, I.free, I.freeC, I.pin, I.hok, I.len⟩
/-- an object that is there is taken into what is told -/
theorem Inv.track {X : Cx} {pins : List (Addr × Obj)} {σ : St} {H : Hp} {s : Shared} {ea : Addr} {oe : Obj} (I : Inv X pins σ H s) (ho : s.heap.get? ea = some oe) (nea : H ea = none) (neL : ea ≠ X.env.locals) (neC : ∀ y c, X.env.cells.lookup y = some c → c ≠ ea)
    (new : ∀ b o, X.s₀.heap.get? b = some o → X.H₀ b = none → b ∉ X.ex → b ≠ ea) (pne : ∀ p ∈ X.pn ++ pins, p.1 ≠ ea) : Inv X pins σ (upd H ea (.frz oe (.own 0))) s := by
  have up : ∀ b u, H b = some u → upd H ea (.frz oe (.own 0)) b = some u := fun b u e => by rw [upd_ne (ne_of_none e nea)]; exact e
  refine ⟨I.ok, I.os, I.bare, ⟨I.base.keep, I.base.slot, fun b o e n nx => ?_, I.base.there, fun b xs e => up _ _ (I.base.tups b xs e), fun b o u e => up _ _ (I.base.frzs b o u e), fun b ps e => ?_⟩, I.loc, I.cell, ?_, fun y c hc => ?_, fun p hp => ?_, fun b o e => ?_, I.len⟩
  · rw [upd_ne (new b o e n nx)]; exact I.base.free b o e n nx
  · obtain ⟨m, z⟩ := I.base.tbls b ps e
    exact ⟨m, up _ _ z⟩
  · rw [upd_ne (Ne.symm neL)]; exact I.free
  · rw [upd_ne (neC y c hc)]; exact I.freeC y c hc
  · have z := I.pin p hp
    refine ⟨z.1, ?_, z.2.2⟩
    rw [upd_ne (pne p hp)]; exact z.2.1
  · by_cases hb : b = ea
    · subst hb
      rw [upd_same] at e
      cases e
      exact ⟨ho, oe, ho⟩
    · rw [upd_ne hb] at e
      exact (I.hok b o e).stay (fun c u _ q => q) (fun c q => up _ _ q) (fun c xs q => up _ _ q)
section
variable {X : Cx} {pins : List (Addr × Obj)} {σ : St} {ea C t : Addr} {H : Hp} {B : Heap} {s : Shared} {x n : Str} {np hpos : Pos} {cv : Value} {i : Nat} {b₀ : Stmt} {suite : List Stmt} {rest : List ExceptHandler} {Q : Flow → Shared → Prop} {E : Value → Shared → Prop} {b : Bool}
theorem ty_looks {M : Model} {h : Heap} {ob : Obj} {cls : Value} (ho : h.get? ea = some ob) (hc : ob.cls = cls) : PySem.W.Looks M h (typeOf (.ref ea)) cls := by
  rw [← hc]; exact (show PySem.W.Looks M h (typeOf (.ref ea)) ob.cls from (PySem.W.Looks.ld ho).andThen .now)
/-- except x as n, the class fits -/
theorem caught_as (F : Flown X pins σ ea C t H B s) (hs : X.stack = X.env :: X.outer) (hfr : X.env.frame = some X.env.locals) (hg : Gl X x) (hm : X.mg x = some cv) (hx : PySem.W.exmOne X.K (.ref C) cv = some true) (hN : X.N.Nodup) (hi : X.N[i]? = some n) (hl : X.env.scope.names.lookup n = some .local) (hd : (x == ("__debug__" : Str)) = false)
    (k : ∀ s7 oe, Inv (X.mark (.ref ea)) pins (σ.set i (some (.ref ea))) (upd H ea (.frz oe (.own 0))) s7 → oe.cls = .ref C →
      wpAny (model X.prog X.w) (X.A.mark (some (.ref ea))) (execs (b₀ :: suite) X.env) (fun f s3 => wpAny (model X.prog X.w) X.A (do bindName X.env n .none; unbindBehindTheSuite X.env n hpos) (fun _ s5 => Q f s5) E s3) (fun _ _ => False) s7) :
    wpAny (model X.prog X.w) X.A (noteFrame (.ref ea) X.env) (fun _ s2 => wpAny (model X.prog X.w) X.A (setFlight (.ref ea) none) (fun _ s3 => wpAny (model X.prog X.w) X.A (handleBy (.ref ea) X.env (.ExceptHandler (some (.Name x np)) (some n) (b₀ :: suite) hpos :: rest)) Q E s3) E s2) E s := by
  have I0 := F.inv s.heap F.fl.1 (Heap.UpToSlots.refl _)
  have fl := F.fl
  rw [hs] at fl
  have fr : X.A.frames = some (X.env :: X.outer) := by rw [← hs]; exact I0.ok.frames
  refine wpAny_looks_onW fr hfr fl fun h4 held4 up4 => ?_
  refine wpAny_landsW held4 fun h5 fl5 up5 => ?_
  have up45 := up4.trans up5
  have I5 := (F.inv h5 fl5.1 up45).mark (.ref ea)
  obtain ⟨ob, hob, hobc⟩ := fl5.there
  refine wpAny_handleBy_cons (codeAny_handlers_test (ld_glob I5 hg hm ?_ hd)) (by intro q; cases q)
  refine (PySem.W.exm_one I5.kIn (ty_looks hob hobc) hx).here ?_
  refine codeAny_handlers_suite_as (lands_againW fl5 fun h6 fl6 up6 => ?_)
  have I6 := (F.inv h6 fl6.1 (up45.trans up6)).mark (.ref ea)
  obtain ⟨oe, ws, hoe, hoec, hoed, _⟩ := fl6.first
  refine store_ok2 (X := X.mark (.ref ea)) (i := i) (v := .ref ea) I6 hN hi (.inl hl) rfl (fun s7 I7 ⟨a, sb, ha⟩ => ?_) (.inr hl)
  have neL : ea ≠ X.env.locals := fun z => by
    obtain ⟨m, ⟨o', es, ep, ho', hd', _⟩, _⟩ := I6.loc
    have ho'' : h6.get? X.env.locals = some o' := ho'
    rw [← z, hoe] at ho''
    cases ho''
    rw [hoed] at hd'
    cases hd'
  have neC : ∀ y c, X.env.cells.lookup y = some c → c ≠ ea := fun y c hc z => by
    obtain ⟨v, o', ho', hd'⟩ := I6.cell y c hc
    have ho'' : h6.get? c = some o' := ho'
    rw [z, hoe] at ho''
    cases ho''
    rw [hoed] at hd'
    cases hd'
  have nefs : ea ∉ X.fs := fun z => by
    obtain ⟨_, o', ho', hd'⟩ := I6.funs.mem z
    have ho'' : h6.get? ea = some o' := ho'
    rw [hoe] at ho''
    cases ho''
    exact hd' _ hoed
  have h7 : s7.heap.get? ea = some oe := by
    rw [sb.2 ea (by
      rcases ha with z | z
      · rw [z]; exact neL
      · exact fun q => neC n a z q.symm)]
    exact hoe
  exact wpAny_mono (k s7 oe (I7.track h7 F.nea neL neC F.new F.pne) hoec) (fun f s3 q => q) fun _ _ z => z.elim
end
end L2
set_option Elab.async false
set_option linter.all false
set_option maxRecDepth 100000
set_option genSizeOf false
set_option bootstrap.genMatcherCode false
set_option genInjectivity true
/-! calls that may raise; try: .. return, except C as n: .. return -/
namespace L2
open PySem PySem.Spec PyProof.Rows
section
variable {X : Cx} {k : Nat} {f C : Addr} {fd : FuncData} {ps : List Str} {sp : Sp} {dvs : List V} {ds : List Value} {x m : Str} {p pos apos : Pos} {e o : Expr} {es : List Expr} {ta : TE} {t : TA}
/-- the exceptions of a callee that was called at H reach what is wanted of them here -/
noncomputable def PassX (X : Cx) (σ : St) (H : Hp) (E : XK) : Prop := ∀ (pins : List (Addr × Obj)) (s : Shared) (e : Value) (s' : Shared), Inv X pins σ H s → CXr X.prog X.w X.stack H s E e s' → X.xe e s'
theorem run_fnX {pins : List (Addr × Obj)} {σ : St} {H : Hp} {s : Shared} {Q : VK} {E : XK} {us : List Value} {vs : List V} (F : FnOk X.prog X.w X.K X.mg X.base (CXr X.prog X.w) k f fd ps sp) (hr : Room k X.A) (hb : Binds X.K fd ps ds) (hd : Vals dvs ds)
    (I : Inv X pins σ H s) (r : Vals vs us) (h : sp (vs ++ dvs) H Q E) (hx : PassX X σ H E) : wpAny (model X.prog X.w) X.A (call (.ref f) us) (EP X pins σ Q) X.xe s := by
  have r2 : Vals (vs ++ dvs) (us ++ ds) := r.append hd
  have hl : (us ++ ds).length = ps.length := by rw [← r2.length]; exact F.len _ _ _ _ h
  refine wpAny_call (codeAny_mono (F.run X.A X.stack s H ⟨us, []⟩ (us ++ ds) (vs ++ dvs) Q E hr I.env0 (hb s us I.kIn hl) r2 h) fun r s' hq => ?_)
  cases r with
  | error e => exact hx pins s e s' I hq
  | ok fl => cases fl with
    | ret u => exact I.after hq
    | _ => exact False.elim hq
noncomputable def tMethX (X : Cx) (C : Addr) (m : Str) (sp : Sp) (dvs : List V) (ta : TE) (t : TA) : TE := fun σ H Q => ta σ H fun x H1 => ∃ a dx fs, x = .ref a ∧ H1 a = some (.ins C dx fs) ∧ fs.lookup m = none ∧ t σ H1 fun vs H2 => ∃ E, sp (x :: (vs ++ dvs)) H2 Q E ∧ PassX X σ H2 E
theorem pe_methX {pl : Sem Bool} (he : PE X o ta) (c : Cls X.K C) (hm : Meth X.K C m f) (F : FnOk X.prog X.w X.K X.mg X.base (CXr X.prog X.w) k f fd ps sp) (hr : Room k X.A) (hb : Binds X.K fd ps ds) (hd : Vals dvs ds) (ha : PA X (e :: es) t)
    (hst : starEach (e :: es) X.env = (false, eval e X.env) :: starEach es X.env := by rfl) (hpl : (backTo pos (starEach es X.env)).any (·.1) = false := by rfl)
    (ht : eval (.Call (.Attribute o m apos) (e :: es) [] pos) X.env = (do
      let ov ← eval o X.env; standAt apos.atName
      let (f, first) ← holding [ov] (getMethod ov m pl); callWith pos f first (backTo pos (starEach (e :: es) X.env)) (backToKw pos (keywordEach [] X.env))) := by rfl) :
    PE X (.Call (.Attribute o m apos) (e :: es) [] pos) (tMethX X C m sp dvs ta t) := by
  intro pins s σ H Q I h
  refine PySem.W.methodCall_KW (pl := pl) (thn (he pins s σ H _ I h) fun u s1 hw' => ?_) ht
  obtain ⟨x, H1, I1, rx, a, dx, fs, ex, ea, l, q⟩ := hw'
  subst ex; obtain rfl : u = Value.ref a := rx
  refine getmeth_ok I1 ea c hm l ?_
  exact PySem.W.callWith_K (first := [.ref a]) (h₀ := X.base) I.ok.mod.kin hm.kp (thn (ha pos pins s1 σ H1 _ I1 q) fun us s2 ⟨vs, H2, I2, r, E, q2, hx⟩ => ⟨I2.kIn, run_fnX (us := .ref a :: us) (vs := .ref a :: vs) F hr hb hd I2 (.cons rfl r) q2 hx⟩) hst hpl
end
/-- with these pins kept for good, and this wish about exceptions -/
noncomputable abbrev Cx.hold (X : Cx) (pn : List (Addr × Obj)) (E : Value → Shared → Prop) : Cx := { X with pn := pn, xe := E }
theorem Inv.hold {X : Cx} {pins : List (Addr × Obj)} {σ : St} {H : Hp} {s : Shared} (I : Inv X pins σ H s) (E : Value → Shared → Prop) : Inv (X.hold (X.pn ++ pins) E) [] σ H s :=
  ⟨⟨I.ok.mod, I.ok.kind, I.ok.glob, I.ok.blt, I.ok.above, I.ok.inj, I.ok.has, I.ok.cab, I.ok.hd, I.ok.frames, I.ok.stk, I.ok.exf, I.ok.bs, I.ok.bsz, I.ok.noex, I.ok.exfs, I.ok.funs, I.ok.frf⟩, I.os, I.bare, I.base, I.loc, I.cell, I.free, I.freeC, fun p hp => I.pin p (by simpa using hp), I.hok, I.len⟩
theorem Inv.unhold {X : Cx} {pins pins' : List (Addr × Obj)} {σ : St} {H : Hp} {s : Shared} {E : Value → Shared → Prop} (ok : X.Ok) (I : Inv (X.hold (X.pn ++ pins) E) pins' σ H s) : Inv X pins σ H s :=
  ⟨ok, I.os, I.bare, I.base, I.loc, I.cell, I.free, I.freeC, fun p hp => I.pin p (List.mem_append_left _ hp), I.hok, I.len⟩
/-- only a return is wanted -/
noncomputable def Ends.only (r : VK) : Ends := { nx := fun _ _ => False, rt := r, bk := fun _ _ => False, ct := fun _ _ => False }
/-- what is wanted of an exception within a try: it flies, and the suite serves -/
noncomputable def Served (X : Cx) (pins : List (Addr × Obj)) (Hw : St → Addr → Hp → Prop) : Value → Shared → Prop := fun e s' => ∃ σ ea C t H' B, e = .ref ea ∧ Flown X pins σ ea C t H' B s' ∧ Hw σ C H'
section
variable {X : Cx} {body : List Stmt} {x n : Str} {np hpos pos : Pos} {cv : Value} {i : Nat} {b₀ : Stmt} {suite : List Stmt} {tb : List (Addr × Obj) → (Value → Shared → Prop) → TS} {th : TS}
end
end L2
set_option Elab.async false
set_option linter.all false
set_option maxRecDepth 100000
set_option genSizeOf false
set_option bootstrap.genMatcherCode false
set_option genInjectivity true
/-! isinstance of an exception of a class of the text -/
namespace PySem.W
open PySem PySem.Spec PySem.Calls PyProof.Rows PySem.Builtin.ObjectAttr PySem PySem.Calls PyProof.Rows Builtin Builtin.ObjectAttr Builtin.Getset_descriptor
/-- an object of the class D, whatever its dict -/
noncomputable def ObAt (h : Heap) (x D : Addr) : Prop := ∃ ox, h.get? x = some ox ∧ ox.cls = .ref D
theorem ObAt.type {M : Model} {h : Heap} {x D : Addr} (I : ObAt h x D) : Looks M h (typeOf (.ref x)) (.ref D) := by
  obtain ⟨ox, h1, h2⟩ := I
  exact h2 ▸ (Looks.ld h1).andThen .now
section
variable {prog : Program} {w : World} {A : Around} {E : Value → Shared → Prop} {s : Shared} {K : Frag} {x D : Addr}
theorem bexc_check {M : Model} {Q : Unit → Shared → Prop} {tk : Tok} {y : Str} (X : K.In s.heap) (I : ObAt s.heap x D) (hsub : subIn K (.ref D) (.type "BaseException") = some true) (h : Q () s) :
    wpAny M A (checkBuiltinCall "BaseException.__getattribute__" ⟨[.ref x, .str y tk], []⟩) Q E s := by
  have hsplit : splitId "BaseException.__getattribute__" = some ("BaseException", "__getattribute__") := by decide +kernel
  have hk : builtinKind "BaseException.__getattribute__" = some .slot := by decide +kernel
  have LI : Looks M s.heap (isInstance (.ref x) (.type "BaseException")) true := I.type.andThen (looks_subIn X hsub)
  have ha := F.args_bexc_ga (.ref x) (.str y tk)
  simp only [checkBuiltinCall, hk, hsplit]
  refine wpAny_bind (LI.at ?_)
  simp only [Bool.not_true, Bool.false_eq_true, if_false]
  cases hsig : Manifest.signature? "BaseException.__getattribute__" with
  | none => exact wpAny_pure h
  | some sig =>
    simp only [argsOk, hsig] at ha
    have h2 : Bind.checkArgs "BaseException.__getattribute__" sig ⟨[.ref x, .str y tk], []⟩ = pure () := ha
    show wpAny M A (Bind.checkArgs _ sig _) Q E s
    rw [h2]; exact wpAny_pure h
/-- what isinstance wants to know of an exception class of the text -/
structure ExcLook (K : Frag) (D : Addr) : Prop where
  cl : (clsIn K D).isSome = true
  ga : findIn K (.ref D) "__getattribute__" = some (some (.builtin "BaseException.__getattribute__"))
  hk : findIn K (.ref D) "__getattr__" = some none
  sub : subIn K (.ref D) (.type "BaseException") = some true
  ha : findIn K (.ref D) "__class__" = some (some (.builtin "object.__class__"))
  hn : specialIn K (.builtin "object.__class__") "__get__" = some (some (.builtin "getset_descriptor.__get__"))
  tk : takesIn K (.builtin "object.__class__") = some true
  hm : mroIn K D (.type "object") = some true
theorem ExcLook.find {M : Model} {h : Heap} (T : ExcLook K D) (X : K.In h) : Looks M h (find (.ref x) (.ref D) "__class__") (.bind (.builtin "getset_descriptor.__get__") (.builtin "object.__class__")) := by
  have L1 := looks_findIn (M := M) X T.ha
  have L2 : Looks M h (getOf (some (.builtin "object.__class__"))) (some (.builtin "getset_descriptor.__get__")) := looks_specialIn X T.hn
  have L3 := looks_takesIn (M := M) X T.tk
  unfold Builtin.ObjectAttr.find
  refine L1.andThen (L2.andThen ?_)
  have L4 : Looks M h (dataDescriptor? (some (.builtin "object.__class__")) (some (.builtin "getset_descriptor.__get__"))) (some (.builtin "getset_descriptor.__get__", .builtin "object.__class__")) := L3.andThen .now
  exact L4.andThen (Looks.tag .now)
theorem class_getX {R : Result → Shared → Prop} {tp : Value} (X : K.In s.heap) (I : ObAt s.heap x D) (hm : mroIn K D (.type "object") = some true)
    (h : R (.ok (.ret (.ref D))) s) : codeAny (model prog w) A (.call (.builtin "getset_descriptor.__get__") ⟨[.builtin "object.__class__", .ref x, tp], []⟩) R s := by
  obtain ⟨hh, g, dr, t, os⟩ := s
  have L0 := I.type (M := model prog w)
  have L1 := looks_mroIn (M := model prog w) X hm
  refine codeAny_call_builtin KF.slot_gs.plain KF.entry_gs (KF.slot_gs.check _ _ _ _ _ _ _ _ KF.type_class (KF.args_gs _ _ _) ?_)
  unfold Builtin.«getset_descriptor.__get__» descrGet
  rw [dga_obj]
  refine wpAny_bind (wpAny_pure ?_)
  unfold descrGetter descrCheckInstance descrNameAndClass isInstance
  simp only [KF.owner_class]
  repeat lk
  refine ⟨Code.quiet_builtin _ (by decide +kernel), codeAny_builtin KF.entry_class ?_⟩
  unfold Builtin.«object.__class__» shownTypeOf
  repeat lk
  exact h
theorem exc_entry {tk : Tok} {Q : Fin → Shared → Prop} (T : ExcLook K D) (X : K.In s.heap) (I : ObAt s.heap x D) (h : Q (.done (.ret (.ref D))) s) :
    wpAny (model prog w) A (Builtin.«object.__getattribute__» ⟨[.ref x, .str "__class__" tk], []⟩) Q E s := by
  obtain ⟨hh, gg, d, t, os⟩ := s
  have L0 := I.type (M := model prog w)
  have L1 := T.find (M := model prog w) (x := x) X
  unfold Builtin.«object.__getattribute__»
  repeat (first | with_reducible refine wpAny_bind (L0.at ?_) | with_reducible refine wpAny_bind (L1.at ?_) | wp_step)
  exact class_getX X I T.hm (wpAny_pure h)
theorem exc_class {Q : Option Value → Shared → Prop} (T : ExcLook K D) (X : K.In s.heap) (I : ObAt s.heap x D) (h : Q (some (.ref D)) { s with toks := s.toks + 1 }) : wpAny (model prog w) A (getAttr? (.ref x) "__class__") Q E s := by
  obtain ⟨hh, g, d, t, os⟩ := s
  have L0 := I.type (M := model prog w)
  have L1 := looks_findIn (M := model prog w) X T.ga
  have L2 := looks_findIn (M := model prog w) X T.hk
  unfold getAttr? getAttrBy? getAttrBy
  refine wpAny_bind (wpAny_mkText (wpAny_bind (wpAny_attempt (wpAny_holding (wpAny_bind (L0.at (wpAny_bind (L1.at ?_))))))))
  show wpAny _ _ (getAttrByItsOwn _ _ _ _ _ _) _ _ _
  unfold getAttrByItsOwn hookBefore
  refine wpAny_bind (L2.at ?_)
  refine wpAny_bind (wpAny_attempt (wpAny_holding ?_))
  show wpAny _ _ (boundAndCalled _ _ _) _ _ _
  unfold boundAndCalled
  rw [F.excAttr_ValueError.ga.bind]
  refine wpAny_bind (wpAny_pure ?_)
  refine wpAny_call (codeAny_call_builtin F.excAttr_ValueError.ga.plain F.entry_bexc_ga (bexc_check (s := ⟨hh, g, d, t + 1, os⟩) X I T.sub (exc_entry (s := ⟨hh, g, d, t + 1, os⟩) T X I ?_)))
  dsimp only
  refine handed_on rfl ?_
  exact wpAny_pure h
theorem kitx_exc (T : ExcLook K D) : KitX K (.ref x) (.ref D) (fun h => ObAt h x D) where
  ty := fun _ _ _ I => I.type
  it := fun _ _ X _ => by
    obtain ⟨cdD, hcD⟩ := Option.isSome_iff_exists.mp T.cl
    unfold clsIn at hcD
    split at hcD
    · rename_i c' d' cd' sl' ho
      intro A' Q' E' s' k q
      unfold isType loadHead
      exact wpAny_bind (wpAny_loadPart (k _ _ (X _ _ ho)) (wpAny_pure q))
    · cases hcD
  ne := fun h tp dd its n sl X htp => by
    obtain ⟨cdD, hcD⟩ := Option.isSome_iff_exists.mp T.cl
    refine Bool.eq_false_iff.mpr fun q => ?_
    have e : D = tp := Value.ref.inj (beq_iff_eq.mp q)
    subst e
    unfold clsIn at hcD
    split at hcD
    · rename_i c' d' cd' sl' ho
      have z := (X _ _ ho).symm.trans htp
      cases z
    · cases hcD
  ca := fun X I k => exc_class T X I k
end
end PySem.W
set_option Elab.async false
set_option linter.all false
set_option maxRecDepth 100000
set_option genSizeOf false
set_option bootstrap.genMatcherCode false
set_option genInjectivity true
namespace DL
open PySem PySem.Spec PyProof.Rows L2
/-! ### isinstance(x, C), isinstance(x, (C, ..)), x an exception of the text -/
/-- t: of which classes it is so -/
noncomputable def gIsX (t : Str → Option Bool) (g : Den) : Den := fun ρ Ω => match g ρ Ω with
  | some (.obj n, Ω1) => match Ω1[n]? with
    | some (.exc c) => match t c with
      | some b => some (.bl b, Ω1)
      | none => none
    | _ => none
  | _ => none
section
variable {X : Cx} {C : Cl} {x y : Expr} {g : Den} {pos p : Pos} {n : Str} {t : Str → Option Bool}
theorem isx_read {K : PySem.W.Frag} {σ : St} {H : Hp} {Q : VK} {R : VK} (hw : tD K C (gIsX t g) σ H Q)
    (k : ∀ a Ca ob u e' Ω' (c : Str) b, Wf K C e' Ω' → e'.H a = some (.frz ob u) → ob.cls = .ref Ca → C c = some Ca → t c = some b → (∀ e'', Ext e' e'' → Wf K C e'' Ω' → Q (.bl b) e''.H) → R (.ref a) e'.H) : tD K C g σ H R := by
  obtain ⟨e, Ω, ρ, d, Ω', eH, w, rl, q, kk⟩ := hw
  unfold gIsX at q
  cases q1 : g ρ Ω with
  | none => rw [q1] at q; cases q
  | some p1 =>
    obtain ⟨d1, Ω1⟩ := p1
    rw [q1] at q
    cases d1 with
    | obj n =>
      dsimp only at q
      cases q2 : Ω1[n]? with
      | none => rw [q2] at q; cases q
      | some o =>
        rw [q2] at q
        cases o with
        | exc c =>
          dsimp only at q
          cases q3 : t c with
          | none => rw [q3] at q; cases q
          | some b =>
            rw [q3] at q
            cases q
            refine ⟨e, Ω, ρ, .obj n, _, eH, w, rl, q1, fun v e' x' w' i' => ?_⟩
            rw [Is] at i'
            obtain ⟨a, ha, rfl⟩ := i'
            obtain ⟨_, Ca, ob, u, h1, h2, h3⟩ := w'.ob n a (.exc c) ha q2
            exact k a Ca ob u e' _ c b w' h2 h3 h1 q3 fun e'' y w'' => kk _ e'' (x'.trans y) w'' (by rw [Is])
        | _ => cases q
    | _ => cases q
theorem pd_isxs {ys : List Expr} {tt : TA} {vs : List V} {cvs : List Value} {x1} {ypos : Pos} (ha : PD X C x g) (hy : PA X ys tt) (htt : ∀ σ H Q, Q vs H → tt σ H Q) (hvs : ∀ us, Vals vs us → us = cvs) (hlen : vs.length ≤ sizeLine) (hg : Gl X n) (hm : X.mg n = none) (hv : bootBuiltins n = some (.builtin "isinstance"))
    (hk : ∀ c Ca b, t c = some b → C c = some Ca → PySem.W.ExcLook X.K Ca ∧ PySem.W.kitAny X.K (.ref Ca) cvs = some b)
    (hn : n ≠ "__name__" := by decide) (hdb : (n == ("__debug__" : Str)) = false := by decide)
    (he : starEach [x, .Tuple ys x1 ypos] X.env = (false, eval x X.env) :: starEach [.Tuple ys x1 ypos] X.env := by rfl) (he2 : starEach [.Tuple ys x1 ypos] X.env = (false, eval (.Tuple ys x1 ypos) X.env) :: starEach [] X.env := by rfl) (hpl : (backTo pos (starEach [.Tuple ys x1 ypos] X.env)).any (·.1) = false := by rfl) :
    PD X C (.Call (.Name n p) [x, .Tuple ys x1 ypos] [] pos) (gIsX t g) := by
  have hc : CallR X (.builtin "isinstance") (fun xs H Q => ∃ a tp Ca ob u k, xs = [.ref a, .ref tp] ∧ H tp = some (.tup vs) ∧ H a = some (.frz ob u) ∧ ob.cls = .ref Ca ∧ PySem.W.ExcLook X.K Ca ∧ PySem.W.kitAny X.K (.ref Ca) cvs = some k ∧ Q (.bl k) H) := by
    intro pins s σ H xs us Q I r hw
    obtain ⟨a, tp, Ca, ob, u, k, rfl, h0, h1, h2, T, e, q⟩ := hw
    obtain ⟨u1, w', rfl, r1, r2⟩ := vals2 r
    obtain rfl : u1 = Value.ref a := r1
    obtain rfl : w' = Value.ref tp := r2
    have ho : s.heap.get? a = some ob := (show ObjOk X.prog X.w H s.heap a (.frz ob u) from I.hok a _ h1).1
    obtain ⟨_, its, ri, ⟨oc, od, odt, osl⟩, g1, g2, m, g3⟩ := (show ObjOk X.prog X.w H s.heap tp (.tup vs) from I.hok tp _ h0)
    obtain rfl := hvs _ ri
    dsimp only at g2 g3
    subst g2 g3
    exact PySem.W.kia_tup (PySem.W.kitx_exc T) I.kIn ⟨ob, ho, h2⟩ g1 e (fun z => nomatch z) fun tk => ⟨.bl k, H, I.tok tk, rfl, q⟩
  refine pe_imp (pe_callB hc hg hm hv (pa_cons ha (pa_cons (pe_tup hy) pa_nil he2) he) hn hdb he hpl) fun σ H Q hw => ?_
  unfold tCB tCons
  refine isx_read hw fun a Ca ob u e' Ω' c b w' h1 h2 h3 h4 q => ?_
  obtain ⟨T, z⟩ := hk c Ca b h4 h3
  refine htt _ _ _ ⟨hlen, fun tp hp => ?_⟩
  refine ⟨a, tp, Ca, ob, u, b, rfl, upd_same, ?_, h2, T, z, q (e'.new tp (.tup vs)) (w'.new_ext hp) (w'.new hp)⟩
  rw [upd_ne (ne_of_none h1 hp)]; exact h1
end
end DL
set_option Elab.async false
set_option linter.all false
set_option maxRecDepth 100000
set_option genSizeOf false
set_option bootstrap.genMatcherCode false
set_option genInjectivity true
/-! THE WAY OUT BY AN EXCEPTION, beside the way through (PD, PDS, PDB): what raises, of which class, with which objects. -/
namespace DL
open PySem PySem.Spec PyProof.Rows L2
noncomputable abbrev RDen := List Sl → List OS → Option (Str × List OS)
noncomputable abbrev XFDen := List D → List OS → Option (Str × List OS)
noncomputable abbrev SRDen := List Sl → List OS → Option (Str × List Sl × List OS)
noncomputable abbrev XWt := St → Addr → Hp → Prop
noncomputable def tR (K : PySem.W.Frag) (C : Cl) (XW : XWt) (r : RDen) : TE := fun σ H _ => ∃ e Ω ρ c Ω' Ca, e.H = H ∧ Wf K C e Ω ∧ RelE K e σ ρ ∧ r ρ Ω = some (c, Ω') ∧ C c = some Ca ∧ ∀ e', Ext e e' → Wf K C e' Ω' → XW σ Ca e'.H
noncomputable def RD (X : Cx) (C : Cl) (XW : XWt) (x : Expr) (r : RDen) : Prop := PE X x (tR X.K C XW r)
noncomputable def tRS (K : PySem.W.Frag) (C : Cl) (XW : XWt) (e₀ : E4) (r : SRDen) : TS := fun _ σ H => ∃ e Ω ρ c ρ' Ω' Ca, e.H = H ∧ RelS K C e₀ e Ω σ ρ ∧ r ρ Ω = some (c, ρ', Ω') ∧ C c = some Ca ∧ ∀ e' σ', RelS K C e₀ e' Ω' σ' ρ' → XW σ' Ca e'.H
noncomputable def RDS (X : Cx) (C : Cl) (XW : XWt) (st : Stmt) (r : SRDen) : Prop := ∀ e₀, PS X st (tRS X.K C XW e₀ r)
noncomputable def RDB (X : Cx) (C : Cl) (XW : XWt) (sts : List Stmt) (r : SRDen) : Prop := ∀ e₀, PSs X sts (tRS X.K C XW e₀ r)
noncomputable def dmH (H H' : Hp) : Prop := ∀ b o, H b = some o → ∃ o', H' b = some o'
/-- what raises here leaves as is wanted; what a callee raised does -/
noncomputable def ThrowOk (X : Cx) (XW : XWt) : Prop := ∀ Ca σ H, XW σ Ca H → Thrown X Ca σ H
noncomputable def FlyOk (X : Cx) (XW : XWt) : Prop := ∀ σ H, PassX X σ H fun cv _ H' => ∃ Ca, cv = .ref Ca ∧ XW σ Ca H' ∧ dmH H H'
section
variable {X : Cx} {C : Cl} {XW : XWt} {a b c x : Expr} {f g : Den} {p : TDen} {st : Stmt} {rest sts sts' : List Stmt} {s : SDen} {r r1 r2 : SRDen} {rx : RDen} {pos : Pos}
theorem rdb_one (h : RDS X C XW st r) : RDB X C XW [st] r := fun e₀ => pss_one (h e₀)
/-- the first statement raises -/
theorem rdb_here (h : RDS X C XW st r) : RDB X C XW (st :: rest) r := fun e₀ => pss_imp (pss_cons (h e₀) (pss_never (sts := rest))) fun Dn σ H hw' => by obtain ⟨e, Ω, ρ, c, ρ', Ω', Ca, eH, rl, q, hC, k⟩ := hw'; exact ⟨e, Ω, ρ, c, ρ', Ω', Ca, eH, rl, q, hC, k⟩
noncomputable def rNever : SRDen := fun _ _ => none
theorem rdb_never : RDB X C XW sts rNever := fun e₀ => pss_imp pss_never fun Dn σ H hw' => by obtain ⟨e, Ω, ρ, c, ρ', Ω', Ca, eH, rl, q, hC, k⟩ := hw'; cases q
noncomputable def rIf (p : TDen) (s t : SRDen) : SRDen := fun ρ Ω => match p ρ Ω with
  | some (true, Ω') => s ρ Ω'
  | some (false, Ω') => t ρ Ω'
  | none => none
theorem rds_if (hc : PDT X C c p) (ha : RDB X C XW sts r1) (hb : RDB X C XW sts' r2) : RDS X C XW (.If c sts sts' pos) (rIf p r1 r2) := fun e₀ => ps_imp (ps_if hc (ha e₀) (hb e₀)) fun Dn σ H hw' => by
  obtain ⟨e, Ω, ρ, c, ρ', Ω', Ca, eH, rl, q, hC, k⟩ := hw'
  unfold rIf at q
  cases q1 : p ρ Ω with
  | none => rw [q1] at q; cases q
  | some p1 =>
    obtain ⟨d, Ω1⟩ := p1
    rw [q1] at q
    refine ⟨e, Ω, ρ, d, Ω1, eH, rl.wf, rl.rel, q1, fun e' x' w' => ?_⟩
    cases d with
    | true => rw [if_pos rfl]; exact ⟨e', Ω1, ρ, c, ρ', Ω', Ca, rfl, rl.to x' w', q, hC, k⟩
    | false => rw [if_neg (by decide)]; exact ⟨e', Ω1, ρ, c, ρ', Ω', Ca, rfl, rl.to x' w', q, hC, k⟩
noncomputable def rE (rx : RDen) : SRDen := fun ρ Ω => match rx ρ Ω with
  | some (c, Ω') => some (c, ρ, Ω')
  | none => none
theorem rE_read {K : PySem.W.Frag} {e₀ : E4} {σ : St} {H : Hp} {Dn : Ends} {Q : VK} (hw : tRS K C XW e₀ (rE rx) Dn σ H) : tR K C XW rx σ H Q := by
  obtain ⟨e, Ω, ρ, c, ρ', Ω', Ca, eH, rl, q, hC, k⟩ := hw
  unfold rE at q
  cases q1 : rx ρ Ω with
  | none => rw [q1] at q; cases q
  | some p1 =>
    obtain ⟨c1, Ω1⟩ := p1
    rw [q1] at q
    cases q
    exact ⟨e, Ω, ρ, _, _, Ca, eH, rl.wf, rl.rel, q1, hC, fun e' x' w' => k e' σ (rl.to x' w')⟩
theorem rds_expr (h : RD X C XW x rx) (hs : swapsWith x none pos.line X.env = pure false := by rfl) : RDS X C XW (.Expr x pos) (rE rx) := fun e₀ => ps_imp (ps_expr h hs) fun Dn σ H hw => rE_read hw
end
end DL
set_option Elab.async false
set_option linter.all false
set_option maxRecDepth 100000
set_option genSizeOf false
set_option bootstrap.genMatcherCode false
set_option genInjectivity true
namespace DL
open PySem PySem.Spec PyProof.Rows L2
/-! ### defs that may raise -/
noncomputable def spX (K : PySem.W.Frag) (C : Cl) (F : FDen) (R : XFDen) : Sp := fun vs H Q E => spD K C F vs H Q E ∨ ∃ e Ω ds c Ω' Ca, e.H = H ∧ Wf K C e Ω ∧ IsL K e.α e.F ds vs ∧ R ds Ω = some (c, Ω') ∧ C c = some Ca ∧ ∀ e', Ext e e' → Wf K C e' Ω' → E (.ref Ca) none e'.H
noncomputable def runR (n m : Nat) (r : SRDen) : XFDen := fun ds Ω => if ds.length = n then match r (ds.map Sl.dat ++ List.replicate (m - n) Sl.und) Ω with
  | some (c, _, Ω') => some (c, Ω')
  | none => none
  else none
theorem throwOk_def {P : Program} {w : World} {K : PySem.W.Frag} {mg : Str → Option Value} {base : Heap} {N : List Str} {qual : Str} {scope : Scope} {f : Addr} {cd : Value} {A : Around} {outer : List Env} {s₀ : Shared} {H₀ : Hp} {E : XK} :
    ThrowOk (cxOf (CXr P w) P w K mg base N qual scope f cd A outer s₀ H₀ E) fun _ Ca H' => E (.ref Ca) none H' := fun Ca σ H h => thrown_leaves h
theorem fn_DX {P : Program} {w : World} {K : PySem.W.Frag} {mg : Str → Option Value} {base : Heap} {C : Cl} {x qual : Str} {st : Stmt} {dV : Value} {f : Addr} {fd : FuncData} {N ps : List Str} {k n m : Nat} {s : SDen} {r : SRDen} (F : FunV K x qual st dV f fd) (S : FnScope N ps (defScope st)) (hn : ps.length = n) (hm : N.length = m)
    (hbody : ∀ (cdv : Value) (A : Around) (outer : List Env) (sh : Shared) (H : Hp) (E : XK), Room k (A.deeper (envOfC qual (defScope st) sh.heap.objs.size f cdv)) →
      PDB (cxOf (CXr P w) P w K mg base N qual (defScope st) f cdv A outer sh H E).nox C (defBody st) s)
    (hout : ∀ (cdv : Value) (A : Around) (outer : List Env) (sh : Shared) (H : Hp) (E : XK), Room k (A.deeper (envOfC qual (defScope st) sh.heap.objs.size f cdv)) →
      RDB (cxOf (CXr P w) P w K mg base N qual (defScope st) f cdv A outer sh H E) C (fun _ Ca H' => E (.ref Ca) none H') (defBody st) r) : FnOk P w K mg base (CXr P w) (k + 1) f fd ps (spX K C (runD n m s) (runR n m r)) := by
  obtain ⟨oc, od, kV, doc, pm, an, cdv, ct, osl, rfl, lk, hcd⟩ := F
  refine fn_of lk hcd S (fun vs H Q E h => ?_) fun A outer sh H vs Q E hr h => ?_
  · rcases h with ⟨e, Ω, ds, d, Ω', _, _, i, q, _⟩ | ⟨e, Ω, ds, c, Ω', Ca, _, _, i, q, _⟩
    · unfold runD at q
      by_cases hl : ds.length = n
      · rw [← i.length, hl, hn]
      · rw [if_neg hl] at q; cases q
    · unfold runR at q
      by_cases hl : ds.length = n
      · rw [← i.length, hl, hn]
      · rw [if_neg hl] at q; cases q
  · rcases h with ⟨e, Ω, ds, d, Ω', eH, wf, i, q, kk⟩ | ⟨e, Ω, ds, c, Ω', Ca, eH, wf, i, q, hC, kk⟩
    · unfold runD at q
      by_cases hl : ds.length = n
      · rw [if_pos hl] at q
        cases q1 : s (ds.map Sl.dat ++ List.replicate (m - n) Sl.und) Ω with
        | none => rw [q1] at q; cases q
        | some o =>
          rw [q1] at q
          refine ⟨_, (hbody cdv A outer sh H E hr e).nox, e, Ω, _, o, eH, start_rel wf i, by rw [hl, hm]; exact q1, ?_⟩
          cases o with
          | rt d' Ω2 => cases q; exact fun e' v x' w' i' => kk v e' x' w' i'
          | nx ρ' Ω2 => cases q; exact fun e' σ' r' => kk .non e' r'.ext r'.wf (by rw [Is])
          | bk ρ' Ω2 => cases q
          | ct ρ' Ω2 => cases q
      · rw [if_neg hl] at q; cases q
    · unfold runR at q
      by_cases hl : ds.length = n
      · rw [if_pos hl] at q
        cases q1 : r (ds.map Sl.dat ++ List.replicate (m - n) Sl.und) Ω with
        | none => rw [q1] at q; cases q
        | some p1 =>
          obtain ⟨c1, ρ1, Ω1⟩ := p1
          rw [q1] at q
          cases q
          exact ⟨_, hout cdv A outer sh H E hr e, e, Ω, _, _, ρ1, _, Ca, eH, start_rel wf i, by rw [hl, hm]; exact q1, hC, fun e' σ' r' => kk e' r'.ext r'.wf⟩
      · rw [if_neg hl] at q; cases q
/-! ### methods that may raise -/
structure MtX (P : Program) (w : World) (K : PySem.W.Frag) (mg : Str → Option Value) (base : Heap) (C : Cl) (k : Nat) (c m : Str) (F : FDen) (R : XFDen) (dfl : List D) : Prop where
  ex : ∃ Ca f fd ps ds dvs, C c = some Ca ∧ Cls K Ca ∧ Meth K Ca m f ∧ Binds K fd ps ds ∧ Vals dvs ds ∧ (∀ α H, IsL K α H dfl dvs) ∧ FnOk P w K mg base (CXr P w) k f fd ps (spX K C F R)
theorem tD_mono {K : PySem.W.Frag} {C : Cl} {g : Den} {σ : St} {H : Hp} {Q Q' : VK} (h : tD K C g σ H Q) (i : ∀ v H', Q v H' → Q' v H') : tD K C g σ H Q' := by
  obtain ⟨e, Ω, ρ, d, Ω', eH, w, rl, q, kk⟩ := h
  exact ⟨e, Ω, ρ, d, Ω', eH, w, rl, q, fun v e' x' w' i' => i _ _ (kk v e' x' w' i')⟩
theorem tDA_mono {K : PySem.W.Frag} {C : Cl} {g : ADen} {σ : St} {H : Hp} {Q Q' : List V → Hp → Prop} (h : tDA K C g σ H Q) (i : ∀ v H', Q v H' → Q' v H') : tDA K C g σ H Q' := by
  obtain ⟨e, Ω, ρ, d, Ω', eH, w, rl, q, kk⟩ := h
  exact ⟨e, Ω, ρ, d, Ω', eH, w, rl, q, fun v e' x' w' i' => i _ _ (kk v e' x' w' i')⟩
theorem passX_none {X : Cx} {σ : St} {H : Hp} : PassX X σ H fun _ _ _ => False := fun pins s e s' I hw' => by obtain ⟨ea, C, t, H', B, _, z, _⟩ := hw'; exact z.elim
noncomputable def rMeth (c m : Str) (R : XFDen) (dfl : List D) (go : Den) (ga : ADen) : RDen := fun ρ Ω => match go ρ Ω with
  | some (.obj n, Ω1) => (match Ω1[n]? with
    | some (.ins c' fs) => if c' = c then (match fs.lookup m with
      | none => (match ga ρ Ω1 with | some (ds, Ω2) => R (.obj n :: (ds ++ dfl)) Ω2 | none => none)
      | some _ => none) else none
    | _ => none)
  | _ => none
section
variable {X : Cx} {C : Cl} {XW : XWt} {a b x : Expr} {f g : Den} {ga : ADen} {r : RDen} {pos ap cp : Pos}
theorem rmeth_read {K : PySem.W.Frag} {c m : Str} {F : FDen} {R : XFDen} {dfl : List D} {dvs : List V} {Ca : Addr} (hX : FlyOk X XW) (hC : C c = some Ca) (hd : ∀ α H, IsL K α H dfl dvs) {σ : St} {H : Hp} {Q : VK} (hw : tR K C XW (rMeth c m R dfl f ga) σ H Q) :
    tMethX X Ca m (spX K C F R) dvs (tD K C f) (tDA K C ga) σ H Q := by
  obtain ⟨e, Ω, ρ, xc, Ω', Xa, eH, w, rl, q, hXa, kk⟩ := hw
  unfold rMeth at q
  cases q1 : f ρ Ω with
  | none => rw [q1] at q; cases q
  | some p1 =>
    obtain ⟨d1, Ω1⟩ := p1
    rw [q1] at q
    cases d1 with
    | obj n =>
      dsimp only at q
      cases q0 : Ω1[n]? with
      | none => rw [q0] at q; cases q
      | some o0 =>
        rw [q0] at q
        refine ⟨e, Ω, ρ, _, Ω1, eH, w, rl, q1, fun v e1 x1 w1 i1 => ?_⟩
        rw [Is] at i1
        obtain ⟨p, hα, rfl⟩ := i1
        have ob := (w1.ob n p _ hα q0).2
        cases o0 with
        | ins c' fs =>
          dsimp only at q
          by_cases ec : c' = c
          · rw [if_pos ec] at q
            subst ec
            cases q2 : fs.lookup m with
            | some v0 => rw [q2] at q; cases q
            | none =>
              rw [q2] at q
              dsimp only at q
              cases q3 : ga ρ Ω1 with
              | none => rw [q3] at q; cases q
              | some p3 =>
                obtain ⟨ds, Ω2⟩ := p3
                rw [q3] at q
                obtain ⟨Cb, dx, fvs, h1, h2, h3⟩ := ob
                rw [hC] at h1
                cases h1
                have ov := h3.look m
                rw [q2] at ov
                have e2 : fvs.lookup m = none := by
                  cases z : fvs.lookup m with
                  | none => rfl
                  | some v => rw [z] at ov; exact ov.elim
                refine ⟨p, dx, fvs, rfl, h2, e2, e1, Ω1, ρ, ds, Ω2, rfl, w1, rl.ext x1, q3, fun vs e3 x3 w3 i3 => ?_⟩
                refine ⟨_, .inr ⟨e3, Ω2, _, xc, Ω', Xa, rfl, w3, .cons (by rw [Is]; exact ⟨p, obj_ext (K := K) x3 hα, rfl⟩) (i3.append (hd _ _)), q, hXa, fun e4 x4 w4 => ?_⟩, hX σ e3.H⟩
                exact ⟨Xa, rfl, kk e4 ((x1.trans x3).trans x4) w4, x4.dm⟩
          · rw [if_neg ec] at q; cases q
        | _ => cases q
    | _ => cases q
theorem rd_meth {k : Nat} {c m : Str} {F : FDen} {R : XFDen} {dfl : List D} {es : List Expr} {pl : Sem Bool} (hX : FlyOk X XW) (G : MtX X.prog X.w X.K X.mg X.base C k c m F R dfl) (hr : Room k X.A) (ho : PD X C a f) (ha : PDA X C (x :: es) ga)
    (hst : starEach (x :: es) X.env = (false, eval x X.env) :: starEach es X.env := by rfl) (hpl : (backTo cp (starEach es X.env)).any (·.1) = false := by rfl)
    (ht : eval (.Call (.Attribute a m ap) (x :: es) [] cp) X.env = (do
      let ov ← eval a X.env
      standAt ap.atName
      let (f, first) ← holding [ov] (getMethod ov m pl)
      callWith cp f first (backTo cp (starEach (x :: es) X.env)) (backToKw cp (keywordEach [] X.env))) := by rfl) :
    RD X C XW (.Call (.Attribute a m ap) (x :: es) [] cp) (rMeth c m R dfl f ga) := by
  obtain ⟨Ca, fa, fd, ps, ds, dvs, hC, cl, me, hb, hd, hdd, ok⟩ := G.ex
  exact pe_imp (pe_methX ho cl me ok hr hb hd ha hst hpl ht) fun _ _ _ hw => rmeth_read hX hC hdd hw
theorem pd_methX {k : Nat} {c m : Str} {F : FDen} {R : XFDen} {dfl : List D} {es : List Expr} {pl : Sem Bool} (G : MtX X.prog X.w X.K X.mg X.base C k c m F R dfl) (hr : Room k X.A) (ho : PD X C a f) (ha : PDA X C (x :: es) ga)
    (hst : starEach (x :: es) X.env = (false, eval x X.env) :: starEach es X.env := by rfl) (hpl : (backTo cp (starEach es X.env)).any (·.1) = false := by rfl)
    (ht : eval (.Call (.Attribute a m ap) (x :: es) [] cp) X.env = (do
      let ov ← eval a X.env
      standAt ap.atName
      let (f, first) ← holding [ov] (getMethod ov m pl)
      callWith cp f first (backTo cp (starEach (x :: es) X.env)) (backToKw cp (keywordEach [] X.env))) := by rfl) :
    PD X C (.Call (.Attribute a m ap) (x :: es) [] cp) (gMeth c m F dfl f ga) := by
  obtain ⟨Ca, fa, fd, ps, ds, dvs, hC, cl, me, hb, hd, hdd, ok⟩ := G.ex
  exact pe_imp (pe_methX ho cl me ok hr hb hd ha hst hpl ht) fun _ _ _ hw => tD_mono (meth_read (E := fun _ _ _ => False) hC hdd hw) fun v H1 ⟨a, dx, fs, h1, h2, h3, z⟩ => ⟨a, dx, fs, h1, h2, h3, tDA_mono z fun vs H2 z2 => ⟨_, .inl z2, passX_none⟩⟩
/-! ### calls of defs that may raise -/
end
section
variable {X : Cx} {C : Cl} {XW : XWt} {k : Nat} {F : FDen} {R : XFDen} {n : Str} {p pos : Pos} {a b x : Expr} {es : List Expr} {ga : ADen} {f g : Den} {r : RDen}
end
end DL
set_option Elab.async false
set_option linter.all false
set_option maxRecDepth 100000
set_option genSizeOf false
set_option bootstrap.genMatcherCode false
set_option genInjectivity true
namespace L2
open PySem PySem.Spec PyProof.Rows
theorem Cx.Ok.unhold {X : Cx} {pn : List (Addr × Obj)} {E : Value → Shared → Prop} (h : (X.hold pn E).Ok) : X.Ok :=
  ⟨h.mod, h.kind, h.glob, h.blt, h.above, h.inj, h.has, h.cab, h.hd, h.frames, h.stk, h.exf, h.bs, h.bsz, h.noex, h.exfs, h.funs, h.frf⟩
end L2
namespace DL
open PySem PySem.Spec PyProof.Rows L2
/-! ### try: .. return ..; except C as n: .. return .. -/
theorem flyOk_try {X : Cx} {pins : List (Addr × Obj)} {Hw : XWt} : FlyOk (X.hold (X.pn ++ pins) (Served X pins Hw)) Hw := fun σ H pins' s e s' I h => by
  have I' : Inv X pins σ H s := I.unhold I.ok.unhold
  obtain ⟨ea, Cc, t, H', B, rfl, ⟨Ca, hc, hw, _⟩, F⟩ := flown I' h fun Cv H' ⟨Ca, _, _, dm⟩ => dm
  cases hc
  exact ⟨σ, ea, _, t, H', B, rfl, F, hw⟩
section
variable {X : Cx} {C : Cl} {body : List Stmt} {x n : Str} {np hpos pos : Pos} {cv : Value} {i : Nat} {b₀ : Stmt} {suite : List Stmt} {s t : SDen} {r : SRDen} {tc : Str → Bool}
end
/-! ### more places where a part raises -/
section
variable {X : Cx} {C : Cl} {XW : XWt} {a b x : Expr} {es : List Expr} {rx : RDen} {n : Str} {p pos : Pos}
end
end DL
set_option Elab.async false
set_option linter.all false
set_option maxRecDepth 100000
set_option genSizeOf false
set_option bootstrap.genMatcherCode false
set_option genInjectivity true
namespace L2
open PySem PySem.Spec PyProof.Rows
section
variable {X : Cx} {a : Expr} {ta : TE} {z : Str} {kk : Nat} {p1 p2 pos : Pos}
end
end L2
namespace DL
open PySem PySem.Spec PyProof.Rows L2
/-! ### what has a value that is not told -/
noncomputable abbrev VDen := List Sl → List OS → Option (List OS)
noncomputable def tV (K : PySem.W.Frag) (C : Cl) (p : VDen) : TE := fun σ H Q => ∃ e Ω ρ Ω', e.H = H ∧ Wf K C e Ω ∧ RelE K e σ ρ ∧ p ρ Ω = some Ω' ∧ ∀ v e', Ext e e' → Wf K C e' Ω' → Q v e'.H
noncomputable def PV (X : Cx) (C : Cl) (x : Expr) (p : VDen) : Prop := PE X x (tV X.K C p)
section
variable {X : Cx} {C : Cl} {XW : XWt} {a x : Expr} {f g : Den} {p : VDen} {pos p1 p2 : Pos}
noncomputable def smallI (i : Int) : Prop := i.natAbs.log2 < 1920 ∧ (Str.ofString (toString i)).length ≤ 1000
noncomputable instance (i : Int) : Decidable (smallI i) := by unfold smallI; infer_instance
/-- raise C(e), whatever e reads -/
noncomputable def rRaiseV (c : Str) (p : VDen) : SRDen := fun ρ Ω => match p ρ Ω with
  | some Ω' => some (c, ρ, Ω')
  | none => none
theorem rds_raiseV {cn : Str} {Ca : Addr} {bmB : List Value} {B newId initId : String} {np cpos : Pos} (hX : ThrowOk X XW) (hC : C cn = some Ca) (O : OwnCls cn Ca bmB newId X.mg X.base) (FB : ExcBaseFacts B newId initId bmB) (hh : X.A.handled = none) (hg : Gl X cn) (ha : PV X C x p)
    (he : starEach [x] X.env = (false, eval x X.env) :: starEach [] X.env := by rfl) (hpl : (backTo cpos (starEach [x] X.env)).any (·.1) = false := by rfl)
    (hd : (cn == ("__debug__" : Str)) = false := by decide) : RDS X C XW (.Raise (some (.Call (.Name cn np) [x] [] cpos)) none pos) (rRaiseV cn p) := fun e₀ =>
  ps_imp (ps_raise O FB hh hg ha (fun {σ H} ⟨e, Ω, ρ, Ω', eH, w, rl, q, k⟩ => ⟨e, Ω, ρ, Ω', eH, w, rl, q, fun v e' x' w' => ⟨rfl, k v e' x' w'⟩⟩) he hpl hd) fun Dn σ H hw' => by
    obtain ⟨e, Ω, ρ, c, ρ', Ω', Cb, eH, rl, q, hCb, k⟩ := hw'
    unfold rRaiseV at q
    cases q1 : p ρ Ω with
    | none => rw [q1] at q; cases q
    | some Ω1 =>
      rw [q1] at q
      cases q
      rw [hC] at hCb
      cases hCb
      exact ⟨e, Ω, ρ, _, eH, rl.wf, rl.rel, q1, fun v e' x' w' => hX Ca σ _ (k e' σ (rl.to x' w'))⟩
end
end DL
set_option Elab.async false
set_option linter.all false
set_option maxRecDepth 100000
set_option genSizeOf false
set_option bootstrap.genMatcherCode false
set_option genInjectivity true
/-! the exception classes of the text, told by the fragment -/
namespace L2
open PySem PySem.Spec PyProof.Rows
section
variable {K : PySem.W.Frag} {h : Heap} {bmB : List Value} {newId : String} {mg : Str → Option Value} {x : Str}
noncomputable def nsNoInit (K : PySem.W.Frag) (N : Addr) : Bool := match K.lookup N with
  | some o => (match o.data with
    | .dict es _ => es.all (fun e => match e.key with | .str _ _ => true | _ => false) && (nsFind es "__init__").isNone
    | _ => false)
  | none => false
theorem ns_no {N : Addr} (X : K.In h) (q : nsNoInit K N = true) : ∃ mN, h.Ns N mN ∧ mN "__init__" = none := by
  unfold nsNoInit at q
  split at q
  · rename_i o ho
    split at q
    · rename_i es ep hd
      rw [Bool.and_eq_true] at q
      refine ⟨h.nsMap N, .of_isNs ?_, ?_⟩
      · unfold Heap.isNs; rw [X _ _ ho]; simp only [hd]; exact q.1
      · unfold Heap.nsMap; rw [X _ _ ho]; simp only [hd]; exact Option.isNone_iff_eq_none.mp q.2
    · cases q
  · cases q
noncomputable def tailIn (K : PySem.W.Frag) (bmB : List Value) : List Value → Bool
  | [] => bmB == []
  | v :: tl => (bmB == v :: tl) || (match v with
    | .ref A => (match K.lookup A with | some ⟨_, _, .cls cd, _⟩ => nsNoInit K cd.ns && tailIn K bmB tl | _ => false)
    | _ => false)
theorem tail_in (X : K.In h) : ∀ {tl : List Value}, tailIn K bmB tl = true → OwnTail h bmB tl
  | [], q => by
    unfold tailIn at q
    rw [beq_iff_eq] at q
    rw [← q]; exact .base
  | v :: tl, q => by
    unfold tailIn at q
    rw [Bool.or_eq_true] at q
    rcases q with q | q
    · rw [beq_iff_eq] at q
      rw [← q]; exact .base
    · split at q
      · split at q
        · rename_i ho
          rw [Bool.and_eq_true] at q
          obtain ⟨mA, h1, h2⟩ := ns_no X q.1
          exact .own (X _ _ ho) h1 h2 (tail_in X q.2)
        · cases q
      · cases q
noncomputable def ownIn (K : PySem.W.Frag) (C : Addr) (bmB : List Value) (newId : String) : Bool := match K.lookup C with
  | some ⟨.type "type", _, .cls cd, sl⟩ => (match cd.mro, sl.toList with
    | .ref C' :: bm, [_, _, _, _, some (.builtin n), _] => C' == C && !cd.hasDel && n == newId && nsNoInit K cd.ns && tailIn K bmB bm
    | _, _ => false)
  | _ => false
theorem own_in {C : Addr} (X : K.In h) (q : ownIn K C bmB newId = true) (hm : mg x = some (.ref C)) : OwnCls x C bmB newId mg h := by
  unfold ownIn at q
  split at q
  · rename_i dd cd sl ho
    split at q
    · rename_i C' bm k0 k1 k2 k3 n k5 hmr hs
      simp only [Bool.and_eq_true, beq_iff_eq, Bool.not_eq_true'] at q
      obtain ⟨⟨⟨⟨rfl, hdel⟩, rfl⟩, hn⟩, ht⟩ := q
      obtain ⟨mN, h1, h2⟩ := ns_no X hn
      obtain ⟨nm, bs, mro, ns, qn, hd, sn, sub, ab, col, del⟩ := cd
      dsimp only at hmr hdel h1
      subst hmr hdel
      have hsl : sl = #[k0, k1, k2, k3, some (.builtin n), k5] := by
        obtain ⟨l⟩ := sl
        simp only at hs
        rw [hs]
      subst hsl
      exact ⟨hm, bm, ns, nm, qn, bs, hd, sn, sub, ab, col, dd, k0, k1, k2, k3, k5, mN, X _ _ ho, h1, h2, tail_in X ht⟩
    · cases q
  · cases q
end
end L2
set_option Elab.async false
set_option linter.all false
set_option maxRecDepth 100000
set_option genSizeOf false
set_option bootstrap.genMatcherCode false
set_option genInjectivity true
/-! an exception that a callee raised leaves a def that does not catch it -/
namespace L2
open PySem PySem.Spec PyProof.Rows
theorem fly_inv {X : Cx} {pins : List (Addr × Obj)} {σ : St} {H H' : Hp} {s s' : Shared} {ea C t : Addr} {B h'' : Heap} (I : Inv X pins σ H s) (os : s'.os = s.os) (bare : AllBare s'.gens) (un : Un (frs X.stack) [] H H' s.heap s'.heap) (hok : HOk X.prog X.w H' s'.heap)
    (fl : Heap.FlyingW B X.stack ea (.ref C) (.ref t) s'.heap) (trk : ∀ b o, H' b = some o → ∃ ob, B.get? b = some ob) (old : ∀ b o, s.heap.get? b = some o → H b = none → b ∉ frs X.stack → B.get? b = some o) (dm : ∀ b o, H b = some o → ∃ o', H' b = some o')
    (kB : B.StaysIn h'') (up : s'.heap.UpToSlots h'') : Inv X pins σ H' { s' with heap := h'' } := by
  have slot : ∀ b o, s.heap.get? b = some o → H b = none → b ∈ frs X.stack → ∃ sl, h''.get? b = some { o with slots := sl } := fun b o e n hf => by
    obtain ⟨sl, q⟩ := un.slot b o e n hf (by intro z; cases z)
    obtain ⟨_, o', ho', hd⟩ := I.stack.mem hf
    rw [e] at ho'
    cases ho'
    obtain ⟨sl', q'⟩ := up b { o with slots := sl } q hd
    exact ⟨sl', q'⟩
  have un' : Un (frs X.stack) [] H H' s.heap h'' := by
    refine ⟨fun b o e n nf _ => kB b o (old b o e n nf), fun b o e n hf _ => slot b o e n hf, un.free, fun b o e _ => ?_, un.tups, un.frzs, un.tbls⟩
    cases q : H b with
    | none =>
      by_cases hf : b ∈ frs X.stack
      · obtain ⟨sl, z⟩ := slot b o e q hf
        exact ⟨_, z⟩
      · exact ⟨o, kB b o (old b o e q hf)⟩
    | some u =>
      obtain ⟨u', q'⟩ := dm b u q
      obtain ⟨ob, z⟩ := trk b u' q'
      exact ⟨ob, kB b ob z⟩
  have hok' : HOk X.prog X.w H' h'' := fun b o e => (hok b o e).stay (fun c u hc q => by
    obtain ⟨ob, z⟩ : ∃ ob, B.get? c = some ob := by
      rcases hc with y | y
      · rw [y]; exact trk b o e
      · exact trk c _ y
    have z' := fl.1 c ob z
    rw [q] at z'
    cases z'
    exact kB c _ z) (fun _ q => q) (fun _ _ q => q)
  exact I.call' (s' := { s' with heap := h'' }) os un' hok' bare (fun b z => absurd z (by simp))
theorem flown_leaves {P : Program} {w : World} {K : PySem.W.Frag} {mg : Str → Option Value} {base : Heap} {N : List Str} {qual : Str} {scope : Scope} {f : Addr} {cd : Value} {A : Around} {outer : List Env} {s₀ : Shared} {H₀ H : Hp} {E E' : XK} {σ : St}
    (hE : ∀ C H', E' (.ref C) none H' → E (.ref C) none H' ∧ ∀ b o, H b = some o → ∃ o', H' b = some o') (hE2 : ∀ C H', E' C none H' → ∃ Ca, C = .ref Ca) : PassX (cxOf (CXr P w) P w K mg base N qual scope f cd A outer s₀ H₀ E) σ H E' := by
  intro pins s e s' I h
  have sub : ∀ b ∈ frs (envOfC qual scope s₀.heap.objs.size f cd :: outer), b = s₀.heap.objs.size ∨ b ∈ frs outer := fun b hb => List.mem_cons.mp (I.stkSub b hb)
  have old0 : ∀ b o, s₀.heap.get? b = some o → b ∉ frs outer → b ∉ frs (envOfC qual scope s₀.heap.objs.size f cd :: outer) := fun b o e n hb => by
    rcases sub b hb with z | z
    · exact absurd (Heap.lt_size e) (by rw [z]; exact Nat.lt_irrefl _)
    · exact n z
  have hdm : ∀ C H', E' C none H' → ∀ b o, H b = some o → ∃ o', H' b = some o' := fun C H' z => by
    obtain ⟨Ca, rfl⟩ := hE2 C H' z
    exact (hE Ca H' z).2
  obtain ⟨ea, C, t, H', B, e1, hE', os, bare, un, hok, fl, trk, nea, old⟩ := id h
  subst e1
  have dm := hdm _ _ hE'
  refine wpAny_leaves_onW (base := B) (env := envOfC qual scope s₀.heap.objs.size f cd) (outer := outer) (L := s₀.heap.objs.size) I.ok.frames rfl fl fun h'' fl'' up => ?_
  have I'' : Inv (cxOf (CXr P w) P w K mg base N qual scope f cd A outer s₀ H₀ E) pins σ H' { s' with heap := h'' } :=
    fly_inv I os bare un hok fl trk old dm fl''.1 up
  refine ⟨ea, C, t, H', B, rfl, (hE C H' hE').1, I''.os, I''.bare, I''.base, I''.hok, fl'', trk, nea, fun b o e n nf => ?_⟩
  exact old b o (I.base.keep b o e n nf (by intro z; cases z)) (I.base.free b o e n (by intro z; cases z)) (old0 b o e nf)
end L2
namespace DL
open PySem PySem.Spec PyProof.Rows L2
theorem flyOk_def {P : Program} {w : World} {K : PySem.W.Frag} {mg : Str → Option Value} {base : Heap} {N : List Str} {qual : Str} {scope : Scope} {f : Addr} {cd : Value} {A : Around} {outer : List Env} {s₀ : Shared} {H₀ : Hp} {E : XK} :
    FlyOk (cxOf (CXr P w) P w K mg base N qual scope f cd A outer s₀ H₀ E) fun _ Ca H' => E (.ref Ca) none H' := fun σ H =>
  flown_leaves (fun C H' ⟨Ca, e, q, dm⟩ => by cases e; exact ⟨q, dm⟩) fun Cv H' ⟨Ca, e, _⟩ => ⟨Ca, e⟩
end DL
set_option Elab.async false
set_option linter.all false
set_option maxRecDepth 100000
set_option genSizeOf false
set_option bootstrap.genMatcherCode false
set_option genInjectivity true
/-! a for loop that an item's turn leaves by an exception -/
namespace DL
open PySem PySem.Spec PyProof.Rows L2
section
variable {X : Cx} {C : Cl} {XW : XWt} {tg iter c : Expr} {γ : ADen} {β : BDen} {s : SDen} {r : SRDen} {body : List Stmt} {pos : Pos}
end
end DL
set_option Elab.async false
set_option linter.all false
set_option maxRecDepth 100000
set_option genSizeOf false
set_option bootstrap.genMatcherCode false
set_option genInjectivity true
namespace L2
open PySem PySem.Spec PyProof.Rows
section
variable {X : Cx} {a : Expr} {ta : TE} {z : Str} {kk : Nat} {p1 p2 pos : Pos}
end
end L2
namespace DL
open PySem PySem.Spec PyProof.Rows L2
section
variable {X : Cx} {C : Cl} {a : Expr} {f : Den} {pos p1 p2 : Pos}
end
end DL
set_option Elab.async false
set_option linter.all false
set_option maxRecDepth 100000
set_option genSizeOf false
set_option bootstrap.genMatcherCode false
set_option genInjectivity true
namespace DL
open PySem PySem.Spec PyProof.Rows L2
theorem clAdd_ne {C : Cl} {c x : Str} {a b : Addr} (h : (x == c) = false) (e : C x = some b) : clAdd C c a x = some b := by
  have h' : x ≠ c := fun z => by rw [z] at h; simp at h
  show (if x = c then some a else C x) = some b
  rw [if_neg h', e]
/-! ### a list of a known length -/
@[elab_as_elim] theorem len0 {p : List Value → Prop} (us : List Value) (hl : us.length = 0) (h : p []) : p us := by
  cases us with
  | nil => exact h
  | cons a us => cases hl
@[elab_as_elim] theorem len1 {p : List Value → Prop} (us : List Value) (hl : us.length = 1) (h : ∀ a, p [a]) : p us := by
  cases us with
  | nil => cases hl
  | cons a us => exact len0 (p := fun us => p (a :: us)) us (Nat.succ.inj hl) (h a)
@[elab_as_elim] theorem len2 {p : List Value → Prop} (us : List Value) (hl : us.length = 2) (h : ∀ a b, p [a, b]) : p us := by
  cases us with
  | nil => cases hl
  | cons a us => exact len1 (p := fun us => p (a :: us)) us (Nat.succ.inj hl) (fun b => h a b)
@[elab_as_elim] theorem len3 {p : List Value → Prop} (us : List Value) (hl : us.length = 3) (h : ∀ a b c, p [a, b, c]) : p us := by
  cases us with
  | nil => cases hl
  | cons a us => exact len2 (p := fun us => p (a :: us)) us (Nat.succ.inj hl) (fun b c => h a b c)
@[elab_as_elim] theorem len4 {p : List Value → Prop} (us : List Value) (hl : us.length = 4) (h : ∀ a b c d, p [a, b, c, d]) : p us := by
  cases us with
  | nil => cases hl
  | cons a us => exact len3 (p := fun us => p (a :: us)) us (Nat.succ.inj hl) (fun b c d => h a b c d)
@[elab_as_elim] theorem len5 {p : List Value → Prop} (us : List Value) (hl : us.length = 5) (h : ∀ a b c d e, p [a, b, c, d, e]) : p us := by
  cases us with
  | nil => cases hl
  | cons a us => exact len4 (p := fun us => p (a :: us)) us (Nat.succ.inj hl) (fun b c d e => h a b c d e)
end DL
set_option Elab.async false
set_option linter.all false
set_option maxRecDepth 100000
set_option genSizeOf false
set_option bootstrap.genMatcherCode false
set_option genInjectivity true
namespace L2
open PySem PySem.Spec PyProof.Rows
section
variable {b : Bool} {h h' : Heap} {a l c : Addr} {i : Nat} {xs : Array Value}
end
section
variable {prog : Program} {w : World} {A : Around} {E : Value → Shared → Prop} {s : Shared} {b : Bool}
end
end L2
set_option Elab.async false
set_option linter.all false
set_option maxRecDepth 100000
set_option genSizeOf false
set_option bootstrap.genMatcherCode false
set_option genInjectivity true
namespace L2
open PySem PySem.Spec PyProof.Rows
section
variable {prog : Program} {w : World} {A : Around} {E : Value → Shared → Prop} {s : Shared} {b1 b2 : Bool} {z TI TO i1 i2 l1 l2 : Addr} {k : Nat} {xs ys : Array Value} {x y a b : Value}
end
end L2
set_option Elab.async false
set_option linter.all false
set_option maxRecDepth 100000
set_option genSizeOf false
set_option bootstrap.genMatcherCode false
set_option genInjectivity true
namespace L2
open PySem PySem.Spec PyProof.Rows
section
variable {X : Cx} {pins : List (Addr × Obj)} {σ : St} {H : Hp} {s : Shared} {h' : Heap}
end
end L2
namespace DL
open PySem PySem.Spec PyProof.Rows L2
end DL
namespace DL
open PySem PySem.Spec PyProof.Rows L2
section
variable {X : Cx} {C : Cl} {ga : ADen} {pos p pt : Pos} {es : List Expr} {kk : Nat} {a b : Expr}
end
end DL
set_option Elab.async false
set_option linter.all false
set_option maxRecDepth 100000
set_option genSizeOf false
set_option bootstrap.genMatcherCode false
set_option genInjectivity true
namespace DL
open PySem PySem.Spec PyProof.Rows L2
section
variable {X : Cx} {C : Cl} {x : Expr} {g : Den} {pos p : Pos} {n : Str}
end
end DL
set_option Elab.async false
set_option linter.all false
set_option maxRecDepth 100000
set_option genSizeOf false
set_option bootstrap.genMatcherCode false
set_option genInjectivity true
namespace L2
open PySem PySem.Spec PyProof.Rows
section
variable {X : Cx} {a : Expr} {ta : TE} {z : Str} {kk : Nat} {p1 p2 pos : Pos}
/-- f'{a}z', a an int; what it reads is not told -/
noncomputable def tFI (ta : TE) : TE := fun σ H Q => ta σ H fun x H1 => ∃ i : Int, x = .int i ∧ i.natAbs.log2 < 1920 ∧ (Str.ofString (toString i)).length ≤ 1000 ∧ ∀ t, Q (.str t) H1
theorem pe_fi (ha : PE X a ta) (hz : z.length ≤ 1000 := by decide) (hs : evalEach [.FormattedValue a (-1) none p1, .Constant (.str z) kk p2] X.env = [eval (.FormattedValue a (-1) none p1) X.env, eval (.Constant (.str z) kk p2) X.env] := by rfl) :
    PE X (.JoinedStr [.FormattedValue a (-1) none p1, .Constant (.str z) kk p2] pos) (tFI ta) := by
  intro pins s σ H Q I h
  have len : ∀ p q : Str, (p ++ q).length = p.length + q.length := fun p q => strLen_append p q
  have sl : (100000 : Nat) ≤ sizeLine := by rw [sizeLine_eq]; decide
  refine PySem.wpAny_JoinedStr ?_
  rw [hs]
  refine PySem.wpAny_FormattedValue_plain (thn (ha pins s σ H _ I h) fun u s1 hw' => ?_)
  obtain ⟨x, H1, I1, r1, i, ex, hi, li, q1⟩ := hw'
  subst ex
  obtain ⟨t, rfl⟩ := r1
  refine wpAny_formatField_int hi ⟨_, _, rfl, ?_, ?_⟩
  · rw [PySem.W.KT.empty_app]; exact Nat.le_trans li (by omega)
  rw [PySem.W.KT.empty_app]
  refine wpAny_mono (pe_str (X := X) (x := z) (j := kk) (pos := p2) pins _ σ H1 (fun v H' => v = .str z ∧ H' = H1) (I1.tok _) ⟨rfl, rfl⟩) (fun u s2 ⟨y, H2, I2, r2, e2, e3⟩ => ?_) fun _ _ e => e
  subst e2 e3
  obtain ⟨t2, rfl⟩ := r2
  refine ⟨z, t2, rfl, ?_, ?_, ?_⟩
  · rw [len]; omega
  · rw [len]; omega
  · exact ⟨.str _, _, I2.tok _, ⟨_, rfl⟩, q1 _⟩
end
section
variable {X : Cx} {body : List Stmt} {x n : Str} {np hpos pos : Pos} {cv : Value} {i : Nat} {b₀ : Stmt} {suite : List Stmt} {tb : List (Addr × Obj) → (Value → Shared → Prop) → TS} {th : TS}
/-- try: body (which may go on behind it); except x as n: suite, which returns -/
theorem ps_tryN (hb : ∀ pn E, PSs (X.hold pn E) body (tb pn E)) (hh : ∀ (v : Value) (pn : List (Addr × Obj)), PSs ((X.mark v).hold pn fun _ _ => False) (b₀ :: suite) th)
    (hs : X.stack = X.env :: X.outer) (hfr : X.env.frame = some X.env.locals) (hg : Gl X x) (hm : X.mg x = some cv) (hN : X.N.Nodup) (hi : X.N[i]? = some n) (hl : X.env.scope.names.lookup n = some .local) (hkn : X.env.kindOf n = some .local) (hd : (x == ("__debug__" : Str)) = false := by decide) :
    PS X (.Try body [.ExceptHandler (some (.Name x np)) (some n) (b₀ :: suite) hpos] [] [] pos) (fun D σ H => ∀ pins, tb (X.pn ++ pins) (Served X pins fun σ' C H' => PySem.W.exmOne X.K (.ref C) cv = some true ∧ ∀ ea oe, H' ea = none → oe.cls = .ref C → th (Ends.only D.rt) (σ'.set i (some (.ref ea))) (upd H' ea (.frz oe (.own 0)))) D σ H) := by
  intro pins s σ H D I h
  have ok := I.ok
  have sp := hb (X.pn ++ pins) (Served X pins fun σ' C H' => PySem.W.exmOne X.K (.ref C) cv = some true ∧ ∀ ea oe, H' ea = none → oe.cls = .ref C → th (Ends.only D.rt) (σ'.set i (some (.ref ea))) (upd H' ea (.frz oe (.own 0)))) [] s σ H D (I.hold _) (h pins)
  refine wpAny_Try_except (wpAny_mono sp (fun fl s1 q => ?_) fun e s1 q => ?_)
  · cases fl with
    | ret u => obtain ⟨v, σ', H', I', r, q⟩ := q; exact ⟨v, σ', H', I'.unhold ok, r, q⟩
    | next => obtain ⟨σ', H', I', q⟩ := q; exact wpAny_execs_nil ⟨σ', H', I'.unhold ok, q⟩
    | brk => obtain ⟨σ', H', I', q⟩ := q; exact ⟨σ', H', I'.unhold ok, q⟩
    | cont => obtain ⟨σ', H', I', q⟩ := q; exact ⟨σ', H', I'.unhold ok, q⟩
  · obtain ⟨σ1, ea, C, t, H', B, rfl, F, hx, q⟩ := q
    have I1 := F.inv s1.heap F.fl.1 (Heap.UpToSlots.refl _)
    have hiσ : i < σ1.length := by rw [I1.len]; exact (List.getElem?_eq_some_iff.mp hi).1
    refine caught_as (i := i) F hs hfr hg hm hx hN hi hl hd fun s7 oe I7 hoe => ?_
    refine wpAny_mono (hh (.ref ea) (X.pn ++ pins) [] s7 _ _ _ (I7.hold _) (q ea oe F.nea hoe)) (fun fl s3 q3 => ?_) fun _ _ z => z
    cases fl with
    | ret u =>
      obtain ⟨v, σ3, H3, I3, r3, q3⟩ := q3
      obtain ⟨m, hn, _⟩ := I3.loc
      refine wpAny_nameGoes hkn hn (by rw [ok.kind]; rfl) fun h5 m5 hn5 sb => ?_
      have ne : ∀ b o, X.s₀.heap.get? b = some o → b ≠ X.env.locals := fun b o e z => by
        have := Heap.lt_size e
        have a := ok.above
        rw [z] at this
        exact Nat.lt_irrefl _ (Nat.lt_of_lt_of_le this a)
      have cne := I3.cne
      have kp : ∀ b o, b ≠ X.env.locals → s3.heap.get? b = some o → h5.get? b = some o := fun b o z e => (sb.2 b z).trans e
      refine ⟨v, List.replicate X.N.length none, H3, ⟨ok, I3.os, I3.bare, ⟨fun b o e n nf nx => kp b o (ne b o e) (I3.base.keep b o e n nf nx), fun b o e n hf nx => ?_, I3.base.free, fun b o e nx => ?_, I3.base.tups, I3.base.frzs, I3.base.tbls⟩, ⟨m5, hn5, fun j y w _ z => ?_⟩, fun y c hc => ?_, I3.free, I3.freeC, fun p hp => ?_, fun b o e => ?_, by simp⟩, r3, q3⟩
      · obtain ⟨sl, z⟩ := I3.base.slot b o e n hf nx
        exact ⟨sl, kp b _ (ne b o e) z⟩
      · obtain ⟨o', z⟩ := I3.base.there b o e nx
        exact ⟨o', kp b o' (ne b o e) z⟩
      · rw [List.getElem?_replicate] at z
        split at z <;> cases z
      · obtain ⟨w, o, ho, hd⟩ := I3.cell y c hc
        exact ⟨w, o, kp c o (cne y c hc) ho, hd⟩
      · have z := I3.pin p (List.mem_append_left _ hp)
        exact ⟨kp _ _ z.2.2.1 z.1, z.2⟩
      · refine (I3.hok b o e).stay (fun c u hc q => kp c u (fun z => ?_) q) (fun _ q => q) (fun _ _ q => q)
        have f := I3.free
        rcases hc with y | y
        · rw [← y, z] at e
          have f' : H3 X.env.locals = none := f
          rw [f'] at e; cases e
        · rw [z] at y
          have f' : H3 X.env.locals = none := f
          rw [f'] at y; cases y
    | next => obtain ⟨_, _, _, q⟩ := q3; exact q.elim
    | brk => obtain ⟨_, _, _, q⟩ := q3; exact q.elim
    | cont => obtain ⟨_, _, _, q⟩ := q3; exact q.elim
end
end L2
namespace DL
open PySem PySem.Spec PyProof.Rows L2
section
variable {X : Cx} {C : Cl} {a : Expr} {f : Den} {pos p1 p2 : Pos}
noncomputable def pFi (f : Den) : VDen := fun ρ Ω => match f ρ Ω with
  | some (.int i, Ω') => if smallI i then some Ω' else none
  | _ => none
theorem pv_fi {z : Str} {kk : Nat} (ha : PD X C a f) (hz : z.length ≤ 1000 := by decide) (hs : evalEach [.FormattedValue a (-1) none p1, .Constant (.str z) kk p2] X.env = [eval (.FormattedValue a (-1) none p1) X.env, eval (.Constant (.str z) kk p2) X.env] := by rfl) :
    PV X C (.JoinedStr [.FormattedValue a (-1) none p1, .Constant (.str z) kk p2] pos) (pFi f) := pe_imp (pe_fi ha hz hs) fun σ H Q hw' => by
  obtain ⟨e, Ω, ρ, Ω', eH, w, rl, q, k⟩ := hw'
  unfold pFi at q
  split at q
  · rename_i i Ω1 q1
    split at q
    · rename_i hi
      cases q
      refine ⟨e, Ω, ρ, _, _, eH, w, rl, q1, fun v e' x' w' i' => ?_⟩
      rw [Is] at i'
      exact ⟨i, i', hi.1, hi.2, fun t => k _ e' x' w'⟩
    · cases q
  · cases q
end
noncomputable def sTry2 (s : SDen) (r : SRDen) (i : Nat) (tc : Str → Bool) (t : SDen) : SDen := fun ρ Ω => match s ρ Ω with
  | some o => some o
  | none => match r ρ Ω with
    | some (c, ρ1, Ω1) => if tc c = true then match t (ρ1.set i (.dat (.obj Ω1.length))) (Ω1 ++ [.exc c]) with
        | some (.rt d Ω') => some (.rt d Ω')
        | _ => none
      else none
    | none => none
section
variable {X : Cx} {C : Cl} {body : List Stmt} {x n : Str} {np hpos pos : Pos} {cv : Value} {i : Nat} {b₀ : Stmt} {suite : List Stmt} {s t : SDen} {r : SRDen} {tc : Str → Bool}
theorem pds_try2 (hb : ∀ pn E, PDB (X.hold pn E) C body s) (hr : ∀ pn E XW, FlyOk (X.hold pn E) XW → RDB (X.hold pn E) C XW body r) (ht : ∀ v pn, PDB ((X.mark v).hold pn fun _ _ => False) C (b₀ :: suite) t)
    (htc : ∀ c, tc c = true → ∃ Ca, C c = some Ca ∧ PySem.W.exmOne X.K (.ref Ca) cv = some true)
    (hs : X.stack = X.env :: X.outer) (hfr : X.env.frame = some X.env.locals) (hg : Gl X x) (hm : X.mg x = some cv) (hN : X.N.Nodup) (hi : X.N[i]? = some n) (hl : X.env.scope.names.lookup n = some .local) (hkn : X.env.kindOf n = some .local) (hd : (x == ("__debug__" : Str)) = false := by decide) :
    PDS X C (.Try body [.ExceptHandler (some (.Name x np)) (some n) (b₀ :: suite) hpos] [] [] pos) (sTry2 s r i tc t) := fun e₀ =>
  ps_imp (ps_tryN (tb := fun pn E Dn σ H => tDS X.K C e₀ s Dn σ H ∨ ∃ XW, FlyOk (X.hold pn E) XW ∧ tRS X.K C XW e₀ r Dn σ H) (th := tDS X.K C e₀ t)
    (fun pn E pins sh σ H D I h => h.elim (fun z => hb pn E e₀ pins sh σ H D I z) fun ⟨XW, hX, z⟩ => hr pn E XW hX e₀ pins sh σ H D I z) (fun v pn => ht v pn e₀) hs hfr hg hm hN hi hl hkn hd) fun Dn σ H hw' pins => by
    obtain ⟨e, Ω, ρ, o, eH, rl, q, k⟩ := hw'
    unfold sTry2 at q
    cases q1 : s ρ Ω with
    | some o1 =>
      rw [q1] at q
      cases q
      exact .inl ⟨e, Ω, ρ, _, eH, rl, q1, k⟩
    | none =>
      rw [q1] at q
      dsimp only at q
      cases q2 : r ρ Ω with
      | none => rw [q2] at q; cases q
      | some p2 =>
        obtain ⟨c, ρ1, Ω1⟩ := p2
        rw [q2] at q
        dsimp only at q
        by_cases hc : tc c = true
        · rw [if_pos hc] at q
          obtain ⟨Ca, hC, hx⟩ := htc c hc
          refine .inr ⟨_, flyOk_try, e, Ω, ρ, c, ρ1, Ω1, Ca, eH, rl, q2, hC, fun e' σ' r' => ⟨hx, fun ea oe hn ho => ?_⟩⟩
          obtain ⟨w', x'⟩ := r'.wf.obj (H' := upd e'.H ea (.frz oe (.own 0))) (o := .exc c) hn (fun b u hb => by rw [upd_ne (ne_of_none hb hn)]; exact hb) (by rw [upd_same]; exact ⟨by simp, fun xs z => nomatch z⟩) ⟨Ca, oe, _, hC, upd_same, ho⟩
          have r2 := (r'.to x' w').set i (d := .obj Ω1.length) (v := .ref ea) (by
            rw [Is]
            exact ⟨ea, by show (e'.α ++ [ea])[Ω1.length]? = some ea; rw [← r'.wf.ol]; simp, rfl⟩)
          cases q3 : t (ρ1.set i (.dat (.obj Ω1.length))) (Ω1 ++ [.exc c]) with
          | none => rw [q3] at q; cases q
          | some o3 =>
            rw [q3] at q
            cases o3 with
            | rt d Ω' => cases q; exact ⟨_, _, _, _, rfl, r2, q3, k⟩
            | _ => cases q
        · rw [if_neg hc] at q; cases q
end
end DL
set_option Elab.async false
set_option linter.all false
set_option maxRecDepth 100000
set_option genSizeOf false
set_option bootstrap.genMatcherCode false
set_option genInjectivity true
namespace DL
open PySem PySem.Spec PyProof.Rows L2
section
variable {X : Cx} {C : Cl}
end
end DL
set_option Elab.async false
set_option linter.all false
set_option maxRecDepth 100000
set_option genSizeOf false
set_option bootstrap.genMatcherCode false
set_option genInjectivity true
namespace L2
open PySem PySem.Spec PyProof.Rows
/-! ### a dict held still while it is walked -/
section
variable {X : Cx} {pins : List (Addr × Obj)} {σ : St} {H : Hp} {s : Shared} {a : Addr}
/-- held still: the very object -/
theorem Inv.freeze {kvs : List (Key × V)} {o : Obj} (I : Inv X pins σ H s) (e : H a = some (.dK kvs)) (ho : s.heap.get? a = some o) : Inv X pins σ (upd H a (.frz o (.dK kvs))) s := by
  have neA : ∀ b u, H b = some u → (∀ k, u ≠ .dK k) → b ≠ a := fun b u h n z => by rw [z, e] at h; cases h; exact n _ rfl
  refine I.write (x := a) (e := a) (o := .frz o (.dK kvs)) (t' := s.toks) (h' := s.heap) (by rw [e]; trivial) (.inl rfl) (fun b u _ q => q) ⟨o, ho⟩ ⟨ho, ?_⟩
  exact (I.hok a _ e).stay (fun _ _ _ q => q) (fun b q => by rw [upd_ne (neA b _ q fun k z => nomatch z)]; exact q) fun b xs q => by rw [upd_ne (neA b _ q fun k z => nomatch z)]; exact q
/-- let go: it may change again -/
theorem Inv.thaw {o : Obj} {u : HO} (I : Inv X pins σ H s) (e : H a = some (.frz o u)) (h0 : ∀ o u, X.H₀ a ≠ some (.frz o u)) (hu : ∀ b, u ≠ .own b) : Inv X pins σ (upd H a u) s := by
  have nn : ∀ b, H b = none → b ≠ a := fun b q z => by rw [z, e] at q; cases q
  have neA : ∀ b v, H b = some v → (∀ o u, v ≠ .frz o u) → b ≠ a := fun b v h n z => by rw [z, e] at h; cases h; exact n _ _ rfl
  refine ⟨I.ok, I.os, I.bare, ⟨I.base.keep, I.base.slot, fun b ob h1 h2 h3 => ?_, I.base.there, fun b xs h => ?_, fun b ob v h => ?_, fun b ps h => ?_⟩, I.loc, I.cell, ?_, fun x c h => ?_, fun p hp => ?_, fun b v h => ?_, I.len⟩
  · have q := I.base.free b ob h1 h2 h3
    rw [upd_ne (nn b q)]; exact q
  · have q := I.base.tups b xs h
    rw [upd_ne (neA b _ q fun _ _ z => nomatch z)]; exact q
  · have q := I.base.frzs b ob v h
    rw [upd_ne (fun z => by rw [z] at h; exact h0 _ _ h)]; exact q
  · obtain ⟨more, q⟩ := I.base.tbls b ps h
    exact ⟨more, by rw [upd_ne (neA b _ q fun _ _ z => nomatch z)]; exact q⟩
  · rw [upd_ne (nn _ I.free)]; exact I.free
  · rw [upd_ne (nn _ (I.freeC x c h))]; exact I.freeC x c h
  · obtain ⟨p1, p2, p3⟩ := I.pin p hp
    exact ⟨p1, by rw [upd_ne (nn _ p2)]; exact p2, p3⟩
  · have ow : ∀ c d, H c = some (.own d) → upd H a u c = some (.own d) := fun c d q => by rw [upd_ne (neA c _ q fun _ _ z => nomatch z)]; exact q
    have tp : ∀ c xs, H c = some (.tup xs) → upd H a u c = some (.tup xs) := fun c xs q => by rw [upd_ne (neA c _ q fun _ _ z => nomatch z)]; exact q
    by_cases z : b = a
    · subst z
      rw [upd_same] at h
      cases h
      exact (show ObjOk X.prog X.w H s.heap b (.frz o u) from I.hok b _ e).2.stay (fun _ _ _ q => q) (fun c q => ow c b q) fun c xs q => tp c xs q
    · rw [upd_ne z] at h
      exact (I.hok b v h).stay (fun _ _ _ q => q) (fun c q => ow c b q) fun c xs q => tp c xs q
end
/-- the ends of a statement within which a is held still -/
noncomputable def Ends.thaw (D : Ends) (a : Addr) : Ends :=
  { nx := fun σ H => ∃ o u, H a = some (.frz o u) ∧ (∀ b, u ≠ .own b) ∧ D.nx σ (upd H a u), rt := fun v H => ∃ o u, H a = some (.frz o u) ∧ (∀ b, u ≠ .own b) ∧ D.rt v (upd H a u),
    bk := fun σ H => ∃ o u, H a = some (.frz o u) ∧ (∀ b, u ≠ .own b) ∧ D.bk σ (upd H a u), ct := fun σ H => ∃ o u, H a = some (.frz o u) ∧ (∀ b, u ≠ .own b) ∧ D.ct σ (upd H a u) }
theorem ps_thaw {X : Cx} {st : Stmt} {t : TS} (h : PS X st t) : PS X st (fun D σ H => ∃ a, (∀ o u, H a ≠ some (.frz o u)) ∧ t (D.thaw a) σ H) := by
  rintro pins s σ H D I ⟨a, hn, q⟩
  have h0 : ∀ o u, X.H₀ a ≠ some (.frz o u) := fun o u z => hn o u (I.base.frzs a o u z)
  refine wpAny_mono (h pins s σ H _ I q) (fun fl s1 r => ?_) fun _ _ z => z
  cases fl with
  | next => obtain ⟨σ', H', I', o, u, e, hu, d⟩ := r; exact ⟨σ', _, I'.thaw e h0 hu, d⟩
  | brk => obtain ⟨σ', H', I', o, u, e, hu, d⟩ := r; exact ⟨σ', _, I'.thaw e h0 hu, d⟩
  | cont => obtain ⟨σ', H', I', o, u, e, hu, d⟩ := r; exact ⟨σ', _, I'.thaw e h0 hu, d⟩
  | ret v => obtain ⟨v', σ', H', I', rv, o, u, e, hu, d⟩ := r; exact ⟨v', σ', _, I'.thaw e h0 hu, rv, d⟩
/-! the walk over the keys -/
theorem pairs_key {P : Program} {w : World} {es : List DictEntry} {vs : List (Key × Value)} (h : Pairs (mixKind P w) es vs) : ∀ (i : Nat) (e : DictEntry), es[i]? = some e → ∃ k, (vs[i]?).map (·.1) = some k ∧ RelV (kV k) e.key := by
  induction h with
  | nil => intro i e q; simp at q
  | cons h1 h2 _ ih =>
    intro i e q
    cases i with
    | zero =>
      simp at q
      subst q
      rename_i e kv _ _ _
      refine ⟨kv.1, rfl, ?_⟩
      rcases keyIs_shape h1 with ⟨j, t, e1, e2⟩ | ⟨x, t, e1, e2⟩
      · rw [e1]; exact ⟨t, e2⟩
      · rw [e1]; exact ⟨t, e2⟩
    | succ i => simpa using ih i e (by simpa using q)
noncomputable def Itk (a : Addr) (o : Obj) (kvs : List (Key × V)) : It :=
  ⟨fun i H => H a = some (.frz o (.dK kvs)) ∧ i < kvs.length, fun i H x H' => H' = H ∧ ∃ k, (kvs[i]?).map (·.1) = some k ∧ x = kV k, fun i H => H a = some (.frz o (.dK kvs)) ∧ i = kvs.length⟩
theorem turn_dict {P : Program} {w : World} {K : PySem.W.Frag} {tg : Expr} (a it : Addr) {o : Obj} {es : Array DictEntry} {ep : Nat} {kvs : List (Key × V)} (hx : o.ExactDict) (hd : o.data = .dict es ep) (hlen : es.size = kvs.length)
    (hkey : ∀ (i : Nat) (e : DictEntry), es[i]? = some e → ∃ k, (kvs[i]?).map (·.1) = some k ∧ RelV (kV k) e.key) (hne : a ≠ it) :
    Turn P w K tg (Itk a o kvs) [it] it (fun i h => h.IsKeyIter it a i es.size ep) where
  mem := by simp
  obj := fun i h st b hb => by
    have e : b = it := by simpa using hb
    subst e
    obtain ⟨ob, h1, h2, h3⟩ := st
    exact ⟨ob, h1, fun v z => by rw [h3] at z; cases z⟩
  keep := fun i h h' st k => by
    obtain ⟨ob, h1, h2⟩ := st
    exact ⟨ob, k it (by simp) _ h1, h2⟩
  item := by
    intro X hP hw hK hc i pins s σ H E I hf st hg
    subst hP hw hK
    obtain ⟨hg, hi⟩ := hg
    obtain ⟨f0, f1, f2, f3, f4, f5⟩ := hf it (by simp)
    have ho : s.heap.get? a = some o := (show ObjOk X.prog X.w H s.heap a (.frz o (.dK kvs)) from I.hok a _ hg).1
    have hl : i < es.size := by rw [hlen]; exact hi
    refine DR.raw_item st ⟨o, ho, hx, hd⟩ hl fun h' st' sb => ?_
    obtain ⟨k, hk, rk⟩ := hkey i es[i] (Array.getElem?_eq_getElem hl)
    have J1 : Inv X pins σ H { s with heap := h' } := I.turned (t' := s.toks) (fun b ob hb e => (sb.2 b hb).trans e) f0 f1 f3 f4 f5
    obtain ⟨ob, g1, g2, g3⟩ := id st'
    exact ⟨_, rfl, go_of (s := { s with heap := h' }) (n := "dict_keyiterator") g1 g2 g3 (by decide) ⟨kV k, H, J1, rk, ⟨rfl, k, hk, rfl⟩, st', fun b hb => (hf b hb).1⟩⟩
  done := by
    intro X hP hw hK hc i pins s σ H E I hf st hg
    subst hP hw hK
    obtain ⟨hg, hi⟩ := hg
    obtain ⟨f0, f1, f2, f3, f4, f5⟩ := hf it (by simp)
    have ho : s.heap.get? a = some o := (show ObjOk X.prog X.w H s.heap a (.frz o (.dK kvs)) from I.hok a _ hg).1
    exact DR.raw_end (I.ok.hd hc) st ⟨o, ho, hx, hd⟩ (by rw [hlen, hi]; exact Nat.le_refl _) fun h' eb => ⟨rfl, I.turned (t' := s.toks) (fun b ob hb e => eb b ob hb e) f0 f1 f3 f4 f5⟩
  self := fun A i s Q E st h => by
    obtain ⟨ob, h1, h2, h3⟩ := id st
    exact wpAny_pyIter_keyiter st h
noncomputable def iFd (tl : TE) : TI := fun σ H R => tl σ H fun x H1 => ∃ a kvs, x = .ref a ∧ H1 a = some (.dK kvs) ∧ ∀ o, R (Itk a o kvs) (upd H1 a (.frz o (.dK kvs)))
theorem pi_fd {X : Cx} {tg l : Expr} {tl : TE} (hl : PE X l tl) : PI X tg l (iFd tl) := by
  intro pins s σ H R I h
  refine thn (hl pins s σ H _ I h) fun v s1 hw' => ?_
  obtain ⟨x, H1, I1, r1, q1⟩ := hw'
  obtain ⟨a, kvs, e, ha, q⟩ := q1
  subst e
  cases r1
  obtain ⟨hz, hm, vs, rel, o, es, ep, ho, hx, hd, _, hp, _⟩ := dk_of I1.hok ha
  have hlen : es.size = kvs.length := by
    have := hp.length
    rw [rel.length, ← this]
    simp
  have hkey : ∀ (i : Nat) (e : DictEntry), es[i]? = some e → ∃ k, (kvs[i]?).map (·.1) = some k ∧ RelV (kV k) e.key := fun i e hi => by
    obtain ⟨k, hk, rk⟩ := pairs_key hp i e (by simpa using hi)
    refine ⟨k, ?_, rk⟩
    have q2 : (kvs.map (·.1))[i]? = (vs.map (·.1))[i]? := by rw [rel.keys]
    rw [List.getElem?_map, List.getElem?_map, hk] at q2
    exact q2
  have lt : a < s1.heap.objs.size := Heap.lt_size ho
  have I2 := I1.freeze ha ho
  refine DR.raw_iter hm ⟨o, ho, hx, hd⟩ ⟨s1.heap.objs.size, [s1.heap.objs.size], _, _, _, rfl, I2.kept (t' := s1.toks) fun b ob e => Heap.get?_push_of_some _ e, turn_dict a _ hx hd hlen hkey (Nat.ne_of_lt lt), ⟨_, Heap.get?_push_size _ rfl, rfl, rfl⟩, fun b hb => ?_, q o⟩
  have e : b = s1.heap.objs.size := by simpa using hb
  subst e
  exact I2.fpOk (Nat.le_refl _) (I2.hok.fresh (Nat.le_refl _))
end L2
set_option Elab.async false
set_option linter.all false
set_option maxRecDepth 100000
set_option genSizeOf false
set_option bootstrap.genMatcherCode false
set_option genInjectivity true
namespace DL
open PySem PySem.Spec PyProof.Rows L2
/-! ### for k in d: the dict is held still through the loop -/
/-- the dict n is let go again -/
noncomputable def thawO (n : Nat) (kvs : List (Key × D)) (Ω : List OS) : Option (List OS) := match Ω[n]? with
  | some (.fzK kvs') => if kvs'.map (·.1) = kvs.map (·.1) then some (Ω.set n (.dK kvs')) else none
  | _ => none
noncomputable def outK (n : Nat) (kvs : List (Key × D)) : Option Out → Option Out
  | some (.nx ρ Ω) => (match thawO n kvs Ω with | some Ω' => some (.nx ρ Ω') | none => none)
  | some (.rt d Ω) => (match thawO n kvs Ω with | some Ω' => some (.rt d Ω') | none => none)
  | _ => none
noncomputable def sForK (g : Den) (β : BDen) (s : SDen) : SDen := fun ρ Ω => match g ρ Ω with
  | some (.obj n, Ω1) => (match Ω[n]?, Ω1[n]? with
    | some (.dK _), some (.dK kvs) => outK n kvs (forD β s (kvs.map fun x => ofK x.1) ρ (Ω1.set n (.fzK kvs)))
    | _, _ => none)
  | _ => none
theorem thaw_to {K : PySem.W.Frag} {C : Cl} {e₀ e : E4} {Ω Ω' : List OS} {n : Nat} {a : Addr} {o : Obj} {kvs : List (Key × D)} {vs : List (Key × V)} (w : Wf K C e Ω) (hα : e.α[n]? = some a) (ha : e.H a = some (.frz o (.dK vs))) (h : thawO n kvs Ω = some Ω') :
    Wf K C (e.at a (.dK vs)) Ω' := by
  unfold thawO at h
  cases q : Ω[n]? with
  | none => rw [q] at h; cases h
  | some os =>
    rw [q] at h
    cases os with
    | fzK kvs' =>
      dsimp only at h
      split at h
      · cases h
        obtain ⟨vs', o', h1, h2⟩ := (w.ob n a _ hα q).2
        rw [ha] at h1
        cases h1
        exact w.atW hα (fun xs z => nomatch z) ⟨vs, upd_same, h2⟩
      · cases h
    | _ => cases h
theorem thaw_ext {e₀ e : E4} {a : Addr} {o : Obj} {u : HO} (x : Ext e₀ e) (ha : e.H a = some (.frz o u)) (h0 : ∀ o u, e₀.H a ≠ some (.frz o u)) : Ext e₀ (e.at a u) := by
  refine ⟨fun b o' u' h => ?_, fun b v h hn => ?_, fun b v h => ?_, x.ff, x.fn, x.an, x.aa, x.al⟩
  · show upd e.H a u b = some (.frz o' u')
    rw [upd_ne (fun z => h0 o' u' (by rw [← z]; exact h))]; exact x.fz b o' u' h
  · show upd e.H a u b = some v
    have q := x.hk b v h hn
    rw [upd_ne (fun z => by rw [z] at q h; rw [ha] at q; cases q; exact h0 _ _ h)]; exact q
  · by_cases z : b = a
    · subst z; exact ⟨u, upd_same⟩
    · obtain ⟨v', q⟩ := x.dm b v h
      exact ⟨v', by show upd e.H a u b = some v'; rw [upd_ne z]; exact q⟩
theorem thaw_rel {K : PySem.W.Frag} {e : E4} {a : Addr} {o : Obj} {u : HO} {σ : St} {ρ : List Sl} (r : RelE K e σ ρ) (ha : e.H a = some (.frz o u)) : RelE K (e.at a u) σ ρ := by
  refine ⟨r.len, r.dat, fun i ds h => ?_, r.sep⟩
  obtain ⟨b, vs, e1, e2, q, n1, n2⟩ := r.own i ds h
  refine ⟨b, vs, e1, ?_, q, n1, n2⟩
  show upd e.H a u b = some (.lst vs)
  rw [upd_ne (fun z => by rw [z, ha] at e2; cases e2)]; exact e2
section
variable {X : Cx} {C : Cl} {tg iter : Expr} {g : Den} {β : BDen} {s : SDen} {body : List Stmt} {pos : Pos}
theorem pds_forK (hp : PassesOwn (model X.prog X.w) X.A X.env X.xe) (hc : X.calm = true) (hi : PD X C iter g) (hg : PDG X C tg β) (hb : PDB X C body s)
    (hs : ∀ x, foldedSetIterable iter X.env x = pure x := by intro _; rfl) : PDS X C (.For tg iter body [] pos) (sForK g β s) := by
  refine fun e₀ => ps_imp (ps_thaw (ps_for hp hc (pi_fd hi) hg (pdb_ex hb) hs)) fun Dn σ H hw' => ?_
  obtain ⟨e, Ω, ρ, o, eH, r, q, k⟩ := hw'
  unfold sForK at q
  cases q1 : g ρ Ω with
  | none => rw [q1] at q; cases q
  | some p1 =>
    obtain ⟨d1, Ω1⟩ := p1
    rw [q1] at q
    cases d1 with
    | obj n =>
      dsimp only at q
      cases q2 : Ω[n]? with
      | none => rw [q2] at q; cases q
      | some o2 =>
        rw [q2] at q
        cases o2 with
        | dK kvs0 =>
          cases q3 : Ω1[n]? with
          | none => rw [q3] at q; cases q
          | some o3 =>
            rw [q3] at q
            cases o3 with
            | dK kvs =>
              dsimp only at q
              have hn : n < e.α.length := by rw [r.wf.ol]; exact (List.getElem?_eq_some_iff.mp q2).1
              have hα : e.α[n]? = some e.α[n] := List.getElem?_eq_getElem hn
              generalize e.α[n] = a at hα
              obtain ⟨vs0, ha0, _⟩ := (r.wf.ob n a _ hα q2).2
              have nz : ∀ o u, e.H a ≠ some (.frz o u) := fun o u z => by rw [ha0] at z; cases z
              have nz0 : ∀ o u, e₀.H a ≠ some (.frz o u) := fun o u z => nz o u (r.ext.fz a o u z)
              refine ⟨a, by rw [← eH]; exact nz, e, Ω, ρ, .obj n, Ω1, eH, r.wf, r.rel, q1, fun v e' x' w' i' => ?_⟩
              rw [Is] at i'
              obtain ⟨a', hα', rfl⟩ := i'
              have ea : a' = a := by
                obtain ⟨more, z⟩ := x'.al
                rw [z, List.getElem?_append_left hn, hα] at hα'
                exact (Option.some.inj hα').symm
              subst ea
              obtain ⟨vs, ha, hps⟩ := (w'.ob n a' _ hα' q3).2
              refine ⟨a', vs, rfl, ha, fun ob => ?_⟩
              have nz' : ∀ o u, e'.H a' ≠ some (.frz o u) := fun o u z => by rw [ha] at z; cases z
              obtain ⟨wf, xf⟩ := w'.at (o' := .fzK kvs) (ho := .frz ob (.dK vs)) hα' (fun xs z => nomatch z) ⟨vs, ob, upd_same, hps⟩ nz'
              have rf := r.to (x'.trans xf) wf
              have hkeys : vs.map (·.1) = kvs.map (·.1) := hps.keys.symm
              have hlen : vs.length = kvs.length := hps.len.symm
              cases q4 : forD β s (kvs.map fun x => ofK x.1) ρ (Ω1.set n (.fzK kvs)) with
              | none => rw [q4] at q; cases q
              | some o4 =>
                rw [q4] at q
                have fin_nx : ∀ {e5 : E4} {Ω5 : List OS} {σ5 : St} {ρ5 : List Sl}, o4 = .nx ρ5 Ω5 → RelS X.K C e₀ e5 Ω5 σ5 ρ5 → e5.α[n]? = some a' → e5.H a' = some (.frz ob (.dK vs)) → (Dn.thaw a').nx σ5 e5.H := fun {e5 Ω5 σ5 ρ5} eo r5 h1 h2 => by
                  subst eo
                  unfold outK at q
                  dsimp only at q
                  cases q5 : thawO n kvs Ω5 with
                  | none => rw [q5] at q; cases q
                  | some Ω' =>
                    rw [q5] at q
                    cases q
                    exact ⟨ob, .dK vs, h2, (fun b z => nomatch z), k (e5.at a' (.dK vs)) σ5 ⟨thaw_to (e₀ := e₀) r5.wf h1 h2 q5, thaw_rel r5.rel h2, thaw_ext r5.ext h2 nz0, r5.fresh⟩⟩
                have fin_rt : ∀ {e5 : E4} {Ω5 : List OS} {v5 : V} {d5 : D}, o4 = .rt d5 Ω5 → Ext e₀ e5 → Wf X.K C e5 Ω5 → Is X.K e5.α e5.F d5 v5 → e5.α[n]? = some a' → e5.H a' = some (.frz ob (.dK vs)) → (Dn.thaw a').rt v5 e5.H := fun {e5 Ω5 v5 d5} eo x5 w5 i5 h1 h2 => by
                  subst eo
                  unfold outK at q
                  dsimp only at q
                  cases q5 : thawO n kvs Ω5 with
                  | none => rw [q5] at q; cases q
                  | some Ω' =>
                    rw [q5] at q
                    cases q
                    exact ⟨ob, .dK vs, h2, (fun b z => nomatch z), k (e5.at a' (.dK vs)) v5 (thaw_ext x5 h2 nz0) (thaw_to (e₀ := e₀) w5 h1 h2 q5) i5⟩
                refine ⟨fun i m σ H => m = (kvs.map fun x => ofK x.1).length - i ∧ i ≤ (kvs.map fun x => ofK x.1).length ∧ ∃ e2 Ω2 ρ2, e2.H = H ∧ RelS X.K C e₀ e2 Ω2 σ ρ2 ∧ e2.α[n]? = some a' ∧ e2.H a' = some (.frz ob (.dK vs)) ∧ forD β s ((kvs.map fun x => ofK x.1).drop i) ρ2 Ω2 = some o4,
                  ⟨(kvs.map fun x => ofK x.1).length, by simp, Nat.zero_le _, e'.at a' (.frz ob (.dK vs)), _, ρ, rfl, rf, hα', upd_same, by simpa using q4⟩, ?_⟩
                generalize hds : (kvs.map fun x => ofK x.1) = ds at *
                have dl : ds.length = vs.length := by rw [← hds, List.length_map, hlen]
                rintro i m σ2 H2 ⟨rfl, hil, e2, Ω2, ρ2, rfl, r2, hα2, ha2, q2'⟩
                by_cases hlt : i < ds.length
                · have edrop : ds.drop i = ds[i] :: ds.drop (i + 1) := List.drop_eq_getElem_cons hlt
                  rw [edrop] at q2'
                  refine .inr ⟨⟨ha2, by rw [← dl]; exact hlt⟩, fun σ' H' => ∃ e3 Ω3 ρ3, e3.H = H' ∧ RelS X.K C e₀ e3 Ω3 σ' ρ3 ∧ e3.α[n]? = some a' ∧ e3.H a' = some (.frz ob (.dK vs)) ∧ forD β s (ds.drop (i + 1)) ρ3 Ω3 = some o4, fun σ' H' hN => ⟨ds.length - (i + 1), by omega, rfl, hlt, hN⟩, fun x H' hy => ?_⟩
                  obtain ⟨rfl, kk, hk, rfl⟩ := hy
                  have ekk : ds[i]? = some (ofK kk) := by
                    have z1 : (kvs.map (·.1))[i]? = some kk := by rw [← hkeys, List.getElem?_map]; exact hk
                    rw [← hds]
                    rw [List.getElem?_map] at z1 ⊢
                    cases z2 : kvs[i]? with
                    | none => rw [z2] at z1; cases z1
                    | some kv => rw [z2] at z1; cases z1; rfl
                  have ekk' : ds[i] = ofK kk := by
                    rw [List.getElem?_eq_getElem hlt] at ekk
                    exact Option.some.inj ekk
                  have ix : Is X.K e2.α e2.F ds[i] (kV kk) := by rw [ekk']; exact ofK_is kk
                  unfold forD at q2'
                  cases q5 : β ds[i] ρ2 with
                  | none => rw [q5] at q2'; cases q2'
                  | some ρ3 =>
                    rw [q5] at q2'
                    dsimp only at q2'
                    refine ⟨e2, Ω2, ρ2, _, ρ3, rfl, r2.wf, r2.rel, ix, q5, fun σ3 r3 o3 => ?_⟩
                    have r3' := r2.by r3 o3
                    obtain ⟨e₁, hF, hα₁, r4, toE, toN, fz₁⟩ := r3'.mark
                    have hl2 : n < e2.α.length := (List.getElem?_eq_some_iff.mp hα2).1
                    have place : ∀ {e5 : E4}, Ext e₁ e5 → e5.α[n]? = some a' ∧ e5.H a' = some (.frz ob (.dK vs)) := fun {e5} x5 => by
                      refine ⟨?_, x5.fz a' _ _ (fz₁ a' _ _ ha2)⟩
                      obtain ⟨m2, z2⟩ := x5.al
                      rw [z2, hα₁, List.getElem?_append_left hl2]
                      exact hα2
                    have back : ∀ {e5 : E4} {Ω5 : List OS} {σ5 : St} {ρ5 : List Sl}, RelS X.K C e₁ e5 Ω5 σ5 ρ5 → RelS X.K C e₀ e5 Ω5 σ5 ρ5 := fun {e5 Ω5 σ5 ρ5} r5 =>
                      ⟨r5.wf, r5.rel, toE _ r5.ext, fun i ds a h1 h2 => toN _ (r5.fresh i ds a h1 h2)⟩
                    cases q6 : s ρ3 Ω2 with
                    | none => rw [q6] at q2'; cases q2'
                    | some o5 =>
                      rw [q6] at q2'
                      refine ⟨e₁, e2, Ω2, ρ3, o5, rfl, r4, q6, ?_⟩
                      cases o5 with
                      | nx ρ5 Ω5 => exact fun e5 σ5 r5 => ⟨e5, Ω5, ρ5, rfl, back r5, (place r5.ext).1, (place r5.ext).2, q2'⟩
                      | ct ρ5 Ω5 => exact fun e5 σ5 r5 => ⟨e5, Ω5, ρ5, rfl, back r5, (place r5.ext).1, (place r5.ext).2, q2'⟩
                      | bk ρ5 Ω5 => exact fun e5 σ5 r5 => fin_nx (Option.some.inj q2').symm (back r5) (place r5.ext).1 (place r5.ext).2
                      | rt z Ω5 => exact fun e5 v5 x5 w5 i5 => fin_rt (Option.some.inj q2').symm (toE _ x5) w5 i5 (place x5).1 (place x5).2
                · have ei : i = ds.length := by omega
                  subst ei
                  rw [List.drop_length] at q2'
                  exact .inl ⟨⟨ha2, dl⟩, fin_nx (Option.some.inj q2').symm r2 hα2 ha2⟩
            | _ => cases q
        | _ => cases q
    | _ => cases q
end
end DL
set_option Elab.async false
set_option linter.all false
set_option maxRecDepth 100000
set_option genSizeOf false
set_option bootstrap.genMatcherCode false
set_option genInjectivity true
/-! min(xs), min(xs, key = f, default = d), over any heap -/
namespace KS
open PySem PySem.W PySem.Calls PyProof.Rows
noncomputable def bArr : Option (Value × Value) → Array Value
  | none => #[]
  | some (v, k) => #[v, k]
noncomputable def upS (s : Shared) (S : Addr) (xs : Array Value) : Shared := { s with heap := s.heap.update S (Obj.mapSeq fun _ => xs) }
section
variable {prog : Program} {w : World} {A : Around} {R : Result → Shared → Prop} {I S : Addr} {kv : Value} {kw : List (Str × Value)} {n : Nat}
noncomputable def KeyRun (prog : Program) (w : World) (A : Around) (kv v : Value) (Q : Value → Shared → Prop) (s : Shared) : Prop := match kv with
  | .none => Q v s
  | _ => ∀ E, wpAny (model prog w) A (call kv [v]) Q E s
theorem min_loop (hkv : kv = .none ∨ ∃ q, kv = .ref q) (J : Nat → Option (Value × Value) → Shared → Prop) (JK : Nat → Option (Value × Value) → Value → Value → Shared → Prop)
    (hS : ∀ i b s, J i b s → ∃ c, s.heap.get? S = some (seqObj "list" (bArr b) c))
    (hSK : ∀ i b v k s, JK i b v k s → ∃ c, s.heap.get? S = some (seqObj "list" (bArr b) c))
    (item : ∀ i b s (Q : Option Value → Shared → Prop) (E : Value → Shared → Prop), i < n → J i b s → (∀ v s1, KeyRun prog w A.in1 kv v (fun k s2 => JK i b v k s2) s1 → Q (some v) s1) → wpAny (model prog w) A.in1 (pyNext (.ref I)) Q E s)
    (cmp : ∀ i vb kb v k s (Q : Value → Shared → Prop) (E : Value → Shared → Prop), JK i (some (vb, kb)) v k s → (∀ b : Bool, (b = true → J (i + 1) (some (v, k)) (upS s S #[v, k])) → (b = false → J (i + 1) (some (vb, kb)) s) → Q (.bool b) s) → wpAny (model prog w) A.in1 (richCompare .Lt k kb) Q E s)
    (put : ∀ i v k s, JK i none v k s → J (i + 1) (some (v, k)) (upS s S #[v, k]))
    (done : ∀ b s (Q : Option Value → Shared → Prop) (E : Value → Shared → Prop), J n b s → (∀ s1, (∀ v k, b = some (v, k) → (∃ c, s1.heap.get? S = some (seqObj "list" #[v, k] c)) ∧ R (.ok (.ret v)) (upS s1 S #[])) → (b = none → ∃ x d, kw = [(x, d)] ∧ R (.ok (.ret d)) s1) → Q none s1) → wpAny (model prog w) A.in1 (pyNext (.ref I)) Q E s) :
    ∀ (r i : Nat) (b : Option (Value × Value)) (s : Shared), n - i = r → i ≤ n → J i b s → codeAny (model prog w) A (.builtin "min.loop" ⟨[.ref I, kv, .ref S], kw⟩) R s := by
  have hname : (toString "min" ++ toString ".loop" : String) = "min.loop" := by decide
  intro r
  induction r with
  | zero =>
    intro i b s hr hi hJ
    have hin : i = n := by omega
    subst hin
    obtain ⟨c, oS⟩ := hS _ _ _ hJ
    refine codeAny_builtin PySem.F.entry_min_loop ?_
    rw [Around.under_plainId PySem.F.plain_min_loop _]
    show wpAny _ A.in1 (seqItems? (.ref S) >>= _) _ _ s
    refine wpAny_bind (wpAny_seqItems oS rfl ?_)
    show wpAny _ A.in1 (tryCatch (pyNext (.ref I)) _ >>= _) _ _ s
    refine wpAny_bind (wpAny_tryCatch (done b s _ _ hJ fun s1 h1 h2 => ?_))
    cases b with
    | none =>
      obtain ⟨x, d, rfl, hR⟩ := h2 rfl
      show wpAny _ A.in1 (rule _ >>= _) _ _ _
      refine wpAny_bind (wpAny_rule ?_)
      exact wpAny_pure hR
    | some p =>
      obtain ⟨v, k⟩ := p
      obtain ⟨⟨c', o'⟩, hR⟩ := h1 v k rfl
      show wpAny _ A.in1 (updateSeq S (fun _ => #[]) >>= _) _ _ _
      refine wpAny_bind ?_
      refine wpAny_updateSeq o' rfl (wpAny_bind (wpAny_letGo (wpAny_pure ?_)))
      exact hR
  | succ r ih =>
    intro i b s hr hi hJ
    have hlt : i < n := by omega
    obtain ⟨c, oS⟩ := hS _ _ _ hJ
    refine codeAny_builtin PySem.F.entry_min_loop ?_
    rw [Around.under_plainId PySem.F.plain_min_loop _]
    show wpAny _ A.in1 (seqItems? (.ref S) >>= _) _ _ s
    refine wpAny_bind (wpAny_seqItems oS rfl ?_)
    show wpAny _ A.in1 (tryCatch (pyNext (.ref I)) _ >>= _) _ _ s
    refine wpAny_bind (wpAny_tryCatch (item i b s _ _ hlt hJ fun v s1 hK => ?_))
    have rest : ∀ k s2, JK i b v k s2 → wpAny (model prog w) A.in1 (do
        let old := (bArr b).toList
        let failing {α : Type} (first : List Value) (m : Sem α) : Sem α := m.tryCatch fun e => do
          updateSeq S fun _ => #[]
          letGo (first ++ old.reverse) [e]
          throw e
        match old with
        | [oldItem, oldVal] =>
          let better ← failing [k, v] <| holding [v, k] do
            let answer ← richCompare .Lt k oldVal
            let yes ← holding [answer] (truthy answer)
            letGo [answer]
            pure yes
          if better then
            updateSeq S fun _ => #[v, k]
            letGo [oldVal, oldItem]
          else letGo [v, k]
        | _ => updateSeq S fun _ => #[v, k]
        again (.builtin (toString "min" ++ toString ".loop") ⟨[.ref I, kv, .ref S], kw⟩)) (fun fin s' => match fin with
          | .done f => R (.ok f) s'
          | .again c' => c'.quiet = true ∧ codeAny (model prog w) A c' R s') (fun e s' => R (.error e) s') s2 := by
      intro k s2 hJK
      obtain ⟨c2, o2⟩ := hSK _ _ _ _ _ hJK
      cases b with
      | none =>
        show wpAny _ A.in1 (updateSeq S (fun _ => #[v, k]) >>= _) _ _ _
        refine wpAny_bind ?_
        refine wpAny_updateSeq o2 rfl ?_
        rw [hname]
        exact wpAny_pure ⟨plainId_quiet PySem.F.plain_min_loop _, ih (i + 1) _ _ (by omega) hlt (put i v k s2 hJK)⟩
      | some p =>
        obtain ⟨vb, kb⟩ := p
        show wpAny _ A.in1 (tryCatch (holding [v, k] (richCompare .Lt k kb >>= _)) _ >>= _) _ _ _
        refine wpAny_bind (wpAny_tryCatch (wpAny_holding (wpAny_bind (cmp i vb kb v k s2 _ _ hJK fun bb hT hF => ?_))))
        refine wpAny_bind (wpAny_holding (wpAny_truthy_bool ?_))
        refine wpAny_bind (wpAny_letGo (wpAny_pure ?_))
        cases bb with
        | true =>
          simp only [if_true]
          refine wpAny_bind ?_
          refine wpAny_updateSeq o2 rfl (wpAny_bind (wpAny_letGo ?_)) (by show 2 ≤ sizeLine; decide)
          rw [hname]
          exact wpAny_pure ⟨plainId_quiet PySem.F.plain_min_loop _, ih (i + 1) _ _ (by omega) hlt (hT rfl)⟩
        | false =>
          simp only [Bool.false_eq_true, if_false]
          refine wpAny_bind (wpAny_letGo ?_)
          rw [hname]
          exact wpAny_pure ⟨plainId_quiet PySem.F.plain_min_loop _, ih (i + 1) _ _ (by omega) hlt (hF rfl)⟩
    rcases hkv with rfl | ⟨q, rfl⟩
    · exact rest v s1 hK
    · show wpAny _ A.in1 (tryCatch (holding [v] (call (.ref q) [v])) _ >>= _) _ _ _
      refine wpAny_bind (wpAny_tryCatch (wpAny_holding (wpAny_mono (hK (fun _ _ => False)) (fun k s2 hJK => ?_) fun _ _ hF => hF.elim)))
      exact rest k s2 hJK
end
end KS
set_option Elab.async false
set_option linter.all false
set_option maxRecDepth 100000
set_option genSizeOf false
set_option bootstrap.genMatcherCode false
set_option genInjectivity true
namespace L2
open PySem PySem.Spec PyProof.Rows KS PySem.W
/-- the first least one among the first k + 1 -/
noncomputable def mIx (nss : List (List Int)) : Nat → Nat
  | 0 => 0
  | k + 1 => if HT.lexLt (nss.getD (k + 1) []) (nss.getD (mIx nss k) []) then k + 1 else mIx nss k
theorem mIx_le (nss : List (List Int)) : ∀ k, mIx nss k ≤ k
  | 0 => Nat.le_refl _
  | k + 1 => by
    unfold mIx
    split
    · exact Nat.le_refl _
    · exact Nat.le_succ_of_le (mIx_le nss k)
section
variable {X : Cx} {pins : List (Addr × Obj)} {σ : St} {H : Hp} {s : Shared}
/-- what stands in the list of the best one behind i items -/
noncomputable def Bst (nss : List (List Int)) (xs vks : List V) : Nat → Option (Value × Value) → Prop
  | 0, b => b = none
  | i + 1, b => ∃ v k, b = some (v, k) ∧ RelV (xs.getD (mIx nss i) .non) v ∧ RelV (vks.getD (mIx nss i) .non) k
theorem keys_at {vks : List V} {nss : List (List Int)} {H : Hp} {i j : Nat} (h : KeysAre H vks (nss.take i)) (hj : j < i) (hn : j < nss.length) : ∃ b, vks.getD j .non = .ref b ∧ H b = some (.tup ((nss.getD j []).map V.int)) := by
  have hl := Paired.length h
  rw [List.length_take] at hl
  have hjv : j < vks.length := by omega
  obtain ⟨ns, e1, b, e2, e3, e4⟩ := Paired.get h (List.getElem?_eq_getElem hjv)
  rw [List.getElem?_take_of_lt hj, List.getElem?_eq_getElem hn] at e1
  cases e1
  exact ⟨b, by rw [getD_get hjv, e2], by rw [getD_get hn]; exact e3⟩
theorem getD_app {β : Type} {l : List β} {x d : β} {j : Nat} (h : j < l.length) : (l ++ [x]).getD j d = l.getD j d := by
  rw [getD_get h, getD_get (by rw [List.length_append]; omega), List.getElem_append_left h]
theorem getD_app_last {β : Type} {l : List β} {x d : β} : (l ++ [x]).getD l.length d = x := by
  rw [getD_get (by simp)]; simp
theorem run_min {l : Addr} {xs : List V} {nss : List (List Int)} {Q : VK} {kv : Value} {kws kw : List (Str × Value)} {R : Result → Shared → Prop} (hkv : kv = .none ∨ ∃ q, kv = .ref q) (hh : X.A.handled = none) (hu : X.A.units + 64 < cLine)
    (W : Nat → List V → Hp → Prop)
    (KR : ∀ (pins' : List (Addr × Obj)) (i : Nat) (x : V) (v : Value) (vks : List V) (H' : Hp) (s' : Shared), xs[i]? = some x → RelV x v → W i vks H' → Inv X pins' σ H' s' → KeyRun X.prog X.w X.A.in1 kv v (fun k s2 => ∃ vk H2, Inv X pins' σ H2 s2 ∧ RelV vk k ∧ W (i + 1) (vks ++ [vk]) H2) s')
    (wl : ∀ i vks H', W i vks H' → H' l = some (.lst xs)) (wk : ∀ i vks H', W i vks H' → KeysAre H' vks (nss.take i)) (hn : nss.length = xs.length)
    (wend : ∀ vks H', W xs.length vks H' → xs ≠ [] → Q (xs.getD (mIx nss (xs.length - 1)) .non) H')
    (wnil : ∀ vks H', W xs.length vks H' → xs = [] → ∃ x, kw = [(x, .none)] ∧ Q .non H')
    (hR : ∀ v s', EP X pins σ Q v s' → R (.ok (.ret v)) s')
    {I0 S0 : Addr} (hIS : S0 ≠ I0) (h0 : ∃ H', Inv X pins σ H' s ∧ FpOk X pins H' I0 ∧ FpOk X pins H' S0 ∧ W 0 [] H') (hI0 : s.heap.IsListIter I0 l 0) (hS0 : ∃ c, s.heap.get? S0 = some (seqObj "list" #[] c)) :
    codeAny (model X.prog X.w) X.A (.builtin "min.loop" ⟨[.ref I0, kv, .ref S0], kw⟩) R s := by
  have hh1 : X.A.in1.handled = none := hh
  have hu1 : X.A.in1.units < cLine := by show X.A.units + 1 < cLine; omega
  have turn : ∀ {H' : Hp} {s' : Shared} {h2 : Heap} {t2 : Nat} {b : Addr}, Inv X pins σ H' s' → FpOk X pins H' b → (∀ c o, c ≠ b → s'.heap.get? c = some o → h2.get? c = some o) → Inv X pins σ H' { s' with heap := h2, toks := t2 } :=
    fun I' f kp => I'.turned kp f.1 f.2.1 f.2.2.2.1 f.2.2.2.2.1 f.2.2.2.2.2
  refine min_loop (n := xs.length) hkv
    (fun i b s' => ∃ vks H', Inv X pins σ H' s' ∧ FpOk X pins H' I0 ∧ FpOk X pins H' S0 ∧ s'.heap.IsListIter I0 l i ∧ (∃ c, s'.heap.get? S0 = some (seqObj "list" (bArr b) c)) ∧ W i vks H' ∧ Bst nss xs vks i b)
    (fun i b v k s' => ∃ vks vk x H', i < xs.length ∧ Inv X pins σ H' s' ∧ FpOk X pins H' I0 ∧ FpOk X pins H' S0 ∧ s'.heap.IsListIter I0 l (i + 1) ∧ (∃ c, s'.heap.get? S0 = some (seqObj "list" (bArr b) c)) ∧ W (i + 1) (vks ++ [vk]) H' ∧ vks.length = i ∧ xs[i]? = some x ∧ RelV x v ∧ RelV vk k ∧ Bst nss xs vks i b)
    (fun i b s' hw' => by obtain ⟨_, _, _, _, _, _, h, _⟩ := hw'; exact h) (fun i b v k s' hw' => by obtain ⟨_, _, _, _, _, _, _, _, _, h, _⟩ := hw'; exact h) ?item ?cmp ?put ?done xs.length 0 none s (by omega) (Nat.zero_le _) ?init
  case init =>
    obtain ⟨H', I', f1, f2, hW⟩ := h0
    exact ⟨[], H', I', f1, f2, hI0, hS0, hW, rfl⟩
  case item =>
    rintro i b s' Q' E' hi ⟨vks, H', I', f1, f2, hit, ⟨c, oS⟩, hW, hB⟩ hQ
    obtain ⟨its, r, ⟨o, m, e1, e2, _, e3⟩, hz⟩ := I'.list (SqL.of (wl _ _ _ hW))
    have hlI : l ≠ I0 := fun z => by have := wl _ _ _ hW; rw [z, f1.1] at this; cases this
    have Wk := Walks.list (prog := X.prog) (w := X.w) (A := X.A.in1) hh1 I0 l hlI its.toArray
    have hsz : its.toArray.size = xs.length := by rw [List.size_toArray]; exact r.length.symm
    refine Wk.item i s' _ _ (by rw [hsz]; exact hi) ⟨hit, ⟨o, e1, e2, m, e3⟩⟩ fun v h' tk hP hst hk => ?_
    have ex : xs[i]? = some xs[i] := List.getElem?_eq_getElem hi
    obtain ⟨u, q1, q2⟩ := r.get ex
    have hv : its[i]? = some v := by simpa using hP
    rw [hv] at q1
    cases q1
    have I1 : Inv X pins σ H' { s' with heap := h', toks := tk } := turn I' f1 fun c o hc q => hk c o (by simpa using hc) q
    have oS1 := hk S0 _ (by simpa using hIS) oS
    obtain ⟨oI, hoI, hoc, hod⟩ := id hst.1
    have pk : ∀ p ∈ pins ++ [(S0, seqObj "list" (bArr b) c), (I0, oI)], h'.get? p.1 = some p.2 ∧ H' p.1 = none ∧ p.1 ≠ X.env.locals ∧ p.1 ∉ X.fs ∧ ∀ v, p.2.data ≠ .cell v := fun p hp => by
      rcases List.mem_append.mp hp with z | z
      · exact I1.pin p (List.mem_append_right _ z)
      · rw [List.mem_cons, List.mem_singleton] at z
        rcases z with rfl | rfl
        · exact ⟨oS1, f2.1, f2.2.1, f2.2.2.1, fun v z => nomatch z⟩
        · exact ⟨hoI, f1.1, f1.2.1, f1.2.2.1, fun v z => by rw [hod] at z; cases z⟩
    have Ip := I1.pins_of pk
    have lv : vks.length = i := by
      have := Paired.length (wk _ _ _ hW)
      rw [List.length_take] at this
      omega
    have goal : ∀ k s2, (∃ vk H2, Inv X (pins ++ [(S0, seqObj "list" (bArr b) c), (I0, oI)]) σ H2 s2 ∧ RelV vk k ∧ W (i + 1) (vks ++ [vk]) H2) → ∃ vks vk x H', i < xs.length ∧ Inv X pins σ H' s2 ∧ FpOk X pins H' I0 ∧ FpOk X pins H' S0 ∧ s2.heap.IsListIter I0 l (i + 1) ∧ (∃ c, s2.heap.get? S0 = some (seqObj "list" (bArr b) c)) ∧ W (i + 1) (vks ++ [vk]) H' ∧ vks.length = i ∧ xs[i]? = some x ∧ RelV x v ∧ RelV vk k ∧ Bst nss xs vks i b := by
      rintro k s2 ⟨vk, H2, I2, rk, hW2⟩
      have p1 := I2.pin (S0, seqObj "list" (bArr b) c) (List.mem_append_right _ (List.mem_append_right _ (.head _)))
      have p2 := I2.pin (I0, oI) (List.mem_append_right _ (List.mem_append_right _ (.tail _ (.head _))))
      exact ⟨vks, vk, xs[i], H2, hi, I2.unpinned, fp_to f1 p2.2.1, fp_to f2 p1.2.1, ⟨oI, p2.1, hoc, hod⟩, ⟨c, p1.1⟩, hW2, lv, ex, q2, rk, hB⟩
    have hK := KR _ i xs[i] v vks H' _ ex q2 hW Ip
    refine hQ v _ ?_
    rcases hkv with rfl | ⟨q, rfl⟩
    · exact goal v _ hK
    · exact fun E => wpAny_mono (hK E) (fun k s2 z => goal k s2 z) fun _ _ e => e
  case cmp =>
    rintro i vb kb v k s' Q' E' ⟨vks, vk, x, H', hi, I', f1, f2, hit, ⟨c, oS⟩, hW, lv, ex, rx, rk, hB⟩ hQ
    cases i with
    | zero => cases hB
    | succ j =>
      obtain ⟨v', k', e', r1, r2⟩ := hB
      cases e'
      have hm := mIx_le nss j
      have K := wk _ _ _ hW
      obtain ⟨b1, z1, t1⟩ := keys_at (j := j + 1) K (by omega) (by omega)
      obtain ⟨b2, z2, t2⟩ := keys_at (j := mIx nss j) K (by omega) (by omega)
      rw [← lv, getD_app_last] at z1
      rw [getD_app (by omega)] at z2
      subst z1
      rw [z2] at r2
      cases rk
      cases r2
      obtain ⟨its1, ra, p1, _⟩ := I'.tuple (SqT.of t1)
      obtain ⟨its2, rb, p2, _⟩ := I'.tuple (SqT.of t2)
      refine HT.lt_tupInts p1 p2 (intsAre_of ra) (intsAre_of rb) hu1 (hQ _ (fun hT => ?_) fun hF => ?_)
      · have s1 := Heap.SameBut.update s'.heap S0 (Obj.mapSeq fun _ => #[v, .ref b1])
        obtain ⟨c2, hc2⟩ : ∃ c2, (s'.heap.update S0 (Obj.mapSeq fun _ => #[v, .ref b1])).get? S0 = some (seqObj "list" #[v, .ref b1] c2) := ⟨_, get?_update_seq oS fun _ => #[v, .ref b1]⟩
        refine ⟨vks ++ [.ref b1], H', turn (t2 := s'.toks) I' f2 fun c o hc q => (s1.2 c hc).trans q, f1, f2, hit.at fun o q => (s1.2 I0 hIS.symm).trans q, ⟨c2, hc2⟩, hW, v, .ref b1, rfl, ?_, ?_⟩
        · rw [show mIx nss (j + 1) = j + 1 from if_pos hT, List.getD_eq_getElem?_getD, ex]; exact rx
        · rw [show mIx nss (j + 1) = j + 1 from if_pos hT, ← lv, getD_app_last]; rfl
      · have em : mIx nss (j + 1) = mIx nss j := if_neg (by rw [hF]; simp)
        refine ⟨vks ++ [.ref b1], H', I', f1, f2, hit, ⟨c, oS⟩, hW, vb, .ref b2, rfl, by rw [em]; exact r1, ?_⟩
        rw [em, getD_app (by omega), z2]; rfl
  case put =>
    rintro i v k s' ⟨vks, vk, x, H', hi, I', f1, f2, hit, ⟨c, oS⟩, hW, lv, ex, rx, rk, hB⟩
    cases i with
    | succ j => obtain ⟨v', k', e', r1, r2⟩ := hB; cases e'
    | zero =>
      have s1 := Heap.SameBut.update s'.heap S0 (Obj.mapSeq fun _ => #[v, k])
      obtain ⟨c2, hc2⟩ : ∃ c2, (s'.heap.update S0 (Obj.mapSeq fun _ => #[v, k])).get? S0 = some (seqObj "list" #[v, k] c2) := ⟨_, get?_update_seq oS fun _ => #[v, k]⟩
      have ez : vks = [] := List.length_eq_zero_iff.mp lv
      subst ez
      exact ⟨[] ++ [vk], H', turn (t2 := s'.toks) I' f2 fun c o hc q => (s1.2 c hc).trans q, f1, f2, hit.at fun o q => (s1.2 I0 hIS.symm).trans q, ⟨c2, hc2⟩, hW, v, k, rfl, by rw [show mIx nss 0 = 0 from rfl, List.getD_eq_getElem?_getD, ex]; exact rx, rk⟩
  case done =>
    rintro b s' Q' E' ⟨vks, H', I', f1, f2, hit, ⟨c, oS⟩, hW, hB⟩ hQ
    obtain ⟨its, r, ⟨o, m, e1, e2, _, e3⟩, hz⟩ := I'.list (SqL.of (wl _ _ _ hW))
    have hlI : l ≠ I0 := fun z => by have := wl _ _ _ hW; rw [z, f1.1] at this; cases this
    have Wk := Walks.list (prog := X.prog) (w := X.w) (A := X.A.in1) hh1 I0 l hlI its.toArray
    have hsz : its.toArray.size = xs.length := by rw [List.size_toArray]; exact r.length.symm
    refine Wk.done s' _ _ ⟨by rw [hsz]; exact hit, ⟨o, e1, e2, m, e3⟩⟩ fun h' tk hk => ?_
    have I1 : Inv X pins σ H' { s' with heap := h', toks := tk } := turn I' f1 fun c o hc q => hk c o (by simpa using hc) q
    have oS1 := hk S0 _ (by simpa using hIS) oS
    refine hQ _ (fun v k eb => ?_) fun eb => ?_
    · subst eb
      refine ⟨⟨c, oS1⟩, ?_⟩
      have s1 := Heap.SameBut.update h' S0 (Obj.mapSeq fun _ => (#[] : Array Value))
      cases hx : xs.length with
      | zero => rw [hx] at hB; cases hB
      | succ j =>
        rw [hx] at hB
        obtain ⟨v', k', e', r1, r2⟩ := hB
        cases e'
        have hne : xs ≠ [] := fun z => by rw [z] at hx; cases hx
        have := wend _ _ hW hne
        rw [hx] at this
        exact hR _ _ ⟨_, H', turn (t2 := tk) I1 f2 fun c o hc q => (s1.2 c hc).trans q, r1, this⟩
    · subst eb
      cases hx : xs.length with
      | succ j => rw [hx] at hB; obtain ⟨v', k', e', _⟩ := hB; cases e'
      | zero =>
        obtain ⟨x, ek, hq⟩ := wnil _ _ hW (List.length_eq_zero_iff.mp hx)
        exact ⟨x, .none, ek, hR _ _ ⟨.non, H', I1, rfl, hq⟩⟩
end
end L2
set_option Elab.async false
set_option linter.all false
set_option maxRecDepth 100000
set_option genSizeOf false
set_option bootstrap.genMatcherCode false
set_option genInjectivity true
namespace L2
open PySem PySem.Spec PyProof.Rows KS PySem.W
theorem args_min_kd (a v d : Value) : argsOk "min" ⟨[a], [(Str.ofString "key", v), (Str.ofString "default", d)]⟩ := by unfold argsOk; kernel_rfl
section
variable {X : Cx} {k : Nat} {f : Addr} {fd : FuncData} {ps : List Str} {sp : Sp} {pins : List (Addr × Obj)} {σ : St} {H : Hp} {s : Shared}
theorem key_run {x : V} {v : Value} {P : V → Hp → Prop} (G : FnOk X.prog X.w X.K X.mg X.base CX0 k f fd ps sp) (hr : Room (k + 1) X.A) (hb : Binds X.K fd ps []) (I : Inv X pins σ H s) (ru : RelV x v) (hsp : sp [x] H P E0) (E : Value → Shared → Prop) :
    wpAny (model X.prog X.w) X.A.in1 (call (.ref f) [v]) (fun u s2 => ∃ vk H2, Inv X pins σ H2 s2 ∧ RelV vk u ∧ P vk H2) E s := by
  have hlen : ([v] ++ ([] : List Value)).length = ps.length := by have := G.len _ _ _ _ hsp; simpa using this
  refine wpAny_call (codeAny_mono (G.run X.A.in1 X.stack s H ⟨[v], []⟩ ([v] ++ []) [x] _ E0 (Room.in1 hr) I.env0.in1 (hb s [v] I.kIn hlen) (.cons ru .nil) hsp) fun r s'' hq => ?_)
  cases r with
  | error e => exact hq.elim
  | ok fl =>
    cases fl with
    | ret kv => exact I.after hq
    | next => exact False.elim hq
    | brk => exact False.elim hq
    | cont => exact False.elim hq
/-- the two new objects: the walk and the best one so far -/
theorem min_begin {l : Addr} {xs : List V} {kv : Value} {kws kw : List (Str × Value)} {Q : Value → Shared → Prop} {E : Value → Shared → Prop} (I : Inv X pins σ H s) (hl : H l = some (.lst xs))
    (ha : argsOk "min" ⟨[.ref l], kws⟩) {ok od : Option Value} (hb : Builtin.Builtins.bindParams "min" ["key", "default"] 0 ⟨[], kws⟩ = pure [ok, od]) (ek : ok.getD .none = kv) (ed : (od.toList.map fun d => (Str.ofString "default", d)) = kw)
    (go : ∀ (I0 S0 : Addr) (s1 : Shared) (R : Result → Shared → Prop), S0 ≠ I0 → Inv X pins σ H s1 → FpOk X pins H I0 → FpOk X pins H S0 → s1.heap.IsListIter I0 l 0 → (∃ c, s1.heap.get? S0 = some (seqObj "list" #[] c)) → (∀ v s', Q v s' → R (.ok (.ret v)) s') →
      codeAny (model X.prog X.w) X.A (.builtin "min.loop" ⟨[.ref I0, kv, .ref S0], kw⟩) R s1) :
    wpAny (model X.prog X.w) X.A (call (.builtin "min") [.ref l] kws) Q E s := by
  have hname : (toString "min" ++ toString ".loop" : String) = "min.loop" := by decide
  obtain ⟨its, r, ⟨o, m, e1, e2, _, e3⟩, hz⟩ := I.list (SqL.of hl)
  refine kmk_tree PySem.F.kind_min PySem.F.plain_min PySem.F.entry_min ha ?_
  show wpAny _ X.A.in1 (Builtin.Builtins.bindParams "min" ["key", "default"] 0 ⟨[], kws⟩ >>= _) _ _ s
  refine wpAny_bind (wpAny_of_eq hb ?_)
  refine wpAny_bind (wpAny_pure ?_)
  refine wpAny_bind (wpAny_pyIter_list ⟨o, e1, e2, m, e3⟩ ?_)
  refine wpAny_bind (wpAny_newList ?_ (Nat.zero_le _))
  rw [hname, ek]
  have ed' : (od.toList.map fun d => (("default" : Str), d)) = kw := ed
  rw [ed']
  have gI : ((s.heap.push { cls := .type "list_iterator", data := .fields #[.ref l, .int 0 0] }).push (seqObj "list" #[] 0)).get? s.heap.objs.size = some { cls := .type "list_iterator", data := .fields #[.ref l, .int 0 0] } :=
    Heap.get?_push_of_some _ (Heap.get?_push_size _ rfl)
  have gS : ((s.heap.push { cls := .type "list_iterator", data := .fields #[.ref l, .int 0 0] }).push (seqObj "list" #[] 0)).get? (s.heap.push { cls := .type "list_iterator", data := .fields #[.ref l, .int 0 0] }).objs.size = some (seqObj "list" #[] 0) := Heap.get?_push_size _ rfl
  have hS : (s.heap.push { cls := .type "list_iterator", data := .fields #[.ref l, .int 0 0] }).objs.size = s.heap.objs.size + 1 := size_push' ..
  have hSI : (s.heap.push { cls := .type "list_iterator", data := .fields #[.ref l, .int 0 0] }).objs.size ≠ s.heap.objs.size := by rw [hS]; exact Nat.ne_of_gt (Nat.lt_succ_self _)
  have hle : s.heap.objs.size ≤ (s.heap.push { cls := .type "list_iterator", data := .fields #[.ref l, .int 0 0] }).objs.size := by rw [hS]; exact Nat.le_succ _
  refine wpAny_pure ⟨plainId_quiet PySem.F.plain_min_loop _, ?_⟩
  exact go _ _ _ _ hSI (I.kept (t' := s.toks) fun b u q => Heap.get?_push_of_some _ (Heap.get?_push_of_some _ q)) (I.fpOk (Nat.le_refl _) (I.hok.fresh (Nat.le_refl _))) (I.fpOk hle (I.hok.fresh hle)) ⟨_, gI, rfl, rfl⟩ ⟨0, gS⟩ fun v s' q => q
theorem call_minP (hh : X.A.handled = none) (hu : X.A.units + 64 < cLine) : CallR X (.builtin "min") (fun xs H Q => ∃ l ys nss, xs = [V.ref l] ∧ H l = some (.lst ys) ∧ ys ≠ [] ∧ KeysAre H ys nss ∧ Q (ys.getD (mIx nss (ys.length - 1)) .non) H) := by
  intro pins s σ H xs us Q I r h
  obtain ⟨l, ys, nss, rfl, hl, hne, hK, fin⟩ := h
  obtain ⟨u, rfl, ru⟩ := vals1 r
  cases ru
  have hn : nss.length = ys.length := (Paired.length hK).symm
  refine min_begin (kv := .none) (kw := []) I hl (PySem.F.args_min1 _) (ok := none) (od := none) rfl rfl rfl fun I0 S0 s1 R hne' I1 f1 f2 hI hS hR => ?_
  have tk : ∀ i, KeysAre H (ys.take i) (nss.take i) := fun i => by
    have : ∀ (ys : List V) (nss : List (List Int)) (i : Nat), KeysAre H ys nss → KeysAre H (ys.take i) (nss.take i) := fun ys nss i h => by
      induction h generalizing i with
      | nil => rw [List.take_nil, List.take_nil]; exact .nil
      | cons r t ih =>
        cases i with
        | zero => exact .nil
        | succ i => exact .cons r (ih i)
    exact this ys nss i hK
  refine run_min (Q := Q) (kws := []) (.inl rfl) hh hu (fun i vks H' => H' = H ∧ i ≤ ys.length ∧ vks = ys.take i) ?_ (fun i vks H' ⟨e, _⟩ => by rw [e]; exact hl) (fun i vks H' ⟨e, _, e2⟩ => by rw [e, e2]; exact tk i) hn (fun vks H' ⟨e, _⟩ _ => by rw [e]; exact fin) (fun vks H' _ z => absurd z hne) hR hne' ⟨H, I1, f1, f2, rfl, Nat.zero_le _, rfl⟩ hI hS
  rintro pins' i x v vks H' s' ex rx ⟨rfl, hi, rfl⟩ I'
  have hix : i < ys.length := (List.getElem?_eq_some_iff.mp ex).1
  refine ⟨x, H', I', rx, rfl, hix, ?_⟩
  rw [List.take_succ, ex]; rfl
end
end L2
set_option Elab.async false
set_option linter.all false
set_option maxRecDepth 100000
set_option genSizeOf false
set_option bootstrap.genMatcherCode false
set_option genInjectivity true
namespace DL
open PySem PySem.Spec PyProof.Rows L2
/-! ### min(xs) of tuples of ints; min(xs, key = f, default = None); tuple < tuple of ints -/
noncomputable def keysT : List D → Option (List (List Int))
  | [] => some []
  | d :: ds => match keyI d with
    | some ns => match keysT ds with
      | some nss => some (ns :: nss)
      | none => none
    | none => none
theorem keysT_of : ∀ {ds : List D} {nss : List (List Int)}, keysT ds = some nss → ds = nss.map (fun ns => D.tup (ns.map D.int)) ∧ ∀ ns ∈ nss, ns ≠ []
  | [], nss, h => by cases h; exact ⟨rfl, fun _ h => nomatch h⟩
  | d :: ds, nss, h => by
    unfold keysT at h
    cases q : keyI d with
    | none => rw [q] at h; cases h
    | some ns =>
      rw [q] at h
      dsimp only at h
      cases q2 : keysT ds with
      | none => rw [q2] at h; cases h
      | some ms =>
        rw [q2] at h
        cases h
        obtain ⟨e1, e2⟩ := keyI_of q
        obtain ⟨e3, e4⟩ := keysT_of q2
        refine ⟨by rw [e1, e3]; rfl, fun m hm => ?_⟩
        rcases List.mem_cons.mp hm with rfl | hm
        · exact e2
        · exact e4 m hm
noncomputable def minD (nss : List (List Int)) (ds : List D) : D := ds.getD (mIx nss (ds.length - 1)) .non
noncomputable def gMin (g : Den) : Den := fun ρ Ω => match g ρ Ω with
  | some (.lst (d :: ds), Ω1) => match keysT (d :: ds) with
    | some nss => some (minD nss (d :: ds), Ω1)
    | none => none
  | _ => none
noncomputable def gMinK (F : FDen) (g : Den) : Den := fun ρ Ω => match g ρ Ω with
  | some (.lst ds, Ω1) => match keysF F ds Ω1 with
    | some (nss, Ω2) => some (minD nss ds, Ω2)
    | none => none
  | _ => none
noncomputable def ltTD : D → D → Option D
  | .tup xs, .tup ys => match intsD xs, intsD ys with
    | some ns, some ms => some (.bl (HT.lexLt ns ms))
    | _, _ => none
  | _, _ => none
section
variable {X : Cx} {C : Cl} {n : Str} {p pos kpos npos kpos2 cpos : Pos} {a : Expr} {g : Den} {k : Nat}
theorem opD_ltT (hu : X.A.units + 64 < cLine) : OpD X C (compareOp .Lt) ltTD := by
  rintro pins s σ H x y v u Q I rx ry ⟨e, Ω, d₁, d₂, z, eH, w, i1, i2, q, kk⟩
  subst eH
  cases d₁ with
  | tup xs =>
    cases d₂ with
    | tup ys =>
      cases q1 : intsD xs with
      | none => simp only [ltTD, q1] at q; cases q
      | some ns =>
        cases q2 : intsD ys with
        | none => simp only [ltTD, q1, q2] at q; cases q
        | some ms =>
          simp only [ltTD, q1, q2] at q
          cases q
          rw [intsD_map q1, Is] at i1
          rw [intsD_map q2, Is] at i2
          obtain ⟨b1, vs1, rfl, h1, r1⟩ := i1
          obtain ⟨b2, vs2, rfl, h2, r2⟩ := i2
          rw [isL_ints r1] at h1
          rw [isL_ints r2] at h2
          exact op_ltT (by omega) pins s σ _ _ _ v u Q I rx ry ⟨b1, b2, ns, ms, rfl, rfl, SqT.of (w.fh _ _ h1), SqT.of (w.fh _ _ h2), kk _ e (Ext.refl e) w (by rw [Is])⟩
    | _ => cases q
  | _ => cases q
theorem is_getD {K : PySem.W.Frag} {α : List Addr} {F : Hp} {ds : List D} {vs : List V} (h : IsL K α F ds vs) (i : Nat) : Is K α F (ds.getD i .non) (vs.getD i .non) := by
  by_cases hi : i < ds.length
  · obtain ⟨v, e1, e2⟩ := h.get (List.getElem?_eq_getElem hi)
    rw [getD_get hi, List.getD_eq_getElem?_getD, e1]
    exact e2
  · have hl := h.length
    rw [List.getD_eq_getElem?_getD, List.getElem?_eq_none (Nat.le_of_not_lt hi), List.getD_eq_getElem?_getD, List.getElem?_eq_none (by omega)]
    show Is K α F .non .non
    rw [Is]
theorem pd_min (hr : Room k X.A) (hg : Gl X n) (hm : X.mg n = none) (hv : bootBuiltins n = some (.builtin "min")) (ho : PD X C a g) (hn : n ≠ "__name__" := by decide) (hdb : (n == ("__debug__" : Str)) = false := by decide)
    (he : starEach [a] X.env = (false, eval a X.env) :: starEach [] X.env := by rfl) (hpl : (backTo pos (starEach [] X.env)).any (·.1) = false := by rfl) : PD X C (.Call (.Name n p) [a] [] pos) (gMin g) :=
  pe_imp (pe_callB (call_minP hr.hd hr.units) hg hm hv (pa_cons ho pa_nil he) hn hdb he hpl) fun σ H Q hw' => by
    obtain ⟨e, Ω, ρ, d, Ω', eH, w, rl, q, kk⟩ := hw'
    unfold gMin at q
    cases q1 : g ρ Ω with
    | none => rw [q1] at q; cases q
    | some p1 =>
      obtain ⟨d1, Ω1⟩ := p1
      rw [q1] at q
      cases d1 with
      | lst ds =>
        cases ds with
        | nil => cases q
        | cons d0 ds =>
          dsimp only at q
          cases q2 : keysT (d0 :: ds) with
          | none => rw [q2] at q; cases q
          | some nss =>
            rw [q2] at q
            cases q
            refine ⟨e, Ω, ρ, _, _, eH, w, rl, q1, fun v e1 x1 w1 i1 => ?_⟩
            rw [Is] at i1
            obtain ⟨l, vs, rfl, hF, il⟩ := i1
            have len := il.length
            obtain ⟨em, ne⟩ := keysT_of q2
            have il' := il
            rw [em] at il'
            refine ⟨l, vs, nss, rfl, w1.fh _ _ hF, fun z => ?_, keys_of w1.fh ne il', kk _ e1 x1 w1 ?_⟩
            · rw [z] at len; simp at len
            · have hb := is_getD il (mIx nss ((d0 :: ds).length - 1))
              rw [← len]; exact hb
      | _ => cases q
theorem pd_minK {m : Str} {F : FDen} {j : Nat} (G : Fn X.prog X.w X.K X.mg X.base C k m F) (hr : Room (k + 2) X.A) (hgm : Gl X m) (hg : Gl X n) (hm : X.mg n = none) (hv : bootBuiltins n = some (.builtin "min")) (ho : PD X C a g) (hn : n ≠ "__name__" := by decide) (hdb : (n == ("__debug__" : Str)) = false := by decide) (hdm : (m == ("__debug__" : Str)) = false := by decide)
    (he : starEach [a] X.env = (false, eval a X.env) :: starEach [] X.env := by rfl) (he2 : backTo pos (starEach [a] X.env) = (false, eval a X.env) :: backTo pos (starEach [] X.env) := by rfl) (hpl : (backTo pos (starEach [a] X.env)).any (·.1) = false := by rfl)
    (hall : (backToKw pos (keywordEach [⟨some (Str.ofString "key"), .Name m npos, kpos⟩, ⟨some (Str.ofString "default"), .Constant .none j cpos, kpos2⟩] X.env)).all (·.1.isSome) = true := by rfl) (hkw : (backToKw pos (keywordEach [⟨some (Str.ofString "key"), .Name m npos, kpos⟩, ⟨some (Str.ofString "default"), .Constant .none j cpos, kpos2⟩] X.env)).any (·.1.isNone) = false := by rfl)
    (hks : (backToKw pos (keywordEach [⟨some (Str.ofString "key"), .Name m npos, kpos⟩, ⟨some (Str.ofString "default"), .Constant .none j cpos, kpos2⟩] X.env)).filterMap (·.1) = [Str.ofString "key", Str.ofString "default"] := by rfl) : PD X C (.Call (.Name n p) [a] [⟨some (Str.ofString "key"), .Name m npos, kpos⟩, ⟨some (Str.ofString "default"), .Constant .none j cpos, kpos2⟩] pos) (gMinK F g) := by
  obtain ⟨f, fd, ps, hf, hkp, hb, ok⟩ := G.ex
  rintro pins s σ H Q I ⟨e, Ω, ρ, d, Ω', eH, w, rl, q, kk⟩
  unfold gMinK at q
  cases q1 : g ρ Ω with
  | none => rw [q1] at q; cases q
  | some p1 =>
    obtain ⟨d1, Ω1⟩ := p1
    rw [q1] at q
    cases d1 with
    | lst ds =>
      dsimp only at q
      cases q2 : keysF F ds Ω1 with
      | none => rw [q2] at q; cases q
      | some p2 =>
        obtain ⟨nss, Ω2⟩ := p2
        rw [q2] at q
        cases q
        have hl := keysF_len q2
        refine wpAny_Call_Name_kw (ld_blt I hg hm hv ?_ hn hdb)
        refine callWith_kw ?_ he2 hpl hall hkw
        rw [hks]
        refine thn ((pa_cons ho pa_nil he) pos pins s σ H (fun us H1 => ∃ l vs e1, us = [V.ref l] ∧ e1.H = H1 ∧ Ext e e1 ∧ Wf X.K C e1 Ω1 ∧ e1.F l = some (.lst vs) ∧ IsL X.K e1.α e1.F ds vs) I ?_) fun us s1 ⟨vs, H1, I1, r1, l, ys, e1, z1, z2, x1, w1, hF, il⟩ => ?_
        · refine ⟨e, Ω, ρ, _, _, eH, w, rl, q1, fun v e1 x1 w1 i1 => ?_⟩
          rw [Is] at i1
          obtain ⟨l, vs, rfl, hF, il⟩ := i1
          exact ⟨l, vs, e1, rfl, rfl, x1, w1, hF, il⟩
        · subst z1
          subst z2
          obtain ⟨u, rfl, ru⟩ := vals1 r1
          cases ru
          refine thn (pk_cons (pe_glob hgm hf (v := .ref f) rfl hdm) (pk_cons pe_non pk_nil) pos pins s1 σ e1.H (fun zs H2 => zs = [V.ref f, V.non] ∧ H2 = e1.H) I1 ⟨rfl, rfl⟩) fun ws s2 hw' => ?_
          obtain ⟨zs, H2, I2, r2, y1, y2⟩ := hw'
          subst y1
          subst y2
          obtain ⟨u2, ur, rfl, ru2, rt⟩ : ∃ u2 ur, ws = u2 :: ur ∧ RelV (V.ref f) u2 ∧ Vals [V.non] ur := by cases r2 with | cons a b => exact ⟨_, _, rfl, a, b⟩
          obtain ⟨u3, rfl, ru3⟩ := vals1 rt
          cases ru2
          cases ru3
          have len := il.length
          refine min_begin (kv := .ref f) (kw := [(Str.ofString "default", .none)]) I2 (w1.fh _ _ hF) (args_min_kd _ _ _) (ok := some (.ref f)) (od := some .none) rfl rfl rfl fun I0 S0 s3 R hne' I3 f1 f2 hI hS hR => ?_
          refine run_min (Q := Q) (xs := ys) (nss := nss) (kws := []) (.inr ⟨f, rfl⟩) hr.hd hr.units (fun i vks H' => ∃ e' ms Ωi, e'.H = H' ∧ Ext e1 e' ∧ Wf X.K C e' Ωi ∧ i ≤ ds.length ∧ keysF F (ds.take i) Ω1 = some (ms, Ωi) ∧ ms = nss.take i ∧ keysF F (ds.drop i) Ωi = some (nss.drop i, Ω') ∧ IsL X.K e'.α e'.F (ms.map fun ns => D.tup (ns.map D.int)) vks) ?_
            (fun i vks H' hw' => by obtain ⟨e', ms, Ωi, eh, x', w', _⟩ := hw'; rw [← eh]; exact w'.fh _ _ (x'.ff _ _ hF))
            (fun i vks H' hw' => by
              obtain ⟨e', ms, Ωi, eh, x', w', hi, k1, k2, k3, ik⟩ := hw'
              rw [← eh, ← k2]
              exact keys_of w'.fh (fun ns hns => keysF_ne q2 ns (by rw [k2] at hns; exact List.mem_of_mem_take hns)) ik) (by omega) ?_ ?_ hR hne' ⟨e1.H, I3, f1, f2, e1, [], Ω1, rfl, Ext.refl e1, w1, Nat.zero_le _, rfl, rfl, q2, .nil⟩ hI hS
          · rintro pins' i x v vks H' s' ex rx ⟨e', ms, Ωi, rfl, x', w', hi, k1, k2, k3, ik⟩ I'
            have hix : i < ds.length := by rw [len]; exact (List.getElem?_eq_some_iff.mp ex).1
            obtain ⟨v', ev, iv⟩ := il.get (List.getElem?_eq_getElem hix)
            rw [ex] at ev
            cases ev
            rw [List.drop_eq_getElem_cons hix] at k3
            have hin : i < nss.length := by omega
            rw [List.drop_eq_getElem_cons hin] at k3
            unfold keysF at k3
            cases t1 : F [ds[i]] Ωi with
            | none => rw [t1] at k3; cases k3
            | some pp =>
              obtain ⟨kd, Ωj⟩ := pp
              rw [t1] at k3
              dsimp only at k3
              cases t2 : keyI kd with
              | none => rw [t2] at k3; cases k3
              | some ns =>
                rw [t2] at k3
                dsimp only at k3
                cases t3 : keysF F (ds.drop (i + 1)) Ωj with
                | none => rw [t3] at k3; cases k3
                | some p3 =>
                  obtain ⟨mss, Ωk⟩ := p3
                  rw [t3] at k3
                  simp only [Option.some.injEq, Prod.mk.injEq, List.cons.injEq] at k3
                  obtain ⟨⟨n1, n2⟩, n3⟩ := k3
                  obtain ⟨ms', Ωi', c1, c2, c3⟩ := keysF_cut (i := i + 1) q2 (by omega)
                  have cj : Ωi' = Ωj := by
                    have : ds.take (i + 1) = ds.take i ++ [ds[i]] := List.take_succ_eq_append_getElem hix
                    rw [this] at c1
                    exact (keysF_snoc k1 t1 c1).symm
                  rw [cj] at c1 c3
                  refine fun E => key_run ok (hr.mono (by omega)) hb I' rx ?_ E
                  refine ⟨e', Ωi, [ds[i]], kd, Ωj, rfl, w', .cons (Is.ext x' iv) .nil, t1, fun v e'' x'' w'' i'' => ⟨e'', ms', Ωj, rfl, x'.trans x'', w'', by omega, c1, c2, c3, ?_⟩⟩
                  rw [c2, List.take_succ_eq_append_getElem hin, List.map_append, ← k2]
                  refine IsL.append (ik.ext x'') (.cons ?_ .nil)
                  rw [← n1]
                  show Is X.K e''.α e''.F (D.tup (ns.map D.int)) v
                  rw [← (keyI_of t2).1]
                  exact i''
          · rintro vks H' ⟨e', ms, Ωi, rfl, x', w', hi, k1, k2, k3, ik⟩ hne
            rw [← len, List.drop_length] at k3
            have hΩ : Ωi = Ω' := by
              have e0 : some (([] : List (List Int)), Ωi) = some (nss.drop ds.length, Ω') := k3
              simp only [Option.some.injEq, Prod.mk.injEq] at e0
              exact e0.2
            subst hΩ
            refine kk _ e' (x1.trans x') w' ?_
            have hb := is_getD (il.ext x') (mIx nss (ds.length - 1))
            rw [← len]; exact hb
          · rintro vks H' ⟨e', ms, Ωi, rfl, x', w', hi, k1, k2, k3, ik⟩ hne
            have hd0 : ds = [] := List.length_eq_zero_iff.mp (by rw [len, hne]; rfl)
            subst hd0
            rw [hne] at k3
            have hΩ : Ωi = Ω' := by
              have e0 : some (([] : List (List Int)), Ωi) = some (nss.drop 0, Ω') := k3
              simp only [Option.some.injEq, Prod.mk.injEq] at e0
              exact e0.2
            subst hΩ
            refine ⟨_, rfl, kk _ e' (x1.trans x') w' ?_⟩
            show Is X.K e'.α e'.F .non .non
            rw [Is]
    | _ => cases q
end
end DL
set_option Elab.async false
set_option linter.all false
set_option maxRecDepth 100000
set_option genSizeOf false
set_option bootstrap.genMatcherCode false
set_option genInjectivity true
namespace DL
open PySem PySem.Spec PyProof.Rows L2
section
variable {X : Cx} {C : Cl} {k : Nat} {F : FDen} {n : Str} {p pos : Pos}
theorem pd_callF0 (G : Fn X.prog X.w X.K X.mg X.base C k n F) (hr : Room k X.A) (hg : Gl X n) (hdb : (n == ("__debug__" : Str)) = false := by decide) : PD X C (.Call (.Name n p) [] [] pos) (gCall F gNil) := by
  obtain ⟨f, fd, ps, hm, hk, hb, ok⟩ := G.ex
  exact pe_imp (pe_call0 ok hr hg hm hk hb .nil pass0 hdb) fun σ H Q hw => by
    obtain ⟨e, Ω, ρ, d, Ω', eH, w, rl, q, kk⟩ := hw
    subst eH
    exact ⟨e, Ω, [], d, Ω', rfl, w, .nil, q, fun v e'' x'' w'' i'' => kk v e'' x'' w'' i''⟩
end
/-! ### {'a': x, 'b': y, ..} -/
noncomputable def dispP : List (Str × Den) → List Sl → List OS → Option (List (Key × D) × List OS)
  | [], _, Ω => some ([], Ω)
  | (z, g) :: r, ρ, Ω => match g ρ Ω with
    | some (d, Ω1) => match dispP r ρ Ω1 with
      | some (kvs, Ω2) => some ((.inr z, d) :: kvs, Ω2)
      | none => none
    | none => none
noncomputable def mergeD (kvs more : List (Key × D)) : List (Key × D) := more.foldl (fun acc kv => putD acc kv.1 kv.2) kvs
noncomputable def gDisp (kgs : List (Str × Den)) : Den := fun ρ Ω => match dispP kgs ρ (Ω ++ [.dK []]) with
  | some (kvs, Ω') => (match Ω'[Ω.length]? with
    | some (.dK []) => some (.obj Ω.length, Ω'.set Ω.length (.dK (mergeD [] kvs)))
    | _ => none)
  | none => none
theorem PsIs.merge {K : PySem.W.Frag} {α : List Addr} {F : Hp} : ∀ {more : List (Key × D)} {ms : List (Key × V)} {kvs : List (Key × D)} {vs : List (Key × V)}, PsIs K α F more ms → PsIs K α F kvs vs → PsIs K α F (mergeD kvs more) (mergeK vs ms)
  | [], ms, kvs, vs, h, h2 => by rw [show ms = [] from h]; exact h2
  | p :: r, ms, kvs, vs, ⟨v, t, e, i, q⟩, h2 => by
    rw [e]
    exact PsIs.merge (kvs := putD kvs p.1 p.2) (vs := putK vs p.1 v) q (h2.put p.1 i)
section
variable {X : Cx} {C : Cl} {pos : Pos}
theorem disp_go {K : PySem.W.Frag} {σ : St} {ρ : List Sl} : ∀ {kgs : List (Str × Den)} {e : E4} {Ω Ω' : List OS} {kvs : List (Key × D)} {Q : List (V × V) → Hp → Prop}, dispP kgs ρ Ω = some (kvs, Ω') → Wf K C e Ω → RelE K e σ ρ →
    (∀ e' ps, Ext e e' → Wf K C e' Ω' → PsIs K e'.α e'.F kvs ps → Q (ps.map fun kv => (kV kv.1, kv.2)) e'.H) → tPairs (kgs.map fun kg => (tC (.str kg.1), tD K C kg.2)) σ e.H Q
  | [], e, Ω, Ω', kvs, Q, h, w, rl, kk => by cases h; exact kk e [] (Ext.refl e) w rfl
  | (z, g) :: r, e, Ω, Ω', kvs, Q, h, w, rl, kk => by
    unfold dispP at h
    cases q1 : g ρ Ω with
    | none => rw [q1] at h; cases h
    | some p1 =>
      obtain ⟨d, Ω1⟩ := p1
      rw [q1] at h
      dsimp only at h
      cases q2 : dispP r ρ Ω1 with
      | none => rw [q2] at h; cases h
      | some p2 =>
        obtain ⟨kvs2, Ω2⟩ := p2
        rw [q2] at h
        cases h
        refine ⟨e, Ω, ρ, d, Ω1, rfl, w, rl, q1, fun v e1 x1 w1 i1 => ?_⟩
        refine disp_go q2 w1 (rl.ext x1) fun e2 ps x2 w2 ip => ?_
        exact kk e2 ((.inr z, v) :: ps) (x1.trans x2) w2 ⟨v, ps, rfl, i1.ext x2, ip⟩
/-- the texts and values of a display, one by one -/
inductive PDP (X : Cx) (C : Cl) : List (Option Expr) → List Expr → List (Str × Den) → Prop
  | nil : PDP X C [] [] []
  | cons {z : Str} {j : Nat} {p : Pos} {x : Expr} {g : Den} {ks : List (Option Expr)} {vs : List Expr} {kgs : List (Str × Den)} : PD X C x g → PDP X C ks vs kgs → PDP X C (some (.Constant (.str z) j p) :: ks) (x :: vs) ((z, g) :: kgs)
theorem PDP.pps {ks : List (Option Expr)} {vs : List Expr} {kgs : List (Str × Den)} (h : PDP X C ks vs kgs) : PPs X pos ks vs (kgs.map fun kg => (tC (.str kg.1), tD X.K C kg.2)) := by
  induction h with
  | nil => exact pps_nil
  | cons h1 _ ih => exact pps_cons pe_str h1 ih
theorem PDP.all {ks : List (Option Expr)} {vs : List Expr} {kgs : List (Str × Den)} (h : PDP X C ks vs kgs) : ks.all (·.isSome) = true ∧ ks.length = vs.length ∧ kgs.length = ks.length := by
  induction h with
  | nil => exact ⟨rfl, rfl, rfl⟩
  | cons _ _ ih => exact ⟨by rw [List.all_cons, ih.1]; rfl, by rw [List.length_cons, List.length_cons, ih.2.1], by rw [List.length_cons, List.length_cons, ih.2.2]⟩
theorem dispP_len {ρ : List Sl} : ∀ {kgs : List (Str × Den)} {Ω Ω' : List OS} {kvs : List (Key × D)}, dispP kgs ρ Ω = some (kvs, Ω') → kvs.length = kgs.length
  | [], _, _, _, h => by cases h; rfl
  | (z, g) :: r, Ω, Ω', kvs, h => by
    unfold dispP at h
    cases q1 : g ρ Ω with
    | none => rw [q1] at h; cases h
    | some p1 =>
      obtain ⟨d, Ω1⟩ := p1
      rw [q1] at h
      dsimp only at h
      cases q2 : dispP r ρ Ω1 with
      | none => rw [q2] at h; cases h
      | some p2 =>
        obtain ⟨kvs2, Ω2⟩ := p2
        rw [q2] at h
        cases h
        rw [List.length_cons, List.length_cons, dispP_len q2]
theorem pd_disp {ks : List (Option Expr)} {vs : List Expr} {kgs : List (Str × Den)} (h : PDP X C ks vs kgs) (h0 : ks ≠ []) (h15 : ks.length ≤ 15) : PD X C (.Dict ks vs pos) (gDisp kgs) :=
  pe_imp (pe_disp h.pps h.all.1 h.all.2.1 h0 h15) fun σ H Q hw' => by
    obtain ⟨e, Ω, ρ, d, Ω', eH, w, rl, q, kk⟩ := hw'
    subst eH
    intro p hp
    unfold gDisp at q
    cases q1 : dispP kgs ρ (Ω ++ [.dK []]) with
    | none => rw [q1] at q; cases q
    | some p1 =>
      obtain ⟨kvs, Ω1⟩ := p1
      rw [q1] at q
      dsimp only at q
      cases q2 : Ω1[Ω.length]? with
      | none => rw [q2] at q; cases q
      | some o =>
        rw [q2] at q
        cases o with
        | dK l =>
          cases l with
          | cons _ _ => cases q
          | nil =>
            cases q
            obtain ⟨w', x'⟩ := w.obj (H' := upd e.H p (.dK [])) (o := .dK []) hp (fun b u hb => by rw [upd_ne (ne_of_none hb hp)]; exact hb) (by rw [upd_same]; exact ⟨by simp, fun xs z => nomatch z⟩) ⟨[], upd_same, rfl⟩
            refine disp_go q1 w' (rl.ext x') fun e2 ps x2 w2 ip => ?_
            have hα : e2.α[Ω.length]? = some p := by
              obtain ⟨more, em⟩ := x2.al
              rw [em, List.getElem?_append_left]
              · show (e.α ++ [p])[Ω.length]? = some p
                rw [← w.ol]; simp
              · show Ω.length < (e.α ++ [p]).length
                rw [← w.ol]; simp
            obtain ⟨vs0, h1, h2⟩ := (w2.ob _ p _ hα q2).2
            have e0 : vs0 = [] := h2
            subst e0
            refine ⟨h1, ps, rfl, ?_, ?_⟩
            · rw [← ip.len, dispP_len q1, h.all.2.2]; exact h15
            · obtain ⟨w3, x3⟩ := w2.at (o' := .dK (mergeD [] kvs)) (ho := .dK (mergeK [] ps)) hα (fun xs z => nomatch z) ⟨_, upd_same, ip.merge rfl⟩ fun o u z => by rw [h1] at z; cases z
              refine kk _ (e2.at p _) ((x'.trans x2).trans x3) w3 ?_
              rw [Is]
              exact ⟨p, hα, rfl⟩
        | _ => cases q
end
end DL
namespace Law
open PySem DL
noncomputable def xt_0 : Str → Option Bool := fun c => if c = "NotTied" then some true else if c = "Tied" then some true else none
noncomputable def tcf_PostError : Str → Bool := fun c => decide (c = "NotTied") || decide (c = "Tied")
noncomputable def d_l_mixed : FDen := runD 1 4 (sSeq (sOwn 1 gNil) (sSeq (sSet 2 (gC (.int 1))) (sSeq (sFor (gSeq (gVar 0)) (bName 3) (sSeq (sSet 2 (gOp modD (gOp addD (gOp addD (gOp mulD (gVar 2) (gC (.int 6364136223846793005))) (gVar 3)) (gC (.int 1442695040888963407))) (gC (.int 1000000000000000003)))) (sApp 1 (gVar 2)))) (sSeq (whileD (gT (gOp ltD (gLLen (gO 1)) (gC (.int 48)))) (sSeq (sSet 2 (gOp modD (gOp addD (gOp mulD (gVar 2) (gC (.int 6364136223846793005))) (gC (.int 1442695040888963407))) (gC (.int 1000000000000000003)))) (sApp 1 (gVar 2))) 1000) (sGhost (frz 1) (sRet (gVar 1)))))))
noncomputable def d_l_cell_at : FDen := runD 2 2 (sSeq (sIf (gT (gOp ltD (gVar 1) (gCB lenD (gCons (gVar 0) gNil)))) (sRet (gOp ixD (gVar 0) (gVar 1))) sNext) (sRet (gOp mulD (gOp mulD (gOp addD (gVar 1) (gC (.int 3))) (gOp addD (gVar 1) (gC (.int 7)))) (gC (.int 7919)))))
noncomputable def d_l_houses : FDen := runD 1 2 (sSeq (sSet 1 (gCall d_l_cell_at (gCons (gVar 0) (gCons (gC (.int 0)) gNil)))) (sSeq (sIf (gT (gOp (eqD false) (gOp modD (gVar 1) (gC (.int 12))) (gC (.int 0)))) (sRet (gComp [none] (gRng rng1 (gCons (gC (.int 32)) gNil)) (bName 0) gTrue (gVar 0))) sNext) (sRet (gComp [none, some 1] (gRng rng1 (gCons (gOp addD (gC (.int 3)) (gOp modD (gOp divD (gVar 1) (gC (.int 11904))) (gC (.int 3)))) gNil)) (bName 0) gTrue (gOp modD (gOp addD (gOp divD (gVar 1) (gC (.int 12))) (gOp mulD (gVar 0) (gOp addD (gC (.int 1)) (gOp modD (gOp divD (gVar 1) (gC (.int 384))) (gC (.int 31)))))) (gC (.int 32)))))))
noncomputable def d_Ways___init__ : FDen := runD 1 1 (sSeq (sFldD "Ways" "length_by" (gVar 0) gNewK) (sSeq (sFldD "Ways" "tellings_by" (gVar 0) gNewK) (sFldD "Ways" "mark_of" (gVar 0) gNewK)))
noncomputable def d_l_begun : FDen := runD 0 0 (sRet (gDisp [("lengths", gNewK), ("told", gNewT), ("marks", gNewK)]))
noncomputable def d_l_better : FDen := runD 2 2 (sRet (gOrV (gOp gtD (gOp ixD (gVar 0) (gC (.int 0))) (gOp ixD (gVar 1) (gC (.int 0)))) (gAndV (gOp (eqD false) (gOp ixD (gVar 0) (gC (.int 0))) (gOp ixD (gVar 1) (gC (.int 0)))) (gOp ltD (gOp ixD (gVar 0) (gC (.int 1))) (gOp ixD (gVar 1) (gC (.int 1)))))))
noncomputable def d_l_may : FDen := runD 3 3 (sRet (gAndV (gOp (isD true) (gVar 2) (gC .non)) (gOrV (gOp (isD false) (gVar 0) (gC .non)) (gCall d_l_better (gCons (gTup (gCons (gVar 1) (gCons (gVar 2) gNil))) (gCons (gVar 0) gNil))))))
noncomputable def d_l_way : FDen := runD 2 7 (sSeq (sOwn 2 gNil) (sSeq (sForK (gDGet (gVar 0) (gC (.str "lengths"))) (bName 3) (sIf (gT (gDIn false (gTup (gCons (gVar 1) (gCons (gVar 3) gNil))) (gDGet (gVar 0) (gC (.str "told"))))) (sSeq (sAsg (bTup [4, 5]) (gDGet (gDGet (gVar 0) (gC (.str "told"))) (gTup (gCons (gVar 1) (gCons (gVar 3) gNil))))) (sIf (gT (gCall d_l_may (gCons (gDGet1 (gDGet (gVar 0) (gC (.str "marks"))) (gVar 1)) (gCons (gVar 4) (gCons (gVar 5) gNil))))) (sApp 2 (gTup (gCons (gNeg (gVar 4)) (gCons (gOp addD (gVar 5) (gDGet (gDGet (gVar 0) (gC (.str "lengths"))) (gVar 3))) (gCons (gVar 3) gNil))))) sNext)) sNext)) (sGhost (frz 2) (sSeq (sIf (gT (gOp (eqD false) (gVar 2) (gLst gNil))) (sRet (gC .non)) sNext) (sSeq (sSet 6 (gMin (gVar 2))) (sRet (gTup (gCons (gNeg (gOp ixD (gVar 6) (gC (.int 0)))) (gCons (gOp ixD (gVar 6) (gC (.int 1))) (gCons (gOp ixD (gVar 6) (gC (.int 2))) gNil))))))))))
noncomputable def d_l_mix : FDen := runD 2 3 (sSeq (sSet 2 (gOp modD (gOp addD (gOp addD (gVar 0) (gOp mulD (gC (.int 104729)) (gVar 1))) (gOp mulD (gOp mulD (gC (.int 7919)) (gVar 1)) (gVar 1))) (gC (.int 998244353)))) (sRet (gOp modD (gOp mulD (gOp modD (gOp mulD (gVar 2) (gVar 2)) (gC (.int 998244353))) (gC (.int 1000003))) (gC (.int 998244353)))))
noncomputable def d_l_drawn : FDen := runD 4 11 (sSeq (sSet 4 (gOp ixD (gVar 1) (gOp modD (gCall d_l_mix (gCons (gVar 3) (gCons (gC (.int 1)) gNil))) (gCB lenD (gCons (gVar 1) gNil))))) (sSeq (sSet 5 (gOp ixD (gVar 2) (gOp modD (gCall d_l_mix (gCons (gVar 3) (gCons (gC (.int 2)) gNil))) (gCB lenD (gCons (gVar 2) gNil))))) (sSeq (sSet 6 (gOp modD (gCall d_l_mix (gCons (gVar 3) (gCons (gC (.int 3)) gNil))) (gC (.int 16)))) (sSeq (sIf (gT (gOp ltD (gVar 6) (gC (.int 3)))) (sRet (gTup (gCons (gC (.str "tie")) (gCons (gVar 4) (gCons (gOp ixD (gLst (gCons (gOp addD (gC (.int 1)) (gOp modD (gCall d_l_mix (gCons (gVar 3) (gCons (gC (.int 4)) gNil))) (gC (.int 4)))) (gCons (gOp addD (gC (.int 1)) (gOp modD (gCall d_l_mix (gCons (gVar 3) (gCons (gC (.int 4)) gNil))) (gC (.int 99)))) gNil))) (gOp modD (gCall d_l_mix (gCons (gVar 3) (gCons (gC (.int 5)) gNil))) (gC (.int 2)))) gNil))))) sNext) (sSeq (sIf (gT (gOp (eqD false) (gVar 6) (gC (.int 3)))) (sRet (gTup (gCons (gC (.str "untie")) (gCons (gVar 4) gNil)))) sNext) (sSeq (sSet 7 (gCall d_l_way (gCons (gVar 0) (gCons (gVar 5) gNil)))) (sSeq (sIf (gAndT (gT (gOp (isD true) (gVar 7) (gC .non))) (gAndT (gT (gDIn false (gVar 4) (gDGet (gVar 0) (gC (.str "lengths"))))) (gT (gOp (eqD false) (gOp modD (gCall d_l_mix (gCons (gVar 3) (gCons (gC (.int 11)) gNil))) (gC (.int 5))) (gC (.int 0)))))) (sRet (gTup (gCons (gC (.str "hear")) (gCons (gVar 4) (gCons (gVar 5) (gCons (gOp ixD (gVar 7) (gC (.int 0))) (gCons (gCB max2D (gCons (gC (.int 0)) (gCons (gOp subD (gOp ixD (gVar 7) (gC (.int 1))) (gDGet (gDGet (gVar 0) (gC (.str "lengths"))) (gVar 4))) gNil))) gNil))))))) sNext) (sSeq (sSet 8 (gDGet2 (gDGet (gVar 0) (gC (.str "marks"))) (gVar 5) (gTup (gCons (gC (.int 1)) (gCons (gC (.int 3)) gNil))))) (sSeq (sSet 9 (gCB max2D (gCons (gC (.int 1)) (gCons (gOp addD (gOp ixD (gVar 8) (gC (.int 0))) (gOp ixD (gLst (gCons (gC (.int 0)) (gCons (gC (.int 0)) (gCons (gC (.int 0)) (gCons (gC (.int 1)) (gCons (gNeg (gC (.int 1))) (gCons (gC (.int 2)) gNil))))))) (gOp modD (gCall d_l_mix (gCons (gVar 3) (gCons (gC (.int 4)) gNil))) (gC (.int 6))))) gNil)))) (sSeq (sSet 10 (gOp ixD (gLst (gCons (gOp modD (gCall d_l_mix (gCons (gVar 3) (gCons (gC (.int 5)) gNil))) (gC (.int 9))) (gCons (gOp ixD (gVar 8) (gC (.int 1))) (gCons (gOp subD (gOp ixD (gVar 8) (gC (.int 1))) (gC (.int 1))) (gCons (gOp addD (gOp ixD (gVar 8) (gC (.int 1))) (gC (.int 1))) gNil))))) (gOp modD (gCall d_l_mix (gCons (gVar 3) (gCons (gC (.int 6)) gNil))) (gC (.int 4))))) (sSeq (sIf (gT (gOp (eqD false) (gOp modD (gCall d_l_mix (gCons (gVar 3) (gCons (gC (.int 7)) gNil))) (gC (.int 40))) (gC (.int 0)))) (sSeq (sSet 9 (gOp addD (gC (.int 1)) (gOp mulD (gCall d_l_mix (gCons (gVar 3) (gCons (gC (.int 8)) gNil))) (gC (.int 1000))))) (sSet 10 (gCall d_l_mix (gCons (gVar 3) (gCons (gC (.int 9)) gNil))))) sNext) (sSeq (sIf (gT (gOp (eqD false) (gOp modD (gCall d_l_mix (gCons (gVar 3) (gCons (gC (.int 7)) gNil))) (gC (.int 7))) (gC (.int 1)))) (sSet 10 (gC .non)) sNext) (sRet (gTup (gCons (gC (.str "hear")) (gCons (gVar 4) (gCons (gVar 5) (gCons (gVar 9) (gCons (gVar 10) gNil)))))))))))))))))))
noncomputable def d_Ways_tie : FDen := runD 3 3 (sSeq (sIf (gT (gDIn false (gVar 1) (gFld "Ways" "length_by" (gVar 0)))) sNever sNext) (sSeq (sDPut (gFld "Ways" "length_by" (gVar 0)) (gVar 1) (gVar 2)) (sDPut (gFld "Ways" "tellings_by" (gVar 0)) (gVar 1) gNewK)))
noncomputable def r_Ways_tie : XFDen := runR 3 3 (rIf (gT (gDIn false (gVar 1) (gFld "Ways" "length_by" (gVar 0)))) (rRaiseV "Tied" (pFi (gVar 1))) rNever)
noncomputable def d_Ways_need_tie : FDen := runD 2 2 (sIf (gT (gDIn true (gVar 1) (gFld "Ways" "length_by" (gVar 0)))) sNever sNext)
noncomputable def r_Ways_need_tie : XFDen := runR 2 2 (rIf (gT (gDIn true (gVar 1) (gFld "Ways" "length_by" (gVar 0)))) (rRaiseV "NotTied" (pFi (gVar 1))) rNever)
noncomputable def d_Ways_untie : FDen := runD 2 2 (sSeq (sExpr (gMeth "Ways" "need_tie" d_Ways_need_tie [] (gVar 0) (gCons (gVar 1) gNil))) (sSeq (sExpr (gDPop (gFld "Ways" "length_by" (gVar 0)) (gVar 1))) (sExpr (gDPop (gFld "Ways" "tellings_by" (gVar 0)) (gVar 1)))))
noncomputable def r_Ways_untie : XFDen := runR 2 2 (rE (rMeth "Ways" "need_tie" r_Ways_need_tie [] (gVar 0) (gCons (gVar 1) gNil)))
noncomputable def d_Ways_mark : FDen := runD 2 2 (sRet (gDGet1 (gFld "Ways" "mark_of" (gVar 0)) (gVar 1)))
noncomputable def d_place_of_way : FDen := runD 1 1 (sRet (gTup (gCons (gNeg (gOp ixD (gVar 0) (gC (.int 0)))) (gCons (gOp ixD (gVar 0) (gC (.int 1))) (gCons (gOp ixD (gVar 0) (gC (.int 2))) gNil)))))
noncomputable def d_better : FDen := runD 2 2 (sSeq (sIf (gT (gOp (eqD true) (gOp ixD (gVar 0) (gC (.int 0))) (gOp ixD (gVar 1) (gC (.int 0))))) (sRet (gOp gtD (gOp ixD (gVar 0) (gC (.int 0))) (gOp ixD (gVar 1) (gC (.int 0))))) sNext) (sRet (gOp ltD (gOp ixD (gVar 0) (gC (.int 1))) (gOp ixD (gVar 1) (gC (.int 1))))))
noncomputable def d_may_use : FDen := runD 3 3 (sSeq (sIf (gT (gOp (isD false) (gVar 2) (gC .non))) (sRet (gC (.bl false))) sNext) (sRet (gOrV (gOp (isD false) (gVar 0) (gC .non)) (gCall d_better (gCons (gTup (gCons (gVar 1) (gCons (gVar 2) gNil))) (gCons (gVar 0) gNil))))))
noncomputable def d_Ways_way : FDen := runD 2 6 (sSeq (sSet 2 (gMeth "Ways" "mark" d_Ways_mark [] (gVar 0) (gCons (gVar 1) gNil))) (sSeq (sOwn 3 gNil) (sSeq (sForK (gFld "Ways" "tellings_by" (gVar 0)) (bName 4) (sSeq (sSet 5 (gDGet1 (gDGet (gFld "Ways" "tellings_by" (gVar 0)) (gVar 4)) (gVar 1))) (sIf (gAndT (gT (gOp (isD true) (gVar 5) (gC .non))) (gT (gCall d_may_use (gCons (gVar 2) (gCons (gOp ixD (gVar 5) (gC (.int 0))) (gCons (gOp ixD (gVar 5) (gC (.int 1))) gNil)))))) (sApp 3 (gTup (gCons (gOp ixD (gVar 5) (gC (.int 0))) (gCons (gOp addD (gOp ixD (gVar 5) (gC (.int 1))) (gDGet (gFld "Ways" "length_by" (gVar 0)) (gVar 4))) (gCons (gVar 4) gNil))))) sNext))) (sGhost (frz 3) (sRet (gMinK d_place_of_way (gVar 3)))))))
noncomputable def d_bettered : FDen := runD 3 3 (sSeq (sIf (gOrT (gT (gOp (isD false) (gVar 0) (gC .non))) (gT (gOp gtD (gVar 1) (gOp ixD (gVar 0) (gC (.int 0)))))) (sRet (gTup (gCons (gVar 1) (gCons (gVar 2) gNil)))) sNext) (sRet (gTup (gCons (gVar 1) (gCons (gCB min2D (gCons (gOp ixD (gVar 0) (gC (.int 1))) (gCons (gVar 2) gNil))) gNil)))))
noncomputable def d_Ways_hear : FDen := runD 5 6 (sSeq (sExpr (gMeth "Ways" "need_tie" d_Ways_need_tie [] (gVar 0) (gCons (gVar 1) gNil))) (sSeq (sDPut (gDGet (gFld "Ways" "tellings_by" (gVar 0)) (gVar 1)) (gVar 2) (gTup (gCons (gVar 3) (gCons (gVar 4) gNil)))) (sSeq (sSet 5 (gMeth "Ways" "way" d_Ways_way [] (gVar 0) (gCons (gVar 2) gNil))) (sIf (gT (gOp (isD true) (gVar 5) (gC .non))) (sDPut (gFld "Ways" "mark_of" (gVar 0)) (gVar 2) (gCall d_bettered (gCons (gMeth "Ways" "mark" d_Ways_mark [] (gVar 0) (gCons (gVar 2) gNil)) (gCons (gOp ixD (gVar 5) (gC (.int 0))) (gCons (gOp ixD (gVar 5) (gC (.int 1))) gNil))))) sNext))))
noncomputable def r_Ways_hear : XFDen := runR 5 6 (rE (rMeth "Ways" "need_tie" r_Ways_need_tie [] (gVar 0) (gCons (gVar 1) gNil)))
noncomputable def d_l_tried : FDen := runD 2 3 (sSeq (sTry2 (sIf (gT (gOp (eqD false) (gOp ixD (gVar 1) (gC (.int 0))) (gC (.str "tie")))) (sExpr (gMeth "Ways" "tie" d_Ways_tie [] (gVar 0) (gCons (gOp ixD (gVar 1) (gC (.int 1))) (gCons (gOp ixD (gVar 1) (gC (.int 2))) gNil)))) (sIf (gT (gOp (eqD false) (gOp ixD (gVar 1) (gC (.int 0))) (gC (.str "untie")))) (sExpr (gMeth "Ways" "untie" d_Ways_untie [] (gVar 0) (gCons (gOp ixD (gVar 1) (gC (.int 1))) gNil))) (sExpr (gMeth "Ways" "hear" d_Ways_hear [] (gVar 0) (gCons (gOp ixD (gVar 1) (gC (.int 1))) (gCons (gOp ixD (gVar 1) (gC (.int 2))) (gCons (gOp ixD (gVar 1) (gC (.int 3))) (gCons (gOp ixD (gVar 1) (gC (.int 4))) gNil)))))))) (rIf (gT (gOp (eqD false) (gOp ixD (gVar 1) (gC (.int 0))) (gC (.str "tie")))) (rE (rMeth "Ways" "tie" r_Ways_tie [] (gVar 0) (gCons (gOp ixD (gVar 1) (gC (.int 1))) (gCons (gOp ixD (gVar 1) (gC (.int 2))) gNil)))) (rIf (gT (gOp (eqD false) (gOp ixD (gVar 1) (gC (.int 0))) (gC (.str "untie")))) (rE (rMeth "Ways" "untie" r_Ways_untie [] (gVar 0) (gCons (gOp ixD (gVar 1) (gC (.int 1))) gNil))) (rE (rMeth "Ways" "hear" r_Ways_hear [] (gVar 0) (gCons (gOp ixD (gVar 1) (gC (.int 1))) (gCons (gOp ixD (gVar 1) (gC (.int 2))) (gCons (gOp ixD (gVar 1) (gC (.int 3))) (gCons (gOp ixD (gVar 1) (gC (.int 4))) gNil)))))))) 2 tcf_PostError (sRet (gIsX xt_0 (gVar 2)))) (sRet (gC .non)))
noncomputable def d_l_done : FDen := runD 2 3 (sIf (gT (gOp (eqD false) (gOp ixD (gVar 1) (gC (.int 0))) (gC (.str "tie")))) (sDPut (gDGet (gVar 0) (gC (.str "lengths"))) (gOp ixD (gVar 1) (gC (.int 1))) (gOp ixD (gVar 1) (gC (.int 2)))) (sIf (gT (gOp (eqD false) (gOp ixD (gVar 1) (gC (.int 0))) (gC (.str "untie")))) (sSeq (sExpr (gDPop (gDGet (gVar 0) (gC (.str "lengths"))) (gOp ixD (gVar 1) (gC (.int 1))))) (sFor (gSeq (gDList (gDGet (gVar 0) (gC (.str "told"))))) (bName 2) (sIf (gT (gOp (eqD false) (gOp ixD (gVar 2) (gC (.int 1))) (gOp ixD (gVar 1) (gC (.int 1))))) (sExpr (gDPop (gDGet (gVar 0) (gC (.str "told"))) (gVar 2))) sNext))) (sDPut (gDGet (gVar 0) (gC (.str "told"))) (gTup (gCons (gOp ixD (gVar 1) (gC (.int 2))) (gCons (gOp ixD (gVar 1) (gC (.int 1))) gNil))) (gTup (gCons (gOp ixD (gVar 1) (gC (.int 3))) (gCons (gOp ixD (gVar 1) (gC (.int 4))) gNil))))))
noncomputable def d_l_best : FDen := runD 3 10 (sSeq (sSet 3 (gMeth "Ways" "way" d_Ways_way [] (gVar 0) (gCons (gVar 2) gNil))) (sSeq (sSet 4 (gMeth "Ways" "mark" d_Ways_mark [] (gVar 0) (gCons (gVar 2) gNil))) (sSeq (sIf (gT (gOp (isD true) (gVar 3) (gC .non))) (sSeq (sIf (gOrT (gT (gOp (isD false) (gVar 4) (gC .non))) (gOrT (gT (gOp (eqD true) (gOp ixD (gVar 3) (gC (.int 0))) (gOp ixD (gVar 4) (gC (.int 0))))) (gOrT (gT (gOp ltD (gOp ixD (gVar 3) (gC (.int 1))) (gOp ixD (gVar 4) (gC (.int 1))))) (gT (gDIn true (gTup (gCons (gVar 2) (gCons (gOp ixD (gVar 3) (gC (.int 2))) gNil))) (gDGet (gVar 1) (gC (.str "told")))))))) (sRet (gC (.bl false))) sNext) (sSeq (sSet 5 (gDGet (gDGet (gVar 1) (gC (.str "told"))) (gTup (gCons (gVar 2) (gCons (gOp ixD (gVar 3) (gC (.int 2))) gNil))))) (sSeq (sIf (gOrT (gT (gOp (eqD true) (gOp ixD (gVar 5) (gC (.int 0))) (gOp ixD (gVar 3) (gC (.int 0))))) (gOrT (gT (gOp (isD false) (gOp ixD (gVar 5) (gC (.int 1))) (gC .non))) (gT (gOp (eqD true) (gOp addD (gOp ixD (gVar 5) (gC (.int 1))) (gDGet (gDGet (gVar 1) (gC (.str "lengths"))) (gOp ixD (gVar 3) (gC (.int 2))))) (gOp ixD (gVar 3) (gC (.int 1))))))) (sRet (gC (.bl false))) sNext) (sIf (gNotT (gT (gCall d_better (gCons (gVar 5) (gCons (gVar 4) gNil))))) (sRet (gC (.bl false))) sNext)))) sNext) (sSeq (sForK (gDGet (gVar 1) (gC (.str "lengths"))) (bName 6) (sIf (gT (gDIn false (gTup (gCons (gVar 2) (gCons (gVar 6) gNil))) (gDGet (gVar 1) (gC (.str "told"))))) (sSeq (sAsg (bTup [7, 8]) (gDGet (gDGet (gVar 1) (gC (.str "told"))) (gTup (gCons (gVar 2) (gCons (gVar 6) gNil))))) (sIf (gT (gCall d_may_use (gCons (gVar 4) (gCons (gVar 7) (gCons (gVar 8) gNil))))) (sSeq (sSet 9 (gTup (gCons (gNeg (gVar 7)) (gCons (gOp addD (gVar 8) (gDGet (gDGet (gVar 1) (gC (.str "lengths"))) (gVar 6))) (gCons (gVar 6) gNil))))) (sIf (gOrT (gT (gOp (isD false) (gVar 3) (gC .non))) (gT (gOp ltTD (gVar 9) (gTup (gCons (gNeg (gOp ixD (gVar 3) (gC (.int 0)))) (gCons (gOp ixD (gVar 3) (gC (.int 1))) (gCons (gOp ixD (gVar 3) (gC (.int 2))) gNil))))))) (sRet (gC (.bl false))) sNext)) sNext)) sNext)) (sRet (gC (.bl true)))))))
noncomputable def d_law : FDen := runD 1 12 (sSeq (sSet 1 (gCall d_l_mixed (gCons (gVar 0) gNil))) (sSeq (sSet 2 (gCall d_l_houses (gCons (gVar 1) gNil))) (sSeq (sSet 3 (gComp [none, some 1] (gRng rng1 (gCons (gC (.int 3)) gNil)) (bName 0) gTrue (gOp modD (gCall d_l_mix (gCons (gCall d_l_cell_at (gCons (gVar 1) (gCons (gC (.int 1)) gNil))) (gCons (gVar 0) gNil))) (gC (.int 32))))) (sSeq (sSet 4 (gMake "Ways" d_Ways___init__ [] gNil)) (sSeq (sSet 5 (gCall d_l_begun gNil)) (sSeq (sFor (gRng rng2 (gCons (gC (.int 2)) (gCons (gOp addD (gC (.int 8)) (gOp modD (gCall d_l_cell_at (gCons (gVar 1) (gCons (gC (.int 1)) gNil))) (gC (.int 15)))) gNil))) (bName 6) (sSeq (sSet 7 gNewK) (sSeq (sDPut (gVar 5) (gC (.str "marks")) gNewK) (sSeq (sFor (gSeq (gVar 3)) (bName 8) (sSeq (sDPut (gVar 7) (gVar 8) (gMeth "Ways" "mark" d_Ways_mark [] (gVar 4) (gCons (gVar 8) gNil))) (sIf (gT (gOp (isD true) (gDGet (gVar 7) (gVar 8)) (gC .non))) (sDPut (gDGet (gVar 5) (gC (.str "marks"))) (gVar 8) (gDGet (gVar 7) (gVar 8))) sNext))) (sSeq (sSet 9 (gCall d_l_drawn (gCons (gVar 5) (gCons (gVar 2) (gCons (gVar 3) (gCons (gOp ixD (gVar 1) (gVar 6)) gNil)))))) (sSeq (sSet 10 (gCall d_l_tried (gCons (gVar 4) (gCons (gVar 9) gNil)))) (sSeq (sIf (gT (gOp (isD false) (gVar 10) (gC (.bl false)))) (sRet (gC (.bl false))) sNext) (sSeq (sIf (gT (gOp (isD false) (gVar 10) (gC .non))) (sExpr (gCall d_l_done (gCons (gVar 5) (gCons (gVar 9) gNil)))) sNext) (sFor (gSeq (gVar 3)) (bName 8) (sSeq (sSet 11 (gMeth "Ways" "mark" d_Ways_mark [] (gVar 4) (gCons (gVar 8) gNil))) (sSeq (sIf (gAndT (gT (gOp (isD true) (gDGet (gVar 7) (gVar 8)) (gC .non))) (gAndT (gT (gOp (eqD true) (gVar 11) (gDGet (gVar 7) (gVar 8)))) (gOrT (gT (gOp (isD false) (gVar 11) (gC .non))) (gNotT (gT (gCall d_better (gCons (gVar 11) (gCons (gDGet (gVar 7) (gVar 8)) gNil)))))))) (sRet (gC (.bl false))) sNext) (sIf (gNotT (gT (gCall d_l_best (gCons (gVar 4) (gCons (gVar 5) (gCons (gVar 8) gNil)))))) (sRet (gC (.bl false))) sNext)))))))))))) (sRet (gC (.bl true)))))))))
end Law

namespace Law
open PySem DL
/-! ### association lists -/
section
variable {κ κ' β : Type} [DecidableEq κ] [DecidableEq κ']
noncomputable def getA (xs : List (κ × β)) (k : κ) : Option β := (xs.find? fun r => decide (r.1 = k)).map (·.2)
noncomputable def putA (xs : List (κ × β)) (k : κ) (v : β) : List (κ × β) := if (xs.any fun r => decide (r.1 = k)) = true then xs.map (fun r => if r.1 = k then (r.1, v) else r) else xs ++ [(k, v)]
noncomputable def cutA (xs : List (κ × β)) (k : κ) : List (κ × β) := xs.filter fun r => decide (r.1 ≠ k)
noncomputable def mpA (e : κ → κ') (f : β → D) (xs : List (κ × β)) : List (κ' × D) := xs.map fun r => (e r.1, f r.2)
theorem getA_cons (r : κ × β) (xs : List (κ × β)) (k : κ) : getA (r :: xs) k = if r.1 = k then some r.2 else getA xs k := by
  unfold getA
  rw [List.find?_cons]
  by_cases h : r.1 = k
  · simp [h]
  · simp [h]
theorem val_mp {e : κ → κ'} (he : ∀ a b, e a = e b ↔ a = b) (f : β → D) (k : κ) : ∀ xs : List (κ × β), valD (mpA e f xs) (e k) = (getA xs k).map f
  | [] => rfl
  | r :: xs => by
    have ih := val_mp he f k xs
    rw [getA_cons]
    unfold valD mpA at ih ⊢
    rw [List.map_cons, List.find?_cons]
    by_cases h : r.1 = k
    · simp [h]
    · have h' : ¬ e r.1 = e k := fun z => h ((he _ _).mp z)
      simpa [h, h'] using ih
theorem any_mp {e : κ → κ'} (he : ∀ a b, e a = e b ↔ a = b) (f : β → D) (k : κ) : ∀ xs : List (κ × β), ((mpA e f xs).any fun kv => decide (kv.1 = e k)) = xs.any fun r => decide (r.1 = k)
  | [] => rfl
  | r :: xs => by
    have ih := any_mp he f k xs
    unfold mpA at ih ⊢
    rw [List.map_cons, List.any_cons, List.any_cons, ih]
    congr 1
    exact decide_eq_decide.mpr (he _ _)
theorem put_mp {e : κ → κ'} (he : ∀ a b, e a = e b ↔ a = b) (f : β → D) (xs : List (κ × β)) (k : κ) (v : β) : putD (mpA e f xs) (e k) (f v) = mpA e f (putA xs k v) := by
  unfold putD putA
  rw [any_mp he]
  split
  · unfold mpA
    rw [List.map_map, List.map_map]
    apply List.map_congr_left
    intro r _
    show (if e r.1 = e k then (e r.1, f v) else (e r.1, f r.2)) = _
    by_cases h : r.1 = k
    · rw [if_pos (by rw [h])]; simp [h]
    · rw [if_neg (fun z => h ((he _ _).mp z))]; simp [h]
  · simp [mpA]
theorem drop_mp {e : κ → κ'} (he : ∀ a b, e a = e b ↔ a = b) (f : β → D) (xs : List (κ × β)) (k : κ) : dropD (mpA e f xs) (e k) = mpA e f (cutA xs k) := by
  unfold dropD cutA mpA
  rw [List.filter_map]
  congr 1
  apply List.filter_congr
  intro r _
  exact decide_eq_decide.mpr (not_congr (he _ _))
@[simp] theorem mpA_length (e : κ → κ') (f : β → D) (xs : List (κ × β)) : (mpA e f xs).length = xs.length := by simp [mpA]
theorem getA_mem {xs : List (κ × β)} {k : κ} {v : β} (h : getA xs k = some v) : (k, v) ∈ xs := by
  induction xs with
  | nil => cases h
  | cons r xs ih =>
    rw [getA_cons] at h
    split at h
    · rename_i e
      cases h
      rw [← e]; exact List.mem_cons_self
    · exact List.mem_cons_of_mem _ (ih h)
theorem getA_none {xs : List (κ × β)} {k : κ} : getA xs k = none ↔ k ∉ xs.map (·.1) := by
  induction xs with
  | nil => simp [getA]
  | cons r xs ih =>
    rw [getA_cons, List.map_cons, List.mem_cons, not_or, ← ih]
    by_cases h : r.1 = k
    · rw [if_pos h]; simp [h]
    · rw [if_neg h]
      exact ⟨fun z => ⟨fun y => h y.symm, z⟩, fun z => z.2⟩
theorem getA_of {xs : List (κ × β)} {k : κ} {v : β} (hn : (xs.map (·.1)).Nodup) (h : (k, v) ∈ xs) : getA xs k = some v := by
  induction xs with
  | nil => cases h
  | cons r xs ih =>
    rw [List.map_cons, List.nodup_cons] at hn
    rw [getA_cons]
    rcases List.mem_cons.mp h with rfl | h
    · rw [if_pos rfl]
    · rw [if_neg (fun z => hn.1 (by rw [z]; exact List.mem_map.mpr ⟨_, h, rfl⟩)), ih hn.2 h]
theorem any_key {xs : List (κ × β)} {k : κ} : (xs.any fun r => decide (r.1 = k)) = true ↔ k ∈ xs.map (·.1) := by
  rw [List.any_eq_true]
  constructor
  · rintro ⟨r, h1, h2⟩
    exact List.mem_map.mpr ⟨r, h1, by simpa using h2⟩
  · intro h
    obtain ⟨r, h1, h2⟩ := List.mem_map.mp h
    exact ⟨r, h1, by simpa using h2⟩
theorem getA_map_put (xs : List (κ × β)) (k k' : κ) (v : β) : getA (xs.map fun r => if r.1 = k then (r.1, v) else r) k' = if k' = k then (getA xs k).map fun _ => v else getA xs k' := by
  induction xs with
  | nil => simp [getA]
  | cons r xs ih =>
    rw [List.map_cons, getA_cons, ih, getA_cons, getA_cons]
    by_cases h : r.1 = k
    · by_cases h2 : k' = k
      · subst h2; simp [h]
      · have h3 : ¬ r.1 = k' := fun z => h2 (by rw [← z, h])
        have h4 : ¬ k = k' := fun z => h2 z.symm
        simp [h, h2, h4]
    · by_cases h2 : k' = k
      · subst h2; simp [h]
      · simp [h, h2]
theorem getA_app (xs ys : List (κ × β)) (k : κ) : getA (xs ++ ys) k = match getA xs k with | some v => some v | none => getA ys k := by
  induction xs with
  | nil => rfl
  | cons r xs ih =>
    rw [List.cons_append, getA_cons, getA_cons, ih]
    by_cases h : r.1 = k
    · simp [h]
    · simp [h]
theorem getA_put (xs : List (κ × β)) (k k' : κ) (v : β) : getA (putA xs k v) k' = if k' = k then some v else getA xs k' := by
  unfold putA
  split
  · rename_i h
    rw [getA_map_put]
    by_cases h2 : k' = k
    · rw [if_pos h2, if_pos h2]
      have := any_key.mp h
      cases q : getA xs k with
      | none => exact absurd this (getA_none.mp q)
      | some w => rfl
    · rw [if_neg h2, if_neg h2]
  · rename_i h
    have hn : k ∉ xs.map (·.1) := fun z => h (any_key.mpr z)
    rw [getA_app, getA_cons]
    by_cases h2 : k' = k
    · subst h2
      rw [getA_none.mpr hn]; simp
    · have h3 : ¬ k = k' := fun z => h2 z.symm
      rw [if_neg h2]
      show (match getA xs k' with | some v => some v | none => if k = k' then some v else getA [] k') = _
      rw [if_neg h3]
      cases getA xs k' <;> rfl
theorem getA_cut (xs : List (κ × β)) (k k' : κ) : getA (cutA xs k) k' = if k' = k then none else getA xs k' := by
  induction xs with
  | nil => simp [cutA, getA]
  | cons r xs ih =>
    unfold cutA at ih ⊢
    rw [List.filter_cons, getA_cons]
    by_cases h : r.1 = k
    · simp only [h, ne_eq, not_true, decide_false, Bool.false_eq_true, if_false, ih]
      by_cases h2 : k' = k
      · simp [h2]
      · have h3 : ¬ k = k' := fun z => h2 z.symm
        simp [h2, h3]
    · simp only [h, ne_eq, not_false_eq_true, decide_true, if_true, getA_cons, ih]
      by_cases h2 : k' = k
      · subst h2; simp [h]
      · simp [h2]
theorem keys_putA (xs : List (κ × β)) (k : κ) (v : β) : (putA xs k v).map (·.1) = if k ∈ xs.map (·.1) then xs.map (·.1) else xs.map (·.1) ++ [k] := by
  unfold putA
  by_cases h : k ∈ xs.map (·.1)
  · rw [if_pos (any_key.mpr h), if_pos h, List.map_map]
    apply List.map_congr_left
    intro r _
    show (if r.1 = k then (r.1, v) else r).1 = r.1
    split <;> rfl
  · rw [if_neg (fun z => h (any_key.mp z)), if_neg h]; simp
theorem nodup_putA {xs : List (κ × β)} (h : (xs.map (·.1)).Nodup) (k : κ) (v : β) : ((putA xs k v).map (·.1)).Nodup := by
  rw [keys_putA]
  split
  · exact h
  · rename_i hn
    rw [List.nodup_append]
    refine ⟨h, by simp, fun a ha b hb z => hn ?_⟩
    rw [List.mem_singleton] at hb
    rw [← hb, ← z]; exact ha
theorem keys_cutA (xs : List (κ × β)) (k : κ) : (cutA xs k).map (·.1) = (xs.map (·.1)).filter fun x => decide (x ≠ k) := by
  unfold cutA
  rw [List.filter_map]; rfl
theorem nodup_cutA {xs : List (κ × β)} (h : (xs.map (·.1)).Nodup) (k : κ) : ((cutA xs k).map (·.1)).Nodup := by
  rw [keys_cutA]; exact h.filter _
theorem len_putA (xs : List (κ × β)) (k : κ) (v : β) : (putA xs k v).length ≤ xs.length + 1 := by
  unfold putA
  split <;> simp
theorem len_cutA (xs : List (κ × β)) (k : κ) : (cutA xs k).length ≤ xs.length := List.length_filter_le _ _
theorem putA_new {xs : List (κ × β)} {k : κ} (h : k ∉ xs.map (·.1)) (v : β) : putA xs k v = xs ++ [(k, v)] := if_neg fun z => h (any_key.mp z)
end
end Law
namespace Law
open PySem DL
/-! ### k15: the draws, mixed -/
@[simp] theorem atI_0 {β : Type} (a : β) (l : List β) : L2.atI (a :: l) 0 = some a := by
  have := atI_nat' (a :: l) 0 (by simp)
  simpa using this
@[simp] theorem atI_1 {β : Type} (a b : β) (l : List β) : L2.atI (a :: b :: l) 1 = some b := by
  have := atI_nat' (a :: b :: l) 1 (by simp)
  simpa using this
noncomputable def Cel (x : Int) : Prop := 0 ≤ x ∧ x < 1000000000000000003
@[simp] theorem ap_llen (gl : ADen) (ρ : List Sl) (Ω : List OS) : gLLen gl ρ Ω = match gl ρ Ω with | some (ds, Ω1) => some (.int ds.length, Ω1) | none => none := (rfl)
@[simp] theorem ap_O (i : Nat) (ρ : List Sl) (Ω : List OS) : gO i ρ Ω = match ρ[i]? with | some (.own ds) => some (ds, Ω) | _ => none := (rfl)
theorem mulK (a : Int) : mulD (.int a) (.int 6364136223846793005) = some (.int (a * 6364136223846793005)) := grd_pos (.inr ⟨by decide, by decide⟩)
theorem mixA (X0 : Sl) (Ω : List OS) : ∀ (ns : List Int) (fs : List Int) (m : Int) (x : Sl), fs.length + ns.length ≤ 63 → (∀ x ∈ fs, Cel x) → ∃ (gs : List Int) (m' : Int) (y : Sl), gs.length = fs.length + ns.length ∧ (∀ x ∈ gs, Cel x) ∧
    forD (bName 3) (sSeq (sSet 2 (gOp modD (gOp addD (gOp addD (gOp mulD (gVar 2) (gC (.int 6364136223846793005))) (gVar 3)) (gC (.int 1442695040888963407))) (gC (.int 1000000000000000003)))) (sApp 1 (gVar 2))) (ns.map D.int) [X0, .own (fs.map D.int), .dat (.int m), x] Ω
      = some (.nx [X0, .own (gs.map D.int), .dat (.int m'), y] Ω)
  | [], fs, m, x, _, h => ⟨fs, m, x, by simp, h, rfl⟩
  | n :: ns, fs, m, x, hl, h => by
    rw [List.length_cons] at hl
    have b0 : 0 ≤ (m * 6364136223846793005 + n + 1442695040888963407) % 1000000000000000003 := Int.emod_nonneg _ (by decide)
    have b1 : (m * 6364136223846793005 + n + 1442695040888963407) % 1000000000000000003 < 1000000000000000003 := Int.emod_lt_of_pos _ (by decide)
    obtain ⟨gs, m', y, h1, h2, h3⟩ := mixA X0 Ω ns (fs ++ [(m * 6364136223846793005 + n + 1442695040888963407) % 1000000000000000003]) ((m * 6364136223846793005 + n + 1442695040888963407) % 1000000000000000003) (.dat (.int n)) (by simp; omega) (by
      intro x hx
      rcases List.mem_append.mp hx with z | z
      · exact h x z
      · rw [List.mem_singleton.mp z]; exact ⟨b0, b1⟩)
    refine ⟨gs, m', y, by simp at h1 ⊢; omega, h2, ?_⟩
    have hb : fs.length < 100000 := by omega
    rw [← h3, List.map_cons, for_cons]
    simp [mulK, hb]
theorem mixB (X0 : Sl) (Ω : List OS) : ∀ (k : Nat) (fs : List Int) (m : Int) (x : Sl) (n : Nat), fs.length + k = 48 ∨ (48 ≤ fs.length ∧ k = 0) → fs.length ≤ 63 → k < n → (∀ x ∈ fs, Cel x) → ∃ (gs : List Int) (m' : Int), 48 ≤ gs.length ∧ gs.length ≤ 63 ∧ (∀ x ∈ gs, Cel x) ∧
    whileD (gT (gOp ltD (gLLen (gO 1)) (gC (.int 48)))) (sSeq (sSet 2 (gOp modD (gOp addD (gOp mulD (gVar 2) (gC (.int 6364136223846793005))) (gC (.int 1442695040888963407))) (gC (.int 1000000000000000003)))) (sApp 1 (gVar 2))) n [X0, .own (fs.map D.int), .dat (.int m), x] Ω
      = some (.nx [X0, .own (gs.map D.int), .dat (.int m'), x] Ω)
  | 0, fs, m, x, n, hk, hl, hn, h => by
    obtain ⟨n, rfl⟩ : ∃ j, n = j + 1 := ⟨n - 1, by omega⟩
    have h48 : ¬ ((fs.length : Int) < 48) := by omega
    refine ⟨fs, m, by omega, hl, h, ?_⟩
    rw [while_def]
    simp [h48]
  | k + 1, fs, m, x, n, hk, hl, hn, h => by
    obtain ⟨n, rfl⟩ : ∃ j, n = j + 1 := ⟨n - 1, by omega⟩
    have b0 : 0 ≤ (m * 6364136223846793005 + 1442695040888963407) % 1000000000000000003 := Int.emod_nonneg _ (by decide)
    have b1 : (m * 6364136223846793005 + 1442695040888963407) % 1000000000000000003 < 1000000000000000003 := Int.emod_lt_of_pos _ (by decide)
    obtain ⟨gs, m', h1, h2, h3, h4⟩ := mixB X0 Ω k (fs ++ [(m * 6364136223846793005 + 1442695040888963407) % 1000000000000000003]) ((m * 6364136223846793005 + 1442695040888963407) % 1000000000000000003) x n (by simp; omega) (by simp; omega) (by omega) (by
      intro x hx
      rcases List.mem_append.mp hx with z | z
      · exact h x z
      · rw [List.mem_singleton.mp z]; exact ⟨b0, b1⟩)
    refine ⟨gs, m', h1, h2, h3, ?_⟩
    have h48 : ((fs.length : Int) < 48) := by omega
    have hb : fs.length < 100000 := by omega
    rw [← h4, while_def]
    simp [h48, hb, mulK]
theorem mixed_den {ns : List Int} (hn : ns.length ≤ 63) (Ω : List OS) : ∃ xs : List Int, 48 ≤ xs.length ∧ xs.length ≤ 63 ∧ (∀ x ∈ xs, Cel x) ∧ d_l_mixed [.scr ns] Ω = some (.lst (xs.map D.int), Ω) := by
  obtain ⟨gs, m, y, h1, h2, h3⟩ := mixA (.dat (.scr ns)) Ω ns [] 1 .und (by simpa using hn) (fun x hx => absurd hx List.not_mem_nil)
  rw [List.length_nil, Nat.zero_add] at h1
  obtain ⟨xs, m', g1, g2, g3, g4⟩ := mixB (.dat (.scr ns)) Ω (48 - gs.length) gs m y 1000 (by omega) (by omega) (by omega) h2
  refine ⟨xs, g1, g2, g3, run_rt rfl ?_⟩
  refine (seq_nx (ρ' := [.dat (.scr ns), .own [], .und, .und]) (Ω' := Ω) (by simp)).trans ?_
  refine (seq_nx (ρ' := [.dat (.scr ns), .own [], .dat (.int 1), .und]) (Ω' := Ω) (by simp)).trans ?_
  refine (seq_nx (ρ' := [.dat (.scr ns), .own (gs.map D.int), .dat (.int m), y]) (Ω' := Ω) ?_).trans ?_
  · simp only [ap_for, ap_seq, ap_var, List.getElem?_cons_zero, seq_scr]
    exact h3
  refine (seq_nx g4).trans ?_
  simp [frz]
theorem cell_den {xs : List Int} {k : Nat} (hk : k < xs.length) (Ω : List OS) : d_l_cell_at [.lst (xs.map D.int), .int k] Ω = some (.int xs[k], Ω) := by
  have h1 : (k : Int) < (xs.length : Int) := by omega
  have h2 : L2.atI (xs.map D.int) (k : Int) = some (.int xs[k]) := by rw [atI_map, atI_nat' _ _ hk]; rfl
  refine run_rt rfl (seq_rt ?_)
  simp [h1, h2]
end Law
namespace Law
open PySem DL
/-! ### ways out, as equations -/
section
variable {ρ : List Sl} {Ω : List OS}
@[simp] theorem ap_isx (t : Str → Option Bool) (g : Den) : gIsX t g ρ Ω = match g ρ Ω with
  | some (.obj n, Ω1) => (match Ω1[n]? with
    | some (.exc c) => (match t c with | some b => some (.bl b, Ω1) | none => none)
    | _ => none)
  | _ => none := by unfold gIsX; rfl
@[simp] theorem ap_rE (rx : RDen) : rE rx ρ Ω = match rx ρ Ω with | some (c, Ω') => some (c, ρ, Ω') | none => none := (rfl)
@[simp] theorem ap_rMeth (c m : Str) (R : XFDen) (dfl : List D) (go : Den) (ga : ADen) : rMeth c m R dfl go ga ρ Ω = match go ρ Ω with
  | some (.obj n, Ω1) => (match Ω1[n]? with
    | some (.ins c' fs) => (if c' = c then (match fs.lookup m with
      | none => (match ga ρ Ω1 with | some (ds, Ω2) => R (.obj n :: (ds ++ dfl)) Ω2 | none => none)
      | some _ => none) else none)
    | _ => none)
  | _ => none := (rfl)
@[simp] theorem ap_rRaiseV (c : Str) (p : VDen) : rRaiseV c p ρ Ω = match p ρ Ω with | some Ω' => some (c, ρ, Ω') | none => none := (rfl)
@[simp] theorem ap_rIf (p : TDen) (s t : SRDen) : rIf p s t ρ Ω = match p ρ Ω with | some (true, Ω') => s ρ Ω' | some (false, Ω') => t ρ Ω' | none => none := (rfl)
@[simp] theorem ap_never : sNever ρ Ω = none := (rfl)
theorem ap_runR (n m : Nat) (r : SRDen) (ds : List D) : runR n m r ds Ω = if ds.length = n then (match r (ds.map Sl.dat ++ List.replicate (m - n) Sl.und) Ω with
    | some (c, _, Ω') => some (c, Ω')
    | none => none) else none := (rfl)
end
theorem run_no {n m : Nat} {s : SDen} {ds : List D} {Ω : List OS} (hl : ds.length = n) (h : s (ds.map Sl.dat ++ List.replicate (m - n) Sl.und) Ω = none) : runD n m s ds Ω = none := by
  rw [ap_run, if_pos hl, h]
theorem runR_ex {n m : Nat} {r : SRDen} {ds : List D} {c : Str} {ρ : List Sl} {Ω Ω' : List OS} (hl : ds.length = n) (h : r (ds.map Sl.dat ++ List.replicate (m - n) Sl.und) Ω = some (c, ρ, Ω')) : runR n m r ds Ω = some (c, Ω') := by
  rw [ap_runR, if_pos hl, h]
theorem small_i {i : Int} (h0 : -70000 < i) (h1 : i < 70000) : smallI i := by
  have hl : i.natAbs.log2 < 17 := by
    by_cases z : i.natAbs = 0
    · rw [z]; decide
    · exact (Nat.log2_lt z).mpr (by omega)
  refine ⟨by omega, ?_⟩
  have := int_text_length_le (a := i) (k := 17) (by decide) hl
  rw [ofString_length]
  omega
end Law
namespace Law
open PySem DL
@[simp] theorem atI_2 {β : Type} (a b c : β) (l : List β) : L2.atI (a :: b :: c :: l) 2 = some c := by
  have := atI_nat' (a :: b :: c :: l) 2 (by simp)
  simpa using this
@[simp] theorem atI_3 {β : Type} (a b c d : β) (l : List β) : L2.atI (a :: b :: c :: d :: l) 3 = some d := by
  have := atI_nat' (a :: b :: c :: d :: l) 3 (by simp)
  simpa using this
@[simp] theorem atI_4 {β : Type} (a b c d e : β) (l : List β) : L2.atI (a :: b :: c :: d :: e :: l) 4 = some e := by
  have := atI_nat' (a :: b :: c :: d :: e :: l) 4 (by simp)
  simpa using this
@[simp] theorem look_dKi (kvs : List (L2.Key × D)) (i : Int) : lookO (.dK kvs) (.int i) = some (valD kvs (.inl i)) := (rfl)
@[simp] theorem look_fzi (kvs : List (L2.Key × D)) (i : Int) : lookO (.fzK kvs) (.int i) = some (valD kvs (.inl i)) := (rfl)
@[simp] theorem look_dKs (kvs : List (L2.Key × D)) (z : Str) : lookO (.dK kvs) (.str z) = some (valD kvs (.inr z)) := (rfl)
@[simp] theorem put_dKi (kvs : List (L2.Key × D)) (i : Int) (v : D) : putO (.dK kvs) (.int i) v = if kvs.length < 100000 then some (.dK (putD kvs (.inl i) v)) else none := (rfl)
@[simp] theorem put_dKs (kvs : List (L2.Key × D)) (z : Str) (v : D) : putO (.dK kvs) (.str z) v = if kvs.length < 100000 then some (.dK (putD kvs (.inr z) v)) else none := (rfl)
@[simp] theorem drop_dKi (kvs : List (L2.Key × D)) (i : Int) : dropO (.dK kvs) (.int i) = match valD kvs (.inl i) with | some v => some (v, .dK (dropD kvs (.inl i))) | none => none := (rfl)
@[simp] theorem isDct_dK (kvs : List (L2.Key × D)) : isDct (.dK kvs) = true := (rfl)
/-! ### k17: ways -/
noncomputable abbrev Tl := Int × Option Int
noncomputable def faD : Option Int → D
  | none => .non
  | some f => .int f
noncomputable def tlD (t : Tl) : D := .tup [.int t.1, faD t.2]
noncomputable def mkD (m : Int × Int) : D := .tup [.int m.1, .int m.2]
noncomputable def mOD (m : Option (Int × Int)) : D := (m.map mkD).getD .non
noncomputable def w3 (u : Int × Int × Int) : D := .tup [.int u.1, .int u.2.1, .int u.2.2]
noncomputable def iK : Int → L2.Key := Sum.inl
noncomputable def pK (p : Int × Int) : List L2.Key := [.inl p.1, .inl p.2]
theorem iK_inj (a b : Int) : iK a = iK b ↔ a = b := by simp [iK]
theorem pK_inj (a b : Int × Int) : pK a = pK b ↔ a = b := by
  obtain ⟨a1, a2⟩ := a
  obtain ⟨b1, b2⟩ := b
  simp [pK]
noncomputable def flds : List (Str × D) := [("length_by", .obj 1), ("tellings_by", .obj 2), ("mark_of", .obj 3)]
theorem n21 : (("tellings_by" : Str) == "length_by") = false := by decide +kernel
theorem n31 : (("mark_of" : Str) == "length_by") = false := by decide +kernel
theorem n32 : (("mark_of" : Str) == "tellings_by") = false := by decide +kernel
theorem lk1 : List.lookup ("length_by" : Str) flds = some (.obj 1) := by simp [flds, List.lookup_cons]
theorem lk2 : List.lookup ("tellings_by" : Str) flds = some (.obj 2) := by simp [flds, List.lookup_cons, n21]
theorem lk3 : List.lookup ("mark_of" : Str) flds = some (.obj 3) := by simp [flds, List.lookup_cons, n31, n32]
theorem lkn {f : Str} (h1 : (f == ("length_by" : Str)) = false) (h2 : (f == ("tellings_by" : Str)) = false) (h3 : (f == ("mark_of" : Str)) = false) : List.lookup f flds = none := by simp [flds, List.lookup_cons, h1, h2, h3]
theorem k_mark : List.lookup ("mark" : Str) flds = none := lkn (by decide +kernel) (by decide +kernel) (by decide +kernel)
theorem k_way : List.lookup ("way" : Str) flds = none := lkn (by decide +kernel) (by decide +kernel) (by decide +kernel)
theorem k_tie : List.lookup ("tie" : Str) flds = none := lkn (by decide +kernel) (by decide +kernel) (by decide +kernel)
theorem k_untie : List.lookup ("untie" : Str) flds = none := lkn (by decide +kernel) (by decide +kernel) (by decide +kernel)
theorem k_hear : List.lookup ("hear" : Str) flds = none := lkn (by decide +kernel) (by decide +kernel) (by decide +kernel)
theorem k_need : List.lookup ("need_tie" : Str) flds = none := lkn (by decide +kernel) (by decide +kernel) (by decide +kernel)
structure Wy (Ω : List OS) (L : List (Int × Int)) (T : List (Int × Nat)) (X : Int → List (Int × Tl)) (M : List (Int × (Int × Int))) (b : Nat) : Prop where
  o0 : Ω[0]? = some (.ins "Ways" flds)
  o1 : Ω[1]? = some (.dK (mpA iK D.int L))
  o2 : Ω[2]? = some (.dK (mpA iK D.obj T))
  o3 : Ω[3]? = some (.dK (mpA iK mkD M))
  ot : ∀ n i, (n, i) ∈ T → 8 ≤ i ∧ Ω[i]? = some (.dK (mpA iK tlD (X n)))
  ti : (T.map (·.2)).Nodup
  kt : T.map (·.1) = L.map (·.1)
  kn : (L.map (·.1)).Nodup
  bL : L.length ≤ b
  bM : M.length ≤ b
  bX : ∀ n, (X n).length ≤ b
  bg : 8 ≤ Ω.length
theorem vL (L : List (Int × Int)) (n : Int) : valD (mpA iK D.int L) (.inl n) = (getA L n).map D.int := val_mp iK_inj D.int n L
theorem vT (T : List (Int × Nat)) (n : Int) : valD (mpA iK D.obj T) (.inl n) = (getA T n).map D.obj := val_mp iK_inj D.obj n T
theorem vM (M : List (Int × (Int × Int))) (n : Int) : valD (mpA iK mkD M) (.inl n) = (getA M n).map mkD := val_mp iK_inj mkD n M
theorem vX (X : List (Int × Tl)) (n : Int) : valD (mpA iK tlD X) (.inl n) = (getA X n).map tlD := val_mp iK_inj tlD n X
theorem mark_den {Ω : List OS} {L T X M b} (h : Wy Ω L T X M b) (g : Int) : d_Ways_mark [.obj 0, .int g] Ω = some (mOD (getA M g), Ω) := by
  refine run_rt rfl ?_
  simp [h.o0, lk3, h.o3, vM, mOD]
noncomputable def bt (a b p q : Int) : Bool := decide (a > p) || (decide (a = p) && decide (b < q))
theorem better_den (a b p q : Int) (Ω : List OS) : d_better [.tup [.int a, .int b], .tup [.int p, .int q]] Ω = some (.bl (bt a b p q), Ω) := by
  by_cases h : a = p
  · subst h
    refine run_rt rfl ((seq_nx (ρ' := [.dat (.tup [.int a, .int b]), .dat (.tup [.int a, .int q])]) (Ω' := Ω) (by simp)).trans ?_)
    simp [bt]
  · refine run_rt rfl (seq_rt ?_)
    simp [bt, h]
noncomputable def mayB (m : Option (Int × Int)) (num : Int) : Option Int → Bool
  | none => false
  | some f => match m with
    | none => true
    | some p => bt num f p.1 p.2
theorem may_den (m : Option (Int × Int)) (num : Int) (f : Option Int) (Ω : List OS) : d_may_use [mOD m, .int num, faD f] Ω = some (.bl (mayB m num f), Ω) := by
  cases f with
  | none =>
    refine run_rt rfl (seq_rt ?_)
    simp [faD, isD, isNone, mayB]
  | some f =>
    refine run_rt rfl ((seq_nx (ρ' := [.dat (mOD m), .dat (.int num), .dat (.int f)]) (Ω' := Ω) (by simp [faD, isD, isNone])).trans ?_)
    cases m with
    | none => simp [mOD, isD, isNone, mayB]
    | some p => simp [mOD, mkD, isD, isNone, mayB, better_den]
noncomputable def us (L : List (Int × Int)) (X : Int → List (Int × Tl)) (m : Option (Int × Int)) (g n : Int) : List (Int × Int × Int) := match getA (X n) g with
  | some (num, some f) => if mayB m num (some f) = true then [(num, f + (getA L n).getD 0, n)] else []
  | _ => []
noncomputable def wayB : SDen := (sSeq (sSet 5 (gDGet1 (gDGet (gFld "Ways" "tellings_by" (gVar 0)) (gVar 4)) (gVar 1))) (sIf (gAndT (gT (gOp (isD true) (gVar 5) (gC .non))) (gT (gCall d_may_use (gCons (gVar 2) (gCons (gOp ixD (gVar 5) (gC (.int 0))) (gCons (gOp ixD (gVar 5) (gC (.int 1))) gNil)))))) (sApp 3 (gTup (gCons (gOp ixD (gVar 5) (gC (.int 0))) (gCons (gOp addD (gOp ixD (gVar 5) (gC (.int 1))) (gDGet (gFld "Ways" "length_by" (gVar 0)) (gVar 4))) (gCons (gVar 4) gNil))))) sNext))
theorem forK_nx {g : Den} {β : BDen} {s : SDen} {ρ ρ' : List Sl} {Ω : List OS} {n : Nat} {kvs : List (L2.Key × D)} (hg : g ρ Ω = some (.obj n, Ω)) (hn : Ω[n]? = some (.dK kvs)) (hl : forD β s (kvs.map fun x => ofK x.1) ρ (Ω.set n (.fzK kvs)) = some (.nx ρ' (Ω.set n (.fzK kvs)))) :
    sForK g β s ρ Ω = some (.nx ρ' Ω) := by
  have hlt : n < Ω.length := (List.getElem?_eq_some_iff.mp hn).1
  have e1 : (Ω.set n (.fzK kvs))[n]? = some (.fzK kvs) := List.getElem?_set_self hlt
  have e2 : (Ω.set n (.fzK kvs)).set n (.dK kvs) = Ω := by
    rw [List.set_set]
    apply List.ext_getElem?
    intro i
    by_cases hi : n = i
    · subst hi; rw [List.getElem?_set_self hlt, hn]
    · rw [List.getElem?_set_ne hi]
  unfold sForK
  rw [hg]
  dsimp only
  rw [hn]
  dsimp only
  rw [hl]
  unfold outK
  dsimp only
  unfold thawO
  rw [e1]
  dsimp only
  rw [if_pos rfl, e2]
theorem way_loop {Ω : List OS} {L : List (Int × Int)} {T : List (Int × Nat)} {X : Int → List (Int × Tl)} (o0 : Ω[0]? = some (.ins "Ways" flds)) (o1 : Ω[1]? = some (.dK (mpA iK D.int L))) (o2 : Ω[2]? = some (.fzK (mpA iK D.obj T)))
    (ot : ∀ n i, (n, i) ∈ T → Ω[i]? = some (.dK (mpA iK tlD (X n)))) (gt : ∀ n i, (n, i) ∈ T → getA T n = some i) (gl : ∀ n i, (n, i) ∈ T → ∃ l, getA L n = some l) (g : Int) (m : Option (Int × Int)) :
    ∀ (rest : List (Int × Nat)) (acc : List (Int × Int × Int)) (x y : Sl), (∀ p ∈ rest, p ∈ T) → acc.length + rest.length ≤ 1000 → ∃ x' y', forD (bName 4) wayB (rest.map fun p => D.int p.1) [.dat (.obj 0), .dat (.int g), .dat (mOD m), .own (acc.map w3), x, y] Ω
      = some (.nx [.dat (.obj 0), .dat (.int g), .dat (mOD m), .own ((acc ++ rest.flatMap fun p => us L X m g p.1).map w3), x', y'] Ω)
  | [], acc, x, y, _, _ => ⟨x, y, by simp⟩
  | (n, i) :: rest, acc, x, y, hT, hl => by
    have hp := hT (n, i) List.mem_cons_self
    obtain ⟨l, hL⟩ := gl n i hp
    have e1 := ot n i hp
    have e2 := gt n i hp
    rw [List.length_cons] at hl
    have st : forD (bName 4) wayB (((n, i) :: rest).map fun p => D.int p.1) [.dat (.obj 0), .dat (.int g), .dat (mOD m), .own (acc.map w3), x, y] Ω
        = forD (bName 4) wayB (rest.map fun p => D.int p.1) [.dat (.obj 0), .dat (.int g), .dat (mOD m), .own ((acc ++ us L X m g n).map w3), .dat (.int n), .dat (((getA (X n) g).map tlD).getD .non)] Ω := by
      rw [List.map_cons, for_cons]
      unfold us
      cases q : getA (X n) g with
      | none => simp [wayB, o0, lk2, o2, vT, e2, e1, vX, q, isD, isNone]
      | some t =>
        obtain ⟨num, f⟩ := t
        have hm := may_den m num f Ω
        cases f with
        | none =>
          have hb : mayB m num none = false := rfl
          rw [hb] at hm
          simp [wayB, o0, lk2, o2, vT, e2, e1, vX, q, isD, isNone, tlD, hm]
        | some f =>
          have ef : faD (some f) = .int f := rfl
          rw [ef] at hm
          cases hb : mayB m num (some f) with
          | false =>
            rw [hb] at hm
            simp [wayB, o0, lk2, o2, vT, e2, e1, vX, q, isD, isNone, tlD, hm, ef, hb]
          | true =>
            rw [hb] at hm
            have hl' : acc.length < 100000 := by omega
            simp [wayB, o0, lk1, lk2, o1, o2, vT, vL, e2, e1, vX, q, isD, isNone, tlD, hm, ef, hb, hL, hl', w3]
    have hu : (us L X m g n).length ≤ 1 := by
      unfold us
      split
      · split <;> simp
      · simp
    obtain ⟨x', y', ih⟩ := way_loop o0 o1 o2 ot gt gl g m rest (acc ++ us L X m g n) (.dat (.int n)) (.dat (((getA (X n) g).map tlD).getD .non)) (fun p hp => hT p (List.mem_cons_of_mem _ hp)) (by rw [List.length_append]; omega)
    refine ⟨x', y', st.trans (ih.trans ?_)⟩
    rw [List.flatMap_cons, List.append_assoc]
end Law
namespace Law
open PySem DL
/-! ### k17: the least of the usable ones -/
theorem mIx_best (nss : List (List Int)) : ∀ k j : Nat, j ≤ k → HT.lexLt (nss.getD j []) (nss.getD (L2.mIx nss k) []) = false
  | 0, j, h => by
    obtain rfl : j = 0 := by omega
    exact L2.lexLt_irrefl _
  | k + 1, j, h => by
    show HT.lexLt (nss.getD j []) (nss.getD (if HT.lexLt (nss.getD (k + 1) []) (nss.getD (L2.mIx nss k) []) then k + 1 else L2.mIx nss k) []) = false
    cases q : HT.lexLt (nss.getD (k + 1) []) (nss.getD (L2.mIx nss k) []) with
    | true =>
      simp only [if_true]
      by_cases e : j = k + 1
      · rw [e]; exact L2.lexLt_irrefl _
      · cases z : HT.lexLt (nss.getD j []) (nss.getD (k + 1) []) with
        | false => rfl
        | true =>
          have := L2.lexLt_trans _ _ _ z q
          rw [mIx_best nss k j (by omega)] at this
          cases this
    | false =>
      simp only [Bool.false_eq_true, if_false]
      by_cases e : j = k + 1
      · rw [e]; exact q
      · exact mIx_best nss k j (by omega)
noncomputable def key3 (u : Int × Int × Int) : List Int := [-u.1, u.2.1, u.2.2]
noncomputable def Best (vs : List (Int × Int × Int)) (u : Int × Int × Int) : Prop := u ∈ vs ∧ ∀ v ∈ vs, HT.lexLt (key3 v) (key3 u) = false
noncomputable def WayIs (vs : List (Int × Int × Int)) (d : D) : Prop := (vs = [] ∧ d = .non) ∨ ∃ u, Best vs u ∧ d = w3 u
theorem min_best {vs : List (Int × Int × Int)} : WayIs vs (minD (vs.map key3) (vs.map w3)) := by
  cases hv : vs with
  | nil => exact .inl ⟨rfl, rfl⟩
  | cons v0 vr =>
    rw [← hv]
    have hpos : 0 < vs.length := by rw [hv]; simp
    have hm := L2.mIx_le (vs.map key3) (vs.length - 1)
    have hlt : L2.mIx (vs.map key3) (vs.length - 1) < vs.length := by omega
    refine .inr ⟨vs[L2.mIx (vs.map key3) (vs.length - 1)], ⟨List.getElem_mem _, fun v hv' => ?_⟩, ?_⟩
    · obtain ⟨j, hj, e⟩ := List.getElem_of_mem hv'
      have := mIx_best (vs.map key3) (vs.length - 1) j (by omega)
      rw [L2.getD_get (by simpa using hj), L2.getD_get (by simpa using hlt), List.getElem_map, List.getElem_map, e] at this
      exact this
    · unfold minD
      rw [List.length_map, L2.getD_get (by simpa using hlt), List.getElem_map]
theorem place_den (u : Int × Int × Int) (Ω : List OS) : d_place_of_way [w3 u] Ω = some (.tup ((key3 u).map D.int), Ω) := by
  refine run_rt rfl ?_
  simp [w3, key3]
theorem keys_place (Ω : List OS) : ∀ vs : List (Int × Int × Int), keysF d_place_of_way (vs.map w3) Ω = some (vs.map key3, Ω)
  | [] => rfl
  | v :: vs => by
    rw [List.map_cons, List.map_cons]
    unfold keysF
    rw [place_den]
    dsimp only
    rw [show keyI (.tup ((key3 v).map D.int)) = some (key3 v) from rfl]
    dsimp only
    rw [keys_place Ω vs]
@[simp] theorem ap_minK (F : FDen) (g : Den) (ρ : List Sl) (Ω : List OS) : gMinK F g ρ Ω = match g ρ Ω with
  | some (.lst ds, Ω1) => (match keysF F ds Ω1 with
    | some (nss, Ω2) => some (minD nss ds, Ω2)
    | none => none)
  | _ => none := (rfl)
@[simp] theorem ap_min (g : Den) (ρ : List Sl) (Ω : List OS) : gMin g ρ Ω = match g ρ Ω with
  | some (.lst (d :: ds), Ω1) => (match keysT (d :: ds) with
    | some nss => some (minD nss (d :: ds), Ω1)
    | none => none)
  | _ => none := (rfl)
noncomputable def Us (L : List (Int × Int)) (X : Int → List (Int × Tl)) (m : Option (Int × Int)) (g : Int) : List (Int × Int × Int) := (L.map (·.1)).flatMap fun n => us L X m g n
theorem way_den {Ω : List OS} {L T X M b} (h : Wy Ω L T X M b) (hb : b ≤ 500) (g : Int) : ∃ d, WayIs (Us L X (getA M g) g) d ∧ d_Ways_way [.obj 0, .int g] Ω = some (d, Ω) := by
  have hk := mark_den h g
  have hl2 : 2 < Ω.length := by have := h.bg; omega
  have hTl : T.length = L.length := by have := congrArg List.length h.kt; simpa using this
  obtain ⟨x', y', hloop⟩ := way_loop (Ω := Ω.set 2 (.fzK (mpA iK D.obj T))) (L := L) (T := T) (X := X) (by rw [List.getElem?_set_ne (by decide)]; exact h.o0) (by rw [List.getElem?_set_ne (by decide)]; exact h.o1) (List.getElem?_set_self hl2)
    (fun n i hi => by have := h.ot n i hi; rw [List.getElem?_set_ne (by omega)]; exact this.2) (fun n i hi => getA_of (by rw [h.kt]; exact h.kn) hi)
    (fun n i hi => by
      have hn : n ∈ L.map (·.1) := by rw [← h.kt]; exact List.mem_map.mpr ⟨_, hi, rfl⟩
      cases q : getA L n with
      | none => exact absurd hn (getA_none.mp q)
      | some l => exact ⟨l, rfl⟩) g (getA M g) T [] .und .und (fun p hp => hp) (by have := h.bL; simp; omega)
  have eU : (T.flatMap fun p => us L X (getA M g) g p.1) = Us L X (getA M g) g := by
    unfold Us
    rw [← h.kt, List.flatMap_map]
  rw [List.nil_append, eU] at hloop
  have ek : (mpA iK D.obj T).map (fun x => ofK x.1) = T.map fun p => D.int p.1 := by
    unfold mpA
    rw [List.map_map]; rfl
  refine ⟨_, min_best (vs := Us L X (getA M g) g), run_rt rfl ?_⟩
  refine (seq_nx (ρ' := [.dat (.obj 0), .dat (.int g), .dat (mOD (getA M g)), .und, .und, .und]) (Ω' := Ω) (by simp [h.o0, k_mark, hk])).trans ?_
  refine (seq_nx (ρ' := [.dat (.obj 0), .dat (.int g), .dat (mOD (getA M g)), .own [], .und, .und]) (Ω' := Ω) (by simp)).trans ?_
  refine (seq_nx (forK_nx (n := 2) (kvs := mpA iK D.obj T) (by simp [h.o0, lk2]) h.o2 (by rw [ek]; exact hloop))).trans ?_
  simp [frz, keys_place]
noncomputable def bet (m : Option (Int × Int)) (a l : Int) : Int × Int := match m with
  | none => (a, l)
  | some p => if a > p.1 then (a, l) else (a, if l < p.2 then l else p.2)
theorem bettered_den (m : Option (Int × Int)) (a l : Int) (Ω : List OS) : d_bettered [mOD m, .int a, .int l] Ω = some (mkD (bet m a l), Ω) := by
  cases m with
  | none =>
    refine run_rt rfl (seq_rt ?_)
    simp [mOD, isD, isNone, bet, mkD]
  | some p =>
    by_cases hp : a > p.1
    · refine run_rt rfl (seq_rt ?_)
      simp [mOD, isD, isNone, bet, mkD, hp]
    · have hp' : ¬ p.1 < a := hp
      refine run_rt rfl ((seq_nx (ρ' := [.dat (mOD (some p)), .dat (.int a), .dat (.int l)]) (Ω' := Ω) (by simp [mOD, isD, isNone, mkD, hp'])).trans ?_)
      simp [mOD, mkD, bet, hp']
noncomputable def upX (X : Int → List (Int × Tl)) (n : Int) (xs : List (Int × Tl)) : Int → List (Int × Tl) := fun k => if k = n then xs else X k
theorem fst_of {T : List (Int × Nat)} (h : (T.map (·.2)).Nodup) {n n' : Int} {i : Nat} (h1 : (n, i) ∈ T) (h2 : (n', i) ∈ T) : n = n' := by
  induction T with
  | nil => cases h1
  | cons r T ih =>
    rw [List.map_cons, List.nodup_cons] at h
    rcases List.mem_cons.mp h1 with e1 | e1
    · rcases List.mem_cons.mp h2 with e2 | e2
      · rw [← e1] at e2; cases e2; rfl
      · exact absurd (List.mem_map.mpr ⟨_, e2, by rw [← e1]⟩) h.1
    · rcases List.mem_cons.mp h2 with e2 | e2
      · exact absurd (List.mem_map.mpr ⟨_, e1, by rw [← e2]⟩) h.1
      · exact ih h.2 e1 e2
theorem set_at {Ω : List OS} {i : Nat} {o o' : OS} (h : Ω[i]? = some o) : (Ω.set i o')[i]? = some o' := List.getElem?_set_self (List.getElem?_eq_some_iff.mp h).1
theorem Wy.set_t {Ω : List OS} {L T X M b} (h : Wy Ω L T X M b) {n : Int} {i : Nat} (hi : (n, i) ∈ T) (g : Int) (t : Tl) :
    Wy (Ω.set i (.dK (mpA iK tlD (putA (X n) g t)))) L T (upX X n (putA (X n) g t)) M (b + 1) := by
  have h8 := (h.ot n i hi).1
  refine ⟨by rw [List.getElem?_set_ne (by omega)]; exact h.o0, by rw [List.getElem?_set_ne (by omega)]; exact h.o1, by rw [List.getElem?_set_ne (by omega)]; exact h.o2, by rw [List.getElem?_set_ne (by omega)]; exact h.o3, fun n' i' hi' => ?_, h.ti, h.kt, h.kn, Nat.le_succ_of_le h.bL, Nat.le_succ_of_le h.bM, fun k => ?_, by rw [List.length_set]; exact h.bg⟩
  · refine ⟨(h.ot n' i' hi').1, ?_⟩
    by_cases e : i = i'
    · subst e
      obtain rfl := fst_of h.ti hi hi'
      rw [set_at (h.ot n i hi).2]
      unfold upX
      rw [if_pos rfl]
    · rw [List.getElem?_set_ne e, (h.ot n' i' hi').2]
      have : ¬ n' = n := fun z => by
        subst z
        have e1 := getA_of (by rw [h.kt]; exact h.kn) hi
        have e2 := getA_of (by rw [h.kt]; exact h.kn) hi'
        rw [e1] at e2
        exact e (Option.some.inj e2)
      unfold upX
      rw [if_neg this]
  · unfold upX
    split
    · exact Nat.le_trans (len_putA _ _ _) (Nat.succ_le_succ (h.bX n))
    · exact Nat.le_succ_of_le (h.bX k)
theorem Wy.set_m {Ω : List OS} {L T X M b} (h : Wy Ω L T X M b) (g : Int) (m : Int × Int) : Wy (Ω.set 3 (.dK (mpA iK mkD (putA M g m)))) L T X (putA M g m) (b + 1) :=
  ⟨by rw [List.getElem?_set_ne (by decide)]; exact h.o0, by rw [List.getElem?_set_ne (by decide)]; exact h.o1, by rw [List.getElem?_set_ne (by decide)]; exact h.o2, set_at h.o3,
    fun n i hi => ⟨(h.ot n i hi).1, by have := (h.ot n i hi).1; rw [List.getElem?_set_ne (by omega)]; exact (h.ot n i hi).2⟩, h.ti, h.kt, h.kn, Nat.le_succ_of_le h.bL, Nat.le_trans (len_putA _ _ _) (Nat.succ_le_succ h.bM), fun k => Nat.le_succ_of_le (h.bX k), by rw [List.length_set]; exact h.bg⟩
/-- what is not the ways' own stays -/
noncomputable def Frm (T : List (Int × Nat)) (Ω Ω' : List OS) : Prop := Ω.length ≤ Ω'.length ∧ ∀ j, j < Ω.length → j ≠ 1 → j ≠ 2 → j ≠ 3 → j ∉ T.map (·.2) → Ω'[j]? = Ω[j]?
theorem need_yes {Ω : List OS} {L T X M b} (h : Wy Ω L T X M b) {n l : Int} (hn : getA L n = some l) : d_Ways_need_tie [.obj 0, .int n] Ω = some (.non, Ω) := by
  unfold d_Ways_need_tie
  rw [ap_run]
  simp [h.o0, lk1, h.o1, vL, hn]
theorem need_no {Ω : List OS} {L T X M b} (h : Wy Ω L T X M b) {n : Int} (hn : getA L n = none) : d_Ways_need_tie [.obj 0, .int n] Ω = none := by
  unfold d_Ways_need_tie
  rw [ap_run]
  simp [h.o0, lk1, h.o1, vL, hn]
theorem need_r {Ω : List OS} {L T X M b} (h : Wy Ω L T X M b) {n : Int} (h0 : 0 ≤ n) (h1 : n < 32) (hn : getA L n = none) : r_Ways_need_tie [.obj 0, .int n] Ω = some (("NotTied" : Str), Ω) := by
  unfold r_Ways_need_tie
  rw [ap_runR]
  have hs : smallI n := small_i (by omega) (by omega)
  have ep : pFi (gVar 1) [.dat (.obj 0), .dat (.int n)] Ω = some Ω := by
    unfold pFi
    simp [hs]
  simp [h.o0, lk1, h.o1, vL, hn, ep]
end Law
namespace Law
open PySem DL
theorem run_nx {n m : Nat} {s : SDen} {ds : List D} {ρ' : List Sl} {Ω Ω' : List OS} (hl : ds.length = n) (h : s (ds.map Sl.dat ++ List.replicate (m - n) Sl.und) Ω = some (.nx ρ' Ω')) : runD n m s ds Ω = some (.non, Ω') := by
  rw [ap_run, if_pos hl, h]
theorem try2_nx {s t : SDen} {r : SRDen} {i : Nat} {tc : Str → Bool} {ρ : List Sl} {Ω : List OS} {o : Out} (h : s ρ Ω = some o) : sTry2 s r i tc t ρ Ω = some o := by unfold sTry2; rw [h]
theorem try2_ex {s t : SDen} {r : SRDen} {i : Nat} {tc : Str → Bool} {c : Str} {ρ ρ1 : List Sl} {d : D} {Ω Ω1 Ω' : List OS} (h : s ρ Ω = none) (h1 : r ρ Ω = some (c, ρ1, Ω1)) (h2 : tc c = true) (h3 : t (ρ1.set i (.dat (.obj Ω1.length))) (Ω1 ++ [.exc c]) = some (.rt d Ω')) : sTry2 s r i tc t ρ Ω = some (.rt d Ω') := by
  unfold sTry2
  rw [h]
  dsimp only
  rw [h1]
  dsimp only
  rw [if_pos h2, h3]
theorem Wy.mono {Ω : List OS} {L T X M b b'} (h : Wy Ω L T X M b) (hb : b ≤ b') : Wy Ω L T X M b' :=
  ⟨h.o0, h.o1, h.o2, h.o3, h.ot, h.ti, h.kt, h.kn, Nat.le_trans h.bL hb, Nat.le_trans h.bM hb, fun n => Nat.le_trans (h.bX n) hb, h.bg⟩
theorem Wy.lt {Ω : List OS} {L T X M b} (h : Wy Ω L T X M b) {n : Int} {i : Nat} (hi : (n, i) ∈ T) : i < Ω.length := (List.getElem?_eq_some_iff.mp (h.ot n i hi).2).1
theorem Wy.len {Ω : List OS} {L T X M b} (h : Wy Ω L T X M b) : T.length = L.length := by have := congrArg List.length h.kt; simpa using this
theorem Wy.get {Ω : List OS} {L T X M b} (h : Wy Ω L T X M b) {n l : Int} (hn : getA L n = some l) : ∃ i, getA T n = some i ∧ (n, i) ∈ T := by
  have hm : n ∈ T.map (·.1) := by rw [h.kt]; exact List.mem_map.mpr ⟨_, getA_mem hn, rfl⟩
  cases q : getA T n with
  | none => exact absurd hm (getA_none.mp q)
  | some i => exact ⟨i, rfl, getA_mem q⟩
noncomputable def tieΩ (Ω : List OS) (L : List (Int × Int)) (T : List (Int × Nat)) (n l : Int) : List OS := (Ω.set 1 (.dK (mpA iK D.int (putA L n l))) ++ [OS.dK []]).set 2 (.dK (mpA iK D.obj (putA T n Ω.length)))
theorem tie_get {Ω : List OS} {L T} {n l : Int} {j : Nat} (hj : j < Ω.length) (h1 : j ≠ 1) (h2 : j ≠ 2) : (tieΩ Ω L T n l)[j]? = Ω[j]? := by
  unfold tieΩ
  rw [List.getElem?_set_ne (fun z => h2 z.symm), List.getElem?_append_left (by rw [List.length_set]; exact hj), List.getElem?_set_ne (fun z => h1 z.symm)]
theorem tie_len {Ω : List OS} {L T} {n l : Int} : (tieΩ Ω L T n l).length = Ω.length + 1 := by unfold tieΩ; simp
theorem Wy.tie {Ω : List OS} {L T X M b} (h : Wy Ω L T X M b) {n : Int} (hn : getA L n = none) (l : Int) : Wy (tieΩ Ω L T n l) (putA L n l) (putA T n Ω.length) (upX X n []) M (b + 1) := by
  have h8 := h.bg
  have hnL : n ∉ L.map (·.1) := getA_none.mp hn
  have hnT : n ∉ T.map (·.1) := by rw [h.kt]; exact hnL
  refine ⟨by rw [tie_get (by omega) (by decide) (by decide)]; exact h.o0, ?_, ?_, by rw [tie_get (by omega) (by decide) (by decide)]; exact h.o3, fun n' i' hi' => ?_, ?_, ?_, nodup_putA h.kn _ _, Nat.le_trans (len_putA _ _ _) (Nat.succ_le_succ h.bL), Nat.le_succ_of_le h.bM, fun k => ?_, by rw [tie_len]; omega⟩
  · unfold tieΩ
    rw [List.getElem?_set_ne (by decide), List.getElem?_append_left (by rw [List.length_set]; omega), set_at h.o1]
  · unfold tieΩ
    rw [List.getElem?_set_self (by simp; omega)]
  · rw [putA_new hnT] at hi'
    rcases List.mem_append.mp hi' with z | z
    · have hne : ¬ n' = n := fun e => hnT (List.mem_map.mpr ⟨_, z, e⟩)
      have a := h.ot n' i' z
      refine ⟨a.1, ?_⟩
      rw [tie_get (h.lt z) (by omega) (by omega), a.2]
      unfold upX
      rw [if_neg hne]
    · rw [List.mem_singleton] at z
      cases z
      refine ⟨h8, ?_⟩
      unfold tieΩ upX
      rw [List.getElem?_set_ne (by omega), List.getElem?_append_right (by simp), if_pos rfl]
      simp [mpA]
  · rw [putA_new hnT, List.map_append, List.nodup_append]
    refine ⟨h.ti, by simp, fun a ha c hc z => ?_⟩
    obtain ⟨p, hp, e⟩ := List.mem_map.mp ha
    obtain ⟨n', i'⟩ := p
    have := h.lt hp
    simp at hc
    dsimp only at e
    omega
  · rw [keys_putA, keys_putA, h.kt]
  · unfold upX
    split
    · simp
    · exact Nat.le_succ_of_le (h.bX k)
theorem tie_yes {Ω : List OS} {L T X M b} (h : Wy Ω L T X M b) (hb : b ≤ 500) {n : Int} (hn : getA L n = none) (l : Int) : d_Ways_tie [.obj 0, .int n, .int l] Ω = some (.non, tieΩ Ω L T n l) := by
  have h8 := h.bg
  have hl : L.length < 100000 := by have := h.bL; omega
  have hT : T.length < 100000 := by rw [h.len]; exact hl
  have e1 : putD (mpA iK D.int L) (.inl n) (.int l) = mpA iK D.int (putA L n l) := put_mp iK_inj D.int L n l
  have e2 : putD (mpA iK D.obj T) (.inl n) (.obj Ω.length) = mpA iK D.obj (putA T n Ω.length) := put_mp iK_inj D.obj T n Ω.length
  have a0 : (Ω.set 1 (.dK (mpA iK D.int (putA L n l))) ++ [OS.dK []])[0]? = some (.ins "Ways" flds) := by rw [List.getElem?_append_left (by rw [List.length_set]; omega), List.getElem?_set_ne (by decide)]; exact h.o0
  have a2 : (Ω.set 1 (.dK (mpA iK D.int (putA L n l))) ++ [OS.dK []])[2]? = some (.dK (mpA iK D.obj T)) := by rw [List.getElem?_append_left (by rw [List.length_set]; omega), List.getElem?_set_ne (by decide)]; exact h.o2
  refine run_nx (ρ' := [.dat (.obj 0), .dat (.int n), .dat (.int l)]) rfl ?_
  refine (seq_nx (ρ' := [.dat (.obj 0), .dat (.int n), .dat (.int l)]) (Ω' := Ω) (by simp [h.o0, lk1, h.o1, vL, hn])).trans ?_
  refine (seq_nx (ρ' := [.dat (.obj 0), .dat (.int n), .dat (.int l)]) (Ω' := Ω.set 1 (.dK (mpA iK D.int (putA L n l)))) (by simp [h.o0, lk1, h.o1, hl, e1])).trans ?_
  generalize hΩ : Ω.set 1 (.dK (mpA iK D.int (putA L n l))) = Ω1 at *
  have hlen : Ω1.length = Ω.length := by rw [← hΩ, List.length_set]
  have et : tieΩ Ω L T n l = (Ω1 ++ [OS.dK []]).set 2 (.dK (mpA iK D.obj (putA T n Ω.length))) := by unfold tieΩ; rw [hΩ]
  rw [et, ap_dput, ap_newK]
  dsimp only
  rw [hlen]
  generalize Ω1 ++ [OS.dK []] = Ω2 at *
  simp [a0, lk2, a2, hT, e2]
theorem tie_no {Ω : List OS} {L T X M b} (h : Wy Ω L T X M b) {n l' : Int} (hn : getA L n = some l') (l : Int) : d_Ways_tie [.obj 0, .int n, .int l] Ω = none := by
  refine run_no rfl ?_
  simp [h.o0, lk1, h.o1, vL, hn]
theorem tie_r {Ω : List OS} {L T X M b} (h : Wy Ω L T X M b) {n l' : Int} (h0 : 0 ≤ n) (h1 : n < 32) (hn : getA L n = some l') (l : Int) : r_Ways_tie [.obj 0, .int n, .int l] Ω = some (("Tied" : Str), Ω) := by
  have hs : smallI n := small_i (by omega) (by omega)
  have ep : pFi (gVar 1) [.dat (.obj 0), .dat (.int n), .dat (.int l)] Ω = some Ω := by
    unfold pFi
    simp [hs]
  refine runR_ex (ρ := [.dat (.obj 0), .dat (.int n), .dat (.int l)]) rfl ?_
  simp [h.o0, lk1, h.o1, vL, hn, ep]
noncomputable def unΩ (Ω : List OS) (L : List (Int × Int)) (T : List (Int × Nat)) (n : Int) : List OS := (Ω.set 1 (.dK (mpA iK D.int (cutA L n)))).set 2 (.dK (mpA iK D.obj (cutA T n)))
theorem un_get {Ω : List OS} {L T} {n : Int} {j : Nat} (h1 : j ≠ 1) (h2 : j ≠ 2) : (unΩ Ω L T n)[j]? = Ω[j]? := by
  unfold unΩ
  rw [List.getElem?_set_ne (fun z => h2 z.symm), List.getElem?_set_ne (fun z => h1 z.symm)]
theorem Wy.untie {Ω : List OS} {L T X M b} (h : Wy Ω L T X M b) (n : Int) : Wy (unΩ Ω L T n) (cutA L n) (cutA T n) X M b := by
  have h8 := h.bg
  refine ⟨by rw [un_get (by decide) (by decide)]; exact h.o0, ?_, ?_, by rw [un_get (by decide) (by decide)]; exact h.o3, fun n' i' hi' => ?_, ?_, ?_, nodup_cutA h.kn _, Nat.le_trans (len_cutA _ _) h.bL, h.bM, h.bX, by unfold unΩ; rw [List.length_set, List.length_set]; exact h8⟩
  · unfold unΩ
    rw [List.getElem?_set_ne (by decide), set_at h.o1]
  · unfold unΩ
    rw [List.getElem?_set_self (by rw [List.length_set]; omega)]
  · have hi := (List.mem_filter.mp hi').1
    have a := h.ot n' i' hi
    exact ⟨a.1, by rw [un_get (by omega) (by omega)]; exact a.2⟩
  · unfold cutA
    exact h.ti.sublist (List.filter_sublist.map _)
  · rw [keys_cutA, keys_cutA, h.kt]
theorem untie_yes {Ω : List OS} {L T X M b} (h : Wy Ω L T X M b) {n l : Int} (hn : getA L n = some l) : d_Ways_untie [.obj 0, .int n] Ω = some (.non, unΩ Ω L T n) := by
  obtain ⟨i, hi, _⟩ := h.get hn
  have hy := need_yes h hn
  have e1 : dropD (mpA iK D.int L) (.inl n) = mpA iK D.int (cutA L n) := drop_mp iK_inj D.int L n
  have e2 : dropD (mpA iK D.obj T) (.inl n) = mpA iK D.obj (cutA T n) := drop_mp iK_inj D.obj T n
  have a0 : (Ω.set 1 (.dK (mpA iK D.int (cutA L n))))[0]? = some (.ins "Ways" flds) := by rw [List.getElem?_set_ne (by decide)]; exact h.o0
  have a2 : (Ω.set 1 (.dK (mpA iK D.int (cutA L n))))[2]? = some (.dK (mpA iK D.obj T)) := by rw [List.getElem?_set_ne (by decide)]; exact h.o2
  refine run_nx (ρ' := [.dat (.obj 0), .dat (.int n)]) rfl ?_
  refine (seq_nx (ρ' := [.dat (.obj 0), .dat (.int n)]) (Ω' := Ω) (by simp [h.o0, k_need, hy])).trans ?_
  refine (seq_nx (ρ' := [.dat (.obj 0), .dat (.int n)]) (Ω' := Ω.set 1 (.dK (mpA iK D.int (cutA L n)))) (by simp [h.o0, lk1, h.o1, vL, hn, e1])).trans ?_
  unfold unΩ
  simp [a0, lk2, a2, vT, hi, e2]
theorem untie_no {Ω : List OS} {L T X M b} (h : Wy Ω L T X M b) {n : Int} (hn : getA L n = none) : d_Ways_untie [.obj 0, .int n] Ω = none := by
  have hy := need_no h hn
  refine run_no rfl ?_
  simp [h.o0, k_need, hy]
theorem untie_r {Ω : List OS} {L T X M b} (h : Wy Ω L T X M b) {n : Int} (h0 : 0 ≤ n) (h1 : n < 32) (hn : getA L n = none) : r_Ways_untie [.obj 0, .int n] Ω = some (("NotTied" : Str), Ω) := by
  have hy := need_r h h0 h1 hn
  refine runR_ex (ρ := [.dat (.obj 0), .dat (.int n)]) rfl ?_
  simp [h.o0, k_need, hy]
theorem hear_no {Ω : List OS} {L T X M b} (h : Wy Ω L T X M b) {n : Int} (hn : getA L n = none) (g num : Int) (f : Option Int) : d_Ways_hear [.obj 0, .int n, .int g, .int num, faD f] Ω = none := by
  have hy := need_no h hn
  refine run_no rfl ?_
  simp [h.o0, k_need, hy]
theorem hear_r {Ω : List OS} {L T X M b} (h : Wy Ω L T X M b) {n : Int} (h0 : 0 ≤ n) (h1 : n < 32) (hn : getA L n = none) (g num : Int) (f : Option Int) : r_Ways_hear [.obj 0, .int n, .int g, .int num, faD f] Ω = some (("NotTied" : Str), Ω) := by
  have hy := need_r h h0 h1 hn
  refine runR_ex (ρ := [.dat (.obj 0), .dat (.int n), .dat (.int g), .dat (.int num), .dat (faD f), .und]) rfl ?_
  simp [h.o0, k_need, hy]
theorem frm_set {T : List (Int × Nat)} {Ω : List OS} {i : Nat} {o : OS} (hi : i = 3 ∨ i ∈ T.map (·.2)) : Frm T Ω (Ω.set i o) :=
  ⟨by rw [List.length_set]; exact Nat.le_refl _, fun j _ _ _ h3 hT => List.getElem?_set_ne fun z => by
    subst z
    rcases hi with e | e
    · exact h3 e
    · exact hT e⟩
theorem Frm.trans {T : List (Int × Nat)} {Ω Ω' Ω'' : List OS} (h : Frm T Ω Ω') (h' : Frm T Ω' Ω'') : Frm T Ω Ω'' :=
  ⟨Nat.le_trans h.1 h'.1, fun j hj h1 h2 h3 hT => (h'.2 j (Nat.lt_of_lt_of_le hj h.1) h1 h2 h3 hT).trans (h.2 j hj h1 h2 h3 hT)⟩
theorem hear_yes {Ω : List OS} {L T X M b} (h : Wy Ω L T X M b) (hb : b ≤ 400) {n l : Int} (hn : getA L n = some l) (g num : Int) (f : Option Int) :
    ∃ Ω' M', d_Ways_hear [.obj 0, .int n, .int g, .int num, faD f] Ω = some (.non, Ω') ∧ Wy Ω' L T (upX X n (putA (X n) g (num, f))) M' (b + 2) ∧ Frm T Ω Ω' ∧
      ((Us L (upX X n (putA (X n) g (num, f))) (getA M g) g = [] ∧ M' = M) ∨ ∃ u, Best (Us L (upX X n (putA (X n) g (num, f))) (getA M g) g) u ∧ M' = putA M g (bet (getA M g) u.1 u.2.1)) := by
  obtain ⟨i, hi, hm⟩ := h.get hn
  have hy := need_yes h hn
  have w1 := h.set_t hm g (num, f)
  have hXl : (X n).length < 100000 := by have := h.bX n; omega
  have ex : putD (mpA iK tlD (X n)) (.inl g) (tlD (num, f)) = mpA iK tlD (putA (X n) g (num, f)) := put_mp iK_inj tlD (X n) g (num, f)
  have ei := (h.ot n i hm).2
  have htl : tlD (num, f) = .tup [.int num, faD f] := rfl
  have f1 : Frm T Ω (Ω.set i (.dK (mpA iK tlD (putA (X n) g (num, f))))) := frm_set (.inr (List.mem_map.mpr ⟨_, hm, rfl⟩))
  obtain ⟨d, hd, ed⟩ := way_den w1 (by omega) g
  have s1 : ∀ {t : SDen}, sSeq (sExpr (gMeth "Ways" "need_tie" d_Ways_need_tie [] (gVar 0) (gCons (gVar 1) gNil))) t [.dat (.obj 0), .dat (.int n), .dat (.int g), .dat (.int num), .dat (faD f), .und] Ω = t [.dat (.obj 0), .dat (.int n), .dat (.int g), .dat (.int num), .dat (faD f), .und] Ω :=
    seq_nx (by simp [h.o0, k_need, hy])
  have s2 : ∀ {t : SDen}, sSeq (sDPut (gDGet (gFld "Ways" "tellings_by" (gVar 0)) (gVar 1)) (gVar 2) (gTup (gCons (gVar 3) (gCons (gVar 4) gNil)))) t [.dat (.obj 0), .dat (.int n), .dat (.int g), .dat (.int num), .dat (faD f), .und] Ω = t [.dat (.obj 0), .dat (.int n), .dat (.int g), .dat (.int num), .dat (faD f), .und] (Ω.set i (.dK (mpA iK tlD (putA (X n) g (num, f))))) :=
    seq_nx (by simp [h.o0, lk2, h.o2, vT, hi, ei, hXl, ← htl, ex])
  generalize Ω.set i (.dK (mpA iK tlD (putA (X n) g (num, f)))) = Ω1 at *
  have s3 : ∀ {t : SDen}, sSeq (sSet 5 (gMeth "Ways" "way" d_Ways_way [] (gVar 0) (gCons (gVar 2) gNil))) t [.dat (.obj 0), .dat (.int n), .dat (.int g), .dat (.int num), .dat (faD f), .und] Ω1 = t [.dat (.obj 0), .dat (.int n), .dat (.int g), .dat (.int num), .dat (faD f), .dat d] Ω1 :=
    seq_nx (by simp [w1.o0, k_way, ed])
  rcases hd with ⟨e0, rfl⟩ | ⟨u, hu, rfl⟩
  · refine ⟨Ω1, M, run_nx (ρ' := [.dat (.obj 0), .dat (.int n), .dat (.int g), .dat (.int num), .dat (faD f), .dat .non]) rfl (s1.trans (s2.trans (s3.trans ?_))), w1.mono (by omega), f1, .inl ⟨e0, rfl⟩⟩
    simp [isD, isNone]
  · have hk := mark_den w1 g
    have hB := bettered_den (getA M g) u.1 u.2.1 Ω1
    have eM : putD (mpA iK mkD M) (.inl g) (mkD (bet (getA M g) u.1 u.2.1)) = mpA iK mkD (putA M g (bet (getA M g) u.1 u.2.1)) := put_mp iK_inj mkD M g _
    have hMl : M.length < 100000 := by have := h.bM; omega
    refine ⟨Ω1.set 3 (.dK (mpA iK mkD (putA M g (bet (getA M g) u.1 u.2.1)))), _, run_nx (ρ' := [.dat (.obj 0), .dat (.int n), .dat (.int g), .dat (.int num), .dat (faD f), .dat (w3 u)]) rfl (s1.trans (s2.trans (s3.trans ?_))), w1.set_m g _, f1.trans (frm_set (.inl rfl)), .inr ⟨u, hu, rfl⟩⟩
    simp [isD, isNone, w3, w1.o0, k_mark, hk, hB, lk3, w1.o3, hMl, eM]
end Law
namespace Law
open PySem DL
theorem es {a b : Str} (ha : (PyData.str a).canLay0 = true) (hb : (PyData.str b).canLay0 = true) : eqD false (.str a) (.str b) = some (.bl (decide (a = b))) := by
  by_cases h : a = b
  · subst h
    rw [eq_self_pl false (by simp [pl, ha]) (by simp [dep])]; simp
  · rw [eq_ne_pl false (by simp [pl, ha]) (by simp [pl, hb]) (by simp [dep]) (by simp [dep]) (by simpa using h)]; simp [h]
theorem clT : (PyData.str "tie").canLay0 = true := by decide +kernel
theorem clU : (PyData.str "untie").canLay0 = true := by decide +kernel
theorem clH : (PyData.str "hear").canLay0 = true := by decide +kernel
@[simp] theorem es_tt : eqD false (.str "tie") (.str "tie") = some (.bl true) := by rw [es clT clT]; simp
@[simp] theorem es_ut : eqD false (.str "untie") (.str "tie") = some (.bl false) := by rw [es clU clT, decide_eq_false (by decide +kernel)]
@[simp] theorem es_uu : eqD false (.str "untie") (.str "untie") = some (.bl true) := by rw [es clU clU]; simp
@[simp] theorem es_ht : eqD false (.str "hear") (.str "tie") = some (.bl false) := by rw [es clH clT, decide_eq_false (by decide +kernel)]
@[simp] theorem es_hu : eqD false (.str "hear") (.str "untie") = some (.bl false) := by rw [es clH clU, decide_eq_false (by decide +kernel)]
theorem ix30 (u : Int × Int × Int) : ixD (w3 u) (.int 0) = some (.int u.1) := by simp [w3]
theorem ix31 (u : Int × Int × Int) : ixD (w3 u) (.int 1) = some (.int u.2.1) := by simp [w3]
theorem ix32 (u : Int × Int × Int) : ixD (w3 u) (.int 2) = some (.int u.2.2) := by simp [w3]
noncomputable def deT (n l : Int) : D := .tup [.str "tie", .int n, .int l]
noncomputable def deU (n : Int) : D := .tup [.str "untie", .int n]
noncomputable def deH (n g num : Int) (f : Option Int) : D := .tup [.str "hear", .int n, .int g, .int num, faD f]
theorem xt_T : xt_0 "Tied" = some true := by
  unfold xt_0
  rw [if_neg (by decide +kernel), if_pos rfl]
theorem xt_N : xt_0 "NotTied" = some true := by
  unfold xt_0
  rw [if_pos rfl]
theorem tc_T : tcf_PostError "Tied" = true := by simp [tcf_PostError]
theorem tc_N : tcf_PostError "NotTied" = true := by simp [tcf_PostError]
theorem tried_tie {Ω : List OS} {L T X M b} (h : Wy Ω L T X M b) (hb : b ≤ 500) {n : Int} (hn : getA L n = none) (l : Int) : d_l_tried [.obj 0, deT n l] Ω = some (.non, tieΩ Ω L T n l) := by
  have e := tie_yes h hb hn l
  refine run_rt rfl ((seq_nx (ρ' := [.dat (.obj 0), .dat (deT n l), .und]) (Ω' := tieΩ Ω L T n l) (try2_nx ?_)).trans (by simp))
  simp [deT, h.o0, k_tie, e]
theorem tried_tie_no {Ω : List OS} {L T X M b} (h : Wy Ω L T X M b) {n l' : Int} (h0 : 0 ≤ n) (h1 : n < 32) (hn : getA L n = some l') (l : Int) : d_l_tried [.obj 0, deT n l] Ω = some (.bl true, Ω ++ [.exc "Tied"]) := by
  have e := tie_no h hn l
  have e2 := tie_r h h0 h1 hn l
  refine run_rt rfl (seq_rt (try2_ex (c := "Tied") (ρ1 := [.dat (.obj 0), .dat (deT n l), .und]) (Ω1 := Ω) ?_ ?_ tc_T ?_))
  · simp [deT, h.o0, k_tie, e]
  · simp [deT, h.o0, k_tie, e2]
  · simp [xt_T]
theorem tried_un {Ω : List OS} {L T X M b} (h : Wy Ω L T X M b) {n l : Int} (hn : getA L n = some l) : d_l_tried [.obj 0, deU n] Ω = some (.non, unΩ Ω L T n) := by
  have e := untie_yes h hn
  refine run_rt rfl ((seq_nx (ρ' := [.dat (.obj 0), .dat (deU n), .und]) (Ω' := unΩ Ω L T n) (try2_nx ?_)).trans (by simp))
  simp [deU, h.o0, k_untie, e]
theorem tried_un_no {Ω : List OS} {L T X M b} (h : Wy Ω L T X M b) {n : Int} (h0 : 0 ≤ n) (h1 : n < 32) (hn : getA L n = none) : d_l_tried [.obj 0, deU n] Ω = some (.bl true, Ω ++ [.exc "NotTied"]) := by
  have e := untie_no h hn
  have e2 := untie_r h h0 h1 hn
  refine run_rt rfl (seq_rt (try2_ex (c := "NotTied") (ρ1 := [.dat (.obj 0), .dat (deU n), .und]) (Ω1 := Ω) ?_ ?_ tc_N ?_))
  · simp [deU, h.o0, k_untie, e]
  · simp [deU, h.o0, k_untie, e2]
  · simp [xt_N]
theorem tried_he {Ω Ω' : List OS} {L T X M b} (h : Wy Ω L T X M b) {n g num : Int} {f : Option Int} (e : d_Ways_hear [.obj 0, .int n, .int g, .int num, faD f] Ω = some (.non, Ω')) : d_l_tried [.obj 0, deH n g num f] Ω = some (.non, Ω') := by
  refine run_rt rfl ((seq_nx (ρ' := [.dat (.obj 0), .dat (deH n g num f), .und]) (Ω' := Ω') (try2_nx ?_)).trans (by simp))
  simp [deH, h.o0, k_hear, e]
theorem tried_he_no {Ω : List OS} {L T X M b} (h : Wy Ω L T X M b) {n : Int} (h0 : 0 ≤ n) (h1 : n < 32) (hn : getA L n = none) (g num : Int) (f : Option Int) : d_l_tried [.obj 0, deH n g num f] Ω = some (.bl true, Ω ++ [.exc "NotTied"]) := by
  have e := hear_no h hn g num f
  have e2 := hear_r h h0 h1 hn g num f
  refine run_rt rfl (seq_rt (try2_ex (c := "NotTied") (ρ1 := [.dat (.obj 0), .dat (deH n g num f), .und]) (Ω1 := Ω) ?_ ?_ tc_N ?_))
  · simp [deH, h.o0, k_hear, e]
  · simp [deH, h.o0, k_hear, e2]
  · simp [xt_N]
/-! ### what the law keeps -/
noncomputable def ownK (q : Nat) : List (L2.Key × D) := [(.inr "lengths", .obj 5), (.inr "told", .obj 6), (.inr "marks", .obj q)]
theorem s12 : ¬ (("lengths" : Str) = "told") := by decide +kernel
theorem s13 : ¬ (("lengths" : Str) = "marks") := by decide +kernel
theorem s23 : ¬ (("told" : Str) = "marks") := by decide +kernel
theorem ov1 (q : Nat) : valD (ownK q) (.inr "lengths") = some (.obj 5) := by simp [valD, ownK]
theorem ov2 (q : Nat) : valD (ownK q) (.inr "told") = some (.obj 6) := by simp [valD, ownK, s12]
theorem ov3 (q : Nat) : valD (ownK q) (.inr "marks") = some (.obj q) := by simp [valD, ownK, s13, s23]
theorem op3 (q q' : Nat) : putD (ownK q) (.inr "marks") (.obj q') = ownK q' := by simp [putD, ownK, s13, s23]
structure Ow (Ω : List OS) (q : Nat) (L : List (Int × Int)) (S : List ((Int × Int) × Tl)) (Mo : List (Int × (Int × Int))) (b : Nat) : Prop where
  p4 : Ω[4]? = some (.dK (ownK q))
  p5 : Ω[5]? = some (.dK (mpA iK D.int L))
  p6 : Ω[6]? = some (.dT (mpA pK tlD S))
  pq : Ω[q]? = some (.dK (mpA iK mkD Mo))
  q7 : 7 ≤ q
  nd : (S.map (·.1)).Nodup
  kn : (L.map (·.1)).Nodup
  bS : S.length ≤ b
  bL : L.length ≤ b
theorem vS (S : List ((Int × Int) × Tl)) (g n : Int) : valD (mpA pK tlD S) [.inl g, .inl n] = (getA S (g, n)).map tlD := val_mp pK_inj tlD (g, n) S
theorem lbetter_den (a b p q : Int) (Ω : List OS) : d_l_better [.tup [.int a, .int b], .tup [.int p, .int q]] Ω = some (.bl (bt a b p q), Ω) := by
  refine run_rt rfl ?_
  by_cases h : a > p
  · simp [bt, h]
  · by_cases h2 : a = p
    · simp [bt, h2]
    · simp [bt, h, h2]
theorem lmay_den (m : Option (Int × Int)) (num : Int) (f : Option Int) (Ω : List OS) : d_l_may [mOD m, .int num, faD f] Ω = some (.bl (mayB m num f), Ω) := by
  refine run_rt rfl ?_
  cases f with
  | none => simp [faD, isD, isNone, mayB]
  | some f =>
    cases m with
    | none => simp [faD, mOD, isD, isNone, mayB]
    | some p => simp [faD, mOD, mkD, isD, isNone, mayB, lbetter_den]
noncomputable def lwayB : SDen := (sIf (gT (gDIn false (gTup (gCons (gVar 1) (gCons (gVar 3) gNil))) (gDGet (gVar 0) (gC (.str "told"))))) (sSeq (sAsg (bTup [4, 5]) (gDGet (gDGet (gVar 0) (gC (.str "told"))) (gTup (gCons (gVar 1) (gCons (gVar 3) gNil))))) (sIf (gT (gCall d_l_may (gCons (gDGet1 (gDGet (gVar 0) (gC (.str "marks"))) (gVar 1)) (gCons (gVar 4) (gCons (gVar 5) gNil))))) (sApp 2 (gTup (gCons (gNeg (gVar 4)) (gCons (gOp addD (gVar 5) (gDGet (gDGet (gVar 0) (gC (.str "lengths"))) (gVar 3))) (gCons (gVar 3) gNil))))) sNext)) sNext)
theorem lway_loop {Ω : List OS} {q : Nat} {L : List (Int × Int)} {S : List ((Int × Int) × Tl)} {Mo : List (Int × (Int × Int))} (p4 : Ω[4]? = some (.dK (ownK q))) (p5 : Ω[5]? = some (.fzK (mpA iK D.int L))) (p6 : Ω[6]? = some (.dT (mpA pK tlD S))) (pq : Ω[q]? = some (.dK (mpA iK mkD Mo))) (g : Int) :
    ∀ (rest : List (Int × Int)) (acc : List (Int × Int × Int)) (x y z : Sl), (∀ p ∈ rest, ∃ l, getA L p.1 = some l) → acc.length + rest.length ≤ 1000 → ∃ (acc' : List (Int × Int × Int)) (x' y' z' : Sl), forD (bName 3) lwayB (rest.map fun p => D.int p.1) [.dat (.obj 4), .dat (.int g), .own (acc.map w3), x, y, z, .und] Ω
      = some (.nx [.dat (.obj 4), .dat (.int g), .own (acc'.map w3), x', y', z', .und] Ω)
  | [], acc, x, y, z, _, _ => ⟨acc, x, y, z, by simp⟩
  | (n, l0) :: rest, acc, x, y, z, hT, hl => by
    obtain ⟨l, hL⟩ := hT (n, l0) List.mem_cons_self
    rw [List.length_cons] at hl
    dsimp only at hL
    have hl' : acc.length < 100000 := by omega
    have ih := fun acc x y z h => lway_loop p4 p5 p6 pq g rest acc x y z (fun p hp => hT p (List.mem_cons_of_mem _ hp)) h
    have em : (Option.map mkD (getA Mo g)).getD .non = mOD (getA Mo g) := rfl
    rw [List.map_cons, for_cons]
    cases e : getA S (g, n) with
    | none =>
      obtain ⟨acc', x', y', z', ih⟩ := ih acc (.dat (.int n)) y z (by omega)
      refine ⟨acc', x', y', z', Eq.trans ?_ ih⟩
      simp [lwayB, p4, ov2, p6, vS, e]
    | some t =>
      obtain ⟨num, f⟩ := t
      have hm := lmay_den (getA Mo g) num f Ω
      cases hb : mayB (getA Mo g) num f with
      | false =>
        rw [hb] at hm
        obtain ⟨acc', x', y', z', ih⟩ := ih acc (.dat (.int n)) (.dat (.int num)) (.dat (faD f)) (by omega)
        refine ⟨acc', x', y', z', Eq.trans ?_ ih⟩
        simp [lwayB, p4, ov2, ov3, p6, pq, vS, vM, e, tlD, bNames, em, hm]
      | true =>
        cases f with
        | none => cases hb
        | some f =>
          rw [hb] at hm
          have ef : faD (some f) = .int f := rfl
          rw [ef] at hm
          obtain ⟨acc', x', y', z', ih⟩ := ih (acc ++ [(-num, f + l, n)]) (.dat (.int n)) (.dat (.int num)) (.dat (.int f)) (by rw [List.length_append]; simp; omega)
          refine ⟨acc', x', y', z', Eq.trans ?_ ih⟩
          simp [lwayB, p4, p5, ov1, ov2, ov3, p6, pq, vS, vM, vL, e, ef, tlD, bNames, em, hm, hL, hl', w3]
theorem pl_w3s (vs : List (Int × Int × Int)) : plL (vs.map w3) = true ∧ depL (vs.map w3) ≤ 2 := by
  induction vs with
  | nil => simp [plL, depL]
  | cons v vs ih =>
    refine ⟨?_, ?_⟩
    · simp [plL, ih.1, w3, pl]
    · simp [depL, w3, dep]
      omega
theorem keysT_w3 : ∀ vs : List (Int × Int × Int), keysT (vs.map w3) = some (vs.map fun u => [u.1, u.2.1, u.2.2])
  | [] => rfl
  | v :: vs => by
    rw [List.map_cons, List.map_cons]
    unfold keysT
    rw [show keyI (w3 v) = some [v.1, v.2.1, v.2.2] from rfl]
    dsimp only
    rw [keysT_w3 vs]
theorem lway_den {Ω : List OS} {q L S Mo b} (o : Ow Ω q L S Mo b) (hb : b ≤ 400) (g : Int) : ∃ d, (d = .non ∨ ∃ u, d = w3 u) ∧ d_l_way [.obj 4, .int g] Ω = some (d, Ω) := by
  have hl5 : 5 < Ω.length := (List.getElem?_eq_some_iff.mp o.p5).1
  have q7 := o.q7
  obtain ⟨vs, x', y', z', hloop⟩ := lway_loop (Ω := Ω.set 5 (.fzK (mpA iK D.int L))) (q := q) (L := L) (S := S) (Mo := Mo) (by rw [List.getElem?_set_ne (by decide)]; exact o.p4) (List.getElem?_set_self hl5) (by rw [List.getElem?_set_ne (by decide)]; exact o.p6) (by rw [List.getElem?_set_ne (by omega)]; exact o.pq) g L [] .und .und .und
    (fun p hp => ⟨p.2, getA_of o.kn hp⟩) (by have := o.bL; simp; omega)
  have ek : (mpA iK D.int L).map (fun x => ofK x.1) = L.map fun p => D.int p.1 := by
    unfold mpA
    rw [List.map_map]; rfl
  have s1 : ∀ {t : SDen}, sSeq (sOwn 2 gNil) t [.dat (.obj 4), .dat (.int g), .und, .und, .und, .und, .und] Ω = t [.dat (.obj 4), .dat (.int g), .own [], .und, .und, .und, .und] Ω := seq_nx (by simp)
  have s2 : ∀ {t : SDen}, sSeq (sForK (gDGet (gVar 0) (gC (.str "lengths"))) (bName 3) lwayB) t [.dat (.obj 4), .dat (.int g), .own [], .und, .und, .und, .und] Ω = t [.dat (.obj 4), .dat (.int g), .own (vs.map w3), x', y', z', .und] Ω :=
    seq_nx (forK_nx (n := 5) (kvs := mpA iK D.int L) (by simp [o.p4, ov1]) o.p5 (by rw [ek]; exact hloop))
  have hp := pl_w3s vs
  cases hv : vs with
  | nil =>
    refine ⟨.non, .inl rfl, run_rt rfl (s1.trans (s2.trans ?_))⟩
    subst hv
    have e0 : eqD false (.lst []) (.lst []) = some (.bl true) := eq_self_pl false (by simp [pl, plL]) (by simp [dep, depL])
    simp [frz, e0]
  | cons v0 vr =>
    have e0 : eqD false (.lst (vs.map w3)) (.lst []) = some (.bl false) := eq_ne_pl false (by rw [pl]; exact hp.1) (by simp [pl, plL]) (by rw [dep]; omega) (by simp [dep, depL]) (by rw [hv]; simp)
    have eK := keysT_w3 vs
    rw [hv, List.map_cons] at eK
    rw [hv, List.map_cons] at e0
    have hm : ∃ u, minD ((v0 :: vr).map fun u => [u.1, u.2.1, u.2.2]) (w3 v0 :: vr.map w3) = w3 u := by
      unfold minD
      have hm := L2.mIx_le ((v0 :: vr).map fun u => [u.1, u.2.1, u.2.2]) ((w3 v0 :: vr.map w3).length - 1)
      have hlt : L2.mIx ((v0 :: vr).map fun u => [u.1, u.2.1, u.2.2]) ((w3 v0 :: vr.map w3).length - 1) < (w3 v0 :: vr.map w3).length := by
        rw [List.length_cons] at hm ⊢; omega
      rw [L2.getD_get hlt]
      have : ∀ (i : Nat) (h : i < (w3 v0 :: vr.map w3).length), ∃ u, (w3 v0 :: vr.map w3)[i] = w3 u := fun i h => by
        have h2 : i < ((v0 :: vr).map w3).length := h
        exact ⟨(v0 :: vr)[i]'(by simpa using h2), List.getElem_map (f := w3) (l := v0 :: vr) (h := h2)⟩
      exact this _ hlt
    obtain ⟨u, hu⟩ := hm
    refine ⟨w3 (-u.1, u.2.1, u.2.2), .inr ⟨_, rfl⟩, run_rt rfl (s1.trans (s2.trans ?_))⟩
    rw [hv, List.map_cons]
    have hu2 : minD ([v0.1, v0.2.1, v0.2.2] :: vr.map fun u => [u.1, u.2.1, u.2.2]) (w3 v0 :: vr.map w3) = w3 u := hu
    simp only [List.map_cons] at eK
    rw [show w3 (-u.1, u.2.1, u.2.2) = .tup [.int (-u.1), .int u.2.1, .int u.2.2] from rfl]
    simp [frz, e0, eK, hu2, ix30, ix31, ix32]
end Law
namespace Law
open PySem DL
/-! ### k17: what is drawn -/
theorem mix_den {c k : Int} (hk0 : 0 ≤ k) (hk1 : k ≤ 100) (Ω : List OS) : ∃ x : Int, 0 ≤ x ∧ d_l_mix [.int c, .int k] Ω = some (.int x, Ω) := by
  have e1 : mulD (.int 104729) (.int k) = some (.int (104729 * k)) := mul_i (.inl ⟨by decide, by decide⟩)
  have e2 : mulD (.int 7919) (.int k) = some (.int (7919 * k)) := mul_i (.inl ⟨by decide, by decide⟩)
  have e3 : mulD (.int (7919 * k)) (.int k) = some (.int (7919 * k * k)) := mul_i (.inr ⟨by omega, by omega⟩)
  obtain ⟨x, hx⟩ : ∃ x, x = (c + 104729 * k + 7919 * k * k) % 998244353 := ⟨_, rfl⟩
  have b0 : 0 ≤ x := by rw [hx]; exact Int.emod_nonneg _ (by decide)
  have b1 : x < 998244353 := by rw [hx]; exact Int.emod_lt_of_pos _ (by decide)
  have e4 : mulD (.int x) (.int x) = some (.int (x * x)) := mul_i (.inl ⟨by omega, by omega⟩)
  have e5 : mulD (.int (x * x % 998244353)) (.int 1000003) = some (.int (x * x % 998244353 * 1000003)) := mul_i (.inr ⟨by decide, by decide⟩)
  refine ⟨x * x % 998244353 * 1000003 % 998244353, Int.emod_nonneg _ (by decide), run_rt rfl ?_⟩
  refine (seq_nx (ρ' := [.dat (.int c), .dat (.int k), .dat (.int x)]) (Ω' := Ω) (by simp [e1, e2, e3, hx])).trans ?_
  simp [e4, e5]
theorem at_ex {xs : List Int} (h : xs ≠ []) (m : Int) : ∃ v ∈ xs, L2.atI (xs.map D.int) (m % (xs.length : Int)) = some (.int v) := by
  have hp : 0 < xs.length := List.length_pos_iff.mpr h
  have h0 : 0 ≤ m % (xs.length : Int) := Int.emod_nonneg _ (by omega)
  have h1 : m % (xs.length : Int) < (xs.length : Int) := Int.emod_lt_of_pos _ (by omega)
  have hl : (m % (xs.length : Int)).toNat < xs.length := by omega
  refine ⟨xs[(m % (xs.length : Int)).toNat], List.getElem_mem _, ?_⟩
  rw [atI_of h0 (by simpa using hl), List.getElem_map]
noncomputable def IsDeed (d : D) : Prop := (∃ n l, 0 ≤ n ∧ n < 32 ∧ 0 ≤ l ∧ d = deT n l) ∨ (∃ n, 0 ≤ n ∧ n < 32 ∧ d = deU n) ∨ ∃ n g num f, 0 ≤ n ∧ n < 32 ∧ d = deH n g num f
theorem run_ex {P : D → Prop} {n m : Nat} {s : SDen} {ds : List D} {Ω : List OS} (hl : ds.length = n) (h : ∃ d, P d ∧ ∃ Ω', Ω' = Ω ∧ s (ds.map Sl.dat ++ List.replicate (m - n) Sl.und) Ω = some (.rt d Ω')) : ∃ d, P d ∧ runD n m s ds Ω = some (d, Ω) := by
  obtain ⟨d, h1, _, rfl, h2⟩ := h
  exact ⟨d, h1, run_rt hl h2⟩
noncomputable def RR (hs gs : List Int) (c : Int) (a4 a5 a6 a7 a8 a9 a10 : Sl) : List Sl := [.dat (.obj 4), .dat (.lst (hs.map D.int)), .dat (.lst (gs.map D.int)), .dat (.int c), a4, a5, a6, a7, a8, a9, a10]
theorem drawn_den {Ω : List OS} {q L S Mo b} (o : Ow Ω q L S Mo b) (hb : b ≤ 400) {hs gs : List Int} (hs0 : hs ≠ []) (hsb : ∀ n ∈ hs, 0 ≤ n ∧ n < 32) (gs0 : gs ≠ []) (c : Int) :
    ∃ d, IsDeed d ∧ d_l_drawn [.obj 4, .lst (hs.map D.int), .lst (gs.map D.int), .int c] Ω = some (d, Ω) := by
  obtain ⟨m1, _, e1⟩ := mix_den (c := c) (k := 1) (by omega) (by omega) Ω
  obtain ⟨m2, _, e2⟩ := mix_den (c := c) (k := 2) (by omega) (by omega) Ω
  obtain ⟨m3, h3, e3⟩ := mix_den (c := c) (k := 3) (by omega) (by omega) Ω
  obtain ⟨m4, h4, e4⟩ := mix_den (c := c) (k := 4) (by omega) (by omega) Ω
  obtain ⟨m5, _, e5⟩ := mix_den (c := c) (k := 5) (by omega) (by omega) Ω
  obtain ⟨m6, _, e6⟩ := mix_den (c := c) (k := 6) (by omega) (by omega) Ω
  obtain ⟨m7, _, e7⟩ := mix_den (c := c) (k := 7) (by omega) (by omega) Ω
  obtain ⟨m8, _, e8⟩ := mix_den (c := c) (k := 8) (by omega) (by omega) Ω
  obtain ⟨m9, _, e9⟩ := mix_den (c := c) (k := 9) (by omega) (by omega) Ω
  obtain ⟨m11, _, e11⟩ := mix_den (c := c) (k := 11) (by omega) (by omega) Ω
  obtain ⟨n, hn, en⟩ := at_ex hs0 m1
  obtain ⟨g, hg, eg⟩ := at_ex gs0 m2
  obtain ⟨n0, n1⟩ := hsb n hn
  obtain ⟨d7, hd7, e12⟩ := lway_den o hb g
  have hsp : 0 < hs.length := List.length_pos_iff.mpr hs0
  have gsp : 0 < gs.length := List.length_pos_iff.mpr gs0
  unfold d_l_drawn
  refine run_ex rfl ?_
  have lift : ∀ {s t : SDen} {ρ ρ' : List Sl}, s ρ Ω = some (.nx ρ' Ω) → (∃ d, IsDeed d ∧ ∃ Ω', Ω' = Ω ∧ t ρ' Ω = some (Out.rt d Ω')) → ∃ d, IsDeed d ∧ ∃ Ω', Ω' = Ω ∧ sSeq s t ρ Ω = some (Out.rt d Ω') := fun h ⟨d, h1, Ω', h2, h3⟩ => ⟨d, h1, Ω', h2, (seq_nx h).trans h3⟩
  have stop : ∀ {s t : SDen} {ρ : List Sl} {d : D}, IsDeed d → s ρ Ω = some (.rt d Ω) → ∃ d, IsDeed d ∧ ∃ Ω', Ω' = Ω ∧ sSeq s t ρ Ω = some (Out.rt d Ω') := fun hd h => ⟨_, hd, _, rfl, seq_rt h⟩
  refine lift (ρ' := RR hs gs c (.dat (.int n)) .und .und .und .und .und .und) (by simp [RR, e1, en, hsp]) ?_
  refine lift (ρ' := RR hs gs c (.dat (.int n)) (.dat (.int g)) .und .und .und .und .und) (by simp [RR, e2, eg, gsp]) ?_
  refine lift (ρ' := RR hs gs c (.dat (.int n)) (.dat (.int g)) (.dat (.int (m3 % 16))) .und .und .und .und) (by simp [RR, e3]) ?_
  by_cases c1 : m3 % 16 < 3
  · obtain ⟨l, hl, el⟩ := at_ex (xs := [1 + m4 % 4, 1 + m4 % 99]) (by simp) m5
    have el' : L2.atI [D.int (1 + m4 % 4), D.int (1 + m4 % 99)] (m5 % 2) = some (.int l) := el
    have l0 : 0 ≤ l := by
      have a1 := Int.emod_nonneg m4 (b := 4) (by decide)
      have a2 := Int.emod_nonneg m4 (b := 99) (by decide)
      simp at hl
      omega
    refine stop (d := deT n l) (.inl ⟨n, l, n0, n1, l0, rfl⟩) ?_
    simp [RR, c1, e4, e5, el', deT]
  refine lift (ρ' := RR hs gs c (.dat (.int n)) (.dat (.int g)) (.dat (.int (m3 % 16))) .und .und .und .und) (by simp [RR, c1]) ?_
  by_cases c2 : m3 % 16 = 3
  · refine stop (d := deU n) (.inr (.inl ⟨n, n0, n1, rfl⟩)) ?_
    simp [RR, c2, deU]
  refine lift (ρ' := RR hs gs c (.dat (.int n)) (.dat (.int g)) (.dat (.int (m3 % 16))) .und .und .und .und) (by simp [RR, c2]) ?_
  refine lift (ρ' := RR hs gs c (.dat (.int n)) (.dat (.int g)) (.dat (.int (m3 % 16))) (.dat d7) .und .und .und) (by simp [RR, e12]) ?_
  obtain ⟨p, hp⟩ : ∃ p, (Option.map mkD (getA Mo g)).getD (.tup [.int 1, .int 3]) = mkD p := by
    cases getA Mo g with
    | none => exact ⟨(1, 3), rfl⟩
    | some p => exact ⟨p, rfl⟩
  have s7 : (∃ u l, d7 = w3 u ∧ getA L n = some l ∧ m11 % 5 = 0) ∨ ((d7 = .non ∨ ∃ u, d7 = w3 u ∧ (getA L n = none ∨ (getA L n ≠ none ∧ m11 % 5 ≠ 0)))) := by
    rcases hd7 with h | ⟨u, hu⟩
    · exact .inr (.inl h)
    · cases hl : getA L n with
      | none => exact .inr (.inr ⟨u, hu, .inl rfl⟩)
      | some l =>
        by_cases h5 : m11 % 5 = 0
        · exact .inl ⟨u, l, hu, rfl, h5⟩
        · exact .inr (.inr ⟨u, hu, .inr ⟨by simp, h5⟩⟩)
  rcases s7 with ⟨u, l, rfl, hl, h5⟩ | s7
  · refine stop (d := deH n g u.1 (some (if u.2.1 - l > 0 then u.2.1 - l else 0))) (.inr (.inr ⟨n, g, _, _, n0, n1, rfl⟩)) ?_
    have hw : isD true (w3 u) .non = some (.bl true) := by simp [w3, isD, isNone]
    simp [RR, hw, o.p4, ov1, o.p5, vL, hl, e11, h5, ix30, ix31, deH, faD]
  refine lift (ρ' := RR hs gs c (.dat (.int n)) (.dat (.int g)) (.dat (.int (m3 % 16))) (.dat d7) .und .und .und) (by
    rcases s7 with rfl | ⟨u, rfl, hl | ⟨hl, h5⟩⟩
    · simp [RR, isD, isNone]
    · have hw : isD true (w3 u) .non = some (.bl true) := by simp [w3, isD, isNone]
      simp [RR, hw, o.p4, ov1, o.p5, vL, hl]
    · have hw : isD true (w3 u) .non = some (.bl true) := by simp [w3, isD, isNone]
      obtain ⟨l, hl⟩ := Option.ne_none_iff_exists'.mp hl
      simp [RR, hw, o.p4, ov1, o.p5, vL, hl, e11, h5]) ?_
  refine lift (ρ' := RR hs gs c (.dat (.int n)) (.dat (.int g)) (.dat (.int (m3 % 16))) (.dat d7) (.dat (mkD p)) .und .und) (by simp [RR, o.p4, ov3, o.pq, vM, hp]) ?_
  obtain ⟨a6, _, ea6⟩ := at_ex (xs := [0, 0, 0, 1, -1, 2]) (by simp) m4
  have ea6' : L2.atI [D.int 0, D.int 0, D.int 0, D.int 1, D.int (-1), D.int 2] (m4 % 6) = some (.int a6) := ea6
  have ip0 : ixD (mkD p) (.int 0) = some (.int p.1) := by simp [mkD]
  have ip1 : ixD (mkD p) (.int 1) = some (.int p.2) := by simp [mkD]
  refine lift (ρ' := RR hs gs c (.dat (.int n)) (.dat (.int g)) (.dat (.int (m3 % 16))) (.dat d7) (.dat (mkD p)) (.dat (.int (if p.1 + a6 > 1 then p.1 + a6 else 1))) .und) (by simp [RR, e4, ip0, ea6']) ?_
  obtain ⟨f, _, ef⟩ := at_ex (xs := [m5 % 9, p.2, p.2 - 1, p.2 + 1]) (by simp) m6
  have ef' : L2.atI [D.int (m5 % 9), D.int p.2, D.int (p.2 - 1), D.int (p.2 + 1)] (m6 % 4) = some (.int f) := ef
  refine lift (ρ' := RR hs gs c (.dat (.int n)) (.dat (.int g)) (.dat (.int (m3 % 16))) (.dat d7) (.dat (mkD p)) (.dat (.int (if p.1 + a6 > 1 then p.1 + a6 else 1))) (.dat (.int f))) (by simp [RR, e5, e6, ip1, ef']) ?_
  have e10 : mulD (.int m8) (.int 1000) = some (.int (m8 * 1000)) := mul_i (.inr ⟨by decide, by decide⟩)
  generalize (if p.1 + a6 > 1 then p.1 + a6 else 1) = nm
  have fin : ∀ (nm f : Int), ∃ d, IsDeed d ∧ ∃ Ω', Ω' = Ω ∧ sSeq (sIf (gT (gOp (eqD false) (gOp modD (gCall d_l_mix (gCons (gVar 3) (gCons (gC (.int 7)) gNil))) (gC (.int 7))) (gC (.int 1)))) (sSet 10 (gC .non)) sNext) (sRet (gTup (gCons (gC (.str "hear")) (gCons (gVar 4) (gCons (gVar 5) (gCons (gVar 9) (gCons (gVar 10) gNil)))))))
      (RR hs gs c (.dat (.int n)) (.dat (.int g)) (.dat (.int (m3 % 16))) (.dat d7) (.dat (mkD p)) (.dat (.int nm)) (.dat (.int f))) Ω = some (Out.rt d Ω') := fun nm f => by
    by_cases h7 : m7 % 7 = 1
    · refine lift (ρ' := RR hs gs c (.dat (.int n)) (.dat (.int g)) (.dat (.int (m3 % 16))) (.dat d7) (.dat (mkD p)) (.dat (.int nm)) (.dat .non)) (by simp [RR, e7, h7]) ?_
      exact ⟨deH n g nm none, .inr (.inr ⟨n, g, _, _, n0, n1, rfl⟩), Ω, rfl, by simp [RR, deH, faD]⟩
    · refine lift (ρ' := RR hs gs c (.dat (.int n)) (.dat (.int g)) (.dat (.int (m3 % 16))) (.dat d7) (.dat (mkD p)) (.dat (.int nm)) (.dat (.int f))) (by simp [RR, e7, h7]) ?_
      exact ⟨deH n g nm (some f), .inr (.inr ⟨n, g, _, _, n0, n1, rfl⟩), Ω, rfl, by simp [RR, deH, faD]⟩
  by_cases h40 : m7 % 40 = 0
  · refine lift (ρ' := RR hs gs c (.dat (.int n)) (.dat (.int g)) (.dat (.int (m3 % 16))) (.dat d7) (.dat (mkD p)) (.dat (.int (1 + m8 * 1000))) (.dat (.int m9))) (by simp [RR, e7, h40, e8, e9, e10]) ?_
    exact fin _ _
  · refine lift (ρ' := RR hs gs c (.dat (.int n)) (.dat (.int g)) (.dat (.int (m3 % 16))) (.dat d7) (.dat (mkD p)) (.dat (.int nm)) (.dat (.int f))) (by simp [RR, e7, h40]) ?_
    exact fin _ _
end Law
namespace Law
open PySem DL
/-! ### k17: what the law does itself -/
theorem set_same {Ω : List OS} {i : Nat} {o : OS} (h : Ω[i]? = some o) : Ω.set i o = Ω := by
  apply List.ext_getElem?
  intro j
  by_cases e : i = j
  · subst e; rw [set_at h, h]
  · rw [List.getElem?_set_ne e]
theorem done_tie {Ω : List OS} {q L S Mo b} (o : Ow Ω q L S Mo b) (hb : b ≤ 400) (n l : Int) : d_l_done [.obj 4, deT n l] Ω = some (.non, Ω.set 5 (.dK (mpA iK D.int (putA L n l)))) := by
  have hl : L.length < 100000 := by have := o.bL; omega
  have e1 : putD (mpA iK D.int L) (.inl n) (.int l) = mpA iK D.int (putA L n l) := put_mp iK_inj D.int L n l
  refine run_nx (ρ' := [.dat (.obj 4), .dat (deT n l), .und]) rfl ?_
  simp [deT, o.p4, ov1, o.p5, hl, e1]
theorem done_he {Ω : List OS} {q L S Mo b} (o : Ow Ω q L S Mo b) (hb : b ≤ 400) (n g num : Int) (f : Option Int) : d_l_done [.obj 4, deH n g num f] Ω = some (.non, Ω.set 6 (.dT (mpA pK tlD (putA S (g, n) (num, f))))) := by
  have hl : S.length < 100000 := by have := o.bS; omega
  have htl : tlD (num, f) = .tup [.int num, faD f] := rfl
  have e1 : putD (mpA pK tlD S) [.inl g, .inl n] (tlD (num, f)) = mpA pK tlD (putA S (g, n) (num, f)) := put_mp pK_inj tlD S (g, n) (num, f)
  rw [htl] at e1
  refine run_nx (ρ' := [.dat (.obj 4), .dat (deH n g num f), .und]) rfl ?_
  simp [deH, o.p4, ov2, o.p6, hl, e1]
noncomputable def unB : SDen := (sIf (gT (gOp (eqD false) (gOp ixD (gVar 2) (gC (.int 1))) (gOp ixD (gVar 1) (gC (.int 1))))) (sExpr (gDPop (gDGet (gVar 0) (gC (.str "told"))) (gVar 2))) sNext)
theorem un_loop {q : Nat} (n : Int) : ∀ (rest : List (Int × Int)) (S : List ((Int × Int) × Tl)) (Ω : List OS) (x : Sl), Ω[4]? = some (.dK (ownK q)) → Ω[6]? = some (.dT (mpA pK tlD S)) → rest.Nodup → (∀ k ∈ rest, k.2 = n → getA S k ≠ none) → (S.map (·.1)).Nodup →
    ∃ x' S', forD (bName 2) unB (rest.map fun k => D.tup [.int k.1, .int k.2]) [.dat (.obj 4), .dat (deU n), x] Ω = some (.nx [.dat (.obj 4), .dat (deU n), x'] (Ω.set 6 (.dT (mpA pK tlD S')))) ∧ (∀ k, getA S' k = if k ∈ rest ∧ k.2 = n then none else getA S k) ∧ (S'.map (·.1)).Nodup ∧ S'.length ≤ S.length
  | [], S, Ω, x, h4, h6, _, _, hS => ⟨x, S, by rw [set_same h6]; rfl, fun k => by simp, hS, Nat.le_refl _⟩
  | (g, m) :: rest, S, Ω, x, h4, h6, hn, hk, hS => by
    rw [List.nodup_cons] at hn
    rw [List.map_cons, for_cons]
    by_cases e : m = n
    · subst e
      have hin := hk (g, m) List.mem_cons_self rfl
      obtain ⟨t, ht⟩ := Option.ne_none_iff_exists'.mp hin
      have e1 : dropD (mpA pK tlD S) [.inl g, .inl m] = mpA pK tlD (cutA S (g, m)) := drop_mp pK_inj tlD S (g, m)
      have h6' : (Ω.set 6 (.dT (mpA pK tlD (cutA S (g, m)))))[6]? = some (.dT (mpA pK tlD (cutA S (g, m)))) := set_at h6
      obtain ⟨x', S', a1, a2, a3, a4⟩ := un_loop (q := q) m rest (cutA S (g, m)) (Ω.set 6 (.dT (mpA pK tlD (cutA S (g, m))))) (.dat (.tup [.int g, .int m])) (by rw [List.getElem?_set_ne (by decide)]; exact h4) h6' hn.2
        (fun k hk' e => by
          rw [getA_cut, if_neg (fun z => hn.1 (by rw [← z]; exact hk'))]
          exact hk k (List.mem_cons_of_mem _ hk') e) (nodup_cutA hS _)
      rw [List.set_set] at a1
      refine ⟨x', S', Eq.trans ?_ a1, fun k => ?_, a3, Nat.le_trans a4 (len_cutA _ _)⟩
      · simp [unB, deU, h4, ov2, h6, vS, ht, e1]
      · rw [a2, getA_cut]
        by_cases c1 : k = (g, m)
        · subst c1; simp
        · simp [c1]
    · obtain ⟨x', S', a1, a2, a3, a4⟩ := un_loop (q := q) n rest S Ω (.dat (.tup [.int g, .int m])) h4 h6 hn.2 (fun k hk' e => hk k (List.mem_cons_of_mem _ hk') e) hS
      refine ⟨x', S', Eq.trans ?_ a1, fun k => ?_, a3, a4⟩
      · simp [unB, deU, e]
      · rw [a2]
        by_cases c1 : k = (g, m)
        · subst c1; simp [e]
        · simp [c1]
theorem done_un {Ω : List OS} {q L S Mo b} (o : Ow Ω q L S Mo b) {n l : Int} (hn : getA L n = some l) : ∃ S', d_l_done [.obj 4, deU n] Ω = some (.non, (Ω.set 5 (.dK (mpA iK D.int (cutA L n)))).set 6 (.dT (mpA pK tlD S'))) ∧
    (∀ g m, getA S' (g, m) = if m = n then none else getA S (g, m)) ∧ (S'.map (·.1)).Nodup ∧ S'.length ≤ S.length := by
  have e1 : dropD (mpA iK D.int L) (.inl n) = mpA iK D.int (cutA L n) := drop_mp iK_inj D.int L n
  have a4 : (Ω.set 5 (.dK (mpA iK D.int (cutA L n))))[4]? = some (.dK (ownK q)) := by rw [List.getElem?_set_ne (by decide)]; exact o.p4
  have a6 : (Ω.set 5 (.dK (mpA iK D.int (cutA L n))))[6]? = some (.dT (mpA pK tlD S)) := by rw [List.getElem?_set_ne (by decide)]; exact o.p6
  obtain ⟨x', S', b1, b2, b3, b4⟩ := un_loop (q := q) n (S.map (·.1)) S _ .und a4 a6 o.nd (fun k hk _ z => getA_none.mp z hk) o.nd
  refine ⟨S', run_nx (ρ' := [.dat (.obj 4), .dat (deU n), x']) rfl ?_, fun g m => ?_, b3, b4⟩
  · have ek : (mpA pK tlD S).map (fun x => D.tup (x.1.map ofK)) = (S.map (·.1)).map fun k => D.tup [.int k.1, .int k.2] := by
      unfold mpA
      rw [List.map_map, List.map_map]; rfl
    have s0 : ∀ {s t u : SDen} , sIf (gT (gOp (eqD false) (gOp ixD (gVar 1) (gC (.int 0))) (gC (.str "tie")))) s (sIf (gT (gOp (eqD false) (gOp ixD (gVar 1) (gC (.int 0))) (gC (.str "untie")))) t u) [.dat (.obj 4), .dat (deU n), .und] Ω = t [.dat (.obj 4), .dat (deU n), .und] Ω := by
      intro s t u
      simp [deU]
    refine s0.trans ((seq_nx (ρ' := [.dat (.obj 4), .dat (deU n), .und]) (Ω' := Ω.set 5 (.dK (mpA iK D.int (cutA L n)))) (by simp [deU, o.p4, ov1, o.p5, vL, hn, e1])).trans ?_)
    generalize Ω.set 5 (.dK (mpA iK D.int (cutA L n))) = Ω1 at *
    refine Eq.trans ?_ b1
    have hs : gSeq (gDList (gDGet (gVar 0) (gC (.str "told")))) [.dat (.obj 4), .dat (deU n), .und] Ω1 = some ((S.map (·.1)).map fun k => D.tup [.int k.1, .int k.2], Ω1) := by
      rw [← ek]
      simp [a4, ov2, a6]
    rw [ap_for, hs]
    rfl
  · rw [b2]
    by_cases c1 : m = n
    · by_cases c2 : (g, m) ∈ S.map (·.1)
      · simp [c1] at c2 ⊢
        intro h; exact absurd c2 (by simpa using h)
      · have := getA_none.mpr c2
        rw [if_neg (fun z => c2 z.1), if_pos c1, this]
    · rw [if_neg (fun z => c1 z.2), if_neg c1]
end Law
namespace Law
open PySem DL
structure Lnk (L : List (Int × Int)) (X : Int → List (Int × Tl)) (S : List ((Int × Int) × Tl)) : Prop where
  k1 : ∀ g n l, getA L n = some l → getA S (g, n) = getA (X n) g
  k2 : ∀ g n, getA L n = none → getA S (g, n) = none
noncomputable def IV (L : List (Int × Int)) (X : Int → List (Int × Tl)) (M : List (Int × (Int × Int))) (g : Int) : Prop := ∀ n l num f, getA L n = some l → getA (X n) g = some (num, some f) → ∃ p, getA M g = some p ∧ num ≤ p.1 ∧ (num = p.1 → p.2 ≤ f + l)
theorem mem_us {L X m} {g n : Int} {u : Int × Int × Int} : u ∈ us L X m g n ↔ ∃ num f, getA (X n) g = some (num, some f) ∧ mayB m num (some f) = true ∧ u = (num, f + (getA L n).getD 0, n) := by
  unfold us
  constructor
  · intro h
    split at h
    · rename_i num f e
      split at h
      · rename_i hm
        rw [List.mem_singleton] at h
        exact ⟨num, f, e, hm, h⟩
      · cases h
    · cases h
  · rintro ⟨num, f, e, hm, rfl⟩
    rw [e]
    dsimp only
    rw [if_pos hm]
    exact List.mem_singleton.mpr rfl
theorem mem_Us {L X m} {g : Int} (kn : (L.map (·.1)).Nodup) {u : Int × Int × Int} : u ∈ Us L X m g ↔ ∃ n l num f, getA L n = some l ∧ getA (X n) g = some (num, some f) ∧ mayB m num (some f) = true ∧ u = (num, f + l, n) := by
  unfold Us
  rw [List.mem_flatMap]
  constructor
  · rintro ⟨n, hn, hu⟩
    obtain ⟨num, f, e1, e2, e3⟩ := mem_us.mp hu
    cases q : getA L n with
    | none => exact absurd hn (getA_none.mp q)
    | some l => exact ⟨n, l, num, f, q, e1, e2, by rw [e3, q]; rfl⟩
  · rintro ⟨n, l, num, f, h1, h2, h3, rfl⟩
    exact ⟨n, List.mem_map.mpr ⟨_, getA_mem h1, rfl⟩, mem_us.mpr ⟨num, f, h2, h3, by rw [h1]; rfl⟩⟩
noncomputable def bestB : SDen := (sIf (gT (gDIn false (gTup (gCons (gVar 2) (gCons (gVar 6) gNil))) (gDGet (gVar 1) (gC (.str "told"))))) (sSeq (sAsg (bTup [7, 8]) (gDGet (gDGet (gVar 1) (gC (.str "told"))) (gTup (gCons (gVar 2) (gCons (gVar 6) gNil))))) (sIf (gT (gCall d_may_use (gCons (gVar 4) (gCons (gVar 7) (gCons (gVar 8) gNil))))) (sSeq (sSet 9 (gTup (gCons (gNeg (gVar 7)) (gCons (gOp addD (gVar 8) (gDGet (gDGet (gVar 1) (gC (.str "lengths"))) (gVar 6))) (gCons (gVar 6) gNil))))) (sIf (gOrT (gT (gOp (isD false) (gVar 3) (gC .non))) (gT (gOp ltTD (gVar 9) (gTup (gCons (gNeg (gOp ixD (gVar 3) (gC (.int 0)))) (gCons (gOp ixD (gVar 3) (gC (.int 1))) (gCons (gOp ixD (gVar 3) (gC (.int 2))) gNil))))))) (sRet (gC (.bl false))) sNext)) sNext)) sNext)
theorem ltT3 (a b c x y z : Int) : ltTD (.tup [.int a, .int b, .int c]) (.tup [.int x, .int y, .int z]) = some (.bl (HT.lexLt [a, b, c] [x, y, z])) := (rfl)
theorem best_loop {Ω : List OS} {q : Nat} {L : List (Int × Int)} {S : List ((Int × Int) × Tl)} (p4 : Ω[4]? = some (.dK (ownK q))) (p5 : Ω[5]? = some (.fzK (mpA iK D.int L))) (p6 : Ω[6]? = some (.dT (mpA pK tlD S))) (g : Int) (m : Option (Int × Int)) (d : D) (a5 : Sl) :
    ∀ (rest : List (Int × Int)) (x y z t : Sl), (∀ p ∈ rest, ∃ l, getA L p.1 = some l ∧ ∀ num f, getA S (g, p.1) = some (num, some f) → mayB m num (some f) = true → ∃ u, d = w3 u ∧ HT.lexLt [-num, f + l, p.1] (key3 u) = false) →
      ∃ (x' y' z' t' : Sl), forD (bName 6) bestB (rest.map fun p => D.int p.1) [.dat (.obj 0), .dat (.obj 4), .dat (.int g), .dat d, .dat (mOD m), a5, x, y, z, t] Ω = some (.nx [.dat (.obj 0), .dat (.obj 4), .dat (.int g), .dat d, .dat (mOD m), a5, x', y', z', t'] Ω)
  | [], x, y, z, t, _ => ⟨x, y, z, t, by simp⟩
  | (n, l0) :: rest, x, y, z, t, hT => by
    obtain ⟨l, hL, hmin⟩ := hT (n, l0) List.mem_cons_self
    dsimp only at hL hmin
    have ih := fun x y z t => best_loop p4 p5 p6 g m d a5 rest x y z t (fun p hp => hT p (List.mem_cons_of_mem _ hp))
    rw [List.map_cons, for_cons]
    cases e : getA S (g, n) with
    | none =>
      obtain ⟨x', y', z', t', ih⟩ := ih (.dat (.int n)) y z t
      refine ⟨x', y', z', t', Eq.trans ?_ ih⟩
      simp [bestB, p4, ov2, p6, vS, e]
    | some tl =>
      obtain ⟨num, f⟩ := tl
      have hm := may_den m num f Ω
      cases hb : mayB m num f with
      | false =>
        rw [hb] at hm
        obtain ⟨x', y', z', t', ih⟩ := ih (.dat (.int n)) (.dat (.int num)) (.dat (faD f)) t
        refine ⟨x', y', z', t', Eq.trans ?_ ih⟩
        simp [bestB, p4, ov2, p6, vS, e, tlD, bNames, hm]
      | true =>
        cases f with
        | none => cases hb
        | some f =>
          rw [hb] at hm
          have ef : faD (some f) = .int f := rfl
          rw [ef] at hm
          obtain ⟨u, rfl, hlt⟩ := hmin num f e hb
          have hw : isD false (w3 u) .non = some (.bl false) := by simp [w3, isD, isNone]
          obtain ⟨x', y', z', t', ih⟩ := ih (.dat (.int n)) (.dat (.int num)) (.dat (.int f)) (.dat (.tup [.int (-num), .int (f + l), .int n]))
          refine ⟨x', y', z', t', Eq.trans ?_ ih⟩
          have hl2 : HT.lexLt [-num, f + l, n] [-u.1, u.2.1, u.2.2] = false := hlt
          simp [bestB, p4, p5, ov1, ov2, p6, vS, vL, e, ef, tlD, bNames, hm, hL, hw, ix30, ix31, ix32, ltT3, hl2]
theorem bt_iff {a b p q : Int} : bt a b p q = true ↔ a > p ∨ (a = p ∧ b < q) := by simp [bt]
theorem best_den {Ω : List OS} {L T X M b q S Mo} (h : Wy Ω L T X M b) (o : Ow Ω q L S Mo b) (hb : b ≤ 400) (lk : Lnk L X S) {g : Int} (iv : IV L X M g) : d_l_best [.obj 0, .obj 4, .int g] Ω = some (.bl true, Ω) := by
  obtain ⟨d, hd, ed⟩ := way_den h (by omega) g
  have hk := mark_den h g
  have hl5 : 5 < Ω.length := (List.getElem?_eq_some_iff.mp o.p5).1
  have s1 : ∀ {t : SDen}, sSeq (sSet 3 (gMeth "Ways" "way" d_Ways_way [] (gVar 0) (gCons (gVar 2) gNil))) t [.dat (.obj 0), .dat (.obj 4), .dat (.int g), .und, .und, .und, .und, .und, .und, .und] Ω = t [.dat (.obj 0), .dat (.obj 4), .dat (.int g), .dat d, .und, .und, .und, .und, .und, .und] Ω := seq_nx (by simp [h.o0, k_way, ed])
  have s2 : ∀ {t : SDen}, sSeq (sSet 4 (gMeth "Ways" "mark" d_Ways_mark [] (gVar 0) (gCons (gVar 2) gNil))) t [.dat (.obj 0), .dat (.obj 4), .dat (.int g), .dat d, .und, .und, .und, .und, .und, .und] Ω = t [.dat (.obj 0), .dat (.obj 4), .dat (.int g), .dat d, .dat (mOD (getA M g)), .und, .und, .und, .und, .und] Ω := seq_nx (by simp [h.o0, k_mark, hk])
  have hmin : ∀ p ∈ L, ∃ l, getA L p.1 = some l ∧ ∀ num f, getA S (g, p.1) = some (num, some f) → mayB (getA M g) num (some f) = true → ∃ u, d = w3 u ∧ HT.lexLt [-num, f + l, p.1] (key3 u) = false := fun p hp => by
    have hl := getA_of o.kn hp
    refine ⟨p.2, hl, fun num f e hm => ?_⟩
    rw [lk.k1 g p.1 p.2 hl] at e
    have hu : (num, f + p.2, p.1) ∈ Us L X (getA M g) g := (mem_Us h.kn).mpr ⟨p.1, p.2, num, f, hl, e, hm, rfl⟩
    rcases hd with ⟨e0, _⟩ | ⟨u, hB, rfl⟩
    · rw [e0] at hu; cases hu
    · exact ⟨u, rfl, hB.2 _ hu⟩
  have ek : (mpA iK D.int L).map (fun x => ofK x.1) = L.map fun p => D.int p.1 := by
    unfold mpA
    rw [List.map_map]; rfl
  have s4 : ∀ a5, (sSeq (sForK (gDGet (gVar 1) (gC (.str "lengths"))) (bName 6) bestB) (sRet (gC (.bl true)))) [.dat (.obj 0), .dat (.obj 4), .dat (.int g), .dat d, .dat (mOD (getA M g)), a5, .und, .und, .und, .und] Ω = some (.rt (.bl true) Ω) := fun a5 => by
    obtain ⟨x', y', z', t', hloop⟩ := best_loop (Ω := Ω.set 5 (.fzK (mpA iK D.int L))) (q := q) (by rw [List.getElem?_set_ne (by decide)]; exact o.p4) (List.getElem?_set_self hl5) (by rw [List.getElem?_set_ne (by decide)]; exact o.p6) g (getA M g) d a5 L .und .und .und .und hmin
    refine (seq_nx (forK_nx (n := 5) (kvs := mpA iK D.int L) (by simp [o.p4, ov1]) o.p5 (by rw [ek]; exact hloop))).trans ?_
    simp
  refine run_rt rfl (s1.trans (s2.trans ?_))
  rcases hd with ⟨e0, rfl⟩ | ⟨u, hB, rfl⟩
  · exact (seq_nx (by simp [isD, isNone])).trans (s4 .und)
  · obtain ⟨n, l, num, f, h1, h2, h3, rfl⟩ := (mem_Us h.kn).mp hB.1
    obtain ⟨p, hp, hp1, hp2⟩ := iv n l num f h1 h2
    have hS : getA S (g, n) = some (num, some f) := by rw [lk.k1 g n l h1]; exact h2
    rw [hp] at h3
    have hbt : bt num f p.1 p.2 = true := h3
    have hnum : num = p.1 := by
      rcases bt_iff.mp hbt with z | z
      · omega
      · exact z.1
    have hle : p.2 ≤ f + l := hp2 hnum
    have hw : isD true (w3 (num, f + l, n)) .non = some (.bl true) := by simp [w3, isD, isNone]
    have hm0 : isD false (mkD p) .non = some (.bl false) := by simp [mkD, isD, isNone]
    have ip0 : ixD (mkD p) (.int 0) = some (.int p.1) := by simp [mkD]
    have ip1 : ixD (mkD p) (.int 1) = some (.int p.2) := by simp [mkD]
    have it0 : ixD (tlD (num, some f)) (.int 0) = some (.int num) := by simp [tlD]
    have it1 : ixD (tlD (num, some f)) (.int 1) = some (.int f) := by simp [tlD, faD]
    have hbd : d_better [tlD (num, some f), mkD p] Ω = some (.bl true, Ω) := by
      have := better_den num f p.1 p.2 Ω
      rw [hbt] at this
      exact this
    have hnl : ¬ (f + l < p.2) := by omega
    have emO : mOD (getA M g) = mkD p := by rw [hp]; rfl
    rw [emO] at s4 ⊢
    have hif : isD false (.int f) .non = some (.bl false) := by simp [isD, isNone]
    refine (seq_nx (ρ' := [.dat (.obj 0), .dat (.obj 4), .dat (.int g), .dat (w3 (num, f + l, n)), .dat (mkD p), .dat (tlD (num, some f)), .und, .und, .und, .und]) (Ω' := Ω) ?_).trans (s4 _)
    simp [hw, hm0, ix30, ix31, ix32, ip0, ip1, it0, it1, hnum.symm, hnl, o.p4, ov1, ov2, o.p5, o.p6, vS, vL, hS, h1, hif, hbd]
end Law
namespace Law
open PySem DL
/-! ### k17: a deed -/
noncomputable def Mono (M M' : List (Int × (Int × Int))) : Prop := ∀ g p, getA M g = some p → ∃ p', getA M' g = some p' ∧ (p' = p ∨ bt p'.1 p'.2 p.1 p.2 = true)
theorem Mono.refl (M : List (Int × (Int × Int))) : Mono M M := fun g p h => ⟨p, h, .inl rfl⟩
theorem not_may {m : Option (Int × Int)} {num f : Int} (h : ¬ mayB m num (some f) = true) : ∃ p, m = some p ∧ num ≤ p.1 ∧ (num = p.1 → p.2 ≤ f) := by
  cases m with
  | none => exact absurd rfl h
  | some p =>
    refine ⟨p, rfl, ?_⟩
    have hb : ¬ bt num f p.1 p.2 = true := h
    rw [bt_iff, not_or] at hb
    refine ⟨by omega, fun e => ?_⟩
    have := hb.2
    omega
theorem iv_hear {L X M} (kn : (L.map (·.1)).Nodup) (l0 : ∀ n l, getA L n = some l → 0 ≤ l) (iv : ∀ g, IV L X M g) {n g num : Int} {f : Option Int} {M' : List (Int × (Int × Int))}
    (hM : (Us L (upX X n (putA (X n) g (num, f))) (getA M g) g = [] ∧ M' = M) ∨ ∃ u, Best (Us L (upX X n (putA (X n) g (num, f))) (getA M g) g) u ∧ M' = putA M g (bet (getA M g) u.1 u.2.1)) :
    (∀ g', IV L (upX X n (putA (X n) g (num, f))) M' g') ∧ Mono M M' := by
  have hX : ∀ g' n', g' ≠ g → getA (upX X n (putA (X n) g (num, f)) n') g' = getA (X n') g' := fun g' n' hg => by
    unfold upX
    split
    · rename_i e
      rw [e, getA_put, if_neg hg]
    · rfl
  have hM' : ∀ g', g' ≠ g → getA M' g' = getA M g' := fun g' hg => by
    rcases hM with ⟨_, rfl⟩ | ⟨u, _, rfl⟩
    · rfl
    · rw [getA_put, if_neg hg]
  generalize upX X n (putA (X n) g (num, f)) = X' at *
  refine ⟨fun g' => ?_, fun g' p hp => ?_⟩
  · intro n' l' num' f' h1 h2
    by_cases hg : g' = g
    · subst hg
      have hl := l0 n' l' h1
      rcases hM with ⟨e0, rfl⟩ | ⟨u, hB, rfl⟩
      · have : ¬ mayB (getA M' g') num' (some f') = true := fun z => by
          have : (num', f' + l', n') ∈ Us L X' (getA M' g') g' := (mem_Us kn).mpr ⟨n', l', num', f', h1, h2, z, rfl⟩
          rw [e0] at this; cases this
        obtain ⟨p, e1, e2, e3⟩ := not_may this
        exact ⟨p, e1, e2, fun z => by have := e3 z; omega⟩
      · obtain ⟨wn, wl, num2, f2, w1, w2, w3', rfl⟩ := (mem_Us kn).mp hB.1
        refine ⟨_, by rw [getA_put, if_pos rfl], ?_⟩
        by_cases hm : mayB (getA M g') num' (some f') = true
        · have hv := hB.2 _ ((mem_Us kn).mpr ⟨n', l', num', f', h1, h2, hm, rfl⟩)
          have hv' : HT.lexLt [-num', f' + l', n'] [-num2, f2 + wl, wn] = false := hv
          rw [HT.lexLt_cons] at hv'
          have c1 : num' ≤ num2 ∧ (num' = num2 → f2 + wl ≤ f' + l') := by
            by_cases e : -num' = -num2
            · rw [if_pos e, HT.lexLt_cons] at hv'
              refine ⟨by omega, fun _ => ?_⟩
              by_cases e2 : f' + l' = f2 + wl
              · omega
              · rw [if_neg e2] at hv'
                have := of_decide_eq_false hv'
                omega
            · rw [if_neg e] at hv'
              have := of_decide_eq_false hv'
              exact ⟨by omega, fun z => by omega⟩
          unfold bet
          cases hq : getA M g' with
          | none => exact c1
          | some p =>
            dsimp only
            split
            · exact c1
            · refine ⟨c1.1, fun z => ?_⟩
              have := c1.2 z
              dsimp only
              split <;> omega
        · obtain ⟨p, e1, e2, e3⟩ := not_may hm
          rw [e1] at w3' ⊢
          have hbt : bt num2 f2 p.1 p.2 = true := w3'
          have hge := bt_iff.mp hbt
          unfold bet
          dsimp only
          split
          · rename_i hgt
            exact ⟨by dsimp only; omega, fun z => by dsimp only at z; omega⟩
          · rename_i hgt
            refine ⟨by dsimp only; omega, fun z => ?_⟩
            dsimp only at z ⊢
            have := e3 (by omega)
            split <;> omega
    · rw [hX g' n' hg] at h2
      obtain ⟨p, e1, e2⟩ := iv g' n' l' num' f' h1 h2
      exact ⟨p, by rw [hM' g' hg]; exact e1, e2⟩
  · by_cases hg : g' = g
    · subst hg
      rcases hM with ⟨e0, rfl⟩ | ⟨u, hB, rfl⟩
      · exact ⟨p, hp, .inl rfl⟩
      · obtain ⟨wn, wl, num2, f2, w1, w2, w3', rfl⟩ := (mem_Us kn).mp hB.1
        refine ⟨_, by rw [getA_put, if_pos rfl], ?_⟩
        rw [hp] at w3' ⊢
        have hbt : bt num2 f2 p.1 p.2 = true := w3'
        have hge := bt_iff.mp hbt
        unfold bet
        dsimp only
        split
        · rename_i hgt
          exact .inr (bt_iff.mpr (.inl hgt))
        · rename_i hgt
          split
          · rename_i hlt
            exact .inr (bt_iff.mpr (.inr ⟨by dsimp only; omega, hlt⟩))
          · left
            obtain ⟨p1, p2⟩ := p
            dsimp only at *
            have : num2 = p1 := by omega
            rw [this]
    · exact ⟨p, by rw [hM' g' hg]; exact hp, .inl rfl⟩
theorem Wy.of_eq {Ω Ω' : List OS} {L T X M b} (h : Wy Ω L T X M b) (hl : Ω.length ≤ Ω'.length) (e : ∀ j, j < Ω.length → (j < 4 ∨ j ∈ T.map (·.2)) → Ω'[j]? = Ω[j]?) : Wy Ω' L T X M b := by
  have h8 := h.bg
  exact ⟨by rw [e 0 (by omega) (.inl (by decide))]; exact h.o0, by rw [e 1 (by omega) (.inl (by decide))]; exact h.o1, by rw [e 2 (by omega) (.inl (by decide))]; exact h.o2, by rw [e 3 (by omega) (.inl (by decide))]; exact h.o3,
    fun n i hi => ⟨(h.ot n i hi).1, by rw [e i (h.lt hi) (.inr (List.mem_map.mpr ⟨_, hi, rfl⟩))]; exact (h.ot n i hi).2⟩, h.ti, h.kt, h.kn, h.bL, h.bM, h.bX, Nat.le_trans h8 hl⟩
theorem Wy.T8 {Ω : List OS} {L T X M b} (h : Wy Ω L T X M b) {j : Nat} (hj : j ∈ T.map (·.2)) : 8 ≤ j := by
  obtain ⟨p, hp, rfl⟩ := List.mem_map.mp hj
  exact (h.ot p.1 p.2 hp).1
structure GG (Ω : List OS) (L : List (Int × Int)) (T : List (Int × Nat)) (X : Int → List (Int × Tl)) (M : List (Int × (Int × Int))) (S : List ((Int × Int) × Tl)) (q : Nat) (Mo : List (Int × (Int × Int))) (b : Nat) : Prop where
  w : Wy Ω L T X M b
  o : Ow Ω q L S Mo b
  nq : q ∉ T.map (·.2)
  lk : Lnk L X S
  iv : ∀ g, IV L X M g
  l0 : ∀ n l, getA L n = some l → 0 ≤ l
noncomputable def Keep (T T' : List (Int × Nat)) (Ω Ω' : List OS) : Prop := Ω.length ≤ Ω'.length ∧ ∀ j, 7 ≤ j → j < Ω.length → j ∉ T.map (·.2) → Ω'[j]? = Ω[j]? ∧ j ∉ T'.map (·.2)
theorem Ow.lt {Ω : List OS} {q L S Mo b} (o : Ow Ω q L S Mo b) : q < Ω.length := (List.getElem?_eq_some_iff.mp o.pq).1
theorem app_get {Ω : List OS} {o : OS} {j : Nat} (h : j < Ω.length) : (Ω ++ [o])[j]? = Ω[j]? := List.getElem?_append_left h
theorem GG.exc {Ω L T X M S q Mo b} (h : GG Ω L T X M S q Mo b) (c : Str) : GG (Ω ++ [.exc c]) L T X M S q Mo (b + 2) ∧ Keep T T Ω (Ω ++ [.exc c]) := by
  have h8 := h.w.bg
  have hq := h.o.lt
  refine ⟨⟨(h.w.of_eq (by simp) fun j hj _ => app_get hj).mono (by omega), ⟨by rw [app_get (by omega)]; exact h.o.p4, by rw [app_get (by omega)]; exact h.o.p5, by rw [app_get (by omega)]; exact h.o.p6, by rw [app_get hq]; exact h.o.pq, h.o.q7, h.o.nd, h.o.kn, Nat.le_trans h.o.bS (by omega), Nat.le_trans h.o.bL (by omega)⟩, h.nq, h.lk, h.iv, h.l0⟩, by simp, fun j _ hj hT => ⟨app_get hj, hT⟩⟩
theorem step {Ω L T X M S q Mo b} (h : GG Ω L T X M S q Mo b) (hb : b ≤ 390) {d : D} (hd : IsDeed d) : ∃ r Ω1 Ω' L' T' X' M' S', d_l_tried [.obj 0, d] Ω = some (r, Ω1) ∧ ((r = .bl true ∧ Ω' = Ω1) ∨ (r = .non ∧ d_l_done [.obj 4, d] Ω1 = some (.non, Ω'))) ∧
    GG Ω' L' T' X' M' S' q Mo (b + 2) ∧ Keep T T' Ω Ω' ∧ Mono M M' := by
  have h8 := h.w.bg
  have hq := h.o.lt
  have q7 := h.o.q7
  rcases hd with ⟨n, l, n0, n1, l0, rfl⟩ | ⟨n, n0, n1, rfl⟩ | ⟨n, g, num, f, n0, n1, rfl⟩
  · cases hn : getA L n with
    | some l' =>
      obtain ⟨a1, a2⟩ := h.exc "Tied"
      exact ⟨_, _, _, L, T, X, M, S, tried_tie_no h.w n0 n1 hn l, .inl ⟨rfl, rfl⟩, a1, a2, Mono.refl M⟩
    | none =>
      have w1 := h.w.tie hn l
      have o1 : Ow (tieΩ Ω L T n l) q L S Mo b := ⟨by rw [tie_get (by omega) (by decide) (by decide)]; exact h.o.p4, by rw [tie_get (by omega) (by decide) (by decide)]; exact h.o.p5, by rw [tie_get (by omega) (by decide) (by decide)]; exact h.o.p6, by rw [tie_get hq (by omega) (by omega)]; exact h.o.pq, q7, h.o.nd, h.o.kn, h.o.bS, h.o.bL⟩
      have hnT : n ∉ T.map (·.1) := by rw [h.w.kt]; exact getA_none.mp hn
      have nT' : ∀ j, j < Ω.length → j ∉ T.map (·.2) → j ∉ (putA T n Ω.length).map (·.2) := fun j hj hT z => by
        rw [putA_new hnT, List.map_append] at z
        rcases List.mem_append.mp z with z | z
        · exact hT z
        · simp at z; omega
      refine ⟨_, _, _, putA L n l, putA T n Ω.length, upX X n [], M, S, tried_tie h.w (by omega) hn l, .inr ⟨rfl, done_tie o1 (by omega) n l⟩, ⟨(w1.of_eq (by simp) fun j hj hT => List.getElem?_set_ne ?_).mono (by omega), ⟨?_, ?_, ?_, ?_, q7, h.o.nd, nodup_putA h.o.kn _ _, Nat.le_trans h.o.bS (by omega), Nat.le_trans (len_putA _ _ _) (by have := h.o.bL; omega)⟩, nT' q hq h.nq, ⟨fun g n' l' hl' => ?_, fun g n' hl' => ?_⟩, fun g n' l' num' f' e1 e2 => ?_, fun n' l' e => ?_⟩, ⟨by simp [tie_len], fun j j7 hj hT => ⟨by rw [List.getElem?_set_ne (by omega), tie_get hj (by omega) (by omega)], nT' j hj hT⟩⟩, Mono.refl M⟩
      · rcases hT with z | z
        · omega
        · have := w1.T8 z; omega
      · rw [List.getElem?_set_ne (by decide)]; exact o1.p4
      · exact set_at o1.p5
      · rw [List.getElem?_set_ne (by decide)]; exact o1.p6
      · rw [List.getElem?_set_ne (by omega)]; exact o1.pq
      · rw [getA_put] at hl'
        by_cases e : n' = n
        · subst e
          rw [h.lk.k2 g n' hn]
          unfold upX
          rw [if_pos rfl]; rfl
        · rw [if_neg e] at hl'
          unfold upX
          rw [if_neg e]
          exact h.lk.k1 g n' l' hl'
      · rw [getA_put] at hl'
        by_cases e : n' = n
        · rw [if_pos e] at hl'; cases hl'
        · rw [if_neg e] at hl'
          exact h.lk.k2 g n' hl'
      · rw [getA_put] at e1
        by_cases e : n' = n
        · unfold upX at e2
          rw [if_pos e] at e2
          cases e2
        · rw [if_neg e] at e1
          unfold upX at e2
          rw [if_neg e] at e2
          exact h.iv g n' l' num' f' e1 e2
      · rw [getA_put] at e
        split at e
        · cases e; exact l0
        · exact h.l0 n' l' e
  · cases hn : getA L n with
    | none =>
      obtain ⟨a1, a2⟩ := h.exc "NotTied"
      exact ⟨_, _, _, L, T, X, M, S, tried_un_no h.w n0 n1 hn, .inl ⟨rfl, rfl⟩, a1, a2, Mono.refl M⟩
    | some l =>
      have w1 := h.w.untie n
      have o1 : Ow (unΩ Ω L T n) q L S Mo b := ⟨by rw [un_get (by decide) (by decide)]; exact h.o.p4, by rw [un_get (by decide) (by decide)]; exact h.o.p5, by rw [un_get (by decide) (by decide)]; exact h.o.p6, by rw [un_get (by omega) (by omega)]; exact h.o.pq, q7, h.o.nd, h.o.kn, h.o.bS, h.o.bL⟩
      obtain ⟨S', e1, e2, e3, e4⟩ := done_un o1 hn
      have nT' : ∀ j, j ∉ T.map (·.2) → j ∉ (cutA T n).map (·.2) := fun j hT z => by
        obtain ⟨p, hp, e⟩ := List.mem_map.mp z
        exact hT (List.mem_map.mpr ⟨p, (List.mem_filter.mp hp).1, e⟩)
      have hlen : (unΩ Ω L T n).length = Ω.length := by unfold unΩ; simp
      refine ⟨_, _, _, cutA L n, cutA T n, X, M, S', tried_un h.w hn, .inr ⟨rfl, e1⟩, ⟨(w1.of_eq (by simp) fun j hj hT => ?_).mono (by omega), ⟨?_, ?_, ?_, ?_, q7, e3, nodup_cutA h.o.kn _, Nat.le_trans e4 (Nat.le_trans h.o.bS (by omega)), Nat.le_trans (len_cutA _ _) (by have := h.o.bL; omega)⟩, nT' q h.nq, ⟨fun g n' l' hl' => ?_, fun g n' hl' => ?_⟩, fun g n' l' num' f' a1 a2 => ?_, fun n' l' e => ?_⟩, ⟨by simp [hlen], fun j j7 hj hT => ⟨by rw [List.getElem?_set_ne (by omega), List.getElem?_set_ne (by omega), un_get (by omega) (by omega)], nT' j hT⟩⟩, Mono.refl M⟩
      · have : j < 4 ∨ 8 ≤ j := by
          rcases hT with z | z
          · exact .inl z
          · exact .inr (w1.T8 z)
        rw [List.getElem?_set_ne (by omega), List.getElem?_set_ne (by omega)]
      · rw [List.getElem?_set_ne (by decide), List.getElem?_set_ne (by decide)]; exact o1.p4
      · rw [List.getElem?_set_ne (by decide)]; exact set_at o1.p5
      · rw [List.getElem?_set_self (by simp [hlen]; omega)]
      · rw [List.getElem?_set_ne (by omega), List.getElem?_set_ne (by omega)]; exact o1.pq
      · rw [getA_cut] at hl'
        by_cases e : n' = n
        · rw [if_pos e] at hl'; cases hl'
        · rw [if_neg e] at hl'
          rw [e2, if_neg e]
          exact h.lk.k1 g n' l' hl'
      · rw [getA_cut] at hl'
        rw [e2]
        by_cases e : n' = n
        · rw [if_pos e]
        · rw [if_neg e] at hl' ⊢
          exact h.lk.k2 g n' hl'
      · rw [getA_cut] at a1
        by_cases e : n' = n
        · rw [if_pos e] at a1; cases a1
        · rw [if_neg e] at a1
          exact h.iv g n' l' num' f' a1 a2
      · rw [getA_cut] at e
        split at e
        · cases e
        · exact h.l0 n' l' e
  · cases hn : getA L n with
    | none =>
      obtain ⟨a1, a2⟩ := h.exc "NotTied"
      exact ⟨_, _, _, L, T, X, M, S, tried_he_no h.w n0 n1 hn g num f, .inl ⟨rfl, rfl⟩, a1, a2, Mono.refl M⟩
    | some l =>
      obtain ⟨Ω1, M', e1, w1, fr, hM⟩ := hear_yes h.w (by omega) hn g num f
      obtain ⟨iv', mono⟩ := iv_hear h.w.kn h.l0 h.iv hM
      have t8 : ∀ j, j < 8 → j ∉ T.map (·.2) := fun j hj z => by have := h.w.T8 z; omega
      have o1 : Ow Ω1 q L S Mo b := ⟨by rw [fr.2 4 (by omega) (by decide) (by decide) (by decide) (t8 4 (by decide))]; exact h.o.p4, by rw [fr.2 5 (by omega) (by decide) (by decide) (by decide) (t8 5 (by decide))]; exact h.o.p5, by rw [fr.2 6 (by omega) (by decide) (by decide) (by decide) (t8 6 (by decide))]; exact h.o.p6, by rw [fr.2 q hq (by omega) (by omega) (by omega) h.nq]; exact h.o.pq, q7, h.o.nd, h.o.kn, h.o.bS, h.o.bL⟩
      refine ⟨_, _, _, L, T, _, M', putA S (g, n) (num, f), tried_he h.w e1, .inr ⟨rfl, done_he o1 (by omega) n g num f⟩, ⟨w1.of_eq (by simp) fun j hj hT => ?_, ⟨?_, ?_, ?_, ?_, q7, nodup_putA h.o.nd _ _, h.o.kn, Nat.le_trans (len_putA _ _ _) (by have := h.o.bS; omega), Nat.le_trans h.o.bL (by omega)⟩, h.nq, ⟨fun g' n' l' hl' => ?_, fun g' n' hl' => ?_⟩, iv', h.l0⟩, ⟨by rw [List.length_set]; exact fr.1, fun j j7 hj hT => ⟨by rw [List.getElem?_set_ne (by omega), fr.2 j hj (by omega) (by omega) (by omega) hT], hT⟩⟩, mono⟩
      · have : j < 4 ∨ 8 ≤ j := by
          rcases hT with z | z
          · exact .inl z
          · exact .inr (w1.T8 z)
        rw [List.getElem?_set_ne (by omega)]
      · rw [List.getElem?_set_ne (by decide)]; exact o1.p4
      · rw [List.getElem?_set_ne (by decide)]; exact o1.p5
      · exact set_at o1.p6
      · rw [List.getElem?_set_ne (by omega)]; exact o1.pq
      · rw [getA_put]
        unfold upX
        by_cases e : n' = n
        · subst e
          rw [if_pos rfl, getA_put]
          by_cases e2 : g' = g
          · subst e2; simp
          · rw [if_neg e2, if_neg (fun z => e2 (by simpa using z))]
            exact h.lk.k1 g' n' l' hl'
        · rw [if_neg e, if_neg (fun z => e (by simp at z; exact z.2))]
          exact h.lk.k1 g' n' l' hl'
      · rw [getA_put, if_neg (fun z => ?_)]
        · exact h.lk.k2 g' n' hl'
        · simp at z
          rw [z.2, hn] at hl'
          cases hl'
end Law
namespace Law
open PySem DL
/-! ### k17: the law -/
theorem comp_ex {g : Den} {rest : List Sl} {P : Int → Prop} (Ω : List OS) : ∀ (ks : List Int) (x : Sl), (∀ k ∈ ks, ∃ v, P v ∧ g (.dat (.int k) :: rest) Ω = some (.int v, Ω)) → ∃ vs : List Int, vs.length = ks.length ∧ (∀ v ∈ vs, P v) ∧ compD (bName 0) gTrue g (ks.map D.int) (x :: rest) Ω = some (vs.map D.int, Ω)
  | [], x, _ => ⟨[], rfl, fun _ h => (nomatch h), rfl⟩
  | k :: ks, x, h => by
    obtain ⟨v, hv, e⟩ := h k List.mem_cons_self
    obtain ⟨vs, h1, h2, h3⟩ := comp_ex Ω ks (.dat (.int k)) fun k' hk' => h k' (List.mem_cons_of_mem _ hk')
    refine ⟨v :: vs, by simp [h1], fun u hu => ?_, ?_⟩
    · rcases List.mem_cons.mp hu with rfl | hu
      · exact hv
      · exact h2 u hu
    · rw [List.map_cons, comp_cons]
      simp [e, h3]
theorem upD_ints (lo : Int) (n : Nat) : upD lo n = ((List.range n).map fun (k : Nat) => lo + (k : Int)).map D.int := by simp [upD]
theorem houses_den {xs : List Int} (hx : 48 ≤ xs.length) (Ω : List OS) : ∃ hs : List Int, hs ≠ [] ∧ (∀ n ∈ hs, 0 ≤ n ∧ n < 32) ∧ d_l_houses [.lst (xs.map D.int)] Ω = some (.lst (hs.map D.int), Ω) := by
  have e0 := cell_den (xs := xs) (k := 0) (by omega) Ω
  have e0' : d_l_cell_at [.lst (xs.map D.int), .int 0] Ω = some (.int xs[0], Ω) := e0
  generalize xs[0] = c at *
  have s1 : ∀ {t : SDen}, sSeq (sSet 1 (gCall d_l_cell_at (gCons (gVar 0) (gCons (gC (.int 0)) gNil)))) t [.dat (.lst (xs.map D.int)), .und] Ω = t [.dat (.lst (xs.map D.int)), .dat (.int c)] Ω := seq_nx (by simp [e0'])
  by_cases h12 : c % 12 = 0
  · obtain ⟨hs, h1, h2, h3⟩ := comp_ex (g := gVar 0) (rest := []) (P := fun n => 0 ≤ n ∧ n < 32) Ω ((List.range 32).map fun (k : Nat) => 0 + (k : Int)) .und fun k hk => ⟨k, by
      obtain ⟨j, hj, rfl⟩ := List.mem_map.mp hk
      have := List.mem_range.mp hj
      omega, rfl⟩
    rw [← upD_ints] at h3
    have er : rng1 [.int 32] = some (upD 0 32) := rng_1 (by decide) (by decide)
    have ei : innerD [none] [Sl.dat (.lst (xs.map D.int)), .dat (.int c)] = [.und] := rfl
    refine ⟨hs, fun z => by rw [z] at h1; simp at h1, h2, run_rt rfl (s1.trans (seq_rt ?_))⟩
    simp [h12, er, ei, h3]
  · obtain ⟨m, hm⟩ : ∃ m : Nat, (m : Int) = 3 + c / 11904 % 3 := ⟨(3 + c / 11904 % 3).toNat, by omega⟩
    obtain ⟨a, ha⟩ : ∃ a, a = 1 + c / 384 % 31 := ⟨_, rfl⟩
    have em : ∀ k : Int, mulD (.int k) (.int a) = some (.int (k * a)) := fun k => mul_i (.inr ⟨by omega, by omega⟩)
    obtain ⟨hs, h1, h2, h3⟩ := comp_ex (g := (gOp modD (gOp addD (gOp divD (gVar 1) (gC (.int 12))) (gOp mulD (gVar 0) (gOp addD (gC (.int 1)) (gOp modD (gOp divD (gVar 1) (gC (.int 384))) (gC (.int 31)))))) (gC (.int 32)))) (rest := [.dat (.int c)]) (P := fun n => 0 ≤ n ∧ n < 32) Ω ((List.range m).map fun (k : Nat) => 0 + (k : Int)) .und fun k hk => ⟨(c / 12 + k * a) % 32, ⟨Int.emod_nonneg _ (by decide), Int.emod_lt_of_pos _ (by decide)⟩, by
      have := em k
      rw [ha] at this ⊢
      simp [this]⟩
    rw [← upD_ints] at h3
    have er : rng1 [.int (3 + c / 11904 % 3)] = some (upD 0 m) := by
      rw [← hm, rng_1 (by omega) (by omega)]; rfl
    have ei : innerD [none, some 1] [Sl.dat (.lst (xs.map D.int)), .dat (.int c)] = [.und, .dat (.int c)] := rfl
    have hml : m ≤ 100000 := by omega
    refine ⟨hs, fun z => by rw [z] at h1; simp at h1; omega, h2, run_rt rfl (s1.trans ((seq_nx (ρ' := [.dat (.lst (xs.map D.int)), .dat (.int c)]) (Ω' := Ω) (by simp [h12])).trans ?_))⟩
    rw [ap_ret, ap_comp]
    have eγ : gRng rng1 (gCons (gOp addD (gC (.int 3)) (gOp modD (gOp divD (gVar 1) (gC (.int 11904))) (gC (.int 3)))) gNil) [.dat (.lst (xs.map D.int)), .dat (.int c)] Ω = some (upD 0 m, Ω) := by simp [er]
    rw [eγ, ei]
    dsimp only
    rw [if_pos (by simpa using hml), h3]
theorem goals_den {xs : List Int} (hx : 48 ≤ xs.length) (a0 a2 : Sl) (Ω : List OS) (r : List Sl) : ∃ gs : List Int, gs.length = 3 ∧ gComp [none, some 1] (gRng rng1 (gCons (gC (.int 3)) gNil)) (bName 0) gTrue (gOp modD (gCall d_l_mix (gCons (gCall d_l_cell_at (gCons (gVar 1) (gCons (gC (.int 1)) gNil))) (gCons (gVar 0) gNil))) (gC (.int 32))) (a0 :: .dat (.lst (xs.map D.int)) :: r) Ω = some (.lst (gs.map D.int), Ω) := by
  have e1 := cell_den (xs := xs) (k := 1) (by omega) Ω
  have e1' : d_l_cell_at [.lst (xs.map D.int), .int 1] Ω = some (.int xs[1], Ω) := e1
  generalize xs[1] = c at *
  obtain ⟨gs, h1, _, h3⟩ := comp_ex (g := (gOp modD (gCall d_l_mix (gCons (gCall d_l_cell_at (gCons (gVar 1) (gCons (gC (.int 1)) gNil))) (gCons (gVar 0) gNil))) (gC (.int 32)))) (rest := [.dat (.lst (xs.map D.int))]) (P := fun _ => True) Ω ((List.range 3).map fun (k : Nat) => 0 + (k : Int)) .und fun k hk => by
    obtain ⟨j, hj, rfl⟩ := List.mem_map.mp hk
    have := List.mem_range.mp hj
    obtain ⟨x, _, e⟩ := mix_den (c := c) (k := 0 + (j : Int)) (by omega) (by omega) Ω
    exact ⟨x % 32, trivial, by simp only [Int.zero_add] at e ⊢; simp [e1', e]⟩
  rw [← upD_ints] at h3
  have er : rng1 [.int 3] = some (upD 0 3) := rng_1 (by decide) (by decide)
  have ei : innerD [none, some 1] (a0 :: .dat (.lst (xs.map D.int)) :: r) = [.und, .dat (.lst (xs.map D.int))] := rfl
  refine ⟨gs, by simpa using h1, ?_⟩
  rw [ap_comp]
  have eγ : gRng rng1 (gCons (gC (.int 3)) gNil) (a0 :: .dat (.lst (xs.map D.int)) :: r) Ω = some (upD 0 3, Ω) := by simp [er]
  rw [eγ, ei]
  dsimp only
  rw [if_pos (by simp), h3]
noncomputable def RL (a0 a1 a2 : Sl) (gs : List Int) (x6 x7 x8 x9 x10 x11 : Sl) : List Sl := [a0, a1, a2, .dat (.lst (gs.map D.int)), .dat (.obj 0), .dat (.obj 4), x6, x7, x8, x9, x10, x11]
theorem vMm (Mm : List (Int × Option (Int × Int))) (g : Int) : valD (mpA iK mOD Mm) (.inl g) = (getA Mm g).map mOD := val_mp iK_inj mOD g Mm
theorem GG.set_other {Ω L T X M S q Mo b} (h : GG Ω L T X M S q Mo b) {j : Nat} (hj : 7 ≤ j) (hq : j ≠ q) (hT : j ∉ T.map (·.2)) (o : OS) : GG (Ω.set j o) L T X M S q Mo b := by
  have q7 := h.o.q7
  refine ⟨h.w.of_eq (by simp) fun i hi z => List.getElem?_set_ne ?_, ⟨by rw [List.getElem?_set_ne (by omega)]; exact h.o.p4, by rw [List.getElem?_set_ne (by omega)]; exact h.o.p5, by rw [List.getElem?_set_ne (by omega)]; exact h.o.p6, by rw [List.getElem?_set_ne hq]; exact h.o.pq, q7, h.o.nd, h.o.kn, h.o.bS, h.o.bL⟩, h.nq, h.lk, h.iv, h.l0⟩
  rcases z with z | z
  · omega
  · intro e; rw [e] at hT; exact hT z
theorem GG.set_q {Ω L T X M S q Mo b} (h : GG Ω L T X M S q Mo b) (Mo' : List (Int × (Int × Int))) : GG (Ω.set q (.dK (mpA iK mkD Mo'))) L T X M S q Mo' b := by
  have q7 := h.o.q7
  refine ⟨h.w.of_eq (by simp) fun i hi z => List.getElem?_set_ne ?_, ⟨by rw [List.getElem?_set_ne (by omega)]; exact h.o.p4, by rw [List.getElem?_set_ne (by omega)]; exact h.o.p5, by rw [List.getElem?_set_ne (by omega)]; exact h.o.p6, set_at h.o.pq, q7, h.o.nd, h.o.kn, h.o.bS, h.o.bL⟩, h.nq, h.lk, h.iv, h.l0⟩
  rcases z with z | z
  · omega
  · intro e; exact h.nq (by rw [e]; exact z)
noncomputable def mB : SDen := (sSeq (sDPut (gVar 7) (gVar 8) (gMeth "Ways" "mark" d_Ways_mark [] (gVar 4) (gCons (gVar 8) gNil))) (sIf (gT (gOp (isD true) (gDGet (gVar 7) (gVar 8)) (gC .non))) (sDPut (gDGet (gVar 5) (gC (.str "marks"))) (gVar 8) (gDGet (gVar 7) (gVar 8))) sNext))
theorem marks_loop {L T X M S q b} {mq : Nat} (h7 : 7 ≤ mq) (hne : mq ≠ q) (hT : mq ∉ T.map (·.2)) (a0 a1 a2 x6 x9 x10 x11 : Sl) (gs : List Int) :
    ∀ (rest : List Int) (Mm : List (Int × Option (Int × Int))) (Mo : List (Int × (Int × Int))) (Ω : List OS) (x8 : Sl), GG Ω L T X M S q Mo b → Ω[mq]? = some (.dK (mpA iK mOD Mm)) → Mm.length + rest.length ≤ 100 → Mo.length + rest.length ≤ 100 →
      ∃ x8' Mm' Mo' Ω', forD (bName 8) mB (rest.map D.int) (RL a0 a1 a2 gs x6 (.dat (.obj mq)) x8 x9 x10 x11) Ω = some (.nx (RL a0 a1 a2 gs x6 (.dat (.obj mq)) x8' x9 x10 x11) Ω') ∧ GG Ω' L T X M S q Mo' b ∧ Ω'[mq]? = some (.dK (mpA iK mOD Mm')) ∧ (∀ g, g ∈ rest → getA Mm' g = some (getA M g)) ∧ ∀ g, g ∉ rest → getA Mm' g = getA Mm g
  | [], Mm, Mo, Ω, x8, h, hm, _, _ => ⟨x8, Mm, Mo, Ω, rfl, h, hm, fun _ z => (nomatch z), fun _ _ => rfl⟩
  | g :: rest, Mm, Mo, Ω, x8, h, hm, l1, l2 => by
    rw [List.length_cons] at l1 l2
    have ek := mark_den h.w g
    have hl1 : Mm.length < 100000 := by omega
    have hl2 : Mo.length < 100000 := by omega
    have e1 : putD (mpA iK mOD Mm) (.inl g) (mOD (getA M g)) = mpA iK mOD (putA Mm g (getA M g)) := put_mp iK_inj mOD Mm g (getA M g)
    have G1 := h.set_other h7 hne hT (.dK (mpA iK mOD (putA Mm g (getA M g))))
    have hm1 : (Ω.set mq (.dK (mpA iK mOD (putA Mm g (getA M g)))))[mq]? = some (.dK (mpA iK mOD (putA Mm g (getA M g)))) := set_at hm
    have hv : getA (putA Mm g (getA M g)) g = some (getA M g) := by rw [getA_put, if_pos rfl]
    have s1 : ∀ {t : SDen}, sSeq (sDPut (gVar 7) (gVar 8) (gMeth "Ways" "mark" d_Ways_mark [] (gVar 4) (gCons (gVar 8) gNil))) t (RL a0 a1 a2 gs x6 (.dat (.obj mq)) (.dat (.int g)) x9 x10 x11) Ω = t (RL a0 a1 a2 gs x6 (.dat (.obj mq)) (.dat (.int g)) x9 x10 x11) (Ω.set mq (.dK (mpA iK mOD (putA Mm g (getA M g))))) := seq_nx (by simp [RL, h.w.o0, k_mark, ek, hm, hl1, e1])
    generalize Ω.set mq (.dK (mpA iK mOD (putA Mm g (getA M g)))) = Ω1 at *
    have eb : bName 8 (.int g) (RL a0 a1 a2 gs x6 (.dat (.obj mq)) x8 x9 x10 x11) = some (RL a0 a1 a2 gs x6 (.dat (.obj mq)) (.dat (.int g)) x9 x10 x11) := rfl
    suffices key : ∃ Ω2 Mo2, mB (RL a0 a1 a2 gs x6 (.dat (.obj mq)) (.dat (.int g)) x9 x10 x11) Ω = some (.nx (RL a0 a1 a2 gs x6 (.dat (.obj mq)) (.dat (.int g)) x9 x10 x11) Ω2) ∧ GG Ω2 L T X M S q Mo2 b ∧ Ω2[mq]? = some (.dK (mpA iK mOD (putA Mm g (getA M g)))) ∧ Mo2.length ≤ Mo.length + 1 by
      obtain ⟨Ω2, Mo2, r1, r2, r3, r4⟩ := key
      obtain ⟨x8', Mm', Mo', Ω', i1, i2, i3, i4, i5⟩ := marks_loop h7 hne hT a0 a1 a2 x6 x9 x10 x11 gs rest (putA Mm g (getA M g)) Mo2 Ω2 (.dat (.int g)) r2 r3 (by have := len_putA Mm g (getA M g); omega) (by omega)
      refine ⟨x8', Mm', Mo', Ω', by rw [List.map_cons, for_cons, eb]; dsimp only; rw [r1]; exact i1, i2, i3, fun g' hg' => ?_, fun g' hg' => ?_⟩
      · by_cases hr : g' ∈ rest
        · exact i4 g' hr
        · rw [i5 g' hr]
          rcases List.mem_cons.mp hg' with z | z
          · rw [z]; exact hv
          · exact absurd z hr
      · rw [List.mem_cons, not_or] at hg'
        rw [i5 g' hg'.2, getA_put, if_neg hg'.1]
    cases hM : getA M g with
    | none =>
      refine ⟨Ω1, Mo, s1.trans ?_, G1, by rw [← hM]; exact hm1, by omega⟩
      rw [hM] at hv hm1
      simp [RL, hm1, vMm, hv, mOD, isD, isNone]
    | some p =>
      have e2 : putD (mpA iK mkD Mo) (.inl g) (mkD p) = mpA iK mkD (putA Mo g p) := put_mp iK_inj mkD Mo g p
      have emk : mOD (some p) = mkD p := rfl
      have hi : isD true (mkD p) .non = some (.bl true) := by simp [mkD, isD, isNone]
      refine ⟨Ω1.set q (.dK (mpA iK mkD (putA Mo g p))), putA Mo g p, s1.trans ?_, G1.set_q _, by rw [List.getElem?_set_ne (fun z => hne z.symm), ← hM]; exact hm1, len_putA _ _ _⟩
      rw [hM] at hv hm1
      simp [RL, hm1, vMm, hv, emk, hi, G1.o.p4, ov3, G1.o.pq, hl2, e2]
noncomputable def cB : SDen := (sSeq (sSet 11 (gMeth "Ways" "mark" d_Ways_mark [] (gVar 4) (gCons (gVar 8) gNil))) (sSeq (sIf (gAndT (gT (gOp (isD true) (gDGet (gVar 7) (gVar 8)) (gC .non))) (gAndT (gT (gOp (eqD true) (gVar 11) (gDGet (gVar 7) (gVar 8)))) (gOrT (gT (gOp (isD false) (gVar 11) (gC .non))) (gNotT (gT (gCall d_better (gCons (gVar 11) (gCons (gDGet (gVar 7) (gVar 8)) gNil)))))))) (sRet (gC (.bl false))) sNext) (sIf (gNotT (gT (gCall d_l_best (gCons (gVar 4) (gCons (gVar 5) (gCons (gVar 8) gNil)))))) (sRet (gC (.bl false))) sNext)))
theorem pl_mk (p : Int × Int) : pl (mkD p) = true ∧ dep (mkD p) ≤ 64 := by simp [mkD, pl, plL, dep, depL]
theorem eq_mk (p p' : Int × Int) : eqD true (mkD p') (mkD p) = some (.bl (!decide (p' = p))) := by
  by_cases h : p' = p
  · subst h
    rw [eq_self_pl true (pl_mk p').1 (pl_mk p').2]; simp
  · rw [eq_ne_pl true (pl_mk p').1 (pl_mk p).1 (pl_mk p').2 (pl_mk p).2 (fun z => h (by
      obtain ⟨a, b⟩ := p'
      obtain ⟨c, d⟩ := p
      simpa [mkD] using z))]; simp [h]
theorem check_loop {Ω L T X M M0 S q Mo b} {mq : Nat} (h : GG Ω L T X M S q Mo b) (hb : b ≤ 400) {Mm : List (Int × Option (Int × Int))} (hm : Ω[mq]? = some (.dK (mpA iK mOD Mm))) (mono : Mono M0 M) (a0 a1 a2 x6 x9 x10 : Sl) (gs : List Int) :
    ∀ (rest : List Int) (x8 x11 : Sl), (∀ g ∈ rest, getA Mm g = some (getA M0 g)) → ∃ x8' x11', forD (bName 8) cB (rest.map D.int) (RL a0 a1 a2 gs x6 (.dat (.obj mq)) x8 x9 x10 x11) Ω = some (.nx (RL a0 a1 a2 gs x6 (.dat (.obj mq)) x8' x9 x10 x11') Ω)
  | [], x8, x11, _ => ⟨x8, x11, rfl⟩
  | g :: rest, x8, x11, hg => by
    have hv := hg g List.mem_cons_self
    have ek := mark_den h.w g
    have eb := best_den h.w h.o hb h.lk (h.iv g)
    obtain ⟨x8', x11', ih⟩ := check_loop h hb hm mono a0 a1 a2 x6 x9 x10 gs rest (.dat (.int g)) (.dat (mOD (getA M g))) fun g' hg' => hg g' (List.mem_cons_of_mem _ hg')
    refine ⟨x8', x11', Eq.trans ?_ ih⟩
    have ebn : bName 8 (.int g) (RL a0 a1 a2 gs x6 (.dat (.obj mq)) x8 x9 x10 x11) = some (RL a0 a1 a2 gs x6 (.dat (.obj mq)) (.dat (.int g)) x9 x10 x11) := rfl
    have body : cB (RL a0 a1 a2 gs x6 (.dat (.obj mq)) (.dat (.int g)) x9 x10 x11) Ω = some (.nx (RL a0 a1 a2 gs x6 (.dat (.obj mq)) (.dat (.int g)) x9 x10 (.dat (mOD (getA M g)))) Ω) := by
      refine (seq_nx (ρ' := RL a0 a1 a2 gs x6 (.dat (.obj mq)) (.dat (.int g)) x9 x10 (.dat (mOD (getA M g)))) (Ω' := Ω) (by simp [RL, h.w.o0, k_mark, ek])).trans ?_
      refine (seq_nx (ρ' := RL a0 a1 a2 gs x6 (.dat (.obj mq)) (.dat (.int g)) x9 x10 (.dat (mOD (getA M g)))) (Ω' := Ω) ?_).trans (by simp [RL, eb])
      cases hM : getA M0 g with
      | none =>
        rw [hM] at hv
        simp [RL, hm, vMm, hv, mOD, isD, isNone]
      | some p =>
        rw [hM] at hv
        obtain ⟨p', hp', hc⟩ := mono g p hM
        have emk : mOD (some p) = mkD p := rfl
        have emk' : mOD (getA M g) = mkD p' := by rw [hp']; rfl
        have hi : isD true (mkD p) .non = some (.bl true) := by simp [mkD, isD, isNone]
        have hi' : isD false (mkD p') .non = some (.bl false) := by simp [mkD, isD, isNone]
        have hbd : d_better [mkD p', mkD p] Ω = some (.bl (bt p'.1 p'.2 p.1 p.2), Ω) := better_den p'.1 p'.2 p.1 p.2 Ω
        have hq := eq_mk p p'
        rcases hc with e | e
        · have hd : decide (p' = p) = true := decide_eq_true e
          rw [hd] at hq
          simp [RL, hm, vMm, hv, emk, emk', hi, hq]
        · rw [e] at hbd
          by_cases e2 : p' = p
          · have hd : decide (p' = p) = true := decide_eq_true e2
            rw [hd] at hq
            simp [RL, hm, vMm, hv, emk, emk', hi, hq]
          · have hd : decide (p' = p) = false := decide_eq_false e2
            rw [hd] at hq
            simp [RL, hm, vMm, hv, emk, emk', hi, hq, hi', hbd]
    rw [List.map_cons, for_cons, ebn]
    dsimp only
    rw [body]
end Law
namespace Law
open PySem DL
theorem GG.begin {Ω L T X M S q Mo b} (h : GG Ω L T X M S q Mo b) : GG ((Ω ++ [OS.dK []] ++ [OS.dK []]).set 4 (.dK (ownK (Ω.length + 1)))) L T X M S (Ω.length + 1) [] b ∧ ((Ω ++ [OS.dK []] ++ [OS.dK []]).set 4 (.dK (ownK (Ω.length + 1))))[Ω.length]? = some (.dK (mpA iK mOD [])) ∧ Ω.length ∉ T.map (·.2) := by
  have h8 := h.w.bg
  have get : ∀ j, j < Ω.length → j ≠ 4 → ((Ω ++ [OS.dK []] ++ [OS.dK []]).set 4 (.dK (ownK (Ω.length + 1))))[j]? = Ω[j]? := fun j hj h4 => by
    rw [List.getElem?_set_ne (fun z => h4 z.symm), List.getElem?_append_left (by simp; omega), List.getElem?_append_left hj]
  have nT : ∀ j, Ω.length ≤ j → j ∉ T.map (·.2) := fun j hj z => by
    obtain ⟨p, hp, e⟩ := List.mem_map.mp z
    have := h.w.lt (n := p.1) (i := p.2) hp
    omega
  refine ⟨⟨h.w.of_eq (by simp) fun j hj hT => get j hj ?_, ⟨List.getElem?_set_self (by simp; omega), by rw [get 5 (by omega) (by decide)]; exact h.o.p5, by rw [get 6 (by omega) (by decide)]; exact h.o.p6, ?_, by omega, h.o.nd, h.o.kn, h.o.bS, h.o.bL⟩, nT _ (by omega), h.lk, h.iv, h.l0⟩, ?_, nT _ (Nat.le_refl _)⟩
  · rcases hT with z | z
    · omega
    · have := h.w.T8 z; omega
  · rw [List.getElem?_set_ne (by omega), List.getElem?_append_right (by simp)]
    simp [mpA]
  · rw [List.getElem?_set_ne (by omega), List.getElem?_append_left (by simp), List.getElem?_append_right (by simp)]
    simp [mpA]
noncomputable def tB : SDen := (sSeq (sSet 7 gNewK) (sSeq (sDPut (gVar 5) (gC (.str "marks")) gNewK) (sSeq (sFor (gSeq (gVar 3)) (bName 8) mB) (sSeq (sSet 9 (gCall d_l_drawn (gCons (gVar 5) (gCons (gVar 2) (gCons (gVar 3) (gCons (gOp ixD (gVar 1) (gVar 6)) gNil)))))) (sSeq (sSet 10 (gCall d_l_tried (gCons (gVar 4) (gCons (gVar 9) gNil)))) (sSeq (sIf (gT (gOp (isD false) (gVar 10) (gC (.bl false)))) (sRet (gC (.bl false))) sNext) (sSeq (sIf (gT (gOp (isD false) (gVar 10) (gC .non))) (sExpr (gCall d_l_done (gCons (gVar 5) (gCons (gVar 9) gNil)))) sNext) (sFor (gSeq (gVar 3)) (bName 8) cB))))))))
theorem turn_den {Ω L T X M S q Mo b} (h : GG Ω L T X M S q Mo b) (hb : b ≤ 380) {xs hs gs : List Int} (hs0 : hs ≠ []) (hsb : ∀ n ∈ hs, 0 ≤ n ∧ n < 32) (gs3 : gs.length = 3) {k : Nat} (hk : k < xs.length) (a0 x7 x8 x9 x10 x11 : Sl) :
    ∃ y7 y8 y9 y10 y11 Ω' L' T' X' M' S' q' Mo', tB (RL a0 (.dat (.lst (xs.map D.int))) (.dat (.lst (hs.map D.int))) gs (.dat (.int k)) x7 x8 x9 x10 x11) Ω = some (.nx (RL a0 (.dat (.lst (xs.map D.int))) (.dat (.lst (hs.map D.int))) gs (.dat (.int k)) y7 y8 y9 y10 y11) Ω') ∧ GG Ω' L' T' X' M' S' q' Mo' (b + 2) := by
  have h8 := h.w.bg
  obtain ⟨g1, m1, nT⟩ := h.begin
  have a4 : (Ω ++ [OS.dK []] ++ [OS.dK []])[4]? = some (.dK (ownK q)) := by rw [List.getElem?_append_left (by simp; omega), List.getElem?_append_left (by omega)]; exact h.o.p4
  have t1 : ∀ {t : SDen}, sSeq (sSet 7 gNewK) t (RL a0 (.dat (.lst (xs.map D.int))) (.dat (.lst (hs.map D.int))) gs (.dat (.int k)) x7 x8 x9 x10 x11) Ω = t (RL a0 (.dat (.lst (xs.map D.int))) (.dat (.lst (hs.map D.int))) gs (.dat (.int k)) (.dat (.obj Ω.length)) x8 x9 x10 x11) (Ω ++ [OS.dK []]) := seq_nx (by simp [RL])
  have hl3 : (ownK q).length < 100000 := by simp [ownK]
  have t2 : ∀ {t : SDen}, sSeq (sDPut (gVar 5) (gC (.str "marks")) gNewK) t (RL a0 (.dat (.lst (xs.map D.int))) (.dat (.lst (hs.map D.int))) gs (.dat (.int k)) (.dat (.obj Ω.length)) x8 x9 x10 x11) (Ω ++ [OS.dK []]) = t (RL a0 (.dat (.lst (xs.map D.int))) (.dat (.lst (hs.map D.int))) gs (.dat (.int k)) (.dat (.obj Ω.length)) x8 x9 x10 x11) ((Ω ++ [OS.dK []] ++ [OS.dK []]).set 4 (.dK (ownK (Ω.length + 1)))) := seq_nx (by
    rw [ap_dput, ap_newK]
    dsimp only
    rw [show (Ω ++ [OS.dK []]).length = Ω.length + 1 by simp]
    generalize Ω ++ [OS.dK []] ++ [OS.dK []] = Ωx at *
    simp [RL, a4, hl3, op3])
  generalize (Ω ++ [OS.dK []] ++ [OS.dK []]).set 4 (.dK (ownK (Ω.length + 1))) = Ω2 at *
  generalize hmq : Ω.length = mq at *
  obtain ⟨x8', Mm, Mo2, Ω3, f1, g3, m3, c1, _⟩ := marks_loop (by omega : 7 ≤ mq) (by omega : mq ≠ mq + 1) nT a0 (.dat (.lst (xs.map D.int))) (.dat (.lst (hs.map D.int))) (.dat (.int k)) x9 x10 x11 gs gs [] [] Ω2 x8 g1 m1 (by simp [gs3]) (by simp [gs3])
  have gs0 : gs ≠ [] := fun z => by rw [z] at gs3; cases gs3
  obtain ⟨d, hd, ed⟩ := drawn_den g3.o (by omega) hs0 hsb gs0 xs[k]
  obtain ⟨r, Ω4, Ω5, L', T', X', M', S', s1, s2, g5, kp, mono⟩ := step g3 (by omega) hd
  have ecell : L2.atI (xs.map D.int) (k : Int) = some (.int xs[k]) := by rw [atI_map, atI_nat' _ _ hk]; rfl
  have t3 : ∀ {t : SDen}, sSeq (sFor (gSeq (gVar 3)) (bName 8) mB) t (RL a0 (.dat (.lst (xs.map D.int))) (.dat (.lst (hs.map D.int))) gs (.dat (.int k)) (.dat (.obj mq)) x8 x9 x10 x11) Ω2 = t (RL a0 (.dat (.lst (xs.map D.int))) (.dat (.lst (hs.map D.int))) gs (.dat (.int k)) (.dat (.obj mq)) x8' x9 x10 x11) Ω3 := seq_nx (by
    rw [ap_for]
    have : gSeq (gVar 3) (RL a0 (.dat (.lst (xs.map D.int))) (.dat (.lst (hs.map D.int))) gs (.dat (.int k)) (.dat (.obj mq)) x8 x9 x10 x11) Ω2 = some (gs.map D.int, Ω2) := by simp [RL]
    rw [this]; exact f1)
  have t4 : ∀ {t : SDen}, sSeq (sSet 9 (gCall d_l_drawn (gCons (gVar 5) (gCons (gVar 2) (gCons (gVar 3) (gCons (gOp ixD (gVar 1) (gVar 6)) gNil)))))) t (RL a0 (.dat (.lst (xs.map D.int))) (.dat (.lst (hs.map D.int))) gs (.dat (.int k)) (.dat (.obj mq)) x8' x9 x10 x11) Ω3 = t (RL a0 (.dat (.lst (xs.map D.int))) (.dat (.lst (hs.map D.int))) gs (.dat (.int k)) (.dat (.obj mq)) x8' (.dat d) x10 x11) Ω3 := seq_nx (by simp [RL, ecell, ed])
  have t5 : ∀ {t : SDen}, sSeq (sSet 10 (gCall d_l_tried (gCons (gVar 4) (gCons (gVar 9) gNil)))) t (RL a0 (.dat (.lst (xs.map D.int))) (.dat (.lst (hs.map D.int))) gs (.dat (.int k)) (.dat (.obj mq)) x8' (.dat d) x10 x11) Ω3 = t (RL a0 (.dat (.lst (xs.map D.int))) (.dat (.lst (hs.map D.int))) gs (.dat (.int k)) (.dat (.obj mq)) x8' (.dat d) (.dat r) x11) Ω4 := seq_nx (by simp [RL, s1])
  have t6 : ∀ {t : SDen}, sSeq (sIf (gT (gOp (isD false) (gVar 10) (gC (.bl false)))) (sRet (gC (.bl false))) sNext) t (RL a0 (.dat (.lst (xs.map D.int))) (.dat (.lst (hs.map D.int))) gs (.dat (.int k)) (.dat (.obj mq)) x8' (.dat d) (.dat r) x11) Ω4 = t (RL a0 (.dat (.lst (xs.map D.int))) (.dat (.lst (hs.map D.int))) gs (.dat (.int k)) (.dat (.obj mq)) x8' (.dat d) (.dat r) x11) Ω4 := seq_nx (by
    rcases s2 with ⟨rfl, _⟩ | ⟨rfl, _⟩
    · simp [RL, isD]
    · simp [RL, isD])
  have t7 : ∀ {t : SDen}, sSeq (sIf (gT (gOp (isD false) (gVar 10) (gC .non))) (sExpr (gCall d_l_done (gCons (gVar 5) (gCons (gVar 9) gNil)))) sNext) t (RL a0 (.dat (.lst (xs.map D.int))) (.dat (.lst (hs.map D.int))) gs (.dat (.int k)) (.dat (.obj mq)) x8' (.dat d) (.dat r) x11) Ω4 = t (RL a0 (.dat (.lst (xs.map D.int))) (.dat (.lst (hs.map D.int))) gs (.dat (.int k)) (.dat (.obj mq)) x8' (.dat d) (.dat r) x11) Ω5 := seq_nx (by
    rcases s2 with ⟨rfl, rfl⟩ | ⟨rfl, e⟩
    · simp [RL, isD, isNone]
    · simp [RL, isD, isNone, e])
  have hml : mq < Ω3.length := (List.getElem?_eq_some_iff.mp m3).1
  have m5 : Ω5[mq]? = some (.dK (mpA iK mOD Mm)) := by rw [(kp.2 mq (by omega) hml nT).1]; exact m3
  obtain ⟨y8, y11, f8⟩ := check_loop g5 (by omega) m5 mono a0 (.dat (.lst (xs.map D.int))) (.dat (.lst (hs.map D.int))) (.dat (.int k)) (.dat d) (.dat r) gs gs x8' x11 c1
  refine ⟨.dat (.obj mq), y8, .dat d, .dat r, y11, Ω5, L', T', X', M', S', mq + 1, Mo2, ?_, g5⟩
  refine t1.trans (t2.trans (t3.trans (t4.trans (t5.trans (t6.trans (t7.trans ?_))))))
  rw [ap_for]
  have : gSeq (gVar 3) (RL a0 (.dat (.lst (xs.map D.int))) (.dat (.lst (hs.map D.int))) gs (.dat (.int k)) (.dat (.obj mq)) x8' (.dat d) (.dat r) x11) Ω5 = some (gs.map D.int, Ω5) := by simp [RL]
  rw [this]; exact f8
theorem main_loop {xs hs gs : List Int} (hs0 : hs ≠ []) (hsb : ∀ n ∈ hs, 0 ≤ n ∧ n < 32) (gs3 : gs.length = 3) (a0 : Sl) :
    ∀ (ks : List Nat) (x6 x7 x8 x9 x10 x11 : Sl) (Ω : List OS) (L : List (Int × Int)) (T : List (Int × Nat)) (X : Int → List (Int × Tl)) (M : List (Int × (Int × Int))) (S : List ((Int × Int) × Tl)) (q : Nat) (Mo : List (Int × (Int × Int))) (b : Nat), GG Ω L T X M S q Mo b → b + 2 * ks.length ≤ 380 → (∀ k ∈ ks, k < xs.length) →
      ∃ ρ' Ω', forD (bName 6) tB (ks.map fun (k : Nat) => D.int k) (RL a0 (.dat (.lst (xs.map D.int))) (.dat (.lst (hs.map D.int))) gs x6 x7 x8 x9 x10 x11) Ω = some (.nx ρ' Ω')
  | [], x6, x7, x8, x9, x10, x11, Ω, L, T, X, M, S, q, Mo, b, _, _, _ => ⟨_, _, rfl⟩
  | k :: ks, x6, x7, x8, x9, x10, x11, Ω, L, T, X, M, S, q, Mo, b, h, hb, hk => by
    rw [List.length_cons] at hb
    obtain ⟨y7, y8, y9, y10, y11, Ω', L', T', X', M', S', q', Mo', e, g'⟩ := turn_den h (by omega) hs0 hsb gs3 (hk k List.mem_cons_self) a0 x7 x8 x9 x10 x11
    obtain ⟨ρ', Ω'', ih⟩ := main_loop hs0 hsb gs3 a0 ks (.dat (.int k)) y7 y8 y9 y10 y11 Ω' L' T' X' M' S' q' Mo' (b + 2) g' (by omega) fun k' hk' => hk k' (List.mem_cons_of_mem _ hk')
    refine ⟨ρ', Ω'', ?_⟩
    have ebn : bName 6 (.int k) (RL a0 (.dat (.lst (xs.map D.int))) (.dat (.lst (hs.map D.int))) gs x6 x7 x8 x9 x10 x11) = some (RL a0 (.dat (.lst (xs.map D.int))) (.dat (.lst (hs.map D.int))) gs (.dat (.int k)) x7 x8 x9 x10 x11) := rfl
    rw [List.map_cons, for_cons, ebn]
    dsimp only
    rw [e]
    exact ih
theorem f12 : ¬ (("length_by" : Str) = "tellings_by") := by decide +kernel
theorem f13 : ¬ (("length_by" : Str) = "mark_of") := by decide +kernel
theorem f23 : ¬ (("tellings_by" : Str) = "mark_of") := by decide +kernel
theorem make_den (ρ : List Sl) : gMake "Ways" d_Ways___init__ [] gNil ρ [] = some (.obj 0, [.ins "Ways" flds, .dK [], .dK [], .dK []]) := by
  have e : d_Ways___init__ [.obj 0] [.ins "Ways" []] = some (.non, [.ins "Ways" flds, .dK [], .dK [], .dK []]) := by
    refine run_nx (ρ' := [.dat (.obj 0)]) rfl ?_
    simp [putFD, f12, f13, f23, flds]
  simp [e]
noncomputable def Ω0 : List OS := [.ins "Ways" flds, .dK [], .dK [], .dK [], .dK (ownK 7), .dK [], .dT [], .dK []]
theorem begun_den : d_l_begun [] [.ins "Ways" flds, .dK [], .dK [], .dK []] = some (.obj 4, Ω0) := by
  refine run_rt rfl ?_
  have e : gDisp [("lengths", gNewK), ("told", gNewT), ("marks", gNewK)] [] [.ins "Ways" flds, .dK [], .dK [], .dK []] = some (.obj 4, Ω0) := by
    have em : mergeD [] [((.inr "lengths" : L2.Key), D.obj 5), (.inr "told", .obj 6), (.inr "marks", .obj 7)] = ownK 7 := by simp [mergeD, putD, ownK, s12, s13, s23]
    unfold gDisp dispP dispP dispP dispP
    simp [em, Ω0]
  rw [ap_ret]
  exact (congrArg (fun z => match z with | some (d, Ω') => some (Out.rt d Ω') | none => none) e).trans rfl
theorem gg0 : GG Ω0 [] [] (fun _ => []) [] [] 7 [] 0 :=
  ⟨⟨rfl, rfl, rfl, rfl, fun n i h => (nomatch h), List.nodup_nil, rfl, List.nodup_nil, Nat.le_refl _, Nat.le_refl _, fun _ => Nat.le_refl _, by decide⟩, ⟨rfl, rfl, rfl, rfl, Nat.le_refl _, List.nodup_nil, List.nodup_nil, Nat.le_refl _, Nat.le_refl _⟩, by simp, ⟨fun g n l h => (nomatch h), fun g n h => rfl⟩, fun g n l num f h => (nomatch h), fun n l h => (nomatch h)⟩
theorem holds (ns : List Int) (hn : ns.length ≤ 63) : ∃ Ω, d_law [.scr ns] [] = some (.bl true, Ω) := by
  obtain ⟨xs, x1, x2, x3, ex⟩ := mixed_den hn []
  obtain ⟨hs, hs0, hsb, eh⟩ := houses_den x1 []
  obtain ⟨gs, gs3, eg⟩ := goals_den x1 (.dat (.scr ns)) .und [] [.dat (.lst (hs.map D.int)), .und, .und, .und, .und, .und, .und, .und, .und, .und]
  have e1 : d_l_cell_at [.lst (xs.map D.int), .int 1] Ω0 = some (.int xs[1], Ω0) := cell_den (xs := xs) (k := 1) (by omega) Ω0
  obtain ⟨m, hm⟩ : ∃ m : Nat, (m : Int) = (6 : Int) + xs[1] % (15 : Int) := ⟨(6 + xs[1] % 15).toNat, by omega⟩
  have hm2 : m ≤ 20 := by omega
  obtain ⟨ρ', Ω', el⟩ := main_loop (xs := xs) hs0 hsb gs3 (.dat (.scr ns)) ((List.range m).map fun k => k + 2) .und .und .und .und .und .und Ω0 _ _ _ _ _ _ _ _ gg0 (by simp; omega) (fun k hk => by
    obtain ⟨j, hj, rfl⟩ := List.mem_map.mp hk
    have := List.mem_range.mp hj
    omega)
  have er : rng2 [.int 2, D.int ((8 : Int) + xs[1] % (15 : Int))] = some (upD 2 m) := by
    rw [rng_2 (by decide) (by decide) (by omega) (by omega)]
    congr 2
    omega
  have eu : upD 2 m = ((List.range m).map fun k => k + 2).map fun (k : Nat) => D.int k := by
    unfold upD
    rw [List.map_map]
    apply List.map_congr_left
    intro k _
    show D.int (2 + (k : Int)) = D.int ((k + 2 : Nat) : Int)
    congr 1
    omega
  refine ⟨Ω', run_rt rfl ?_⟩
  refine (seq_nx (ρ' := [.dat (.scr ns), .dat (.lst (xs.map D.int)), .und, .und, .und, .und, .und, .und, .und, .und, .und, .und]) (Ω' := []) (by simp [ex])).trans ?_
  refine (seq_nx (ρ' := [.dat (.scr ns), .dat (.lst (xs.map D.int)), .dat (.lst (hs.map D.int)), .und, .und, .und, .und, .und, .und, .und, .und, .und]) (Ω' := []) (by simp [eh])).trans ?_
  refine (seq_nx (ρ' := [.dat (.scr ns), .dat (.lst (xs.map D.int)), .dat (.lst (hs.map D.int)), .dat (.lst (gs.map D.int)), .und, .und, .und, .und, .und, .und, .und, .und]) (Ω' := []) (by rw [ap_set, eg]; rfl)).trans ?_
  refine (seq_nx (ρ' := [.dat (.scr ns), .dat (.lst (xs.map D.int)), .dat (.lst (hs.map D.int)), .dat (.lst (gs.map D.int)), .dat (.obj 0), .und, .und, .und, .und, .und, .und, .und]) (Ω' := [.ins "Ways" flds, .dK [], .dK [], .dK []]) (by rw [ap_set, make_den]; rfl)).trans ?_
  refine (seq_nx (ρ' := RL (.dat (.scr ns)) (.dat (.lst (xs.map D.int))) (.dat (.lst (hs.map D.int))) gs .und .und .und .und .und .und) (Ω' := Ω0) (by rw [ap_set, ap_call, ap_nil]; dsimp only; rw [begun_den]; rfl)).trans ?_
  refine (seq_nx (ρ' := ρ') (Ω' := Ω') ?_).trans (by simp)
  rw [ap_for]
  have eγ : gRng rng2 (gCons (gC (.int 2)) (gCons (gOp addD (gC (.int 8)) (gOp modD (gCall d_l_cell_at (gCons (gVar 1) (gCons (gC (.int 1)) gNil))) (gC (.int 15)))) gNil)) (RL (.dat (.scr ns)) (.dat (.lst (xs.map D.int))) (.dat (.lst (hs.map D.int))) gs .und .und .und .und .und .und) Ω0 = some (upD 2 m, Ω0) := by simp [RL, e1, er]
  rw [eγ, eu]
  exact el
end Law
namespace Law
open PySem PySem.Spec PyProof.Rows L2 DL
set_option maxHeartbeats 4000000
seal PD PDA PDS PDB PDT PDI PDG RD RDS RDB PV
noncomputable def top (i : Nat) : Stmt := PySem.Challenge.pw_posthouse_k17_marks_get_better.main.body.getD i (.Pass ⟨0, 0, 0, 0⟩)
noncomputable abbrev s_l_mixed : Stmt := top 13
noncomputable abbrev s_l_cell_at : Stmt := top 14
noncomputable abbrev s_l_houses : Stmt := top 24
noncomputable abbrev s_Ways___init__ : Stmt := inClass (top 11) 0
noncomputable abbrev s_l_begun : Stmt := top 20
noncomputable abbrev s_l_better : Stmt := top 18
noncomputable abbrev s_l_may : Stmt := top 19
noncomputable abbrev s_l_way : Stmt := top 21
noncomputable abbrev s_l_mix : Stmt := top 15
noncomputable abbrev s_l_drawn : Stmt := top 25
noncomputable abbrev s_Ways_tie : Stmt := inClass (top 11) 2
noncomputable abbrev s_Ways_need_tie : Stmt := inClass (top 11) 1
noncomputable abbrev s_Ways_untie : Stmt := inClass (top 11) 3
noncomputable abbrev s_Ways_mark : Stmt := inClass (top 11) 8
noncomputable abbrev s_place_of_way : Stmt := top 10
noncomputable abbrev s_better : Stmt := top 6
noncomputable abbrev s_may_use : Stmt := top 7
noncomputable abbrev s_Ways_way : Stmt := inClass (top 11) 9
noncomputable abbrev s_bettered : Stmt := top 8
noncomputable abbrev s_Ways_hear : Stmt := inClass (top 11) 4
noncomputable abbrev s_l_tried : Stmt := top 26
noncomputable abbrev s_l_done : Stmt := top 23
noncomputable abbrev s_l_best : Stmt := top 27
noncomputable abbrev s_law : Stmt := top 28
noncomputable abbrev bmVE : List Value := [.type "ValueError", .type "Exception", .type "BaseException", .type "object"]
theorem vals_refs : ∀ {as : List Addr} {us : List Value}, Vals (as.map V.ref) us → us = as.map Value.ref
  | [], _, .nil => rfl
  | a :: as, _, .cons r t => by rw [vals_refs t]; cases (show _ = Value.ref a from r); rfl
section
variable {P : Program} {w : World} {K : PySem.W.Frag} {mg : Str → Option Value} {base : Heap} {C : Cl}
theorem sc_l_mixed : FnScope ["_law_script", "_law_found", "_law_more", "_law_cell"] ["_law_script"] (defScope s_l_mixed) := ⟨rfl, rfl, rfl, by decide +kernel, rfl, by decide +kernel, by decide +kernel⟩
theorem ok_l_mixed (T : TF K mg "_law_mixed" s_l_mixed) (b_len : mg "len" = none) : Fn P w K mg base C 1 "_law_mixed" d_l_mixed :=
  fn_F T sc_l_mixed rfl rfl (fun _ _ _ _ _ _ us hl => len1 us hl (fun _ => rfl)) fun f cdv A outer sh H E hr =>
    have nd : (cxOf CX0 P w K mg base ["_law_script", "_law_found", "_law_more", "_law_cell"] "_law_mixed" (defScope s_l_mixed) f cdv A outer sh H E).nox.N.Nodup := sc_l_mixed.nd
    (pdb_cons (pds_own (i := 1) nd rfl (by first | exact Or.inl rfl | exact Or.inr rfl) pda_nil) (pdb_cons (pds_set (i := 2) nd rfl (by first | exact Or.inl rfl | exact Or.inr rfl) pd_int) (pdb_cons (pds_for PassesOwn.never rfl (pdi_list (pd_var (pv 0))) (pdg_name nd rfl (by first | exact Or.inl rfl | exact Or.inr rfl)) (pdb_cons (pds_set (i := 2) nd rfl (by first | exact Or.inl rfl | exact Or.inr rfl) (pd_op opD_mod (pd_op opD_add (pd_op opD_add (pd_op opD_mul (pd_var (pv 2)) pd_int) (pd_var (pv 3))) pd_int) pd_int)) (pdb_one (pds_app (pv 1) (pd_var (pv 2)))))) (pdb_cons (pds_while 1000 PassesOwn.never (pdt_cmp opD_lt (pl_len rfl b_len PySem.boot_len (pdl_own (pv 1))) pd_int (nomark _)) (pdb_cons (pds_set (i := 2) nd rfl (by first | exact Or.inl rfl | exact Or.inr rfl) (pd_op opD_mod (pd_op opD_add (pd_op opD_mul (pd_var (pv 2)) pd_int) pd_int) pd_int)) (pdb_one (pds_app (pv 1) (pd_var (pv 2)))))) (pdb_ghost (ghost_frz 1) (pdb_one (pds_ret (pd_var (pv 1)))))))))
theorem sc_l_cell_at : FnScope ["_law_cells", "_law_k"] ["_law_cells", "_law_k"] (defScope s_l_cell_at) := ⟨rfl, rfl, rfl, by decide +kernel, rfl, by decide +kernel, by decide +kernel⟩
theorem ok_l_cell_at (T : TF K mg "_law_cell_at" s_l_cell_at) (b_len : mg "len" = none) : Fn P w K mg base C 1 "_law_cell_at" d_l_cell_at :=
  fn_F T sc_l_cell_at rfl rfl (fun _ _ _ _ _ _ us hl => len2 us hl (fun _ _ => rfl)) fun f cdv A outer sh H E hr =>
    have nd : (cxOf CX0 P w K mg base ["_law_cells", "_law_k"] "_law_cell_at" (defScope s_l_cell_at) f cdv A outer sh H E).nox.N.Nodup := sc_l_cell_at.nd
    (pdb_cons (pds_if (pdt_cmp opD_lt (pd_var (pv 1)) (pd_callB callD_len rfl b_len PySem.boot_len (pda_cons (pd_var (pv 0)) pda_nil)) (nomark _)) (pdb_one (pds_ret (pd_ix (pd_var (pv 0)) (pd_var (pv 1))))) pdb_nil) (pdb_one (pds_ret (pd_op opD_mul (pd_op opD_mul (pd_op opD_add (pd_var (pv 1)) pd_int) (pd_op opD_add (pd_var (pv 1)) pd_int)) pd_int))))
theorem sc_l_houses : FnScope ["_law_cells", "_law_cell"] ["_law_cells"] (defScope s_l_houses) := ⟨rfl, rfl, rfl, by decide +kernel, rfl, by decide +kernel, by decide +kernel⟩
theorem ok_l_houses (T : TF K mg "_law_houses" s_l_houses) (b_range : mg "range" = none) (G_l_cell_at : Fn P w K mg base C 1 "_law_cell_at" d_l_cell_at) : Fn P w K mg base C 2 "_law_houses" d_l_houses :=
  fn_F T sc_l_houses rfl rfl (fun _ _ _ _ _ _ us hl => len1 us hl (fun _ => rfl)) fun f cdv A outer sh H E hr =>
    have nd : (cxOf CX0 P w K mg base ["_law_cells", "_law_cell"] "_law_houses" (defScope s_l_houses) f cdv A outer sh H E).nox.N.Nodup := sc_l_houses.nd
    (pdb_cons (pds_set (i := 1) nd rfl (by first | exact Or.inl rfl | exact Or.inr rfl) (pd_callF G_l_cell_at (hr.mono (by decide)) rfl (pda_cons (pd_var (pv 0)) (pda_cons pd_int pda_nil)))) (pdb_cons (pds_if (pdt_cmp (opD_eq hr.units) (pd_op opD_mod (pd_var (pv 1)) pd_int) pd_int (nomark _)) (pdb_one (pds_ret (pd_compN rfl (compOk_of (oN := ["_law_cells", "_law_cell"]) (osc := defScope s_l_houses) (N := ["_law_k"]) (μ := [none]) rfl rfl (by decide +kernel)) (pdi_range1 rfl b_range (pda_cons pd_int pda_nil)) (fun _ _ _ _ => (pdg_name (show List.Nodup (["_law_k"] : List Str) by decide +kernel) rfl (by first | exact Or.inl rfl | exact Or.inr rfl))) (fun _ _ _ _ => pdts_nil) (fun _ _ _ _ => (pd_var (pv 0)))))) pdb_nil) (pdb_one (pds_ret (pd_compN rfl (compOk_of (oN := ["_law_cells", "_law_cell"]) (osc := defScope s_l_houses) (N := ["_law_k", "_law_cell"]) (μ := [none, some 1]) rfl rfl (by decide +kernel)) (pdi_range1 rfl b_range (pda_cons (pd_op opD_add pd_int (pd_op opD_mod (pd_op opD_div (pd_var (pv 1)) pd_int) pd_int)) pda_nil)) (fun _ _ _ _ => (pdg_name (show List.Nodup (["_law_k", "_law_cell"] : List Str) by decide +kernel) rfl (by first | exact Or.inl rfl | exact Or.inr rfl))) (fun _ _ _ _ => pdts_nil) (fun _ _ _ _ => (pd_op opD_mod (pd_op opD_add (pd_op opD_div (pd_var (pv 1)) pd_int) (pd_op opD_mul (pd_var (pv 0)) (pd_op opD_add pd_int (pd_op opD_mod (pd_op opD_div (pd_var (pv 1)) pd_int) pd_int)))) pd_int)))))))
theorem sc_Ways___init__ : FnScope ["self"] ["self"] (defScope s_Ways___init__) := ⟨rfl, rfl, rfl, by decide +kernel, rfl, by decide +kernel, by decide +kernel⟩
theorem ok_Ways___init__ {dV : Value} {f : Addr} {fd : FuncData} (F : FunV K "__init__" "Ways.__init__" s_Ways___init__ dV f fd) (T_Ways : ClD K C "Ways") (n_Ways_length_by : NoA K C "Ways" "length_by") (n_Ways_mark_of : NoA K C "Ways" "mark_of") (n_Ways_tellings_by : NoA K C "Ways" "tellings_by") : FnOk P w K mg base CX0 1 f fd ["self"] (spD K C d_Ways___init__) :=
  fn_DV F sc_Ways___init__ rfl rfl fun cdv A outer sh H E hr =>
    have nd : (cxOf CX0 P w K mg base ["self"] "Ways.__init__" (defScope s_Ways___init__) f cdv A outer sh H E).nox.N.Nodup := sc_Ways___init__.nd
    (pdb_cons (pds_fld T_Ways n_Ways_length_by (pd_var (pv 0)) pd_newK) (pdb_cons (pds_fld T_Ways n_Ways_tellings_by (pd_var (pv 0)) pd_newK) (pdb_one (pds_fld T_Ways n_Ways_mark_of (pd_var (pv 0)) pd_newK))))
theorem sc_l_begun : FnScope [] [] (defScope s_l_begun) := ⟨rfl, rfl, rfl, by decide +kernel, rfl, by decide +kernel, by decide +kernel⟩
theorem ok_l_begun (T : TF K mg "_law_begun" s_l_begun) : Fn P w K mg base C 1 "_law_begun" d_l_begun :=
  fn_F T sc_l_begun rfl rfl (fun _ _ _ _ _ _ us hl => len0 us hl (rfl)) fun f cdv A outer sh H E hr =>
    have nd : (cxOf CX0 P w K mg base [] "_law_begun" (defScope s_l_begun) f cdv A outer sh H E).nox.N.Nodup := sc_l_begun.nd
    (pdb_one (pds_ret (pd_disp (PDP.cons pd_newK (PDP.cons pd_newT (PDP.cons pd_newK PDP.nil))) (by intro z; cases z) (Nat.le_of_ble_eq_true rfl))))
theorem sc_l_better : FnScope ["_law_one", "_law_other"] ["_law_one", "_law_other"] (defScope s_l_better) := ⟨rfl, rfl, rfl, by decide +kernel, rfl, by decide +kernel, by decide +kernel⟩
theorem ok_l_better (T : TF K mg "_law_better" s_l_better) : Fn P w K mg base C 1 "_law_better" d_l_better :=
  fn_F T sc_l_better rfl rfl (fun _ _ _ _ _ _ us hl => len2 us hl (fun _ _ => rfl)) fun f cdv A outer sh H E hr =>
    have nd : (cxOf CX0 P w K mg base ["_law_one", "_law_other"] "_law_better" (defScope s_l_better) f cdv A outer sh H E).nox.N.Nodup := sc_l_better.nd
    (pdb_one (pds_ret (pd_or (pd_cmp opD_gt (pd_ix (pd_var (pv 0)) pd_int) (pd_ix (pd_var (pv 1)) pd_int) (nomark _)) (pd_one (pd_and (pd_cmp (opD_eq hr.units) (pd_ix (pd_var (pv 0)) pd_int) (pd_ix (pd_var (pv 1)) pd_int) (nomark _)) (pd_one (pd_cmp opD_lt (pd_ix (pd_var (pv 0)) pd_int) (pd_ix (pd_var (pv 1)) pd_int) (nomark _))))))))
theorem sc_l_may : FnScope ["_law_mark", "_law_number", "_law_far"] ["_law_mark", "_law_number", "_law_far"] (defScope s_l_may) := ⟨rfl, rfl, rfl, by decide +kernel, rfl, by decide +kernel, by decide +kernel⟩
theorem ok_l_may (T : TF K mg "_law_may" s_l_may) (G_l_better : Fn P w K mg base C 1 "_law_better" d_l_better) : Fn P w K mg base C 2 "_law_may" d_l_may :=
  fn_F T sc_l_may rfl rfl (fun _ _ _ _ _ _ us hl => len3 us hl (fun _ _ _ => rfl)) fun f cdv A outer sh H E hr =>
    have nd : (cxOf CX0 P w K mg base ["_law_mark", "_law_number", "_law_far"] "_law_may" (defScope s_l_may) f cdv A outer sh H E).nox.N.Nodup := sc_l_may.nd
    (pdb_one (pds_ret (pd_and (pd_cmp opD_isnot (pd_var (pv 2)) pd_non (nomark _)) (pd_one (pd_or (pd_cmp opD_is (pd_var (pv 0)) pd_non (nomark _)) (pd_one (pd_callF G_l_better (hr.mono (by decide)) rfl (pda_cons (pd_tup (pda_cons (pd_var (pv 1)) (pda_cons (pd_var (pv 2)) pda_nil))) (pda_cons (pd_var (pv 0)) pda_nil)))))))))
theorem sc_l_way : FnScope ["_law_own", "_law_goal", "_law_found", "_law_neighbour", "_law_number", "_law_far", "_law_lowest"] ["_law_own", "_law_goal"] (defScope s_l_way) := ⟨rfl, rfl, rfl, by decide +kernel, rfl, by decide +kernel, by decide +kernel⟩
theorem ok_l_way (T : TF K mg "_law_way" s_l_way) (b_min : mg "min" = none) (G_l_may : Fn P w K mg base C 2 "_law_may" d_l_may) : Fn P w K mg base C 3 "_law_way" d_l_way :=
  fn_F T sc_l_way rfl rfl (fun _ _ _ _ _ _ us hl => len2 us hl (fun _ _ => rfl)) fun f cdv A outer sh H E hr =>
    have nd : (cxOf CX0 P w K mg base ["_law_own", "_law_goal", "_law_found", "_law_neighbour", "_law_number", "_law_far", "_law_lowest"] "_law_way" (defScope s_l_way) f cdv A outer sh H E).nox.N.Nodup := sc_l_way.nd
    (pdb_cons (pds_own (i := 2) nd rfl (by first | exact Or.inl rfl | exact Or.inr rfl) pda_nil) (pdb_cons (pds_forK PassesOwn.never rfl (pd_dget (hu_of hr) (pd_var (pv 0)) pd_str (fun _ _ => rfl)) (pdg_name nd rfl (by first | exact Or.inl rfl | exact Or.inr rfl)) (pdb_one (pds_if (pdt_din (hu_of hr) (pd_tup (pda_cons (pd_var (pv 1)) (pda_cons (pd_var (pv 3)) pda_nil))) (pd_dget (hu_of hr) (pd_var (pv 0)) pd_str (fun _ _ => rfl))) (pdb_cons (pds_asg (pd_dget (hu_of hr) (pd_dget (hu_of hr) (pd_var (pv 0)) pd_str (fun _ _ => rfl)) (pd_tup (pda_cons (pd_var (pv 1)) (pda_cons (pd_var (pv 3)) pda_nil))) (fun _ _ => rfl)) (pdg_tup rfl (pdgs_cons (i := 4) nd rfl (by first | exact Or.inl rfl | exact Or.inr rfl) (pdgs_cons (i := 5) nd rfl (by first | exact Or.inl rfl | exact Or.inr rfl) pdgs_nil)))) (pdb_one (pds_if (pdt_val (pd_callF G_l_may (hr.mono (by decide)) rfl (pda_cons (pd_dget1 (hu_of hr) (pd_dget (hu_of hr) (pd_var (pv 0)) pd_str (fun _ _ => rfl)) (pd_var (pv 1)) ⟨rfl, rfl, rfl, rfl⟩) (pda_cons (pd_var (pv 4)) (pda_cons (pd_var (pv 5)) pda_nil))))) (pdb_one (pds_app (pv 2) (pd_tup (pda_cons (pd_neg (pd_var (pv 4))) (pda_cons (pd_op opD_add (pd_var (pv 5)) (pd_dget (hu_of hr) (pd_dget (hu_of hr) (pd_var (pv 0)) pd_str (fun _ _ => rfl)) (pd_var (pv 3)) (fun _ _ => rfl))) (pda_cons (pd_var (pv 3)) pda_nil)))))) pdb_nil))) pdb_nil))) (pdb_ghost (ghost_frz 2) (pdb_cons (pds_if (pdt_cmp (opD_eq hr.units) (pd_var (pv 2)) (pd_lst pda_nil) (nomark _)) (pdb_one (pds_ret pd_non)) pdb_nil) (pdb_cons (pds_set (i := 6) nd rfl (by first | exact Or.inl rfl | exact Or.inr rfl) (pd_min hr rfl b_min boot_min (pd_var (pv 2)))) (pdb_one (pds_ret (pd_tup (pda_cons (pd_neg (pd_ix (pd_var (pv 6)) pd_int)) (pda_cons (pd_ix (pd_var (pv 6)) pd_int) (pda_cons (pd_ix (pd_var (pv 6)) pd_int) pda_nil)))))))))))
theorem sc_l_mix : FnScope ["_law_cell", "_law_k", "_law_x"] ["_law_cell", "_law_k"] (defScope s_l_mix) := ⟨rfl, rfl, rfl, by decide +kernel, rfl, by decide +kernel, by decide +kernel⟩
theorem ok_l_mix (T : TF K mg "_law_mix" s_l_mix) : Fn P w K mg base C 1 "_law_mix" d_l_mix :=
  fn_F T sc_l_mix rfl rfl (fun _ _ _ _ _ _ us hl => len2 us hl (fun _ _ => rfl)) fun f cdv A outer sh H E hr =>
    have nd : (cxOf CX0 P w K mg base ["_law_cell", "_law_k", "_law_x"] "_law_mix" (defScope s_l_mix) f cdv A outer sh H E).nox.N.Nodup := sc_l_mix.nd
    (pdb_cons (pds_set (i := 2) nd rfl (by first | exact Or.inl rfl | exact Or.inr rfl) (pd_op opD_mod (pd_op opD_add (pd_op opD_add (pd_var (pv 0)) (pd_op opD_mul pd_int (pd_var (pv 1)))) (pd_op opD_mul (pd_op opD_mul pd_int (pd_var (pv 1))) (pd_var (pv 1)))) pd_int)) (pdb_one (pds_ret (pd_op opD_mod (pd_op opD_mul (pd_op opD_mod (pd_op opD_mul (pd_var (pv 2)) (pd_var (pv 2))) pd_int) pd_int) pd_int))))
theorem sc_l_drawn : FnScope ["_law_own", "_law_houses_here", "_law_goals", "_law_cell", "_law_neighbour", "_law_goal", "_law_way_here", "_law_best_here", "_law_mark", "_law_number", "_law_far"] ["_law_own", "_law_houses_here", "_law_goals", "_law_cell"] (defScope s_l_drawn) := ⟨rfl, rfl, rfl, by decide +kernel, rfl, by decide +kernel, by decide +kernel⟩
theorem ok_l_drawn (T : TF K mg "_law_drawn" s_l_drawn) (b_len : mg "len" = none) (b_max : mg "max" = none) (G_l_mix : Fn P w K mg base C 1 "_law_mix" d_l_mix) (G_l_way : Fn P w K mg base C 3 "_law_way" d_l_way) : Fn P w K mg base C 4 "_law_drawn" d_l_drawn :=
  fn_F T sc_l_drawn rfl rfl (fun _ _ _ _ _ _ us hl => len4 us hl (fun _ _ _ _ => rfl)) fun f cdv A outer sh H E hr =>
    have nd : (cxOf CX0 P w K mg base ["_law_own", "_law_houses_here", "_law_goals", "_law_cell", "_law_neighbour", "_law_goal", "_law_way_here", "_law_best_here", "_law_mark", "_law_number", "_law_far"] "_law_drawn" (defScope s_l_drawn) f cdv A outer sh H E).nox.N.Nodup := sc_l_drawn.nd
    (pdb_cons (pds_set (i := 4) nd rfl (by first | exact Or.inl rfl | exact Or.inr rfl) (pd_ix (pd_var (pv 1)) (pd_op opD_mod (pd_callF G_l_mix (hr.mono (by decide)) rfl (pda_cons (pd_var (pv 3)) (pda_cons pd_int pda_nil))) (pd_callB callD_len rfl b_len PySem.boot_len (pda_cons (pd_var (pv 1)) pda_nil))))) (pdb_cons (pds_set (i := 5) nd rfl (by first | exact Or.inl rfl | exact Or.inr rfl) (pd_ix (pd_var (pv 2)) (pd_op opD_mod (pd_callF G_l_mix (hr.mono (by decide)) rfl (pda_cons (pd_var (pv 3)) (pda_cons pd_int pda_nil))) (pd_callB callD_len rfl b_len PySem.boot_len (pda_cons (pd_var (pv 2)) pda_nil))))) (pdb_cons (pds_set (i := 6) nd rfl (by first | exact Or.inl rfl | exact Or.inr rfl) (pd_op opD_mod (pd_callF G_l_mix (hr.mono (by decide)) rfl (pda_cons (pd_var (pv 3)) (pda_cons pd_int pda_nil))) pd_int)) (pdb_cons (pds_if (pdt_cmp opD_lt (pd_var (pv 6)) pd_int (nomark _)) (pdb_one (pds_ret (pd_tup (pda_cons pd_str (pda_cons (pd_var (pv 4)) (pda_cons (pd_ix (pd_lst (pda_cons (pd_op opD_add pd_int (pd_op opD_mod (pd_callF G_l_mix (hr.mono (by decide)) rfl (pda_cons (pd_var (pv 3)) (pda_cons pd_int pda_nil))) pd_int)) (pda_cons (pd_op opD_add pd_int (pd_op opD_mod (pd_callF G_l_mix (hr.mono (by decide)) rfl (pda_cons (pd_var (pv 3)) (pda_cons pd_int pda_nil))) pd_int)) pda_nil))) (pd_op opD_mod (pd_callF G_l_mix (hr.mono (by decide)) rfl (pda_cons (pd_var (pv 3)) (pda_cons pd_int pda_nil))) pd_int)) pda_nil)))))) pdb_nil) (pdb_cons (pds_if (pdt_cmp (opD_eq hr.units) (pd_var (pv 6)) pd_int (nomark _)) (pdb_one (pds_ret (pd_tup (pda_cons pd_str (pda_cons (pd_var (pv 4)) pda_nil))))) pdb_nil) (pdb_cons (pds_set (i := 7) nd rfl (by first | exact Or.inl rfl | exact Or.inr rfl) (pd_callF G_l_way (hr.mono (by decide)) rfl (pda_cons (pd_var (pv 0)) (pda_cons (pd_var (pv 5)) pda_nil)))) (pdb_cons (pds_if (PDW.pt (pdw_and (pdt_cmp opD_isnot (pd_var (pv 7)) pd_non (nomark _)) (pdw_and (pdt_din (hu_of hr) (pd_var (pv 4)) (pd_dget (hu_of hr) (pd_var (pv 0)) pd_str (fun _ _ => rfl))) (pdw_and1 (pdt_cmp (opD_eq hr.units) (pd_op opD_mod (pd_callF G_l_mix (hr.mono (by decide)) rfl (pda_cons (pd_var (pv 3)) (pda_cons pd_int pda_nil))) pd_int) pd_int (nomark _)))))) (pdb_one (pds_ret (pd_tup (pda_cons pd_str (pda_cons (pd_var (pv 4)) (pda_cons (pd_var (pv 5)) (pda_cons (pd_ix (pd_var (pv 7)) pd_int) (pda_cons (pd_callB (callD_max rfl) rfl b_max boot_max (pda_cons pd_int (pda_cons (pd_op opD_sub (pd_ix (pd_var (pv 7)) pd_int) (pd_dget (hu_of hr) (pd_dget (hu_of hr) (pd_var (pv 0)) pd_str (fun _ _ => rfl)) (pd_var (pv 4)) (fun _ _ => rfl))) pda_nil))) pda_nil)))))))) pdb_nil) (pdb_cons (pds_set (i := 8) nd rfl (by first | exact Or.inl rfl | exact Or.inr rfl) (pd_dget2 (hu_of hr) (pd_dget (hu_of hr) (pd_var (pv 0)) pd_str (fun _ _ => rfl)) (pd_var (pv 5)) (pd_tup (pda_cons pd_int (pda_cons pd_int pda_nil))) ⟨rfl, rfl, rfl, rfl⟩)) (pdb_cons (pds_set (i := 9) nd rfl (by first | exact Or.inl rfl | exact Or.inr rfl) (pd_callB (callD_max rfl) rfl b_max boot_max (pda_cons pd_int (pda_cons (pd_op opD_add (pd_ix (pd_var (pv 8)) pd_int) (pd_ix (pd_lst (pda_cons pd_int (pda_cons pd_int (pda_cons pd_int (pda_cons pd_int (pda_cons (pd_neg pd_int) (pda_cons pd_int pda_nil))))))) (pd_op opD_mod (pd_callF G_l_mix (hr.mono (by decide)) rfl (pda_cons (pd_var (pv 3)) (pda_cons pd_int pda_nil))) pd_int))) pda_nil)))) (pdb_cons (pds_set (i := 10) nd rfl (by first | exact Or.inl rfl | exact Or.inr rfl) (pd_ix (pd_lst (pda_cons (pd_op opD_mod (pd_callF G_l_mix (hr.mono (by decide)) rfl (pda_cons (pd_var (pv 3)) (pda_cons pd_int pda_nil))) pd_int) (pda_cons (pd_ix (pd_var (pv 8)) pd_int) (pda_cons (pd_op opD_sub (pd_ix (pd_var (pv 8)) pd_int) pd_int) (pda_cons (pd_op opD_add (pd_ix (pd_var (pv 8)) pd_int) pd_int) pda_nil))))) (pd_op opD_mod (pd_callF G_l_mix (hr.mono (by decide)) rfl (pda_cons (pd_var (pv 3)) (pda_cons pd_int pda_nil))) pd_int))) (pdb_cons (pds_if (pdt_cmp (opD_eq hr.units) (pd_op opD_mod (pd_callF G_l_mix (hr.mono (by decide)) rfl (pda_cons (pd_var (pv 3)) (pda_cons pd_int pda_nil))) pd_int) pd_int (nomark _)) (pdb_cons (pds_set (i := 9) nd rfl (by first | exact Or.inl rfl | exact Or.inr rfl) (pd_op opD_add pd_int (pd_op opD_mul (pd_callF G_l_mix (hr.mono (by decide)) rfl (pda_cons (pd_var (pv 3)) (pda_cons pd_int pda_nil))) pd_int))) (pdb_one (pds_set (i := 10) nd rfl (by first | exact Or.inl rfl | exact Or.inr rfl) (pd_callF G_l_mix (hr.mono (by decide)) rfl (pda_cons (pd_var (pv 3)) (pda_cons pd_int pda_nil)))))) pdb_nil) (pdb_cons (pds_if (pdt_cmp (opD_eq hr.units) (pd_op opD_mod (pd_callF G_l_mix (hr.mono (by decide)) rfl (pda_cons (pd_var (pv 3)) (pda_cons pd_int pda_nil))) pd_int) pd_int (nomark _)) (pdb_one (pds_set (i := 10) nd rfl (by first | exact Or.inl rfl | exact Or.inr rfl) pd_non)) pdb_nil) (pdb_one (pds_ret (pd_tup (pda_cons pd_str (pda_cons (pd_var (pv 4)) (pda_cons (pd_var (pv 5)) (pda_cons (pd_var (pv 9)) (pda_cons (pd_var (pv 10)) pda_nil))))))))))))))))))))
theorem sc_Ways_tie : FnScope ["self", "neighbour", "length"] ["self", "neighbour", "length"] (defScope s_Ways_tie) := ⟨rfl, rfl, rfl, by decide +kernel, rfl, by decide +kernel, by decide +kernel⟩
theorem ok_Ways_tie {dV : Value} {f : Addr} {fd : FuncData} (F : FunV K "tie" "Ways.tie" s_Ways_tie dV f fd) (T_Ways : ClD K C "Ways") (n_Ways_length_by : NoA K C "Ways" "length_by") (n_Ways_tellings_by : NoA K C "Ways" "tellings_by") {C_Tied : Addr} (hC_Tied : C "Tied" = some C_Tied) (O_Tied : OwnCls "Tied" C_Tied bmVE "ValueError.__new__" mg base) : FnOk P w K mg base (CXr P w) 1 f fd ["self", "neighbour", "length"] (spX K C d_Ways_tie r_Ways_tie) :=
  fn_DX F sc_Ways_tie rfl rfl (fun cdv A outer sh H E hr =>
    have nd : (cxOf (CXr P w) P w K mg base ["self", "neighbour", "length"] "Ways.tie" (defScope s_Ways_tie) f cdv A outer sh H E).nox.N.Nodup := sc_Ways_tie.nd
    (pdb_cons (pds_if (pdt_din (hu_of hr) (pd_var (pv 1)) (pd_fld T_Ways n_Ways_length_by (pd_var (pv 0)))) (pdb_one pds_never) pdb_nil) (pdb_cons (pds_dput (hu_of hr) (pd_fld T_Ways n_Ways_length_by (pd_var (pv 0))) (pd_var (pv 1)) (pd_var (pv 2))) (pdb_one (pds_dput (hu_of hr) (pd_fld T_Ways n_Ways_tellings_by (pd_var (pv 0))) (pd_var (pv 1)) pd_newK)))))
    fun cdv A outer sh H E hr =>
    have nd : (cxOf (CXr P w) P w K mg base ["self", "neighbour", "length"] "Ways.tie" (defScope s_Ways_tie) f cdv A outer sh H E).N.Nodup := sc_Ways_tie.nd
    (rdb_here (rds_if (pdt_din (hu_of hr) (pd_var (pv 1)) (pd_fld T_Ways n_Ways_length_by (pd_var (pv 0)))) (rdb_one (rds_raiseV throwOk_def hC_Tied O_Tied PySem.F.excBase_ValueError hr.hd rfl (pv_fi (pd_var (pv 1))))) rdb_never))
theorem sc_Ways_need_tie : FnScope ["self", "neighbour"] ["self", "neighbour"] (defScope s_Ways_need_tie) := ⟨rfl, rfl, rfl, by decide +kernel, rfl, by decide +kernel, by decide +kernel⟩
theorem ok_Ways_need_tie {dV : Value} {f : Addr} {fd : FuncData} (F : FunV K "need_tie" "Ways.need_tie" s_Ways_need_tie dV f fd) (T_Ways : ClD K C "Ways") (n_Ways_length_by : NoA K C "Ways" "length_by") {C_NotTied : Addr} (hC_NotTied : C "NotTied" = some C_NotTied) (O_NotTied : OwnCls "NotTied" C_NotTied bmVE "ValueError.__new__" mg base) : FnOk P w K mg base (CXr P w) 1 f fd ["self", "neighbour"] (spX K C d_Ways_need_tie r_Ways_need_tie) :=
  fn_DX F sc_Ways_need_tie rfl rfl (fun cdv A outer sh H E hr =>
    have nd : (cxOf (CXr P w) P w K mg base ["self", "neighbour"] "Ways.need_tie" (defScope s_Ways_need_tie) f cdv A outer sh H E).nox.N.Nodup := sc_Ways_need_tie.nd
    (pdb_one (pds_if (pdt_dnotin (hu_of hr) (pd_var (pv 1)) (pd_fld T_Ways n_Ways_length_by (pd_var (pv 0)))) (pdb_one pds_never) pdb_nil)))
    fun cdv A outer sh H E hr =>
    have nd : (cxOf (CXr P w) P w K mg base ["self", "neighbour"] "Ways.need_tie" (defScope s_Ways_need_tie) f cdv A outer sh H E).N.Nodup := sc_Ways_need_tie.nd
    (rdb_one (rds_if (pdt_dnotin (hu_of hr) (pd_var (pv 1)) (pd_fld T_Ways n_Ways_length_by (pd_var (pv 0)))) (rdb_one (rds_raiseV throwOk_def hC_NotTied O_NotTied PySem.F.excBase_ValueError hr.hd rfl (pv_fi (pd_var (pv 1))))) rdb_never))
theorem sc_Ways_untie : FnScope ["self", "neighbour"] ["self", "neighbour"] (defScope s_Ways_untie) := ⟨rfl, rfl, rfl, by decide +kernel, rfl, by decide +kernel, by decide +kernel⟩
theorem ok_Ways_untie {dV : Value} {f : Addr} {fd : FuncData} (F : FunV K "untie" "Ways.untie" s_Ways_untie dV f fd) (T_Ways : ClD K C "Ways") (n_Ways_length_by : NoA K C "Ways" "length_by") (n_Ways_tellings_by : NoA K C "Ways" "tellings_by") (M_Ways_need_tie_0 : MtX P w K mg base C 1 "Ways" "need_tie" d_Ways_need_tie r_Ways_need_tie []) : FnOk P w K mg base (CXr P w) 2 f fd ["self", "neighbour"] (spX K C d_Ways_untie r_Ways_untie) :=
  fn_DX F sc_Ways_untie rfl rfl (fun cdv A outer sh H E hr =>
    have nd : (cxOf (CXr P w) P w K mg base ["self", "neighbour"] "Ways.untie" (defScope s_Ways_untie) f cdv A outer sh H E).nox.N.Nodup := sc_Ways_untie.nd
    (pdb_cons (pds_expr (pd_methX M_Ways_need_tie_0 (hr.mono (by decide)) (pd_var (pv 0)) (pda_cons (pd_var (pv 1)) pda_nil))) (pdb_cons (pds_expr (pd_dpop (hu_of hr) (pd_fld T_Ways n_Ways_length_by (pd_var (pv 0))) (pd_var (pv 1)) ⟨rfl, rfl, rfl, rfl⟩)) (pdb_one (pds_expr (pd_dpop (hu_of hr) (pd_fld T_Ways n_Ways_tellings_by (pd_var (pv 0))) (pd_var (pv 1)) ⟨rfl, rfl, rfl, rfl⟩))))))
    fun cdv A outer sh H E hr =>
    have nd : (cxOf (CXr P w) P w K mg base ["self", "neighbour"] "Ways.untie" (defScope s_Ways_untie) f cdv A outer sh H E).N.Nodup := sc_Ways_untie.nd
    (rdb_here (rds_expr (rd_meth flyOk_def M_Ways_need_tie_0 (hr.mono (by decide)) (pd_var (pv 0)) (pda_cons (pd_var (pv 1)) pda_nil))))
theorem sc_Ways_mark : FnScope ["self", "goal"] ["self", "goal"] (defScope s_Ways_mark) := ⟨rfl, rfl, rfl, by decide +kernel, rfl, by decide +kernel, by decide +kernel⟩
theorem ok_Ways_mark {dV : Value} {f : Addr} {fd : FuncData} (F : FunV K "mark" "Ways.mark" s_Ways_mark dV f fd) (T_Ways : ClD K C "Ways") (n_Ways_mark_of : NoA K C "Ways" "mark_of") : FnOk P w K mg base CX0 1 f fd ["self", "goal"] (spD K C d_Ways_mark) :=
  fn_DV F sc_Ways_mark rfl rfl fun cdv A outer sh H E hr =>
    have nd : (cxOf CX0 P w K mg base ["self", "goal"] "Ways.mark" (defScope s_Ways_mark) f cdv A outer sh H E).nox.N.Nodup := sc_Ways_mark.nd
    (pdb_one (pds_ret (pd_dget1 (hu_of hr) (pd_fld T_Ways n_Ways_mark_of (pd_var (pv 0))) (pd_var (pv 1)) ⟨rfl, rfl, rfl, rfl⟩)))
theorem sc_place_of_way : FnScope ["way"] ["way"] (defScope s_place_of_way) := ⟨rfl, rfl, rfl, by decide +kernel, rfl, by decide +kernel, by decide +kernel⟩
theorem ok_place_of_way (T : TF K mg "place_of_way" s_place_of_way) : Fn P w K mg base C 1 "place_of_way" d_place_of_way :=
  fn_F T sc_place_of_way rfl rfl (fun _ _ _ _ _ _ us hl => len1 us hl (fun _ => rfl)) fun f cdv A outer sh H E hr =>
    have nd : (cxOf CX0 P w K mg base ["way"] "place_of_way" (defScope s_place_of_way) f cdv A outer sh H E).nox.N.Nodup := sc_place_of_way.nd
    (pdb_one (pds_ret (pd_tup (pda_cons (pd_neg (pd_ix (pd_var (pv 0)) pd_int)) (pda_cons (pd_ix (pd_var (pv 0)) pd_int) (pda_cons (pd_ix (pd_var (pv 0)) pd_int) pda_nil))))))
theorem sc_better : FnScope ["one", "other"] ["one", "other"] (defScope s_better) := ⟨rfl, rfl, rfl, by decide +kernel, rfl, by decide +kernel, by decide +kernel⟩
theorem ok_better (T : TF K mg "better" s_better) : Fn P w K mg base C 1 "better" d_better :=
  fn_F T sc_better rfl rfl (fun _ _ _ _ _ _ us hl => len2 us hl (fun _ _ => rfl)) fun f cdv A outer sh H E hr =>
    have nd : (cxOf CX0 P w K mg base ["one", "other"] "better" (defScope s_better) f cdv A outer sh H E).nox.N.Nodup := sc_better.nd
    (pdb_cons (pds_if (pdt_cmp (opD_ne hr.units) (pd_ix (pd_var (pv 0)) pd_int) (pd_ix (pd_var (pv 1)) pd_int) (nomark _)) (pdb_one (pds_ret (pd_cmp opD_gt (pd_ix (pd_var (pv 0)) pd_int) (pd_ix (pd_var (pv 1)) pd_int) (nomark _)))) pdb_nil) (pdb_one (pds_ret (pd_cmp opD_lt (pd_ix (pd_var (pv 0)) pd_int) (pd_ix (pd_var (pv 1)) pd_int) (nomark _)))))
theorem sc_may_use : FnScope ["mark", "number", "far"] ["mark", "number", "far"] (defScope s_may_use) := ⟨rfl, rfl, rfl, by decide +kernel, rfl, by decide +kernel, by decide +kernel⟩
theorem ok_may_use (T : TF K mg "may_use" s_may_use) (G_better : Fn P w K mg base C 1 "better" d_better) : Fn P w K mg base C 2 "may_use" d_may_use :=
  fn_F T sc_may_use rfl rfl (fun _ _ _ _ _ _ us hl => len3 us hl (fun _ _ _ => rfl)) fun f cdv A outer sh H E hr =>
    have nd : (cxOf CX0 P w K mg base ["mark", "number", "far"] "may_use" (defScope s_may_use) f cdv A outer sh H E).nox.N.Nodup := sc_may_use.nd
    (pdb_cons (pds_if (pdt_cmp opD_is (pd_var (pv 2)) pd_non (nomark _)) (pdb_one (pds_ret pd_bl)) pdb_nil) (pdb_one (pds_ret (pd_or (pd_cmp opD_is (pd_var (pv 0)) pd_non (nomark _)) (pd_one (pd_callF G_better (hr.mono (by decide)) rfl (pda_cons (pd_tup (pda_cons (pd_var (pv 1)) (pda_cons (pd_var (pv 2)) pda_nil))) (pda_cons (pd_var (pv 0)) pda_nil))))))))
theorem sc_Ways_way : FnScope ["self", "goal", "mark", "usable", "neighbour", "telling"] ["self", "goal"] (defScope s_Ways_way) := ⟨rfl, rfl, rfl, by decide +kernel, rfl, by decide +kernel, by decide +kernel⟩
theorem ok_Ways_way {dV : Value} {f : Addr} {fd : FuncData} (F : FunV K "way" "Ways.way" s_Ways_way dV f fd) (T_Ways : ClD K C "Ways") (n_Ways_length_by : NoA K C "Ways" "length_by") (n_Ways_tellings_by : NoA K C "Ways" "tellings_by") (M_Ways_mark_0 : Mt P w K mg base C 1 "Ways" "mark" d_Ways_mark []) (b_min : mg "min" = none) (G_may_use : Fn P w K mg base C 2 "may_use" d_may_use) (G_place_of_way : Fn P w K mg base C 1 "place_of_way" d_place_of_way) : FnOk P w K mg base CX0 4 f fd ["self", "goal"] (spD K C d_Ways_way) :=
  fn_DV F sc_Ways_way rfl rfl fun cdv A outer sh H E hr =>
    have nd : (cxOf CX0 P w K mg base ["self", "goal", "mark", "usable", "neighbour", "telling"] "Ways.way" (defScope s_Ways_way) f cdv A outer sh H E).nox.N.Nodup := sc_Ways_way.nd
    (pdb_cons (pds_set (i := 2) nd rfl (by first | exact Or.inl rfl | exact Or.inr rfl) (pd_meth M_Ways_mark_0 (hr.mono (by decide)) (pd_var (pv 0)) (pda_cons (pd_var (pv 1)) pda_nil))) (pdb_cons (pds_own (i := 3) nd rfl (by first | exact Or.inl rfl | exact Or.inr rfl) pda_nil) (pdb_cons (pds_forK PassesOwn.never rfl (pd_fld T_Ways n_Ways_tellings_by (pd_var (pv 0))) (pdg_name nd rfl (by first | exact Or.inl rfl | exact Or.inr rfl)) (pdb_cons (pds_set (i := 5) nd rfl (by first | exact Or.inl rfl | exact Or.inr rfl) (pd_dget1 (hu_of hr) (pd_dget (hu_of hr) (pd_fld T_Ways n_Ways_tellings_by (pd_var (pv 0))) (pd_var (pv 4)) (fun _ _ => rfl)) (pd_var (pv 1)) ⟨rfl, rfl, rfl, rfl⟩)) (pdb_one (pds_if (PDW.pt (pdw_and (pdt_cmp opD_isnot (pd_var (pv 5)) pd_non (nomark _)) (pdw_and1 (pdt_val (pd_callF G_may_use (hr.mono (by decide)) rfl (pda_cons (pd_var (pv 2)) (pda_cons (pd_ix (pd_var (pv 5)) pd_int) (pda_cons (pd_ix (pd_var (pv 5)) pd_int) pda_nil)))))))) (pdb_one (pds_app (pv 3) (pd_tup (pda_cons (pd_ix (pd_var (pv 5)) pd_int) (pda_cons (pd_op opD_add (pd_ix (pd_var (pv 5)) pd_int) (pd_dget (hu_of hr) (pd_fld T_Ways n_Ways_length_by (pd_var (pv 0))) (pd_var (pv 4)) (fun _ _ => rfl))) (pda_cons (pd_var (pv 4)) pda_nil)))))) pdb_nil)))) (pdb_ghost (ghost_frz 3) (pdb_one (pds_ret (pd_minK G_place_of_way (hr.mono (by decide)) rfl rfl b_min boot_min (pd_var (pv 3)))))))))
theorem sc_bettered : FnScope ["mark", "number", "length"] ["mark", "number", "length"] (defScope s_bettered) := ⟨rfl, rfl, rfl, by decide +kernel, rfl, by decide +kernel, by decide +kernel⟩
theorem ok_bettered (T : TF K mg "bettered" s_bettered) (b_min : mg "min" = none) : Fn P w K mg base C 1 "bettered" d_bettered :=
  fn_F T sc_bettered rfl rfl (fun _ _ _ _ _ _ us hl => len3 us hl (fun _ _ _ => rfl)) fun f cdv A outer sh H E hr =>
    have nd : (cxOf CX0 P w K mg base ["mark", "number", "length"] "bettered" (defScope s_bettered) f cdv A outer sh H E).nox.N.Nodup := sc_bettered.nd
    (pdb_cons (pds_if (PDW.pt (pdw_or (pdt_cmp opD_is (pd_var (pv 0)) pd_non (nomark _)) (pdw_or1 (pdt_cmp opD_gt (pd_var (pv 1)) (pd_ix (pd_var (pv 0)) pd_int) (nomark _))))) (pdb_one (pds_ret (pd_tup (pda_cons (pd_var (pv 1)) (pda_cons (pd_var (pv 2)) pda_nil))))) pdb_nil) (pdb_one (pds_ret (pd_tup (pda_cons (pd_var (pv 1)) (pda_cons (pd_callB (callD_min rfl) rfl b_min boot_min (pda_cons (pd_ix (pd_var (pv 0)) pd_int) (pda_cons (pd_var (pv 2)) pda_nil))) pda_nil))))))
theorem sc_Ways_hear : FnScope ["self", "neighbour", "goal", "number", "far", "way"] ["self", "neighbour", "goal", "number", "far"] (defScope s_Ways_hear) := ⟨rfl, rfl, rfl, by decide +kernel, rfl, by decide +kernel, by decide +kernel⟩
theorem ok_Ways_hear {dV : Value} {f : Addr} {fd : FuncData} (F : FunV K "hear" "Ways.hear" s_Ways_hear dV f fd) (T_Ways : ClD K C "Ways") (n_Ways_mark_of : NoA K C "Ways" "mark_of") (n_Ways_tellings_by : NoA K C "Ways" "tellings_by") (M_Ways_need_tie_0 : MtX P w K mg base C 1 "Ways" "need_tie" d_Ways_need_tie r_Ways_need_tie []) (M_Ways_way_0 : Mt P w K mg base C 4 "Ways" "way" d_Ways_way []) (M_Ways_mark_0 : Mt P w K mg base C 1 "Ways" "mark" d_Ways_mark []) (G_bettered : Fn P w K mg base C 1 "bettered" d_bettered) : FnOk P w K mg base (CXr P w) 5 f fd ["self", "neighbour", "goal", "number", "far"] (spX K C d_Ways_hear r_Ways_hear) :=
  fn_DX F sc_Ways_hear rfl rfl (fun cdv A outer sh H E hr =>
    have nd : (cxOf (CXr P w) P w K mg base ["self", "neighbour", "goal", "number", "far", "way"] "Ways.hear" (defScope s_Ways_hear) f cdv A outer sh H E).nox.N.Nodup := sc_Ways_hear.nd
    (pdb_cons (pds_expr (pd_methX M_Ways_need_tie_0 (hr.mono (by decide)) (pd_var (pv 0)) (pda_cons (pd_var (pv 1)) pda_nil))) (pdb_cons (pds_dput (hu_of hr) (pd_dget (hu_of hr) (pd_fld T_Ways n_Ways_tellings_by (pd_var (pv 0))) (pd_var (pv 1)) (fun _ _ => rfl)) (pd_var (pv 2)) (pd_tup (pda_cons (pd_var (pv 3)) (pda_cons (pd_var (pv 4)) pda_nil)))) (pdb_cons (pds_set (i := 5) nd rfl (by first | exact Or.inl rfl | exact Or.inr rfl) (pd_meth M_Ways_way_0 (hr.mono (by decide)) (pd_var (pv 0)) (pda_cons (pd_var (pv 2)) pda_nil))) (pdb_one (pds_if (pdt_cmp opD_isnot (pd_var (pv 5)) pd_non (nomark _)) (pdb_one (pds_dput (hu_of hr) (pd_fld T_Ways n_Ways_mark_of (pd_var (pv 0))) (pd_var (pv 2)) (pd_callF G_bettered (hr.mono (by decide)) rfl (pda_cons (pd_meth M_Ways_mark_0 (hr.mono (by decide)) (pd_var (pv 0)) (pda_cons (pd_var (pv 2)) pda_nil)) (pda_cons (pd_ix (pd_var (pv 5)) pd_int) (pda_cons (pd_ix (pd_var (pv 5)) pd_int) pda_nil)))))) pdb_nil))))))
    fun cdv A outer sh H E hr =>
    have nd : (cxOf (CXr P w) P w K mg base ["self", "neighbour", "goal", "number", "far", "way"] "Ways.hear" (defScope s_Ways_hear) f cdv A outer sh H E).N.Nodup := sc_Ways_hear.nd
    (rdb_here (rds_expr (rd_meth flyOk_def M_Ways_need_tie_0 (hr.mono (by decide)) (pd_var (pv 0)) (pda_cons (pd_var (pv 1)) pda_nil))))
theorem sc_l_tried : FnScope ["_law_ways", "_law_deed", "e"] ["_law_ways", "_law_deed"] (defScope s_l_tried) := ⟨rfl, rfl, rfl, by decide +kernel, rfl, by decide +kernel, by decide +kernel⟩
theorem ok_l_tried (T : TF K mg "_law_tried" s_l_tried) (M_Ways_tie_0 : MtX P w K mg base C 1 "Ways" "tie" d_Ways_tie r_Ways_tie []) (M_Ways_untie_0 : MtX P w K mg base C 2 "Ways" "untie" d_Ways_untie r_Ways_untie []) (M_Ways_hear_0 : MtX P w K mg base C 5 "Ways" "hear" d_Ways_hear r_Ways_hear []) {C_NotTied C_PostError C_Tied : Addr} (m_NotTied : mg "NotTied" = some (.ref C_NotTied)) (m_PostError : mg "PostError" = some (.ref C_PostError)) (m_Tied : mg "Tied" = some (.ref C_Tied)) (tc_PostError : ∀ c, tcf_PostError c = true → ∃ Ca, C c = some Ca ∧ PySem.W.exmOne K (.ref Ca) (.ref C_PostError) = some true) (x_0 : ∀ c Ca b, xt_0 c = some b → C c = some Ca → PySem.W.ExcLook K Ca ∧ PySem.W.kitAny K (.ref Ca) [.ref C_Tied, .ref C_NotTied] = some b) (b_isinstance : mg "isinstance" = none) : Fn P w K mg base C 6 "_law_tried" d_l_tried :=
  fn_F T sc_l_tried rfl rfl (fun _ _ _ _ _ _ us hl => len2 us hl (fun _ _ => rfl)) fun f cdv A outer sh H E hr =>
    have nd : (cxOf CX0 P w K mg base ["_law_ways", "_law_deed", "e"] "_law_tried" (defScope s_l_tried) f cdv A outer sh H E).nox.N.Nodup := sc_l_tried.nd
    (pdb_cons (pds_try2 (i := 2) (fun pn E => (pdb_one (pds_if (pdt_cmp (opD_eq hr.units) (pd_ix (pd_var (pv 1)) pd_int) pd_str (nomark _)) (pdb_one (pds_expr (pd_methX M_Ways_tie_0 (hr.mono (by decide)) (pd_var (pv 0)) (pda_cons (pd_ix (pd_var (pv 1)) pd_int) (pda_cons (pd_ix (pd_var (pv 1)) pd_int) pda_nil))))) (pdb_one (pds_if (pdt_cmp (opD_eq hr.units) (pd_ix (pd_var (pv 1)) pd_int) pd_str (nomark _)) (pdb_one (pds_expr (pd_methX M_Ways_untie_0 (hr.mono (by decide)) (pd_var (pv 0)) (pda_cons (pd_ix (pd_var (pv 1)) pd_int) pda_nil)))) (pdb_one (pds_expr (pd_methX M_Ways_hear_0 (hr.mono (by decide)) (pd_var (pv 0)) (pda_cons (pd_ix (pd_var (pv 1)) pd_int) (pda_cons (pd_ix (pd_var (pv 1)) pd_int) (pda_cons (pd_ix (pd_var (pv 1)) pd_int) (pda_cons (pd_ix (pd_var (pv 1)) pd_int) pda_nil)))))))))))) (fun pn E XW hX => (rdb_one (rds_if (pdt_cmp (opD_eq hr.units) (pd_ix (pd_var (pv 1)) pd_int) pd_str (nomark _)) (rdb_one (rds_expr (rd_meth hX M_Ways_tie_0 (hr.mono (by decide)) (pd_var (pv 0)) (pda_cons (pd_ix (pd_var (pv 1)) pd_int) (pda_cons (pd_ix (pd_var (pv 1)) pd_int) pda_nil))))) (rdb_one (rds_if (pdt_cmp (opD_eq hr.units) (pd_ix (pd_var (pv 1)) pd_int) pd_str (nomark _)) (rdb_one (rds_expr (rd_meth hX M_Ways_untie_0 (hr.mono (by decide)) (pd_var (pv 0)) (pda_cons (pd_ix (pd_var (pv 1)) pd_int) pda_nil)))) (rdb_one (rds_expr (rd_meth hX M_Ways_hear_0 (hr.mono (by decide)) (pd_var (pv 0)) (pda_cons (pd_ix (pd_var (pv 1)) pd_int) (pda_cons (pd_ix (pd_var (pv 1)) pd_int) (pda_cons (pd_ix (pd_var (pv 1)) pd_int) (pda_cons (pd_ix (pd_var (pv 1)) pd_int) pda_nil)))))))))))) (fun v pn => (pdb_one (pds_ret (pd_isxs (vs := [C_Tied, C_NotTied].map V.ref) (cvs := [C_Tied, C_NotTied].map Value.ref) (pd_var (pv 2)) (pa_cons (pe_glob (v := .ref C_Tied) rfl m_Tied rfl) (pa_cons (pe_glob (v := .ref C_NotTied) rfl m_NotTied rfl) pa_nil)) (fun _ _ _ q => q) (fun us h => vals_refs h) (by show 2 ≤ sizeLine; rw [sizeLine_eq]; decide) rfl b_isinstance boot_isinstance x_0)))) tc_PostError rfl rfl rfl m_PostError nd rfl rfl rfl) (pdb_one (pds_ret pd_non)))
theorem sc_l_done : FnScope ["_law_own", "_law_deed", "_law_key"] ["_law_own", "_law_deed"] (defScope s_l_done) := ⟨rfl, rfl, rfl, by decide +kernel, rfl, by decide +kernel, by decide +kernel⟩
theorem ok_l_done (T : TF K mg "_law_done" s_l_done) (b_list : mg "list" = none) : Fn P w K mg base C 1 "_law_done" d_l_done :=
  fn_F T sc_l_done rfl rfl (fun _ _ _ _ _ _ us hl => len2 us hl (fun _ _ => rfl)) fun f cdv A outer sh H E hr =>
    have nd : (cxOf CX0 P w K mg base ["_law_own", "_law_deed", "_law_key"] "_law_done" (defScope s_l_done) f cdv A outer sh H E).nox.N.Nodup := sc_l_done.nd
    (pdb_one (pds_if (pdt_cmp (opD_eq hr.units) (pd_ix (pd_var (pv 1)) pd_int) pd_str (nomark _)) (pdb_one (pds_dput (hu_of hr) (pd_dget (hu_of hr) (pd_var (pv 0)) pd_str (fun _ _ => rfl)) (pd_ix (pd_var (pv 1)) pd_int) (pd_ix (pd_var (pv 1)) pd_int))) (pdb_one (pds_if (pdt_cmp (opD_eq hr.units) (pd_ix (pd_var (pv 1)) pd_int) pd_str (nomark _)) (pdb_cons (pds_expr (pd_dpop (hu_of hr) (pd_dget (hu_of hr) (pd_var (pv 0)) pd_str (fun _ _ => rfl)) (pd_ix (pd_var (pv 1)) pd_int) ⟨rfl, rfl, rfl, rfl⟩)) (pdb_one (pds_for PassesOwn.never rfl (pdi_list (pd_dlist hr.hd rfl b_list boot_list (pd_dget (hu_of hr) (pd_var (pv 0)) pd_str (fun _ _ => rfl)))) (pdg_name nd rfl (by first | exact Or.inl rfl | exact Or.inr rfl)) (pdb_one (pds_if (pdt_cmp (opD_eq hr.units) (pd_ix (pd_var (pv 2)) pd_int) (pd_ix (pd_var (pv 1)) pd_int) (nomark _)) (pdb_one (pds_expr (pd_dpop (hu_of hr) (pd_dget (hu_of hr) (pd_var (pv 0)) pd_str (fun _ _ => rfl)) (pd_var (pv 2)) ⟨rfl, rfl, rfl, rfl⟩))) pdb_nil))))) (pdb_one (pds_dput (hu_of hr) (pd_dget (hu_of hr) (pd_var (pv 0)) pd_str (fun _ _ => rfl)) (pd_tup (pda_cons (pd_ix (pd_var (pv 1)) pd_int) (pda_cons (pd_ix (pd_var (pv 1)) pd_int) pda_nil))) (pd_tup (pda_cons (pd_ix (pd_var (pv 1)) pd_int) (pda_cons (pd_ix (pd_var (pv 1)) pd_int) pda_nil)))))))))
theorem sc_l_best : FnScope ["_law_ways", "_law_own", "_law_goal", "_law_way_here", "_law_mark", "_law_told", "_law_neighbour", "_law_number", "_law_far", "_law_found"] ["_law_ways", "_law_own", "_law_goal"] (defScope s_l_best) := ⟨rfl, rfl, rfl, by decide +kernel, rfl, by decide +kernel, by decide +kernel⟩
theorem ok_l_best (T : TF K mg "_law_best" s_l_best) (M_Ways_way_0 : Mt P w K mg base C 4 "Ways" "way" d_Ways_way []) (M_Ways_mark_0 : Mt P w K mg base C 1 "Ways" "mark" d_Ways_mark []) (G_better : Fn P w K mg base C 1 "better" d_better) (G_may_use : Fn P w K mg base C 2 "may_use" d_may_use) : Fn P w K mg base C 5 "_law_best" d_l_best :=
  fn_F T sc_l_best rfl rfl (fun _ _ _ _ _ _ us hl => len3 us hl (fun _ _ _ => rfl)) fun f cdv A outer sh H E hr =>
    have nd : (cxOf CX0 P w K mg base ["_law_ways", "_law_own", "_law_goal", "_law_way_here", "_law_mark", "_law_told", "_law_neighbour", "_law_number", "_law_far", "_law_found"] "_law_best" (defScope s_l_best) f cdv A outer sh H E).nox.N.Nodup := sc_l_best.nd
    (pdb_cons (pds_set (i := 3) nd rfl (by first | exact Or.inl rfl | exact Or.inr rfl) (pd_meth M_Ways_way_0 (hr.mono (by decide)) (pd_var (pv 0)) (pda_cons (pd_var (pv 2)) pda_nil))) (pdb_cons (pds_set (i := 4) nd rfl (by first | exact Or.inl rfl | exact Or.inr rfl) (pd_meth M_Ways_mark_0 (hr.mono (by decide)) (pd_var (pv 0)) (pda_cons (pd_var (pv 2)) pda_nil))) (pdb_cons (pds_if (pdt_cmp opD_isnot (pd_var (pv 3)) pd_non (nomark _)) (pdb_cons (pds_if (PDW.pt (pdw_or (pdt_cmp opD_is (pd_var (pv 4)) pd_non (nomark _)) (pdw_or (pdt_cmp (opD_ne hr.units) (pd_ix (pd_var (pv 3)) pd_int) (pd_ix (pd_var (pv 4)) pd_int) (nomark _)) (pdw_or (pdt_cmp opD_lt (pd_ix (pd_var (pv 3)) pd_int) (pd_ix (pd_var (pv 4)) pd_int) (nomark _)) (pdw_or1 (pdt_dnotin (hu_of hr) (pd_tup (pda_cons (pd_var (pv 2)) (pda_cons (pd_ix (pd_var (pv 3)) pd_int) pda_nil))) (pd_dget (hu_of hr) (pd_var (pv 1)) pd_str (fun _ _ => rfl)))))))) (pdb_one (pds_ret pd_bl)) pdb_nil) (pdb_cons (pds_set (i := 5) nd rfl (by first | exact Or.inl rfl | exact Or.inr rfl) (pd_dget (hu_of hr) (pd_dget (hu_of hr) (pd_var (pv 1)) pd_str (fun _ _ => rfl)) (pd_tup (pda_cons (pd_var (pv 2)) (pda_cons (pd_ix (pd_var (pv 3)) pd_int) pda_nil))) (fun _ _ => rfl))) (pdb_cons (pds_if (PDW.pt (pdw_or (pdt_cmp (opD_ne hr.units) (pd_ix (pd_var (pv 5)) pd_int) (pd_ix (pd_var (pv 3)) pd_int) (nomark _)) (pdw_or (pdt_cmp opD_is (pd_ix (pd_var (pv 5)) pd_int) pd_non (nomark _)) (pdw_or1 (pdt_cmp (opD_ne hr.units) (pd_op opD_add (pd_ix (pd_var (pv 5)) pd_int) (pd_dget (hu_of hr) (pd_dget (hu_of hr) (pd_var (pv 1)) pd_str (fun _ _ => rfl)) (pd_ix (pd_var (pv 3)) pd_int) (fun _ _ => rfl))) (pd_ix (pd_var (pv 3)) pd_int) (nomark _)))))) (pdb_one (pds_ret pd_bl)) pdb_nil) (pdb_one (pds_if (pdt_not (pdt_val (pd_callF G_better (hr.mono (by decide)) rfl (pda_cons (pd_var (pv 5)) (pda_cons (pd_var (pv 4)) pda_nil))))) (pdb_one (pds_ret pd_bl)) pdb_nil))))) pdb_nil) (pdb_cons (pds_forK PassesOwn.never rfl (pd_dget (hu_of hr) (pd_var (pv 1)) pd_str (fun _ _ => rfl)) (pdg_name nd rfl (by first | exact Or.inl rfl | exact Or.inr rfl)) (pdb_one (pds_if (pdt_din (hu_of hr) (pd_tup (pda_cons (pd_var (pv 2)) (pda_cons (pd_var (pv 6)) pda_nil))) (pd_dget (hu_of hr) (pd_var (pv 1)) pd_str (fun _ _ => rfl))) (pdb_cons (pds_asg (pd_dget (hu_of hr) (pd_dget (hu_of hr) (pd_var (pv 1)) pd_str (fun _ _ => rfl)) (pd_tup (pda_cons (pd_var (pv 2)) (pda_cons (pd_var (pv 6)) pda_nil))) (fun _ _ => rfl)) (pdg_tup rfl (pdgs_cons (i := 7) nd rfl (by first | exact Or.inl rfl | exact Or.inr rfl) (pdgs_cons (i := 8) nd rfl (by first | exact Or.inl rfl | exact Or.inr rfl) pdgs_nil)))) (pdb_one (pds_if (pdt_val (pd_callF G_may_use (hr.mono (by decide)) rfl (pda_cons (pd_var (pv 4)) (pda_cons (pd_var (pv 7)) (pda_cons (pd_var (pv 8)) pda_nil))))) (pdb_cons (pds_set (i := 9) nd rfl (by first | exact Or.inl rfl | exact Or.inr rfl) (pd_tup (pda_cons (pd_neg (pd_var (pv 7))) (pda_cons (pd_op opD_add (pd_var (pv 8)) (pd_dget (hu_of hr) (pd_dget (hu_of hr) (pd_var (pv 1)) pd_str (fun _ _ => rfl)) (pd_var (pv 6)) (fun _ _ => rfl))) (pda_cons (pd_var (pv 6)) pda_nil))))) (pdb_one (pds_if (PDW.pt (pdw_or (pdt_cmp opD_is (pd_var (pv 3)) pd_non (nomark _)) (pdw_or1 (pdt_cmp (opD_ltT hr.units) (pd_var (pv 9)) (pd_tup (pda_cons (pd_neg (pd_ix (pd_var (pv 3)) pd_int)) (pda_cons (pd_ix (pd_var (pv 3)) pd_int) (pda_cons (pd_ix (pd_var (pv 3)) pd_int) pda_nil)))) (nomark _))))) (pdb_one (pds_ret pd_bl)) pdb_nil))) pdb_nil))) pdb_nil))) (pdb_one (pds_ret pd_bl))))))
theorem sc_law : FnScope ["_law_script", "_law_cells", "_law_houses_here", "_law_goals", "_law_ways", "_law_own", "_law_k", "_law_marks", "_law_goal", "_law_deed", "_law_told", "_law_mark"] ["_law_script"] (defScope s_law) := ⟨rfl, rfl, rfl, by decide +kernel, rfl, by decide +kernel, by decide +kernel⟩
end
theorem law_fn {P : Program} {w : World} {K : PySem.W.Frag} {mg : Str → Option Value} {base : Heap} {C : Cl} {f : Addr} {fd : FuncData} (F : Fun K "law" "law" s_law f fd) (M_Ways_mark_0 : Mt P w K mg base C 1 "Ways" "mark" d_Ways_mark []) (K_Ways : MkD P w K mg base C 1 "Ways" d_Ways___init__ []) (b_range : mg "range" = none) (G_l_mixed : Fn P w K mg base C 1 "_law_mixed" d_l_mixed) (G_l_houses : Fn P w K mg base C 2 "_law_houses" d_l_houses) (G_l_mix : Fn P w K mg base C 1 "_law_mix" d_l_mix) (G_l_cell_at : Fn P w K mg base C 1 "_law_cell_at" d_l_cell_at) (G_l_begun : Fn P w K mg base C 1 "_law_begun" d_l_begun) (G_l_drawn : Fn P w K mg base C 4 "_law_drawn" d_l_drawn) (G_l_tried : Fn P w K mg base C 6 "_law_tried" d_l_tried) (G_l_done : Fn P w K mg base C 1 "_law_done" d_l_done) (G_better : Fn P w K mg base C 1 "better" d_better) (G_l_best : Fn P w K mg base C 5 "_law_best" d_l_best) : FnOk P w K mg base CX0 7 f fd ["_law_script"] (spD K C d_law) :=
  fn_D F sc_law rfl rfl fun cdv A outer sh H E hr =>
    have nd : (cxOf CX0 P w K mg base ["_law_script", "_law_cells", "_law_houses_here", "_law_goals", "_law_ways", "_law_own", "_law_k", "_law_marks", "_law_goal", "_law_deed", "_law_told", "_law_mark"] "law" (defScope s_law) f cdv A outer sh H E).nox.N.Nodup := sc_law.nd
    (pdb_cons (pds_set (i := 1) nd rfl (by first | exact Or.inl rfl | exact Or.inr rfl) (pd_callF G_l_mixed (hr.mono (by decide)) rfl (pda_cons (pd_var (pv 0)) pda_nil))) (pdb_cons (pds_set (i := 2) nd rfl (by first | exact Or.inl rfl | exact Or.inr rfl) (pd_callF G_l_houses (hr.mono (by decide)) rfl (pda_cons (pd_var (pv 1)) pda_nil))) (pdb_cons (pds_compN (i := 3) nd rfl (by first | exact Or.inl rfl | exact Or.inr rfl) rfl (compOk_of (oN := ["_law_script", "_law_cells", "_law_houses_here", "_law_goals", "_law_ways", "_law_own", "_law_k", "_law_marks", "_law_goal", "_law_deed", "_law_told", "_law_mark"]) (osc := defScope s_law) (N := ["_law_k", "_law_cells"]) (μ := [none, some 1]) rfl rfl (by decide +kernel)) (pdi_range1 rfl b_range (pda_cons pd_int pda_nil)) (fun _ _ _ _ => (pdg_name (show List.Nodup (["_law_k", "_law_cells"] : List Str) by decide +kernel) rfl (by first | exact Or.inl rfl | exact Or.inr rfl))) (fun _ _ _ _ => pdts_nil) (fun _ _ _ _ => (pd_op opD_mod (pd_callF G_l_mix (hr.mono (by decide)) rfl (pda_cons (pd_callF G_l_cell_at (hr.mono (by decide)) rfl (pda_cons (pd_var (pv 1)) (pda_cons pd_int pda_nil))) (pda_cons (pd_var (pv 0)) pda_nil))) pd_int))) (pdb_cons (pds_set (i := 4) nd rfl (by first | exact Or.inl rfl | exact Or.inr rfl) (pd_make0 K_Ways (hr.mono (by decide)) rfl)) (pdb_cons (pds_set (i := 5) nd rfl (by first | exact Or.inl rfl | exact Or.inr rfl) (pd_callF0 G_l_begun (hr.mono (by decide)) rfl)) (pdb_cons (pds_for PassesOwn.never rfl (pdi_range2 rfl b_range (pda_cons pd_int (pda_cons (pd_op opD_add pd_int (pd_op opD_mod (pd_callF G_l_cell_at (hr.mono (by decide)) rfl (pda_cons (pd_var (pv 1)) (pda_cons pd_int pda_nil))) pd_int)) pda_nil))) (pdg_name nd rfl (by first | exact Or.inl rfl | exact Or.inr rfl)) (pdb_cons (pds_set (i := 7) nd rfl (by first | exact Or.inl rfl | exact Or.inr rfl) pd_newK) (pdb_cons (pds_dput (hu_of hr) (pd_var (pv 5)) pd_str pd_newK) (pdb_cons (pds_for PassesOwn.never rfl (pdi_list (pd_var (pv 3))) (pdg_name nd rfl (by first | exact Or.inl rfl | exact Or.inr rfl)) (pdb_cons (pds_dput (hu_of hr) (pd_var (pv 7)) (pd_var (pv 8)) (pd_meth M_Ways_mark_0 (hr.mono (by decide)) (pd_var (pv 4)) (pda_cons (pd_var (pv 8)) pda_nil))) (pdb_one (pds_if (pdt_cmp opD_isnot (pd_dget (hu_of hr) (pd_var (pv 7)) (pd_var (pv 8)) (fun _ _ => rfl)) pd_non (nomark _)) (pdb_one (pds_dput (hu_of hr) (pd_dget (hu_of hr) (pd_var (pv 5)) pd_str (fun _ _ => rfl)) (pd_var (pv 8)) (pd_dget (hu_of hr) (pd_var (pv 7)) (pd_var (pv 8)) (fun _ _ => rfl)))) pdb_nil)))) (pdb_cons (pds_set (i := 9) nd rfl (by first | exact Or.inl rfl | exact Or.inr rfl) (pd_callF G_l_drawn (hr.mono (by decide)) rfl (pda_cons (pd_var (pv 5)) (pda_cons (pd_var (pv 2)) (pda_cons (pd_var (pv 3)) (pda_cons (pd_ix (pd_var (pv 1)) (pd_var (pv 6))) pda_nil)))))) (pdb_cons (pds_set (i := 10) nd rfl (by first | exact Or.inl rfl | exact Or.inr rfl) (pd_callF G_l_tried (hr.mono (by decide)) rfl (pda_cons (pd_var (pv 4)) (pda_cons (pd_var (pv 9)) pda_nil)))) (pdb_cons (pds_if (pdt_cmp opD_is (pd_var (pv 10)) pd_bl (nomark _)) (pdb_one (pds_ret pd_bl)) pdb_nil) (pdb_cons (pds_if (pdt_cmp opD_is (pd_var (pv 10)) pd_non (nomark _)) (pdb_one (pds_expr (pd_callF G_l_done (hr.mono (by decide)) rfl (pda_cons (pd_var (pv 5)) (pda_cons (pd_var (pv 9)) pda_nil))))) pdb_nil) (pdb_one (pds_for PassesOwn.never rfl (pdi_list (pd_var (pv 3))) (pdg_name nd rfl (by first | exact Or.inl rfl | exact Or.inr rfl)) (pdb_cons (pds_set (i := 11) nd rfl (by first | exact Or.inl rfl | exact Or.inr rfl) (pd_meth M_Ways_mark_0 (hr.mono (by decide)) (pd_var (pv 4)) (pda_cons (pd_var (pv 8)) pda_nil))) (pdb_cons (pds_if (PDW.pt (pdw_and (pdt_cmp opD_isnot (pd_dget (hu_of hr) (pd_var (pv 7)) (pd_var (pv 8)) (fun _ _ => rfl)) pd_non (nomark _)) (pdw_and (pdt_cmp (opD_ne hr.units) (pd_var (pv 11)) (pd_dget (hu_of hr) (pd_var (pv 7)) (pd_var (pv 8)) (fun _ _ => rfl)) (nomark _)) (pdw_and1 (PDW.pt (pdw_or (pdt_cmp opD_is (pd_var (pv 11)) pd_non (nomark _)) (pdw_or1 (pdt_not (pdt_val (pd_callF G_better (hr.mono (by decide)) rfl (pda_cons (pd_var (pv 11)) (pda_cons (pd_dget (hu_of hr) (pd_var (pv 7)) (pd_var (pv 8)) (fun _ _ => rfl)) pda_nil)))))))))))) (pdb_one (pds_ret pd_bl)) pdb_nil) (pdb_one (pds_if (pdt_not (pdt_val (pd_callF G_l_best (hr.mono (by decide)) rfl (pda_cons (pd_var (pv 4)) (pda_cons (pd_var (pv 5)) (pda_cons (pd_var (pv 8)) pda_nil)))))) (pdb_one (pds_ret pd_bl)) pdb_nil)))))))))))))) (pdb_one (pds_ret pd_bl))))))))
theorem all_mk {P : Program} {w : World} {K : PySem.W.Frag} {h : Heap} {mg : Str → Option Value} {fa f_l_mixed f_l_cell_at f_l_houses f_Ways___init__ f_l_begun f_l_better f_l_may f_l_way f_l_mix f_l_drawn f_Ways_tie f_Ways_need_tie f_Ways_untie f_Ways_mark f_place_of_way f_better f_may_use f_Ways_way f_bettered f_Ways_hear f_l_tried f_l_done f_l_best f_law C_Ways C_NotTied C_PostError C_Tied : Addr} (X : K.In h) (G : h.Ns mainGlobals mg) (hfa : mg "law" = some (.ref fa))
    {od_l_mixed an_l_mixed : Option Addr} {sl_l_mixed : Array (Option Value)} {oc_l_mixed kV_l_mixed dc_l_mixed pm_l_mixed cd_l_mixed ct_l_mixed : Value}
    {od_l_cell_at an_l_cell_at : Option Addr} {sl_l_cell_at : Array (Option Value)} {oc_l_cell_at kV_l_cell_at dc_l_cell_at pm_l_cell_at cd_l_cell_at ct_l_cell_at : Value}
    {od_l_houses an_l_houses : Option Addr} {sl_l_houses : Array (Option Value)} {oc_l_houses kV_l_houses dc_l_houses pm_l_houses cd_l_houses ct_l_houses : Value}
    {od_Ways___init__ an_Ways___init__ : Option Addr} {sl_Ways___init__ : Array (Option Value)} {oc_Ways___init__ kV_Ways___init__ dc_Ways___init__ pm_Ways___init__ cd_Ways___init__ ct_Ways___init__ : Value}
    {od_l_begun an_l_begun : Option Addr} {sl_l_begun : Array (Option Value)} {oc_l_begun kV_l_begun dc_l_begun pm_l_begun cd_l_begun ct_l_begun : Value}
    {od_l_better an_l_better : Option Addr} {sl_l_better : Array (Option Value)} {oc_l_better kV_l_better dc_l_better pm_l_better cd_l_better ct_l_better : Value}
    {od_l_may an_l_may : Option Addr} {sl_l_may : Array (Option Value)} {oc_l_may kV_l_may dc_l_may pm_l_may cd_l_may ct_l_may : Value}
    {od_l_way an_l_way : Option Addr} {sl_l_way : Array (Option Value)} {oc_l_way kV_l_way dc_l_way pm_l_way cd_l_way ct_l_way : Value}
    {od_l_mix an_l_mix : Option Addr} {sl_l_mix : Array (Option Value)} {oc_l_mix kV_l_mix dc_l_mix pm_l_mix cd_l_mix ct_l_mix : Value}
    {od_l_drawn an_l_drawn : Option Addr} {sl_l_drawn : Array (Option Value)} {oc_l_drawn kV_l_drawn dc_l_drawn pm_l_drawn cd_l_drawn ct_l_drawn : Value}
    {od_Ways_tie an_Ways_tie : Option Addr} {sl_Ways_tie : Array (Option Value)} {oc_Ways_tie kV_Ways_tie dc_Ways_tie pm_Ways_tie cd_Ways_tie ct_Ways_tie : Value}
    {od_Ways_need_tie an_Ways_need_tie : Option Addr} {sl_Ways_need_tie : Array (Option Value)} {oc_Ways_need_tie kV_Ways_need_tie dc_Ways_need_tie pm_Ways_need_tie cd_Ways_need_tie ct_Ways_need_tie : Value}
    {od_Ways_untie an_Ways_untie : Option Addr} {sl_Ways_untie : Array (Option Value)} {oc_Ways_untie kV_Ways_untie dc_Ways_untie pm_Ways_untie cd_Ways_untie ct_Ways_untie : Value}
    {od_Ways_mark an_Ways_mark : Option Addr} {sl_Ways_mark : Array (Option Value)} {oc_Ways_mark kV_Ways_mark dc_Ways_mark pm_Ways_mark cd_Ways_mark ct_Ways_mark : Value}
    {od_place_of_way an_place_of_way : Option Addr} {sl_place_of_way : Array (Option Value)} {oc_place_of_way kV_place_of_way dc_place_of_way pm_place_of_way cd_place_of_way ct_place_of_way : Value}
    {od_better an_better : Option Addr} {sl_better : Array (Option Value)} {oc_better kV_better dc_better pm_better cd_better ct_better : Value}
    {od_may_use an_may_use : Option Addr} {sl_may_use : Array (Option Value)} {oc_may_use kV_may_use dc_may_use pm_may_use cd_may_use ct_may_use : Value}
    {od_Ways_way an_Ways_way : Option Addr} {sl_Ways_way : Array (Option Value)} {oc_Ways_way kV_Ways_way dc_Ways_way pm_Ways_way cd_Ways_way ct_Ways_way : Value}
    {od_bettered an_bettered : Option Addr} {sl_bettered : Array (Option Value)} {oc_bettered kV_bettered dc_bettered pm_bettered cd_bettered ct_bettered : Value}
    {od_Ways_hear an_Ways_hear : Option Addr} {sl_Ways_hear : Array (Option Value)} {oc_Ways_hear kV_Ways_hear dc_Ways_hear pm_Ways_hear cd_Ways_hear ct_Ways_hear : Value}
    {od_l_tried an_l_tried : Option Addr} {sl_l_tried : Array (Option Value)} {oc_l_tried kV_l_tried dc_l_tried pm_l_tried cd_l_tried ct_l_tried : Value}
    {od_l_done an_l_done : Option Addr} {sl_l_done : Array (Option Value)} {oc_l_done kV_l_done dc_l_done pm_l_done cd_l_done ct_l_done : Value}
    {od_l_best an_l_best : Option Addr} {sl_l_best : Array (Option Value)} {oc_l_best kV_l_best dc_l_best pm_l_best cd_l_best ct_l_best : Value}
    {od_law an_law : Option Addr} {sl_law : Array (Option Value)} {oc_law kV_law dc_law pm_law cd_law ct_law : Value}
    (a_l_mixed : PySem.W.nsIn K mainGlobals "_law_mixed" = some (some (.ref f_l_mixed)))
    (l_l_mixed : K.lookup f_l_mixed = some ⟨oc_l_mixed, od_l_mixed, .func (PySem.W.fnOf "_law_mixed" "_law_mixed" (defArgs s_l_mixed) (defBody s_l_mixed) (defScope s_l_mixed) .none kV_l_mixed dc_l_mixed pm_l_mixed an_l_mixed cd_l_mixed ct_l_mixed), sl_l_mixed⟩) (cc_l_mixed : PySem.W.codeIn K cd_l_mixed "_law_mixed" = true) (k_l_mixed : PySem.W.keepIn K (.ref f_l_mixed) = true)
    (a_l_cell_at : PySem.W.nsIn K mainGlobals "_law_cell_at" = some (some (.ref f_l_cell_at)))
    (l_l_cell_at : K.lookup f_l_cell_at = some ⟨oc_l_cell_at, od_l_cell_at, .func (PySem.W.fnOf "_law_cell_at" "_law_cell_at" (defArgs s_l_cell_at) (defBody s_l_cell_at) (defScope s_l_cell_at) .none kV_l_cell_at dc_l_cell_at pm_l_cell_at an_l_cell_at cd_l_cell_at ct_l_cell_at), sl_l_cell_at⟩) (cc_l_cell_at : PySem.W.codeIn K cd_l_cell_at "_law_cell_at" = true) (k_l_cell_at : PySem.W.keepIn K (.ref f_l_cell_at) = true)
    (a_l_houses : PySem.W.nsIn K mainGlobals "_law_houses" = some (some (.ref f_l_houses)))
    (l_l_houses : K.lookup f_l_houses = some ⟨oc_l_houses, od_l_houses, .func (PySem.W.fnOf "_law_houses" "_law_houses" (defArgs s_l_houses) (defBody s_l_houses) (defScope s_l_houses) .none kV_l_houses dc_l_houses pm_l_houses an_l_houses cd_l_houses ct_l_houses), sl_l_houses⟩) (cc_l_houses : PySem.W.codeIn K cd_l_houses "_law_houses" = true) (k_l_houses : PySem.W.keepIn K (.ref f_l_houses) = true)
    (a_Ways___init__ : PySem.W.findIn K (.ref C_Ways) "__init__" = some (some (.ref f_Ways___init__))) (i_Ways___init__ : PySem.W.isFn K (.ref f_Ways___init__) = true)
    (l_Ways___init__ : K.lookup f_Ways___init__ = some ⟨oc_Ways___init__, od_Ways___init__, .func (PySem.W.fnOf "__init__" "Ways.__init__" (defArgs s_Ways___init__) (defBody s_Ways___init__) (defScope s_Ways___init__) .none kV_Ways___init__ dc_Ways___init__ pm_Ways___init__ an_Ways___init__ cd_Ways___init__ ct_Ways___init__), sl_Ways___init__⟩) (cc_Ways___init__ : PySem.W.codeIn K cd_Ways___init__ "Ways.__init__" = true) (k_Ways___init__ : PySem.W.keepIn K (.ref f_Ways___init__) = true)
    (a_l_begun : PySem.W.nsIn K mainGlobals "_law_begun" = some (some (.ref f_l_begun)))
    (l_l_begun : K.lookup f_l_begun = some ⟨oc_l_begun, od_l_begun, .func (PySem.W.fnOf "_law_begun" "_law_begun" (defArgs s_l_begun) (defBody s_l_begun) (defScope s_l_begun) .none kV_l_begun dc_l_begun pm_l_begun an_l_begun cd_l_begun ct_l_begun), sl_l_begun⟩) (cc_l_begun : PySem.W.codeIn K cd_l_begun "_law_begun" = true) (k_l_begun : PySem.W.keepIn K (.ref f_l_begun) = true)
    (a_l_better : PySem.W.nsIn K mainGlobals "_law_better" = some (some (.ref f_l_better)))
    (l_l_better : K.lookup f_l_better = some ⟨oc_l_better, od_l_better, .func (PySem.W.fnOf "_law_better" "_law_better" (defArgs s_l_better) (defBody s_l_better) (defScope s_l_better) .none kV_l_better dc_l_better pm_l_better an_l_better cd_l_better ct_l_better), sl_l_better⟩) (cc_l_better : PySem.W.codeIn K cd_l_better "_law_better" = true) (k_l_better : PySem.W.keepIn K (.ref f_l_better) = true)
    (a_l_may : PySem.W.nsIn K mainGlobals "_law_may" = some (some (.ref f_l_may)))
    (l_l_may : K.lookup f_l_may = some ⟨oc_l_may, od_l_may, .func (PySem.W.fnOf "_law_may" "_law_may" (defArgs s_l_may) (defBody s_l_may) (defScope s_l_may) .none kV_l_may dc_l_may pm_l_may an_l_may cd_l_may ct_l_may), sl_l_may⟩) (cc_l_may : PySem.W.codeIn K cd_l_may "_law_may" = true) (k_l_may : PySem.W.keepIn K (.ref f_l_may) = true)
    (a_l_way : PySem.W.nsIn K mainGlobals "_law_way" = some (some (.ref f_l_way)))
    (l_l_way : K.lookup f_l_way = some ⟨oc_l_way, od_l_way, .func (PySem.W.fnOf "_law_way" "_law_way" (defArgs s_l_way) (defBody s_l_way) (defScope s_l_way) .none kV_l_way dc_l_way pm_l_way an_l_way cd_l_way ct_l_way), sl_l_way⟩) (cc_l_way : PySem.W.codeIn K cd_l_way "_law_way" = true) (k_l_way : PySem.W.keepIn K (.ref f_l_way) = true)
    (a_l_mix : PySem.W.nsIn K mainGlobals "_law_mix" = some (some (.ref f_l_mix)))
    (l_l_mix : K.lookup f_l_mix = some ⟨oc_l_mix, od_l_mix, .func (PySem.W.fnOf "_law_mix" "_law_mix" (defArgs s_l_mix) (defBody s_l_mix) (defScope s_l_mix) .none kV_l_mix dc_l_mix pm_l_mix an_l_mix cd_l_mix ct_l_mix), sl_l_mix⟩) (cc_l_mix : PySem.W.codeIn K cd_l_mix "_law_mix" = true) (k_l_mix : PySem.W.keepIn K (.ref f_l_mix) = true)
    (a_l_drawn : PySem.W.nsIn K mainGlobals "_law_drawn" = some (some (.ref f_l_drawn)))
    (l_l_drawn : K.lookup f_l_drawn = some ⟨oc_l_drawn, od_l_drawn, .func (PySem.W.fnOf "_law_drawn" "_law_drawn" (defArgs s_l_drawn) (defBody s_l_drawn) (defScope s_l_drawn) .none kV_l_drawn dc_l_drawn pm_l_drawn an_l_drawn cd_l_drawn ct_l_drawn), sl_l_drawn⟩) (cc_l_drawn : PySem.W.codeIn K cd_l_drawn "_law_drawn" = true) (k_l_drawn : PySem.W.keepIn K (.ref f_l_drawn) = true)
    (a_Ways_tie : PySem.W.findIn K (.ref C_Ways) "tie" = some (some (.ref f_Ways_tie))) (i_Ways_tie : PySem.W.isFn K (.ref f_Ways_tie) = true)
    (l_Ways_tie : K.lookup f_Ways_tie = some ⟨oc_Ways_tie, od_Ways_tie, .func (PySem.W.fnOf "tie" "Ways.tie" (defArgs s_Ways_tie) (defBody s_Ways_tie) (defScope s_Ways_tie) .none kV_Ways_tie dc_Ways_tie pm_Ways_tie an_Ways_tie cd_Ways_tie ct_Ways_tie), sl_Ways_tie⟩) (cc_Ways_tie : PySem.W.codeIn K cd_Ways_tie "Ways.tie" = true) (k_Ways_tie : PySem.W.keepIn K (.ref f_Ways_tie) = true)
    (a_Ways_need_tie : PySem.W.findIn K (.ref C_Ways) "need_tie" = some (some (.ref f_Ways_need_tie))) (i_Ways_need_tie : PySem.W.isFn K (.ref f_Ways_need_tie) = true)
    (l_Ways_need_tie : K.lookup f_Ways_need_tie = some ⟨oc_Ways_need_tie, od_Ways_need_tie, .func (PySem.W.fnOf "need_tie" "Ways.need_tie" (defArgs s_Ways_need_tie) (defBody s_Ways_need_tie) (defScope s_Ways_need_tie) .none kV_Ways_need_tie dc_Ways_need_tie pm_Ways_need_tie an_Ways_need_tie cd_Ways_need_tie ct_Ways_need_tie), sl_Ways_need_tie⟩) (cc_Ways_need_tie : PySem.W.codeIn K cd_Ways_need_tie "Ways.need_tie" = true) (k_Ways_need_tie : PySem.W.keepIn K (.ref f_Ways_need_tie) = true)
    (a_Ways_untie : PySem.W.findIn K (.ref C_Ways) "untie" = some (some (.ref f_Ways_untie))) (i_Ways_untie : PySem.W.isFn K (.ref f_Ways_untie) = true)
    (l_Ways_untie : K.lookup f_Ways_untie = some ⟨oc_Ways_untie, od_Ways_untie, .func (PySem.W.fnOf "untie" "Ways.untie" (defArgs s_Ways_untie) (defBody s_Ways_untie) (defScope s_Ways_untie) .none kV_Ways_untie dc_Ways_untie pm_Ways_untie an_Ways_untie cd_Ways_untie ct_Ways_untie), sl_Ways_untie⟩) (cc_Ways_untie : PySem.W.codeIn K cd_Ways_untie "Ways.untie" = true) (k_Ways_untie : PySem.W.keepIn K (.ref f_Ways_untie) = true)
    (a_Ways_mark : PySem.W.findIn K (.ref C_Ways) "mark" = some (some (.ref f_Ways_mark))) (i_Ways_mark : PySem.W.isFn K (.ref f_Ways_mark) = true)
    (l_Ways_mark : K.lookup f_Ways_mark = some ⟨oc_Ways_mark, od_Ways_mark, .func (PySem.W.fnOf "mark" "Ways.mark" (defArgs s_Ways_mark) (defBody s_Ways_mark) (defScope s_Ways_mark) .none kV_Ways_mark dc_Ways_mark pm_Ways_mark an_Ways_mark cd_Ways_mark ct_Ways_mark), sl_Ways_mark⟩) (cc_Ways_mark : PySem.W.codeIn K cd_Ways_mark "Ways.mark" = true) (k_Ways_mark : PySem.W.keepIn K (.ref f_Ways_mark) = true)
    (a_place_of_way : PySem.W.nsIn K mainGlobals "place_of_way" = some (some (.ref f_place_of_way)))
    (l_place_of_way : K.lookup f_place_of_way = some ⟨oc_place_of_way, od_place_of_way, .func (PySem.W.fnOf "place_of_way" "place_of_way" (defArgs s_place_of_way) (defBody s_place_of_way) (defScope s_place_of_way) .none kV_place_of_way dc_place_of_way pm_place_of_way an_place_of_way cd_place_of_way ct_place_of_way), sl_place_of_way⟩) (cc_place_of_way : PySem.W.codeIn K cd_place_of_way "place_of_way" = true) (k_place_of_way : PySem.W.keepIn K (.ref f_place_of_way) = true)
    (a_better : PySem.W.nsIn K mainGlobals "better" = some (some (.ref f_better)))
    (l_better : K.lookup f_better = some ⟨oc_better, od_better, .func (PySem.W.fnOf "better" "better" (defArgs s_better) (defBody s_better) (defScope s_better) .none kV_better dc_better pm_better an_better cd_better ct_better), sl_better⟩) (cc_better : PySem.W.codeIn K cd_better "better" = true) (k_better : PySem.W.keepIn K (.ref f_better) = true)
    (a_may_use : PySem.W.nsIn K mainGlobals "may_use" = some (some (.ref f_may_use)))
    (l_may_use : K.lookup f_may_use = some ⟨oc_may_use, od_may_use, .func (PySem.W.fnOf "may_use" "may_use" (defArgs s_may_use) (defBody s_may_use) (defScope s_may_use) .none kV_may_use dc_may_use pm_may_use an_may_use cd_may_use ct_may_use), sl_may_use⟩) (cc_may_use : PySem.W.codeIn K cd_may_use "may_use" = true) (k_may_use : PySem.W.keepIn K (.ref f_may_use) = true)
    (a_Ways_way : PySem.W.findIn K (.ref C_Ways) "way" = some (some (.ref f_Ways_way))) (i_Ways_way : PySem.W.isFn K (.ref f_Ways_way) = true)
    (l_Ways_way : K.lookup f_Ways_way = some ⟨oc_Ways_way, od_Ways_way, .func (PySem.W.fnOf "way" "Ways.way" (defArgs s_Ways_way) (defBody s_Ways_way) (defScope s_Ways_way) .none kV_Ways_way dc_Ways_way pm_Ways_way an_Ways_way cd_Ways_way ct_Ways_way), sl_Ways_way⟩) (cc_Ways_way : PySem.W.codeIn K cd_Ways_way "Ways.way" = true) (k_Ways_way : PySem.W.keepIn K (.ref f_Ways_way) = true)
    (a_bettered : PySem.W.nsIn K mainGlobals "bettered" = some (some (.ref f_bettered)))
    (l_bettered : K.lookup f_bettered = some ⟨oc_bettered, od_bettered, .func (PySem.W.fnOf "bettered" "bettered" (defArgs s_bettered) (defBody s_bettered) (defScope s_bettered) .none kV_bettered dc_bettered pm_bettered an_bettered cd_bettered ct_bettered), sl_bettered⟩) (cc_bettered : PySem.W.codeIn K cd_bettered "bettered" = true) (k_bettered : PySem.W.keepIn K (.ref f_bettered) = true)
    (a_Ways_hear : PySem.W.findIn K (.ref C_Ways) "hear" = some (some (.ref f_Ways_hear))) (i_Ways_hear : PySem.W.isFn K (.ref f_Ways_hear) = true)
    (l_Ways_hear : K.lookup f_Ways_hear = some ⟨oc_Ways_hear, od_Ways_hear, .func (PySem.W.fnOf "hear" "Ways.hear" (defArgs s_Ways_hear) (defBody s_Ways_hear) (defScope s_Ways_hear) .none kV_Ways_hear dc_Ways_hear pm_Ways_hear an_Ways_hear cd_Ways_hear ct_Ways_hear), sl_Ways_hear⟩) (cc_Ways_hear : PySem.W.codeIn K cd_Ways_hear "Ways.hear" = true) (k_Ways_hear : PySem.W.keepIn K (.ref f_Ways_hear) = true)
    (a_l_tried : PySem.W.nsIn K mainGlobals "_law_tried" = some (some (.ref f_l_tried)))
    (l_l_tried : K.lookup f_l_tried = some ⟨oc_l_tried, od_l_tried, .func (PySem.W.fnOf "_law_tried" "_law_tried" (defArgs s_l_tried) (defBody s_l_tried) (defScope s_l_tried) .none kV_l_tried dc_l_tried pm_l_tried an_l_tried cd_l_tried ct_l_tried), sl_l_tried⟩) (cc_l_tried : PySem.W.codeIn K cd_l_tried "_law_tried" = true) (k_l_tried : PySem.W.keepIn K (.ref f_l_tried) = true)
    (a_l_done : PySem.W.nsIn K mainGlobals "_law_done" = some (some (.ref f_l_done)))
    (l_l_done : K.lookup f_l_done = some ⟨oc_l_done, od_l_done, .func (PySem.W.fnOf "_law_done" "_law_done" (defArgs s_l_done) (defBody s_l_done) (defScope s_l_done) .none kV_l_done dc_l_done pm_l_done an_l_done cd_l_done ct_l_done), sl_l_done⟩) (cc_l_done : PySem.W.codeIn K cd_l_done "_law_done" = true) (k_l_done : PySem.W.keepIn K (.ref f_l_done) = true)
    (a_l_best : PySem.W.nsIn K mainGlobals "_law_best" = some (some (.ref f_l_best)))
    (l_l_best : K.lookup f_l_best = some ⟨oc_l_best, od_l_best, .func (PySem.W.fnOf "_law_best" "_law_best" (defArgs s_l_best) (defBody s_l_best) (defScope s_l_best) .none kV_l_best dc_l_best pm_l_best an_l_best cd_l_best ct_l_best), sl_l_best⟩) (cc_l_best : PySem.W.codeIn K cd_l_best "_law_best" = true) (k_l_best : PySem.W.keepIn K (.ref f_l_best) = true)
    (a_law : PySem.W.nsIn K mainGlobals "law" = some (some (.ref f_law)))
    (l_law : K.lookup f_law = some ⟨oc_law, od_law, .func (PySem.W.fnOf "law" "law" (defArgs s_law) (defBody s_law) (defScope s_law) .none kV_law dc_law pm_law an_law cd_law ct_law), sl_law⟩) (cc_law : PySem.W.codeIn K cd_law "law" = true) (k_law : PySem.W.keepIn K (.ref f_law) = true)
    (a_Ways : PySem.W.nsIn K mainGlobals "Ways" = some (some (.ref C_Ways))) (pg_Ways : PySem.W.plainGet K C_Ways Str.empty = true) (hd_Ways : PySem.W.hasDictIn K C_Ways = true) (po_Ways : PySem.W.plainOver K C_Ways = true) (sa_Ways : PySem.W.findIn K (.ref C_Ways) "__setattr__" = some (some (.builtin "object.__setattr__"))) (mk_Ways : PySem.W.makesIn K C_Ways = true) (kc_Ways : PySem.W.keepIn K (.ref C_Ways) = true)
    (a_NotTied : PySem.W.nsIn K mainGlobals "NotTied" = some (some (.ref C_NotTied)))
    (a_PostError : PySem.W.nsIn K mainGlobals "PostError" = some (some (.ref C_PostError)))
    (a_Tied : PySem.W.nsIn K mainGlobals "Tied" = some (some (.ref C_Tied)))
    (lk_hn : PySem.W.specialIn K (.builtin "object.__class__") "__get__" = some (some (.builtin "getset_descriptor.__get__")))
    (lk_tk : PySem.W.takesIn K (.builtin "object.__class__") = some true)
    (ow_NotTied : ownIn K C_NotTied bmVE "ValueError.__new__" = true)
    (lk_cl_NotTied : (PySem.W.clsIn K C_NotTied).isSome = true)
    (lk_ga_NotTied : PySem.W.findIn K (.ref C_NotTied) "__getattribute__" = some (some (.builtin "BaseException.__getattribute__")))
    (lk_hk_NotTied : PySem.W.findIn K (.ref C_NotTied) "__getattr__" = some none)
    (lk_sub_NotTied : PySem.W.subIn K (.ref C_NotTied) (.type "BaseException") = some true)
    (lk_ha_NotTied : PySem.W.findIn K (.ref C_NotTied) "__class__" = some (some (.builtin "object.__class__")))
    (lk_hm_NotTied : PySem.W.mroIn K C_NotTied (.type "object") = some true)
    (ex_NotTied_PostError : PySem.W.exmOne K (.ref C_NotTied) (.ref C_PostError) = some true)
    (y_0_NotTied : PySem.W.kitAny K (.ref C_NotTied) [.ref C_Tied, .ref C_NotTied] = some true)
    (ow_Tied : ownIn K C_Tied bmVE "ValueError.__new__" = true)
    (lk_cl_Tied : (PySem.W.clsIn K C_Tied).isSome = true)
    (lk_ga_Tied : PySem.W.findIn K (.ref C_Tied) "__getattribute__" = some (some (.builtin "BaseException.__getattribute__")))
    (lk_hk_Tied : PySem.W.findIn K (.ref C_Tied) "__getattr__" = some none)
    (lk_sub_Tied : PySem.W.subIn K (.ref C_Tied) (.type "BaseException") = some true)
    (lk_ha_Tied : PySem.W.findIn K (.ref C_Tied) "__class__" = some (some (.builtin "object.__class__")))
    (lk_hm_Tied : PySem.W.mroIn K C_Tied (.type "object") = some true)
    (ex_Tied_PostError : PySem.W.exmOne K (.ref C_Tied) (.ref C_PostError) = some true)
    (y_0_Tied : PySem.W.kitAny K (.ref C_Tied) [.ref C_Tied, .ref C_NotTied] = some true)
    (nf_Ways_length_by : PySem.W.findIn K (.ref C_Ways) "length_by" = some none)
    (nf_Ways_mark_of : PySem.W.findIn K (.ref C_Ways) "mark_of" = some none)
    (nf_Ways_tellings_by : PySem.W.findIn K (.ref C_Ways) "tellings_by" = some none)
    (z_isinstance : PySem.W.nsIn K mainGlobals "isinstance" = some none)
    (z_len : PySem.W.nsIn K mainGlobals "len" = some none)
    (z_list : PySem.W.nsIn K mainGlobals "list" = some none)
    (z_max : PySem.W.nsIn K mainGlobals "max" = some none)
    (z_min : PySem.W.nsIn K mainGlobals "min" = some none)
    (z_range : PySem.W.nsIn K mainGlobals "range" = some none) :
    ∃ fd : FuncData, (∀ (s : Shared) (v : Value), BindsTo s fd ⟨[v], []⟩ [("_law_script", v)]) ∧ ∀ base : Heap, K.In base → base.Ns mainGlobals mg → FnOk P w K mg base CX0 7 fa fd ["_law_script"] (spC K d_law) := by
  have e := hfa.symm.trans (PySem.W.mg_of X G a_law)
  cases e
  have hC_NotTied : (clAdd (clAdd (clAdd C0 "Ways" C_Ways) "NotTied" C_NotTied) "Tied" C_Tied) "NotTied" = some C_NotTied := (clAdd_ne (by decide +kernel) clAdd_same)
  have L_NotTied : PySem.W.ExcLook K C_NotTied := ⟨lk_cl_NotTied, lk_ga_NotTied, lk_hk_NotTied, lk_sub_NotTied, lk_ha_NotTied, lk_hn, lk_tk, lk_hm_NotTied⟩
  have hC_Tied : (clAdd (clAdd (clAdd C0 "Ways" C_Ways) "NotTied" C_NotTied) "Tied" C_Tied) "Tied" = some C_Tied := clAdd_same
  have L_Tied : PySem.W.ExcLook K C_Tied := ⟨lk_cl_Tied, lk_ga_Tied, lk_hk_Tied, lk_sub_Tied, lk_ha_Tied, lk_hn, lk_tk, lk_hm_Tied⟩
  have tc_PostError : ∀ c, tcf_PostError c = true → ∃ Ca, (clAdd (clAdd (clAdd C0 "Ways" C_Ways) "NotTied" C_NotTied) "Tied" C_Tied) c = some Ca ∧ PySem.W.exmOne K (.ref Ca) (.ref C_PostError) = some true := fun c hc => by
    simp only [tcf_PostError, Bool.or_eq_true, decide_eq_true_eq] at hc
    rcases hc with rfl | rfl
    · exact ⟨C_NotTied, hC_NotTied, ex_NotTied_PostError⟩
    · exact ⟨C_Tied, hC_Tied, ex_Tied_PostError⟩
  have x_0 : ∀ c Ca b, xt_0 c = some b → (clAdd (clAdd (clAdd C0 "Ways" C_Ways) "NotTied" C_NotTied) "Tied" C_Tied) c = some Ca → PySem.W.ExcLook K Ca ∧ PySem.W.kitAny K (.ref Ca) [.ref C_Tied, .ref C_NotTied] = some b := fun c Ca b h1 h2 => by
    unfold xt_0 at h1
    by_cases e_NotTied : c = "NotTied"
    · subst e_NotTied; rw [if_pos rfl] at h1; cases h1; rw [hC_NotTied] at h2; cases h2; exact ⟨L_NotTied, y_0_NotTied⟩
    rw [if_neg e_NotTied] at h1
    by_cases e_Tied : c = "Tied"
    · subst e_Tied; rw [if_pos rfl] at h1; cases h1; rw [hC_Tied] at h2; cases h2; exact ⟨L_Tied, y_0_Tied⟩
    rw [if_neg e_Tied] at h1
    cases h1
  have hC_Ways : (clAdd (clAdd (clAdd C0 "Ways" C_Ways) "NotTied" C_NotTied) "Tied" C_Tied) "Ways" = some C_Ways := (clAdd_ne (by decide +kernel) (clAdd_ne (by decide +kernel) clAdd_same))
  have T_Ways : ClD K (clAdd (clAdd (clAdd C0 "Ways" C_Ways) "NotTied" C_NotTied) "Tied" C_Tied) "Ways" := ⟨C_Ways, hC_Ways, ⟨pg_Ways, hd_Ways, po_Ways, sa_Ways⟩⟩
  have n_Ways_length_by : NoA K (clAdd (clAdd (clAdd C0 "Ways" C_Ways) "NotTied" C_NotTied) "Tied" C_Tied) "Ways" "length_by" := noA_of hC_Ways nf_Ways_length_by
  have n_Ways_mark_of : NoA K (clAdd (clAdd (clAdd C0 "Ways" C_Ways) "NotTied" C_NotTied) "Tied" C_Tied) "Ways" "mark_of" := noA_of hC_Ways nf_Ways_mark_of
  have n_Ways_tellings_by : NoA K (clAdd (clAdd (clAdd C0 "Ways" C_Ways) "NotTied" C_NotTied) "Tied" C_Tied) "Ways" "tellings_by" := noA_of hC_Ways nf_Ways_tellings_by
  have T_l_mixed : TF K mg "_law_mixed" s_l_mixed := ⟨f_l_mixed, _, PySem.W.mg_of X G a_l_mixed, fun_mk (st := s_l_mixed) l_l_mixed cc_l_mixed k_l_mixed⟩
  have T_l_cell_at : TF K mg "_law_cell_at" s_l_cell_at := ⟨f_l_cell_at, _, PySem.W.mg_of X G a_l_cell_at, fun_mk (st := s_l_cell_at) l_l_cell_at cc_l_cell_at k_l_cell_at⟩
  have T_l_houses : TF K mg "_law_houses" s_l_houses := ⟨f_l_houses, _, PySem.W.mg_of X G a_l_houses, fun_mk (st := s_l_houses) l_l_houses cc_l_houses k_l_houses⟩
  have T_l_begun : TF K mg "_law_begun" s_l_begun := ⟨f_l_begun, _, PySem.W.mg_of X G a_l_begun, fun_mk (st := s_l_begun) l_l_begun cc_l_begun k_l_begun⟩
  have T_l_better : TF K mg "_law_better" s_l_better := ⟨f_l_better, _, PySem.W.mg_of X G a_l_better, fun_mk (st := s_l_better) l_l_better cc_l_better k_l_better⟩
  have T_l_may : TF K mg "_law_may" s_l_may := ⟨f_l_may, _, PySem.W.mg_of X G a_l_may, fun_mk (st := s_l_may) l_l_may cc_l_may k_l_may⟩
  have T_l_way : TF K mg "_law_way" s_l_way := ⟨f_l_way, _, PySem.W.mg_of X G a_l_way, fun_mk (st := s_l_way) l_l_way cc_l_way k_l_way⟩
  have T_l_mix : TF K mg "_law_mix" s_l_mix := ⟨f_l_mix, _, PySem.W.mg_of X G a_l_mix, fun_mk (st := s_l_mix) l_l_mix cc_l_mix k_l_mix⟩
  have T_l_drawn : TF K mg "_law_drawn" s_l_drawn := ⟨f_l_drawn, _, PySem.W.mg_of X G a_l_drawn, fun_mk (st := s_l_drawn) l_l_drawn cc_l_drawn k_l_drawn⟩
  have T_place_of_way : TF K mg "place_of_way" s_place_of_way := ⟨f_place_of_way, _, PySem.W.mg_of X G a_place_of_way, fun_mk (st := s_place_of_way) l_place_of_way cc_place_of_way k_place_of_way⟩
  have T_better : TF K mg "better" s_better := ⟨f_better, _, PySem.W.mg_of X G a_better, fun_mk (st := s_better) l_better cc_better k_better⟩
  have T_may_use : TF K mg "may_use" s_may_use := ⟨f_may_use, _, PySem.W.mg_of X G a_may_use, fun_mk (st := s_may_use) l_may_use cc_may_use k_may_use⟩
  have T_bettered : TF K mg "bettered" s_bettered := ⟨f_bettered, _, PySem.W.mg_of X G a_bettered, fun_mk (st := s_bettered) l_bettered cc_bettered k_bettered⟩
  have T_l_tried : TF K mg "_law_tried" s_l_tried := ⟨f_l_tried, _, PySem.W.mg_of X G a_l_tried, fun_mk (st := s_l_tried) l_l_tried cc_l_tried k_l_tried⟩
  have T_l_done : TF K mg "_law_done" s_l_done := ⟨f_l_done, _, PySem.W.mg_of X G a_l_done, fun_mk (st := s_l_done) l_l_done cc_l_done k_l_done⟩
  have T_l_best : TF K mg "_law_best" s_l_best := ⟨f_l_best, _, PySem.W.mg_of X G a_l_best, fun_mk (st := s_l_best) l_l_best cc_l_best k_l_best⟩
  refine ⟨PySem.W.fnOf "law" "law" (defArgs s_law) (defBody s_law) (defScope s_law) .none kV_law dc_law pm_law an_law cd_law ct_law, fun s v => .of_eq rfl, fun base KB _ => ?_⟩
  have O_NotTied : OwnCls "NotTied" C_NotTied bmVE "ValueError.__new__" mg base := own_in KB ow_NotTied (PySem.W.mg_of X G a_NotTied)
  have O_Tied : OwnCls "Tied" C_Tied bmVE "ValueError.__new__" mg base := own_in KB ow_Tied (PySem.W.mg_of X G a_Tied)
  have G_l_mixed : Fn P w K mg base (clAdd (clAdd (clAdd C0 "Ways" C_Ways) "NotTied" C_NotTied) "Tied" C_Tied) 1 "_law_mixed" d_l_mixed := ok_l_mixed T_l_mixed (PySem.W.mg_none_of X G z_len)
  have G_l_cell_at : Fn P w K mg base (clAdd (clAdd (clAdd C0 "Ways" C_Ways) "NotTied" C_NotTied) "Tied" C_Tied) 1 "_law_cell_at" d_l_cell_at := ok_l_cell_at T_l_cell_at (PySem.W.mg_none_of X G z_len)
  have G_l_houses : Fn P w K mg base (clAdd (clAdd (clAdd C0 "Ways" C_Ways) "NotTied" C_NotTied) "Tied" C_Tied) 2 "_law_houses" d_l_houses := ok_l_houses T_l_houses (PySem.W.mg_none_of X G z_range) G_l_cell_at
  have O_Ways___init__ : FnOk P w K mg base CX0 1 f_Ways___init__ _ ["self"] (spD K (clAdd (clAdd (clAdd C0 "Ways" C_Ways) "NotTied" C_NotTied) "Tied" C_Tied) d_Ways___init__) := ok_Ways___init__ (funV_mk (st := s_Ways___init__) l_Ways___init__ cc_Ways___init__) T_Ways n_Ways_length_by n_Ways_mark_of n_Ways_tellings_by
  have K_Ways : MkD P w K mg base (clAdd (clAdd (clAdd C0 "Ways" C_Ways) "NotTied" C_NotTied) "Tied" C_Tied) 1 "Ways" d_Ways___init__ [] := ⟨C_Ways, f_Ways___init__, _, _, [], [], hC_Ways, PySem.W.mg_of X G a_Ways, ⟨mk_Ways, a_Ways___init__, i_Ways___init__, kc_Ways⟩, (bindsN (ps := ["self"]) fun us hl => len1 us hl (fun _ => rfl)), .nil, fun _ _ => .nil, O_Ways___init__⟩
  have G_l_begun : Fn P w K mg base (clAdd (clAdd (clAdd C0 "Ways" C_Ways) "NotTied" C_NotTied) "Tied" C_Tied) 1 "_law_begun" d_l_begun := ok_l_begun T_l_begun 
  have G_l_better : Fn P w K mg base (clAdd (clAdd (clAdd C0 "Ways" C_Ways) "NotTied" C_NotTied) "Tied" C_Tied) 1 "_law_better" d_l_better := ok_l_better T_l_better 
  have G_l_may : Fn P w K mg base (clAdd (clAdd (clAdd C0 "Ways" C_Ways) "NotTied" C_NotTied) "Tied" C_Tied) 2 "_law_may" d_l_may := ok_l_may T_l_may G_l_better
  have G_l_way : Fn P w K mg base (clAdd (clAdd (clAdd C0 "Ways" C_Ways) "NotTied" C_NotTied) "Tied" C_Tied) 3 "_law_way" d_l_way := ok_l_way T_l_way (PySem.W.mg_none_of X G z_min) G_l_may
  have G_l_mix : Fn P w K mg base (clAdd (clAdd (clAdd C0 "Ways" C_Ways) "NotTied" C_NotTied) "Tied" C_Tied) 1 "_law_mix" d_l_mix := ok_l_mix T_l_mix 
  have G_l_drawn : Fn P w K mg base (clAdd (clAdd (clAdd C0 "Ways" C_Ways) "NotTied" C_NotTied) "Tied" C_Tied) 4 "_law_drawn" d_l_drawn := ok_l_drawn T_l_drawn (PySem.W.mg_none_of X G z_len) (PySem.W.mg_none_of X G z_max) G_l_mix G_l_way
  have O_Ways_tie : FnOk P w K mg base (CXr P w) 1 f_Ways_tie _ ["self", "neighbour", "length"] (spX K (clAdd (clAdd (clAdd C0 "Ways" C_Ways) "NotTied" C_NotTied) "Tied" C_Tied) d_Ways_tie r_Ways_tie) := ok_Ways_tie (funV_mk (st := s_Ways_tie) l_Ways_tie cc_Ways_tie) T_Ways n_Ways_length_by n_Ways_tellings_by hC_Tied O_Tied
  have M_Ways_tie_0 : MtX P w K mg base (clAdd (clAdd (clAdd C0 "Ways" C_Ways) "NotTied" C_NotTied) "Tied" C_Tied) 1 "Ways" "tie" d_Ways_tie r_Ways_tie [] := ⟨C_Ways, f_Ways_tie, _, _, [], [], hC_Ways, ⟨pg_Ways, hd_Ways, po_Ways, sa_Ways⟩, ⟨a_Ways_tie, i_Ways_tie, k_Ways_tie⟩, (bindsN (ps := ["self", "neighbour", "length"]) fun us hl => len3 us hl (fun _ _ _ => rfl)), .nil, fun _ _ => .nil, O_Ways_tie⟩
  have O_Ways_need_tie : FnOk P w K mg base (CXr P w) 1 f_Ways_need_tie _ ["self", "neighbour"] (spX K (clAdd (clAdd (clAdd C0 "Ways" C_Ways) "NotTied" C_NotTied) "Tied" C_Tied) d_Ways_need_tie r_Ways_need_tie) := ok_Ways_need_tie (funV_mk (st := s_Ways_need_tie) l_Ways_need_tie cc_Ways_need_tie) T_Ways n_Ways_length_by hC_NotTied O_NotTied
  have M_Ways_need_tie_0 : MtX P w K mg base (clAdd (clAdd (clAdd C0 "Ways" C_Ways) "NotTied" C_NotTied) "Tied" C_Tied) 1 "Ways" "need_tie" d_Ways_need_tie r_Ways_need_tie [] := ⟨C_Ways, f_Ways_need_tie, _, _, [], [], hC_Ways, ⟨pg_Ways, hd_Ways, po_Ways, sa_Ways⟩, ⟨a_Ways_need_tie, i_Ways_need_tie, k_Ways_need_tie⟩, (bindsN (ps := ["self", "neighbour"]) fun us hl => len2 us hl (fun _ _ => rfl)), .nil, fun _ _ => .nil, O_Ways_need_tie⟩
  have O_Ways_untie : FnOk P w K mg base (CXr P w) 2 f_Ways_untie _ ["self", "neighbour"] (spX K (clAdd (clAdd (clAdd C0 "Ways" C_Ways) "NotTied" C_NotTied) "Tied" C_Tied) d_Ways_untie r_Ways_untie) := ok_Ways_untie (funV_mk (st := s_Ways_untie) l_Ways_untie cc_Ways_untie) T_Ways n_Ways_length_by n_Ways_tellings_by M_Ways_need_tie_0
  have M_Ways_untie_0 : MtX P w K mg base (clAdd (clAdd (clAdd C0 "Ways" C_Ways) "NotTied" C_NotTied) "Tied" C_Tied) 2 "Ways" "untie" d_Ways_untie r_Ways_untie [] := ⟨C_Ways, f_Ways_untie, _, _, [], [], hC_Ways, ⟨pg_Ways, hd_Ways, po_Ways, sa_Ways⟩, ⟨a_Ways_untie, i_Ways_untie, k_Ways_untie⟩, (bindsN (ps := ["self", "neighbour"]) fun us hl => len2 us hl (fun _ _ => rfl)), .nil, fun _ _ => .nil, O_Ways_untie⟩
  have O_Ways_mark : FnOk P w K mg base CX0 1 f_Ways_mark _ ["self", "goal"] (spD K (clAdd (clAdd (clAdd C0 "Ways" C_Ways) "NotTied" C_NotTied) "Tied" C_Tied) d_Ways_mark) := ok_Ways_mark (funV_mk (st := s_Ways_mark) l_Ways_mark cc_Ways_mark) T_Ways n_Ways_mark_of
  have M_Ways_mark_0 : Mt P w K mg base (clAdd (clAdd (clAdd C0 "Ways" C_Ways) "NotTied" C_NotTied) "Tied" C_Tied) 1 "Ways" "mark" d_Ways_mark [] := ⟨C_Ways, f_Ways_mark, _, _, [], [], hC_Ways, ⟨pg_Ways, hd_Ways, po_Ways, sa_Ways⟩, ⟨a_Ways_mark, i_Ways_mark, k_Ways_mark⟩, (bindsN (ps := ["self", "goal"]) fun us hl => len2 us hl (fun _ _ => rfl)), .nil, fun _ _ => .nil, O_Ways_mark⟩
  have G_place_of_way : Fn P w K mg base (clAdd (clAdd (clAdd C0 "Ways" C_Ways) "NotTied" C_NotTied) "Tied" C_Tied) 1 "place_of_way" d_place_of_way := ok_place_of_way T_place_of_way 
  have G_better : Fn P w K mg base (clAdd (clAdd (clAdd C0 "Ways" C_Ways) "NotTied" C_NotTied) "Tied" C_Tied) 1 "better" d_better := ok_better T_better 
  have G_may_use : Fn P w K mg base (clAdd (clAdd (clAdd C0 "Ways" C_Ways) "NotTied" C_NotTied) "Tied" C_Tied) 2 "may_use" d_may_use := ok_may_use T_may_use G_better
  have O_Ways_way : FnOk P w K mg base CX0 4 f_Ways_way _ ["self", "goal"] (spD K (clAdd (clAdd (clAdd C0 "Ways" C_Ways) "NotTied" C_NotTied) "Tied" C_Tied) d_Ways_way) := ok_Ways_way (funV_mk (st := s_Ways_way) l_Ways_way cc_Ways_way) T_Ways n_Ways_length_by n_Ways_tellings_by M_Ways_mark_0 (PySem.W.mg_none_of X G z_min) G_may_use G_place_of_way
  have M_Ways_way_0 : Mt P w K mg base (clAdd (clAdd (clAdd C0 "Ways" C_Ways) "NotTied" C_NotTied) "Tied" C_Tied) 4 "Ways" "way" d_Ways_way [] := ⟨C_Ways, f_Ways_way, _, _, [], [], hC_Ways, ⟨pg_Ways, hd_Ways, po_Ways, sa_Ways⟩, ⟨a_Ways_way, i_Ways_way, k_Ways_way⟩, (bindsN (ps := ["self", "goal"]) fun us hl => len2 us hl (fun _ _ => rfl)), .nil, fun _ _ => .nil, O_Ways_way⟩
  have G_bettered : Fn P w K mg base (clAdd (clAdd (clAdd C0 "Ways" C_Ways) "NotTied" C_NotTied) "Tied" C_Tied) 1 "bettered" d_bettered := ok_bettered T_bettered (PySem.W.mg_none_of X G z_min)
  have O_Ways_hear : FnOk P w K mg base (CXr P w) 5 f_Ways_hear _ ["self", "neighbour", "goal", "number", "far"] (spX K (clAdd (clAdd (clAdd C0 "Ways" C_Ways) "NotTied" C_NotTied) "Tied" C_Tied) d_Ways_hear r_Ways_hear) := ok_Ways_hear (funV_mk (st := s_Ways_hear) l_Ways_hear cc_Ways_hear) T_Ways n_Ways_mark_of n_Ways_tellings_by M_Ways_need_tie_0 M_Ways_way_0 M_Ways_mark_0 G_bettered
  have M_Ways_hear_0 : MtX P w K mg base (clAdd (clAdd (clAdd C0 "Ways" C_Ways) "NotTied" C_NotTied) "Tied" C_Tied) 5 "Ways" "hear" d_Ways_hear r_Ways_hear [] := ⟨C_Ways, f_Ways_hear, _, _, [], [], hC_Ways, ⟨pg_Ways, hd_Ways, po_Ways, sa_Ways⟩, ⟨a_Ways_hear, i_Ways_hear, k_Ways_hear⟩, (bindsN (ps := ["self", "neighbour", "goal", "number", "far"]) fun us hl => len5 us hl (fun _ _ _ _ _ => rfl)), .nil, fun _ _ => .nil, O_Ways_hear⟩
  have G_l_tried : Fn P w K mg base (clAdd (clAdd (clAdd C0 "Ways" C_Ways) "NotTied" C_NotTied) "Tied" C_Tied) 6 "_law_tried" d_l_tried := ok_l_tried T_l_tried M_Ways_tie_0 M_Ways_untie_0 M_Ways_hear_0 (PySem.W.mg_of X G a_NotTied) (PySem.W.mg_of X G a_PostError) (PySem.W.mg_of X G a_Tied) tc_PostError x_0 (PySem.W.mg_none_of X G z_isinstance)
  have G_l_done : Fn P w K mg base (clAdd (clAdd (clAdd C0 "Ways" C_Ways) "NotTied" C_NotTied) "Tied" C_Tied) 1 "_law_done" d_l_done := ok_l_done T_l_done (PySem.W.mg_none_of X G z_list)
  have G_l_best : Fn P w K mg base (clAdd (clAdd (clAdd C0 "Ways" C_Ways) "NotTied" C_NotTied) "Tied" C_Tied) 5 "_law_best" d_l_best := ok_l_best T_l_best M_Ways_way_0 M_Ways_mark_0 G_better G_may_use
  exact (law_fn (C := (clAdd (clAdd (clAdd C0 "Ways" C_Ways) "NotTied" C_NotTied) "Tied" C_Tied)) (fun_mk (st := s_law) l_law cc_law k_law) M_Ways_mark_0 K_Ways (PySem.W.mg_none_of X G z_range) G_l_mixed G_l_houses G_l_mix G_l_cell_at G_l_begun G_l_drawn G_l_tried G_l_done G_better G_l_best).imp fun vs H Q E h => h _
theorem walk {l : PySem.W.OpenLaw} {q : Program} {loose : List Str} {XP : (Str → Option Value) → Heap → Prop} {YP : World → Heap → Prop} {d : DefRec} {K : Params → PySem.W.Frag} (hn : l.most = some 63) (hdf : d.params.defaults = [])
    (hY : ∀ (w : World) (h : Heap), YP w h → (K w.params).In h) (holds : ∀ ns : List Int, ns.length ≤ 63 → ∃ Ω, d_law [.scr ns] [] = some (.bl true, Ω))
    (F : ∀ (w : World) (mg : Str → Option Value) (fa : Addr) (h : Heap), (K w.params).In h → h.Ns mainGlobals mg → mg d.name = some (.ref fa) →
      ∃ fd : FuncData, (∀ (s : Shared) (u : Value), BindsTo s fd ⟨[u], []⟩ [("_law_script", u)]) ∧ ∀ base : Heap, (K w.params).In base → base.Ns mainGlobals mg → FnOk l.prog w (K w.params) mg base CX0 7 fa fd ["_law_script"] (spC (K w.params) d_law)) :
    PySem.W.WalkO q loose XP YP l.row.toRowW d [] (fun f vs => PySem.call f vs) :=
  L2.walk_of (n := 63) (k := 7) (x := "_law_script") (CX := fun _ => CX0) (sp := fun w => spC (K w.params) d_law) hn (by decide) hdf ⟨rfl, by decide, by decide, rfl⟩ hY F (fun _ _ a ns hl _ hS => law_okC hS (holds ns hl)) fun _ _ _ _ _ z => z
end Law

open PySem PySem.W PyProof.Rows
set_option maxRecDepth 100000 in
set_option maxHeartbeats 0 in
theorem PySem.Challenge.cw_posthouse_k17_marks_get_better_holds : PySem.Challenge.rw_posthouse_k17_marks_get_better.Holds := by
  w_on; o_law; k_head; (case hw => w_witness2)
  k_fill
  refine Law.walk (l := PySem.Challenge.rw_posthouse_k17_marks_get_better) rfl rfl (fun w h Y => PySem.W.kIn_of Y) Law.holds ?F
  case F =>
    intro w mg fa h KX G hmg
    refine' Law.all_mk KX G hmg ?a_l_mixed ?l_l_mixed ?cc_l_mixed ?k_l_mixed ?a_l_cell_at ?l_l_cell_at ?cc_l_cell_at ?k_l_cell_at ?a_l_houses ?l_l_houses ?cc_l_houses ?k_l_houses ?a_Ways___init__ ?i_Ways___init__ ?l_Ways___init__ ?cc_Ways___init__ ?k_Ways___init__ ?a_l_begun ?l_l_begun ?cc_l_begun ?k_l_begun ?a_l_better ?l_l_better ?cc_l_better ?k_l_better ?a_l_may ?l_l_may ?cc_l_may ?k_l_may ?a_l_way ?l_l_way ?cc_l_way ?k_l_way ?a_l_mix ?l_l_mix ?cc_l_mix ?k_l_mix ?a_l_drawn ?l_l_drawn ?cc_l_drawn ?k_l_drawn ?a_Ways_tie ?i_Ways_tie ?l_Ways_tie ?cc_Ways_tie ?k_Ways_tie ?a_Ways_need_tie ?i_Ways_need_tie ?l_Ways_need_tie ?cc_Ways_need_tie ?k_Ways_need_tie ?a_Ways_untie ?i_Ways_untie ?l_Ways_untie ?cc_Ways_untie ?k_Ways_untie ?a_Ways_mark ?i_Ways_mark ?l_Ways_mark ?cc_Ways_mark ?k_Ways_mark ?a_place_of_way ?l_place_of_way ?cc_place_of_way ?k_place_of_way ?a_better ?l_better ?cc_better ?k_better ?a_may_use ?l_may_use ?cc_may_use ?k_may_use ?a_Ways_way ?i_Ways_way ?l_Ways_way ?cc_Ways_way ?k_Ways_way ?a_bettered ?l_bettered ?cc_bettered ?k_bettered ?a_Ways_hear ?i_Ways_hear ?l_Ways_hear ?cc_Ways_hear ?k_Ways_hear ?a_l_tried ?l_l_tried ?cc_l_tried ?k_l_tried ?a_l_done ?l_l_done ?cc_l_done ?k_l_done ?a_l_best ?l_l_best ?cc_l_best ?k_l_best ?a_law ?l_law ?cc_law ?k_law ?a_Ways ?pg_Ways ?hd_Ways ?po_Ways ?sa_Ways ?mk_Ways ?kc_Ways ?a_NotTied ?a_PostError ?a_Tied ?lk_hn ?lk_tk ?ow_NotTied ?lk_cl_NotTied ?lk_ga_NotTied ?lk_hk_NotTied ?lk_sub_NotTied ?lk_ha_NotTied ?lk_hm_NotTied ?ex_NotTied_PostError ?y_0_NotTied ?ow_Tied ?lk_cl_Tied ?lk_ga_Tied ?lk_hk_Tied ?lk_sub_Tied ?lk_ha_Tied ?lk_hm_Tied ?ex_Tied_PostError ?y_0_Tied ?nf_Ways_length_by ?nf_Ways_mark_of ?nf_Ways_tellings_by ?z_isinstance ?z_len ?z_list ?z_max ?z_min ?z_range
    (case a_Ways => k_is)
    (case a_NotTied => k_is)
    (case a_PostError => k_is)
    (case a_Tied => k_is)
    (case a_l_mixed => k_is)
    (case l_l_mixed => k_is)
    (case cc_l_mixed => k_is)
    (case k_l_mixed => k_is)
    (case a_l_cell_at => k_is)
    (case l_l_cell_at => k_is)
    (case cc_l_cell_at => k_is)
    (case k_l_cell_at => k_is)
    (case a_l_houses => k_is)
    (case l_l_houses => k_is)
    (case cc_l_houses => k_is)
    (case k_l_houses => k_is)
    (case a_Ways___init__ => k_is)
    (case i_Ways___init__ => k_is)
    (case l_Ways___init__ => k_is)
    (case cc_Ways___init__ => k_is)
    (case k_Ways___init__ => k_is)
    (case a_l_begun => k_is)
    (case l_l_begun => k_is)
    (case cc_l_begun => k_is)
    (case k_l_begun => k_is)
    (case a_l_better => k_is)
    (case l_l_better => k_is)
    (case cc_l_better => k_is)
    (case k_l_better => k_is)
    (case a_l_may => k_is)
    (case l_l_may => k_is)
    (case cc_l_may => k_is)
    (case k_l_may => k_is)
    (case a_l_way => k_is)
    (case l_l_way => k_is)
    (case cc_l_way => k_is)
    (case k_l_way => k_is)
    (case a_l_mix => k_is)
    (case l_l_mix => k_is)
    (case cc_l_mix => k_is)
    (case k_l_mix => k_is)
    (case a_l_drawn => k_is)
    (case l_l_drawn => k_is)
    (case cc_l_drawn => k_is)
    (case k_l_drawn => k_is)
    (case a_Ways_tie => k_is)
    (case i_Ways_tie => k_is)
    (case l_Ways_tie => k_is)
    (case cc_Ways_tie => k_is)
    (case k_Ways_tie => k_is)
    (case a_Ways_need_tie => k_is)
    (case i_Ways_need_tie => k_is)
    (case l_Ways_need_tie => k_is)
    (case cc_Ways_need_tie => k_is)
    (case k_Ways_need_tie => k_is)
    (case a_Ways_untie => k_is)
    (case i_Ways_untie => k_is)
    (case l_Ways_untie => k_is)
    (case cc_Ways_untie => k_is)
    (case k_Ways_untie => k_is)
    (case a_Ways_mark => k_is)
    (case i_Ways_mark => k_is)
    (case l_Ways_mark => k_is)
    (case cc_Ways_mark => k_is)
    (case k_Ways_mark => k_is)
    (case a_place_of_way => k_is)
    (case l_place_of_way => k_is)
    (case cc_place_of_way => k_is)
    (case k_place_of_way => k_is)
    (case a_better => k_is)
    (case l_better => k_is)
    (case cc_better => k_is)
    (case k_better => k_is)
    (case a_may_use => k_is)
    (case l_may_use => k_is)
    (case cc_may_use => k_is)
    (case k_may_use => k_is)
    (case a_Ways_way => k_is)
    (case i_Ways_way => k_is)
    (case l_Ways_way => k_is)
    (case cc_Ways_way => k_is)
    (case k_Ways_way => k_is)
    (case a_bettered => k_is)
    (case l_bettered => k_is)
    (case cc_bettered => k_is)
    (case k_bettered => k_is)
    (case a_Ways_hear => k_is)
    (case i_Ways_hear => k_is)
    (case l_Ways_hear => k_is)
    (case cc_Ways_hear => k_is)
    (case k_Ways_hear => k_is)
    (case a_l_tried => k_is)
    (case l_l_tried => k_is)
    (case cc_l_tried => k_is)
    (case k_l_tried => k_is)
    (case a_l_done => k_is)
    (case l_l_done => k_is)
    (case cc_l_done => k_is)
    (case k_l_done => k_is)
    (case a_l_best => k_is)
    (case l_l_best => k_is)
    (case cc_l_best => k_is)
    (case k_l_best => k_is)
    (case a_law => k_is)
    (case l_law => k_is)
    (case cc_law => k_is)
    (case k_law => k_is)
    (case pg_Ways => k_is)
    (case hd_Ways => k_is)
    (case po_Ways => k_is)
    (case sa_Ways => k_is)
    (case mk_Ways => k_is)
    (case kc_Ways => k_is)
    (case lk_hn => k_is)
    (case lk_tk => k_is)
    (case ow_NotTied => kernel_rfl)
    (case lk_cl_NotTied => kernel_rfl)
    (case lk_ga_NotTied => k_is)
    (case lk_hk_NotTied => k_is)
    (case lk_sub_NotTied => k_is)
    (case lk_ha_NotTied => k_is)
    (case lk_hm_NotTied => k_is)
    (case ex_NotTied_PostError => kernel_rfl)
    (case y_0_NotTied => kernel_rfl)
    (case ow_Tied => kernel_rfl)
    (case lk_cl_Tied => kernel_rfl)
    (case lk_ga_Tied => k_is)
    (case lk_hk_Tied => k_is)
    (case lk_sub_Tied => k_is)
    (case lk_ha_Tied => k_is)
    (case lk_hm_Tied => k_is)
    (case ex_Tied_PostError => kernel_rfl)
    (case y_0_Tied => kernel_rfl)
    (case nf_Ways_length_by => k_is)
    (case nf_Ways_mark_of => k_is)
    (case nf_Ways_tellings_by => k_is)
    (case z_isinstance => k_is)
    (case z_len => k_is)
    (case z_list => k_is)
    (case z_max => k_is)
    (case z_min => k_is)
    (case z_range => k_is)

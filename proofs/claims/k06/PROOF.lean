import PyProof.Rows.All
import Wide.All
import OpenK.AllK
import Wide.FinOn
import Lean
import PyProof.EqAt
import PyProof.EqKinds
import PyProof.TupleCall
import KE.KSortTup
import KE.KIntText
import KE.KTryMore
import PyProof.ExcArgs
import KE.KIsAll
import PyProof.ReprNest
import PyProof.NsMap
import PyProof.Rows.Own
import PyProof.ReprStr
import PyProof.ExcBaseAll.ValueError
import PyProof.FitsInt
import PyProof.ZipIter
import PySem.Challenge.RW_posthouse_k06_texts_refused
set_option Elab.async false
set_option linter.all false
set_option maxRecDepth 100000
set_option Elab.async false
set_option linter.all false
set_option maxRecDepth 100000
/-! THE HAND LAYER, for ints, bools, texts, own classes, LISTS and tuples (index, slices, in, append, pop ..), calls, loops. Paste it whole ahead of your own text; what your proof does not reach may be deleted. -/
namespace L2
open PySem PySem.Spec PyProof.Rows

/-- a key: an int or a str -/
abbrev Key := Sum Int Str
def keyIs : Key → Value → Bool
  | .inl k, v => Value.isInt k v
  | .inr x, v => Value.isStrOf x v
def keyH (w : World) : Key → Int
  | .inl k => hashInt k
  | .inr x => hashStr w x
theorem keyIs_shape : ∀ {k : Key} {v : Value}, keyIs k v = true → (∃ i t, k = Sum.inl i ∧ v = Value.int i t) ∨ (∃ x t, k = Sum.inr x ∧ v = Value.str x t)
  | .inl i, v, h => by
    obtain ⟨t, e⟩ := Value.isInt_shape (k := i) (v := v) h
    exact .inl ⟨i, t, rfl, e⟩
  | .inr x, v, h => by
    obtain ⟨t, e⟩ := Value.isStrOf_shape (x := x) (v := v) h
    exact .inr ⟨x, t, rfl, e⟩
theorem key_ll (a b : Int) : decide ((Sum.inl a : Key) = Sum.inl b) = (a == b) := by
  by_cases e : a = b
  · subst e; simp
  · have h : ¬ (Sum.inl a : Key) = Sum.inl b := fun q => e (Sum.inl.inj q)
    rw [decide_eq_false h]
    exact (beq_eq_false_iff_ne.mpr e).symm
theorem key_rr (a b : Str) : decide ((Sum.inr a : Key) = Sum.inr b) = decide (a = b) := by
  by_cases e : a = b
  · subst e; simp
  · have h : ¬ (Sum.inr a : Key) = Sum.inr b := fun q => e (Sum.inr.inj q)
    rw [decide_eq_false h, decide_eq_false e]
theorem key_lr (a : Int) (b : Str) : decide ((Sum.inl a : Key) = Sum.inr b) = false := decide_eq_false (fun q => nomatch q)
theorem key_rl (a : Str) (b : Int) : decide ((Sum.inr a : Key) = Sum.inl b) = false := decide_eq_false (fun q => nomatch q)

def mixKind (prog : Program) (w : World) : PySem.KeyKind prog w Key where
  is := keyIs
  hash := keyH w
  inj := fun v a b ha hb => by
    rcases keyIs_shape ha with ⟨i, t, rfl, rfl⟩ | ⟨x, t, rfl, rfl⟩
    · rcases keyIs_shape hb with ⟨j, u, rfl, e⟩ | ⟨y, u, rfl, e⟩
      · injection e with e1 _; rw [e1]
      · exact nomatch e
    · rcases keyIs_shape hb with ⟨j, u, rfl, e⟩ | ⟨y, u, rfl, e⟩
      · exact nomatch e
      · injection e with e1 _; rw [e1]
  byValue := fun k v h => by
    rcases keyIs_shape h with ⟨i, t, rfl, rfl⟩ | ⟨x, t, rfl, rfl⟩ <;> rfl
  pyHash := fun hv h => by
    rcases keyIs_shape hv with ⟨i, t, rfl, rfl⟩ | ⟨x, t, rfl, rfl⟩
    · exact wpAny_pyHash_int h
    · exact wpAny_pyHash_str h
  eqBool := fun hu hv h => by
    rcases keyIs_shape hu with ⟨i, t, rfl, rfl⟩ | ⟨x, t, rfl, rfl⟩
    · rcases keyIs_shape hv with ⟨j, u, rfl, rfl⟩ | ⟨y, u, rfl, rfl⟩
      · rw [key_ll] at h; exact wpAny_eqBool_int h
      · rw [key_lr] at h; exact SeqAt.EqAt.int_str i t y u _ _ _ _ h
    · rcases keyIs_shape hv with ⟨j, u, rfl, rfl⟩ | ⟨y, u, rfl, rfl⟩
      · rw [key_rl] at h; exact SeqAt.EqAt.str_int x t j u _ _ _ _ h
      · rw [key_rr] at h; exact wpAny_eqBool_str h
  «strs» := fun k x t v h => by
    rcases keyIs_shape h with ⟨i, u, rfl, e⟩ | ⟨y, u, rfl, e⟩
    · exact nomatch e
    · injection e with e1 _
      subst e1
      cases v <;> rfl

end L2

namespace L2
open PySem PySem.Spec PyProof.Rows

/-- a value, without the heap -/
inductive V where
  | non | bl (b : Bool) | int (i : Int) | str (x : Str) | byt (b : Array UInt8) | flt (b : UInt64) | ref (a : Addr) | ty (n : String)
  deriving DecidableEq

def RelV : V → Value → Prop
  | .non, u => u = Value.none
  | .bl b, u => u = Value.bool b
  | .int i, u => ∃ t, u = Value.int i t
  | .str x, u => ∃ t, u = Value.str x t
  | .byt b, u => ∃ t, u = Value.bytes b t
  | .flt b, u => ∃ t, u = Value.float b t
  | .ref a, u => u = Value.ref a
  | .ty n, u => u = Value.type n

abbrev Vals : List V → List Value → Prop := Paired RelV
theorem Vals.length {xs : List V} {us : List Value} (r : Vals xs us) : xs.length = us.length := Paired.length r
theorem Vals.get : ∀ {xs : List V} {us : List Value} {i : Nat} {x : V}, Vals xs us → xs[i]? = some x → ∃ u, us[i]? = some u ∧ RelV x u
  | _, _, _, _, .nil, e => by simp at e
  | _, _, 0, _, .cons r _, e => by simp at e; subst e; exact ⟨_, rfl, r⟩
  | _, _, i + 1, x, .cons _ t, e => by
    obtain ⟨u, h1, h2⟩ := Vals.get (i := i) (x := x) t (by simpa using e)
    exact ⟨u, by simpa using h1, h2⟩
theorem Vals.set {x : V} {u : Value} (r : RelV x u) : ∀ {xs : List V} {us : List Value} (i : Nat), Vals xs us → Vals (xs.set i x) (us.set i u)
  | _, _, _, .nil => .nil
  | _, _, 0, .cons _ t => .cons r t
  | _, _, i + 1, .cons q t => .cons q (Vals.set r i t)
theorem Vals.append : ∀ {xs ys : List V} {us ws : List Value}, Vals xs us → Vals ys ws → Vals (xs ++ ys) (us ++ ws)
  | _, _, _, _, .nil, s => s
  | _, _, _, _, .cons r t, s => .cons r (Vals.append t s)
theorem Vals.take : ∀ {xs : List V} {us : List Value} (n : Nat), Vals xs us → Vals (xs.take n) (us.take n)
  | _, _, 0, _ => .nil
  | _, _, _ + 1, .nil => .nil
  | _, _, n + 1, .cons r t => .cons r (Vals.take n t)
theorem Vals.drop : ∀ {xs : List V} {us : List Value} (n : Nat), Vals xs us → Vals (xs.drop n) (us.drop n)
  | _, _, 0, r => r
  | _, _, _ + 1, .nil => .nil
  | _, _, n + 1, .cons _ t => Vals.drop n t
def RelO : Option V → Option Value → Prop
  | some v, some u => RelV v u
  | none, none => True
  | _, _ => False
def KV {κ : Type} : List (κ × V) → List (κ × Value) → Prop := Paired fun (p : κ × V) (q : κ × Value) => p.1 = q.1 ∧ RelV p.2 q.2

/-- a key of a dict (00_mix): an int or a text -/
def kV : Key → V
  | .inl i => .int i
  | .inr x => .str x

/-- what stands at a tracked address -/
inductive HO where
  /-- a list -/
  | lst (xs : List V)
  /-- a tuple (never changes) -/
  | tup (xs : List V)
  /-- a dict whose keys are ints and texts; one whose keys are tuples of ints and texts (the empty one is both) -/
  | dK (kvs : List (Key × V)) | dT (kvs : List (List Key × V))
  /-- a set of ints: its members, its size -/
  | set (S : Int → Bool) (n : Nat)
  /-- an instance of the class at C, its dict at dx, its attributes -/
  | ins (C dx : Addr) (fs : List (Str × V))
  /-- the dict of the instance at x -/
  | own (x : Addr)
  /-- the dict of an exception -/
  | xd (fs : List (Str × V))
  /-- a bound method, f of x -/
  | met (f x : Addr)
  /-- a range object lo, lo + 1, .. below hi -/
  | rng (lo hi : Int)
  /-- a thing that is known to the object (the script; a dict while a loop walks it): read, never written while it is so -/
  | frz (o : Obj) (u : HO)
  /-- a code object's table -/
  | tbl (ps : Array Value)
  /-- any other thing, by what is true of its one object (a def of one's own: SetO a S n := HO.ext fun h => ..) -/
  | ext (φ : Heap → Prop)

abbrev Hp := Addr → Option HO
def upd (H : Hp) (a : Addr) (o : HO) : Hp := fun b => if b = a then some o else H b
theorem upd_same {H : Hp} {a : Addr} {o : HO} : upd H a o a = some o := by unfold upd; rw [if_pos rfl]
theorem upd_ne {H : Hp} {a b : Addr} {o : HO} (h : b ≠ a) : upd H a o b = H b := by unfold upd; rw [if_neg h]
theorem ne_of_none {H : Hp} {a b : Addr} {o : HO} (h : H a = some o) (h' : H b = none) : a ≠ b := by
  intro e; subst e; rw [h] at h'; cases h'

section
variable (P : Program) (w : World)
def ObjOk (H : Hp) (h : Heap) (a : Addr) : HO → Prop
  | .lst xs => xs.length ≤ sizeLine ∧ ∃ (its : List Value) (n : Nat), Vals xs its ∧ h.get? a = some { cls := .type "list", data := .seq its.toArray n }
  | .tup xs => xs.length ≤ sizeLine ∧ ∃ its : List Value, Vals xs its ∧ IsTup h a its.toArray
  | .dK kvs => kvs.length ≤ sizeLine ∧ (a == sysModules) = false ∧ ∃ vs, KV kvs vs ∧ h.DictOf (mixKind P w) a vs
  | .dT kvs => kvs.length ≤ sizeLine ∧ (a == sysModules) = false ∧ ∃ xs : List (List Key × Addr × Value),
      Paired (fun (p : List Key × V) (q : List Key × Addr × Value) => p.1 = q.1 ∧ H q.2.1 = some (.tup (p.1.map kV)) ∧ RelV p.2 q.2.2) kvs xs ∧
      ∃ o es ep, h.get? a = some o ∧ o.ExactDict ∧ o.data = .dict es ep ∧ es.toList = xs.map (entryOfKey (tupleKind (mixKind P w))) ∧ (xs.map (·.1)).Nodup
  | .set S n => h.SetOf (intKind P w) a S n
  | .ins C dx fs => H dx = some (.own a) ∧ fs.length ≤ 1000 ∧ dx ≠ a ∧ h.get? a = some (PySem.W.instObj C dx) ∧
      ∃ mA, h.Ns1 dx mA ∧ (∀ f, RelO (fs.lookup f) (mA f)) ∧ PySem.Within mA (fs.map (·.1))
  | .own _ => ∃ o, h.get? a = some o
  | .xd fs => ∃ mA, h.Ns1 a mA ∧ ∀ f, RelO (fs.lookup f) (mA f)
  | .rng lo hi => ∃ t u v, h.get? a = some { cls := .type "range", data := .fields #[.int lo t, .int hi u, .int 1 v] }
  | .frz o u => h.get? a = some o ∧ ObjOk H h a u
  | .tbl ps => h.get? a = some { cls := .none, data := .fields ps }
  | .met f x => h.get? a = some (PySem.W.methodObj (.ref f) (.ref x))
  | .ext φ => φ h ∧ (∃ o, h.get? a = some o) ∧ ∀ h1 h2 : Heap, φ h1 → (∀ o, h1.get? a = some o → h2.get? a = some o) → φ h2
/-- the abstract heap is held -/
def HOk (H : Hp) (h : Heap) : Prop := ∀ a o, H a = some o → ObjOk P w H h a o
end

section
variable {P : Program} {w : World} {H H' : Hp} {h h' : Heap} {a : Addr} {o : HO}
theorem ObjOk.lt (x : ObjOk P w H h a o) : a < h.objs.size := by
  cases o with
  | lst xs => obtain ⟨_, _, _, _, e⟩ := x; exact Heap.lt_size e
  | tup xs => obtain ⟨_, _, _, p⟩ := x; exact p.lt
  | dK kvs => obtain ⟨_, _, _, _, o, _, _, e, _⟩ := x; exact Heap.lt_size e
  | dT kvs => obtain ⟨_, _, _, _, o, _, _, e, _⟩ := x; exact Heap.lt_size e
  | set S n => obtain ⟨o, _, _, _, e, _⟩ := x; exact Heap.lt_size e
  | ins C dx fs => obtain ⟨_, _, _, e, _⟩ := x; exact Heap.lt_size e
  | own y => obtain ⟨_, e⟩ := x; exact Heap.lt_size e
  | xd fs => obtain ⟨_, ⟨_, _, _, e, _⟩, _⟩ := x; exact Heap.lt_size e
  | rng lo hi => obtain ⟨_, _, _, e⟩ := x; exact Heap.lt_size e
  | frz ob u => obtain ⟨e, _⟩ := x; exact Heap.lt_size e
  | tbl ps => exact Heap.lt_size (show h.get? a = some _ from x)
  | met f y => exact Heap.lt_size (show h.get? a = some _ from x)
  | ext φ => obtain ⟨_, ⟨_, e⟩, _⟩ := x; exact Heap.lt_size e
theorem Paired.mapP {α β : Type} {F G : α → β → Prop} : ∀ {l₁ : List α} {l₂ : List β}, Paired F l₁ l₂ → (∀ a b, F a b → G a b) → Paired G l₁ l₂
  | _, _, .nil, _ => .nil
  | _, _, .cons r t, f => .cons (f _ _ r) (Paired.mapP t f)
/-- what an object's description leans on: its own object, its own dict, the tuples -/
theorem ObjOk.stay (x : ObjOk P w H h a o) (k : ∀ b u, (b = a ∨ H b = some (.own a)) → h.get? b = some u → h'.get? b = some u)
    (ho : ∀ b, H b = some (.own a) → H' b = some (.own a)) (ht : ∀ b xs, H b = some (.tup xs) → H' b = some (.tup xs)) : ObjOk P w H' h' a o := by
  induction o with
  | lst xs => obtain ⟨z, its, n, r, e⟩ := x; exact ⟨z, its, n, r, k _ _ (.inl rfl) e⟩
  | tup xs => obtain ⟨z, its, r, ob, e, c⟩ := x; exact ⟨z, its, r, ob, k _ _ (.inl rfl) e, c⟩
  | dK kvs => obtain ⟨z, y, vs, r, ob, es, ep, e, c⟩ := x; exact ⟨z, y, vs, r, ob, es, ep, k _ _ (.inl rfl) e, c⟩
  | dT kvs =>
    obtain ⟨z, y, xs, r, ob, es, ep, e, c⟩ := x
    exact ⟨z, y, xs, Paired.mapP r fun p q z => ⟨z.1, ht _ _ z.2.1, z.2.2⟩, ob, es, ep, k _ _ (.inl rfl) e, c⟩
  | set S n => obtain ⟨ob, es, ep, t, e, c⟩ := x; exact ⟨ob, es, ep, t, k _ _ (.inl rfl) e, c⟩
  | ins C dx fs =>
    obtain ⟨d, z, ne, e, mA, ⟨od, es, ep, e2, c⟩, r⟩ := x
    exact ⟨ho _ d, z, ne, k _ _ (.inl rfl) e, mA, ⟨od, es, ep, k _ _ (.inr d) e2, c⟩, r⟩
  | own y => obtain ⟨ob, e⟩ := x; exact ⟨ob, k _ _ (.inl rfl) e⟩
  | xd fs => obtain ⟨mA, ⟨od, es, ep, e, c⟩, r⟩ := x; exact ⟨mA, ⟨od, es, ep, k _ _ (.inl rfl) e, c⟩, r⟩
  | rng lo hi => obtain ⟨t, u, v, e⟩ := x; exact ⟨t, u, v, k _ _ (.inl rfl) e⟩
  | frz ob u ih => obtain ⟨e, q⟩ := x; exact ⟨k _ _ (.inl rfl) e, ih q⟩
  | tbl ps =>
    have e : h.get? a = some { cls := .none, data := .fields ps } := x
    show h'.get? a = some { cls := .none, data := .fields ps }
    exact k a _ (.inl rfl) e
  | met f y =>
    have e : h.get? a = some (PySem.W.methodObj (.ref f) (.ref y)) := x
    show h'.get? a = some (PySem.W.methodObj (.ref f) (.ref y))
    exact k a _ (.inl rfl) e
  | ext φ => obtain ⟨p, ⟨o, e⟩, st⟩ := x; exact ⟨st _ _ p fun o q => k _ _ (.inl rfl) q, ⟨o, k _ _ (.inl rfl) e⟩, st⟩
theorem HOk.lt (x : HOk P w H h) (e : H a = some o) : a < h.objs.size := (x a o e).lt
theorem HOk.fresh (x : HOk P w H h) (e : h.objs.size ≤ a) : H a = none := by
  cases q : H a with
  | none => rfl
  | some u => exact absurd (Nat.lt_of_lt_of_le (x.lt q) e) (Nat.lt_irrefl _)
/-- every object of the heap is kept -/
theorem HOk.kept (x : HOk P w H h) (k : ∀ b u, h.get? b = some u → h'.get? b = some u) : HOk P w H h' := fun a o e =>
  (x a o e).stay (fun b u _ q => k b u q) (fun _ q => q) fun _ _ q => q
/-- a new object is laid and tracked -/
theorem HOk.laid (x : HOk P w H h) (k : ∀ b u, h.get? b = some u → h'.get? b = some u) (hp : h.objs.size ≤ a) (new : ObjOk P w (upd H a o) h' a o) : HOk P w (upd H a o) h' := fun b u e => by
  have hn := x.fresh hp
  by_cases hb : b = a
  · subst hb; rw [upd_same] at e; cases e; exact new
  · rw [upd_ne hb] at e
    exact (x b u e).stay (fun c v _ q => k c v q) (fun c q => by rw [upd_ne (ne_of_none q hn)]; exact q) fun c xs q => by rw [upd_ne (ne_of_none q hn)]; exact q
end

/-- what may be read as u: it is u, or a known u -/
def Rd (H : Hp) (a : Addr) (u : HO) : Prop := H a = some u ∨ ∃ o, H a = some (.frz o u)
theorem Rd.of {H : Hp} {a : Addr} {u : HO} (h : H a = some u) : Rd H a u := .inl h
theorem Rd.ok {P : Program} {w : World} {H : Hp} {h : Heap} {a : Addr} {u : HO} (r : Rd H a u) (x : HOk P w H h) : ObjOk P w H h a u := by
  rcases r with r | ⟨o, r⟩
  · exact x a u r
  · obtain ⟨_, q⟩ := x a _ r
    exact q
/-- what may be written -/
def Mut : Option HO → Prop
  | some (.lst _) => True
  | some (.dK _) => True
  | some (.dT _) => True
  | some (.set _ _) => True
  | some (.ins _ _ _) => True
  | some (.ext _) => True
  | _ => False
section
variable {P : Program} {w : World} {H : Hp} {h h' : Heap} {x e : Addr} {o' : HO}
/-- the object at e is changed: x itself, or the dict of the instance x -/
theorem HOk.write (ok : HOk P w H h) (mu : Mut (H x)) (he : e = x ∨ H e = some (.own x)) (k : ∀ b u, b ≠ e → h.get? b = some u → h'.get? b = some u) (heo : ∃ u, h'.get? e = some u)
    (new : ObjOk P w (upd H x o') h' x o') : HOk P w (upd H x o') h' := fun b u q => by
  have nown : ∀ c y, H c = some (.own y) → c ≠ x := fun c y r z => by subst z; rw [r] at mu; exact mu
  have ntup : ∀ c xs, H c = some (.tup xs) → c ≠ x := fun c xs r z => by subst z; rw [r] at mu; exact mu
  by_cases hb : b = x
  · subst hb; rw [upd_same] at q; cases q; exact new
  · rw [upd_ne hb] at q
    by_cases hbe : b = e
    · have q' : H b = some (.own x) := by
        rcases he with z | z
        · exact absurd (hbe.trans z) hb
        · rw [hbe]; exact z
      rw [q] at q'; cases q'
      obtain ⟨v, hv⟩ := heo
      exact ⟨v, by rw [hbe]; exact hv⟩
    · refine (ok b u q).stay (fun c v hc r => k c v ?_ r) (fun c r => by rw [upd_ne (nown c b r)]; exact r) fun c xs r => by rw [upd_ne (ntup c xs r)]; exact r
      rcases hc with rfl | hc
      · exact hbe
      · rintro rfl
        rcases he with z | z
        · exact nown c b hc z
        · rw [hc] at z; cases z; exact hb rfl
end

/-! ### kept unless tracked; of the frames at fs (the callers') the slots may change (an exception that passes writes there); of the records at ex (iterators) nothing is said -/
structure Un (fs ex : List Addr) (H H' : Hp) (h h' : Heap) : Prop where
  keep : ∀ b o, h.get? b = some o → H b = none → b ∉ fs → b ∉ ex → h'.get? b = some o
  slot : ∀ b o, h.get? b = some o → H b = none → b ∈ fs → b ∉ ex → ∃ sl, h'.get? b = some { o with slots := sl }
  free : ∀ b o, h.get? b = some o → H b = none → b ∉ ex → H' b = none
  there : ∀ b o, h.get? b = some o → b ∉ ex → ∃ o', h'.get? b = some o'
  tups : ∀ b xs, H b = some (.tup xs) → H' b = some (.tup xs)
  frzs : ∀ b o u, H b = some (.frz o u) → H' b = some (.frz o u)
  tbls : ∀ b ps, H b = some (.tbl ps) → ∃ more, H' b = some (.tbl (ps ++ more))
section
variable {fs fs' ex ex' : List Addr} {H H1 H2 : Hp} {h h1 h2 h' : Heap} {a x e : Addr} {o : HO}
theorem Un.any (u : Un fs ex H H1 h h1) {b : Addr} {ob : Obj} (q : h.get? b = some ob) (n : H b = none) (hx : b ∉ ex) : ∃ sl, h1.get? b = some { ob with slots := sl } := by
  by_cases hb : b ∈ fs
  · exact u.slot b ob q n hb hx
  · exact ⟨ob.slots, u.keep b ob q n hb hx⟩
theorem Un.trans (a : Un fs ex H H1 h h1) (b : Un fs ex H1 H2 h1 h2) : Un fs ex H H2 h h2 where
  keep := fun c ob q n hc hx => b.keep c ob (a.keep c ob q n hc hx) (a.free c ob q n hx) hc hx
  slot := fun c ob q n hc hx => by
    obtain ⟨sl, e1⟩ := a.slot c ob q n hc hx
    obtain ⟨sl', e2⟩ := b.slot c _ e1 (a.free c ob q n hx) hc hx
    exact ⟨sl', e2⟩
  free := fun c ob q n hx => by
    obtain ⟨o', e1⟩ := a.there c ob q hx
    exact b.free c o' e1 (a.free c ob q n hx) hx
  there := fun c ob q hx => by
    obtain ⟨o', e1⟩ := a.there c ob q hx
    exact b.there c o' e1 hx
  tups := fun c xs q => b.tups c xs (a.tups c xs q)
  frzs := fun c ob xs q => b.frzs c ob xs (a.frzs c ob xs q)
  tbls := fun c ps q => by
    obtain ⟨m1, e1⟩ := a.tbls c ps q
    obtain ⟨m2, e2⟩ := b.tbls c _ e1
    exact ⟨m1 ++ m2, by rw [e2, Array.append_assoc]⟩
theorem Un.kept (k : ∀ b u, h.get? b = some u → h'.get? b = some u) : Un fs ex H H h h' :=
  ⟨fun b ob q _ _ _ => k b ob q, fun b ob q _ _ _ => ⟨ob.slots, k b ob q⟩, fun _ _ _ n _ => n, fun b ob q _ => ⟨ob, k b ob q⟩, fun _ _ q => q, fun _ _ _ q => q, fun _ ps q => ⟨#[], by rw [q]; simp⟩⟩
theorem Un.refl : Un fs ex H H h h := Un.kept fun _ _ q => q
theorem Un.laid (k : ∀ b u, h.get? b = some u → h'.get? b = some u) (hp : h.objs.size ≤ a) (hn : H a = none) : Un fs ex H (upd H a o) h h' where
  keep := fun b u q _ _ _ => k b u q
  slot := fun b u q _ _ _ => ⟨u.slots, k b u q⟩
  free := fun b u q n _ => by rw [upd_ne (Nat.ne_of_lt (Nat.lt_of_lt_of_le (Heap.lt_size q) hp))]; exact n
  there := fun b u q _ => ⟨u, k b u q⟩
  tups := fun b xs q => by rw [upd_ne (ne_of_none q hn)]; exact q
  frzs := fun b u xs q => by rw [upd_ne (ne_of_none q hn)]; exact q
  tbls := fun b ps q => ⟨#[], by rw [upd_ne (ne_of_none q hn), q]; simp⟩
theorem Un.write (mu : Mut (H x)) (he : e = x ∨ H e = some (.own x)) (k : ∀ b u, b ≠ e → h.get? b = some u → h'.get? b = some u) (heo : ∃ u, h'.get? e = some u) : Un fs ex H (upd H x o) h h' := by
  have hx : ∀ b, H b = none → b ≠ x := fun b n z => by subst z; rw [n] at mu; exact mu
  have hb : ∀ b, H b = none → b ≠ e := fun b n z => by
    subst z
    rcases he with r | r
    · exact hx b n r
    · rw [n] at r; cases r
  have hm : ∀ b u, H b = some u → ¬ Mut (some u) → b ≠ x := fun b u q nm z => by subst z; rw [q] at mu; exact nm mu
  refine ⟨fun b u q n _ _ => k b u (hb b n) q, fun b u q n _ _ => ⟨u.slots, k b u (hb b n) q⟩, fun b u q n _ => by rw [upd_ne (hx b n)]; exact n, fun b u q _ => ?_,
    fun b xs q => by rw [upd_ne (hm b _ q fun z => z)]; exact q, fun b u xs q => by rw [upd_ne (hm b _ q fun z => z)]; exact q, fun b ps q => ⟨#[], by rw [upd_ne (hm b _ q fun z => z), q]; simp⟩⟩
  by_cases hbe : b = e
  · subst hbe; exact heo
  · exact ⟨u, k b u hbe q⟩
theorem Un.mono (u : Un fs ex H H1 h h1) (hs : ∀ b ∈ fs, b ∈ fs') (hx : ∀ b ∈ ex, b ∈ ex') : Un fs' ex' H H1 h h1 :=
  ⟨fun b ob q n hb he => u.keep b ob q n (fun z => hb (hs b z)) fun z => he (hx b z), fun _ _ q n _ he => u.any q n fun z => he (hx _ z), fun b ob q n he => u.free b ob q n fun z => he (hx b z), fun b ob q he => u.there b ob q fun z => he (hx b z), u.tups, u.frzs, u.tbls⟩
end

/-! ### the heap without what is tracked -/
def trk (h : Heap) (H : Hp) : List Addr := (List.range h.objs.size).filter fun a => (H a).isSome
def hidT (h : Heap) (H : Hp) : Heap := PySem.W.hideAll h (trk h H)
theorem hidT_size (h : Heap) (H : Hp) : (hidT h H).objs.size = h.objs.size := PySem.W.hideAll_size _ _
theorem hidT_get {h : Heap} {H : Hp} {b : Addr} {o : Obj} (e : h.get? b = some o) (n : H b = none) : (hidT h H).get? b = some o :=
  PySem.W.hideAll_get _ e fun hm => by
    have q : (H b).isSome = true := (List.mem_filter.mp hm).2
    rw [n] at q; simp at q
theorem of_hidT {h : Heap} {H : Hp} {b : Addr} {o : Obj} (e : (hidT h H).get? b = some o) : h.get? b = some o ∧ H b = none := by
  have e' : h.get? b = some o := PySem.W.of_hideAll (trk h H) e
  refine ⟨e', ?_⟩
  cases q : H b with
  | none => rfl
  | some x =>
    have hm : b ∈ trk h H := List.mem_filter.mpr ⟨List.mem_range.mpr (Heap.lt_size e'), by simp [q]⟩
    have z : (hidT h H).get? b = none := PySem.W.hideAll_none (trk h H) hm
    rw [z] at e; cases e

/-! ### OpenK's ledger, filled with every new object but one -/
def allNews (g h : Heap) (L : Addr) : List (Addr × Obj) := (List.range h.objs.size).filterMap fun a => if a = L ∨ (g.get? a).isSome = true then none else (h.get? a).map fun o => (a, o)
def rest (g h : Heap) (L d : Addr) : List (Addr × Obj) := (allNews g h L).filter fun p => decide (p.1 ≠ d)
end L2

namespace L2
open PySem PySem.Spec PyProof.Rows

/-- the module's facts, over the base: the heap at the law's entry without what is tracked there -/
structure Mod (K : PySem.W.Frag) (mg : Str → Option Value) (base : Heap) : Prop where
  kin : K.In base
  glob : base.Ns mainGlobals mg
  blt : ∃ mb, base.Ns builtinsNs mb ∧ ∀ x : Str, x ≠ "__name__" → mb x = bootBuiltins x
  nolimit : base.NoLimit

/-- the context: a def's body (or a comprehension's block) running. base: fixed through the whole law; s₀, H₀: the entry; outer: the frames whose slots others may change (a def's callers); stack: all frames that run;
   ex: iterators that were made ahead of the entry and are walked here (a comprehension's); fn: the names whose cells were made at the entry (a def: all; a comprehension's block: its own); calm: not within an except suite; pn: pins that every state bears; xe: what is wanted of an exception that leaves the code -/
structure Cx where
  prog : Program
  w : World
  K : PySem.W.Frag
  mg : Str → Option Value
  base : Heap
  A : Around
  N : List Str
  s₀ : Shared
  H₀ : Hp
  env : Env
  outer : List Env
  stack : List Env
  ex : List Addr
  fn : Str → Bool
  calm : Bool
  pn : List (Addr × Obj)
  xe : Value → Shared → Prop
/-- the callers' frames -/
def frs (l : List Env) : List Addr := l.filterMap (·.frame)
abbrev Cx.fs (X : Cx) : List Addr := frs X.outer

def Vis (sc : Scope) (x : Str) : Prop := sc.names.lookup x = some .local ∨ sc.names.lookup x = some .cell ∨ sc.names.lookup x = some .free
def Loc (sc : Scope) (x : Str) : Prop := sc.names.lookup x = some .local ∨ sc.names.lookup x = some .cell
def Look (env : Env) (h : Heap) (m : Str → Option Value) (x : Str) (u : Value) : Prop :=
  (env.kindOf x = some .local ∧ m x = some u) ∨ ((env.kindOf x = some .cell ∨ env.kindOf x = some .free) ∧ ∃ c, env.cells.lookup x = some c ∧ h.IsCell c (some u))

structure Cx.Ok (X : Cx) : Prop where
  mod : Mod X.K X.mg X.base
  kind : X.env.scope.kind = .function
  glob : X.env.globals = mainGlobals
  blt : X.env.builtins = builtinsNs
  above : X.s₀.heap.objs.size ≤ X.env.locals
  inj : ∀ x y c, X.env.cells.lookup x = some c → X.env.cells.lookup y = some c → x = y
  has : ∀ x, (X.env.kindOf x = some .cell ∨ X.env.kindOf x = some .free) → ∃ c, X.env.cells.lookup x = some c
  cab : ∀ x c, X.fn x = true → X.env.cells.lookup x = some c → X.s₀.heap.objs.size ≤ c
  hd : X.calm = true → X.A.handled = none
  frames : X.A.frames = some X.stack
  stk : X.stack = X.outer ∨ (X.stack = X.env :: X.outer ∧ X.env.frame = some X.env.locals)
  exf : ∀ b ∈ X.ex, b ≠ X.env.locals ∧ ∀ x c, X.env.cells.lookup x = some c → c ≠ b
  bs : ∀ b o, X.base.get? b = some o → X.s₀.heap.get? b = some o ∧ X.H₀ b = none
  bsz : X.base.objs.size ≤ X.s₀.heap.objs.size
  noex : ∀ b o, X.base.get? b = some o → b ∉ X.ex
  exfs : ∀ b ∈ X.ex, b ∉ X.fs
  funs : X.s₀.heap.FunFrames X.base X.outer
  frf : ∀ b ∈ X.fs, X.H₀ b = none

structure Inv (X : Cx) (pins : List (Addr × Obj)) (σ : List (Option V)) (H : Hp) (s : Shared) : Prop where
  ok : X.Ok
  os : s.os = X.s₀.os
  bare : AllBare s.gens
  base : Un X.fs X.ex X.H₀ H X.s₀.heap s.heap
  loc : ∃ m, s.heap.Ns X.env.locals m ∧ ∀ (i : Nat) (x : Str) (v : V), X.N[i]? = some x → σ[i]? = some (some v) → Vis X.env.scope x → ∃ u, RelV v u ∧ Look X.env s.heap m x u
  cell : ∀ x c, X.env.cells.lookup x = some c → ∃ v, s.heap.IsCell c v
  free : H X.env.locals = none
  freeC : ∀ x c, X.env.cells.lookup x = some c → H c = none
  pin : ∀ p ∈ X.pn ++ pins, s.heap.get? p.1 = some p.2 ∧ H p.1 = none ∧ p.1 ≠ X.env.locals ∧ p.1 ∉ X.fs ∧ ∀ v, p.2.data ≠ .cell v
  hok : HOk X.prog X.w H s.heap
  len : σ.length = X.N.length

section
variable {X : Cx} {pins : List (Addr × Obj)} {σ : List (Option V)} {H H' : Hp} {s : Shared} {h' : Heap}

theorem Cx.Ok.nofr (ok : X.Ok) {b : Addr} {o : Obj} (e : X.base.get? b = some o) : b ∉ X.fs := fun hb => by
  have := (ok.funs.mem hb).1
  rw [e] at this; cases this
theorem Inv.bs (I : Inv X pins σ H s) : ∀ b o, X.base.get? b = some o → s.heap.get? b = some o ∧ H b = none := fun b o e =>
  ⟨I.base.keep b o (I.ok.bs b o e).1 (I.ok.bs b o e).2 (I.ok.nofr e) (I.ok.noex b o e), I.base.free b o (I.ok.bs b o e).1 (I.ok.bs b o e).2 (I.ok.noex b o e)⟩
theorem Inv.bk (I : Inv X pins σ H s) : ∀ b o, X.base.get? b = some o → s.heap.get? b = some o := fun b o e => (I.bs b o e).1
theorem Inv.mod (I : Inv X pins σ H s) : Mod X.K X.mg X.base := I.ok.mod
theorem Inv.kIn (I : Inv X pins σ H s) : X.K.In s.heap := I.ok.mod.kin.keeps I.bk
theorem Inv.nolimit (I : Inv X pins σ H s) : s.heap.NoLimit := I.ok.mod.nolimit.keeps I.bk
/-- the frame over the base: for OpenK's rules (K.In X.base is I.mod.kin) -/
theorem Inv.fr (I : Inv X pins σ H s) : ∃ m, Fr X.base X.env.locals s.heap m :=
  let ⟨m, hn, _⟩ := I.loc
  ⟨m, hn, I.bk, Nat.le_trans I.ok.bsz I.ok.above⟩
theorem Inv.lt (I : Inv X pins σ H s) : X.env.locals < s.heap.objs.size := let ⟨_, hn, _⟩ := I.loc; hn.lt
theorem Inv.sz (I : Inv X pins σ H s) : X.s₀.heap.objs.size ≤ s.heap.objs.size := Nat.le_trans I.ok.above (Nat.le_of_lt I.lt)
theorem Inv.nofs (I : Inv X pins σ H s) {a : Addr} (h : s.heap.objs.size ≤ a) : a ∉ X.fs := fun hb => by
  obtain ⟨_, o, ho, _⟩ := I.ok.funs.mem hb
  exact absurd (Nat.lt_of_lt_of_le (Heap.lt_size ho) (Nat.le_trans I.sz h)) (Nat.lt_irrefl _)
theorem Inv.cne (I : Inv X pins σ H s) : ∀ x c, X.env.cells.lookup x = some c → c ≠ X.env.locals := fun x c e z => by
  obtain ⟨v, o, ho, hd⟩ := I.cell x c e
  obtain ⟨m, ⟨o', es, ep, ho', hd', _⟩, _⟩ := I.loc
  rw [z, ho'] at ho; cases ho; rw [hd'] at hd; cases hd
theorem Inv.funs (I : Inv X pins σ H s) : s.heap.FunFrames X.base X.outer := by
  have all : ∀ (l : List Env), (∀ b ∈ frs l, b ∈ X.fs) → X.s₀.heap.FunFrames X.base l → s.heap.FunFrames X.base l := by
    intro l
    induction l with
    | nil => intro _ _; trivial
    | cons env r ih =>
      intro hs hl
      obtain ⟨hk, ⟨L, o, hf, hn, ho, hd⟩, hr⟩ := hl
      have hL : L ∈ X.fs := hs L (by unfold frs; rw [List.filterMap_cons, hf]; exact List.mem_cons_self)
      obtain ⟨sl, e⟩ := I.base.slot L o ho (I.ok.frf L hL) hL fun z => I.ok.exfs L z hL
      exact ⟨hk, ⟨L, _, hf, hn, e, hd⟩, ih (fun b hb => hs b (by unfold frs; rw [List.filterMap_cons, hf]; exact List.mem_cons_of_mem _ hb)) hr⟩
  exact all X.outer (fun _ hb => hb) I.ok.funs

/-- the frames that run, for a call -/
theorem Inv.stack (I : Inv X pins σ H s) : s.heap.FunFrames X.base X.stack := by
  rcases I.ok.stk with e | ⟨e, hf⟩
  · rw [e]; exact I.funs
  · rw [e]
    obtain ⟨m, hn, _⟩ := I.loc
    refine .cons (by rw [I.ok.kind]; decide) hf hn ?_ I.funs
    exact Heap.get?_none_of_le (Nat.le_trans I.ok.bsz I.ok.above)
theorem Inv.stkSub (I : Inv X pins σ H s) : ∀ b ∈ frs X.stack, b ∈ X.env.locals :: X.fs := fun b hb => by
  rcases I.ok.stk with e | ⟨e, hf⟩
  · rw [e] at hb; exact List.mem_cons_of_mem _ hb
  · rw [e] at hb
    unfold frs at hb
    rw [List.filterMap_cons, hf] at hb
    exact hb
theorem Inv.stkFree (I : Inv X pins σ H s) : ∀ b ∈ frs X.stack, H b = none := fun b hb => by
  rcases List.mem_cons.mp (I.stkSub b hb) with e | hb
  · rw [e]; exact I.free
  · obtain ⟨_, o, ho, _⟩ := I.ok.funs.mem hb
    exact I.base.free b o ho (I.ok.frf b hb) fun z => I.ok.exfs b z hb

/-- THE STEP: the untracked objects but the frame and the records at ch are kept (the callers' frames up to slots), the frame's map is kept, the new abstract heap is held -/
theorem Inv.step {g' : Array GenState} {t' : Nat} {d' : Drawn} {ch : List Addr} (I : Inv X pins σ H s)
    (hch : ∀ b ∈ ch, (b ∈ X.ex ∨ X.s₀.heap.objs.size ≤ b) ∧ b ≠ X.env.locals ∧ (∀ x c, X.env.cells.lookup x = some c → c ≠ b) ∧ ∀ p ∈ X.pn ++ pins, p.1 ≠ b)
    (keep : ∀ b o, b ≠ X.env.locals → b ∉ X.fs → b ∉ ch → s.heap.get? b = some o → H b = none → h'.get? b = some o)
    (slot : ∀ b o, b ≠ X.env.locals → b ∈ X.fs → b ∉ ch → s.heap.get? b = some o → H b = none → ∃ sl, h'.get? b = some { o with slots := sl }) (free : ∀ b o, b ∉ ch → s.heap.get? b = some o → H b = none → H' b = none)
    (there : ∀ b o, b ∉ ch → s.heap.get? b = some o → ∃ o', h'.get? b = some o')
    (tups : ∀ b xs, H b = some (.tup xs) → H' b = some (.tup xs)) (frzs : ∀ b o u, H b = some (.frz o u) → H' b = some (.frz o u)) (tbls : ∀ b ps, H b = some (.tbl ps) → ∃ more, H' b = some (.tbl (ps ++ more)))
    (ns : ∀ m, s.heap.Ns X.env.locals m → h'.Ns X.env.locals m) (hok : HOk X.prog X.w H' h') (hg : AllBare g') :
    Inv X pins σ H' { s with heap := h', gens := g', drawn := d', toks := t' } := by
  have neL : ∀ b o, X.s₀.heap.get? b = some o → b ≠ X.env.locals := fun b o e => Nat.ne_of_lt (Nat.lt_of_lt_of_le (Heap.lt_size e) I.ok.above)
  have neC : ∀ b o, X.s₀.heap.get? b = some o → b ∉ X.ex → b ∉ ch := fun b o e hx hb => by
    rcases (hch b hb).1 with z | z
    · exact hx z
    · exact absurd (Nat.lt_of_lt_of_le (Heap.lt_size e) z) (Nat.lt_irrefl _)
  have cellK : ∀ x c, X.env.cells.lookup x = some c → ∀ v, s.heap.IsCell c v → h'.IsCell c v := fun x c e v hw' => by
    obtain ⟨o, ho, hd⟩ := hw'
    have nch : c ∉ ch := fun z => (hch c z).2.2.1 x c e rfl
    by_cases hc : c ∈ X.fs
    · obtain ⟨sl, q⟩ := slot c o (I.cne x c e) hc nch ho (I.freeC x c e)
      exact ⟨_, q, hd⟩
    · exact ⟨o, keep c o (I.cne x c e) hc nch ho (I.freeC x c e), hd⟩
  refine ⟨I.ok, I.os, hg, ⟨fun b o e n hb hx => ?_, fun b o e n hb hx => ?_, fun b o e n hx => ?_, fun b o e hx => ?_, fun b xs e => tups b xs (I.base.tups b xs e), fun b o xs e => frzs b o xs (I.base.frzs b o xs e), fun b ps e => ?_⟩, ?_, fun x c e => ?_, ?_, fun x c e => ?_, fun p hp => ?_, hok, I.len⟩
  · exact keep b o (neL b o e) hb (neC b o e hx) (I.base.keep b o e n hb hx) (I.base.free b o e n hx)
  · obtain ⟨sl, e1⟩ := I.base.slot b o e n hb hx
    obtain ⟨sl', e2⟩ := slot b _ (neL b o e) hb (neC b o e hx) e1 (I.base.free b o e n hx)
    exact ⟨sl', e2⟩
  · obtain ⟨o', e1⟩ := I.base.there b o e hx
    exact free b o' (neC b o e hx) e1 (I.base.free b o e n hx)
  · obtain ⟨o', e1⟩ := I.base.there b o e hx
    exact there b o' (neC b o e hx) e1
  · obtain ⟨m1, e1⟩ := I.base.tbls b ps e
    obtain ⟨m2, e2⟩ := tbls b _ e1
    exact ⟨m1 ++ m2, by rw [e2, Array.append_assoc]⟩
  · obtain ⟨m, hn, hl⟩ := I.loc
    refine ⟨m, ns m hn, fun i x v e1 e2 e3 => ?_⟩
    obtain ⟨u, r, l⟩ := hl i x v e1 e2 e3
    refine ⟨u, r, ?_⟩
    rcases l with l | ⟨k, c, e, z⟩
    · exact .inl l
    · exact .inr ⟨k, c, e, cellK x c e _ z⟩
  · obtain ⟨v, z⟩ := I.cell x c e
    exact ⟨v, cellK x c e v z⟩
  · obtain ⟨m, ⟨o, _, _, ho, _⟩, _⟩ := I.loc
    exact free _ o (fun z => (hch _ z).2.1 rfl) ho I.free
  · obtain ⟨v, o, ho, hd⟩ := I.cell x c e
    exact free c o (fun z => (hch c z).2.2.1 x c e rfl) ho (I.freeC x c e)
  · obtain ⟨e, n, ne, nf, d⟩ := I.pin p hp
    have nch : p.1 ∉ ch := fun z => (hch p.1 z).2.2.2 p hp rfl
    exact ⟨keep p.1 p.2 ne nf nch e n, free p.1 p.2 nch e n, ne, nf, d⟩
/-- .. where the frame's own object is kept too -/
theorem Inv.un {t' : Nat} (I : Inv X pins σ H s) (u : Un X.fs [] H H' s.heap h') (hok : HOk X.prog X.w H' h') : Inv X pins σ H' { s with heap := h', toks := t' } := by
  obtain ⟨m, ⟨o, es, ep, ho, r⟩, _⟩ := id I.loc
  obtain ⟨sl, hL⟩ := u.any ho I.free (by simp)
  exact I.step (g' := s.gens) (d' := s.drawn) (ch := []) (fun _ z => nomatch z) (fun b o _ hb _ e n => u.keep b o e n hb (by simp)) (fun b o _ hb _ e n => u.slot b o e n hb (by simp)) (fun b o _ e n => u.free b o e n (by simp)) (fun b o _ e => u.there b o e (by simp)) u.tups u.frzs u.tbls (fun m' hm => by
    obtain ⟨o', es', ep', ho', r'⟩ := hm
    rw [ho] at ho'; cases ho'
    exact ⟨_, es', ep', hL, r'⟩) hok I.bare
/-- behind a call (or a comprehension's block): the slots of this frame may have changed too, the records at ch may have turned -/
theorem Inv.call {g' : Array GenState} {t' : Nat} {d' : Drawn} {ch : List Addr} (I : Inv X pins σ H s) (u : Un (frs X.stack) ch H H' s.heap h') (hok : HOk X.prog X.w H' h') (hg : AllBare g')
    (hch : ∀ b ∈ ch, (b ∈ X.ex ∨ X.s₀.heap.objs.size ≤ b) ∧ b ≠ X.env.locals ∧ (∀ x c, X.env.cells.lookup x = some c → c ≠ b) ∧ ∀ p ∈ X.pn ++ pins, p.1 ≠ b) :
    Inv X pins σ H' { s with heap := h', gens := g', drawn := d', toks := t' } := by
  obtain ⟨m, ⟨o, es, ep, ho, r⟩, _⟩ := id I.loc
  obtain ⟨sl, hL⟩ := u.any ho I.free fun z => (hch _ z).2.1 rfl
  exact I.step (ch := ch) hch (fun b o hL hb hc e n => u.keep b o e n (fun z => (List.mem_cons.mp (I.stkSub b z)).elim hL hb) hc) (fun b o _ _ hc e n => u.any e n hc) (fun b o hc e n => u.free b o e n hc) (fun b o hc e => u.there b o e hc) u.tups u.frzs u.tbls (fun m' hm => by
    obtain ⟨o', es', ep', ho', r'⟩ := hm
    rw [ho] at ho'; cases ho'
    exact ⟨_, es', ep', hL, r'⟩) hok hg
/-- an untracked record of ours (an iterator) has turned -/
theorem Inv.turned {t' : Nat} {it : Addr} (I : Inv X pins σ H s) (k : ∀ b o, b ≠ it → s.heap.get? b = some o → h'.get? b = some o) (hn : H it = none) (hL : it ≠ X.env.locals)
    (h1 : it ∈ X.ex ∨ X.s₀.heap.objs.size ≤ it) (h2 : ∀ x c, X.env.cells.lookup x = some c → c ≠ it) (h3 : ∀ p ∈ X.pn ++ pins, p.1 ≠ it) : Inv X pins σ H { s with heap := h', toks := t' } := by
  have nit : ∀ b u, H b = some u → b ≠ it := fun b u e z => by rw [z, hn] at e; cases e
  refine I.step (g' := s.gens) (d' := s.drawn) (ch := [it]) (fun b hb => ?_) (fun b o _ _ hc e _ => k b o (fun z => hc (by simp [z])) e) (fun b o _ _ hc e _ => ⟨o.slots, k b o (fun z => hc (by simp [z])) e⟩) (fun _ _ _ _ n => n)
    (fun b o hc e => ⟨o, k b o (fun z => hc (by simp [z])) e⟩) (fun _ _ e => e) (fun _ _ _ e => e) (fun b ps e => ⟨#[], by rw [e]; simp⟩) (fun m hm => ?_) (fun b u e => ?_) I.bare
  · have e : b = it := by simpa using hb
    subst e
    exact ⟨h1, hL, h2, h3⟩
  · obtain ⟨o, es, ep, ho, r⟩ := hm
    exact ⟨o, es, ep, k _ o (Ne.symm hL) ho, r⟩
  · refine (I.hok b u e).stay (fun c v hc q => k c v ?_ q) (fun _ q => q) fun _ _ q => q
    rcases hc with z | z
    · rw [z]; exact nit b u e
    · exact nit c _ z
theorem Inv.tok (I : Inv X pins σ H s) (t : Nat) : Inv X pins σ H { s with toks := t } := I.un (h' := s.heap) (t' := t) Un.refl I.hok
/-- all objects kept -/
theorem Inv.kept {t' : Nat} (I : Inv X pins σ H s) (k : ∀ b u, s.heap.get? b = some u → h'.get? b = some u) : Inv X pins σ H { s with heap := h', toks := t' } := I.un (Un.kept k) (I.hok.kept k)
/-- a new object laid and tracked -/
theorem Inv.laid {a : Addr} {o : HO} {t' : Nat} (I : Inv X pins σ H s) (k : ∀ b u, s.heap.get? b = some u → h'.get? b = some u) (hp : s.heap.objs.size ≤ a) (new : ObjOk X.prog X.w (upd H a o) h' a o) :
    Inv X pins σ (upd H a o) { s with heap := h', toks := t' } := I.un (Un.laid k hp (I.hok.fresh hp)) (I.hok.laid k hp new)
/-- an object written -/
theorem Inv.write {x e : Addr} {o : HO} {t' : Nat} (I : Inv X pins σ H s) (mu : Mut (H x)) (he : e = x ∨ H e = some (.own x)) (k : ∀ b u, b ≠ e → s.heap.get? b = some u → h'.get? b = some u) (heo : ∃ u, h'.get? e = some u)
    (new : ObjOk X.prog X.w (upd H x o) h' x o) : Inv X pins σ (upd H x o) { s with heap := h', toks := t' } := I.un (Un.write mu he k heo) (I.hok.write mu he k heo new)
theorem Inv.pins_of {pins' : List (Addr × Obj)} (I : Inv X pins σ H s) (h : ∀ p ∈ pins', s.heap.get? p.1 = some p.2 ∧ H p.1 = none ∧ p.1 ≠ X.env.locals ∧ p.1 ∉ X.fs ∧ ∀ v, p.2.data ≠ .cell v) : Inv X pins' σ H s :=
  ⟨I.ok, I.os, I.bare, I.base, I.loc, I.cell, I.free, I.freeC, fun p hp => (List.mem_append.mp hp).elim (fun z => I.pin p (List.mem_append_left _ z)) (h p), I.hok, I.len⟩

theorem nodup_ix {N : List Str} (hN : N.Nodup) {i j : Nat} {x : Str} (a : N[i]? = some x) (b : N[j]? = some x) : i = j := by
  obtain ⟨h1, e1⟩ := List.getElem?_eq_some_iff.mp a
  obtain ⟨h2, e2⟩ := List.getElem?_eq_some_iff.mp b
  exact (List.getElem_inj hN).mp (e1.trans e2.symm)

/-- a name is stored; what changed -/
theorem store_ok2 {M : Model} {A : Around} {E : Value → Shared → Prop} {i : Nat} {x : Str} {v : V} {u : Value} {Q : Unit → Shared → Prop} (I : Inv X pins σ H s) (hN : X.N.Nodup) (hi : X.N[i]? = some x) (hx : Loc X.env.scope x) (r : RelV v u)
    (h : ∀ s', Inv X pins (σ.set i (some v)) H s' → (∃ a, Heap.SameBut a s.heap s'.heap ∧ (a = X.env.locals ∨ X.env.cells.lookup x = some a)) → Q () s') (hf : X.fn x = true ∨ X.env.scope.names.lookup x = some .local := by first | exact .inl rfl | exact .inr rfl | assumption) : wpAny M A (storeName X.env x u) Q E s := by
  obtain ⟨m, hn, hl⟩ := id I.loc
  have hcls : (X.env.scope.kind == .class || (X.env.scope.kind == .module && X.env.locals != X.env.globals)) = false := by rw [I.ok.kind]; rfl
  have hiσ : i < σ.length := by rw [I.len]; exact (List.getElem?_eq_some_iff.mp hi).1
  have cne := I.cne
  have tracked : ∀ {a : Addr} {h' : Heap}, (∃ o, s.heap.get? a = some o ∧ H a = none) → Heap.SameBut a s.heap h' → HOk X.prog X.w H h' := fun {a h'} ha hs b ob e => by
    obtain ⟨_, _, hfree⟩ := ha
    refine (I.hok b ob e).stay (fun c w' hc q => (hs.2 c ?_).trans q) (fun _ q => q) fun _ _ q => q
    rintro rfl
    rcases hc with rfl | hc
    · rw [hfree] at e; cases e
    · rw [hfree] at hc; cases hc
  rcases hx with hk | hk
  · refine wpAny_storeName_local hk hn (fun h' hn' hs => ?_) hcls
    obtain ⟨oL, _, _, hoL, _⟩ := id hn
    refine h _ ⟨I.ok, I.os, I.bare, ⟨fun b o e n hb hx => ?_, fun b o e n hb hx => ?_, I.base.free, fun b o e hx => ?_, I.base.tups, I.base.frzs, I.base.tbls⟩, ⟨_, hn', fun j y v' e1 e2 e3 => ?_⟩, fun y c e => ?_, I.free, I.freeC, fun p hp => ?_, tracked ⟨oL, hoL, I.free⟩ hs, by simpa using I.len⟩ ⟨_, hs, .inl rfl⟩
    · exact (hs.2 b (Nat.ne_of_lt (Nat.lt_of_lt_of_le (Heap.lt_size e) I.ok.above))).trans (I.base.keep b o e n hb hx)
    · obtain ⟨sl, e1⟩ := I.base.slot b o e n hb hx
      exact ⟨sl, (hs.2 b (Nat.ne_of_lt (Nat.lt_of_lt_of_le (Heap.lt_size e) I.ok.above))).trans e1⟩
    · obtain ⟨o', e1⟩ := I.base.there b o e hx
      exact ⟨o', (hs.2 b (Nat.ne_of_lt (Nat.lt_of_lt_of_le (Heap.lt_size e) I.ok.above))).trans e1⟩
    · by_cases hj : j = i
      · subst hj
        rw [hi] at e1; cases e1
        rw [List.getElem?_set_self hiσ] at e2
        cases e2
        exact ⟨u, r, .inl ⟨hk, by simp⟩⟩
      · rw [List.getElem?_set_ne (Ne.symm hj)] at e2
        obtain ⟨u', r', q⟩ := hl j y v' e1 e2 e3
        refine ⟨u', r', ?_⟩
        rcases q with ⟨k, e⟩ | ⟨k, c, e, z⟩
        · refine .inl ⟨k, ?_⟩
          have : y ≠ x := fun e => hj (nodup_ix hN e1 (e ▸ hi))
          simp [this, e]
        · exact .inr ⟨k, c, e, z.sameBut hs (cne y c e)⟩
    · obtain ⟨w', z⟩ := I.cell y c e
      exact ⟨w', z.sameBut hs (cne y c e)⟩
    · obtain ⟨e, n, ne, nf, d⟩ := I.pin p hp
      exact ⟨(hs.2 p.1 ne).trans e, n, ne, nf, d⟩
  · have hfn : X.fn x = true := by
      rcases hf with z | z
      · exact z
      · rw [z] at hk; cases hk
    obtain ⟨c, hc⟩ := I.ok.has x (.inl hk)
    obtain ⟨w', z⟩ := I.cell x c hc
    refine wpAny_storeName_cell I.ok.kind hk hc z (fun h' hc' hs => ?_)
    obtain ⟨oc, hoc, hocd⟩ := id z
    refine h { s with heap := h' } ⟨I.ok, I.os, I.bare, ⟨fun b o e n hb hx => ?_, fun b o e n hb hx => ?_, I.base.free, fun b o e hx => ?_, I.base.tups, I.base.frzs, I.base.tbls⟩, ⟨m, hn.sameBut hs (Ne.symm (cne x c hc)), fun j y v' e1 e2 e3 => ?_⟩, fun y c' e => ?_, I.free, I.freeC, fun p hp => ?_, tracked ⟨oc, hoc, I.freeC x c hc⟩ hs, by simpa using I.len⟩ ⟨c, hs, .inr hc⟩
    · exact (hs.2 b (Nat.ne_of_lt (Nat.lt_of_lt_of_le (Heap.lt_size e) (I.ok.cab x c hfn hc)))).trans (I.base.keep b o e n hb hx)
    · obtain ⟨sl, e1⟩ := I.base.slot b o e n hb hx
      exact ⟨sl, (hs.2 b (Nat.ne_of_lt (Nat.lt_of_lt_of_le (Heap.lt_size e) (I.ok.cab x c hfn hc)))).trans e1⟩
    · obtain ⟨o', e1⟩ := I.base.there b o e hx
      exact ⟨o', (hs.2 b (Nat.ne_of_lt (Nat.lt_of_lt_of_le (Heap.lt_size e) (I.ok.cab x c hfn hc)))).trans e1⟩
    · by_cases hj : j = i
      · subst hj
        rw [hi] at e1; cases e1
        rw [List.getElem?_set_self hiσ] at e2
        cases e2
        exact ⟨u, r, .inr ⟨.inl hk, c, hc, hc'⟩⟩
      · rw [List.getElem?_set_ne (Ne.symm hj)] at e2
        obtain ⟨u', r', q⟩ := hl j y v' e1 e2 e3
        refine ⟨u', r', ?_⟩
        rcases q with q | ⟨k, c', e, z'⟩
        · exact .inl q
        · refine .inr ⟨k, c', e, z'.sameBut hs ?_⟩
          rintro rfl
          exact hj (nodup_ix hN e1 (I.ok.inj _ _ _ e hc ▸ hi))
    · by_cases hcc : c' = c
      · subst hcc; exact ⟨_, hc'⟩
      · obtain ⟨w2, z2⟩ := I.cell y c' e
        exact ⟨w2, z2.sameBut hs hcc⟩
    · obtain ⟨e, n, ne, nf, d⟩ := I.pin p hp
      refine ⟨(hs.2 p.1 ?_).trans e, n, ne, nf, d⟩
      intro q
      rw [q, hoc] at e
      have q' : oc = p.2 := Option.some.inj e
      exact d w' (by rw [← q']; exact hocd)
theorem store_ok {M : Model} {A : Around} {E : Value → Shared → Prop} {i : Nat} {x : Str} {v : V} {u : Value} {Q : Unit → Shared → Prop} (I : Inv X pins σ H s) (hN : X.N.Nodup) (hi : X.N[i]? = some x) (hx : Loc X.env.scope x) (r : RelV v u)
    (h : ∀ s', Inv X pins (σ.set i (some v)) H s' → Q () s') (hf : X.fn x = true ∨ X.env.scope.names.lookup x = some .local := by first | exact .inl rfl | exact .inr rfl | assumption) : wpAny M A (storeName X.env x u) Q E s :=
  store_ok2 I hN hi hx r (fun s' I' _ => h s' I') hf
/-- behind a call or a block, the state as it is -/
theorem Inv.call' {s' : Shared} {ch : List Addr} (I : Inv X pins σ H s) (ho : s'.os = s.os) (u : Un (frs X.stack) ch H H' s.heap s'.heap) (hok : HOk X.prog X.w H' s'.heap) (hg : AllBare s'.gens)
    (hch : ∀ b ∈ ch, (b ∈ X.ex ∨ X.s₀.heap.objs.size ≤ b) ∧ b ≠ X.env.locals ∧ (∀ x c, X.env.cells.lookup x = some c → c ≠ b) ∧ ∀ p ∈ X.pn ++ pins, p.1 ≠ b) : Inv X pins σ H' s' := by
  obtain ⟨h', g', d', t', o'⟩ := s'
  have e : o' = s.os := ho
  subst e
  exact I.call (g' := g') (t' := t') (d' := d') u hok hg hch
end

/-! ### the judgements -/
/-- an exception: its class, its own dict's address (where it has one), the abstract heap behind it -/
abbrev XK := Value → Option Addr → Hp → Prop
abbrev St := List (Option V)
abbrev VK := V → Hp → Prop
/-- an expression's reading; a test's; an argument list's -/
abbrev TE := St → Hp → VK → Prop
abbrev TT := St → Hp → (Bool → Hp → Prop) → Prop
abbrev TA := St → Hp → (List V → Hp → Prop) → Prop
/-- what is wanted behind a statement -/
structure Ends where
  nx : St → Hp → Prop
  rt : VK
  bk : St → Hp → Prop := fun _ _ => False
  ct : St → Hp → Prop := fun _ _ => False
abbrev TS := Ends → St → Hp → Prop

def EP (X : Cx) (pins : List (Addr × Obj)) (σ : St) (Q : VK) (u : Value) (s' : Shared) : Prop := ∃ v H', Inv X pins σ H' s' ∧ RelV v u ∧ Q v H'
def TP (X : Cx) (pins : List (Addr × Obj)) (σ : St) (Q : Bool → Hp → Prop) (b : Bool) (s' : Shared) : Prop := ∃ H', Inv X pins σ H' s' ∧ Q b H'
def AP (X : Cx) (pins : List (Addr × Obj)) (σ : St) (Q : List V → Hp → Prop) (us : List Value) (s' : Shared) : Prop := ∃ vs H', Inv X pins σ H' s' ∧ Vals vs us ∧ Q vs H'
def SP (X : Cx) (pins : List (Addr × Obj)) (D : Ends) (f : Flow) (s' : Shared) : Prop :=
  match f with
  | .next => ∃ σ' H', Inv X pins σ' H' s' ∧ D.nx σ' H'
  | .brk => ∃ σ' H', Inv X pins σ' H' s' ∧ D.bk σ' H'
  | .cont => ∃ σ' H', Inv X pins σ' H' s' ∧ D.ct σ' H'
  | .ret u => ∃ v σ' H', Inv X pins σ' H' s' ∧ RelV v u ∧ D.rt v H'

def PE (X : Cx) (e : Expr) (t : TE) : Prop :=
  ∀ (pins : List (Addr × Obj)) (s : Shared) (σ : St) (H : Hp) (Q : VK), Inv X pins σ H s → t σ H Q → wpAny (model X.prog X.w) X.A (eval e X.env) (EP X pins σ Q) X.xe s
def PT (X : Cx) (e : Expr) (t : TT) : Prop :=
  ∀ (pins : List (Addr × Obj)) (s : Shared) (σ : St) (H : Hp) (Q : Bool → Hp → Prop), Inv X pins σ H s → t σ H Q → wpAny (model X.prog X.w) X.A (isTrue e X.env (eval e X.env)) (TP X pins σ Q) X.xe s
/-- a test whatever its 'whole' is (and, or) -/
def PW (X : Cx) (e : Expr) (t : TT) : Prop :=
  ∀ (whole : Sem Value) (pins : List (Addr × Obj)) (s : Shared) (σ : St) (H : Hp) (Q : Bool → Hp → Prop), Inv X pins σ H s → t σ H Q → wpAny (model X.prog X.w) X.A (isTrue e X.env whole) (TP X pins σ Q) X.xe s
theorem PW.pt {X : Cx} {e : Expr} {t : TT} (h : PW X e t) : PT X e t := h _
/-- an argument list (no star), from the left -/
def PA (X : Cx) (es : List Expr) (t : TA) : Prop :=
  ∀ (pos : Pos) (pins : List (Addr × Obj)) (s : Shared) (σ : St) (H : Hp) (Q : List V → Hp → Prop), Inv X pins σ H s → t σ H Q → wpAny (model X.prog X.w) X.A (spliced (backTo pos (starEach es X.env))) (AP X pins σ Q) X.xe s
def PS (X : Cx) (st : Stmt) (t : TS) : Prop :=
  ∀ (pins : List (Addr × Obj)) (s : Shared) (σ : St) (H : Hp) (D : Ends), Inv X pins σ H s → t D σ H → wpAny (model X.prog X.w) X.A (exec st X.env) (SP X pins D) X.xe s
def PSs (X : Cx) (st : List Stmt) (t : TS) : Prop :=
  ∀ (pins : List (Addr × Obj)) (s : Shared) (σ : St) (H : Hp) (D : Ends), Inv X pins σ H s → t D σ H → wpAny (model X.prog X.w) X.A (execs st X.env) (SP X pins D) X.xe s
/-- weaken the end -/
theorem thn {α : Type} {t : Sem α} {Q Q' : α → Shared → Prop} {M : Model} {A : Around} {E : Value → Shared → Prop} {s : Shared} (h : wpAny M A t Q E s) (hQ : ∀ a s, Q a s → Q' a s) : wpAny M A t Q' E s := wpAny_mono h hQ fun _ _ x => x
end L2

namespace L2
open PySem PySem.Spec PyProof.Rows
section
variable {X : Cx}

/-- two expressions in a row -/
theorem bin {a b : Expr} {ta tb : TE} (ha : PE X a ta) (hb : PE X b tb) {pins : List (Addr × Obj)} {s : Shared} {σ : St} {H : Hp} {R : V → V → Hp → Prop} (I : Inv X pins σ H s) (h : ta σ H fun x H1 => tb σ H1 fun y H2 => R x y H2)
    {α : Type} {Q : α → Shared → Prop} {f : Value → Value → Sem α}
    (hf : ∀ v u s2 x y H2, Inv X pins σ H2 s2 → RelV x v → RelV y u → R x y H2 → wpAny (model X.prog X.w) X.A (f v u) Q X.xe s2) :
    wpAny (model X.prog X.w) X.A (eval a X.env) (fun v s₁ => wpAny (model X.prog X.w) X.A (eval b X.env) (fun u s₂ => wpAny (model X.prog X.w) X.A (f v u) Q X.xe s₂) X.xe s₁) X.xe s := by
  refine thn (ha pins s σ H _ I h) fun v s1 hw' => ?_
  obtain ⟨x, H1, I1, r1, q1⟩ := hw'
  refine thn (hb pins s1 σ H1 _ I1 q1) fun u s2 hw' => ?_
  obtain ⟨y, H2, I2, r2, q2⟩ := hw'
  exact hf v u s2 x y H2 I2 r1 r2 q2

/-! ### names and constants -/
def tVar (i : Nat) : TE := fun σ H Q => ∃ v, σ[i]? = some (some v) ∧ Q v H
def tC (v : V) : TE := fun _ H Q => Q v H
theorem pe_var {i : Nat} {x : Str} {pos : Pos} (hN : X.N[i]? = some x) (hv : Vis X.env.scope x) (hd : (x == ("__debug__" : Str)) = false := by decide) (hcd : (x == ("__classdict__" : Str)) = false := by decide) : PE X (.Name x pos) (tVar i) := by
  intro pins s σ H Q I h
  obtain ⟨v, e, h⟩ := h
  obtain ⟨m, hn, hl⟩ := I.loc
  obtain ⟨u, r, l⟩ := hl i x v hN e hv
  have fin : EP X pins σ Q u s := ⟨v, H, I, r, h⟩
  rcases l with ⟨hk, hm⟩ | ⟨hk, c, hc, hcell⟩
  · exact wpAny_Name (wpAny_loadName_local I.ok.kind hk hn hm fin) hd
  · rcases hk with hk | hk
    · exact wpAny_Name (wpAny_loadName_cell I.ok.kind hk hc hcell fin) hd
    · exact wpAny_Name (wpAny_loadName_free I.ok.kind hk hc hcell fin hcd) hd
theorem pe_int {i j pos} : PE X (.Constant (.int i) j pos) (tC (.int i)) := fun _ _ _ H _ I h => wpAny_Constant_int ⟨.int i, H, I.tok _, ⟨_, rfl⟩, h⟩
theorem pe_bl {b j pos} : PE X (.Constant (.bool b) j pos) (tC (.bl b)) := fun _ _ _ H _ I h => Constant_bool ⟨.bl b, H, I, rfl, h⟩
theorem pe_non {j pos} : PE X (.Constant .none j pos) (tC .non) := fun _ _ _ H _ I h => Constant_none ⟨.non, H, I, rfl, h⟩
theorem pe_str {x j pos} : PE X (.Constant (.str x) j pos) (tC (.str x)) := fun _ _ _ H _ I h => Calls.Constant_str ⟨.str x, H, I.tok _, ⟨_, rfl⟩, h⟩

/-- a global name of the def -/
def Gl (X : Cx) (x : Str) : Prop := X.env.kindOf x = some .globalImplicit
theorem ld_glob {E : Value → Shared → Prop} {pins : List (Addr × Obj)} {s : Shared} {σ : St} {H : Hp} {x : Str} {u : Value} {pos : Pos} {Q : Value → Shared → Prop} (I : Inv X pins σ H s) (hg : Gl X x) (hm : X.mg x = some u) (h : Q u s)
    (hd : (x == ("__debug__" : Str)) = false := by decide) : wpAny (model X.prog X.w) X.A (eval (.Name x pos) X.env) Q E s :=
  Calls.Name_function_global I.ok.kind hg (Calls.loadGlobal_global (by rw [I.ok.glob]; exact I.mod.glob.keeps I.bk) hm h) hd
theorem ld_blt {E : Value → Shared → Prop} {pins : List (Addr × Obj)} {s : Shared} {σ : St} {H : Hp} {x : Str} {u : Value} {pos : Pos} {Q : Value → Shared → Prop} (I : Inv X pins σ H s) (hg : Gl X x) (hm : X.mg x = none) (hv : bootBuiltins x = some u) (h : Q u s)
    (hn : x ≠ "__name__" := by decide) (hd : (x == ("__debug__" : Str)) = false := by decide) : wpAny (model X.prog X.w) X.A (eval (.Name x pos) X.env) Q E s := by
  obtain ⟨mb, h1, h2⟩ := I.mod.blt
  exact Calls.Name_function_global I.ok.kind hg (Calls.loadGlobal_builtin (by rw [I.ok.glob]; exact I.mod.glob.keeps I.bk) hm (by rw [I.ok.blt]; exact h1.keeps I.bk) ((h2 x hn).trans hv) h) hd
/-- a module's constant, a class, a function, as a value -/
theorem pe_glob {x : Str} {v : V} {u : Value} {pos : Pos} (hg : Gl X x) (hm : X.mg x = some u) (r : RelV v u) (hd : (x == ("__debug__" : Str)) = false := by decide) : PE X (.Name x pos) (tC v) :=
  fun _ _ _ H _ I h => ld_glob I hg hm ⟨v, H, I, r, h⟩ hd
theorem pe_bltn {x : Str} {v : V} {u : Value} {pos : Pos} (hg : Gl X x) (hm : X.mg x = none) (hv : bootBuiltins x = some u) (r : RelV v u) (hn : x ≠ "__name__" := by decide) (hd : (x == ("__debug__" : Str)) = false := by decide) : PE X (.Name x pos) (tC v) :=
  fun _ _ _ H _ I h => ld_blt I hg hm hv ⟨v, H, I, r, h⟩ hn hd

variable {a b : Expr} {ta tb : TE} {pos : Pos}
/-- a comparison as a value, as a test -/
def tB (t : TE) : TT := fun σ H Q => t σ H fun x H1 => ∃ c, x = .bl c ∧ Q c H1
/-- an expression whose value is a bool, as a test -/
theorem pt_val {e : Expr} {t : TE} (h : PE X e t) (he : ∀ whole, isTrue e X.env whole = (do let v ← whole; standAt e.pos; holding [v] (truthy v)) := by intro _; rfl) : PT X e (tB t) := by
  intro pins s σ H Q I hw
  refine isTrue_plain (thn (h pins s σ H _ I hw) fun v s1 ⟨x, H1, I1, r1, q1⟩ => ?_) (he _)
  obtain ⟨d, rfl, q⟩ := q1
  cases r1
  exact wpAny_truthy_bool ⟨H1, I1, q⟩

/-! ### and, or, not -/
variable {tA tB' : TT} {rest : List Expr}
def tAnd (t u : TT) : TT := fun σ H Q => t σ H fun c H1 => if c = true then u σ H1 Q else Q false H1
def tOr (t u : TT) : TT := fun σ H Q => t σ H fun c H1 => if c = true then Q true H1 else u σ H1 Q
def tNot (t : TT) : TT := fun σ H Q => t σ H fun c H1 => Q (!c) H1
theorem pw_and1 (ha : PT X a tA) : PW X (.BoolOp .And [a] pos) tA := by
  intro wh pins s σ H Q I h
  refine isTrue_and (thn (ha pins s σ H Q I h) fun c s1 e => ?_)
  cases c with
  | true => exact isTrue_and_nil e
  | false => exact e
theorem pw_or1 (ha : PT X a tA) : PW X (.BoolOp .Or [a] pos) tA := by
  intro wh pins s σ H Q I h
  refine isTrue_or (thn (ha pins s σ H Q I h) fun c s1 e => ?_)
  cases c with
  | false => exact isTrue_or_nil e
  | true => exact e
theorem pw_and (ha : PT X a tA) (hb : PW X (.BoolOp .And (b :: rest) pos) tB') : PW X (.BoolOp .And (a :: b :: rest) pos) (tAnd tA tB') := by
  intro wh pins s σ H Q I h
  refine isTrue_and (thn (ha pins s σ H _ I h) fun c s1 ⟨H1, I1, q1⟩ => ?_)
  cases c with
  | true => exact hb wh pins s1 σ H1 Q I1 q1
  | false => exact ⟨H1, I1, q1⟩
theorem pw_or (ha : PT X a tA) (hb : PW X (.BoolOp .Or (b :: rest) pos) tB') : PW X (.BoolOp .Or (a :: b :: rest) pos) (tOr tA tB') := by
  intro wh pins s σ H Q I h
  refine isTrue_or (thn (ha pins s σ H _ I h) fun c s1 ⟨H1, I1, q1⟩ => ?_)
  cases c with
  | true => exact ⟨H1, I1, q1⟩
  | false => exact hb wh pins s1 σ H1 Q I1 q1
theorem pt_not (ha : PT X a tA) : PT X (.UnaryOp .Not a pos) (tNot tA) := by
  intro pins s σ H Q I h
  exact isTrue_not (ha pins s σ H (fun c H1 => Q (!c) H1) I h)
/-- .. as values (bools) -/
def tAndV (ta tb : TE) : TE := fun σ H Q => ta σ H fun x H1 => ∃ c, x = .bl c ∧ if c = true then tb σ H1 Q else Q (.bl false) H1
def tOrV (ta tb : TE) : TE := fun σ H Q => ta σ H fun x H1 => ∃ c, x = .bl c ∧ if c = true then Q (.bl true) H1 else tb σ H1 Q
def tNotV (ta : TE) : TE := fun σ H Q => ta σ H fun x H1 => ∃ c, x = .bl c ∧ Q (.bl (!c)) H1
theorem pe_one {op} {t : TE} (h : PE X a t) : PE X (.BoolOp op [a] pos) t := fun pins s σ H Q I hw => BoolOp_one (h pins s σ H Q I hw)
theorem pe_and (ha : PE X a ta) (hb : PE X (.BoolOp .And (b :: rest) pos) tb) : PE X (.BoolOp .And (a :: b :: rest) pos) (tAndV ta tb) := by
  intro pins s σ H Q I h
  refine BoolOp_and (thn (ha pins s σ H _ I h) fun v s1 hw' => ?_)
  obtain ⟨x, H1, I1, r1, q1⟩ := hw'
  obtain ⟨c, rfl, q1⟩ := q1
  cases r1
  refine wpAny_truthy_bool ?_
  cases c with
  | true => exact hb pins s1 σ H1 Q I1 q1
  | false => exact ⟨.bl false, H1, I1, rfl, q1⟩
theorem pe_or (ha : PE X a ta) (hb : PE X (.BoolOp .Or (b :: rest) pos) tb) : PE X (.BoolOp .Or (a :: b :: rest) pos) (tOrV ta tb) := by
  intro pins s σ H Q I h
  refine BoolOp_or (thn (ha pins s σ H _ I h) fun v s1 hw' => ?_)
  obtain ⟨x, H1, I1, r1, q1⟩ := hw'
  obtain ⟨c, rfl, q1⟩ := q1
  cases r1
  refine wpAny_truthy_bool ?_
  cases c with
  | false => exact hb pins s1 σ H1 Q I1 q1
  | true => exact ⟨.bl true, H1, I1, rfl, q1⟩
theorem pe_not (ha : PE X a ta) : PE X (.UnaryOp .Not a pos) (tNotV ta) := by
  intro pins s σ H Q I h
  refine UnaryOp_ (thn (ha pins s σ H _ I h) fun v s1 hw' => ?_)
  obtain ⟨x, H1, I1, r1, q1⟩ := hw'
  obtain ⟨c, rfl, q1⟩ := q1
  cases r1
  exact not_of (wpAny_truthy_bool ⟨.bl (!c), H1, I1, rfl, q1⟩)
/-- a if t else b -/
def tIf (t : TT) (ta tb : TE) : TE := fun σ H Q => t σ H fun c H1 => if c = true then ta σ H1 Q else tb σ H1 Q
theorem pe_ifExp {c : Expr} (hc : PT X c tA) (ha : PE X a ta) (hb : PE X b tb) : PE X (.IfExp c a b pos) (tIf tA ta tb) := by
  intro pins s σ H Q I h
  refine wpAny_IfExp (thn (hc pins s σ H _ I h) fun d s1 ⟨H1, I1, q1⟩ => ?_)
  cases d with
  | true => exact ha pins s1 σ H1 Q I1 q1
  | false => exact hb pins s1 σ H1 Q I1 q1
end
end L2

namespace L2
open PySem PySem.Spec PyProof.Rows

/-! ### a list, a tuple that is read: tracked, frozen, or an object of the module -/
def SqL (K : PySem.W.Frag) (H : Hp) (a : Addr) (xs : List V) : Prop :=
  Rd H a (.lst xs) ∨
    ∃ (o : Obj) (its : Array Value) (n : Nat), K.lookup a = some o ∧ o.cls = .type "list" ∧ o.dict = none ∧ o.data = .seq its n ∧ its.size ≤ sizeLine ∧ Vals xs its.toList
def SqT (K : PySem.W.Frag) (H : Hp) (a : Addr) (xs : List V) : Prop :=
  Rd H a (.tup xs) ∨
    ∃ (o : Obj) (its : Array Value) (n : Nat), K.lookup a = some o ∧ o.cls = .type "tuple" ∧ o.data = .seq its n ∧ its.size ≤ sizeLine ∧ Vals xs its.toList
def absV : Value → Option V
  | .none => some .non
  | .bool b => some (.bl b)
  | .int i _ => some (.int i)
  | .str x _ => some (.str x)
  | .bytes b _ => some (.byt b)
  | .float b _ => some (.flt b)
  | .ref a => some (.ref a)
  | .type n => some (.ty n)
  | _ => none
theorem RelV.abs {x : V} {u : Value} (r : RelV x u) : absV u = some x := by
  cases x with
  | non => cases r; rfl
  | bl _ => cases r; rfl
  | int _ => obtain ⟨t, rfl⟩ := r; rfl
  | str _ => obtain ⟨t, rfl⟩ := r; rfl
  | byt _ => obtain ⟨t, rfl⟩ := r; rfl
  | flt _ => obtain ⟨t, rfl⟩ := r; rfl
  | ref _ => cases r; rfl
  | ty _ => cases r; rfl
theorem RelV.inj {x y : V} {u : Value} (r : RelV x u) (q : RelV y u) : x = y := Option.some.inj (r.abs.symm.trans q.abs)
theorem Vals.inj : ∀ {xs ys : List V} {us : List Value}, Vals xs us → Vals ys us → xs = ys
  | _, _, _, .nil, .nil => rfl
  | _, _, _, .cons r t, .cons r' t' => by rw [r.inj r', Vals.inj t t']
section
variable {X : Cx} {pins : List (Addr × Obj)} {σ : St} {H : Hp} {s : Shared} {a : Addr} {xs ys : List V}
theorem SqL.of {K : PySem.W.Frag} (h : H a = some (.lst xs)) : SqL K H a xs := .inl (.inl h)
theorem SqT.of {K : PySem.W.Frag} (h : H a = some (.tup xs)) : SqT K H a xs := .inl (.inl h)
theorem Inv.list (I : Inv X pins σ H s) (h : SqL X.K H a xs) : ∃ its : List Value, Vals xs its ∧ PlainL s.heap a its.toArray ∧ xs.length ≤ sizeLine := by
  rcases h with h | ⟨o, its, n, hk, hc, hd, hs, hz, r⟩
  · obtain ⟨z, its, n, r, e⟩ := h.ok I.hok
    exact ⟨its, r, ⟨_, n, e, rfl, rfl, rfl⟩, z⟩
  · refine ⟨its.toList, r, ⟨o, n, I.kIn a o hk, hc, hd, by simpa using hs⟩, ?_⟩
    have e := r.length
    simp only [Array.length_toList] at e
    omega
theorem Inv.tuple (I : Inv X pins σ H s) (h : SqT X.K H a xs) : ∃ its : List Value, Vals xs its ∧ IsTup s.heap a its.toArray ∧ xs.length ≤ sizeLine := by
  rcases h with h | ⟨o, its, n, hk, hc, hs, hz, r⟩
  · obtain ⟨z, its, r, p⟩ := h.ok I.hok
    exact ⟨its, r, p, z⟩
  · refine ⟨its.toList, r, ⟨o, I.kIn a o hk, hc, n, by simpa using hs⟩, ?_⟩
    have e := r.length
    simp only [Array.length_toList] at e
    omega
theorem Inv.list_inj (I : Inv X pins σ H s) (h : SqL X.K H a xs) (h' : SqL X.K H a ys) : xs = ys := by
  obtain ⟨its, r, ⟨o, n, e, _, _, d⟩, _⟩ := I.list h
  obtain ⟨its', r', ⟨o', n', e', _, _, d'⟩, _⟩ := I.list h'
  rw [e] at e'; cases e'
  rw [d] at d'
  injection d' with d1 _
  have : its = its' := by simpa using congrArg Array.toList d1
  subst this
  exact r.inj r'
end

/-! ### another wish about exceptions -/
abbrev Cx.wish (X : Cx) (E : Value → Shared → Prop) : Cx := { X with xe := E }
/-- no exception leaves -/
abbrev Cx.nox (X : Cx) : Cx := X.wish fun _ _ => False
theorem Cx.Ok.wish {X : Cx} (ok : X.Ok) (E : Value → Shared → Prop) : (X.wish E).Ok :=
  ⟨ok.mod, ok.kind, ok.glob, ok.blt, ok.above, ok.inj, ok.has, ok.cab, ok.hd, ok.frames, ok.stk, ok.exf, ok.bs, ok.bsz, ok.noex, ok.exfs, ok.funs, ok.frf⟩
theorem Cx.Ok.unwish {X : Cx} {E : Value → Shared → Prop} (ok : (X.wish E).Ok) : X.Ok :=
  ⟨ok.mod, ok.kind, ok.glob, ok.blt, ok.above, ok.inj, ok.has, ok.cab, ok.hd, ok.frames, ok.stk, ok.exf, ok.bs, ok.bsz, ok.noex, ok.exfs, ok.funs, ok.frf⟩
section
variable {X : Cx} {pins : List (Addr × Obj)} {σ : St} {H : Hp} {s : Shared} {E : Value → Shared → Prop}
theorem Inv.wish (I : Inv X pins σ H s) (E : Value → Shared → Prop) : Inv (X.wish E) pins σ H s := ⟨I.ok.wish E, I.os, I.bare, I.base, I.loc, I.cell, I.free, I.freeC, I.pin, I.hok, I.len⟩
theorem Inv.unwish (I : Inv (X.wish E) pins σ H s) : Inv X pins σ H s := ⟨I.ok.unwish, I.os, I.bare, I.base, I.loc, I.cell, I.free, I.freeC, I.pin, I.hok, I.len⟩
theorem SP.unwish {D : Ends} {f : Flow} {s' : Shared} (h : SP (X.wish E) pins D f s') : SP X pins D f s' := by
  cases f with
  | next => obtain ⟨σ', H', I, q⟩ := h; exact ⟨σ', H', I.unwish, q⟩
  | brk => obtain ⟨σ', H', I, q⟩ := h; exact ⟨σ', H', I.unwish, q⟩
  | cont => obtain ⟨σ', H', I, q⟩ := h; exact ⟨σ', H', I.unwish, q⟩
  | ret u => obtain ⟨v, σ', H', I, r, q⟩ := h; exact ⟨v, σ', H', I.unwish, r, q⟩
theorem PE.nox {e : Expr} {t : TE} (h : PE X.nox e t) : PE X e t := fun pins s σ H Q I hw =>
  wpAny_mono (h pins s σ H Q (I.wish _) hw) (fun _ _ ⟨v, H', I', r, q⟩ => ⟨v, H', I'.unwish, r, q⟩) fun _ _ z => False.elim z
theorem PT.nox {e : Expr} {t : TT} (h : PT X.nox e t) : PT X e t := fun pins s σ H Q I hw =>
  wpAny_mono (h pins s σ H Q (I.wish _) hw) (fun _ _ ⟨H', I', q⟩ => ⟨H', I'.unwish, q⟩) fun _ _ z => False.elim z
theorem PSs.nox {st : List Stmt} {t : TS} (h : PSs X.nox st t) : PSs X st t := fun pins s σ H D I hw =>
  wpAny_mono (h pins s σ H D (I.wish _) hw) (fun _ _ q => q.unwish) fun _ _ z => False.elim z
end

/-! ### blocks and small statements -/
section
variable {X : Cx} {st : Stmt} {rest : List Stmt} {t u : TS} {e : Expr} {te : TE} {pos : Pos}
def tNext : TS := fun D σ H => D.nx σ H
def tSeq (t u : TS) : TS := fun D σ H => t { D with nx := u D } σ H
theorem pss_nil : PSs X [] tNext := fun _ _ σ H _ I h => wpAny_execs_nil ⟨σ, H, I, h⟩
theorem pss_cons (h1 : PS X st t) (h2 : PSs X rest u) : PSs X (st :: rest) (tSeq t u) := by
  intro pins s σ H D I h
  refine wpAny_execs_cons (thn (h1 pins s σ H { D with nx := u D } I h) fun f s1 q => ?_)
  cases f with
  | next =>
    obtain ⟨σ', H', I', q⟩ := q
    exact h2 pins s1 σ' H' D I' q
  | ret v => exact q
  | brk => exact q
  | cont => exact q
theorem pss_one (h1 : PS X st t) : PSs X [st] t := by
  intro pins s σ H D I h
  refine wpAny_execs_cons (thn (h1 pins s σ H D I h) fun f s1 q => ?_)
  cases f with
  | next => exact wpAny_execs_nil q
  | ret v => exact q
  | brk => exact q
  | cont => exact q
/-- in a def's body nothing is shown -/
theorem Inv.quiet {pins : List (Addr × Obj)} {σ : St} {H : Hp} {s : Shared} (I : Inv X pins σ H s) : interactive X.env = false := by simp [interactive, I.ok.kind]
/-- an expression whose value is dropped -/
def tDrop (te : TE) : TS := fun D σ H => te σ H fun _ H1 => D.nx σ H1
theorem ps_expr (he : PE X e te) (hs : swapsWith e none pos.line X.env = pure false := by rfl) : PS X (.Expr e pos) (tDrop te) := by
  intro pins s σ H D I h
  exact wpAny_Expr_any (thn (he pins s σ H _ I h) fun v s1 ⟨x, H1, I1, r1, q1⟩ => ⟨σ, H1, I1, q1⟩) I.quiet hs
def tRet (te : TE) : TS := fun D σ H => te σ H D.rt
theorem ps_ret (he : PE X e te) : PS X (.Return (some e) pos) (tRet te) := by
  intro pins s σ H D I h
  exact wpAny_Return_some (thn (he pins s σ H _ I h) fun v s1 ⟨x, H1, I1, r1, q1⟩ => ⟨x, σ, H1, I1, r1, q1⟩)
def tIfS (c : TT) (t u : TS) : TS := fun D σ H => c σ H fun b H1 => if b = true then t D σ H1 else u D σ H1
theorem ps_if {c : Expr} {a b : List Stmt} {tc : TT} (hc : PT X c tc) (ha : PSs X a t) (hb : PSs X b u) : PS X (.If c a b pos) (tIfS tc t u) := by
  intro pins s σ H D I h
  refine wpAny_If (thn (hc pins s σ H _ I h) fun d s1 ⟨H1, I1, q1⟩ => ?_)
  cases d with
  | true => exact ha pins s1 σ H1 D I1 q1
  | false => exact hb pins s1 σ H1 D I1 q1
/-- code that the proof never comes to -/
def tNever : TS := fun _ _ _ => False
theorem ps_never : PS X st tNever := fun _ _ _ _ _ _ h => h.elim
theorem pss_never {sts : List Stmt} : PSs X sts tNever := fun _ _ _ _ _ _ h => h.elim
end

/-! ### targets -/
abbrev TG := V → St → Hp → (St → Hp → Prop) → Prop
abbrev TGs := List V → St → Hp → (St → Hp → Prop) → Prop
def PG (X : Cx) (target : Expr) (t : TG) : Prop :=
  ∀ (pins : List (Addr × Obj)) (s : Shared) (σ : St) (H : Hp) (v : V) (u : Value) (Q : St → Hp → Prop), Inv X pins σ H s → RelV v u → t v σ H Q →
    wpAny (model X.prog X.w) X.A (assign target X.env u) (fun _ s' => ∃ σ' H', Inv X pins σ' H' s' ∧ Q σ' H') X.xe s
section
variable {X : Cx} {pos : Pos}
def gName (i : Nat) : TG := fun v σ H Q => Q (σ.set i (some v)) H
theorem pg_name {i : Nat} {x : Str} (hN : X.N.Nodup) (hi : X.N[i]? = some x) (hx : Loc X.env.scope x) (hf : X.fn x = true ∨ X.env.scope.names.lookup x = some .local := by first | exact .inl rfl | exact .inr rfl | assumption) : PG X (.Name x pos) (gName i) := by
  intro pins s σ H v u Q I r h
  exact wpAny_assign_Name (store_ok I hN hi hx r (fun s' I' => ⟨_, H, I', h⟩) hf)
def gNil : TGs := fun vs σ H Q => vs = [] ∧ Q σ H
def gCons (t : TG) (u : TGs) : TGs := fun vs σ H Q => ∃ v r, vs = v :: r ∧ t v σ H fun σ' H' => u r σ' H' Q
/-- (a, b, ..) = a tuple of that length -/
def gTup (K : PySem.W.Frag) (n : Nat) (t : TGs) : TG := fun v σ H Q => ∃ a xs, v = .ref a ∧ SqT K H a xs ∧ xs.length = n ∧ t xs σ H Q
/-- target = value -/
def tAsg (te : TE) (g : TG) : TS := fun D σ H => te σ H fun x H1 => g x σ H1 D.nx
/-- name = value -/
theorem ps_set {i : Nat} {x : Str} {e : Expr} {te : TE} {pos' : Pos} (hN : X.N.Nodup) (hi : X.N[i]? = some x) (hx : Loc X.env.scope x) (he : PE X e te) (hs : swapsWith e (some (.Name x pos')) pos.line X.env = pure false := by rfl) (hf : X.fn x = true ∨ X.env.scope.names.lookup x = some .local := by first | exact .inl rfl | exact .inr rfl | assumption) :
    PS X (.Assign [.Name x pos'] e pos) (tAsg te (gName i)) := by
  intro pins s σ H D I h
  refine wpAny_Assign_Name (thn (he pins s σ H _ I h) fun v s1 hw' => ?_) hs
  obtain ⟨y, H1, I1, r1, q1⟩ := hw'
  exact store_ok I1 hN hi hx r1 (fun s2 I2 => ⟨_, H1, I2, q1⟩) hf
end

/-! ### while -/
section
variable {X : Cx} {pos : Pos}
end

/-! ### what a loop or a comprehension walks -/
/-- at turn i: it yields x (the heap may grow), or it stops -/
structure It where
  go : Nat → Hp → Prop
  yld : Nat → Hp → V → Hp → Prop
  stop : Nat → Hp → Prop
/-- the iterator's own objects may turn: they are not the frame's, not pinned, younger than the entry (or a comprehension's own) -/
def FpOk (X : Cx) (pins : List (Addr × Obj)) (H : Hp) (b : Addr) : Prop :=
  H b = none ∧ b ≠ X.env.locals ∧ b ∉ X.fs ∧ (b ∈ X.ex ∨ X.s₀.heap.objs.size ≤ b) ∧ (∀ x c, X.env.cells.lookup x = some c → c ≠ b) ∧ ∀ p ∈ X.pn ++ pins, p.1 ≠ b
theorem Inv.fpOk {X : Cx} {pins : List (Addr × Obj)} {σ : St} {H H' : Hp} {s : Shared} {b : Addr} (I : Inv X pins σ H s) (hb : s.heap.objs.size ≤ b) (hn : H' b = none) : FpOk X pins H' b := by
  refine ⟨hn, Nat.ne_of_gt (Nat.lt_of_lt_of_le I.lt hb), I.nofs hb, .inr (Nat.le_trans I.sz hb), fun x c e z => ?_, fun p hp z => ?_⟩
  · obtain ⟨v, q⟩ := I.cell x c e
    exact absurd (Nat.lt_of_lt_of_le q.lt (by rw [z]; exact hb)) (Nat.lt_irrefl _)
  · exact absurd (Nat.lt_of_lt_of_le (Heap.lt_size (I.pin p hp).1) (by rw [z]; exact hb)) (Nat.lt_irrefl _)
structure Turn (P : Program) (w : World) (K : PySem.W.Frag) (tg : Expr) (J : It) (fp : List Addr) (it : Addr) (tn : Nat → Heap → Prop) : Prop where
  mem : it ∈ fp
  obj : ∀ i h, tn i h → ∀ b ∈ fp, ∃ o, h.get? b = some o ∧ ∀ v, o.data ≠ .cell v
  keep : ∀ i h h', tn i h → (∀ b ∈ fp, ∀ o, h.get? b = some o → h'.get? b = some o) → tn i h'
  item : ∀ (X : Cx), X.prog = P → X.w = w → X.K = K → X.calm = true → ∀ (i : Nat) (pins : List (Addr × Obj)) (s : Shared) (σ : St) (H : Hp) (E : Value → Shared → Prop), Inv X pins σ H s → (∀ b ∈ fp, FpOk X pins H b) → tn i s.heap → J.go i H →
    wpAny (model P w) X.A (pyNext (.ref it)) (fun r s1 => ∃ u, r = some u ∧
      wpAny (model P w) X.A (letOwnedTupleGo tg (.ref it) u) (fun _ s2 => ∃ x H', Inv X pins σ H' s2 ∧ RelV x u ∧ J.yld i H x H' ∧ tn (i + 1) s2.heap ∧ ∀ b ∈ fp, H' b = none) E s1) E s
  done : ∀ (X : Cx), X.prog = P → X.w = w → X.K = K → X.calm = true → ∀ (i : Nat) (pins : List (Addr × Obj)) (s : Shared) (σ : St) (H : Hp) (E : Value → Shared → Prop), Inv X pins σ H s → (∀ b ∈ fp, FpOk X pins H b) → tn i s.heap → J.stop i H →
    wpAny (model P w) X.A (pyNext (.ref it)) (fun r s1 => r = none ∧ Inv X pins σ H s1) E s
  self : ∀ (A : Around) (i : Nat) (s : Shared) (Q : Value → Shared → Prop) (E : Value → Shared → Prop), tn i s.heap → Q (.ref it) s → wpAny (model P w) A (pyIter (.ref it)) Q E s
abbrev TI := St → Hp → (It → Hp → Prop) → Prop
/-- an iterator has come -/
def PIE (X : Cx) (pins : List (Addr × Obj)) (σ : St) (tg : Expr) (R : It → Hp → Prop) (itv : Value) (s2 : Shared) : Prop :=
  ∃ (it : Addr) (fp : List Addr) (tn : Nat → Heap → Prop) (J : It) (H' : Hp), itv = .ref it ∧ Inv X pins σ H' s2 ∧ Turn X.prog X.w X.K tg J fp it tn ∧ tn 0 s2.heap ∧ (∀ b ∈ fp, FpOk X pins H' b) ∧ R J H'
def PI (X : Cx) (tg iter : Expr) (wi : TI) : Prop :=
  ∀ (pins : List (Addr × Obj)) (s : Shared) (σ : St) (H : Hp) (R : It → Hp → Prop), Inv X pins σ H s → wi σ H R →
    wpAny (model X.prog X.w) X.A (eval iter X.env) (fun v s1 => wpAny (model X.prog X.w) X.A (pyIter v) (PIE X pins σ tg R) X.xe s1) X.xe s

/-- the step ahead of the store is nothing for an iterator that keeps no tuple -/
theorem go_of {M : Model} {A : Around} {E : Value → Shared → Prop} {s : Shared} {tg : Expr} {it : Addr} {u : Value} {o : Obj} {n : String} {vs : Array Value} {Q : Unit → Shared → Prop} (ho : s.heap.get? it = some o) (hc : o.cls = .type n) (hd : o.data = .fields vs)
    (hn : ["enumerate", "zip", "dict_itemiterator", "dict_reverseitemiterator", "odict_iterator", "itertools.zip_longest", "itertools.pairwise"].contains n = false) (hQ : Q () s) : wpAny M A (letOwnedTupleGo tg (.ref it) u) Q E s := by
  unfold letOwnedTupleGo
  cases tg <;> first
    | exact wpAny_pure hQ
    | (cases u <;> first
        | exact wpAny_pure hQ
        | (refine wpAny_bind (wpAny_load ho ?_)
           rw [hc, hd]
           show wpAny M A (if (["enumerate", "zip", "dict_itemiterator", "dict_reverseitemiterator", "odict_iterator", "itertools.zip_longest", "itertools.pairwise"].contains n && vs[0]? == some (rawInt _)) = true then _ else _) Q E s
           rw [if_neg (by intro h; rw [hn, Bool.false_and] at h; cases h)]
           exact wpAny_pure hQ))

/-- the list at a, as it stands at each turn (a loop may append to it) -/
def Itl (K : PySem.W.Frag) (a : Addr) : It :=
  ⟨fun i H => ∃ xs x, SqL K H a xs ∧ xs[i]? = some x, fun i H x H' => H' = H ∧ ∀ xs, SqL K H a xs → xs[i]? = some x, fun i H => ∃ xs, SqL K H a xs ∧ xs.length ≤ i⟩
/-- lo, lo + 1, .. (n of them) -/
def Itr (lo : Int) (n : Nat) : It := ⟨fun i _ => i < n, fun i H x H' => H' = H ∧ x = .int (lo + i), fun i _ => n ≤ i⟩
theorem turn_list {P : Program} {w : World} {K : PySem.W.Frag} {tg : Expr} (a it : Addr) : Turn P w K tg (Itl K a) [it] it (fun i h => h.IsListIter it a i) where
  mem := by simp
  obj := fun i h st b hb => by
    have e : b = it := by simpa using hb
    subst e
    obtain ⟨o, e, c, d⟩ := st
    exact ⟨o, e, fun v z => by rw [d] at z; cases z⟩
  keep := fun i h h' st k => st.at fun o e => k it (by simp) o e
  item := by
    intro X hP hw hK hc i pins s σ H E I hf st hg
    subst hP hw hK
    obtain ⟨xs, x, hq, hx⟩ := hg
    obtain ⟨its, rv, p, hz⟩ := I.list hq
    obtain ⟨u, hu, ru⟩ := rv.get hx
    obtain ⟨f0, f1, f2, f3, f4, f5⟩ := hf it (by simp)
    refine wpAny_pyNext_list_item st p.isList (x := u) (by simpa using hu) fun h' st' sb => ?_
    have I1 : Inv X pins σ H { s with heap := h' } := I.turned (t' := s.toks) (fun b o hb e => (sb.2 b hb).trans e) f0 f1 f3 f4 f5
    obtain ⟨o, e, c, d⟩ := id st'
    exact ⟨u, rfl, go_of (s := { s with heap := h' }) e c d (by decide) ⟨x, H, I1, ru, ⟨rfl, fun ys hy => by rw [I.list_inj hy hq]; exact hx⟩, st', fun b hb => (hf b hb).1⟩⟩
  done := by
    intro X hP hw hK hc i pins s σ H E I hf st hg
    subst hP hw hK
    obtain ⟨xs, hq, hx⟩ := hg
    obtain ⟨its, rv, p, hz⟩ := I.list hq
    obtain ⟨f0, f1, f2, f3, f4, f5⟩ := hf it (by simp)
    have hl := rv.length
    exact wpAny_pyNext_list_end (I.ok.hd hc) st p.isList (by simp; omega) fun h' eb => ⟨rfl, I.turned (t' := s.toks) (fun b o hb e => eb b o hb e) f0 f1 f3 f4 f5⟩
  self := fun _ _ _ _ _ st h => wpAny_pyIter_listiter st h
theorem turn_range {P : Program} {w : World} {K : PySem.W.Frag} {tg : Expr} (it : Addr) (lo : Int) (n : Nat) : Turn P w K tg (Itr lo n) [it] it (fun i h => IsRangeIter h it (lo + (i : Nat) * 1) ((n : Int) - (i : Nat)) 1) where
  mem := by simp
  obj := fun i h st b hb => by
    have e : b = it := by simpa using hb
    subst e
    exact ⟨_, st, fun v z => by
      have z' : Data.fields _ = Data.cell v := z
      cases z'⟩
  keep := fun i h h' st k => k it (by simp) _ st
  item := by
    intro X hP hw hK hc i pins s σ H E I hf st hg
    subst hP hw hK
    obtain ⟨f0, f1, f2, f3, f4, f5⟩ := hf it (by simp)
    have W := Walks.range (prog := X.prog) (w := X.w) (I.ok.hd hc) it lo 1 n
    refine W.item i s _ _ hg st fun v h' tk hv st' kk => ?_
    obtain ⟨t, rfl⟩ := hv
    have I1 : Inv X pins σ H { s with heap := h', toks := tk } := I.turned (fun b o hb e => kk b o (by simpa using hb) e) f0 f1 f3 f4 f5
    refine ⟨_, rfl, go_of (s := { s with heap := h', toks := tk }) (n := "range_iterator") st' rfl rfl (by decide) ⟨.int (lo + i), H, I1, ⟨t, ?_⟩, ⟨rfl, rfl⟩, st', fun b hb => (hf b hb).1⟩⟩
    rw [Int.mul_one]
  done := by
    intro X hP hw hK hc i pins s σ H E I hf st hg
    subst hP hw hK
    obtain ⟨f0, f1, f2, f3, f4, f5⟩ := hf it (by simp)
    exact wpAny_pyNext_range_end (I.ok.hd hc) st (by have : n ≤ i := hg; omega) fun h' eb => ⟨rfl, I.turned (t' := s.toks) (fun b o hb e => eb b o hb e) f0 f1 f3 f4 f5⟩
  self := fun _ _ _ _ _ st h => wpAny_pyIter_rangeiter st h
end L2

namespace L2
open PySem PySem.Spec PyProof.Rows
section
variable {X : Cx} {tg : Expr}
def iList (K : PySem.W.Frag) (tl : TE) : TI := fun σ H R => tl σ H fun x H1 => ∃ a, x = .ref a ∧ (∃ xs, SqL K H1 a xs) ∧ R (Itl K a) H1
theorem pi_list {l : Expr} {tl : TE} (hl : PE X l tl) : PI X tg l (iList X.K tl) := by
  intro pins s σ H R I h
  refine thn (hl pins s σ H _ I h) fun v s1 hw' => ?_
  obtain ⟨x, H1, I1, r1, q1⟩ := hw'
  obtain ⟨a, e, ⟨xs, hq⟩, q⟩ := q1
  subst e
  cases r1
  obtain ⟨its, rv, p, hz⟩ := I1.list hq
  refine wpAny_pyIter_list p.isList ?_
  refine ⟨s1.heap.objs.size, [s1.heap.objs.size], _, _, H1, rfl, I1.kept (t' := s1.toks) fun b o e => Heap.get?_push_of_some _ e, turn_list a _, ⟨_, Heap.get?_push_size _ rfl, rfl, rfl⟩, fun b hb => ?_, q⟩
  have e : b = s1.heap.objs.size := by simpa using hb
  subst e
  exact I1.fpOk (Nat.le_refl _) (I1.hok.fresh (Nat.le_refl _))
/-- a range object just made, walked -/
theorem range_it {pins : List (Addr × Obj)} {σ : St} {H : Hp} {s : Shared} {R : It → Hp → Prop} {E : Value → Shared → Prop} {lo hi : Int} {t u v : Tok} {tk : Nat} (I : Inv X pins σ H s) (h1 : -(2 ^ 62) ≤ lo) (h2 : lo < 2 ^ 62) (h3 : -(2 ^ 62) ≤ hi) (h4 : hi < 2 ^ 62)
    (q : R (Itr lo (hi - lo).toNat) H) : wpAny (model X.prog X.w) X.A (pyIter (.ref s.heap.objs.size)) (PIE X pins σ tg R) E { s with heap := s.heap.push { cls := .type "range", data := .fields #[.int lo t, .int hi u, .int 1 v] }, toks := tk } := by
  refine wpAny_pyIter_range (IsRange.new ..) (small_one h1 h2 h3 h4) ?_
  have I1 : Inv X pins σ H { s with heap := s.heap.push { cls := .type "range", data := .fields #[.int lo t, .int hi u, .int 1 v] }, toks := tk } := I.kept fun b o e => Heap.get?_push_of_some _ e
  refine ⟨(s.heap.push { cls := .type "range", data := .fields #[.int lo t, .int hi u, .int 1 v] }).objs.size, [(s.heap.push { cls := .type "range", data := .fields #[.int lo t, .int hi u, .int 1 v] }).objs.size], _, _, H, rfl,
    I1.kept (t' := tk) fun b o e => Heap.get?_push_of_some _ e, turn_range _ lo (hi - lo).toNat, ?_, fun b hb => ?_, q⟩
  · have e1 : lo + ((0 : Nat) : Int) * 1 = lo := by simp
    have e2 : (((hi - lo).toNat : Nat) : Int) - ((0 : Nat) : Int) = Builtin.Range.rangeSize lo hi 1 := by rw [rangeSize_one]; split <;> omega
    show IsRangeIter _ _ (lo + ((0 : Nat) : Int) * 1) ((((hi - lo).toNat : Nat) : Int) - ((0 : Nat) : Int)) 1
    rw [e1, e2]
    exact Heap.get?_push_size _ rfl
  · have e : b = (s.heap.push { cls := .type "range", data := .fields #[.int lo t, .int hi u, .int 1 v] }).objs.size := by simpa using hb
    subst e
    exact I1.fpOk (Nat.le_refl _) (I1.hok.fresh (Nat.le_refl _))
def iRng1 (ta : TA) : TI := fun σ H R => ta σ H fun vs H1 => ∃ j : Int, vs = [.int j] ∧ -(2 ^ 62) ≤ j ∧ j < 2 ^ 62 ∧ R (Itr 0 j.toNat) H1
theorem pi_range1 {a : Expr} {ta : TA} {p pos : Pos} (hg : Gl X "range") (hm : X.mg "range" = none) (ha : PA X [a] ta) (hs : starEach [a] X.env = [(false, eval a X.env)] := by rfl) : PI X tg (.Call (.Name "range" p) [a] [] pos) (iRng1 ta) := by
  intro pins s σ H R I h
  refine Call_ (ld_blt I hg hm boot_range (PyProof.Rows.callWith_type1 (thn (ha pos pins s σ H _ I h) fun us s1 hw' => ?_) hs rfl))
  obtain ⟨vs, H1, I1, r1, q1⟩ := hw'
  obtain ⟨j, e, q1, q2, q⟩ := q1
  subst e
  cases r1 with
  | cons r rr =>
    cases rr
    obtain ⟨t, rfl⟩ := r
    exact call_range_1 (range_it I1 (by omega) (by omega) q1 q2 (by simpa using q))
/-! ### for -/
/-- W: the invariant by the turn and a measure; N: what the body is to reach -/
def tFor (wi : TI) (g : TG) (tb : TS) : TS := fun D σ H => wi σ H fun J H1 => ∃ W : Nat → Nat → St → Hp → Prop, (∃ m, W 0 m σ H1) ∧ ∀ i m σ H, W i m σ H →
  (J.stop i H ∧ D.nx σ H) ∨ (J.go i H ∧ ∃ N : St → Hp → Prop, (∀ σ' H', N σ' H' → ∃ m', m' < m ∧ W (i + 1) m' σ' H') ∧ ∀ x H', J.yld i H x H' → g x σ H' fun σ2 H2 => tb { D with nx := N, ct := N, bk := D.nx } σ2 H2)
/-- the records at fp as they stand -/
def pinsAt (fp : List Addr) (h : Heap) : List (Addr × Obj) := fp.filterMap fun b => (h.get? b).map fun o => (b, o)
theorem mem_pinsAt {fp : List Addr} {h : Heap} {b : Addr} {o : Obj} (hb : b ∈ fp) (e : h.get? b = some o) : (b, o) ∈ pinsAt fp h := List.mem_filterMap.mpr ⟨b, hb, by rw [e]; rfl⟩
theorem of_pinsAt {fp : List Addr} {h : Heap} {p : Addr × Obj} (hp : p ∈ pinsAt fp h) : p.1 ∈ fp ∧ h.get? p.1 = some p.2 := by
  obtain ⟨b, hb, e⟩ := List.mem_filterMap.mp hp
  cases q : h.get? b with
  | none => rw [q] at e; cases e
  | some o =>
    rw [q] at e
    have e' : (b, o) = p := Option.some.inj e
    subst e'
    exact ⟨hb, q⟩
theorem Inv.pinned {pins : List (Addr × Obj)} {σ : St} {H : Hp} {s : Shared} {fp : List Addr} (I : Inv X pins σ H s) (hf : ∀ b ∈ fp, FpOk X pins H b) (ho : ∀ b ∈ fp, ∃ o, s.heap.get? b = some o ∧ ∀ v, o.data ≠ .cell v) : Inv X (pins ++ pinsAt fp s.heap) σ H s :=
  I.pins_of fun p hp => (List.mem_append.mp hp).elim (fun z => I.pin p (List.mem_append_right _ z)) fun z => by
    obtain ⟨hb, e⟩ := of_pinsAt z
    obtain ⟨f0, f1, f2, _⟩ := hf p.1 hb
    obtain ⟨o, e', d⟩ := ho p.1 hb
    rw [e] at e'; cases e'
    exact ⟨e, f0, f1, f2, d⟩
theorem Inv.unpinned {pins pl : List (Addr × Obj)} {σ : St} {H : Hp} {s : Shared} (I : Inv X (pins ++ pl) σ H s) : Inv X pins σ H s := I.pins_of fun p hp => I.pin p (List.mem_append_right _ (List.mem_append_left _ hp))
theorem ps_for {iter : Expr} {body : List Stmt} {wi : TI} {g : TG} {tb : TS} {pos : Pos} (hp : PassesOwn (model X.prog X.w) X.A X.env X.xe) (hc : X.calm = true) (hi : PI X tg iter wi) (hg : PG X tg g) (hb : PSs X body tb)
    (hs : ∀ x, foldedSetIterable iter X.env x = pure x := by intro _; rfl) : PS X (.For tg iter body [] pos) (tFor wi g tb) := by
  intro pins s σ H D I h
  refine wpAny_For (thn (hi pins s σ H _ I h) fun v s1 h1 => thn h1 fun itv s2 h2 => ?_) hs
  obtain ⟨it, fp, tn, J, H2, e, I2, T, st2, f2, W, ⟨m0, w0⟩, turn⟩ := h2
  subst e
  -- what stays true of the iterator's objects through the loop
  have stat : ∀ {H' : Hp}, (∀ b ∈ fp, H' b = none) → ∀ b ∈ fp, FpOk X pins H' b := fun hn b hb => ⟨hn b hb, (f2 b hb).2⟩
  refine codeAny_forLoop_any (fun n s' => ∃ i σ' H', Inv X pins σ' H' s' ∧ tn i s'.heap ∧ (∀ b ∈ fp, H' b = none) ∧ W i n σ' H') ?_ m0 ⟨0, σ, H2, I2, st2, fun b hb => (f2 b hb).1, w0⟩
  rintro n s3 ⟨i, σ3, H3, I3, st3, fr3, w3⟩
  rcases turn i n σ3 H3 w3 with ⟨stop, qn⟩ | ⟨go, N, hN, step⟩
  · refine wpAny_passesOwn hp (thn (T.done X rfl rfl rfl hc i pins s3 σ3 H3 X.xe I3 (stat fr3) st3 stop) fun r s4 ⟨hr, I4⟩ => ?_)
    subst hr
    exact wpAny_execs_nil ⟨σ3, H3, I4, qn⟩
  · refine wpAny_passesOwn hp (thn (T.item X rfl rfl rfl hc i pins s3 σ3 H3 X.xe I3 (stat fr3) st3 go) fun r s4 ⟨u, hr, h4⟩ => ?_)
    subst hr
    refine wpAny_passesOwn hp (thn h4 fun _ s5 hw' => ?_)
    obtain ⟨x, H5, I5, r5, y5, st5, fr5⟩ := hw'
    have I5' := I5.pinned (stat fr5) (T.obj _ _ st5)
    refine wpAny_passesOwn hp (thn (hg _ s5 σ3 H5 x u _ I5' r5 (step x H5 y5)) fun _ s6 hw' => ?_)
    obtain ⟨σ6, H6, I6, q6⟩ := hw'
    refine wpAny_passesOwn hp (thn (hb _ s6 σ6 H6 _ I6 q6) fun f s7 q7 => ?_)
    have again : ∀ {σ7 : St} {H7 : Hp}, Inv X (pins ++ pinsAt fp s5.heap) σ7 H7 s7 → N σ7 H7 → ∃ m, m < n ∧ ∃ i σ' H', Inv X pins σ' H' s7 ∧ tn i s7.heap ∧ (∀ b ∈ fp, H' b = none) ∧ W i m σ' H' := fun {σ7 H7} I7 n7 => by
      obtain ⟨m', hm, w7⟩ := hN σ7 H7 n7
      refine ⟨m', hm, i + 1, σ7, H7, I7.unpinned, T.keep _ _ _ st5 fun b hb o e => (I7.pin (b, o) (List.mem_append_right _ (List.mem_append_right _ (mem_pinsAt hb e)))).1, fun b hb => ?_, w7⟩
      obtain ⟨o, e, d⟩ := T.obj _ _ st5 b hb
      exact (I7.pin (b, o) (List.mem_append_right _ (List.mem_append_right _ (mem_pinsAt hb e)))).2.1
    cases f with
    | next => obtain ⟨σ7, H7, I7, n7⟩ := q7; exact again I7 n7
    | cont => obtain ⟨σ7, H7, I7, n7⟩ := q7; exact again I7 n7
    | brk => obtain ⟨σ7, H7, I7, q7⟩ := q7; exact ⟨σ7, H7, I7.unpinned, q7⟩
    | ret v => obtain ⟨x7, σ7, H7, I7, r7, q7⟩ := q7; exact ⟨x7, σ7, H7, I7.unpinned, r7, q7⟩
end

end L2

namespace L2
open PySem PySem.Spec PyProof.Rows

abbrev R2 := V → V → Hp → VK → Prop
/-- a two-place operation on values: f is binaryOp op, inplaceOp op or compareOp op -/
def OpR (X : Cx) (f : Value → Value → Sem Value) (r : R2) : Prop :=
  ∀ (pins : List (Addr × Obj)) (s : Shared) (σ : St) (H : Hp) (x y : V) (v u : Value) (Q : VK), Inv X pins σ H s → RelV x v → RelV y u → r x y H Q →
    wpAny (model X.prog X.w) X.A (f v u) (EP X pins σ Q) X.xe s
/-- a one-place operation -/
def UnR (X : Cx) (f : Value → Sem Value) (r : V → Hp → VK → Prop) : Prop :=
  ∀ (pins : List (Addr × Obj)) (s : Shared) (σ : St) (H : Hp) (x : V) (v : Value) (Q : VK), Inv X pins σ H s → RelV x v → r x H Q →
    wpAny (model X.prog X.w) X.A (f v) (EP X pins σ Q) X.xe s
/-- a call of a value that is known (a builtin, a type) with values -/
def CallR (X : Cx) (f : Value) (r : List V → Hp → VK → Prop) : Prop :=
  ∀ (pins : List (Addr × Obj)) (s : Shared) (σ : St) (H : Hp) (xs : List V) (us : List Value) (Q : VK), Inv X pins σ H s → Vals xs us → r xs H Q →
    wpAny (model X.prog X.w) X.A (call f us) (EP X pins σ Q) X.xe s
def tOp (r : R2) (ta tb : TE) : TE := fun σ H Q => ta σ H fun x H1 => tb σ H1 fun y H2 => r x y H2 Q
def tUn (r : V → Hp → VK → Prop) (ta : TE) : TE := fun σ H Q => ta σ H fun x H1 => r x H1 Q
/-- ints in, under C, and a value out -/
def rI (C : Int → Int → Prop) (g : Int → Int → V) : R2 := fun x y H Q => ∃ i j, x = .int i ∧ y = .int j ∧ C i j ∧ Q (g i j) H
def rI0 (g : Int → Int → V) : R2 := fun x y H Q => ∃ i j, x = .int i ∧ y = .int j ∧ Q (g i j) H
def rU (g : Int → V) : V → Hp → VK → Prop := fun x H Q => ∃ i, x = .int i ∧ Q (g i) H

section
variable {X : Cx} {a b c : Expr} {ta tb tc : TE} {pos : Pos}

theorem binT (ha : PE X a ta) (hb : PE X b tb) {pins : List (Addr × Obj)} {s : Shared} {σ : St} {H : Hp} {R : V → V → Hp → Prop} (I : Inv X pins σ H s)
    (h : ta σ H fun x H1 => tb σ H1 fun y H2 => R x y H2) {Q : Value → Shared → Prop} {f : Value → Value → Sem Value}
    (hf : ∀ v u s2 x y H2, Inv X pins σ H2 s2 → RelV x v → RelV y u → R x y H2 → wpAny (model X.prog X.w) X.A (f v u) Q X.xe s2) :
    wpAny (model X.prog X.w) X.A (eval a X.env) (fun v s₁ => wpAny (model X.prog X.w) X.A (eval b X.env) (fun u s₂ => wpAny (model X.prog X.w) X.A (f v u) Q X.xe s₂) X.xe s₁) X.xe s := by
  refine thn (ha pins s σ H _ I h) fun v s1 hw' => ?_
  obtain ⟨x, H1, I1, r1, q1⟩ := hw'
  refine thn (hb pins s1 σ H1 _ I1 q1) fun u s2 hw' => ?_
  obtain ⟨y, H2, I2, r2, q2⟩ := hw'
  exact hf v u s2 x y H2 I2 r1 r2 q2

theorem pe_op {op : Operator} {r : R2} (ho : OpR X (binaryOp op) r) (ha : PE X a ta) (hb : PE X b tb) : PE X (.BinOp a op b pos) (tOp r ta tb) := by
  intro pins s σ H Q I h
  exact wpAny_BinOp (binT ha hb I h fun v u s2 x y H2 I2 rx ry q => ho pins s2 σ H2 x y v u Q I2 rx ry q)
theorem pe_un {op : UnaryOp} {r : V → Hp → VK → Prop} (ho : UnR X (unaryOp op) r) (ha : PE X a ta) : PE X (.UnaryOp op a pos) (tUn r ta) := by
  intro pins s σ H Q I h
  exact UnaryOp_ (thn (ha pins s σ H _ I h) fun v s1 ⟨x, H1, I1, r1, q1⟩ => ho pins s1 σ H1 x v Q I1 r1 q1)
/-! ### ints -/
theorem opI {f : Value → Value → Sem Value} {C : Int → Int → Prop} {g : Int → Int → Int}
    (rule : ∀ (i j : Int) (t u : Tok) (s : Shared) (Q : Value → Shared → Prop) (E : Value → Shared → Prop), C i j → Q (.int (g i j) s.toks) { s with toks := s.toks + 1 } → wpAny (model X.prog X.w) X.A (f (.int i t) (.int j u)) Q E s) :
    OpR X f (rI C fun i j => .int (g i j)) := by
  intro pins s σ H x y v u Q I rx ry h
  obtain ⟨i, j, rfl, rfl, hc, q⟩ := h
  obtain ⟨t, rfl⟩ := rx
  obtain ⟨t', rfl⟩ := ry
  exact rule i j t t' s _ _ hc ⟨.int (g i j), H, I.tok _, ⟨_, rfl⟩, q⟩
theorem opI0 {f : Value → Value → Sem Value} {g : Int → Int → Int}
    (rule : ∀ (i j : Int) (t u : Tok) (s : Shared) (Q : Value → Shared → Prop) (E : Value → Shared → Prop), Q (.int (g i j) s.toks) { s with toks := s.toks + 1 } → wpAny (model X.prog X.w) X.A (f (.int i t) (.int j u)) Q E s) :
    OpR X f (rI0 fun i j => .int (g i j)) := by
  intro pins s σ H x y v u Q I rx ry h
  obtain ⟨i, j, rfl, rfl, q⟩ := h
  obtain ⟨t, rfl⟩ := rx
  obtain ⟨t', rfl⟩ := ry
  exact rule i j t t' s _ _ ⟨.int (g i j), H, I.tok _, ⟨_, rfl⟩, q⟩
theorem opB0 {f : Value → Value → Sem Value} {g : Int → Int → Bool}
    (rule : ∀ (i j : Int) (t u : Tok) (s : Shared) (Q : Value → Shared → Prop) (E : Value → Shared → Prop), Q (.bool (g i j)) s → wpAny (model X.prog X.w) X.A (f (.int i t) (.int j u)) Q E s) :
    OpR X f (rI0 fun i j => .bl (g i j)) := by
  intro pins s σ H x y v u Q I rx ry h
  obtain ⟨i, j, rfl, rfl, q⟩ := h
  obtain ⟨t, rfl⟩ := rx
  obtain ⟨t', rfl⟩ := ry
  exact rule i j t t' s _ _ ⟨.bl (g i j), H, I, rfl, q⟩

def CDiv (i j : Int) : Prop := 0 < j ∧ j < 1073741824
def CMul (i j : Int) : Prop := (-(2 ^ 64) < i ∧ i < 2 ^ 64) ∨ (-(2 ^ 64) < j ∧ j < 2 ^ 64)
theorem CMul.ok {i j : Int} (h : CMul i j) : IntMulOk i j := by
  rcases h with ⟨h1, h2⟩ | ⟨h1, h2⟩
  · exact .of_left (intBits_le_64 h1 h2)
  · exact .of_right (intBits_le_64 h1 h2)
theorem op_add : OpR X (binaryOp .Add) (rI0 fun i j => .int (i + j)) := opI0 fun _ _ _ _ _ _ _ q => add_int q
theorem op_sub : OpR X (binaryOp .Sub) (rI0 fun i j => .int (i - j)) := opI0 fun _ _ _ _ _ _ _ q => sub_int q
theorem op_mul : OpR X (binaryOp .Mult) (rI CMul fun i j => .int (i * j)) := opI fun _ _ _ _ _ _ _ hc q => mul_int q hc.ok
/-- // by a positive divisor -/
theorem op_fdiv : OpR X (binaryOp .FloorDiv) (rI CDiv fun i j => .int (i / j)) := opI fun i j _ _ _ _ _ hc q => by
  have h1 : (0 : Int) < j := hc.1
  have h2 : j < 1073741824 := hc.2
  exact floordiv_int (by omega) (by rw [Int.fdiv_eq_ediv_of_nonneg i (by omega)]; exact q) (.inl (PyProof.noPylong_small (by omega)))
/-- % by a positive divisor of any size -/
theorem op_mod : OpR X (binaryOp .Mod) (rI (fun _ j => 0 < j) fun i j => .int (i % j)) := opI fun i j _ _ _ _ _ hc q => by
  have h1 : (0 : Int) < j := hc
  exact mod_int' (by omega) (by rw [Int.fmod_eq_emod_of_nonneg i (by omega)]; exact q)
theorem unI {f : Value → Sem Value} {g : Int → Int}
    (rule : ∀ (i : Int) (t : Tok) (s : Shared) (Q : Value → Shared → Prop) (E : Value → Shared → Prop), Q (.int (g i) s.toks) { s with toks := s.toks + 1 } → wpAny (model X.prog X.w) X.A (f (.int i t)) Q E s) :
    UnR X f (rU fun i => .int (g i)) := by
  intro pins s σ H x v Q I rx h
  obtain ⟨i, rfl, q⟩ := h
  obtain ⟨t, rfl⟩ := rx
  exact rule i t s _ _ ⟨.int (g i), H, I.tok _, ⟨_, rfl⟩, q⟩
theorem un_neg : UnR X (unaryOp .USub) (rU fun i => .int (-i)) := unI fun _ _ _ _ _ q => neg_int q
end

section
variable {X : Cx} {a b c : Expr} {ta tb tc : TE} {pos : Pos}
theorem op_lt : OpR X (compareOp .Lt) (rI0 fun i j => .bl (decide (i < j))) := opB0 fun _ _ _ _ _ _ _ q => lt_int q
theorem op_le : OpR X (compareOp .LtE) (rI0 fun i j => .bl (decide (i ≤ j))) := opB0 fun _ _ _ _ _ _ _ q => le_int q
theorem op_gt : OpR X (compareOp .Gt) (rI0 fun i j => .bl (decide (j < i))) := opB0 fun _ _ _ _ _ _ _ q => gt_int q
/-- two rules for one operation: by cases -/
theorem OpR.or {f : Value → Value → Sem Value} {r r' : R2} (h : OpR X f r) (h' : OpR X f r') : OpR X f (fun x y H Q => r x y H Q ∨ r' x y H Q) := by
  intro pins s σ H x y v u Q I rx ry q
  rcases q with q | q
  · exact h pins s σ H x y v u Q I rx ry q
  · exact h' pins s σ H x y v u Q I rx ry q

theorem nomark (b : Expr) {op : CmpOp} (h : op ≠ .In := by decide) (h2 : op ≠ .NotIn := by decide) : behindInMarks op b = false := by
  have e1 : (op == CmpOp.In) = false := by cases op <;> first | rfl | exact absurd rfl h
  have e2 : (op == CmpOp.NotIn) = false := by cases op <;> first | rfl | exact absurd rfl h2
  cases b <;> simp [behindInMarks, e1, e2]
/-- a comparison as a value; hm: nomark b, or (for in, not in) by with_unfolding_all rfl -/
theorem pe_cmpR {op : CmpOp} {r : R2} (ho : OpR X (compareOp op) r) (ha : PE X a ta) (hb : PE X b tb) (hm : behindInMarks op b = false) : PE X (.Compare a [op] [b] pos) (tOp r ta tb) := by
  intro pins s σ H Q I h
  exact wpAny_Compare1 (binT ha hb I h fun v u s2 x y H2 I2 rx ry q => ho pins s2 σ H2 x y v u Q I2 rx ry q) hm
/-- a reading of a value as a test -/
def tTest (t : TE) : TT := fun σ H Q => t σ H fun x H' => ∃ k, x = .bl k ∧ Q k H'
theorem pt_cmpR {op : CmpOp} {r : R2} (ho : OpR X (compareOp op) r) (ha : PE X a ta) (hb : PE X b tb) (hm : behindInMarks op b = false) : PT X (.Compare a [op] [b] pos) (tTest (tOp r ta tb)) := by
  intro pins s σ H Q I h
  refine wpAny_isTrue_Compare1 (thn (ha pins s σ H _ I h) fun v s1 ⟨x, H1, I1, r1, q1⟩ => thn (hb pins s1 σ H1 _ I1 q1) fun u s2 ⟨y, H2, I2, r2, q2⟩ =>
    thn (ho pins s2 σ H2 x y v u _ I2 r1 r2 q2) fun c s3 hw' => ?_) hm
  obtain ⟨z, H3, I3, r3, k, e, q3⟩ := hw'
  subst e
  cases r3
  exact wpAny_truthy_bool ⟨H3, I3, q3⟩
theorem line63 : (sizeLine : Nat) < 2 ^ 63 := by rw [sizeLine_eq]; decide
theorem op_add_str : OpR X (binaryOp .Add) (fun x y H Q => ∃ i j, x = .str i ∧ y = .str j ∧ i.length + j.length ≤ sizeLine ∧ Q (.str (i ++ j)) H) := by
  intro pins s σ H x y v u Q I rx ry h
  obtain ⟨i, j, rfl, rfl, hz, q⟩ := h
  obtain ⟨t, rfl⟩ := rx
  obtain ⟨t', rfl⟩ := ry
  exact add_str (fun t' tk => ⟨.str (i ++ j), H, I.tok _, ⟨_, rfl⟩, q⟩) hz
/-! ### scalar builtins, by CallR -/
theorem vals1 {x : V} {us : List Value} (r : Vals [x] us) : ∃ u, us = [u] ∧ RelV x u := by
  cases r with
  | cons r1 r2 => cases r2; exact ⟨_, rfl, r1⟩
theorem vals2 {x y : V} {us : List Value} (r : Vals [x, y] us) : ∃ u w', us = [u, w'] ∧ RelV x u ∧ RelV y w' := by
  cases r with
  | cons r1 r2 =>
    cases r2 with
    | cons r3 r4 => cases r4; exact ⟨_, _, rfl, r1, r3⟩
theorem call_max2 (hc : X.calm = true) : CallR X (.builtin "max") (fun xs H Q => ∃ i j, xs = [.int i, .int j] ∧ Q (.int (if j > i then j else i)) H) := by
  intro pins s σ H xs us Q I r h
  obtain ⟨i, j, rfl, q⟩ := h
  obtain ⟨u, w', rfl, ⟨t, rfl⟩, ⟨t', rfl⟩⟩ := vals2 r
  refine max_two_ints (I.ok.hd hc) fun h' tk k => ⟨_, H, I.kept k, ?_, q⟩
  by_cases hj : j > i
  · rw [if_pos hj, if_pos hj]; exact ⟨_, rfl⟩
  · rw [if_neg hj, if_neg hj]; exact ⟨_, rfl⟩
theorem call_int1 : CallR X (.type "int") (fun xs H Q => (∃ i, xs = [.int i] ∧ Q (.int i) H) ∨ ∃ k, xs = [.bl k] ∧ Q (.int (if k then 1 else 0)) H) := by
  intro pins s σ H xs us Q I r h
  rcases h with ⟨i, rfl, q⟩ | ⟨k, rfl, q⟩
  · obtain ⟨u, rfl, t, rfl⟩ := vals1 r
    exact call_int_int ⟨.int i, H, I, ⟨_, rfl⟩, q⟩
  · obtain ⟨u, rfl, r1⟩ := vals1 r
    cases r1
    exact call_int_bool ⟨.int (if k then 1 else 0), H, I.tok _, ⟨_, rfl⟩, q⟩
theorem call_str_int : CallR X (.type "str") (fun xs H Q => ∃ i, xs = [.int i] ∧ i.natAbs.log2 < 1920 ∧ Q (.str (toString i)) H) := by
  intro pins s σ H xs us Q I r h
  obtain ⟨i, rfl, hz, q⟩ := h
  obtain ⟨u, rfl, t, rfl⟩ := vals1 r
  exact PySem.P.str_of_int hz ⟨.str _, H, I.tok _, ⟨_, rfl⟩, q⟩
end
end L2

namespace L2
open PySem PySem.Spec PyProof.Rows

/-! ### an instance, its attributes a map -/
structure ObjM (h : Heap) (x dx C : Addr) (mA : Str → Option Value) : Prop where
  obj : h.get? x = some (PySem.W.instObj C dx)
  ns : h.Ns1 dx mA
  ne : dx ≠ x

theorem lookIn_ns {h : Heap} {dx : Addr} {mA : Str → Option Value} (n : h.Ns1 dx mA) : ∃ od, h.get? dx = some od ∧ ∀ name, PySem.W.lookIn name od = some (mA name) := by
  obtain ⟨o, es, ep, ho, hd, hk, _, hm⟩ := n
  refine ⟨o, ho, fun name => ?_⟩
  have e := hm name
  unfold nsFind findBy at e
  rw [← Array.find?_toList] at e
  unfold PySem.W.lookIn
  rw [hd]
  dsimp only
  split
  · rename_i y q
    rw [q] at e
    exact congrArg some e
  · rename_i q
    rw [q] at e
    have a : es.toList.any (·.refKey) = false := by
      rw [List.any_eq_false]
      intro y hy
      obtain ⟨z, t, hkey⟩ := hk y (Array.mem_toList_iff.mp hy)
      simp [DictEntry.refKey, hkey]
    have a' : ¬ es.toList.any (·.refKey) = true := by rw [a]; exact Bool.false_ne_true
    rw [if_neg a']
    exact congrArg some e

theorem ObjM.look {h : Heap} {x dx C : Addr} {mA : Str → Option Value} (I : ObjM h x dx C mA) : ∃ od, PySem.W.InstAt h x (PySem.W.instObj C dx) C (some od) ∧ ∀ name, PySem.W.lookIn name od = some (mA name) :=
  let ⟨od, ho, hl⟩ := lookIn_ns I.ns
  ⟨od, ⟨I.obj, rfl, rfl, ho⟩, hl⟩

section
variable {prog : Program} {w : World} {A : Around} {E : Value → Shared → Prop} {s : Shared} {K : PySem.W.Frag} {x dx C f : Addr} {mA : Str → Option Value} {name : Str} {v : Value}

end

section
variable {P : Program} {w : World} {H H' : Hp} {h h' : Heap} {a C dx : Addr} {fs fs' : List (Str × V)}
end

/-! ### what of the text a class must have -/
structure Cls (K : PySem.W.Frag) (C : Addr) : Prop where
  pg : PySem.W.plainGet K C Str.empty = true
  hd : PySem.W.hasDictIn K C = true
  po : PySem.W.plainOver K C = true
  sa : PySem.W.findIn K (.ref C) "__setattr__" = some (some (.builtin "object.__setattr__"))
theorem Cls.get {K : PySem.W.Frag} {C : Addr} (c : Cls K C) (f : Str) : PySem.W.plainGet K C f = true := c.pg
/-- a constant of the class -/
structure Con (K : PySem.W.Frag) (C : Addr) (f : Str) (v : V) (u : Value) : Prop where
  at_ : PySem.W.findIn K (.ref C) f = some (some u)
  rel : RelV v u
  get : PySem.W.specialIn K u "__get__" = some none
  cp : PySem.W.copiedNames.contains f = false
/-- a method: a plain def of the class or of one above it -/
structure Meth (K : PySem.W.Frag) (C : Addr) (m : Str) (f : Addr) : Prop where
  at_ : PySem.W.findIn K (.ref C) m = some (some (.ref f))
  fn : PySem.W.isFn K (.ref f) = true
  kp : PySem.W.keepIn K (.ref f) = true

section
variable {X : Cx} {pins : List (Addr × Obj)} {σ : St} {H : Hp} {s : Shared} {a C dx : Addr} {fs : List (Str × V)} {f : Str} {v : V} {A : Around} {E : Value → Shared → Prop}

/-- a new instance, tracked, without attributes -/
theorem Inv.made (I : Inv X pins σ H s) : Inv X pins σ (upd (upd H s.heap.objs.size (.own (s.heap.objs.size + 1))) (s.heap.objs.size + 1) (.ins C s.heap.objs.size []))
    { s with heap := (s.heap.push PySem.W.emptyDict).push (PySem.W.instObj C s.heap.objs.size) } := by
  have e1 : (s.heap.push PySem.W.emptyDict).get? s.heap.objs.size = some PySem.W.emptyDict := Heap.get?_push_size s.heap rfl
  have e2 : ((s.heap.push PySem.W.emptyDict).push (PySem.W.instObj C s.heap.objs.size)).get? (s.heap.objs.size + 1) = some (PySem.W.instObj C s.heap.objs.size) := by
    have := Heap.get?_push_size (s.heap.push PySem.W.emptyDict) (o := PySem.W.instObj C s.heap.objs.size) rfl
    rwa [Heap.size_push] at this
  have e3 : (s.heap.push PySem.W.emptyDict).Ns s.heap.objs.size (fun _ => none) := ⟨PySem.W.emptyDict, #[], _, e1, rfl, (fun e he => absurd he (by simp)), fun _ => rfl⟩
  have I1 := I.laid (a := s.heap.objs.size) (o := .own (s.heap.objs.size + 1)) (h' := s.heap.push PySem.W.emptyDict) (t' := s.toks) (fun b u q => Heap.get?_push_of_some _ q) (Nat.le_refl _) ⟨_, e1⟩
  refine I1.laid (a := s.heap.objs.size + 1) (o := .ins C s.heap.objs.size []) (t' := s.toks) (fun b u q => Heap.get?_push_of_some _ q) (Nat.le_of_eq (Heap.size_push _ _)) ?_
  have ne : s.heap.objs.size ≠ s.heap.objs.size + 1 := Nat.ne_of_lt (Nat.lt_succ_self _)
  refine ⟨by rw [upd_ne ne, upd_same], Nat.zero_le _, ne, e2, fun _ => none, (Heap.Ns1.of_empty e3).at fun o q => Heap.get?_push_of_some _ q, fun _ => True.intro, fun y hy => absurd rfl hy⟩

end

section
variable {X : Cx} {o e value : Expr} {f : Str} {pos pos' tpos : Pos} {ta tv : TE}
end

/-! ### isinstance -/
section
variable {X : Cx} {pins : List (Addr × Obj)} {σ : St} {H : Hp} {s : Shared} {A : Around} {E : Value → Shared → Prop} {Q : Value → Shared → Prop} {c : Value} {b : Bool}
/-- the type of a value, as the fragment's deciders take it; for an instance its class -/
inductive TyOf (K : PySem.W.Frag) (H : Hp) : V → Value → Prop where
  | non : TyOf K H .non (.type "NoneType")
  | bl (x : Bool) : TyOf K H (.bl x) (.type "bool")
  | int (i : Int) : TyOf K H (.int i) (.type "int")
  | str (x : Str) : TyOf K H (.str x) (.type "str")
  | flt (x : UInt64) : TyOf K H (.flt x) (.type "float")
  | lst {a : Addr} {xs : List V} (e : H a = some (.lst xs)) : TyOf K H (.ref a) (.type "list")
  | frz {a : Addr} {o : Obj} {xs : List V} (e : H a = some (.frz o (.lst xs))) : TyOf K H (.ref a) (.type "list")
  | tup {a : Addr} {xs : List V} (e : H a = some (.tup xs)) : TyOf K H (.ref a) (.type "tuple")
  | dK {a : Addr} {kvs : List (Key × V)} (e : H a = some (.dK kvs)) : TyOf K H (.ref a) (.type "dict")
  | dT {a : Addr} {kvs : List (List Key × V)} (e : H a = some (.dT kvs)) : TyOf K H (.ref a) (.type "dict")
  | ins {a C dx : Addr} {fs : List (Str × V)} (e : H a = some (.ins C dx fs)) (cl : Cls K C) (ha : PySem.W.findIn K (.ref C) "__class__" = some (some (.builtin "object.__class__")))
      (hn : PySem.W.specialIn K (.builtin "object.__class__") "__get__" = some (some (.builtin "getset_descriptor.__get__"))) (htk : PySem.W.takesIn K (.builtin "object.__class__") = some true)
      (hm : PySem.W.mroIn K C (.type "object") = some true) : TyOf K H (.ref a) (.ref C)
end
end L2

namespace L2
open PySem PySem.Spec PyProof.Rows

/-! ### room -/
structure Room (k : Nat) (A : Around) : Prop where
  hd : A.handled = none
  dp : A.depth + 3 * k + 5 < recursionLimit
  un : A.units + 16 * k + 200 < cLine
  gd : A.guards = some [] := by rfl
theorem Room.mono {j k : Nat} {A : Around} (r : Room k A) (h : j ≤ k) : Room j A := ⟨r.hd, by have := r.dp; omega, by have := r.un; omega, r.gd⟩
theorem Room.deeper {k : Nat} {A : Around} (r : Room (k + 1) A) (env : Env) : Room k (A.deeper env) :=
  ⟨r.hd, by have := r.dp; show A.depth + 1 + 3 * k + 5 < _; omega, by have := r.un; show A.units + 3 + 16 * k + 200 < _; omega, r.gd⟩
theorem Room.in1 {k : Nat} {A : Around} (r : Room (k + 1) A) : Room k A.in1 :=
  ⟨r.hd, by have := r.dp; show A.depth + 3 * k + 5 < _; omega, by have := r.un; show A.units + 1 + 16 * k + 200 < _; omega, r.gd⟩
theorem make_depth {A : Around} {C : Addr} {us : List Value} {kw : List (Str × Value)} : (A.under (.builtin "type.__call__" ⟨.ref C :: us, kw⟩)).depth = A.depth + 1 := by
  first | rfl | simp [Around.under, Code.weight, Code.isCreation, Code.isGuard, Code.isCaller, Code.frames, Code.isFrame, guardIds]
theorem make_units {A : Around} {C : Addr} {us : List Value} {kw : List (Str × Value)} : (A.under (.builtin "type.__call__" ⟨.ref C :: us, kw⟩)).units = A.units + 1 := by
  first | rfl | simp [Around.under, Code.cUnits, Code.frames, Code.isFrame]
theorem Room.make {k : Nat} {A : Around} (r : Room (k + 1) A) (C : Addr) (us : List Value) (kw : List (Str × Value)) : Room k (A.under (.builtin "type.__call__" ⟨.ref C :: us, kw⟩)) :=
  ⟨r.hd, by have := r.dp; rw [make_depth]; omega, by have := r.un; rw [make_units]; omega, by first | exact r.gd | simpa [Around.under, Code.isGuard, Code.frames, Code.isFrame, guardIds] using r.gd⟩
theorem Room.depth {k : Nat} {A : Around} (r : Room k A) : A.depth < recursionLimit := by have := r.dp; omega
theorem Room.units {k : Nat} {A : Around} (r : Room k A) : A.units + 64 < cLine := by have := r.un; omega
/-! ### argument lists and displays -/
def tNil : TA := fun _ H Q => Q [] H
def tCons (ta : TE) (tr : TA) : TA := fun σ H Q => ta σ H fun x H1 => tr σ H1 fun xs H2 => Q (x :: xs) H2
section
variable {X : Cx} {e : Expr} {es : List Expr} {te : TE} {t : TA} {pos : Pos}
theorem pa_nil : PA X [] tNil := fun _ _ _ _ H Q I h => Calls.spliced_nil ⟨[], H, I, .nil, h⟩
theorem pa_cons (ha : PE X e te) (hr : PA X es t) (hs : starEach (e :: es) X.env = (false, eval e X.env) :: starEach es X.env := by rfl) : PA X (e :: es) (tCons te t) := by
  intro pos pins s σ H Q I h
  rw [hs]
  show wpAny _ _ (spliced ((false, eval e X.env) :: backTo pos (starEach es X.env))) _ _ s
  refine Calls.spliced_cons (thn (ha pins s σ H _ I h) fun u s1 hw' => ?_)
  obtain ⟨x, H1, I1, r1, q1⟩ := hw'
  exact thn (hr pos pins s1 σ H1 _ I1 q1) fun us s2 ⟨xs, H2, I2, r2, q2⟩ => ⟨x :: xs, H2, I2, .cons r1 r2, q2⟩

/-- a tuple, a list of written items -/
def tTup (t : TA) : TE := fun σ H Q => t σ H fun xs H1 => xs.length ≤ sizeLine ∧ ∀ p, H1 p = none → Q (.ref p) (upd H1 p (.tup xs))
def tLst (t : TA) : TE := fun σ H Q => t σ H fun xs H1 => xs.length ≤ sizeLine ∧ ∀ p, H1 p = none → Q (.ref p) (upd H1 p (.lst xs))
theorem pe_tup {x1} (h : PA X es t) : PE X (.Tuple es x1 pos) (tTup t) := by
  intro pins s σ H Q I hq
  refine wpAny_Tuple_spliced (thn (h pos pins s σ H _ I hq) fun us s1 ⟨xs, H1, I1, r, z, q⟩ => ⟨by rw [← r.length]; exact z, ?_⟩)
  have hf : H1 s1.heap.objs.size = none := I1.hok.fresh (Nat.le_refl _)
  refine ⟨.ref s1.heap.objs.size, upd H1 s1.heap.objs.size (.tup xs), I1.laid (t' := s1.toks) (fun b u e => Heap.get?_push_of_some _ e) (Nat.le_refl _) ?_, rfl, q _ hf⟩
  exact ⟨z, us, r, ⟨_, Heap.get?_push_size _ rfl, rfl, _, rfl⟩⟩
theorem pe_lst (h : PA X es t) : PE X (.List es pos) (tLst t) := by
  intro pins s σ H Q I hq
  refine wpAny_List_spliced (thn (h pos pins s σ H _ I hq) fun us s1 ⟨xs, H1, I1, r, z, q⟩ => ⟨by rw [← r.length]; exact z, ?_⟩)
  have hf : H1 s1.heap.objs.size = none := I1.hok.fresh (Nat.le_refl _)
  refine ⟨.ref s1.heap.objs.size, upd H1 s1.heap.objs.size (.lst xs), I1.laid (t' := s1.toks) (fun b u e => Heap.get?_push_of_some _ e) (Nat.le_refl _) ?_, rfl, q _ hf⟩
  exact ⟨z, us, 0, r, Heap.get?_push_size _ rfl⟩
end

/-! ### what a def promises -/
/-- a def's promise: the bound arguments in the parameters' order, the heap, the wanted end, the wanted exception -/
abbrev Sp := List V → Hp → VK → XK → Prop
/-- how an exception lies behind a call (file 08 gives it): the callers' frames, abstract heap and state ahead of the call, the wish, the exception, the state -/
abbrev CXT := List Env → Hp → Shared → XK → Value → Shared → Prop

/-- the state at a call -/
structure Env0 (P : Program) (w : World) (K : PySem.W.Frag) (mg : Str → Option Value) (base : Heap) (A : Around) (outer : List Env) (s : Shared) (H : Hp) : Prop where
  frames : A.frames = some outer
  mod : Mod K mg base
  bs : ∀ b o, base.get? b = some o → s.heap.get? b = some o ∧ H b = none
  bsz : base.objs.size ≤ s.heap.objs.size
  funs : s.heap.FunFrames base outer
  frf : ∀ b ∈ frs outer, H b = none
  hok : HOk P w H s.heap
  bare : AllBare s.gens
/-- a call's end -/
def CE (outer : List Env) (P : Program) (w : World) (H : Hp) (s : Shared) (Q : VK) (u : Value) (s' : Shared) : Prop :=
  ∃ v H', s'.os = s.os ∧ AllBare s'.gens ∧ Un (frs outer) [] H H' s.heap s'.heap ∧ HOk P w H' s'.heap ∧ RelV v u ∧ Q v H'
def CR (CX : CXT) (outer : List Env) (P : Program) (w : World) (H : Hp) (s : Shared) (Q : VK) (E : XK) (r : Result) (s' : Shared) : Prop :=
  match r with
  | .ok (.ret u) => CE outer P w H s Q u s'
  | .ok _ => False
  | .error e => CX outer H s E e s'
structure FnOk (P : Program) (w : World) (K : PySem.W.Frag) (mg : Str → Option Value) (base : Heap) (CX : CXT) (k : Nat) (f : Addr) (fd : FuncData) (ps : List Str) (sp : Sp) : Prop where
  len : ∀ vs H Q E, sp vs H Q E → vs.length = ps.length
  run : ∀ (A : Around) (outer : List Env) (s : Shared) (H : Hp) (args : Args) (us : List Value) (vs : List V) (Q : VK) (E : XK), Room k A → Env0 P w K mg base A outer s H → BindsTo s fd args (ps.zip us) → Vals vs us → sp vs H Q E →
    codeAny (model P w) A (.call (.ref f) args) (CR CX outer P w H s Q E) s
theorem FnOk.mono {P : Program} {w : World} {K : PySem.W.Frag} {mg : Str → Option Value} {base : Heap} {CX : CXT} {j k : Nat} {f : Addr} {fd : FuncData} {ps : List Str} {sp : Sp} (F : FnOk P w K mg base CX j f fd ps sp) (h : j ≤ k) :
    FnOk P w K mg base CX k f fd ps sp := ⟨F.len, fun A outer s H args us vs Q E hr => F.run A outer s H args us vs Q E (hr.mono h)⟩
/-- a weaker promise -/
theorem FnOk.imp {P : Program} {w : World} {K : PySem.W.Frag} {mg : Str → Option Value} {base : Heap} {CX : CXT} {k : Nat} {f : Addr} {fd : FuncData} {ps : List Str} {sp sp' : Sp} (F : FnOk P w K mg base CX k f fd ps sp)
    (h : ∀ vs H Q E, sp' vs H Q E → sp vs H Q E) : FnOk P w K mg base CX k f fd ps sp' :=
  ⟨fun vs H Q E q => F.len vs H Q E (h _ _ _ _ q), fun A outer s H args us vs Q E hr he hb hv hs => F.run A outer s H args us vs Q E hr he hb hv (h _ _ _ _ hs)⟩

theorem Env0.make {P : Program} {w : World} {K : PySem.W.Frag} {mg : Str → Option Value} {base : Heap} {A : Around} {outer : List Env} {s : Shared} {H : Hp} (e : Env0 P w K mg base A outer s H) (C : Addr) (us : List Value) (kw : List (Str × Value)) :
    Env0 P w K mg base (A.under (.builtin "type.__call__" ⟨.ref C :: us, kw⟩)) outer s H := ⟨by first | exact e.frames | (simpa [Around.under, Code.envs, Code.isFrame, pushEnvs] using e.frames), e.mod, e.bs, e.bsz, e.funs, e.frf, e.hok, e.bare⟩
theorem Env0.in1 {P : Program} {w : World} {K : PySem.W.Frag} {mg : Str → Option Value} {base : Heap} {A : Around} {outer : List Env} {s : Shared} {H : Hp} (e : Env0 P w K mg base A outer s H) :
    Env0 P w K mg base A.in1 outer s H := ⟨e.frames, e.mod, e.bs, e.bsz, e.funs, e.frf, e.hok, e.bare⟩

section
variable {X : Cx} {pins : List (Addr × Obj)} {σ : St} {H : Hp} {s s' : Shared}
/-- from a body: what a callee wants -/
theorem Inv.env0 (I : Inv X pins σ H s) : Env0 X.prog X.w X.K X.mg X.base X.A X.stack s H :=
  ⟨I.ok.frames, I.ok.mod, I.bs, Nat.le_trans I.ok.bsz I.sz, I.stack, I.stkFree, I.hok, I.bare⟩
/-- behind a call -/
theorem Inv.after {Q : VK} {u : Value} (I : Inv X pins σ H s) (h : CE X.stack X.prog X.w H s Q u s') : EP X pins σ Q u s' := by
  obtain ⟨v, H', os, bare, un, hok, r, q⟩ := h
  obtain ⟨hh, g, d, t, os'⟩ := s'
  obtain rfl : os' = s.os := os
  exact ⟨v, H', I.call (h' := hh) (g' := g) (d' := d) (t' := t) (ch := []) un hok bare (fun b z => absurd z (by simp)), r, q⟩
end

/-! ### calls -/
/-- f(..): the written arguments, then the defaults dvs; E: what is wanted of an exception -/
def tCall (sp : Sp) (dvs : List V) (E : XK) (t : TA) : TE := fun σ H Q => t σ H fun vs H1 => sp (vs ++ dvs) H1 Q E
/-- how the parameters are bound: us the positional arguments, kw the keywords' values by name, ds the defaults that fill up -/
def Binds (K : PySem.W.Frag) (fd : FuncData) (ps : List Str) (ds : List Value) : Prop :=
  ∀ (s : Shared) (us : List Value), K.In s.heap → (us ++ ds).length = ps.length → BindsTo s fd ⟨us, []⟩ (ps.zip (us ++ ds))
/-- every parameter is given -/
theorem Binds.all {K : PySem.W.Frag} {fd : FuncData} {ps : List Str} (h : ∀ us : List Value, us.length = ps.length → bindArgs fd ⟨us, []⟩ = pure (ps.zip us)) : Binds K fd ps [] := fun s us _ hl => by
  rw [List.append_nil] at hl ⊢
  exact .of_eq (h us hl)

/-- an exception of a callee reaches what this body wants of exceptions -/
def Passes (CX : CXT) (X : Cx) (E : XK) : Prop := ∀ (pins : List (Addr × Obj)) (σ : St) (H : Hp) (s : Shared) (e : Value) (s' : Shared), Inv X pins σ H s → CX X.stack H s E e s' → X.xe e s'

section
variable {X : Cx} {CX : CXT} {k : Nat} {f C : Addr} {fd : FuncData} {ps : List Str} {sp : Sp} {dvs : List V} {ds : List Value} {E : XK} {x m : Str} {p pos apos : Pos} {e o : Expr} {es : List Expr} {ta : TE} {t : TA}

/-- the callee runs -/
theorem run_fn {pins : List (Addr × Obj)} {σ : St} {H : Hp} {s : Shared} {Q : VK} {us : List Value} {vs : List V} (F : FnOk X.prog X.w X.K X.mg X.base CX k f fd ps sp) (hr : Room k X.A) (hb : Binds X.K fd ps ds) (hd : Vals dvs ds) (hx : Passes CX X E)
    (I : Inv X pins σ H s) (r : Vals vs us) (h : sp (vs ++ dvs) H Q E) : wpAny (model X.prog X.w) X.A (call (.ref f) us) (EP X pins σ Q) X.xe s := by
  have r2 : Vals (vs ++ dvs) (us ++ ds) := r.append hd
  have hl : (us ++ ds).length = ps.length := by rw [← r2.length]; exact F.len _ _ _ _ h
  refine wpAny_call (codeAny_mono (F.run X.A X.stack s H ⟨us, []⟩ (us ++ ds) (vs ++ dvs) Q E hr I.env0 (hb s us I.kIn hl) r2 h) fun r s' hq => ?_)
  cases r with
  | error e => exact hx pins σ H s e s' I hq
  | ok fl =>
    cases fl with
    | ret u => exact I.after hq
    | next => exact False.elim hq
    | brk => exact False.elim hq
    | cont => exact False.elim hq

theorem pe_call (F : FnOk X.prog X.w X.K X.mg X.base CX k f fd ps sp) (hr : Room k X.A) (hg : Gl X x) (hm : X.mg x = some (.ref f)) (hk : PySem.W.keepIn X.K (.ref f) = true) (hb : Binds X.K fd ps ds) (hd : Vals dvs ds) (hx : Passes CX X E)
    (ha : PA X (e :: es) t) (hdb : (x == ("__debug__" : Str)) = false := by decide) (he : starEach (e :: es) X.env = (false, eval e X.env) :: starEach es X.env := by rfl) (hpl : (backTo pos (starEach es X.env)).any (·.1) = false := by rfl) :
    PE X (.Call (.Name x p) (e :: es) [] pos) (tCall sp dvs E t) := by
  intro pins s σ H Q I h
  refine wpAny_Call_Name_kw (ld_glob I hg hm ?_ hdb)
  refine PySem.W.callWith_K (h₀ := X.base) I.ok.mod.kin hk (thn (ha pos pins s σ H _ I h) fun us s1 ⟨vs, H1, I1, r, q⟩ => ⟨I1.kIn, ?_⟩) he hpl
  exact run_fn F hr hb hd hx I1 r q
/-- what a class must have to be made -/
structure Mk (K : PySem.W.Frag) (C f : Addr) : Prop where
  makes : PySem.W.makesIn K C = true
  init : PySem.W.findIn K (.ref C) "__init__" = some (some (.ref f))
  fn : PySem.W.isFn K (.ref f) = true
  kp : PySem.W.keepIn K (.ref C) = true

end

section
variable {X : Cx} {CX : CXT} {k : Nat} {f C : Addr} {fd : FuncData} {ps ks : List Str} {sp : Sp} {E : XK} {x m : Str} {p pos apos kpos : Pos} {e o : Expr} {es : List Expr} {kws : List Keyword} {te ta : TE} {t tk : TA} {nm : Option Str}
/-- how a call with keywords binds: g puts the positional values us and the keywords' values ws (names ks) in the parameters' order, defaults among them -/
structure KBinds (K : PySem.W.Frag) (fd : FuncData) (ps ks : List Str) (g : List Value → List Value → List Value) (gV : List V → List V → List V) : Prop where
  to : ∀ (s : Shared) (us ws : List Value), K.In s.heap → (g us ws).length = ps.length → BindsTo s fd ⟨us, ks.zip ws⟩ (ps.zip (g us ws))
  rel : ∀ {vs : List V} {us : List Value} {zs : List V} {ws : List Value}, Vals vs us → Vals zs ws → Vals (gV vs zs) (g us ws)
variable {g : List Value → List Value → List Value} {gV : List V → List V → List V}
end

/-! ### a def's body keeps its promise -/
/-- names: the parameters first -/
structure FnScope (N P : List Str) (sc : Scope) : Prop where
  kind : sc.kind = .function
  co : sc.isCoroutine = false
  gen : sc.isGenerator = false
  nd : N.Nodup
  pre : N.take P.length = P
  par : ∀ x ∈ P, sc.names.lookup x = some .local ∨ sc.names.lookup x = some .cell
  nofree : ∀ y ∈ sc.names, y.2 ≠ .free

theorem bindL_out {kindOf : Str → Option NameKind} {x : Str} : ∀ {binds : List (Str × Value)} {m : Str → Option Value}, (∀ v, (x, v) ∉ binds) → bindL kindOf binds m x = m x
  | [], _, _ => rfl
  | (n, v) :: r, m, h => by
    unfold bindL
    rw [bindL_out fun w hw => h w (List.mem_cons_of_mem _ hw)]
    split
    · have : x ≠ n := by rintro rfl; exact h v List.mem_cons_self
      simp [this]
    · rfl
theorem bindC_out {kindOf : Str → Option NameKind} {x : Str} : ∀ {binds : List (Str × Value)} {m : Str → Option Value}, (∀ v, (x, v) ∉ binds) → bindC kindOf binds m x = m x
  | [], _, _ => rfl
  | (n, v) :: r, m, h => by
    unfold bindC
    rw [bindC_out fun w hw => h w (List.mem_cons_of_mem _ hw)]
    split
    · rfl
    · have : x ≠ n := by rintro rfl; exact h v List.mem_cons_self
      simp [this]
theorem bindL_get {kindOf : Str → Option NameKind} {x : Str} {v : Value} : ∀ {P : List Str} {vs : List Value} {i : Nat} {m : Str → Option Value}, P.Nodup → P[i]? = some x → vs[i]? = some v → kindOf x = some .local →
    bindL kindOf (P.zip vs) m x = some v
  | [], _, _, _, _, h, _, _ => by simp at h
  | _ :: _, [], _, _, _, _, h, _ => by simp at h
  | p :: P, w :: vs, 0, m, nd, h1, h2, hk => by
    simp at h1 h2; subst h1; subst h2
    show bindL kindOf ((p, w) :: P.zip vs) m p = _
    unfold bindL
    rw [bindL_out fun v hv => (List.nodup_cons.mp nd).1 (List.of_mem_zip hv).1, if_pos hk]
    simp
  | p :: P, w :: vs, i + 1, m, nd, h1, h2, hk => by
    show bindL kindOf ((p, w) :: P.zip vs) m x = _
    unfold bindL
    exact bindL_get (i := i) (List.nodup_cons.mp nd).2 (by simpa using h1) (by simpa using h2) hk
theorem bindC_get {kindOf : Str → Option NameKind} {x : Str} {v : Value} : ∀ {P : List Str} {vs : List Value} {i : Nat} {m : Str → Option Value}, P.Nodup → P[i]? = some x → vs[i]? = some v → kindOf x ≠ some .local →
    bindC kindOf (P.zip vs) m x = some v
  | [], _, _, _, _, h, _, _ => by simp at h
  | _ :: _, [], _, _, _, _, h, _ => by simp at h
  | p :: P, w :: vs, 0, m, nd, h1, h2, hk => by
    simp at h1 h2; subst h1; subst h2
    show bindC kindOf ((p, w) :: P.zip vs) m p = _
    unfold bindC
    rw [bindC_out fun v hv => (List.nodup_cons.mp nd).1 (List.of_mem_zip hv).1, if_neg hk]
    simp
  | p :: P, w :: vs, i + 1, m, nd, h1, h2, hk => by
    show bindC kindOf ((p, w) :: P.zip vs) m x = _
    unfold bindC
    exact bindC_get (i := i) (List.nodup_cons.mp nd).2 (by simpa using h1) (by simpa using h2) hk

/-- the names' values at the entry -/
def start (N : List Str) (vs : List V) : St := vs.map some ++ List.replicate (N.length - vs.length) none

/-- the context of a def's body, at its entry; an exception leaves the frame, then lies as CX says -/
def cxOf (CX : CXT) (P : Program) (w : World) (K : PySem.W.Frag) (mg : Str → Option Value) (base : Heap) (N : List Str) (qual : Str) (scope : Scope) (f : Addr) (cd : Value) (A : Around) (outer : List Env) (s : Shared) (H : Hp) (E : XK) : Cx where
  prog := P
  w := w
  K := K
  mg := mg
  base := base
  A := A.deeper (envOfC qual scope s.heap.objs.size f cd)
  N := N
  s₀ := s
  H₀ := H
  env := envOfC qual scope s.heap.objs.size f cd
  outer := outer
  stack := envOfC qual scope s.heap.objs.size f cd :: outer
  ex := []
  calm := true
  fn := fun _ => true
  pn := []
  xe := fun e s' => wpAny (model P w) (A.deeper (envOfC qual scope s.heap.objs.size f cd)) (leaving (envOfC qual scope s.heap.objs.size f cd) e) (fun _ s'' => CX outer H s E e s'') (fun e' s'' => CX outer H s E e' s'') s'

theorem cell_has {sc : Scope} {n : Nat} {x : Str} (h : sc.names.lookup x = some .cell) : ∃ c, (cellsFrom n sc.names []).lookup x = some c := by
  have q := PySem.W.cellsFrom_some sc.names n [] (.inl h)
  exact Option.isSome_iff_exists.mp q

theorem inv_start {CX : CXT} {P : Program} {w : World} {K : PySem.W.Frag} {mg : Str → Option Value} {base : Heap} {N ps : List Str} {qual : Str} {scope : Scope} {f : Addr} {cd : Value} {A : Around} {outer : List Env} {s s1 : Shared} {H : Hp} {E : XK} {us : List Value} {vs : List V}
    (S : FnScope N ps scope) (hd : A.handled = none) (e0 : Env0 P w K mg base A outer s H) (hl : vs.length = ps.length) (r : Vals vs us)
    (x : InCallC s s.heap.objs.size (bindL (envOfC qual scope s.heap.objs.size f cd).kindOf (ps.zip us) fun _ => none) (cellsFrom (s.heap.objs.size + 1) scope.names []) (bindC (envOfC qual scope s.heap.objs.size f cd).kindOf (ps.zip us) fun _ => none) s1) :
    Inv (cxOf CX P w K mg base N qual scope f cd A outer s H E) [] (start N vs) H s1 := by
  have hpl : ps.length ≤ N.length := by have := congrArg List.length S.pre; rw [List.length_take] at this; omega
  obtain ⟨h1, tk, rfl, hk⟩ := x.done
  have noA : ∀ b : Addr, b ∉ (cxOf CX P w K mg base N qual scope f cd A outer s H E).ex := fun b z => absurd (show b ∈ ([] : List Addr) from z) (by simp)
  refine ⟨⟨e0.mod, S.kind, rfl, rfl, Nat.le_refl _, fun y z c h1 h2 => ?_, fun y hy => ?_, fun y c _ h => ?_, fun _ => hd, Around.frames_deeper e0.frames, .inr ⟨rfl, rfl⟩, fun b z => absurd z (noA b), e0.bs, e0.bsz, fun b _ _ => noA b, fun b z => absurd z (noA b), e0.funs, e0.frf⟩,
    rfl, e0.bare, Un.kept hk, ⟨_, x.toInCall.ns, fun i y v h1 h2 h3 => ?_⟩, fun y c h => ⟨_, x.cell y c h⟩, e0.hok.fresh (Nat.le_refl _), fun y c h => ?_, fun p hp => absurd (show p ∈ ([] : List (Addr × Obj)) from hp) (by simp), e0.hok.kept hk, ?_⟩
  · exact name_of_addr x.apart (PySem.mem_of_lookup h1) (PySem.mem_of_lookup h2)
  · have hy : scope.names.lookup y = some .cell ∨ scope.names.lookup y = some .free := hy
    rcases hy with hy | hy
    · exact cell_has hy
    · exact absurd rfl (S.nofree _ (PySem.mem_of_lookup hy))
  · exact Nat.le_of_lt (x.above y c (PySem.mem_of_lookup h))
  · have hi : i < vs.length := by
      unfold start at h2
      by_cases hi : i < vs.length
      · exact hi
      · rw [List.getElem?_append_right (by simpa using hi)] at h2
        rw [List.getElem?_replicate] at h2
        split at h2 <;> cases h2
    have ha : vs[i]? = some v := by
      unfold start at h2
      rw [List.getElem?_append_left (by simpa using hi), List.getElem?_map] at h2
      cases e : vs[i]? with
      | none => rw [e] at h2; cases h2
      | some a => rw [e] at h2; cases h2; rfl
    obtain ⟨u, hu, rv⟩ := r.get ha
    have hp : ps[i]? = some y := by
      rw [← S.pre, List.getElem?_take_of_lt (by omega)]; exact h1
    have ndP : ps.Nodup := by rw [← S.pre]; exact S.nd.sublist (List.take_sublist _ _)
    refine ⟨u, rv, ?_⟩
    rcases S.par y (List.mem_of_getElem? hp) with k | k
    · exact .inl ⟨k, bindL_get ndP hp hu k⟩
    · obtain ⟨c, e⟩ := cell_has (n := s.heap.objs.size + 1) k
      refine .inr ⟨.inl k, c, e, ?_⟩
      have q := x.cell y c e
      rw [bindC_get ndP hp hu (by show scope.names.lookup y ≠ _; rw [k]; decide)] at q
      exact q
  · exact e0.hok.fresh (Nat.le_of_lt (x.above y c (PySem.mem_of_lookup h)))
  · unfold start
    show _ = N.length
    rw [List.length_append, List.length_map, List.length_replicate]
    omega

/-- THE RULE: a def (or a method) of the text, by its body. The body's reading t is chosen for each entry; it is run at the parameters' values -/
theorem fn_of {CX : CXT} {P : Program} {w : World} {K : PySem.W.Frag} {mg : Str → Option Value} {base : Heap} {k : Nat} {f : Addr} {name qual : Str} {params : Arguments} {body : List Stmt} {scope : Scope} {dV kV doc pm cdv ct oc : Value} {an od : Option Addr}
    {osl : Array (Option Value)} {N ps : List Str} {sp : Sp} (lk : K.lookup f = some ⟨oc, od, .func (PySem.W.fnOf name qual params body scope dV kV doc pm an cdv ct), osl⟩) (hcd : PySem.W.codeIn K cdv qual = true) (S : FnScope N ps scope)
    (len : ∀ vs H Q E, sp vs H Q E → vs.length = ps.length)
    (hbody : ∀ (A : Around) (outer : List Env) (s : Shared) (H : Hp) (vs : List V) (Q : VK) (E : XK), Room k (A.deeper (envOfC qual scope s.heap.objs.size f cdv)) → sp vs H Q E →
      ∃ t, PSs (cxOf CX P w K mg base N qual scope f cdv A outer s H E) body t ∧ t { nx := fun _ H' => Q .non H', rt := Q } (start N vs) H) :
    FnOk P w K mg base CX (k + 1) f (PySem.W.fnOf name qual params body scope dV kV doc pm an cdv ct) ps sp := by
  refine ⟨len, fun A outer s H args us vs Q E hr e0 hb r hsp => ?_⟩
  have hl := len _ _ _ _ hsp
  have KX : K.In s.heap := e0.mod.kin.keeps fun b o e => (e0.bs b o e).1
  have lim : s.heap.NoLimit := e0.mod.nolimit.keeps fun b o e => (e0.bs b o e).1
  have hkind : ∀ y ∈ ps.zip us, scope.names.lookup y.1 = some .local ∨ (scope.names.lookup y.1 = some .cell ∧ ((cellsFrom (s.heap.objs.size + 1) scope.names []).lookup y.1).isSome = true) := fun hw' hy => by
    obtain ⟨n, v⟩ := hw'
    rcases S.par n (List.of_mem_zip hy).1 with q | q
    · exact .inl q
    · exact .inr ⟨q, PySem.W.cellsFrom_some _ _ _ (.inl q)⟩
  refine codeAny_call_function hr.depth (KX _ _ lk) rfl S.co S.gen rfl (PySem.W.codeRec_of KX hcd) (hb _ _ _ _ ?_)
  refine wpAny_newFunctionEnv_cells S.kind hkind fun env he s1 x => ?_
  subst he
  refine ⟨lim.keeps x.toInCall.keep, codeAny_func ?_⟩
  obtain ⟨t, ht, hq⟩ := hbody A outer s H vs Q E (hr.deeper _) hsp
  have I : Inv (cxOf CX P w K mg base N qual scope f cdv A outer s H E) [] (start N vs) H s1 := inv_start S hr.hd e0 hl r x
  refine wpAny_mono (ht [] s1 (start N vs) H _ I hq) (fun fl s' hs => ?_) fun e s' hs => hs
  have fin : ∀ {σ' : St} {H' : Hp} {v : V} {u : Value}, Inv (cxOf CX P w K mg base N qual scope f cdv A outer s H E) [] σ' H' s' → RelV v u → Q v H' → CE outer P w H s Q u s' :=
    fun {σ' H' v u} J rv q => ⟨v, H', J.os, J.bare, J.base, J.hok, rv, q⟩
  cases fl with
  | ret u =>
    obtain ⟨v, σ', H', J, rv, q⟩ := hs
    exact fin J rv q
  | next =>
    obtain ⟨σ', H', J, q⟩ := hs
    exact fin (v := V.non) (u := Value.none) J rfl q
  | brk =>
    obtain ⟨_, _, _, q⟩ := hs
    exact False.elim q
  | cont =>
    obtain ⟨_, _, _, q⟩ := hs
    exact False.elim q
end L2

namespace L2
open PySem PySem.Spec PyProof.Rows
section
variable {X : Cx} {x : Str} {p pos : Pos} {e : Expr} {es : List Expr} {t : TA} {id T : String} {r : List V → Hp → VK → Prop}

def tCB (r : List V → Hp → VK → Prop) (t : TA) : TE := fun σ H Q => t σ H fun vs H1 => r vs H1 Q
/-- f(e, ..), f a built-in function -/
theorem pe_callB (hc : CallR X (.builtin id) r) (hg : Gl X x) (hm : X.mg x = none) (hv : bootBuiltins x = some (.builtin id)) (ha : PA X (e :: es) t) (hn : x ≠ "__name__" := by decide) (hdb : (x == ("__debug__" : Str)) = false := by decide)
    (he : starEach (e :: es) X.env = (false, eval e X.env) :: starEach es X.env := by rfl) (hpl : (backTo pos (starEach es X.env)).any (·.1) = false := by rfl) : PE X (.Call (.Name x p) (e :: es) [] pos) (tCB r t) := by
  intro pins s σ H Q I h
  refine wpAny_Call_Name_kw (ld_blt I hg hm hv ?_ hn hdb)
  exact PyProof.Rows.callWith_builtin1 (thn (ha pos pins s σ H _ I h) fun us s1 ⟨vs, H1, I1, r1, q1⟩ => hc pins s1 σ H1 vs us Q I1 r1 q1) he hpl
/-- T(e, ..), T a built-in type -/
theorem pe_callTy (hc : CallR X (.type T) r) (hg : Gl X x) (hm : X.mg x = none) (hv : bootBuiltins x = some (.type T)) (ha : PA X (e :: es) t) (hn : x ≠ "__name__" := by decide) (hdb : (x == ("__debug__" : Str)) = false := by decide)
    (he : starEach (e :: es) X.env = (false, eval e X.env) :: starEach es X.env := by rfl) (hpl : (backTo pos (starEach es X.env)).any (·.1) = false := by rfl) : PE X (.Call (.Name x p) (e :: es) [] pos) (tCB r t) := by
  intro pins s σ H Q I h
  refine wpAny_Call_Name_kw (ld_blt I hg hm hv ?_ hn hdb)
  exact PyProof.Rows.callWith_type1 (thn (ha pos pins s σ H _ I h) fun us s1 ⟨vs, H1, I1, r1, q1⟩ => hc pins s1 σ H1 vs us Q I1 r1 q1) he hpl
end
end L2

namespace HT
open PySem PyProof.Rows

section
open PySem.SeqAt
open PySem.AutoSeq1 (wpAny_loadPart')
open PySem.MeetsSeq PySem.MeetsSeq2 PySem.MeetsSeq3

end

section
variable {prog : Program} {w : World} {A : Around} {E : Value → Shared → Prop} {s : Shared}

/-! ### t[a:b], not the whole -/
/-- a slice's bound as a place among n (d where it is left out) -/
def sIx (n d : Nat) : Option Int → Nat
  | none => d
  | some v => if v < 0 then (v + (n : Int)).toNat else min v.toNat n
theorem sIx_none (n d : Nat) : sIx n d none = d := rfl
theorem sIx_nat (n d k : Nat) : sIx n d (some (k : Int)) = min k n := by
  show (if (k : Int) < 0 then ((k : Int) + (n : Int)).toNat else min (k : Int).toNat n) = min k n
  rw [if_neg (by omega), Int.toNat_natCast]
theorem sIx_le (n d : Nat) (hd : d ≤ n) (o : Option Int) : sIx n d o ≤ n := by
  cases o with
  | none => exact hd
  | some v =>
    show (if v < 0 then (v + (n : Int)).toNat else min v.toNat n) ≤ n
    by_cases hv : v < 0
    · rw [if_pos hv]; omega
    · rw [if_neg hv]; exact Nat.min_le_right _ _
end
end HT

namespace L2
open PySem PySem.Spec PyProof.Rows

/-! ### the parts of a slice -/
abbrev TO := St → Hp → (Option Int → Hp → Prop) → Prop
/-- a slice's part (left out, or an int) -/
def PO (X : Cx) (e : Option Expr) (t : TO) : Prop :=
  ∀ (pins : List (Addr × Obj)) (s : Shared) (σ : St) (H : Hp) (Q : Option Int → Hp → Prop), Inv X pins σ H s → t σ H Q →
    wpAny (model X.prog X.w) X.A (evalPart e X.env) (fun u s' => ∃ o H', Inv X pins σ H' s' ∧ IsPart u o ∧ Q o H') X.xe s
def tNoPart : TO := fun _ H Q => Q none H
def tPart (t : TE) : TO := fun σ H Q => t σ H fun x H1 => ∃ i, x = .int i ∧ Q (some i) H1

theorem intsAre_of {ns : List Int} : ∀ {us : List Value}, Vals (ns.map V.int) us → IntsAre us ns := by
  induction ns with
  | nil => intro us r; rw [List.map_nil] at r; cases r; exact .nil
  | cons n ns ih =>
    intro us r
    rw [List.map_cons] at r
    cases r with
    | cons r1 r2 =>
      obtain ⟨t, e⟩ := r1
      subst e
      exact .cons n t (ih r2)

section
variable {X : Cx} {e : Expr} {te : TE} {lo hi : Option Expr} {tl th : TO} {pos p2 : Pos}

theorem po_none : PO X none tNoPart := by
  intro pins s σ H Q I h
  rw [evalPart_none]
  exact wpAny_pure ⟨none, H, I, .none, h⟩
theorem po_some (h : PE X e te) : PO X (some e) (tPart te) := by
  intro pins s σ H Q I hw
  rw [evalPart_some]
  refine thn (h pins s σ H _ I hw) fun u s1 hw' => ?_
  obtain ⟨x, H1, I1, r1, q1⟩ := hw'
  obtain ⟨i, rfl, q⟩ := q1
  obtain ⟨t, rfl⟩ := r1
  exact ⟨some i, H1, I1, .int i t, q⟩

/-- what a slice of a value is, by values: the slice object stands at sl -/
def SlR (X : Cx) (r : V → Option Int → Option Int → Hp → VK → Prop) : Prop :=
  ∀ (pins : List (Addr × Obj)) (s : Shared) (σ : St) (H : Hp) (x : V) (v vl vu : Value) (lo hi : Option Int) (sl : Addr) (Q : VK), Inv X pins σ H s → RelV x v → s.heap.IsSliceOf sl vl vu .none → IsPart vl lo → IsPart vu hi → r x lo hi H Q →
    ∃ T id, typeLookup (.type T) "__getitem__" = pure (some (.builtin id)) ∧ s.TypeIs v T ∧ wpAny (model X.prog X.w) X.A (getItem v (.ref sl)) (EP X pins σ Q) X.xe s
theorem SlR.or {r r' : V → Option Int → Option Int → Hp → VK → Prop} (h : SlR X r) (h' : SlR X r') : SlR X (fun x lo hi H Q => r x lo hi H Q ∨ r' x lo hi H Q) := by
  intro pins s σ H x v vl vu lo hi sl Q I rx hs pl pu q
  rcases q with q | q
  · exact h pins s σ H x v vl vu lo hi sl Q I rx hs pl pu q
  · exact h' pins s σ H x v vl vu lo hi sl Q I rx hs pl pu q
def tSl (r : V → Option Int → Option Int → Hp → VK → Prop) (te : TE) (tl th : TO) : TE := fun σ H Q => te σ H fun x H1 => tl σ H1 fun l H2 => th σ H2 fun u H3 => r x l u H3 Q
/-- a[lo:hi], any a -/
theorem pe_slice {r : V → Option Int → Option Int → Hp → VK → Prop} (hr : SlR X r) (he : PE X e te) (hl : PO X lo tl) (hu : PO X hi th) : PE X (.Subscript e (.Slice lo hi none p2) pos) (tSl r te tl th) := by
  intro pins s σ H Q I h
  refine Subscript_ (thn (he pins s σ H _ I h) fun v s1 hw' => ?_)
  obtain ⟨x, H1, I1, r1, q1⟩ := hw'
  refine wpAny_Slice (thn (hl pins s1 σ H1 _ I1 q1) fun vl s2 ⟨l, H2, I2, pl, q2⟩ => thn (hu pins s2 σ H2 _ I2 q2) fun vu s3 hw' => ?_)
  obtain ⟨u, H3, I3, pu, q3⟩ := hw'
  rw [evalPart_none]
  refine wpAny_pure ?_
  have I4 : Inv X pins σ H3 { s3 with heap := s3.heap.push { cls := .type "slice", data := .fields #[vl, vu, .none] } } := I3.kept (t' := s3.toks) fun b ob q => Heap.get?_push_of_some _ q
  obtain ⟨T, id, hT, ht, hg⟩ := hr pins { s3 with heap := s3.heap.push { cls := .type "slice", data := .fields #[vl, vu, .none] } } σ H3 x v vl vu l u s3.heap.objs.size Q I4 r1 (Heap.IsSliceOf.new ..) pl pu q3
  show wpAny (model X.prog X.w) X.A (subscriptTail e (.Slice lo hi none p2) v (.ref s3.heap.objs.size)) (EP X pins σ Q) X.xe { s3 with heap := s3.heap.push { cls := .type "slice", data := .fields #[vl, vu, .none] } }
  exact tail_any (ops := [.ref s3.heap.objs.size, v]) ht hT hg (by with_unfolding_all rfl)

/-- the items of xs[lo:hi] -/
def cutV (xs : List V) (lo hi : Option Int) : List V := (xs.drop (HT.sIx xs.length 0 lo)).take (HT.sIx xs.length xs.length hi - HT.sIx xs.length 0 lo)
theorem cutV_length (xs : List V) (lo hi : Option Int) : (cutV xs lo hi).length ≤ xs.length := by
  unfold cutV
  rw [List.length_take, List.length_drop]
  omega
end
end L2

namespace L2
open PySem PySem.Spec PyProof.Rows

/-! ### places -/
/-- the place that an index of any sign means -/
def ixN (n : Nat) (i : Int) : Option Nat := if 0 ≤ i then (if i < n then some i.toNat else none) else if -(n : Int) ≤ i then some (i + n).toNat else none
def atI {α : Type} (xs : List α) (i : Int) : Option α := (ixN xs.length i).bind fun j => xs[j]?
theorem ixN_seq {n : Nat} {i : Int} {j : Nat} (h : ixN n i = some j) : seqIndex? i n = some j ∧ j < n ∧ -(n : Int) ≤ i ∧ i < n := by
  unfold ixN at h
  by_cases h0 : 0 ≤ i
  · rw [if_pos h0] at h
    by_cases h1 : i < n
    · rw [if_pos h1] at h
      have e : i.toNat = j := Option.some.inj h
      exact ⟨by rw [seqIndex_of h0 h1, e], by omega, by omega, h1⟩
    · rw [if_neg h1] at h; cases h
  · rw [if_neg h0] at h
    by_cases h1 : -(n : Int) ≤ i
    · rw [if_pos h1] at h
      have e : (i + n).toNat = j := Option.some.inj h
      exact ⟨by rw [seqIndex_neg (by omega) h1, e], by omega, h1, by omega⟩
    · rw [if_neg h1] at h; cases h
theorem atI_get {α : Type} {xs : List α} {i : Int} {v : α} (h : atI xs i = some v) : ∃ j, seqIndex? i xs.length = some j ∧ xs[j]? = some v ∧ j < xs.length ∧ -(xs.length : Int) ≤ i ∧ i < xs.length := by
  unfold atI at h
  cases e : ixN xs.length i with
  | none => rw [e] at h; cases h
  | some j =>
    rw [e] at h
    obtain ⟨h1, h2, h3, h4⟩ := ixN_seq e
    exact ⟨j, h1, h, h2, h3, h4⟩
theorem atI_nat {α : Type} {xs : List α} {j : Nat} {v : α} (h : xs[j]? = some v) : atI xs (j : Int) = some v := by
  have hj : j < xs.length := (List.getElem?_eq_some_iff.mp h).1
  have e : ixN xs.length (j : Int) = some j := by
    unfold ixN
    rw [if_pos (by omega), if_pos (by omega)]; simp
  unfold atI; rw [e]; exact h
/-! ### what may be subscripted -/
/-- what stands as an index of a plain subscript -/
def PlainIx (b : Expr) : Prop := ∀ o i, subscripted b false o i = operate [o, i] (getItem o i)
/-- a subscript by values -/
def IxR (X : Cx) (r : R2) : Prop :=
  ∀ (value slice : Expr) (pins : List (Addr × Obj)) (s : Shared) (σ : St) (H : Hp) (x y : V) (v u : Value) (Q : VK), Inv X pins σ H s → RelV x v → RelV y u → r x y H Q →
    subscripted slice false v u = operate [v, u] (getItem v u) → wpAny (model X.prog X.w) X.A (subscriptTail value slice v u) (EP X pins σ Q) X.xe s
/-- a call of a builtin's method by values: the receiver, the arguments -/
def MtR (X : Cx) (id : String) (r : V → List V → Hp → VK → Prop) : Prop :=
  ∀ (pins : List (Addr × Obj)) (s : Shared) (σ : St) (H : Hp) (x : V) (xs : List V) (v : Value) (us : List Value) (Q : VK), Inv X pins σ H s → RelV x v → Vals xs us → r x xs H Q →
    wpAny (model X.prog X.w) X.A (call (.builtin id) (v :: us)) (EP X pins σ Q) X.xe s
section
variable {X : Cx} {a b : Expr} {ta tb : TE} {pos : Pos}
theorem IxR.or {r r' : R2} (h : IxR X r) (h' : IxR X r') : IxR X (fun x y H Q => r x y H Q ∨ r' x y H Q) := by
  intro value slice pins s σ H x y v u Q I rx ry q hs
  rcases q with q | q
  · exact h value slice pins s σ H x y v u Q I rx ry q hs
  · exact h' value slice pins s σ H x y v u Q I rx ry q hs
theorem MtR.or {id : String} {r r' : V → List V → Hp → VK → Prop} (h : MtR X id r) (h' : MtR X id r') : MtR X id (fun x xs H Q => r x xs H Q ∨ r' x xs H Q) := by
  intro pins s σ H x xs v us Q I rx rs q
  rcases q with q | q
  · exact h pins s σ H x xs v us Q I rx rs q
  · exact h' pins s σ H x xs v us Q I rx rs q
/-- a[b] -/
theorem pe_ix {r : R2} (hr : IxR X r) (ha : PE X a ta) (hb : PE X b tb) (hs : PlainIx b) : PE X (.Subscript a b pos) (tOp r ta tb) := by
  intro pins s σ H Q I h
  exact Subscript_ (binT ha hb I h fun v u s2 x y H2 I2 rx ry q => hr a b pins s2 σ H2 x y v u Q I2 rx ry q (hs _ _))

def rIxL (K : PySem.W.Frag) : R2 := fun x y H Q => ∃ p xs i v, x = .ref p ∧ y = .int i ∧ SqL K H p xs ∧ atI xs i = some v ∧ Q v H
def rIxT (K : PySem.W.Frag) : R2 := fun x y H Q => ∃ p xs i v, x = .ref p ∧ y = .int i ∧ SqT K H p xs ∧ atI xs i = some v ∧ Q v H
def rIxS : R2 := fun x y H Q => ∃ z i c, x = .str z ∧ y = .int i ∧ z.length ≤ sizeLine ∧ atI z.cps.toList i = some c ∧ Q (.str ⟨#[c]⟩) H
theorem ix_list : IxR X (rIxL X.K) := by
  intro value slice pins s σ H x y v u Q I rx ry h hs
  obtain ⟨p, xs, i, z, rfl, rfl, hq, he, q⟩ := h
  cases rx
  obtain ⟨t, rfl⟩ := ry
  obtain ⟨its, r, pl, hz⟩ := I.list hq
  obtain ⟨j, h1, h2, h3, h4, h5⟩ := atI_get he
  obtain ⟨w, ew, rw'⟩ := r.get h2
  have hl := r.length
  have hn := line63
  have fin : EP X pins σ Q w s := ⟨z, H, I, rw', q⟩
  by_cases h0 : 0 ≤ i
  · have hj : i.toNat = j := by
      rw [seqIndex_of h0 h5] at h1
      exact Option.some.inj h1
    exact item_listR pl.isList h0 (by omega) (by rw [hj]; simpa using ew) fin hs
  · have hj : (i + (its.toArray.size : Int)).toNat = j := by
      rw [seqIndex_neg (by omega) h4] at h1
      rw [List.size_toArray, ← hl]
      exact Option.some.inj h1
    exact subscriptTail_builtinR (x := w) pl.isList.typeIs slot_list_getitem.lookup
      (wpAny_getItem_list_neg (Q := fun r s' => r = w ∧ EP X pins σ Q r s') pl.isList (by omega) (by rw [List.size_toArray] <;> omega) (by omega) (by rw [hj]; simpa using ew) ⟨rfl, fin⟩) hs
theorem ix_tup : IxR X (rIxT X.K) := by
  intro value slice pins s σ H x y v u Q I rx ry h hs
  obtain ⟨p, xs, i, z, rfl, rfl, hq, he, q⟩ := h
  cases rx
  obtain ⟨t, rfl⟩ := ry
  obtain ⟨its, r, pl, hz⟩ := I.tuple hq
  obtain ⟨j, h1, h2, h3, h4, h5⟩ := atI_get he
  obtain ⟨w, ew, rw'⟩ := r.get h2
  have hl := r.length
  have hn := line63
  have fin : EP X pins σ Q w s := ⟨z, H, I, rw', q⟩
  exact subscriptTail_builtinR (x := w) pl.typeIs slot_tuple_getitem.lookup
    (getItem_tuple (j := j) (Q := fun r s' => r = w ∧ EP X pins σ Q r s') pl (by omega) (by omega) (by rw [List.size_toArray, ← hl]; exact h1) (by simpa using ew) ⟨rfl, fin⟩) hs
theorem ix_str : IxR X rIxS := by
  intro value slice pins s σ H x y v u Q I rx ry h hs
  obtain ⟨z, i, c, rfl, rfl, hz, he, q⟩ := h
  obtain ⟨t, rfl⟩ := rx
  obtain ⟨t', rfl⟩ := ry
  obtain ⟨j, h1, h2, h3, h4, h5⟩ := atI_get he
  have hl : z.cps.toList.length = z.length := by simp [Str.length]
  rw [hl] at h1 h4 h5
  have hn := line63
  exact tail_any (typeIs_str s z t) slot_str_getitem.lookup (getItem_str (c := c) (by
    have e1 : decide (i < -(2 ^ 63 : Int)) = false := decide_eq_false (by omega)
    have e2 : decide (i ≥ 2 ^ 63) = false := decide_eq_false (by omega)
    rw [e1, e2, Bool.or_false]) (by rw [h1]; simpa using h2) ⟨.str ⟨#[c]⟩, H, I.tok _, ⟨_, rfl⟩, q⟩) hs
/-- list, tuple or str -/
def rIx (K : PySem.W.Frag) : R2 := fun x y H Q => rIxL K x y H Q ∨ rIxT K x y H Q ∨ rIxS x y H Q
theorem ix_seq : IxR X (rIx X.K) := ix_list.or (ix_tup.or ix_str)

theorem Inv.lst {pins : List (Addr × Obj)} {σ : St} {H : Hp} {s : Shared} {p : Addr} {xs : List V} (I : Inv X pins σ H s) (h : H p = some (.lst xs)) :
    ∃ (its : List Value) (n : Nat), Vals xs its ∧ s.heap.get? p = some { cls := .type "list", data := .seq its.toArray n } ∧ xs.length ≤ sizeLine := by
  obtain ⟨z, its, n, r, e⟩ := I.hok p _ h
  exact ⟨its, n, r, e, z⟩
/-! ### slices -/
theorem slice_bounds (lo hi : Option Int) (n : Nat) : (sliceBounds lo hi none n).1 = ((HT.sIx n 0 lo : Nat) : Int) ∧ (sliceBounds lo hi none n).2.1 = ((HT.sIx n n hi : Nat) : Int) ∧ (sliceBounds lo hi none n).2.2 = 1 := by
  refine ⟨?_, ?_, rfl⟩
  · cases lo with
    | none => simp [sliceBounds, HT.sIx]
    | some i =>
      simp only [sliceBounds, HT.sIx, Option.getD_none, show (1 : Int) > 0 by decide, if_true]
      by_cases h : i < 0
      · simp only [h, if_true] <;> omega
      · simp only [h, if_false] <;> omega
  · cases hi with
    | none => simp [sliceBounds, HT.sIx]
    | some i =>
      simp only [sliceBounds, HT.sIx, Option.getD_none, show (1 : Int) > 0 by decide, if_true]
      by_cases h : i < 0
      · simp only [h, if_true] <;> omega
      · simp only [h, if_false] <;> omega
theorem slicePick_cut (its : List Value) (lo hi : Option Int) : slicePick its.toArray lo hi none = ((its.drop (HT.sIx its.length 0 lo)).take (HT.sIx its.length its.length hi - HT.sIx its.length 0 lo)).toArray := by
  obtain ⟨h1, h2, h3⟩ := slice_bounds lo hi its.toArray.size
  unfold slicePick
  rw [h1, h2, h3]
  simp only [sliceRange_one, pick_run, List.size_toArray] <;> rfl
/-- xs[lo:hi] of a list: a new list -/
def rSlL (K : PySem.W.Frag) : V → Option Int → Option Int → Hp → VK → Prop := fun x lo hi H Q => ∃ a xs, x = .ref a ∧ SqL K H a xs ∧ ∀ p, H p = none → Q (.ref p) (upd H p (.lst (cutV xs lo hi)))
theorem sl_list : SlR X (rSlL X.K) := by
  intro pins s σ H x v vl vu lo hi sl Q I rx hs pl pu h
  obtain ⟨a, xs, rfl, hx, q⟩ := h
  cases rx
  obtain ⟨its, r, ht, hz⟩ := I.list hx
  have hlen := r.length
  refine ⟨"list", _, slot_list_getitem.lookup, ht.isList.typeIs, ?_⟩
  refine wpAny_getItem_list_slice ht.isList hs pl pu .none (by simp) ?_ (by rw [List.size_toArray] <;> omega)
  rw [slicePick_cut, ← hlen]
  refine ⟨.ref s.heap.objs.size, _, I.laid (t' := s.toks) (o := .lst (cutV xs lo hi)) (fun b ob q => Heap.get?_push_of_some _ q) (Nat.le_refl _) ?_, rfl, q _ (I.hok.fresh (Nat.le_refl _))⟩
  exact ⟨Nat.le_trans (cutV_length xs lo hi) hz, _, 0, (r.drop (HT.sIx xs.length 0 lo)).take (HT.sIx xs.length xs.length hi - HT.sIx xs.length 0 lo), Heap.get?_push_size _ rfl⟩

/-! ### in, not in: flat items -/
def flatV : V → Bool
  | .non => true
  | .bl _ => true
  | .int _ => true
  | .str _ => true
  | _ => false
/-- == of flat values -/
def eqV : V → V → Bool
  | .non, .non => true
  | .bl a, .bl b => a == b
  | .bl a, .int b => (if a then 1 else 0) == b
  | .int a, .bl b => a == (if b then 1 else 0)
  | .int a, .int b => a == b
  | .str a, .str b => a == b
  | _, _ => false
theorem eqAt_V {A : Around} {s : Shared} {y x : V} {u v : Value} (ry : RelV y u) (rx : RelV x v) (fy : flatV y = true) (fx : flatV x = true) : SeqAt.EqAt A s u v (eqV y x) := by
  cases y with
  | non =>
    cases ry
    cases x with
    | non => cases rx; exact SeqAt.EqAt.same _
    | bl b => cases rx; exact SeqAt.EqAt.none_bool b
    | int b => obtain ⟨t, rfl⟩ := rx; exact SeqAt.EqAt.none_int b t
    | str b => obtain ⟨t, rfl⟩ := rx; exact SeqAt.EqAt.none_str b t
    | _ => exact absurd (show false = true from fx) Bool.false_ne_true
  | bl a =>
    cases ry
    cases x with
    | non => cases rx; exact SeqAt.EqAt.bool_none a
    | bl b => cases rx; exact SeqAt.EqAt.bool_bool a b
    | int b => obtain ⟨t, rfl⟩ := rx; exact SeqAt.EqAt.bool_int a b t
    | str b => obtain ⟨t, rfl⟩ := rx; exact SeqAt.EqAt.bool_str a b t
    | _ => exact absurd (show false = true from fx) Bool.false_ne_true
  | int a =>
    obtain ⟨t', rfl⟩ := ry
    cases x with
    | non => cases rx; exact SeqAt.EqAt.int_none a t'
    | bl b => cases rx; exact SeqAt.EqAt.int_bool a t' b
    | int b => obtain ⟨t, rfl⟩ := rx; exact SeqAt.EqAt.int_int a t' b t
    | str b => obtain ⟨t, rfl⟩ := rx; exact SeqAt.EqAt.int_str a t' b t
    | _ => exact absurd (show false = true from fx) Bool.false_ne_true
  | str a =>
    obtain ⟨t', rfl⟩ := ry
    cases x with
    | non => cases rx; exact SeqAt.EqAt.str_none a t'
    | bl b => cases rx; exact SeqAt.EqAt.str_bool a t' b
    | int b => obtain ⟨t, rfl⟩ := rx; exact SeqAt.EqAt.str_int a t' b t
    | str b => obtain ⟨t, rfl⟩ := rx; exact SeqAt.EqAt.str_str a t' b t
    | _ => exact absurd (show false = true from fx) Bool.false_ne_true
  | _ => exact absurd (show false = true from fy) Bool.false_ne_true
/-- the items' answers, read off the values (a value's own answer does not lean on its token) -/
def eqU (x : V) (u : Value) : Bool := match u with
  | .none => eqV .non x
  | .bool b => eqV (.bl b) x
  | .int i _ => eqV (.int i) x
  | .str z _ => eqV (.str z) x
  | _ => false
theorem eqU_of {x y : V} {u : Value} (r : RelV y u) (f : flatV y = true) : eqU x u = eqV y x := by
  cases y with
  | non => cases r; rfl
  | bl b => cases r; rfl
  | int i => obtain ⟨t, rfl⟩ := r; rfl
  | str z => obtain ⟨t, rfl⟩ := r; rfl
  | _ => exact absurd (show false = true from f) Bool.false_ne_true
theorem any_eqU {x : V} : ∀ {xs : List V} {us : List Value}, Vals xs us → xs.all flatV = true → us.any (eqU x) = xs.any fun y => eqV y x
  | _, _, .nil, _ => rfl
  | y :: xs, u :: us, .cons r t, f => by
    rw [List.all_cons, Bool.and_eq_true] at f
    rw [List.any_cons, List.any_cons, eqU_of r f.1, any_eqU t f.2]
theorem mem_eqAt {A : Around} {s : Shared} {x : V} {v : Value} (rx : RelV x v) (fx : flatV x = true) : ∀ {xs : List V} {us : List Value}, Vals xs us → xs.all flatV = true → ∀ u ∈ us, SeqAt.EqAt A s u v (eqU x u)
  | _, _, .nil, _ => fun u hu => by cases hu
  | y :: xs, u :: us, .cons r t, f => fun u' hu => by
    rw [List.all_cons, Bool.and_eq_true] at f
    rcases List.mem_cons.mp hu with rfl | hu
    · rw [eqU_of r f.1]; exact eqAt_V r rx f.1 fx
    · exact mem_eqAt rx fx t f.2 u' hu
def inV (x : V) (xs : List V) : Bool := xs.any fun y => eqV y x
/-- x in a list or tuple of flat items -/
def rIn (K : PySem.W.Frag) (neg : Bool) : R2 := fun x y H Q => ∃ p xs, y = .ref p ∧ (SqL K H p xs ∨ SqT K H p xs) ∧ flatV x = true ∧ xs.all flatV = true ∧ Q (.bl (if neg then !inV x xs else inV x xs)) H
theorem op_in_seq : OpR X (compareOp .In) (rIn X.K false) := by
  intro pins s σ H x y v u Q I rx ry h
  obtain ⟨p, xs, rfl, hq, fx, fs, q⟩ := h
  cases ry
  rcases hq with hq | hq
  · obtain ⟨its, r, pl, hz⟩ := I.list hq
    refine SeqAt.in_listAt (eqU x) pl.isList (fun w hw => mem_eqAt rx fx r fs w (by simpa using hw)) ⟨.bl _, H, I, rfl, ?_⟩
    rw [show its.toArray.any (eqU x) = its.any (eqU x) by simp, any_eqU r fs]
    exact q
  · obtain ⟨its, r, pl, hz⟩ := I.tuple hq
    refine SeqAt.in_tupleAt (eqU x) pl (fun w hw => mem_eqAt rx fx r fs w (by simpa using hw)) ⟨.bl _, H, I, rfl, ?_⟩
    rw [show its.toArray.any (eqU x) = its.any (eqU x) by simp, any_eqU r fs]
    exact q
theorem op_notIn_seq : OpR X (compareOp .NotIn) (rIn X.K true) := by
  intro pins s σ H x y v u Q I rx ry h
  obtain ⟨p, xs, rfl, hq, fx, fs, q⟩ := h
  cases ry
  rcases hq with hq | hq
  · obtain ⟨its, r, pl, hz⟩ := I.list hq
    refine SeqAt.notIn_listAt (eqU x) pl.isList (fun w hw => mem_eqAt rx fx r fs w (by simpa using hw)) ⟨.bl _, H, I, rfl, ?_⟩
    rw [show its.toArray.any (eqU x) = its.any (eqU x) by simp, any_eqU r fs]
    exact q
  · obtain ⟨its, r, pl, hz⟩ := I.tuple hq
    refine SeqAt.notIn_tupleAt (eqU x) pl (fun w hw => mem_eqAt rx fx r fs w (by simpa using hw)) ⟨.bl _, H, I, rfl, ?_⟩
    rw [show its.toArray.any (eqU x) = its.any (eqU x) by simp, any_eqU r fs]
    exact q
/-! ### len, list(x), tuple(x) of any list or tuple that is read -/
theorem call_len_seq : CallR X (.builtin "len") (fun xs H Q => ∃ p ys, xs = [.ref p] ∧ (SqL X.K H p ys ∨ SqT X.K H p ys) ∧ Q (.int ys.length) H) := by
  intro pins s σ H xs us Q I r h
  obtain ⟨p, ys, rfl, hq, q⟩ := h
  obtain ⟨u, rfl, rx⟩ := vals1 r
  cases rx
  have hn := line63
  rcases hq with hq | hq
  · obtain ⟨its, r', pl, hz⟩ := I.list hq
    have hlen := r'.length
    exact Calls.call_len_list pl.isList (by simp only [List.size_toArray] <;> omega) ⟨.int ys.length, H, I.tok _, ⟨s.toks + 1, by rw [List.size_toArray, hlen]⟩, q⟩
  · obtain ⟨its, r', pl, hz⟩ := I.tuple hq
    have hlen := r'.length
    exact len_tuple pl (by simp only [List.size_toArray] <;> omega) ⟨.int ys.length, H, I.tok _, ⟨s.toks + 1, by rw [List.size_toArray, hlen]⟩, q⟩
theorem call_len_str : CallR X (.builtin "len") (fun xs H Q => ∃ z, xs = [.str z] ∧ z.length ≤ sizeLine ∧ Q (.int z.length) H) := by
  intro pins s σ H xs us Q I r h
  obtain ⟨z, rfl, hz, q⟩ := h
  obtain ⟨u, rfl, t, rfl⟩ := vals1 r
  have hn := line63
  exact len_str (by omega) ⟨.int z.length, H, I.tok _, ⟨_, rfl⟩, q⟩
theorem CallR.or {f : Value} {r r' : List V → Hp → VK → Prop} (h : CallR X f r) (h' : CallR X f r') : CallR X f (fun xs H Q => r xs H Q ∨ r' xs H Q) := by
  intro pins s σ H xs us Q I rs q
  rcases q with q | q
  · exact h pins s σ H xs us Q I rs q
  · exact h' pins s σ H xs us Q I rs q
/-! ### the call of a builtin's method: o.m(..) -/
/-- the value is of that builtin type -/
def tyV (K : PySem.W.Frag) (T : String) (x : V) (H : Hp) : Prop := match x with
  | .str _ => T = "str"
  | .int _ => T = "int"
  | .ref p => (T = "list" ∧ ∃ xs, SqL K H p xs) ∨ (T = "tuple" ∧ ∃ o, K.lookup p = some o ∧ o.cls = .type "tuple" ∧ o.dict = none) ∨
      (T = "dict" ∧ ((∃ kvs, H p = some (.dK kvs)) ∨ ∃ kvs, H p = some (.dT kvs))) ∨ (T = "set" ∧ ∃ S n, H p = some (.set S n))
  | _ => False
theorem tyV_is {pins : List (Addr × Obj)} {σ : St} {H : Hp} {s : Shared} {T : String} {x : V} {v : Value} (I : Inv X pins σ H s) (r : RelV x v) (ty : tyV X.K T x H) :
    s.TypeIs v T ∧ ∀ a, v = .ref a → ∃ ob, s.heap.get? a = some ob ∧ ob.dict = none := by
  cases x with
  | str z =>
    obtain ⟨t, rfl⟩ := r
    cases (show T = "str" from ty)
    exact ⟨typeIs_str s z t, fun _ e => nomatch e⟩
  | int i =>
    obtain ⟨t, rfl⟩ := r
    cases (show T = "int" from ty)
    exact ⟨typeIs_int s i t, fun _ e => nomatch e⟩
  | ref p =>
    cases r
    rcases ty with ⟨rfl, xs, hq⟩ | ⟨rfl, o, hk, hc, hd⟩ | ⟨rfl, hk⟩ | ⟨rfl, S, n, hk⟩
    · obtain ⟨its, _, pl, _⟩ := I.list hq
      refine ⟨pl.isList.typeIs, fun a e => ?_⟩
      cases e
      obtain ⟨o, n, e, c, hd, _⟩ := pl
      exact ⟨o, e, hd⟩
    · refine ⟨⟨o, I.kIn p o hk, hc⟩, fun a e => ?_⟩
      cases e
      exact ⟨o, I.kIn _ o hk, hd⟩
    · have z : ∃ o, s.heap.get? p = some o ∧ o.ExactDict := by
        rcases hk with ⟨kvs, hk⟩ | ⟨kvs, hk⟩
        · obtain ⟨_, _, _, _, o, _, _, e, ex, _⟩ := I.hok p _ hk
          exact ⟨o, e, ex⟩
        · obtain ⟨_, _, _, _, o, _, _, e, ex, _⟩ := I.hok p _ hk
          exact ⟨o, e, ex⟩
      obtain ⟨o, e, ex⟩ := z
      refine ⟨⟨o, e, ex.1⟩, fun a e2 => ?_⟩
      cases e2
      exact ⟨o, e, ex.2.1⟩
    · obtain ⟨o, _, _, _, e, ex, _⟩ := I.hok p _ hk
      refine ⟨⟨o, e, ex.1⟩, fun a e2 => ?_⟩
      cases e2
      exact ⟨o, e, ex.2.1⟩
  | _ => exact False.elim ty
def tBM (K : PySem.W.Frag) (T : String) (r : V → List V → Hp → VK → Prop) (to : TE) (t : TA) : TE := fun σ H Q => to σ H fun x H1 => tyV K T x H1 ∧ t σ H1 fun xs H2 => r x xs H2 Q
variable {o e : Expr} {es : List Expr} {to : TE} {t : TA} {name : Str} {apos cpos : Pos} {T id : String} {r : V → List V → Hp → VK → Prop}
theorem pe_bm (pa : PlainAttrs T) (slot : Slot T name id) (hty : typeOf (.builtin id) = pure (.type "method_descriptor")) (hm : MtR X id r) (ho : PE X o to) (ha : PA X (e :: es) t)
    (hbase : attributeBase o name X.env (eval o X.env) = eval o X.env := by rfl)
    (hfew : ((backTo cpos (starEach (e :: es) X.env)).all (fun x => !x.1) && (backToKw cpos (keywordEach [] X.env)).all (fun x => x.1.isSome)
      && decide ((e :: es).length + ([] : List Keyword).length + (if ([] : List Keyword).isEmpty then 0 else 1) < 30)) = true := by rfl)
    (hline : (apos.endLine == cpos.line) = true := by rfl) (hs : starEach (e :: es) X.env = (false, eval e X.env) :: starEach es X.env := by rfl) (hplain : (backTo cpos (starEach es X.env)).any (·.1) = false := by rfl) :
    PE X (.Call (.Attribute o name apos) (e :: es) [] cpos) (tBM X.K T r to t) := by
  intro pins s σ H Q I h
  refine wpAny_Call_method_late hbase hfew hline rfl (thn (ho pins s σ H _ I h) fun v s1 hw' => ?_)
  obtain ⟨x, H1, I1, r1, ty, q1⟩ := hw'
  obtain ⟨h1, h2⟩ := tyV_is I1 r1 ty
  refine ⟨T, id, pa, slot, hty, h1, h2, ?_⟩
  have hA := ha cpos pins s1 σ H1 _ I1 q1
  rw [hs] at hA ⊢
  refine Calls.callWith_builtin (by show (false || (backTo cpos (starEach es X.env)).any (·.1)) = false; rw [hplain] <;> rfl) (Calls.evalArgs_plain ?_)
  exact thn hA fun us s2 ⟨vs, H2, I2, r2, q2⟩ => hm pins s2 σ H2 x vs v us Q I2 r1 r2 q2
/- xs.append(e), list.index on a module's tuple .. are MtR facts of 06m -/
end
end L2

namespace L2
open PySem PySem.Spec PyProof.Rows

def MtM (X : Cx) (id : String) (r : V → List V → Hp → VK → Prop) : Prop :=
  ∀ (pins : List (Addr × Obj)) (s : Shared) (σ : St) (H : Hp) (x : V) (xs : List V) (v : Value) (us : List Value) (Q : VK), Inv X pins σ H s → RelV x v → Vals xs us → r x xs H Q →
    wpAny (model X.prog X.w) X.A (call (.builtin id) (v :: us)) (EP X pins σ Q) X.xe s

/-! ### lists of values -/
theorem Vals.one : ∀ {x : V} {us : List Value}, Vals [x] us → ∃ u, us = [u] ∧ RelV x u
  | _, _, .cons r .nil => ⟨_, rfl, r⟩
theorem Vals.two : ∀ {x y : V} {us : List Value}, Vals [x, y] us → ∃ u v, us = [u, v] ∧ RelV x u ∧ RelV y v
  | _, _, _, .cons r (.cons q .nil) => ⟨_, _, rfl, r, q⟩
theorem Vals.zero : ∀ {us : List Value}, Vals [] us → us = []
  | _, .nil => rfl
theorem Vals.dropLast {xs : List V} {us : List Value} (h : Vals xs us) : Vals xs.dropLast us.dropLast := by
  induction h with
  | nil => exact .nil
  | cons r t ih =>
    cases t with
    | nil => exact .nil
    | cons q t' => exact .cons r ih
theorem Vals.rep {xs : List V} {us : List Value} (h : Vals xs us) : ∀ k : Nat, Vals (List.replicate k xs).flatten (List.replicate k us).flatten
  | 0 => .nil
  | k + 1 => by
    rw [List.replicate_succ, List.replicate_succ, List.flatten_cons, List.flatten_cons]
    exact Vals.append h (Vals.rep h k)
theorem foldl_rep (its : List Value) : ∀ (k : Nat) (acc : List Value),
    List.foldl (fun x1 x2 => x1 ++ x2) acc.toArray (List.replicate k its.toArray) = (acc ++ (List.replicate k its).flatten).toArray
  | 0, acc => by simp
  | k + 1, acc => by
    have e : acc.toArray ++ its.toArray = (acc ++ its).toArray := by simp
    have e2 : (acc ++ its) ++ (List.replicate k its).flatten = acc ++ (List.replicate (k + 1) its).flatten := by
      rw [List.replicate_succ, List.flatten_cons, List.append_assoc]
    rw [← e2, ← foldl_rep its k (acc ++ its), ← e, List.replicate_succ, List.foldl_cons]

section
variable {X : Cx} {pins : List (Addr × Obj)} {σ : St} {H : Hp} {s : Shared} {l b : Addr} {xs ys zs : List V}

/-! ### the two steps: a tracked list is rewritten, a new list is laid -/
theorem Inv.lset {its its' : List Value} {n : Nat} {f : Array Value → Array Value} {t' : Nat} (I : Inv X pins σ H s) (hH : H l = some (.lst xs))
    (e : s.heap.get? l = some { cls := .type "list", data := .seq its.toArray n }) (hf : f its.toArray = its'.toArray) (hv : Vals ys its') (hz : ys.length ≤ sizeLine) :
    Inv X pins σ (upd H l (.lst ys)) { s with heap := s.heap.update l (Obj.mapSeq f), toks := t' } := by
  have q := PySem.IsL.update e f
  rw [hf] at q
  refine I.write (x := l) (e := l) (by rw [hH]; exact trivial) (.inl rfl) (fun b' u hb hu => (Heap.get?_update_other s.heap (Obj.mapSeq f) (Ne.symm hb)).trans hu) ⟨_, q⟩ ?_
  exact ⟨hz, its', _, hv, q⟩
theorem Inv.lnew {its : List Value} {t' : Nat} (I : Inv X pins σ H s) (hv : Vals ys its) (hz : ys.length ≤ sizeLine) :
    Inv X pins σ (upd H s.heap.objs.size (.lst ys)) { s with heap := s.heap.push { cls := .type "list", data := .seq its.toArray }, toks := t' } :=
  I.laid (fun _ _ q => Heap.get?_push_of_some _ q) (Nat.le_refl _) ⟨hz, its, 0, hv, Heap.get?_push_size _ rfl⟩
theorem Inv.fresh (I : Inv X pins σ H s) : H s.heap.objs.size = none := I.hok.fresh (Nat.le_refl _)
theorem Inv.lstM (I : Inv X pins σ H s) (hH : H l = some (.lst xs)) : xs.length ≤ sizeLine ∧ ∃ (its : List Value) (n : Nat), Vals xs its ∧ xs.length = its.length ∧ s.heap.get? l = some { cls := .type "list", data := .seq its.toArray n } := by
  obtain ⟨z, its, n, r, e⟩ := I.hok l _ hH
  exact ⟨z, its, n, r, r.length, e⟩

theorem notLongL {n : Nat} (h : n ≤ sizeLine) : Builtin.List.listTooLong n = false := by
  unfold Builtin.List.listTooLong
  exact decide_eq_false (by omega)
end

section
variable {X : Cx}

/-! ### methods -/
def rAppend : V → List V → Hp → VK → Prop := fun x vs H Q => ∃ l xs y, x = .ref l ∧ vs = [y] ∧ H l = some (.lst xs) ∧ xs.length < sizeLine ∧ Q .non (upd H l (.lst (xs ++ [y])))
theorem mt_append : MtM X "list.append" rAppend := by
  intro pins s σ H x vs v us Q I rx rv h
  obtain ⟨l, xs, y, rfl, rfl, hH, hz, q⟩ := h
  cases rx
  obtain ⟨u, rfl, ru⟩ := rv.one
  obtain ⟨z, its, n, r, hl, e⟩ := I.lstM hH
  refine call_meets F.slot_list_append ⟨_, e, rfl⟩ F.entry_list_append (F.args_list_append_2 _ _) (PySem.list_append l its.toArray n u (by rw [List.size_toArray]; omega)) ⟨e, ?_⟩
  refine ⟨.non, _, I.lset (its' := its ++ [u]) hH e (by simp) (r.append (.cons ru .nil)) ?_, rfl, q⟩
  rw [List.length_append, List.length_singleton]
  omega

/-! ### list + list, list += list, list * int -/
def rCat : R2 := fun x y H Q => ∃ l b xs zs, x = .ref l ∧ y = .ref b ∧ H l = some (.lst xs) ∧ H b = some (.lst zs) ∧ xs.length + zs.length ≤ sizeLine ∧ ∀ p, H p = none → Q (.ref p) (upd H p (.lst (xs ++ zs)))
theorem op_cat : OpR X (binaryOp .Add) rCat := by
  intro pins s σ H x y v u Q I rx ry h
  obtain ⟨l, b, xs, zs, rfl, rfl, hH, hB, hz, q⟩ := h
  cases rx
  cases ry
  obtain ⟨z, its, n, r, hl, e⟩ := I.lstM hH
  obtain ⟨z2, its2, n2, r2, hl2, e2⟩ := I.lstM hB
  refine PySem.P.add_list e e2 ?_ (by rw [List.size_toArray, List.size_toArray]; omega)
  have ea : its.toArray ++ its2.toArray = (its ++ its2).toArray := by simp
  rw [ea]
  exact ⟨.ref _, _, I.lnew (t' := s.toks) (r.append r2) (by rw [List.length_append]; omega), rfl, q _ I.fresh⟩
/-- a list times an int (a negative one is nothing) -/
def rRep : R2 := fun x y H Q => ∃ l k xs, x = .ref l ∧ y = .int k ∧ H l = some (.lst xs) ∧ -(2 ^ 63) ≤ k ∧ k < 2 ^ 63 ∧ xs.length * k.toNat ≤ sizeLine ∧
  ∀ p, H p = none → Q (.ref p) (upd H p (.lst (List.replicate k.toNat xs).flatten))
theorem len_rep {α : Type} (xs : List α) (k : Nat) : (List.replicate k xs).flatten.length = k * xs.length := by
  induction k with
  | zero => simp
  | succ k ih => rw [List.replicate_succ, List.flatten_cons, List.length_append, ih, Nat.succ_mul, Nat.add_comm]
theorem op_rep : OpR X (binaryOp .Mult) rRep := by
  intro pins s σ H x y v u Q I rx ry h
  obtain ⟨l, k, xs, rfl, rfl, hH, h1, h2, hz, q⟩ := h
  cases rx
  obtain ⟨t, rfl⟩ := ry
  obtain ⟨z, its, n, r, hl, e⟩ := I.lstM hH
  have hlen : its.toArray.size * k.toNat ≤ sizeLine := by rw [List.size_toArray, ← hl]; exact hz
  have hcap : ¬ its.toArray.size * k.toNat > (2 ^ 63 - 1) / 8 := by
    have : (sizeLine : Nat) ≤ (2 ^ 63 - 1) / 8 := by decide
    omega
  have hfit : ¬ (!Builtin.List.listFitsIndex k) = true := by
    rw [fitsIndex_both h1 h2]
    exact Bool.false_ne_true
  have hlong : ¬ Builtin.List.listTooLong (its.toArray.size * k.toNat) = true := by
    rw [notLongL hlen]
    exact Bool.false_ne_true
  have hnew : List.foldl (fun x1 x2 => x1 ++ x2) #[] (List.replicate (if its.toArray.isEmpty = true then 0 else k.toNat) its.toArray) = (List.replicate k.toNat its).flatten.toArray := by
    have f0 : ∀ m : Nat, List.foldl (fun x1 x2 => x1 ++ x2) #[] (List.replicate m its.toArray) = (List.replicate m its).flatten.toArray := fun m => by
      have := foldl_rep its m []
      rw [List.nil_append] at this
      exact this
    rw [f0]
    cases its with
    | nil => simp
    | cons a r' => rw [if_neg (by simp)]
  refine wpAny_binaryOp_repeat_ref (T := "list") (U := "int") (by decide) ⟨_, e, rfl⟩ (fun s' => typeIs_int s' k t) noFill_list_mul F.fills_int_mul F.slot_int_rmul repeat_list F.slot_int_index.lookup
    (call_meets F.slot_int_rmul (typeIs_int s k t) F.entry_int_rmul (F.args_int_rmul_2 _ _) (int___rmul___int_list k t l its.toArray n)
      ⟨e, rfl, ⟨_, e, rfl⟩, call_meets F.slot_list_mul ⟨_, e, rfl⟩ F.entry_list_mul (F.args_list_mul_2 _ _) (AutoListH.list___mul___list_int_3 l its.toArray n k t hfit hcap hlong) ⟨e, ?_⟩⟩)
  rw [hnew]
  exact ⟨.ref _, _, I.lnew (t' := s.toks) (r.rep k.toNat) (by rw [len_rep, Nat.mul_comm]; exact hz), rfl, q _ I.fresh⟩

end

/-! ### xs[a:b] = ys -/
section
variable {prog : Program} {w : World} {A : Around} {E : Value → Shared → Prop} {s : Shared}
set_option maxRecDepth 100000 in
end

section
variable {X : Cx}
end
end L2

namespace L2
open PySem PySem.Spec PyProof.Rows

/-! ### lists of pairs as tables -/
section
variable {κ : Type} [DecidableEq κ]
def valV (kvs : List (κ × V)) (k : κ) : Option V := (kvs.find? fun kv => decide (kv.1 = k)).map (·.2)
/-- in its place, or at the end -/
def putK (kvs : List (κ × V)) (k : κ) (v : V) : List (κ × V) :=
  if (kvs.any fun kv => decide (kv.1 = k)) = true then kvs.map (fun kv => if kv.1 = k then (kv.1, v) else kv) else kvs ++ [(k, v)]
def dropK (kvs : List (κ × V)) (k : κ) : List (κ × V) := kvs.filter fun kv => decide (kv.1 ≠ k)

theorem valV_pos {p : κ × V} {r : List (κ × V)} {k : κ} (e : p.1 = k) : valV (p :: r) k = some p.2 := by simp [valV, List.find?_cons, e]
theorem valV_neg {p : κ × V} {r : List (κ × V)} {k : κ} (e : ¬ p.1 = k) : valV (p :: r) k = valV r k := by simp [valV, List.find?_cons, e]
theorem RelO.getD {o : Option V} {u : Option Value} {d : V} {d' : Value} (r : RelO o u) (rd : RelV d d') : RelV (o.getD d) (u.getD d') := by
  cases o with
  | none => cases u with
    | none => exact rd
    | some _ => exact (show False from r).elim
  | some _ => cases u with
    | none => exact (show False from r).elim
    | some _ => exact r

/-- raw tables of the same keys -/
theorem KV.val {kvs : List (κ × V)} {vs : List (κ × Value)} (r : KV kvs vs) (k : κ) : RelO (valV kvs k) (valueAt vs k) := by
  unfold KV at r
  induction r with
  | nil => exact True.intro
  | @cons p q ps qs h t ih =>
    obtain ⟨h1, h2⟩ := h
    by_cases e : p.1 = k
    · have e' : q.1 = k := h1.symm.trans e
      have b : valueAt (q :: qs) k = some q.2 := by simp [valueAt, List.find?_cons, e']
      rw [valV_pos e, b]; exact h2
    · have e' : ¬ q.1 = k := fun z => e (h1.trans z)
      have b : valueAt (q :: qs) k = valueAt qs k := by simp [valueAt, List.find?_cons, e']
      rw [valV_neg e, b]; exact ih
theorem KV.any {kvs : List (κ × V)} {vs : List (κ × Value)} (r : KV kvs vs) (k : κ) : (kvs.any fun kv => decide (kv.1 = k)) = vs.any fun kv => decide (kv.1 = k) := by
  unfold KV at r
  induction r with
  | nil => rfl
  | cons h t ih => rw [List.any_cons, List.any_cons, ih, h.1]
theorem KV.drop {kvs : List (κ × V)} {vs : List (κ × Value)} (r : KV kvs vs) (k : κ) : KV (dropK kvs k) (without vs k) := by
  unfold KV at r ⊢
  unfold dropK without
  induction r with
  | nil => exact .nil
  | @cons p q ps qs h t ih =>
    obtain ⟨h1, h2⟩ := h
    rw [List.filter_cons, List.filter_cons]
    by_cases e : p.1 = k
    · have a : ¬ decide (p.1 ≠ k) = true := by simp [e]
      have b : ¬ decide (q.1 ≠ k) = true := by simp [h1.symm.trans e]
      rw [if_neg a, if_neg b]; exact ih
    · have e' : ¬ q.1 = k := fun z => e (h1.trans z)
      have a : decide (p.1 ≠ k) = true := by simp [e]
      have b : decide (q.1 ≠ k) = true := by simp [e']
      rw [if_pos a, if_pos b]; exact .cons ⟨h1, h2⟩ ih
theorem KV.keys {kvs : List (κ × V)} {vs : List (κ × Value)} (r : KV kvs vs) : kvs.map (·.1) = vs.map (·.1) := by
  unfold KV at r
  induction r with
  | nil => rfl
  | cons h t ih => rw [List.map_cons, List.map_cons, ih, h.1]
theorem KV.length {kvs : List (κ × V)} {vs : List (κ × Value)} (r : KV kvs vs) : kvs.length = vs.length := Paired.length r
end


/-- raw entries of a dict with tuple keys -/
abbrev KT (H : Hp) : List (List Key × V) → List (List Key × Addr × Value) → Prop := Paired fun p q => p.1 = q.1 ∧ H q.2.1 = some (.tup (p.1.map kV)) ∧ RelV p.2 q.2.2
theorem KT.val {H : Hp} {kvs : List (List Key × V)} {xs : List (List Key × Addr × Value)} (r : KT H kvs xs) (k : List Key) : RelO (valV kvs k) ((atKey xs k).map (·.2)) := by
  induction r with
  | nil => exact True.intro
  | @cons p q ps qs h t ih =>
    obtain ⟨h1, _, h2⟩ := h
    by_cases e : p.1 = k
    · have e' : q.1 = k := h1.symm.trans e
      have b : atKey (q :: qs) k = some q.2 := by simp [atKey, List.find?_cons, e']
      rw [valV_pos e, b]; exact h2
    · have e' : ¬ q.1 = k := fun z => e (h1.trans z)
      have b : atKey (q :: qs) k = atKey qs k := by simp [atKey, List.find?_cons, e']
      rw [valV_neg e, b]; exact ih
theorem KT.keeps {H H' : Hp} {kvs : List (List Key × V)} {xs : List (List Key × Addr × Value)} (r : KT H kvs xs) (ht : ∀ b ys, H b = some (.tup ys) → H' b = some (.tup ys)) : KT H' kvs xs :=
  Paired.mapP r fun _ _ z => ⟨z.1, ht _ _ z.2.1, z.2.2⟩

section
variable {P : Program} {w : World} {H : Hp} {h : Heap} {a : Addr}
end

/-- what the dict at a holds at the key y -/
def DGet (H : Hp) (a : Addr) (y : V) (r : Option V) : Prop :=
  (∃ kvs k, Rd H a (.dK kvs) ∧ y = kV k ∧ r = valV kvs k) ∨ ∃ kvs k b, Rd H a (.dT kvs) ∧ y = .ref b ∧ H b = some (.tup (k.map kV)) ∧ r = valV kvs k
/-- the heap behind a[y] = v -/
def DPut (H : Hp) (a : Addr) (y v : V) (H' : Hp) : Prop :=
  (∃ kvs k, H a = some (.dK kvs) ∧ y = kV k ∧ kvs.length < sizeLine ∧ H' = upd H a (.dK (putK kvs k v))) ∨
  ∃ kvs k b, H a = some (.dT kvs) ∧ y = .ref b ∧ H b = some (.tup (k.map kV)) ∧ kvs.length < sizeLine ∧ H' = upd H a (.dT (putK kvs k v))
theorem DGet.k {H : Hp} {a : Addr} {kvs : List (Key × V)} {k : Key} (e : H a = some (.dK kvs)) : DGet H a (kV k) (valV kvs k) := .inl ⟨kvs, k, .inl e, rfl, rfl⟩
theorem DGet.t {H : Hp} {a b : Addr} {kvs : List (List Key × V)} {k : List Key} (e : H a = some (.dT kvs)) (eb : H b = some (.tup (k.map kV))) : DGet H a (.ref b) (valV kvs k) := .inr ⟨kvs, k, b, .inl e, rfl, eb, rfl⟩
theorem DPut.k {H : Hp} {a : Addr} {kvs : List (Key × V)} {k : Key} {v : V} (e : H a = some (.dK kvs)) (hl : kvs.length < sizeLine) : DPut H a (kV k) v (upd H a (.dK (putK kvs k v))) := .inl ⟨kvs, k, e, rfl, hl, rfl⟩
theorem DPut.t {H : Hp} {a b : Addr} {kvs : List (List Key × V)} {k : List Key} {v : V} (e : H a = some (.dT kvs)) (eb : H b = some (.tup (k.map kV))) (hl : kvs.length < sizeLine) :
    DPut H a (.ref b) v (upd H a (.dT (putK kvs k v))) := .inr ⟨kvs, k, b, e, rfl, eb, hl, rfl⟩


section
variable {X : Cx} {pins : List (Addr × Obj)} {σ : St} {H : Hp} {s : Shared} {a : Addr} {y v : V} {u r : Value} {o : Option V} {A : Around} {E : Value → Shared → Prop}

theorem Inv.big (I : Inv X pins σ H s) : sysModules < s.heap.objs.size := by
  have h : mainGlobals < s.heap.objs.size := (I.mod.glob.keeps I.bk).lt
  exact Nat.lt_trans (by decide) h

end

section
variable {X : Cx} {pins : List (Addr × Obj)} {σ : St} {H : Hp} {s : Shared} {a : Addr} {kvs : List (Key × V)} {k : Key} {u : Value} {A : Around} {E : Value → Shared → Prop}
end


section
variable {X : Cx} {o i e value : Expr} {pos pos' tpos : Pos} {td ty tv : TE}
end


section
variable {X : Cx} {pos : Pos}
end

/-! ### methods -/
/-- a method call o.m(e) of a built-in, with one argument: what must be seen of the text -/
structure M1 (X : Cx) (o : Expr) (m : Str) (apos : Pos) (e : Expr) (cpos : Pos) : Prop where
  base : attributeBase o m X.env (eval o X.env) = eval o X.env
  few : ((backTo cpos (starEach [e] X.env)).all (fun x => !x.1) && (backToKw cpos (keywordEach [] X.env)).all (fun x => x.1.isSome)
    && decide (([e] : List Expr).length + ([] : List Keyword).length + (if ([] : List Keyword).isEmpty then 0 else 1) < 30)) = true
  line : (apos.endLine == cpos.line) = true
  trees : backTo cpos (starEach [e] X.env) = [(false, eval e X.env)]
structure M2 (X : Cx) (o : Expr) (m : Str) (apos : Pos) (e f : Expr) (cpos : Pos) : Prop where
  base : attributeBase o m X.env (eval o X.env) = eval o X.env
  few : ((backTo cpos (starEach [e, f] X.env)).all (fun x => !x.1) && (backToKw cpos (keywordEach [] X.env)).all (fun x => x.1.isSome)
    && decide (([e, f] : List Expr).length + ([] : List Keyword).length + (if ([] : List Keyword).isEmpty then 0 else 1) < 30)) = true
  line : (apos.endLine == cpos.line) = true
  trees : backTo cpos (starEach [e, f] X.env) = [(false, eval e X.env), (false, eval f X.env)]

section
variable {X : Cx} {pins : List (Addr × Obj)} {σ : St} {H : Hp} {s : Shared} {a : Addr} {y d : V} {u r : Value} {o : Option V} {A : Around} {E : Value → Shared → Prop}
end

section
variable {X : Cx} {o e f : Expr} {apos cpos : Pos} {td ty tx : TE}
end

/-! ### dict(d): a copy -/
section
variable {X : Cx} {pins : List (Addr × Obj)} {σ : St} {H : Hp} {s : Shared} {a : Addr} {kvs : List (Key × V)} {A : Around} {E : Value → Shared → Prop}
end


section
variable {X : Cx} {pins : List (Addr × Obj)} {σ : St} {H : Hp} {s : Shared} {a : Addr} {y : V} {u : Value} {A : Around} {E : Value → Shared → Prop}
end
end L2

namespace Att
open PySem PySem.W PySem.Calls PyProof.Rows

/-! ### the script -/
theorem ints_of_wellAll {P : Params} {h : Heap} : ∀ (ns : List Int) (vs : List Value), WellAll P h vs (ns.map WData.int) → IntsAre vs ns := by
  intro ns
  induction ns with
  | nil =>
    intro vs w
    rw [List.map_nil] at w
    cases w
    exact .nil
  | cons n ns ih =>
    intro vs w
    rw [List.map_cons] at w
    cases w with
    | cons a b =>
      cases a
      exact .cons _ _ (ih _ b)

theorem script_of {l : OpenLaw} {n : Nat} (hn : l.most = some n) {P : Params} {h : Heap} {args : List WData} {vals : List Value}
    (hpre : l.row.toRowW.claim.pre args = true) (hwl : WellAll P h vals args) :
    ∃ a vs ns, vals = [Value.ref a] ∧ args = [WData.list (ns.map WData.int)] ∧ h.get? a = some { cls := .type "list", data := .seq vs.toArray } ∧ IntsAre vs ns ∧ ns.length ≤ n := by
  have hsh : WShape.hasAll [] args [.list .int] = true := (pre_splitW hpre).1
  have hc : l.pre.holds [] { args := args } = true := (pre_splitW hpre).2
  obtain ⟨d, r, rfl, h1, h2⟩ := hasAllW_cons hsh
  obtain rfl := hasAllW_nil h2
  obtain ⟨xs, rfl, h3⟩ := hasW_list h1
  obtain ⟨ns, rfl⟩ := items_int h3
  have hlen : ns.length ≤ n := by
    unfold OpenLaw.pre at hc
    have h4 : (WTm.not (.lt (.lit (.int (n : Int))) (.len (.arg 0)))).holds [] { args := [.list (ns.map .int)] } = true := by
      have h4 := (holds_andW hc).1
      rw [hn] at h4
      exact h4
    have h5 := condW_of h4 (w_not (w_lt w_lit (w_len_list (w_arg rfl))))
    rw [List.length_map] at h5
    refine Nat.le_of_not_lt fun q => ?_
    have q' : (n : Int) < ((ns.length : Nat) : Int) := by omega
    first
      | (rw [decide_eq_true q'] at h5; exact absurd h5 (by decide))
      | (simp at h5; omega)
  cases hwl with
  | cons w1 w2 =>
    cases w2
    cases w1 with
    | list ho hall => exact ⟨_, _, ns, rfl, rfl, ho, ints_of_wellAll ns _ hall, hlen⟩

theorem post_true (l : OpenLaw) (args : List WData) : l.row.toRowW.claim.post args (.bool true) args = true :=
  postW_of (r := l.row.toRowW) (X := (true == true))
    (show WShape.has [] (.bool true) .bool = true by first | rfl | decide | simp [WShape.has, WShape.arms, WShape.armsAll])
    (show (WTm.eq .res (.lit (.bool true))).value [] { args := args, res := some (.bool true), after := args } = some (.bool (true == true)) from w_eq_bool (w_res rfl) w_lit) rfl

/-- the same from a codeAny of the CALL (for a layer whose function contracts speak of calls) -/
theorem attach_call {l : OpenLaw} {n : Nat} {q : Program} {loose : List Str} {XP : (Str → Option Value) → Heap → Prop} {YP : World → Heap → Prop} {d : DefRec}
    (hn : l.most = some n) (hdf : d.params.defaults = [])
    (call : ∀ (w : World) (s₀ s₁ : Shared) (mg mb : Str → Option Value) (fa : Addr) (o : Obj) (pm cd doc : Value) (a : Addr) (vs : List Value) (ns : List Int),
      Ground q loose [] XP w s₀ mg mb s₁.heap → YP w s₁.heap →
      s₁.heap.get? fa = some o → o.data = .func (docDef d.name d.params d.body d.scope pm cd doc) → s₁.heap.CodeRec cd d.name → mg d.name = some (.ref fa) →
      s₁.heap.get? a = some { cls := .type "list", data := .seq vs.toArray } → IntsAre vs ns → ns.length ≤ n → s₁.gens = #[] →
      codeAny (model l.prog w) callerA (.call (.ref fa) ⟨[.ref a], []⟩) (fun r s' => r = .ok (.ret (.bool true)) ∧ OldK s₁.heap s'.heap ∧ s'.os = s₁.os ∧ AllBare s'.gens) s₁) :
    WalkO q loose XP YP l.row.toRowW d [] (fun f vs => PySem.call f vs) := by
  intro w s₀ s₁ mg mb G Y fa o pm cd doc dV kV ho hd hcd hD hmg hg args vals as hpre hlay hrd hwl hlo
  obtain rfl : dV = .none := Dflts.none hD hdf
  obtain rfl : kV = .none := Dflts.noKw hD
  obtain ⟨a, vs, ns, rfl, rfl, hobj, hints, hlen⟩ := script_of hn hpre hwl
  refine enter_call (codeAny_mono (call w s₀ s₁ mg mb fa o pm cd doc a vs ns G Y ho (fd_plain hd) hcd hmg hobj hints hlen hg) fun r s' hq => ?_)
  obtain ⟨rfl, h2, h3, h4⟩ := hq
  exact ⟨.inl ⟨.bool true, .bool true, [], rfl, fun _ => rfl, .bool true, post_true l _, fun _ => ⟨List.Pairwise.nil, fun _ hm => (nomatch hm)⟩⟩, h2, h3, h4⟩

/-! ### rules over ANY heap (no ledger) from facts about the written part K: the library's own take a ledger (News) for what they write -/
section
variable {prog : Program} {w : World} {A : Around} {E : Value → Shared → Prop} {s : Shared} {K : Frag}

def ledger (h : Heap) (L d : Addr) : List (Addr × Obj) := (List.range h.objs.size).filterMap fun a => if a = L ∨ a = d then none else (h.get? a).map fun o => (a, o)
end
end Att

namespace L2
open PySem PySem.Spec PyProof.Rows

theorem vals_ints : ∀ {vs : List Value} {ns : List Int}, IntsAre vs ns → Vals (ns.map V.int) vs
  | _, _, .nil => .nil
  | _, _, .cons n t h => .cons ⟨t, rfl⟩ (vals_ints h)

/-- nothing is tracked but the script, known to the object (or it is an object of the module) -/
def Only (H : Hp) : Prop := ∀ b, H b = none ∨ ∃ o xs, H b = some (.frz o (.lst xs))

/-- THE HEAD: the law's promise, at the heap behind the top. F, the promise of the law's def, may use that base is part of the heap (so K.In base, base.Ns mainGlobals mg stand in Mod) -/
theorem law_call {P : Program} {w : World} {K : PySem.W.Frag} {mg mb : Str → Option Value} {CX : CXT} {k : Nat} {fa a : Addr} {fd : FuncData} {x : Str} {sp : Sp} {s₁ : Shared} {vs : List Value} {ns : List Int}
    (KX : K.In s₁.heap) (hns : s₁.heap.Ns mainGlobals mg) (hb : s₁.heap.Ns builtinsNs mb) (hbb : ∀ x : Str, x ≠ "__name__" → mb x = bootBuiltins x) (hlim : s₁.heap.NoLimit) (hg : s₁.gens = #[])
    (ha : s₁.heap.get? a = some { cls := .type "list", data := .seq vs.toArray }) (hi : IntsAre vs ns) (hl : ns.length ≤ sizeLine) (hr : Room k callerA)
    (F : ∀ base : Heap, K.In base → base.Ns mainGlobals mg → FnOk P w K mg base CX k fa fd [x] sp) (hbind : ∀ (s : Shared) (u : Value), BindsTo s fd ⟨[u], []⟩ [(x, u)])
    (hsp : ∀ H : Hp, Only H → SqL K H a (ns.map V.int) → sp [.ref a] H (fun v _ => v = .bl true) fun _ _ _ => False)
    (hCX : ∀ H e s', CX [] H s₁ (fun _ _ _ => False) e s' → False) :
    codeAny (model P w) callerA (.call (.ref fa) ⟨[.ref a], []⟩) (fun r s' => r = .ok (.ret (.bool true)) ∧ OldK s₁.heap s'.heap ∧ s'.os = s₁.os ∧ AllBare s'.gens) s₁ := by
  have rv := vals_ints hi
  have lenV := hi.length
  -- from an abstract heap in which nothing but the script may be tracked
  have core : ∀ H : Hp, Only H → SqL K H a (ns.map V.int) → HOk P w H s₁.heap → (∀ b, H b ≠ none → b = a) → (H a ≠ none → K.lookup a = none) →
      codeAny (model P w) callerA (.call (.ref fa) ⟨[.ref a], []⟩) (fun r s' => r = .ok (.ret (.bool true)) ∧ OldK s₁.heap s'.heap ∧ s'.os = s₁.os ∧ AllBare s'.gens) s₁ := by
    intro H hO hS hok hA hK
    have base_of : ∀ {b : Addr} {o : Obj}, s₁.heap.get? b = some o → H b = none → (hidT s₁.heap H).get? b = some o := fun e n => hidT_get e n
    have noA : ∀ {b : Addr} {o : Obj} {es : Array DictEntry} {ep : Nat}, s₁.heap.get? b = some o → o.data = .dict es ep → H b = none := fun {b o es ep} e d => by
      cases q : H b with
      | none => rfl
      | some u =>
        have e' : b = a := hA b (by rw [q]; simp)
        subst e'
        rw [ha] at e; cases e
        have d' : Data.seq vs.toArray _ = Data.dict es ep := d
        cases d'
    have nsK : ∀ {b : Addr} {m : Str → Option Value}, s₁.heap.Ns b m → (hidT s₁.heap H).Ns b m := fun {b m} ⟨o, es, ep, e, d, r⟩ => ⟨o, es, ep, base_of e (noA e d), d, r⟩
    have hKb : K.In (hidT s₁.heap H) := fun b o e => base_of (KX b o e) (by
      cases q : H b with
      | none => rfl
      | some u =>
        have e' : b = a := hA b (by rw [q]; simp)
        subst e'
        rw [hK (by rw [q]; simp)] at e; cases e)
    have hM : Mod K mg (hidT s₁.heap H) := ⟨hKb, nsK hns, ⟨mb, nsK hb, hbb⟩, let ⟨mc, h1, h2⟩ := hlim; ⟨mc, nsK h1, h2⟩⟩
    have e0 : Env0 P w K mg (hidT s₁.heap H) callerA [] s₁ H := ⟨rfl, hM, fun b o e => of_hidT e, Nat.le_of_eq (hidT_size _ _), trivial, fun b hb => absurd (show b ∈ ([] : List Addr) from hb) (by simp), hok, .of_eq hg⟩
    refine codeAny_mono ((F _ hKb (nsK hns)).run callerA [] s₁ H ⟨[.ref a], []⟩ [.ref a] [.ref a] _ _ hr e0 (hbind s₁ (.ref a)) (.cons rfl .nil) (hsp H hO hS)) fun r s' h => ?_
    cases r with
    | error e => exact (hCX H e s' h).elim
    | ok fl =>
      cases fl with
      | next => exact False.elim h
      | brk => exact False.elim h
      | cont => exact False.elim h
      | ret u =>
        obtain ⟨v, H', os, bare, un, hok', r', q⟩ := h
        have q' : v = .bl true := q
        subst q'
        obtain rfl : u = Value.bool true := r'
        refine ⟨rfl, OldK.of_keep fun b o e => ?_, os, bare⟩
        cases q : H b with
        | none => exact un.keep b o e q (by intro z; exact absurd (show b ∈ ([] : List Addr) from z) (by simp)) (by simp)
        | some u =>
          rcases hO b with z | ⟨ob, xs, z⟩
          · rw [q] at z; cases z
          · have z2 := un.frzs b ob _ z
            obtain ⟨e1, _⟩ := hok b _ z
            obtain ⟨e2, _⟩ := hok' b _ z2
            rw [e] at e1; cases e1
            exact e2
  cases hk : K.lookup a with
  | some o =>
    -- the script is one of the module's own objects
    have e := KX a o hk
    rw [ha] at e
    cases e
    refine core (fun _ => none) (fun _ => .inl rfl) (.inr ⟨_, vs.toArray, _, hk, rfl, rfl, rfl, by rw [List.size_toArray, lenV]; exact hl, by simpa using rv⟩) (fun b u z => by have z' : (none : Option HO) = some u := z; cases z') (fun b z => absurd rfl z) fun z => absurd rfl z
  | none =>
    refine core (fun b => if b = a then some (.frz { cls := .type "list", data := .seq vs.toArray } (.lst (ns.map V.int))) else none) (fun b => ?_) (.inl (.inr ⟨{ cls := .type "list", data := .seq vs.toArray }, if_pos rfl⟩)) (fun b u z => ?_) (fun b z => ?_) fun _ => hk
    · by_cases hb : b = a
      · exact .inr ⟨_, _, if_pos hb⟩
      · exact .inl (if_neg hb)
    · by_cases hb : b = a
      · have z' := (if_pos hb).symm.trans z
        cases z'
        subst hb
        exact ⟨ha, by rw [List.length_map]; exact hl, vs, _, rv, ha⟩
      · have z' := (if_neg hb).symm.trans z
        cases z'
    · by_cases hb : b = a
      · exact hb
      · exact absurd (if_neg hb) z
end L2

namespace L2
open PySem PySem.Spec PyProof.Rows

abbrev KOf {K : PySem.W.Frag} {h : Heap} (_ : K.In h) : PySem.W.Frag := K

/-- the goal that k_head leaves (case hc), from the law's promise. F gives the function object fd (K's own) once, then the promise over every base -/
theorem walk_of {l : PySem.W.OpenLaw} {n k : Nat} {q : Program} {loose : List Str} {XP : (Str → Option Value) → Heap → Prop} {YP : World → Heap → Prop} {d : DefRec} {K : Params → PySem.W.Frag} {CX : World → CXT} {sp : World → Sp} {x : Str}
    (hn : l.most = some n) (hn2 : n ≤ sizeLine) (hdf : d.params.defaults = []) (hr : Room k callerA)
    (hY : ∀ (w : World) (h : Heap), YP w h → (K w.params).In h)
    (F : ∀ (w : World) (mg : Str → Option Value) (fa : Addr) (h : Heap), (K w.params).In h → h.Ns mainGlobals mg → mg d.name = some (.ref fa) →
      ∃ fd : FuncData, (∀ (s : Shared) (u : Value), BindsTo s fd ⟨[u], []⟩ [(x, u)]) ∧
        ∀ base : Heap, (K w.params).In base → base.Ns mainGlobals mg → FnOk l.prog w (K w.params) mg base (CX w) k fa fd [x] (sp w))
    (hsp : ∀ (w : World) (H : Hp) (a : Addr) (ns : List Int), ns.length ≤ n → Only H → SqL (K w.params) H a (ns.map V.int) → sp w [.ref a] H (fun v _ => v = .bl true) fun _ _ _ => False)
    (hCX : ∀ (w : World) (H : Hp) (s : Shared) (e : Value) (s' : Shared), CX w [] H s (fun _ _ _ => False) e s' → False) :
    PySem.W.WalkO q loose XP YP l.row.toRowW d [] (fun f vs => PySem.call f vs) := by
  refine Att.attach_call hn hdf fun w s₀ s₁ mg mb fa o pm cd doc a vs ns G Y ho hd hcd hmg hobj hints hlen hg => ?_
  have KX := hY w _ Y
  obtain ⟨fd, hb, hF⟩ := F w mg fa _ KX G.T.g hmg
  exact law_call KX G.T.g G.T.b G.T.builtins G.T.nolimit hg hobj hints (Nat.le_trans hlen hn2) hr hF hb (fun H hO hS => hsp w H a ns hlen hO hS) fun H e s' => hCX w H s₁ e s'
end L2

/- THE LAST THEOREM (shape; LID, My.* are yours):
   My.Adr: a structure of the addresses that your layer names (classes, functions); My.Txt K t: a structure (Prop) of the equations over K;
   My.txt_mk : {K} {implicit addresses ..} (e1 : nsIn K mainGlobals "law" = some (some (.ref f))) (e2 : K.lookup f = some ⟨oc, od, .func (fnOf "law" "law" params body scope dV kV doc pm an cdv ct), sl⟩) (e3 : codeIn K cdv "law" = true) .. : ∃ t, My.Txt K t

set_option maxRecDepth 100000 in
set_option maxHeartbeats 0 in
theorem PySem.Challenge.cw_LID_holds : PySem.Challenge.rw_LID.Holds := by
  w_on; o_law; k_head; (case hw => w_witness2)
  k_fill
  refine L2.walk_of (l := PySem.Challenge.rw_LID) (n := 63) (k := 40) (x := "script") (CX := fun w => ..) (sp := fun _ => My.sp_law) rfl (by decide) rfl ⟨rfl, by decide, by decide⟩ (fun w h Y => PySem.W.kIn_of Y) ?F ?S ?C
  case F =>
    intro w mg fa h KX G hmg
    have T : ∃ t, My.Txt (L2.KOf KX) t := by
      dsimp only [L2.KOf]                          -- K must stand as «<heap const> w.params» for k_is
      refine' My.txt_mk ?e1 ?e2 ?e3 ..
      (case e1 => PySem.W.k_is)                    -- in the order: a name -> its address -> its object -> its parts
      (case e2 => PySem.W.k_is)
      ..
    obtain ⟨t, T⟩ := T
    have e0 := hmg.symm.trans (PySem.W.mg_of KX G T.law)
    cases e0                                       -- fa is the law's own address
    exact ⟨_, fun s u => .of_eq rfl, fun base kb nb => My.law_fn T kb nb⟩     -- if «.of_eq rfl» comes too early: refine' ⟨_, ?b, fun base kb nb => My.law_fn T kb nb⟩; exact fun s u => .of_eq rfl
  case S => exact fun w H a ns hl hO hS => ..
  case C => exact ..
(the tactic k_is has no namespace: write k_is) -/

/-! SHORT WORDS over the layer: a def of the text, its body, what a loop and a test want. -/
namespace L2
open PySem PySem.Spec PyProof.Rows

def defArgs (s : Stmt) : Arguments := match s with
  | .FunctionDef _ a _ _ _ _ _ _ _ _ => a
  | _ => { posonlyargs := [], args := [], vararg := none, kwonlyargs := [], kw_defaults := [], kwarg := none, defaults := [] }
def defBody (s : Stmt) : List Stmt := match s with
  | .FunctionDef _ _ b _ _ _ _ _ _ _ => b
  | _ => []
def defScope (s : Stmt) : Scope := match s with
  | .FunctionDef _ _ _ _ _ _ sc _ _ _ => sc
  | _ => { kind := .function, names := [], isGenerator := false, isCoroutine := false }

/-! ### no exception leaves a def -/
abbrev CX0 : CXT := fun _ _ _ _ _ _ => False
abbrev E0 : XK := fun _ _ _ => False
theorem pass0 {X : Cx} : Passes CX0 X E0 := fun _ _ _ _ _ _ _ h => h.elim

/-! ### a def (or method) of the text as it stands behind the top -/
structure Fun (K : PySem.W.Frag) (x qual : Str) (st : Stmt) (f : Addr) (fd : FuncData) : Prop where
  ex : ∃ (oc : Value) (od : Option Addr) (kV doc pm : Value) (an : Option Addr) (cdv ct : Value) (osl : Array (Option Value)),
    fd = PySem.W.fnOf x qual (defArgs st) (defBody st) (defScope st) .none kV doc pm an cdv ct ∧ K.lookup f = some ⟨oc, od, .func fd, osl⟩ ∧ PySem.W.codeIn K cdv qual = true
  kp : PySem.W.keepIn K (.ref f) = true
section
variable {P : Program} {w : World} {K : PySem.W.Frag} {mg : Str → Option Value} {base : Heap}
/-- THE RULE for a def: its body as a term of rules, and the reading of that term -/
theorem Fun.ok {x qual : Str} {st : Stmt} {f : Addr} {fd : FuncData} {N ps : List Str} {k : Nat} {sp : Sp} (F : Fun K x qual st f fd) (S : FnScope N ps (defScope st)) (len : ∀ vs H Q E, sp vs H Q E → vs.length = ps.length)
    (hbody : ∀ (cdv : Value) (A : Around) (outer : List Env) (s : Shared) (H : Hp) (vs : List V) (Q : VK) (E : XK), Room k (A.deeper (envOfC qual (defScope st) s.heap.objs.size f cdv)) → sp vs H Q E →
      ∃ t, PSs (cxOf CX0 P w K mg base N qual (defScope st) f cdv A outer s H E).nox (defBody st) t ∧ t { nx := fun _ H' => Q .non H', rt := Q } (start N vs) H) : FnOk P w K mg base CX0 (k + 1) f fd ps sp := by
  obtain ⟨oc, od, kV, doc, pm, an, cdv, ct, osl, rfl, lk, hcd⟩ := F.ex
  refine fn_of lk hcd S len fun A outer s H vs Q E hr hsp => ?_
  obtain ⟨t, h, q⟩ := hbody cdv A outer s H vs Q E hr hsp
  exact ⟨t, h.nox, q⟩
/-- how its arguments bind (no defaults): h is «fun _ _ _ _ _ _ us hl => match us, hl with | [_, _], _ => rfl», one _ a parameter -/
theorem Fun.binds {x qual : Str} {st : Stmt} {f : Addr} {fd : FuncData} {ps : List Str} (F : Fun K x qual st f fd)
    (h : ∀ (kV doc pm : Value) (an : Option Addr) (cdv ct : Value) (us : List Value), us.length = ps.length → bindArgs (PySem.W.fnOf x qual (defArgs st) (defBody st) (defScope st) .none kV doc pm an cdv ct) ⟨us, []⟩ = pure (ps.zip us)) : Binds K fd ps [] := by
  obtain ⟨oc, od, kV, doc, pm, an, cdv, ct, osl, rfl, lk, hcd⟩ := F.ex
  exact .all (h kV doc pm an cdv ct)
theorem fun_mk {x qual : Str} {st : Stmt} {f : Addr} {oc : Value} {od an : Option Addr} {osl : Array (Option Value)} {kV doc pm cdv ct : Value} (l : K.lookup f = some ⟨oc, od, .func (PySem.W.fnOf x qual (defArgs st) (defBody st) (defScope st) .none kV doc pm an cdv ct), osl⟩)
    (c : PySem.W.codeIn K cdv qual = true) (k : PySem.W.keepIn K (.ref f) = true) : Fun K x qual st f (PySem.W.fnOf x qual (defArgs st) (defBody st) (defScope st) .none kV doc pm an cdv ct) := ⟨⟨oc, od, kV, doc, pm, an, cdv, ct, osl, rfl, l, c⟩, k⟩
end
/-! ### expressions in short: the name that stands in the i-th slot -/
section
variable {X : Cx}
theorem pv (i : Nat) {x : Str} {pos : Pos} (hN : X.N[i]? = some x := by rfl) (hv : Vis X.env.scope x := by first | exact Or.inl rfl | exact Or.inr (Or.inl rfl) | exact Or.inr (Or.inr rfl)) (hd : (x == ("__debug__" : Str)) = false := by decide)
    (hcd : (x == ("__classdict__" : Str)) = false := by decide) : PE X (.Name x pos) (tVar i) := pe_var hN hv hd hcd
end

/-! ### tests -/
theorem iteF {A B : Prop} (h : B) : if false = true then A else B := by
  rw [if_neg Bool.false_ne_true]
  exact h
theorem iteT {A B : Prop} (h : A) : if true = true then A else B := by
  rw [if_pos rfl]
  exact h
/-! ### heaps -/
/-- all that was tracked is as it was -/
def Same (H H' : Hp) : Prop := ∀ b o, H b = some o → H' b = some o
theorem Same.refl (H : Hp) : Same H H := fun _ _ h => h
theorem Same.trans {H H1 H2 : Hp} (a : Same H H1) (b : Same H1 H2) : Same H H2 := fun c o h => b c o (a c o h)
theorem Same.free {H H' : Hp} (e : Same H H') {l : Addr} (h : H' l = Option.none) : H l = Option.none := by
  cases q : H l with
  | none => rfl
  | some o =>
    rw [e l o q] at h
    cases h
theorem Same.seq {K : PySem.W.Frag} {H H' : Hp} {a : Addr} {xs : List V} (e : Same H H') (h : SqL K H a xs) : SqL K H' a xs := by
  rcases h with (h | ⟨o, h⟩) | h
  · exact .inl (.inl (e _ _ h))
  · exact .inl (.inr ⟨o, e _ _ h⟩)
  · exact .inr h

end L2
namespace L2
open PySem PySem.Spec PyProof.Rows
section
variable {X : Cx}
end
/-! ### a dict's pairs: keys that differ -/
section
variable {κ : Type} [DecidableEq κ]
end
end L2
set_option Elab.async false
set_option linter.all false
set_option maxRecDepth 100000
/-! A LIST COMPREHENSION with one generator, over the layer. -/
namespace L2
open PySem PySem.Spec PyProof.Rows

/-- the closure's cells -/
def clos (cells : List (Str × Addr)) : List (Str × NameKind) → List (Str × Addr) → List (Str × Addr)
  | [], acc => acc
  | (n, k) :: r, acc => clos cells r (if k == .free then (n, (cells.lookup n).getD 0) :: acc else acc)
theorem clos_run {env : Env} : ∀ (names : List (Str × NameKind)) (acc : List (Str × Addr)), (∀ y ∈ names, y.2 = .free → ∃ c, env.cells.lookup y.1 = some c) →
    (forIn names acc (fun (x : Str × NameKind) (r : List (Str × Addr)) => if (x.2 == NameKind.free) = true then (do let a ← cellOf env x.1; pure (ForInStep.yield ((x.1, a) :: r))) else pure (ForInStep.yield r)) : Sem (List (Str × Addr))) = pure (clos env.cells names acc)
  | [], acc, _ => rfl
  | (n, k) :: r, acc, h => by
    rw [List.forIn_cons]
    have ih := fun a => clos_run r a fun y hy => h y (List.mem_cons_of_mem _ hy)
    cases hk : (k == NameKind.free) with
    | true =>
      have hk' : k = .free := by cases k <;> first | rfl | exact absurd hk (by decide)
      obtain ⟨c, hc⟩ := h (n, k) List.mem_cons_self hk'
      have hc' : env.cells.lookup n = some c := hc
      have e : cellOf env n = pure c := by unfold cellOf; rw [hc']
      dsimp only
      rw [if_pos rfl, e]
      show (forIn r ((n, c) :: acc) _ : Sem _) = _
      rw [ih]
      conv => rhs; unfold clos
      rw [if_pos hk, hc']
      rfl
    | false =>
      dsimp only
      rw [if_neg (by decide)]
      show (forIn r acc _ : Sem _) = _
      rw [ih]
      conv => rhs; unfold clos
      rw [if_neg (by rw [hk]; decide)]
theorem closure_of {scope : Scope} {env : Env} (h : ∀ y ∈ scope.names, y.2 = .free → ∃ c, env.cells.lookup y.1 = some c) : closureFor scope env = pure (clos env.cells scope.names []) := by
  have e := clos_run scope.names [] h
  simp only [closureFor]
  rw [e]
  rfl
theorem clos_in {cells : List (Str × Addr)} : ∀ {names : List (Str × NameKind)} {acc : List (Str × Addr)} {x : Str} {c : Addr}, (∀ y ∈ names, y.2 = .free → ∃ c, cells.lookup y.1 = some c) → (∀ x c, acc.lookup x = some c → cells.lookup x = some c) →
    (clos cells names acc).lookup x = some c → cells.lookup x = some c
  | [], acc, x, c, _, ha, h => ha x c h
  | (n, k) :: r, acc, x, c, hn, ha, h => by
    unfold clos at h
    refine clos_in (fun y hy => hn y (List.mem_cons_of_mem _ hy)) (fun y d hy => ?_) h
    split at hy
    · rename_i hk
      have hk' : k = .free := by cases k <;> first | rfl | exact absurd hk (by decide)
      obtain ⟨c', hc⟩ := hn (n, k) List.mem_cons_self hk'
      have hc' : cells.lookup n = some c' := hc
      rw [List.lookup_cons] at hy
      cases e : (y == n) with
      | true =>
        rw [e] at hy
        have ey : y = n := by simpa using e
        subst ey
        rw [hc'] at hy ⊢
        exact hy
      | false =>
        rw [e] at hy
        exact ha y d hy
    · exact ha y d hy
theorem clos_acc {cells : List (Str × Addr)} : ∀ {names : List (Str × NameKind)} {acc : List (Str × Addr)} {x : Str}, (∃ c, acc.lookup x = some c) → ∃ c, (clos cells names acc).lookup x = some c
  | [], _, _, h => h
  | (n, k) :: r, acc, x, h => by
    unfold clos
    refine clos_acc ?_
    split
    · rw [List.lookup_cons]
      cases (x == n) with
      | true => exact ⟨_, rfl⟩
      | false => exact h
    · exact h
theorem clos_has {cells : List (Str × Addr)} : ∀ {names : List (Str × NameKind)} {acc : List (Str × Addr)} {x : Str}, (x, NameKind.free) ∈ names → ∃ c, (clos cells names acc).lookup x = some c
  | [], _, _, h => by cases h
  | (n, k) :: r, acc, x, h => by
    unfold clos
    rcases List.mem_cons.mp h with e | e
    · cases e
      refine clos_acc ?_
      rw [if_pos (by decide), List.lookup_cons]
      simp
    · exact clos_has e

/-- the context of a comprehension's block -/
def cxComp (X : Cx) (N : List Str) (scope : Scope) (cl : List (Str × Addr)) (C : Addr) (fp : List Addr) (s : Shared) (H : Hp) : Cx :=
  { X with N := N, s₀ := s, H₀ := H, env := compEnvC scope cl C X.env, outer := X.stack, stack := X.stack, ex := fp, fn := fun _ => false, pn := [], xe := fun _ _ => False }

/-- the block's names: its own (none) and the ones of the def about it (their slots there) -/
def inner (μ : List (Option Nat)) (σ : St) : St := μ.map fun o => o.bind fun j => (σ[j]?).join
def muOk (oN : List Str) (osc : Scope) (N : List Str) (isc : Scope) (μ : List (Option Nat)) : Bool :=
  decide (μ.length = N.length) && (μ.zip N).all fun (o, x) => match o with
    | none => true
    | some j => decide (oN[j]? = some x) && decide (osc.names.lookup x = some .cell) && (decide (isc.names.lookup x = some .cell) || decide (isc.names.lookup x = some .free))
theorem muOk.get {oN N : List Str} {osc isc : Scope} {μ : List (Option Nat)} (h : muOk oN osc N isc μ = true) {i j : Nat} {x : Str} (h1 : μ[i]? = some (some j)) (h2 : N[i]? = some x) :
    oN[j]? = some x ∧ osc.names.lookup x = some .cell ∧ (isc.names.lookup x = some .cell ∨ isc.names.lookup x = some .free) := by
  unfold muOk at h
  rw [Bool.and_eq_true] at h
  have hz : (μ.zip N)[i]? = some (some j, x) := by rw [List.getElem?_zip_eq_some]; exact ⟨h1, h2⟩
  have q := List.all_eq_true.mp h.2 _ (List.mem_of_getElem? hz)
  simp only [Bool.and_eq_true, Bool.or_eq_true, decide_eq_true_eq] at q
  exact ⟨q.1.1, q.1.2, q.2⟩

section
variable {prog : Program} {w : World} {A : Around} {R : Result → Shared → Prop} {s : Shared}
/-- the block's loop, the iterator's step as it is -/
theorem compLoop_go {elt target iter : Expr} {ifs : List Expr} {scope : Scope} {pos : Pos} {it acc : Value} {env : Env} (I : Nat → Shared → Prop)
    (turn : ∀ n s, I n s → wpAny (model prog w) A (pyNext it) (fun r s₁ => match r with
      | none => R (.ok .next) s₁
      | some v => wpAny (model prog w) A (letOwnedTupleGo target it v) (fun _ s₂ => wpAny (model prog w) A (assign target env v) (fun _ s₂ =>
          wpAny (model prog w) A (forIn ifs true fun c r => if r = true then do let ok ← isTrue c env (eval c env); pure (ForInStep.yield ok) else pure (ForInStep.yield r)) (fun ok s₃ =>
            if ok = true then wpAny (model prog w) A (eval elt env) (fun x s₄ =>
              wpAny (model prog w) A (call (.builtin "list.append") [acc, x]) (fun _ s₅ => ∃ m, m < n ∧ I m s₅) (fun _ _ => False) s₄) (fun _ _ => False) s₃
            else ∃ m, m < n ∧ I m s₃) (fun _ _ => False) s₂) (fun _ _ => False) s₂) (fun _ _ => False) s₁) (fun _ _ => False) s)
    (n : Nat) (h : I n s) :
    codeAny (model prog w) A (.compLoop (.ListComp elt [⟨target, iter, ifs, 0⟩] scope pos) 0 it acc env) R s := by
  refine codeAny_loop rfl I (fun n s hI => ?_) n h
  show wpAny _ A ((compTurn (.ListComp elt [⟨target, iter, ifs, 0⟩] scope pos) 0 it acc env).onRaise (fun x => do noteFrame x env; theTreesLotGoes x)) _ _ s
  refine wpAny_noted ?_
  rw [compTurn_list]
  refine wpAny_bind (wpAny_standAt (wpAny_bind (wpAny_mono (turn n s hI) (fun r s₁ h₁ => ?_) fun _ _ h' => h'.elim)))
  cases r with
  | none => exact wpAny_pure h₁
  | some v =>
    refine wpAny_bind (wpAny_mono h₁ (fun _ s₂ h₂ => wpAny_bind (wpAny_mono h₂ (fun _ s₃ h₃ => wpAny_bind (wpAny_mono h₃ (fun ok s₄ h₄ => ?_) fun _ _ h' => h'.elim)) fun _ _ h' => h'.elim)) fun _ _ h' => h'.elim)
    cases ok with
    | false => exact wpAny_pure ⟨rfl, h₄⟩
    | true =>
      exact wpAny_bind (wpAny_bind (wpAny_mono h₄ (fun x s₅ h₅ => wpAny_bind (wpAny_mono h₅ (fun _ s₆ h₆ => wpAny_pure (wpAny_pure ⟨rfl, h₆⟩)) fun _ _ h' => h'.elim)) fun _ _ h' => h'.elim))
end

/-- the block's tests -/
def PTs (X : Cx) (ifs : List Expr) (t : TT) : Prop :=
  ∀ (pins : List (Addr × Obj)) (s : Shared) (σ : St) (H : Hp) (Q : Bool → Hp → Prop), Inv X pins σ H s → t σ H Q →
    wpAny (model X.prog X.w) X.A (forIn ifs true fun c r => if r = true then do let ok ← isTrue c X.env (eval c X.env); pure (ForInStep.yield ok) else pure (ForInStep.yield r)) (TP X pins σ Q) X.xe s
theorem pts_nil {X : Cx} : PTs X [] (fun _ H Q => Q true H) := fun pins s σ H Q I h => wpAny_tests_nil ⟨H, I, h⟩
theorem pts_one {X : Cx} {c : Expr} {t : TT} (h : PT X c t) : PTs X [c] t := fun pins s σ H Q I hw => wpAny_tests_one (h pins s σ H Q I hw)

/-- what a comprehension wants: p the new list -/
def compW (μ : List (Option Nat)) (g : TG) (tt : TT) (te : TE) (σ : St) (Q : VK) (J : It) (H1 : Hp) : Prop :=
  ∀ p, H1 p = none → ∃ W : Nat → Nat → St → Hp → Prop, (∃ m, W 0 m (inner μ σ) (upd H1 p (.lst []))) ∧ ∀ i m σ' H', W i m σ' H' →
    (J.stop i H' ∧ Q (.ref p) H') ∨ (J.go i H' ∧ ∃ Nn : St → Hp → Prop, (∀ σ2 H2, Nn σ2 H2 → ∃ m', m' < m ∧ W (i + 1) m' σ2 H2) ∧
      ∀ x H2, J.yld i H' x H2 → g x σ' H2 fun σ3 H3 => tt σ3 H3 fun b H4 => if b = true then te σ3 H4 fun y H5 => ∃ ys, H5 p = some (.lst ys) ∧ ys.length < sizeLine ∧ Nn σ3 (upd H5 p (.lst (ys ++ [y]))) else Nn σ3 H4)
def tComp (μ : List (Option Nat)) (wi : TI) (g : TG) (tt : TT) (te : TE) : TE := fun σ H Q => wi σ H (compW μ g tt te σ Q)

section
variable {X : Cx} {pins : List (Addr × Obj)} {σ : St} {H2 : Hp} {s2 : Shared} {tg iter elt : Expr} {ifs : List Expr} {scope : Scope} {pos : Pos} {it : Addr} {fp : List Addr} {tn : Nat → Heap → Prop} {J : It} {N : List Str} {μ : List (Option Nat)} {g : TG} {tt : TT} {te : TE} {Q : VK}
theorem comp_core {RR : Value → Addr → Result → Shared → Prop} (I2 : Inv X pins σ H2 s2) (T : Turn X.prog X.w X.K tg J fp it tn) (st2 : tn 0 s2.heap) (f2 : ∀ b ∈ fp, FpOk X pins H2 b) (hc : X.calm = true)
    (hcell : ∀ y ∈ scope.names, y.2 ≠ .cell) (hkind : scope.kind = .function) (hfr : ∀ y ∈ scope.names, y.2 = .free → ∃ c, X.env.cells.lookup y.1 = some c)
    (hhas : ∀ x, ((relabel scope X.env).names.lookup x = some .cell ∨ (relabel scope X.env).names.lookup x = some .free) → (x, NameKind.free) ∈ scope.names)
    (hμ : muOk X.N X.env.scope N (relabel scope X.env) μ = true)
    (hg : ∀ C s H, PG (cxComp X N scope (clos X.env.cells scope.names []) C fp s H) tg g) (ht : ∀ C s H, PTs (cxComp X N scope (clos X.env.cells scope.names []) C fp s H) ifs tt) (he : ∀ C s H, PE (cxComp X N scope (clos X.env.cells scope.names []) C fp s H) elt te)
    (hW : compW μ g tt te σ Q J H2)
    (hRR : ∀ p C s' H' m, Inv X pins σ H' s' → s'.heap.Ns C m → FpOk X pins H' C → Q (.ref p) H' → RR (.ref p) C (.ok .next) s') :
    wpAny (model X.prog X.w) X.A (newList []) (fun acc s₃ => wpAny (model X.prog X.w) X.A (newFunctionEnv scope X.env.globals (clos X.env.cells scope.names []) [] X.env.qual none .none (some X.env)) (fun cenv s₄ =>
      codeAny (model X.prog X.w) X.A (.compStart (.ListComp elt [⟨tg, iter, ifs, 0⟩] scope pos) 0 (.ref it) acc { cenv with scope := relabel scope X.env }) (RR acc cenv.locals) s₄) X.xe s₃) X.xe s2 := by
  refine wpAny_newObj_type (wpAny_newFunctionEnv hcell (by intro y hy; simp at hy) (fun h₁ hns₁ hsb₁ => ?_) hkind)
  dsimp only at hns₁ hsb₁ ⊢
  generalize hH2 : s2.heap.push { cls := .type "list", dict := none, data := .seq ([] : List Value).toArray } = G at hns₁ hsb₁ ⊢
  have hC : G.objs.size = s2.heap.objs.size + 1 := by rw [← hH2, Heap.size_push]
  have hDC : s2.heap.objs.size ≠ G.objs.size := by rw [hC]; exact Nat.ne_of_lt (Nat.lt_succ_self _)
  have hCle : s2.heap.objs.size ≤ G.objs.size := by rw [hC]; exact Nat.le_succ _
  have below : ∀ b, b < s2.heap.objs.size → b ≠ G.objs.size ∧ b ≠ s2.heap.objs.size := fun b hb => ⟨by rw [hC]; exact Nat.ne_of_lt (Nat.lt_succ_of_lt hb), Nat.ne_of_lt hb⟩
  have old : ∀ b o, s2.heap.get? b = some o → h₁.get? b = some o := fun b o e => hsb₁.extBut b o (below b (Heap.lt_size e)).1 (Heap.get?_push_of_some _ (hH2 ▸ Heap.get?_push_of_some _ e))
  have hobj : h₁.get? s2.heap.objs.size = some { cls := .type "list", dict := none, data := .seq ([] : List Value).toArray } := hsb₁.extBut _ _ hDC (Heap.get?_push_of_some _ (hH2 ▸ Heap.get?_push_size _ rfl))
  have hclin : ∀ x c, (clos X.env.cells scope.names []).lookup x = some c → X.env.cells.lookup x = some c := fun x c h => clos_in hfr (fun _ _ z => by simp at z) h
  have cellt : ∀ x c, (clos X.env.cells scope.names []).lookup x = some c → c < s2.heap.objs.size := fun x c h => by
    obtain ⟨v, o, ho, _⟩ := I2.cell x c (hclin x c h)
    exact Heap.lt_size ho
  have fplt : ∀ b ∈ fp, b < s2.heap.objs.size := fun b hb => by
    obtain ⟨o, ho, _⟩ := T.obj 0 _ st2 b hb
    exact Heap.lt_size ho
  have Hn : ∀ a, s2.heap.objs.size ≤ a → H2 a = none := fun a ha => I2.hok.fresh ha
  obtain ⟨W, ⟨m0, w0⟩, turn⟩ := hW s2.heap.objs.size (Hn _ (Nat.le_refl _))
  have okc : (cxComp X N scope (clos X.env.cells scope.names []) G.objs.size fp s2 H2).Ok := by
    refine ⟨I2.ok.mod, by show (relabel scope X.env).kind = _; exact hkind, I2.ok.glob, I2.ok.blt, hCle, fun x y c h1 h2 => ?_, fun x hx => ?_, fun _ _ z => (by cases z), I2.ok.hd, I2.ok.frames, .inl rfl, fun b hb => ⟨?_, fun x c h z => ?_⟩, I2.bs, Nat.le_trans I2.ok.bsz I2.sz, fun b o e hb => ?_, fun b hb z => ?_, I2.stack, I2.stkFree⟩
    · exact I2.ok.inj x y c (hclin x c h1) (hclin y c h2)
    · exact clos_has (hhas x hx)
    · exact (below b (fplt b hb)).1
    · exact (f2 b hb).2.2.2.2.1 x c (hclin x c h) z
    · rcases (f2 b hb).2.2.2.1 with z | z
      · exact I2.ok.noex b o e z
      · exact absurd (Nat.lt_of_lt_of_le (Heap.lt_size e) (Nat.le_trans I2.ok.bsz z)) (Nat.lt_irrefl _)
    · rcases List.mem_cons.mp (I2.stkSub b z) with e | e
      · exact (f2 b hb).2.1 e
      · exact (f2 b hb).2.2.1 e
  have Hfree : ∀ b, b ≠ s2.heap.objs.size → H2 b = none → (upd H2 s2.heap.objs.size (.lst [])) b = none := fun b h1 h2 => by rw [upd_ne h1]; exact h2
  have I3 : Inv (cxComp X N scope (clos X.env.cells scope.names []) G.objs.size fp s2 H2) [] (inner μ σ) (upd H2 s2.heap.objs.size (.lst [])) { s2 with heap := h₁, toks := s2.toks + ([] : List (Str × Value)).length } := by
    refine ⟨okc, rfl, I2.bare, Un.laid old (Nat.le_refl _) (Hn _ (Nat.le_refl _)), ⟨_, hns₁, fun i x v e1 e2 e3 => ?_⟩, fun x c h => ?_, Hfree _ hDC.symm (Hn _ hCle), fun x c h => Hfree _ (below c (cellt x c h)).2 (I2.freeC x c (hclin x c h)), fun p hp => absurd (show p ∈ ([] : List (Addr × Obj)) from hp) (by simp), I2.hok.laid old (Nat.le_refl _) ⟨by decide, [], 0, .nil, hobj⟩, ?_⟩
    · have e1' : N[i]? = some x := e1
      have e2' : (μ.map fun o => o.bind fun j => (σ[j]?).join)[i]? = some (some v) := e2
      rw [List.getElem?_map] at e2'
      cases q : μ[i]? with
      | none => rw [q] at e2'; cases e2'
      | some o =>
        rw [q] at e2'
        cases o with
        | none => cases e2'
        | some j =>
          have e4 : (σ[j]?).join = some v := Option.some.inj e2'
          have e5 : σ[j]? = some (some v) := by
            cases z : σ[j]? with
            | none => rw [z] at e4; cases e4
            | some y => rw [z] at e4; cases y with
              | none => cases e4
              | some y => rw [show y = v from Option.some.inj e4]
          obtain ⟨a1, a2, a3⟩ := muOk.get hμ q e1'
          obtain ⟨m, hn, hl⟩ := I2.loc
          obtain ⟨u, r, l⟩ := hl j x v a1 e5 (.inr (.inl a2))
          refine ⟨u, r, ?_⟩
          rcases l with ⟨k, _⟩ | ⟨_, c, hcc, hce⟩
          · exact absurd ((show X.env.scope.names.lookup x = some .local from k).symm.trans a2) (by intro z; cases z)
          · obtain ⟨c', hc'⟩ : ∃ c, (clos X.env.cells scope.names []).lookup x = some c := clos_has (hhas x a3)
            have ec : c' = c := Option.some.inj ((hclin x c' hc').symm.trans hcc)
            subst ec
            exact .inr ⟨a3, c', hc', hce.keeps old⟩
    · obtain ⟨v, z⟩ := I2.cell x c (hclin x c h)
      exact ⟨v, z.keeps old⟩
    · show (μ.map _).length = N.length
      rw [List.length_map]
      have q := hμ
      unfold muOk at q
      rw [Bool.and_eq_true] at q
      exact of_decide_eq_true q.1
  have fin : ∀ {σ' : St} {H' : Hp} {s' : Shared}, Inv (cxComp X N scope (clos X.env.cells scope.names []) G.objs.size fp s2 H2) [] σ' H' s' → Q (.ref s2.heap.objs.size) H' → RR (.ref s2.heap.objs.size) G.objs.size (.ok .next) s' := fun {σ' H' s'} I4 q => by
    have I5 : Inv X pins σ H' s' := I2.call' (ch := fp) I4.os I4.base I4.hok I4.bare fun b hb => ⟨(f2 b hb).2.2.2.1, (f2 b hb).2.1, (f2 b hb).2.2.2.2.1, (f2 b hb).2.2.2.2.2⟩
    obtain ⟨m, hn, _⟩ := I4.loc
    have hn' : s'.heap.Ns G.objs.size m := hn
    refine hRR _ _ s' H' m I5 hn' ⟨I4.free, Nat.ne_of_gt (Nat.lt_of_lt_of_le I2.lt hCle), I2.nofs hCle, .inr (Nat.le_trans I2.sz hCle), fun x c h z => ?_, fun p hp z => ?_⟩ q
    · obtain ⟨v, o, ho, _⟩ := I2.cell x c h
      exact (below c (Heap.lt_size ho)).1 z
    · exact (below p.1 (Heap.lt_size (I2.pin p hp).1)).1 z
  have stat : ∀ {H' : Hp}, (∀ b ∈ fp, H' b = none) → ∀ b ∈ fp, FpOk (cxComp X N scope (clos X.env.cells scope.names []) G.objs.size fp s2 H2) [] H' b := fun {H'} hn b hb => by
    refine ⟨hn b hb, (below b (fplt b hb)).1, fun z => ?_, .inl hb, fun x c h z => (f2 b hb).2.2.2.2.1 x c (hclin x c h) z, fun p hp => absurd (show p ∈ ([] : List (Addr × Obj)) from hp) (by simp)⟩
    exact okc.exfs b hb z
  have loop : codeAny (model X.prog X.w) X.A (.compLoop (.ListComp elt [⟨tg, iter, ifs, 0⟩] scope pos) 0 (.ref it) (.ref s2.heap.objs.size) (compEnvC scope (clos X.env.cells scope.names []) G.objs.size X.env))
      (RR (.ref s2.heap.objs.size) G.objs.size) { s2 with heap := h₁, toks := s2.toks + ([] : List (Str × Value)).length } := by
    refine compLoop_go (fun n s' => ∃ i σ' H', Inv (cxComp X N scope (clos X.env.cells scope.names []) G.objs.size fp s2 H2) [] σ' H' s' ∧ tn i s'.heap ∧ (∀ b ∈ fp, H' b = none) ∧ W i n σ' H') ?_ m0
      ⟨0, inner μ σ, _, I3, T.keep _ _ _ st2 (fun b hb o e => old b o e), fun b hb => Hfree b (below b (fplt b hb)).2 (f2 b hb).1, w0⟩
    rintro n s3 ⟨i, σ3, H3, I3, st3, fr3, w3⟩
    rcases turn i n σ3 H3 w3 with ⟨stop, qn⟩ | ⟨go, Nn, hN, step⟩
    · refine thn (T.done (cxComp X N scope (clos X.env.cells scope.names []) G.objs.size fp s2 H2) rfl rfl rfl hc i [] s3 σ3 H3 _ I3 (stat fr3) st3 stop) fun r s4 ⟨hr, I4⟩ => ?_
      subst hr
      exact fin I4 qn
    · refine thn (T.item (cxComp X N scope (clos X.env.cells scope.names []) G.objs.size fp s2 H2) rfl rfl rfl hc i [] s3 σ3 H3 _ I3 (stat fr3) st3 go) fun r s4 ⟨u, hr, h4⟩ => ?_
      subst hr
      refine thn h4 fun _ s5 hw' => ?_
      obtain ⟨x, H5, I5, r5, y5, st5, fr5⟩ := hw'
      have I5' := I5.pinned (stat fr5) (T.obj _ _ st5)
      have again : ∀ {σ7 : St} {H7 : Hp} {s7 : Shared}, Inv (cxComp X N scope (clos X.env.cells scope.names []) G.objs.size fp s2 H2) ([] ++ pinsAt fp s5.heap) σ7 H7 s7 → Nn σ7 H7 →
          ∃ m, m < n ∧ ∃ i σ' H', Inv (cxComp X N scope (clos X.env.cells scope.names []) G.objs.size fp s2 H2) [] σ' H' s7 ∧ tn i s7.heap ∧ (∀ b ∈ fp, H' b = none) ∧ W i m σ' H' := fun {σ7 H7 s7} I7 n7 => by
        obtain ⟨m', hm, w7⟩ := hN σ7 H7 n7
        refine ⟨m', hm, i + 1, σ7, H7, I7.unpinned, T.keep _ _ _ st5 fun b hb o e => (I7.pin (b, o) (List.mem_append_right _ (List.mem_append_right _ (mem_pinsAt hb e)))).1, fun b hb => ?_, w7⟩
        obtain ⟨o, e, d⟩ := T.obj _ _ st5 b hb
        exact (I7.pin (b, o) (List.mem_append_right _ (List.mem_append_right _ (mem_pinsAt hb e)))).2.1
      refine thn (hg G.objs.size s2 H2 _ s5 σ3 H5 x u _ I5' r5 (step x H5 y5)) fun _ s6 hw' => ?_
      obtain ⟨σ6, H6, I6, q6⟩ := hw'
      refine thn (ht G.objs.size s2 H2 _ s6 σ6 H6 _ I6 q6) fun ok s7 ⟨H7, I7, q7⟩ => ?_
      cases ok with
      | false =>
        rw [if_neg (by decide)] at q7 ⊢
        exact again I7 q7
      | true =>
        rw [if_pos rfl] at q7 ⊢
        refine thn (he G.objs.size s2 H2 _ s7 σ6 H7 _ I7 q7) fun u8 s8 hw' => ?_
        obtain ⟨y, H8, I8, r8, ys, e8, l8, q8⟩ := hw'
        have ma := mt_append (X := cxComp X N scope (clos X.env.cells scope.names []) G.objs.size fp s2 H2) _ s8 σ6 H8 (.ref s2.heap.objs.size) [y] (.ref s2.heap.objs.size) [u8]
          (fun _ H9 => Nn σ6 H9) I8 rfl (.cons r8 .nil) ⟨_, ys, y, rfl, rfl, e8, l8, q8⟩
        exact thn ma fun _ s9 ⟨_, H9, I9, _, q9⟩ => again I9 q9
  exact codeAny_compStart_list loop (T.self _ 0 _ _ _ (T.keep _ _ _ st2 (fun b hb o e => old b o e)) loop)

theorem pe_comp {wi : TI} (hc : X.calm = true) (hcell : ∀ y ∈ scope.names, y.2 ≠ .cell) (hkind : scope.kind = .function) (hnames : ∀ y ∈ scope.names, y.2 = .local → scope.names.lookup y.1 = some .local)
    (hfree : ∀ y ∈ scope.names, y.2 = .free → X.env.kindOf y.1 = some .cell ∨ X.env.kindOf y.1 = some .free)
    (hhas : ∀ x, ((relabel scope X.env).names.lookup x = some .cell ∨ (relabel scope X.env).names.lookup x = some .free) → (x, NameKind.free) ∈ scope.names)
    (hμ : muOk X.N X.env.scope N (relabel scope X.env) μ = true) (hi : PI X tg iter wi)
    (hg : ∀ fp C s H, PG (cxComp X N scope (clos X.env.cells scope.names []) C fp s H) tg g) (ht : ∀ fp C s H, PTs (cxComp X N scope (clos X.env.cells scope.names []) C fp s H) ifs tt) (he : ∀ fp C s H, PE (cxComp X N scope (clos X.env.cells scope.names []) C fp s H) elt te)
    (hs : ∀ x, foldedSetIterable iter X.env x = pure x := by intro _; rfl) : PE X (.ListComp elt [⟨tg, iter, ifs, 0⟩] scope pos) (tComp μ wi g tt te) := by
  intro pins s σ H Q I h
  have hfr : ∀ y ∈ scope.names, y.2 = .free → ∃ c, X.env.cells.lookup y.1 = some c := fun y hy hk => I.ok.has y.1 (hfree y hy hk)
  rw [eval_ListComp]
  refine wpAny_comprehension_free (use := none) rfl hs (closure_of hfr) hkind hnames (thn (hi pins s σ H _ I h) fun v s1 h1 => thn h1 fun itv s2 h2 => ?_)
  obtain ⟨it, fp, tn, J, H2, rfl, I2, T, st2, f2, W⟩ := h2
  refine comp_core (RR := fun acc C => compPost (model X.prog X.w) X.A X.xe none (EP X pins σ Q) acc C) I2 T st2 f2 hc hcell hkind hfr hhas hμ (hg fp) (ht fp) (he fp) W ?_
  intro p C s' H' m I' hn fc q
  exact ⟨m, hn, fun h' hsb => ⟨.ref p, H', I'.turned (t' := s'.toks) (fun b o ne e => (hsb.2 b ne).trans e) fc.1 (Ne.symm fc.2.1).symm fc.2.2.2.1 fc.2.2.2.2.1 fc.2.2.2.2.2, rfl, q⟩⟩
/-- name = [..], stored ahead of the block's end -/
theorem ps_comp {wi : TI} {i : Nat} {y : Str} {py spos : Pos} (hN : X.N.Nodup) (hiN : X.N[i]? = some y) (hx : Loc X.env.scope y) (hc : X.calm = true) (hcell : ∀ y ∈ scope.names, y.2 ≠ .cell) (hkind : scope.kind = .function) (hnames : ∀ y ∈ scope.names, y.2 = .local → scope.names.lookup y.1 = some .local)
    (hfree : ∀ y ∈ scope.names, y.2 = .free → X.env.kindOf y.1 = some .cell ∨ X.env.kindOf y.1 = some .free)
    (hhas : ∀ x, ((relabel scope X.env).names.lookup x = some .cell ∨ (relabel scope X.env).names.lookup x = some .free) → (x, NameKind.free) ∈ scope.names)
    (hμ : muOk X.N X.env.scope N (relabel scope X.env) μ = true) (hi : PI X tg iter wi)
    (hg : ∀ fp C s H, PG (cxComp X N scope (clos X.env.cells scope.names []) C fp s H) tg g) (ht : ∀ fp C s H, PTs (cxComp X N scope (clos X.env.cells scope.names []) C fp s H) ifs tt) (he : ∀ fp C s H, PE (cxComp X N scope (clos X.env.cells scope.names []) C fp s H) elt te)
    (hsw : swapsWith (.ListComp elt [⟨tg, iter, ifs, 0⟩] scope pos) (some (.Name y py)) spos.line X.env = pure true := by rfl)
    (hf : X.fn y = true ∨ X.env.scope.names.lookup y = some .local := by first | exact .inl rfl | exact .inr rfl | assumption)
    (hs : ∀ x, foldedSetIterable iter X.env x = pure x := by intro _; rfl) : PS X (.Assign [.Name y py] (.ListComp elt [⟨tg, iter, ifs, 0⟩] scope pos) spos) (tAsg (tComp μ wi g tt te) (gName i)) := by
  intro pins s σ H D I h
  have hfr : ∀ y ∈ scope.names, y.2 = .free → ∃ c, X.env.cells.lookup y.1 = some c := fun y hy hk => I.ok.has y.1 (hfree y hy hk)
  rw [exec_Assign_Name_used _ _ _ _ hsw]
  refine wpAny_bind (wpAny_standAt (wpAny_bind ?_))
  show wpAny _ _ (do let _ ← comprehension (.ListComp elt [⟨tg, iter, ifs, 0⟩] scope pos) scope X.env _ (newList []) false (eval iter X.env) (some (assign (.Name y py) X.env))) _ _ s
  refine wpAny_bind (wpAny_mono (wpAny_comprehension_free (use := some (assign (.Name y py) X.env)) (Q := fun _ s' => SP X pins D .next s') rfl hs (closure_of hfr) hkind hnames
    (thn (hi pins s σ H _ I h) fun v s1 h1 => thn h1 fun itv s2 h2 => ?_)) (fun _ s' hq => wpAny_pure (wpAny_pure hq)) fun _ _ e => e)
  obtain ⟨it, fp, tn, J, H2, rfl, I2, T, st2, f2, W⟩ := h2
  refine comp_core (RR := fun acc C => compPost (model X.prog X.w) X.A X.xe (some (assign (.Name y py) X.env)) (fun _ s' => SP X pins D .next s') acc C) I2 T st2 f2 hc hcell hkind hfr hhas hμ (hg fp) (ht fp) (he fp) W ?_
  intro p C s' H' m I' hn fc q
  show wpAny _ _ (assign (.Name y py) X.env (.ref p)) _ _ s'
  refine wpAny_assign_Name (store_ok2 (v := .ref p) I' hN hiN hx rfl (fun s'' I'' hsm => ?_) hf)
  obtain ⟨a, sb, ha⟩ := hsm
  have ne : C ≠ a := by
    rcases ha with ha | ha
    · rw [ha]; exact fc.2.1
    · exact (fc.2.2.2.2.1 y a ha).symm
  exact ⟨m, hn.sameBut sb ne, fun h' hsb => ⟨_, H', I''.turned (t' := s''.toks) (fun b o ne e => (hsb.2 b ne).trans e) fc.1 fc.2.1 fc.2.2.2.1 fc.2.2.2.2.1 fc.2.2.2.2.2, q⟩⟩
end
end L2
set_option Elab.async false
set_option linter.all false
set_option maxRecDepth 100000
/-! PLAIN DATA OVER THE LAYER: what an expression, a block, a def is worth as a total Lean function over plain data. -/
namespace DL
open PySem PySem.Spec PyProof.Rows L2

abbrev St := L2.St
/-- plain data; scr: the script; obj: the n-th object that may change -/
inductive D where
  | non | bl (b : Bool) | int (i : Int) | str (x : Str) | tup (xs : List D) | lst (xs : List D) | scr (ns : List Int) | obj (n : Nat)

mutual
def Is (K : PySem.W.Frag) (α : List Addr) (F : Hp) : D → V → Prop
  | .non, v => v = .non
  | .bl b, v => v = .bl b
  | .int i, v => v = .int i
  | .str x, v => v = .str x
  | .tup xs, v => ∃ a vs, v = .ref a ∧ F a = some (.tup vs) ∧ IsL K α F xs vs
  | .lst xs, v => ∃ a vs, v = .ref a ∧ F a = some (.lst vs) ∧ IsL K α F xs vs
  | .scr ns, v => ∃ a, v = .ref a ∧ SqL K F a (ns.map V.int)
  | .obj n, v => ∃ a, α[n]? = some a ∧ v = .ref a
def IsL (K : PySem.W.Frag) (α : List Addr) (F : Hp) : List D → List V → Prop
  | [], vs => vs = []
  | d :: ds, vs => ∃ v r, vs = v :: r ∧ Is K α F d v ∧ IsL K α F ds r
end

section
variable {K : PySem.W.Frag} {α α' : List Addr} {F F' : Hp}
mutual
theorem Is.mono (ff : Same F F') (al : ∃ more, α' = α ++ more) : ∀ (d : D) {v : V}, Is K α F d v → Is K α' F' d v
  | .non, _, h => by rw [Is] at h ⊢; exact h
  | .bl _, _, h => by rw [Is] at h ⊢; exact h
  | .int _, _, h => by rw [Is] at h ⊢; exact h
  | .str _, _, h => by rw [Is] at h ⊢; exact h
  | .tup xs, _, h => by
    rw [Is] at h ⊢
    obtain ⟨a, vs, e, q, r⟩ := h
    exact ⟨a, vs, e, ff _ _ q, IsL.mono ff al xs r⟩
  | .lst xs, _, h => by
    rw [Is] at h ⊢
    obtain ⟨a, vs, e, q, r⟩ := h
    exact ⟨a, vs, e, ff _ _ q, IsL.mono ff al xs r⟩
  | .scr ns, _, h => by
    rw [Is] at h ⊢
    obtain ⟨a, e, q⟩ := h
    exact ⟨a, e, ff.seq q⟩
  | .obj n, _, h => by
    rw [Is] at h ⊢
    obtain ⟨a, e, q⟩ := h
    obtain ⟨more, rfl⟩ := al
    refine ⟨a, ?_, q⟩
    rw [List.getElem?_append_left (List.getElem?_eq_some_iff.mp e).1]
    exact e
theorem IsL.mono (ff : Same F F') (al : ∃ more, α' = α ++ more) : ∀ (ds : List D) {vs : List V}, IsL K α F ds vs → IsL K α' F' ds vs
  | [], _, h => by rw [IsL] at h ⊢; exact h
  | d :: ds, _, h => by
    rw [IsL] at h ⊢
    obtain ⟨v, r, e, h1, h2⟩ := h
    exact ⟨v, r, e, Is.mono ff al d h1, IsL.mono ff al ds h2⟩
end
theorem IsL.nil : IsL K α F [] [] := by rw [IsL]
theorem IsL.cons {d : D} {v : V} {ds : List D} {vs : List V} (h : Is K α F d v) (r : IsL K α F ds vs) : IsL K α F (d :: ds) (v :: vs) := by rw [IsL]; exact ⟨v, vs, rfl, h, r⟩
theorem IsL.of_nil {vs : List V} (h : IsL K α F [] vs) : vs = [] := by rw [IsL] at h; exact h
theorem IsL.of_cons {d : D} {ds : List D} {vs : List V} (h : IsL K α F (d :: ds) vs) : ∃ v r, vs = v :: r ∧ Is K α F d v ∧ IsL K α F ds r := by rw [IsL] at h; exact h
theorem IsL.length : ∀ {ds : List D} {vs : List V}, IsL K α F ds vs → ds.length = vs.length
  | [], vs, h => by rw [h.of_nil]; rfl
  | d :: ds, vs, h => by
    obtain ⟨v, r, rfl, _, t⟩ := h.of_cons
    rw [List.length_cons, List.length_cons, t.length]
theorem IsL.append : ∀ {ds es : List D} {vs us : List V}, IsL K α F ds vs → IsL K α F es us → IsL K α F (ds ++ es) (vs ++ us)
  | [], _, _, _, h, q => by rw [h.of_nil]; exact q
  | d :: ds, es, vs, us, h, q => by
    obtain ⟨v, r, rfl, h1, t⟩ := h.of_cons
    exact .cons h1 (t.append q)
theorem IsL.take : ∀ {ds : List D} {vs : List V} (n : Nat), IsL K α F ds vs → IsL K α F (ds.take n) (vs.take n)
  | [], _, n, h => by rw [h.of_nil, List.take_nil, List.take_nil]; exact .nil
  | d :: ds, vs, 0, h => by rw [List.take_zero, List.take_zero]; exact .nil
  | d :: ds, vs, n + 1, h => by
    obtain ⟨v, r, rfl, h1, t⟩ := h.of_cons
    exact .cons h1 (t.take n)
theorem IsL.drop : ∀ {ds : List D} {vs : List V} (n : Nat), IsL K α F ds vs → IsL K α F (ds.drop n) (vs.drop n)
  | [], _, n, h => by rw [h.of_nil, List.drop_nil, List.drop_nil]; exact .nil
  | d :: ds, vs, 0, h => h
  | d :: ds, vs, n + 1, h => by
    obtain ⟨v, r, rfl, h1, t⟩ := h.of_cons
    exact t.drop n
theorem IsL.get : ∀ {ds : List D} {vs : List V} {i : Nat} {d : D}, IsL K α F ds vs → ds[i]? = some d → ∃ v, vs[i]? = some v ∧ Is K α F d v
  | [], _, _, _, _, e => by simp at e
  | d :: ds, vs, 0, x, h, e => by
    obtain ⟨v, r, rfl, h1, t⟩ := h.of_cons
    rw [List.getElem?_cons_zero] at e
    cases e
    exact ⟨v, rfl, h1⟩
  | d :: ds, vs, i + 1, x, h, e => by
    obtain ⟨v, r, rfl, h1, t⟩ := h.of_cons
    rw [List.getElem?_cons_succ] at e
    obtain ⟨u, e1, q⟩ := t.get e
    exact ⟨u, by rw [List.getElem?_cons_succ]; exact e1, q⟩
theorem IsL.rep {ds : List D} {vs : List V} (h : IsL K α F ds vs) : ∀ n : Nat, IsL K α F (List.replicate n ds).flatten (List.replicate n vs).flatten
  | 0 => .nil
  | n + 1 => by
    rw [List.replicate_succ, List.replicate_succ, List.flatten_cons, List.flatten_cons]
    exact h.append (h.rep n)
theorem IsL.ints : ∀ (ns : List Int), IsL K α F (ns.map D.int) (ns.map V.int)
  | [] => .nil
  | n :: ns => .cons (by rw [Is]) (IsL.ints ns)
end

/-- the state at a place: the objects' places, what stands for ever, what belongs to the objects, the whole -/
structure E4 where
  α : List Addr
  F : Hp
  A : Addr → Prop
  H : Hp
structure Ext (e e' : E4) : Prop where
  fz : ∀ b o u, e.H b = some (.frz o u) → e'.H b = some (.frz o u)
  hk : ∀ b o, e.H b = some o → ¬ e.A b → e'.H b = some o
  dm : ∀ b o, e.H b = some o → ∃ o', e'.H b = some o'
  ff : Same e.F e'.F
  fn : ∀ b o, e'.F b = some o → e.F b = some o ∨ e.H b = none ∨ ((∃ xs, o = .tup xs) ∧ e.H b = some o ∧ ¬ e.A b)
  an : ∀ b, e'.A b → e.A b ∨ e.H b = none
  aa : ∀ b, e.A b → e'.A b
  al : ∃ more, e'.α = e.α ++ more
theorem Ext.refl (e : E4) : Ext e e := ⟨fun _ _ _ h => h, fun _ _ h _ => h, fun _ o h => ⟨o, h⟩, Same.refl _, fun _ _ h => .inl h, fun _ h => .inl h, fun _ h => h, [], by simp⟩
theorem Ext.back {e e' : E4} (x : Ext e e') {b : Addr} (h : e'.H b = none) : e.H b = none := by
  cases q : e.H b with
  | none => rfl
  | some o => obtain ⟨o', z⟩ := x.dm b o q; rw [h] at z; cases z
theorem Ext.trans {a b c : E4} (x : Ext a b) (y : Ext b c) : Ext a c := by
  refine ⟨fun p o u h => y.fz p o u (x.fz p o u h), fun p o h hn => y.hk p o (x.hk p o h hn) fun z => ?_, fun p o h => ?_, x.ff.trans y.ff, fun p o h => ?_, fun p h => ?_, fun p h => y.aa p (x.aa p h), ?_⟩
  · rcases x.an p z with q | q
    · exact hn q
    · rw [q] at h; cases h
  · obtain ⟨o', h'⟩ := x.dm p o h
    exact y.dm p o' h'
  · rcases y.fn p o h with q | q | ⟨q1, q2, q3⟩
    · exact x.fn p o q
    · exact .inr (.inl (x.back q))
    · have n : ¬ a.A p := fun z => q3 (x.aa p z)
      cases z : a.H p with
      | none => exact .inr (.inl rfl)
      | some o' =>
        have z' := x.hk p o' z n
        rw [q2] at z'
        cases z'
        exact .inr (.inr ⟨q1, rfl, n⟩)
  · rcases y.an p h with q | q
    · exact x.an p q
    · exact .inr (x.back q)
  · obtain ⟨m, e1⟩ := x.al
    obtain ⟨n, e2⟩ := y.al
    exact ⟨m ++ n, by rw [e2, e1, List.append_assoc]⟩

/-- a list of one's own stays so -/
theorem Ext.keepOwn {e e' : E4} (x : Ext e e') {a : Addr} {vs : List V} (h : e.H a = some (.lst vs)) (hF : e.F a = none) (hA : ¬ e.A a) : e'.H a = some (.lst vs) ∧ e'.F a = none ∧ ¬ e'.A a := by
  refine ⟨x.hk a _ h hA, ?_, fun z => ?_⟩
  · cases z : e'.F a with
    | none => rfl
    | some o =>
      rcases x.fn a o z with y | y | ⟨⟨xs, rfl⟩, y, _⟩
      · rw [hF] at y; cases y
      · rw [h] at y; cases y
      · rw [h] at y; cases y
  · rcases x.an a z with y | y
    · exact hA y
    · rw [h] at y; cases y

/-- an object that may change -/
inductive OS where
  | mls (xs : List D) | dead | exc (c : Str) | ins (c : Str) (fs : List (Str × D)) | fzK (kvs : List (Key × D)) | dK (kvs : List (Key × D)) | dT (kvs : List (List Key × D))
/-- pairs by their keys -/
def PsIs (K : PySem.W.Frag) (α : List Addr) (F : Hp) {κ : Type} : List (κ × D) → List (κ × V) → Prop
  | [], vs => vs = []
  | p :: r, vs => ∃ v t, vs = (p.1, v) :: t ∧ Is K α F p.2 v ∧ PsIs K α F r t
theorem PsIs.mono {K : PySem.W.Frag} {α α' : List Addr} {F F' : Hp} {κ : Type} (ff : Same F F') (al : ∃ more, α' = α ++ more) : ∀ {ps : List (κ × D)} {vs : List (κ × V)}, PsIs K α F ps vs → PsIs K α' F' ps vs
  | [], _, h => h
  | p :: r, _, ⟨v, t, e, i, q⟩ => ⟨v, t, e, Is.mono ff al _ i, PsIs.mono ff al q⟩
abbrev Cl := Str → Option Addr
def OSIs (K : PySem.W.Frag) (C : Cl) (e : E4) (a : Addr) : OS → Prop
  | .mls xs => ∃ vs, e.H a = some (.lst vs) ∧ IsL K e.α e.F xs vs
  | .dead => True
  | .exc c => ∃ Ca ob u, C c = some Ca ∧ e.H a = some (.frz ob u) ∧ ob.cls = .ref Ca
  | .ins c fs => ∃ Ca dx fvs, C c = some Ca ∧ e.H a = some (.ins Ca dx fvs) ∧ PsIs K e.α e.F fs fvs
  | .fzK kvs => ∃ vs o, e.H a = some (.frz o (.dK vs)) ∧ PsIs K e.α e.F kvs vs
  | .dK kvs => ∃ vs, e.H a = some (.dK vs) ∧ PsIs K e.α e.F kvs vs
  | .dT kvs => ∃ vs, e.H a = some (.dT vs) ∧ PsIs K e.α e.F kvs vs
structure Wf (K : PySem.W.Frag) (C : Cl) (e : E4) (Ω : List OS) : Prop where
  fh : Same e.F e.H
  fa : ∀ b, e.A b → e.F b = none
  ah : ∀ b, e.A b → e.H b ≠ none ∧ ∀ xs, e.H b ≠ some (.tup xs)
  ol : e.α.length = Ω.length
  nd : e.α.Nodup
  ob : ∀ (n : Nat) (a : Addr) (o : OS), e.α[n]? = some a → Ω[n]? = some o → e.A a ∧ OSIs K C e a o
section
variable {K : PySem.W.Frag} {C : Cl} {e e' : E4} {Ω Ω' : List OS}
theorem Is.ext (x : Ext e e') {d : D} {v : V} (h : Is K e.α e.F d v) : Is K e'.α e'.F d v := Is.mono x.ff x.al d h
theorem IsL.ext (x : Ext e e') {d : List D} {v : List V} (h : IsL K e.α e.F d v) : IsL K e'.α e'.F d v := IsL.mono x.ff x.al d h
/-- a new thing that stands for ever -/
def E4.new (e : E4) (p : Addr) (o : HO) : E4 := ⟨e.α, upd e.F p o, e.A, upd e.H p o⟩
theorem Wf.nF (w : Wf K C e Ω) {p : Addr} (hp : e.H p = none) : e.F p = none := by
  cases q : e.F p with
  | none => rfl
  | some o => rw [w.fh p o q] at hp; cases hp
theorem Wf.new_ext (w : Wf K C e Ω) {p : Addr} {o : HO} (hp : e.H p = none) : Ext e (e.new p o) := by
  refine ⟨fun b o' u h => ?_, fun b u h _ => ?_, fun b u h => ⟨u, ?_⟩, fun b u h => ?_, fun b u h => ?_, fun b h => .inl h, fun b h => h, [], by simp [E4.new]⟩
  · show upd e.H p o b = some (.frz o' u); rw [upd_ne (ne_of_none h hp)]; exact h
  · show upd e.H p o b = some u; rw [upd_ne (ne_of_none h hp)]; exact h
  · show upd e.H p o b = some u; rw [upd_ne (ne_of_none h hp)]; exact h
  · show upd e.F p o b = some u; rw [upd_ne (ne_of_none h (w.nF hp))]; exact h
  · have h : upd e.F p o b = some u := h
    by_cases hb : b = p
    · subst hb; exact .inr (.inl hp)
    · rw [upd_ne hb] at h; exact .inl h
theorem OSIs.keep {a : Addr} {o : OS} (h : OSIs K C e a o) (hH : ∀ u, e.H a = some u → e'.H a = some u) (ff : Same e.F e'.F) (al : ∃ more, e'.α = e.α ++ more) : OSIs K C e' a o := by
  cases o with
  | mls xs => obtain ⟨vs, h1, h2⟩ := h; exact ⟨vs, hH _ h1, IsL.mono ff al xs h2⟩
  | dead => trivial
  | exc c => obtain ⟨Ca, ob, u, h1, h2, h3⟩ := h; exact ⟨Ca, ob, u, h1, hH _ h2, h3⟩
  | ins c fs => obtain ⟨Ca, dx, fvs, h1, h2, h3⟩ := h; exact ⟨Ca, dx, fvs, h1, hH _ h2, h3.mono ff al⟩
  | fzK kvs => obtain ⟨vs, ob, h1, h2⟩ := h; exact ⟨vs, ob, hH _ h1, h2.mono ff al⟩
  | dK kvs => obtain ⟨vs, h1, h2⟩ := h; exact ⟨vs, hH _ h1, h2.mono ff al⟩
  | dT kvs => obtain ⟨vs, h1, h2⟩ := h; exact ⟨vs, hH _ h1, h2.mono ff al⟩
theorem Wf.new (w : Wf K C e Ω) {p : Addr} {o : HO} (hp : e.H p = none) : Wf K C (e.new p o) Ω := by
  have x : Ext e (e.new p o) := w.new_ext hp
  have ne : ∀ b, e.A b → b ≠ p := fun b h z => by subst z; exact (w.ah b h).1 hp
  refine ⟨fun b u h => ?_, fun b h => ?_, fun b h => ?_, w.ol, w.nd, fun n a u h1 h2 => ⟨(w.ob n a u h1 h2).1, (w.ob n a u h1 h2).2.keep (fun v hv => ?_) x.ff x.al⟩⟩
  · have h : upd e.F p o b = some u := h
    show upd e.H p o b = some u
    by_cases hb : b = p
    · subst hb; rw [upd_same] at h ⊢; exact h
    · rw [upd_ne hb] at h ⊢; exact w.fh b u h
  · show upd e.F p o b = none
    rw [upd_ne (ne b h)]; exact w.fa b h
  · show upd e.H p o b ≠ none ∧ ∀ xs, upd e.H p o b ≠ some (.tup xs)
    rw [upd_ne (ne b h)]; exact w.ah b h
  · show upd e.H p o a = some v
    rw [upd_ne (ne a (w.ob n a u h1 h2).1)]; exact hv
end

/-- a name: nothing known, data, a list of its own -/
inductive Sl where
  | und | dat (d : D) | own (xs : List D)
structure RelE (K : PySem.W.Frag) (e : E4) (σ : St) (ρ : List Sl) : Prop where
  len : σ.length = ρ.length
  dat : ∀ (i : Nat) (d : D), ρ[i]? = some (.dat d) → ∃ v, σ[i]? = some (some v) ∧ Is K e.α e.F d v
  own : ∀ (i : Nat) (ds : List D), ρ[i]? = some (.own ds) → ∃ a vs, σ[i]? = some (some (.ref a)) ∧ e.H a = some (.lst vs) ∧ IsL K e.α e.F ds vs ∧ e.F a = none ∧ ¬ e.A a
  sep : ∀ (i j : Nat) (ds es : List D) (a : Addr), ρ[i]? = some (.own ds) → ρ[j]? = some (.own es) → σ[i]? = some (some (.ref a)) → σ[j]? = some (some (.ref a)) → i = j
section
variable {K : PySem.W.Frag} {C : Cl} {e e' e₀ : E4} {Ω Ω' : List OS} {σ : St} {ρ : List Sl}
theorem RelE.ext (r : RelE K e σ ρ) (x : Ext e e') : RelE K e' σ ρ := by
  refine ⟨r.len, fun i d h => ?_, fun i ds h => ?_, r.sep⟩
  · obtain ⟨v, e1, q⟩ := r.dat i d h
    exact ⟨v, e1, q.ext x⟩
  · obtain ⟨a, vs, e1, e2, q, n1, n2⟩ := r.own i ds h
    obtain ⟨z1, z2, z3⟩ := x.keepOwn e2 n1 n2
    exact ⟨a, vs, e1, z1, q.ext x, z2, z3⟩
theorem RelE.set (r : RelE K e σ ρ) (i : Nat) {d : D} {v : V} (h : Is K e.α e.F d v) : RelE K e (σ.set i (some v)) (ρ.set i (.dat d)) := by
  refine ⟨by simp [r.len], fun j d' hj => ?_, fun j ds hj => ?_, fun j k ds es a hj hk h1 h2 => ?_⟩
  · by_cases e1 : i = j
    · subst e1
      have hl : i < ρ.length := by
        have := (List.getElem?_eq_some_iff.mp hj).1
        simpa using this
      rw [List.getElem?_set_self hl] at hj
      cases hj
      exact ⟨v, List.getElem?_set_self (by rw [r.len]; exact hl), h⟩
    · rw [List.getElem?_set_ne e1] at hj ⊢
      exact r.dat j d' hj
  · by_cases e1 : i = j
    · subst e1
      have hl : i < ρ.length := by
        have := (List.getElem?_eq_some_iff.mp hj).1
        simpa using this
      rw [List.getElem?_set_self hl] at hj
      cases hj
    · rw [List.getElem?_set_ne e1] at hj ⊢
      exact r.own j ds hj
  · have ne : ∀ (j : Nat) (ds : List D), (ρ.set i (.dat d))[j]? = some (.own ds) → i ≠ j := fun j ds hj e1 => by
      subst e1
      have hl : i < ρ.length := by
        have := (List.getElem?_eq_some_iff.mp hj).1
        simpa using this
      rw [List.getElem?_set_self hl] at hj
      cases hj
    have n1 := ne j ds hj
    have n2 := ne k es hk
    rw [List.getElem?_set_ne n1] at hj h1
    rw [List.getElem?_set_ne n2] at hk h2
    exact r.sep j k ds es a hj hk h1 h2
end

/-! ### the readings -/
abbrev Den := List Sl → List OS → Option (D × List OS)
abbrev TDen := List Sl → List OS → Option (Bool × List OS)
abbrev ADen := List Sl → List OS → Option (List D × List OS)
def tD (K : PySem.W.Frag) (C : Cl) (g : Den) : TE := fun σ H Q => ∃ e Ω ρ d Ω', e.H = H ∧ Wf K C e Ω ∧ RelE K e σ ρ ∧ g ρ Ω = some (d, Ω') ∧ ∀ v e', Ext e e' → Wf K C e' Ω' → Is K e'.α e'.F d v → Q v e'.H
def tDT (K : PySem.W.Frag) (C : Cl) (g : TDen) : TT := fun σ H Q => ∃ e Ω ρ b Ω', e.H = H ∧ Wf K C e Ω ∧ RelE K e σ ρ ∧ g ρ Ω = some (b, Ω') ∧ ∀ e', Ext e e' → Wf K C e' Ω' → Q b e'.H
def tDA (K : PySem.W.Frag) (C : Cl) (g : ADen) : TA := fun σ H Q => ∃ e Ω ρ ds Ω', e.H = H ∧ Wf K C e Ω ∧ RelE K e σ ρ ∧ g ρ Ω = some (ds, Ω') ∧ ∀ vs e', Ext e e' → Wf K C e' Ω' → IsL K e'.α e'.F ds vs → Q vs e'.H
def PD (X : Cx) (C : Cl) (x : Expr) (g : Den) : Prop := PE X x (tD X.K C g)
def PDT (X : Cx) (C : Cl) (x : Expr) (g : TDen) : Prop := PT X x (tDT X.K C g)
def PDW (X : Cx) (C : Cl) (x : Expr) (g : TDen) : Prop := PW X x (tDT X.K C g)
def PDA (X : Cx) (C : Cl) (xs : List Expr) (g : ADen) : Prop := PA X xs (tDA X.K C g)
section
variable {X : Cx} {C : Cl} {x : Expr}
theorem pe_imp {t t' : TE} (h : PE X x t) (i : ∀ σ H Q, t' σ H Q → t σ H Q) : PE X x t' := fun pins s σ H Q I hw => h pins s σ H Q I (i σ H Q hw)
theorem pt_imp {t t' : TT} (h : PT X x t) (i : ∀ σ H Q, t' σ H Q → t σ H Q) : PT X x t' := fun pins s σ H Q I hw => h pins s σ H Q I (i σ H Q hw)
theorem pw_imp {t t' : TT} (h : PW X x t) (i : ∀ σ H Q, t' σ H Q → t σ H Q) : PW X x t' := fun whole pins s σ H Q I hw => h whole pins s σ H Q I (i σ H Q hw)
theorem pa_imp {xs : List Expr} {t t' : TA} (h : PA X xs t) (i : ∀ σ H Q, t' σ H Q → t σ H Q) : PA X xs t' := fun pos pins s σ H Q I hw => h pos pins s σ H Q I (i σ H Q hw)
theorem ps_imp {st : Stmt} {t t' : TS} (h : PS X st t) (i : ∀ D σ H, t' D σ H → t D σ H) : PS X st t' := fun pins s σ H D I hw => h pins s σ H D I (i D σ H hw)
theorem pss_imp {st : List Stmt} {t t' : TS} (h : PSs X st t) (i : ∀ D σ H, t' D σ H → t D σ H) : PSs X st t' := fun pins s σ H D I hw => h pins s σ H D I (i D σ H hw)

/-! ### names, constants -/
def gVar (i : Nat) : Den := fun ρ Ω => match ρ[i]? with | some (.dat d) => some (d, Ω) | _ => none
theorem pd_var {i : Nat} (h : PE X x (tVar i)) : PD X C x (gVar i) := pe_imp h fun σ H Q hw' => by
  obtain ⟨e, Ω, ρ, d, Ω', eH, w, r, g, k⟩ := hw'
  subst eH
  unfold gVar at g
  cases q : ρ[i]? with
  | none => rw [q] at g; cases g
  | some s =>
    rw [q] at g
    cases s with
    | dat d' =>
      cases g
      obtain ⟨v, e1, i1⟩ := r.dat _ _ q
      exact ⟨v, e1, k v e (Ext.refl e) w i1⟩
    | und => cases g
    | own _ => cases g
def gC (d : D) : Den := fun _ Ω => some (d, Ω)
theorem pd_c {v : V} {d : D} (h : PE X x (tC v)) (hd : ∀ α F, Is X.K α F d v) : PD X C x (gC d) := pe_imp h fun σ H Q hw' => by
  obtain ⟨e, Ω, ρ, d', Ω', eH, w, r, g, k⟩ := hw'
  subst eH
  cases g
  exact k v e (Ext.refl e) w (hd _ _)
theorem pd_int {i : Int} {j pos} : PD X C (.Constant (.int i) j pos) (gC (.int i)) := pd_c pe_int fun _ _ => by rw [Is]
theorem pd_bl {b : Bool} {j pos} : PD X C (.Constant (.bool b) j pos) (gC (.bl b)) := pd_c pe_bl fun _ _ => by rw [Is]
theorem pd_non {j pos} : PD X C (.Constant .none j pos) (gC .non) := pd_c pe_non fun _ _ => by rw [Is]
theorem pd_str {z : Str} {j pos} : PD X C (.Constant (.str z) j pos) (gC (.str z)) := pd_c pe_str fun _ _ => by rw [Is]
theorem pd_globI {n : Str} {i : Int} {t : Tok} {pos : Pos} (hg : Gl X n) (hm : X.mg n = some (.int i t)) (hd : (n == ("__debug__" : Str)) = false := by decide) : PD X C (.Name n pos) (gC (.int i)) :=
  pd_c (pe_glob (v := .int i) hg hm ⟨t, rfl⟩ hd) fun _ _ => by rw [Is]
theorem pd_globS {n z : Str} {t : Tok} {pos : Pos} (hg : Gl X n) (hm : X.mg n = some (.str z t)) (hd : (n == ("__debug__" : Str)) = false := by decide) : PD X C (.Name n pos) (gC (.str z)) :=
  pd_c (pe_glob (v := .str z) hg hm ⟨t, rfl⟩ hd) fun _ _ => by rw [Is]
end

/-! ### two-place operations -/
def OpD (X : Cx) (C : Cl) (f : Value → Value → Sem Value) (r : D → D → Option D) : Prop :=
  OpR X f fun x y H Q => ∃ e Ω d₁ d₂ z, e.H = H ∧ Wf X.K C e Ω ∧ Is X.K e.α e.F d₁ x ∧ Is X.K e.α e.F d₂ y ∧ r d₁ d₂ = some z ∧ ∀ v e', Ext e e' → Wf X.K C e' Ω → Is X.K e'.α e'.F z v → Q v e'.H
def gOp (r : D → D → Option D) (f g : Den) : Den := fun ρ Ω => match f ρ Ω with
  | some (x, Ω₁) => match g ρ Ω₁ with
    | some (y, Ω₂) => match r x y with
      | some z => some (z, Ω₂)
      | none => none
    | none => none
  | none => none
section
variable {X : Cx} {C : Cl} {a b : Expr} {f g : Den} {r : D → D → Option D} {pos : Pos}
theorem op_read {K : PySem.W.Frag} {r' : R2} (hr : ∀ x y H Q, (∃ e Ω d₁ d₂ z, e.H = H ∧ Wf K C e Ω ∧ Is K e.α e.F d₁ x ∧ Is K e.α e.F d₂ y ∧ r d₁ d₂ = some z ∧ ∀ v e', Ext e e' → Wf K C e' Ω → Is K e'.α e'.F z v → Q v e'.H) → r' x y H Q)
    {σ : St} {H : Hp} {Q : VK} (h : tD K C (gOp r f g) σ H Q) : tOp r' (tD K C f) (tD K C g) σ H Q := by
  obtain ⟨e, Ω, ρ, d, Ω', eH, w, rl, q, k⟩ := h
  unfold gOp at q
  cases q1 : f ρ Ω with
  | none => rw [q1] at q; cases q
  | some p1 =>
    obtain ⟨x, Ω₁⟩ := p1
    rw [q1] at q
    dsimp only at q
    cases q2 : g ρ Ω₁ with
    | none => rw [q2] at q; cases q
    | some p2 =>
      obtain ⟨y, Ω₂⟩ := p2
      rw [q2] at q
      dsimp only at q
      cases q3 : r x y with
      | none => rw [q3] at q; cases q
      | some z =>
        rw [q3] at q
        cases q
        refine ⟨e, Ω, ρ, x, Ω₁, eH, w, rl, q1, fun v e1 x1 w1 i1 => ?_⟩
        refine ⟨e1, Ω₁, ρ, y, _, rfl, w1, rl.ext x1, q2, fun u e2 x2 w2 i2 => ?_⟩
        exact hr v u e2.H Q ⟨e2, _, x, y, d, rfl, w2, i1.ext x2, i2, q3, fun v' e3 x3 w3 i3 => k v' e3 ((x1.trans x2).trans x3) w3 i3⟩
theorem pd_op {op : Operator} (ho : OpD X C (binaryOp op) r) (ha : PD X C a f) (hb : PD X C b g) : PD X C (.BinOp a op b pos) (gOp r f g) :=
  pe_imp (pe_op ho ha hb) fun σ H Q h => op_read (fun _ _ _ _ h => h) h
theorem pd_cmp {op : CmpOp} (ho : OpD X C (compareOp op) r) (ha : PD X C a f) (hb : PD X C b g) (hm : behindInMarks op b = false) : PD X C (.Compare a [op] [b] pos) (gOp r f g) :=
  pe_imp (pe_cmpR ho ha hb hm) fun σ H Q h => op_read (fun _ _ _ _ h => h) h
/-- a value's truth, where it is a bool -/
def gT (g : Den) : TDen := fun ρ Ω => match g ρ Ω with
  | some (.bl b, Ω') => some (b, Ω')
  | _ => none
theorem gT_read {K : PySem.W.Frag} {σ : St} {H : Hp} {Q : Bool → Hp → Prop} (h : tDT K C (gT g) σ H Q) : tD K C g σ H fun x H' => ∃ c, x = V.bl c ∧ Q c H' := by
  obtain ⟨e, Ω, ρ, b, Ω', eH, w, rl, q, k⟩ := h
  unfold gT at q
  cases q1 : g ρ Ω with
  | none => rw [q1] at q; cases q
  | some p1 =>
    obtain ⟨x, Ω₁⟩ := p1
    rw [q1] at q
    cases x with
    | bl c =>
      cases q
      refine ⟨e, Ω, ρ, _, _, eH, w, rl, q1, fun v e1 x1 w1 i1 => ?_⟩
      rw [Is] at i1
      exact ⟨b, i1, k e1 x1 w1⟩
    | _ => cases q
theorem pdt_cmp {op : CmpOp} (ho : OpD X C (compareOp op) r) (ha : PD X C a f) (hb : PD X C b g) (hm : behindInMarks op b = false) : PDT X C (.Compare a [op] [b] pos) (gT (gOp r f g)) :=
  pt_imp (pt_cmpR ho ha hb hm) fun σ H Q h => op_read (fun _ _ _ _ h => h) (gT_read h)
theorem pdt_val {x : Expr} (h : PD X C x g) (he : ∀ whole, isTrue x X.env whole = (do let v ← whole; standAt x.pos; holding [v] (truthy v)) := by intro _; rfl) : PDT X C x (gT g) :=
  pt_imp (pt_val h he) fun σ H Q h => gT_read h
/-- ints -/
def dI (c : Int → Int → Bool) (f : Int → Int → Int) : D → D → Option D
  | .int i, .int j => if c i j = true then some (.int (f i j)) else none
  | _, _ => none
def dB (f : Int → Int → Bool) : D → D → Option D
  | .int i, .int j => some (.bl (f i j))
  | _, _ => none
theorem dI_inv {c : Int → Int → Bool} {f : Int → Int → Int} {d₁ d₂ z : D} (h : dI c f d₁ d₂ = some z) : ∃ i j, d₁ = .int i ∧ d₂ = .int j ∧ c i j = true ∧ z = .int (f i j) := by
  unfold dI at h
  split at h
  · split at h
    · cases h; exact ⟨_, _, rfl, rfl, ‹_›, rfl⟩
    · cases h
  · cases h
theorem dB_inv {f : Int → Int → Bool} {d₁ d₂ z : D} (h : dB f d₁ d₂ = some z) : ∃ i j, d₁ = .int i ∧ d₂ = .int j ∧ z = .bl (f i j) := by
  unfold dB at h
  split at h
  · cases h; exact ⟨_, _, rfl, rfl, rfl⟩
  · cases h
theorem is_i {K : PySem.W.Frag} {α : List Addr} {F : Hp} {i : Int} {v : V} (h : Is K α F (.int i) v) : v = .int i := by rw [Is] at h; exact h
theorem opD_I {h : Value → Value → Sem Value} {P : Int → Int → Prop} {c : Int → Int → Bool} {k : Int → Int → Int} (ho : OpR X h (rI P fun i j => .int (k i j))) (hc : ∀ i j, c i j = true → P i j) : OpD X C h (dI c k) := by
  rintro pins s σ H x y v u Q I rx ry ⟨e, Ω, d₁, d₂, z, eH, w, i1, i2, q, kk⟩
  obtain ⟨i, j, e1, e2, hcc, e3⟩ := dI_inv q
  rw [e1] at i1
  rw [e2] at i2
  refine ho pins s σ _ x y v u Q I rx ry ⟨i, j, is_i i1, is_i i2, hc i j hcc, ?_⟩
  rw [← eH]
  exact kk _ e (Ext.refl e) w (by rw [e3, Is])
theorem opD_I0 {h : Value → Value → Sem Value} {k : Int → Int → Int} (ho : OpR X h (rI0 fun i j => .int (k i j))) : OpD X C h (dI (fun _ _ => true) k) := by
  rintro pins s σ H x y v u Q I rx ry ⟨e, Ω, d₁, d₂, z, eH, w, i1, i2, q, kk⟩
  obtain ⟨i, j, e1, e2, hcc, e3⟩ := dI_inv q
  rw [e1] at i1
  rw [e2] at i2
  refine ho pins s σ _ x y v u Q I rx ry ⟨i, j, is_i i1, is_i i2, ?_⟩
  rw [← eH]
  exact kk _ e (Ext.refl e) w (by rw [e3, Is])
theorem opD_B {h : Value → Value → Sem Value} {k : Int → Int → Bool} (ho : OpR X h (rI0 fun i j => .bl (k i j))) : OpD X C h (dB k) := by
  rintro pins s σ H x y v u Q I rx ry ⟨e, Ω, d₁, d₂, z, eH, w, i1, i2, q, kk⟩
  obtain ⟨i, j, e1, e2, e3⟩ := dB_inv q
  rw [e1] at i1
  rw [e2] at i2
  refine ho pins s σ _ x y v u Q I rx ry ⟨i, j, is_i i1, is_i i2, ?_⟩
  rw [← eH]
  exact kk _ e (Ext.refl e) w (by rw [e3, Is])
end
end DL
set_option Elab.async false
set_option linter.all false
set_option maxRecDepth 100000
namespace DL
open PySem PySem.Spec PyProof.Rows L2

/-- how long lists and texts may grow here -/
abbrev big : Nat := 100000
theorem big_line {n : Nat} (h : n ≤ big) : n ≤ sizeLine := Nat.le_trans h (by decide)
theorem big_lt {n : Nat} (h : n < big) : n < sizeLine := Nat.lt_of_lt_of_le h (by decide)

open Classical in
/-- a bound: nothing here is reckoned by evaluation -/
noncomputable def grd {β : Type} (P : Prop) (x : Option β) : Option β := if P then x else none
theorem grd_pos {β : Type} {P : Prop} {x : Option β} (h : P) : grd P x = x := if_pos h
theorem grd_some {β : Type} {P : Prop} {x : Option β} {z : β} (h : grd P x = some z) : P ∧ x = some z := by
  by_cases q : P
  · rw [grd_pos q] at h; exact ⟨q, h⟩
  · have e : grd P x = none := if_neg q
    rw [e] at h; cases h
section
variable {X : Cx} {C : Cl} {a b c x : Expr} {f g h : Den} {r : D → D → Option D} {pos : Pos}

/-! ### the kinds of + and * -/
def addD : D → D → Option D
  | .int i, .int j => some (.int (i + j))
  | .lst xs, .lst ys => if xs.length + ys.length ≤ big then some (.lst (xs ++ ys)) else none
  | .str p, .str q => if p.length + q.length ≤ big then some (.str (p ++ q)) else none
  | _, _ => none
theorem add_inv {d₁ d₂ z : D} (q : addD d₁ d₂ = some z) : (∃ i j, d₁ = .int i ∧ d₂ = .int j ∧ z = .int (i + j)) ∨ (∃ xs ys, d₁ = .lst xs ∧ d₂ = .lst ys ∧ xs.length + ys.length ≤ big ∧ z = .lst (xs ++ ys)) ∨
    ∃ xs ys, d₁ = .str xs ∧ d₂ = .str ys ∧ xs.length + ys.length ≤ big ∧ z = .str (xs ++ ys) := by
  unfold addD at q
  split at q
  · cases q; exact .inl ⟨_, _, rfl, rfl, rfl⟩
  · split at q
    · cases q; exact .inr (.inl ⟨_, _, rfl, rfl, ‹_›, rfl⟩)
    · cases q
  · split at q
    · cases q; exact .inr (.inr ⟨_, _, rfl, rfl, ‹_›, rfl⟩)
    · cases q
  · cases q
theorem opD_add : OpD X C (binaryOp .Add) addD := by
  intro pins s σ H x y v u Q I rx ry hw
  obtain ⟨e, Ω, d₁, d₂, z, eH, w, i1, i2, q, kk⟩ := hw
  subst eH
  rcases add_inv q with ⟨i, j, rfl, rfl, rfl⟩ | ⟨xs, ys, rfl, rfl, hl, rfl⟩ | ⟨i, j, rfl, rfl, hl, rfl⟩
  · rw [Is] at i1 i2
    subst i1 i2
    exact op_add pins s σ _ _ _ v u Q I rx ry ⟨i, j, rfl, rfl, kk _ e (Ext.refl e) w (by rw [Is])⟩
  · rw [Is] at i1 i2
    obtain ⟨l, vs, rfl, h1, r1⟩ := i1
    obtain ⟨m, us, rfl, h2, r2⟩ := i2
    refine op_cat pins s σ _ _ _ v u Q I rx ry ⟨l, m, vs, us, rfl, rfl, w.fh _ _ h1, w.fh _ _ h2, by rw [← r1.length, ← r2.length]; exact big_line hl, fun p hp => ?_⟩
    refine kk _ (e.new p _) (w.new_ext hp) (w.new hp) ?_
    rw [Is]
    exact ⟨p, _, rfl, upd_same, (r1.append r2).ext (w.new_ext hp)⟩
  · rw [Is] at i1 i2
    subst i1 i2
    exact op_add_str pins s σ _ _ _ v u Q I rx ry ⟨i, j, rfl, rfl, big_line hl, kk _ e (Ext.refl e) w (by rw [Is])⟩
noncomputable def mulD : D → D → Option D
  | .int i, .int j => grd ((-(2 ^ 64) < i ∧ i < 2 ^ 64) ∨ (-(2 ^ 64) < j ∧ j < 2 ^ 64)) (some (.int (i * j)))
  | .lst xs, .int k => grd (-(2 ^ 62) ≤ k ∧ k < 2 ^ 62 ∧ xs.length * k.toNat ≤ big) (some (.lst (List.replicate k.toNat xs).flatten))
  | _, _ => none
theorem mul_inv {d₁ d₂ z : D} (q : mulD d₁ d₂ = some z) : (∃ i j, d₁ = .int i ∧ d₂ = .int j ∧ ((-(2 ^ 64) < i ∧ i < 2 ^ 64) ∨ (-(2 ^ 64) < j ∧ j < 2 ^ 64)) ∧ z = .int (i * j)) ∨
    ∃ xs k, d₁ = .lst xs ∧ d₂ = .int k ∧ (-(2 ^ 62) ≤ k ∧ k < 2 ^ 62 ∧ xs.length * k.toNat ≤ big) ∧ z = .lst (List.replicate k.toNat xs).flatten := by
  unfold mulD at q
  split at q
  · obtain ⟨hl, q⟩ := grd_some q; cases q; exact .inl ⟨_, _, rfl, rfl, hl, rfl⟩
  · obtain ⟨hl, q⟩ := grd_some q; cases q; exact .inr ⟨_, _, rfl, rfl, hl, rfl⟩
  · cases q
theorem opD_mul : OpD X C (binaryOp .Mult) mulD := by
  intro pins s σ H x y v u Q I rx ry hw
  obtain ⟨e, Ω, d₁, d₂, z, eH, w, i1, i2, q, kk⟩ := hw
  subst eH
  rcases mul_inv q with ⟨i, j, rfl, rfl, hl, rfl⟩ | ⟨xs, k, rfl, rfl, hl, rfl⟩
  · rw [Is] at i1 i2
    subst i1 i2
    exact op_mul pins s σ _ _ _ v u Q I rx ry ⟨i, j, rfl, rfl, hl, kk _ e (Ext.refl e) w (by rw [Is])⟩
  · rw [Is] at i1
    rw [Is] at i2
    obtain ⟨l, vs, rfl, h1, r1⟩ := i1
    subst i2
    refine op_rep pins s σ _ _ _ v u Q I rx ry ⟨l, k, vs, rfl, rfl, w.fh _ _ h1, by omega, by omega, by rw [← r1.length]; exact big_line hl.2.2, fun p hp => ?_⟩
    refine kk _ (e.new p _) (w.new_ext hp) (w.new hp) ?_
    rw [Is]
    exact ⟨p, _, rfl, upd_same, (r1.rep _).ext (w.new_ext hp)⟩
abbrev subD : D → D → Option D := dI (fun _ _ => true) fun i j => i - j
theorem opD_sub : OpD X C (binaryOp .Sub) subD := opD_I0 op_sub
abbrev modD : D → D → Option D := dI (fun _ j => decide (0 < j)) fun i j => i % j
theorem opD_mod : OpD X C (binaryOp .Mod) modD := opD_I op_mod fun _ _ h => of_decide_eq_true h
abbrev divD : D → D → Option D := dI (fun _ j => decide (0 < j) && decide (j < 1073741824)) fun i j => i / j
theorem opD_div : OpD X C (binaryOp .FloorDiv) divD := opD_I op_fdiv fun _ _ h => by
  rw [Bool.and_eq_true, decide_eq_true_eq, decide_eq_true_eq] at h
  exact h
abbrev ltD : D → D → Option D := dB fun i j => decide (i < j)
theorem opD_lt : OpD X C (compareOp .Lt) ltD := opD_B op_lt
abbrev leD : D → D → Option D := dB fun i j => decide (i ≤ j)
theorem opD_le : OpD X C (compareOp .LtE) leD := opD_B op_le
abbrev gtD : D → D → Option D := dB fun i j => decide (j < i)
theorem opD_gt : OpD X C (compareOp .Gt) gtD := opD_B op_gt
/-! ### == and in, of data of any make -/
mutual
def toP : D → PyData
  | .non => .none
  | .bl b => .bool b
  | .int i => .int i
  | .str x => .str x
  | .tup xs => .tuple (toPs xs)
  | .lst xs => .list (toPs xs)
  | .scr ns => .list (ns.map PyData.int)
  | .obj _ => .dict []
def toPs : List D → List PyData
  | [] => []
  | d :: ds => toP d :: toPs ds
end
end

section
variable {X : Cx} {pins : List (Addr × Obj)} {σ : St} {H : Hp} {s : Shared} {K : PySem.W.Frag} {α : List Addr} {F : Hp}
mutual
theorem reads_of (I : Inv X pins σ H s) (hK : K = X.K) (ff : Same F H) : ∀ (d : D) {v : V} {u : Value}, (toP d).canLay0 = true → Is K α F d v → RelV v u → ∃ as, Reads s.heap u (toP d) as
  | .non, v, u, _, h, r => by
    rw [Is] at h; subst h; cases (show u = Value.none from r); rw [toP]; exact ⟨_, .none⟩
  | .bl b, v, u, _, h, r => by
    rw [Is] at h; subst h; cases (show u = Value.bool b from r); rw [toP]; exact ⟨_, .bool b⟩
  | .int i, v, u, _, h, r => by
    rw [Is] at h; subst h; obtain ⟨t, q⟩ := (show ∃ t, u = Value.int i t from r); subst q; rw [toP]; exact ⟨_, .int i t⟩
  | .str x, v, u, _, h, r => by
    rw [Is] at h; subst h; obtain ⟨t, q⟩ := (show ∃ t, u = Value.str x t from r); subst q; rw [toP]; exact ⟨_, .str x t⟩
  | .tup xs, v, u, hc, h, r => by
    rw [Is] at h
    obtain ⟨a, vs, rfl, e, q⟩ := h
    cases (show u = Value.ref a from r)
    obtain ⟨_, its, rv, o, e1, e2, n, e3⟩ := (show ObjOk X.prog X.w H s.heap a (.tup vs) from I.hok a _ (ff _ _ e))
    rw [toP] at hc ⊢
    obtain ⟨as, z⟩ := readsL_of I hK ff xs (by simpa [PyData.canLay0] using hc) q rv
    exact ⟨as, .tuple e1 e2 e3 (by simpa using z)⟩
  | .lst xs, v, u, hc, h, r => by
    rw [Is] at h
    obtain ⟨a, vs, rfl, e, q⟩ := h
    cases (show u = Value.ref a from r)
    obtain ⟨_, its, n, rv, e1⟩ := (show ObjOk X.prog X.w H s.heap a (.lst vs) from I.hok a _ (ff _ _ e))
    rw [toP] at hc ⊢
    obtain ⟨as, z⟩ := readsL_of I hK ff xs (by simpa [PyData.canLay0] using hc) q rv
    exact ⟨_, .list e1 rfl rfl (by simpa using z)⟩
  | .scr ns, v, u, hc, h, r => by
    rw [Is] at h
    obtain ⟨a, rfl, q⟩ := h
    cases (show u = Value.ref a from r)
    subst hK
    obtain ⟨its, rv, pl, _⟩ := I.list (ff.seq q)
    rw [toP]
    exact ⟨_, reads_newData pl.isList (PySem.W.ke_carried (intsAre_of rv))⟩
  | .obj n, v, u, hc, h, r => by rw [toP] at hc; simp [PyData.canLay0] at hc
theorem readsL_of (I : Inv X pins σ H s) (hK : K = X.K) (ff : Same F H) : ∀ (ds : List D) {vs : List V} {us : List Value}, PyData.canLayAll0 (toPs ds) = true → IsL K α F ds vs → Vals vs us → ∃ as, ReadsAll s.heap us (toPs ds) as
  | [], vs, us, _, h, r => by
    rw [h.of_nil] at r; cases r; rw [toPs]; exact ⟨_, .nil⟩
  | d :: ds, vs, us, hc, h, r => by
    obtain ⟨v, t, rfl, h1, h2⟩ := h.of_cons
    cases r with
    | cons r1 r2 =>
      rw [toPs] at hc ⊢
      have hc' : (toP d).canLay0 = true ∧ PyData.canLayAll0 (toPs ds) = true := by simpa [PyData.canLayAll0] using hc
      obtain ⟨as, z1⟩ := reads_of I hK ff d hc'.1 h1 r1
      obtain ⟨bs, z2⟩ := readsL_of I hK ff ds hc'.2 h2 r2
      exact ⟨_, .cons z1 z2⟩
end
end
end DL
set_option Elab.async false
set_option linter.all false
set_option maxRecDepth 100000
namespace DL
open PySem PySem.Spec PyProof.Rows L2

section
variable {X : Cx} {C : Cl} {a b c x : Expr} {f g h : Den} {r : D → D → Option D} {pos : Pos}
/-! ### ==, != -/
def eqD (neg : Bool) (p q : D) : Option D := if SeqAt.shaped (toP p) && SeqAt.shaped (toP q) then some (.bl (if neg then !PyData.eqv (toP p) (toP q) else PyData.eqv (toP p) (toP q))) else none
theorem opD_eq (hu : X.A.units + 64 < cLine) : OpD X C (compareOp .Eq) (eqD false) := by
  intro pins s σ H x y v u Q I rx ry hw
  obtain ⟨e, Ω, d₁, d₂, z, eH, w, i1, i2, q, kk⟩ := hw
  subst eH
  unfold eqD at q
  split at q
  · rename_i hs
    rw [Bool.and_eq_true] at hs
    cases q
    obtain ⟨as, r1⟩ := reads_of I rfl w.fh d₁ (SeqAt.canLay_of_shaped hs.1) i1 rx
    obtain ⟨bs, r2⟩ := reads_of I rfl w.fh d₂ (SeqAt.canLay_of_shaped hs.2) i2 ry
    exact eq_dataH r1 r2 hs.1 hs.2 hu ⟨.bl _, e.H, I, rfl, kk _ e (Ext.refl e) w (by rw [Is]; rfl)⟩
  · cases q
theorem opD_ne (hu : X.A.units + 64 < cLine) : OpD X C (compareOp .NotEq) (eqD true) := by
  intro pins s σ H x y v u Q I rx ry hw
  obtain ⟨e, Ω, d₁, d₂, z, eH, w, i1, i2, q, kk⟩ := hw
  subst eH
  unfold eqD at q
  split at q
  · rename_i hs
    rw [Bool.and_eq_true] at hs
    cases q
    obtain ⟨as, r1⟩ := reads_of I rfl w.fh d₁ (SeqAt.canLay_of_shaped hs.1) i1 rx
    obtain ⟨bs, r2⟩ := reads_of I rfl w.fh d₂ (SeqAt.canLay_of_shaped hs.2) i2 ry
    exact ne_dataH r1 r2 hs.1 hs.2 hu ⟨.bl _, e.H, I, rfl, kk _ e (Ext.refl e) w (by rw [Is]; rfl)⟩
  · cases q
/-! ### is -/
def isNone : D → Bool
  | .non => true
  | _ => false
def othB : D → Bool
  | .non => true
  | .int _ => true
  | .tup _ => true
  | .lst _ => true
  | _ => false
def isB (neg p : Bool) : D → Option D
  | .bl q => some (.bl (if neg then !(q == p) else q == p))
  | d => if othB d then some (.bl neg) else none
@[simp] theorem isB_bl (neg p q : Bool) : isB neg p (.bl q) = some (.bl (if neg then !(q == p) else q == p)) := rfl
@[simp] theorem isB_non (neg p : Bool) : isB neg p .non = some (.bl neg) := rfl
@[simp] theorem isB_int (neg p : Bool) (i : Int) : isB neg p (.int i) = some (.bl neg) := rfl
@[simp] theorem isB_tup (neg p : Bool) (xs : List D) : isB neg p (.tup xs) = some (.bl neg) := rfl
@[simp] theorem isB_lst (neg p : Bool) (xs : List D) : isB neg p (.lst xs) = some (.bl neg) := rfl
/-! ### and, or, not, if -/
def gAndT (p q : TDen) : TDen := fun ρ Ω => match p ρ Ω with
  | some (true, Ω') => q ρ Ω'
  | some (false, Ω') => some (false, Ω')
  | none => none
def gOrT (p q : TDen) : TDen := fun ρ Ω => match p ρ Ω with
  | some (true, Ω') => some (true, Ω')
  | some (false, Ω') => q ρ Ω'
  | none => none
def gNotT (p : TDen) : TDen := fun ρ Ω => match p ρ Ω with
  | some (k, Ω') => some (!k, Ω')
  | none => none
variable {p q : TDen} {rest : List Expr}
theorem and_read {K : PySem.W.Frag} {σ : St} {H : Hp} {Q : Bool → Hp → Prop} (hw : tDT K C (gAndT p q) σ H Q) : tAnd (tDT K C p) (tDT K C q) σ H Q := by
  obtain ⟨e, Ω, ρ, k, Ω', eH, w, rl, e1, kk⟩ := hw
  unfold gAndT at e1
  cases e2 : p ρ Ω with
  | none => rw [e2] at e1; cases e1
  | some z =>
    obtain ⟨k1, Ω1⟩ := z
    rw [e2] at e1
    refine ⟨e, Ω, ρ, k1, Ω1, eH, w, rl, e2, fun e' x' w' => ?_⟩
    cases k1 with
    | true =>
      rw [if_pos rfl]
      exact ⟨e', Ω1, ρ, k, Ω', rfl, w', rl.ext x', e1, fun e'' x'' w'' => kk e'' (x'.trans x'') w''⟩
    | false =>
      rw [if_neg (by decide)]
      cases e1
      exact kk e' x' w'
theorem or_read {K : PySem.W.Frag} {σ : St} {H : Hp} {Q : Bool → Hp → Prop} (hw : tDT K C (gOrT p q) σ H Q) : tOr (tDT K C p) (tDT K C q) σ H Q := by
  obtain ⟨e, Ω, ρ, k, Ω', eH, w, rl, e1, kk⟩ := hw
  unfold gOrT at e1
  cases e2 : p ρ Ω with
  | none => rw [e2] at e1; cases e1
  | some z =>
    obtain ⟨k1, Ω1⟩ := z
    rw [e2] at e1
    refine ⟨e, Ω, ρ, k1, Ω1, eH, w, rl, e2, fun e' x' w' => ?_⟩
    cases k1 with
    | true =>
      rw [if_pos rfl]
      cases e1
      exact kk e' x' w'
    | false =>
      rw [if_neg (by decide)]
      exact ⟨e', Ω1, ρ, k, Ω', rfl, w', rl.ext x', e1, fun e'' x'' w'' => kk e'' (x'.trans x'') w''⟩
theorem pdw_and1 (ha : PDT X C a p) : PDW X C (.BoolOp .And [a] pos) p := pw_and1 ha
theorem pdw_or1 (ha : PDT X C a p) : PDW X C (.BoolOp .Or [a] pos) p := pw_or1 ha
theorem pdw_and (ha : PDT X C a p) (hb : PDW X C (.BoolOp .And (b :: rest) pos) q) : PDW X C (.BoolOp .And (a :: b :: rest) pos) (gAndT p q) := pw_imp (pw_and ha hb) fun _ _ _ h => and_read h
theorem pdw_or (ha : PDT X C a p) (hb : PDW X C (.BoolOp .Or (b :: rest) pos) q) : PDW X C (.BoolOp .Or (a :: b :: rest) pos) (gOrT p q) := pw_imp (pw_or ha hb) fun _ _ _ h => or_read h
theorem PDW.pt (h : PDW X C x p) : PDT X C x p := PW.pt h
theorem pdt_not (ha : PDT X C a p) : PDT X C (.UnaryOp .Not a pos) (gNotT p) := pt_imp (pt_not ha) fun σ H Q hw' => by
  obtain ⟨e, Ω, ρ, k, Ω', eH, w, rl, e1, kk⟩ := hw'
  unfold gNotT at e1
  cases e2 : p ρ Ω with
  | none => rw [e2] at e1; cases e1
  | some z =>
    obtain ⟨k1, Ω1⟩ := z
    rw [e2] at e1
    cases e1
    exact ⟨e, Ω, ρ, k1, _, eH, w, rl, e2, kk⟩
/-- as values: bools -/
def gAndV (f g : Den) : Den := fun ρ Ω => match f ρ Ω with
  | some (.bl true, Ω') => g ρ Ω'
  | some (.bl false, Ω') => some (.bl false, Ω')
  | _ => none
def gOrV (f g : Den) : Den := fun ρ Ω => match f ρ Ω with
  | some (.bl true, Ω') => some (.bl true, Ω')
  | some (.bl false, Ω') => g ρ Ω'
  | _ => none
def gNotV (f : Den) : Den := fun ρ Ω => match f ρ Ω with
  | some (.bl k, Ω') => some (.bl (!k), Ω')
  | _ => none
theorem pd_one {op} (h : PD X C a f) : PD X C (.BoolOp op [a] pos) f := pe_one h
theorem pd_and (ha : PD X C a f) (hb : PD X C (.BoolOp .And (b :: rest) pos) g) : PD X C (.BoolOp .And (a :: b :: rest) pos) (gAndV f g) := pe_imp (pe_and ha hb) fun σ H Q hw' => by
  obtain ⟨e, Ω, ρ, d, Ω', eH, w, rl, e1, kk⟩ := hw'
  unfold gAndV at e1
  cases e2 : f ρ Ω with
  | none => rw [e2] at e1; cases e1
  | some z =>
    obtain ⟨d1, Ω1⟩ := z
    rw [e2] at e1
    refine ⟨e, Ω, ρ, d1, Ω1, eH, w, rl, e2, fun v e' x' w' i' => ?_⟩
    cases d1 with
    | bl k1 =>
      rw [Is] at i'
      refine ⟨k1, i', ?_⟩
      cases k1 with
      | true =>
        rw [if_pos rfl]
        exact ⟨e', Ω1, ρ, d, Ω', rfl, w', rl.ext x', e1, fun v e'' x'' w'' => kk v e'' (x'.trans x'') w''⟩
      | false =>
        rw [if_neg (by decide)]
        cases e1
        exact kk _ e' x' w' (by rw [Is])
    | _ => cases e1
theorem pd_or (ha : PD X C a f) (hb : PD X C (.BoolOp .Or (b :: rest) pos) g) : PD X C (.BoolOp .Or (a :: b :: rest) pos) (gOrV f g) := pe_imp (pe_or ha hb) fun σ H Q hw' => by
  obtain ⟨e, Ω, ρ, d, Ω', eH, w, rl, e1, kk⟩ := hw'
  unfold gOrV at e1
  cases e2 : f ρ Ω with
  | none => rw [e2] at e1; cases e1
  | some z =>
    obtain ⟨d1, Ω1⟩ := z
    rw [e2] at e1
    refine ⟨e, Ω, ρ, d1, Ω1, eH, w, rl, e2, fun v e' x' w' i' => ?_⟩
    cases d1 with
    | bl k1 =>
      rw [Is] at i'
      refine ⟨k1, i', ?_⟩
      cases k1 with
      | true =>
        rw [if_pos rfl]
        cases e1
        exact kk _ e' x' w' (by rw [Is])
      | false =>
        rw [if_neg (by decide)]
        exact ⟨e', Ω1, ρ, d, Ω', rfl, w', rl.ext x', e1, fun v e'' x'' w'' => kk v e'' (x'.trans x'') w''⟩
    | _ => cases e1
theorem pd_not (ha : PD X C a f) : PD X C (.UnaryOp .Not a pos) (gNotV f) := pe_imp (pe_not ha) fun σ H Q hw' => by
  obtain ⟨e, Ω, ρ, d, Ω', eH, w, rl, e1, kk⟩ := hw'
  unfold gNotV at e1
  cases e2 : f ρ Ω with
  | none => rw [e2] at e1; cases e1
  | some z =>
    obtain ⟨d1, Ω1⟩ := z
    rw [e2] at e1
    refine ⟨e, Ω, ρ, d1, Ω1, eH, w, rl, e2, fun v e' x' w' i' => ?_⟩
    cases d1 with
    | bl k1 =>
      rw [Is] at i'
      cases e1
      exact ⟨k1, i', kk _ e' x' w' (by rw [Is])⟩
    | _ => cases e1
def gIf (p : TDen) (f g : Den) : Den := fun ρ Ω => match p ρ Ω with
  | some (true, Ω') => f ρ Ω'
  | some (false, Ω') => g ρ Ω'
  | none => none
theorem pd_if (hc : PDT X C c p) (ha : PD X C a f) (hb : PD X C b g) : PD X C (.IfExp c a b pos) (gIf p f g) := pe_imp (pe_ifExp hc ha hb) fun σ H Q hw' => by
  obtain ⟨e, Ω, ρ, d, Ω', eH, w, rl, e1, kk⟩ := hw'
  unfold gIf at e1
  cases e2 : p ρ Ω with
  | none => rw [e2] at e1; cases e1
  | some z =>
    obtain ⟨k1, Ω1⟩ := z
    rw [e2] at e1
    refine ⟨e, Ω, ρ, k1, Ω1, eH, w, rl, e2, fun e' x' w' => ?_⟩
    cases k1 with
    | true =>
      rw [if_pos rfl]
      exact ⟨e', Ω1, ρ, d, Ω', rfl, w', rl.ext x', e1, fun v e'' x'' w'' => kk v e'' (x'.trans x'') w''⟩
    | false =>
      rw [if_neg (by decide)]
      exact ⟨e', Ω1, ρ, d, Ω', rfl, w', rl.ext x', e1, fun v e'' x'' w'' => kk v e'' (x'.trans x'') w''⟩
end
end DL
set_option Elab.async false
set_option linter.all false
set_option maxRecDepth 100000
namespace DL
open PySem PySem.Spec PyProof.Rows L2

section
variable {X : Cx} {C : Cl} {a b c x : Expr} {es : List Expr} {f g h : Den} {ga : ADen} {pos : Pos}
/-! ### argument lists, displays -/
def gNil : ADen := fun _ Ω => some ([], Ω)
def gCons (f : Den) (g : ADen) : ADen := fun ρ Ω => match f ρ Ω with
  | some (d, Ω1) => match g ρ Ω1 with
    | some (ds, Ω2) => some (d :: ds, Ω2)
    | none => none
  | none => none
theorem pda_nil : PDA X C [] gNil := pa_imp pa_nil fun σ H Q hw' => by
  obtain ⟨e, Ω, ρ, ds, Ω', eH, w, rl, e1, kk⟩ := hw'
  subst eH
  cases e1
  exact kk [] e (Ext.refl e) w .nil
theorem pda_cons (ha : PD X C x f) (hr : PDA X C es ga) (hs : starEach (x :: es) X.env = (false, eval x X.env) :: starEach es X.env := by rfl) : PDA X C (x :: es) (gCons f ga) :=
  pa_imp (pa_cons ha hr hs) fun σ H Q hw' => by
    obtain ⟨e, Ω, ρ, ds, Ω', eH, w, rl, e1, kk⟩ := hw'
    unfold gCons at e1
    cases q1 : f ρ Ω with
    | none => rw [q1] at e1; cases e1
    | some p1 =>
      obtain ⟨d, Ω1⟩ := p1
      rw [q1] at e1
      dsimp only at e1
      cases q2 : ga ρ Ω1 with
      | none => rw [q2] at e1; cases e1
      | some p2 =>
        obtain ⟨ds', Ω2⟩ := p2
        rw [q2] at e1
        cases e1
        refine ⟨e, Ω, ρ, d, Ω1, eH, w, rl, q1, fun v e' x' w' i' => ?_⟩
        exact ⟨e', Ω1, ρ, ds', _, rfl, w', rl.ext x', q2, fun vs e'' x'' w'' i'' => kk _ e'' (x'.trans x'') w'' (.cons (i'.ext x'') i'')⟩
def gTup (g : ADen) : Den := fun ρ Ω => match g ρ Ω with
  | some (ds, Ω') => if ds.length ≤ big then some (.tup ds, Ω') else none
  | none => none
def gLst (g : ADen) : Den := fun ρ Ω => match g ρ Ω with
  | some (ds, Ω') => if ds.length ≤ big then some (.lst ds, Ω') else none
  | none => none
theorem pd_tup {x1} (ha : PDA X C es ga) : PD X C (.Tuple es x1 pos) (gTup ga) := pe_imp (pe_tup ha) fun σ H Q hw' => by
  obtain ⟨e, Ω, ρ, d, Ω', eH, w, rl, e1, kk⟩ := hw'
  unfold gTup at e1
  cases q1 : ga ρ Ω with
  | none => rw [q1] at e1; cases e1
  | some p1 =>
    obtain ⟨ds, Ω1⟩ := p1
    rw [q1] at e1
    dsimp only at e1
    split at e1
    · rename_i hl
      cases e1
      refine ⟨e, Ω, ρ, ds, _, eH, w, rl, q1, fun vs e' x' w' i' => ⟨by rw [← i'.length]; exact big_line hl, fun p hp => ?_⟩⟩
      refine kk _ (e'.new p (.tup vs)) (x'.trans (w'.new_ext hp)) (w'.new hp) ?_
      rw [Is]
      exact ⟨p, vs, rfl, upd_same, i'.ext (w'.new_ext hp)⟩
    · cases e1
theorem pd_lst (ha : PDA X C es ga) : PD X C (.List es pos) (gLst ga) := pe_imp (pe_lst ha) fun σ H Q hw' => by
  obtain ⟨e, Ω, ρ, d, Ω', eH, w, rl, e1, kk⟩ := hw'
  unfold gLst at e1
  cases q1 : ga ρ Ω with
  | none => rw [q1] at e1; cases e1
  | some p1 =>
    obtain ⟨ds, Ω1⟩ := p1
    rw [q1] at e1
    dsimp only at e1
    split at e1
    · rename_i hl
      cases e1
      refine ⟨e, Ω, ρ, ds, _, eH, w, rl, q1, fun vs e' x' w' i' => ⟨by rw [← i'.length]; exact big_line hl, fun p hp => ?_⟩⟩
      refine kk _ (e'.new p (.lst vs)) (x'.trans (w'.new_ext hp)) (w'.new hp) ?_
      rw [Is]
      exact ⟨p, vs, rfl, upd_same, i'.ext (w'.new_ext hp)⟩
    · cases e1

/-! ### a[i] -/
def ixD : D → D → Option D
  | .lst xs, .int i => atI xs i
  | .tup xs, .int i => atI xs i
  | .scr ns, .int i => (atI ns i).map D.int
  | .str z, .int i => if z.length ≤ big then (atI z.cps.toList i).map fun c => D.str ⟨#[c]⟩ else none
  | _, _ => none
theorem atI_is {K : PySem.W.Frag} {α : List Addr} {F : Hp} {ds : List D} {vs : List V} {i : Int} {d : D} (r : IsL K α F ds vs) (h : atI ds i = some d) : ∃ v, atI vs i = some v ∧ Is K α F d v := by
  unfold atI at h ⊢
  rw [← r.length]
  cases q : ixN ds.length i with
  | none => rw [q] at h; cases h
  | some j =>
    rw [q] at h
    exact r.get h
theorem ixD_read {K : PySem.W.Frag} : ∀ x y H Q, (∃ e Ω d₁ d₂ z, e.H = H ∧ Wf K C e Ω ∧ Is K e.α e.F d₁ x ∧ Is K e.α e.F d₂ y ∧ ixD d₁ d₂ = some z ∧ ∀ v e', Ext e e' → Wf K C e' Ω → Is K e'.α e'.F z v → Q v e'.H) → rIx K x y H Q := by
  rintro x y H Q ⟨e, Ω, d₁, d₂, z, eH, w, i1, i2, q, kk⟩
  subst eH
  unfold ixD at q
  cases d₁ <;> cases d₂ <;> first | cases q | skip
  · rename_i zz i
    dsimp only at q
    simp only [Is] at i1 i2
    subst i1 i2
    split at q
    · rename_i hl
      cases e2 : atI zz.cps.toList i with
      | none => rw [e2] at q; cases q
      | some c =>
        rw [e2] at q
        cases q
        exact .inr (.inr ⟨zz, i, c, rfl, rfl, big_line hl, e2, kk _ e (Ext.refl e) w (by rw [Is])⟩)
    · cases q
  · rename_i xs i
    simp only [Is] at i1 i2
    obtain ⟨p, vs, rfl, h1, r1⟩ := i1
    subst i2
    obtain ⟨v, e1, i3⟩ := atI_is r1 q
    exact .inr (.inl ⟨p, vs, i, v, rfl, rfl, SqT.of (w.fh _ _ h1), e1, kk v e (Ext.refl e) w i3⟩)
  · rename_i xs i
    simp only [Is] at i1 i2
    obtain ⟨p, vs, rfl, h1, r1⟩ := i1
    subst i2
    obtain ⟨v, e1, i3⟩ := atI_is r1 q
    exact .inl ⟨p, vs, i, v, rfl, rfl, SqL.of (w.fh _ _ h1), e1, kk v e (Ext.refl e) w i3⟩
  · rename_i ns i
    simp only [Is] at i1 i2
    obtain ⟨p, rfl, h1⟩ := i1
    subst i2
    dsimp only at q
    cases e2 : atI ns i with
    | none => rw [e2] at q; cases q
    | some n =>
      rw [e2] at q
      cases q
      refine .inl ⟨p, ns.map V.int, i, .int n, rfl, rfl, w.fh.seq h1, ?_, kk _ e (Ext.refl e) w (by rw [Is])⟩
      unfold atI at e2 ⊢
      rw [List.length_map]
      cases e3 : ixN ns.length i with
      | none => rw [e3] at e2; cases e2
      | some j =>
        rw [e3] at e2
        show (ns.map V.int)[j]? = _
        rw [List.getElem?_map, show ns[j]? = some n from e2]
        rfl
theorem pd_ix (ha : PD X C a f) (hb : PD X C b g) (hs : PlainIx b := by intro _ _; rfl) : PD X C (.Subscript a b pos) (gOp ixD f g) :=
  pe_imp (pe_ix ix_seq ha hb hs) fun σ H Q hw => op_read ixD_read hw

/-! ### a[lo:hi] -/
abbrev PDen := List Sl → List OS → Option (Option Int × List OS)
def gNoPart : PDen := fun _ Ω => some (none, Ω)
def gPart (g : Den) : PDen := fun ρ Ω => match g ρ Ω with
  | some (.int i, Ω') => some (some i, Ω')
  | _ => none
def tDO (K : PySem.W.Frag) (C : Cl) (g : PDen) : TO := fun σ H Q => ∃ e Ω ρ o Ω', e.H = H ∧ Wf K C e Ω ∧ RelE K e σ ρ ∧ g ρ Ω = some (o, Ω') ∧ ∀ e', Ext e e' → Wf K C e' Ω' → Q o e'.H
def PDO (X : Cx) (C : Cl) (e : Option Expr) (g : PDen) : Prop := PO X e (tDO X.K C g)
theorem po_imp {o : Option Expr} {t t' : TO} (h : PO X o t) (i : ∀ σ H Q, t' σ H Q → t σ H Q) : PO X o t' := fun pins s σ H Q I hw => h pins s σ H Q I (i σ H Q hw)
theorem pdo_none : PDO X C none gNoPart := po_imp po_none fun σ H Q hw' => by
  obtain ⟨e, Ω, ρ, o, Ω', eH, w, rl, e1, kk⟩ := hw'
  subst eH
  cases e1
  exact kk e (Ext.refl e) w
theorem pdo_some (h : PD X C x g) : PDO X C (some x) (gPart g) := po_imp (po_some h) fun σ H Q hw' => by
  obtain ⟨e, Ω, ρ, o, Ω', eH, w, rl, e1, kk⟩ := hw'
  unfold gPart at e1
  cases q1 : g ρ Ω with
  | none => rw [q1] at e1; cases e1
  | some p1 =>
    obtain ⟨d, Ω1⟩ := p1
    rw [q1] at e1
    cases d with
    | int i =>
      cases e1
      refine ⟨e, Ω, ρ, _, _, eH, w, rl, q1, fun v e' x' w' i' => ?_⟩
      rw [Is] at i'
      exact ⟨i, i', kk e' x' w'⟩
    | _ => cases e1
def cutL {β : Type} (xs : List β) (lo hi : Option Int) : List β := (xs.drop (HT.sIx xs.length 0 lo)).take (HT.sIx xs.length xs.length hi - HT.sIx xs.length 0 lo)
def slD : D → Option Int → Option Int → Option D
  | .lst xs, lo, hi => some (.lst (cutL xs lo hi))
  | .scr ns, lo, hi => some (.lst ((cutL ns lo hi).map D.int))
  | _, _, _ => none
def gSl (f : Den) (lo hi : PDen) : Den := fun ρ Ω => match f ρ Ω with
  | some (d, Ω1) => match lo ρ Ω1 with
    | some (l, Ω2) => match hi ρ Ω2 with
      | some (u, Ω3) => match slD d l u with
        | some z => some (z, Ω3)
        | none => none
      | none => none
    | none => none
  | none => none
theorem pd_sl {lo hi : Option Expr} {gl gh : PDen} {p2 : Pos} (ha : PD X C a f) (hl : PDO X C lo gl) (hh : PDO X C hi gh) : PD X C (.Subscript a (.Slice lo hi none p2) pos) (gSl f gl gh) :=
  pe_imp (pe_slice sl_list ha hl hh) fun σ H Q hw' => by
    obtain ⟨e, Ω, ρ, d, Ω', eH, w, rl, e1, kk⟩ := hw'
    unfold gSl at e1
    cases q1 : f ρ Ω with
    | none => rw [q1] at e1; cases e1
    | some p1 =>
      obtain ⟨d1, Ω1⟩ := p1
      rw [q1] at e1
      dsimp only at e1
      cases q2 : gl ρ Ω1 with
      | none => rw [q2] at e1; cases e1
      | some p2 =>
        obtain ⟨l, Ω2⟩ := p2
        rw [q2] at e1
        dsimp only at e1
        cases q3 : gh ρ Ω2 with
        | none => rw [q3] at e1; cases e1
        | some p3 =>
          obtain ⟨u, Ω3⟩ := p3
          rw [q3] at e1
          dsimp only at e1
          cases q4 : slD d1 l u with
          | none => rw [q4] at e1; cases e1
          | some z =>
            rw [q4] at e1
            cases e1
            refine ⟨e, Ω, ρ, d1, Ω1, eH, w, rl, q1, fun v e' x' w' i' => ?_⟩
            refine ⟨e', Ω1, ρ, l, Ω2, rfl, w', rl.ext x', q2, fun e2 x2 w2 => ?_⟩
            refine ⟨e2, Ω2, ρ, u, _, rfl, w2, (rl.ext x').ext x2, q3, fun e3 x3 w3 => ?_⟩
            have i3 := i'.ext (x2.trans x3)
            unfold slD at q4
            cases d1 with
            | lst xs =>
              cases q4
              rw [Is] at i3
              obtain ⟨p, vs, rfl, h1, r1⟩ := i3
              refine ⟨p, vs, rfl, SqL.of (w3.fh _ _ h1), fun p' hp => ?_⟩
              refine kk _ (e3.new p' _) (((x'.trans x2).trans x3).trans (w3.new_ext hp)) (w3.new hp) ?_
              rw [Is]
              refine ⟨p', _, rfl, upd_same, ?_⟩
              unfold cutL cutV
              rw [← r1.length]
              exact ((r1.drop _).take _).ext (w3.new_ext hp)
            | scr ns =>
              cases q4
              rw [Is] at i3
              obtain ⟨p, rfl, h1⟩ := i3
              refine ⟨p, _, rfl, w3.fh.seq h1, fun p' hp => ?_⟩
              refine kk _ (e3.new p' _) (((x'.trans x2).trans x3).trans (w3.new_ext hp)) (w3.new hp) ?_
              rw [Is]
              refine ⟨p', _, rfl, upd_same, ?_⟩
              unfold cutL cutV
              rw [List.length_map, List.map_take, List.map_drop]
              exact (((IsL.ints ns).drop _).take _)
            | _ => cases q4

/-! ### calls of built-ins -/
def CallD (X : Cx) (C : Cl) (f : Value) (r : List D → Option D) : Prop :=
  CallR X f fun xs H Q => ∃ e Ω ds z, e.H = H ∧ Wf X.K C e Ω ∧ IsL X.K e.α e.F ds xs ∧ r ds = some z ∧ ∀ v e', Ext e e' → Wf X.K C e' Ω → Is X.K e'.α e'.F z v → Q v e'.H
def gCB (r : List D → Option D) (g : ADen) : Den := fun ρ Ω => match g ρ Ω with
  | some (ds, Ω1) => match r ds with
    | some z => some (z, Ω1)
    | none => none
  | none => none
theorem cb_read {K : PySem.W.Frag} {r : List D → Option D} {σ : St} {H : Hp} {Q : VK} (hw : tD K C (gCB r ga) σ H Q) :
    tCB (fun xs H Q => ∃ e Ω ds z, e.H = H ∧ Wf K C e Ω ∧ IsL K e.α e.F ds xs ∧ r ds = some z ∧ ∀ v e', Ext e e' → Wf K C e' Ω → Is K e'.α e'.F z v → Q v e'.H) (tDA K C ga) σ H Q := by
  obtain ⟨e, Ω, ρ, d, Ω', eH, w, rl, e1, kk⟩ := hw
  unfold gCB at e1
  cases q1 : ga ρ Ω with
  | none => rw [q1] at e1; cases e1
  | some p1 =>
    obtain ⟨ds, Ω1⟩ := p1
    rw [q1] at e1
    dsimp only at e1
    cases q2 : r ds with
    | none => rw [q2] at e1; cases e1
    | some z =>
      rw [q2] at e1
      cases e1
      exact ⟨e, Ω, ρ, ds, _, eH, w, rl, q1, fun vs e' x' w' i' => ⟨e', _, ds, _, rfl, w', i', q2, fun v e'' x'' w'' => kk v e'' (x'.trans x'') w''⟩⟩
theorem pd_callB {id : String} {n : Str} {p : Pos} {r : List D → Option D} (hc : CallD X C (.builtin id) r) (hg : Gl X n) (hm : X.mg n = none) (hv : bootBuiltins n = some (.builtin id)) (ha : PDA X C (x :: es) ga) (hn : n ≠ "__name__" := by decide) (hdb : (n == ("__debug__" : Str)) = false := by decide)
    (he : starEach (x :: es) X.env = (false, eval x X.env) :: starEach es X.env := by rfl) (hpl : (backTo pos (starEach es X.env)).any (·.1) = false := by rfl) : PD X C (.Call (.Name n p) (x :: es) [] pos) (gCB r ga) :=
  pe_imp (pe_callB hc hg hm hv ha hn hdb he hpl) fun _ _ _ hw => cb_read hw
theorem pd_callTy {T : String} {n : Str} {p : Pos} {r : List D → Option D} (hc : CallD X C (.type T) r) (hg : Gl X n) (hm : X.mg n = none) (hv : bootBuiltins n = some (.type T)) (ha : PDA X C (x :: es) ga) (hn : n ≠ "__name__" := by decide) (hdb : (n == ("__debug__" : Str)) = false := by decide)
    (he : starEach (x :: es) X.env = (false, eval x X.env) :: starEach es X.env := by rfl) (hpl : (backTo pos (starEach es X.env)).any (·.1) = false := by rfl) : PD X C (.Call (.Name n p) (x :: es) [] pos) (gCB r ga) :=
  pe_imp (pe_callTy hc hg hm hv ha hn hdb he hpl) fun _ _ _ hw => cb_read hw
theorem isL_one {K : PySem.W.Frag} {α : List Addr} {F : Hp} {d : D} {vs : List V} (h : IsL K α F [d] vs) : ∃ v, vs = [v] ∧ Is K α F d v := by
  obtain ⟨v, r, rfl, i, t⟩ := h.of_cons
  rw [t.of_nil]
  exact ⟨v, rfl, i⟩
theorem isL_two {K : PySem.W.Frag} {α : List Addr} {F : Hp} {d d' : D} {vs : List V} (h : IsL K α F [d, d'] vs) : ∃ v u, vs = [v, u] ∧ Is K α F d v ∧ Is K α F d' u := by
  obtain ⟨v, r, rfl, i, t⟩ := h.of_cons
  obtain ⟨u, rfl, i2⟩ := isL_one t
  exact ⟨v, u, rfl, i, i2⟩
def lenD : List D → Option D
  | [.lst xs] => some (.int xs.length)
  | [.tup xs] => some (.int xs.length)
  | [.scr ns] => some (.int ns.length)
  | [.str z] => if z.length ≤ big then some (.int z.length) else none
  | _ => none
theorem callD_len : CallD X C (.builtin "len") lenD := by
  intro pins s σ H xs us Q I r hw
  obtain ⟨e, Ω, ds, z, eH, w, i, q, kk⟩ := hw
  subst eH
  match ds, q with
  | [.lst ys], q =>
    obtain ⟨v, rfl, iv⟩ := isL_one i
    rw [Is] at iv
    obtain ⟨p, vs, rfl, h1, r1⟩ := iv
    cases q
    exact call_len_seq pins s σ _ _ us Q I r ⟨p, vs, rfl, .inl (SqL.of (w.fh _ _ h1)), kk _ e (Ext.refl e) w (by rw [Is, r1.length])⟩
  | [.tup ys], q =>
    obtain ⟨v, rfl, iv⟩ := isL_one i
    rw [Is] at iv
    obtain ⟨p, vs, rfl, h1, r1⟩ := iv
    cases q
    exact call_len_seq pins s σ _ _ us Q I r ⟨p, vs, rfl, .inr (SqT.of (w.fh _ _ h1)), kk _ e (Ext.refl e) w (by rw [Is, r1.length])⟩
  | [.scr ns], q =>
    obtain ⟨v, rfl, iv⟩ := isL_one i
    rw [Is] at iv
    obtain ⟨p, rfl, h1⟩ := iv
    cases q
    exact call_len_seq pins s σ _ _ us Q I r ⟨p, _, rfl, .inl (w.fh.seq h1), kk _ e (Ext.refl e) w (by rw [Is, List.length_map])⟩
  | [.str zz], q =>
    obtain ⟨v, rfl, iv⟩ := isL_one i
    rw [Is] at iv
    subst iv
    have q : (if zz.length ≤ big then some (D.int zz.length) else none) = some z := q
    split at q
    · rename_i hl
      cases q
      exact call_len_str pins s σ _ _ us Q I r ⟨zz, rfl, big_line hl, kk _ e (Ext.refl e) w (by rw [Is])⟩
    · cases q
def max2D : List D → Option D
  | [.int i, .int j] => some (.int (if j > i then j else i))
  | _ => none
theorem callD_max (hc : X.calm = true) : CallD X C (.builtin "max") max2D := by
  intro pins s σ H xs us Q I r hw
  obtain ⟨e, Ω, ds, z, eH, w, i, q, kk⟩ := hw
  subst eH
  match ds, q with
  | [.int k, .int j], q =>
    obtain ⟨v, u, rfl, i1, i2⟩ := isL_two i
    simp only [Is] at i1 i2
    subst i1 i2
    cases q
    exact call_max2 hc pins s σ _ _ us Q I r ⟨k, j, rfl, kk _ e (Ext.refl e) w (by rw [Is])⟩
def int1D : List D → Option D
  | [.int i] => some (.int i)
  | [.bl k] => some (.int (if k then 1 else 0))
  | _ => none
theorem callD_int : CallD X C (.type "int") int1D := by
  intro pins s σ H xs us Q I r hw
  obtain ⟨e, Ω, ds, z, eH, w, i, q, kk⟩ := hw
  subst eH
  match ds, q with
  | [.int k], q =>
    obtain ⟨v, rfl, iv⟩ := isL_one i
    rw [Is] at iv
    subst iv
    cases q
    exact call_int1 pins s σ _ _ us Q I r (.inl ⟨k, rfl, kk _ e (Ext.refl e) w (by rw [Is])⟩)
  | [.bl k], q =>
    obtain ⟨v, rfl, iv⟩ := isL_one i
    rw [Is] at iv
    subst iv
    cases q
    exact call_int1 pins s σ _ _ us Q I r (.inr ⟨k, rfl, kk _ e (Ext.refl e) w (by rw [Is])⟩)
noncomputable def str1D : List D → Option D
  | [.int i] => grd (i.natAbs.log2 < 1920) (some (.str (toString i)))
  | _ => none
theorem callD_str : CallD X C (.type "str") str1D := by
  intro pins s σ H xs us Q I r hw
  obtain ⟨e, Ω, ds, z, eH, w, i, q, kk⟩ := hw
  subst eH
  match ds, q with
  | [.int k], q =>
    obtain ⟨v, rfl, iv⟩ := isL_one i
    rw [Is] at iv
    subst iv
    obtain ⟨hl, q⟩ := grd_some (show grd (k.natAbs.log2 < 1920) (some (D.str (toString k))) = some z from q)
    cases q
    exact call_str_int pins s σ _ _ us Q I r ⟨k, rfl, hl, kk _ e (Ext.refl e) w (by rw [Is])⟩
end
end DL
set_option Elab.async false
set_option linter.all false
set_option maxRecDepth 100000
namespace DL
open PySem PySem.Spec PyProof.Rows L2

/-! ### blocks -/
inductive Out where
  | nx (ρ : List Sl) (Ω : List OS) | rt (d : D) (Ω : List OS) | bk (ρ : List Sl) (Ω : List OS) | ct (ρ : List Sl) (Ω : List OS)
abbrev SDen := List Sl → List OS → Option Out
structure RelS (K : PySem.W.Frag) (C : Cl) (e₀ e : E4) (Ω : List OS) (σ : St) (ρ : List Sl) : Prop where
  wf : Wf K C e Ω
  rel : RelE K e σ ρ
  ext : Ext e₀ e
  fresh : ∀ (i : Nat) (ds : List D) (a : Addr), ρ[i]? = some (.own ds) → σ[i]? = some (some (.ref a)) → e₀.H a = none
def OutOk (K : PySem.W.Frag) (C : Cl) (e₀ : E4) (Dn : Ends) : Out → Prop
  | .nx ρ Ω => ∀ e σ, RelS K C e₀ e Ω σ ρ → Dn.nx σ e.H
  | .bk ρ Ω => ∀ e σ, RelS K C e₀ e Ω σ ρ → Dn.bk σ e.H
  | .ct ρ Ω => ∀ e σ, RelS K C e₀ e Ω σ ρ → Dn.ct σ e.H
  | .rt d Ω => ∀ e v, Ext e₀ e → Wf K C e Ω → Is K e.α e.F d v → Dn.rt v e.H
def tDS (K : PySem.W.Frag) (C : Cl) (e₀ : E4) (g : SDen) : TS := fun Dn σ H => ∃ e Ω ρ o, e.H = H ∧ RelS K C e₀ e Ω σ ρ ∧ g ρ Ω = some o ∧ OutOk K C e₀ Dn o
def PDS (X : Cx) (C : Cl) (st : Stmt) (g : SDen) : Prop := ∀ e₀, PS X st (tDS X.K C e₀ g)
def PDB (X : Cx) (C : Cl) (st : List Stmt) (g : SDen) : Prop := ∀ e₀, PSs X st (tDS X.K C e₀ g)
section
variable {K : PySem.W.Frag} {C : Cl} {e₀ e e' : E4} {Ω Ω' : List OS} {σ : St} {ρ : List Sl}
theorem RelS.to (r : RelS K C e₀ e Ω σ ρ) (x : Ext e e') (w : Wf K C e' Ω') : RelS K C e₀ e' Ω' σ ρ := ⟨w, r.rel.ext x, r.ext.trans x, r.fresh⟩
theorem set_own_ne {i j : Nat} {d : D} {ds : List D} (h : (ρ.set i (.dat d))[j]? = some (.own ds)) : i ≠ j := fun e1 => by
  subst e1
  have hl : i < ρ.length := by
    have := (List.getElem?_eq_some_iff.mp h).1
    simpa using this
  rw [List.getElem?_set_self hl] at h
  cases h
theorem RelS.set (r : RelS K C e₀ e Ω σ ρ) (i : Nat) {d : D} {v : V} (h : Is K e.α e.F d v) : RelS K C e₀ e Ω (σ.set i (some v)) (ρ.set i (.dat d)) :=
  ⟨r.wf, r.rel.set i h, r.ext, fun j ds a h1 h2 => by
    have n := set_own_ne h1
    rw [List.getElem?_set_ne n] at h1 h2
    exact r.fresh j ds a h1 h2⟩
end
section
variable {X : Cx} {C : Cl} {a b c x : Expr} {f g : Den} {p : TDen} {st : Stmt} {rest sts sts' : List Stmt} {s t : SDen} {pos : Pos}
def sNext : SDen := fun ρ Ω => some (.nx ρ Ω)
def sSeq (s t : SDen) : SDen := fun ρ Ω => match s ρ Ω with
  | some (.nx ρ' Ω') => t ρ' Ω'
  | r => r
theorem pdb_nil : PDB X C [] sNext := fun e₀ => pss_imp pss_nil fun Dn σ H hw' => by
  obtain ⟨e, Ω, ρ, o, eH, r, q, k⟩ := hw'
  subst eH
  cases q
  exact k e σ r
theorem pdb_cons (h1 : PDS X C st s) (h2 : PDB X C rest t) : PDB X C (st :: rest) (sSeq s t) := fun e₀ => pss_imp (pss_cons (h1 e₀) (h2 e₀)) fun Dn σ H hw' => by
  obtain ⟨e, Ω, ρ, o, eH, r, q, k⟩ := hw'
  unfold sSeq at q
  cases q1 : s ρ Ω with
  | none => rw [q1] at q; cases q
  | some o1 =>
    rw [q1] at q
    refine ⟨e, Ω, ρ, o1, eH, r, q1, ?_⟩
    cases o1 with
    | nx ρ' Ω' => exact fun e' σ' r' => ⟨e', Ω', ρ', o, rfl, r', q, k⟩
    | rt d Ω' => cases q; exact k
    | bk ρ' Ω' => cases q; exact k
    | ct ρ' Ω' => cases q; exact k
theorem pdb_one (h1 : PDS X C st s) : PDB X C [st] s := fun e₀ => pss_one (h1 e₀)
/-- what is known is forgotten or turned, between two statements -/
def sGhost (γ : List Sl → Option (List Sl)) (s : SDen) : SDen := fun ρ Ω => match γ ρ with
  | some ρ' => s ρ' Ω
  | none => none
def Ghost (γ : List Sl → Option (List Sl)) : Prop := ∀ (K : PySem.W.Frag) (C : Cl) (e₀ e : E4) (Ω : List OS) (σ : St) (ρ ρ' : List Sl), γ ρ = some ρ' → RelS K C e₀ e Ω σ ρ → ∃ e', e'.H = e.H ∧ RelS K C e₀ e' Ω σ ρ'
theorem pdb_ghost {γ : List Sl → Option (List Sl)} (hγ : Ghost γ) (h : PDB X C sts s) : PDB X C sts (sGhost γ s) := fun e₀ => pss_imp (h e₀) fun Dn σ H hw' => by
  obtain ⟨e, Ω, ρ, o, eH, r, q, k⟩ := hw'
  unfold sGhost at q
  cases q1 : γ ρ with
  | none => rw [q1] at q; cases q
  | some ρ' =>
    rw [q1] at q
    obtain ⟨e', he, r'⟩ := hγ _ _ _ _ _ _ _ _ q1 r
    exact ⟨e', Ω, ρ', o, he.trans eH, r', q, k⟩
/-- a list of one's own is changed no more -/
def frz (i : Nat) : List Sl → Option (List Sl) := fun ρ => match ρ[i]? with
  | some (.own ds) => some (ρ.set i (.dat (.lst ds)))
  | _ => some ρ
theorem ghost_frz (i : Nat) : Ghost (frz i) := by
  intro K C e₀ e Ω σ ρ ρ' h r
  unfold frz at h
  cases q : ρ[i]? with
  | none => rw [q] at h; cases h; exact ⟨e, rfl, r⟩
  | some sl =>
    rw [q] at h
    cases sl with
    | und => cases h; exact ⟨e, rfl, r⟩
    | dat d => cases h; exact ⟨e, rfl, r⟩
    | own ds =>
      cases h
      obtain ⟨a, vs, e1, e2, i1, n1, n2⟩ := r.rel.own i ds q
      have h0 := r.fresh i ds a q e1
      have ff : Same e.F (upd e.F a (.lst vs)) := fun b o hb => by rw [upd_ne (ne_of_none hb n1)]; exact hb
      have fh : Same (upd e.F a (.lst vs)) e.H := fun b o hb => by
        by_cases hba : b = a
        · subst hba; rw [upd_same] at hb; cases hb; exact e2
        · rw [upd_ne hba] at hb; exact r.wf.fh b o hb
      have fn : ∀ b o, (upd e.F a (.lst vs)) b = some o → e.F b = some o ∨ b = a := fun b o hb => by
        by_cases hba : b = a
        · exact .inr hba
        · rw [upd_ne hba] at hb; exact .inl hb
      refine ⟨⟨e.α, upd e.F a (.lst vs), e.A, e.H⟩, rfl, ⟨fh, fun b hb => ?_, r.wf.ah, r.wf.ol, r.wf.nd, fun n b o h1 h2 => ⟨(r.wf.ob n b o h1 h2).1, (r.wf.ob n b o h1 h2).2.keep (fun u hu => hu) ff ⟨[], by simp⟩⟩⟩, ⟨by simp [r.rel.len], fun j d hj => ?_, fun j es hj => ?_, fun j k ds' es b hj hk hj' hk' => ?_⟩, ⟨r.ext.fz, r.ext.hk, r.ext.dm, r.ext.ff.trans ff, fun b o hb => ?_, r.ext.an, r.ext.aa, r.ext.al⟩, fun j es b hj hj' => ?_⟩
      · show upd e.F a _ b = none
        rw [upd_ne (fun z => n2 (by rw [← z]; exact hb))]
        exact r.wf.fa b hb
      · by_cases e3 : i = j
        · subst e3
          have hl : i < ρ.length := (List.getElem?_eq_some_iff.mp q).1
          rw [List.getElem?_set_self hl] at hj
          cases hj
          refine ⟨.ref a, e1, ?_⟩
          rw [Is]
          exact ⟨a, vs, rfl, upd_same, IsL.mono ff ⟨[], by simp⟩ ds i1⟩
        · rw [List.getElem?_set_ne e3] at hj
          obtain ⟨v, z1, z2⟩ := r.rel.dat j d hj
          exact ⟨v, z1, Is.mono ff ⟨[], by simp⟩ d z2⟩
      · have n := set_own_ne hj
        rw [List.getElem?_set_ne n] at hj
        obtain ⟨a', vs', z1, z2, z3, z4, z5⟩ := r.rel.own j es hj
        have na : a' ≠ a := fun z => n (r.rel.sep i j ds es a q hj e1 (by rw [← z]; exact z1))
        exact ⟨a', vs', z1, z2, IsL.mono ff ⟨[], by simp⟩ es z3, by show upd e.F a _ a' = none; rw [upd_ne na]; exact z4, z5⟩
      · have n := set_own_ne hj
        have n' := set_own_ne hk
        rw [List.getElem?_set_ne n] at hj
        rw [List.getElem?_set_ne n'] at hk
        exact r.rel.sep j k ds' es b hj hk hj' hk'
      · rcases fn b o hb with z | z
        · exact r.ext.fn b o z
        · subst z; exact .inr (.inl h0)
      · have n := set_own_ne hj
        rw [List.getElem?_set_ne n] at hj
        exact r.fresh j es b hj hj'

/-! ### statements -/
def sSet (i : Nat) (g : Den) : SDen := fun ρ Ω => match g ρ Ω with
  | some (d, Ω') => some (.nx (ρ.set i (.dat d)) Ω')
  | none => none
theorem set_read {K : PySem.W.Frag} {e₀ : E4} {i : Nat} {Dn : Ends} {σ : St} {H : Hp} (hw : tDS K C e₀ (sSet i g) Dn σ H) : tAsg (tD K C g) (gName i) Dn σ H := by
  obtain ⟨e, Ω, ρ, o, eH, r, q, k⟩ := hw
  unfold sSet at q
  cases q1 : g ρ Ω with
  | none => rw [q1] at q; cases q
  | some p1 =>
    obtain ⟨d, Ω'⟩ := p1
    rw [q1] at q
    cases q
    exact ⟨e, Ω, ρ, d, Ω', eH, r.wf, r.rel, q1, fun v e' x' w' i' => k e' _ ((r.to x' w').set i i')⟩
theorem pds_set {i : Nat} {n : Str} {pos' : Pos} (hN : X.N.Nodup) (hi : X.N[i]? = some n) (hx : Loc X.env.scope n) (he : PD X C x g) (hs : swapsWith x (some (.Name n pos')) pos.line X.env = pure false := by rfl) (hf : X.fn n = true ∨ X.env.scope.names.lookup n = some .local := by first | exact .inl rfl | exact .inr rfl | assumption) :
    PDS X C (.Assign [.Name n pos'] x pos) (sSet i g) := fun e₀ => ps_imp (ps_set hN hi hx he hs hf) fun Dn σ H h => set_read h
def sRet (g : Den) : SDen := fun ρ Ω => match g ρ Ω with
  | some (d, Ω') => some (.rt d Ω')
  | none => none
theorem pds_ret (he : PD X C x g) : PDS X C (.Return (some x) pos) (sRet g) := fun e₀ => ps_imp (ps_ret he) fun Dn σ H hw' => by
  obtain ⟨e, Ω, ρ, o, eH, r, q, k⟩ := hw'
  unfold sRet at q
  cases q1 : g ρ Ω with
  | none => rw [q1] at q; cases q
  | some p1 =>
    obtain ⟨d, Ω'⟩ := p1
    rw [q1] at q
    cases q
    exact ⟨e, Ω, ρ, d, Ω', eH, r.wf, r.rel, q1, fun v e' x' w' i' => k e' v (r.ext.trans x') w' i'⟩
def sIf (p : TDen) (s t : SDen) : SDen := fun ρ Ω => match p ρ Ω with
  | some (true, Ω') => s ρ Ω'
  | some (false, Ω') => t ρ Ω'
  | none => none
theorem pds_if (hc : PDT X C c p) (ha : PDB X C sts s) (hb : PDB X C sts' t) : PDS X C (.If c sts sts' pos) (sIf p s t) := fun e₀ => ps_imp (ps_if hc (ha e₀) (hb e₀)) fun Dn σ H hw' => by
  obtain ⟨e, Ω, ρ, o, eH, r, q, k⟩ := hw'
  unfold sIf at q
  cases q1 : p ρ Ω with
  | none => rw [q1] at q; cases q
  | some p1 =>
    obtain ⟨d, Ω'⟩ := p1
    rw [q1] at q
    refine ⟨e, Ω, ρ, d, Ω', eH, r.wf, r.rel, q1, fun e' x' w' => ?_⟩
    cases d with
    | true => rw [if_pos rfl]; exact ⟨e', Ω', ρ, o, rfl, r.to x' w', q, k⟩
    | false => rw [if_neg (by decide)]; exact ⟨e', Ω', ρ, o, rfl, r.to x' w', q, k⟩
def sNever : SDen := fun _ _ => none
theorem pds_never : PDS X C st sNever := fun e₀ => ps_imp ps_never fun Dn σ H hw' => by obtain ⟨e, Ω, ρ, o, eH, r, q, k⟩ := hw'; cases q
/-! ### a list of one's own -/
def sOwn (i : Nat) (g : ADen) : SDen := fun ρ Ω => match g ρ Ω with
  | some (ds, Ω') => if ds.length ≤ big then some (.nx (ρ.set i (.own ds)) Ω') else none
  | none => none
theorem pds_own {i : Nat} {n : Str} {pos' lp : Pos} {es : List Expr} {ga : ADen} (hN : X.N.Nodup) (hi : X.N[i]? = some n) (hx : Loc X.env.scope n) (he : PDA X C es ga) (hs : swapsWith (.List es lp) (some (.Name n pos')) pos.line X.env = pure false := by rfl) (hf : X.fn n = true ∨ X.env.scope.names.lookup n = some .local := by first | exact .inl rfl | exact .inr rfl | assumption) :
    PDS X C (.Assign [.Name n pos'] (.List es lp) pos) (sOwn i ga) := fun e₀ => ps_imp (ps_set hN hi hx (pe_lst he) hs hf) fun Dn σ H hw' => by
  obtain ⟨e, Ω, ρ, o, eH, r, q, k⟩ := hw'
  unfold sOwn at q
  cases q1 : ga ρ Ω with
  | none => rw [q1] at q; cases q
  | some p1 =>
    obtain ⟨ds, Ω'⟩ := p1
    rw [q1] at q
    dsimp only at q
    split at q
    · rename_i hl
      cases q
      refine ⟨e, Ω, ρ, ds, Ω', eH, r.wf, r.rel, q1, fun vs e' x' w' i' => ⟨by rw [← i'.length]; exact big_line hl, fun a ha => ?_⟩⟩
      have r' := r.to x' w'
      have hne : ∀ b u, e'.H b = some u → b ≠ a := fun b u hb => ne_of_none hb ha
      have hF : e'.F a = none := w'.nF ha
      have hA : ¬ e'.A a := fun z => (w'.ah a z).1 ha
      have own1 : ∀ (j : Nat) (es : List D), (ρ.set i (.own ds))[j]? = some (.own es) → (j = i ∧ es = ds ∧ i < ρ.length) ∨ (j ≠ i ∧ ρ[j]? = some (.own es)) := fun j es hj => by
        by_cases e1 : i = j
        · subst e1
          have hl : i < ρ.length := by
            have := (List.getElem?_eq_some_iff.mp hj).1
            simpa using this
          rw [List.getElem?_set_self hl] at hj
          cases hj
          exact .inl ⟨rfl, rfl, hl⟩
        · rw [List.getElem?_set_ne e1] at hj
          exact .inr ⟨fun z => e1 z.symm, hj⟩
      refine k ⟨e'.α, e'.F, e'.A, upd e'.H a (.lst vs)⟩ _ ⟨⟨fun b u hb => ?_, w'.fa, fun b hb => ?_, w'.ol, w'.nd, fun n b u h1 h2 => ⟨(w'.ob n b u h1 h2).1, (w'.ob n b u h1 h2).2.keep (fun z hz => ?_) (Same.refl _) ⟨[], by simp⟩⟩⟩, ⟨by simp [r'.rel.len], fun j d hj => ?_, fun j es hj => ?_, fun j m es fs b hj hm h1 h2 => ?_⟩, ⟨fun b o' u hb => by show upd e'.H a _ b = some (.frz o' u); rw [upd_ne (hne b _ (r'.ext.fz b o' u hb))]; exact r'.ext.fz b o' u hb, fun b u hb hn => ?_, fun b u hb => ?_, r'.ext.ff, r'.ext.fn, r'.ext.an, r'.ext.aa, r'.ext.al⟩, fun j es b hj h1 => ?_⟩
      · show upd e'.H a _ b = some u
        rw [upd_ne (hne b u (w'.fh b u hb))]; exact w'.fh b u hb
      · show upd e'.H a _ b ≠ none ∧ ∀ xs, upd e'.H a _ b ≠ some (.tup xs)
        rw [upd_ne (fun z => hA (by rw [← z]; exact hb))]; exact w'.ah b hb
      · show upd e'.H a _ b = some z
        rw [upd_ne (hne b z hz)]; exact hz
      · have n : i ≠ j := fun e1 => by
          subst e1
          have hl : i < ρ.length := by
            have := (List.getElem?_eq_some_iff.mp hj).1
            simpa using this
          rw [List.getElem?_set_self hl] at hj
          cases hj
        rw [List.getElem?_set_ne n] at hj ⊢
        exact r'.rel.dat j d hj
      · rcases own1 j es hj with ⟨rfl, rfl, hq⟩ | ⟨n, hj'⟩
        · exact ⟨a, vs, List.getElem?_set_self (by rw [r'.rel.len]; exact hq), upd_same, i', hF, hA⟩
        · obtain ⟨b, us, z1, z2, z3, z4, z5⟩ := r'.rel.own j es hj'
          exact ⟨b, us, by rw [List.getElem?_set_ne n.symm]; exact z1, by show upd e'.H a _ b = _; rw [upd_ne (hne b _ z2)]; exact z2, z3, z4, z5⟩
      · rcases own1 j es hj with ⟨rfl, rfl, hq⟩ | ⟨n, hj'⟩
        · rcases own1 m fs hm with ⟨rfl, _, _⟩ | ⟨n', hm'⟩
          · rfl
          · rw [List.getElem?_set_self (by rw [r'.rel.len]; exact hq)] at h1
            rw [List.getElem?_set_ne n'.symm] at h2
            obtain ⟨b', us, z1, z2, _⟩ := r'.rel.own m fs hm'
            rw [h2] at z1
            cases h1
            cases z1
            exact absurd rfl (hne _ _ z2)
        · rcases own1 m fs hm with ⟨rfl, _, hq⟩ | ⟨n', hm'⟩
          · rw [List.getElem?_set_self (by rw [r'.rel.len]; exact hq)] at h2
            rw [List.getElem?_set_ne n.symm] at h1
            obtain ⟨b', us, z1, z2, _⟩ := r'.rel.own j es hj'
            rw [h1] at z1
            cases h2
            cases z1
            exact absurd rfl (hne _ _ z2)
          · rw [List.getElem?_set_ne n.symm] at h1
            rw [List.getElem?_set_ne n'.symm] at h2
            exact r'.rel.sep j m es fs b hj' hm' h1 h2
      · show upd e'.H a _ b = some u
        have z := r'.ext.hk b u hb hn
        rw [upd_ne (hne b u z)]; exact z
      · obtain ⟨u', z⟩ := r'.ext.dm b u hb
        exact ⟨u', by show upd e'.H a _ b = some u'; rw [upd_ne (hne b u' z)]; exact z⟩
      · rcases own1 j es hj with ⟨rfl, rfl, hq⟩ | ⟨n, hj'⟩
        · rw [List.getElem?_set_self (by rw [r'.rel.len]; exact hq)] at h1
          cases h1
          exact r'.ext.back ha
        · rw [List.getElem?_set_ne n.symm] at h1
          exact r'.fresh j es b hj' h1
    · cases q
/-- found.append(e), found a list of one's own -/
def sApp (i : Nat) (g : Den) : SDen := fun ρ Ω => match g ρ Ω with
  | some (d, Ω') => match ρ[i]? with
    | some (.own ds) => if ds.length < big then some (.nx (ρ.set i (.own (ds ++ [d]))) Ω') else none
    | _ => none
  | none => none
theorem app_read {K : PySem.W.Frag} {e₀ : E4} {i : Nat} {Dn : Ends} {σ : St} {H : Hp} (hw : tDS K C e₀ (sApp i g) Dn σ H) :
    tDrop (tBM K "list" rAppend (tVar i) (tCons (tD K C g) tNil)) Dn σ H := by
  obtain ⟨e, Ω, ρ, o, eH, r, q, k⟩ := hw
  subst eH
  unfold sApp at q
  cases q1 : g ρ Ω with
  | none => rw [q1] at q; cases q
  | some p1 =>
    obtain ⟨d, Ω'⟩ := p1
    rw [q1] at q
    dsimp only at q
    cases q2 : ρ[i]? with
    | none => rw [q2] at q; cases q
    | some sl =>
      rw [q2] at q
      cases sl with
      | own ds =>
        dsimp only at q
        split at q
        · rename_i hl
          cases q
          obtain ⟨a, vs, e1, e2, i1, n1, n2⟩ := r.rel.own i ds q2
          refine ⟨.ref a, e1, .inl ⟨rfl, _, SqL.of e2⟩, ?_⟩
          refine ⟨e, Ω, ρ, d, Ω', rfl, r.wf, r.rel, q1, fun v e' x' w' i' => ?_⟩
          have r' := r.to x' w'
          obtain ⟨a', vs', e1', e2', i1', n1', n2'⟩ := r'.rel.own i ds q2
          rw [e1] at e1'
          cases e1'
          refine ⟨a, vs', v, rfl, rfl, e2', by rw [← i1'.length]; exact big_lt hl, ?_⟩
          have hil : i < ρ.length := (List.getElem?_eq_some_iff.mp q2).1
          have neH : ∀ (j : Nat) (es : List D) (b : Addr), j ≠ i → ρ[j]? = some (.own es) → σ[j]? = some (some (.ref b)) → b ≠ a := fun j es b n hj h1 z => by
            subst z
            exact n (r'.rel.sep j i es ds b hj q2 h1 e1)
          have own1 : ∀ (j : Nat) (es : List D), (ρ.set i (.own (ds ++ [d])))[j]? = some (.own es) → (j = i ∧ es = ds ++ [d]) ∨ (j ≠ i ∧ ρ[j]? = some (.own es)) := fun j es hj => by
            by_cases e3 : i = j
            · subst e3
              rw [List.getElem?_set_self hil] at hj
              cases hj
              exact .inl ⟨rfl, rfl⟩
            · rw [List.getElem?_set_ne e3] at hj
              exact .inr ⟨fun z => e3 z.symm, hj⟩
          refine k ⟨e'.α, e'.F, e'.A, upd e'.H a (.lst (vs' ++ [v]))⟩ σ ⟨⟨fun b u hb => ?_, w'.fa, fun b hb => ?_, w'.ol, w'.nd, fun n b u h1 h2 => ⟨(w'.ob n b u h1 h2).1, (w'.ob n b u h1 h2).2.keep (fun z hz => ?_) (Same.refl _) ⟨[], by simp⟩⟩⟩, ⟨by simp [r'.rel.len], fun j d' hj => ?_, fun j es hj => ?_, fun j m es fs b hj hm h1 h2 => ?_⟩, ⟨fun b o' u hb => by have q := r'.ext.fz b o' u hb; show upd e'.H a _ b = some (.frz o' u); rw [upd_ne (fun z => by rw [z, e2'] at q; cases q)]; exact q, fun b u hb hn => ?_, fun b u hb => ?_, r'.ext.ff, r'.ext.fn, r'.ext.an, r'.ext.aa, r'.ext.al⟩, fun j es b hj h1 => ?_⟩
          · show upd e'.H a _ b = some u
            rw [upd_ne (fun z => by subst z; rw [n1'] at hb; cases hb)]
            exact w'.fh b u hb
          · show upd e'.H a _ b ≠ none ∧ ∀ xs, upd e'.H a _ b ≠ some (.tup xs)
            rw [upd_ne (fun z => n2' (by rw [← z]; exact hb))]
            exact w'.ah b hb
          · show upd e'.H a _ b = some z
            rw [upd_ne (fun y => n2' (by rw [← y]; exact (w'.ob n b u h1 h2).1))]
            exact hz
          · have n : i ≠ j := fun e3 => by
              subst e3
              rw [List.getElem?_set_self hil] at hj
              cases hj
            rw [List.getElem?_set_ne n] at hj
            exact r'.rel.dat j d' hj
          · rcases own1 j es hj with ⟨rfl, rfl⟩ | ⟨n, hj'⟩
            · exact ⟨a, _, e1, upd_same, i1'.append (.cons i' .nil), n1', n2'⟩
            · obtain ⟨b, us, z1, z2, z3, z4, z5⟩ := r'.rel.own j es hj'
              exact ⟨b, us, z1, by show upd e'.H a _ b = _; rw [upd_ne (neH j es b n hj' z1)]; exact z2, z3, z4, z5⟩
          · rcases own1 j es hj with ⟨rfl, _⟩ | ⟨n, hj'⟩
            · rcases own1 m fs hm with ⟨rfl, _⟩ | ⟨n', hm'⟩
              · rfl
              · exact r'.rel.sep _ m ds fs b q2 hm' h1 h2
            · rcases own1 m fs hm with ⟨rfl, _⟩ | ⟨n', hm'⟩
              · exact r'.rel.sep j _ es ds b hj' q2 h1 h2
              · exact r'.rel.sep j m es fs b hj' hm' h1 h2
          · show upd e'.H a _ b = some u
            have h0 := r'.fresh i ds a q2 e1
            rw [upd_ne (ne_of_none hb h0)]
            exact r'.ext.hk b u hb hn
          · have h0 := r'.fresh i ds a q2 e1
            obtain ⟨u', z⟩ := r'.ext.dm b u hb
            exact ⟨u', by show upd e'.H a _ b = some u'; rw [upd_ne (ne_of_none hb h0)]; exact z⟩
          · rcases own1 j es hj with ⟨rfl, _⟩ | ⟨n, hj'⟩
            · exact r'.fresh _ ds b q2 h1
            · exact r'.fresh j es b hj' h1
        · cases q
      | und => cases q
      | dat _ => cases q
end
end DL
set_option Elab.async false
set_option linter.all false
set_option maxRecDepth 100000
namespace DL
open PySem PySem.Spec PyProof.Rows L2

open Classical in
noncomputable def hid (P : Addr → Prop) (H : Hp) : Hp := fun b => if P b then none else H b
theorem hid_pos {P : Addr → Prop} {H : Hp} {b : Addr} (h : P b) : hid P H b = none := if_pos h
theorem hid_neg {P : Addr → Prop} {H : Hp} {b : Addr} (h : ¬ P b) : hid P H b = H b := if_neg h
theorem hid_some {P : Addr → Prop} {H : Hp} {b : Addr} {o : HO} (h : hid P H b = some o) : H b = some o := by
  by_cases q : P b
  · rw [hid_pos q] at h; cases h
  · rw [hid_neg q] at h; exact h
section
variable {K : PySem.W.Frag} {C : Cl} {e₀ e e' : E4} {Ω Ω' : List OS} {σ : St} {ρ : List Sl}
/-- a mark in the middle of a body: what stands there stands from there on -/
theorem RelS.mark (r : RelS K C e₀ e Ω σ ρ) : ∃ e₁ : E4, e₁.F = e.F ∧ e₁.α = e.α ∧ RelS K C e₁ e Ω σ ρ ∧ (∀ e', Ext e₁ e' → Ext e₀ e') ∧ (∀ b, e₁.H b = none → e₀.H b = none) ∧ ∀ b o u, e.H b = some (.frz o u) → e₁.H b = some (.frz o u) := by
  have ho : ∀ b, (∃ (i : Nat) (ds : List D), ρ[i]? = some (Sl.own ds) ∧ σ[i]? = some (some (V.ref b))) → e₀.H b = none := fun b ⟨i, ds, h1, h2⟩ => r.fresh i ds b h1 h2
  generalize hP : (fun b : Addr => ∃ (i : Nat) (ds : List D), ρ[i]? = some (Sl.own ds) ∧ σ[i]? = some (some (V.ref b))) = P
  have ho' : ∀ b, P b → e₀.H b = none := fun b h => ho b (by rw [← hP] at h; exact h)
  have hno : ∀ b, hid P e.H b = none → e₀.H b = none := fun b h => by
    by_cases q : P b
    · exact ho' b q
    · rw [hid_neg q] at h; exact r.ext.back h
  have hs : ∀ b o, e₀.H b = some o → hid P e.H b = e.H b := fun b o h => hid_neg (fun q => by rw [ho' b q] at h; cases h)
  refine ⟨⟨e.α, e.F, e.A, hid P e.H⟩, rfl, rfl, ⟨r.wf, r.rel, ⟨fun b o u h => hid_some h, fun b o h _ => hid_some h, fun b o h => ⟨o, hid_some h⟩, Same.refl _, fun b o h => .inl h, fun b h => .inl h, fun b h => h, [], by simp⟩, fun i ds a h1 h2 => ?_⟩, fun e' x => ⟨fun b o u h => x.fz b o u ((hs b _ h).trans (r.ext.fz b o u h)), fun b o h hn => ?_, fun b o h => ?_, r.ext.ff.trans x.ff, fun b o h => ?_, fun b h => ?_, fun b h => x.aa b (r.ext.aa b h), ?_⟩, hno, fun b o u h => (hid_neg (fun q => ?_)).trans h⟩
  · exact hid_pos (by rw [← hP]; exact ⟨i, ds, h1, h2⟩)
  · have z := r.ext.hk b o h hn
    refine x.hk b o ((hs b o h).trans z) fun hA => ?_
    rcases r.ext.an b hA with q | q
    · exact hn q
    · rw [q] at h; cases h
  · obtain ⟨o', z⟩ := r.ext.dm b o h
    exact x.dm b o' ((hs b o h).trans z)
  · rcases x.fn b o h with q | q | ⟨q1, q2, q3⟩
    · exact r.ext.fn b o q
    · exact .inr (.inl (hno b q))
    · have n : ¬ e₀.A b := fun z => q3 (r.ext.aa b z)
      cases z : e₀.H b with
      | none => exact .inr (.inl rfl)
      | some o' =>
        have z' := r.ext.hk b o' z n
        rw [hid_some q2] at z'
        cases z'
        exact .inr (.inr ⟨q1, rfl, n⟩)
  · rcases x.an b h with q | q
    · exact r.ext.an b q
    · exact .inr (hno b q)
  · obtain ⟨m, e1⟩ := r.ext.al
    obtain ⟨n, e2⟩ := x.al
    exact ⟨m ++ n, by rw [e2]; show e.α ++ n = _; rw [e1, List.append_assoc]⟩
  · rw [← hP] at q
    obtain ⟨i, ds, h1, h2⟩ := q
    obtain ⟨a', vs, e1, e2, _⟩ := r.rel.own i ds h1
    rw [h2] at e1
    cases e1
    rw [h] at e2
    cases e2
end

/-! ### targets -/
abbrev BDen := D → List Sl → Option (List Sl)
def tDG (K : PySem.W.Frag) (C : Cl) (β : BDen) : TG := fun v σ H Q => ∃ e Ω ρ d ρ', e.H = H ∧ Wf K C e Ω ∧ RelE K e σ ρ ∧ Is K e.α e.F d v ∧ β d ρ = some ρ' ∧
  ∀ σ', RelE K e σ' ρ' → (∀ (j : Nat) (ds : List D), ρ'[j]? = some (.own ds) → ρ[j]? = some (.own ds) ∧ σ'[j]? = σ[j]?) → Q σ' e.H
def PDG (X : Cx) (C : Cl) (tg : Expr) (β : BDen) : Prop := PG X tg (tDG X.K C β)
theorem pg_imp {X : Cx} {tg : Expr} {t t' : TG} (h : PG X tg t) (i : ∀ v σ H Q, t' v σ H Q → t v σ H Q) : PG X tg t' := fun pins s σ H v u Q I r hw => h pins s σ H v u Q I r (i v σ H Q hw)
def bName (i : Nat) : BDen := fun d ρ => some (ρ.set i (.dat d))
theorem own_set {ρ : List Sl} {σ : St} {i : Nat} {d : D} {v : V} (j : Nat) (ds : List D) (h : (ρ.set i (.dat d))[j]? = some (.own ds)) : ρ[j]? = some (.own ds) ∧ (σ.set i (some v))[j]? = σ[j]? := by
  have n := set_own_ne h
  rw [List.getElem?_set_ne n] at h
  exact ⟨h, List.getElem?_set_ne n⟩
section
variable {X : Cx} {C : Cl} {pos : Pos}
theorem pdg_name {i : Nat} {x : Str} (hN : X.N.Nodup) (hi : X.N[i]? = some x) (hx : Loc X.env.scope x) (hf : X.fn x = true ∨ X.env.scope.names.lookup x = some .local := by first | exact .inl rfl | exact .inr rfl | assumption) : PDG X C (.Name x pos) (bName i) :=
  pg_imp (pg_name hN hi hx hf) fun v σ H Q hw' => by
    obtain ⟨e, Ω, ρ, d, ρ', eH, w, r, is, b, k⟩ := hw'
    subst eH
    cases b
    exact k _ (r.set i is) own_set
theorem RelS.by {K : PySem.W.Frag} {e₀ e : E4} {Ω : List OS} {σ σ' : St} {ρ ρ' : List Sl} (r : RelS K C e₀ e Ω σ ρ) (r' : RelE K e σ' ρ') (o : ∀ (j : Nat) (ds : List D), ρ'[j]? = some (.own ds) → ρ[j]? = some (.own ds) ∧ σ'[j]? = σ[j]?) : RelS K C e₀ e Ω σ' ρ' :=
  ⟨r.wf, r', r.ext, fun i ds a h1 h2 => by
    obtain ⟨z1, z2⟩ := o i ds h1
    rw [z2] at h2
    exact r.fresh i ds a z1 h2⟩
end

/-! ### what is walked -/
def Walk (K : PySem.W.Frag) (e : E4) (J : It) (ds : List D) : Prop := ∀ (i : Nat) (e2 : E4), Same e.F e2.F → (∃ more, e2.α = e.α ++ more) → Same e2.F e2.H →
  (i = ds.length → J.stop i e2.H) ∧ ∀ d, ds[i]? = some d → J.go i e2.H ∧ ∀ x H', J.yld i e2.H x H' → ∃ e3 : E4, e3.H = H' ∧ Is K e3.α e3.F d x ∧ ∀ (C : Cl) (Ω : List OS), Wf K C e2 Ω → Ext e2 e3 ∧ Wf K C e3 Ω
theorem Walk.still {K : PySem.W.Frag} {e : E4} {J : It} {ds : List D} (h : ∀ (i : Nat) (e2 : E4), Same e.F e2.F → (∃ more, e2.α = e.α ++ more) → Same e2.F e2.H →
    (i = ds.length → J.stop i e2.H) ∧ ∀ d, ds[i]? = some d → J.go i e2.H ∧ ∀ x H', J.yld i e2.H x H' → H' = e2.H ∧ Is K e2.α e2.F d x) : Walk K e J ds := fun i e2 h1 h2 h3 => by
  obtain ⟨a, b⟩ := h i e2 h1 h2 h3
  refine ⟨a, fun d hd => ⟨(b d hd).1, fun x H' hy => ?_⟩⟩
  obtain ⟨z, q⟩ := (b d hd).2 x H' hy
  exact ⟨e2, z.symm, q, fun C Ω w => ⟨Ext.refl _, w⟩⟩
def tDI (K : PySem.W.Frag) (C : Cl) (γ : ADen) : TI := fun σ H R => ∃ e Ω ρ ds Ω', e.H = H ∧ Wf K C e Ω ∧ RelE K e σ ρ ∧ γ ρ Ω = some (ds, Ω') ∧ ∀ e' J, Ext e e' → Wf K C e' Ω' → Walk K e' J ds → R J e'.H
def PDI (X : Cx) (C : Cl) (tg iter : Expr) (γ : ADen) : Prop := PI X tg iter (tDI X.K C γ)
theorem pi_imp {X : Cx} {tg iter : Expr} {t t' : TI} (h : PI X tg iter t) (i : ∀ σ H R, t' σ H R → t σ H R) : PI X tg iter t' := fun pins s σ H R I hw => h pins s σ H R I (i σ H R hw)
section
variable {X : Cx} {C : Cl} {tg iter : Expr} {g : Den} {ga : ADen} {pos p : Pos}
def seqD : D → Option (List D)
  | .lst xs => some xs
  | .scr ns => some (ns.map D.int)
  | _ => none
def gSeq (g : Den) : ADen := fun ρ Ω => match g ρ Ω with
  | some (d, Ω') => match seqD d with
    | some ds => some (ds, Ω')
    | none => none
  | none => none
theorem walk_list {K : PySem.W.Frag} {e : E4} {a : Addr} {vs : List V} {ds : List D} (h : SqL K e.F a vs) (r : IsL K e.α e.F ds vs) : Walk K e (Itl K a) ds := by
  refine Walk.still ?_
  intro i e2 ff al fh
  have h2 : SqL K e2.H a vs := fh.seq (ff.seq h)
  refine ⟨fun z => ⟨vs, h2, by rw [← r.length]; exact Nat.le_of_eq z.symm⟩, fun d hd => ?_⟩
  obtain ⟨v, hv, iv⟩ := (IsL.mono ff al ds r).get hd
  exact ⟨⟨vs, v, h2, hv⟩, fun x H' ⟨z1, z2⟩ => ⟨z1, by
    have := z2 vs h2
    rw [hv] at this
    cases this
    exact iv⟩⟩
theorem pdi_list (h : PD X C iter g) : PDI X C tg iter (gSeq g) := pi_imp (pi_list h) fun σ H R hw' => by
  obtain ⟨e, Ω, ρ, ds, Ω', eH, w, rl, q, k⟩ := hw'
  unfold gSeq at q
  cases q1 : g ρ Ω with
  | none => rw [q1] at q; cases q
  | some p1 =>
    obtain ⟨d, Ω1⟩ := p1
    rw [q1] at q
    dsimp only at q
    refine ⟨e, Ω, ρ, d, Ω1, eH, w, rl, q1, fun v e' x' w' i' => ?_⟩
    cases d with
    | lst xs =>
      cases q
      rw [Is] at i'
      obtain ⟨a, vs, rfl, h1, r1⟩ := i'
      exact ⟨a, rfl, ⟨vs, SqL.of (w'.fh _ _ h1)⟩, k e' _ x' w' (walk_list (SqL.of h1) r1)⟩
    | scr ns =>
      cases q
      rw [Is] at i'
      obtain ⟨a, rfl, h1⟩ := i'
      exact ⟨a, rfl, ⟨_, w'.fh.seq h1⟩, k e' _ x' w' (walk_list h1 (IsL.ints ns))⟩
    | _ => cases q
/-- lo, lo + 1 .. -/
def upD (lo : Int) (n : Nat) : List D := (List.range n).map fun (k : Nat) => D.int (lo + (k : Int))
theorem walk_range {K : PySem.W.Frag} {e : E4} {lo : Int} {n : Nat} : Walk K e (Itr lo n) (upD lo n) := by
  refine Walk.still ?_
  intro i e2 _ _ _
  refine ⟨fun z => Nat.le_of_eq (by rw [z]; simp [upD]), fun d hd => ?_⟩
  have hi : i < n := by
    have := (List.getElem?_eq_some_iff.mp hd).1
    simpa [upD] using this
  refine ⟨hi, fun x H' ⟨z1, z2⟩ => ⟨z1, ?_⟩⟩
  have : d = D.int (lo + (i : Int)) := by
    simp [upD, hi] at hd
    exact hd.symm
  subst this z2
  rw [Is]
noncomputable def rng1 : List D → Option (List D)
  | [.int j] => grd (-(2 ^ 62) ≤ j ∧ j < 2 ^ 62) (some (upD 0 j.toNat))
  | _ => none
def gRng (r : List D → Option (List D)) (g : ADen) : ADen := fun ρ Ω => match g ρ Ω with
  | some (ds, Ω') => match r ds with
    | some es => some (es, Ω')
    | none => none
  | none => none
theorem pdi_range1 {a : Expr} (hg : Gl X "range") (hm : X.mg "range" = none) (ha : PDA X C [a] ga) (hs : starEach [a] X.env = [(false, eval a X.env)] := by rfl) : PDI X C tg (.Call (.Name "range" p) [a] [] pos) (gRng rng1 ga) :=
  pi_imp (pi_range1 hg hm ha hs) fun σ H R hw' => by
    obtain ⟨e, Ω, ρ, ds, Ω', eH, w, rl, q, k⟩ := hw'
    unfold gRng at q
    cases q1 : ga ρ Ω with
    | none => rw [q1] at q; cases q
    | some p1 =>
      obtain ⟨es, Ω1⟩ := p1
      rw [q1] at q
      dsimp only at q
      refine ⟨e, Ω, ρ, es, Ω1, eH, w, rl, q1, fun v e' x' w' i' => ?_⟩
      match es, q, i' with
      | [.int j], q, i' =>
        obtain ⟨v, rfl, iv⟩ := isL_one i'
        rw [Is] at iv
        subst iv
        have ez : rng1 [D.int j] = grd (-(2 ^ 62) ≤ j ∧ j < 2 ^ 62) (some (upD 0 j.toNat)) := rfl
        rw [ez] at q
        by_cases hb : (-(2 ^ 62) ≤ j ∧ j < 2 ^ 62)
        · rw [grd_pos hb] at q
          cases q
          exact ⟨j, rfl, hb.1, hb.2, k e' _ x' w' walk_range⟩
        · have en : grd (-(2 ^ 62) ≤ j ∧ j < 2 ^ 62) (some (upD 0 j.toNat)) = none := if_neg hb
          rw [en] at q
          cases q
end

/-! ### for, while -/
def forD (β : BDen) (s : SDen) : List D → SDen
  | [], ρ, Ω => some (.nx ρ Ω)
  | d :: ds, ρ, Ω => match β d ρ with
    | some ρ1 => match s ρ1 Ω with
      | some (.nx ρ' Ω') => forD β s ds ρ' Ω'
      | some (.ct ρ' Ω') => forD β s ds ρ' Ω'
      | some (.bk ρ' Ω') => some (.nx ρ' Ω')
      | some (.rt z Ω') => some (.rt z Ω')
      | none => none
    | none => none
def sFor (γ : ADen) (β : BDen) (s : SDen) : SDen := fun ρ Ω => match γ ρ Ω with
  | some (ds, Ω') => forD β s ds ρ Ω'
  | none => none
section
variable {X : Cx} {C : Cl} {tg iter c : Expr} {γ : ADen} {β : BDen} {s : SDen} {body : List Stmt} {pos : Pos} {p : TDen}
theorem pdb_ex {sts : List Stmt} (h : PDB X C sts s) : PSs X sts (fun Dn σ H => ∃ e₁, tDS X.K C e₁ s Dn σ H) := fun pins sh σ H Dn I ⟨e₁, hw⟩ => h e₁ pins sh σ H Dn I hw
theorem pds_for (hp : PassesOwn (model X.prog X.w) X.A X.env X.xe) (hc : X.calm = true) (hi : PDI X C tg iter γ) (hg : PDG X C tg β) (hb : PDB X C body s)
    (hs : ∀ x, foldedSetIterable iter X.env x = pure x := by intro _; rfl) : PDS X C (.For tg iter body [] pos) (sFor γ β s) := by
  refine fun e₀ => ps_imp (ps_for hp hc hi hg (pdb_ex hb) hs) fun Dn σ H hw' => ?_
  obtain ⟨e, Ω, ρ, o, eH, r, q, k⟩ := hw'
  unfold sFor at q
  cases q1 : γ ρ Ω with
  | none => rw [q1] at q; cases q
  | some p1 =>
    obtain ⟨ds, Ω'⟩ := p1
    rw [q1] at q
    dsimp only at q
    refine ⟨e, Ω, ρ, ds, Ω', eH, r.wf, r.rel, q1, fun e' J x' w' wk => ?_⟩
    refine ⟨fun i m σ H => m = ds.length - i ∧ i ≤ ds.length ∧ ∃ e2 Ω2 ρ2, e2.H = H ∧ RelS X.K C e₀ e2 Ω2 σ ρ2 ∧ Same e'.F e2.F ∧ (∃ more, e2.α = e'.α ++ more) ∧ forD β s (ds.drop i) ρ2 Ω2 = some o, ⟨ds.length, by simp, Nat.zero_le _, e', Ω', ρ, rfl, r.to x' w', Same.refl _, ⟨[], by simp⟩, by simpa using q⟩, ?_⟩
    rintro i m σ2 H2 ⟨rfl, hil, e2, Ω2, ρ2, rfl, r2, ff, al, q2⟩
    obtain ⟨stop, go⟩ := wk i e2 ff al r2.wf.fh
    by_cases hlt : i < ds.length
    · have hd : ds[i]? = some ds[i] := List.getElem?_eq_getElem hlt
      obtain ⟨g1, y1⟩ := go _ hd
      have edrop : ds.drop i = ds[i] :: ds.drop (i + 1) := List.drop_eq_getElem_cons hlt
      rw [edrop] at q2
      refine .inr ⟨g1, fun σ' H' => ∃ e3 Ω3 ρ3, e3.H = H' ∧ RelS X.K C e₀ e3 Ω3 σ' ρ3 ∧ Same e'.F e3.F ∧ (∃ more, e3.α = e'.α ++ more) ∧ forD β s (ds.drop (i + 1)) ρ3 Ω3 = some o, fun σ' H' hN => ⟨ds.length - (i + 1), by omega, rfl, hlt, hN⟩, fun x H' hy => ?_⟩
      obtain ⟨e2', rfl, ix, up⟩ := y1 x H' hy
      obtain ⟨x2', w2'⟩ := up C Ω2 r2.wf
      replace r2 := r2.to x2' w2'
      replace ff := ff.trans x2'.ff
      replace al : ∃ more, e2'.α = e'.α ++ more := by
        obtain ⟨m1, z1⟩ := al
        obtain ⟨m2, z2⟩ := x2'.al
        exact ⟨m1 ++ m2, by rw [z2, z1, List.append_assoc]⟩
      clear y1 g1 stop go
      revert r2 ff al ix
      generalize e2' = e2
      intro ix r2 ff al
      unfold forD at q2
      cases q3 : β ds[i] ρ2 with
      | none => rw [q3] at q2; cases q2
      | some ρ3 =>
        rw [q3] at q2
        dsimp only at q2
        refine ⟨e2, Ω2, ρ2, _, ρ3, rfl, r2.wf, r2.rel, ix, q3, fun σ3 r3 o3 => ?_⟩
        have r3' := r2.by r3 o3
        obtain ⟨e₁, hF, hα, r4, toE, toN, _⟩ := r3'.mark
        cases q4 : s ρ3 Ω2 with
        | none => rw [q4] at q2; cases q2
        | some o4 =>
          rw [q4] at q2
          refine ⟨e₁, e2, Ω2, ρ3, o4, rfl, r4, q4, ?_⟩
          have back : ∀ {e5 : E4} {Ω5 : List OS} {σ5 : St} {ρ5 : List Sl}, RelS X.K C e₁ e5 Ω5 σ5 ρ5 → RelS X.K C e₀ e5 Ω5 σ5 ρ5 ∧ Same e'.F e5.F ∧ ∃ more, e5.α = e'.α ++ more := fun {e5 Ω5 σ5 ρ5} r5 => by
            refine ⟨⟨r5.wf, r5.rel, toE _ r5.ext, fun i ds a h1 h2 => toN _ (r5.fresh i ds a h1 h2)⟩, ff.trans (hF ▸ r5.ext.ff), ?_⟩
            obtain ⟨m1, z1⟩ := al
            obtain ⟨m2, z2⟩ := r5.ext.al
            exact ⟨m1 ++ m2, by rw [z2, hα, z1, List.append_assoc]⟩
          cases o4 with
          | nx ρ5 Ω5 => exact fun e5 σ5 r5 => ⟨e5, Ω5, ρ5, rfl, (back r5).1, (back r5).2.1, (back r5).2.2, q2⟩
          | ct ρ5 Ω5 => exact fun e5 σ5 r5 => ⟨e5, Ω5, ρ5, rfl, (back r5).1, (back r5).2.1, (back r5).2.2, q2⟩
          | bk ρ5 Ω5 => cases q2; exact fun e5 σ5 r5 => k e5 σ5 (back r5).1
          | rt z Ω5 => cases q2; exact fun e5 v5 x5 w5 i5 => k e5 v5 (toE _ x5) w5 i5
    · have ei : i = ds.length := by omega
      subst ei
      rw [List.drop_length] at q2
      cases q2
      exact .inl ⟨stop rfl, k e2 σ2 r2⟩
end
end DL
set_option Elab.async false
set_option linter.all false
set_option maxRecDepth 100000
namespace DL
open PySem PySem.Spec PyProof.Rows L2

/-! ### defs -/
abbrev FDen := List D → List OS → Option (D × List OS)
def spD (K : PySem.W.Frag) (C : Cl) (f : FDen) : Sp := fun vs H Q _ => ∃ e Ω ds d Ω', e.H = H ∧ Wf K C e Ω ∧ IsL K e.α e.F ds vs ∧ f ds Ω = some (d, Ω') ∧ ∀ v e', Ext e e' → Wf K C e' Ω' → Is K e'.α e'.F d v → Q v e'.H
/-- a def of n parameters and m names in all, by its body -/
def runD (n m : Nat) (s : SDen) : FDen := fun ds Ω => if ds.length = n then match s (ds.map Sl.dat ++ List.replicate (m - n) Sl.und) Ω with
    | some (.rt d Ω') => some (d, Ω')
    | some (.nx _ Ω') => some (.non, Ω')
    | _ => none
  else none
theorem start_rel {K : PySem.W.Frag} {C : Cl} {e : E4} {Ω : List OS} {N : List Str} {ds : List D} {vs : List V} (w : Wf K C e Ω) (i : IsL K e.α e.F ds vs) : RelS K C e e Ω (L2.start N vs) (ds.map Sl.dat ++ List.replicate (N.length - ds.length) Sl.und) := by
  have noown : ∀ (j : Nat) (es : List D), (ds.map Sl.dat ++ List.replicate (N.length - ds.length) Sl.und)[j]? ≠ some (.own es) := fun j es h => by
    by_cases hj : j < ds.length
    · rw [List.getElem?_append_left (by simpa using hj), List.getElem?_map] at h
      cases q : ds[j]? with
      | none => rw [q] at h; cases h
      | some d => rw [q] at h; cases h
    · rw [List.getElem?_append_right (by simpa using hj), List.getElem?_replicate] at h
      split at h <;> cases h
  refine ⟨w, ⟨?_, fun j d h => ?_, fun j es h => absurd h (noown j es), fun j k es fs a h => absurd h (noown j es)⟩, Ext.refl e, fun j es a h => absurd h (noown j es)⟩
  · unfold L2.start
    simp [i.length]
  · by_cases hj : j < ds.length
    · rw [List.getElem?_append_left (by simpa using hj), List.getElem?_map] at h
      cases q : ds[j]? with
      | none => rw [q] at h; cases h
      | some d' =>
        rw [q] at h
        cases h
        obtain ⟨v, hv, iv⟩ := i.get q
        refine ⟨v, ?_, iv⟩
        unfold L2.start
        rw [List.getElem?_append_left (by simpa [← i.length] using hj), List.getElem?_map, hv]
        rfl
    · rw [List.getElem?_append_right (by simpa using hj), List.getElem?_replicate] at h
      split at h <;> cases h
theorem fn_D {P : Program} {w : World} {K : PySem.W.Frag} {mg : Str → Option Value} {base : Heap} {C : Cl} {x qual : Str} {st : Stmt} {f : Addr} {fd : FuncData} {N ps : List Str} {k n m : Nat} {s : SDen} (F : Fun K x qual st f fd) (S : FnScope N ps (defScope st)) (hn : ps.length = n) (hm : N.length = m)
    (hbody : ∀ (cdv : Value) (A : Around) (outer : List Env) (sh : Shared) (H : Hp) (E : XK), Room k (A.deeper (envOfC qual (defScope st) sh.heap.objs.size f cdv)) →
      PDB (cxOf CX0 P w K mg base N qual (defScope st) f cdv A outer sh H E).nox C (defBody st) s) : FnOk P w K mg base CX0 (k + 1) f fd ps (spD K C (runD n m s)) := by
  refine F.ok S (fun vs H Q E h => ?_) (fun cdv A outer sh H vs Q E hr h => ?_)
  · obtain ⟨e, Ω, ds, d, Ω', _, _, i, q, _⟩ := h
    unfold runD at q
    by_cases hl : ds.length = n
    · rw [← i.length, hl, hn]
    · rw [if_neg hl] at q; cases q
  · obtain ⟨e, Ω, ds, d, Ω', eH, wf, i, q, kk⟩ := h
    unfold runD at q
    by_cases hl : ds.length = n
    · rw [if_pos hl] at q
      cases q1 : s (ds.map Sl.dat ++ List.replicate (m - n) Sl.und) Ω with
      | none => rw [q1] at q; cases q
      | some o =>
        rw [q1] at q
        refine ⟨_, hbody cdv A outer sh H E hr e, e, Ω, _, o, eH, start_rel wf i, by rw [hl, hm]; exact q1, ?_⟩
        cases o with
        | rt d' Ω2 => cases q; exact fun e' v x' w' i' => kk v e' x' w' i'
        | nx ρ' Ω2 => cases q; exact fun e' σ' r' => kk .non e' r'.ext r'.wf (by rw [Is])
        | bk ρ' Ω2 => cases q
        | ct ρ' Ω2 => cases q
    · rw [if_neg hl] at q; cases q
def gCall (f : FDen) (g : ADen) : Den := fun ρ Ω => match g ρ Ω with
  | some (ds, Ω1) => f ds Ω1
  | none => none
section
variable {X : Cx} {C : Cl} {k : Nat} {f : Addr} {fd : FuncData} {ps : List Str} {F : FDen} {n : Str} {p pos : Pos} {x : Expr} {es : List Expr} {ga : ADen}
theorem call_read {K : PySem.W.Frag} {σ : St} {H : Hp} {Q : VK} {E : XK} (hw : tD K C (gCall F ga) σ H Q) : tCall (spD K C F) [] E (tDA K C ga) σ H Q := by
  obtain ⟨e, Ω, ρ, d, Ω', eH, w, rl, q, kk⟩ := hw
  unfold gCall at q
  cases q1 : ga ρ Ω with
  | none => rw [q1] at q; cases q
  | some p1 =>
    obtain ⟨ds, Ω1⟩ := p1
    rw [q1] at q
    refine ⟨e, Ω, ρ, ds, Ω1, eH, w, rl, q1, fun vs e' x' w' i' => ?_⟩
    show spD K C F (vs ++ []) e'.H Q E
    rw [List.append_nil]
    exact ⟨e', Ω1, ds, d, Ω', rfl, w', i', q, fun v e'' x'' w'' i'' => kk v e'' (x'.trans x'') w'' i''⟩
theorem pd_call (G : FnOk X.prog X.w X.K X.mg X.base CX0 k f fd ps (spD X.K C F)) (hr : Room k X.A) (hg : Gl X n) (hm : X.mg n = some (.ref f)) (hk : PySem.W.keepIn X.K (.ref f) = true) (hb : Binds X.K fd ps [])
    (ha : PDA X C (x :: es) ga) (hdb : (n == ("__debug__" : Str)) = false := by decide) (he : starEach (x :: es) X.env = (false, eval x X.env) :: starEach es X.env := by rfl) (hpl : (backTo pos (starEach es X.env)).any (·.1) = false := by rfl) :
    PD X C (.Call (.Name n p) (x :: es) [] pos) (gCall F ga) :=
  pe_imp (pe_call G hr hg hm hk hb .nil pass0 ha hdb he hpl) fun _ _ _ hw => call_read hw
end

/-! ### comprehensions -/
def PDTs (X : Cx) (C : Cl) (ifs : List Expr) (p : TDen) : Prop := PTs X ifs (tDT X.K C p)
def gTrue : TDen := fun _ Ω => some (true, Ω)
theorem pdts_nil {X : Cx} {C : Cl} : PDTs X C [] gTrue := fun pins s σ H Q I hw' => by
  obtain ⟨e, Ω, ρ, b, Ω', eH, w, rl, q, k⟩ := hw'
  subst eH
  cases q
  exact pts_nil pins s σ _ Q I (k e (Ext.refl e) w)
theorem pdts_one {X : Cx} {C : Cl} {c : Expr} {p : TDen} (h : PDT X C c p) : PDTs X C [c] p := pts_one h
def compD (β : BDen) (p : TDen) (g : Den) : List D → List Sl → List OS → Option (List D × List OS)
  | [], _, Ω => some ([], Ω)
  | d :: ds, ρ, Ω => match β d ρ with
    | some ρ1 => match p ρ1 Ω with
      | some (true, Ω1) => match g ρ1 Ω1 with
        | some (y, Ω2) => match compD β p g ds ρ1 Ω2 with
          | some (ys, Ω3) => some (y :: ys, Ω3)
          | none => none
        | none => none
      | some (false, Ω1) => compD β p g ds ρ1 Ω1
      | none => none
    | none => none
def innerD (μ : List (Option Nat)) (ρ : List Sl) : List Sl := μ.map fun o => match o with
  | none => Sl.und
  | some j => match ρ[j]? with
    | some (.dat d) => .dat d
    | _ => .und
def gComp (μ : List (Option Nat)) (γ : ADen) (β : BDen) (p : TDen) (g : Den) : Den := fun ρ Ω => match γ ρ Ω with
  | some (ds, Ω1) => if ds.length ≤ big then match compD β p g ds (innerD μ ρ) Ω1 with
      | some (ys, Ω2) => some (.lst ys, Ω2)
      | none => none
    else none
  | none => none
section
variable {K : PySem.W.Frag} {C : Cl} {e : E4} {σ : St} {ρ : List Sl} {μ : List (Option Nat)}
theorem inner_dat {j : Nat} {d : D} (h : (innerD μ ρ)[j]? = some (.dat d)) : ∃ i, μ[j]? = some (some i) ∧ ρ[i]? = some (.dat d) := by
  unfold innerD at h
  rw [List.getElem?_map] at h
  cases q : μ[j]? with
  | none => rw [q] at h; cases h
  | some o =>
    rw [q] at h
    cases o with
    | none => cases h
    | some i =>
      cases q2 : ρ[i]? with
      | none => simp [q2] at h
      | some sl =>
        cases sl with
        | dat d' => simp [q2] at h; subst h; exact ⟨i, rfl, q2⟩
        | und => simp [q2] at h
        | own _ => simp [q2] at h
theorem inner_own {j : Nat} {ds : List D} : (innerD μ ρ)[j]? ≠ some (.own ds) := fun h => by
  unfold innerD at h
  rw [List.getElem?_map] at h
  cases q : μ[j]? with
  | none => rw [q] at h; cases h
  | some o =>
    rw [q] at h
    cases o with
    | none => cases h
    | some i =>
      cases q2 : ρ[i]? with
      | none => simp [q2] at h
      | some sl => cases sl <;> simp [q2] at h
theorem inner_rel (r : RelE K e σ ρ) : RelE K e (inner μ σ) (innerD μ ρ) := by
  refine ⟨by simp [inner, innerD], fun j d h => ?_, fun j ds h => absurd h inner_own, fun j k ds es a h => absurd h inner_own⟩
  obtain ⟨i, h1, h2⟩ := inner_dat h
  obtain ⟨v, e1, iv⟩ := r.dat i d h2
  refine ⟨v, ?_, iv⟩
  unfold inner
  rw [List.getElem?_map, h1]
  show some ((σ[i]?).join) = _
  rw [e1]
  rfl
end
section
variable {K : PySem.W.Frag} {C : Cl} {γ : ADen} {β : BDen} {p : TDen} {g : Den} {μ : List (Option Nat)}
/-- within a comprehension: the list so far, what is still to come -/
structure CI (K : PySem.W.Frag) (C : Cl) (β : BDen) (p : TDen) (g : Den) (ds : List D) (a : Addr) (ysAll : List D) (Ωf : List OS) (e' : E4) (i : Nat) (σ' : St) (e2 : E4) (Ω2 : List OS) (ρ2 : List Sl) (vs : List V) (ys0 ys1 : List D) : Prop where
  w : Wf K C e2 Ω2
  r : RelE K e2 σ' ρ2
  no : ∀ (j : Nat) (es : List D), ρ2[j]? ≠ some (.own es)
  ha : e2.H a = some (.lst vs)
  hF : e2.F a = none
  hA : ¬ e2.A a
  iy : IsL K e2.α e2.F ys0 vs
  x : Ext e' e2
  q : compD β p g (ds.drop i) ρ2 Ω2 = some (ys1, Ωf)
  ey : ys0 ++ ys1 = ysAll
  hy : ys0.length ≤ i
def CInv (K : PySem.W.Frag) (C : Cl) (β : BDen) (p : TDen) (g : Den) (ds : List D) (a : Addr) (ysAll : List D) (Ωf : List OS) (e' : E4) (i : Nat) (σ' : St) (H' : Hp) : Prop :=
  ∃ e2 Ω2 ρ2 vs ys0 ys1, e2.H = H' ∧ CI K C β p g ds a ysAll Ωf e' i σ' e2 Ω2 ρ2 vs ys0 ys1
theorem comp_gen {σ : St} {H : Hp} {Q : VK} {e : E4} {Ω Ω1 Ωf : List OS} {ρ : List Sl} {ds ysAll : List D} (eH : e.H = H) (w : Wf K C e Ω) (rl : RelE K e σ ρ) (q1 : γ ρ Ω = some (ds, Ω1)) (hbig : ds.length ≤ big) (q2 : compD β p g ds (innerD μ ρ) Ω1 = some (ysAll, Ωf))
    (fin : ∀ a vs e2, Ext e e2 → Wf K C e2 Ωf → e2.H a = some (.lst vs) → e2.F a = none → ¬ e2.A a → e.H a = none → IsL K e2.α e2.F ysAll vs → Q (.ref a) e2.H) : tComp μ (tDI K C γ) (tDG K C β) (tDT K C p) (tD K C g) σ H Q := by
  refine ⟨e, Ω, ρ, ds, Ω1, eH, w, rl, q1, fun e' J x' w' wk a ha => ?_⟩
  refine ⟨fun i m σ' H' => m = ds.length - i ∧ i ≤ ds.length ∧ CInv K C β p g ds a ysAll Ωf e' i σ' H', ⟨ds.length, by simp, Nat.zero_le _, ⟨e'.α, e'.F, e'.A, upd e'.H a (.lst [])⟩, Ω1, innerD μ ρ, [], [], ysAll, rfl, ⟨?_, ?_, fun j es => inner_own, upd_same, w'.nF ha, fun z => (w'.ah a z).1 ha, .nil, ?_, by simpa using q2, rfl, Nat.zero_le _⟩⟩, ?_⟩
  · refine ⟨fun b u hb => ?_, w'.fa, fun b hb => ?_, w'.ol, w'.nd, fun n b u h1 h2 => ⟨(w'.ob n b u h1 h2).1, (w'.ob n b u h1 h2).2.keep (fun z hz => ?_) (Same.refl _) ⟨[], by simp⟩⟩⟩
    · show upd e'.H a _ b = some u
      rw [upd_ne (ne_of_none (w'.fh b u hb) ha)]; exact w'.fh b u hb
    · show upd e'.H a _ b ≠ none ∧ ∀ xs, upd e'.H a _ b ≠ some (.tup xs)
      rw [upd_ne (fun z => (w'.ah b hb).1 (by rw [z]; exact ha))]; exact w'.ah b hb
    · show upd e'.H a _ b = some z
      rw [upd_ne (ne_of_none hz ha)]; exact hz
  · have r1 := inner_rel (μ := μ) (rl.ext x')
    exact ⟨r1.len, r1.dat, fun j es h => absurd h inner_own, r1.sep⟩
  · refine ⟨fun b o' u hb => by show upd e'.H a _ b = some (.frz o' u); rw [upd_ne (ne_of_none hb ha)]; exact hb, fun b u hb _ => ?_, fun b u hb => ⟨u, ?_⟩, Same.refl _, fun b u hb => .inl hb, fun b hb => .inl hb, fun b hb => hb, [], by simp⟩
    · show upd e'.H a _ b = some u
      rw [upd_ne (ne_of_none hb ha)]; exact hb
    · show upd e'.H a _ b = some u
      rw [upd_ne (ne_of_none hb ha)]; exact hb
  · rintro i m σ2 H2 ⟨rfl, hil, e2, Ω2, ρ2, vs, ys0, ys1, rfl, ⟨w2, r2, no2, ha2, hF2, hA2, iy, x2, q3, ey, hy⟩⟩
    obtain ⟨stop, go⟩ := wk i e2 x2.ff x2.al w2.fh
    by_cases hlt : i < ds.length
    · have hd : ds[i]? = some ds[i] := List.getElem?_eq_getElem hlt
      obtain ⟨g1, y1⟩ := go _ hd
      have edrop : ds.drop i = ds[i] :: ds.drop (i + 1) := List.drop_eq_getElem_cons hlt
      rw [edrop] at q3
      refine .inr ⟨g1, fun σ' H' => i + 1 ≤ ds.length ∧ CInv K C β p g ds a ysAll Ωf e' (i + 1) σ' H', fun σ' H' hN => ⟨ds.length - (i + 1), by omega, rfl, hN⟩, fun x H' hyl => ?_⟩
      obtain ⟨e2', rfl, ix, up⟩ := y1 x H' hyl
      obtain ⟨xx, ww⟩ := up C Ω2 w2
      obtain ⟨hh', hf', ha'⟩ := xx.keepOwn ha2 hF2 hA2
      replace r2 := r2.ext xx
      replace iy := iy.ext xx
      replace x2 := x2.trans xx
      clear y1 g1 stop go w2 ha2 hF2 hA2
      revert r2 iy x2 ww hh' hf' ha' ix
      generalize e2' = e2
      intro ix w2 ha2 hF2 hA2 r2 iy x2
      unfold compD at q3
      cases q4 : β ds[i] ρ2 with
      | none => rw [q4] at q3; cases q3
      | some ρ3 =>
        rw [q4] at q3
        dsimp only at q3
        refine ⟨e2, Ω2, ρ2, _, ρ3, rfl, w2, r2, ix, q4, fun σ3 r3 o3 => ?_⟩
        have no3 : ∀ (j : Nat) (es : List D), ρ3[j]? ≠ some (.own es) := fun j es h => no2 j es (o3 j es h).1
        cases q5 : p ρ3 Ω2 with
        | none => rw [q5] at q3; cases q3
        | some p5 =>
          obtain ⟨b, Ω3⟩ := p5
          rw [q5] at q3
          refine ⟨e2, Ω2, ρ3, b, Ω3, rfl, w2, r3, q5, fun e3 x3 w3 => ?_⟩
          cases b with
          | false =>
            refine iteF ?_
            obtain ⟨z1, z2, z3⟩ := x3.keepOwn ha2 hF2 hA2
            exact ⟨hlt, e3, Ω3, ρ3, vs, ys0, ys1, rfl, ⟨w3, r3.ext x3, no3, z1, z2, z3, iy.ext x3, x2.trans x3, q3, ey, Nat.le_succ_of_le hy⟩⟩
          | true =>
            refine iteT ?_
            dsimp only at q3
            cases q6 : g ρ3 Ω3 with
            | none => rw [q6] at q3; cases q3
            | some p6 =>
              obtain ⟨y, Ω4⟩ := p6
              rw [q6] at q3
              dsimp only at q3
              cases q7 : compD β p g (ds.drop (i + 1)) ρ3 Ω4 with
              | none => rw [q7] at q3; cases q3
              | some p7 =>
                obtain ⟨ys2, Ω5⟩ := p7
                rw [q7] at q3
                cases q3
                refine ⟨e3, Ω3, ρ3, y, Ω4, rfl, w3, r3.ext x3, q6, fun v e4 x4 w4 i4 => ?_⟩
                obtain ⟨z1, z2, z3⟩ := (x3.trans x4).keepOwn ha2 hF2 hA2
                have x24 := x3.trans x4
                refine ⟨vs, z1, by rw [← iy.length]; exact big_lt (by omega), hlt, ⟨e4.α, e4.F, e4.A, upd e4.H a (.lst (vs ++ [v]))⟩, Ω4, ρ3, _, ys0 ++ [y], ys2, rfl, ⟨⟨fun b u hb => ?_, w4.fa, fun b hb => ?_, w4.ol, w4.nd, fun n b u h1 h2 => ⟨(w4.ob n b u h1 h2).1, (w4.ob n b u h1 h2).2.keep (fun z hz => ?_) (Same.refl _) ⟨[], by simp⟩⟩⟩,
                  ⟨((r3.ext x3).ext x4).len, ((r3.ext x3).ext x4).dat, fun j es h => absurd h (no3 j es), ((r3.ext x3).ext x4).sep⟩, no3, upd_same, z2, z3, (iy.ext x24).append (.cons i4 .nil), ⟨fun b o' u hb => by show upd e4.H a _ b = some (.frz o' u); rw [upd_ne (ne_of_none hb ha)]; exact (x2.trans x24).fz b o' u hb, fun b u hb hn => ?_, fun b u hb => ?_, (x2.trans x24).ff, (x2.trans x24).fn, (x2.trans x24).an, (x2.trans x24).aa, (x2.trans x24).al⟩, q7, by rw [← ey]; simp, by simp; omega⟩⟩
                · show upd e4.H a _ b = some u
                  rw [upd_ne (fun z => by subst z; rw [z2] at hb; cases hb)]; exact w4.fh b u hb
                · show upd e4.H a _ b ≠ none ∧ ∀ xs, upd e4.H a _ b ≠ some (.tup xs)
                  rw [upd_ne (fun z => z3 (by rw [← z]; exact hb))]; exact w4.ah b hb
                · show upd e4.H a _ b = some z
                  rw [upd_ne (fun y => z3 (by rw [← y]; exact (w4.ob n b u h1 h2).1))]; exact hz
                · show upd e4.H a _ b = some u
                  rw [upd_ne (ne_of_none hb ha)]; exact (x2.trans x24).hk b u hb hn
                · obtain ⟨u', z⟩ := (x2.trans x24).dm b u hb
                  exact ⟨u', by show upd e4.H a _ b = some u'; rw [upd_ne (ne_of_none hb ha)]; exact z⟩
    · have ei : i = ds.length := by omega
      subst ei
      rw [List.drop_length] at q3
      cases q3
      rw [List.append_nil] at ey
      subst ey
      refine .inl ⟨stop rfl, ?_⟩
      exact fin a vs e2 (x'.trans x2) w2 ha2 hF2 hA2 (x'.back ha) iy
theorem comp_read {σ : St} {H : Hp} {Q : VK} (hw : tD K C (gComp μ γ β p g) σ H Q) : tComp μ (tDI K C γ) (tDG K C β) (tDT K C p) (tD K C g) σ H Q := by
  obtain ⟨e, Ω, ρ, d, Ωf, eH, w, rl, q, kk⟩ := hw
  unfold gComp at q
  cases q1 : γ ρ Ω with
  | none => rw [q1] at q; cases q
  | some p1 =>
    obtain ⟨ds, Ω1⟩ := p1
    rw [q1] at q
    dsimp only at q
    split at q
    · rename_i hbig
      cases q2 : compD β p g ds (innerD μ ρ) Ω1 with
      | none => rw [q2] at q; cases q
      | some p2 =>
        obtain ⟨ysAll, Ω2⟩ := p2
        rw [q2] at q
        cases q
        refine comp_gen eH w rl q1 hbig q2 fun a vs e2 x2 w2 ha2 hF2 hA2 ha iy => ?_
        have ff : Same e2.F (upd e2.F a (.lst vs)) := fun b o hb => by rw [upd_ne (ne_of_none hb hF2)]; exact hb
        refine kk (.ref a) ⟨e2.α, upd e2.F a (.lst vs), e2.A, e2.H⟩ ⟨x2.fz, x2.hk, x2.dm, x2.ff.trans ff, fun b u hb => ?_, x2.an, x2.aa, x2.al⟩ ⟨fun b u hb => ?_, fun b hb => ?_, w2.ah, w2.ol, w2.nd, fun n b u h1 h2 => ⟨(w2.ob n b u h1 h2).1, (w2.ob n b u h1 h2).2.keep (fun z hz => hz) ff ⟨[], by simp⟩⟩⟩ ?_
        · have hb : upd e2.F a (.lst vs) b = some u := hb
          by_cases hba : b = a
          · subst hba; exact .inr (.inl ha)
          · rw [upd_ne hba] at hb; exact x2.fn b u hb
        · have hb : upd e2.F a (.lst vs) b = some u := hb
          by_cases hba : b = a
          · subst hba; rw [upd_same] at hb; cases hb; exact ha2
          · rw [upd_ne hba] at hb; exact w2.fh b u hb
        · show upd e2.F a _ b = none
          rw [upd_ne (fun z => hA2 (by rw [← z]; exact hb))]; exact w2.fa b hb
        · rw [Is]
          exact ⟨a, vs, rfl, upd_same, IsL.mono ff ⟨[], by simp⟩ _ iy⟩
    · cases q
end
section
variable {X : Cx} {C : Cl} {tg iter elt : Expr} {ifs : List Expr} {scope : Scope} {pos : Pos} {N : List Str} {μ : List (Option Nat)} {γ : ADen} {β : BDen} {p : TDen} {g : Den}
theorem pd_comp (hc : X.calm = true) (hcell : ∀ y ∈ scope.names, y.2 ≠ .cell) (hkind : scope.kind = .function) (hnames : ∀ y ∈ scope.names, y.2 = .local → scope.names.lookup y.1 = some .local)
    (hfree : ∀ y ∈ scope.names, y.2 = .free → X.env.kindOf y.1 = some .cell ∨ X.env.kindOf y.1 = some .free)
    (hhas : ∀ x, ((relabel scope X.env).names.lookup x = some .cell ∨ (relabel scope X.env).names.lookup x = some .free) → (x, NameKind.free) ∈ scope.names)
    (hμ : muOk X.N X.env.scope N (relabel scope X.env) μ = true) (hi : PDI X C tg iter γ)
    (hg : ∀ fp A s H, PDG (cxComp X N scope (clos X.env.cells scope.names []) A fp s H) C tg β) (ht : ∀ fp A s H, PDTs (cxComp X N scope (clos X.env.cells scope.names []) A fp s H) C ifs p) (he : ∀ fp A s H, PD (cxComp X N scope (clos X.env.cells scope.names []) A fp s H) C elt g)
    (hs : ∀ x, foldedSetIterable iter X.env x = pure x := by intro _; rfl) : PD X C (.ListComp elt [⟨tg, iter, ifs, 0⟩] scope pos) (gComp μ γ β p g) :=
  pe_imp (pe_comp (g := tDG X.K C β) (tt := tDT X.K C p) (te := tD X.K C g) hc hcell hkind hnames hfree hhas hμ hi hg ht he hs) fun _ _ _ hw => comp_read hw
theorem pds_comp {i : Nat} {y : Str} {py spos : Pos} (hN : X.N.Nodup) (hiN : X.N[i]? = some y) (hx : Loc X.env.scope y) (hc : X.calm = true) (hcell : ∀ y ∈ scope.names, y.2 ≠ .cell) (hkind : scope.kind = .function) (hnames : ∀ y ∈ scope.names, y.2 = .local → scope.names.lookup y.1 = some .local)
    (hfree : ∀ y ∈ scope.names, y.2 = .free → X.env.kindOf y.1 = some .cell ∨ X.env.kindOf y.1 = some .free)
    (hhas : ∀ x, ((relabel scope X.env).names.lookup x = some .cell ∨ (relabel scope X.env).names.lookup x = some .free) → (x, NameKind.free) ∈ scope.names)
    (hμ : muOk X.N X.env.scope N (relabel scope X.env) μ = true) (hi : PDI X C tg iter γ)
    (hg : ∀ fp A s H, PDG (cxComp X N scope (clos X.env.cells scope.names []) A fp s H) C tg β) (ht : ∀ fp A s H, PDTs (cxComp X N scope (clos X.env.cells scope.names []) A fp s H) C ifs p) (he : ∀ fp A s H, PD (cxComp X N scope (clos X.env.cells scope.names []) A fp s H) C elt g)
    (hsw : swapsWith (.ListComp elt [⟨tg, iter, ifs, 0⟩] scope pos) (some (.Name y py)) spos.line X.env = pure true := by rfl)
    (hf : X.fn y = true ∨ X.env.scope.names.lookup y = some .local := by first | exact .inl rfl | exact .inr rfl | assumption)
    (hs : ∀ x, foldedSetIterable iter X.env x = pure x := by intro _; rfl) : PDS X C (.Assign [.Name y py] (.ListComp elt [⟨tg, iter, ifs, 0⟩] scope pos) spos) (sSet i (gComp μ γ β p g)) := fun e₀ =>
  ps_imp (ps_comp (g := tDG X.K C β) (tt := tDT X.K C p) (te := tD X.K C g) hN hiN hx hc hcell hkind hnames hfree hhas hμ hi hg ht he hsw hf hs) fun Dn σ H hw => by
    obtain ⟨e, Ω, ρ, o, eH, r, q, k⟩ := hw
    have h2 : tAsg (tD X.K C (gComp μ γ β p g)) (gName i) Dn σ H := set_read ⟨e, Ω, ρ, o, eH, r, q, k⟩
    exact comp_read h2
end
end DL
set_option Elab.async false
set_option linter.all false
set_option maxRecDepth 100000
namespace DL
open PySem PySem.Spec PyProof.Rows L2

/-! ### a def of the text, as its callers need it -/
structure Fn (P : Program) (w : World) (K : PySem.W.Frag) (mg : Str → Option Value) (base : Heap) (C : Cl) (k : Nat) (n : Str) (F : FDen) : Prop where
  ex : ∃ f fd ps, mg n = some (.ref f) ∧ PySem.W.keepIn K (.ref f) = true ∧ Binds K fd ps [] ∧ FnOk P w K mg base CX0 k f fd ps (spD K C F)
/-- the def st stands at the top under its name -/
structure TF (K : PySem.W.Frag) (mg : Str → Option Value) (n : Str) (st : Stmt) : Prop where
  ex : ∃ f fd, mg n = some (.ref f) ∧ Fun K n n st f fd
theorem fn_F {P : Program} {w : World} {K : PySem.W.Frag} {mg : Str → Option Value} {base : Heap} {C : Cl} {x : Str} {st : Stmt} {N ps : List Str} {k n m : Nat} {s : SDen} (T : TF K mg x st) (S : FnScope N ps (defScope st)) (hn : ps.length = n) (hm : N.length = m)
    (hb : ∀ (kV doc pm : Value) (an : Option Addr) (cdv ct : Value) (us : List Value), us.length = ps.length → bindArgs (PySem.W.fnOf x x (defArgs st) (defBody st) (defScope st) .none kV doc pm an cdv ct) ⟨us, []⟩ = pure (ps.zip us))
    (hbody : ∀ (f : Addr) (cdv : Value) (A : Around) (outer : List Env) (sh : Shared) (H : Hp) (E : XK), Room k (A.deeper (envOfC x (defScope st) sh.heap.objs.size f cdv)) →
      PDB (cxOf CX0 P w K mg base N x (defScope st) f cdv A outer sh H E).nox C (defBody st) s) : Fn P w K mg base C (k + 1) x (runD n m s) := by
  obtain ⟨f, fd, hm', F⟩ := T.ex
  exact ⟨f, fd, ps, hm', F.kp, F.binds hb, fn_D F S hn hm (hbody f)⟩
section
variable {X : Cx} {C : Cl} {k : Nat} {F : FDen} {n : Str} {p pos : Pos} {x : Expr} {es : List Expr} {ga : ADen}
theorem pd_callF (G : Fn X.prog X.w X.K X.mg X.base C k n F) (hr : Room k X.A) (hg : Gl X n)
    (ha : PDA X C (x :: es) ga) (hdb : (n == ("__debug__" : Str)) = false := by decide) (he : starEach (x :: es) X.env = (false, eval x X.env) :: starEach es X.env := by rfl) (hpl : (backTo pos (starEach es X.env)).any (·.1) = false := by rfl) :
    PD X C (.Call (.Name n p) (x :: es) [] pos) (gCall F ga) := by
  obtain ⟨f, fd, ps, hm, hk, hb, ok⟩ := G.ex
  exact pd_call ok hr hg hm hk hb ha hdb he hpl
end
/-! ### comprehensions: one look -/
def relabelS (scope osc : Scope) : Scope :=
  { scope with names := scope.names.map fun (n, k) => if (k == .free && osc.kind == .function && osc.names.lookup n == some .cell) then (n, .cell) else (n, k) }
def compOk (oN : List Str) (osc : Scope) (N : List Str) (scope : Scope) (μ : List (Option Nat)) : Bool :=
  scope.names.all (fun y => decide (y.2 ≠ .cell)) && decide (scope.kind = .function) && scope.names.all (fun y => !decide (y.2 = .local) || decide (scope.names.lookup y.1 = some .local)) &&
    scope.names.all (fun y => !decide (y.2 = .free) || decide (osc.names.lookup y.1 = some .cell)) &&
    (relabelS scope osc).names.all (fun y => !(decide (y.2 = .cell) || decide (y.2 = .free)) || decide ((y.1, NameKind.free) ∈ scope.names)) && muOk oN osc N (relabelS scope osc) μ
structure CompOk (X : Cx) (N : List Str) (scope : Scope) (μ : List (Option Nat)) : Prop where
  cell : ∀ y ∈ scope.names, y.2 ≠ .cell
  kind : scope.kind = .function
  names : ∀ y ∈ scope.names, y.2 = .local → scope.names.lookup y.1 = some .local
  free : ∀ y ∈ scope.names, y.2 = .free → X.env.kindOf y.1 = some .cell ∨ X.env.kindOf y.1 = some .free
  has : ∀ x, ((relabel scope X.env).names.lookup x = some .cell ∨ (relabel scope X.env).names.lookup x = some .free) → (x, NameKind.free) ∈ scope.names
  mu : muOk X.N X.env.scope N (relabel scope X.env) μ = true
theorem compOk_of {X : Cx} {oN : List Str} {osc : Scope} {N : List Str} {scope : Scope} {μ : List (Option Nat)} (hN : X.N = oN) (hs : X.env.scope = osc) (h : compOk oN osc N scope μ = true) : CompOk X N scope μ := by
  subst hN hs
  unfold compOk at h
  simp only [Bool.and_eq_true] at h
  obtain ⟨⟨⟨⟨⟨h1, h2⟩, h3⟩, h4⟩, h5⟩, h6⟩ := h
  refine ⟨fun y hy => of_decide_eq_true (List.all_eq_true.mp h1 y hy), of_decide_eq_true h2, fun y hy e => ?_, fun y hy e => .inl ?_, fun x hx => ?_, h6⟩
  · have := List.all_eq_true.mp h3 y hy
    simp only [Bool.or_eq_true, Bool.not_eq_true', decide_eq_false_iff_not, decide_eq_true_eq] at this
    exact this.resolve_left fun z => z e
  · have := List.all_eq_true.mp h4 y hy
    simp only [Bool.or_eq_true, Bool.not_eq_true', decide_eq_false_iff_not, decide_eq_true_eq] at this
    exact this.resolve_left fun z => z e
  · have hx : (relabelS scope X.env.scope).names.lookup x = some .cell ∨ (relabelS scope X.env.scope).names.lookup x = some .free := hx
    have q : ∀ k : NameKind, (k = .cell ∨ k = .free) → (relabelS scope X.env.scope).names.lookup x = some k → (x, NameKind.free) ∈ scope.names := fun k hk hl => by
      have := List.all_eq_true.mp h5 (x, k) (PySem.mem_of_lookup hl)
      simp only [Bool.or_eq_true, Bool.not_eq_true', Bool.or_eq_false_iff, decide_eq_false_iff_not, decide_eq_true_eq] at this
      rcases this with ⟨a, b⟩ | c
      · exact (hk.elim a b).elim
      · exact c
    rcases hx with hx | hx
    · exact q _ (.inl rfl) hx
    · exact q _ (.inr rfl) hx
section
variable {X : Cx} {C : Cl} {tg iter elt : Expr} {ifs : List Expr} {scope : Scope} {pos : Pos} {N : List Str} {μ : List (Option Nat)} {γ : ADen} {β : BDen} {p : TDen} {g : Den}
theorem pd_compN (hc : X.calm = true) (ok : CompOk X N scope μ) (hi : PDI X C tg iter γ)
    (hg : ∀ fp A s H, PDG (cxComp X N scope (clos X.env.cells scope.names []) A fp s H) C tg β) (ht : ∀ fp A s H, PDTs (cxComp X N scope (clos X.env.cells scope.names []) A fp s H) C ifs p) (he : ∀ fp A s H, PD (cxComp X N scope (clos X.env.cells scope.names []) A fp s H) C elt g)
    (hs : ∀ x, foldedSetIterable iter X.env x = pure x := by intro _; rfl) : PD X C (.ListComp elt [⟨tg, iter, ifs, 0⟩] scope pos) (gComp μ γ β p g) :=
  pd_comp hc ok.cell ok.kind ok.names ok.free ok.has ok.mu hi hg ht he hs
theorem pds_compN {i : Nat} {y : Str} {py spos : Pos} (hN : X.N.Nodup) (hiN : X.N[i]? = some y) (hx : Loc X.env.scope y) (hc : X.calm = true) (ok : CompOk X N scope μ) (hi : PDI X C tg iter γ)
    (hg : ∀ fp A s H, PDG (cxComp X N scope (clos X.env.cells scope.names []) A fp s H) C tg β) (ht : ∀ fp A s H, PDTs (cxComp X N scope (clos X.env.cells scope.names []) A fp s H) C ifs p) (he : ∀ fp A s H, PD (cxComp X N scope (clos X.env.cells scope.names []) A fp s H) C elt g)
    (hsw : swapsWith (.ListComp elt [⟨tg, iter, ifs, 0⟩] scope pos) (some (.Name y py)) spos.line X.env = pure true := by rfl)
    (hf : X.fn y = true ∨ X.env.scope.names.lookup y = some .local := by first | exact .inl rfl | exact .inr rfl | assumption)
    (hs : ∀ x, foldedSetIterable iter X.env x = pure x := by intro _; rfl) : PDS X C (.Assign [.Name y py] (.ListComp elt [⟨tg, iter, ifs, 0⟩] scope pos) spos) (sSet i (gComp μ γ β p g)) :=
  pds_comp hN hiN hx hc ok.cell ok.kind ok.names ok.free ok.has ok.mu hi hg ht he hsw hf hs
end
/-! ### more of one's own lists; -x -/
section
variable {X : Cx} {C : Cl} {x b : Expr} {g : Den} {pos : Pos}
theorem pds_app {i : Nat} {n : Str} {p ap cp : Pos} (hv : PE X (.Name n p) (tVar i)) (he : PD X C x g)
    (hbase : attributeBase (.Name n p) "append" X.env (eval (.Name n p) X.env) = eval (.Name n p) X.env := by rfl)
    (hline : (ap.endLine == cp.line) = true := by rfl) (hs1 : starEach [x] X.env = (false, eval x X.env) :: starEach [] X.env := by rfl)
    (hfew : ((backTo cp (starEach [x] X.env)).all (fun x => !x.1) && (backToKw cp (keywordEach [] X.env)).all (fun x => x.1.isSome)
      && decide ([x].length + ([] : List Keyword).length + (if ([] : List Keyword).isEmpty then 0 else 1) < 30)) = true := by rfl)
    (hpl : (backTo cp (starEach [] X.env)).any (·.1) = false := by rfl)
    (hs : swapsWith (.Call (.Attribute (.Name n p) "append" ap) [x] [] cp) none pos.line X.env = pure false := by rfl) :
    PDS X C (.Expr (.Call (.Attribute (.Name n p) "append" ap) [x] [] cp) pos) (sApp i g) := fun e₀ =>
  ps_imp (ps_expr (pe_bm PySem.F.plainAttrs_list PySem.F.slot_list_append PySem.F.type_list_append mt_append hv (pa_cons he pa_nil hs1) hbase hfew hline hs1 hpl) hs) fun Dn σ H hw => app_read hw
def gNeg (g : Den) : Den := fun ρ Ω => match g ρ Ω with
  | some (.int i, Ω') => some (.int (-i), Ω')
  | _ => none
theorem pd_neg (h : PD X C x g) : PD X C (.UnaryOp .USub x pos) (gNeg g) := pe_imp (pe_un un_neg h) fun σ H Q hw' => by
  obtain ⟨e, Ω, ρ, d, Ω', eH, w, rl, q, kk⟩ := hw'
  unfold gNeg at q
  cases q1 : g ρ Ω with
  | none => rw [q1] at q; cases q
  | some p1 =>
    obtain ⟨d1, Ω1⟩ := p1
    rw [q1] at q
    refine ⟨e, Ω, ρ, d1, Ω1, eH, w, rl, q1, fun v e' x' w' i' => ?_⟩
    cases d1 with
    | int i =>
      rw [Is] at i'
      cases q
      exact ⟨i, i', kk _ e' x' w' (by rw [Is])⟩
    | _ => cases q
end
abbrev C0 : Cl := fun _ => none
end DL
set_option Elab.async false
set_option linter.all false
set_option maxRecDepth 100000
/-! what each word is worth at a place -/
namespace DL
open PySem
section
variable (ρ : List Sl) (Ω : List OS)
@[simp] theorem ap_var (i : Nat) : gVar i ρ Ω = match ρ[i]? with | some (.dat d) => some (d, Ω) | _ => none := (rfl)
@[simp] theorem ap_c (d : D) : gC d ρ Ω = some (d, Ω) := (rfl)
@[simp] theorem ap_op (r : D → D → Option D) (f g : Den) : gOp r f g ρ Ω = match f ρ Ω with
  | some (x, Ω₁) => (match g ρ Ω₁ with
    | some (y, Ω₂) => (match r x y with
      | some z => some (z, Ω₂)
      | none => none)
    | none => none)
  | none => none := (rfl)
@[simp] theorem ap_T (g : Den) : gT g ρ Ω = match g ρ Ω with | some (.bl b, Ω') => some (b, Ω') | _ => none := (rfl)
@[simp] theorem ap_andT (p q : TDen) : gAndT p q ρ Ω = match p ρ Ω with | some (true, Ω') => q ρ Ω' | some (false, Ω') => some (false, Ω') | none => none := (rfl)
@[simp] theorem ap_orT (p q : TDen) : gOrT p q ρ Ω = match p ρ Ω with | some (true, Ω') => some (true, Ω') | some (false, Ω') => q ρ Ω' | none => none := (rfl)
@[simp] theorem ap_notT (p : TDen) : gNotT p ρ Ω = match p ρ Ω with | some (k, Ω') => some (!k, Ω') | none => none := (rfl)
@[simp] theorem ap_andV (f g : Den) : gAndV f g ρ Ω = match f ρ Ω with | some (.bl true, Ω') => g ρ Ω' | some (.bl false, Ω') => some (.bl false, Ω') | _ => none := (rfl)
@[simp] theorem ap_orV (f g : Den) : gOrV f g ρ Ω = match f ρ Ω with | some (.bl true, Ω') => some (.bl true, Ω') | some (.bl false, Ω') => g ρ Ω' | _ => none := (rfl)
@[simp] theorem ap_notV (f : Den) : gNotV f ρ Ω = match f ρ Ω with | some (.bl k, Ω') => some (.bl (!k), Ω') | _ => none := (rfl)
@[simp] theorem ap_if (p : TDen) (f g : Den) : gIf p f g ρ Ω = match p ρ Ω with | some (true, Ω') => f ρ Ω' | some (false, Ω') => g ρ Ω' | none => none := (rfl)
@[simp] theorem ap_nil : gNil ρ Ω = some ([], Ω) := (rfl)
@[simp] theorem ap_cons (f : Den) (g : ADen) : gCons f g ρ Ω = match f ρ Ω with
  | some (d, Ω1) => (match g ρ Ω1 with | some (ds, Ω2) => some (d :: ds, Ω2) | none => none)
  | none => none := (rfl)
@[simp] theorem ap_tup (g : ADen) : gTup g ρ Ω = match g ρ Ω with | some (ds, Ω') => (if ds.length ≤ 100000 then some (.tup ds, Ω') else none) | none => none := (rfl)
@[simp] theorem ap_lst (g : ADen) : gLst g ρ Ω = match g ρ Ω with | some (ds, Ω') => (if ds.length ≤ 100000 then some (.lst ds, Ω') else none) | none => none := (rfl)
@[simp] theorem ap_noPart : gNoPart ρ Ω = some (none, Ω) := (rfl)
@[simp] theorem ap_part (g : Den) : gPart g ρ Ω = match g ρ Ω with | some (.int i, Ω') => some (some i, Ω') | _ => none := (rfl)
@[simp] theorem ap_sl (f : Den) (lo hi : PDen) : gSl f lo hi ρ Ω = match f ρ Ω with
  | some (d, Ω1) => (match lo ρ Ω1 with
    | some (l, Ω2) => (match hi ρ Ω2 with
      | some (u, Ω3) => (match slD d l u with | some z => some (z, Ω3) | none => none)
      | none => none)
    | none => none)
  | none => none := (rfl)
@[simp] theorem ap_CB (r : List D → Option D) (g : ADen) : gCB r g ρ Ω = match g ρ Ω with | some (ds, Ω1) => (match r ds with | some z => some (z, Ω1) | none => none) | none => none := (rfl)
@[simp] theorem ap_neg (g : Den) : gNeg g ρ Ω = match g ρ Ω with | some (.int i, Ω') => some (.int (-i), Ω') | _ => none := (rfl)
@[simp] theorem ap_call (f : FDen) (g : ADen) : gCall f g ρ Ω = match g ρ Ω with | some (ds, Ω1) => f ds Ω1 | none => none := (rfl)
@[simp] theorem ap_seq (g : Den) : gSeq g ρ Ω = match g ρ Ω with | some (d, Ω') => (match seqD d with | some ds => some (ds, Ω') | none => none) | none => none := (rfl)
@[simp] theorem ap_rng (r : List D → Option (List D)) (g : ADen) : gRng r g ρ Ω = match g ρ Ω with | some (ds, Ω') => (match r ds with | some es => some (es, Ω') | none => none) | none => none := (rfl)
@[simp] theorem ap_comp (μ : List (Option Nat)) (γ : ADen) (β : BDen) (p : TDen) (g : Den) : gComp μ γ β p g ρ Ω = match γ ρ Ω with
  | some (ds, Ω1) => (if ds.length ≤ 100000 then (match compD β p g ds (innerD μ ρ) Ω1 with | some (ys, Ω2) => some (.lst ys, Ω2) | none => none) else none)
  | none => none := (rfl)
@[simp] theorem ap_true : gTrue ρ Ω = some (true, Ω) := (rfl)
@[simp] theorem ap_next : sNext ρ Ω = some (.nx ρ Ω) := (rfl)
@[simp] theorem ap_sSeq (s t : SDen) : sSeq s t ρ Ω = match s ρ Ω with | some (.nx ρ' Ω') => t ρ' Ω' | r => r := (rfl)
@[simp] theorem ap_ghost (γ : List Sl → Option (List Sl)) (s : SDen) : sGhost γ s ρ Ω = match γ ρ with | some ρ' => s ρ' Ω | none => none := (rfl)
@[simp] theorem ap_set (i : Nat) (g : Den) : sSet i g ρ Ω = match g ρ Ω with | some (d, Ω') => some (.nx (ρ.set i (.dat d)) Ω') | none => none := (rfl)
@[simp] theorem ap_ret (g : Den) : sRet g ρ Ω = match g ρ Ω with | some (d, Ω') => some (.rt d Ω') | none => none := (rfl)
@[simp] theorem ap_sIf (p : TDen) (s t : SDen) : sIf p s t ρ Ω = match p ρ Ω with | some (true, Ω') => s ρ Ω' | some (false, Ω') => t ρ Ω' | none => none := (rfl)
@[simp] theorem ap_own (i : Nat) (g : ADen) : sOwn i g ρ Ω = match g ρ Ω with | some (ds, Ω') => (if ds.length ≤ 100000 then some (.nx (ρ.set i (.own ds)) Ω') else none) | none => none := (rfl)
@[simp] theorem ap_app (i : Nat) (g : Den) : sApp i g ρ Ω = match g ρ Ω with
  | some (d, Ω') => (match ρ[i]? with | some (.own ds) => (if ds.length < 100000 then some (.nx (ρ.set i (.own (ds ++ [d]))) Ω') else none) | _ => none)
  | none => none := (rfl)
@[simp] theorem ap_for (γ : ADen) (β : BDen) (s : SDen) : sFor γ β s ρ Ω = match γ ρ Ω with | some (ds, Ω') => forD β s ds ρ Ω' | none => none := (rfl)
@[simp] theorem ap_bName (i : Nat) (d : D) : bName i d ρ = some (ρ.set i (.dat d)) := (rfl)
@[simp] theorem for_nil (β : BDen) (s : SDen) : forD β s [] ρ Ω = some (.nx ρ Ω) := (rfl)
theorem for_cons (β : BDen) (s : SDen) (d : D) (ds : List D) : forD β s (d :: ds) ρ Ω = match β d ρ with
    | some ρ1 => (match s ρ1 Ω with
      | some (.nx ρ' Ω') => forD β s ds ρ' Ω'
      | some (.ct ρ' Ω') => forD β s ds ρ' Ω'
      | some (.bk ρ' Ω') => some (.nx ρ' Ω')
      | some (.rt z Ω') => some (.rt z Ω')
      | none => none)
    | none => none := (rfl)
@[simp] theorem comp_nil (β : BDen) (p : TDen) (g : Den) : compD β p g [] ρ Ω = some ([], Ω) := (rfl)
theorem comp_cons (β : BDen) (p : TDen) (g : Den) (d : D) (ds : List D) : compD β p g (d :: ds) ρ Ω = match β d ρ with
    | some ρ1 => (match p ρ1 Ω with
      | some (true, Ω1) => (match g ρ1 Ω1 with
        | some (y, Ω2) => (match compD β p g ds ρ1 Ω2 with
          | some (ys, Ω3) => some (y :: ys, Ω3)
          | none => none)
        | none => none)
      | some (false, Ω1) => compD β p g ds ρ1 Ω1
      | none => none)
    | none => none := (rfl)
theorem ap_run (n m : Nat) (s : SDen) (ds : List D) : runD n m s ds Ω = if ds.length = n then (match s (ds.map Sl.dat ++ List.replicate (m - n) Sl.und) Ω with
    | some (.rt d Ω') => some (d, Ω')
    | some (.nx _ Ω') => some (.non, Ω')
    | _ => none)
  else none := (rfl)
@[simp] theorem ap_dI (c : Int → Int → Bool) (f : Int → Int → Int) (i j : Int) : dI c f (.int i) (.int j) = if c i j = true then some (.int (f i j)) else none := (rfl)
@[simp] theorem ap_dB (f : Int → Int → Bool) (i j : Int) : dB f (.int i) (.int j) = some (.bl (f i j)) := (rfl)
@[simp] theorem add_int (i j : Int) : addD (.int i) (.int j) = some (.int (i + j)) := (rfl)
@[simp] theorem add_lst (xs ys : List D) : addD (.lst xs) (.lst ys) = if xs.length + ys.length ≤ 100000 then some (.lst (xs ++ ys)) else none := (rfl)
@[simp] theorem ix_lst (xs : List D) (i : Int) : ixD (.lst xs) (.int i) = L2.atI xs i := (rfl)
@[simp] theorem ix_tup (xs : List D) (i : Int) : ixD (.tup xs) (.int i) = L2.atI xs i := (rfl)
@[simp] theorem ix_scr (ns : List Int) (i : Int) : ixD (.scr ns) (.int i) = (L2.atI ns i).map D.int := (rfl)
@[simp] theorem sl_lst (xs : List D) (lo hi : Option Int) : slD (.lst xs) lo hi = some (.lst (cutL xs lo hi)) := (rfl)
@[simp] theorem sl_scr (ns : List Int) (lo hi : Option Int) : slD (.scr ns) lo hi = some (.lst ((cutL ns lo hi).map D.int)) := (rfl)
@[simp] theorem len_lst (xs : List D) : lenD [.lst xs] = some (.int xs.length) := (rfl)
@[simp] theorem len_tup (xs : List D) : lenD [.tup xs] = some (.int xs.length) := (rfl)
@[simp] theorem len_scr (ns : List Int) : lenD [.scr ns] = some (.int ns.length) := (rfl)
@[simp] theorem max_2 (i j : Int) : max2D [.int i, .int j] = some (.int (if j > i then j else i)) := (rfl)
@[simp] theorem int_i (i : Int) : int1D [.int i] = some (.int i) := (rfl)
@[simp] theorem int_b (b : Bool) : int1D [.bl b] = some (.int (if b then 1 else 0)) := (rfl)
@[simp] theorem seq_lst (xs : List D) : seqD (.lst xs) = some xs := (rfl)
@[simp] theorem seq_scr (ns : List Int) : seqD (.scr ns) = some (ns.map D.int) := (rfl)
theorem rng_1 {j : Int} (h0 : -1000000 ≤ j) (h : j ≤ 1000000) : rng1 [.int j] = some (upD 0 j.toNat) := grd_pos (by omega)
theorem mul_i {i j : Int} (h : (-1000000000000000000 < i ∧ i < 1000000000000000000) ∨ (-1000000000000000000 < j ∧ j < 1000000000000000000)) : mulD (.int i) (.int j) = some (.int (i * j)) := grd_pos (by omega)
theorem mul_l {xs : List D} {k : Int} (h0 : -1000000 ≤ k) (h : k ≤ 1000000) (hl : xs.length * k.toNat ≤ 100000) : mulD (.lst xs) (.int k) = some (.lst (List.replicate k.toNat xs).flatten) := grd_pos ⟨by omega, by omega, hl⟩
end
theorem run_rt {n m : Nat} {s : SDen} {ds : List D} {Ω Ω' : List OS} {d : D} (hl : ds.length = n) (h : s (ds.map Sl.dat ++ List.replicate (m - n) Sl.und) Ω = some (.rt d Ω')) : runD n m s ds Ω = some (d, Ω') := by
  rw [ap_run, if_pos hl, h]
theorem seq_nx {s t : SDen} {ρ ρ' : List Sl} {Ω Ω' : List OS} (h : s ρ Ω = some (.nx ρ' Ω')) : sSeq s t ρ Ω = t ρ' Ω' := by rw [ap_sSeq, h]
theorem seq_rt {s t : SDen} {ρ : List Sl} {Ω Ω' : List OS} {d : D} (h : s ρ Ω = some (.rt d Ω')) : sSeq s t ρ Ω = some (.rt d Ω') := by rw [ap_sSeq, h]
@[simp] theorem upD_length (lo : Int) (n : Nat) : (upD lo n).length = n := by simp [upD]
/-! places -/
theorem atI_nat' {β : Type} (xs : List β) (i : Nat) (h : i < xs.length) : L2.atI xs (i : Int) = some xs[i] := L2.atI_nat (List.getElem?_eq_getElem h)
theorem atI_map {β γ : Type} (f : β → γ) (xs : List β) (i : Int) : L2.atI (xs.map f) i = (L2.atI xs i).map f := by
  unfold L2.atI
  rw [List.length_map]
  cases L2.ixN xs.length i with
  | none => rfl
  | some j => simp
theorem cut_to {β : Type} (xs : List β) (k : Nat) : cutL xs none (some (k : Int)) = xs.take k := by
  unfold cutL
  rw [HT.sIx_none, HT.sIx_nat, List.drop_zero, Nat.sub_zero]
  rcases Nat.le_total k xs.length with h | h
  · rw [Nat.min_eq_left h]
  · rw [Nat.min_eq_right h, List.take_length, List.take_of_length_le h]
theorem cut_from {β : Type} (xs : List β) (k : Nat) : cutL xs (some (k : Int)) none = xs.drop k := by
  unfold cutL
  rw [HT.sIx_none, HT.sIx_nat]
  rcases Nat.le_total k xs.length with h | h
  · rw [Nat.min_eq_left h, List.take_of_length_le (by simp)]
  · rw [Nat.min_eq_right h, List.drop_length, List.drop_eq_nil_of_le h]; simp
theorem cut_map {β γ : Type} (f : β → γ) (xs : List β) (lo hi : Option Int) : cutL (xs.map f) lo hi = (cutL xs lo hi).map f := by
  unfold cutL
  rw [List.length_map, List.map_take, List.map_drop]
/-! == -/
theorem toPs_map {β : Type} (f : β → D) (g : β → PyData) (h : ∀ x, toP (f x) = g x) : ∀ xs : List β, toPs (xs.map f) = xs.map g
  | [] => by rw [List.map_nil, List.map_nil, toPs]
  | x :: xs => by rw [List.map_cons, List.map_cons, toPs, h, toPs_map f g h xs]
theorem toP_ints (ns : List Int) : toP (.lst (ns.map D.int)) = .list (ns.map PyData.int) := by
  rw [toP, toPs_map D.int PyData.int (fun _ => by rw [toP])]
theorem shaped_int (i : Int) : SeqAt.shaped (toP (.int i)) = true := by rw [toP]; rfl
theorem shaped_bl (b : Bool) : SeqAt.shaped (toP (.bl b)) = true := by rw [toP]; rfl
theorem shaped_ints (ns : List Int) : SeqAt.shaped (toP (.lst (ns.map D.int))) = true := by rw [toP_ints]; exact PySem.W.ke_shaped_ints ns
@[simp] theorem eq_int_int (neg : Bool) (i j : Int) : eqD neg (.int i) (.int j) = some (.bl (if neg then !decide (i = j) else decide (i = j))) := by
  unfold eqD
  rw [shaped_int, shaped_int]
  have e : PyData.eqv (toP (.int i)) (toP (.int j)) = decide (i = j) := by
    rw [toP, toP, PyData.eqv]
    by_cases h : i = j <;> simp [h]
  rw [e]
  rfl
@[simp] theorem eq_bl_bl (neg : Bool) (i j : Bool) : eqD neg (.bl i) (.bl j) = some (.bl (if neg then !decide (i = j) else decide (i = j))) := by
  unfold eqD
  rw [shaped_bl, shaped_bl]
  have e : PyData.eqv (toP (.bl i)) (toP (.bl j)) = decide (i = j) := by
    rw [toP, toP]
    cases i <;> cases j <;> rfl
  rw [e]
  rfl
theorem eq_ints (neg : Bool) (ns ms : List Int) : eqD neg (.lst (ns.map D.int)) (.lst (ms.map D.int)) = some (.bl (if neg then !decide (ns = ms) else decide (ns = ms))) := by
  unfold eqD
  rw [shaped_ints, shaped_ints]
  have e : PyData.eqv (toP (.lst (ns.map D.int))) (toP (.lst (ms.map D.int))) = decide (ns = ms) := by
    rw [toP_ints, toP_ints, PyData.eqv, PySem.W.ked_eqvAll]
  rw [e]
  rfl
theorem eq_ints_nil (neg : Bool) (ns : List Int) : eqD neg (.lst (ns.map D.int)) (.lst []) = some (.bl (if neg then !decide (ns = []) else decide (ns = []))) := eq_ints neg ns []
end DL
set_option Elab.async false
set_option linter.all false
set_option maxRecDepth 100000
namespace DL
open PySem PySem.Spec PyProof.Rows L2
section
variable {X : Cx} {C : Cl} {x : Expr} {g : Den} {cp ap : Pos}
end
end DL
set_option Elab.async false
set_option linter.all false
set_option maxRecDepth 100000
/-! OBJECTS: instances, dicts. -/
namespace DL
open PySem PySem.Spec PyProof.Rows L2

def OIs (K : PySem.W.Frag) (α : List Addr) (F : Hp) : Option D → Option V → Prop
  | none, none => True
  | some d, some v => Is K α F d v
  | _, _ => False
section
variable {κ : Type} [DecidableEq κ]
def valD (kvs : List (κ × D)) (k : κ) : Option D := (kvs.find? fun kv => decide (kv.1 = k)).map (·.2)
def dropD (kvs : List (κ × D)) (k : κ) : List (κ × D) := kvs.filter fun kv => decide (kv.1 ≠ k)
variable {K : PySem.W.Frag} {α : List Addr} {F : Hp}
theorem PsIs.len : ∀ {ps : List (κ × D)} {vs : List (κ × V)}, PsIs K α F ps vs → ps.length = vs.length
  | [], _, h => by rw [show _ = [] from h]; rfl
  | p :: r, _, ⟨v, t, e, _, q⟩ => by rw [e, List.length_cons, List.length_cons, q.len]
theorem PsIs.keys : ∀ {ps : List (κ × D)} {vs : List (κ × V)}, PsIs K α F ps vs → ps.map (·.1) = vs.map (·.1)
  | [], _, h => by rw [show _ = [] from h]; rfl
  | p :: r, _, ⟨v, t, e, _, q⟩ => by rw [e, List.map_cons, List.map_cons, q.keys]
theorem PsIs.val (k : κ) : ∀ {ps : List (κ × D)} {vs : List (κ × V)}, PsIs K α F ps vs → OIs K α F (valD ps k) (valV vs k)
  | [], _, h => by rw [show _ = [] from h]; exact trivial
  | p :: r, _, ⟨v, t, e, i, q⟩ => by
    subst e
    by_cases h : p.1 = k
    · have e1 : valD (p :: r) k = some p.2 := by simp [valD, List.find?_cons, h]
      rw [e1, valV_pos h]; exact i
    · have e1 : valD (p :: r) k = valD r k := by simp [valD, List.find?_cons, h]
      rw [e1, valV_neg h]; exact q.val k
theorem PsIs.any (k : κ) : ∀ {ps : List (κ × D)} {vs : List (κ × V)}, PsIs K α F ps vs → (ps.any fun kv => decide (kv.1 = k)) = vs.any fun kv => decide (kv.1 = k)
  | [], _, h => by rw [show _ = [] from h]; rfl
  | p :: r, _, ⟨v, t, e, i, q⟩ => by
    subst e
    rw [List.any_cons, List.any_cons, q.any k]
theorem PsIs.drop (k : κ) : ∀ {ps : List (κ × D)} {vs : List (κ × V)}, PsIs K α F ps vs → PsIs K α F (dropD ps k) (dropK vs k)
  | [], _, h => by rw [show _ = [] from h]; exact rfl
  | p :: r, _, ⟨v, t, e, i, q⟩ => by
    subst e
    unfold dropD dropK
    by_cases h : p.1 = k
    · rw [List.filter_cons_of_neg (by simp [h]), List.filter_cons_of_neg (by simp [h])]; exact q.drop k
    · rw [List.filter_cons_of_pos (by simp [h]), List.filter_cons_of_pos (by simp [h])]; exact ⟨v, _, rfl, i, q.drop k⟩
end
section
variable {K : PySem.W.Frag} {α : List Addr} {F : Hp}
theorem PsIs.look (f : Str) : ∀ {ps : List (Str × D)} {vs : List (Str × V)}, PsIs K α F ps vs → OIs K α F (ps.lookup f) (vs.lookup f)
  | [], _, h => by rw [show _ = [] from h]; exact trivial
  | (g, d) :: r, _, ⟨v, t, e, i, q⟩ => by
    subst e
    by_cases h : (f == g) = true
    · rw [List.lookup_cons, List.lookup_cons, h]; exact i
    · have h' : (f == g) = false := by cases z : (f == g) with | true => exact absurd z h | false => rfl
      rw [List.lookup_cons, List.lookup_cons, h']; exact q.look f
end

/-! ### a new object, an object changed -/
def E4.obj (e : E4) (p : Addr) (H' : Hp) : E4 := ⟨e.α ++ [p], e.F, fun b => e.A b ∨ b = p, H'⟩
def E4.at (e : E4) (a : Addr) (o : HO) : E4 := ⟨e.α, e.F, e.A, upd e.H a o⟩
section
variable {K : PySem.W.Frag} {C : Cl} {e : E4} {Ω : List OS}
theorem Wf.objA (w : Wf K C e Ω) {n : Nat} {a : Addr} (h : e.α[n]? = some a) : e.A a ∧ ∃ o, Ω[n]? = some o := by
  have hl : n < Ω.length := by rw [← w.ol]; exact (List.getElem?_eq_some_iff.mp h).1
  exact ⟨(w.ob n a _ h (List.getElem?_eq_getElem hl)).1, _, List.getElem?_eq_getElem hl⟩
theorem Wf.obj (w : Wf K C e Ω) {p : Addr} {H' : Hp} {o : OS} (hp : e.H p = none) (hk : ∀ b u, e.H b = some u → H' b = some u) (hn : H' p ≠ none ∧ ∀ xs, H' p ≠ some (.tup xs)) (ho : OSIs K C (e.obj p H') p o) :
    Wf K C (e.obj p H') (Ω ++ [o]) ∧ Ext e (e.obj p H') := by
  have nA : ¬ e.A p := fun z => (w.ah p z).1 hp
  have npα : p ∉ e.α := fun z => by
    obtain ⟨n, h⟩ := List.getElem?_of_mem z
    exact nA (w.objA h).1
  refine ⟨⟨fun b u h => hk b u (w.fh b u h), fun b h => ?_, fun b h => ?_, ?_, ?_, fun n b u h1 h2 => ?_⟩, ⟨fun b o' u h => hk b _ h, fun b u h _ => hk b u h, fun b u h => ⟨u, hk b u h⟩, Same.refl _, fun b u h => .inl h, fun b h => ?_, fun b h => .inl h, [p], rfl⟩⟩
  · rcases h with h | rfl
    · exact w.fa b h
    · exact w.nF hp
  · rcases h with h | rfl
    · obtain ⟨h1, h2⟩ := w.ah b h
      cases q : e.H b with
      | none => exact absurd q h1
      | some u =>
        show H' b ≠ none ∧ ∀ xs, H' b ≠ some (.tup xs)
        rw [hk b u q, ← q]
        exact ⟨h1, h2⟩
    · exact hn
  · show (e.α ++ [p]).length = (Ω ++ [o]).length
    rw [List.length_append, List.length_append, w.ol]; rfl
  · show (e.α ++ [p]).Nodup
    rw [List.nodup_append]
    refine ⟨w.nd, by simp, fun x hx y hy => ?_⟩
    simp only [List.mem_singleton] at hy
    subst hy
    exact fun z => npα (z ▸ hx)
  · have h1 : (e.α ++ [p])[n]? = some b := h1
    by_cases hl : n < e.α.length
    · rw [List.getElem?_append_left hl] at h1
      rw [List.getElem?_append_left (by rw [← w.ol]; exact hl)] at h2
      exact ⟨.inl (w.ob n b u h1 h2).1, (w.ob n b u h1 h2).2.keep (fun v hv => hk b v hv) (Same.refl _) ⟨[p], rfl⟩⟩
    · have en : n = e.α.length := by
        have := (List.getElem?_eq_some_iff.mp h1).1
        rw [List.length_append] at this
        simp at this
        omega
      subst en
      rw [List.getElem?_append_right (Nat.le_refl _), Nat.sub_self] at h1
      rw [w.ol, List.getElem?_append_right (Nat.le_refl _), Nat.sub_self] at h2
      cases h1
      cases h2
      exact ⟨.inr rfl, ho⟩
  · rcases h with h | rfl
    · exact .inl h
    · exact .inr hp
theorem Wf.atW (w : Wf K C e Ω) {n : Nat} {a : Addr} {o' : OS} {ho : HO} (hα : e.α[n]? = some a) (hn : ∀ xs, ho ≠ .tup xs) (h' : OSIs K C (e.at a ho) a o') : Wf K C (e.at a ho) (Ω.set n o') := by
  have hA := (w.objA hα).1
  have hF := w.fa a hA
  have neF : ∀ b u, e.F b = some u → b ≠ a := fun b u h z => by subst z; rw [hF] at h; cases h
  refine ⟨fun b u h => ?_, w.fa, fun b h => ?_, by simp [E4.at, w.ol], w.nd, fun m b u h1 h2 => ?_⟩
  · show upd e.H a ho b = some u
    rw [upd_ne (neF b u h)]; exact w.fh b u h
  · show upd e.H a ho b ≠ none ∧ ∀ xs, upd e.H a ho b ≠ some (.tup xs)
    by_cases z : b = a
    · subst z; rw [upd_same]; exact ⟨by simp, fun xs q => hn xs (Option.some.inj q)⟩
    · rw [upd_ne z]; exact w.ah b h
  · by_cases z : m = n
    · subst z
      have h1 : e.α[m]? = some b := h1
      rw [hα] at h1
      cases h1
      have hl : m < Ω.length := by rw [← w.ol]; exact (List.getElem?_eq_some_iff.mp hα).1
      rw [List.getElem?_set_self hl] at h2
      cases h2
      exact ⟨hA, h'⟩
    · rw [List.getElem?_set_ne (fun q => z q.symm)] at h2
      have nb : b ≠ a := fun q => by
        subst q
        exact z ((List.getElem?_inj (List.getElem?_eq_some_iff.mp h1).1 w.nd).mp (h1.trans hα.symm))
      refine ⟨(w.ob m b u h1 h2).1, (w.ob m b u h1 h2).2.keep (fun v hv => ?_) (Same.refl _) ⟨[], by simp [E4.at]⟩⟩
      show upd e.H a ho b = some v
      rw [upd_ne nb]; exact hv
theorem Wf.at (w : Wf K C e Ω) {n : Nat} {a : Addr} {o' : OS} {ho : HO} (hα : e.α[n]? = some a) (hn : ∀ xs, ho ≠ .tup xs) (h' : OSIs K C (e.at a ho) a o') (hz : ∀ o u, e.H a ≠ some (.frz o u)) :
    Wf K C (e.at a ho) (Ω.set n o') ∧ Ext e (e.at a ho) := by
  have hA := (w.objA hα).1
  refine ⟨w.atW hα hn h', ⟨fun b o' u h => ?_, fun b u h hn => ?_, fun b u h => ?_, Same.refl _, fun b u h => .inl h, fun b h => .inl h, fun b h => h, [], by simp [E4.at]⟩⟩
  · show upd e.H a ho b = some (.frz o' u)
    rw [upd_ne (fun z => hz o' u (by rw [← z]; exact h))]; exact h
  · show upd e.H a ho b = some u
    rw [upd_ne (fun z => hn (by rw [z]; exact hA))]; exact h
  · by_cases z : b = a
    · subst z; exact ⟨ho, upd_same⟩
    · exact ⟨u, by show upd e.H a ho b = some u; rw [upd_ne z]; exact h⟩
end

section
variable {K : PySem.W.Frag} {α : List Addr} {F : Hp}
end

section
variable {K : PySem.W.Frag} {C : Cl} {e : E4} {Ω : List OS}
end

section
variable {X : Cx} {C : Cl} {a b c x y : Expr} {f g h : Den} {pos pos' ap cp : Pos}
theorem OIs.isSome {K : PySem.W.Frag} {α : List Addr} {F : Hp} {d : Option D} {r : Option V} (h : OIs K α F d r) : r.isSome = d.isSome := by
  cases r <;> cases d <;> first | rfl | exact h.elim
theorem OIs.getD {K : PySem.W.Frag} {α : List Addr} {F : Hp} {d : Option D} {r : Option V} {x : D} {v : V} (h : OIs K α F d r) (i : Is K α F x v) : Is K α F (d.getD x) (r.getD v) := by
  cases r <;> cases d <;> first | exact h.elim | exact i | exact h
end
end DL
set_option Elab.async false
set_option linter.all false
set_option maxRecDepth 100000
/-! A DICT BY ITS ENTRIES: walked, counted; a pair taken out by a tuple. -/
namespace DR
open PySem PyProof.Rows
open Sem (wp)

def RawD (h : Heap) (a : Addr) (es : Array DictEntry) (ep : Nat) : Prop := ∃ o, h.get? a = some o ∧ o.ExactDict ∧ o.data = .dict es ep
theorem RawD.ty {s : Shared} {a : Addr} {es : Array DictEntry} {ep : Nat} (r : RawD s.heap a es ep) : s.TypeIs (.ref a) "dict" := let ⟨o, h1, h2, _⟩ := r; ⟨o, h1, h2.1⟩
theorem RawD.to {h h' : Heap} {a : Addr} {es : Array DictEntry} {ep : Nat} (r : RawD h a es ep) (k : ∀ o, h.get? a = some o → h'.get? a = some o) : RawD h' a es ep := let ⟨o, h1, h2⟩ := r; ⟨o, k o h1, h2⟩
theorem RawD.lt {h : Heap} {a : Addr} {es : Array DictEntry} {ep : Nat} (r : RawD h a es ep) : a < h.objs.size := let ⟨_, h1, _⟩ := r; Heap.lt_size h1
section
variable {prog : Program} {w : World} {A : Around} {E : Value → Shared → Prop} {s : Shared} {d it : Addr} {es : Array DictEntry} {ep i : Nat}
end

/-! ### pop of a heap key -/
section
variable {κ : Type} [DecidableEq κ]
def outH (xs : List (κ × Addr × Value)) (k : κ) : List (κ × Addr × Value) := xs.filter fun x => decide (x.1 ≠ k)
variable {prog : Program} {w : World} {knd : HeapKind prog w κ} {A : Around} {E : Value → Shared → Prop} {s : Shared}
end
end DR
set_option Elab.async false
set_option linter.all false
set_option maxRecDepth 100000
namespace L2
open PySem PySem.Spec PyProof.Rows
theorem KT.out {H : Hp} {kvs : List (List Key × V)} {xs : List (List Key × Addr × Value)} (r : KT H kvs xs) (k : List Key) : KT H (dropK kvs k) (DR.outH xs k) := by
  induction r with
  | nil => exact .nil
  | @cons p q ps qs h t ih =>
    unfold dropK DR.outH
    by_cases e : p.1 = k
    · rw [List.filter_cons_of_neg (by simp [e]), List.filter_cons_of_neg (by simp [← h.1, e])]; exact ih
    · rw [List.filter_cons_of_pos (by simp [e]), List.filter_cons_of_pos (by simp [← h.1, e])]; exact .cons h ih
section
variable {X : Cx} {pins : List (Addr × Obj)} {σ : St} {H : Hp} {s : Shared} {a b : Addr} {A : Around} {E : Value → Shared → Prop}
end
section
variable {X : Cx} {o e : Expr} {apos cpos : Pos} {td ty : TE}
end
end L2
set_option Elab.async false
set_option linter.all false
set_option maxRecDepth 100000
namespace DL
open PySem PySem.Spec PyProof.Rows L2

section
variable {K : PySem.W.Frag} {C : Cl} {e : E4} {Ω : List OS}
theorem Wf.tups (w : Wf K C e Ω) : ∃ e1 : E4, e1.H = e.H ∧ e1.α = e.α ∧ Ext e e1 ∧ Wf K C e1 Ω ∧ ∀ b xs, e.H b = some (.tup xs) → e1.F b = some (.tup xs) := by
  let F' : Hp := fun b => match e.H b with
    | some (.tup xs) => some (.tup xs)
    | _ => e.F b
  have ft : ∀ b xs, e.H b = some (.tup xs) → F' b = some (.tup xs) := fun b xs h => by show (match e.H b with | some (.tup xs) => some (HO.tup xs) | _ => e.F b) = _; rw [h]
  have fo : ∀ b, (∀ xs, e.H b ≠ some (.tup xs)) → F' b = e.F b := fun b h => by
    show (match e.H b with | some (.tup xs) => some (HO.tup xs) | _ => e.F b) = _
    cases q : e.H b with
    | none => rfl
    | some o => cases o <;> first | rfl | exact absurd q (h _)
  have ff : Same e.F F' := fun b o h => by
    by_cases q : ∃ xs, e.H b = some (.tup xs)
    · obtain ⟨xs, q⟩ := q
      rw [ft b xs q, ← q]; exact w.fh b o h
    · rw [fo b fun xs z => q ⟨xs, z⟩]; exact h
  have fh : Same F' e.H := fun b o h => by
    by_cases q : ∃ xs, e.H b = some (.tup xs)
    · obtain ⟨xs, q⟩ := q
      rw [ft b xs q] at h; rw [q]; exact h
    · rw [fo b fun xs z => q ⟨xs, z⟩] at h; exact w.fh b o h
  refine ⟨⟨e.α, F', e.A, e.H⟩, rfl, rfl, ⟨fun _ _ _ h => h, fun _ _ h _ => h, fun _ o h => ⟨o, h⟩, ff, fun b o h => ?_, fun _ h => .inl h, fun _ h => h, [], by simp⟩, ⟨fh, fun b h => ?_, w.ah, w.ol, w.nd, fun n a o h1 h2 => ⟨(w.ob n a o h1 h2).1, (w.ob n a o h1 h2).2.keep (fun _ z => z) ff ⟨[], by simp⟩⟩⟩, ft⟩
  · have h : F' b = some o := h
    by_cases q : ∃ xs, e.H b = some (.tup xs)
    · obtain ⟨xs, q⟩ := q
      rw [ft b xs q] at h
      cases h
      exact .inr (.inr ⟨⟨xs, rfl⟩, q, fun z => (w.ah b z).2 xs q⟩)
    · rw [fo b fun xs z => q ⟨xs, z⟩] at h; exact .inl h
  · show F' b = none
    rw [fo b (w.ah b h).2]; exact w.fa b h
end
section
variable {X : Cx} {C : Cl} {a b x : Expr} {f g h : Den} {ga : ADen} {pos pos' ap cp : Pos}
/-! ### fields -/
structure ClD (K : PySem.W.Frag) (C : Cl) (c : Str) : Prop where
  ex : ∃ Ca, C c = some Ca ∧ Cls K Ca
/-! ### methods -/
structure Mt (P : Program) (w : World) (K : PySem.W.Frag) (mg : Str → Option Value) (base : Heap) (C : Cl) (k : Nat) (c m : Str) (F : FDen) (dfl : List D) : Prop where
  ex : ∃ Ca f fd ps ds dvs, C c = some Ca ∧ Cls K Ca ∧ Meth K Ca m f ∧ Binds K fd ps ds ∧ Vals dvs ds ∧ (∀ α H, IsL K α H dfl dvs) ∧ FnOk P w K mg base CX0 k f fd ps (spD K C F)
/-! ### a new instance -/
structure MkD (P : Program) (w : World) (K : PySem.W.Frag) (mg : Str → Option Value) (base : Heap) (C : Cl) (k : Nat) (c : Str) (F : FDen) (dfl : List D) : Prop where
  ex : ∃ Ca f fd ps ds dvs, C c = some Ca ∧ mg c = some (.ref Ca) ∧ Mk K Ca f ∧ Binds K fd ps ds ∧ Vals dvs ds ∧ (∀ α H, IsL K α H dfl dvs) ∧ FnOk P w K mg base CX0 k f fd ps (spD K C F)
end
/-! ### a def of no parameter is called; the law with objects -/
theorem law_okO {K : PySem.W.Frag} {C : Cl} {F : FDen} {H : Hp} {a : Addr} {ns : List Int} {E : XK} (hS : SqL K H a (ns.map V.int)) (h : ∃ Ω, F [.scr ns] [] = some (.bl true, Ω)) : spD K C F [.ref a] H (fun v _ => v = .bl true) E := by
  obtain ⟨Ω, h⟩ := h
  refine ⟨⟨[], H, fun _ => False, H⟩, [], [.scr ns], .bl true, Ω, rfl, ⟨Same.refl _, fun _ h => h.elim, fun _ h => h.elim, rfl, List.nodup_nil, fun n a o h => by simp at h⟩, ?_, h, fun v e' _ _ i => ?_⟩
  · exact .cons (by rw [Is]; exact ⟨a, rfl, hS⟩) .nil
  · rw [Is] at i; exact i
end DL
set_option Elab.async false
set_option linter.all false
set_option maxRecDepth 100000
namespace DL
open PySem PySem.Spec PyProof.Rows L2
/-! ### a def with defaults; methods -/
structure FunV (K : PySem.W.Frag) (x qual : Str) (st : Stmt) (dV : Value) (f : Addr) (fd : FuncData) : Prop where
  ex : ∃ (oc : Value) (od : Option Addr) (kV doc pm : Value) (an : Option Addr) (cdv ct : Value) (osl : Array (Option Value)),
    fd = PySem.W.fnOf x qual (defArgs st) (defBody st) (defScope st) dV kV doc pm an cdv ct ∧ K.lookup f = some ⟨oc, od, .func fd, osl⟩ ∧ PySem.W.codeIn K cdv qual = true
theorem funV_mk {K : PySem.W.Frag} {x qual : Str} {st : Stmt} {dV : Value} {f : Addr} {oc : Value} {od an : Option Addr} {osl : Array (Option Value)} {kV doc pm cdv ct : Value}
    (l : K.lookup f = some ⟨oc, od, .func (PySem.W.fnOf x qual (defArgs st) (defBody st) (defScope st) dV kV doc pm an cdv ct), osl⟩) (c : PySem.W.codeIn K cdv qual = true) :
    FunV K x qual st dV f (PySem.W.fnOf x qual (defArgs st) (defBody st) (defScope st) dV kV doc pm an cdv ct) := ⟨oc, od, kV, doc, pm, an, cdv, ct, osl, rfl, l, c⟩
/-- the arguments bind: none is left out and there is no default -/
theorem bindsN {K : PySem.W.Frag} {fd : FuncData} {ps : List Str} (h : ∀ us : List Value, us.length = ps.length → bindArgs fd ⟨us, []⟩ = pure (ps.zip us)) : Binds K fd ps [] := .all h
/-- the law, whatever the classes' places are -/
def spC (K : PySem.W.Frag) (F : FDen) : Sp := fun vs H Q E => ∀ C : Cl, spD K C F vs H Q E
theorem law_okC {K : PySem.W.Frag} {F : FDen} {H : Hp} {a : Addr} {ns : List Int} {E : XK} (hS : SqL K H a (ns.map V.int)) (h : ∃ Ω, F [.scr ns] [] = some (.bl true, Ω)) : spC K F [.ref a] H (fun v _ => v = .bl true) E := fun C => law_okO hS h
/-- one class more -/
def clAdd (C : Cl) (c : Str) (a : Addr) : Cl := fun x => if x = c then some a else C x
theorem clAdd_same {C : Cl} {c : Str} {a : Addr} : clAdd C c a c = some a := if_pos rfl
/-! what each word is worth at a place -/
section
variable (ρ : List Sl) (Ω : List OS)
end
end DL
set_option Elab.async false
set_option linter.all false
set_option maxRecDepth 100000
namespace L2
open PySem PySem.Spec PyProof.Rows
section
variable {X : Cx} {tg : Expr}
end
end L2
namespace DL
open PySem PySem.Spec PyProof.Rows L2
section
variable {X : Cx} {C : Cl} {tg : Expr} {ga : ADen} {pos p : Pos}
end
end DL
set_option Elab.async false
set_option linter.all false
set_option maxRecDepth 100000
/-! the tree of questions of a sort, answered by ranks -/
namespace KS
open PySem PySem.W PyProof.Rows

def kw {α : Type} (N : Nat) (lt : Nat → Nat → Bool) : KasT α → (α → Prop) → Prop
  | .ret a, Q => Q a
  | .ask i j k, Q => i < N ∧ j < N ∧ kw N lt (k (lt i j)) Q
theorem kw_bind {α β : Type} {N : Nat} {lt : Nat → Nat → Bool} {f : α → KasT β} {Q : β → Prop} : ∀ t : KasT α, kw N lt t (fun a => kw N lt (f a) Q) → kw N lt (t.bind f) Q
  | .ret _, h => h
  | .ask i j k, ⟨h1, h2, h3⟩ => ⟨h1, h2, kw_bind (k (lt i j)) h3⟩
abbrev rk (r : Nat → Nat) (p : Array Nat) (m : Nat) : Nat := r (p.getD m 0)
structure Pm (N : Nat) (p : Array Nat) : Prop where
  perm : p.Perm (List.range N).toArray
  pos : 0 < N
theorem Pm.size {N : Nat} {p : Array Nat} (h : Pm N p) : p.size = N := by rw [h.perm.size_eq]; simp
theorem Pm.lt {N : Nat} {p : Array Nat} (h : Pm N p) (m : Nat) : p.getD m 0 < N := by
  by_cases hm : m < p.size
  · have e : p.getD m 0 = p[m] := by simp [Array.getD, hm]
    rw [e]
    have : p[m] ∈ (List.range N).toArray := h.perm.mem_iff.mp (Array.getElem_mem hm)
    simpa using this
  · have e : p.getD m 0 = 0 := by simp [Array.getD, hm]
    rw [e]; exact h.pos
theorem getD_of {p : Array Nat} (m : Nat) : p.getD m 0 = (p[m]?).getD 0 := by simp [Array.getD_eq_getD_getElem?]
theorem rk_mirror (r : Nat → Nat) {p : Array Nat} {i j : Nat} (hj : j ≤ p.size) (k : Nat) : rk r (kas_rev p i j) k = if i ≤ k ∧ k < j then rk r p (i + j - 1 - k) else rk r p k := by
  have e := getElem?_mirror_all (i := i) hj k
  unfold rk kas_rev
  rw [getD_of, getD_of, getD_of, e]
  split <;> rfl
theorem rk_bubble (r : Nat → Nat) {p : Array Nat} {src d : Nat} (hs : src < p.size) (hd : d ≤ src) (k : Nat) :
    rk r (bubble p src d) k = if k = src - d then rk r p src else if src - d < k ∧ k ≤ src then rk r p (k - 1) else rk r p k := by
  have e := getElem?_bubble hs d hd k
  unfold rk
  rw [getD_of, getD_of, getD_of, getD_of, e]
  split
  · rfl
  · split <;> rfl
def Up (r : Nat → Nat) (p : Array Nat) (n : Nat) : Prop := ∀ i j, i ≤ j → j < n → rk r p i ≤ rk r p j
def Dn (r : Nat → Nat) (p : Array Nat) (n : Nat) : Prop := ∀ i j, i ≤ j → j < n → rk r p j ≤ rk r p i
section
variable {N : Nat} {r : Nat → Nat}
abbrev ltR (r : Nat → Nat) (i j : Nat) : Bool := decide (r i < r j)
theorem Pm.rev {p : Array Nat} (h : Pm N p) (i j : Nat) : Pm N (kas_rev p i j) := ⟨(mirror_perm p i j _).trans h.perm, h.pos⟩
theorem Pm.bub {p : Array Nat} (h : Pm N p) (i j : Nat) : Pm N (bubble p i j) := ⟨(bubble_perm p i j).trans h.perm, h.pos⟩
theorem up_succ {p : Array Nat} {n : Nat} (h : Up r p n) (h1 : 1 ≤ n) (hl : rk r p (n - 1) ≤ rk r p n) : Up r p (n + 1) := fun i j hij hj => by
  by_cases hjn : j < n
  · exact h i j hij hjn
  · have : j = n := by omega
    subst this
    by_cases hi : i = j
    · subst hi; exact Nat.le_refl _
    · exact Nat.le_trans (h i (j - 1) (by omega) (by omega)) hl
theorem dn_succ {p : Array Nat} {n : Nat} (h : Dn r p n) (h1 : 1 ≤ n) (hl : rk r p n ≤ rk r p (n - 1)) : Dn r p (n + 1) := fun i j hij hj => by
  by_cases hjn : j < n
  · exact h i j hij hjn
  · have : j = n := by omega
    subst this
    by_cases hi : i = j
    · subst hi; exact Nat.le_refl _
    · exact Nat.le_trans hl (h i (j - 1) (by omega) (by omega))
theorem asc {p : Array Nat} {Q : Nat → Prop} (hB : Pm N p) : ∀ (f n : Nat), 1 ≤ n → n + f ≤ N → Up r p n → (∀ m, n ≤ m → m ≤ n + f → Up r p m → (m = n + f ∨ rk r p m < rk r p (m - 1)) → Q m) → kw N (ltR r) (kas_asc p f n) Q
  | 0, n, h1, hn, hs, h => h n (Nat.le_refl _) (Nat.le_refl _) hs (.inl rfl)
  | f + 1, n, h1, hn, hs, h => by
    refine ⟨hB.lt n, hB.lt (n - 1), ?_⟩
    by_cases hc : rk r p n < rk r p (n - 1)
    · have e : ltR r (p.getD n 0) (p.getD (n - 1) 0) = true := decide_eq_true hc
      rw [e]; dsimp only; rw [if_pos rfl]
      exact h n (Nat.le_refl _) (by omega) hs (.inr hc)
    · have e : ltR r (p.getD n 0) (p.getD (n - 1) 0) = false := decide_eq_false hc
      rw [e]; dsimp only; rw [if_neg (by decide)]
      exact asc hB f (n + 1) (by omega) (by omega) (up_succ hs h1 (by omega)) fun m a b c d => h m (by omega) (by omega) c (d.elim (fun d => .inl (by omega)) .inr)
theorem mirror_same {p : Array Nat} {i j : Nat} (hj : j ≤ p.size) (he : ∀ k, i ≤ k → k < j → rk r p k = rk r p (j - 1)) (k : Nat) : rk r (kas_rev p i j) k = rk r p k := by
  rw [rk_mirror r hj]
  split
  · rw [he _ (by omega) (by omega), he k (by omega) (by omega)]
  · rfl
theorem desc {Q : Array Nat × Nat × Nat → Prop} {hi : Nat} : ∀ (f : Nat) (p : Array Nat) (n q : Nat), Pm N p → 1 ≤ n → n + f = hi → hi ≤ N → Dn r p n → q + 1 ≤ n → (∀ i, n - (q + 1) ≤ i → i < n → rk r p i = rk r p (n - 1)) →
    (∀ p' m q', Pm N p' → 1 ≤ m → m ≤ hi → Dn r p' m → q' + 1 ≤ m → (∀ i, m - (q' + 1) ≤ i → i < m → rk r p' i = rk r p' (m - 1)) → Q (p', m, q')) → kw N (ltR r) (kas_desc f p n q) Q
  | 0, p, n, q, hB, h1, hn, hN, hs, hq, he, h => h p n q hB h1 (by omega) hs hq he
  | f + 1, p, n, q, hB, h1, hn, hN, hs, hq, he, h => by
    have hsz := hB.size
    refine ⟨hB.lt n, hB.lt (n - 1), ?_⟩
    by_cases hc : rk r p n < rk r p (n - 1)
    · have e : ltR r (p.getD n 0) (p.getD (n - 1) 0) = true := decide_eq_true hc
      rw [e]; dsimp only; rw [if_pos rfl]
      by_cases hq0 : q > 0
      · rw [if_pos hq0]
        have same := mirror_same (r := r) (p := p) (i := n - (q + 1)) (j := n) (by omega) he
        refine desc f _ (n + 1) 0 (hB.rev _ _) (by omega) (by omega) hN ?_ (by omega) (fun i a b => by congr 1; congr 1; omega) h
        refine dn_succ (fun i j a b => ?_) h1 ?_
        · rw [same, same]; exact hs i j a b
        · rw [same, same]; omega
      · rw [if_neg hq0]
        exact desc f p (n + 1) 0 hB (by omega) (by omega) hN (dn_succ hs h1 (by omega)) (by omega) (fun i a b => by congr 1; congr 1; omega) h
    · have e : ltR r (p.getD n 0) (p.getD (n - 1) 0) = false := decide_eq_false hc
      rw [e]; dsimp only; rw [if_neg (by decide)]
      refine ⟨hB.lt (n - 1), hB.lt n, ?_⟩
      by_cases hd : rk r p (n - 1) < rk r p n
      · have e : ltR r (p.getD (n - 1) 0) (p.getD n 0) = true := decide_eq_true hd
        rw [e]; dsimp only; rw [if_pos rfl]
        exact h p n q hB h1 (by omega) hs hq he
      · have e : ltR r (p.getD (n - 1) 0) (p.getD n 0) = false := decide_eq_false hd
        rw [e]; dsimp only; rw [if_neg (by decide)]
        refine desc f p (n + 1) (q + 1) hB (by omega) (by omega) hN (dn_succ hs h1 (by omega)) (by omega) (fun i a b => ?_) h
        show rk r p i = rk r p n
        by_cases hi : i = n
        · rw [hi]
        · rw [he i (by omega) (by omega)]; omega
theorem tail3 {p : Array Nat} {Q : Nat × Array Nat → Prop} {n nrem : Nat} (hB : Pm N p) (h1 : 1 ≤ n) (hn : n ≤ nrem) (hN : nrem ≤ N) (hs : Dn r p n)
    (h : ∀ m p', Pm N p' → 1 ≤ m → m ≤ nrem → Up r p' m → Q (m, p')) : kw N (ltR r) (kas_tail3 n nrem p) Q := by
  have hsz := hB.size
  unfold kas_tail3
  refine kw_bind _ (asc (hB.rev 0 n) _ n h1 (by omega) (fun i j a b => ?_) fun m a b c _ => h m _ (hB.rev 0 n) (by omega) (by omega) c)
  rw [rk_mirror r (by omega), rk_mirror r (by omega), if_pos (by omega), if_pos (by omega)]
  exact hs _ _ (by omega) (by omega)
theorem descPart {p : Array Nat} {Q : Nat × Array Nat → Prop} {n nrem : Nat} (hB : Pm N p) (hn : n + 1 ≤ nrem) (hN : nrem ≤ N) (hs : Dn r p (n + 1))
    (h : ∀ m p', Pm N p' → 1 ≤ m → m ≤ nrem → Up r p' m → Q (m, p')) : kw N (ltR r) (kas_descPart n nrem p) Q := by
  unfold kas_descPart
  refine kw_bind _ (desc (hi := nrem) _ p (n + 1) 0 hB (by omega) (by omega) hN hs (by omega) (fun i a b => by congr 1; congr 1; omega) fun p' m q' hB' m1 m2 hs' hq' he' => ?_)
  dsimp only
  have hsz := hB'.size
  by_cases hq0 : q' > 0
  · rw [if_pos hq0]
    have same := mirror_same (r := r) (p := p') (i := m - (q' + 1)) (j := m) (by omega) he'
    exact tail3 (hB'.rev _ _) m1 m2 hN (fun i j a b => by rw [same, same]; exact hs' i j a b) h
  · rw [if_neg hq0]
    exact tail3 hB' m1 m2 hN hs' h
theorem count {p : Array Nat} {Q : Nat × Array Nat → Prop} {nrem : Nat} (hB : Pm N p) (h1 : 1 ≤ nrem) (hN : nrem ≤ N)
    (h : ∀ m p', Pm N p' → 1 ≤ m → m ≤ nrem → Up r p' m → Q (m, p')) : kw N (ltR r) (kas_count nrem p) Q := by
  have hsz := hB.size
  unfold kas_count
  refine kw_bind _ (asc hB _ 1 (Nat.le_refl _) (by omega) (fun i j a b => by have : i = j := (by omega); subst this; exact Nat.le_refl _) fun n n1 n2 hs hor => ?_)
  by_cases hnn : n = nrem
  · rw [if_pos (by simpa using hnn)]
    exact h n p hB n1 (by omega) hs
  · rw [if_neg (by simpa using hnn)]
    have hlt : rk r p n < rk r p (n - 1) := hor.resolve_left (by omega)
    by_cases hg : n > 1
    · rw [if_pos hg]
      refine ⟨hB.lt 0, hB.lt (n - 1), ?_⟩
      by_cases hc : rk r p 0 < rk r p (n - 1)
      · have e : ltR r (p.getD 0 0) (p.getD (n - 1) 0) = true := decide_eq_true hc
        rw [e]; dsimp only; rw [if_pos rfl]
        exact h n p hB n1 (by omega) hs
      · have e : ltR r (p.getD 0 0) (p.getD (n - 1) 0) = false := decide_eq_false hc
        rw [e]; dsimp only; rw [if_neg (by decide)]
        have all : ∀ k, 0 ≤ k → k < n → rk r p k = rk r p (n - 1) := fun k _ hk => by
          have a1 := hs 0 k (by omega) hk
          have a2 := hs k (n - 1) (by omega) (by omega)
          omega
        have same := mirror_same (r := r) (p := p) (i := 0) (j := n) (by omega) all
        refine descPart (hB.rev _ _) (by omega) hN (dn_succ (fun i j a b => ?_) n1 ?_) h
        · rw [same, same, all i (by omega) (by omega), all j (by omega) b]; exact Nat.le_refl _
        · rw [same, same]; omega
    · rw [if_neg hg]
      have : n = 1 := by omega
      subst this
      exact descPart hB (by omega) hN (dn_succ (fun i j a b => by have : i = j := (by omega); subst this; exact Nat.le_refl _) (Nat.le_refl _) (by omega)) h
theorem place {p : Array Nat} {Q : Nat → Prop} {k : Nat} (hB : Pm N p) (hs : Up r p k) : ∀ (f l q : Nat), l ≤ q → q ≤ k → q - l ≤ f → (∀ i, i < l → rk r p i ≤ rk r p k) → (∀ i, q ≤ i → i < k → rk r p k < rk r p i) →
    (∀ m, m ≤ k → (∀ i, i < m → rk r p i ≤ rk r p k) → (∀ i, m ≤ i → i < k → rk r p k < rk r p i) → Q m) → kw N (ltR r) (kas_place p k f l q) Q
  | 0, l, q, a, b, c, lo, hi, h => h l (by omega) lo (fun i x y => hi i (by omega) y)
  | f + 1, l, q, a, b, c, lo, hi, h => by
    unfold kas_place
    by_cases hge : l ≥ q
    · rw [if_pos hge]
      exact h l (by omega) lo (fun i x y => hi i (by omega) y)
    · rw [if_neg hge]
      refine ⟨hB.lt k, hB.lt _, ?_⟩
      by_cases hc : rk r p k < rk r p ((l + q) / 2)
      · have e : ltR r (p.getD k 0) (p.getD ((l + q) / 2) 0) = true := decide_eq_true hc
        rw [e]; dsimp only; rw [if_pos rfl]
        exact place hB hs f l ((l + q) / 2) (by omega) (by omega) (by omega) lo (fun i x y => Nat.lt_of_lt_of_le hc (hs _ _ x y)) h
      · have e : ltR r (p.getD k 0) (p.getD ((l + q) / 2) 0) = false := decide_eq_false hc
        rw [e]; dsimp only; rw [if_neg (by decide)]
        exact place hB hs f ((l + q) / 2 + 1) q (by omega) (by omega) (by omega) (fun i x => Nat.le_trans (hs i ((l + q) / 2) (by omega) (by omega)) (by omega)) hi h
theorem ins {p : Array Nat} {k l : Nat} (hB : Pm N p) (hk : k < N) (hl : l ≤ k) (hs : Up r p k) (lo : ∀ i, i < l → rk r p i ≤ rk r p k) (hi : ∀ i, l ≤ i → i < k → rk r p k < rk r p i) : Up r (bubble p k (k - l)) (k + 1) := fun i j a b => by
  have hsz := hB.size
  rw [rk_bubble r (by omega) (by omega), rk_bubble r (by omega) (by omega), show k - (k - l) = l by omega]
  by_cases c1 : i = l
  · rw [if_pos c1]
    by_cases d1 : j = l
    · rw [if_pos d1]; exact Nat.le_refl _
    · rw [if_neg d1, if_pos (by omega)]
      exact Nat.le_of_lt (hi (j - 1) (by omega) (by omega))
  · rw [if_neg c1]
    by_cases c2 : l < i ∧ i ≤ k
    · rw [if_pos c2, if_neg (by omega), if_pos (by omega)]
      exact hs _ _ (by omega) (by omega)
    · rw [if_neg c2]
      by_cases d1 : j = l
      · rw [if_pos d1]; exact lo i (by omega)
      · rw [if_neg d1]
        by_cases d2 : l < j ∧ j ≤ k
        · rw [if_pos d2]; exact hs _ _ (by omega) (by omega)
        · rw [if_neg d2]; exact hs _ _ (by omega) (by omega)
theorem bin {Q : Array Nat → Prop} : ∀ (f : Nat) (p : Array Nat) (k : Nat), Pm N p → k + f = N → 1 ≤ k → Up r p k → (∀ p', Pm N p' → Up r p' N → Q p') → kw N (ltR r) (kas_bin f p k) Q
  | 0, p, k, hB, hf, h1, hs, h => h p hB (by rw [← hf]; exact hs)
  | f + 1, p, k, hB, hf, h1, hs, h => by
    unfold kas_bin
    exact kw_bind _ (place hB hs k 0 k (by omega) (Nat.le_refl _) (by omega) (fun i x => by omega) (fun i x y => by omega) fun m hm lo hi =>
      bin f _ (k + 1) (hB.bub _ _) (by omega) (by omega) (ins hB (by omega) hm hs lo hi) h)
theorem sort {Q : Array Nat → Prop} (h2 : 2 ≤ N) (h : ∀ p, Pm N p → Up r p N → Q p) : kw N (ltR r) (kas_sort N) Q := by
  unfold kas_sort
  have hB : Pm N (List.toArray (List.range N)) := ⟨Array.Perm.refl _, by omega⟩
  refine kw_bind _ (count hB (by omega) (Nat.le_refl _) fun m p' hB' m1 m2 hs => ?_)
  dsimp only
  by_cases hm : m < N
  · rw [if_pos hm]
    rw [show max m 1 = m by omega]
    exact bin _ p' m hB' (by omega) m1 hs h
  · rw [if_neg hm]
    exact h p' hB' (by have : m = N := (by omega); subst this; exact hs)
end

/-! ranks -/
section
variable {β : Type} (lt : β → β → Bool)
end
end KS
set_option Elab.async false
set_option linter.all false
set_option maxRecDepth 100000
/-! sorted(xs, key=f), over any heap -/
namespace KS
open PySem PySem.W PySem.Calls PyProof.Rows
section
variable {prog : Program} {w : World} {A : Around} {E : Value → Shared → Prop} {s : Shared} {a kS : Addr} {vs ks : List Value} {κ : SortKind}
end
end KS
set_option Elab.async false
set_option linter.all false
set_option maxRecDepth 100000
namespace L2
open PySem PySem.Spec PyProof.Rows KS PySem.W
section
variable {X : Cx} {k : Nat} {f : Addr} {fd : FuncData} {ps : List Str} {sp : Sp} {pins : List (Addr × Obj)} {σ : St} {H : Hp} {s : Shared}
theorem Paired.get {α β : Type} {R : α → β → Prop} : ∀ {xs : List α} {ys : List β} {i : Nat} {x : α}, Paired R xs ys → xs[i]? = some x → ∃ y, ys[i]? = some y ∧ R x y
  | _, _, 0, _, .cons r _, e => by cases e; exact ⟨_, rfl, r⟩
  | _, _, i + 1, x, .cons _ t, e => by
    obtain ⟨y, h1, h2⟩ := Paired.get (i := i) (x := x) t e
    exact ⟨y, h1, h2⟩
  | _, _, _, _, .nil, e => by simp at e
end
end L2
set_option Elab.async false
set_option linter.all false
set_option maxRecDepth 100000
/-! == of plain data: as it stands -/
namespace DL
open PySem
mutual
def pl : D → Bool
  | .non => true
  | .int _ => true
  | .str x => (PyData.str x).canLay0
  | .tup xs => plL xs
  | .lst xs => plL xs
  | _ => false
def plL : List D → Bool
  | [] => true
  | d :: ds => pl d && plL ds
end
mutual
def dep : D → Nat
  | .tup xs => depL xs + 1
  | .lst xs => depL xs + 1
  | _ => 0
def depL : List D → Nat
  | [] => 0
  | d :: ds => max (dep d) (depL ds)
end
mutual
theorem lay_pl : ∀ d : D, pl d = true → (toP d).canLay0 = true
  | .non, _ => by rw [toP]; rfl
  | .int _, _ => by rw [toP]; rfl
  | .str x, h => by rw [pl] at h; rw [toP]; exact h
  | .tup xs, h => by rw [pl] at h; rw [toP, PyData.canLay0]; exact lay_plL xs h
  | .lst xs, h => by rw [pl] at h; rw [toP, PyData.canLay0]; exact lay_plL xs h
  | .bl _, h => by simp [pl] at h
  | .scr _, h => by simp [pl] at h
  | .obj _, h => by simp [pl] at h
theorem lay_plL : ∀ ds : List D, plL ds = true → PyData.canLayAll0 (toPs ds) = true
  | [], _ => by rw [toPs]; rfl
  | d :: ds, h => by
    rw [plL, Bool.and_eq_true] at h
    rw [toPs, PyData.canLayAll0, Bool.and_eq_true]
    exact ⟨lay_pl d h.1, lay_plL ds h.2⟩
end
mutual
theorem dep_pl : ∀ d : D, pl d = true → (toP d).depth = dep d
  | .non, _ => by rw [toP, dep]; rfl; all_goals (intro _ z; cases z)
  | .int _, _ => by rw [toP, dep]; rfl; all_goals (intro _ z; cases z)
  | .str x, h => by rw [toP, dep]; rfl; all_goals (intro _ z; cases z)
  | .tup xs, h => by rw [pl] at h; rw [toP, dep, PyData.depth, dep_plL xs h]
  | .lst xs, h => by rw [pl] at h; rw [toP, dep, PyData.depth, dep_plL xs h]
  | .bl _, h => by simp [pl] at h
  | .scr _, h => by simp [pl] at h
  | .obj _, h => by simp [pl] at h
theorem dep_plL : ∀ ds : List D, plL ds = true → PyData.depthAll (toPs ds) = depL ds
  | [], _ => by rw [toPs, depL]; rfl
  | d :: ds, h => by
    rw [plL, Bool.and_eq_true] at h
    rw [toPs, depL, PyData.depthAll, dep_pl d h.1, dep_plL ds h.2]
end
theorem shaped_pl {d : D} (h : pl d = true) (hd : dep d ≤ 64) : SeqAt.shaped (toP d) = true := by
  unfold SeqAt.shaped
  rw [lay_pl d h, dep_pl d h]
  simp [hd]
mutual
theorem eqv_pl : ∀ (p q : D), pl p = true → pl q = true → (PyData.eqv (toP p) (toP q) = true ↔ p = q)
  | .non, q, _, hq => by cases q <;> simp [toP, PyData.eqv, pl] at hq ⊢
  | .int i, q, _, hq => by cases q <;> simp [toP, PyData.eqv, pl] at hq ⊢
  | .str x, q, _, hq => by cases q <;> simp [toP, PyData.eqv, pl] at hq ⊢
  | .tup xs, q, hp, hq => by
    cases q with
    | tup ys =>
      rw [pl] at hp hq
      rw [toP, toP, PyData.eqv, eqv_plL xs ys hp hq]
      exact ⟨fun h => by rw [h], fun h => by injection h⟩
    | _ => simp [toP, PyData.eqv, pl] at hq ⊢
  | .lst xs, q, hp, hq => by
    cases q with
    | lst ys =>
      rw [pl] at hp hq
      rw [toP, toP, PyData.eqv, eqv_plL xs ys hp hq]
      exact ⟨fun h => by rw [h], fun h => by injection h⟩
    | _ => simp [toP, PyData.eqv, pl] at hq ⊢
  | .bl _, _, h, _ => by simp [pl] at h
  | .scr _, _, h, _ => by simp [pl] at h
  | .obj _, _, h, _ => by simp [pl] at h
theorem eqv_plL : ∀ (ps qs : List D), plL ps = true → plL qs = true → (PyData.eqvAll (toPs ps) (toPs qs) = true ↔ ps = qs)
  | [], [], _, _ => by simp [toPs, PyData.eqvAll]
  | [], _ :: _, _, _ => by simp [toPs, PyData.eqvAll]
  | _ :: _, [], _, _ => by simp [toPs, PyData.eqvAll]
  | p :: ps, q :: qs, hp, hq => by
    rw [plL, Bool.and_eq_true] at hp hq
    rw [toPs, toPs, PyData.eqvAll, Bool.and_eq_true, eqv_pl p q hp.1 hq.1, eqv_plL ps qs hp.2 hq.2]
    exact ⟨fun h => by rw [h.1, h.2], fun h => by injection h with a b; exact ⟨a, b⟩⟩
end
theorem eq_self_pl (neg : Bool) {p : D} (h : pl p = true) (hd : dep p ≤ 64) : eqD neg p p = some (.bl (!neg)) := by
  unfold eqD
  rw [shaped_pl h hd, (eqv_pl p p h h).mpr rfl]
  cases neg <;> rfl
theorem eq_ne_pl (neg : Bool) {p q : D} (hp : pl p = true) (hq : pl q = true) (dp : dep p ≤ 64) (dq : dep q ≤ 64) (n : p ≠ q) : eqD neg p q = some (.bl neg) := by
  unfold eqD
  have e : PyData.eqv (toP p) (toP q) = false := by
    cases z : PyData.eqv (toP p) (toP q) with
    | false => rfl
    | true => exact absurd ((eqv_pl p q hp hq).mp z) n
  rw [shaped_pl hp dp, shaped_pl hq dq, e]
  cases neg <;> rfl
end DL
set_option Elab.async false
set_option linter.all false
set_option maxRecDepth 100000
/-! sorted(xs), over any heap -/
namespace KS
open PySem PySem.W PySem.Calls PyProof.Rows
section
variable {prog : Program} {w : World} {A : Around} {E : Value → Shared → Prop} {s : Shared} {a : Addr} {vs : List Value}
end
end KS
set_option Elab.async false
set_option linter.all false
set_option maxRecDepth 100000
namespace L2
open PySem PySem.Spec PyProof.Rows KS PySem.W
section
variable {X : Cx} {pins : List (Addr × Obj)} {σ : St} {H : Hp} {s : Shared}
end
end L2
set_option Elab.async false
set_option linter.all false
set_option maxRecDepth 100000
namespace DL
open PySem PySem.Spec PyProof.Rows L2
section
variable {X : Cx} {C : Cl} {n : Str} {p pos kpos npos : Pos} {a : Expr} {g : Den} {k : Nat}
end
end DL
set_option Elab.async false
set_option linter.all false
set_option maxRecDepth 100000
namespace HT
open PySem PySem.Spec PyProof.Rows PySem.SeqAt
open PySem.AutoSeq1 (wpAny_loadPart')
open PySem.MeetsSeq PySem.MeetsSeq2 PySem.MeetsSeq3
end HT
set_option Elab.async false
set_option linter.all false
set_option maxRecDepth 100000
namespace L2
open PySem PySem.Spec PyProof.Rows
section
variable {X : Cx}
open Classical in
open Classical in
end
end L2
namespace DL
open PySem PySem.Spec PyProof.Rows L2
/-! ### lists read where they lie -/
def tDL (K : PySem.W.Frag) (C : Cl) (g : ADen) : TE := fun σ H Q => ∃ e Ω ρ ds Ω', e.H = H ∧ Wf K C e Ω ∧ RelE K e σ ρ ∧ g ρ Ω = some (ds, Ω') ∧
  ∀ a vs e', Ext e e' → Wf K C e' Ω' → (∀ e'' Ω'', Ext e' e'' → Wf K C e'' Ω'' → e''.H a = some (.lst vs)) → IsL K e'.α e'.F ds vs → Q (.ref a) e'.H
def PDL (X : Cx) (C : Cl) (x : Expr) (g : ADen) : Prop := PE X x (tDL X.K C g)
def gO (i : Nat) : ADen := fun ρ Ω => match ρ[i]? with
  | some (.own ds) => some (ds, Ω)
  | _ => none
def gLIx (gl : ADen) (g : Den) : Den := fun ρ Ω => match gl ρ Ω with
  | some (ds, Ω1) => match g ρ Ω1 with
    | some (.int i, Ω2) => match atI ds i with
      | some d => some (d, Ω2)
      | none => none
    | _ => none
  | none => none
section
variable {X : Cx} {C : Cl} {x a b : Expr} {f g : Den} {gl : ADen} {n : Str} {p pos : Pos}
theorem pdl_own {i : Nat} (hv : PE X (.Name n p) (tVar i)) : PDL X C (.Name n p) (gO i) := pe_imp hv fun σ H Q hw' => by
  obtain ⟨e, Ω, ρ, ds, Ω', eH, w, rl, q, kk⟩ := hw'
  unfold gO at q
  split at q
  · rename_i h
    cases q
    obtain ⟨a, vs, e1, e2, il, n1, n2⟩ := rl.own _ _ h
    exact ⟨.ref a, e1, by rw [← eH]; exact kk a vs e (Ext.refl e) w (fun e'' _ x' _ => x'.hk a _ e2 n2) il⟩
  · cases q
theorem pl_ix (ha : PDL X C a gl) (hb : PD X C b g) (hs : PlainIx b := by intro _ _; rfl) : PD X C (.Subscript a b pos) (gLIx gl g) := pe_imp (pe_ix ix_list ha hb hs) fun σ H Q hw' => by
  obtain ⟨e, Ω, ρ, d, Ω', eH, w, rl, q, kk⟩ := hw'
  unfold gLIx at q
  cases q1 : gl ρ Ω with
  | none => rw [q1] at q; cases q
  | some p1 =>
    obtain ⟨ds, Ω1⟩ := p1
    rw [q1] at q
    dsimp only at q
    cases q2 : g ρ Ω1 with
    | none => rw [q2] at q; cases q
    | some p2 =>
      obtain ⟨d2, Ω2⟩ := p2
      rw [q2] at q
      cases d2 with
      | int i =>
        dsimp only at q
        cases q3 : atI ds i with
        | none => rw [q3] at q; cases q
        | some z =>
          rw [q3] at q
          cases q
          refine ⟨e, Ω, ρ, ds, Ω1, eH, w, rl, q1, fun l vs e1 x1 w1 st il => ⟨e1, Ω1, ρ, _, _, rfl, w1, rl.ext x1, q2, fun v e2 x2 w2 i2 => ?_⟩⟩
          rw [Is] at i2
          subst i2
          obtain ⟨v, e3, i3⟩ := atI_is (il.ext x2) q3
          exact ⟨l, vs, i, v, rfl, rfl, SqL.of (st e2 _ x2 w2), e3, kk v e2 (x1.trans x2) w2 i3⟩
      | _ => cases q
end
end DL
set_option Elab.async false
set_option linter.all false
set_option maxRecDepth 100000
namespace DL
open PySem PySem.Spec PyProof.Rows L2
abbrev NDen := List D → List OS → Option (List D × List OS)
def spN (K : PySem.W.Frag) (C : Cl) (f : NDen) : Sp := fun vs H Q _ => ∃ e Ω ds xs Ω', e.H = H ∧ Wf K C e Ω ∧ IsL K e.α e.F ds vs ∧ f ds Ω = some (xs, Ω') ∧
  ∀ a us e', Ext e e' → Wf K C e' Ω' → IsL K e'.α e'.F xs us → e'.H a = none → Q (.ref a) (upd e'.H a (.lst us))
def frN (f : NDen) : FDen := fun ds Ω => match f ds Ω with
  | some (xs, Ω') => some (.lst xs, Ω')
  | none => none
structure FnN (P : Program) (w : World) (K : PySem.W.Frag) (mg : Str → Option Value) (base : Heap) (C : Cl) (k : Nat) (n : Str) (F : NDen) : Prop where
  ex : ∃ f fd ps, mg n = some (.ref f) ∧ PySem.W.keepIn K (.ref f) = true ∧ Binds K fd ps [] ∧ FnOk P w K mg base CX0 k f fd ps (spN K C F)
theorem FnN.fn {P : Program} {w : World} {K : PySem.W.Frag} {mg : Str → Option Value} {base : Heap} {C : Cl} {k : Nat} {n : Str} {F : NDen} (G : FnN P w K mg base C k n F) : Fn P w K mg base C k n (frN F) := by
  obtain ⟨f, fd, ps, h1, h2, h3, ok⟩ := G.ex
  refine ⟨f, fd, ps, h1, h2, h3, ok.imp fun vs H Q E ⟨e, Ω, ds, d, Ω', eH, w, il, q, kk⟩ => ?_⟩
  unfold frN at q
  cases q1 : F ds Ω with
  | none => rw [q1] at q; cases q
  | some p1 =>
    obtain ⟨xs, Ω1⟩ := p1
    rw [q1] at q
    cases q
    refine ⟨e, Ω, ds, xs, _, eH, w, il, q1, fun a us e' x' w' iu ha => ?_⟩
    refine kk _ (e'.new a _) (x'.trans (w'.new_ext ha)) (w'.new ha) ?_
    rw [Is]
    exact ⟨a, us, rfl, upd_same, iu.ext (w'.new_ext ha)⟩
section
variable {X : Cx} {C : Cl} {k : Nat} {n : Str} {p pos kpos npos : Pos} {x a : Expr} {es : List Expr} {ga : ADen} {g : Den}
end
end DL
set_option Elab.async false
set_option linter.all false
set_option maxRecDepth 100000
/-! texts -/
namespace L2
open PySem PySem.Spec PyProof.Rows
def Itx (x : Str) : It := ⟨fun i _ => i < x.cps.size, fun i H v H' => H' = H ∧ ∃ c, x.cps[i]? = some c ∧ v = .str ⟨#[c]⟩, fun i _ => i = x.cps.size⟩
theorem turn_text {P : Program} {w : World} {K : PySem.W.Frag} {tg : Expr} (it : Addr) (x : Str) (t : Tok) (T : String) (hT : ["enumerate", "zip", "dict_itemiterator", "dict_reverseitemiterator", "odict_iterator", "itertools.zip_longest", "itertools.pairwise"].contains T = false)
    (W : ∀ A : Around, A.handled = none → Walks P w A it [it] [it] x.cps.size (SignAt x) (fun i h => h.IsStrIter it T x t i)) (hself : ∀ (A : Around) (i : Nat) (s : Shared) (Q : Value → Shared → Prop) (E : Value → Shared → Prop), s.heap.IsStrIter it T x t i → Q (.ref it) s → wpAny (model P w) A (pyIter (.ref it)) Q E s) :
    Turn P w K tg (Itx x) [it] it (fun i h => h.IsStrIter it T x t i) where
  mem := by simp
  obj := fun i h st b hb => by
    have e : b = it := by simpa using hb
    subst e
    obtain ⟨o, h1, h2, h3⟩ := st
    exact ⟨o, h1, fun v z => by rw [h3] at z; cases z⟩
  keep := fun i h h' st k => by
    obtain ⟨o, h1, h2⟩ := st
    exact ⟨o, k it (by simp) _ h1, h2⟩
  item := by
    intro X hP hw hK hc i pins s σ H E I hf st hg
    subst hP hw hK
    obtain ⟨f0, f1, f2, f3, f4, f5⟩ := hf it (by simp)
    refine (W _ (I.ok.hd hc)).item i s _ _ hg st fun v h' tk hv st' kk => ?_
    obtain ⟨c, u, hc', rfl⟩ := hv
    have J1 : Inv X pins σ H { s with heap := h', toks := tk } := I.turned (fun b o hb e => kk b o (by simpa using hb) e) f0 f1 f3 f4 f5
    obtain ⟨o, g1, g2, g3⟩ := id st'
    exact ⟨_, rfl, go_of (s := { s with heap := h', toks := tk }) (n := T) g1 g2 g3 hT ⟨.str ⟨#[c]⟩, H, J1, ⟨u, rfl⟩, ⟨rfl, c, hc', rfl⟩, st', fun b hb => (hf b hb).1⟩⟩
  done := by
    intro X hP hw hK hc i pins s σ H E I hf st hg
    subst hP hw hK
    obtain ⟨f0, f1, f2, f3, f4, f5⟩ := hf it (by simp)
    have e : i = x.cps.size := hg
    subst e
    exact (W _ (I.ok.hd hc)).done s _ _ st fun h' tk kk => ⟨rfl, I.turned (t' := tk) (fun b o hb e => kk b o (by simpa using hb) e) f0 f1 f3 f4 f5⟩
  self := fun A i s Q E st h => hself A i s Q E st h
section
variable {X : Cx} {tg : Expr}
def iText (tl : TE) : TI := fun σ H R => tl σ H fun x H1 => ∃ z, x = .str z ∧ R (Itx z) H1
theorem pi_text {l : Expr} {tl : TE} (hl : PE X l tl) : PI X tg l (iText tl) := by
  intro pins s σ H R I h
  refine thn (hl pins s σ H _ I h) fun v s1 hw' => ?_
  obtain ⟨x, H1, I1, r1, q1⟩ := hw'
  obtain ⟨z, e, q⟩ := q1
  subst e
  obtain ⟨t, rfl⟩ := r1
  have fin : ∀ T, ["enumerate", "zip", "dict_itemiterator", "dict_reverseitemiterator", "odict_iterator", "itertools.zip_longest", "itertools.pairwise"].contains T = false →
      (∀ A : Around, A.handled = none → Walks X.prog X.w A s1.heap.objs.size [s1.heap.objs.size] [s1.heap.objs.size] z.cps.size (SignAt z) (fun i h => h.IsStrIter s1.heap.objs.size T z t i)) →
      (∀ (A : Around) (i : Nat) (s : Shared) (Q : Value → Shared → Prop) (E : Value → Shared → Prop), s.heap.IsStrIter s1.heap.objs.size T z t i → Q (.ref s1.heap.objs.size) s → wpAny (model X.prog X.w) A (pyIter (.ref s1.heap.objs.size)) Q E s) →
      ∀ o, (s1.heap.push o).IsStrIter s1.heap.objs.size T z t 0 → PIE X pins σ tg R (.ref s1.heap.objs.size) { s1 with heap := s1.heap.push o } := fun T hT W hs o st => by
    refine ⟨s1.heap.objs.size, [s1.heap.objs.size], _, _, H1, rfl, I1.kept (t' := s1.toks) fun b o e => Heap.get?_push_of_some _ e, turn_text _ z t T hT W hs, st, fun b hb => ?_, q⟩
    have e : b = s1.heap.objs.size := by simpa using hb
    subst e
    exact I1.fpOk (Nat.le_refl _) (I1.hok.fresh (Nat.le_refl _))
  cases ha : z.cps.all (· < 128)
  · exact wpAny_pyIter_wide ha (fin "str_iterator" (by decide) (fun A hA => Walks.strWide hA _ z t) (fun A i s Q E st hq => wpAny_pyIter_striter_wide st hq) _ ⟨_, Heap.get?_push_size _ rfl, rfl, rfl⟩)
  · exact wpAny_pyIter_ascii ha (fin "str_ascii_iterator" (by decide) (fun A hA => Walks.strAscii hA _ z t) (fun A i s Q E st hq => wpAny_pyIter_striter_ascii st hq) _ ⟨_, Heap.get?_push_size _ rfl, rfl, rfl⟩)
end
end L2
set_option Elab.async false
set_option linter.all false
set_option maxRecDepth 100000
namespace L2
open PySem PySem.Spec PyProof.Rows
section
variable {X : Cx}
def rEnds : V → List V → Hp → VK → Prop := fun x vs H Q => ∃ a b, x = .str a ∧ vs = [.str b] ∧ Q (.bl (Txt.endswith a b)) H
theorem mt_ends : MtR X "str.endswith" rEnds := by
  intro pins s σ H x vs v us Q I rx rv h
  obtain ⟨a, b, rfl, rfl, q⟩ := h
  obtain ⟨t, rfl⟩ := rx
  obtain ⟨u, rfl, ru⟩ := vals1 rv
  obtain ⟨t2, rfl⟩ := ru
  exact SC.endswith ⟨.bl _, H, I, rfl, q⟩
theorem vals_strs : ∀ (l : List (Str × Tok)), Vals ((l.map (·.1)).map V.str) (strValues l)
  | [] => .nil
  | (x, t) :: l => .cons ⟨t, rfl⟩ (vals_strs l)
theorem strs_of : ∀ {ys : List Str} {its : List Value}, Vals (ys.map V.str) its → ∃ l : List (Str × Tok), its = strValues l ∧ l.map (·.1) = ys
  | [], _, .nil => ⟨[], rfl, rfl⟩
  | y :: ys, _, .cons r rs => by
    obtain ⟨t, rfl⟩ := r
    obtain ⟨l, rfl, e⟩ := strs_of rs
    exact ⟨(y, t) :: l, rfl, by rw [List.map_cons, e]⟩
def rSplit : V → List V → Hp → VK → Prop := fun x vs H Q => ∃ a b, x = .str a ∧ vs = [.str b] ∧ (b.length == 0) = false ∧ a.length ≤ sizeLine ∧ (Builtin.Str.partsBetween a (Builtin.Str.occurrences a b 0 a.length (a.length + 1)) b.length).length ≤ sizeLine ∧ (Txt.split a b).length ≤ sizeLine ∧
  ∀ p, H p = none → Q (.ref p) (upd H p (.lst ((Txt.split a b).map V.str)))
theorem split_new {prog : Program} {w : World} {A : Around} {E : Value → Shared → Prop} {s : Shared} {x y : Str} {t u : Tok} {Q : Value → Shared → Prop} (hy : (y.length == 0) = false) (hsz : x.length ≤ sizeLine) (hsz2 : (Builtin.Str.partsBetween x (Builtin.Str.occurrences x y 0 x.length (x.length + 1)) y.length).length ≤ sizeLine)
    (hq : ∀ (l : List (Str × Tok)) (k : Nat), l.map (·.1) = Txt.split x y → Q (.ref s.heap.objs.size) { s with heap := s.heap.push { cls := .type "list", data := .seq (strValues l).toArray }, toks := k }) : wpAny (model prog w) A (call (.builtin "str.split") [.str x t, .str y u]) Q E s := by
  cases h1 : (decide (x.length < y.length) || decide (Builtin.Str.strKind x < Builtin.Str.strKind y))
  · cases hf : (Builtin.Str.occurrences x y 0 x.length (x.length + 1)).isEmpty
    · refine call_meets F.slot_str_split (typeIs_str _ _ _) F.entry_str_split (F.args_str_split_2 _ _) (meets_str_split_sep x y t u h1 hy hf hsz hsz2) ?_
      have q := hq (numbered s.toks (Builtin.Str.partsBetween x (Builtin.Str.occurrences x y 0 x.length (x.length + 1)) y.length)) (s.toks + (Builtin.Str.partsBetween x (Builtin.Str.occurrences x y 0 x.length (x.length + 1)) y.length).length) ((numbered_texts _ _).trans ((if_neg (ne_true_of_eq_false h1)).trans (if_neg (ne_true_of_eq_false hf))).symm)
      rw [← strsFrom_eq] at q; exact q
    · exact call_meets F.slot_str_split (typeIs_str _ _ _) F.entry_str_split (F.args_str_split_2 _ _) (meets_str_split_not_found x y t u h1 hy hf) (hq [(x, t)] s.toks ((if_neg (ne_true_of_eq_false h1)).trans (if_pos hf)).symm)
  · exact call_meets F.slot_str_split (typeIs_str _ _ _) F.entry_str_split (F.args_str_split_2 _ _) (meets_str_split_cannot_occur x y t u h1) (hq [(x, t)] s.toks (if_pos h1).symm)
theorem mt_split : MtR X "str.split" rSplit := by
  intro pins s σ H x vs v us Q I rx rv h
  obtain ⟨a, b, rfl, rfl, h1, h2, h3, h4, q⟩ := h
  obtain ⟨t, rfl⟩ := rx
  obtain ⟨u, rfl, ru⟩ := vals1 rv
  obtain ⟨t2, rfl⟩ := ru
  refine split_new h1 h2 h3 fun l k e => ?_
  refine ⟨.ref s.heap.objs.size, _, I.laid (t' := k) (o := .lst ((Txt.split a b).map V.str)) (fun b ob q => Heap.get?_push_of_some _ q) (Nat.le_refl _) ?_, rfl, q _ (I.hok.fresh (Nat.le_refl _))⟩
  refine ⟨by rw [List.length_map]; exact h4, strValues l, 0, by rw [← e]; exact vals_strs l, Heap.get?_push_size _ rfl⟩
def rJoin (K : PySem.W.Frag) : V → List V → Hp → VK → Prop := fun x vs H Q => ∃ a p ys, x = .str a ∧ vs = [.ref p] ∧ SqL K H p (ys.map V.str) ∧ JoinOk a ys = true ∧ Q (.str (Txt.join a ys)) H
theorem mt_join : MtR X "str.join" (rJoin X.K) := by
  intro pins s σ H x vs v us Q I rx rv h
  obtain ⟨a, p, ys, rfl, rfl, hp, hok, q⟩ := h
  obtain ⟨t, rfl⟩ := rx
  obtain ⟨u, rfl, ru⟩ := vals1 rv
  cases ru
  obtain ⟨its, r, pl, _⟩ := I.list hp
  obtain ⟨l, rfl, e⟩ := strs_of r
  exact SC.join pl.isList e hok fun t' k => ⟨.str _, H, I.tok k, ⟨t', rfl⟩, q⟩
theorem call_intS : CallR X (.type "int") (fun xs H Q => ∃ z n, xs = [V.str z] ∧ PySem.intText? z = some n ∧ z.length ≤ 640 ∧ Q (.int n) H) := by
  intro pins s σ H xs us Q I r h
  obtain ⟨z, n, rfl, h1, h2, q⟩ := h
  obtain ⟨u, rfl, ru⟩ := vals1 r
  obtain ⟨t, rfl⟩ := ru
  exact PySem.W.KIN.call_text h1 h2 ⟨.int n, H, I.tok _, ⟨_, rfl⟩, q⟩
theorem call_allB (hh : X.A.handled = none) : CallR X (.builtin "all") (fun xs H Q => ∃ (p : Addr) (bs : List Bool), xs = [V.ref p] ∧ SqL X.K H p (bs.map V.bl) ∧ Q (.bl (bs.all id)) H) := by
  intro pins s σ H xs us Q I r h
  obtain ⟨p, bs, rfl, hp, q⟩ := h
  obtain ⟨u, rfl, ru⟩ := vals1 r
  cases ru
  obtain ⟨its, rv, pl, _⟩ := I.list hp
  have hlt : p < s.heap.objs.size := by obtain ⟨_, _, e, _⟩ := pl; exact Heap.lt_size e
  have hl := rv.length
  rw [List.length_map] at hl
  refine call_all_walk (wpAny_pyIter_list pl.isList ?_)
  refine ⟨s.heap.objs.size, [s.heap.objs.size, p], [s.heap.objs.size], its.toArray.size, _, _, fun i => (bs[i]?).getD true, rfl, Walks.list (A := X.A.in1) hh _ p (Nat.ne_of_lt hlt) its.toArray, ⟨⟨_, Heap.get?_push_size _ rfl, rfl, rfl⟩, pl.isList.push _⟩, fun i v s' Q' E' hP hQ => ?_, fun h' tk hk => ?_⟩
  · have hi : i < its.length := by
      have : its.toArray[i]? = some v := hP
      have := (Array.getElem?_eq_some_iff.mp this).1
      simpa using this
    have hb : i < bs.length := by omega
    obtain ⟨u, e1, e2⟩ := rv.get (i := i) (x := V.bl bs[i]) (by rw [List.getElem?_map, List.getElem?_eq_getElem hb]; rfl)
    have e3 : its.toArray[i]? = some v := hP
    rw [show its.toArray[i]? = its[i]? by simp, e1] at e3
    cases e3
    cases (show v = Value.bool bs[i] from e2)
    dsimp only at hQ
    rw [List.getElem?_eq_getElem hb, Option.getD_some] at hQ
    exact wpAny_truthy_bool hQ
  · have e : ((List.range its.toArray.size).all fun i => (bs[i]?).getD true) = bs.all id := by
      rw [List.size_toArray, ← hl]
      have : ∀ l : List Bool, ((List.range l.length).all fun i => (l[i]?).getD true) = l.all id := by
        intro l
        induction l with
        | nil => rfl
        | cons b l ih =>
          rw [List.length_cons, List.range_succ_eq_map, List.all_cons, List.all_map, List.all_cons, ← ih]
          rfl
      exact this bs
    rw [e]
    refine ⟨.bl _, H, I.kept (t' := tk) fun b o q => ?_, rfl, q⟩
    exact hk b o (fun hm => by rw [List.mem_singleton.mp hm] at q; exact Nat.lt_irrefl _ (Heap.lt_size q)) (Heap.get?_push_of_some _ q)
theorem part_of {v : Value} {o : Option Int} (h : IsPart v o) : ∃ l : Option (Int × Tok), v = partValue l ∧ l.map (·.1) = o := by
  cases h with
  | none => exact ⟨none, rfl, rfl⟩
  | int i t => exact ⟨some (i, t), rfl, rfl⟩
def rSlS : V → Option Int → Option Int → Hp → VK → Prop := fun x lo hi H Q => ∃ z, x = .str z ∧ z.length ≤ sizeLine ∧ Q (.str (Txt.slice z lo hi)) H
theorem sl_text : SlR X rSlS := by
  intro pins s σ H x v vl vu lo hi sl Q I rx hs pl pu h
  obtain ⟨z, rfl, hz, q⟩ := h
  obtain ⟨t, rfl⟩ := rx
  obtain ⟨l, rfl, rfl⟩ := part_of pl
  obtain ⟨u, rfl, rfl⟩ := part_of pu
  refine ⟨"str", _, F.slot_str_getitem.lookup, typeIs_str _ _ _, wpAny_getItem_str_slice (l := l) (u := u) (st := none) hs rfl (post_val_or_str ⟨Nat.le_trans (Txt.slice_le z _ _) hz, fun t' k => ?_⟩)⟩
  exact ⟨.str _, H, I.tok k, ⟨t', rfl⟩, q⟩
end
end L2
set_option Elab.async false
set_option linter.all false
set_option maxRecDepth 100000
namespace DL
open PySem PySem.Spec PyProof.Rows L2
/-! ### texts -/
def signsD (z : Str) : List D := z.cps.toList.map fun c => .str ⟨#[c]⟩
def gTx (g : Den) : ADen := fun ρ Ω => match g ρ Ω with
  | some (.str z, Ω') => some (signsD z, Ω')
  | _ => none
def endsD : D → D → Option D
  | .str a, .str b => some (.bl (Txt.endswith a b))
  | _, _ => none
def strsD : List D → Option (List Str)
  | [] => some []
  | .str z :: r => match strsD r with
    | some zs => some (z :: zs)
    | none => none
  | _ => none
def blsD : List D → Option (List Bool)
  | [] => some []
  | .bl b :: r => match blsD r with
    | some bs => some (b :: bs)
    | none => none
  | _ => none
noncomputable def splD : D → D → Option D
  | .str a, .str b => grd ((b.length == 0) = false ∧ a.length ≤ 100000 ∧ (Builtin.Str.partsBetween a (Builtin.Str.occurrences a b 0 a.length (a.length + 1)) b.length).length ≤ 100000 ∧ (Txt.split a b).length ≤ 100000) (some (.lst ((Txt.split a b).map D.str)))
  | _, _ => none
noncomputable def joinD : D → D → Option D
  | .str a, .lst ds => match strsD ds with
    | some zs => grd (JoinOk a zs = true) (some (.str (Txt.join a zs)))
    | none => none
  | _, _ => none
def inSD (neg : Bool) : D → D → Option D
  | .str y, .str x => some (.bl (if neg then !Txt.contains x y else Txt.contains x y))
  | _, _ => none
noncomputable def int1S : List D → Option D
  | [.str z] => match PySem.intText? z with
    | some n => grd (z.length ≤ 640) (some (.int n))
    | none => none
  | _ => none
def allD : List D → Option D
  | [.lst ds] => match blsD ds with
    | some bs => some (.bl (bs.all id))
    | none => none
  | _ => none
noncomputable def slS : D → Option Int → Option Int → Option D
  | .str z, lo, hi => grd (z.length ≤ 100000) (some (.str (Txt.slice z lo hi)))
  | _, _, _ => none
noncomputable def gSlS (f : Den) (lo hi : PDen) : Den := fun ρ Ω => match f ρ Ω with
  | some (d, Ω1) => match lo ρ Ω1 with
    | some (l, Ω2) => match hi ρ Ω2 with
      | some (u, Ω3) => match slS d l u with
        | some z => some (z, Ω3)
        | none => none
      | none => none
    | none => none
  | none => none
theorem big_size : (100000 : Nat) ≤ sizeLine := by rw [sizeLine_eq]; decide
theorem isL_strs {K : PySem.W.Frag} {α : List Addr} {F : Hp} : ∀ {ds : List D} {zs : List Str} {vs : List V}, strsD ds = some zs → IsL K α F ds vs → vs = zs.map V.str
  | [], zs, vs, h, i => by cases h; exact i.of_nil
  | .str z :: r, zs, vs, h, i => by
    obtain ⟨v, t, rfl, i1, i2⟩ := i.of_cons
    unfold strsD at h
    cases q : strsD r with
    | none => rw [q] at h; cases h
    | some ys =>
      rw [q] at h
      cases h
      rw [Is] at i1
      rw [i1, isL_strs q i2]
      rfl
  | .non :: _, _, _, h, _ => nomatch h
  | .bl _ :: _, _, _, h, _ => nomatch h
  | .int _ :: _, _, _, h, _ => nomatch h
  | .tup _ :: _, _, _, h, _ => nomatch h
  | .lst _ :: _, _, _, h, _ => nomatch h
  | .scr _ :: _, _, _, h, _ => nomatch h
  | .obj _ :: _, _, _, h, _ => nomatch h
theorem isL_bls {K : PySem.W.Frag} {α : List Addr} {F : Hp} : ∀ {ds : List D} {bs : List Bool} {vs : List V}, blsD ds = some bs → IsL K α F ds vs → vs = bs.map V.bl
  | [], zs, vs, h, i => by cases h; exact i.of_nil
  | .bl z :: r, zs, vs, h, i => by
    obtain ⟨v, t, rfl, i1, i2⟩ := i.of_cons
    unfold blsD at h
    cases q : blsD r with
    | none => rw [q] at h; cases h
    | some ys =>
      rw [q] at h
      cases h
      rw [Is] at i1
      rw [i1, isL_bls q i2]
      rfl
  | .non :: _, _, _, h, _ => nomatch h
  | .str _ :: _, _, _, h, _ => nomatch h
  | .int _ :: _, _, _, h, _ => nomatch h
  | .tup _ :: _, _, _, h, _ => nomatch h
  | .lst _ :: _, _, _, h, _ => nomatch h
  | .scr _ :: _, _, _, h, _ => nomatch h
  | .obj _ :: _, _, _, h, _ => nomatch h
theorem isL_mkstrs {K : PySem.W.Frag} {α : List Addr} {F : Hp} : ∀ zs : List Str, IsL K α F (zs.map D.str) (zs.map V.str)
  | [] => .nil
  | z :: zs => .cons (by rw [Is]) (isL_mkstrs zs)
theorem walk_text {K : PySem.W.Frag} {e : E4} {z : Str} : Walk K e (Itx z) (signsD z) := by
  refine Walk.still ?_
  intro i e2 _ _ _
  refine ⟨fun h => by rw [h]; simp [signsD, Itx], fun d hd => ?_⟩
  have hl : i < z.cps.size := by
    have := (List.getElem?_eq_some_iff.mp hd).1
    simpa [signsD] using this
  refine ⟨hl, fun x H' ⟨z1, c, z2, z3⟩ => ⟨z1, ?_⟩⟩
  have : d = D.str ⟨#[c]⟩ := by
    unfold signsD at hd
    rw [List.getElem?_map, Array.getElem?_toList, z2] at hd
    exact (Option.some.inj hd).symm
  subst this z3
  rw [Is]
section
variable {X : Cx} {C : Cl} {x a b tg : Expr} {f g : Den} {n : Str} {p pos ap cp : Pos}
theorem pdi_text (h : PD X C x g) : PDI X C tg x (gTx g) := pi_imp (pi_text h) fun σ H R hw' => by
  obtain ⟨e, Ω, ρ, ds, Ω', eH, w, rl, q, k⟩ := hw'
  unfold gTx at q
  cases q1 : g ρ Ω with
  | none => rw [q1] at q; cases q
  | some p1 =>
    obtain ⟨d1, Ω1⟩ := p1
    rw [q1] at q
    cases d1 with
    | str z =>
      cases q
      refine ⟨e, Ω, ρ, _, _, eH, w, rl, q1, fun v e1 x1 w1 i1 => ?_⟩
      rw [Is] at i1
      exact ⟨z, i1, k e1 _ x1 w1 walk_text⟩
    | _ => cases q
theorem pd_ends (ha : PD X C a f) (hb : PD X C b g)
    (hbase : attributeBase a "endswith" X.env (eval a X.env) = eval a X.env := by rfl) (hline : (ap.endLine == cp.line) = true := by rfl) (hs1 : starEach [b] X.env = (false, eval b X.env) :: starEach [] X.env := by rfl)
    (hfew : ((backTo cp (starEach [b] X.env)).all (fun x => !x.1) && (backToKw cp (keywordEach [] X.env)).all (fun x => x.1.isSome) && decide ([b].length + ([] : List Keyword).length + (if ([] : List Keyword).isEmpty then 0 else 1) < 30)) = true := by rfl)
    (hpl : (backTo cp (starEach [] X.env)).any (·.1) = false := by rfl) : PD X C (.Call (.Attribute a "endswith" ap) [b] [] cp) (gOp endsD f g) :=
  pe_imp (pe_bm PySem.F.plainAttrs_str PySem.F.slot_str_endswith PySem.F.type_str_endswith mt_ends ha (pa_cons hb pa_nil hs1) hbase hfew hline hs1 hpl) fun σ H Q hw' => by
    obtain ⟨e, Ω, ρ, d, Ω', eH, w, rl, q, kk⟩ := hw'
    unfold gOp at q
    cases q1 : f ρ Ω with
    | none => rw [q1] at q; cases q
    | some p1 =>
      obtain ⟨d1, Ω1⟩ := p1
      rw [q1] at q
      dsimp only at q
      cases q2 : g ρ Ω1 with
      | none => rw [q2] at q; cases q
      | some p2 =>
        obtain ⟨d2, Ω2⟩ := p2
        rw [q2] at q
        dsimp only at q
        cases d1 with
        | str z1 =>
          cases d2 with
          | str z2 =>
            cases q
            refine ⟨e, Ω, ρ, _, Ω1, eH, w, rl, q1, fun v e1 x1 w1 i1 => ?_⟩
            rw [Is] at i1
            subst i1
            refine ⟨rfl, e1, Ω1, ρ, _, _, rfl, w1, rl.ext x1, q2, fun u e2 x2 w2 i2 => ?_⟩
            rw [Is] at i2
            subst i2
            exact ⟨z1, z2, rfl, rfl, kk _ e2 (x1.trans x2) w2 (by rw [Is])⟩
          | _ => cases q
        | _ => cases q
theorem pd_split (ha : PD X C a f) (hb : PD X C b g)
    (hbase : attributeBase a "split" X.env (eval a X.env) = eval a X.env := by rfl) (hline : (ap.endLine == cp.line) = true := by rfl) (hs1 : starEach [b] X.env = (false, eval b X.env) :: starEach [] X.env := by rfl)
    (hfew : ((backTo cp (starEach [b] X.env)).all (fun x => !x.1) && (backToKw cp (keywordEach [] X.env)).all (fun x => x.1.isSome) && decide ([b].length + ([] : List Keyword).length + (if ([] : List Keyword).isEmpty then 0 else 1) < 30)) = true := by rfl)
    (hpl : (backTo cp (starEach [] X.env)).any (·.1) = false := by rfl) : PD X C (.Call (.Attribute a "split" ap) [b] [] cp) (gOp splD f g) :=
  pe_imp (pe_bm PySem.F.plainAttrs_str PySem.F.slot_str_split PySem.F.type_str_split mt_split ha (pa_cons hb pa_nil hs1) hbase hfew hline hs1 hpl) fun σ H Q hw' => by
    obtain ⟨e, Ω, ρ, d, Ω', eH, w, rl, q, kk⟩ := hw'
    unfold gOp at q
    cases q1 : f ρ Ω with
    | none => rw [q1] at q; cases q
    | some p1 =>
      obtain ⟨d1, Ω1⟩ := p1
      rw [q1] at q
      dsimp only at q
      cases q2 : g ρ Ω1 with
      | none => rw [q2] at q; cases q
      | some p2 =>
        obtain ⟨d2, Ω2⟩ := p2
        rw [q2] at q
        dsimp only at q
        cases d1 with
        | str z1 =>
          cases d2 with
          | str z2 =>
            cases q3 : splD (.str z1) (.str z2) with
            | none => rw [q3] at q; cases q
            | some z =>
              rw [q3] at q
              cases q
              unfold splD at q3
              obtain ⟨⟨h1, h2, h3, h4⟩, q3⟩ := grd_some q3
              cases q3
              refine ⟨e, Ω, ρ, _, Ω1, eH, w, rl, q1, fun v e1 x1 w1 i1 => ?_⟩
              rw [Is] at i1
              subst i1
              refine ⟨rfl, e1, Ω1, ρ, _, _, rfl, w1, rl.ext x1, q2, fun u e2 x2 w2 i2 => ?_⟩
              rw [Is] at i2
              subst i2
              refine ⟨z1, z2, rfl, rfl, h1, Nat.le_trans h2 big_size, Nat.le_trans h3 big_size, Nat.le_trans h4 big_size, fun p' hp => ?_⟩
              refine kk _ (e2.new p' _) ((x1.trans x2).trans (w2.new_ext hp)) (w2.new hp) ?_
              rw [Is]
              exact ⟨p', _, rfl, upd_same, isL_mkstrs _⟩
          | _ => cases q
        | _ => cases q
theorem pd_join (ha : PD X C a f) (hb : PD X C b g)
    (hbase : attributeBase a "join" X.env (eval a X.env) = eval a X.env := by rfl) (hline : (ap.endLine == cp.line) = true := by rfl) (hs1 : starEach [b] X.env = (false, eval b X.env) :: starEach [] X.env := by rfl)
    (hfew : ((backTo cp (starEach [b] X.env)).all (fun x => !x.1) && (backToKw cp (keywordEach [] X.env)).all (fun x => x.1.isSome) && decide ([b].length + ([] : List Keyword).length + (if ([] : List Keyword).isEmpty then 0 else 1) < 30)) = true := by rfl)
    (hpl : (backTo cp (starEach [] X.env)).any (·.1) = false := by rfl) : PD X C (.Call (.Attribute a "join" ap) [b] [] cp) (gOp joinD f g) :=
  pe_imp (pe_bm PySem.F.plainAttrs_str PySem.F.slot_str_join PySem.F.type_str_join mt_join ha (pa_cons hb pa_nil hs1) hbase hfew hline hs1 hpl) fun σ H Q hw' => by
    obtain ⟨e, Ω, ρ, d, Ω', eH, w, rl, q, kk⟩ := hw'
    unfold gOp at q
    cases q1 : f ρ Ω with
    | none => rw [q1] at q; cases q
    | some p1 =>
      obtain ⟨d1, Ω1⟩ := p1
      rw [q1] at q
      dsimp only at q
      cases q2 : g ρ Ω1 with
      | none => rw [q2] at q; cases q
      | some p2 =>
        obtain ⟨d2, Ω2⟩ := p2
        rw [q2] at q
        dsimp only at q
        cases d1 with
        | str z1 =>
          cases d2 with
          | lst ds =>
            cases q4 : strsD ds with
            | none =>
              have : joinD (.str z1) (.lst ds) = none := by show (match strsD ds with | some zs => grd (JoinOk z1 zs = true) (some (D.str (Txt.join z1 zs))) | none => none) = none; rw [q4]
              rw [this] at q; cases q
            | some zs =>
              have e3 : joinD (.str z1) (.lst ds) = grd (JoinOk z1 zs = true) (some (.str (Txt.join z1 zs))) := by show (match strsD ds with | some zs => grd (JoinOk z1 zs = true) (some (D.str (Txt.join z1 zs))) | none => none) = _; rw [q4]
              rw [e3] at q
              by_cases hj : JoinOk z1 zs = true
              · rw [grd_pos hj] at q
                cases q
                refine ⟨e, Ω, ρ, _, Ω1, eH, w, rl, q1, fun v e1 x1 w1 i1 => ?_⟩
                rw [Is] at i1
                subst i1
                refine ⟨rfl, e1, Ω1, ρ, _, _, rfl, w1, rl.ext x1, q2, fun u e2 x2 w2 i2 => ?_⟩
                rw [Is] at i2
                obtain ⟨l, vs, rfl, hF, il⟩ := i2
                rw [isL_strs q4 il] at hF
                exact ⟨z1, l, zs, rfl, rfl, SqL.of (w2.fh _ _ hF), hj, kk _ e2 (x1.trans x2) w2 (by rw [Is])⟩
              · have : grd (JoinOk z1 zs = true) (some (D.str (Txt.join z1 zs))) = none := if_neg hj
                rw [this] at q; cases q
          | _ => cases q
        | _ => cases q
theorem opD_inS : OpD X C (compareOp .In) (inSD false) := by
  rintro pins s σ H x y v u Q I rx ry ⟨e, Ω, d₁, d₂, z, eH, w, i1, i2, q, kk⟩
  subst eH
  cases d₁ with
  | str y1 =>
    cases d₂ with
    | str x1 =>
      cases q
      rw [Is] at i1
      rw [Is] at i2
      subst i1 i2
      obtain ⟨t, rfl⟩ := rx
      obtain ⟨t2, rfl⟩ := ry
      exact P.in_str ⟨.bl _, e.H, I, rfl, kk _ e (Ext.refl e) w (by rw [Is]; rfl)⟩
    | _ => cases q
  | _ => cases q
theorem opD_notinS : OpD X C (compareOp .NotIn) (inSD true) := by
  rintro pins s σ H x y v u Q I rx ry ⟨e, Ω, d₁, d₂, z, eH, w, i1, i2, q, kk⟩
  subst eH
  cases d₁ with
  | str y1 =>
    cases d₂ with
    | str x1 =>
      cases q
      rw [Is] at i1
      rw [Is] at i2
      subst i1 i2
      obtain ⟨t, rfl⟩ := rx
      obtain ⟨t2, rfl⟩ := ry
      exact P.notIn_str ⟨.bl _, e.H, I, rfl, kk _ e (Ext.refl e) w (by rw [Is]; rfl)⟩
    | _ => cases q
  | _ => cases q
theorem callD_intS : CallD X C (.type "int") int1S := by
  rintro pins s σ H xs us Q I r ⟨e, Ω, ds, z, eH, w, i, q, kk⟩
  subst eH
  match ds, q with
  | [.str zz], q =>
    obtain ⟨v, rfl, iv⟩ := isL_one i
    rw [Is] at iv
    subst iv
    unfold int1S at q
    dsimp only at q
    cases q1 : PySem.intText? zz with
    | none => rw [q1] at q; cases q
    | some n =>
      rw [q1] at q
      obtain ⟨hl, q⟩ := grd_some q
      cases q
      exact call_intS pins s σ _ _ us Q I r ⟨zz, n, rfl, q1, hl, kk _ e (Ext.refl e) w (by rw [Is])⟩
theorem callD_all (hh : X.A.handled = none) : CallD X C (.builtin "all") allD := by
  rintro pins s σ H xs us Q I r ⟨e, Ω, ds, z, eH, w, i, q, kk⟩
  subst eH
  match ds, q with
  | [.lst es], q =>
    obtain ⟨v, rfl, iv⟩ := isL_one i
    rw [Is] at iv
    obtain ⟨l, vs, rfl, hF, il⟩ := iv
    unfold allD at q
    dsimp only at q
    cases q1 : blsD es with
    | none => rw [q1] at q; cases q
    | some bs =>
      rw [q1] at q
      cases q
      rw [isL_bls q1 il] at hF
      exact call_allB hh pins s σ _ _ us Q I r ⟨l, bs, rfl, SqL.of (w.fh _ _ hF), kk _ e (Ext.refl e) w (by rw [Is])⟩
theorem pd_slS {lo hi : Option Expr} {gl gh : PDen} {p2 : Pos} (ha : PD X C a f) (hl : PDO X C lo gl) (hh : PDO X C hi gh) : PD X C (.Subscript a (.Slice lo hi none p2) pos) (gSlS f gl gh) :=
  pe_imp (pe_slice sl_text ha hl hh) fun σ H Q hw' => by
    obtain ⟨e, Ω, ρ, d, Ω', eH, w, rl, e1, kk⟩ := hw'
    unfold gSlS at e1
    cases q1 : f ρ Ω with
    | none => rw [q1] at e1; cases e1
    | some p1 =>
      obtain ⟨d1, Ω1⟩ := p1
      rw [q1] at e1
      dsimp only at e1
      cases q2 : gl ρ Ω1 with
      | none => rw [q2] at e1; cases e1
      | some p2 =>
        obtain ⟨l, Ω2⟩ := p2
        rw [q2] at e1
        dsimp only at e1
        cases q3 : gh ρ Ω2 with
        | none => rw [q3] at e1; cases e1
        | some p3 =>
          obtain ⟨u, Ω3⟩ := p3
          rw [q3] at e1
          dsimp only at e1
          cases d1 with
          | str zz =>
            cases q4 : slS (.str zz) l u with
            | none => rw [q4] at e1; cases e1
            | some z =>
              rw [q4] at e1
              cases e1
              unfold slS at q4
              obtain ⟨hz, q4⟩ := grd_some q4
              cases q4
              refine ⟨e, Ω, ρ, _, Ω1, eH, w, rl, q1, fun v e' x' w' i' => ?_⟩
              rw [Is] at i'
              refine ⟨e', Ω1, ρ, l, Ω2, rfl, w', rl.ext x', q2, fun e2 x2 w2 => ?_⟩
              refine ⟨e2, Ω2, ρ, u, _, rfl, w2, (rl.ext x').ext x2, q3, fun e3 x3 w3 => ?_⟩
              exact ⟨zz, i', Nat.le_trans hz big_size, kk _ e3 ((x'.trans x2).trans x3) w3 (by rw [Is])⟩
          | _ => cases e1
end
end DL
set_option Elab.async false
set_option linter.all false
set_option maxRecDepth 100000
/-! an exception of a class of the text is raised -/
namespace L2
open PySem PySem.Spec PyProof.Rows
section
variable {X : Cx} {x : Str} {C : Addr} {bmB : List Value} {B newId initId : String} {np cpos pos : Pos} {e : Expr} {te : TE}
/-- what is wanted where an exception of the class at C is thrown at H -/
def Thrown (X : Cx) (C : Addr) (σ : St) (H : Hp) : Prop := ∀ (pins : List (Addr × Obj)) (s : Shared) (h' : Heap) (ea : Addr) (args : List Value), Inv X pins σ H s → Heap.MadeExcOf s.heap h' ea (.ref C) args → X.xe (.ref ea) { s with heap := h' }
theorem ps_raise (O : OwnCls x C bmB newId X.mg X.base) (FB : ExcBaseFacts B newId initId bmB) (hh : X.A.handled = none) (hg : Gl X x) (ha : PE X e te) (te_mono : ∀ {σ : St} {H : Hp}, te σ H (fun _ H1 => Thrown X C σ H1) → te σ H (fun v H1 => [v].length = 1 ∧ Thrown X C σ H1)) (he : starEach [e] X.env = (false, eval e X.env) :: starEach [] X.env := by rfl) (hpl : (backTo cpos (starEach [e] X.env)).any (·.1) = false := by rfl)
    (hd : (x == ("__debug__" : Str)) = false := by decide) : PS X (.Raise (some (.Call (.Name x np) [e] [] cpos)) none pos) (fun _ σ H => te σ H fun _ H1 => Thrown X C σ H1) := by
  intro pins s σ H D I h
  obtain ⟨tl, N, nm, q, bs, hdct, sn, sub, ab, col, dd, k0, k1, k2, k3, k5, mN, hC, hN, hni, T⟩ := O.obj
  refine wpAny_Raise_call_subT (C := C) (nm := nm) (q := q) (N := N) (bs := bs) (bm := tl) (hdct := hdct) (sn := sn) (sub := sub) (ab := ab) (col := col) (dd := dd) (k0 := k0) (k1 := k1) (k2 := k2) (k3 := k3) (k5 := k5) FB (mN := mN) (T.hasType FB.hasBase) hh hpl hni (ld_glob I hg O.bound ⟨rfl, ?_⟩ hd)
  have sp := (pa_cons ha pa_nil he) cpos pins s σ H (fun vs H1 => vs.length = 1 ∧ Thrown X C σ H1) I (show te σ H (fun v H1 => [v].length = 1 ∧ Thrown X C σ H1) from (te_mono h))
  rw [he] at sp ⊢
  refine Calls.evalArgs_plain (thn sp fun us s2 hw' => ?_)
  obtain ⟨vs, H1, I1, r1, l1, q1⟩ := hw'
  have k := I1.bk
  exact ⟨rfl, by show us.length ≤ sizeLine; rw [← r1.length, l1]; decide, k _ _ hC, hN.keeps k, T.keeps k, fun h' ea hm => q1 pins s2 h' ea us I1 hm⟩
end
theorem ok_there {P : Program} {w : World} {H : Hp} {h : Heap} {a : Addr} {o : HO} (x : ObjOk P w H h a o) : ∃ ob, h.get? a = some ob := by
  cases o with
  | lst xs => obtain ⟨_, _, _, _, e⟩ := x; exact ⟨_, e⟩
  | tup xs => obtain ⟨_, _, _, ob, e, _⟩ := x; exact ⟨ob, e⟩
  | dK kvs => obtain ⟨_, _, _, _, o, _, _, e, _⟩ := x; exact ⟨_, e⟩
  | dT kvs => obtain ⟨_, _, _, _, o, _, _, e, _⟩ := x; exact ⟨_, e⟩
  | set S n => obtain ⟨o, _, _, _, e, _⟩ := x; exact ⟨_, e⟩
  | ins C dx fs => obtain ⟨_, _, _, e, _⟩ := x; exact ⟨_, e⟩
  | own y => exact x
  | xd fs => obtain ⟨_, ⟨_, _, _, e, _⟩, _⟩ := x; exact ⟨_, e⟩
  | rng lo hi => obtain ⟨_, _, _, e⟩ := x; exact ⟨_, e⟩
  | frz ob u => exact ⟨_, x.1⟩
  | tbl ps => exact ⟨_, x⟩
  | met f y => exact ⟨_, x⟩
  | ext φ => exact x.2.1
/-- how an exception of a class of the text lies behind a call: its object flies over the callers' frames, what is tracked lies as H' tells -/
def CXr (P : Program) (w : World) : CXT := fun outer H s E e s' => ∃ (ea C t : Addr) (H' : Hp) (B : Heap), e = .ref ea ∧ E (.ref C) none H' ∧ s'.os = s.os ∧ AllBare s'.gens ∧ Un (frs outer) [] H H' s.heap s'.heap ∧ HOk P w H' s'.heap ∧
  Heap.FlyingW B outer ea (.ref C) (.ref t) s'.heap ∧ (∀ b o, H' b = some o → ∃ ob, B.get? b = some ob) ∧ H' ea = none ∧ ∀ b o, s.heap.get? b = some o → H b = none → b ∉ frs outer → B.get? b = some o
theorem thrown_leaves {P : Program} {w : World} {K : PySem.W.Frag} {mg : Str → Option Value} {base : Heap} {N : List Str} {qual : Str} {scope : Scope} {f C : Addr} {cd : Value} {A : Around} {outer : List Env} {s₀ : Shared} {H₀ H : Hp} {E : XK} {σ : St}
    (hE : E (.ref C) none H) : Thrown (cxOf (CXr P w) P w K mg base N qual scope f cd A outer s₀ H₀ E) C σ H := by
  intro pins s h' ea args I hm
  have hst : (cxOf (CXr P w) P w K mg base N qual scope f cd A outer s₀ H₀ E).stack = envOfC qual scope s₀.heap.objs.size f cd :: outer := rfl
  have hB : ∀ b o, s.heap.get? b = some o → b ∉ frs (envOfC qual scope s₀.heap.objs.size f cd :: outer) → (PySem.W.hideAll s.heap (frs (envOfC qual scope s₀.heap.objs.size f cd :: outer))).get? b = some o := fun b o e n => PySem.W.hideAll_get _ e n
  have sub : ∀ b ∈ frs (envOfC qual scope s₀.heap.objs.size f cd :: outer), b = s₀.heap.objs.size ∨ b ∈ frs outer := fun b hb => List.mem_cons.mp (I.stkSub b hb)
  have old : ∀ b o, s₀.heap.get? b = some o → b ∉ frs outer → b ∉ frs (envOfC qual scope s₀.heap.objs.size f cd :: outer) := fun b o e n hb => by
    rcases sub b hb with z | z
    · exact absurd (Heap.lt_size e) (by rw [z]; exact Nat.lt_irrefl _)
    · exact n z
  have trk : ∀ b o, H b = some o → b ∉ frs (envOfC qual scope s₀.heap.objs.size f cd :: outer) := fun b o e hb => by
    have := I.stkFree b hb
    rw [this] at e; cases e
  refine wpAny_leaves_madeW (base := PySem.W.hideAll s.heap (frs (envOfC qual scope s₀.heap.objs.size f cd :: outer))) (env := envOfC qual scope s₀.heap.objs.size f cd) (outer := outer) (L := s₀.heap.objs.size) (h := s.heap) I.ok.frames rfl (fun b o q => PySem.W.of_hideAll _ q)
    (PySem.W.funFrames_hide I.stack fun env he b hb => List.mem_filterMap.mpr ⟨env, he, hb⟩) hm fun h'' t x1 x2 x3 x4 => ?_
  have k1 := x1.1
  have un : Un (frs outer) [] H₀ H s₀.heap h'' := by
    refine ⟨fun b o e n nf _ => k1 b o (hB b o (I.base.keep b o e n nf (by intro z; cases z)) (old b o e nf)), fun b o e n hf _ => ?_, fun b o e n _ => I.base.free b o e n (by intro z; cases z), fun b o e _ => ?_, I.base.tups, I.base.frzs, I.base.tbls⟩
    · obtain ⟨sl, q⟩ := I.base.slot b o e n hf (by intro z; cases z)
      obtain ⟨_, o', ho', hd⟩ := I.ok.funs.mem hf
      have ho'' : s₀.heap.get? b = some o' := ho'
      rw [e] at ho''
      cases ho''
      obtain ⟨sl', q'⟩ := x4 b { o with slots := sl } (hm.keeps b _ q) hd
      exact ⟨sl', q'⟩
    · by_cases hf : b ∈ frs outer
      · obtain ⟨_, o', ho', hd⟩ := I.ok.funs.mem hf
        have ho'' : s₀.heap.get? b = some o' := ho'
        rw [e] at ho''
        cases ho''
        obtain ⟨sl, q⟩ := I.base.slot b o e (I.ok.frf b hf) hf (by intro z; cases z)
        obtain ⟨sl', q'⟩ := x4 b { o with slots := sl } (hm.keeps b _ q) hd
        exact ⟨_, q'⟩
      · obtain ⟨o', q⟩ := I.base.there b o e (by intro z; cases z)
        exact ⟨o', k1 b o' (hB b o' q (old b o e hf))⟩
  have hok : HOk P w H h'' := fun b o e => (I.hok b o e).stay (fun c u hc q => by
    refine k1 c u (hB c u q ?_)
    rcases hc with z | z
    · rw [z]; exact trk b o e
    · exact trk c _ z) (fun _ q => q) (fun _ _ q => q)
  refine ⟨ea, C, t, H, PySem.W.hideAll s.heap (frs (envOfC qual scope s₀.heap.objs.size f cd :: outer)), rfl, hE, I.os, I.bare, un, hok, x1, fun b o e => ?_, ?_, fun b o e n nf => ?_⟩
  · obtain ⟨ob, q⟩ := ok_there (I.hok b o e)
    exact ⟨ob, hB b ob q (trk b o e)⟩
  · cases q : H ea with
    | none => rfl
    | some o =>
      obtain ⟨ob, z⟩ := ok_there (I.hok ea o q)
      rw [hm.new] at z; cases z
  · exact hB b o (I.base.keep b o e n nf (by intro z; cases z)) (old b o e nf)
end L2
set_option Elab.async false
set_option linter.all false
set_option maxRecDepth 100000
/-! an exception of a class of the text is caught -/
namespace L2
open PySem PySem.Spec PyProof.Rows
/-- what has come of a call that raised: whatever is noted of the exception, the state is as H' tells -/
structure Flown (X : Cx) (pins : List (Addr × Obj)) (σ : St) (ea C t : Addr) (H : Hp) (B : Heap) (s : Shared) : Prop where
  fl : Heap.FlyingW B X.stack ea (.ref C) (.ref t) s.heap
  nea : H ea = none
  inv : ∀ h', B.StaysIn h' → s.heap.UpToSlots h' → Inv X pins σ H { s with heap := h' }
  new : ∀ b o, X.s₀.heap.get? b = some o → X.H₀ b = none → b ∉ X.ex → b ≠ ea
  pne : ∀ p ∈ X.pn ++ pins, p.1 ≠ ea
theorem flown {X : Cx} {pins : List (Addr × Obj)} {σ : St} {H : Hp} {s s' : Shared} {E : XK} {e : Value} (I : Inv X pins σ H s) (h : CXr X.prog X.w X.stack H s E e s') (hdm : ∀ C H', E C none H' → ∀ b o, H b = some o → ∃ o', H' b = some o') :
    ∃ ea C t H' B, e = .ref ea ∧ E (.ref C) none H' ∧ Flown X pins σ ea C t H' B s' := by
  obtain ⟨ea, C, t, H', B, e1, hE, os, bare, un, hok, fl, trk, nea, old⟩ := h
  have gen : ∀ b o, s.heap.get? b = some o → H b = none → b ≠ ea := fun b o e n z => by
    subst z
    by_cases hf : b ∈ frs X.stack
    · obtain ⟨_, o', ho', hd⟩ := I.stack.mem hf
      rw [e] at ho'
      cases ho'
      obtain ⟨sl, q⟩ := un.slot b o e n hf (by intro z; cases z)
      obtain ⟨oe, ws, hoe, _, hoed, _⟩ := fl.first
      rw [q] at hoe
      cases hoe
      exact hd _ hoed
    · have z := old b o e n hf
      rw [fl.2.1] at z
      cases z
  refine ⟨ea, C, t, H', B, e1, hE, fl, nea, fun h'' kB up => ?_, fun b o e n nx => ?_, fun p hp => gen _ _ (I.pin p hp).1 (I.pin p hp).2.1⟩
  rotate_left
  · obtain ⟨o', q⟩ := I.base.there b o e nx
    exact gen b o' q (I.base.free b o e n nx)
  have dm := hdm _ _ hE
  have slot : ∀ b o, s.heap.get? b = some o → H b = none → b ∈ frs X.stack → ∃ sl, h''.get? b = some { o with slots := sl } := fun b o e n hf => by
    obtain ⟨sl, q⟩ := un.slot b o e n hf (by intro z; cases z)
    obtain ⟨_, o', ho', hd⟩ := I.stack.mem hf
    rw [e] at ho'
    cases ho'
    obtain ⟨sl', q'⟩ := up b { o with slots := sl } q hd
    exact ⟨sl', q'⟩
  have un' : Un (frs X.stack) [] H H' s.heap h'' := by
    refine ⟨fun b o e n nf _ => kB b o (old b o e n nf), fun b o e n hf _ => slot b o e n hf, un.free, fun b o e _ => ?_, un.tups, un.frzs, un.tbls⟩
    cases q : H b with
    | none =>
      by_cases hf : b ∈ frs X.stack
      · obtain ⟨sl, z⟩ := slot b o e q hf
        exact ⟨_, z⟩
      · exact ⟨o, kB b o (old b o e q hf)⟩
    | some u =>
      obtain ⟨u', q'⟩ := dm b u q
      obtain ⟨ob, z⟩ := trk b u' q'
      exact ⟨ob, kB b ob z⟩
  have hok' : HOk X.prog X.w H' h'' := fun b o e => (hok b o e).stay (fun c u hc q => by
    obtain ⟨ob, z⟩ : ∃ ob, B.get? c = some ob := by
      rcases hc with y | y
      · rw [y]; exact trk b o e
      · exact trk c _ y
    have z' := fl.1 c ob z
    rw [q] at z'
    cases z'
    exact kB c _ z) (fun _ q => q) (fun _ _ q => q)
  exact I.call' (s' := { s' with heap := h'' }) os un' hok' bare (fun b z => absurd z (by simp))
/-- within an except suite -/
abbrev Cx.mark (X : Cx) (v : Value) : Cx := { X with A := X.A.mark (some v), calm := false }
theorem Inv.mark {X : Cx} {pins : List (Addr × Obj)} {σ : St} {H : Hp} {s : Shared} (I : Inv X pins σ H s) (v : Value) : Inv (X.mark v) pins σ H s :=
  ⟨⟨I.ok.mod, I.ok.kind, I.ok.glob, I.ok.blt, I.ok.above, I.ok.inj, I.ok.has, I.ok.cab, (fun z => absurd z Bool.false_ne_true), I.ok.frames, I.ok.stk, I.ok.exf, I.ok.bs, I.ok.bsz, I.ok.noex, I.ok.exfs, I.ok.funs, I.ok.frf⟩, I.os, I.bare, I.base, I.loc, I.cell, I.free, I.freeC, I.pin, I.hok, I.len⟩
/-- an object that is there is taken into what is told -/
theorem Inv.track {X : Cx} {pins : List (Addr × Obj)} {σ : St} {H : Hp} {s : Shared} {ea : Addr} {oe : Obj} (I : Inv X pins σ H s) (ho : s.heap.get? ea = some oe) (nea : H ea = none) (neL : ea ≠ X.env.locals) (neC : ∀ y c, X.env.cells.lookup y = some c → c ≠ ea)
    (new : ∀ b o, X.s₀.heap.get? b = some o → X.H₀ b = none → b ∉ X.ex → b ≠ ea) (pne : ∀ p ∈ X.pn ++ pins, p.1 ≠ ea) : Inv X pins σ (upd H ea (.frz oe (.own 0))) s := by
  have up : ∀ b u, H b = some u → upd H ea (.frz oe (.own 0)) b = some u := fun b u e => by rw [upd_ne (ne_of_none e nea)]; exact e
  refine ⟨I.ok, I.os, I.bare, ⟨I.base.keep, I.base.slot, fun b o e n nx => ?_, I.base.there, fun b xs e => up _ _ (I.base.tups b xs e), fun b o u e => up _ _ (I.base.frzs b o u e), fun b ps e => ?_⟩, I.loc, I.cell, ?_, fun y c hc => ?_, fun p hp => ?_, fun b o e => ?_, I.len⟩
  · rw [upd_ne (new b o e n nx)]; exact I.base.free b o e n nx
  · obtain ⟨m, z⟩ := I.base.tbls b ps e
    exact ⟨m, up _ _ z⟩
  · rw [upd_ne (Ne.symm neL)]; exact I.free
  · rw [upd_ne (neC y c hc)]; exact I.freeC y c hc
  · have z := I.pin p hp
    refine ⟨z.1, ?_, z.2.2⟩
    rw [upd_ne (pne p hp)]; exact z.2.1
  · by_cases hb : b = ea
    · subst hb
      rw [upd_same] at e
      cases e
      exact ⟨ho, oe, ho⟩
    · rw [upd_ne hb] at e
      exact (I.hok b o e).stay (fun c u _ q => q) (fun c q => up _ _ q) (fun c xs q => up _ _ q)
section
variable {X : Cx} {pins : List (Addr × Obj)} {σ : St} {ea C t : Addr} {H : Hp} {B : Heap} {s : Shared} {x n : Str} {np hpos : Pos} {cv : Value} {i : Nat} {b₀ : Stmt} {suite : List Stmt} {rest : List ExceptHandler} {Q : Flow → Shared → Prop} {E : Value → Shared → Prop} {b : Bool}
theorem ty_looks {M : Model} {h : Heap} {ob : Obj} {cls : Value} (ho : h.get? ea = some ob) (hc : ob.cls = cls) : PySem.W.Looks M h (typeOf (.ref ea)) cls := by
  rw [← hc]; exact (show PySem.W.Looks M h (typeOf (.ref ea)) ob.cls from (PySem.W.Looks.ld ho).andThen .now)
/-- except x as n, the class fits -/
theorem caught_as (F : Flown X pins σ ea C t H B s) (hs : X.stack = X.env :: X.outer) (hfr : X.env.frame = some X.env.locals) (hg : Gl X x) (hm : X.mg x = some cv) (hx : PySem.W.exmOne X.K (.ref C) cv = some true) (hN : X.N.Nodup) (hi : X.N[i]? = some n) (hl : X.env.scope.names.lookup n = some .local) (hd : (x == ("__debug__" : Str)) = false)
    (k : ∀ s7 oe, Inv (X.mark (.ref ea)) pins (σ.set i (some (.ref ea))) (upd H ea (.frz oe (.own 0))) s7 → oe.cls = .ref C →
      wpAny (model X.prog X.w) (X.A.mark (some (.ref ea))) (execs (b₀ :: suite) X.env) (fun f s3 => wpAny (model X.prog X.w) X.A (do bindName X.env n .none; unbindBehindTheSuite X.env n hpos) (fun _ s5 => Q f s5) E s3) (fun _ _ => False) s7) :
    wpAny (model X.prog X.w) X.A (noteFrame (.ref ea) X.env) (fun _ s2 => wpAny (model X.prog X.w) X.A (setFlight (.ref ea) none) (fun _ s3 => wpAny (model X.prog X.w) X.A (handleBy (.ref ea) X.env (.ExceptHandler (some (.Name x np)) (some n) (b₀ :: suite) hpos :: rest)) Q E s3) E s2) E s := by
  have I0 := F.inv s.heap F.fl.1 (Heap.UpToSlots.refl _)
  have fl := F.fl
  rw [hs] at fl
  have fr : X.A.frames = some (X.env :: X.outer) := by rw [← hs]; exact I0.ok.frames
  refine wpAny_looks_onW fr hfr fl fun h4 held4 up4 => ?_
  refine wpAny_landsW held4 fun h5 fl5 up5 => ?_
  have up45 := up4.trans up5
  have I5 := (F.inv h5 fl5.1 up45).mark (.ref ea)
  obtain ⟨ob, hob, hobc⟩ := fl5.there
  refine wpAny_handleBy_cons (codeAny_handlers_test (ld_glob I5 hg hm ?_ hd)) (by intro q; cases q)
  refine (PySem.W.exm_one I5.kIn (ty_looks hob hobc) hx).here ?_
  refine codeAny_handlers_suite_as (lands_againW fl5 fun h6 fl6 up6 => ?_)
  have I6 := (F.inv h6 fl6.1 (up45.trans up6)).mark (.ref ea)
  obtain ⟨oe, ws, hoe, hoec, hoed, _⟩ := fl6.first
  refine store_ok2 (X := X.mark (.ref ea)) (i := i) (v := .ref ea) I6 hN hi (.inl hl) rfl (fun s7 I7 ⟨a, sb, ha⟩ => ?_) (.inr hl)
  have neL : ea ≠ X.env.locals := fun z => by
    obtain ⟨m, ⟨o', es, ep, ho', hd', _⟩, _⟩ := I6.loc
    have ho'' : h6.get? X.env.locals = some o' := ho'
    rw [← z, hoe] at ho''
    cases ho''
    rw [hoed] at hd'
    cases hd'
  have neC : ∀ y c, X.env.cells.lookup y = some c → c ≠ ea := fun y c hc z => by
    obtain ⟨v, o', ho', hd'⟩ := I6.cell y c hc
    have ho'' : h6.get? c = some o' := ho'
    rw [z, hoe] at ho''
    cases ho''
    rw [hoed] at hd'
    cases hd'
  have nefs : ea ∉ X.fs := fun z => by
    obtain ⟨_, o', ho', hd'⟩ := I6.funs.mem z
    have ho'' : h6.get? ea = some o' := ho'
    rw [hoe] at ho''
    cases ho''
    exact hd' _ hoed
  have h7 : s7.heap.get? ea = some oe := by
    rw [sb.2 ea (by
      rcases ha with z | z
      · rw [z]; exact neL
      · exact fun q => neC n a z q.symm)]
    exact hoe
  exact wpAny_mono (k s7 oe (I7.track h7 F.nea neL neC F.new F.pne) hoec) (fun f s3 q => q) fun _ _ z => z.elim
end
end L2
set_option Elab.async false
set_option linter.all false
set_option maxRecDepth 100000
/-! calls that may raise; try: .. return, except C as n: .. return -/
namespace L2
open PySem PySem.Spec PyProof.Rows
section
variable {X : Cx} {k : Nat} {f C : Addr} {fd : FuncData} {ps : List Str} {sp : Sp} {dvs : List V} {ds : List Value} {x m : Str} {p pos apos : Pos} {e o : Expr} {es : List Expr} {ta : TE} {t : TA}
/-- the exceptions of a callee that was called at H reach what is wanted of them here -/
def PassX (X : Cx) (σ : St) (H : Hp) (E : XK) : Prop := ∀ (pins : List (Addr × Obj)) (s : Shared) (e : Value) (s' : Shared), Inv X pins σ H s → CXr X.prog X.w X.stack H s E e s' → X.xe e s'
theorem run_fnX {pins : List (Addr × Obj)} {σ : St} {H : Hp} {s : Shared} {Q : VK} {E : XK} {us : List Value} {vs : List V} (F : FnOk X.prog X.w X.K X.mg X.base (CXr X.prog X.w) k f fd ps sp) (hr : Room k X.A) (hb : Binds X.K fd ps ds) (hd : Vals dvs ds)
    (I : Inv X pins σ H s) (r : Vals vs us) (h : sp (vs ++ dvs) H Q E) (hx : PassX X σ H E) : wpAny (model X.prog X.w) X.A (call (.ref f) us) (EP X pins σ Q) X.xe s := by
  have r2 : Vals (vs ++ dvs) (us ++ ds) := r.append hd
  have hl : (us ++ ds).length = ps.length := by rw [← r2.length]; exact F.len _ _ _ _ h
  refine wpAny_call (codeAny_mono (F.run X.A X.stack s H ⟨us, []⟩ (us ++ ds) (vs ++ dvs) Q E hr I.env0 (hb s us I.kIn hl) r2 h) fun r s' hq => ?_)
  cases r with
  | error e => exact hx pins s e s' I hq
  | ok fl => cases fl with
    | ret u => exact I.after hq
    | _ => exact False.elim hq
def tCallX (X : Cx) (sp : Sp) (dvs : List V) (t : TA) : TE := fun σ H Q => t σ H fun vs H1 => ∃ E, sp (vs ++ dvs) H1 Q E ∧ PassX X σ H1 E
theorem pe_callX (F : FnOk X.prog X.w X.K X.mg X.base (CXr X.prog X.w) k f fd ps sp) (hr : Room k X.A) (hg : Gl X x) (hm : X.mg x = some (.ref f)) (hk : PySem.W.keepIn X.K (.ref f) = true) (hb : Binds X.K fd ps ds) (hd : Vals dvs ds)
    (ha : PA X (e :: es) t) (hdb : (x == ("__debug__" : Str)) = false := by decide) (he : starEach (e :: es) X.env = (false, eval e X.env) :: starEach es X.env := by rfl) (hpl : (backTo pos (starEach es X.env)).any (·.1) = false := by rfl) :
    PE X (.Call (.Name x p) (e :: es) [] pos) (tCallX X sp dvs t) := by
  intro pins s σ H Q I h
  refine wpAny_Call_Name_kw (ld_glob I hg hm ?_ hdb)
  exact PySem.W.callWith_K (h₀ := X.base) I.ok.mod.kin hk (thn (ha pos pins s σ H _ I h) fun us s1 ⟨vs, H1, I1, r, E, q, hx⟩ => ⟨I1.kIn, run_fnX F hr hb hd I1 r q hx⟩) he hpl
end
/-- with these pins kept for good, and this wish about exceptions -/
abbrev Cx.hold (X : Cx) (pn : List (Addr × Obj)) (E : Value → Shared → Prop) : Cx := { X with pn := pn, xe := E }
theorem Inv.hold {X : Cx} {pins : List (Addr × Obj)} {σ : St} {H : Hp} {s : Shared} (I : Inv X pins σ H s) (E : Value → Shared → Prop) : Inv (X.hold (X.pn ++ pins) E) [] σ H s :=
  ⟨⟨I.ok.mod, I.ok.kind, I.ok.glob, I.ok.blt, I.ok.above, I.ok.inj, I.ok.has, I.ok.cab, I.ok.hd, I.ok.frames, I.ok.stk, I.ok.exf, I.ok.bs, I.ok.bsz, I.ok.noex, I.ok.exfs, I.ok.funs, I.ok.frf⟩, I.os, I.bare, I.base, I.loc, I.cell, I.free, I.freeC, fun p hp => I.pin p (by simpa using hp), I.hok, I.len⟩
theorem Inv.unhold {X : Cx} {pins pins' : List (Addr × Obj)} {σ : St} {H : Hp} {s : Shared} {E : Value → Shared → Prop} (ok : X.Ok) (I : Inv (X.hold (X.pn ++ pins) E) pins' σ H s) : Inv X pins σ H s :=
  ⟨ok, I.os, I.bare, I.base, I.loc, I.cell, I.free, I.freeC, fun p hp => I.pin p (List.mem_append_left _ hp), I.hok, I.len⟩
/-- only a return is wanted -/
def Ends.only (r : VK) : Ends := { nx := fun _ _ => False, rt := r, bk := fun _ _ => False, ct := fun _ _ => False }
/-- what is wanted of an exception within a try: it flies, and the suite serves -/
def Served (X : Cx) (pins : List (Addr × Obj)) (Hw : St → Addr → Hp → Prop) : Value → Shared → Prop := fun e s' => ∃ σ ea C t H' B, e = .ref ea ∧ Flown X pins σ ea C t H' B s' ∧ Hw σ C H'
section
variable {X : Cx} {body : List Stmt} {x n : Str} {np hpos pos : Pos} {cv : Value} {i : Nat} {b₀ : Stmt} {suite : List Stmt} {tb : List (Addr × Obj) → (Value → Shared → Prop) → TS} {th : TS}
theorem ps_try (hb : ∀ pn E, PSs (X.hold pn E) body (tb pn E)) (hh : ∀ (v : Value) (pn : List (Addr × Obj)), PSs ((X.mark v).hold pn fun _ _ => False) (b₀ :: suite) th)
    (hs : X.stack = X.env :: X.outer) (hfr : X.env.frame = some X.env.locals) (hg : Gl X x) (hm : X.mg x = some cv) (hN : X.N.Nodup) (hi : X.N[i]? = some n) (hl : X.env.scope.names.lookup n = some .local) (hkn : X.env.kindOf n = some .local) (hd : (x == ("__debug__" : Str)) = false := by decide) :
    PS X (.Try body [.ExceptHandler (some (.Name x np)) (some n) (b₀ :: suite) hpos] [] [] pos) (fun D σ H => ∀ pins, tb (X.pn ++ pins) (Served X pins fun σ' C H' => PySem.W.exmOne X.K (.ref C) cv = some true ∧ ∀ ea oe, H' ea = none → oe.cls = .ref C → th (Ends.only D.rt) (σ'.set i (some (.ref ea))) (upd H' ea (.frz oe (.own 0)))) (Ends.only D.rt) σ H) := by
  intro pins s σ H D I h
  have ok := I.ok
  have sp := hb (X.pn ++ pins) (Served X pins fun σ' C H' => PySem.W.exmOne X.K (.ref C) cv = some true ∧ ∀ ea oe, H' ea = none → oe.cls = .ref C → th (Ends.only D.rt) (σ'.set i (some (.ref ea))) (upd H' ea (.frz oe (.own 0)))) [] s σ H (Ends.only D.rt) (I.hold _) (h pins)
  refine wpAny_Try_except (wpAny_mono sp (fun fl s1 q => ?_) fun e s1 q => ?_)
  · cases fl with
    | ret u => obtain ⟨v, σ', H', I', r, q⟩ := q; exact ⟨v, σ', H', I'.unhold ok, r, q⟩
    | next => obtain ⟨_, _, _, q⟩ := q; exact q.elim
    | brk => obtain ⟨_, _, _, q⟩ := q; exact q.elim
    | cont => obtain ⟨_, _, _, q⟩ := q; exact q.elim
  · obtain ⟨σ1, ea, C, t, H', B, rfl, F, hx, q⟩ := q
    have I1 := F.inv s1.heap F.fl.1 (Heap.UpToSlots.refl _)
    have hiσ : i < σ1.length := by rw [I1.len]; exact (List.getElem?_eq_some_iff.mp hi).1
    refine caught_as (i := i) F hs hfr hg hm hx hN hi hl hd fun s7 oe I7 hoe => ?_
    refine wpAny_mono (hh (.ref ea) (X.pn ++ pins) [] s7 _ _ _ (I7.hold _) (q ea oe F.nea hoe)) (fun fl s3 q3 => ?_) fun _ _ z => z
    cases fl with
    | ret u =>
      obtain ⟨v, σ3, H3, I3, r3, q3⟩ := q3
      obtain ⟨m, hn, _⟩ := I3.loc
      refine wpAny_nameGoes hkn hn (by rw [ok.kind]; rfl) fun h5 m5 hn5 sb => ?_
      have ne : ∀ b o, X.s₀.heap.get? b = some o → b ≠ X.env.locals := fun b o e z => by
        have := Heap.lt_size e
        have a := ok.above
        rw [z] at this
        exact Nat.lt_irrefl _ (Nat.lt_of_lt_of_le this a)
      have cne := I3.cne
      have kp : ∀ b o, b ≠ X.env.locals → s3.heap.get? b = some o → h5.get? b = some o := fun b o z e => (sb.2 b z).trans e
      refine ⟨v, List.replicate X.N.length none, H3, ⟨ok, I3.os, I3.bare, ⟨fun b o e n nf nx => kp b o (ne b o e) (I3.base.keep b o e n nf nx), fun b o e n hf nx => ?_, I3.base.free, fun b o e nx => ?_, I3.base.tups, I3.base.frzs, I3.base.tbls⟩, ⟨m5, hn5, fun j y w _ z => ?_⟩, fun y c hc => ?_, I3.free, I3.freeC, fun p hp => ?_, fun b o e => ?_, by simp⟩, r3, q3⟩
      · obtain ⟨sl, z⟩ := I3.base.slot b o e n hf nx
        exact ⟨sl, kp b _ (ne b o e) z⟩
      · obtain ⟨o', z⟩ := I3.base.there b o e nx
        exact ⟨o', kp b o' (ne b o e) z⟩
      · rw [List.getElem?_replicate] at z
        split at z <;> cases z
      · obtain ⟨w, o, ho, hd⟩ := I3.cell y c hc
        exact ⟨w, o, kp c o (cne y c hc) ho, hd⟩
      · have z := I3.pin p (List.mem_append_left _ hp)
        exact ⟨kp _ _ z.2.2.1 z.1, z.2⟩
      · refine (I3.hok b o e).stay (fun c u hc q => kp c u (fun z => ?_) q) (fun _ q => q) (fun _ _ q => q)
        have f := I3.free
        rcases hc with y | y
        · rw [← y, z] at e
          have f' : H3 X.env.locals = none := f
          rw [f'] at e; cases e
        · rw [z] at y
          have f' : H3 X.env.locals = none := f
          rw [f'] at y; cases y
    | next => obtain ⟨_, _, _, q⟩ := q3; exact q.elim
    | brk => obtain ⟨_, _, _, q⟩ := q3; exact q.elim
    | cont => obtain ⟨_, _, _, q⟩ := q3; exact q.elim
end
end L2
set_option Elab.async false
set_option linter.all false
set_option maxRecDepth 100000
/-! isinstance of an exception of a class of the text -/
namespace PySem.W
open PySem PySem.Spec PySem.Calls PyProof.Rows PySem.Builtin.ObjectAttr PySem PySem.Calls PyProof.Rows Builtin Builtin.ObjectAttr Builtin.Getset_descriptor
/-- an object of the class D, whatever its dict -/
def ObAt (h : Heap) (x D : Addr) : Prop := ∃ ox, h.get? x = some ox ∧ ox.cls = .ref D
theorem ObAt.type {M : Model} {h : Heap} {x D : Addr} (I : ObAt h x D) : Looks M h (typeOf (.ref x)) (.ref D) := by
  obtain ⟨ox, h1, h2⟩ := I
  exact h2 ▸ (Looks.ld h1).andThen .now
section
variable {prog : Program} {w : World} {A : Around} {E : Value → Shared → Prop} {s : Shared} {K : Frag} {x D : Addr}
theorem bexc_check {M : Model} {Q : Unit → Shared → Prop} {tk : Tok} {y : Str} (X : K.In s.heap) (I : ObAt s.heap x D) (hsub : subIn K (.ref D) (.type "BaseException") = some true) (h : Q () s) :
    wpAny M A (checkBuiltinCall "BaseException.__getattribute__" ⟨[.ref x, .str y tk], []⟩) Q E s := by
  have hsplit : splitId "BaseException.__getattribute__" = some ("BaseException", "__getattribute__") := by decide +kernel
  have hk : builtinKind "BaseException.__getattribute__" = some .slot := by decide +kernel
  have LI : Looks M s.heap (isInstance (.ref x) (.type "BaseException")) true := I.type.andThen (looks_subIn X hsub)
  have ha := F.args_bexc_ga (.ref x) (.str y tk)
  simp only [checkBuiltinCall, hk, hsplit]
  refine wpAny_bind (LI.at ?_)
  simp only [Bool.not_true, Bool.false_eq_true, if_false]
  cases hsig : Manifest.signature? "BaseException.__getattribute__" with
  | none => exact wpAny_pure h
  | some sig =>
    simp only [argsOk, hsig] at ha
    have h2 : Bind.checkArgs "BaseException.__getattribute__" sig ⟨[.ref x, .str y tk], []⟩ = pure () := ha
    show wpAny M A (Bind.checkArgs _ sig _) Q E s
    rw [h2]; exact wpAny_pure h
/-- what isinstance wants to know of an exception class of the text -/
structure ExcLook (K : Frag) (D : Addr) : Prop where
  cl : (clsIn K D).isSome = true
  ga : findIn K (.ref D) "__getattribute__" = some (some (.builtin "BaseException.__getattribute__"))
  hk : findIn K (.ref D) "__getattr__" = some none
  sub : subIn K (.ref D) (.type "BaseException") = some true
  ha : findIn K (.ref D) "__class__" = some (some (.builtin "object.__class__"))
  hn : specialIn K (.builtin "object.__class__") "__get__" = some (some (.builtin "getset_descriptor.__get__"))
  tk : takesIn K (.builtin "object.__class__") = some true
  hm : mroIn K D (.type "object") = some true
theorem ExcLook.find {M : Model} {h : Heap} (T : ExcLook K D) (X : K.In h) : Looks M h (find (.ref x) (.ref D) "__class__") (.bind (.builtin "getset_descriptor.__get__") (.builtin "object.__class__")) := by
  have L1 := looks_findIn (M := M) X T.ha
  have L2 : Looks M h (getOf (some (.builtin "object.__class__"))) (some (.builtin "getset_descriptor.__get__")) := looks_specialIn X T.hn
  have L3 := looks_takesIn (M := M) X T.tk
  unfold Builtin.ObjectAttr.find
  refine L1.andThen (L2.andThen ?_)
  have L4 : Looks M h (dataDescriptor? (some (.builtin "object.__class__")) (some (.builtin "getset_descriptor.__get__"))) (some (.builtin "getset_descriptor.__get__", .builtin "object.__class__")) := L3.andThen .now
  exact L4.andThen (Looks.tag .now)
theorem class_getX {R : Result → Shared → Prop} {tp : Value} (X : K.In s.heap) (I : ObAt s.heap x D) (hm : mroIn K D (.type "object") = some true)
    (h : R (.ok (.ret (.ref D))) s) : codeAny (model prog w) A (.call (.builtin "getset_descriptor.__get__") ⟨[.builtin "object.__class__", .ref x, tp], []⟩) R s := by
  obtain ⟨hh, g, dr, t, os⟩ := s
  have L0 := I.type (M := model prog w)
  have L1 := looks_mroIn (M := model prog w) X hm
  refine codeAny_call_builtin KF.slot_gs.plain KF.entry_gs (KF.slot_gs.check _ _ _ _ _ _ _ _ KF.type_class (KF.args_gs _ _ _) ?_)
  unfold Builtin.«getset_descriptor.__get__» descrGet
  rw [dga_obj]
  refine wpAny_bind (wpAny_pure ?_)
  unfold descrGetter descrCheckInstance descrNameAndClass isInstance
  simp only [KF.owner_class]
  repeat lk
  refine ⟨Code.quiet_builtin _ (by decide +kernel), codeAny_builtin KF.entry_class ?_⟩
  unfold Builtin.«object.__class__» shownTypeOf
  repeat lk
  exact h
theorem exc_entry {tk : Tok} {Q : Fin → Shared → Prop} (T : ExcLook K D) (X : K.In s.heap) (I : ObAt s.heap x D) (h : Q (.done (.ret (.ref D))) s) :
    wpAny (model prog w) A (Builtin.«object.__getattribute__» ⟨[.ref x, .str "__class__" tk], []⟩) Q E s := by
  obtain ⟨hh, gg, d, t, os⟩ := s
  have L0 := I.type (M := model prog w)
  have L1 := T.find (M := model prog w) (x := x) X
  unfold Builtin.«object.__getattribute__»
  repeat (first | with_reducible refine wpAny_bind (L0.at ?_) | with_reducible refine wpAny_bind (L1.at ?_) | wp_step)
  exact class_getX X I T.hm (wpAny_pure h)
theorem exc_class {Q : Option Value → Shared → Prop} (T : ExcLook K D) (X : K.In s.heap) (I : ObAt s.heap x D) (h : Q (some (.ref D)) { s with toks := s.toks + 1 }) : wpAny (model prog w) A (getAttr? (.ref x) "__class__") Q E s := by
  obtain ⟨hh, g, d, t, os⟩ := s
  have L0 := I.type (M := model prog w)
  have L1 := looks_findIn (M := model prog w) X T.ga
  have L2 := looks_findIn (M := model prog w) X T.hk
  unfold getAttr? getAttrBy? getAttrBy
  refine wpAny_bind (wpAny_mkText (wpAny_bind (wpAny_attempt (wpAny_holding (wpAny_bind (L0.at (wpAny_bind (L1.at ?_))))))))
  show wpAny _ _ (getAttrByItsOwn _ _ _ _ _ _) _ _ _
  unfold getAttrByItsOwn hookBefore
  refine wpAny_bind (L2.at ?_)
  refine wpAny_bind (wpAny_attempt (wpAny_holding ?_))
  show wpAny _ _ (boundAndCalled _ _ _) _ _ _
  unfold boundAndCalled
  rw [F.excAttr_ValueError.ga.bind]
  refine wpAny_bind (wpAny_pure ?_)
  refine wpAny_call (codeAny_call_builtin F.excAttr_ValueError.ga.plain F.entry_bexc_ga (bexc_check (s := ⟨hh, g, d, t + 1, os⟩) X I T.sub (exc_entry (s := ⟨hh, g, d, t + 1, os⟩) T X I ?_)))
  dsimp only
  refine handed_on rfl ?_
  exact wpAny_pure h
theorem kitx_exc (T : ExcLook K D) : KitX K (.ref x) (.ref D) (fun h => ObAt h x D) where
  ty := fun _ _ _ I => I.type
  it := fun _ _ X _ => by
    obtain ⟨cdD, hcD⟩ := Option.isSome_iff_exists.mp T.cl
    unfold clsIn at hcD
    split at hcD
    · rename_i c' d' cd' sl' ho
      intro A' Q' E' s' k q
      unfold isType loadHead
      exact wpAny_bind (wpAny_loadPart (k _ _ (X _ _ ho)) (wpAny_pure q))
    · cases hcD
  ne := fun h tp dd its n sl X htp => by
    obtain ⟨cdD, hcD⟩ := Option.isSome_iff_exists.mp T.cl
    refine Bool.eq_false_iff.mpr fun q => ?_
    have e : D = tp := Value.ref.inj (beq_iff_eq.mp q)
    subst e
    unfold clsIn at hcD
    split at hcD
    · rename_i c' d' cd' sl' ho
      have z := (X _ _ ho).symm.trans htp
      cases z
    · cases hcD
  ca := fun X I k => exc_class T X I k
end
end PySem.W
set_option Elab.async false
set_option linter.all false
set_option maxRecDepth 100000
namespace DL
open PySem PySem.Spec PyProof.Rows L2
/-! ### isinstance(x, C), isinstance(x, (C, ..)), x an exception of the text -/
/-- t: of which classes it is so -/
def gIsX (t : Str → Option Bool) (g : Den) : Den := fun ρ Ω => match g ρ Ω with
  | some (.obj n, Ω1) => match Ω1[n]? with
    | some (.exc c) => match t c with
      | some b => some (.bl b, Ω1)
      | none => none
    | _ => none
  | _ => none
section
variable {X : Cx} {C : Cl} {x y : Expr} {g : Den} {pos p : Pos} {n : Str} {t : Str → Option Bool}
theorem isx_read {K : PySem.W.Frag} {σ : St} {H : Hp} {Q : VK} {R : VK} (hw : tD K C (gIsX t g) σ H Q)
    (k : ∀ a Ca ob u e' Ω' (c : Str) b, Wf K C e' Ω' → e'.H a = some (.frz ob u) → ob.cls = .ref Ca → C c = some Ca → t c = some b → (∀ e'', Ext e' e'' → Wf K C e'' Ω' → Q (.bl b) e''.H) → R (.ref a) e'.H) : tD K C g σ H R := by
  obtain ⟨e, Ω, ρ, d, Ω', eH, w, rl, q, kk⟩ := hw
  unfold gIsX at q
  cases q1 : g ρ Ω with
  | none => rw [q1] at q; cases q
  | some p1 =>
    obtain ⟨d1, Ω1⟩ := p1
    rw [q1] at q
    cases d1 with
    | obj n =>
      dsimp only at q
      cases q2 : Ω1[n]? with
      | none => rw [q2] at q; cases q
      | some o =>
        rw [q2] at q
        cases o with
        | exc c =>
          dsimp only at q
          cases q3 : t c with
          | none => rw [q3] at q; cases q
          | some b =>
            rw [q3] at q
            cases q
            refine ⟨e, Ω, ρ, .obj n, _, eH, w, rl, q1, fun v e' x' w' i' => ?_⟩
            rw [Is] at i'
            obtain ⟨a, ha, rfl⟩ := i'
            obtain ⟨_, Ca, ob, u, h1, h2, h3⟩ := w'.ob n a (.exc c) ha q2
            exact k a Ca ob u e' _ c b w' h2 h3 h1 q3 fun e'' y w'' => kk _ e'' (x'.trans y) w'' (by rw [Is])
        | _ => cases q
    | _ => cases q
theorem pd_isx {v : V} {cv : Value} (ha : PD X C x g) (hy : PE X y (tC v)) (hv' : ∀ u, RelV v u → u = cv) (hg : Gl X n) (hm : X.mg n = none) (hv : bootBuiltins n = some (.builtin "isinstance"))
    (hk : ∀ c Ca b, t c = some b → C c = some Ca → PySem.W.ExcLook X.K Ca ∧ PySem.W.kitOne X.K (.ref Ca) cv = some b)
    (hn : n ≠ "__name__" := by decide) (hdb : (n == ("__debug__" : Str)) = false := by decide)
    (he : starEach [x, y] X.env = (false, eval x X.env) :: starEach [y] X.env := by rfl) (he2 : starEach [y] X.env = (false, eval y X.env) :: starEach [] X.env := by rfl) (hpl : (backTo pos (starEach [y] X.env)).any (·.1) = false := by rfl) :
    PD X C (.Call (.Name n p) [x, y] [] pos) (gIsX t g) := by
  have hc : CallR X (.builtin "isinstance") (fun xs H Q => ∃ a Ca ob u k, xs = [.ref a, v] ∧ H a = some (.frz ob u) ∧ ob.cls = .ref Ca ∧ PySem.W.ExcLook X.K Ca ∧ PySem.W.kitOne X.K (.ref Ca) cv = some k ∧ Q (.bl k) H) := by
    intro pins s σ H xs us Q I r hw
    obtain ⟨a, Ca, ob, u, k, rfl, h1, h2, T, e, q⟩ := hw
    obtain ⟨u1, w', rfl, r1, r2⟩ := vals2 r
    obtain rfl : u1 = Value.ref a := r1
    obtain rfl := hv' _ r2
    have ho : s.heap.get? a = some ob := (show ObjOk X.prog X.w H s.heap a (.frz ob u) from I.hok a _ h1).1
    exact PySem.W.kia_one (PySem.W.kitx_exc T) I.kIn ⟨ob, ho, h2⟩ e (fun z => nomatch z) fun tk => ⟨.bl k, H, I.tok tk, rfl, q⟩
  refine pe_imp (pe_callB hc hg hm hv (pa_cons ha (pa_cons hy pa_nil he2) he) hn hdb he hpl) fun σ H Q hw => ?_
  refine isx_read hw fun a Ca ob u e' Ω' c b w' h1 h2 h3 h4 q => ?_
  obtain ⟨T, z⟩ := hk c Ca b h4 h3
  exact ⟨a, Ca, ob, u, b, rfl, h1, h2, T, z, q e' (Ext.refl _) w'⟩
theorem pd_isxs {ys : List Expr} {tt : TA} {vs : List V} {cvs : List Value} {x1} {ypos : Pos} (ha : PD X C x g) (hy : PA X ys tt) (htt : ∀ σ H Q, Q vs H → tt σ H Q) (hvs : ∀ us, Vals vs us → us = cvs) (hlen : vs.length ≤ sizeLine) (hg : Gl X n) (hm : X.mg n = none) (hv : bootBuiltins n = some (.builtin "isinstance"))
    (hk : ∀ c Ca b, t c = some b → C c = some Ca → PySem.W.ExcLook X.K Ca ∧ PySem.W.kitAny X.K (.ref Ca) cvs = some b)
    (hn : n ≠ "__name__" := by decide) (hdb : (n == ("__debug__" : Str)) = false := by decide)
    (he : starEach [x, .Tuple ys x1 ypos] X.env = (false, eval x X.env) :: starEach [.Tuple ys x1 ypos] X.env := by rfl) (he2 : starEach [.Tuple ys x1 ypos] X.env = (false, eval (.Tuple ys x1 ypos) X.env) :: starEach [] X.env := by rfl) (hpl : (backTo pos (starEach [.Tuple ys x1 ypos] X.env)).any (·.1) = false := by rfl) :
    PD X C (.Call (.Name n p) [x, .Tuple ys x1 ypos] [] pos) (gIsX t g) := by
  have hc : CallR X (.builtin "isinstance") (fun xs H Q => ∃ a tp Ca ob u k, xs = [.ref a, .ref tp] ∧ H tp = some (.tup vs) ∧ H a = some (.frz ob u) ∧ ob.cls = .ref Ca ∧ PySem.W.ExcLook X.K Ca ∧ PySem.W.kitAny X.K (.ref Ca) cvs = some k ∧ Q (.bl k) H) := by
    intro pins s σ H xs us Q I r hw
    obtain ⟨a, tp, Ca, ob, u, k, rfl, h0, h1, h2, T, e, q⟩ := hw
    obtain ⟨u1, w', rfl, r1, r2⟩ := vals2 r
    obtain rfl : u1 = Value.ref a := r1
    obtain rfl : w' = Value.ref tp := r2
    have ho : s.heap.get? a = some ob := (show ObjOk X.prog X.w H s.heap a (.frz ob u) from I.hok a _ h1).1
    obtain ⟨_, its, ri, ⟨oc, od, odt, osl⟩, g1, g2, m, g3⟩ := (show ObjOk X.prog X.w H s.heap tp (.tup vs) from I.hok tp _ h0)
    obtain rfl := hvs _ ri
    dsimp only at g2 g3
    subst g2 g3
    exact PySem.W.kia_tup (PySem.W.kitx_exc T) I.kIn ⟨ob, ho, h2⟩ g1 e (fun z => nomatch z) fun tk => ⟨.bl k, H, I.tok tk, rfl, q⟩
  refine pe_imp (pe_callB hc hg hm hv (pa_cons ha (pa_cons (pe_tup hy) pa_nil he2) he) hn hdb he hpl) fun σ H Q hw => ?_
  unfold tCB tCons
  refine isx_read hw fun a Ca ob u e' Ω' c b w' h1 h2 h3 h4 q => ?_
  obtain ⟨T, z⟩ := hk c Ca b h4 h3
  refine htt _ _ _ ⟨hlen, fun tp hp => ?_⟩
  refine ⟨a, tp, Ca, ob, u, b, rfl, upd_same, ?_, h2, T, z, q (e'.new tp (.tup vs)) (w'.new_ext hp) (w'.new hp)⟩
  rw [upd_ne (ne_of_none h1 hp)]; exact h1
end
end DL
set_option Elab.async false
set_option linter.all false
set_option maxRecDepth 100000
/-! THE WAY OUT BY AN EXCEPTION, beside the way through (PD, PDS, PDB): what raises, of which class, with which objects. -/
namespace DL
open PySem PySem.Spec PyProof.Rows L2
abbrev RDen := List Sl → List OS → Option (Str × List OS)
abbrev XFDen := List D → List OS → Option (Str × List OS)
abbrev SRDen := List Sl → List OS → Option (Str × List Sl × List OS)
abbrev XWt := St → Addr → Hp → Prop
def tR (K : PySem.W.Frag) (C : Cl) (XW : XWt) (r : RDen) : TE := fun σ H _ => ∃ e Ω ρ c Ω' Ca, e.H = H ∧ Wf K C e Ω ∧ RelE K e σ ρ ∧ r ρ Ω = some (c, Ω') ∧ C c = some Ca ∧ ∀ e', Ext e e' → Wf K C e' Ω' → XW σ Ca e'.H
def RD (X : Cx) (C : Cl) (XW : XWt) (x : Expr) (r : RDen) : Prop := PE X x (tR X.K C XW r)
def tRS (K : PySem.W.Frag) (C : Cl) (XW : XWt) (e₀ : E4) (r : SRDen) : TS := fun _ σ H => ∃ e Ω ρ c ρ' Ω' Ca, e.H = H ∧ RelS K C e₀ e Ω σ ρ ∧ r ρ Ω = some (c, ρ', Ω') ∧ C c = some Ca ∧ ∀ e' σ', RelS K C e₀ e' Ω' σ' ρ' → XW σ' Ca e'.H
def RDS (X : Cx) (C : Cl) (XW : XWt) (st : Stmt) (r : SRDen) : Prop := ∀ e₀, PS X st (tRS X.K C XW e₀ r)
def RDB (X : Cx) (C : Cl) (XW : XWt) (sts : List Stmt) (r : SRDen) : Prop := ∀ e₀, PSs X sts (tRS X.K C XW e₀ r)
def dmH (H H' : Hp) : Prop := ∀ b o, H b = some o → ∃ o', H' b = some o'
/-- what raises here leaves as is wanted; what a callee raised does -/
def ThrowOk (X : Cx) (XW : XWt) : Prop := ∀ Ca σ H, XW σ Ca H → Thrown X Ca σ H
def FlyOk (X : Cx) (XW : XWt) : Prop := ∀ σ H, PassX X σ H fun cv _ H' => ∃ Ca, cv = .ref Ca ∧ XW σ Ca H' ∧ dmH H H'
section
variable {X : Cx} {C : Cl} {XW : XWt} {a b c x : Expr} {f g : Den} {p : TDen} {st : Stmt} {rest sts sts' : List Stmt} {s : SDen} {r r1 r2 : SRDen} {rx : RDen} {pos : Pos}
theorem rdb_one (h : RDS X C XW st r) : RDB X C XW [st] r := fun e₀ => pss_one (h e₀)
/-- the first statement raises -/
theorem rdb_here (h : RDS X C XW st r) : RDB X C XW (st :: rest) r := fun e₀ => pss_imp (pss_cons (h e₀) (pss_never (sts := rest))) fun Dn σ H hw' => by obtain ⟨e, Ω, ρ, c, ρ', Ω', Ca, eH, rl, q, hC, k⟩ := hw'; exact ⟨e, Ω, ρ, c, ρ', Ω', Ca, eH, rl, q, hC, k⟩
def rThen (s : SDen) (r : SRDen) : SRDen := fun ρ Ω => match s ρ Ω with
  | some (.nx ρ1 Ω1) => r ρ1 Ω1
  | _ => none
/-- the first does not, what follows does -/
theorem rdb_next (h1 : PDS X C st s) (h2 : RDB X C XW rest r) : RDB X C XW (st :: rest) (rThen s r) := fun e₀ => pss_imp (pss_cons (h1 e₀) (h2 e₀)) fun Dn σ H hw' => by
  obtain ⟨e, Ω, ρ, c, ρ', Ω', Ca, eH, rl, q, hC, k⟩ := hw'
  unfold rThen at q
  cases q1 : s ρ Ω with
  | none => rw [q1] at q; cases q
  | some o1 =>
    rw [q1] at q
    refine ⟨e, Ω, ρ, o1, eH, rl, q1, ?_⟩
    cases o1 with
    | nx ρ1 Ω1 => exact fun e' σ' r' => ⟨e', Ω1, ρ1, c, ρ', Ω', Ca, rfl, r', q, hC, k⟩
    | _ => cases q
def rOr (r1 r2 : SRDen) : SRDen := fun ρ Ω => match r1 ρ Ω with
  | some z => some z
  | none => r2 ρ Ω
theorem rdb_or (h1 : RDB X C XW sts r1) (h2 : RDB X C XW sts r2) : RDB X C XW sts (rOr r1 r2) := fun e₀ pins sh σ H D I hw' => by
  obtain ⟨e, Ω, ρ, c, ρ', Ω', Ca, eH, rl, q, hC, k⟩ := hw'
  unfold rOr at q
  cases q1 : r1 ρ Ω with
  | none => rw [q1] at q; exact h2 e₀ pins sh σ H D I ⟨e, Ω, ρ, c, ρ', Ω', Ca, eH, rl, q, hC, k⟩
  | some z => rw [q1] at q; cases q; exact h1 e₀ pins sh σ H D I ⟨e, Ω, ρ, c, ρ', Ω', Ca, eH, rl, q1, hC, k⟩
def rNever : SRDen := fun _ _ => none
theorem rdb_never : RDB X C XW sts rNever := fun e₀ => pss_imp pss_never fun Dn σ H hw' => by obtain ⟨e, Ω, ρ, c, ρ', Ω', Ca, eH, rl, q, hC, k⟩ := hw'; cases q
def rIf (p : TDen) (s t : SRDen) : SRDen := fun ρ Ω => match p ρ Ω with
  | some (true, Ω') => s ρ Ω'
  | some (false, Ω') => t ρ Ω'
  | none => none
theorem rds_if (hc : PDT X C c p) (ha : RDB X C XW sts r1) (hb : RDB X C XW sts' r2) : RDS X C XW (.If c sts sts' pos) (rIf p r1 r2) := fun e₀ => ps_imp (ps_if hc (ha e₀) (hb e₀)) fun Dn σ H hw' => by
  obtain ⟨e, Ω, ρ, c, ρ', Ω', Ca, eH, rl, q, hC, k⟩ := hw'
  unfold rIf at q
  cases q1 : p ρ Ω with
  | none => rw [q1] at q; cases q
  | some p1 =>
    obtain ⟨d, Ω1⟩ := p1
    rw [q1] at q
    refine ⟨e, Ω, ρ, d, Ω1, eH, rl.wf, rl.rel, q1, fun e' x' w' => ?_⟩
    cases d with
    | true => rw [if_pos rfl]; exact ⟨e', Ω1, ρ, c, ρ', Ω', Ca, rfl, rl.to x' w', q, hC, k⟩
    | false => rw [if_neg (by decide)]; exact ⟨e', Ω1, ρ, c, ρ', Ω', Ca, rfl, rl.to x' w', q, hC, k⟩
def rE (rx : RDen) : SRDen := fun ρ Ω => match rx ρ Ω with
  | some (c, Ω') => some (c, ρ, Ω')
  | none => none
theorem rE_read {K : PySem.W.Frag} {e₀ : E4} {σ : St} {H : Hp} {Dn : Ends} {Q : VK} (hw : tRS K C XW e₀ (rE rx) Dn σ H) : tR K C XW rx σ H Q := by
  obtain ⟨e, Ω, ρ, c, ρ', Ω', Ca, eH, rl, q, hC, k⟩ := hw
  unfold rE at q
  cases q1 : rx ρ Ω with
  | none => rw [q1] at q; cases q
  | some p1 =>
    obtain ⟨c1, Ω1⟩ := p1
    rw [q1] at q
    cases q
    exact ⟨e, Ω, ρ, _, _, Ca, eH, rl.wf, rl.rel, q1, hC, fun e' x' w' => k e' σ (rl.to x' w')⟩
theorem rds_ret (h : RD X C XW x rx) : RDS X C XW (.Return (some x) pos) (rE rx) := fun e₀ => ps_imp (ps_ret h) fun Dn σ H hw => rE_read hw
end
end DL
set_option Elab.async false
set_option linter.all false
set_option maxRecDepth 100000
namespace DL
open PySem PySem.Spec PyProof.Rows L2
/-! ### defs that may raise -/
def spX (K : PySem.W.Frag) (C : Cl) (F : FDen) (R : XFDen) : Sp := fun vs H Q E => spD K C F vs H Q E ∨ ∃ e Ω ds c Ω' Ca, e.H = H ∧ Wf K C e Ω ∧ IsL K e.α e.F ds vs ∧ R ds Ω = some (c, Ω') ∧ C c = some Ca ∧ ∀ e', Ext e e' → Wf K C e' Ω' → E (.ref Ca) none e'.H
def runR (n m : Nat) (r : SRDen) : XFDen := fun ds Ω => if ds.length = n then match r (ds.map Sl.dat ++ List.replicate (m - n) Sl.und) Ω with
  | some (c, _, Ω') => some (c, Ω')
  | none => none
  else none
theorem throwOk_def {P : Program} {w : World} {K : PySem.W.Frag} {mg : Str → Option Value} {base : Heap} {N : List Str} {qual : Str} {scope : Scope} {f : Addr} {cd : Value} {A : Around} {outer : List Env} {s₀ : Shared} {H₀ : Hp} {E : XK} :
    ThrowOk (cxOf (CXr P w) P w K mg base N qual scope f cd A outer s₀ H₀ E) fun _ Ca H' => E (.ref Ca) none H' := fun Ca σ H h => thrown_leaves h
theorem fn_DX {P : Program} {w : World} {K : PySem.W.Frag} {mg : Str → Option Value} {base : Heap} {C : Cl} {x qual : Str} {st : Stmt} {dV : Value} {f : Addr} {fd : FuncData} {N ps : List Str} {k n m : Nat} {s : SDen} {r : SRDen} (F : FunV K x qual st dV f fd) (S : FnScope N ps (defScope st)) (hn : ps.length = n) (hm : N.length = m)
    (hbody : ∀ (cdv : Value) (A : Around) (outer : List Env) (sh : Shared) (H : Hp) (E : XK), Room k (A.deeper (envOfC qual (defScope st) sh.heap.objs.size f cdv)) →
      PDB (cxOf (CXr P w) P w K mg base N qual (defScope st) f cdv A outer sh H E).nox C (defBody st) s)
    (hout : ∀ (cdv : Value) (A : Around) (outer : List Env) (sh : Shared) (H : Hp) (E : XK), Room k (A.deeper (envOfC qual (defScope st) sh.heap.objs.size f cdv)) →
      RDB (cxOf (CXr P w) P w K mg base N qual (defScope st) f cdv A outer sh H E) C (fun _ Ca H' => E (.ref Ca) none H') (defBody st) r) : FnOk P w K mg base (CXr P w) (k + 1) f fd ps (spX K C (runD n m s) (runR n m r)) := by
  obtain ⟨oc, od, kV, doc, pm, an, cdv, ct, osl, rfl, lk, hcd⟩ := F
  refine fn_of lk hcd S (fun vs H Q E h => ?_) fun A outer sh H vs Q E hr h => ?_
  · rcases h with ⟨e, Ω, ds, d, Ω', _, _, i, q, _⟩ | ⟨e, Ω, ds, c, Ω', Ca, _, _, i, q, _⟩
    · unfold runD at q
      by_cases hl : ds.length = n
      · rw [← i.length, hl, hn]
      · rw [if_neg hl] at q; cases q
    · unfold runR at q
      by_cases hl : ds.length = n
      · rw [← i.length, hl, hn]
      · rw [if_neg hl] at q; cases q
  · rcases h with ⟨e, Ω, ds, d, Ω', eH, wf, i, q, kk⟩ | ⟨e, Ω, ds, c, Ω', Ca, eH, wf, i, q, hC, kk⟩
    · unfold runD at q
      by_cases hl : ds.length = n
      · rw [if_pos hl] at q
        cases q1 : s (ds.map Sl.dat ++ List.replicate (m - n) Sl.und) Ω with
        | none => rw [q1] at q; cases q
        | some o =>
          rw [q1] at q
          refine ⟨_, (hbody cdv A outer sh H E hr e).nox, e, Ω, _, o, eH, start_rel wf i, by rw [hl, hm]; exact q1, ?_⟩
          cases o with
          | rt d' Ω2 => cases q; exact fun e' v x' w' i' => kk v e' x' w' i'
          | nx ρ' Ω2 => cases q; exact fun e' σ' r' => kk .non e' r'.ext r'.wf (by rw [Is])
          | bk ρ' Ω2 => cases q
          | ct ρ' Ω2 => cases q
      · rw [if_neg hl] at q; cases q
    · unfold runR at q
      by_cases hl : ds.length = n
      · rw [if_pos hl] at q
        cases q1 : r (ds.map Sl.dat ++ List.replicate (m - n) Sl.und) Ω with
        | none => rw [q1] at q; cases q
        | some p1 =>
          obtain ⟨c1, ρ1, Ω1⟩ := p1
          rw [q1] at q
          cases q
          exact ⟨_, hout cdv A outer sh H E hr e, e, Ω, _, _, ρ1, _, Ca, eH, start_rel wf i, by rw [hl, hm]; exact q1, hC, fun e' σ' r' => kk e' r'.ext r'.wf⟩
      · rw [if_neg hl] at q; cases q
/-! ### methods that may raise -/
structure MtX (P : Program) (w : World) (K : PySem.W.Frag) (mg : Str → Option Value) (base : Heap) (C : Cl) (k : Nat) (c m : Str) (F : FDen) (R : XFDen) (dfl : List D) : Prop where
  ex : ∃ Ca f fd ps ds dvs, C c = some Ca ∧ Cls K Ca ∧ Meth K Ca m f ∧ Binds K fd ps ds ∧ Vals dvs ds ∧ (∀ α H, IsL K α H dfl dvs) ∧ FnOk P w K mg base (CXr P w) k f fd ps (spX K C F R)
theorem tDA_mono {K : PySem.W.Frag} {C : Cl} {g : ADen} {σ : St} {H : Hp} {Q Q' : List V → Hp → Prop} (h : tDA K C g σ H Q) (i : ∀ v H', Q v H' → Q' v H') : tDA K C g σ H Q' := by
  obtain ⟨e, Ω, ρ, d, Ω', eH, w, rl, q, kk⟩ := h
  exact ⟨e, Ω, ρ, d, Ω', eH, w, rl, q, fun v e' x' w' i' => i _ _ (kk v e' x' w' i')⟩
theorem passX_none {X : Cx} {σ : St} {H : Hp} : PassX X σ H fun _ _ _ => False := fun pins s e s' I hw' => by obtain ⟨ea, C, t, H', B, _, z, _⟩ := hw'; exact z.elim
section
variable {X : Cx} {C : Cl} {XW : XWt} {a b x : Expr} {f g : Den} {ga : ADen} {r : RDen} {pos ap cp : Pos}
/-! ### calls of defs that may raise -/
end
structure FnX (P : Program) (w : World) (K : PySem.W.Frag) (mg : Str → Option Value) (base : Heap) (C : Cl) (k : Nat) (n : Str) (F : FDen) (R : XFDen) : Prop where
  ex : ∃ f fd ps, mg n = some (.ref f) ∧ PySem.W.keepIn K (.ref f) = true ∧ Binds K fd ps [] ∧ FnOk P w K mg base (CXr P w) k f fd ps (spX K C F R)
def rCall (R : XFDen) (g : ADen) : RDen := fun ρ Ω => match g ρ Ω with
  | some (ds, Ω1) => R ds Ω1
  | none => none
section
variable {X : Cx} {C : Cl} {XW : XWt} {k : Nat} {F : FDen} {R : XFDen} {n : Str} {p pos : Pos} {a b x : Expr} {es : List Expr} {ga : ADen} {f g : Den} {r : RDen}
theorem rd_call (hX : FlyOk X XW) (G : FnX X.prog X.w X.K X.mg X.base C k n F R) (hr : Room k X.A) (hg : Gl X n)
    (ha : PDA X C (x :: es) ga) (hdb : (n == ("__debug__" : Str)) = false := by decide) (he : starEach (x :: es) X.env = (false, eval x X.env) :: starEach es X.env := by rfl) (hpl : (backTo pos (starEach es X.env)).any (·.1) = false := by rfl) :
    RD X C XW (.Call (.Name n p) (x :: es) [] pos) (rCall R ga) := by
  obtain ⟨fa, fd, ps, hm, hk, hb, ok⟩ := G.ex
  refine pe_imp (pe_callX ok hr hg hm hk hb .nil ha hdb he hpl) fun σ H Q hw' => ?_
  obtain ⟨e, Ω, ρ, c, Ω', Ca, eH, w, rl, q, hC, kk⟩ := hw'
  unfold rCall at q
  cases q1 : ga ρ Ω with
  | none => rw [q1] at q; cases q
  | some p1 =>
    obtain ⟨ds, Ω1⟩ := p1
    rw [q1] at q
    refine ⟨e, Ω, ρ, ds, Ω1, eH, w, rl, q1, fun vs e' x' w' i' => ?_⟩
    refine ⟨_, ?_, hX σ e'.H⟩
    rw [List.append_nil]
    exact .inr ⟨e', Ω1, ds, c, Ω', Ca, rfl, w', i', q, hC, fun e'' x'' w'' => ⟨Ca, rfl, kk e'' (x'.trans x'') w'', x''.dm⟩⟩
theorem pd_callX (G : FnX X.prog X.w X.K X.mg X.base C k n F R) (hr : Room k X.A) (hg : Gl X n)
    (ha : PDA X C (x :: es) ga) (hdb : (n == ("__debug__" : Str)) = false := by decide) (he : starEach (x :: es) X.env = (false, eval x X.env) :: starEach es X.env := by rfl) (hpl : (backTo pos (starEach es X.env)).any (·.1) = false := by rfl) :
    PD X C (.Call (.Name n p) (x :: es) [] pos) (gCall F ga) := by
  obtain ⟨fa, fd, ps, hm, hk, hb, ok⟩ := G.ex
  exact pe_imp (pe_callX ok hr hg hm hk hb .nil ha hdb he hpl) fun σ H Q hw => tDA_mono (call_read (E := fun _ _ _ => False) hw) fun vs H2 z2 => ⟨_, .inl z2, passX_none⟩
end
end DL
set_option Elab.async false
set_option linter.all false
set_option maxRecDepth 100000
namespace L2
open PySem PySem.Spec PyProof.Rows
theorem Cx.Ok.unhold {X : Cx} {pn : List (Addr × Obj)} {E : Value → Shared → Prop} (h : (X.hold pn E).Ok) : X.Ok :=
  ⟨h.mod, h.kind, h.glob, h.blt, h.above, h.inj, h.has, h.cab, h.hd, h.frames, h.stk, h.exf, h.bs, h.bsz, h.noex, h.exfs, h.funs, h.frf⟩
end L2
namespace DL
open PySem PySem.Spec PyProof.Rows L2
/-! ### try: .. return ..; except C as n: .. return .. -/
theorem flyOk_try {X : Cx} {pins : List (Addr × Obj)} {Hw : XWt} : FlyOk (X.hold (X.pn ++ pins) (Served X pins Hw)) Hw := fun σ H pins' s e s' I h => by
  have I' : Inv X pins σ H s := I.unhold I.ok.unhold
  obtain ⟨ea, Cc, t, H', B, rfl, ⟨Ca, hc, hw, _⟩, F⟩ := flown I' h fun Cv H' ⟨Ca, _, _, dm⟩ => dm
  cases hc
  exact ⟨σ, ea, _, t, H', B, rfl, F, hw⟩
def sTry (s : SDen) (r : SRDen) (i : Nat) (tc : Str → Bool) (t : SDen) : SDen := fun ρ Ω => match s ρ Ω with
  | some (.rt d Ω') => some (.rt d Ω')
  | some _ => none
  | none => match r ρ Ω with
    | some (c, ρ1, Ω1) => if tc c = true then match t (ρ1.set i (.dat (.obj Ω1.length))) (Ω1 ++ [.exc c]) with
        | some (.rt d Ω') => some (.rt d Ω')
        | _ => none
      else none
    | none => none
section
variable {X : Cx} {C : Cl} {body : List Stmt} {x n : Str} {np hpos pos : Pos} {cv : Value} {i : Nat} {b₀ : Stmt} {suite : List Stmt} {s t : SDen} {r : SRDen} {tc : Str → Bool}
theorem pds_try (hb : ∀ pn E, PDB (X.hold pn E) C body s) (hr : ∀ pn E XW, FlyOk (X.hold pn E) XW → RDB (X.hold pn E) C XW body r) (ht : ∀ v pn, PDB ((X.mark v).hold pn fun _ _ => False) C (b₀ :: suite) t)
    (htc : ∀ c, tc c = true → ∃ Ca, C c = some Ca ∧ PySem.W.exmOne X.K (.ref Ca) cv = some true)
    (hs : X.stack = X.env :: X.outer) (hfr : X.env.frame = some X.env.locals) (hg : Gl X x) (hm : X.mg x = some cv) (hN : X.N.Nodup) (hi : X.N[i]? = some n) (hl : X.env.scope.names.lookup n = some .local) (hkn : X.env.kindOf n = some .local) (hd : (x == ("__debug__" : Str)) = false := by decide) :
    PDS X C (.Try body [.ExceptHandler (some (.Name x np)) (some n) (b₀ :: suite) hpos] [] [] pos) (sTry s r i tc t) := fun e₀ =>
  ps_imp (ps_try (tb := fun pn E Dn σ H => tDS X.K C e₀ s Dn σ H ∨ ∃ XW, FlyOk (X.hold pn E) XW ∧ tRS X.K C XW e₀ r Dn σ H) (th := tDS X.K C e₀ t)
    (fun pn E pins sh σ H D I h => h.elim (fun z => hb pn E e₀ pins sh σ H D I z) fun ⟨XW, hX, z⟩ => hr pn E XW hX e₀ pins sh σ H D I z) (fun v pn => ht v pn e₀) hs hfr hg hm hN hi hl hkn hd) fun Dn σ H hw' pins => by
    obtain ⟨e, Ω, ρ, o, eH, rl, q, k⟩ := hw'
    unfold sTry at q
    cases q1 : s ρ Ω with
    | some o1 =>
      rw [q1] at q
      cases o1 with
      | rt d Ω' => cases q; exact .inl ⟨e, Ω, ρ, _, eH, rl, q1, k⟩
      | _ => cases q
    | none =>
      rw [q1] at q
      dsimp only at q
      cases q2 : r ρ Ω with
      | none => rw [q2] at q; cases q
      | some p2 =>
        obtain ⟨c, ρ1, Ω1⟩ := p2
        rw [q2] at q
        dsimp only at q
        by_cases hc : tc c = true
        · rw [if_pos hc] at q
          obtain ⟨Ca, hC, hx⟩ := htc c hc
          refine .inr ⟨_, flyOk_try, e, Ω, ρ, c, ρ1, Ω1, Ca, eH, rl, q2, hC, fun e' σ' r' => ⟨hx, fun ea oe hn ho => ?_⟩⟩
          obtain ⟨w', x'⟩ := r'.wf.obj (H' := upd e'.H ea (.frz oe (.own 0))) (o := .exc c) hn (fun b u hb => by rw [upd_ne (ne_of_none hb hn)]; exact hb) (by rw [upd_same]; exact ⟨by simp, fun xs z => nomatch z⟩) ⟨Ca, oe, _, hC, upd_same, ho⟩
          have r2 := (r'.to x' w').set i (d := .obj Ω1.length) (v := .ref ea) (by
            rw [Is]
            exact ⟨ea, by show (e'.α ++ [ea])[Ω1.length]? = some ea; rw [← r'.wf.ol]; simp, rfl⟩)
          cases q3 : t (ρ1.set i (.dat (.obj Ω1.length))) (Ω1 ++ [.exc c]) with
          | none => rw [q3] at q; cases q
          | some o3 =>
            rw [q3] at q
            cases o3 with
            | rt d Ω' => cases q; exact ⟨_, _, _, _, rfl, r2, q3, k⟩
            | _ => cases q
        · rw [if_neg hc] at q; cases q
end
/-! ### more places where a part raises -/
section
variable {X : Cx} {C : Cl} {XW : XWt} {a b x : Expr} {es : List Expr} {rx : RDen} {n : Str} {p pos : Pos}
end
end DL
set_option Elab.async false
set_option linter.all false
set_option maxRecDepth 100000
namespace L2
open PySem PySem.Spec PyProof.Rows
section
variable {X : Cx} {a : Expr} {ta : TE} {z : Str} {kk : Nat} {p1 p2 pos : Pos}
end
end L2
namespace DL
open PySem PySem.Spec PyProof.Rows L2
/-! ### what has a value that is not told -/
abbrev VDen := List Sl → List OS → Option (List OS)
def tV (K : PySem.W.Frag) (C : Cl) (p : VDen) : TE := fun σ H Q => ∃ e Ω ρ Ω', e.H = H ∧ Wf K C e Ω ∧ RelE K e σ ρ ∧ p ρ Ω = some Ω' ∧ ∀ v e', Ext e e' → Wf K C e' Ω' → Q v e'.H
def PV (X : Cx) (C : Cl) (x : Expr) (p : VDen) : Prop := PE X x (tV X.K C p)
section
variable {X : Cx} {C : Cl} {XW : XWt} {a x : Expr} {f g : Den} {p : VDen} {pos p1 p2 : Pos}
def smallI (i : Int) : Prop := i.natAbs.log2 < 1920 ∧ (Str.ofString (toString i)).length ≤ 1000
instance (i : Int) : Decidable (smallI i) := by unfold smallI; infer_instance
/-- raise C(e), whatever e reads -/
def rRaiseV (c : Str) (p : VDen) : SRDen := fun ρ Ω => match p ρ Ω with
  | some Ω' => some (c, ρ, Ω')
  | none => none
theorem rds_raiseV {cn : Str} {Ca : Addr} {bmB : List Value} {B newId initId : String} {np cpos : Pos} (hX : ThrowOk X XW) (hC : C cn = some Ca) (O : OwnCls cn Ca bmB newId X.mg X.base) (FB : ExcBaseFacts B newId initId bmB) (hh : X.A.handled = none) (hg : Gl X cn) (ha : PV X C x p)
    (he : starEach [x] X.env = (false, eval x X.env) :: starEach [] X.env := by rfl) (hpl : (backTo cpos (starEach [x] X.env)).any (·.1) = false := by rfl)
    (hd : (cn == ("__debug__" : Str)) = false := by decide) : RDS X C XW (.Raise (some (.Call (.Name cn np) [x] [] cpos)) none pos) (rRaiseV cn p) := fun e₀ =>
  ps_imp (ps_raise O FB hh hg ha (fun {σ H} ⟨e, Ω, ρ, Ω', eH, w, rl, q, k⟩ => ⟨e, Ω, ρ, Ω', eH, w, rl, q, fun v e' x' w' => ⟨rfl, k v e' x' w'⟩⟩) he hpl hd) fun Dn σ H hw' => by
    obtain ⟨e, Ω, ρ, c, ρ', Ω', Cb, eH, rl, q, hCb, k⟩ := hw'
    unfold rRaiseV at q
    cases q1 : p ρ Ω with
    | none => rw [q1] at q; cases q
    | some Ω1 =>
      rw [q1] at q
      cases q
      rw [hC] at hCb
      cases hCb
      exact ⟨e, Ω, ρ, _, eH, rl.wf, rl.rel, q1, fun v e' x' w' => hX Ca σ _ (k e' σ (rl.to x' w'))⟩
end
end DL
set_option Elab.async false
set_option linter.all false
set_option maxRecDepth 100000
/-! the exception classes of the text, told by the fragment -/
namespace L2
open PySem PySem.Spec PyProof.Rows
section
variable {K : PySem.W.Frag} {h : Heap} {bmB : List Value} {newId : String} {mg : Str → Option Value} {x : Str}
def nsNoInit (K : PySem.W.Frag) (N : Addr) : Bool := match K.lookup N with
  | some o => (match o.data with
    | .dict es _ => es.all (fun e => match e.key with | .str _ _ => true | _ => false) && (nsFind es "__init__").isNone
    | _ => false)
  | none => false
theorem ns_no {N : Addr} (X : K.In h) (q : nsNoInit K N = true) : ∃ mN, h.Ns N mN ∧ mN "__init__" = none := by
  unfold nsNoInit at q
  split at q
  · rename_i o ho
    split at q
    · rename_i es ep hd
      rw [Bool.and_eq_true] at q
      refine ⟨h.nsMap N, .of_isNs ?_, ?_⟩
      · unfold Heap.isNs; rw [X _ _ ho]; simp only [hd]; exact q.1
      · unfold Heap.nsMap; rw [X _ _ ho]; simp only [hd]; exact Option.isNone_iff_eq_none.mp q.2
    · cases q
  · cases q
def tailIn (K : PySem.W.Frag) (bmB : List Value) : List Value → Bool
  | [] => bmB == []
  | v :: tl => (bmB == v :: tl) || (match v with
    | .ref A => (match K.lookup A with | some ⟨_, _, .cls cd, _⟩ => nsNoInit K cd.ns && tailIn K bmB tl | _ => false)
    | _ => false)
theorem tail_in (X : K.In h) : ∀ {tl : List Value}, tailIn K bmB tl = true → OwnTail h bmB tl
  | [], q => by
    unfold tailIn at q
    rw [beq_iff_eq] at q
    rw [← q]; exact .base
  | v :: tl, q => by
    unfold tailIn at q
    rw [Bool.or_eq_true] at q
    rcases q with q | q
    · rw [beq_iff_eq] at q
      rw [← q]; exact .base
    · split at q
      · split at q
        · rename_i ho
          rw [Bool.and_eq_true] at q
          obtain ⟨mA, h1, h2⟩ := ns_no X q.1
          exact .own (X _ _ ho) h1 h2 (tail_in X q.2)
        · cases q
      · cases q
def ownIn (K : PySem.W.Frag) (C : Addr) (bmB : List Value) (newId : String) : Bool := match K.lookup C with
  | some ⟨.type "type", _, .cls cd, sl⟩ => (match cd.mro, sl.toList with
    | .ref C' :: bm, [_, _, _, _, some (.builtin n), _] => C' == C && !cd.hasDel && n == newId && nsNoInit K cd.ns && tailIn K bmB bm
    | _, _ => false)
  | _ => false
theorem own_in {C : Addr} (X : K.In h) (q : ownIn K C bmB newId = true) (hm : mg x = some (.ref C)) : OwnCls x C bmB newId mg h := by
  unfold ownIn at q
  split at q
  · rename_i dd cd sl ho
    split at q
    · rename_i C' bm k0 k1 k2 k3 n k5 hmr hs
      simp only [Bool.and_eq_true, beq_iff_eq, Bool.not_eq_true'] at q
      obtain ⟨⟨⟨⟨rfl, hdel⟩, rfl⟩, hn⟩, ht⟩ := q
      obtain ⟨mN, h1, h2⟩ := ns_no X hn
      obtain ⟨nm, bs, mro, ns, qn, hd, sn, sub, ab, col, del⟩ := cd
      dsimp only at hmr hdel h1
      subst hmr hdel
      have hsl : sl = #[k0, k1, k2, k3, some (.builtin n), k5] := by
        obtain ⟨l⟩ := sl
        simp only at hs
        rw [hs]
      subst hsl
      exact ⟨hm, bm, ns, nm, qn, bs, hd, sn, sub, ab, col, dd, k0, k1, k2, k3, k5, mN, X _ _ ho, h1, h2, tail_in X ht⟩
    · cases q
  · cases q
end
end L2
set_option Elab.async false
set_option linter.all false
set_option maxRecDepth 100000
/-! an exception that a callee raised leaves a def that does not catch it -/
namespace L2
open PySem PySem.Spec PyProof.Rows
end L2
namespace DL
open PySem PySem.Spec PyProof.Rows L2
end DL
set_option Elab.async false
set_option linter.all false
set_option maxRecDepth 100000
/-! a for loop that an item's turn leaves by an exception -/
namespace DL
open PySem PySem.Spec PyProof.Rows L2
def forR (β : BDen) (s : SDen) (r : SRDen) : List D → SRDen
  | [], _, _ => none
  | d :: ds, ρ, Ω => match β d ρ with
    | some ρ1 => match r ρ1 Ω with
      | some z => some z
      | none => match s ρ1 Ω with
        | some (.nx ρ' Ω') => forR β s r ds ρ' Ω'
        | some (.ct ρ' Ω') => forR β s r ds ρ' Ω'
        | _ => none
    | none => none
def rFor (γ : ADen) (β : BDen) (s : SDen) (r : SRDen) : SRDen := fun ρ Ω => match γ ρ Ω with
  | some (ds, Ω') => forR β s r ds ρ Ω'
  | none => none
section
variable {X : Cx} {C : Cl} {XW : XWt} {tg iter c : Expr} {γ : ADen} {β : BDen} {s : SDen} {r : SRDen} {body : List Stmt} {pos : Pos}
theorem rdb_ex {sts : List Stmt} (h : PDB X C sts s) (h2 : RDB X C XW sts r) : PSs X sts (fun Dn σ H => (∃ e₁, tDS X.K C e₁ s Dn σ H) ∨ ∃ e₁, tRS X.K C XW e₁ r Dn σ H) := fun pins sh σ H Dn I hw =>
  hw.elim (fun ⟨e₁, z⟩ => h e₁ pins sh σ H Dn I z) fun ⟨e₁, z⟩ => h2 e₁ pins sh σ H Dn I z
theorem rds_for (hp : PassesOwn (model X.prog X.w) X.A X.env X.xe) (hc : X.calm = true) (hi : PDI X C tg iter γ) (hg : PDG X C tg β) (hb : PDB X C body s) (hb2 : RDB X C XW body r)
    (hs : ∀ x, foldedSetIterable iter X.env x = pure x := by intro _; rfl) : RDS X C XW (.For tg iter body [] pos) (rFor γ β s r) := by
  refine fun e₀ => ps_imp (ps_for hp hc hi hg (rdb_ex hb hb2) hs) fun Dn σ H hw' => ?_
  obtain ⟨e, Ω, ρ, cn, ρ', Ωx, Ca, eH, rl, q, hC, k⟩ := hw'
  unfold rFor at q
  cases q1 : γ ρ Ω with
  | none => rw [q1] at q; cases q
  | some p1 =>
    obtain ⟨ds, Ω'⟩ := p1
    rw [q1] at q
    dsimp only at q
    refine ⟨e, Ω, ρ, ds, Ω', eH, rl.wf, rl.rel, q1, fun e' J x' w' wk => ?_⟩
    refine ⟨fun i m σ H => m = ds.length - i ∧ i ≤ ds.length ∧ ∃ e2 Ω2 ρ2, e2.H = H ∧ RelS X.K C e₀ e2 Ω2 σ ρ2 ∧ Same e'.F e2.F ∧ (∃ more, e2.α = e'.α ++ more) ∧ forR β s r (ds.drop i) ρ2 Ω2 = some (cn, ρ', Ωx), ⟨ds.length, by simp, Nat.zero_le _, e', Ω', ρ, rfl, rl.to x' w', Same.refl _, ⟨[], by simp⟩, by simpa using q⟩, ?_⟩
    rintro i m σ2 H2 ⟨rfl, hil, e2, Ω2, ρ2, rfl, r2, ff, al, q2⟩
    obtain ⟨stop, go⟩ := wk i e2 ff al r2.wf.fh
    by_cases hlt : i < ds.length
    · have hd : ds[i]? = some ds[i] := List.getElem?_eq_getElem hlt
      obtain ⟨g1, y1⟩ := go _ hd
      have edrop : ds.drop i = ds[i] :: ds.drop (i + 1) := List.drop_eq_getElem_cons hlt
      rw [edrop] at q2
      refine .inr ⟨g1, fun σ' H' => ∃ e3 Ω3 ρ3, e3.H = H' ∧ RelS X.K C e₀ e3 Ω3 σ' ρ3 ∧ Same e'.F e3.F ∧ (∃ more, e3.α = e'.α ++ more) ∧ forR β s r (ds.drop (i + 1)) ρ3 Ω3 = some (cn, ρ', Ωx), fun σ' H' hN => ⟨ds.length - (i + 1), by omega, rfl, hlt, hN⟩, fun x H' hy => ?_⟩
      obtain ⟨e2', rfl, ix, up⟩ := y1 x H' hy
      obtain ⟨x2', w2'⟩ := up C Ω2 r2.wf
      replace r2 := r2.to x2' w2'
      replace ff := ff.trans x2'.ff
      replace al : ∃ more, e2'.α = e'.α ++ more := by
        obtain ⟨m1, z1⟩ := al
        obtain ⟨m2, z2⟩ := x2'.al
        exact ⟨m1 ++ m2, by rw [z2, z1, List.append_assoc]⟩
      clear y1 g1 stop go
      revert r2 ff al ix
      generalize e2' = e2
      intro ix r2 ff al
      unfold forR at q2
      cases q3 : β ds[i] ρ2 with
      | none => rw [q3] at q2; cases q2
      | some ρ3 =>
        rw [q3] at q2
        dsimp only at q2
        refine ⟨e2, Ω2, ρ2, _, ρ3, rfl, r2.wf, r2.rel, ix, q3, fun σ3 r3 o3 => ?_⟩
        have r3' := r2.by r3 o3
        obtain ⟨e₁, hF, hα, r4, toE, toN, _⟩ := r3'.mark
        have back : ∀ {e5 : E4} {Ω5 : List OS} {σ5 : St} {ρ5 : List Sl}, RelS X.K C e₁ e5 Ω5 σ5 ρ5 → RelS X.K C e₀ e5 Ω5 σ5 ρ5 ∧ Same e'.F e5.F ∧ ∃ more, e5.α = e'.α ++ more := fun {e5 Ω5 σ5 ρ5} r5 => by
          refine ⟨⟨r5.wf, r5.rel, toE _ r5.ext, fun i ds a h1 h2 => toN _ (r5.fresh i ds a h1 h2)⟩, ff.trans (hF ▸ r5.ext.ff), ?_⟩
          obtain ⟨m1, z1⟩ := al
          obtain ⟨m2, z2⟩ := r5.ext.al
          exact ⟨m1 ++ m2, by rw [z2, hα, z1, List.append_assoc]⟩
        cases q5 : r ρ3 Ω2 with
        | some z =>
          rw [q5] at q2
          cases q2
          exact .inr ⟨e₁, e2, Ω2, ρ3, cn, ρ', Ωx, Ca, rfl, r4, q5, hC, fun e5 σ5 r5 => k e5 σ5 (back r5).1⟩
        | none =>
          rw [q5] at q2
          dsimp only at q2
          cases q4 : s ρ3 Ω2 with
          | none => rw [q4] at q2; cases q2
          | some o4 =>
            rw [q4] at q2
            refine .inl ⟨e₁, e2, Ω2, ρ3, o4, rfl, r4, q4, ?_⟩
            cases o4 with
            | nx ρ5 Ω5 => exact fun e5 σ5 r5 => ⟨e5, Ω5, ρ5, rfl, (back r5).1, (back r5).2.1, (back r5).2.2, q2⟩
            | ct ρ5 Ω5 => exact fun e5 σ5 r5 => ⟨e5, Ω5, ρ5, rfl, (back r5).1, (back r5).2.1, (back r5).2.2, q2⟩
            | bk ρ5 Ω5 => cases q2
            | rt z Ω5 => cases q2
    · have hge : ds.drop i = [] := List.drop_eq_nil_of_le (Nat.le_of_not_lt hlt)
      rw [hge] at q2
      cases q2
end
/-- in a def, loops let exceptions through -/
theorem passes_def {P : Program} {w : World} {K : PySem.W.Frag} {mg : Str → Option Value} {base : Heap} {N : List Str} {qual : Str} {scope : Scope} {f : Addr} {cd : Value} {A : Around} {outer : List Env} {s₀ : Shared} {H₀ : Hp} {E : XK} {CX : CXT} :
    let X := cxOf CX P w K mg base N qual scope f cd A outer s₀ H₀ E
    PassesOwn (model X.prog X.w) X.A X.env X.xe := PassesOwn.leaving
end DL
set_option Elab.async false
set_option linter.all false
set_option maxRecDepth 100000
namespace L2
open PySem PySem.Spec PyProof.Rows
section
variable {X : Cx} {a : Expr} {ta : TE} {z : Str} {kk : Nat} {p1 p2 pos : Pos}
/-- f'z{a!r}', a a text; what it reads is not told -/
def tFRS (ta : TE) : TE := fun σ H Q => ta σ H fun x H1 => ∃ y : Str, x = .str y ∧ (reprText y).length ≤ 50000 ∧ ∀ t, Q (.str t) H1
theorem pe_frs (ha : PE X a ta) (hz : z.length ≤ 1000 := by decide) (hs : evalEach [.Constant (.str z) kk p1, .FormattedValue a 114 none p2] X.env = [eval (.Constant (.str z) kk p1) X.env, eval (.FormattedValue a 114 none p2) X.env] := by rfl) :
    PE X (.JoinedStr [.Constant (.str z) kk p1, .FormattedValue a 114 none p2] pos) (tFRS ta) := by
  intro pins s σ H Q I h
  have len : ∀ p q : Str, (p ++ q).length = p.length + q.length := fun p q => strLen_append p q
  have sl : (100000 : Nat) ≤ sizeLine := by rw [sizeLine_eq]; decide
  refine PySem.wpAny_JoinedStr ?_
  rw [hs]
  refine wpAny_mono (pe_str (X := X) (x := z) (j := kk) (pos := p1) pins s σ H (fun v H' => v = .str z ∧ H' = H) I ⟨rfl, rfl⟩) (fun u s2 ⟨y, H2, I2, r2, e2, e3⟩ => ?_) fun _ _ e => e
  subst e2 e3
  obtain ⟨t2, rfl⟩ := r2
  refine ⟨z, t2, rfl, ?_, ?_⟩
  · rw [PySem.W.KT.empty_app]; omega
  rw [PySem.W.KT.empty_app]
  refine PySem.wpAny_FormattedValue_repr (thn (ha pins s2 σ _ _ I2 h) fun u s3 hw' => ?_)
  obtain ⟨y, H3, I3, r3, x, ey, lx, q⟩ := hw'
  subst ey
  obtain ⟨t3, rfl⟩ := r3
  refine wpAny_pyReprObj_str ?_ (by omega)
  have fin : ∀ (u : Tok) (tk : Nat), ∃ y t, Value.str (reprText x) u = .str y t ∧ (z ++ y).length ≤ sizeLine ∧ ((z ++ y).length ≤ sizeLine ∧ EP X pins σ Q (.str (z ++ y) tk) { s3 with toks := tk + 1 }) := fun u tk =>
    ⟨_, _, rfl, by rw [len]; omega, by rw [len]; omega, .str _, H3, I3.tok _, ⟨_, rfl⟩, q _⟩
  exact wpAny_formatField_str (fin _ _) (fin _ _) (by omega)
end
end L2
namespace DL
open PySem PySem.Spec PyProof.Rows L2
section
variable {X : Cx} {C : Cl} {a : Expr} {f : Den} {pos p1 p2 : Pos}
def pFrs (f : Den) : VDen := fun ρ Ω => match f ρ Ω with
  | some (.str y, Ω') => if (reprText y).length ≤ 50000 then some Ω' else none
  | _ => none
theorem pv_frs {z : Str} {kk : Nat} (ha : PD X C a f) (hz : z.length ≤ 1000 := by decide) (hs : evalEach [.Constant (.str z) kk p1, .FormattedValue a 114 none p2] X.env = [eval (.Constant (.str z) kk p1) X.env, eval (.FormattedValue a 114 none p2) X.env] := by rfl) :
    PV X C (.JoinedStr [.Constant (.str z) kk p1, .FormattedValue a 114 none p2] pos) (pFrs f) := pe_imp (pe_frs ha hz hs) fun σ H Q hw' => by
  obtain ⟨e, Ω, ρ, Ω', eH, w, rl, q, k⟩ := hw'
  unfold pFrs at q
  split at q
  · rename_i y Ω1 q1
    split at q
    · rename_i hy
      cases q
      refine ⟨e, Ω, ρ, _, _, eH, w, rl, q1, fun v e' x' w' i' => ?_⟩
      rw [Is] at i'
      subst i'
      exact ⟨y, rfl, hy, fun t => k _ e' x' w'⟩
    · cases q
  · cases q
end
end DL
set_option Elab.async false
set_option linter.all false
set_option maxRecDepth 100000
namespace DL
open PySem PySem.Spec PyProof.Rows L2
/-! ### a list of a known length -/
@[elab_as_elim] theorem len0 {p : List Value → Prop} (us : List Value) (hl : us.length = 0) (h : p []) : p us := by
  cases us with
  | nil => exact h
  | cons a us => cases hl
@[elab_as_elim] theorem len1 {p : List Value → Prop} (us : List Value) (hl : us.length = 1) (h : ∀ a, p [a]) : p us := by
  cases us with
  | nil => cases hl
  | cons a us => exact len0 (p := fun us => p (a :: us)) us (Nat.succ.inj hl) (h a)
@[elab_as_elim] theorem len2 {p : List Value → Prop} (us : List Value) (hl : us.length = 2) (h : ∀ a b, p [a, b]) : p us := by
  cases us with
  | nil => cases hl
  | cons a us => exact len1 (p := fun us => p (a :: us)) us (Nat.succ.inj hl) (fun b => h a b)
@[elab_as_elim] theorem len3 {p : List Value → Prop} (us : List Value) (hl : us.length = 3) (h : ∀ a b c, p [a, b, c]) : p us := by
  cases us with
  | nil => cases hl
  | cons a us => exact len2 (p := fun us => p (a :: us)) us (Nat.succ.inj hl) (fun b c => h a b c)
@[elab_as_elim] theorem len4 {p : List Value → Prop} (us : List Value) (hl : us.length = 4) (h : ∀ a b c d, p [a, b, c, d]) : p us := by
  cases us with
  | nil => cases hl
  | cons a us => exact len3 (p := fun us => p (a :: us)) us (Nat.succ.inj hl) (fun b c d => h a b c d)
@[elab_as_elim] theorem len5 {p : List Value → Prop} (us : List Value) (hl : us.length = 5) (h : ∀ a b c d e, p [a, b, c, d, e]) : p us := by
  cases us with
  | nil => cases hl
  | cons a us => exact len4 (p := fun us => p (a :: us)) us (Nat.succ.inj hl) (fun b c d e => h a b c d e)
@[elab_as_elim] theorem len6 {p : List Value → Prop} (us : List Value) (hl : us.length = 6) (h : ∀ a b c d e f, p [a, b, c, d, e, f]) : p us := by
  cases us with
  | nil => cases hl
  | cons a us => exact len5 (p := fun us => p (a :: us)) us (Nat.succ.inj hl) (fun b c d e f => h a b c d e f)
@[elab_as_elim] theorem len7 {p : List Value → Prop} (us : List Value) (hl : us.length = 7) (h : ∀ a b c d e f g, p [a, b, c, d, e, f, g]) : p us := by
  cases us with
  | nil => cases hl
  | cons a us => exact len6 (p := fun us => p (a :: us)) us (Nat.succ.inj hl) (fun b c d e f g => h a b c d e f g)
end DL
set_option Elab.async false
set_option linter.all false
set_option maxRecDepth 100000
namespace L2
open PySem PySem.Spec PyProof.Rows
/-! ### zip over two sequences, each a list or a tuple -/
def sqN (b : Bool) : String := match b with | true => "tuple" | false => "list"
def itN (b : Bool) : String := match b with | true => "tuple_iterator" | false => "list_iterator"
def SqB (b : Bool) (h : Heap) (a : Addr) (xs : Array Value) : Prop := ∃ o, h.get? a = some o ∧ o.cls = .type (sqN b) ∧ ∃ n, o.data = .seq xs n
def ItB (b : Bool) (h : Heap) (a l : Addr) (i : Nat) : Prop := ∃ o, h.get? a = some o ∧ o.cls = .type (itN b) ∧ o.data = .fields #[.ref l, .int i 0]
section
variable {b : Bool} {h h' : Heap} {a l c : Addr} {i : Nat} {xs : Array Value}
theorem SqB.go (x : SqB b h a xs) (e : ∀ o, h.get? a = some o → h'.get? a = some o) : SqB b h' a xs := let ⟨o, ho, r⟩ := x; ⟨o, e o ho, r⟩
theorem ItB.go (x : ItB b h a l i) (e : ∀ o, h.get? a = some o → h'.get? a = some o) : ItB b h' a l i := let ⟨o, ho, r⟩ := x; ⟨o, e o ho, r⟩
theorem SqB.eb (x : SqB b h a xs) (e : Heap.ExtBut c h h') (n : a ≠ c) : SqB b h' a xs := x.go fun o q => e a o n q
theorem ItB.eb (x : ItB b h a l i) (e : Heap.ExtBut c h h') (n : a ≠ c) : ItB b h' a l i := x.go fun o q => e a o n q
theorem SqB.lt (x : SqB b h a xs) : a < h.objs.size := let ⟨_, ho, _⟩ := x; Heap.lt_size ho
theorem ItB.lt (x : ItB b h a l i) : a < h.objs.size := let ⟨_, ho, _⟩ := x; Heap.lt_size ho
end
section
variable {prog : Program} {w : World} {A : Around} {E : Value → Shared → Prop} {s : Shared} {b : Bool}
end
end L2
set_option Elab.async false
set_option linter.all false
set_option maxRecDepth 100000
namespace L2
open PySem PySem.Spec PyProof.Rows
section
variable {prog : Program} {w : World} {A : Around} {E : Value → Shared → Prop} {s : Shared} {b1 b2 : Bool} {z TI TO i1 i2 l1 l2 : Addr} {k : Nat} {xs ys : Array Value} {x y a b : Value}
end
end L2
set_option Elab.async false
set_option linter.all false
set_option maxRecDepth 100000
namespace L2
open PySem PySem.Spec PyProof.Rows
section
variable {X : Cx} {pins : List (Addr × Obj)} {σ : St} {H : Hp} {s : Shared} {h' : Heap}
end
end L2
namespace DL
open PySem PySem.Spec PyProof.Rows L2
end DL
namespace DL
open PySem PySem.Spec PyProof.Rows L2
section
variable {X : Cx} {C : Cl} {ga : ADen} {pos p pt : Pos} {es : List Expr} {kk : Nat} {a b : Expr}
end
end DL
set_option Elab.async false
set_option linter.all false
set_option maxRecDepth 100000
namespace DL
open PySem PySem.Spec PyProof.Rows L2
section
variable {X : Cx} {C : Cl} {x : Expr} {g : Den} {pos p : Pos} {n : Str}
end
end DL
set_option Elab.async false
set_option linter.all false
set_option maxRecDepth 100000
namespace L2
open PySem PySem.Spec PyProof.Rows
section
variable {X : Cx} {a : Expr} {ta : TE} {z : Str} {kk : Nat} {p1 p2 pos : Pos}
end
section
variable {X : Cx} {body : List Stmt} {x n : Str} {np hpos pos : Pos} {cv : Value} {i : Nat} {b₀ : Stmt} {suite : List Stmt} {tb : List (Addr × Obj) → (Value → Shared → Prop) → TS} {th : TS}
end
end L2
namespace DL
open PySem PySem.Spec PyProof.Rows L2
section
variable {X : Cx} {C : Cl} {a : Expr} {f : Den} {pos p1 p2 : Pos}
end
section
variable {X : Cx} {C : Cl} {body : List Stmt} {x n : Str} {np hpos pos : Pos} {cv : Value} {i : Nat} {b₀ : Stmt} {suite : List Stmt} {s t : SDen} {r : SRDen} {tc : Str → Bool}
end
end DL
set_option Elab.async false
set_option linter.all false
set_option maxRecDepth 100000
namespace DL
open PySem PySem.Spec PyProof.Rows L2
/-! ### x in (..), x in [..], flat items; a text times a number -/
def flV : D → Option V
  | .non => some .non
  | .bl b => some (.bl b)
  | .int i => some (.int i)
  | .str z => some (.str z)
  | _ => none
def flVs : List D → Option (List V)
  | [] => some []
  | d :: ds => match flV d, flVs ds with
    | some v, some vs => some (v :: vs)
    | _, _ => none
def seqLD : D → Option (List D)
  | .lst xs => some xs
  | .tup xs => some xs
  | _ => none
def inLD (neg : Bool) (x y : D) : Option D := match flV x, seqLD y with
  | some v, some ds => match flVs ds with
    | some vs => some (.bl (if neg then !inV v vs else inV v vs))
    | none => none
  | _, _ => none
theorem flV_is {K : PySem.W.Frag} {α : List Addr} {F : Hp} {d : D} {v u : V} (h : flV d = some u) (i : Is K α F d v) : v = u ∧ flatV u = true := by
  cases d <;> cases h <;> rw [Is] at i <;> exact ⟨i, rfl⟩
theorem flVs_is {K : PySem.W.Frag} {α : List Addr} {F : Hp} : ∀ {ds : List D} {vs us : List V}, flVs ds = some us → IsL K α F ds vs → vs = us ∧ us.all flatV = true
  | [], vs, us, h, il => by cases h; cases il; exact ⟨rfl, rfl⟩
  | d :: ds, vs, us, h, il => by
    obtain ⟨v, vr, rfl, i, r⟩ := il.of_cons
    unfold flVs at h
    cases q1 : flV d with
    | none => rw [q1] at h; cases h
    | some u =>
      cases q2 : flVs ds with
      | none => rw [q1, q2] at h; cases h
      | some ts =>
        rw [q1, q2] at h
        cases h
        obtain ⟨rfl, f1⟩ := flV_is q1 i
        obtain ⟨rfl, f2⟩ := flVs_is q2 r
        exact ⟨rfl, by rw [List.all_cons, f1, f2]; rfl⟩
section
variable {X : Cx} {C : Cl}
theorem inL_go {neg : Bool} {e : E4} {Ω : List OS} {d₁ d₂ z : D} {x y : V} {Q : VK} (w : Wf X.K C e Ω) (i1 : Is X.K e.α e.F d₁ x) (i2 : Is X.K e.α e.F d₂ y) (q : inLD neg d₁ d₂ = some z) (kk : ∀ v e', Ext e e' → Wf X.K C e' Ω → Is X.K e'.α e'.F z v → Q v e'.H) : rIn X.K neg x y e.H Q := by
  unfold inLD at q
  cases q1 : flV d₁ with
  | none => rw [q1] at q; cases q
  | some u =>
    cases q2 : seqLD d₂ with
    | none => rw [q1, q2] at q; cases q
    | some ds =>
      rw [q1, q2] at q
      dsimp only at q
      cases q3 : flVs ds with
      | none => rw [q3] at q; cases q
      | some us =>
        rw [q3] at q
        cases q
        obtain ⟨rfl, f1⟩ := flV_is q1 i1
        cases d₂ with
        | lst xs =>
          cases q2
          rw [Is] at i2
          obtain ⟨a, vs, rfl, h1, r1⟩ := i2
          obtain ⟨rfl, f2⟩ := flVs_is q3 r1
          exact ⟨a, vs, rfl, .inl (SqL.of (w.fh _ _ h1)), f1, f2, kk _ e (Ext.refl e) w (by rw [Is])⟩
        | tup xs =>
          cases q2
          rw [Is] at i2
          obtain ⟨a, vs, rfl, h1, r1⟩ := i2
          obtain ⟨rfl, f2⟩ := flVs_is q3 r1
          exact ⟨a, vs, rfl, .inr (SqT.of (w.fh _ _ h1)), f1, f2, kk _ e (Ext.refl e) w (by rw [Is])⟩
        | _ => cases q2
theorem opD_inL : OpD X C (compareOp .In) (inLD false) := by
  rintro pins s σ H x y v u Q I rx ry ⟨e, Ω, d₁, d₂, z, eH, w, i1, i2, q, kk⟩
  subst eH
  exact op_in_seq pins s σ _ x y v u Q I rx ry (inL_go w i1 i2 q kk)
theorem opD_notinL : OpD X C (compareOp .NotIn) (inLD true) := by
  rintro pins s σ H x y v u Q I rx ry ⟨e, Ω, d₁, d₂, z, eH, w, i1, i2, q, kk⟩
  subst eH
  exact op_notIn_seq pins s σ _ x y v u Q I rx ry (inL_go w i1 i2 q kk)
def mulSD : D → D → Option D
  | .str z, .int k => if 2 ≤ k ∧ k ≤ 1000 ∧ 0 < z.length ∧ z.length ≤ 100 then some (.str (Txt.mul z k)) else none
  | _, _ => none
theorem opD_mulS : OpD X C (binaryOp .Mult) mulSD := by
  rintro pins s σ H x y v u Q I rx ry ⟨e, Ω, d₁, d₂, z, eH, w, i1, i2, q, kk⟩
  subst eH
  cases d₁ with
  | str p =>
    cases d₂ with
    | int k =>
      have ez : mulSD (.str p) (.int k) = if 2 ≤ k ∧ k ≤ 1000 ∧ 0 < p.length ∧ p.length ≤ 100 then some (.str (Txt.mul p k)) else none := rfl
      rw [ez] at q
      by_cases hk : 2 ≤ k ∧ k ≤ 1000 ∧ 0 < p.length ∧ p.length ≤ 100
      · rw [if_pos hk] at q
        cases q
        rw [Is] at i1
        rw [Is] at i2
        subst i1 i2
        obtain ⟨t, rfl⟩ := rx
        obtain ⟨t2, rfl⟩ := ry
        refine SB.mul ⟨?_, fun _ _ => ?_, fun _ _ => ?_⟩ fun t' tk => ⟨.str _, e.H, I.tok tk, ⟨t', rfl⟩, kk _ e (Ext.refl e) w (by rw [Is])⟩
        · have a1 : ¬ k < -(2 ^ 63 : Int) := by omega
          have a2 : ¬ k ≥ (2 : Int) ^ 63 := by omega
          simp only [a1, a2, decide_false, Bool.or_false]
        · have : (2 ^ 63 - 1) / 1000 ≤ (2 ^ 63 - 1 : Int) / k := by
            have h1 : (2 ^ 63 - 1 : Int) / 1000 * k ≤ 2 ^ 63 - 1 := by
              have : ((2 : Int) ^ 63 - 1) / 1000 = 9223372036854775 := by decide
              rw [this]; omega
            exact (Int.le_ediv_iff_mul_le (by omega)).mpr h1
          have e2 : ((2 : Int) ^ 63 - 1) / 1000 = 9223372036854775 := by decide
          rw [e2] at this
          have hz : (p.length : Int) ≤ 100 := by omega
          omega
        · have h1 : p.length * k.toNat ≤ 100 * 1000 := Nat.mul_le_mul (by omega) (by omega)
          show decide (p.length * k.toNat > sizeLine) = false
          rw [decide_eq_false_iff_not, sizeLine_eq]
          omega
      · rw [if_neg hk] at q; cases q
    | _ => cases q
  | _ => cases q
end
end DL
namespace Law
open PySem DL
def xt_0 : Str → Option Bool := fun c => if c = "BadText" then some false else none
def xt_1 : Str → Option Bool := fun c => if c = "BadText" then some true else none
def xt_2 : Str → Option Bool := fun c => if c = "BadText" then some true else none
def tcf_PostError : Str → Bool := fun c => decide (c = "BadText")
noncomputable def d_l_stream : FDen := runD 2 5 (sSeq (sOwn 2 gNil) (sSeq (sSet 3 (gOp addD (gOp modD (gVar 0) (gC (.int 2147483647))) (gC (.int 48271)))) (sSeq (sFor (gRng rng1 (gCons (gOp addD (gVar 1) (gC (.int 1))) gNil)) (bName 4) (sSeq (sSet 3 (gOp modD (gOp addD (gOp addD (gOp mulD (gVar 3) (gVar 3)) (gOp mulD (gC (.int 48271)) (gVar 3))) (gVar 4)) (gC (.int 2147483647)))) (sApp 2 (gVar 3)))) (sGhost (frz 2) (sRet (gSl (gVar 2) (gPart (gC (.int 1))) gNoPart))))))
noncomputable def d_l_cell_at : FDen := runD 2 2 (sSeq (sIf (gT (gOp ltD (gVar 1) (gCB lenD (gCons (gVar 0) gNil)))) (sRet (gOp ixD (gVar 0) (gVar 1))) sNext) (sRet (gC (.int 0))))
noncomputable def d_l_bits : FDen := runD 2 4 (sSeq (sSet 2 (gLst gNil)) (sSeq (sFor (gRng rng1 (gCons (gVar 1) gNil)) (bName 3) (sSeq (sSet 2 (gOp addD (gLst (gCons (gOp modD (gVar 0) (gC (.int 2))) gNil)) (gVar 2))) (sSet 0 (gOp divD (gVar 0) (gC (.int 2)))))) (sRet (gVar 2))))
noncomputable def d_l_shown : FDen := runD 1 2 (sSeq (sSet 1 (gComp [none] (gSeq (gCall d_l_bits (gCons (gOp ixD (gVar 0) (gC (.int 0))) (gCons (gOp ixD (gVar 0) (gC (.int 1))) gNil)))) (bName 0) gTrue (gOp ixD (gC (.str "01")) (gVar 0)))) (sRet (gOp addD (gOp joinD (gC (.str "")) (gVar 1)) (gOp ixD (gLst (gCons (gC (.str "*")) (gCons (gC (.str "")) gNil))) (gCB int1D (gCons (gOp (eqD false) (gOp ixD (gVar 0) (gC (.int 1))) (gC (.int 16))) gNil))))))
noncomputable def d_l_address_text : FDen := runD 1 1 (sRet (gOp addD (gOp addD (gCB str1D (gCons (gOp divD (gVar 0) (gC (.int 256))) gNil)) (gC (.str "."))) (gCB str1D (gCons (gOp modD (gVar 0) (gC (.int 256))) gNil))))
noncomputable def d_l_odd : FDen := runD 1 2 (sSeq (sSet 1 (gLst (gCons (gC (.str "")) (gCons (gC (.str "*")) (gCons (gC (.str "**")) (gCons (gC (.str "0")) (gCons (gC (.str "1")) (gCons (gC (.str "01")) (gCons (gOp mulSD (gC (.str "0")) (gC (.int 15))) (gCons (gOp mulSD (gC (.str "0")) (gC (.int 16))) (gCons (gOp mulSD (gC (.str "1")) (gC (.int 17))) (gCons (gOp addD (gOp mulSD (gC (.str "0")) (gC (.int 16))) (gC (.str "*"))) (gCons (gOp addD (gOp mulSD (gC (.str "0")) (gC (.int 15))) (gC (.str "*"))) (gCons (gC (.str " *")) (gCons (gC (.str "* ")) gNil))))))))))))))) (sSeq (sSet 1 (gOp addD (gVar 1) (gLst (gCons (gC (.str "*0")) (gCons (gC (.str "0*1")) (gCons (gC (.str "2*")) (gCons (gC (.str "o1*")) (gCons (gC (.str "1 *")) (gCons (gC (.str "1**")) (gCons (gC (.str "0.0")) (gCons (gC (.str "255.255")) (gCons (gC (.str "256.0")) (gCons (gC (.str "0.256")) (gCons (gC (.str "00.1")) (gCons (gC (.str "0.01")) (gCons (gC (.str ".1")) gNil)))))))))))))))) (sSeq (sSet 1 (gOp addD (gVar 1) (gLst (gCons (gC (.str "1.")) (gCons (gC (.str ".")) (gCons (gC (.str "1")) (gCons (gC (.str "1.2.3")) (gCons (gC (.str "-1.0")) (gCons (gC (.str "+1.0")) (gCons (gC (.str " 1.0")) (gCons (gC (.str "1.0 ")) (gCons (gC (.str "1 .0")) (gCons (gC (.str "1,0")) (gCons (gC (.str "1.0*")) (gCons (gC (.str "999.1")) (gCons (gC (.str "1.999")) gNil)))))))))))))))) (sSeq (sSet 1 (gOp addD (gVar 1) (gLst (gCons (gC (.str "1000.1")) (gCons (gC (.str "0.1000")) gNil))))) (sRet (gOp ixD (gOp addD (gVar 1) (gLst (gCons (gC (.str "1.0\n")) (gCons (gC (.str "a.b")) (gCons (gC (.str "0x1.0")) (gCons (gC (.str "1e1.0")) (gCons (gC (.str "..")) (gCons (gC (.str "1..2")) (gCons (gC (.str "01*\n")) gNil))))))))) (gOp modD (gVar 0) (gC (.int 48)))))))))
noncomputable def d_l_number : FDen := runD 1 3 (sSeq (sSet 1 (gC (.int 0))) (sSeq (sFor (gSeq (gVar 0)) (bName 2) (sSet 1 (gOp addD (gOp mulD (gC (.int 2)) (gVar 1)) (gVar 2)))) (sRet (gVar 1))))
noncomputable def d_l_beginning : FDen := runD 2 5 (sSeq (sSet 2 (gCall d_l_stream (gCons (gVar 0) (gCons (gC (.int 4)) gNil)))) (sSeq (sSet 3 (gSl (gCall d_l_bits (gCons (gVar 1) (gCons (gC (.int 16)) gNil))) gNoPart (gPart (gOp modD (gOp ixD (gVar 2) (gC (.int 0))) (gC (.int 17)))))) (sSeq (sIf (gAndT (gT (gOp (eqD false) (gOp modD (gOp ixD (gVar 2) (gC (.int 1))) (gC (.int 4))) (gC (.int 1)))) (gT (gOp (eqD true) (gVar 3) (gLst gNil)))) (sSeq (sSet 4 (gOp ixD (gLst (gCons (gOp subD (gCB lenD (gCons (gVar 3) gNil)) (gC (.int 1))) (gCons (gOp modD (gOp ixD (gVar 2) (gC (.int 2))) (gCB lenD (gCons (gVar 3) gNil))) gNil))) (gOp modD (gOp divD (gOp ixD (gVar 2) (gC (.int 1))) (gC (.int 4))) (gC (.int 2))))) (sSet 3 (gOp addD (gOp addD (gSl (gVar 3) gNoPart (gPart (gVar 4))) (gLst (gCons (gOp subD (gC (.int 1)) (gOp ixD (gVar 3) (gVar 4))) gNil))) (gSl (gVar 3) (gPart (gOp addD (gVar 4) (gC (.int 1)))) gNoPart)))) sNext) (sSeq (sIf (gT (gOp (eqD false) (gOp modD (gOp ixD (gVar 2) (gC (.int 1))) (gC (.int 4))) (gC (.int 2)))) (sSet 3 (gOp addD (gSl (gVar 3) gNoPart (gPart (gOp modD (gOp ixD (gVar 2) (gC (.int 2))) (gOp addD (gCB lenD (gCons (gVar 3) gNil)) (gC (.int 1)))))) (gSl (gCall d_l_bits (gCons (gOp ixD (gVar 2) (gC (.int 3))) (gCons (gOp subD (gC (.int 16)) (gOp modD (gOp ixD (gVar 2) (gC (.int 0))) (gC (.int 17)))) gNil))) gNoPart (gPart (gOp modD (gOp ixD (gVar 2) (gC (.int 0))) (gC (.int 5))))))) sNext) (sSeq (sIf (gT (gOp (eqD false) (gOp modD (gOp ixD (gVar 2) (gC (.int 1))) (gC (.int 16))) (gC (.int 3)))) (sSet 3 (gOp mulD (gLst (gCons (gOp ixD (gLst (gCons (gC (.int 0)) (gCons (gC (.int 1)) gNil))) (gOp modD (gOp ixD (gVar 2) (gC (.int 2))) (gC (.int 2)))) gNil)) (gCB lenD (gCons (gVar 3) gNil)))) sNext) (sRet (gTup (gCons (gCall d_l_number (gCons (gVar 3) gNil)) (gCons (gCB lenD (gCons (gVar 3) gNil)) gNil)))))))))
noncomputable def d_l_address : FDen := runD 2 5 (sSeq (sSet 2 (gCall d_l_stream (gCons (gVar 0) (gCons (gC (.int 3)) gNil)))) (sSeq (sIf (gT (gOp (eqD false) (gOp modD (gOp ixD (gVar 2) (gC (.int 0))) (gC (.int 4))) (gC (.int 0)))) (sRet (gOp modD (gOp ixD (gVar 2) (gC (.int 1))) (gC (.int 65536)))) sNext) (sSeq (sIf (gT (gOp (eqD false) (gOp modD (gOp ixD (gVar 2) (gC (.int 0))) (gC (.int 8))) (gC (.int 1)))) (sRet (gOp ixD (gLst (gCons (gC (.int 0)) (gCons (gC (.int 65535)) (gCons (gC (.int 32768)) (gCons (gC (.int 32767)) gNil))))) (gOp modD (gOp ixD (gVar 2) (gC (.int 1))) (gC (.int 4))))) sNext) (sSeq (sSet 3 (gCall d_l_bits (gCons (gVar 1) (gCons (gC (.int 16)) gNil)))) (sSeq (sSet 4 (gOp modD (gOp ixD (gVar 2) (gC (.int 1))) (gC (.int 17)))) (sRet (gCall d_l_number (gCons (gOp addD (gOp addD (gSl (gVar 3) gNoPart (gPart (gVar 4))) (gComp [none] (gSeq (gSl (gVar 3) (gPart (gVar 4)) (gPart (gOp addD (gVar 4) (gC (.int 1)))))) (bName 0) gTrue (gOp subD (gC (.int 1)) (gVar 0)))) (gSl (gCall d_l_bits (gCons (gOp ixD (gVar 2) (gC (.int 2))) (gCons (gC (.int 16)) gNil))) gNoPart (gPart (gCB max2D (gCons (gC (.int 0)) (gCons (gOp subD (gC (.int 15)) (gVar 4)) gNil)))))) gNil))))))))
noncomputable def d_l_sign_by : FDen := runD 1 2 (sSeq (sSet 1 (gC (.str " !\"#$&'()*+,-./0123456789:;<=>?@ABCDEFGHIJKLMNOPQRSTUVWXYZ[\\]^_`"))) (sSeq (sSet 1 (gOp addD (gVar 1) (gC (.str "abcdefghijklmnopqrstuvwxyz{|}~\t\n")))) (sRet (gOp ixD (gLst (gCons (gOp ixD (gVar 1) (gOp modD (gVar 0) (gCB lenD (gCons (gVar 1) gNil)))) (gCons (gOp ixD (gC (.str "01.*")) (gOp modD (gVar 0) (gC (.int 4)))) (gCons (gOp ixD (gC (.str "0123456789")) (gOp modD (gVar 0) (gC (.int 10)))) gNil)))) (gOp modD (gOp divD (gVar 0) (gC (.int 100))) (gC (.int 3)))))))
noncomputable def d_l_spoilt : FDen := runD 2 5 (sSeq (sSet 2 (gCall d_l_stream (gCons (gVar 0) (gCons (gC (.int 3)) gNil)))) (sSeq (sSet 3 (gOp modD (gOp ixD (gVar 2) (gC (.int 1))) (gOp addD (gCB lenD (gCons (gVar 1) gNil)) (gC (.int 1))))) (sSeq (sSet 4 (gCall d_l_sign_by (gCons (gOp ixD (gVar 2) (gC (.int 2))) gNil))) (sSeq (sIf (gT (gOp (eqD false) (gOp modD (gOp ixD (gVar 2) (gC (.int 0))) (gC (.int 4))) (gC (.int 0)))) (sRet (gOp addD (gSlS (gVar 1) gNoPart (gPart (gVar 3))) (gSlS (gVar 1) (gPart (gOp addD (gVar 3) (gC (.int 1)))) gNoPart))) sNext) (sSeq (sIf (gT (gOp (eqD false) (gOp modD (gOp ixD (gVar 2) (gC (.int 0))) (gC (.int 4))) (gC (.int 1)))) (sRet (gOp addD (gOp addD (gSlS (gVar 1) gNoPart (gPart (gVar 3))) (gVar 4)) (gSlS (gVar 1) (gPart (gVar 3)) gNoPart))) sNext) (sSeq (sIf (gT (gOp (eqD false) (gOp modD (gOp ixD (gVar 2) (gC (.int 0))) (gC (.int 4))) (gC (.int 2)))) (sRet (gOp addD (gOp addD (gSlS (gVar 1) gNoPart (gPart (gVar 3))) (gVar 4)) (gSlS (gVar 1) (gPart (gOp addD (gVar 3) (gC (.int 1)))) gNoPart))) sNext) (sRet (gOp addD (gOp addD (gSlS (gVar 1) gNoPart (gPart (gVar 3))) (gSlS (gVar 1) (gPart (gVar 3)) (gPart (gOp addD (gVar 3) (gC (.int 1)))))) (gSlS (gVar 1) (gPart (gVar 3)) gNoPart)))))))))
noncomputable def d_are_figures : FDen := runD 2 2 (sSeq (sIf (gOrT (gT (gOp ltD (gCB lenD (gCons (gVar 0) gNil)) (gC (.int 1)))) (gT (gOp gtD (gCB lenD (gCons (gVar 0) gNil)) (gVar 1)))) (sRet (gC (.bl false))) sNext) (sRet (gAndV (gCB allD (gCons (gComp [none] (gTx (gVar 0)) (bName 0) gTrue (gOp (inSD false) (gVar 0) (gC (.str "0123456789")))) gNil)) (gOp (eqD false) (gCB str1D (gCons (gCB int1S (gCons (gVar 0) gNil)) gNil)) (gVar 0)))))
noncomputable def d_is_eight_bits : FDen := runD 1 1 (sRet (gAndV (gCall d_are_figures (gCons (gVar 0) (gCons (gC (.int 3)) gNil))) (gOp leD (gCB int1S (gCons (gVar 0) gNil)) (gC (.int 255)))))
noncomputable def d_read_address : FDen := runD 1 2 (sSeq (sSet 1 (gOp splD (gVar 0) (gC (.str ".")))) (sSeq (sIf (gOrT (gT (gOp (eqD true) (gCB lenD (gCons (gVar 1) gNil)) (gC (.int 2)))) (gNotT (gT (gCB allD (gCons (gComp [none] (gSeq (gVar 1)) (bName 0) gTrue (gCall d_is_eight_bits (gCons (gVar 0) gNil))) gNil))))) sNever sNext) (sRet (gOp addD (gOp mulD (gCB int1S (gCons (gOp ixD (gVar 1) (gC (.int 0))) gNil)) (gC (.int 256))) (gCB int1S (gCons (gOp ixD (gVar 1) (gC (.int 1))) gNil))))))
noncomputable def r_read_address : XFDen := runR 1 2 (rThen (sSet 1 (gOp splD (gVar 0) (gC (.str ".")))) (rIf (gOrT (gT (gOp (eqD true) (gCB lenD (gCons (gVar 1) gNil)) (gC (.int 2)))) (gNotT (gT (gCB allD (gCons (gComp [none] (gSeq (gVar 1)) (bName 0) gTrue (gCall d_is_eight_bits (gCons (gVar 0) gNil))) gNil))))) (rRaiseV "BadText" (pFrs (gVar 0))) rNever))
noncomputable def d_read_beginning : FDen := runD 1 5 (sSeq (sSet 1 (gOp endsD (gVar 0) (gC (.str "*")))) (sSeq (sSet 2 (gIf (gT (gVar 1)) (gSlS (gVar 0) gNoPart (gPart (gNeg (gC (.int 1))))) (gVar 0))) (sSeq (sIf (gOrT (gT (gOp (eqD false) (gVar 1) (gOp (eqD false) (gCB lenD (gCons (gVar 2) gNil)) (gC (.int 16))))) (gT (gOp gtD (gCB lenD (gCons (gVar 2) gNil)) (gC (.int 16))))) sNever sNext) (sSeq (sSet 3 (gC (.int 0))) (sSeq (sFor (gTx (gVar 2)) (bName 4) (sSeq (sIf (gT (gOp (inSD true) (gVar 4) (gC (.str "01")))) sNever sNext) (sSet 3 (gOp addD (gOp mulD (gVar 3) (gC (.int 2))) (gIf (gT (gOp (eqD false) (gVar 4) (gC (.str "1")))) (gC (.int 1)) (gC (.int 0))))))) (sRet (gTup (gCons (gVar 3) (gCons (gCB lenD (gCons (gVar 2) gNil)) gNil)))))))))
noncomputable def r_read_beginning : XFDen := runR 1 5 (rThen (sSet 1 (gOp endsD (gVar 0) (gC (.str "*")))) (rThen (sSet 2 (gIf (gT (gVar 1)) (gSlS (gVar 0) gNoPart (gPart (gNeg (gC (.int 1))))) (gVar 0))) (rOr (rIf (gOrT (gT (gOp (eqD false) (gVar 1) (gOp (eqD false) (gCB lenD (gCons (gVar 2) gNil)) (gC (.int 16))))) (gT (gOp gtD (gCB lenD (gCons (gVar 2) gNil)) (gC (.int 16))))) (rRaiseV "BadText" (pFrs (gVar 0))) rNever) (rThen (sIf (gOrT (gT (gOp (eqD false) (gVar 1) (gOp (eqD false) (gCB lenD (gCons (gVar 2) gNil)) (gC (.int 16))))) (gT (gOp gtD (gCB lenD (gCons (gVar 2) gNil)) (gC (.int 16))))) sNever sNext) (rThen (sSet 3 (gC (.int 0))) (rFor (gTx (gVar 2)) (bName 4) (sSeq (sIf (gT (gOp (inSD true) (gVar 4) (gC (.str "01")))) sNever sNext) (sSet 3 (gOp addD (gOp mulD (gVar 3) (gC (.int 2))) (gIf (gT (gOp (eqD false) (gVar 4) (gC (.str "1")))) (gC (.int 1)) (gC (.int 0)))))) (rIf (gT (gOp (inSD true) (gVar 4) (gC (.str "01")))) (rRaiseV "BadText" (pFrs (gVar 0))) rNever)))))))
noncomputable def d_l_told : FDen := runD 2 3 (sTry (sSeq (sIf (gT (gOp (eqD false) (gVar 0) (gC (.int 0)))) (sRet (gCall d_read_beginning (gCons (gVar 1) gNil))) sNext) (sRet (gCall d_read_address (gCons (gVar 1) gNil)))) (rOr (rIf (gT (gOp (eqD false) (gVar 0) (gC (.int 0)))) (rE (rCall r_read_beginning (gCons (gVar 1) gNil))) rNever) (rThen (sIf (gT (gOp (eqD false) (gVar 0) (gC (.int 0)))) (sRet (gCall d_read_beginning (gCons (gVar 1) gNil))) sNext) (rE (rCall r_read_address (gCons (gVar 1) gNil))))) 2 tcf_PostError (sSeq (sIf (gT (gIsX xt_0 (gVar 2))) (sRet (gC (.str "other"))) sNext) (sRet (gOp ixD (gLst (gCons (gC .non) (gCons (gC (.str "other")) gNil))) (gCB int1D (gCons (gOrV (gNotV (gIsX xt_1 (gVar 2))) (gNotV (gIsX xt_2 (gVar 2)))) gNil))))))
noncomputable def d_l_bits_of : FDen := runD 1 2 (sSeq (sSet 1 (gVar 0)) (sSeq (sIf (gT (gOp (eqD false) (gSlS (gVar 0) (gPart (gNeg (gC (.int 1)))) gNoPart) (gC (.str "*")))) (sSet 1 (gSlS (gVar 0) gNoPart (gPart (gNeg (gC (.int 1)))))) sNext) (sSeq (sIf (gT (gOp (eqD true) (gComp [none] (gTx (gVar 1)) (bName 0) (gT (gOp (inLD true) (gVar 0) (gTup (gCons (gC (.str "0")) (gCons (gC (.str "1")) gNil))))) (gVar 0)) (gLst gNil))) (sRet (gC .non)) sNext) (sSeq (sIf (gOrT (gAndT (gT (gOp (eqD false) (gVar 1) (gVar 0))) (gT (gOp (eqD true) (gCB lenD (gCons (gVar 1) gNil)) (gC (.int 16))))) (gAndT (gT (gOp (eqD true) (gVar 1) (gVar 0))) (gT (gOp gtD (gCB lenD (gCons (gVar 1) gNil)) (gC (.int 15)))))) (sRet (gC .non)) sNext) (sRet (gTup (gCons (gCall d_l_number (gCons (gComp [none] (gTx (gVar 1)) (bName 0) gTrue (gCB int1D (gCons (gOp (eqD false) (gVar 0) (gC (.str "1"))) gNil))) gNil)) (gCons (gCB lenD (gCons (gVar 1) gNil)) gNil))))))))
noncomputable def d_l_half : FDen := runD 1 1 (sSeq (sIf (gT (gOp (inLD true) (gVar 0) (gComp [none] (gRng rng1 (gCons (gC (.int 256)) gNil)) (bName 0) gTrue (gCB str1D (gCons (gVar 0) gNil))))) (sRet (gC .non)) sNext) (sRet (gCB int1S (gCons (gVar 0) gNil))))
noncomputable def d_l_address_of : FDen := runD 1 3 (sSeq (sSet 1 (gOp splD (gVar 0) (gC (.str ".")))) (sSeq (sSet 2 (gComp [none] (gSeq (gVar 1)) (bName 0) gTrue (gCall d_l_half (gCons (gVar 0) gNil)))) (sSeq (sIf (gOrT (gT (gOp (eqD true) (gCB lenD (gCons (gVar 1) gNil)) (gC (.int 2)))) (gT (gOp (inLD false) (gC .non) (gVar 2)))) (sRet (gC .non)) sNext) (sRet (gOp addD (gOp mulD (gC (.int 256)) (gOp ixD (gVar 2) (gC (.int 0)))) (gOp ixD (gVar 2) (gC (.int 1))))))))
noncomputable def d_law : FDen := runD 1 7 (sSeq (sSet 1 (gOp modD (gOp ixD (gCall d_l_stream (gCons (gCall d_l_cell_at (gCons (gVar 0) (gCons (gC (.int 0)) gNil))) (gCons (gC (.int 1)) gNil))) (gC (.int 0))) (gC (.int 65536)))) (sSeq (sSet 2 (gCall d_l_stream (gCons (gCall d_l_cell_at (gCons (gVar 0) (gCons (gC (.int 3)) gNil))) (gCons (gC (.int 4)) gNil)))) (sSeq (sOwn 3 (gCons (gCall d_l_shown (gCons (gCall d_l_beginning (gCons (gCall d_l_cell_at (gCons (gVar 0) (gCons (gC (.int 1)) gNil))) (gCons (gVar 1) gNil))) gNil)) gNil)) (sSeq (sApp 3 (gCall d_l_address_text (gCons (gCall d_l_address (gCons (gCall d_l_cell_at (gCons (gVar 0) (gCons (gC (.int 2)) gNil))) (gCons (gVar 1) gNil))) gNil))) (sSeq (sOwn 4 (gCons (gLIx (gO 3) (gC (.int 0))) (gCons (gLIx (gO 3) (gC (.int 1))) (gCons (gCall d_l_odd (gCons (gOp ixD (gVar 2) (gC (.int 0))) gNil)) gNil)))) (sSeq (sFor (gRng rng1 (gCons (gC (.int 2)) gNil)) (bName 5) (sSeq (sApp 4 (gCall d_l_spoilt (gCons (gOp addD (gOp ixD (gVar 2) (gC (.int 1))) (gVar 5)) (gCons (gLIx (gO 3) (gVar 5)) gNil)))) (sApp 4 (gCall d_l_spoilt (gCons (gOp addD (gOp ixD (gVar 2) (gC (.int 2))) (gVar 5)) (gCons (gLIx (gO 4) (gNeg (gC (.int 1)))) gNil)))))) (sGhost (frz 4) (sSeq (sFor (gSeq (gVar 4)) (bName 6) (sIf (gOrT (gT (gOp (eqD true) (gCall d_l_told (gCons (gC (.int 0)) (gCons (gVar 6) gNil))) (gCall d_l_bits_of (gCons (gVar 6) gNil)))) (gT (gOp (eqD true) (gCall d_l_told (gCons (gC (.int 1)) (gCons (gVar 6) gNil))) (gCall d_l_address_of (gCons (gVar 6) gNil))))) (sRet (gC (.bl false))) sNext)) (sRet (gC (.bl true)))))))))))
end Law

namespace Law
open PySem DL
/-! ### the draws -/
def strmL : List Int → Int → List Int
  | [], _ => []
  | k :: ks, n => (n * n + 48271 * n + k) % 2147483647 :: strmL ks ((n * n + 48271 * n + k) % 2147483647)
theorem strmL_length : ∀ (ks : List Int) (n : Int), (strmL ks n).length = ks.length
  | [], _ => rfl
  | k :: ks, n => by simp [strmL, strmL_length ks]
theorem strmL_bd : ∀ (ks : List Int) (n : Int), ∀ x ∈ strmL ks n, 0 ≤ x ∧ x < 2147483647
  | [], _, x, h => by simp [strmL] at h
  | k :: ks, n, x, h => by
    simp only [strmL, List.mem_cons] at h
    rcases h with rfl | h
    · exact ⟨Int.emod_nonneg _ (by decide), Int.emod_lt_of_pos _ (by decide)⟩
    · exact strmL_bd ks _ x h
theorem strm_loop (ks : List Int) : ∀ (c m n : Int) (fs : List Int) (x : Sl) (Ω : List OS), fs.length + ks.length ≤ 1000 → -3000000000 < n → n < 3000000000 → ∃ (z : Int) (y : Sl),
    forD (bName 4) (sSeq (sSet 3 (gOp modD (gOp addD (gOp addD (gOp mulD (gVar 3) (gVar 3)) (gOp mulD (gC (.int 48271)) (gVar 3))) (gVar 4)) (gC (.int 2147483647)))) (sApp 2 (gVar 3))) (ks.map D.int) [.dat (.int c), .dat (.int m), .own (fs.map D.int), .dat (.int n), x] Ω
      = some (.nx [.dat (.int c), .dat (.int m), .own ((fs ++ strmL ks n).map D.int), .dat (.int z), y] Ω) := by
  induction ks with
  | nil => intro c m n fs x Ω _ _ _; exact ⟨n, x, by simp [strmL]⟩
  | cons k ks ih =>
    intro c m n fs x Ω hl h0 h1
    simp only [List.length_cons] at hl
    have b0 : 0 ≤ (n * n + 48271 * n + k) % 2147483647 := Int.emod_nonneg _ (by decide)
    have b1 : (n * n + 48271 * n + k) % 2147483647 < 2147483647 := Int.emod_lt_of_pos _ (by decide)
    obtain ⟨z, y, h⟩ := ih c m ((n * n + 48271 * n + k) % 2147483647) (fs ++ [(n * n + 48271 * n + k) % 2147483647]) (.dat (.int k)) Ω (by simp; omega) (by omega) (by omega)
    refine ⟨z, y, ?_⟩
    have e : fs ++ strmL (k :: ks) n = fs ++ [(n * n + 48271 * n + k) % 2147483647] ++ strmL ks ((n * n + 48271 * n + k) % 2147483647) := by simp [strmL]
    have m1 : mulD (.int n) (.int n) = some (.int (n * n)) := mul_i (.inl ⟨by omega, by omega⟩)
    have m2 : mulD (.int 48271) (.int n) = some (.int (48271 * n)) := mul_i (.inl ⟨by decide, by decide⟩)
    have hb : fs.length < 100000 := by omega
    rw [e, ← h, List.map_cons, for_cons]
    simp [m1, m2, hb]
theorem upD_ints (lo : Int) (n : Nat) : upD lo n = ((List.range n).map fun (k : Nat) => lo + (k : Int)).map D.int := by simp [upD]
theorem strm_den (c : Int) (m : Nat) (hm : m ≤ 900) (Ω : List OS) : ∃ xs : List Int, xs.length = m ∧ (∀ x ∈ xs, 0 ≤ x ∧ x < 2147483647) ∧ d_l_stream [.int c, .int m] Ω = some (.lst (xs.map D.int), Ω) := by
  have b0 : 0 ≤ c % 2147483647 := Int.emod_nonneg _ (by decide)
  have b1 : c % 2147483647 < 2147483647 := Int.emod_lt_of_pos _ (by decide)
  have et : ((m : Int) + 1).toNat = m + 1 := by omega
  have e1 : rng1 [.int ((m : Int) + 1)] = some (upD 0 (m + 1)) := by
    rw [rng_1 (by omega) (by omega), et]
  have eu := upD_ints 0 (m + 1)
  have el : ((List.range (m + 1)).map fun (k : Nat) => 0 + (k : Int)).length = m + 1 := by simp
  generalize ((List.range (m + 1)).map fun (k : Nat) => 0 + (k : Int)) = ks at eu el
  obtain ⟨z, y, h⟩ := strm_loop ks c m (c % 2147483647 + 48271) [] .und Ω (by rw [el, List.length_nil]; omega) (by omega) (by omega)
  have e2 : cutL (strmL ks (c % 2147483647 + 48271)) (some 1) none = (strmL ks (c % 2147483647 + 48271)).drop 1 := cut_from _ 1
  refine ⟨(strmL ks (c % 2147483647 + 48271)).drop 1, by rw [List.length_drop, strmL_length, el]; rfl, fun x hx => strmL_bd _ _ x (List.mem_of_mem_drop hx), ?_⟩
  rw [List.map_nil, List.nil_append, ← eu] at h
  generalize strmL ks (c % 2147483647 + 48271) = xs at h e2 ⊢
  unfold d_l_stream
  rw [ap_run]
  simp only [List.map_cons, List.map_nil, List.length_cons, List.length_nil]
  simp [e1, h, frz, cut_map, e2]
/-! ### bits -/
def bitsL (n : Int) : Nat → List Int
  | 0 => []
  | s + 1 => bitsL (n / 2) s ++ [n % 2]
@[simp] theorem bitsL_length (n : Int) (s : Nat) : (bitsL n s).length = s := by
  induction s generalizing n with
  | zero => rfl
  | succ s ih => simp [bitsL, ih]
theorem bits_loop (l : List D) : ∀ (n m : Int) (fs : List Int) (x : Sl) (Ω : List OS), fs.length + l.length ≤ 1000 → ∃ (z : Int) (y : Sl),
    forD (bName 3) (sSeq (sSet 2 (gOp addD (gLst (gCons (gOp modD (gVar 0) (gC (.int 2))) gNil)) (gVar 2))) (sSet 0 (gOp divD (gVar 0) (gC (.int 2))))) l [.dat (.int n), .dat (.int m), .dat (.lst (fs.map D.int)), x] Ω
      = some (.nx [.dat (.int z), .dat (.int m), .dat (.lst ((bitsL n l.length ++ fs).map D.int)), y] Ω) := by
  induction l with
  | nil => intro n m fs x Ω _; exact ⟨n, x, rfl⟩
  | cons d l ih =>
    intro n m fs x Ω hl
    simp only [List.length_cons] at hl
    obtain ⟨z, y, h⟩ := ih (n / 2) m (n % 2 :: fs) (.dat d) Ω (by simp only [List.length_cons]; omega)
    refine ⟨z, y, ?_⟩
    have e : bitsL n (l.length + 1) ++ fs = bitsL (n / 2) l.length ++ (n % 2 :: fs) := by simp [bitsL]
    rw [List.length_cons, e, ← h, for_cons]
    have hb : 1 + fs.length ≤ 100000 := by omega
    simp [hb]
theorem bits_den (n : Int) (s : Nat) (hs : s ≤ 900) (Ω : List OS) : d_l_bits [.int n, .int s] Ω = some (.lst ((bitsL n s).map D.int), Ω) := by
  obtain ⟨z, y, h⟩ := bits_loop (upD 0 s) n s [] .und Ω (by simp; omega)
  have e1 : rng1 [.int (s : Int)] = some (upD 0 s) := by
    rw [rng_1 (by omega) (by omega), Int.toNat_natCast]
  rw [upD_length, List.append_nil, List.map_nil] at h
  unfold d_l_bits
  rw [ap_run]
  simp only [List.map_cons, List.map_nil, List.length_cons, List.length_nil]
  simp [e1, h]
/-! ### numbers -/
def numL (bs : List Int) : Int := bs.foldl (fun a b => 2 * a + b) 0
theorem num_loop (bs : List Int) : ∀ (a : Int) (x0 x : Sl) (Ω : List OS), ∃ y : Sl,
    forD (bName 2) (sSet 1 (gOp addD (gOp mulD (gC (.int 2)) (gVar 1)) (gVar 2))) (bs.map D.int) [x0, .dat (.int a), x] Ω = some (.nx [x0, .dat (.int (bs.foldl (fun a b => 2 * a + b) a)), y] Ω) := by
  induction bs with
  | nil => intro a x0 x Ω; exact ⟨x, rfl⟩
  | cons b bs ih =>
    intro a x0 x Ω
    obtain ⟨y, h⟩ := ih (2 * a + b) x0 (.dat (.int b)) Ω
    refine ⟨y, ?_⟩
    have m2 : mulD (.int 2) (.int a) = some (.int (2 * a)) := mul_i (.inl ⟨by decide, by decide⟩)
    rw [List.foldl_cons, ← h, List.map_cons, for_cons]
    simp [m2]
theorem num_den (bs : List Int) (Ω : List OS) : d_l_number [.lst (bs.map D.int)] Ω = some (.int (numL bs), Ω) := by
  obtain ⟨y, h⟩ := num_loop bs 0 (.dat (.lst (bs.map D.int))) .und Ω
  unfold d_l_number
  rw [ap_run]
  simp only [List.map_cons, List.map_nil, List.length_cons, List.length_nil]
  simp [h, numL]
end Law
namespace Law
open PySem DL
@[simp] theorem atI_0 {β : Type} (a : β) (l : List β) : L2.atI (a :: l) 0 = some a := by
  have := atI_nat' (a :: l) 0 (by simp)
  simpa using this
@[simp] theorem atI_1 {β : Type} (a b : β) (l : List β) : L2.atI (a :: b :: l) 1 = some b := by
  have := atI_nat' (a :: b :: l) 1 (by simp)
  simpa using this
@[simp] theorem atI_2 {β : Type} (a b c : β) (l : List β) : L2.atI (a :: b :: c :: l) 2 = some c := by
  have := atI_nat' (a :: b :: c :: l) 2 (by simp)
  simpa using this
@[simp] theorem atI_3 {β : Type} (a b c d : β) (l : List β) : L2.atI (a :: b :: c :: d :: l) 3 = some d := by
  have := atI_nat' (a :: b :: c :: d :: l) 3 (by simp)
  simpa using this
/-- bits -/
structure B (bs : List Int) : Prop where
  len : bs.length ≤ 16
  bit : ∀ b ∈ bs, b = 0 ∨ b = 1
theorem bitsL_bit (n : Int) (s : Nat) : ∀ b ∈ bitsL n s, b = 0 ∨ b = 1 := by
  induction s generalizing n with
  | zero => intro b h; simp [bitsL] at h
  | succ s ih =>
    intro b h
    simp only [bitsL, List.mem_append, List.mem_singleton] at h
    rcases h with h | h
    · exact ih _ b h
    · omega
theorem B.take {bs : List Int} (h : B bs) (k : Nat) : B (bs.take k) := ⟨by have := h.len; rw [List.length_take]; omega, fun b hb => h.bit b (List.mem_of_mem_take hb)⟩
theorem bitsL_B (n : Int) {s : Nat} (h : s ≤ 16) : B (bitsL n s) := ⟨by simp [h], bitsL_bit n s⟩
theorem B.flip {bs : List Int} (h : B bs) {a : Nat} (ha : a < bs.length) : B (bs.take a ++ [1 - bs[a]] ++ bs.drop (a + 1)) := by
  refine ⟨?_, fun b hb => ?_⟩
  · have := h.len
    simp only [List.length_append, List.length_take, List.length_drop, List.length_singleton]
    omega
  · simp only [List.mem_append, List.mem_singleton] at hb
    rcases hb with (hb | hb) | hb
    · exact h.bit b (List.mem_of_mem_take hb)
    · have := h.bit bs[a] (List.getElem_mem ha)
      omega
    · exact h.bit b (List.mem_of_mem_drop hb)
noncomputable def gAt : Den := gOp ixD (gLst (gCons (gOp subD (gCB lenD (gCons (gVar 3) gNil)) (gC (.int 1))) (gCons (gOp modD (gOp ixD (gVar 2) (gC (.int 2))) (gCB lenD (gCons (gVar 3) gNil))) gNil))) (gOp modD (gOp divD (gOp ixD (gVar 2) (gC (.int 1))) (gC (.int 4))) (gC (.int 2)))
theorem at_den (X0 X1 y : Sl) (x0 x1 x2 x3 : Int) (bs : List Int) (hne : bs ≠ []) (Ω : List OS) : ∃ a : Nat, a < bs.length ∧ gAt [X0, X1, .dat (.lst ([x0, x1, x2, x3].map D.int)), .dat (.lst (bs.map D.int)), y] Ω = some (.int a, Ω) := by
  have hL : 0 < bs.length := List.length_pos_iff.mpr hne
  have hL' : (0 : Int) < bs.length := by omega
  rcases (by omega : x1 / 4 % 2 = 0 ∨ x1 / 4 % 2 = 1) with h | h
  · refine ⟨bs.length - 1, by omega, ?_⟩
    unfold gAt
    simp [h, hL]
    omega
  · refine ⟨(x2 % bs.length).toNat, ?_, ?_⟩
    · have := Int.emod_lt_of_pos x2 hL'
      have := Int.emod_nonneg x2 (by omega : (bs.length : Int) ≠ 0)
      omega
    · have := Int.emod_nonneg x2 (by omega : (bs.length : Int) ≠ 0)
      unfold gAt
      simp [h, hL]
      omega
theorem st1 (X0 X1 y : Sl) (x0 x1 x2 x3 : Int) (bs : List Int) (hB : B bs) (Ω : List OS) : ∃ (bs' : List Int) (y' : Sl), B bs' ∧ bs'.length = bs.length ∧
    sIf (gAndT (gT (gOp (eqD false) (gOp modD (gOp ixD (gVar 2) (gC (.int 1))) (gC (.int 4))) (gC (.int 1)))) (gT (gOp (eqD true) (gVar 3) (gLst gNil)))) (sSeq (sSet 4 gAt) (sSet 3 (gOp addD (gOp addD (gSl (gVar 3) gNoPart (gPart (gVar 4))) (gLst (gCons (gOp subD (gC (.int 1)) (gOp ixD (gVar 3) (gVar 4))) gNil))) (gSl (gVar 3) (gPart (gOp addD (gVar 4) (gC (.int 1)))) gNoPart)))) sNext
      [X0, X1, .dat (.lst ([x0, x1, x2, x3].map D.int)), .dat (.lst (bs.map D.int)), y] Ω = some (.nx [X0, X1, .dat (.lst ([x0, x1, x2, x3].map D.int)), .dat (.lst (bs'.map D.int)), y'] Ω) := by
  by_cases h1 : x1 % 4 = 1
  · by_cases h2 : bs = []
    · refine ⟨bs, y, hB, rfl, ?_⟩
      have e : eqD true (.lst []) (.lst []) = some (.bl false) := eq_ints true [] []
      subst h2
      simp [h1, e]
    · obtain ⟨a, ha, e1⟩ := at_den X0 X1 y x0 x1 x2 x3 bs h2 Ω
      have e := eq_ints_nil true bs
      refine ⟨bs.take a ++ [1 - bs[a]] ++ bs.drop (a + 1), .dat (.int a), hB.flip ha, by simp only [List.length_append, List.length_take, List.length_drop, List.length_singleton]; omega, ?_⟩
      have c1 : cutL (bs.map D.int) none (some (a : Int)) = (bs.take a).map D.int := by rw [cut_to, List.map_take]
      have c2 : cutL (bs.map D.int) (some ((a : Int) + 1)) none = (bs.drop (a + 1)).map D.int := by
        have : ((a : Int) + 1) = ((a + 1 : Nat) : Int) := by omega
        rw [this, cut_from, List.map_drop]
      have c3 : L2.atI (bs.map D.int) (a : Int) = some (.int bs[a]) := by rw [atI_map, atI_nat' bs a ha]; rfl
      have l1 := hB.len
      have l2 : min a bs.length ≤ 99999 := by omega
      have l3 : min a bs.length + 1 + (bs.length - (a + 1)) ≤ 100000 := by omega
      simp at e1
      simp [h1, e, h2, e1, c1, c2, c3, l2, l3]
  · refine ⟨bs, y, hB, rfl, ?_⟩
    simp [h1]
theorem st2 (X0 X1 y : Sl) (x0 x1 x2 x3 : Int) (bs : List Int) (hB : B bs) (hl : (bs.length : Int) = x0 % 17) (Ω : List OS) : ∃ (bs' : List Int), B bs' ∧
    sIf (gT (gOp (eqD false) (gOp modD (gOp ixD (gVar 2) (gC (.int 1))) (gC (.int 4))) (gC (.int 2)))) (sSet 3 (gOp addD (gSl (gVar 3) gNoPart (gPart (gOp modD (gOp ixD (gVar 2) (gC (.int 2))) (gOp addD (gCB lenD (gCons (gVar 3) gNil)) (gC (.int 1)))))) (gSl (gCall d_l_bits (gCons (gOp ixD (gVar 2) (gC (.int 3))) (gCons (gOp subD (gC (.int 16)) (gOp modD (gOp ixD (gVar 2) (gC (.int 0))) (gC (.int 17)))) gNil))) gNoPart (gPart (gOp modD (gOp ixD (gVar 2) (gC (.int 0))) (gC (.int 5))))))) sNext
      [X0, X1, .dat (.lst ([x0, x1, x2, x3].map D.int)), .dat (.lst (bs.map D.int)), y] Ω = some (.nx [X0, X1, .dat (.lst ([x0, x1, x2, x3].map D.int)), .dat (.lst (bs'.map D.int)), y] Ω) := by
  by_cases h1 : x1 % 4 = 2
  · have l1 := hB.len
    obtain ⟨k, hk⟩ : ∃ k : Nat, x2 % ((bs.length : Int) + 1) = k := ⟨(x2 % ((bs.length : Int) + 1)).toNat, by
      have := Int.emod_nonneg x2 (by omega : (bs.length : Int) + 1 ≠ 0)
      omega⟩
    obtain ⟨s, hs⟩ : ∃ s : Nat, 16 - x0 % 17 = s := ⟨(16 - x0 % 17).toNat, by omega⟩
    obtain ⟨t, ht⟩ : ∃ t : Nat, x0 % 5 = t := ⟨(x0 % 5).toNat, by omega⟩
    have e1 := bits_den x3 s (by omega) Ω
    have c1 : cutL (bs.map D.int) none (some (k : Int)) = (bs.take k).map D.int := by rw [cut_to, List.map_take]
    have c2 : cutL ((bitsL x3 s).map D.int) none (some (t : Int)) = ((bitsL x3 s).take t).map D.int := by rw [cut_to, List.map_take]
    have p1 : (0 : Int) < (bs.length : Int) + 1 := by omega
    have l2 : min k bs.length + min t s ≤ 100000 := by omega
    refine ⟨bs.take k ++ (bitsL x3 s).take t, ⟨by rw [List.length_append, List.length_take, List.length_take, bitsL_length]; omega, fun b hb => ?_⟩, ?_⟩
    · rcases List.mem_append.mp hb with hb | hb
      · exact hB.bit b (List.mem_of_mem_take hb)
      · exact bitsL_bit _ _ b (List.mem_of_mem_take hb)
    · simp [h1, p1, hk, hs, ht, e1, c1, c2, l2]
  · refine ⟨bs, hB, ?_⟩
    simp [h1]
theorem flat_rep (k : Nat) (b : Int) : (List.replicate k [D.int b]).flatten = (List.replicate k b).map D.int := by
  induction k with
  | zero => rfl
  | succ k ih => simp [List.replicate_succ, ih]
theorem st3 (X0 X1 y : Sl) (x0 x1 x2 x3 : Int) (bs : List Int) (hB : B bs) (Ω : List OS) : ∃ (bs' : List Int), B bs' ∧
    sIf (gT (gOp (eqD false) (gOp modD (gOp ixD (gVar 2) (gC (.int 1))) (gC (.int 16))) (gC (.int 3)))) (sSet 3 (gOp mulD (gLst (gCons (gOp ixD (gLst (gCons (gC (.int 0)) (gCons (gC (.int 1)) gNil))) (gOp modD (gOp ixD (gVar 2) (gC (.int 2))) (gC (.int 2)))) gNil)) (gCB lenD (gCons (gVar 3) gNil)))) sNext
      [X0, X1, .dat (.lst ([x0, x1, x2, x3].map D.int)), .dat (.lst (bs.map D.int)), y] Ω = some (.nx [X0, X1, .dat (.lst ([x0, x1, x2, x3].map D.int)), .dat (.lst (bs'.map D.int)), y] Ω) := by
  by_cases h1 : x1 % 16 = 3
  · have l1 := hB.len
    have key : ∀ b : Int, mulD (.lst [.int b]) (.int (bs.length : Int)) = some (.lst ((List.replicate bs.length b).map D.int)) := fun b => by
      rw [mul_l (by omega) (by omega) (by simp; omega), Int.toNat_natCast, flat_rep]
    have k0 := key 0
    have k1 := key 1
    rcases (by omega : x2 % 2 = 0 ∨ x2 % 2 = 1) with h | h
    · refine ⟨List.replicate bs.length 0, ⟨by simp [l1], fun b hb => .inl (List.eq_of_mem_replicate hb)⟩, ?_⟩
      simp at k0
      simp [h1, h, k0]
    · refine ⟨List.replicate bs.length 1, ⟨by simp [l1], fun b hb => .inr (List.eq_of_mem_replicate hb)⟩, ?_⟩
      simp at k1
      simp [h1, h, k1]
  · refine ⟨bs, hB, ?_⟩
    simp [h1]
theorem beg_den (x base : Int) (Ω : List OS) : ∃ bs : List Int, B bs ∧ d_l_beginning [.int x, .int base] Ω = some (.tup [.int (numL bs), .int bs.length], Ω) := by
  obtain ⟨xs, hl, hb, e0⟩ := strm_den x 4 (by decide) Ω
  obtain ⟨x0, x1, x2, x3, rfl⟩ : ∃ x0 x1 x2 x3, xs = [x0, x1, x2, x3] := by
    match xs, hl with
    | [a, b, c, d], _ => exact ⟨a, b, c, d, rfl⟩
  have e1 := bits_den base 16 (by decide) Ω
  obtain ⟨s, hs⟩ : ∃ s : Nat, x0 % 17 = s := ⟨(x0 % 17).toNat, by omega⟩
  have hs' : s ≤ 16 := by omega
  have c1 : cutL ((bitsL base 16).map D.int) none (some (s : Int)) = ((bitsL base 16).take s).map D.int := by rw [cut_to, List.map_take]
  have B0 : B ((bitsL base 16).take s) := (bitsL_B base (Nat.le_refl 16)).take s
  obtain ⟨b1, y1, B1, len1, q1⟩ := st1 (.dat (.int x)) (.dat (.int base)) .und x0 x1 x2 x3 _ B0 Ω
  have hl1 : (b1.length : Int) = x0 % 17 := by rw [len1, hs, List.length_take, bitsL_length]; omega
  obtain ⟨b2, B2, q2⟩ := st2 (.dat (.int x)) (.dat (.int base)) y1 x0 x1 x2 x3 b1 B1 hl1 Ω
  obtain ⟨b3, B3, q3⟩ := st3 (.dat (.int x)) (.dat (.int base)) y1 x0 x1 x2 x3 b2 B2 Ω
  refine ⟨b3, B3, ?_⟩
  have e4 := num_den b3 Ω
  have e0' : d_l_stream [.int x, .int 4] Ω = some (.lst ([x0, x1, x2, x3].map D.int), Ω) := e0
  have e1' : d_l_bits [.int base, .int 16] Ω = some (.lst ((bitsL base 16).map D.int), Ω) := e1
  unfold gAt at q1
  refine run_rt rfl ?_
  refine (seq_nx (ρ' := [.dat (.int x), .dat (.int base), .dat (.lst ([x0, x1, x2, x3].map D.int)), .und, .und]) (Ω' := Ω) (by simp [e0'])).trans ?_
  refine (seq_nx (ρ' := [.dat (.int x), .dat (.int base), .dat (.lst ([x0, x1, x2, x3].map D.int)), .dat (.lst (((bitsL base 16).take s).map D.int)), .und]) (Ω' := Ω) (by simp [e1', hs, c1])).trans ?_
  refine (seq_nx q1).trans ?_
  refine (seq_nx q2).trans ?_
  refine (seq_nx q3).trans ?_
  simp [e4]
end Law
namespace Law
open PySem DL
theorem fold_num (ys : List Int) : ∀ a : Int, ys.foldl (fun a b => 2 * a + b) a = a * 2 ^ ys.length + numL ys := by
  induction ys with
  | nil => intro a; simp [numL]
  | cons b ys ih =>
    intro a
    have h1 := ih (2 * a + b)
    have h2 := ih (2 * 0 + b)
    show List.foldl (fun a b => 2 * a + b) (2 * a + b) ys = a * 2 ^ (ys.length + 1) + List.foldl (fun a b => 2 * a + b) (2 * 0 + b) ys
    rw [h1, h2]
    generalize numL ys = N
    rw [Int.pow_succ]
    generalize (2 : Int) ^ ys.length = p
    have e1 : (2 * a + b) * p = 2 * (a * p) + b * p := by rw [Int.add_mul, Int.mul_assoc]
    have e2 : (2 * 0 + b) * p = b * p := by simp
    have e3 : a * (p * 2) = 2 * (a * p) := by rw [← Int.mul_assoc, Int.mul_comm]
    rw [e1, e2, e3]
    omega
theorem numL_append (xs ys : List Int) : numL (xs ++ ys) = numL xs * 2 ^ ys.length + numL ys := by
  unfold numL
  rw [List.foldl_append, fold_num]
  rfl
theorem pow_pos2 (n : Nat) : (0 : Int) < 2 ^ n := Int.pow_pos (by decide)
theorem numL_bd : ∀ (bs : List Int), (∀ b ∈ bs, b = 0 ∨ b = 1) → 0 ≤ numL bs ∧ numL bs < 2 ^ bs.length
  | [], _ => by simp [numL]
  | b :: bs, h => by
    have ih := numL_bd bs fun c hc => h c (List.mem_cons_of_mem _ hc)
    have e := numL_append [b] bs
    have e1 : numL [b] = b := by simp [numL]
    rw [List.singleton_append, e1] at e
    rw [e, List.length_cons, Int.pow_succ]
    have p := pow_pos2 bs.length
    rcases h b (List.mem_cons_self) with rfl | rfl
    · simp; omega
    · omega
theorem pow_le16 {n : Nat} (h : n ≤ 16) : (2 : Int) ^ n ≤ 65536 := by
  have h1 : 2 ^ n ≤ 2 ^ 16 := Nat.pow_le_pow_right (by decide) h
  have e : (2 : Int) ^ n = ((2 ^ n : Nat) : Int) := by simp
  rw [e]
  have e2 : (2 : Nat) ^ 16 = 65536 := rfl
  omega
theorem cut_ab {β : Type} (xs : List β) {a b : Nat} (h : a ≤ b) : cutL xs (some (a : Int)) (some (b : Int)) = (xs.drop a).take (b - a) := by
  unfold cutL
  rw [HT.sIx_nat, HT.sIx_nat]
  rcases Nat.le_total a xs.length with h1 | h1
  · rw [Nat.min_eq_left h1]
    rcases Nat.le_total b xs.length with h2 | h2
    · rw [Nat.min_eq_left h2]
    · rw [Nat.min_eq_right h2, List.take_of_length_le (by simp), List.take_of_length_le (by simp; omega)]
  · rw [Nat.min_eq_right h1, List.drop_length, List.drop_eq_nil_of_le h1]; simp
theorem comp_flip (bs : List Int) : ∀ (x : Sl) (Ω : List OS), compD (bName 0) gTrue (gOp subD (gC (.int 1)) (gVar 0)) (bs.map D.int) [x] Ω = some ((bs.map fun b => 1 - b).map D.int, Ω) := by
  induction bs with
  | nil => intro x Ω; rfl
  | cons b bs ih =>
    intro x Ω
    rw [List.map_cons, comp_cons]
    simp [ih]
theorem addr_den (x base : Int) (Ω : List OS) : ∃ a : Int, 0 ≤ a ∧ a ≤ 65535 ∧ d_l_address [.int x, .int base] Ω = some (.int a, Ω) := by
  obtain ⟨xs, hl, hb, e0⟩ := strm_den x 3 (by decide) Ω
  obtain ⟨x0, x1, x2, rfl⟩ : ∃ x0 x1 x2, xs = [x0, x1, x2] := by
    match xs, hl with
    | [a, b, c], _ => exact ⟨a, b, c, rfl⟩
  have e0' : d_l_stream [.int x, .int 3] Ω = some (.lst ([x0, x1, x2].map D.int), Ω) := e0
  have s1 : sSet 2 (gCall d_l_stream (gCons (gVar 0) (gCons (gC (.int 3)) gNil))) [.dat (.int x), .dat (.int base), .und, .und, .und] Ω = some (.nx [.dat (.int x), .dat (.int base), .dat (.lst ([x0, x1, x2].map D.int)), .und, .und] Ω) := by simp [e0']
  by_cases h1 : x0 % 4 = 0
  · refine ⟨x1 % 65536, by omega, by omega, run_rt rfl ((seq_nx s1).trans (seq_rt ?_))⟩
    simp [h1]
  · have s2 : sIf (gT (gOp (eqD false) (gOp modD (gOp ixD (gVar 2) (gC (.int 0))) (gC (.int 4))) (gC (.int 0)))) (sRet (gOp modD (gOp ixD (gVar 2) (gC (.int 1))) (gC (.int 65536)))) sNext [.dat (.int x), .dat (.int base), .dat (.lst ([x0, x1, x2].map D.int)), .und, .und] Ω = some (.nx [.dat (.int x), .dat (.int base), .dat (.lst ([x0, x1, x2].map D.int)), .und, .und] Ω) := by simp [h1]
    by_cases h2 : x0 % 8 = 1
    · have q : ∃ a : Int, 0 ≤ a ∧ a ≤ 65535 ∧ L2.atI [D.int 0, D.int 65535, D.int 32768, D.int 32767] (x1 % 4) = some (.int a) := by
        rcases (by omega : x1 % 4 = 0 ∨ x1 % 4 = 1 ∨ x1 % 4 = 2 ∨ x1 % 4 = 3) with h | h | h | h <;> rw [h]
        · exact ⟨0, by decide, by decide, by simp⟩
        · exact ⟨65535, by decide, by decide, by simp⟩
        · exact ⟨32768, by decide, by decide, by simp⟩
        · exact ⟨32767, by decide, by decide, by simp⟩
      obtain ⟨a, ha, ha', qa⟩ := q
      refine ⟨a, ha, ha', run_rt rfl ((seq_nx s1).trans ((seq_nx s2).trans (seq_rt ?_)))⟩
      simp [h2, qa]
    · have e1 : d_l_bits [.int base, .int 16] Ω = some (.lst ((bitsL base 16).map D.int), Ω) := bits_den base 16 (by decide) Ω
      have e2 : d_l_bits [.int x2, .int 16] Ω = some (.lst ((bitsL x2 16).map D.int), Ω) := bits_den x2 16 (by decide) Ω
      obtain ⟨k, hk⟩ : ∃ k : Nat, x1 % 17 = k := ⟨(x1 % 17).toNat, by omega⟩
      obtain ⟨t, ht⟩ : ∃ t : Nat, (if (15 : Int) - k > 0 then (15 : Int) - k else 0) = t := ⟨15 - k, by split <;> omega⟩
      have hkt : k + t ≤ 16 := by split at ht <;> omega
      have c1 : cutL ((bitsL base 16).map D.int) none (some (k : Int)) = ((bitsL base 16).take k).map D.int := by rw [cut_to, List.map_take]
      have c2 : cutL ((bitsL base 16).map D.int) (some (k : Int)) (some ((k : Int) + 1)) = (((bitsL base 16).drop k).take 1).map D.int := by
        have : ((k : Int) + 1) = ((k + 1 : Nat) : Int) := by omega
        rw [this, cut_map, cut_ab _ (by omega), show k + 1 - k = 1 by omega]
      have c3 : cutL ((bitsL x2 16).map D.int) none (some (t : Int)) = ((bitsL x2 16).take t).map D.int := by rw [cut_to, List.map_take]
      have hB : ∀ b ∈ (bitsL base 16).take k ++ (((bitsL base 16).drop k).take 1).map (fun b => 1 - b) ++ (bitsL x2 16).take t, b = 0 ∨ b = 1 := by
        intro b hb
        rcases List.mem_append.mp hb with hb | hb
        · rcases List.mem_append.mp hb with hb | hb
          · exact bitsL_bit _ _ b (List.mem_of_mem_take hb)
          · obtain ⟨c, hc, rfl⟩ := List.mem_map.mp hb
            have := bitsL_bit _ _ c (List.mem_of_mem_drop (List.mem_of_mem_take hc))
            omega
        · exact bitsL_bit _ _ b (List.mem_of_mem_take hb)
      have hlen : ((bitsL base 16).take k ++ (((bitsL base 16).drop k).take 1).map (fun b => 1 - b) ++ (bitsL x2 16).take t).length ≤ 16 := by
        simp only [List.length_append, List.length_map, List.length_take, List.length_drop, bitsL_length]
        split at ht <;> omega
      have bd := numL_bd _ hB
      have pw : (2 : Int) ^ ((bitsL base 16).take k ++ (((bitsL base 16).drop k).take 1).map (fun b => 1 - b) ++ (bitsL x2 16).take t).length ≤ 65536 := pow_le16 hlen
      have en := num_den ((bitsL base 16).take k ++ (((bitsL base 16).drop k).take 1).map (fun b => 1 - b) ++ (bitsL x2 16).take t) Ω
      have cf := comp_flip (((bitsL base 16).drop k).take 1) .und Ω
      refine ⟨numL ((bitsL base 16).take k ++ (((bitsL base 16).drop k).take 1).map (fun b => 1 - b) ++ (bitsL x2 16).take t), bd.1, by omega, run_rt rfl ((seq_nx s1).trans ((seq_nx s2).trans ?_))⟩
      refine (seq_nx (ρ' := [.dat (.int x), .dat (.int base), .dat (.lst ([x0, x1, x2].map D.int)), .und, .und]) (Ω' := Ω) (by simp [h2])).trans ?_
      refine (seq_nx (ρ' := [.dat (.int x), .dat (.int base), .dat (.lst ([x0, x1, x2].map D.int)), .dat (.lst ((bitsL base 16).map D.int)), .und]) (Ω' := Ω) (by simp [e1])).trans ?_
      refine (seq_nx (ρ' := [.dat (.int x), .dat (.int base), .dat (.lst ([x0, x1, x2].map D.int)), .dat (.lst ((bitsL base 16).map D.int)), .dat (.int k)]) (Ω' := Ω) (by simp [hk])).trans ?_
      generalize (bitsL base 16).take k = A at *
      generalize ((bitsL base 16).drop k).take 1 = Bq at *
      generalize (bitsL x2 16).take t = Cq at *
      simp only [List.length_append, List.length_map] at hlen
      have ht' : (if (k : Int) < 15 then (15 : Int) - k else 0) = t := by split at ht <;> split <;> omega
      have g0 : Bq.length ≤ 100000 := by omega
      have g1 : A.length + Bq.length ≤ 100000 := by omega
      have g2 : A.length + Bq.length + Cq.length ≤ 100000 := by omega
      simp at en cf
      simp [e2, c1, c2, c3, ht', innerD, cf, g0, g1, g2, en]
end Law
namespace Law
open PySem DL
theorem cell_den (ns : List Int) (k : Nat) (Ω : List OS) : ∃ c : Int, d_l_cell_at [.scr ns, .int k] Ω = some (.int c, Ω) := by
  by_cases h : k < ns.length
  · refine ⟨ns[k], run_rt rfl (seq_rt ?_)⟩
    have e := atI_nat' ns k h
    simp [h, e]
  · refine ⟨0, run_rt rfl ((seq_nx (ρ' := [.dat (.scr ns), .dat (.int k)]) (Ω' := Ω) ?_).trans ?_)⟩
    · simp [h]
    · simp
theorem base_den (ns : List Int) (Ω : List OS) : ∃ base : Int, 0 ≤ base ∧ base ≤ 65535 ∧ ∀ ρ : List Sl, ρ[0]? = some (.dat (.scr ns)) → gOp modD (gOp ixD (gCall d_l_stream (gCons (gCall d_l_cell_at (gCons (gVar 0) (gCons (gC (.int 0)) gNil))) (gCons (gC (.int 1)) gNil))) (gC (.int 0))) (gC (.int 65536)) ρ Ω = some (.int base, Ω) := by
  obtain ⟨c, hc⟩ := cell_den ns 0 Ω
  obtain ⟨xs, hl, hb, e0⟩ := strm_den c 1 (by decide) Ω
  obtain ⟨x0, rfl⟩ : ∃ x0, xs = [x0] := by
    match xs, hl with
    | [a], _ => exact ⟨a, rfl⟩
  have hc' : d_l_cell_at [.scr ns, .int 0] Ω = some (.int c, Ω) := hc
  have e0' : d_l_stream [.int c, .int 1] Ω = some (.lst [.int x0], Ω) := e0
  refine ⟨x0 % 65536, by omega, by omega, fun ρ hρ => ?_⟩
  simp [hρ, hc', e0']
end Law
namespace Law
open PySem DL L2
abbrev Bg := Int × Int
def bD (k : Bg) : D := .tup [.int k.1, .int k.2]
structure Be (k : Bg) : Prop where
  s0 : 0 ≤ k.2
  s1 : k.2 ≤ 16
  b0 : 0 ≤ k.1
  b1 : k.1 < 2 ^ k.2.toNat
@[simp] theorem ix_bD0 (k : Bg) : ixD (bD k) (.int 0) = some (.int k.1) := by unfold bD; rw [DL.ix_tup]; exact atI_0 _ _
@[simp] theorem ix_bD1 (k : Bg) : ixD (bD k) (.int 1) = some (.int k.2) := by unfold bD; rw [DL.ix_tup]; exact atI_1 _ _ _
theorem pl_bD (k : Bg) : pl (bD k) = true := by simp [bD, pl, plL]
theorem dep_bD (k : Bg) : dep (bD k) ≤ 64 := by simp [bD, dep, depL]
theorem be_B {bs : List Int} (h : B bs) : Be (numL bs, (bs.length : Int)) := by
  have := numL_bd bs h.bit
  have := h.len
  exact ⟨by show (0 : Int) ≤ bs.length; omega, by show (bs.length : Int) ≤ 16; omega, by show 0 ≤ numL bs; omega, by show numL bs < 2 ^ (bs.length : Int).toNat; simp; omega⟩
theorem begb_den (x base : Int) (Ω : List OS) : ∃ k : Bg, Be k ∧ d_l_beginning [.int x, .int base] Ω = some (bD k, Ω) := by
  obtain ⟨bs, hB, e⟩ := beg_den x base Ω
  exact ⟨_, be_B hB, e⟩
theorem upD_cons (lo : Int) (n : Nat) : upD lo (n + 1) = D.int lo :: upD (lo + 1) n := by
  unfold upD
  rw [List.range_succ_eq_map, List.map_cons, List.map_map]
  congr 1
  · simp
  · apply List.map_congr_left
    intro k _
    show D.int (lo + ((k + 1 : Nat) : Int)) = D.int (lo + 1 + (k : Int))
    congr 1
    omega
end Law
namespace Law
open PySem DL L2
/-! ### texts as lists of signs -/
theorem str_ext {a b : Str} (h : a.cps = b.cps) : a = b := by cases a; cases b; cases h; rfl
def tx (cs : List Nat) : Str := ⟨cs.toArray⟩
theorem tx_app (a b : List Nat) : tx a ++ tx b = tx (a ++ b) := str_ext (by show (tx a).cps ++ (tx b).cps = _; simp [tx])
@[simp] theorem tx_len (cs : List Nat) : (tx cs).length = cs.length := by simp [tx, Str.length]
theorem tx_of (x : Str) : x = tx x.cps.toList := str_ext (by simp [tx])
theorem tx_nil : (("" : String) : Str) = tx [] := by decide +kernel
theorem tx_star : (("*" : String) : Str) = tx [42] := by decide +kernel
theorem tx_01 : (("01" : String) : Str) = tx [48, 49] := by decide +kernel
theorem tx_1 : (("1" : String) : Str) = tx [49] := by decide +kernel
theorem tx_dot : (("." : String) : Str) = tx [46] := by decide +kernel
theorem tx_fig : (("0123456789" : String) : Str) = tx [48, 49, 50, 51, 52, 53, 54, 55, 56, 57] := by decide +kernel
theorem tx_inj {a b : List Nat} (h : tx a = tx b) : a = b := by
  have := congrArg (fun x : Str => x.cps.toList) h
  simpa [tx] using this
theorem signs_tx (cs : List Nat) : signsD (tx cs) = cs.map fun c => D.str (tx [c]) := by
  unfold signsD tx
  simp
theorem glue_ones : ∀ (cs : List Nat) (acc : Array Nat), (cs.map fun c => tx [c]).foldl (fun acc p => acc ++ (tx []).cps ++ p.cps) acc = acc ++ cs.toArray
  | [], acc => by simp
  | c :: cs, acc => by
    rw [List.map_cons, List.foldl_cons, glue_ones cs]
    simp [tx]
theorem join_ones (cs : List Nat) : Txt.join (tx []) (cs.map fun c => tx [c]) = tx cs := by
  cases cs with
  | nil => exact str_ext (by simp [Txt.join, Builtin.Str.glued, tx, Str.empty])
  | cons c cs =>
    refine str_ext ?_
    show ((((c :: cs).map fun c => tx [c]).drop 1).foldl (fun acc p => acc ++ (tx []).cps ++ p.cps) ((((c :: cs).map fun c => tx [c]).headD Str.empty).cps)) = _
    rw [List.map_cons, List.drop_one, List.tail_cons, glue_ones]
    simp [tx]
theorem sum_ones : ∀ (cs : List Nat) (a : Nat), (cs.map fun c => tx [c]).foldl (fun (n : Nat) (t : Str) => n + t.length + (tx []).length) a = a + cs.length
  | [], a => by simp
  | c :: cs, a => by
    rw [List.map_cons, List.foldl_cons, sum_ones cs]
    simp
    omega
theorem joinOk_ones {cs : List Nat} (h : cs.length ≤ 1000) : JoinOk (tx []) (cs.map fun c => tx [c]) = true := by
  unfold JoinOk
  rw [List.foldl_toArray', sum_ones]
  · unfold Builtin.Str.tooLong
    simp [sizeLine_eq]
    omega
  · simp
theorem strs_ones : ∀ cs : List Nat, strsD (cs.map fun c => D.str (tx [c])) = some (cs.map fun c => tx [c])
  | [] => rfl
  | c :: cs => by
    rw [List.map_cons]
    unfold strsD
    rw [strs_ones cs]
    rfl
theorem joinD_ones {cs : List Nat} (h : cs.length ≤ 1000) : joinD (.str (tx [])) (.lst (cs.map fun c => D.str (tx [c]))) = some (.str (tx cs)) := by
  show (match strsD (cs.map fun c => D.str (tx [c])) with | some zs => grd (JoinOk (tx []) zs = true) (some (D.str (Txt.join (tx []) zs))) | none => none) = _
  rw [strs_ones]
  dsimp only
  rw [grd_pos (joinOk_ones h), join_ones]
theorem addD_tx {a b : List Nat} (h : a.length + b.length ≤ 100000) : addD (.str (tx a)) (.str (tx b)) = some (.str (tx (a ++ b))) := by
  show (if (tx a).length + (tx b).length ≤ 100000 then some (D.str (tx a ++ tx b)) else none) = _
  rw [if_pos (by simpa using h), tx_app]
theorem contains_tx (cs : List Nat) (c : Nat) : Txt.contains (tx cs) (tx [c]) = decide (c ∈ cs) := by
  show (!(Builtin.Str.occurrences (tx cs) ⟨#[c]⟩ 0 (tx cs).length 1).isEmpty) = _
  rw [StrLaws.found_one]
  refine decide_eq_decide.mpr ?_
  simp [tx]
theorem pl_tx {cs : List Nat} (h : ∀ c ∈ cs, c < 1000) : pl (.str (tx cs)) = true ∧ dep (.str (tx cs)) ≤ 64 := by
  refine ⟨?_, by simp [dep]⟩
  rw [pl]
  show (tx cs).cps.all (· < 0x110000) = true
  simp [tx]
  intro c hc
  have := h c hc
  omega
theorem eq_tx (neg : Bool) {a b : List Nat} (ha : ∀ c ∈ a, c < 1000) (hb : ∀ c ∈ b, c < 1000) : eqD neg (.str (tx a)) (.str (tx b)) = some (.bl (if a = b then !neg else neg)) := by
  by_cases h : a = b
  · subst h
    rw [eq_self_pl neg (pl_tx ha).1 (pl_tx ha).2, if_pos rfl]
  · rw [eq_ne_pl neg (pl_tx ha).1 (pl_tx hb).1 (pl_tx ha).2 (pl_tx hb).2 fun z => h (tx_inj (by injection z)), if_neg h]
theorem ends_tx (a : List Nat) (c d : Nat) : Txt.endswith (tx (a ++ [d])) (tx [c]) = decide (d = c) := by
  unfold Txt.endswith Builtin.Str.subAt
  simp [tx, Str.length]
  exact Bool.eq_iff_iff.mpr (by simp)
theorem filter_range {β : Type} (l : List β) : ∀ n : Nat, List.filterMap (fun i => l[i]?) (List.range n) = l.take n
  | 0 => by simp
  | n + 1 => by
    rw [List.range_succ, List.filterMap_append, filter_range l n, List.take_add_one]
    cases h : l[n]? <;> simp [h]
/-! ### split at the point -/
def occStep (s sub : Str) (hi limit : Nat) (st : Array Nat × Nat) (i : Nat) : Array Nat × Nat := if ((st.fst.size < limit ∧ st.snd ≤ i) ∧ i + sub.length ≤ hi) ∧ Builtin.Str.subAt s sub i = true then (st.fst.push i, i + sub.length) else st
theorem occ_fold (s sub : Str) (hi limit : Nat) : ∀ (l : List Nat) (st : Array Nat × Nat), (forIn l st (StrLaws.occBody s sub hi limit)).run = l.foldl (occStep s sub hi limit) st
  | [], st => rfl
  | i :: l, st => by
    rw [List.forIn_cons, List.foldl_cons]
    unfold StrLaws.occBody occStep
    split
    · exact occ_fold s sub hi limit l _
    · exact occ_fold s sub hi limit l _
end Law
namespace Law
open PySem DL L2
/-! ### texts of any signs -/
structure Tq (n : Nat) (cs : List Nat) : Prop where
  lt : ∀ c ∈ cs, c < 128
  len : cs.length ≤ n
theorem clipS (v : Int) (n : Nat) : max 0 (min (if v < 0 then v + (n : Int) else v) (n : Int)) = ((HT.sIx n 0 (some v) : Nat) : Int) := by
  show _ = (((if v < 0 then (v + (n : Int)).toNat else min v.toNat n) : Nat) : Int)
  by_cases hv : v < 0
  · simp only [if_pos hv]; omega
  · simp only [if_neg hv]; omega
theorem idx_cut (lo hi : Option Int) (n : Nat) : Builtin.Str.strSliceIndices lo hi 1 n = (List.range (HT.sIx n n hi - HT.sIx n 0 lo)).map fun k => HT.sIx n 0 lo + k := by
  have a : Builtin.Str.strSliceIndices lo hi 1 n = sliceRange ((HT.sIx n 0 lo : Nat) : Int) ((HT.sIx n n hi : Nat) : Int) 1 := by
    unfold Builtin.Str.strSliceIndices
    simp only [show (1 : Int) > 0 by decide, if_true]
    congr 1
    · cases lo with
      | none => rfl
      | some v => exact clipS v n
    · cases hi with
      | none => rfl
      | some v => exact clipS v n
  rw [a]
  unfold sliceRange
  simp only [show (1 : Int) > 0 by decide, if_true]
  generalize HT.sIx n 0 lo = p
  generalize HT.sIx n n hi = q
  have e : (if (p : Int) < (q : Int) then ((q : Int) - (p : Int) + 1 - 1) / 1 else 0).toNat = q - p := by
    split
    · rw [Int.ediv_one]; omega
    · simp; omega
  rw [e]
  apply List.map_congr_left
  intro k _
  omega
theorem slice_cut (cs : List Nat) (lo hi : Option Int) : Txt.slice (tx cs) lo hi = tx (cutL cs lo hi) := by
  have hA := HT.sIx_le cs.length 0 (Nat.zero_le _) lo
  have hB := HT.sIx_le cs.length cs.length (Nat.le_refl _) hi
  have fm : ∀ p m : Nat, List.filterMap (fun i => cs[i]?) ((List.range m).map fun k => p + k) = (cs.drop p).take m := fun p m => by
    rw [List.filterMap_map, ← filter_range]
    congr 1
    funext k
    simp [List.getElem?_drop]
  unfold Txt.slice cutL
  rw [tx_len, idx_cut]
  generalize HT.sIx cs.length 0 lo = p at *
  generalize HT.sIx cs.length cs.length hi = q at *
  split
  · rename_i h
    simp at h
    have e1 : p = 0 := by omega
    have e2 : q - 0 = cs.length := by omega
    subst e1
    rw [e2, List.drop_zero, List.take_length]
  · refine str_ext ?_
    show ((List.map (fun k => p + k) (List.range (q - p))).filterMap fun i => (tx cs).cps[i]?).toArray = _
    have : (fun i : Nat => (tx cs).cps[i]?) = fun i : Nat => cs[i]? := by funext i; simp [tx]
    rw [this, fm]
    rfl
theorem slS_tx {cs : List Nat} (h : cs.length ≤ 1000) (lo hi : Option Int) : slS (.str (tx cs)) lo hi = some (.str (tx (cutL cs lo hi))) := by
  show grd _ (some (D.str (Txt.slice (tx cs) lo hi))) = _
  rw [grd_pos (by rw [tx_len]; omega), slice_cut]
theorem cut_last (cs : List Nat) : cutL cs (some (-1)) none = cs.drop (cs.length - 1) := by
  unfold cutL
  have e : HT.sIx cs.length 0 (some (-1)) = cs.length - 1 := by
    show (if (-1 : Int) < 0 then ((-1 : Int) + (cs.length : Int)).toNat else min (-1 : Int).toNat cs.length) = _
    rw [if_pos (by decide)]; omega
  rw [e, HT.sIx_none, List.take_of_length_le (by simp)]
theorem cut_init (cs : List Nat) : cutL cs none (some (-1)) = cs.take (cs.length - 1) := by
  unfold cutL
  have e : HT.sIx cs.length cs.length (some (-1)) = cs.length - 1 := by
    show (if (-1 : Int) < 0 then ((-1 : Int) + (cs.length : Int)).toNat else min (-1 : Int).toNat cs.length) = _
    rw [if_pos (by decide)]; omega
  rw [e, HT.sIx_none, List.drop_zero, Nat.sub_zero]
theorem len_tx {cs : List Nat} (h : cs.length ≤ 1000) : lenD [.str (tx cs)] = some (.int cs.length) := by
  show (if (tx cs).length ≤ 100000 then some (D.int (tx cs).length) else none) = _
  rw [if_pos (by rw [tx_len]; omega), tx_len]
theorem last_cases (cs : List Nat) : cs = [] ∨ ∃ a d, cs = a ++ [d] := by
  by_cases h : cs = []
  · exact .inl h
  · exact .inr ⟨cs.dropLast, cs.getLast h, (List.dropLast_concat_getLast h).symm⟩
theorem ends_all (cs : List Nat) (c : Nat) : endsD (.str (tx cs)) (.str (tx [c])) = some (.bl (decide (cs.getLast? = some c))) := by
  show some (D.bl (Txt.endswith (tx cs) (tx [c]))) = _
  rcases last_cases cs with rfl | ⟨a, d, rfl⟩
  · have : Txt.endswith (tx []) (tx [c]) = false := by
      unfold Txt.endswith
      simp [tx, Str.length]
    rw [this]
    simp
  · rw [ends_tx]
    simp
theorem occ_size (s sub : Str) (hi limit : Nat) : ∀ (l : List Nat) (st : Array Nat × Nat), st.1.size ≤ limit → (l.foldl (occStep s sub hi limit) st).1.size ≤ limit
  | [], st, h => h
  | i :: l, st, h => by
    rw [List.foldl_cons]
    refine occ_size s sub hi limit l _ ?_
    unfold occStep
    split
    · rename_i z
      have := z.1.1.1
      simp
      omega
    · exact h
theorem occ_few (s sub : Str) (limit : Nat) : (Builtin.Str.occurrences s sub 0 s.length limit).length ≤ limit := by
  rw [StrLaws.occ_eq, occ_fold]
  have := occ_size s sub s.length limit (List.range' 0 (s.length + 1 - 0)) (#[], 0) (Nat.zero_le _)
  simpa using this
theorem parts_sub {x p : Str} {cuts : List Nat} {w : Nat} (h : p ∈ Builtin.Str.partsBetween x cuts w) : ∃ i j, p = Builtin.Str.strSub x i j := by
  unfold Builtin.Str.partsBetween at h
  obtain ⟨⟨i, j⟩, _, e⟩ := List.mem_map.mp h
  exact ⟨i, j, e.symm⟩
theorem split_sub {x y p : Str} (h : p ∈ Txt.split x y) : p = x ∨ ∃ i j, p = Builtin.Str.strSub x i j := by
  unfold Txt.split at h
  split at h
  · exact .inl (List.mem_singleton.mp h)
  · split at h
    · exact .inl (List.mem_singleton.mp h)
    · exact .inr (parts_sub h)
theorem split_tx {n : Nat} {cs : List Nat} (h : Tq n cs) (hn : n ≤ 1000) : ∃ ws : List (List Nat), (∀ w ∈ ws, Tq n w) ∧ ws.length ≤ 2000 ∧ splD (.str (tx cs)) (.str (tx [46])) = some (.lst (ws.map fun w => D.str (tx w))) := by
  have hl := h.len
  have few := occ_few (tx cs) (tx [46]) ((tx cs).length + 1)
  have pl : (Builtin.Str.partsBetween (tx cs) (Builtin.Str.occurrences (tx cs) (tx [46]) 0 (tx cs).length ((tx cs).length + 1)) (tx [46]).length).length ≤ cs.length + 2 := by
    unfold Builtin.Str.partsBetween
    simp
    simp at few
    omega
  have sl : (Txt.split (tx cs) (tx [46])).length ≤ cs.length + 2 := by
    unfold Txt.split
    split
    · simp
    · split
      · simp
      · exact pl
  refine ⟨(Txt.split (tx cs) (tx [46])).map fun p => p.cps.toList, fun w hw => ?_, by rw [List.length_map]; omega, ?_⟩
  · obtain ⟨p, hp, rfl⟩ := List.mem_map.mp hw
    rcases split_sub hp with rfl | ⟨i, j, rfl⟩
    · simpa [tx] using h
    · have e : (Builtin.Str.strSub (tx cs) i j).cps.toList = (cs.drop i).take (j - i) := by simp [Builtin.Str.strSub, tx]
      rw [e]
      refine ⟨fun c hc => h.lt c (List.mem_of_mem_drop (List.mem_of_mem_take hc)), ?_⟩
      simp
      omega
  · show grd _ (some (D.lst ((Txt.split (tx cs) (tx [46])).map D.str))) = _
    rw [grd_pos ⟨by simp, by rw [tx_len]; omega, by omega, by omega⟩, List.map_map]
    congr 2
theorem repr_ok {n : Nat} {cs : List Nat} (h : Tq n cs) (hn : n ≤ 1000) : (reprText (tx cs)).length ≤ 50000 := by
  have := StrLaws.reprText_len (tx cs) (fun c hc => by
    have : c ∈ cs := by simpa [tx] using hc
    have := h.lt c this
    omega)
  rw [tx_len] at this
  have := h.len
  omega
theorem frs_ok {n : Nat} {cs : List Nat} (h : Tq n cs) (hn : n ≤ 1000) {ρ : List Sl} {Ω : List OS} (e : ρ[0]? = some (.dat (.str (tx cs)))) : pFrs (gVar 0) ρ Ω = some Ω := by
  unfold pFrs
  simp [e, repr_ok h hn]
theorem Tq.small {n : Nat} {cs : List Nat} (h : Tq n cs) : ∀ c ∈ cs, c < 1000 := fun c hc => by have := h.lt c hc; omega
end Law
namespace Law
open PySem DL L2 PySem.NumText
/-! ### addresses -/
theorem dig : ∀ m : Fin 256, 1 ≤ ((Nat.toDigits 10 m.val).map Char.toNat).length ∧ ((Nat.toDigits 10 m.val).map Char.toNat).length ≤ 3 ∧ ∀ c ∈ (Nat.toDigits 10 m.val).map Char.toNat, 48 ≤ c ∧ c ≤ 57 := by decide +kernel
def dg (n : Int) : List Nat := (Str.ofString (toString n)).cps.toList
theorem tx_dg (n : Int) : Str.ofString (toString n) = tx (dg n) := tx_of _
structure Eight (n : Int) : Prop where
  lo : 0 ≤ n
  hi : n ≤ 255
theorem Eight.dg {n : Int} (h : Eight n) : 1 ≤ (dg n).length ∧ (dg n).length ≤ 3 ∧ ∀ c ∈ dg n, 48 ≤ c ∧ c ≤ 57 := by
  obtain ⟨h0, h1⟩ := h
  obtain ⟨m, rfl⟩ := Int.eq_ofNat_of_zero_le h0
  have e : Law.dg (m : Int) = (Nat.toDigits 10 m).map Char.toNat := PySem.W.KIN.signs_num m
  rw [e]
  exact dig ⟨m, by omega⟩
theorem Eight.log {n : Int} (h : Eight n) : n.natAbs.log2 < 1920 := by
  obtain ⟨h0, h1⟩ := h
  by_cases z : n.natAbs = 0
  · rw [z]; decide
  · exact (Nat.log2_lt z).mpr (Nat.lt_of_lt_of_le (by omega : n.natAbs < 2 ^ 8) (Nat.pow_le_pow_right (by decide) (by decide)))
theorem Eight.reads {n : Int} (h : Eight n) : PySem.intText? (tx (Law.dg n)) = some n := by
  rw [← tx_dg]
  exact PySem.W.KIN.num_reads h.lo (by have := h.hi; omega)
theorem Eight.str {n : Int} (h : Eight n) : str1D [.int n] = some (.str (tx (Law.dg n))) := by
  show grd _ (some (D.str (Str.ofString (toString n)))) = _
  rw [grd_pos h.log, tx_dg]
theorem Eight.int {n : Int} (h : Eight n) : int1S [.str (tx (Law.dg n))] = some (.int n) := by
  show (match PySem.intText? (tx (Law.dg n)) with | some m => grd ((tx (Law.dg n)).length ≤ 640) (some (D.int m)) | none => none) = _
  rw [h.reads]
  dsimp only
  rw [grd_pos (by have := h.dg; rw [tx_len]; omega)]
theorem Eight.inj {n m : Int} (h : Eight n) (h' : Eight m) (e : Law.dg n = Law.dg m) : n = m := by
  have a := h.reads
  have b := h'.reads
  rw [e, b] at a
  injection a with a
  exact a.symm
/-- the number that a word writes -/
def IsN (w : List Nat) (n : Int) : Prop := Eight n ∧ dg n = w
theorem str_num {n : Int} (h0 : 0 ≤ n) (h1 : n < 100000) : str1D [.int n] = some (.str (tx (dg n))) := by
  show grd _ (some (D.str (Str.ofString (toString n)))) = _
  have : n.natAbs.log2 < 1920 := by
    by_cases z : n.natAbs = 0
    · rw [z]; decide
    · exact (Nat.log2_lt z).mpr (Nat.lt_of_lt_of_le (by omega : n.natAbs < 2 ^ 17) (Nat.pow_le_pow_right (by decide) (by decide)))
  rw [grd_pos this, tx_dg]
theorem dg_small {n : Int} (h0 : 0 ≤ n) : ∀ c ∈ dg n, c < 1000 := by
  obtain ⟨m, rfl⟩ := Int.eq_ofNat_of_zero_le h0
  have e : Law.dg (m : Int) = (Nat.toDigits 10 m).map Char.toNat := PySem.W.KIN.signs_num m
  intro c hc
  rw [e] at hc
  obtain ⟨d, hd, rfl⟩ := List.mem_map.mp hc
  have := Nat.isDigit_of_mem_toDigits (b := 10) (by decide) (by decide) hd
  simp [Char.isDigit] at this
  have h2 := this.2
  have : d.toNat ≤ 57 := h2
  omega
theorem digitsVal_lt : ∀ (w : List Nat) (a : Nat), (∀ c ∈ w, c < 128) → w.foldl (fun acc c => acc * 10 + (c - 48)) a ≤ (a + 100) * 10 ^ w.length * 1
  | [], a, _ => by simp
  | c :: w, a, h => by
    have := digitsVal_lt w (a * 10 + (c - 48)) fun d hd => h d (List.mem_cons_of_mem _ hd)
    have hc := h c List.mem_cons_self
    rw [List.foldl_cons]
    refine Nat.le_trans this ?_
    rw [List.length_cons, Nat.pow_succ, Nat.mul_one, Nat.mul_one, Nat.mul_comm (10 ^ w.length) 10, ← Nat.mul_assoc]
    exact Nat.mul_le_mul_right _ (by omega)
theorem comp_fig (Ω : List OS) : ∀ (w : List Nat) (x : Sl), compD (bName 0) gTrue (gOp (inSD false) (gVar 0) (gC (.str (tx [48, 49, 50, 51, 52, 53, 54, 55, 56, 57])))) (w.map fun c => D.str (tx [c])) [x] Ω = some ((w.map fun c => D.bl (decide (c ∈ [48, 49, 50, 51, 52, 53, 54, 55, 56, 57]))), Ω)
  | [], x => rfl
  | c :: w, x => by
    have ih := comp_fig Ω w (.dat (.str (tx [c])))
    have ei : inSD false (.str (tx [c])) (.str (tx [48, 49, 50, 51, 52, 53, 54, 55, 56, 57])) = some (.bl (decide (c ∈ [48, 49, 50, 51, 52, 53, 54, 55, 56, 57]))) := by
      show some (D.bl (Txt.contains (tx [48, 49, 50, 51, 52, 53, 54, 55, 56, 57]) (tx [c]))) = _
      rw [contains_tx]
    rw [List.map_cons, List.map_cons]
    unfold compD
    simp only [ap_bName, List.set, ap_true, ap_op, ap_var, ap_c, List.getElem?_cons_zero, ei, ih]
theorem bls_map (f : Nat → Bool) : ∀ w : List Nat, blsD (w.map fun c => D.bl (f c)) = some (w.map f)
  | [] => rfl
  | c :: w => by
    rw [List.map_cons]
    unfold blsD
    rw [bls_map f w]
    rfl
theorem all_map (f : Nat → Bool) (w : List Nat) : allD [.lst (w.map fun c => D.bl (f c))] = some (.bl (w.all f)) := by
  show (match blsD (w.map fun c => D.bl (f c)) with | some bs => some (D.bl (bs.all id)) | none => none) = _
  rw [bls_map]
  simp
theorem fig_iff (c : Nat) : c ∈ [48, 49, 50, 51, 52, 53, 54, 55, 56, 57] ↔ 48 ≤ c ∧ c ≤ 57 := by
  simp
  omega
open Classical in
theorem figs_den {n : Nat} {w : List Nat} (h : Tq n w) (hn : n ≤ 1000) (Ω : List OS) : d_are_figures [.str (tx w), .int 3] Ω = some (.bl (decide (1 ≤ w.length ∧ w.length ≤ 3 ∧ AllDigits w ∧ dg (digitsVal w) = w)), Ω) := by
  have hl := h.len
  have el := len_tx (cs := w) (by omega)
  have gt : gTx (gVar 0) [.dat (.str (tx w)), .dat (.int 3)] Ω = some (w.map (fun c => D.str (tx [c])), Ω) := by
    unfold gTx
    simp [signs_tx]
  by_cases h1 : w.length < 1 ∨ w.length > 3
  · have no : ¬ (1 ≤ w.length ∧ w.length ≤ 3 ∧ AllDigits w ∧ dg (digitsVal w) = w) := by rintro ⟨x, y, _⟩; omega
    rw [decide_eq_false no]
    refine run_rt rfl (seq_rt ?_)
    rcases h1 with h1 | h1
    · have : (w.length : Int) < 1 := by omega
      simp [el, this]
    · have a : ¬ (w.length : Int) < 1 := by omega
      have b : (3 : Int) < w.length := by omega
      simp [el, a, b]
  · rw [not_or] at h1
    have a : ¬ (w.length : Int) < 1 := by omega
    have b : ¬ (3 : Int) < w.length := by omega
    refine run_rt rfl ((seq_nx (ρ' := [.dat (.str (tx w)), .dat (.int 3)]) (Ω' := Ω) (by simp [el, a, b])).trans ?_)
    have ec := comp_fig Ω w .und
    have ea := all_map (fun c => decide (c ∈ [48, 49, 50, 51, 52, 53, 54, 55, 56, 57])) w
    have g1 : gCB allD (gCons (gComp [none] (gTx (gVar 0)) (bName 0) gTrue (gOp (inSD false) (gVar 0) (gC (.str (tx [48, 49, 50, 51, 52, 53, 54, 55, 56, 57]))))) gNil) [.dat (.str (tx w)), .dat (.int 3)] Ω = some (.bl (w.all fun c => decide (c ∈ [48, 49, 50, 51, 52, 53, 54, 55, 56, 57])), Ω) := by
      rw [ap_CB, ap_cons, ap_comp, gt]
      dsimp only
      rw [if_pos (by rw [List.length_map]; omega)]
      have ein : innerD [none] [Sl.dat (D.str (tx w)), Sl.dat (D.int 3)] = [.und] := rfl
      rw [ein, ec]
      dsimp only
      rw [ap_nil]
      dsimp only
      rw [ea]
    rw [tx_fig]
    by_cases hd : AllDigits w
    · have e1 : (w.all fun c => decide (c ∈ [48, 49, 50, 51, 52, 53, 54, 55, 56, 57])) = true := by
        rw [List.all_eq_true]
        intro c hc
        exact decide_eq_true ((fig_iff c).mpr (hd c hc))
      rw [e1] at g1
      have ne : w ≠ [] := fun z => by rw [z] at h1; simp at h1
      have rd : PySem.intText? (tx w) = some ((digitsVal w : Nat) : Int) := by
        have := intText_digits (x := tx w) (by simpa [tx] using hd) (by simpa [tx] using ne) (by rw [tx_len]; omega)
        simpa [tx] using this
      have ei : int1S [.str (tx w)] = some (.int (digitsVal w)) := by
        show (match PySem.intText? (tx w) with | some m => grd ((tx w).length ≤ 640) (some (D.int m)) | none => none) = _
        rw [rd]
        dsimp only
        rw [grd_pos (by rw [tx_len]; omega)]
      have bd : digitsVal w < 1000000 := by
        have q := digitsVal_lt w 0 h.lt
        have : 10 ^ w.length ≤ 10 ^ 3 := Nat.pow_le_pow_right (by decide) (by omega)
        unfold digitsVal
        have : (0 + 100) * 10 ^ w.length * 1 ≤ 100 * 10 ^ 3 := by omega
        omega
      have es : str1D [.int (digitsVal w)] = some (.str (tx (dg (digitsVal w)))) := by
        show grd _ (some (D.str (Str.ofString (toString ((digitsVal w : Nat) : Int))))) = _
        have : ((digitsVal w : Nat) : Int).natAbs.log2 < 1920 := by
          by_cases z : ((digitsVal w : Nat) : Int).natAbs = 0
          · rw [z]; decide
          · exact (Nat.log2_lt z).mpr (Nat.lt_of_lt_of_le (by omega : ((digitsVal w : Nat) : Int).natAbs < 2 ^ 20) (Nat.pow_le_pow_right (by decide) (by decide)))
        rw [grd_pos this, tx_dg]
      have eq := eq_tx false (a := dg (digitsVal w)) (b := w) (dg_small (by omega)) h.small
      by_cases q : dg (digitsVal w) = w
      · rw [if_pos q] at eq
        rw [decide_eq_true (⟨by omega, by omega, hd, q⟩ : 1 ≤ w.length ∧ w.length ≤ 3 ∧ AllDigits w ∧ dg (digitsVal w) = w), ap_ret, ap_andV, g1]
        simp [ei, es, eq]
      · rw [if_neg q] at eq
        rw [decide_eq_false (fun z : 1 ≤ w.length ∧ w.length ≤ 3 ∧ AllDigits w ∧ dg (digitsVal w) = w => q z.2.2.2), ap_ret, ap_andV, g1]
        simp [ei, es, eq]
    · have e1 : (w.all fun c => decide (c ∈ [48, 49, 50, 51, 52, 53, 54, 55, 56, 57])) = false := by
        rw [List.all_eq_false]
        have : ∃ c, c ∈ w ∧ ¬ (48 ≤ c ∧ c ≤ 57) := by
          apply Classical.byContradiction
          intro z
          exact hd fun c hc => Classical.byContradiction fun y => z ⟨c, hc, y⟩
        obtain ⟨c, hc, z⟩ := this
        exact ⟨c, hc, by rw [decide_eq_true_eq, fig_iff]; exact z⟩
      rw [e1] at g1
      rw [decide_eq_false (fun z : 1 ≤ w.length ∧ w.length ≤ 3 ∧ AllDigits w ∧ dg (digitsVal w) = w => hd z.2.2.1), ap_ret, ap_andV, g1]
open Classical in
theorem eight_den {n : Nat} {w : List Nat} (h : Tq n w) (hn : n ≤ 1000) (Ω : List OS) : d_is_eight_bits [.str (tx w)] Ω = some (.bl (decide (∃ m, IsN w m)), Ω) := by
  have hl := h.len
  have f := figs_den h hn Ω
  by_cases hq : 1 ≤ w.length ∧ w.length ≤ 3 ∧ AllDigits w ∧ dg (digitsVal w) = w
  · rw [decide_eq_true hq] at f
    obtain ⟨l1, l2, hd, q⟩ := hq
    have ne : w ≠ [] := fun z => by rw [z] at l1; simp at l1
    have rd : PySem.intText? (tx w) = some ((digitsVal w : Nat) : Int) := by
      have := intText_digits (x := tx w) (by simpa [tx] using hd) (by simpa [tx] using ne) (by rw [tx_len]; omega)
      simpa [tx] using this
    have ei : int1S [.str (tx w)] = some (.int (digitsVal w)) := by
      show (match PySem.intText? (tx w) with | some m => grd ((tx w).length ≤ 640) (some (D.int m)) | none => none) = _
      rw [rd]
      dsimp only
      rw [grd_pos (by rw [tx_len]; omega)]
    by_cases q2 : ((digitsVal w : Nat) : Int) ≤ 255
    · have yes : ∃ m, IsN w m := ⟨digitsVal w, ⟨by omega, q2⟩, q⟩
      refine run_rt rfl ?_
      simp [f, ei, q2, yes]
    · have no : ¬ ∃ m, IsN w m := fun ⟨m, e, z⟩ => by
        have := e.reads
        rw [z, rd] at this
        injection this with this
        exact q2 (by rw [this]; exact e.hi)
      refine run_rt rfl ?_
      simp [f, ei, q2, no]
  · rw [decide_eq_false hq] at f
    have no : ¬ ∃ m, IsN w m := fun ⟨m, e, z⟩ => by
      have g := e.dg
      rw [z] at g
      have hd : AllDigits w := g.2.2
      have ne : w ≠ [] := fun y => by rw [y] at g; simp at g
      have rd : PySem.intText? (tx w) = some ((digitsVal w : Nat) : Int) := by
        have := intText_digits (x := tx w) (by simpa [tx] using hd) (by simpa [tx] using ne) (by rw [tx_len]; omega)
        simpa [tx] using this
      have := e.reads
      rw [z, rd] at this
      injection this with this
      exact hq ⟨by omega, by omega, hd, by rw [this]; exact z⟩
    refine run_rt rfl ?_
    simp [f, no]
/-! the law's own reading of a word -/
theorem comp_str (Ω : List OS) : ∀ (n lo : Nat) (x : Sl), lo + n ≤ 256 → compD (bName 0) gTrue (gCB str1D (gCons (gVar 0) gNil)) (upD lo n) [x] Ω = some (((List.range' lo n).map fun (k : Nat) => D.str (tx (dg (k : Int)))), Ω)
  | 0, lo, x, _ => rfl
  | n + 1, lo, x, h => by
    have ih := comp_str Ω n (lo + 1) (.dat (.int lo)) (by omega)
    have e : str1D [.int (lo : Int)] = some (.str (tx (dg lo))) := str_num (by omega) (by omega)
    rw [upD_cons, List.range'_succ, List.map_cons]
    unfold compD
    simp only [ap_bName, List.set, ap_true, ap_CB, ap_cons, ap_nil, ap_var, List.getElem?_cons_zero, e]
    have : ((lo : Int) + 1) = ((lo + 1 : Nat) : Int) := by omega
    rw [this, ih]
theorem flVs_strs (f : Nat → List Nat) : ∀ l : List Nat, flVs (l.map fun k => D.str (tx (f k))) = some (l.map fun k => V.str (tx (f k)))
  | [] => rfl
  | k :: l => by
    rw [List.map_cons]
    unfold flVs
    rw [flVs_strs f l]
    rfl
open Classical in
theorem half_no {w : List Nat} (Ω : List OS) (no : ¬ ∃ m, IsN w m) : d_l_half [.str (tx w)] Ω = some (.non, Ω) := by
  have ec := comp_str Ω 256 0 .und (by decide)
  have er : rng1 [.int 256] = some (upD 0 256) := rng_1 (by decide) (by decide)
  have g1 : gComp [none] (gRng rng1 (gCons (gC (.int 256)) gNil)) (bName 0) gTrue (gCB str1D (gCons (gVar 0) gNil)) [.dat (.str (tx w))] Ω = some (.lst ((List.range' 0 256).map fun (k : Nat) => D.str (tx (dg (k : Int)))), Ω) := by
    have gi : gRng rng1 (gCons (gC (.int 256)) gNil) [.dat (.str (tx w))] Ω = some (upD 0 256, Ω) := by simp only [ap_rng, ap_cons, ap_c, ap_nil, er]
    rw [ap_comp, gi]
    dsimp only
    rw [if_pos (by rw [upD_length]; decide)]
    have ein : innerD [none] [Sl.dat (D.str (tx w))] = [.und] := rfl
    rw [ein, show (0 : Int) = ((0 : Nat) : Int) from rfl, ec]
  have ei : inLD true (.str (tx w)) (.lst ((List.range' 0 256).map fun (k : Nat) => D.str (tx (dg (k : Int))))) = some (.bl true) := by
    unfold inLD flV seqLD
    dsimp only
    rw [flVs_strs (fun (k : Nat) => dg (k : Int))]
    dsimp only
    have : inV (.str (tx w)) ((List.range' 0 256).map fun (k : Nat) => V.str (tx (dg (k : Int)))) = false := by
      unfold inV
      rw [List.any_map, List.any_eq_false]
      intro k hk z
      have z : (tx (dg k) == tx w) = true := z
      have := tx_inj (by simpa using z)
      exact no ⟨k, ⟨by omega, by have := (List.mem_range'_1.mp hk).2; omega⟩, this⟩
    rw [this]
    rfl
  refine run_rt rfl (seq_rt ?_)
  have t1 : gT (gOp (inLD true) (gVar 0) (gComp [none] (gRng rng1 (gCons (gC (.int 256)) gNil)) (bName 0) gTrue (gCB str1D (gCons (gVar 0) gNil)))) [.dat (.str (tx w))] Ω = some (true, Ω) := by
    rw [ap_T, ap_op, ap_var]
    dsimp only [List.getElem?_cons_zero]
    rw [g1]
    dsimp only
    rw [ei]
  show sIf _ _ _ [.dat (.str (tx w))] Ω = _
  rw [ap_sIf, t1]
  rfl
theorem half_yes {w : List Nat} {m : Int} (Ω : List OS) (h : IsN w m) : d_l_half [.str (tx w)] Ω = some (.int m, Ω) := by
  have ec := comp_str Ω 256 0 .und (by decide)
  have er : rng1 [.int 256] = some (upD 0 256) := rng_1 (by decide) (by decide)
  have g1 : gComp [none] (gRng rng1 (gCons (gC (.int 256)) gNil)) (bName 0) gTrue (gCB str1D (gCons (gVar 0) gNil)) [.dat (.str (tx w))] Ω = some (.lst ((List.range' 0 256).map fun (k : Nat) => D.str (tx (dg (k : Int)))), Ω) := by
    have gi : gRng rng1 (gCons (gC (.int 256)) gNil) [.dat (.str (tx w))] Ω = some (upD 0 256, Ω) := by simp only [ap_rng, ap_cons, ap_c, ap_nil, er]
    rw [ap_comp, gi]
    dsimp only
    rw [if_pos (by rw [upD_length]; decide)]
    have ein : innerD [none] [Sl.dat (D.str (tx w))] = [.und] := rfl
    rw [ein, show (0 : Int) = ((0 : Nat) : Int) from rfl, ec]
  obtain ⟨e, q⟩ := h
  have e0 := e.lo
  have e1 := e.hi
  have ei : inLD true (.str (tx w)) (.lst ((List.range' 0 256).map fun (k : Nat) => D.str (tx (dg (k : Int))))) = some (.bl false) := by
    unfold inLD flV seqLD
    dsimp only
    rw [flVs_strs (fun (k : Nat) => dg (k : Int))]
    dsimp only
    have : inV (.str (tx w)) ((List.range' 0 256).map fun (k : Nat) => V.str (tx (dg (k : Int)))) = true := by
      unfold inV
      rw [List.any_map, List.any_eq_true]
      refine ⟨m.toNat, List.mem_range'_1.mpr ⟨by omega, by omega⟩, ?_⟩
      show (tx (dg ((m.toNat : Nat) : Int)) == tx w) = true
      rw [show ((m.toNat : Nat) : Int) = m by omega, q]
      simp
    rw [this]
    rfl
  have ir := e.int
  rw [q] at ir
  refine run_rt rfl ((seq_nx (ρ' := [.dat (.str (tx w))]) (Ω' := Ω) ?_).trans ?_)
  · have t1 : gT (gOp (inLD true) (gVar 0) (gComp [none] (gRng rng1 (gCons (gC (.int 256)) gNil)) (bName 0) gTrue (gCB str1D (gCons (gVar 0) gNil)))) [.dat (.str (tx w))] Ω = some (false, Ω) := by
      rw [ap_T, ap_op, ap_var]
      dsimp only [List.getElem?_cons_zero]
      rw [g1]
      dsimp only
      rw [ei]
    show sIf _ _ _ [.dat (.str (tx w))] Ω = _
    rw [ap_sIf, t1]
    rfl
  · simp [ir]
end Law
namespace Law
open PySem DL
/-! ### ways out, as equations -/
section
variable {ρ : List Sl} {Ω : List OS}
@[simp] theorem ap_isx (t : Str → Option Bool) (g : Den) : gIsX t g ρ Ω = match g ρ Ω with
  | some (.obj n, Ω1) => (match Ω1[n]? with
    | some (.exc c) => (match t c with | some b => some (.bl b, Ω1) | none => none)
    | _ => none)
  | _ => none := by unfold gIsX; rfl
@[simp] theorem ap_rE (rx : RDen) : rE rx ρ Ω = match rx ρ Ω with | some (c, Ω') => some (c, ρ, Ω') | none => none := (rfl)
@[simp] theorem ap_rCall (R : XFDen) (g : ADen) : rCall R g ρ Ω = match g ρ Ω with | some (ds, Ω1) => R ds Ω1 | none => none := (rfl)
@[simp] theorem ap_rRaiseV (c : Str) (p : VDen) : rRaiseV c p ρ Ω = match p ρ Ω with | some Ω' => some (c, ρ, Ω') | none => none := (rfl)
@[simp] theorem ap_rIf (p : TDen) (s t : SRDen) : rIf p s t ρ Ω = match p ρ Ω with | some (true, Ω') => s ρ Ω' | some (false, Ω') => t ρ Ω' | none => none := (rfl)
@[simp] theorem ap_rNever : rNever ρ Ω = none := (rfl)
@[simp] theorem ap_rThen (s : SDen) (r : SRDen) : rThen s r ρ Ω = match s ρ Ω with | some (.nx ρ1 Ω1) => r ρ1 Ω1 | _ => none := (rfl)
@[simp] theorem ap_rOr (r1 r2 : SRDen) : rOr r1 r2 ρ Ω = match r1 ρ Ω with | some z => some z | none => r2 ρ Ω := (rfl)
@[simp] theorem ap_never : sNever ρ Ω = none := (rfl)
theorem ap_runR (n m : Nat) (r : SRDen) (ds : List D) : runR n m r ds Ω = if ds.length = n then (match r (ds.map Sl.dat ++ List.replicate (m - n) Sl.und) Ω with
    | some (c, _, Ω') => some (c, Ω')
    | none => none) else none := (rfl)
theorem try_rt {s t : SDen} {r : SRDen} {i : Nat} {tc : Str → Bool} {d : D} {Ω' : List OS} (h : s ρ Ω = some (.rt d Ω')) : sTry s r i tc t ρ Ω = some (.rt d Ω') := by unfold sTry; rw [h]
theorem try_ex {s t : SDen} {r : SRDen} {i : Nat} {tc : Str → Bool} {c : Str} {ρ1 : List Sl} {d : D} {Ω1 Ω' : List OS} (h : s ρ Ω = none) (h1 : r ρ Ω = some (c, ρ1, Ω1)) (h2 : tc c = true) (h3 : t (ρ1.set i (.dat (.obj Ω1.length))) (Ω1 ++ [.exc c]) = some (.rt d Ω')) : sTry s r i tc t ρ Ω = some (.rt d Ω') := by
  unfold sTry
  rw [h, h1]
  dsimp only
  rw [if_pos h2, h3]
end
theorem run_no {n m : Nat} {s : SDen} {ds : List D} {Ω : List OS} (hl : ds.length = n) (h : s (ds.map Sl.dat ++ List.replicate (m - n) Sl.und) Ω = none) : runD n m s ds Ω = none := by
  rw [ap_run, if_pos hl, h]
theorem runR_ex {n m : Nat} {r : SRDen} {ds : List D} {c : Str} {ρ : List Sl} {Ω Ω' : List OS} (hl : ds.length = n) (h : r (ds.map Sl.dat ++ List.replicate (m - n) Sl.und) Ω = some (c, ρ, Ω')) : runR n m r ds Ω = some (c, Ω') := by
  rw [ap_runR, if_pos hl, h]
end Law
namespace Law
open PySem DL L2
section
variable {ρ : List Sl} {Ω : List OS}
theorem forR_cons (β : BDen) (s : SDen) (r : SRDen) (d : D) (ds : List D) : forR β s r (d :: ds) ρ Ω = match β d ρ with
  | some ρ1 => (match r ρ1 Ω with
    | some z => some z
    | none => (match s ρ1 Ω with
      | some (.nx ρ' Ω') => forR β s r ds ρ' Ω'
      | some (.ct ρ' Ω') => forR β s r ds ρ' Ω'
      | _ => none))
  | none => none := by
  first
  | rfl
  | (rw [forR]; done)
  | (rw [forR]
     cases β d ρ with
     | none => rfl
     | some ρ1 =>
       dsimp only
       cases r ρ1 Ω with
       | some z => rfl
       | none =>
         dsimp only
         cases s ρ1 Ω with
         | none => rfl
         | some o => cases o <;> rfl)
@[simp] theorem ap_rFor (γ : ADen) (β : BDen) (s : SDen) (r : SRDen) : rFor γ β s r ρ Ω = match γ ρ Ω with | some (ds, Ω') => forR β s r ds ρ Ω' | none => none := (rfl)
end
/-! ### addresses, both ways -/
open Classical in
noncomputable def nOf (w : List Nat) : Option Int := if h : ∃ m, IsN w m then some (choose h) else none
theorem nOf_some {w : List Nat} {m : Int} (h : nOf w = some m) : IsN w m := by
  unfold nOf at h
  split at h
  · rename_i z
    cases h
    exact Classical.choose_spec z
  · cases h
theorem nOf_none {w : List Nat} (h : nOf w = none) : ¬ ∃ m, IsN w m := by
  unfold nOf at h
  split at h
  · cases h
  · assumption
def oD : Option Int → D
  | none => .non
  | some n => .int n
theorem half_den (w : List Nat) (Ω : List OS) : d_l_half [.str (tx w)] Ω = some (oD (nOf w), Ω) := by
  cases q : nOf w with
  | none => exact half_no Ω (nOf_none q)
  | some m => exact half_yes Ω (nOf_some q)
theorem eight_dn {n : Nat} {w : List Nat} (h : Tq n w) (hn : n ≤ 1000) (Ω : List OS) : d_is_eight_bits [.str (tx w)] Ω = some (.bl (nOf w).isSome, Ω) := by
  rw [eight_den h hn]
  cases q : nOf w with
  | none => have := nOf_none q; simp [this]
  | some m => have : ∃ m, IsN w m := ⟨m, nOf_some q⟩; simp [this]
theorem comp_eight {n : Nat} (hn : n ≤ 1000) (Ω : List OS) : ∀ (ws : List (List Nat)) (x : Sl), (∀ w ∈ ws, Tq n w) → compD (bName 0) gTrue (gCall d_is_eight_bits (gCons (gVar 0) gNil)) (ws.map fun w => D.str (tx w)) [x] Ω = some (ws.map fun w => D.bl (nOf w).isSome, Ω)
  | [], x, _ => rfl
  | w :: ws, x, h => by
    have ih := comp_eight hn Ω ws (.dat (.str (tx w))) fun v hv => h v (List.mem_cons_of_mem _ hv)
    have e := eight_dn (h w List.mem_cons_self) hn Ω
    rw [List.map_cons, List.map_cons]
    unfold compD
    simp [e, ih]
theorem comp_half (Ω : List OS) : ∀ (ws : List (List Nat)) (x : Sl), compD (bName 0) gTrue (gCall d_l_half (gCons (gVar 0) gNil)) (ws.map fun w => D.str (tx w)) [x] Ω = some (ws.map fun w => oD (nOf w), Ω)
  | [], x => rfl
  | w :: ws, x => by
    have ih := comp_half Ω ws (.dat (.str (tx w)))
    have e := half_den w Ω
    rw [List.map_cons, List.map_cons]
    unfold compD
    simp [e, ih]
theorem bls_ws (f : List Nat → Bool) : ∀ ws : List (List Nat), blsD (ws.map fun w => D.bl (f w)) = some (ws.map f)
  | [] => rfl
  | w :: ws => by
    rw [List.map_cons]
    unfold blsD
    rw [bls_ws f ws]
    rfl
theorem all_ws (f : List Nat → Bool) (ws : List (List Nat)) : allD [.lst (ws.map fun w => D.bl (f w))] = some (.bl (ws.all f)) := by
  show (match blsD (ws.map fun w => D.bl (f w)) with | some bs => some (D.bl (bs.all id)) | none => none) = _
  rw [bls_ws]
  simp
/-- what is read of the words -/
noncomputable def rdA (ws : List (List Nat)) : Option Int := match ws with
  | [a, b] => (match nOf a, nOf b with
    | some x, some y => some (256 * x + y)
    | _, _ => none)
  | _ => none
noncomputable def adT : TDen := gOrT (gT (gOp (eqD true) (gCB lenD (gCons (gVar 1) gNil)) (gC (.int 2)))) (gNotT (gT (gCB allD (gCons (gComp [none] (gSeq (gVar 1)) (bName 0) gTrue (gCall d_is_eight_bits (gCons (gVar 0) gNil))) gNil))))
theorem ad_test {n : Nat} (hn : n ≤ 1000) {ws : List (List Nat)} (hw : ∀ w ∈ ws, Tq n w) (hl : ws.length ≤ 2000) (X0 : Sl) (Ω : List OS) : adT [X0, .dat (.lst (ws.map fun w => D.str (tx w)))] Ω = some ((rdA ws).isNone, Ω) := by
  have ec := comp_eight hn Ω ws .und hw
  have ea := all_ws (fun w => (nOf w).isSome) ws
  have g1 : gCB allD (gCons (gComp [none] (gSeq (gVar 1)) (bName 0) gTrue (gCall d_is_eight_bits (gCons (gVar 0) gNil))) gNil) [X0, .dat (.lst (ws.map fun w => D.str (tx w)))] Ω = some (.bl (ws.all fun w => (nOf w).isSome), Ω) := by
    have gi : gSeq (gVar 1) [X0, .dat (.lst (ws.map fun w => D.str (tx w)))] Ω = some (ws.map (fun w => D.str (tx w)), Ω) := by simp
    have ein : innerD [none] [X0, Sl.dat (.lst (ws.map fun w => D.str (tx w)))] = [.und] := rfl
    rw [ap_CB, ap_cons, ap_comp, gi]
    dsimp only
    rw [if_pos (by rw [List.length_map]; omega), ein, ec]
    dsimp only
    rw [ap_nil]
    dsimp only
    rw [ea]
  unfold adT
  by_cases h2 : ws.length = 2
  · obtain ⟨a, b, rfl⟩ : ∃ a b, ws = [a, b] := by
      match ws, h2 with
      | [a, b], _ => exact ⟨a, b, rfl⟩
    have t1 : gT (gOp (eqD true) (gCB lenD (gCons (gVar 1) gNil)) (gC (.int 2))) [X0, .dat (.lst ([a, b].map fun w => D.str (tx w)))] Ω = some (false, Ω) := by simp
    rw [ap_orT, t1]
    dsimp only
    rw [ap_notT, ap_T, g1]
    unfold rdA
    cases qa : nOf a <;> cases qb : nOf b <;> simp [qa, qb]
  · have t1 : gT (gOp (eqD true) (gCB lenD (gCons (gVar 1) gNil)) (gC (.int 2))) [X0, .dat (.lst (ws.map fun w => D.str (tx w)))] Ω = some (true, Ω) := by
      have : ¬ (ws.length : Int) = 2 := by omega
      simp [this]
    rw [ap_orT, t1]
    have : rdA ws = none := by
      unfold rdA
      split
      · simp at h2
      · rfl
    rw [this]
    rfl
theorem raddr_yes {n : Nat} {cs : List Nat} (h : Tq n cs) (hn : n ≤ 1000) {ws : List (List Nat)} (hw : ∀ w ∈ ws, Tq n w) (hl : ws.length ≤ 2000) (es : splD (.str (tx cs)) (.str (tx [46])) = some (.lst (ws.map fun w => D.str (tx w)))) {m : Int} (hm : rdA ws = some m) (Ω : List OS) :
    d_read_address [.str (tx cs)] Ω = some (.int m, Ω) := by
  have et := ad_test hn hw hl (.dat (.str (tx cs))) Ω
  rw [hm] at et
  obtain ⟨a, b, x, y, rfl, hx, hy, rfl⟩ : ∃ a b x y, ws = [a, b] ∧ nOf a = some x ∧ nOf b = some y ∧ m = 256 * x + y := by
    unfold rdA at hm
    split at hm
    · rename_i a b
      split at hm
      · rename_i x y hx hy
        cases hm
        exact ⟨a, b, x, y, rfl, hx, hy, rfl⟩
      · cases hm
    · cases hm
  have ix := (nOf_some hx).1.int
  rw [(nOf_some hx).2] at ix
  have iy := (nOf_some hy).1.int
  rw [(nOf_some hy).2] at iy
  have mm : mulD (.int x) (.int 256) = some (.int (256 * x)) := by rw [Int.mul_comm]; exact mul_i (.inr ⟨by decide, by decide⟩)
  refine run_rt rfl ((seq_nx (ρ' := [.dat (.str (tx cs)), .dat (.lst ([a, b].map fun w => D.str (tx w)))]) (Ω' := Ω) (by rw [tx_dot]; simp [es])).trans ?_)
  refine (seq_nx (ρ' := [.dat (.str (tx cs)), .dat (.lst ([a, b].map fun w => D.str (tx w)))]) (Ω' := Ω) (by rw [ap_sIf, show gOrT _ _ _ _ = _ from et]; rfl)).trans ?_
  simp [ix, iy, mm]
theorem raddr_no {n : Nat} {cs : List Nat} (h : Tq n cs) (hn : n ≤ 1000) {ws : List (List Nat)} (hw : ∀ w ∈ ws, Tq n w) (hl : ws.length ≤ 2000) (es : splD (.str (tx cs)) (.str (tx [46])) = some (.lst (ws.map fun w => D.str (tx w)))) (hm : rdA ws = none) (Ω : List OS) :
    d_read_address [.str (tx cs)] Ω = none ∧ r_read_address [.str (tx cs)] Ω = some (("BadText" : Str), Ω) := by
  have et := ad_test hn hw hl (.dat (.str (tx cs))) Ω
  rw [hm] at et
  have s1 : sSet 1 (gOp splD (gVar 0) (gC (.str "."))) [.dat (.str (tx cs)), .und] Ω = some (.nx [.dat (.str (tx cs)), .dat (.lst (ws.map fun w => D.str (tx w)))] Ω) := by rw [tx_dot]; simp [es]
  constructor
  · have : sSeq (sSet 1 (gOp splD (gVar 0) (gC (.str ".")))) (sSeq (sIf adT sNever sNext) (sRet (gOp addD (gOp mulD (gCB int1S (gCons (gOp ixD (gVar 1) (gC (.int 0))) gNil)) (gC (.int 256))) (gCB int1S (gCons (gOp ixD (gVar 1) (gC (.int 1))) gNil))))) [.dat (.str (tx cs)), .und] Ω = none := by
      rw [seq_nx s1, ap_sSeq, ap_sIf, et]
      rfl
    exact run_no rfl this
  · have : rThen (sSet 1 (gOp splD (gVar 0) (gC (.str ".")))) (rIf adT (rRaiseV "BadText" (pFrs (gVar 0))) rNever) [.dat (.str (tx cs)), .und] Ω = some (("BadText" : Str), [.dat (.str (tx cs)), .dat (.lst (ws.map fun w => D.str (tx w)))], Ω) := by
      rw [ap_rThen, s1]
      dsimp only
      rw [ap_rIf, et]
      show rRaiseV "BadText" (pFrs (gVar 0)) _ Ω = _
      rw [ap_rRaiseV, frs_ok h hn rfl]
    exact runR_ex rfl this
def oV : Option Int → V
  | none => .non
  | some n => .int n
theorem flV_o (o : Option Int) : flV (oD o) = some (oV o) := by cases o <;> rfl
theorem flVs_o : ∀ ws : List (List Nat), flVs (ws.map fun w => oD (nOf w)) = some (ws.map fun w => oV (nOf w))
  | [] => rfl
  | w :: ws => by
    rw [List.map_cons]
    unfold flVs
    rw [flVs_o ws, flV_o]
    rfl
theorem in_o (x y : Option Int) : inV .non [oV x, oV y] = (x.isNone || y.isNone) := by cases x <;> cases y <;> rfl
theorem laddr_den {n : Nat} {cs : List Nat} (hn : n ≤ 1000) {ws : List (List Nat)} (hl : ws.length ≤ 2000) (es : splD (.str (tx cs)) (.str (tx [46])) = some (.lst (ws.map fun w => D.str (tx w)))) (Ω : List OS) :
    d_l_address_of [.str (tx cs)] Ω = some (oD (rdA ws), Ω) := by
  have ec := comp_half Ω ws .und
  refine run_rt rfl ((seq_nx (ρ' := [.dat (.str (tx cs)), .dat (.lst (ws.map fun w => D.str (tx w))), .und]) (Ω' := Ω) (by rw [tx_dot]; simp [es])).trans ?_)
  refine (seq_nx (ρ' := [.dat (.str (tx cs)), .dat (.lst (ws.map fun w => D.str (tx w))), .dat (.lst (ws.map fun w => oD (nOf w)))]) (Ω' := Ω) ?_).trans ?_
  · have gi : gSeq (gVar 1) [.dat (.str (tx cs)), .dat (.lst (ws.map fun w => D.str (tx w))), .und] Ω = some (ws.map (fun w => D.str (tx w)), Ω) := by simp
    have ein : innerD [none] [Sl.dat (.str (tx cs)), Sl.dat (.lst (ws.map fun w => D.str (tx w))), .und] = [.und] := rfl
    rw [ap_set, ap_comp, gi]
    dsimp only
    rw [if_pos (by rw [List.length_map]; omega), ein, ec]
    rfl
  by_cases h2 : ws.length = 2
  · obtain ⟨a, b, rfl⟩ : ∃ a b, ws = [a, b] := by
      match ws, h2 with
      | [a, b], _ => exact ⟨a, b, rfl⟩
    have fl : flVs [oD (nOf a), oD (nOf b)] = some [oV (nOf a), oV (nOf b)] := flVs_o [a, b]
    have er : rdA [a, b] = match nOf a, nOf b with | some x, some y => some (256 * x + y) | _, _ => none := rfl
    rw [er]
    show sSeq _ _ [.dat (.str (tx cs)), .dat (.lst [D.str (tx a), D.str (tx b)]), .dat (.lst [oD (nOf a), oD (nOf b)])] Ω = _
    generalize nOf a = x at *
    generalize nOf b = y at *
    have ei : inLD false .non (.lst [oD x, oD y]) = some (.bl (x.isNone || y.isNone)) := by
      unfold inLD flV seqLD
      dsimp only
      rw [fl]
      dsimp only
      rw [in_o]
      rfl
    cases x with
    | none =>
      refine seq_rt ?_
      simp [ei]
      rfl
    | some x =>
      cases y with
      | none =>
        refine seq_rt ?_
        simp [ei]
        rfl
      | some y =>
        have mm : mulD (.int 256) (.int x) = some (.int (256 * x)) := mul_i (.inl ⟨by decide, by decide⟩)
        refine (seq_nx (ρ' := [.dat (.str (tx cs)), .dat (.lst [D.str (tx a), D.str (tx b)]), .dat (.lst [oD (some x), oD (some y)])]) (Ω' := Ω) (by simp [ei])).trans ?_
        simp [oD, mm]
  · have : ¬ (ws.length : Int) = 2 := by omega
    have e : rdA ws = none := by
      unfold rdA
      split
      · simp at h2
      · rfl
    rw [e]
    refine seq_rt ?_
    simp [this, oD]
end Law
namespace Law
open PySem DL L2
/-! ### beginnings, both ways -/
def bit (c : Nat) : Int := if c = 49 then 1 else 0
def isB (c : Nat) : Bool := decide (c = 48 ∨ c = 49)
def sta (cs : List Nat) : Bool := decide (cs.getLast? = some 42)
def sgs (cs : List Nat) : List Nat := if sta cs = true then cs.take (cs.length - 1) else cs
/-- the form's first look -/
def bad1 (cs : List Nat) : Bool := (sta cs == decide ((sgs cs).length = 16)) || decide ((sgs cs).length > 16)
def fm (cs : List Nat) : Option Bg := if bad1 cs = false ∧ (sgs cs).all isB = true then some (numL ((sgs cs).map bit), ((sgs cs).length : Int)) else none
theorem sgs_q {n : Nat} {cs : List Nat} (h : Tq n cs) : Tq n (sgs cs) := by
  unfold sgs
  split
  · exact ⟨fun c hc => h.lt c (List.mem_of_mem_take hc), by have := h.len; simp; omega⟩
  · exact h
noncomputable def readS : SDen := (sSeq (sIf (gT (gOp (inSD true) (gVar 4) (gC (.str "01")))) sNever sNext) (sSet 3 (gOp addD (gOp mulD (gVar 3) (gC (.int 2))) (gIf (gT (gOp (eqD false) (gVar 4) (gC (.str "1")))) (gC (.int 1)) (gC (.int 0))))))
noncomputable def readR : SRDen := (rIf (gT (gOp (inSD true) (gVar 4) (gC (.str "01")))) (rRaiseV "BadText" (pFrs (gVar 0))) rNever)
theorem in01 (c : Nat) : inSD true (.str (tx [c])) (.str (tx [48, 49])) = some (.bl (!isB c)) := by
  show some (D.bl (!Txt.contains (tx [48, 49]) (tx [c]))) = _
  rw [contains_tx]
  simp [isB]
theorem read_one (X0 X1 X2 : Sl) (Ω : List OS) (m : Int) {c : Nat} (hc : c < 128) (h : isB c = true) : readS [X0, X1, X2, .dat (.int m), .dat (.str (tx [c]))] Ω = some (.nx [X0, X1, X2, .dat (.int (2 * m + bit c)), .dat (.str (tx [c]))] Ω) := by
  have m2 : mulD (.int m) (.int 2) = some (.int (2 * m)) := by rw [Int.mul_comm 2 m]; exact mul_i (.inr ⟨by decide, by decide⟩)
  have ei := in01 c
  rw [h] at ei
  have eq1 := eq_tx false (a := [c]) (b := [49]) (by simp; omega) (by simp)
  unfold readS
  rw [tx_01, tx_1]
  refine (seq_nx (ρ' := [X0, X1, X2, .dat (.int m), .dat (.str (tx [c]))]) (Ω' := Ω) (by simp [ei])).trans ?_
  by_cases q : c = 49
  · subst q
    simp at eq1
    simp [eq1, m2, bit]
  · have : ¬ [c] = [49] := by simpa using q
    rw [if_neg this] at eq1
    simp [eq1, m2, bit, q]
theorem read_bad (X1 X2 X3 : Sl) (Ω : List OS) {n : Nat} {cs : List Nat} (hq : Tq n cs) (hn : n ≤ 1000) {c : Nat} (h : isB c = false) : readS [.dat (.str (tx cs)), X1, X2, X3, .dat (.str (tx [c]))] Ω = none ∧ readR [.dat (.str (tx cs)), X1, X2, X3, .dat (.str (tx [c]))] Ω = some (("BadText" : Str), [.dat (.str (tx cs)), X1, X2, X3, .dat (.str (tx [c]))], Ω) := by
  have ei := in01 c
  rw [h] at ei
  have t1 : gT (gOp (inSD true) (gVar 4) (gC (.str "01"))) [.dat (.str (tx cs)), X1, X2, X3, .dat (.str (tx [c]))] Ω = some (true, Ω) := by
    rw [tx_01]
    simp [ei]
  constructor
  · unfold readS
    rw [ap_sSeq, ap_sIf, t1]
    rfl
  · unfold readR
    rw [ap_rIf, t1]
    show rRaiseV "BadText" (pFrs (gVar 0)) _ Ω = _
    rw [ap_rRaiseV, frs_ok hq hn rfl]
theorem readR_no (X0 X1 X2 X3 : Sl) (Ω : List OS) {c : Nat} (h : isB c = true) : readR [X0, X1, X2, X3, .dat (.str (tx [c]))] Ω = none := by
  have ei := in01 c
  rw [h] at ei
  unfold readR
  rw [tx_01]
  simp [ei]
theorem loop_ok (X0 X1 X2 : Sl) (Ω : List OS) : ∀ (ss : List Nat) (m : Int) (x : Sl), (∀ c ∈ ss, c < 128) → ss.all isB = true → ∃ y : Sl, forD (bName 4) readS (ss.map fun c => D.str (tx [c])) [X0, X1, X2, .dat (.int m), x] Ω = some (.nx [X0, X1, X2, .dat (.int ((ss.map bit).foldl (fun a b => 2 * a + b) m)), y] Ω)
  | [], m, x, _, _ => ⟨x, rfl⟩
  | c :: ss, m, x, h, g => by
    rw [List.all_cons, Bool.and_eq_true] at g
    obtain ⟨y, ih⟩ := loop_ok X0 X1 X2 Ω ss (2 * m + bit c) (.dat (.str (tx [c]))) (fun d hd => h d (List.mem_cons_of_mem _ hd)) g.2
    refine ⟨y, ?_⟩
    rw [List.map_cons, for_cons, ap_bName]
    dsimp only [List.set]
    rw [read_one X0 X1 X2 Ω m (h c List.mem_cons_self) g.1]
    exact ih
theorem loop_bad {n : Nat} {cs : List Nat} (hq : Tq n cs) (hn : n ≤ 1000) (X1 X2 : Sl) (Ω : List OS) : ∀ (ss : List Nat) (m : Int) (x : Sl), (∀ c ∈ ss, c < 128) → ss.all isB = false →
    forD (bName 4) readS (ss.map fun c => D.str (tx [c])) [.dat (.str (tx cs)), X1, X2, .dat (.int m), x] Ω = none ∧ ∃ ρ', forR (bName 4) readS readR (ss.map fun c => D.str (tx [c])) [.dat (.str (tx cs)), X1, X2, .dat (.int m), x] Ω = some (("BadText" : Str), ρ', Ω)
  | [], m, x, _, g => by simp at g
  | c :: ss, m, x, h, g => by
    rw [List.map_cons, for_cons, forR_cons, ap_bName]
    dsimp only [List.set]
    by_cases hc : isB c = true
    · rw [List.all_cons, hc, Bool.true_and] at g
      obtain ⟨i1, ρ', i2⟩ := loop_bad hq hn X1 X2 Ω ss (2 * m + bit c) (.dat (.str (tx [c]))) (fun d hd => h d (List.mem_cons_of_mem _ hd)) g
      rw [read_one (.dat (.str (tx cs))) X1 X2 Ω m (h c List.mem_cons_self) hc, readR_no (.dat (.str (tx cs))) X1 X2 (.dat (.int m)) Ω hc]
      exact ⟨i1, ρ', i2⟩
    · have hc' : isB c = false := by simpa using hc
      obtain ⟨b1, b2⟩ := read_bad X1 X2 (.dat (.int m)) Ω hq hn hc'
      rw [b1, b2]
      exact ⟨rfl, _, rfl⟩
noncomputable def b1T : TDen := (gOrT (gT (gOp (eqD false) (gVar 1) (gOp (eqD false) (gCB lenD (gCons (gVar 2) gNil)) (gC (.int 16))))) (gT (gOp gtD (gCB lenD (gCons (gVar 2) gNil)) (gC (.int 16)))))
theorem b1_test {n : Nat} {cs : List Nat} (hq : Tq n cs) (hn : n ≤ 1000) (X0 X3 X4 : Sl) (Ω : List OS) : b1T [X0, .dat (.bl (sta cs)), .dat (.str (tx (sgs cs))), X3, X4] Ω = some (bad1 cs, Ω) := by
  have hl := (sgs_q hq).len
  have el := len_tx (cs := sgs cs) (by omega)
  unfold b1T bad1
  have c1 : ((sgs cs).length > 16) ↔ (16 : Int) < ((sgs cs).length : Int) := by omega
  have c2 : ((sgs cs).length = 16) ↔ ((sgs cs).length : Int) = 16 := by omega
  have e1 : decide ((sgs cs).length > 16) = decide ((16 : Int) < ((sgs cs).length : Int)) := decide_eq_decide.mpr c1
  have e2 : decide ((sgs cs).length = 16) = decide (((sgs cs).length : Int) = 16) := decide_eq_decide.mpr c2
  rw [e1, e2]
  cases hs : sta cs <;> by_cases h16 : ((sgs cs).length : Int) = 16 <;> simp [el, h16]
theorem rb_head {n : Nat} {cs : List Nat} (hq : Tq n cs) (hn : n ≤ 1000) (Ω : List OS) (x2 x3 x4 : Sl) : sSet 1 (gOp endsD (gVar 0) (gC (.str "*"))) [.dat (.str (tx cs)), .und, x2, x3, x4] Ω = some (.nx [.dat (.str (tx cs)), .dat (.bl (sta cs)), x2, x3, x4] Ω) ∧
    sSet 2 (gIf (gT (gVar 1)) (gSlS (gVar 0) gNoPart (gPart (gNeg (gC (.int 1))))) (gVar 0)) [.dat (.str (tx cs)), .dat (.bl (sta cs)), x2, x3, x4] Ω = some (.nx [.dat (.str (tx cs)), .dat (.bl (sta cs)), .dat (.str (tx (sgs cs))), x3, x4] Ω) := by
  have hl := hq.len
  constructor
  · have := ends_all cs 42
    rw [tx_star]
    simp [this, sta]
  · have es := slS_tx (cs := cs) (by omega) none (some (-1))
    rw [cut_init] at es
    have gs : gSlS (gVar 0) gNoPart (gPart (gNeg (gC (.int 1)))) [.dat (.str (tx cs)), .dat (.bl (sta cs)), x2, x3, x4] Ω = some (.str (tx (cs.take (cs.length - 1))), Ω) := by
      unfold gSlS
      simp [es]
    cases hs : sta cs with
    | false => simp [sgs, hs]
    | true =>
      rw [hs] at gs
      simp [gs, sgs, hs]
theorem rbeg_yes {n : Nat} {cs : List Nat} (hq : Tq n cs) (hn : n ≤ 1000) {k : Bg} (hk : fm cs = some k) (Ω : List OS) : d_read_beginning [.str (tx cs)] Ω = some (bD k, Ω) := by
  unfold fm at hk
  split at hk
  · rename_i hg
    cases hk
    have hs := sgs_q hq
    have hl := hs.len
    obtain ⟨s1, s2⟩ := rb_head hq hn Ω .und .und .und
    have et := b1_test hq hn (.dat (.str (tx cs))) .und .und Ω
    rw [hg.1] at et
    obtain ⟨y, el⟩ := loop_ok (.dat (.str (tx cs))) (.dat (.bl (sta cs))) (.dat (.str (tx (sgs cs)))) Ω (sgs cs) 0 .und hs.lt hg.2
    have en := len_tx (cs := sgs cs) (by omega)
    refine run_rt rfl ((seq_nx s1).trans ((seq_nx s2).trans ?_))
    refine (seq_nx (ρ' := [.dat (.str (tx cs)), .dat (.bl (sta cs)), .dat (.str (tx (sgs cs))), .und, .und]) (Ω' := Ω) (by rw [ap_sIf, show gOrT _ _ _ _ = _ from et]; rfl)).trans ?_
    refine (seq_nx (ρ' := [.dat (.str (tx cs)), .dat (.bl (sta cs)), .dat (.str (tx (sgs cs))), .dat (.int 0), .und]) (Ω' := Ω) (by simp)).trans ?_
    refine (seq_nx (ρ' := [.dat (.str (tx cs)), .dat (.bl (sta cs)), .dat (.str (tx (sgs cs))), .dat (.int (numL ((sgs cs).map bit))), y]) (Ω' := Ω) ?_).trans ?_
    · have gt : gTx (gVar 2) [.dat (.str (tx cs)), .dat (.bl (sta cs)), .dat (.str (tx (sgs cs))), .dat (.int 0), .und] Ω = some ((sgs cs).map (fun c => D.str (tx [c])), Ω) := by
        unfold gTx
        simp [signs_tx]
      rw [ap_for, gt]
      exact el
    · simp [en, bD]
  · cases hk
theorem rbeg_no {n : Nat} {cs : List Nat} (hq : Tq n cs) (hn : n ≤ 1000) (hk : fm cs = none) (Ω : List OS) : d_read_beginning [.str (tx cs)] Ω = none ∧ r_read_beginning [.str (tx cs)] Ω = some (("BadText" : Str), Ω) := by
  have hs := sgs_q hq
  obtain ⟨s1, s2⟩ := rb_head hq hn Ω .und .und .und
  have et := b1_test hq hn (.dat (.str (tx cs))) .und .und Ω
  cases hb : bad1 cs with
  | true =>
    rw [hb] at et
    constructor
    · have : ∀ t : SDen, sSeq (sSet 1 (gOp endsD (gVar 0) (gC (.str "*")))) (sSeq (sSet 2 (gIf (gT (gVar 1)) (gSlS (gVar 0) gNoPart (gPart (gNeg (gC (.int 1))))) (gVar 0))) (sSeq (sIf b1T sNever sNext) t)) [.dat (.str (tx cs)), .und, .und, .und, .und] Ω = none := fun t => by
        rw [seq_nx s1, seq_nx s2, ap_sSeq, ap_sIf, et]
        rfl
      exact run_no rfl (this _)
    · have : ∀ t : SRDen, rThen (sSet 1 (gOp endsD (gVar 0) (gC (.str "*")))) (rThen (sSet 2 (gIf (gT (gVar 1)) (gSlS (gVar 0) gNoPart (gPart (gNeg (gC (.int 1))))) (gVar 0))) (rOr (rIf b1T (rRaiseV "BadText" (pFrs (gVar 0))) rNever) t)) [.dat (.str (tx cs)), .und, .und, .und, .und] Ω = some (("BadText" : Str), [.dat (.str (tx cs)), .dat (.bl (sta cs)), .dat (.str (tx (sgs cs))), .und, .und], Ω) := fun t => by
        rw [ap_rThen, s1]
        dsimp only
        rw [ap_rThen, s2]
        dsimp only
        rw [ap_rOr, ap_rIf, et]
        dsimp only
        rw [ap_rRaiseV, frs_ok hq hn rfl]
      exact runR_ex rfl (this _)
  | false =>
    rw [hb] at et
    have hall : (sgs cs).all isB = false := by
      unfold fm at hk
      split at hk
      · cases hk
      · rename_i z
        cases h : (sgs cs).all isB with
        | false => rfl
        | true => exact absurd ⟨hb, h⟩ z
    obtain ⟨l1, ρ', l2⟩ := loop_bad hq hn (.dat (.bl (sta cs))) (.dat (.str (tx (sgs cs)))) Ω (sgs cs) 0 .und hs.lt hall
    have gt : gTx (gVar 2) [.dat (.str (tx cs)), .dat (.bl (sta cs)), .dat (.str (tx (sgs cs))), .dat (.int 0), .und] Ω = some ((sgs cs).map (fun c => D.str (tx [c])), Ω) := by
      unfold gTx
      simp [signs_tx]
    have s3 : sIf b1T sNever sNext [.dat (.str (tx cs)), .dat (.bl (sta cs)), .dat (.str (tx (sgs cs))), .und, .und] Ω = some (.nx [.dat (.str (tx cs)), .dat (.bl (sta cs)), .dat (.str (tx (sgs cs))), .und, .und] Ω) := by
      rw [ap_sIf, et]
      rfl
    have s4 : sSet 3 (gC (.int 0)) [.dat (.str (tx cs)), .dat (.bl (sta cs)), .dat (.str (tx (sgs cs))), .und, .und] Ω = some (.nx [.dat (.str (tx cs)), .dat (.bl (sta cs)), .dat (.str (tx (sgs cs))), .dat (.int 0), .und] Ω) := by simp
    constructor
    · have : ∀ t : SDen, sSeq (sSet 1 (gOp endsD (gVar 0) (gC (.str "*")))) (sSeq (sSet 2 (gIf (gT (gVar 1)) (gSlS (gVar 0) gNoPart (gPart (gNeg (gC (.int 1))))) (gVar 0))) (sSeq (sIf b1T sNever sNext) (sSeq (sSet 3 (gC (.int 0))) (sSeq (sFor (gTx (gVar 2)) (bName 4) readS) t)))) [.dat (.str (tx cs)), .und, .und, .und, .und] Ω = none := fun t => by
        rw [seq_nx s1, seq_nx s2, seq_nx s3, seq_nx s4, ap_sSeq, ap_for, gt]
        dsimp only
        rw [l1]
      exact run_no rfl (this _)
    · have : rThen (sSet 1 (gOp endsD (gVar 0) (gC (.str "*")))) (rThen (sSet 2 (gIf (gT (gVar 1)) (gSlS (gVar 0) gNoPart (gPart (gNeg (gC (.int 1))))) (gVar 0))) (rOr (rIf b1T (rRaiseV "BadText" (pFrs (gVar 0))) rNever) (rThen (sIf b1T sNever sNext) (rThen (sSet 3 (gC (.int 0))) (rFor (gTx (gVar 2)) (bName 4) readS readR))))) [.dat (.str (tx cs)), .und, .und, .und, .und] Ω = some (("BadText" : Str), ρ', Ω) := by
        rw [ap_rThen, s1]
        dsimp only
        rw [ap_rThen, s2]
        dsimp only
        rw [ap_rOr, ap_rIf, et]
        dsimp only [ap_rNever]
        rw [ap_rNever]
        dsimp only
        rw [ap_rThen, s3]
        dsimp only
        rw [ap_rThen, s4]
        dsimp only
        rw [ap_rFor, gt]
        exact l2
      exact runR_ex rfl this
/-! the law's own reading -/
theorem comp_non (Ω : List OS) : ∀ (ss : List Nat) (x : Sl), compD (bName 0) (gT (gOp (inLD true) (gVar 0) (gTup (gCons (gC (.str (tx [48]))) (gCons (gC (.str (tx [49]))) gNil))))) (gVar 0) (ss.map fun c => D.str (tx [c])) [x] Ω = some ((ss.filter fun c => !isB c).map (fun c => D.str (tx [c])), Ω)
  | [], x => rfl
  | c :: ss, x => by
    have ih := comp_non Ω ss (.dat (.str (tx [c])))
    have ei : inLD true (.str (tx [c])) (.tup [.str (tx [48]), .str (tx [49])]) = some (.bl (!isB c)) := by
      show some (D.bl (!(eqV (.str (tx [48])) (.str (tx [c])) || (eqV (.str (tx [49])) (.str (tx [c])) || false)))) = _
      have e1 : eqV (.str (tx [48])) (.str (tx [c])) = decide (c = 48) := by
        show (tx [48] == tx [c]) = _
        by_cases q : c = 48
        · subst q; simp
        · have : ¬ tx [48] = tx [c] := fun z => q (by have := tx_inj z; simpa using this.symm)
          simp [q, this]
      have e2 : eqV (.str (tx [49])) (.str (tx [c])) = decide (c = 49) := by
        show (tx [49] == tx [c]) = _
        by_cases q : c = 49
        · subst q; simp
        · have : ¬ tx [49] = tx [c] := fun z => q (by have := tx_inj z; simpa using this.symm)
          simp [q, this]
      rw [e1, e2]
      simp [isB]
    rw [List.map_cons]
    unfold compD
    cases hb : isB c with
    | true =>
      rw [hb] at ei
      rw [List.filter_cons_of_neg (by simp [hb])]
      simp [ei, ih]
    | false =>
      rw [hb] at ei
      rw [List.filter_cons_of_pos (by simp [hb])]
      simp [ei, ih]
theorem comp_bit (Ω : List OS) : ∀ (ss : List Nat) (x : Sl), (∀ c ∈ ss, c < 128) → compD (bName 0) gTrue (gCB int1D (gCons (gOp (eqD false) (gVar 0) (gC (.str (tx [49])))) gNil)) (ss.map fun c => D.str (tx [c])) [x] Ω = some ((ss.map bit).map D.int, Ω)
  | [], x, _ => rfl
  | c :: ss, x, h => by
    have ih := comp_bit Ω ss (.dat (.str (tx [c]))) fun d hd => h d (List.mem_cons_of_mem _ hd)
    have eq1 := eq_tx false (a := [c]) (b := [49]) (by have := h c List.mem_cons_self; simp; omega) (by simp)
    rw [List.map_cons, List.map_cons, List.map_cons]
    unfold compD
    by_cases q : c = 49
    · subst q
      simp at eq1
      simp [eq1, ih, bit]
    · have : ¬ [c] = [49] := by simpa using q
      rw [if_neg this] at eq1
      simp [eq1, ih, bit, q]
def bgD : Option Bg → D
  | none => .non
  | some k => bD k
end Law
namespace Law
open PySem DL L2
theorem bitsof_den {n : Nat} {cs : List Nat} (hq : Tq n cs) (hn : n ≤ 1000) (Ω : List OS) : d_l_bits_of [.str (tx cs)] Ω = some (bgD (fm cs), Ω) := by
  have hl := hq.len
  have hs := sgs_q hq
  have hsl := hs.len
  have es1 := slS_tx (cs := cs) (by omega) (some (-1)) none
  rw [cut_last] at es1
  have es2 := slS_tx (cs := cs) (by omega) none (some (-1))
  rw [cut_init] at es2
  have g1 : gSlS (gVar 0) (gPart (gNeg (gC (.int 1)))) gNoPart [.dat (.str (tx cs)), .dat (.str (tx cs))] Ω = some (.str (tx (cs.drop (cs.length - 1))), Ω) := by
    unfold gSlS
    simp [es1]
  have g2 : gSlS (gVar 0) gNoPart (gPart (gNeg (gC (.int 1)))) [.dat (.str (tx cs)), .dat (.str (tx cs))] Ω = some (.str (tx (cs.take (cs.length - 1))), Ω) := by
    unfold gSlS
    simp [es2]
  have eqs := eq_tx false (a := cs.drop (cs.length - 1)) (b := [42]) (fun c hc => hq.small c (List.mem_of_mem_drop hc)) (by simp)
  have hst : (cs.drop (cs.length - 1) = [42]) ↔ sta cs = true := by
    unfold sta
    rcases last_cases cs with rfl | ⟨a, d, rfl⟩
    · simp
    · simp
  refine run_rt rfl ((seq_nx (ρ' := [.dat (.str (tx cs)), .dat (.str (tx cs))]) (Ω' := Ω) (by simp)).trans ?_)
  refine (seq_nx (ρ' := [.dat (.str (tx cs)), .dat (.str (tx (sgs cs)))]) (Ω' := Ω) ?_).trans ?_
  · rw [tx_star]
    cases h : sta cs with
    | true =>
      rw [if_pos (hst.mpr h)] at eqs
      simp [g1, g2, eqs, sgs, h]
    | false =>
      rw [if_neg (fun z => by rw [hst.mp z] at h; cases h)] at eqs
      simp [g1, eqs, sgs, h]
  have gt : gTx (gVar 1) [.dat (.str (tx cs)), .dat (.str (tx (sgs cs)))] Ω = some ((sgs cs).map (fun c => D.str (tx [c])), Ω) := by
    unfold gTx
    simp [signs_tx]
  have ein : innerD [none] [Sl.dat (.str (tx cs)), .dat (.str (tx (sgs cs)))] = [.und] := rfl
  have gc : gComp [none] (gTx (gVar 1)) (bName 0) (gT (gOp (inLD true) (gVar 0) (gTup (gCons (gC (.str (tx [48]))) (gCons (gC (.str (tx [49]))) gNil))))) (gVar 0) [.dat (.str (tx cs)), .dat (.str (tx (sgs cs)))] Ω = some (.lst (((sgs cs).filter fun c => !isB c).map fun c => D.str (tx [c])), Ω) := by
    rw [ap_comp, gt]
    dsimp only
    rw [if_pos (by rw [List.length_map]; omega), ein, comp_non]
  have plN : ∀ l : List Nat, (∀ c ∈ l, c < 1000) → pl (.lst (l.map fun c => D.str (tx [c]))) = true ∧ dep (.lst (l.map fun c => D.str (tx [c]))) ≤ 64 := fun l h => by
    have a : ∀ l : List Nat, (∀ c ∈ l, c < 1000) → plL (l.map fun c => D.str (tx [c])) = true ∧ depL (l.map fun c => D.str (tx [c])) ≤ 1 := fun l => by
      induction l with
      | nil => intro _; simp [plL, depL]
      | cons c l ih =>
        intro h
        obtain ⟨i1, i2⟩ := ih fun d hd => h d (List.mem_cons_of_mem _ hd)
        have := pl_tx (cs := [c]) (by simpa using h c List.mem_cons_self)
        refine ⟨by simp [plL, i1, this.1], ?_⟩
        simp [depL, dep]
        omega
    obtain ⟨a1, a2⟩ := a l h
    rw [pl, dep]
    exact ⟨a1, by omega⟩
  have e0 : ((("0" : String) : Str)) = tx [48] := by decide +kernel
  rw [e0, tx_1]
  cases hall : (sgs cs).all isB with
  | false =>
    have hf : fm cs = none := by unfold fm; rw [if_neg (fun z => by rw [hall] at z; cases z.2)]
    rw [hf]
    have ne : ((sgs cs).filter fun c => !isB c) ≠ [] := fun z => by
      rw [List.filter_eq_nil_iff] at z
      have : (sgs cs).all isB = true := List.all_eq_true.mpr fun c hc => by simpa using z c hc
      rw [this] at hall
      cases hall
    obtain ⟨p1, p2⟩ := plN ((sgs cs).filter fun c => !isB c) fun c hc => hs.small c (List.mem_filter.mp hc).1
    have eq1 := eq_ne_pl true p1 (show pl (.lst []) = true by simp [pl, plL]) p2 (show dep (.lst []) ≤ 64 by simp [dep, depL]) (by simpa using ne)
    refine seq_rt ?_
    have t1 : gT (gOp (eqD true) (gComp [none] (gTx (gVar 1)) (bName 0) (gT (gOp (inLD true) (gVar 0) (gTup (gCons (gC (.str (tx [48]))) (gCons (gC (.str (tx [49]))) gNil))))) (gVar 0)) (gLst gNil)) [.dat (.str (tx cs)), .dat (.str (tx (sgs cs)))] Ω = some (true, Ω) := by
      rw [ap_T, ap_op, gc]
      simp [eq1]
    rw [ap_sIf, t1]
    rfl
  | true =>
    have e : ((sgs cs).filter fun c => !isB c) = [] := by
      rw [List.filter_eq_nil_iff]
      intro c hc
      simpa using List.all_eq_true.mp hall c hc
    rw [e] at gc
    have eq1 := eq_self_pl true (show pl (.lst []) = true by simp [pl, plL]) (show dep (.lst []) ≤ 64 by simp [dep, depL])
    have t1 : gT (gOp (eqD true) (gComp [none] (gTx (gVar 1)) (bName 0) (gT (gOp (inLD true) (gVar 0) (gTup (gCons (gC (.str (tx [48]))) (gCons (gC (.str (tx [49]))) gNil))))) (gVar 0)) (gLst gNil)) [.dat (.str (tx cs)), .dat (.str (tx (sgs cs)))] Ω = some (false, Ω) := by
      rw [ap_T, ap_op, gc]
      simp [eq1]
    refine (seq_nx (ρ' := [.dat (.str (tx cs)), .dat (.str (tx (sgs cs)))]) (Ω' := Ω) (by rw [ap_sIf, t1]; rfl)).trans ?_
    have el := len_tx (cs := sgs cs) (by omega)
    have eqf := eq_tx false (a := sgs cs) (b := cs) hs.small hq.small
    have eqt := eq_tx true (a := sgs cs) (b := cs) hs.small hq.small
    have same : sgs cs = cs ↔ sta cs = false := by
      unfold sgs
      cases h : sta cs with
      | false => simp
      | true =>
        have : cs ≠ [] := fun z => by rw [z] at h; simp [sta] at h
        have : cs.length ≠ 0 := fun z => this (List.length_eq_zero_iff.mp z)
        simp
        intro z
        have := congrArg List.length z
        simp at this
        omega
    have bt : gOrT (gAndT (gT (gOp (eqD false) (gVar 1) (gVar 0))) (gT (gOp (eqD true) (gCB lenD (gCons (gVar 1) gNil)) (gC (.int 16))))) (gAndT (gT (gOp (eqD true) (gVar 1) (gVar 0))) (gT (gOp gtD (gCB lenD (gCons (gVar 1) gNil)) (gC (.int 15))))) [.dat (.str (tx cs)), .dat (.str (tx (sgs cs)))] Ω = some (bad1 cs, Ω) := by
      cases h : sta cs with
      | false =>
        rw [if_pos (same.mpr h)] at eqf eqt
        by_cases h16 : (sgs cs).length = 16
        · have : ((sgs cs).length : Int) = 16 := by omega
          simp [eqf, eqt, el, this, bad1, h, h16]
        · have : ¬ ((sgs cs).length : Int) = 16 := by omega
          simp [eqf, el, this, bad1, h, h16]
      | true =>
        have ns : ¬ sgs cs = cs := fun z => by rw [same.mp z] at h; cases h
        rw [if_neg ns] at eqf eqt
        by_cases h15 : (sgs cs).length > 15
        · have : (15 : Int) < ((sgs cs).length : Int) := by omega
          have hb : bad1 cs = true := by
            unfold bad1
            rw [h]
            by_cases h16 : (sgs cs).length = 16
            · simp [h16]
            · have : (sgs cs).length > 16 := by omega
              simp [this]
          simp [eqf, eqt, el, this, hb]
        · have : ¬ (15 : Int) < ((sgs cs).length : Int) := by omega
          have hb : bad1 cs = false := by
            unfold bad1
            rw [h]
            have a1 : ¬ (sgs cs).length = 16 := by omega
            have a2 : ¬ (sgs cs).length > 16 := by omega
            simp [a1, a2]
          simp [eqf, eqt, el, this, hb]
    cases hb : bad1 cs with
    | true =>
      have hf : fm cs = none := by unfold fm; rw [if_neg (fun z => by rw [hb] at z; cases z.1)]
      rw [hf]
      rw [hb] at bt
      exact seq_rt (by rw [ap_sIf, bt]; rfl)
    | false =>
      have hf : fm cs = some (numL ((sgs cs).map bit), ((sgs cs).length : Int)) := by unfold fm; rw [if_pos ⟨hb, hall⟩]
      rw [hf]
      rw [hb] at bt
      refine (seq_nx (ρ' := [.dat (.str (tx cs)), .dat (.str (tx (sgs cs)))]) (Ω' := Ω) (by rw [ap_sIf, bt]; rfl)).trans ?_
      have gb : gComp [none] (gTx (gVar 1)) (bName 0) gTrue (gCB int1D (gCons (gOp (eqD false) (gVar 0) (gC (.str (tx [49])))) gNil)) [.dat (.str (tx cs)), .dat (.str (tx (sgs cs)))] Ω = some (.lst (((sgs cs).map bit).map D.int), Ω) := by
        rw [ap_comp, gt]
        dsimp only
        rw [if_pos (by rw [List.length_map]; omega), ein, comp_bit Ω _ _ hs.lt]
      have nd := num_den ((sgs cs).map bit) Ω
      have gcl : gCall d_l_number (gCons (gComp [none] (gTx (gVar 1)) (bName 0) gTrue (gCB int1D (gCons (gOp (eqD false) (gVar 0) (gC (.str (tx [49])))) gNil))) gNil) [.dat (.str (tx cs)), .dat (.str (tx (sgs cs)))] Ω = some (.int (numL ((sgs cs).map bit)), Ω) := by
        rw [ap_call, ap_cons, gb]
        dsimp only
        rw [ap_nil]
        exact nd
      rw [ap_ret, ap_tup, ap_cons, gcl]
      simp [el, bgD, bD]
end Law
namespace Law
open PySem DL L2
def sg (b : Int) : Nat := if b = 1 then 49 else 48
theorem sg_two (b : Int) : sg b = 48 ∨ sg b = 49 := by unfold sg; split <;> simp
/-- a beginning's text -/
def shw (k : Bg) : List Nat := if k.2 = 16 then (bitsL k.1 k.2.toNat).map sg else (bitsL k.1 k.2.toNat).map sg ++ [42]
theorem lshow_comp (Ω : List OS) : ∀ (bs : List Int) (x : Sl), (∀ b ∈ bs, b = 0 ∨ b = 1) → compD (bName 0) gTrue (gOp ixD (gC (.str (tx [48, 49]))) (gVar 0)) (bs.map D.int) [x] Ω = some ((bs.map sg).map (fun c => D.str (tx [c])), Ω)
  | [], x, _ => rfl
  | b :: bs, x, h => by
    have ih := lshow_comp Ω bs (.dat (.int b)) fun c hc => h c (List.mem_cons_of_mem _ hc)
    have e : ixD (.str (tx [48, 49])) (.int b) = some (.str (tx [sg b])) := by
      rcases h b List.mem_cons_self with rfl | rfl
      · rfl
      · rfl
    rw [List.map_cons]
    unfold compD
    simp [e, ih]
theorem lshown_den {k : Bg} (h : Be k) (Ω : List OS) : d_l_shown [bD k] Ω = some (.str (tx (shw k)), Ω) := by
  have h0 := h.s0
  have h1 := h.s1
  have e1 : d_l_bits [.int k.1, .int k.2] Ω = some (.lst ((bitsL k.1 k.2.toNat).map D.int), Ω) := by
    have := bits_den k.1 k.2.toNat (by omega) Ω
    rwa [show ((k.2.toNat : Nat) : Int) = k.2 by omega] at this
  have ec := lshow_comp Ω (bitsL k.1 k.2.toNat) .und (bitsL_bit _ _)
  have ej := joinD_ones (cs := (bitsL k.1 k.2.toNat).map sg) (by simp; omega)
  have ll : k.2.toNat ≤ 100000 := by omega
  refine run_rt rfl ((seq_nx (ρ' := [.dat (bD k), .dat (.lst (((bitsL k.1 k.2.toNat).map sg).map fun c => D.str (tx [c])))]) (Ω' := Ω) ?_).trans ?_)
  · rw [tx_01]
    show sSet 1 _ [.dat (bD k), .und] Ω = _
    rw [ap_set, ap_comp]
    have gi : gSeq (gCall d_l_bits (gCons (gOp ixD (gVar 0) (gC (.int 0))) (gCons (gOp ixD (gVar 0) (gC (.int 1))) gNil))) [.dat (bD k), .und] Ω = some ((bitsL k.1 k.2.toNat).map D.int, Ω) := by simp [e1]
    rw [gi]
    dsimp only
    rw [if_pos (by simpa using ll)]
    show (match (match compD _ _ _ _ [.und] Ω with | some (ys, Ω2) => some (D.lst ys, Ω2) | none => none) with | some (d, Ω') => _ | none => _) = _
    rw [ec]
    rfl
  · unfold shw
    rw [tx_nil, tx_star]
    have a1 := addD_tx (a := (bitsL k.1 k.2.toNat).map sg) (b := []) (by simp; omega)
    have a2 := addD_tx (a := (bitsL k.1 k.2.toNat).map sg) (b := [42]) (by simp; omega)
    rw [List.append_nil] at a1
    generalize (bitsL k.1 k.2.toNat).map sg = cs at *
    simp only [ap_ret, ap_op, ap_c, ap_var, ap_lst, ap_cons, ap_nil, ap_CB, List.getElem?_cons_zero, List.getElem?_cons_succ, ej, ix_bD1, eq_int_int]
    by_cases h16 : k.2 = 16
    · simp [h16, a1]
    · simp [h16, a2]
theorem taddr_den {a : Int} (h0 : 0 ≤ a) (h1 : a ≤ 65535) (Ω : List OS) : d_l_address_text [.int a] Ω = some (.str (tx (dg (a / 256) ++ 46 :: dg (a % 256))), Ω) := by
  have E1 : Eight (a / 256) := ⟨by omega, by omega⟩
  have E2 : Eight (a % 256) := ⟨by omega, by omega⟩
  have g1 := E1.dg
  have g2 := E2.dg
  have s1 := E1.str
  have s2 := E2.str
  have a1 := addD_tx (a := dg (a / 256)) (b := [46]) (by simp; omega)
  have a2 := addD_tx (a := dg (a / 256) ++ [46]) (b := dg (a % 256)) (by simp; omega)
  have ee : dg (a / 256) ++ [46] ++ dg (a % 256) = dg (a / 256) ++ 46 :: dg (a % 256) := by simp
  rw [ee] at a2
  refine run_rt rfl ?_
  rw [tx_dot]
  simp [s1, s2, a1, a2]
end Law
namespace Law
open PySem DL L2
/-! ### told -/
theorem told0_den {n : Nat} {cs : List Nat} (hq : Tq n cs) (hn : n ≤ 1000) (Ω : List OS) : ∃ Ω', d_l_told [.int 0, .str (tx cs)] Ω = some (bgD (fm cs), Ω') := by
  cases hk : fm cs with
  | some k =>
    have e := rbeg_yes hq hn hk Ω
    refine ⟨Ω, run_rt rfl (try_rt (seq_rt ?_))⟩
    simp [e, bgD]
  | none =>
    obtain ⟨e1, e2⟩ := rbeg_no hq hn hk Ω
    refine ⟨Ω ++ [.exc "BadText"], run_rt rfl (try_ex (c := "BadText") (ρ1 := [.dat (.int 0), .dat (.str (tx cs)), .und]) (Ω1 := Ω) ?_ ?_ ?_ ?_)⟩
    · simp [e1]
    · simp [e2]
    · decide
    · simp [xt_0, xt_1, xt_2, bgD]
theorem told1_den {n : Nat} {cs : List Nat} (hq : Tq n cs) (hn : n ≤ 1000) {ws : List (List Nat)} (hw : ∀ w ∈ ws, Tq n w) (hl : ws.length ≤ 2000) (es : splD (.str (tx cs)) (.str (tx [46])) = some (.lst (ws.map fun w => D.str (tx w)))) (Ω : List OS) : ∃ Ω', d_l_told [.int 1, .str (tx cs)] Ω = some (oD (rdA ws), Ω') := by
  cases hk : rdA ws with
  | some k =>
    have e := raddr_yes hq hn hw hl es hk Ω
    refine ⟨Ω, run_rt rfl (try_rt ?_)⟩
    refine (seq_nx (ρ' := [.dat (.int 1), .dat (.str (tx cs)), .und]) (Ω' := Ω) (by simp)).trans ?_
    simp [e, oD]
  | none =>
    obtain ⟨e1, e2⟩ := raddr_no hq hn hw hl es hk Ω
    refine ⟨Ω ++ [.exc "BadText"], run_rt rfl (try_ex (c := "BadText") (ρ1 := [.dat (.int 1), .dat (.str (tx cs)), .und]) (Ω1 := Ω) ?_ ?_ ?_ ?_)⟩
    · simp [e1]
    · simp [e2]
    · decide
    · simp [xt_0, xt_1, xt_2, oD]
theorem eq_bg (o : Option Bg) : eqD true (bgD o) (bgD o) = some (.bl false) := by
  cases o with
  | none => exact eq_self_pl true (by simp [bgD, pl]) (by simp [bgD, dep])
  | some k => exact eq_self_pl true (pl_bD k) (dep_bD k)
theorem eq_oD (o : Option Int) : eqD true (oD o) (oD o) = some (.bl false) := by
  cases o with
  | none => exact eq_self_pl true (by simp [oD, pl]) (by simp [oD, dep])
  | some k => exact eq_self_pl true (by simp [oD, pl]) (by simp [oD, dep])
noncomputable def eachT : SDen := (sIf (gOrT (gT (gOp (eqD true) (gCall d_l_told (gCons (gC (.int 0)) (gCons (gVar 6) gNil))) (gCall d_l_bits_of (gCons (gVar 6) gNil)))) (gT (gOp (eqD true) (gCall d_l_told (gCons (gC (.int 1)) (gCons (gVar 6) gNil))) (gCall d_l_address_of (gCons (gVar 6) gNil))))) (sRet (gC (.bl false))) sNext)
theorem each_text {n : Nat} {cs : List Nat} (hq : Tq n cs) (hn : n ≤ 1000) (X0 X1 X2 X3 X4 X5 : Sl) (Ω : List OS) : ∃ Ω', eachT [X0, X1, X2, X3, X4, X5, .dat (.str (tx cs))] Ω = some (.nx [X0, X1, X2, X3, X4, X5, .dat (.str (tx cs))] Ω') := by
  obtain ⟨ws, hw, hl, es⟩ := split_tx hq hn
  obtain ⟨Ω1, e1⟩ := told0_den hq hn Ω
  have e2 := bitsof_den hq hn Ω1
  obtain ⟨Ω2, e3⟩ := told1_den hq hn hw hl es Ω1
  have e4 := laddr_den hn hl es Ω2
  refine ⟨Ω2, ?_⟩
  unfold eachT
  simp [e1, e2, eq_bg, e3, e4, eq_oD]
theorem each_loop {n : Nat} (hn : n ≤ 1000) (X0 X1 X2 X3 X4 X5 : Sl) : ∀ (ts : List (List Nat)) (x : Sl) (Ω : List OS), (∀ t ∈ ts, Tq n t) → ∃ (y : Sl) (Ω' : List OS), forD (bName 6) eachT (ts.map fun t => D.str (tx t)) [X0, X1, X2, X3, X4, X5, x] Ω = some (.nx [X0, X1, X2, X3, X4, X5, y] Ω')
  | [], x, Ω, _ => ⟨x, Ω, rfl⟩
  | t :: ts, x, Ω, h => by
    obtain ⟨Ω1, e1⟩ := each_text (h t List.mem_cons_self) hn X0 X1 X2 X3 X4 X5 Ω
    obtain ⟨y, Ω2, e2⟩ := each_loop hn X0 X1 X2 X3 X4 X5 ts (.dat (.str (tx t))) Ω1 fun u hu => h u (List.mem_cons_of_mem _ hu)
    refine ⟨y, Ω2, ?_⟩
    rw [List.map_cons, for_cons, ap_bName]
    dsimp only [List.set]
    rw [e1]
    exact e2
/-! ### signs, odd texts, spoilt ones -/
theorem ix_tx {cs : List Nat} (h : ∀ c ∈ cs, c < 128) (hl : cs.length ≤ 1000) {i : Int} (h0 : 0 ≤ i) (h1 : i < cs.length) : ∃ c, c < 128 ∧ ixD (.str (tx cs)) (.int i) = some (.str (tx [c])) := by
  obtain ⟨k, rfl⟩ := Int.eq_ofNat_of_zero_le h0
  have hk : k < cs.length := by omega
  refine ⟨cs[k], h _ (List.getElem_mem hk), ?_⟩
  have ea := atI_nat' cs k hk
  show (if (tx cs).length ≤ 100000 then (L2.atI (tx cs).cps.toList (k : Int)).map (fun c => D.str ⟨#[c]⟩) else none) = _
  rw [if_pos (by rw [tx_len]; omega)]
  have : (tx cs).cps.toList = cs := by simp [tx]
  rw [this, ea]
  rfl
def sgA : List Nat := ((" !\"#$&'()*+,-./0123456789:;<=>?@ABCDEFGHIJKLMNOPQRSTUVWXYZ[\\]^_`" : String) : Str).cps.toList
def sgB : List Nat := (("abcdefghijklmnopqrstuvwxyz{|}~\t\n" : String) : Str).cps.toList
theorem sgA_tx : ((" !\"#$&'()*+,-./0123456789:;<=>?@ABCDEFGHIJKLMNOPQRSTUVWXYZ[\\]^_`" : String) : Str) = tx sgA := tx_of _
theorem sgB_tx : (("abcdefghijklmnopqrstuvwxyz{|}~\t\n" : String) : Str) = tx sgB := tx_of _
theorem sg_ok : (sgA ++ sgB).all (fun c => decide (c < 128)) = true ∧ (sgA ++ sgB).length ≤ 200 ∧ 0 < (sgA ++ sgB).length := by decide +kernel
theorem sign_den {x : Int} (h0 : 0 ≤ x) (Ω : List OS) : ∃ c, c < 128 ∧ d_l_sign_by [.int x] Ω = some (.str (tx [c]), Ω) := by
  obtain ⟨k1, k2, k3⟩ := sg_ok
  have al : ∀ c ∈ sgA ++ sgB, c < 128 := fun c hc => by simpa using List.all_eq_true.mp k1 c hc
  have hL : (0 : Int) < ((sgA ++ sgB).length : Int) := by omega
  have hm1 := Int.emod_nonneg x (show ((sgA ++ sgB).length : Int) ≠ 0 by omega)
  have hm2 := Int.emod_lt_of_pos x hL
  obtain ⟨c1, hc1, e1⟩ := ix_tx al (by omega) hm1 hm2
  obtain ⟨c2, hc2, e2⟩ := ix_tx (cs := [48, 49, 46, 42]) (by decide) (by decide) (i := x % 4) (by omega) (by show x % 4 < 4; omega)
  obtain ⟨c3, hc3, e3⟩ := ix_tx (cs := [48, 49, 50, 51, 52, 53, 54, 55, 56, 57]) (by decide) (by decide) (i := x % 10) (by omega) (by show x % 10 < 10; omega)
  have ea := addD_tx (a := sgA) (b := sgB) (by simp at k2; omega)
  have el := len_tx (cs := sgA ++ sgB) (by omega)
  have t4 : ((("01.*" : String) : Str)) = tx [48, 49, 46, 42] := by decide +kernel
  obtain ⟨c, hc, e⟩ : ∃ c, c < 128 ∧ L2.atI [D.str (tx [c1]), D.str (tx [c2]), D.str (tx [c3])] (x / 100 % 3) = some (.str (tx [c])) := by
    rcases (by omega : x / 100 % 3 = 0 ∨ x / 100 % 3 = 1 ∨ x / 100 % 3 = 2) with h | h | h <;> rw [h]
    · exact ⟨c1, hc1, by simp⟩
    · exact ⟨c2, hc2, by simp⟩
    · exact ⟨c3, hc3, by simp⟩
  refine ⟨c, hc, run_rt rfl ?_⟩
  rw [sgA_tx, sgB_tx, t4, tx_fig]
  refine (seq_nx (ρ' := [.dat (.int x), .dat (.str (tx sgA))]) (Ω' := Ω) (by simp)).trans ?_
  refine (seq_nx (ρ' := [.dat (.int x), .dat (.str (tx (sgA ++ sgB)))]) (Ω' := Ω) (by simp only [ap_set, ap_op, ap_var, ap_c, List.getElem?_cons_zero, List.getElem?_cons_succ, ea, List.set])).trans ?_
  generalize sgA ++ sgB = L at *
  have em : modD (.int x) (.int (L.length : Int)) = some (.int (x % (L.length : Int))) := by
    have : ¬ (L.length : Int) = 0 := by omega
    simp [k3]
  simp [el, em, e1, e2, e3, e]
theorem spoilt_den {x : Int} {n : Nat} {cs : List Nat} (h : Tq n cs) (hn : n ≤ 900) (Ω : List OS) : ∃ ds, Tq (n + 1) ds ∧ d_l_spoilt [.int x, .str (tx cs)] Ω = some (.str (tx ds), Ω) := by
  have hl := h.len
  obtain ⟨xs, xl, xb, e0⟩ := strm_den x 3 (by decide) Ω
  obtain ⟨x0, x1, x2, rfl⟩ : ∃ x0 x1 x2, xs = [x0, x1, x2] := by
    match xs, xl with
    | [a, b, c], _ => exact ⟨a, b, c, rfl⟩
  have e0' : d_l_stream [.int x, .int 3] Ω = some (.lst ([x0, x1, x2].map D.int), Ω) := e0
  obtain ⟨c, hc, es⟩ := sign_den (xb x2 (by simp)).1 Ω
  have el := len_tx (cs := cs) (by omega)
  obtain ⟨a, ha, ea⟩ : ∃ a : Nat, a ≤ cs.length ∧ x1 % ((cs.length : Int) + 1) = a := ⟨(x1 % ((cs.length : Int) + 1)).toNat, by
    have := Int.emod_lt_of_pos x1 (show (0 : Int) < (cs.length : Int) + 1 by omega)
    have := Int.emod_nonneg x1 (show ((cs.length : Int) + 1) ≠ 0 by omega)
    omega, by
    have := Int.emod_nonneg x1 (show ((cs.length : Int) + 1) ≠ 0 by omega)
    omega⟩
  have hp : (0 : Int) < (cs.length : Int) + 1 := by omega
  have c1 : cutL cs none (some (a : Int)) = cs.take a := cut_to cs a
  have c2 : cutL cs (some (a : Int)) none = cs.drop a := cut_from cs a
  have c3 : cutL cs (some ((a : Int) + 1)) none = cs.drop (a + 1) := by
    have := cut_from cs (a + 1)
    rwa [show ((a + 1 : Nat) : Int) = (a : Int) + 1 by omega] at this
  have c4 : cutL cs (some (a : Int)) (some ((a : Int) + 1)) = (cs.drop a).take 1 := by
    have := cut_ab cs (a := a) (b := a + 1) (by omega)
    rwa [show ((a + 1 : Nat) : Int) = (a : Int) + 1 by omega, show a + 1 - a = 1 by omega] at this
  have sl : ∀ lo hi, slS (.str (tx cs)) lo hi = some (.str (tx (cutL cs lo hi))) := fun lo hi => slS_tx (by omega) lo hi
  have s1 : ∀ ρ : List Sl, ρ[1]? = some (.dat (.str (tx cs))) → ρ[3]? = some (.dat (.int a)) → gSlS (gVar 1) gNoPart (gPart (gVar 3)) ρ Ω = some (.str (tx (cs.take a)), Ω) := fun ρ h1 h3 => by
    unfold gSlS
    simp [h1, h3, sl, c1]
  have s2 : ∀ ρ : List Sl, ρ[1]? = some (.dat (.str (tx cs))) → ρ[3]? = some (.dat (.int a)) → gSlS (gVar 1) (gPart (gVar 3)) gNoPart ρ Ω = some (.str (tx (cs.drop a)), Ω) := fun ρ h1 h3 => by
    unfold gSlS
    simp [h1, h3, sl, c2]
  have s3 : ∀ ρ : List Sl, ρ[1]? = some (.dat (.str (tx cs))) → ρ[3]? = some (.dat (.int a)) → gSlS (gVar 1) (gPart (gOp addD (gVar 3) (gC (.int 1)))) gNoPart ρ Ω = some (.str (tx (cs.drop (a + 1))), Ω) := fun ρ h1 h3 => by
    unfold gSlS
    simp [h1, h3, sl, c3]
  have s4 : ∀ ρ : List Sl, ρ[1]? = some (.dat (.str (tx cs))) → ρ[3]? = some (.dat (.int a)) → gSlS (gVar 1) (gPart (gVar 3)) (gPart (gOp addD (gVar 3) (gC (.int 1)))) ρ Ω = some (.str (tx ((cs.drop a).take 1)), Ω) := fun ρ h1 h3 => by
    unfold gSlS
    simp [h1, h3, sl, c4]
  have ad : ∀ p q : List Nat, p.length ≤ 2000 → q.length ≤ 2000 → addD (.str (tx p)) (.str (tx q)) = some (.str (tx (p ++ q))) := fun p q hp hq => addD_tx (by omega)
  have lt1 : (cs.take a).length ≤ 2000 := by simp; omega
  have ld1 : (cs.drop a).length ≤ 2000 := by simp; omega
  have ld2 : (cs.drop (a + 1)).length ≤ 2000 := by simp; omega
  have lm1 : ((cs.drop a).take 1).length ≤ 2000 := by simp; omega
  have lta : (cs.take a ++ [c]).length ≤ 2000 := by simp; omega
  have ltm : (cs.take a ++ (cs.drop a).take 1).length ≤ 2000 := by simp; omega
  have head : ∀ t : SDen, sSeq (sSet 2 (gCall d_l_stream (gCons (gVar 0) (gCons (gC (.int 3)) gNil)))) (sSeq (sSet 3 (gOp modD (gOp ixD (gVar 2) (gC (.int 1))) (gOp addD (gCB lenD (gCons (gVar 1) gNil)) (gC (.int 1))))) (sSeq (sSet 4 (gCall d_l_sign_by (gCons (gOp ixD (gVar 2) (gC (.int 2))) gNil))) t)) [.dat (.int x), .dat (.str (tx cs)), .und, .und, .und] Ω = t [.dat (.int x), .dat (.str (tx cs)), .dat (.lst ([x0, x1, x2].map D.int)), .dat (.int a), .dat (.str (tx [c]))] Ω := fun t => by
    refine (seq_nx (ρ' := [.dat (.int x), .dat (.str (tx cs)), .dat (.lst ([x0, x1, x2].map D.int)), .und, .und]) (Ω' := Ω) (by simp [e0'])).trans ?_
    refine (seq_nx (ρ' := [.dat (.int x), .dat (.str (tx cs)), .dat (.lst ([x0, x1, x2].map D.int)), .dat (.int a), .und]) (Ω' := Ω) (by simp [el, hp, ea])).trans ?_
    exact seq_nx (by simp [es])
  have fin : ∀ ds, (∀ k ∈ ds, k ∈ cs ∨ k = c) → ds.length ≤ n + 1 → Tq (n + 1) ds := fun ds hd hl' => ⟨fun k hk => by rcases hd k hk with z | z; exact h.lt k z; omega, hl'⟩
  have mt : ∀ k ∈ cs.take a, k ∈ cs := fun k hk => List.mem_of_mem_take hk
  have md : ∀ j, ∀ k ∈ cs.drop j, k ∈ cs := fun j k hk => List.mem_of_mem_drop hk
  by_cases h0 : x0 % 4 = 0
  · refine ⟨cs.take a ++ cs.drop (a + 1), fin _ (fun k hk => .inl ((List.mem_append.mp hk).elim (mt k) (md _ k))) (by simp; omega), run_rt rfl ((head _).trans (seq_rt ?_))⟩
    simp [h0, s1, s3, ad _ _ lt1 ld2]
  by_cases h1 : x0 % 4 = 1
  · refine ⟨cs.take a ++ [c] ++ cs.drop a, fin _ (fun k hk => ?_) (by simp; omega), run_rt rfl ((head _).trans ((seq_nx (ρ' := [.dat (.int x), .dat (.str (tx cs)), .dat (.lst ([x0, x1, x2].map D.int)), .dat (.int a), .dat (.str (tx [c]))]) (Ω' := Ω) (by simp [h0])).trans (seq_rt ?_)))⟩
    · rcases List.mem_append.mp hk with hk | hk
      · rcases List.mem_append.mp hk with hk | hk
        · exact .inl (mt k hk)
        · exact .inr (List.mem_singleton.mp hk)
      · exact .inl (md _ k hk)
    · have v : gOp addD (gOp addD (gSlS (gVar 1) gNoPart (gPart (gVar 3))) (gVar 4)) (gSlS (gVar 1) (gPart (gVar 3)) gNoPart) [.dat (.int x), .dat (.str (tx cs)), .dat (.lst ([x0, x1, x2].map D.int)), .dat (.int a), .dat (.str (tx [c]))] Ω = some (.str (tx (cs.take a ++ [c] ++ cs.drop a)), Ω) := by
        rw [ap_op, ap_op, s1 _ rfl rfl]
        dsimp only
        rw [ap_var]
        dsimp only [List.getElem?_cons_zero, List.getElem?_cons_succ]
        rw [ad _ _ lt1 (show [c].length ≤ 2000 by simp)]
        dsimp only
        rw [s2 _ rfl rfl]
        dsimp only
        rw [ad _ _ lta ld1]
      have t : gT (gOp (eqD false) (gOp modD (gOp ixD (gVar 2) (gC (.int 0))) (gC (.int 4))) (gC (.int 1))) [.dat (.int x), .dat (.str (tx cs)), .dat (.lst ([x0, x1, x2].map D.int)), .dat (.int a), .dat (.str (tx [c]))] Ω = some (true, Ω) := by simp [h1]
      rw [ap_sIf, t]
      dsimp only
      rw [ap_ret, v]
  by_cases h2 : x0 % 4 = 2
  · refine ⟨cs.take a ++ [c] ++ cs.drop (a + 1), fin _ (fun k hk => ?_) (by simp; omega), run_rt rfl ((head _).trans ((seq_nx (ρ' := [.dat (.int x), .dat (.str (tx cs)), .dat (.lst ([x0, x1, x2].map D.int)), .dat (.int a), .dat (.str (tx [c]))]) (Ω' := Ω) (by simp [h0])).trans ((seq_nx (ρ' := [.dat (.int x), .dat (.str (tx cs)), .dat (.lst ([x0, x1, x2].map D.int)), .dat (.int a), .dat (.str (tx [c]))]) (Ω' := Ω) (by simp [h1])).trans (seq_rt ?_))))⟩
    · rcases List.mem_append.mp hk with hk | hk
      · rcases List.mem_append.mp hk with hk | hk
        · exact .inl (mt k hk)
        · exact .inr (List.mem_singleton.mp hk)
      · exact .inl (md _ k hk)
    · have v : gOp addD (gOp addD (gSlS (gVar 1) gNoPart (gPart (gVar 3))) (gVar 4)) (gSlS (gVar 1) (gPart (gOp addD (gVar 3) (gC (.int 1)))) gNoPart) [.dat (.int x), .dat (.str (tx cs)), .dat (.lst ([x0, x1, x2].map D.int)), .dat (.int a), .dat (.str (tx [c]))] Ω = some (.str (tx (cs.take a ++ [c] ++ cs.drop (a + 1))), Ω) := by
        rw [ap_op, ap_op, s1 _ rfl rfl]
        dsimp only
        rw [ap_var]
        dsimp only [List.getElem?_cons_zero, List.getElem?_cons_succ]
        rw [ad _ _ lt1 (show [c].length ≤ 2000 by simp)]
        dsimp only
        rw [s3 _ rfl rfl]
        dsimp only
        rw [ad _ _ lta ld2]
      have t : gT (gOp (eqD false) (gOp modD (gOp ixD (gVar 2) (gC (.int 0))) (gC (.int 4))) (gC (.int 2))) [.dat (.int x), .dat (.str (tx cs)), .dat (.lst ([x0, x1, x2].map D.int)), .dat (.int a), .dat (.str (tx [c]))] Ω = some (true, Ω) := by simp [h2]
      rw [ap_sIf, t]
      dsimp only
      rw [ap_ret, v]
  · refine ⟨cs.take a ++ (cs.drop a).take 1 ++ cs.drop a, fin _ (fun k hk => ?_) (by simp; omega), run_rt rfl ((head _).trans ((seq_nx (ρ' := [.dat (.int x), .dat (.str (tx cs)), .dat (.lst ([x0, x1, x2].map D.int)), .dat (.int a), .dat (.str (tx [c]))]) (Ω' := Ω) (by simp [h0])).trans ((seq_nx (ρ' := [.dat (.int x), .dat (.str (tx cs)), .dat (.lst ([x0, x1, x2].map D.int)), .dat (.int a), .dat (.str (tx [c]))]) (Ω' := Ω) (by simp [h1])).trans ((seq_nx (ρ' := [.dat (.int x), .dat (.str (tx cs)), .dat (.lst ([x0, x1, x2].map D.int)), .dat (.int a), .dat (.str (tx [c]))]) (Ω' := Ω) (by simp [h2])).trans ?_))))⟩
    · rcases List.mem_append.mp hk with hk | hk
      · rcases List.mem_append.mp hk with hk | hk
        · exact .inl (mt k hk)
        · exact .inl (md _ k (List.mem_of_mem_take hk))
      · exact .inl (md _ k hk)
    · simp only [ap_ret, ap_op]
      rw [s1 _ rfl rfl]
      dsimp only
      rw [s4 _ rfl rfl]
      dsimp only
      rw [ad _ _ lt1 lm1]
      dsimp only
      rw [s2 _ rfl rfl]
      dsimp only
      rw [ad _ _ ltm ld1]
end Law
namespace Law
open PySem DL L2
def odA : List Str := ["", "*", "**", "0", "1", "01", Txt.mul "0" 15, Txt.mul "0" 16, Txt.mul "1" 17, Txt.mul "0" 16 ++ "*", Txt.mul "0" 15 ++ "*", " *", "* "]
def odB : List Str := ["*0", "0*1", "2*", "o1*", "1 *", "1**", "0.0", "255.255", "256.0", "0.256", "00.1", "0.01", ".1"]
def odC : List Str := ["1.", ".", "1", "1.2.3", "-1.0", "+1.0", " 1.0", "1.0 ", "1 .0", "1,0", "1.0*", "999.1", "1.999"]
def odD : List Str := ["1000.1", "0.1000"]
def odE : List Str := ["1.0\n", "a.b", "0x1.0", "1e1.0", "..", "1..2", "01*\n"]
def okS (z : Str) : Bool := z.cps.all (fun c => decide (c < 128)) && decide (z.length ≤ 17)
theorem od_ok : (odA ++ odB ++ odC ++ odD ++ odE).all okS = true ∧ (odA ++ odB ++ odC ++ odD ++ odE).length = 48 := by decide +kernel
theorem okS_q {z : Str} (h : okS z = true) : Tq 17 z.cps.toList := by
  unfold okS at h
  rw [Bool.and_eq_true, decide_eq_true_eq] at h
  refine ⟨fun c hc => ?_, ?_⟩
  · have := Array.all_eq_true_iff_forall_mem.mp h.1 c (by simpa using hc)
    simpa using this
  · have := h.2
    simpa [Str.length] using this
theorem add_strs (a b : List Str) (h : a.length + b.length ≤ 1000) : addD (.lst (a.map D.str)) (.lst (b.map D.str)) = some (.lst ((a ++ b).map D.str)) := by
  rw [add_lst, if_pos (by simp; omega), List.map_append]
theorem mul_s {z : Str} {k : Int} (h : 2 ≤ k ∧ k ≤ 1000 ∧ 0 < z.length ∧ z.length ≤ 100) : mulSD (.str z) (.int k) = some (.str (Txt.mul z k)) := by
  show (if 2 ≤ k ∧ k ≤ 1000 ∧ 0 < z.length ∧ z.length ≤ 100 then some (D.str (Txt.mul z k)) else none) = _
  rw [if_pos h]
theorem add_s {p q : Str} (h : p.length + q.length ≤ 100000) : addD (.str p) (.str q) = some (.str (p ++ q)) := by
  show (if p.length + q.length ≤ 100000 then some (D.str (p ++ q)) else none) = _
  rw [if_pos h]
theorem odd_den {x : Int} (h0 : 0 ≤ x) (Ω : List OS) : ∃ ds, Tq 17 ds ∧ d_l_odd [.int x] Ω = some (.str (tx ds), Ω) := by
  obtain ⟨k1, k2⟩ := od_ok
  have m1 : mulSD (.str "0") (.int 15) = some (.str (Txt.mul "0" 15)) := mul_s (by decide +kernel)
  have m2 : mulSD (.str "0") (.int 16) = some (.str (Txt.mul "0" 16)) := mul_s (by decide +kernel)
  have m3 : mulSD (.str "1") (.int 17) = some (.str (Txt.mul "1" 17)) := mul_s (by decide +kernel)
  have a1 : addD (.str (Txt.mul "0" 16)) (.str "*") = some (.str (Txt.mul "0" 16 ++ "*")) := add_s (by decide +kernel)
  have a2 : addD (.str (Txt.mul "0" 15)) (.str "*") = some (.str (Txt.mul "0" 15 ++ "*")) := add_s (by decide +kernel)
  have b1 := add_strs odA odB (by decide)
  have b2 := add_strs (odA ++ odB) odC (by decide)
  have b3 := add_strs (odA ++ odB ++ odC) odD (by decide)
  have b4 := add_strs (odA ++ odB ++ odC ++ odD) odE (by decide)
  obtain ⟨k, ek⟩ : ∃ k : Nat, x % 48 = k := ⟨(x % 48).toNat, by omega⟩
  have hk : k < (odA ++ odB ++ odC ++ odD ++ odE).length := by rw [k2]; omega
  have ei : L2.atI ((odA ++ odB ++ odC ++ odD ++ odE).map D.str) (k : Int) = some (.str (odA ++ odB ++ odC ++ odD ++ odE)[k]) := by
    rw [atI_map, atI_nat' _ _ hk]
    rfl
  have hz := okS_q (List.all_eq_true.mp k1 _ (List.getElem_mem hk))
  have et := tx_of (odA ++ odB ++ odC ++ odD ++ odE)[k]
  generalize (odA ++ odB ++ odC ++ odD ++ odE)[k] = zz at *
  rw [et] at ei
  generalize zz.cps.toList = ds at *
  refine ⟨ds, hz, run_rt rfl ?_⟩
  refine (seq_nx (ρ' := [.dat (.int x), .dat (.lst (odA.map D.str))]) (Ω' := Ω) ?_).trans ?_
  · simp [m1, m2, m3, a1, a2, odA]
  refine (seq_nx (ρ' := [.dat (.int x), .dat (.lst ((odA ++ odB).map D.str))]) (Ω' := Ω) ?_).trans ?_
  · have l1 : gLst (gCons (gC (.str "*0")) (gCons (gC (.str "0*1")) (gCons (gC (.str "2*")) (gCons (gC (.str "o1*")) (gCons (gC (.str "1 *")) (gCons (gC (.str "1**")) (gCons (gC (.str "0.0")) (gCons (gC (.str "255.255")) (gCons (gC (.str "256.0")) (gCons (gC (.str "0.256")) (gCons (gC (.str "00.1")) (gCons (gC (.str "0.01")) (gCons (gC (.str ".1")) gNil))))))))))))) [.dat (.int x), .dat (.lst (odA.map D.str))] Ω = some (.lst (odB.map D.str), Ω) := rfl
    rw [ap_set, ap_op, ap_var]
    dsimp only [List.getElem?_cons_zero, List.getElem?_cons_succ]
    rw [l1]
    dsimp only
    rw [b1]
    rfl
  refine (seq_nx (ρ' := [.dat (.int x), .dat (.lst ((odA ++ odB ++ odC).map D.str))]) (Ω' := Ω) ?_).trans ?_
  · have l1 : gLst (gCons (gC (.str "1.")) (gCons (gC (.str ".")) (gCons (gC (.str "1")) (gCons (gC (.str "1.2.3")) (gCons (gC (.str "-1.0")) (gCons (gC (.str "+1.0")) (gCons (gC (.str " 1.0")) (gCons (gC (.str "1.0 ")) (gCons (gC (.str "1 .0")) (gCons (gC (.str "1,0")) (gCons (gC (.str "1.0*")) (gCons (gC (.str "999.1")) (gCons (gC (.str "1.999")) gNil))))))))))))) [.dat (.int x), .dat (.lst ((odA ++ odB).map D.str))] Ω = some (.lst (odC.map D.str), Ω) := rfl
    rw [ap_set, ap_op, ap_var]
    dsimp only [List.getElem?_cons_zero, List.getElem?_cons_succ]
    rw [l1]
    dsimp only
    rw [b2]
    rfl
  refine (seq_nx (ρ' := [.dat (.int x), .dat (.lst ((odA ++ odB ++ odC ++ odD).map D.str))]) (Ω' := Ω) ?_).trans ?_
  · have l1 : gLst (gCons (gC (.str "1000.1")) (gCons (gC (.str "0.1000")) gNil)) [.dat (.int x), .dat (.lst ((odA ++ odB ++ odC).map D.str))] Ω = some (.lst (odD.map D.str), Ω) := rfl
    rw [ap_set, ap_op, ap_var]
    dsimp only [List.getElem?_cons_zero, List.getElem?_cons_succ]
    rw [l1]
    dsimp only
    rw [b3]
    rfl
  · have l1 : gLst (gCons (gC (.str "1.0\n")) (gCons (gC (.str "a.b")) (gCons (gC (.str "0x1.0")) (gCons (gC (.str "1e1.0")) (gCons (gC (.str "..")) (gCons (gC (.str "1..2")) (gCons (gC (.str "01*\n")) gNil))))))) [.dat (.int x), .dat (.lst ((odA ++ odB ++ odC ++ odD).map D.str))] Ω = some (.lst (odE.map D.str), Ω) := rfl
    have l2 : gOp addD (gVar 1) (gLst (gCons (gC (.str "1.0\n")) (gCons (gC (.str "a.b")) (gCons (gC (.str "0x1.0")) (gCons (gC (.str "1e1.0")) (gCons (gC (.str "..")) (gCons (gC (.str "1..2")) (gCons (gC (.str "01*\n")) gNil)))))))) [.dat (.int x), .dat (.lst ((odA ++ odB ++ odC ++ odD).map D.str))] Ω = some (.lst ((odA ++ odB ++ odC ++ odD ++ odE).map D.str), Ω) := by
      rw [ap_op, ap_var]
      dsimp only [List.getElem?_cons_zero, List.getElem?_cons_succ]
      rw [l1]
      dsimp only
      rw [b4]
    have l3 : gOp modD (gVar 0) (gC (.int 48)) [.dat (.int x), .dat (.lst ((odA ++ odB ++ odC ++ odD).map D.str))] Ω = some (.int (x % 48), Ω) := by simp
    rw [ap_ret, ap_op, l2]
    dsimp only
    rw [l3]
    dsimp only
    rw [ix_lst, ek, ei]
/-! ### the law -/
theorem shw_q {k : Bg} (h : Be k) : Tq 17 (shw k) := by
  have h0 := h.s0
  have h1 := h.s1
  have mm : ∀ c ∈ (bitsL k.1 k.2.toNat).map sg, c < 128 := fun c hc => by
    obtain ⟨b, _, hb⟩ := List.mem_map.mp hc
    rcases sg_two b with q | q <;> omega
  unfold shw
  split
  · exact ⟨mm, by simp; omega⟩
  · refine ⟨fun c hc => ?_, by simp; omega⟩
    rcases List.mem_append.mp hc with z | z
    · exact mm c z
    · simp at z; omega
theorem at_q {a : Int} (h0 : 0 ≤ a) (h1 : a ≤ 65535) : Tq 17 (dg (a / 256) ++ 46 :: dg (a % 256)) := by
  have E1 : Eight (a / 256) := ⟨by omega, by omega⟩
  have E2 : Eight (a % 256) := ⟨by omega, by omega⟩
  have g1 := E1.dg
  have g2 := E2.dg
  refine ⟨fun c hc => ?_, by simp; omega⟩
  rcases List.mem_append.mp hc with z | z
  · have := g1.2.2 c z; omega
  · rcases List.mem_cons.mp z with z | z
    · omega
    · have := g2.2.2 c z; omega
@[simp] theorem ap_O (i : Nat) (ρ : List Sl) (Ω : List OS) : gO i ρ Ω = match ρ[i]? with | some (.own ds) => some (ds, Ω) | _ => none := (rfl)
@[simp] theorem ap_lix (gl : ADen) (gi : Den) (ρ : List Sl) (Ω : List OS) : gLIx gl gi ρ Ω = match gl ρ Ω with
  | some (ds, Ω1) => (match gi ρ Ω1 with
    | some (.int i, Ω2) => (match L2.atI ds i with | some d => some (d, Ω2) | none => none)
    | _ => none)
  | none => none := by unfold gLIx; rfl
theorem holds : ∀ ns : List Int, ns.length ≤ 63 → ∃ Ω, d_law [.scr ns] [] = some (.bl true, Ω) := by
  intro ns hn
  obtain ⟨base, hb0, hb1, eb⟩ := base_den ns []
  obtain ⟨c1, ec1⟩ := cell_den ns 1 []
  obtain ⟨c2, ec2⟩ := cell_den ns 2 []
  obtain ⟨c3, ec3⟩ := cell_den ns 3 []
  have ec1' : d_l_cell_at [.scr ns, .int 1] [] = some (.int c1, []) := ec1
  have ec2' : d_l_cell_at [.scr ns, .int 2] [] = some (.int c2, []) := ec2
  have ec3' : d_l_cell_at [.scr ns, .int 3] [] = some (.int c3, []) := ec3
  obtain ⟨xs, xl, xb, e0⟩ := strm_den c3 4 (by decide) []
  obtain ⟨x0, x1, x2, x3, rfl⟩ : ∃ x0 x1 x2 x3, xs = [x0, x1, x2, x3] := by
    match xs, xl with
    | [a, b, c, d], _ => exact ⟨a, b, c, d, rfl⟩
  have e0' : d_l_stream [.int c3, .int 4] [] = some (.lst ([x0, x1, x2, x3].map D.int), []) := e0
  obtain ⟨k, hk, ek⟩ := begb_den c1 base []
  obtain ⟨a, ha0, ha1, ea⟩ := addr_den c2 base []
  have f2 := lshown_den hk []
  have f5 := taddr_den ha0 ha1 []
  have q1 := shw_q hk
  have q2 := at_q ha0 ha1
  obtain ⟨od, q3, eo⟩ := odd_den (xb x0 (by simp)).1 []
  generalize shw k = A at *
  generalize dg (a / 256) ++ 46 :: dg (a % 256) = B at *
  obtain ⟨s1, r1, es1⟩ := spoilt_den (x := x1 + 0) q1 (by decide) []
  obtain ⟨s2, r2, es2⟩ := spoilt_den (x := x2 + 0) r1 (by decide) []
  obtain ⟨s3, r3, es3⟩ := spoilt_den (x := x1 + 1) q2 (by decide) []
  obtain ⟨s4, r4, es4⟩ := spoilt_den (x := x2 + 1) r3 (by decide) []
  have up : ∀ {n : Nat} {t : List Nat}, n ≤ 19 → Tq n t → Tq 19 t := fun hn h => ⟨h.lt, by have := h.len; omega⟩
  obtain ⟨X2, hX2⟩ : ∃ X2 : Sl, X2 = .dat (.lst ([x0, x1, x2, x3].map D.int)) := ⟨_, rfl⟩
  obtain ⟨y, Ω', el⟩ := each_loop (n := 19) (by decide) (.dat (.scr ns)) (.dat (.int base)) X2 (.own [.str (tx A), .str (tx B)]) (.dat (.lst ([A, B, od, s1, s2, s3, s4].map fun t => D.str (tx t)))) (.dat (.int 1)) [A, B, od, s1, s2, s3, s4] .und [] (by
    intro t ht
    simp only [List.mem_cons, List.not_mem_nil, or_false] at ht
    rcases ht with rfl | rfl | rfl | rfl | rfl | rfl | rfl
    · exact up (by decide) q1
    · exact up (by decide) q2
    · exact up (by decide) q3
    · exact up (by decide) r1
    · exact up (by decide) r2
    · exact up (by decide) r3
    · exact up (by decide) r4)
  refine ⟨Ω', run_rt rfl ?_⟩
  refine (seq_nx (ρ' := [.dat (.scr ns), .dat (.int base), .und, .und, .und, .und, .und]) (Ω' := []) ?_).trans ?_
  · rw [ap_set, eb _ rfl]
    rfl
  refine (seq_nx (ρ' := [.dat (.scr ns), .dat (.int base), X2, .und, .und, .und, .und]) (Ω' := []) (by subst hX2; simp [ec3', e0'])).trans ?_
  refine (seq_nx (ρ' := [.dat (.scr ns), .dat (.int base), X2, .own [.str (tx A)], .und, .und, .und]) (Ω' := []) (by simp [ec1', ek, f2])).trans ?_
  refine (seq_nx (ρ' := [.dat (.scr ns), .dat (.int base), X2, .own [.str (tx A), .str (tx B)], .und, .und, .und]) (Ω' := []) (by simp [ec2', ea, f5])).trans ?_
  refine (seq_nx (ρ' := [.dat (.scr ns), .dat (.int base), X2, .own [.str (tx A), .str (tx B)], .own [.str (tx A), .str (tx B), .str (tx od)], .und, .und]) (Ω' := []) (by subst hX2; simp [eo])).trans ?_
  have er : rng1 [.int 2] = some [.int 0, .int 1] := rng_1 (by decide) (by decide)
  have es1' : d_l_spoilt [.int x1, .str (tx A)] [] = some (.str (tx s1), []) := by simpa using es1
  have es2' : d_l_spoilt [.int x2, .str (tx s1)] [] = some (.str (tx s2), []) := by simpa using es2
  have n1 : L2.atI [D.str (tx A), D.str (tx B), D.str (tx od), D.str (tx s1)] (-1) = some (.str (tx s1)) := rfl
  have n2 : L2.atI [D.str (tx A), D.str (tx B), D.str (tx od), D.str (tx s1), D.str (tx s2), D.str (tx s3)] (-1) = some (.str (tx s3)) := rfl
  refine (seq_nx (ρ' := [.dat (.scr ns), .dat (.int base), X2, .own [.str (tx A), .str (tx B)], .own ([A, B, od, s1, s2, s3, s4].map fun t => D.str (tx t)), .dat (.int 1), .und]) (Ω' := []) ?_).trans ?_
  · subst hX2
    rw [ap_for]
    simp only [ap_rng, ap_cons, ap_c, ap_nil, er]
    rw [for_cons]
    simp [es1', es2', n1]
    rw [for_cons]
    simp [es3, es4, n2]
  rw [ap_ghost]
  simp only [frz, List.getElem?_cons_zero, List.getElem?_cons_succ, List.set]
  refine (seq_nx (ρ' := [.dat (.scr ns), .dat (.int base), X2, .own [.str (tx A), .str (tx B)], .dat (.lst ([A, B, od, s1, s2, s3, s4].map fun t => D.str (tx t))), .dat (.int 1), y]) (Ω' := Ω') ?_).trans ?_
  · rw [ap_for, ap_seq, ap_var]
    dsimp only [List.getElem?_cons_zero, List.getElem?_cons_succ]
    rw [seq_lst]
    exact el
  · simp
end Law
namespace Law
open PySem PySem.Spec PyProof.Rows L2 DL
set_option maxHeartbeats 4000000
seal PD PDA PDS PDB PDT PDI PDG RD RDS RDB PV
def top (i : Nat) : Stmt := PySem.Challenge.pw_posthouse_k06_texts_refused.main.body.getD i (.Pass ⟨0, 0, 0, 0⟩)
abbrev s_l_stream : Stmt := top 19
abbrev s_l_cell_at : Stmt := top 18
abbrev s_l_bits : Stmt := top 21
abbrev s_l_shown : Stmt := top 25
abbrev s_l_address_text : Stmt := top 26
abbrev s_l_odd : Stmt := top 29
abbrev s_l_number : Stmt := top 22
abbrev s_l_beginning : Stmt := top 23
abbrev s_l_address : Stmt := top 24
abbrev s_l_sign_by : Stmt := top 27
abbrev s_l_spoilt : Stmt := top 28
abbrev s_are_figures : Stmt := top 14
abbrev s_is_eight_bits : Stmt := top 15
abbrev s_read_address : Stmt := top 16
abbrev s_read_beginning : Stmt := top 13
abbrev s_l_told : Stmt := top 33
abbrev s_l_bits_of : Stmt := top 30
abbrev s_l_half : Stmt := top 31
abbrev s_l_address_of : Stmt := top 32
abbrev s_law : Stmt := top 34
abbrev bmVE : List Value := [.type "ValueError", .type "Exception", .type "BaseException", .type "object"]
theorem vals_refs : ∀ {as : List Addr} {us : List Value}, Vals (as.map V.ref) us → us = as.map Value.ref
  | [], _, .nil => rfl
  | a :: as, _, .cons r t => by rw [vals_refs t]; cases (show _ = Value.ref a from r); rfl
section
variable {P : Program} {w : World} {K : PySem.W.Frag} {mg : Str → Option Value} {base : Heap} {C : Cl}
theorem kit_int : ∀ t ∈ ["NoneType", "bool", "int", "str", "tuple", "list"], PySem.W.kitOne K (.type t) (.type "int") = some (decide (t = "int") || (decide (t = "bool") && decide ("int" = "int"))) := by
  intro t ht
  simp only [List.mem_cons, List.not_mem_nil, or_false] at ht
  rcases ht with rfl | rfl | rfl | rfl | rfl | rfl <;> rfl
theorem kit_str : ∀ t ∈ ["NoneType", "bool", "int", "str", "tuple", "list"], PySem.W.kitOne K (.type t) (.type "str") = some (decide (t = "str") || (decide (t = "bool") && decide ("str" = "int"))) := by
  intro t ht
  simp only [List.mem_cons, List.not_mem_nil, or_false] at ht
  rcases ht with rfl | rfl | rfl | rfl | rfl | rfl <;> rfl
theorem sc_l_stream : FnScope ["_law_cell", "_law_many", "_law_found", "_law_number_here", "_law_k"] ["_law_cell", "_law_many"] (defScope s_l_stream) := ⟨rfl, rfl, rfl, by decide +kernel, rfl, by decide +kernel, by decide +kernel⟩
theorem ok_l_stream (T : TF K mg "_law_stream" s_l_stream) (b_range : mg "range" = none) : Fn P w K mg base C 1 "_law_stream" d_l_stream :=
  fn_F T sc_l_stream rfl rfl (fun _ _ _ _ _ _ us hl => len2 us hl (fun _ _ => rfl)) fun f cdv A outer sh H E hr =>
    have nd : (cxOf CX0 P w K mg base ["_law_cell", "_law_many", "_law_found", "_law_number_here", "_law_k"] "_law_stream" (defScope s_l_stream) f cdv A outer sh H E).nox.N.Nodup := sc_l_stream.nd
    (pdb_cons (pds_own (i := 2) nd rfl (by first | exact Or.inl rfl | exact Or.inr rfl) pda_nil) (pdb_cons (pds_set (i := 3) nd rfl (by first | exact Or.inl rfl | exact Or.inr rfl) (pd_op opD_add (pd_op opD_mod (pd_var (pv 0)) pd_int) pd_int)) (pdb_cons (pds_for PassesOwn.never rfl (pdi_range1 rfl b_range (pda_cons (pd_op opD_add (pd_var (pv 1)) pd_int) pda_nil)) (pdg_name nd rfl (by first | exact Or.inl rfl | exact Or.inr rfl)) (pdb_cons (pds_set (i := 3) nd rfl (by first | exact Or.inl rfl | exact Or.inr rfl) (pd_op opD_mod (pd_op opD_add (pd_op opD_add (pd_op opD_mul (pd_var (pv 3)) (pd_var (pv 3))) (pd_op opD_mul pd_int (pd_var (pv 3)))) (pd_var (pv 4))) pd_int)) (pdb_one (pds_app (pv 2) (pd_var (pv 3)))))) (pdb_ghost (ghost_frz 2) (pdb_one (pds_ret (pd_sl (pd_var (pv 2)) (pdo_some pd_int) pdo_none)))))))
theorem sc_l_cell_at : FnScope ["_law_script", "_law_k"] ["_law_script", "_law_k"] (defScope s_l_cell_at) := ⟨rfl, rfl, rfl, by decide +kernel, rfl, by decide +kernel, by decide +kernel⟩
theorem ok_l_cell_at (T : TF K mg "_law_cell_at" s_l_cell_at) (b_len : mg "len" = none) : Fn P w K mg base C 1 "_law_cell_at" d_l_cell_at :=
  fn_F T sc_l_cell_at rfl rfl (fun _ _ _ _ _ _ us hl => len2 us hl (fun _ _ => rfl)) fun f cdv A outer sh H E hr =>
    have nd : (cxOf CX0 P w K mg base ["_law_script", "_law_k"] "_law_cell_at" (defScope s_l_cell_at) f cdv A outer sh H E).nox.N.Nodup := sc_l_cell_at.nd
    (pdb_cons (pds_if (pdt_cmp opD_lt (pd_var (pv 1)) (pd_callB callD_len rfl b_len PySem.boot_len (pda_cons (pd_var (pv 0)) pda_nil)) (nomark _)) (pdb_one (pds_ret (pd_ix (pd_var (pv 0)) (pd_var (pv 1))))) pdb_nil) (pdb_one (pds_ret pd_int)))
theorem sc_l_bits : FnScope ["_law_number_here", "_law_size", "_law_found", "_law_turn"] ["_law_number_here", "_law_size"] (defScope s_l_bits) := ⟨rfl, rfl, rfl, by decide +kernel, rfl, by decide +kernel, by decide +kernel⟩
theorem ok_l_bits (T : TF K mg "_law_bits" s_l_bits) (b_range : mg "range" = none) : Fn P w K mg base C 1 "_law_bits" d_l_bits :=
  fn_F T sc_l_bits rfl rfl (fun _ _ _ _ _ _ us hl => len2 us hl (fun _ _ => rfl)) fun f cdv A outer sh H E hr =>
    have nd : (cxOf CX0 P w K mg base ["_law_number_here", "_law_size", "_law_found", "_law_turn"] "_law_bits" (defScope s_l_bits) f cdv A outer sh H E).nox.N.Nodup := sc_l_bits.nd
    (pdb_cons (pds_set (i := 2) nd rfl (by first | exact Or.inl rfl | exact Or.inr rfl) (pd_lst pda_nil)) (pdb_cons (pds_for PassesOwn.never rfl (pdi_range1 rfl b_range (pda_cons (pd_var (pv 1)) pda_nil)) (pdg_name nd rfl (by first | exact Or.inl rfl | exact Or.inr rfl)) (pdb_cons (pds_set (i := 2) nd rfl (by first | exact Or.inl rfl | exact Or.inr rfl) (pd_op opD_add (pd_lst (pda_cons (pd_op opD_mod (pd_var (pv 0)) pd_int) pda_nil)) (pd_var (pv 2)))) (pdb_one (pds_set (i := 0) nd rfl (by first | exact Or.inl rfl | exact Or.inr rfl) (pd_op opD_div (pd_var (pv 0)) pd_int))))) (pdb_one (pds_ret (pd_var (pv 2))))))
theorem sc_l_shown : FnScope ["_law_beginning_here", "_law_signs"] ["_law_beginning_here"] (defScope s_l_shown) := ⟨rfl, rfl, rfl, by decide +kernel, rfl, by decide +kernel, by decide +kernel⟩
theorem ok_l_shown (T : TF K mg "_law_shown" s_l_shown) (b_int : mg "int" = none) (G_l_bits : Fn P w K mg base C 1 "_law_bits" d_l_bits) : Fn P w K mg base C 2 "_law_shown" d_l_shown :=
  fn_F T sc_l_shown rfl rfl (fun _ _ _ _ _ _ us hl => len1 us hl (fun _ => rfl)) fun f cdv A outer sh H E hr =>
    have nd : (cxOf CX0 P w K mg base ["_law_beginning_here", "_law_signs"] "_law_shown" (defScope s_l_shown) f cdv A outer sh H E).nox.N.Nodup := sc_l_shown.nd
    (pdb_cons (pds_compN (i := 1) nd rfl (by first | exact Or.inl rfl | exact Or.inr rfl) rfl (compOk_of (oN := ["_law_beginning_here", "_law_signs"]) (osc := defScope s_l_shown) (N := ["_law_bit"]) (μ := [none]) rfl rfl (by decide +kernel)) (pdi_list (pd_callF G_l_bits (hr.mono (by decide)) rfl (pda_cons (pd_ix (pd_var (pv 0)) pd_int) (pda_cons (pd_ix (pd_var (pv 0)) pd_int) pda_nil)))) (fun _ _ _ _ => (pdg_name (show List.Nodup (["_law_bit"] : List Str) by decide +kernel) rfl (by first | exact Or.inl rfl | exact Or.inr rfl))) (fun _ _ _ _ => pdts_nil) (fun _ _ _ _ => (pd_ix pd_str (pd_var (pv 0))))) (pdb_one (pds_ret (pd_op opD_add (pd_join pd_str (pd_var (pv 1))) (pd_ix (pd_lst (pda_cons pd_str (pda_cons pd_str pda_nil))) (pd_callTy callD_int rfl b_int boot_int (pda_cons (pd_cmp (opD_eq hr.units) (pd_ix (pd_var (pv 0)) pd_int) pd_int (nomark _)) pda_nil)))))))
theorem sc_l_address_text : FnScope ["_law_address_here"] ["_law_address_here"] (defScope s_l_address_text) := ⟨rfl, rfl, rfl, by decide +kernel, rfl, by decide +kernel, by decide +kernel⟩
theorem ok_l_address_text (T : TF K mg "_law_address_text" s_l_address_text) (b_str : mg "str" = none) : Fn P w K mg base C 1 "_law_address_text" d_l_address_text :=
  fn_F T sc_l_address_text rfl rfl (fun _ _ _ _ _ _ us hl => len1 us hl (fun _ => rfl)) fun f cdv A outer sh H E hr =>
    have nd : (cxOf CX0 P w K mg base ["_law_address_here"] "_law_address_text" (defScope s_l_address_text) f cdv A outer sh H E).nox.N.Nodup := sc_l_address_text.nd
    (pdb_one (pds_ret (pd_op opD_add (pd_op opD_add (pd_callTy callD_str rfl b_str boot_str (pda_cons (pd_op opD_div (pd_var (pv 0)) pd_int) pda_nil)) pd_str) (pd_callTy callD_str rfl b_str boot_str (pda_cons (pd_op opD_mod (pd_var (pv 0)) pd_int) pda_nil)))))
theorem sc_l_odd : FnScope ["_law_x", "_law_some"] ["_law_x"] (defScope s_l_odd) := ⟨rfl, rfl, rfl, by decide +kernel, rfl, by decide +kernel, by decide +kernel⟩
theorem ok_l_odd (T : TF K mg "_law_odd" s_l_odd) : Fn P w K mg base C 1 "_law_odd" d_l_odd :=
  fn_F T sc_l_odd rfl rfl (fun _ _ _ _ _ _ us hl => len1 us hl (fun _ => rfl)) fun f cdv A outer sh H E hr =>
    have nd : (cxOf CX0 P w K mg base ["_law_x", "_law_some"] "_law_odd" (defScope s_l_odd) f cdv A outer sh H E).nox.N.Nodup := sc_l_odd.nd
    (pdb_cons (pds_set (i := 1) nd rfl (by first | exact Or.inl rfl | exact Or.inr rfl) (pd_lst (pda_cons pd_str (pda_cons pd_str (pda_cons pd_str (pda_cons pd_str (pda_cons pd_str (pda_cons pd_str (pda_cons (pd_op opD_mulS pd_str pd_int) (pda_cons (pd_op opD_mulS pd_str pd_int) (pda_cons (pd_op opD_mulS pd_str pd_int) (pda_cons (pd_op opD_add (pd_op opD_mulS pd_str pd_int) pd_str) (pda_cons (pd_op opD_add (pd_op opD_mulS pd_str pd_int) pd_str) (pda_cons pd_str (pda_cons pd_str pda_nil))))))))))))))) (pdb_cons (pds_set (i := 1) nd rfl (by first | exact Or.inl rfl | exact Or.inr rfl) (pd_op opD_add (pd_var (pv 1)) (pd_lst (pda_cons pd_str (pda_cons pd_str (pda_cons pd_str (pda_cons pd_str (pda_cons pd_str (pda_cons pd_str (pda_cons pd_str (pda_cons pd_str (pda_cons pd_str (pda_cons pd_str (pda_cons pd_str (pda_cons pd_str (pda_cons pd_str pda_nil)))))))))))))))) (pdb_cons (pds_set (i := 1) nd rfl (by first | exact Or.inl rfl | exact Or.inr rfl) (pd_op opD_add (pd_var (pv 1)) (pd_lst (pda_cons pd_str (pda_cons pd_str (pda_cons pd_str (pda_cons pd_str (pda_cons pd_str (pda_cons pd_str (pda_cons pd_str (pda_cons pd_str (pda_cons pd_str (pda_cons pd_str (pda_cons pd_str (pda_cons pd_str (pda_cons pd_str pda_nil)))))))))))))))) (pdb_cons (pds_set (i := 1) nd rfl (by first | exact Or.inl rfl | exact Or.inr rfl) (pd_op opD_add (pd_var (pv 1)) (pd_lst (pda_cons pd_str (pda_cons pd_str pda_nil))))) (pdb_one (pds_ret (pd_ix (pd_op opD_add (pd_var (pv 1)) (pd_lst (pda_cons pd_str (pda_cons pd_str (pda_cons pd_str (pda_cons pd_str (pda_cons pd_str (pda_cons pd_str (pda_cons pd_str pda_nil))))))))) (pd_op opD_mod (pd_var (pv 0)) pd_int))))))))
theorem sc_l_number : FnScope ["_law_bits_here", "_law_found", "_law_bit"] ["_law_bits_here"] (defScope s_l_number) := ⟨rfl, rfl, rfl, by decide +kernel, rfl, by decide +kernel, by decide +kernel⟩
theorem ok_l_number (T : TF K mg "_law_number" s_l_number) : Fn P w K mg base C 1 "_law_number" d_l_number :=
  fn_F T sc_l_number rfl rfl (fun _ _ _ _ _ _ us hl => len1 us hl (fun _ => rfl)) fun f cdv A outer sh H E hr =>
    have nd : (cxOf CX0 P w K mg base ["_law_bits_here", "_law_found", "_law_bit"] "_law_number" (defScope s_l_number) f cdv A outer sh H E).nox.N.Nodup := sc_l_number.nd
    (pdb_cons (pds_set (i := 1) nd rfl (by first | exact Or.inl rfl | exact Or.inr rfl) pd_int) (pdb_cons (pds_for PassesOwn.never rfl (pdi_list (pd_var (pv 0))) (pdg_name nd rfl (by first | exact Or.inl rfl | exact Or.inr rfl)) (pdb_one (pds_set (i := 1) nd rfl (by first | exact Or.inl rfl | exact Or.inr rfl) (pd_op opD_add (pd_op opD_mul pd_int (pd_var (pv 1))) (pd_var (pv 2)))))) (pdb_one (pds_ret (pd_var (pv 1))))))
theorem sc_l_beginning : FnScope ["_law_x", "_law_base", "_law_xs", "_law_bits_here", "_law_at"] ["_law_x", "_law_base"] (defScope s_l_beginning) := ⟨rfl, rfl, rfl, by decide +kernel, rfl, by decide +kernel, by decide +kernel⟩
theorem ok_l_beginning (T : TF K mg "_law_beginning" s_l_beginning) (b_len : mg "len" = none) (G_l_stream : Fn P w K mg base C 1 "_law_stream" d_l_stream) (G_l_bits : Fn P w K mg base C 1 "_law_bits" d_l_bits) (G_l_number : Fn P w K mg base C 1 "_law_number" d_l_number) : Fn P w K mg base C 2 "_law_beginning" d_l_beginning :=
  fn_F T sc_l_beginning rfl rfl (fun _ _ _ _ _ _ us hl => len2 us hl (fun _ _ => rfl)) fun f cdv A outer sh H E hr =>
    have nd : (cxOf CX0 P w K mg base ["_law_x", "_law_base", "_law_xs", "_law_bits_here", "_law_at"] "_law_beginning" (defScope s_l_beginning) f cdv A outer sh H E).nox.N.Nodup := sc_l_beginning.nd
    (pdb_cons (pds_set (i := 2) nd rfl (by first | exact Or.inl rfl | exact Or.inr rfl) (pd_callF G_l_stream (hr.mono (by decide)) rfl (pda_cons (pd_var (pv 0)) (pda_cons pd_int pda_nil)))) (pdb_cons (pds_set (i := 3) nd rfl (by first | exact Or.inl rfl | exact Or.inr rfl) (pd_sl (pd_callF G_l_bits (hr.mono (by decide)) rfl (pda_cons (pd_var (pv 1)) (pda_cons pd_int pda_nil))) pdo_none (pdo_some (pd_op opD_mod (pd_ix (pd_var (pv 2)) pd_int) pd_int)))) (pdb_cons (pds_if (PDW.pt (pdw_and (pdt_cmp (opD_eq hr.units) (pd_op opD_mod (pd_ix (pd_var (pv 2)) pd_int) pd_int) pd_int (nomark _)) (pdw_and1 (pdt_cmp (opD_ne hr.units) (pd_var (pv 3)) (pd_lst pda_nil) (nomark _))))) (pdb_cons (pds_set (i := 4) nd rfl (by first | exact Or.inl rfl | exact Or.inr rfl) (pd_ix (pd_lst (pda_cons (pd_op opD_sub (pd_callB callD_len rfl b_len PySem.boot_len (pda_cons (pd_var (pv 3)) pda_nil)) pd_int) (pda_cons (pd_op opD_mod (pd_ix (pd_var (pv 2)) pd_int) (pd_callB callD_len rfl b_len PySem.boot_len (pda_cons (pd_var (pv 3)) pda_nil))) pda_nil))) (pd_op opD_mod (pd_op opD_div (pd_ix (pd_var (pv 2)) pd_int) pd_int) pd_int))) (pdb_one (pds_set (i := 3) nd rfl (by first | exact Or.inl rfl | exact Or.inr rfl) (pd_op opD_add (pd_op opD_add (pd_sl (pd_var (pv 3)) pdo_none (pdo_some (pd_var (pv 4)))) (pd_lst (pda_cons (pd_op opD_sub pd_int (pd_ix (pd_var (pv 3)) (pd_var (pv 4)))) pda_nil))) (pd_sl (pd_var (pv 3)) (pdo_some (pd_op opD_add (pd_var (pv 4)) pd_int)) pdo_none))))) pdb_nil) (pdb_cons (pds_if (pdt_cmp (opD_eq hr.units) (pd_op opD_mod (pd_ix (pd_var (pv 2)) pd_int) pd_int) pd_int (nomark _)) (pdb_one (pds_set (i := 3) nd rfl (by first | exact Or.inl rfl | exact Or.inr rfl) (pd_op opD_add (pd_sl (pd_var (pv 3)) pdo_none (pdo_some (pd_op opD_mod (pd_ix (pd_var (pv 2)) pd_int) (pd_op opD_add (pd_callB callD_len rfl b_len PySem.boot_len (pda_cons (pd_var (pv 3)) pda_nil)) pd_int)))) (pd_sl (pd_callF G_l_bits (hr.mono (by decide)) rfl (pda_cons (pd_ix (pd_var (pv 2)) pd_int) (pda_cons (pd_op opD_sub pd_int (pd_op opD_mod (pd_ix (pd_var (pv 2)) pd_int) pd_int)) pda_nil))) pdo_none (pdo_some (pd_op opD_mod (pd_ix (pd_var (pv 2)) pd_int) pd_int)))))) pdb_nil) (pdb_cons (pds_if (pdt_cmp (opD_eq hr.units) (pd_op opD_mod (pd_ix (pd_var (pv 2)) pd_int) pd_int) pd_int (nomark _)) (pdb_one (pds_set (i := 3) nd rfl (by first | exact Or.inl rfl | exact Or.inr rfl) (pd_op opD_mul (pd_lst (pda_cons (pd_ix (pd_lst (pda_cons pd_int (pda_cons pd_int pda_nil))) (pd_op opD_mod (pd_ix (pd_var (pv 2)) pd_int) pd_int)) pda_nil)) (pd_callB callD_len rfl b_len PySem.boot_len (pda_cons (pd_var (pv 3)) pda_nil))))) pdb_nil) (pdb_one (pds_ret (pd_tup (pda_cons (pd_callF G_l_number (hr.mono (by decide)) rfl (pda_cons (pd_var (pv 3)) pda_nil)) (pda_cons (pd_callB callD_len rfl b_len PySem.boot_len (pda_cons (pd_var (pv 3)) pda_nil)) pda_nil))))))))))
theorem sc_l_address : FnScope ["_law_x", "_law_base", "_law_xs", "_law_bits_here", "_law_at"] ["_law_x", "_law_base"] (defScope s_l_address) := ⟨rfl, rfl, rfl, by decide +kernel, rfl, by decide +kernel, by decide +kernel⟩
theorem ok_l_address (T : TF K mg "_law_address" s_l_address) (b_max : mg "max" = none) (G_l_stream : Fn P w K mg base C 1 "_law_stream" d_l_stream) (G_l_bits : Fn P w K mg base C 1 "_law_bits" d_l_bits) (G_l_number : Fn P w K mg base C 1 "_law_number" d_l_number) : Fn P w K mg base C 2 "_law_address" d_l_address :=
  fn_F T sc_l_address rfl rfl (fun _ _ _ _ _ _ us hl => len2 us hl (fun _ _ => rfl)) fun f cdv A outer sh H E hr =>
    have nd : (cxOf CX0 P w K mg base ["_law_x", "_law_base", "_law_xs", "_law_bits_here", "_law_at"] "_law_address" (defScope s_l_address) f cdv A outer sh H E).nox.N.Nodup := sc_l_address.nd
    (pdb_cons (pds_set (i := 2) nd rfl (by first | exact Or.inl rfl | exact Or.inr rfl) (pd_callF G_l_stream (hr.mono (by decide)) rfl (pda_cons (pd_var (pv 0)) (pda_cons pd_int pda_nil)))) (pdb_cons (pds_if (pdt_cmp (opD_eq hr.units) (pd_op opD_mod (pd_ix (pd_var (pv 2)) pd_int) pd_int) pd_int (nomark _)) (pdb_one (pds_ret (pd_op opD_mod (pd_ix (pd_var (pv 2)) pd_int) pd_int))) pdb_nil) (pdb_cons (pds_if (pdt_cmp (opD_eq hr.units) (pd_op opD_mod (pd_ix (pd_var (pv 2)) pd_int) pd_int) pd_int (nomark _)) (pdb_one (pds_ret (pd_ix (pd_lst (pda_cons pd_int (pda_cons pd_int (pda_cons pd_int (pda_cons pd_int pda_nil))))) (pd_op opD_mod (pd_ix (pd_var (pv 2)) pd_int) pd_int)))) pdb_nil) (pdb_cons (pds_set (i := 3) nd rfl (by first | exact Or.inl rfl | exact Or.inr rfl) (pd_callF G_l_bits (hr.mono (by decide)) rfl (pda_cons (pd_var (pv 1)) (pda_cons pd_int pda_nil)))) (pdb_cons (pds_set (i := 4) nd rfl (by first | exact Or.inl rfl | exact Or.inr rfl) (pd_op opD_mod (pd_ix (pd_var (pv 2)) pd_int) pd_int)) (pdb_one (pds_ret (pd_callF G_l_number (hr.mono (by decide)) rfl (pda_cons (pd_op opD_add (pd_op opD_add (pd_sl (pd_var (pv 3)) pdo_none (pdo_some (pd_var (pv 4)))) (pd_compN rfl (compOk_of (oN := ["_law_x", "_law_base", "_law_xs", "_law_bits_here", "_law_at"]) (osc := defScope s_l_address) (N := ["_law_bit"]) (μ := [none]) rfl rfl (by decide +kernel)) (pdi_list (pd_sl (pd_var (pv 3)) (pdo_some (pd_var (pv 4))) (pdo_some (pd_op opD_add (pd_var (pv 4)) pd_int)))) (fun _ _ _ _ => (pdg_name (show List.Nodup (["_law_bit"] : List Str) by decide +kernel) rfl (by first | exact Or.inl rfl | exact Or.inr rfl))) (fun _ _ _ _ => pdts_nil) (fun _ _ _ _ => (pd_op opD_sub pd_int (pd_var (pv 0)))))) (pd_sl (pd_callF G_l_bits (hr.mono (by decide)) rfl (pda_cons (pd_ix (pd_var (pv 2)) pd_int) (pda_cons pd_int pda_nil))) pdo_none (pdo_some (pd_callB (callD_max rfl) rfl b_max boot_max (pda_cons pd_int (pda_cons (pd_op opD_sub pd_int (pd_var (pv 4))) pda_nil)))))) pda_nil)))))))))
theorem sc_l_sign_by : FnScope ["_law_x", "_law_some"] ["_law_x"] (defScope s_l_sign_by) := ⟨rfl, rfl, rfl, by decide +kernel, rfl, by decide +kernel, by decide +kernel⟩
theorem ok_l_sign_by (T : TF K mg "_law_sign_by" s_l_sign_by) (b_len : mg "len" = none) : Fn P w K mg base C 1 "_law_sign_by" d_l_sign_by :=
  fn_F T sc_l_sign_by rfl rfl (fun _ _ _ _ _ _ us hl => len1 us hl (fun _ => rfl)) fun f cdv A outer sh H E hr =>
    have nd : (cxOf CX0 P w K mg base ["_law_x", "_law_some"] "_law_sign_by" (defScope s_l_sign_by) f cdv A outer sh H E).nox.N.Nodup := sc_l_sign_by.nd
    (pdb_cons (pds_set (i := 1) nd rfl (by first | exact Or.inl rfl | exact Or.inr rfl) pd_str) (pdb_cons (pds_set (i := 1) nd rfl (by first | exact Or.inl rfl | exact Or.inr rfl) (pd_op opD_add (pd_var (pv 1)) pd_str)) (pdb_one (pds_ret (pd_ix (pd_lst (pda_cons (pd_ix (pd_var (pv 1)) (pd_op opD_mod (pd_var (pv 0)) (pd_callB callD_len rfl b_len PySem.boot_len (pda_cons (pd_var (pv 1)) pda_nil)))) (pda_cons (pd_ix pd_str (pd_op opD_mod (pd_var (pv 0)) pd_int)) (pda_cons (pd_ix pd_str (pd_op opD_mod (pd_var (pv 0)) pd_int)) pda_nil)))) (pd_op opD_mod (pd_op opD_div (pd_var (pv 0)) pd_int) pd_int))))))
theorem sc_l_spoilt : FnScope ["_law_x", "_law_text", "_law_xs", "_law_at", "_law_sign"] ["_law_x", "_law_text"] (defScope s_l_spoilt) := ⟨rfl, rfl, rfl, by decide +kernel, rfl, by decide +kernel, by decide +kernel⟩
theorem ok_l_spoilt (T : TF K mg "_law_spoilt" s_l_spoilt) (b_len : mg "len" = none) (G_l_stream : Fn P w K mg base C 1 "_law_stream" d_l_stream) (G_l_sign_by : Fn P w K mg base C 1 "_law_sign_by" d_l_sign_by) : Fn P w K mg base C 2 "_law_spoilt" d_l_spoilt :=
  fn_F T sc_l_spoilt rfl rfl (fun _ _ _ _ _ _ us hl => len2 us hl (fun _ _ => rfl)) fun f cdv A outer sh H E hr =>
    have nd : (cxOf CX0 P w K mg base ["_law_x", "_law_text", "_law_xs", "_law_at", "_law_sign"] "_law_spoilt" (defScope s_l_spoilt) f cdv A outer sh H E).nox.N.Nodup := sc_l_spoilt.nd
    (pdb_cons (pds_set (i := 2) nd rfl (by first | exact Or.inl rfl | exact Or.inr rfl) (pd_callF G_l_stream (hr.mono (by decide)) rfl (pda_cons (pd_var (pv 0)) (pda_cons pd_int pda_nil)))) (pdb_cons (pds_set (i := 3) nd rfl (by first | exact Or.inl rfl | exact Or.inr rfl) (pd_op opD_mod (pd_ix (pd_var (pv 2)) pd_int) (pd_op opD_add (pd_callB callD_len rfl b_len PySem.boot_len (pda_cons (pd_var (pv 1)) pda_nil)) pd_int))) (pdb_cons (pds_set (i := 4) nd rfl (by first | exact Or.inl rfl | exact Or.inr rfl) (pd_callF G_l_sign_by (hr.mono (by decide)) rfl (pda_cons (pd_ix (pd_var (pv 2)) pd_int) pda_nil))) (pdb_cons (pds_if (pdt_cmp (opD_eq hr.units) (pd_op opD_mod (pd_ix (pd_var (pv 2)) pd_int) pd_int) pd_int (nomark _)) (pdb_one (pds_ret (pd_op opD_add (pd_slS (pd_var (pv 1)) pdo_none (pdo_some (pd_var (pv 3)))) (pd_slS (pd_var (pv 1)) (pdo_some (pd_op opD_add (pd_var (pv 3)) pd_int)) pdo_none)))) pdb_nil) (pdb_cons (pds_if (pdt_cmp (opD_eq hr.units) (pd_op opD_mod (pd_ix (pd_var (pv 2)) pd_int) pd_int) pd_int (nomark _)) (pdb_one (pds_ret (pd_op opD_add (pd_op opD_add (pd_slS (pd_var (pv 1)) pdo_none (pdo_some (pd_var (pv 3)))) (pd_var (pv 4))) (pd_slS (pd_var (pv 1)) (pdo_some (pd_var (pv 3))) pdo_none)))) pdb_nil) (pdb_cons (pds_if (pdt_cmp (opD_eq hr.units) (pd_op opD_mod (pd_ix (pd_var (pv 2)) pd_int) pd_int) pd_int (nomark _)) (pdb_one (pds_ret (pd_op opD_add (pd_op opD_add (pd_slS (pd_var (pv 1)) pdo_none (pdo_some (pd_var (pv 3)))) (pd_var (pv 4))) (pd_slS (pd_var (pv 1)) (pdo_some (pd_op opD_add (pd_var (pv 3)) pd_int)) pdo_none)))) pdb_nil) (pdb_one (pds_ret (pd_op opD_add (pd_op opD_add (pd_slS (pd_var (pv 1)) pdo_none (pdo_some (pd_var (pv 3)))) (pd_slS (pd_var (pv 1)) (pdo_some (pd_var (pv 3))) (pdo_some (pd_op opD_add (pd_var (pv 3)) pd_int)))) (pd_slS (pd_var (pv 1)) (pdo_some (pd_var (pv 3))) pdo_none))))))))))
theorem sc_are_figures : FnScope ["part", "most"] ["part", "most"] (defScope s_are_figures) := ⟨rfl, rfl, rfl, by decide +kernel, rfl, by decide +kernel, by decide +kernel⟩
theorem ok_are_figures (T : TF K mg "are_figures" s_are_figures) {t_FIGURES : Tok} (c_FIGURES : mg "FIGURES" = some (.str "0123456789" t_FIGURES)) (b_all : mg "all" = none) (b_int : mg "int" = none) (b_len : mg "len" = none) (b_str : mg "str" = none) : Fn P w K mg base C 1 "are_figures" d_are_figures :=
  fn_F T sc_are_figures rfl rfl (fun _ _ _ _ _ _ us hl => len2 us hl (fun _ _ => rfl)) fun f cdv A outer sh H E hr =>
    have nd : (cxOf CX0 P w K mg base ["part", "most"] "are_figures" (defScope s_are_figures) f cdv A outer sh H E).nox.N.Nodup := sc_are_figures.nd
    (pdb_cons (pds_if (PDW.pt (pdw_or (pdt_cmp opD_lt (pd_callB callD_len rfl b_len PySem.boot_len (pda_cons (pd_var (pv 0)) pda_nil)) pd_int (nomark _)) (pdw_or1 (pdt_cmp opD_gt (pd_callB callD_len rfl b_len PySem.boot_len (pda_cons (pd_var (pv 0)) pda_nil)) (pd_var (pv 1)) (nomark _))))) (pdb_one (pds_ret pd_bl)) pdb_nil) (pdb_one (pds_ret (pd_and (pd_callB (callD_all hr.hd) rfl b_all boot_all (pda_cons (pd_compN rfl (compOk_of (oN := ["part", "most"]) (osc := defScope s_are_figures) (N := ["sign"]) (μ := [none]) rfl rfl (by decide +kernel)) (pdi_text (pd_var (pv 0))) (fun _ _ _ _ => (pdg_name (show List.Nodup (["sign"] : List Str) by decide +kernel) rfl (by first | exact Or.inl rfl | exact Or.inr rfl))) (fun _ _ _ _ => pdts_nil) (fun _ _ _ _ => (pd_cmp opD_inS (pd_var (pv 0)) (pd_globS rfl c_FIGURES) rfl))) pda_nil)) (pd_one (pd_cmp (opD_eq hr.units) (pd_callTy callD_str rfl b_str boot_str (pda_cons (pd_callTy callD_intS rfl b_int boot_int (pda_cons (pd_var (pv 0)) pda_nil)) pda_nil)) (pd_var (pv 0)) (nomark _)))))))
theorem sc_is_eight_bits : FnScope ["part"] ["part"] (defScope s_is_eight_bits) := ⟨rfl, rfl, rfl, by decide +kernel, rfl, by decide +kernel, by decide +kernel⟩
theorem ok_is_eight_bits (T : TF K mg "is_eight_bits" s_is_eight_bits) (b_int : mg "int" = none) (G_are_figures : Fn P w K mg base C 1 "are_figures" d_are_figures) : Fn P w K mg base C 2 "is_eight_bits" d_is_eight_bits :=
  fn_F T sc_is_eight_bits rfl rfl (fun _ _ _ _ _ _ us hl => len1 us hl (fun _ => rfl)) fun f cdv A outer sh H E hr =>
    have nd : (cxOf CX0 P w K mg base ["part"] "is_eight_bits" (defScope s_is_eight_bits) f cdv A outer sh H E).nox.N.Nodup := sc_is_eight_bits.nd
    (pdb_one (pds_ret (pd_and (pd_callF G_are_figures (hr.mono (by decide)) rfl (pda_cons (pd_var (pv 0)) (pda_cons pd_int pda_nil))) (pd_one (pd_cmp opD_le (pd_callTy callD_intS rfl b_int boot_int (pda_cons (pd_var (pv 0)) pda_nil)) pd_int (nomark _))))))
theorem sc_read_address : FnScope ["text", "parts"] ["text"] (defScope s_read_address) := ⟨rfl, rfl, rfl, by decide +kernel, rfl, by decide +kernel, by decide +kernel⟩
theorem ok_read_address {f : Addr} {fd : FuncData} (F : FunV K "read_address" "read_address" s_read_address .none f fd) {C_BadText : Addr} (hC_BadText : C "BadText" = some C_BadText) (O_BadText : OwnCls "BadText" C_BadText bmVE "ValueError.__new__" mg base) (b_all : mg "all" = none) (b_int : mg "int" = none) (b_len : mg "len" = none) (G_is_eight_bits : Fn P w K mg base C 2 "is_eight_bits" d_is_eight_bits) : FnOk P w K mg base (CXr P w) 3 f fd ["text"] (spX K C d_read_address r_read_address) :=
  fn_DX F sc_read_address rfl rfl (fun cdv A outer sh H E hr =>
    have nd : (cxOf (CXr P w) P w K mg base ["text", "parts"] "read_address" (defScope s_read_address) f cdv A outer sh H E).nox.N.Nodup := sc_read_address.nd
    (pdb_cons (pds_set (i := 1) nd rfl (by first | exact Or.inl rfl | exact Or.inr rfl) (pd_split (pd_var (pv 0)) pd_str)) (pdb_cons (pds_if (PDW.pt (pdw_or (pdt_cmp (opD_ne hr.units) (pd_callB callD_len rfl b_len PySem.boot_len (pda_cons (pd_var (pv 1)) pda_nil)) pd_int (nomark _)) (pdw_or1 (pdt_not (pdt_val (pd_callB (callD_all hr.hd) rfl b_all boot_all (pda_cons (pd_compN rfl (compOk_of (oN := ["text", "parts"]) (osc := defScope s_read_address) (N := ["part"]) (μ := [none]) rfl rfl (by decide +kernel)) (pdi_list (pd_var (pv 1))) (fun _ _ _ _ => (pdg_name (show List.Nodup (["part"] : List Str) by decide +kernel) rfl (by first | exact Or.inl rfl | exact Or.inr rfl))) (fun _ _ _ _ => pdts_nil) (fun _ _ _ _ => (pd_callF G_is_eight_bits (hr.mono (by decide)) rfl (pda_cons (pd_var (pv 0)) pda_nil)))) pda_nil))))))) (pdb_one pds_never) pdb_nil) (pdb_one (pds_ret (pd_op opD_add (pd_op opD_mul (pd_callTy callD_intS rfl b_int boot_int (pda_cons (pd_ix (pd_var (pv 1)) pd_int) pda_nil)) pd_int) (pd_callTy callD_intS rfl b_int boot_int (pda_cons (pd_ix (pd_var (pv 1)) pd_int) pda_nil))))))))
    fun cdv A outer sh H E hr =>
    have nd : (cxOf (CXr P w) P w K mg base ["text", "parts"] "read_address" (defScope s_read_address) f cdv A outer sh H E).N.Nodup := sc_read_address.nd
    (rdb_next (pds_set (i := 1) nd rfl (by first | exact Or.inl rfl | exact Or.inr rfl) (pd_split (pd_var (pv 0)) pd_str)) (rdb_here (rds_if (PDW.pt (pdw_or (pdt_cmp (opD_ne hr.units) (pd_callB callD_len rfl b_len PySem.boot_len (pda_cons (pd_var (pv 1)) pda_nil)) pd_int (nomark _)) (pdw_or1 (pdt_not (pdt_val (pd_callB (callD_all hr.hd) rfl b_all boot_all (pda_cons (pd_compN rfl (compOk_of (oN := ["text", "parts"]) (osc := defScope s_read_address) (N := ["part"]) (μ := [none]) rfl rfl (by decide +kernel)) (pdi_list (pd_var (pv 1))) (fun _ _ _ _ => (pdg_name (show List.Nodup (["part"] : List Str) by decide +kernel) rfl (by first | exact Or.inl rfl | exact Or.inr rfl))) (fun _ _ _ _ => pdts_nil) (fun _ _ _ _ => (pd_callF G_is_eight_bits (hr.mono (by decide)) rfl (pda_cons (pd_var (pv 0)) pda_nil)))) pda_nil))))))) (rdb_one (rds_raiseV throwOk_def hC_BadText O_BadText PySem.F.excBase_ValueError hr.hd rfl (pv_frs (pd_var (pv 0))))) rdb_never)))
theorem sc_read_beginning : FnScope ["text", "starred", "signs", "bits", "sign"] ["text"] (defScope s_read_beginning) := ⟨rfl, rfl, rfl, by decide +kernel, rfl, by decide +kernel, by decide +kernel⟩
theorem ok_read_beginning {f : Addr} {fd : FuncData} (F : FunV K "read_beginning" "read_beginning" s_read_beginning .none f fd) {C_BadText : Addr} (hC_BadText : C "BadText" = some C_BadText) (O_BadText : OwnCls "BadText" C_BadText bmVE "ValueError.__new__" mg base) {t_WIDTH : Tok} (c_WIDTH : mg "WIDTH" = some (.int 16 t_WIDTH)) (b_len : mg "len" = none) : FnOk P w K mg base (CXr P w) 1 f fd ["text"] (spX K C d_read_beginning r_read_beginning) :=
  fn_DX F sc_read_beginning rfl rfl (fun cdv A outer sh H E hr =>
    have nd : (cxOf (CXr P w) P w K mg base ["text", "starred", "signs", "bits", "sign"] "read_beginning" (defScope s_read_beginning) f cdv A outer sh H E).nox.N.Nodup := sc_read_beginning.nd
    (pdb_cons (pds_set (i := 1) nd rfl (by first | exact Or.inl rfl | exact Or.inr rfl) (pd_ends (pd_var (pv 0)) pd_str)) (pdb_cons (pds_set (i := 2) nd rfl (by first | exact Or.inl rfl | exact Or.inr rfl) (pd_if (pdt_val (pd_var (pv 1))) (pd_slS (pd_var (pv 0)) pdo_none (pdo_some (pd_neg pd_int))) (pd_var (pv 0)))) (pdb_cons (pds_if (PDW.pt (pdw_or (pdt_cmp (opD_eq hr.units) (pd_var (pv 1)) (pd_cmp (opD_eq hr.units) (pd_callB callD_len rfl b_len PySem.boot_len (pda_cons (pd_var (pv 2)) pda_nil)) (pd_globI rfl c_WIDTH) (nomark _)) (nomark _)) (pdw_or1 (pdt_cmp opD_gt (pd_callB callD_len rfl b_len PySem.boot_len (pda_cons (pd_var (pv 2)) pda_nil)) (pd_globI rfl c_WIDTH) (nomark _))))) (pdb_one pds_never) pdb_nil) (pdb_cons (pds_set (i := 3) nd rfl (by first | exact Or.inl rfl | exact Or.inr rfl) pd_int) (pdb_cons (pds_for PassesOwn.never rfl (pdi_text (pd_var (pv 2))) (pdg_name nd rfl (by first | exact Or.inl rfl | exact Or.inr rfl)) (pdb_cons (pds_if (pdt_cmp opD_notinS (pd_var (pv 4)) pd_str rfl) (pdb_one pds_never) pdb_nil) (pdb_one (pds_set (i := 3) nd rfl (by first | exact Or.inl rfl | exact Or.inr rfl) (pd_op opD_add (pd_op opD_mul (pd_var (pv 3)) pd_int) (pd_if (pdt_cmp (opD_eq hr.units) (pd_var (pv 4)) pd_str (nomark _)) pd_int pd_int)))))) (pdb_one (pds_ret (pd_tup (pda_cons (pd_var (pv 3)) (pda_cons (pd_callB callD_len rfl b_len PySem.boot_len (pda_cons (pd_var (pv 2)) pda_nil)) pda_nil)))))))))))
    fun cdv A outer sh H E hr =>
    have nd : (cxOf (CXr P w) P w K mg base ["text", "starred", "signs", "bits", "sign"] "read_beginning" (defScope s_read_beginning) f cdv A outer sh H E).N.Nodup := sc_read_beginning.nd
    (rdb_next (pds_set (i := 1) nd rfl (by first | exact Or.inl rfl | exact Or.inr rfl) (pd_ends (pd_var (pv 0)) pd_str)) (rdb_next (pds_set (i := 2) nd rfl (by first | exact Or.inl rfl | exact Or.inr rfl) (pd_if (pdt_val (pd_var (pv 1))) (pd_slS (pd_var (pv 0)) pdo_none (pdo_some (pd_neg pd_int))) (pd_var (pv 0)))) (rdb_or (rdb_here (rds_if (PDW.pt (pdw_or (pdt_cmp (opD_eq hr.units) (pd_var (pv 1)) (pd_cmp (opD_eq hr.units) (pd_callB callD_len rfl b_len PySem.boot_len (pda_cons (pd_var (pv 2)) pda_nil)) (pd_globI rfl c_WIDTH) (nomark _)) (nomark _)) (pdw_or1 (pdt_cmp opD_gt (pd_callB callD_len rfl b_len PySem.boot_len (pda_cons (pd_var (pv 2)) pda_nil)) (pd_globI rfl c_WIDTH) (nomark _))))) (rdb_one (rds_raiseV throwOk_def hC_BadText O_BadText PySem.F.excBase_ValueError hr.hd rfl (pv_frs (pd_var (pv 0))))) rdb_never)) (rdb_next (pds_if (PDW.pt (pdw_or (pdt_cmp (opD_eq hr.units) (pd_var (pv 1)) (pd_cmp (opD_eq hr.units) (pd_callB callD_len rfl b_len PySem.boot_len (pda_cons (pd_var (pv 2)) pda_nil)) (pd_globI rfl c_WIDTH) (nomark _)) (nomark _)) (pdw_or1 (pdt_cmp opD_gt (pd_callB callD_len rfl b_len PySem.boot_len (pda_cons (pd_var (pv 2)) pda_nil)) (pd_globI rfl c_WIDTH) (nomark _))))) (pdb_one pds_never) pdb_nil) (rdb_next (pds_set (i := 3) nd rfl (by first | exact Or.inl rfl | exact Or.inr rfl) pd_int) (rdb_here (rds_for passes_def rfl (pdi_text (pd_var (pv 2))) (pdg_name nd rfl (by first | exact Or.inl rfl | exact Or.inr rfl)) (pdb_cons (pds_if (pdt_cmp opD_notinS (pd_var (pv 4)) pd_str rfl) (pdb_one pds_never) pdb_nil) (pdb_one (pds_set (i := 3) nd rfl (by first | exact Or.inl rfl | exact Or.inr rfl) (pd_op opD_add (pd_op opD_mul (pd_var (pv 3)) pd_int) (pd_if (pdt_cmp (opD_eq hr.units) (pd_var (pv 4)) pd_str (nomark _)) pd_int pd_int))))) (rdb_here (rds_if (pdt_cmp opD_notinS (pd_var (pv 4)) pd_str rfl) (rdb_one (rds_raiseV throwOk_def hC_BadText O_BadText PySem.F.excBase_ValueError hr.hd rfl (pv_frs (pd_var (pv 0))))) rdb_never)))))))))
theorem sc_l_told : FnScope ["_law_which", "_law_text", "e"] ["_law_which", "_law_text"] (defScope s_l_told) := ⟨rfl, rfl, rfl, by decide +kernel, rfl, by decide +kernel, by decide +kernel⟩
theorem ok_l_told (T : TF K mg "_law_told" s_l_told) {C_BadDeed C_BadText C_NoHouse C_NoNote C_NoRow C_NotTied C_Owned C_PostError C_Tied : Addr} (m_BadDeed : mg "BadDeed" = some (.ref C_BadDeed)) (m_BadText : mg "BadText" = some (.ref C_BadText)) (m_NoHouse : mg "NoHouse" = some (.ref C_NoHouse)) (m_NoNote : mg "NoNote" = some (.ref C_NoNote)) (m_NoRow : mg "NoRow" = some (.ref C_NoRow)) (m_NotTied : mg "NotTied" = some (.ref C_NotTied)) (m_Owned : mg "Owned" = some (.ref C_Owned)) (m_PostError : mg "PostError" = some (.ref C_PostError)) (m_Tied : mg "Tied" = some (.ref C_Tied)) (tc_PostError : ∀ c, tcf_PostError c = true → ∃ Ca, C c = some Ca ∧ PySem.W.exmOne K (.ref Ca) (.ref C_PostError) = some true) (x_0 : ∀ c Ca b, xt_0 c = some b → C c = some Ca → PySem.W.ExcLook K Ca ∧ PySem.W.kitAny K (.ref Ca) [.ref C_NoRow, .ref C_Tied, .ref C_NotTied, .ref C_Owned, .ref C_NoHouse, .ref C_NoNote, .ref C_BadDeed] = some b) (x_1 : ∀ c Ca b, xt_1 c = some b → C c = some Ca → PySem.W.ExcLook K Ca ∧ PySem.W.kitOne K (.ref Ca) (.ref C_BadText) = some b) (x_2 : ∀ c Ca b, xt_2 c = some b → C c = some Ca → PySem.W.ExcLook K Ca ∧ PySem.W.kitOne K (.ref Ca) (.type "ValueError") = some b) (b_ValueError : mg "ValueError" = none) (b_int : mg "int" = none) (b_isinstance : mg "isinstance" = none) (G_read_beginning : FnX P w K mg base C 1 "read_beginning" d_read_beginning r_read_beginning) (G_read_address : FnX P w K mg base C 3 "read_address" d_read_address r_read_address) : Fn P w K mg base C 4 "_law_told" d_l_told :=
  fn_F T sc_l_told rfl rfl (fun _ _ _ _ _ _ us hl => len2 us hl (fun _ _ => rfl)) fun f cdv A outer sh H E hr =>
    have nd : (cxOf CX0 P w K mg base ["_law_which", "_law_text", "e"] "_law_told" (defScope s_l_told) f cdv A outer sh H E).nox.N.Nodup := sc_l_told.nd
    (pdb_one (pds_try (i := 2) (fun pn E => (pdb_cons (pds_if (pdt_cmp (opD_eq hr.units) (pd_var (pv 0)) pd_int (nomark _)) (pdb_one (pds_ret (pd_callX G_read_beginning (hr.mono (by decide)) rfl (pda_cons (pd_var (pv 1)) pda_nil)))) pdb_nil) (pdb_one (pds_ret (pd_callX G_read_address (hr.mono (by decide)) rfl (pda_cons (pd_var (pv 1)) pda_nil)))))) (fun pn E XW hX => (rdb_or (rdb_here (rds_if (pdt_cmp (opD_eq hr.units) (pd_var (pv 0)) pd_int (nomark _)) (rdb_one (rds_ret (rd_call hX G_read_beginning (hr.mono (by decide)) rfl (pda_cons (pd_var (pv 1)) pda_nil)))) rdb_never)) (rdb_next (pds_if (pdt_cmp (opD_eq hr.units) (pd_var (pv 0)) pd_int (nomark _)) (pdb_one (pds_ret (pd_callX G_read_beginning (hr.mono (by decide)) rfl (pda_cons (pd_var (pv 1)) pda_nil)))) pdb_nil) (rdb_one (rds_ret (rd_call hX G_read_address (hr.mono (by decide)) rfl (pda_cons (pd_var (pv 1)) pda_nil))))))) (fun v pn => (pdb_cons (pds_if (pdt_val (pd_isxs (vs := [C_NoRow, C_Tied, C_NotTied, C_Owned, C_NoHouse, C_NoNote, C_BadDeed].map V.ref) (cvs := [C_NoRow, C_Tied, C_NotTied, C_Owned, C_NoHouse, C_NoNote, C_BadDeed].map Value.ref) (pd_var (pv 2)) (pa_cons (pe_glob (v := .ref C_NoRow) rfl m_NoRow rfl) (pa_cons (pe_glob (v := .ref C_Tied) rfl m_Tied rfl) (pa_cons (pe_glob (v := .ref C_NotTied) rfl m_NotTied rfl) (pa_cons (pe_glob (v := .ref C_Owned) rfl m_Owned rfl) (pa_cons (pe_glob (v := .ref C_NoHouse) rfl m_NoHouse rfl) (pa_cons (pe_glob (v := .ref C_NoNote) rfl m_NoNote rfl) (pa_cons (pe_glob (v := .ref C_BadDeed) rfl m_BadDeed rfl) pa_nil))))))) (fun _ _ _ q => q) (fun us h => vals_refs h) (by show 7 ≤ sizeLine; rw [sizeLine_eq]; decide) rfl b_isinstance boot_isinstance x_0)) (pdb_one (pds_ret pd_str)) pdb_nil) (pdb_one (pds_ret (pd_ix (pd_lst (pda_cons pd_non (pda_cons pd_str pda_nil))) (pd_callTy callD_int rfl b_int boot_int (pda_cons (pd_or (pd_not (pd_isx (pd_var (pv 2)) (pe_glob (v := .ref C_BadText) rfl m_BadText rfl) (fun u h => h) rfl b_isinstance boot_isinstance x_1)) (pd_one (pd_not (pd_isx (pd_var (pv 2)) (pe_bltn (v := .ty "ValueError") rfl b_ValueError (by decide +kernel) rfl) (fun u h => h) rfl b_isinstance boot_isinstance x_2)))) pda_nil))))))) tc_PostError rfl rfl rfl m_PostError nd rfl rfl rfl))
theorem sc_l_bits_of : FnScope ["_law_text", "_law_signs"] ["_law_text"] (defScope s_l_bits_of) := ⟨rfl, rfl, rfl, by decide +kernel, rfl, by decide +kernel, by decide +kernel⟩
theorem ok_l_bits_of (T : TF K mg "_law_bits_of" s_l_bits_of) (b_int : mg "int" = none) (b_len : mg "len" = none) (G_l_number : Fn P w K mg base C 1 "_law_number" d_l_number) : Fn P w K mg base C 2 "_law_bits_of" d_l_bits_of :=
  fn_F T sc_l_bits_of rfl rfl (fun _ _ _ _ _ _ us hl => len1 us hl (fun _ => rfl)) fun f cdv A outer sh H E hr =>
    have nd : (cxOf CX0 P w K mg base ["_law_text", "_law_signs"] "_law_bits_of" (defScope s_l_bits_of) f cdv A outer sh H E).nox.N.Nodup := sc_l_bits_of.nd
    (pdb_cons (pds_set (i := 1) nd rfl (by first | exact Or.inl rfl | exact Or.inr rfl) (pd_var (pv 0))) (pdb_cons (pds_if (pdt_cmp (opD_eq hr.units) (pd_slS (pd_var (pv 0)) (pdo_some (pd_neg pd_int)) pdo_none) pd_str (nomark _)) (pdb_one (pds_set (i := 1) nd rfl (by first | exact Or.inl rfl | exact Or.inr rfl) (pd_slS (pd_var (pv 0)) pdo_none (pdo_some (pd_neg pd_int))))) pdb_nil) (pdb_cons (pds_if (pdt_cmp (opD_ne hr.units) (pd_compN rfl (compOk_of (oN := ["_law_text", "_law_signs"]) (osc := defScope s_l_bits_of) (N := ["_law_sign"]) (μ := [none]) rfl rfl (by decide +kernel)) (pdi_text (pd_var (pv 1))) (fun _ _ _ _ => (pdg_name (show List.Nodup (["_law_sign"] : List Str) by decide +kernel) rfl (by first | exact Or.inl rfl | exact Or.inr rfl))) (fun _ _ _ _ => (pdts_one (pdt_cmp opD_notinL (pd_var (pv 0)) (pd_tup (pda_cons pd_str (pda_cons pd_str pda_nil))) rfl))) (fun _ _ _ _ => (pd_var (pv 0)))) (pd_lst pda_nil) (nomark _)) (pdb_one (pds_ret pd_non)) pdb_nil) (pdb_cons (pds_if (PDW.pt (pdw_or (PDW.pt (pdw_and (pdt_cmp (opD_eq hr.units) (pd_var (pv 1)) (pd_var (pv 0)) (nomark _)) (pdw_and1 (pdt_cmp (opD_ne hr.units) (pd_callB callD_len rfl b_len PySem.boot_len (pda_cons (pd_var (pv 1)) pda_nil)) pd_int (nomark _))))) (pdw_or1 (PDW.pt (pdw_and (pdt_cmp (opD_ne hr.units) (pd_var (pv 1)) (pd_var (pv 0)) (nomark _)) (pdw_and1 (pdt_cmp opD_gt (pd_callB callD_len rfl b_len PySem.boot_len (pda_cons (pd_var (pv 1)) pda_nil)) pd_int (nomark _)))))))) (pdb_one (pds_ret pd_non)) pdb_nil) (pdb_one (pds_ret (pd_tup (pda_cons (pd_callF G_l_number (hr.mono (by decide)) rfl (pda_cons (pd_compN rfl (compOk_of (oN := ["_law_text", "_law_signs"]) (osc := defScope s_l_bits_of) (N := ["_law_sign"]) (μ := [none]) rfl rfl (by decide +kernel)) (pdi_text (pd_var (pv 1))) (fun _ _ _ _ => (pdg_name (show List.Nodup (["_law_sign"] : List Str) by decide +kernel) rfl (by first | exact Or.inl rfl | exact Or.inr rfl))) (fun _ _ _ _ => pdts_nil) (fun _ _ _ _ => (pd_callTy callD_int rfl b_int boot_int (pda_cons (pd_cmp (opD_eq hr.units) (pd_var (pv 0)) pd_str (nomark _)) pda_nil)))) pda_nil)) (pda_cons (pd_callB callD_len rfl b_len PySem.boot_len (pda_cons (pd_var (pv 1)) pda_nil)) pda_nil)))))))))
theorem sc_l_half : FnScope ["_law_word"] ["_law_word"] (defScope s_l_half) := ⟨rfl, rfl, rfl, by decide +kernel, rfl, by decide +kernel, by decide +kernel⟩
theorem ok_l_half (T : TF K mg "_law_half" s_l_half) (b_int : mg "int" = none) (b_range : mg "range" = none) (b_str : mg "str" = none) : Fn P w K mg base C 1 "_law_half" d_l_half :=
  fn_F T sc_l_half rfl rfl (fun _ _ _ _ _ _ us hl => len1 us hl (fun _ => rfl)) fun f cdv A outer sh H E hr =>
    have nd : (cxOf CX0 P w K mg base ["_law_word"] "_law_half" (defScope s_l_half) f cdv A outer sh H E).nox.N.Nodup := sc_l_half.nd
    (pdb_cons (pds_if (pdt_cmp opD_notinL (pd_var (pv 0)) (pd_compN rfl (compOk_of (oN := ["_law_word"]) (osc := defScope s_l_half) (N := ["_law_number_here"]) (μ := [none]) rfl rfl (by decide +kernel)) (pdi_range1 rfl b_range (pda_cons pd_int pda_nil)) (fun _ _ _ _ => (pdg_name (show List.Nodup (["_law_number_here"] : List Str) by decide +kernel) rfl (by first | exact Or.inl rfl | exact Or.inr rfl))) (fun _ _ _ _ => pdts_nil) (fun _ _ _ _ => (pd_callTy callD_str rfl b_str boot_str (pda_cons (pd_var (pv 0)) pda_nil)))) rfl) (pdb_one (pds_ret pd_non)) pdb_nil) (pdb_one (pds_ret (pd_callTy callD_intS rfl b_int boot_int (pda_cons (pd_var (pv 0)) pda_nil)))))
theorem sc_l_address_of : FnScope ["_law_text", "_law_words", "_law_halves"] ["_law_text"] (defScope s_l_address_of) := ⟨rfl, rfl, rfl, by decide +kernel, rfl, by decide +kernel, by decide +kernel⟩
theorem ok_l_address_of (T : TF K mg "_law_address_of" s_l_address_of) (b_len : mg "len" = none) (G_l_half : Fn P w K mg base C 1 "_law_half" d_l_half) : Fn P w K mg base C 2 "_law_address_of" d_l_address_of :=
  fn_F T sc_l_address_of rfl rfl (fun _ _ _ _ _ _ us hl => len1 us hl (fun _ => rfl)) fun f cdv A outer sh H E hr =>
    have nd : (cxOf CX0 P w K mg base ["_law_text", "_law_words", "_law_halves"] "_law_address_of" (defScope s_l_address_of) f cdv A outer sh H E).nox.N.Nodup := sc_l_address_of.nd
    (pdb_cons (pds_set (i := 1) nd rfl (by first | exact Or.inl rfl | exact Or.inr rfl) (pd_split (pd_var (pv 0)) pd_str)) (pdb_cons (pds_compN (i := 2) nd rfl (by first | exact Or.inl rfl | exact Or.inr rfl) rfl (compOk_of (oN := ["_law_text", "_law_words", "_law_halves"]) (osc := defScope s_l_address_of) (N := ["_law_word"]) (μ := [none]) rfl rfl (by decide +kernel)) (pdi_list (pd_var (pv 1))) (fun _ _ _ _ => (pdg_name (show List.Nodup (["_law_word"] : List Str) by decide +kernel) rfl (by first | exact Or.inl rfl | exact Or.inr rfl))) (fun _ _ _ _ => pdts_nil) (fun _ _ _ _ => (pd_callF G_l_half (hr.mono (by decide)) rfl (pda_cons (pd_var (pv 0)) pda_nil)))) (pdb_cons (pds_if (PDW.pt (pdw_or (pdt_cmp (opD_ne hr.units) (pd_callB callD_len rfl b_len PySem.boot_len (pda_cons (pd_var (pv 1)) pda_nil)) pd_int (nomark _)) (pdw_or1 (pdt_cmp opD_inL pd_non (pd_var (pv 2)) rfl)))) (pdb_one (pds_ret pd_non)) pdb_nil) (pdb_one (pds_ret (pd_op opD_add (pd_op opD_mul pd_int (pd_ix (pd_var (pv 2)) pd_int)) (pd_ix (pd_var (pv 2)) pd_int)))))))
theorem sc_law : FnScope ["_law_script", "_law_base", "_law_xs", "_law_texts", "_law_some", "_law_k", "_law_text"] ["_law_script"] (defScope s_law) := ⟨rfl, rfl, rfl, by decide +kernel, rfl, by decide +kernel, by decide +kernel⟩
end
theorem law_fn {P : Program} {w : World} {K : PySem.W.Frag} {mg : Str → Option Value} {base : Heap} {C : Cl} {f : Addr} {fd : FuncData} (F : Fun K "law" "law" s_law f fd) (b_range : mg "range" = none) (G_l_stream : Fn P w K mg base C 1 "_law_stream" d_l_stream) (G_l_cell_at : Fn P w K mg base C 1 "_law_cell_at" d_l_cell_at) (G_l_shown : Fn P w K mg base C 2 "_law_shown" d_l_shown) (G_l_beginning : Fn P w K mg base C 2 "_law_beginning" d_l_beginning) (G_l_address_text : Fn P w K mg base C 1 "_law_address_text" d_l_address_text) (G_l_address : Fn P w K mg base C 2 "_law_address" d_l_address) (G_l_odd : Fn P w K mg base C 1 "_law_odd" d_l_odd) (G_l_spoilt : Fn P w K mg base C 2 "_law_spoilt" d_l_spoilt) (G_l_told : Fn P w K mg base C 4 "_law_told" d_l_told) (G_l_bits_of : Fn P w K mg base C 2 "_law_bits_of" d_l_bits_of) (G_l_address_of : Fn P w K mg base C 2 "_law_address_of" d_l_address_of) : FnOk P w K mg base CX0 5 f fd ["_law_script"] (spD K C d_law) :=
  fn_D F sc_law rfl rfl fun cdv A outer sh H E hr =>
    have nd : (cxOf CX0 P w K mg base ["_law_script", "_law_base", "_law_xs", "_law_texts", "_law_some", "_law_k", "_law_text"] "law" (defScope s_law) f cdv A outer sh H E).nox.N.Nodup := sc_law.nd
    (pdb_cons (pds_set (i := 1) nd rfl (by first | exact Or.inl rfl | exact Or.inr rfl) (pd_op opD_mod (pd_ix (pd_callF G_l_stream (hr.mono (by decide)) rfl (pda_cons (pd_callF G_l_cell_at (hr.mono (by decide)) rfl (pda_cons (pd_var (pv 0)) (pda_cons pd_int pda_nil))) (pda_cons pd_int pda_nil))) pd_int) pd_int)) (pdb_cons (pds_set (i := 2) nd rfl (by first | exact Or.inl rfl | exact Or.inr rfl) (pd_callF G_l_stream (hr.mono (by decide)) rfl (pda_cons (pd_callF G_l_cell_at (hr.mono (by decide)) rfl (pda_cons (pd_var (pv 0)) (pda_cons pd_int pda_nil))) (pda_cons pd_int pda_nil)))) (pdb_cons (pds_own (i := 3) nd rfl (by first | exact Or.inl rfl | exact Or.inr rfl) (pda_cons (pd_callF G_l_shown (hr.mono (by decide)) rfl (pda_cons (pd_callF G_l_beginning (hr.mono (by decide)) rfl (pda_cons (pd_callF G_l_cell_at (hr.mono (by decide)) rfl (pda_cons (pd_var (pv 0)) (pda_cons pd_int pda_nil))) (pda_cons (pd_var (pv 1)) pda_nil))) pda_nil)) pda_nil)) (pdb_cons (pds_app (pv 3) (pd_callF G_l_address_text (hr.mono (by decide)) rfl (pda_cons (pd_callF G_l_address (hr.mono (by decide)) rfl (pda_cons (pd_callF G_l_cell_at (hr.mono (by decide)) rfl (pda_cons (pd_var (pv 0)) (pda_cons pd_int pda_nil))) (pda_cons (pd_var (pv 1)) pda_nil))) pda_nil))) (pdb_cons (pds_own (i := 4) nd rfl (by first | exact Or.inl rfl | exact Or.inr rfl) (pda_cons (pl_ix (pdl_own (pv 3)) pd_int) (pda_cons (pl_ix (pdl_own (pv 3)) pd_int) (pda_cons (pd_callF G_l_odd (hr.mono (by decide)) rfl (pda_cons (pd_ix (pd_var (pv 2)) pd_int) pda_nil)) pda_nil)))) (pdb_cons (pds_for PassesOwn.never rfl (pdi_range1 rfl b_range (pda_cons pd_int pda_nil)) (pdg_name nd rfl (by first | exact Or.inl rfl | exact Or.inr rfl)) (pdb_cons (pds_app (pv 4) (pd_callF G_l_spoilt (hr.mono (by decide)) rfl (pda_cons (pd_op opD_add (pd_ix (pd_var (pv 2)) pd_int) (pd_var (pv 5))) (pda_cons (pl_ix (pdl_own (pv 3)) (pd_var (pv 5))) pda_nil)))) (pdb_one (pds_app (pv 4) (pd_callF G_l_spoilt (hr.mono (by decide)) rfl (pda_cons (pd_op opD_add (pd_ix (pd_var (pv 2)) pd_int) (pd_var (pv 5))) (pda_cons (pl_ix (pdl_own (pv 4)) (pd_neg pd_int)) pda_nil))))))) (pdb_ghost (ghost_frz 4) (pdb_cons (pds_for PassesOwn.never rfl (pdi_list (pd_var (pv 4))) (pdg_name nd rfl (by first | exact Or.inl rfl | exact Or.inr rfl)) (pdb_one (pds_if (PDW.pt (pdw_or (pdt_cmp (opD_ne hr.units) (pd_callF G_l_told (hr.mono (by decide)) rfl (pda_cons pd_int (pda_cons (pd_var (pv 6)) pda_nil))) (pd_callF G_l_bits_of (hr.mono (by decide)) rfl (pda_cons (pd_var (pv 6)) pda_nil)) (nomark _)) (pdw_or1 (pdt_cmp (opD_ne hr.units) (pd_callF G_l_told (hr.mono (by decide)) rfl (pda_cons pd_int (pda_cons (pd_var (pv 6)) pda_nil))) (pd_callF G_l_address_of (hr.mono (by decide)) rfl (pda_cons (pd_var (pv 6)) pda_nil)) (nomark _))))) (pdb_one (pds_ret pd_bl)) pdb_nil))) (pdb_one (pds_ret pd_bl))))))))))
theorem all_mk {P : Program} {w : World} {K : PySem.W.Frag} {h : Heap} {mg : Str → Option Value} {fa f_l_stream f_l_cell_at f_l_bits f_l_shown f_l_address_text f_l_odd f_l_number f_l_beginning f_l_address f_l_sign_by f_l_spoilt f_are_figures f_is_eight_bits f_read_address f_read_beginning f_l_told f_l_bits_of f_l_half f_l_address_of f_law C_BadDeed C_BadText C_NoHouse C_NoNote C_NoRow C_NotTied C_Owned C_PostError C_Tied : Addr} (X : K.In h) (G : h.Ns mainGlobals mg) (hfa : mg "law" = some (.ref fa))
    {od_l_stream an_l_stream : Option Addr} {sl_l_stream : Array (Option Value)} {oc_l_stream kV_l_stream dc_l_stream pm_l_stream cd_l_stream ct_l_stream : Value}
    {od_l_cell_at an_l_cell_at : Option Addr} {sl_l_cell_at : Array (Option Value)} {oc_l_cell_at kV_l_cell_at dc_l_cell_at pm_l_cell_at cd_l_cell_at ct_l_cell_at : Value}
    {od_l_bits an_l_bits : Option Addr} {sl_l_bits : Array (Option Value)} {oc_l_bits kV_l_bits dc_l_bits pm_l_bits cd_l_bits ct_l_bits : Value}
    {od_l_shown an_l_shown : Option Addr} {sl_l_shown : Array (Option Value)} {oc_l_shown kV_l_shown dc_l_shown pm_l_shown cd_l_shown ct_l_shown : Value}
    {od_l_address_text an_l_address_text : Option Addr} {sl_l_address_text : Array (Option Value)} {oc_l_address_text kV_l_address_text dc_l_address_text pm_l_address_text cd_l_address_text ct_l_address_text : Value}
    {od_l_odd an_l_odd : Option Addr} {sl_l_odd : Array (Option Value)} {oc_l_odd kV_l_odd dc_l_odd pm_l_odd cd_l_odd ct_l_odd : Value}
    {od_l_number an_l_number : Option Addr} {sl_l_number : Array (Option Value)} {oc_l_number kV_l_number dc_l_number pm_l_number cd_l_number ct_l_number : Value}
    {od_l_beginning an_l_beginning : Option Addr} {sl_l_beginning : Array (Option Value)} {oc_l_beginning kV_l_beginning dc_l_beginning pm_l_beginning cd_l_beginning ct_l_beginning : Value}
    {od_l_address an_l_address : Option Addr} {sl_l_address : Array (Option Value)} {oc_l_address kV_l_address dc_l_address pm_l_address cd_l_address ct_l_address : Value}
    {od_l_sign_by an_l_sign_by : Option Addr} {sl_l_sign_by : Array (Option Value)} {oc_l_sign_by kV_l_sign_by dc_l_sign_by pm_l_sign_by cd_l_sign_by ct_l_sign_by : Value}
    {od_l_spoilt an_l_spoilt : Option Addr} {sl_l_spoilt : Array (Option Value)} {oc_l_spoilt kV_l_spoilt dc_l_spoilt pm_l_spoilt cd_l_spoilt ct_l_spoilt : Value}
    {od_are_figures an_are_figures : Option Addr} {sl_are_figures : Array (Option Value)} {oc_are_figures kV_are_figures dc_are_figures pm_are_figures cd_are_figures ct_are_figures : Value}
    {od_is_eight_bits an_is_eight_bits : Option Addr} {sl_is_eight_bits : Array (Option Value)} {oc_is_eight_bits kV_is_eight_bits dc_is_eight_bits pm_is_eight_bits cd_is_eight_bits ct_is_eight_bits : Value}
    {od_read_address an_read_address : Option Addr} {sl_read_address : Array (Option Value)} {oc_read_address kV_read_address dc_read_address pm_read_address cd_read_address ct_read_address : Value}
    {od_read_beginning an_read_beginning : Option Addr} {sl_read_beginning : Array (Option Value)} {oc_read_beginning kV_read_beginning dc_read_beginning pm_read_beginning cd_read_beginning ct_read_beginning : Value}
    {od_l_told an_l_told : Option Addr} {sl_l_told : Array (Option Value)} {oc_l_told kV_l_told dc_l_told pm_l_told cd_l_told ct_l_told : Value}
    {od_l_bits_of an_l_bits_of : Option Addr} {sl_l_bits_of : Array (Option Value)} {oc_l_bits_of kV_l_bits_of dc_l_bits_of pm_l_bits_of cd_l_bits_of ct_l_bits_of : Value}
    {od_l_half an_l_half : Option Addr} {sl_l_half : Array (Option Value)} {oc_l_half kV_l_half dc_l_half pm_l_half cd_l_half ct_l_half : Value}
    {od_l_address_of an_l_address_of : Option Addr} {sl_l_address_of : Array (Option Value)} {oc_l_address_of kV_l_address_of dc_l_address_of pm_l_address_of cd_l_address_of ct_l_address_of : Value}
    {od_law an_law : Option Addr} {sl_law : Array (Option Value)} {oc_law kV_law dc_law pm_law cd_law ct_law : Value}
    {t_FIGURES : Tok}
    {t_WIDTH : Tok}
    (a_l_stream : PySem.W.nsIn K mainGlobals "_law_stream" = some (some (.ref f_l_stream)))
    (l_l_stream : K.lookup f_l_stream = some ⟨oc_l_stream, od_l_stream, .func (PySem.W.fnOf "_law_stream" "_law_stream" (defArgs s_l_stream) (defBody s_l_stream) (defScope s_l_stream) .none kV_l_stream dc_l_stream pm_l_stream an_l_stream cd_l_stream ct_l_stream), sl_l_stream⟩) (cc_l_stream : PySem.W.codeIn K cd_l_stream "_law_stream" = true) (k_l_stream : PySem.W.keepIn K (.ref f_l_stream) = true)
    (a_l_cell_at : PySem.W.nsIn K mainGlobals "_law_cell_at" = some (some (.ref f_l_cell_at)))
    (l_l_cell_at : K.lookup f_l_cell_at = some ⟨oc_l_cell_at, od_l_cell_at, .func (PySem.W.fnOf "_law_cell_at" "_law_cell_at" (defArgs s_l_cell_at) (defBody s_l_cell_at) (defScope s_l_cell_at) .none kV_l_cell_at dc_l_cell_at pm_l_cell_at an_l_cell_at cd_l_cell_at ct_l_cell_at), sl_l_cell_at⟩) (cc_l_cell_at : PySem.W.codeIn K cd_l_cell_at "_law_cell_at" = true) (k_l_cell_at : PySem.W.keepIn K (.ref f_l_cell_at) = true)
    (a_l_bits : PySem.W.nsIn K mainGlobals "_law_bits" = some (some (.ref f_l_bits)))
    (l_l_bits : K.lookup f_l_bits = some ⟨oc_l_bits, od_l_bits, .func (PySem.W.fnOf "_law_bits" "_law_bits" (defArgs s_l_bits) (defBody s_l_bits) (defScope s_l_bits) .none kV_l_bits dc_l_bits pm_l_bits an_l_bits cd_l_bits ct_l_bits), sl_l_bits⟩) (cc_l_bits : PySem.W.codeIn K cd_l_bits "_law_bits" = true) (k_l_bits : PySem.W.keepIn K (.ref f_l_bits) = true)
    (a_l_shown : PySem.W.nsIn K mainGlobals "_law_shown" = some (some (.ref f_l_shown)))
    (l_l_shown : K.lookup f_l_shown = some ⟨oc_l_shown, od_l_shown, .func (PySem.W.fnOf "_law_shown" "_law_shown" (defArgs s_l_shown) (defBody s_l_shown) (defScope s_l_shown) .none kV_l_shown dc_l_shown pm_l_shown an_l_shown cd_l_shown ct_l_shown), sl_l_shown⟩) (cc_l_shown : PySem.W.codeIn K cd_l_shown "_law_shown" = true) (k_l_shown : PySem.W.keepIn K (.ref f_l_shown) = true)
    (a_l_address_text : PySem.W.nsIn K mainGlobals "_law_address_text" = some (some (.ref f_l_address_text)))
    (l_l_address_text : K.lookup f_l_address_text = some ⟨oc_l_address_text, od_l_address_text, .func (PySem.W.fnOf "_law_address_text" "_law_address_text" (defArgs s_l_address_text) (defBody s_l_address_text) (defScope s_l_address_text) .none kV_l_address_text dc_l_address_text pm_l_address_text an_l_address_text cd_l_address_text ct_l_address_text), sl_l_address_text⟩) (cc_l_address_text : PySem.W.codeIn K cd_l_address_text "_law_address_text" = true) (k_l_address_text : PySem.W.keepIn K (.ref f_l_address_text) = true)
    (a_l_odd : PySem.W.nsIn K mainGlobals "_law_odd" = some (some (.ref f_l_odd)))
    (l_l_odd : K.lookup f_l_odd = some ⟨oc_l_odd, od_l_odd, .func (PySem.W.fnOf "_law_odd" "_law_odd" (defArgs s_l_odd) (defBody s_l_odd) (defScope s_l_odd) .none kV_l_odd dc_l_odd pm_l_odd an_l_odd cd_l_odd ct_l_odd), sl_l_odd⟩) (cc_l_odd : PySem.W.codeIn K cd_l_odd "_law_odd" = true) (k_l_odd : PySem.W.keepIn K (.ref f_l_odd) = true)
    (a_l_number : PySem.W.nsIn K mainGlobals "_law_number" = some (some (.ref f_l_number)))
    (l_l_number : K.lookup f_l_number = some ⟨oc_l_number, od_l_number, .func (PySem.W.fnOf "_law_number" "_law_number" (defArgs s_l_number) (defBody s_l_number) (defScope s_l_number) .none kV_l_number dc_l_number pm_l_number an_l_number cd_l_number ct_l_number), sl_l_number⟩) (cc_l_number : PySem.W.codeIn K cd_l_number "_law_number" = true) (k_l_number : PySem.W.keepIn K (.ref f_l_number) = true)
    (a_l_beginning : PySem.W.nsIn K mainGlobals "_law_beginning" = some (some (.ref f_l_beginning)))
    (l_l_beginning : K.lookup f_l_beginning = some ⟨oc_l_beginning, od_l_beginning, .func (PySem.W.fnOf "_law_beginning" "_law_beginning" (defArgs s_l_beginning) (defBody s_l_beginning) (defScope s_l_beginning) .none kV_l_beginning dc_l_beginning pm_l_beginning an_l_beginning cd_l_beginning ct_l_beginning), sl_l_beginning⟩) (cc_l_beginning : PySem.W.codeIn K cd_l_beginning "_law_beginning" = true) (k_l_beginning : PySem.W.keepIn K (.ref f_l_beginning) = true)
    (a_l_address : PySem.W.nsIn K mainGlobals "_law_address" = some (some (.ref f_l_address)))
    (l_l_address : K.lookup f_l_address = some ⟨oc_l_address, od_l_address, .func (PySem.W.fnOf "_law_address" "_law_address" (defArgs s_l_address) (defBody s_l_address) (defScope s_l_address) .none kV_l_address dc_l_address pm_l_address an_l_address cd_l_address ct_l_address), sl_l_address⟩) (cc_l_address : PySem.W.codeIn K cd_l_address "_law_address" = true) (k_l_address : PySem.W.keepIn K (.ref f_l_address) = true)
    (a_l_sign_by : PySem.W.nsIn K mainGlobals "_law_sign_by" = some (some (.ref f_l_sign_by)))
    (l_l_sign_by : K.lookup f_l_sign_by = some ⟨oc_l_sign_by, od_l_sign_by, .func (PySem.W.fnOf "_law_sign_by" "_law_sign_by" (defArgs s_l_sign_by) (defBody s_l_sign_by) (defScope s_l_sign_by) .none kV_l_sign_by dc_l_sign_by pm_l_sign_by an_l_sign_by cd_l_sign_by ct_l_sign_by), sl_l_sign_by⟩) (cc_l_sign_by : PySem.W.codeIn K cd_l_sign_by "_law_sign_by" = true) (k_l_sign_by : PySem.W.keepIn K (.ref f_l_sign_by) = true)
    (a_l_spoilt : PySem.W.nsIn K mainGlobals "_law_spoilt" = some (some (.ref f_l_spoilt)))
    (l_l_spoilt : K.lookup f_l_spoilt = some ⟨oc_l_spoilt, od_l_spoilt, .func (PySem.W.fnOf "_law_spoilt" "_law_spoilt" (defArgs s_l_spoilt) (defBody s_l_spoilt) (defScope s_l_spoilt) .none kV_l_spoilt dc_l_spoilt pm_l_spoilt an_l_spoilt cd_l_spoilt ct_l_spoilt), sl_l_spoilt⟩) (cc_l_spoilt : PySem.W.codeIn K cd_l_spoilt "_law_spoilt" = true) (k_l_spoilt : PySem.W.keepIn K (.ref f_l_spoilt) = true)
    (a_are_figures : PySem.W.nsIn K mainGlobals "are_figures" = some (some (.ref f_are_figures)))
    (l_are_figures : K.lookup f_are_figures = some ⟨oc_are_figures, od_are_figures, .func (PySem.W.fnOf "are_figures" "are_figures" (defArgs s_are_figures) (defBody s_are_figures) (defScope s_are_figures) .none kV_are_figures dc_are_figures pm_are_figures an_are_figures cd_are_figures ct_are_figures), sl_are_figures⟩) (cc_are_figures : PySem.W.codeIn K cd_are_figures "are_figures" = true) (k_are_figures : PySem.W.keepIn K (.ref f_are_figures) = true)
    (a_is_eight_bits : PySem.W.nsIn K mainGlobals "is_eight_bits" = some (some (.ref f_is_eight_bits)))
    (l_is_eight_bits : K.lookup f_is_eight_bits = some ⟨oc_is_eight_bits, od_is_eight_bits, .func (PySem.W.fnOf "is_eight_bits" "is_eight_bits" (defArgs s_is_eight_bits) (defBody s_is_eight_bits) (defScope s_is_eight_bits) .none kV_is_eight_bits dc_is_eight_bits pm_is_eight_bits an_is_eight_bits cd_is_eight_bits ct_is_eight_bits), sl_is_eight_bits⟩) (cc_is_eight_bits : PySem.W.codeIn K cd_is_eight_bits "is_eight_bits" = true) (k_is_eight_bits : PySem.W.keepIn K (.ref f_is_eight_bits) = true)
    (a_read_address : PySem.W.nsIn K mainGlobals "read_address" = some (some (.ref f_read_address)))
    (l_read_address : K.lookup f_read_address = some ⟨oc_read_address, od_read_address, .func (PySem.W.fnOf "read_address" "read_address" (defArgs s_read_address) (defBody s_read_address) (defScope s_read_address) .none kV_read_address dc_read_address pm_read_address an_read_address cd_read_address ct_read_address), sl_read_address⟩) (cc_read_address : PySem.W.codeIn K cd_read_address "read_address" = true) (k_read_address : PySem.W.keepIn K (.ref f_read_address) = true)
    (a_read_beginning : PySem.W.nsIn K mainGlobals "read_beginning" = some (some (.ref f_read_beginning)))
    (l_read_beginning : K.lookup f_read_beginning = some ⟨oc_read_beginning, od_read_beginning, .func (PySem.W.fnOf "read_beginning" "read_beginning" (defArgs s_read_beginning) (defBody s_read_beginning) (defScope s_read_beginning) .none kV_read_beginning dc_read_beginning pm_read_beginning an_read_beginning cd_read_beginning ct_read_beginning), sl_read_beginning⟩) (cc_read_beginning : PySem.W.codeIn K cd_read_beginning "read_beginning" = true) (k_read_beginning : PySem.W.keepIn K (.ref f_read_beginning) = true)
    (a_l_told : PySem.W.nsIn K mainGlobals "_law_told" = some (some (.ref f_l_told)))
    (l_l_told : K.lookup f_l_told = some ⟨oc_l_told, od_l_told, .func (PySem.W.fnOf "_law_told" "_law_told" (defArgs s_l_told) (defBody s_l_told) (defScope s_l_told) .none kV_l_told dc_l_told pm_l_told an_l_told cd_l_told ct_l_told), sl_l_told⟩) (cc_l_told : PySem.W.codeIn K cd_l_told "_law_told" = true) (k_l_told : PySem.W.keepIn K (.ref f_l_told) = true)
    (a_l_bits_of : PySem.W.nsIn K mainGlobals "_law_bits_of" = some (some (.ref f_l_bits_of)))
    (l_l_bits_of : K.lookup f_l_bits_of = some ⟨oc_l_bits_of, od_l_bits_of, .func (PySem.W.fnOf "_law_bits_of" "_law_bits_of" (defArgs s_l_bits_of) (defBody s_l_bits_of) (defScope s_l_bits_of) .none kV_l_bits_of dc_l_bits_of pm_l_bits_of an_l_bits_of cd_l_bits_of ct_l_bits_of), sl_l_bits_of⟩) (cc_l_bits_of : PySem.W.codeIn K cd_l_bits_of "_law_bits_of" = true) (k_l_bits_of : PySem.W.keepIn K (.ref f_l_bits_of) = true)
    (a_l_half : PySem.W.nsIn K mainGlobals "_law_half" = some (some (.ref f_l_half)))
    (l_l_half : K.lookup f_l_half = some ⟨oc_l_half, od_l_half, .func (PySem.W.fnOf "_law_half" "_law_half" (defArgs s_l_half) (defBody s_l_half) (defScope s_l_half) .none kV_l_half dc_l_half pm_l_half an_l_half cd_l_half ct_l_half), sl_l_half⟩) (cc_l_half : PySem.W.codeIn K cd_l_half "_law_half" = true) (k_l_half : PySem.W.keepIn K (.ref f_l_half) = true)
    (a_l_address_of : PySem.W.nsIn K mainGlobals "_law_address_of" = some (some (.ref f_l_address_of)))
    (l_l_address_of : K.lookup f_l_address_of = some ⟨oc_l_address_of, od_l_address_of, .func (PySem.W.fnOf "_law_address_of" "_law_address_of" (defArgs s_l_address_of) (defBody s_l_address_of) (defScope s_l_address_of) .none kV_l_address_of dc_l_address_of pm_l_address_of an_l_address_of cd_l_address_of ct_l_address_of), sl_l_address_of⟩) (cc_l_address_of : PySem.W.codeIn K cd_l_address_of "_law_address_of" = true) (k_l_address_of : PySem.W.keepIn K (.ref f_l_address_of) = true)
    (a_law : PySem.W.nsIn K mainGlobals "law" = some (some (.ref f_law)))
    (l_law : K.lookup f_law = some ⟨oc_law, od_law, .func (PySem.W.fnOf "law" "law" (defArgs s_law) (defBody s_law) (defScope s_law) .none kV_law dc_law pm_law an_law cd_law ct_law), sl_law⟩) (cc_law : PySem.W.codeIn K cd_law "law" = true) (k_law : PySem.W.keepIn K (.ref f_law) = true)
    (a_BadDeed : PySem.W.nsIn K mainGlobals "BadDeed" = some (some (.ref C_BadDeed)))
    (a_BadText : PySem.W.nsIn K mainGlobals "BadText" = some (some (.ref C_BadText)))
    (a_NoHouse : PySem.W.nsIn K mainGlobals "NoHouse" = some (some (.ref C_NoHouse)))
    (a_NoNote : PySem.W.nsIn K mainGlobals "NoNote" = some (some (.ref C_NoNote)))
    (a_NoRow : PySem.W.nsIn K mainGlobals "NoRow" = some (some (.ref C_NoRow)))
    (a_NotTied : PySem.W.nsIn K mainGlobals "NotTied" = some (some (.ref C_NotTied)))
    (a_Owned : PySem.W.nsIn K mainGlobals "Owned" = some (some (.ref C_Owned)))
    (a_PostError : PySem.W.nsIn K mainGlobals "PostError" = some (some (.ref C_PostError)))
    (a_Tied : PySem.W.nsIn K mainGlobals "Tied" = some (some (.ref C_Tied)))
    (lk_hn : PySem.W.specialIn K (.builtin "object.__class__") "__get__" = some (some (.builtin "getset_descriptor.__get__")))
    (lk_tk : PySem.W.takesIn K (.builtin "object.__class__") = some true)
    (ow_BadText : ownIn K C_BadText bmVE "ValueError.__new__" = true)
    (lk_cl_BadText : (PySem.W.clsIn K C_BadText).isSome = true)
    (lk_ga_BadText : PySem.W.findIn K (.ref C_BadText) "__getattribute__" = some (some (.builtin "BaseException.__getattribute__")))
    (lk_hk_BadText : PySem.W.findIn K (.ref C_BadText) "__getattr__" = some none)
    (lk_sub_BadText : PySem.W.subIn K (.ref C_BadText) (.type "BaseException") = some true)
    (lk_ha_BadText : PySem.W.findIn K (.ref C_BadText) "__class__" = some (some (.builtin "object.__class__")))
    (lk_hm_BadText : PySem.W.mroIn K C_BadText (.type "object") = some true)
    (ex_BadText_PostError : PySem.W.exmOne K (.ref C_BadText) (.ref C_PostError) = some true)
    (y_0_BadText : PySem.W.kitAny K (.ref C_BadText) [.ref C_NoRow, .ref C_Tied, .ref C_NotTied, .ref C_Owned, .ref C_NoHouse, .ref C_NoNote, .ref C_BadDeed] = some false)
    (y_1_BadText : PySem.W.kitOne K (.ref C_BadText) (.ref C_BadText) = some true)
    (y_2_BadText : PySem.W.kitOne K (.ref C_BadText) (.type "ValueError") = some true)
    (z_ValueError : PySem.W.nsIn K mainGlobals "ValueError" = some none)
    (z_all : PySem.W.nsIn K mainGlobals "all" = some none)
    (z_int : PySem.W.nsIn K mainGlobals "int" = some none)
    (z_isinstance : PySem.W.nsIn K mainGlobals "isinstance" = some none)
    (z_len : PySem.W.nsIn K mainGlobals "len" = some none)
    (z_max : PySem.W.nsIn K mainGlobals "max" = some none)
    (z_range : PySem.W.nsIn K mainGlobals "range" = some none)
    (z_str : PySem.W.nsIn K mainGlobals "str" = some none)
    (v_FIGURES : PySem.W.nsIn K mainGlobals "FIGURES" = some (some (.str "0123456789" t_FIGURES)))
    (v_WIDTH : PySem.W.nsIn K mainGlobals "WIDTH" = some (some (.int 16 t_WIDTH))) :
    ∃ fd : FuncData, (∀ (s : Shared) (v : Value), BindsTo s fd ⟨[v], []⟩ [("_law_script", v)]) ∧ ∀ base : Heap, K.In base → base.Ns mainGlobals mg → FnOk P w K mg base CX0 5 fa fd ["_law_script"] (spC K d_law) := by
  have e := hfa.symm.trans (PySem.W.mg_of X G a_law)
  cases e
  have hC_BadText : (clAdd C0 "BadText" C_BadText) "BadText" = some C_BadText := clAdd_same
  have L_BadText : PySem.W.ExcLook K C_BadText := ⟨lk_cl_BadText, lk_ga_BadText, lk_hk_BadText, lk_sub_BadText, lk_ha_BadText, lk_hn, lk_tk, lk_hm_BadText⟩
  have tc_PostError : ∀ c, tcf_PostError c = true → ∃ Ca, (clAdd C0 "BadText" C_BadText) c = some Ca ∧ PySem.W.exmOne K (.ref Ca) (.ref C_PostError) = some true := fun c hc => by
    simp only [tcf_PostError, Bool.or_eq_true, decide_eq_true_eq] at hc
    rcases hc with rfl
    · exact ⟨C_BadText, hC_BadText, ex_BadText_PostError⟩
  have x_0 : ∀ c Ca b, xt_0 c = some b → (clAdd C0 "BadText" C_BadText) c = some Ca → PySem.W.ExcLook K Ca ∧ PySem.W.kitAny K (.ref Ca) [.ref C_NoRow, .ref C_Tied, .ref C_NotTied, .ref C_Owned, .ref C_NoHouse, .ref C_NoNote, .ref C_BadDeed] = some b := fun c Ca b h1 h2 => by
    unfold xt_0 at h1
    by_cases e_BadText : c = "BadText"
    · subst e_BadText; rw [if_pos rfl] at h1; cases h1; rw [hC_BadText] at h2; cases h2; exact ⟨L_BadText, y_0_BadText⟩
    rw [if_neg e_BadText] at h1
    cases h1
  have x_1 : ∀ c Ca b, xt_1 c = some b → (clAdd C0 "BadText" C_BadText) c = some Ca → PySem.W.ExcLook K Ca ∧ PySem.W.kitOne K (.ref Ca) (.ref C_BadText) = some b := fun c Ca b h1 h2 => by
    unfold xt_1 at h1
    by_cases e_BadText : c = "BadText"
    · subst e_BadText; rw [if_pos rfl] at h1; cases h1; rw [hC_BadText] at h2; cases h2; exact ⟨L_BadText, y_1_BadText⟩
    rw [if_neg e_BadText] at h1
    cases h1
  have x_2 : ∀ c Ca b, xt_2 c = some b → (clAdd C0 "BadText" C_BadText) c = some Ca → PySem.W.ExcLook K Ca ∧ PySem.W.kitOne K (.ref Ca) (.type "ValueError") = some b := fun c Ca b h1 h2 => by
    unfold xt_2 at h1
    by_cases e_BadText : c = "BadText"
    · subst e_BadText; rw [if_pos rfl] at h1; cases h1; rw [hC_BadText] at h2; cases h2; exact ⟨L_BadText, y_2_BadText⟩
    rw [if_neg e_BadText] at h1
    cases h1
  have T_l_stream : TF K mg "_law_stream" s_l_stream := ⟨f_l_stream, _, PySem.W.mg_of X G a_l_stream, fun_mk (st := s_l_stream) l_l_stream cc_l_stream k_l_stream⟩
  have T_l_cell_at : TF K mg "_law_cell_at" s_l_cell_at := ⟨f_l_cell_at, _, PySem.W.mg_of X G a_l_cell_at, fun_mk (st := s_l_cell_at) l_l_cell_at cc_l_cell_at k_l_cell_at⟩
  have T_l_bits : TF K mg "_law_bits" s_l_bits := ⟨f_l_bits, _, PySem.W.mg_of X G a_l_bits, fun_mk (st := s_l_bits) l_l_bits cc_l_bits k_l_bits⟩
  have T_l_shown : TF K mg "_law_shown" s_l_shown := ⟨f_l_shown, _, PySem.W.mg_of X G a_l_shown, fun_mk (st := s_l_shown) l_l_shown cc_l_shown k_l_shown⟩
  have T_l_address_text : TF K mg "_law_address_text" s_l_address_text := ⟨f_l_address_text, _, PySem.W.mg_of X G a_l_address_text, fun_mk (st := s_l_address_text) l_l_address_text cc_l_address_text k_l_address_text⟩
  have T_l_odd : TF K mg "_law_odd" s_l_odd := ⟨f_l_odd, _, PySem.W.mg_of X G a_l_odd, fun_mk (st := s_l_odd) l_l_odd cc_l_odd k_l_odd⟩
  have T_l_number : TF K mg "_law_number" s_l_number := ⟨f_l_number, _, PySem.W.mg_of X G a_l_number, fun_mk (st := s_l_number) l_l_number cc_l_number k_l_number⟩
  have T_l_beginning : TF K mg "_law_beginning" s_l_beginning := ⟨f_l_beginning, _, PySem.W.mg_of X G a_l_beginning, fun_mk (st := s_l_beginning) l_l_beginning cc_l_beginning k_l_beginning⟩
  have T_l_address : TF K mg "_law_address" s_l_address := ⟨f_l_address, _, PySem.W.mg_of X G a_l_address, fun_mk (st := s_l_address) l_l_address cc_l_address k_l_address⟩
  have T_l_sign_by : TF K mg "_law_sign_by" s_l_sign_by := ⟨f_l_sign_by, _, PySem.W.mg_of X G a_l_sign_by, fun_mk (st := s_l_sign_by) l_l_sign_by cc_l_sign_by k_l_sign_by⟩
  have T_l_spoilt : TF K mg "_law_spoilt" s_l_spoilt := ⟨f_l_spoilt, _, PySem.W.mg_of X G a_l_spoilt, fun_mk (st := s_l_spoilt) l_l_spoilt cc_l_spoilt k_l_spoilt⟩
  have T_are_figures : TF K mg "are_figures" s_are_figures := ⟨f_are_figures, _, PySem.W.mg_of X G a_are_figures, fun_mk (st := s_are_figures) l_are_figures cc_are_figures k_are_figures⟩
  have T_is_eight_bits : TF K mg "is_eight_bits" s_is_eight_bits := ⟨f_is_eight_bits, _, PySem.W.mg_of X G a_is_eight_bits, fun_mk (st := s_is_eight_bits) l_is_eight_bits cc_is_eight_bits k_is_eight_bits⟩
  have T_read_address : TF K mg "read_address" s_read_address := ⟨f_read_address, _, PySem.W.mg_of X G a_read_address, fun_mk (st := s_read_address) l_read_address cc_read_address k_read_address⟩
  have T_read_beginning : TF K mg "read_beginning" s_read_beginning := ⟨f_read_beginning, _, PySem.W.mg_of X G a_read_beginning, fun_mk (st := s_read_beginning) l_read_beginning cc_read_beginning k_read_beginning⟩
  have T_l_told : TF K mg "_law_told" s_l_told := ⟨f_l_told, _, PySem.W.mg_of X G a_l_told, fun_mk (st := s_l_told) l_l_told cc_l_told k_l_told⟩
  have T_l_bits_of : TF K mg "_law_bits_of" s_l_bits_of := ⟨f_l_bits_of, _, PySem.W.mg_of X G a_l_bits_of, fun_mk (st := s_l_bits_of) l_l_bits_of cc_l_bits_of k_l_bits_of⟩
  have T_l_half : TF K mg "_law_half" s_l_half := ⟨f_l_half, _, PySem.W.mg_of X G a_l_half, fun_mk (st := s_l_half) l_l_half cc_l_half k_l_half⟩
  have T_l_address_of : TF K mg "_law_address_of" s_l_address_of := ⟨f_l_address_of, _, PySem.W.mg_of X G a_l_address_of, fun_mk (st := s_l_address_of) l_l_address_of cc_l_address_of k_l_address_of⟩
  refine ⟨PySem.W.fnOf "law" "law" (defArgs s_law) (defBody s_law) (defScope s_law) .none kV_law dc_law pm_law an_law cd_law ct_law, fun s v => .of_eq rfl, fun base KB _ => ?_⟩
  have O_BadText : OwnCls "BadText" C_BadText bmVE "ValueError.__new__" mg base := own_in KB ow_BadText (PySem.W.mg_of X G a_BadText)
  have G_l_stream : Fn P w K mg base (clAdd C0 "BadText" C_BadText) 1 "_law_stream" d_l_stream := ok_l_stream T_l_stream (PySem.W.mg_none_of X G z_range)
  have G_l_cell_at : Fn P w K mg base (clAdd C0 "BadText" C_BadText) 1 "_law_cell_at" d_l_cell_at := ok_l_cell_at T_l_cell_at (PySem.W.mg_none_of X G z_len)
  have G_l_bits : Fn P w K mg base (clAdd C0 "BadText" C_BadText) 1 "_law_bits" d_l_bits := ok_l_bits T_l_bits (PySem.W.mg_none_of X G z_range)
  have G_l_shown : Fn P w K mg base (clAdd C0 "BadText" C_BadText) 2 "_law_shown" d_l_shown := ok_l_shown T_l_shown (PySem.W.mg_none_of X G z_int) G_l_bits
  have G_l_address_text : Fn P w K mg base (clAdd C0 "BadText" C_BadText) 1 "_law_address_text" d_l_address_text := ok_l_address_text T_l_address_text (PySem.W.mg_none_of X G z_str)
  have G_l_odd : Fn P w K mg base (clAdd C0 "BadText" C_BadText) 1 "_law_odd" d_l_odd := ok_l_odd T_l_odd 
  have G_l_number : Fn P w K mg base (clAdd C0 "BadText" C_BadText) 1 "_law_number" d_l_number := ok_l_number T_l_number 
  have G_l_beginning : Fn P w K mg base (clAdd C0 "BadText" C_BadText) 2 "_law_beginning" d_l_beginning := ok_l_beginning T_l_beginning (PySem.W.mg_none_of X G z_len) G_l_stream G_l_bits G_l_number
  have G_l_address : Fn P w K mg base (clAdd C0 "BadText" C_BadText) 2 "_law_address" d_l_address := ok_l_address T_l_address (PySem.W.mg_none_of X G z_max) G_l_stream G_l_bits G_l_number
  have G_l_sign_by : Fn P w K mg base (clAdd C0 "BadText" C_BadText) 1 "_law_sign_by" d_l_sign_by := ok_l_sign_by T_l_sign_by (PySem.W.mg_none_of X G z_len)
  have G_l_spoilt : Fn P w K mg base (clAdd C0 "BadText" C_BadText) 2 "_law_spoilt" d_l_spoilt := ok_l_spoilt T_l_spoilt (PySem.W.mg_none_of X G z_len) G_l_stream G_l_sign_by
  have G_are_figures : Fn P w K mg base (clAdd C0 "BadText" C_BadText) 1 "are_figures" d_are_figures := ok_are_figures T_are_figures (PySem.W.mg_of X G v_FIGURES) (PySem.W.mg_none_of X G z_all) (PySem.W.mg_none_of X G z_int) (PySem.W.mg_none_of X G z_len) (PySem.W.mg_none_of X G z_str)
  have G_is_eight_bits : Fn P w K mg base (clAdd C0 "BadText" C_BadText) 2 "is_eight_bits" d_is_eight_bits := ok_is_eight_bits T_is_eight_bits (PySem.W.mg_none_of X G z_int) G_are_figures
  have G_read_address : FnX P w K mg base (clAdd C0 "BadText" C_BadText) 3 "read_address" d_read_address r_read_address := ⟨f_read_address, _, _, PySem.W.mg_of X G a_read_address, k_read_address, bindsN (ps := ["text"]) fun us hl => len1 us hl (fun _ => rfl), ok_read_address (funV_mk (st := s_read_address) l_read_address cc_read_address) hC_BadText O_BadText (PySem.W.mg_none_of X G z_all) (PySem.W.mg_none_of X G z_int) (PySem.W.mg_none_of X G z_len) G_is_eight_bits⟩
  have G_read_beginning : FnX P w K mg base (clAdd C0 "BadText" C_BadText) 1 "read_beginning" d_read_beginning r_read_beginning := ⟨f_read_beginning, _, _, PySem.W.mg_of X G a_read_beginning, k_read_beginning, bindsN (ps := ["text"]) fun us hl => len1 us hl (fun _ => rfl), ok_read_beginning (funV_mk (st := s_read_beginning) l_read_beginning cc_read_beginning) hC_BadText O_BadText (PySem.W.mg_of X G v_WIDTH) (PySem.W.mg_none_of X G z_len)⟩
  have G_l_told : Fn P w K mg base (clAdd C0 "BadText" C_BadText) 4 "_law_told" d_l_told := ok_l_told T_l_told (PySem.W.mg_of X G a_BadDeed) (PySem.W.mg_of X G a_BadText) (PySem.W.mg_of X G a_NoHouse) (PySem.W.mg_of X G a_NoNote) (PySem.W.mg_of X G a_NoRow) (PySem.W.mg_of X G a_NotTied) (PySem.W.mg_of X G a_Owned) (PySem.W.mg_of X G a_PostError) (PySem.W.mg_of X G a_Tied) tc_PostError x_0 x_1 x_2 (PySem.W.mg_none_of X G z_ValueError) (PySem.W.mg_none_of X G z_int) (PySem.W.mg_none_of X G z_isinstance) G_read_beginning G_read_address
  have G_l_bits_of : Fn P w K mg base (clAdd C0 "BadText" C_BadText) 2 "_law_bits_of" d_l_bits_of := ok_l_bits_of T_l_bits_of (PySem.W.mg_none_of X G z_int) (PySem.W.mg_none_of X G z_len) G_l_number
  have G_l_half : Fn P w K mg base (clAdd C0 "BadText" C_BadText) 1 "_law_half" d_l_half := ok_l_half T_l_half (PySem.W.mg_none_of X G z_int) (PySem.W.mg_none_of X G z_range) (PySem.W.mg_none_of X G z_str)
  have G_l_address_of : Fn P w K mg base (clAdd C0 "BadText" C_BadText) 2 "_law_address_of" d_l_address_of := ok_l_address_of T_l_address_of (PySem.W.mg_none_of X G z_len) G_l_half
  exact (law_fn (C := (clAdd C0 "BadText" C_BadText)) (fun_mk (st := s_law) l_law cc_law k_law) (PySem.W.mg_none_of X G z_range) G_l_stream G_l_cell_at G_l_shown G_l_beginning G_l_address_text G_l_address G_l_odd G_l_spoilt G_l_told G_l_bits_of G_l_address_of).imp fun vs H Q E h => h _
theorem walk {l : PySem.W.OpenLaw} {q : Program} {loose : List Str} {XP : (Str → Option Value) → Heap → Prop} {YP : World → Heap → Prop} {d : DefRec} {K : Params → PySem.W.Frag} (hn : l.most = some 63) (hdf : d.params.defaults = [])
    (hY : ∀ (w : World) (h : Heap), YP w h → (K w.params).In h) (holds : ∀ ns : List Int, ns.length ≤ 63 → ∃ Ω, d_law [.scr ns] [] = some (.bl true, Ω))
    (F : ∀ (w : World) (mg : Str → Option Value) (fa : Addr) (h : Heap), (K w.params).In h → h.Ns mainGlobals mg → mg d.name = some (.ref fa) →
      ∃ fd : FuncData, (∀ (s : Shared) (u : Value), BindsTo s fd ⟨[u], []⟩ [("_law_script", u)]) ∧ ∀ base : Heap, (K w.params).In base → base.Ns mainGlobals mg → FnOk l.prog w (K w.params) mg base CX0 5 fa fd ["_law_script"] (spC (K w.params) d_law)) :
    PySem.W.WalkO q loose XP YP l.row.toRowW d [] (fun f vs => PySem.call f vs) :=
  L2.walk_of (n := 63) (k := 5) (x := "_law_script") (CX := fun _ => CX0) (sp := fun w => spC (K w.params) d_law) hn (by decide) hdf ⟨rfl, by decide, by decide, rfl⟩ hY F (fun _ _ a ns hl _ hS => law_okC hS (holds ns hl)) fun _ _ _ _ _ z => z
end Law

open PySem PySem.W PyProof.Rows
set_option maxRecDepth 100000 in
set_option maxHeartbeats 0 in
theorem PySem.Challenge.cw_posthouse_k06_texts_refused_holds : PySem.Challenge.rw_posthouse_k06_texts_refused.Holds := by
  w_on; o_law; k_head; (case hw => w_witness2)
  k_fill
  refine Law.walk (l := PySem.Challenge.rw_posthouse_k06_texts_refused) rfl rfl (fun w h Y => PySem.W.kIn_of Y) Law.holds ?F
  case F =>
    intro w mg fa h KX G hmg
    refine' Law.all_mk KX G hmg ?a_l_stream ?l_l_stream ?cc_l_stream ?k_l_stream ?a_l_cell_at ?l_l_cell_at ?cc_l_cell_at ?k_l_cell_at ?a_l_bits ?l_l_bits ?cc_l_bits ?k_l_bits ?a_l_shown ?l_l_shown ?cc_l_shown ?k_l_shown ?a_l_address_text ?l_l_address_text ?cc_l_address_text ?k_l_address_text ?a_l_odd ?l_l_odd ?cc_l_odd ?k_l_odd ?a_l_number ?l_l_number ?cc_l_number ?k_l_number ?a_l_beginning ?l_l_beginning ?cc_l_beginning ?k_l_beginning ?a_l_address ?l_l_address ?cc_l_address ?k_l_address ?a_l_sign_by ?l_l_sign_by ?cc_l_sign_by ?k_l_sign_by ?a_l_spoilt ?l_l_spoilt ?cc_l_spoilt ?k_l_spoilt ?a_are_figures ?l_are_figures ?cc_are_figures ?k_are_figures ?a_is_eight_bits ?l_is_eight_bits ?cc_is_eight_bits ?k_is_eight_bits ?a_read_address ?l_read_address ?cc_read_address ?k_read_address ?a_read_beginning ?l_read_beginning ?cc_read_beginning ?k_read_beginning ?a_l_told ?l_l_told ?cc_l_told ?k_l_told ?a_l_bits_of ?l_l_bits_of ?cc_l_bits_of ?k_l_bits_of ?a_l_half ?l_l_half ?cc_l_half ?k_l_half ?a_l_address_of ?l_l_address_of ?cc_l_address_of ?k_l_address_of ?a_law ?l_law ?cc_law ?k_law ?a_BadDeed ?a_BadText ?a_NoHouse ?a_NoNote ?a_NoRow ?a_NotTied ?a_Owned ?a_PostError ?a_Tied ?lk_hn ?lk_tk ?ow_BadText ?lk_cl_BadText ?lk_ga_BadText ?lk_hk_BadText ?lk_sub_BadText ?lk_ha_BadText ?lk_hm_BadText ?ex_BadText_PostError ?y_0_BadText ?y_1_BadText ?y_2_BadText ?z_ValueError ?z_all ?z_int ?z_isinstance ?z_len ?z_max ?z_range ?z_str ?v_FIGURES ?v_WIDTH
    (case a_BadDeed => k_is)
    (case a_BadText => k_is)
    (case a_NoHouse => k_is)
    (case a_NoNote => k_is)
    (case a_NoRow => k_is)
    (case a_NotTied => k_is)
    (case a_Owned => k_is)
    (case a_PostError => k_is)
    (case a_Tied => k_is)
    (case a_l_stream => k_is)
    (case l_l_stream => k_is)
    (case cc_l_stream => k_is)
    (case k_l_stream => k_is)
    (case a_l_cell_at => k_is)
    (case l_l_cell_at => k_is)
    (case cc_l_cell_at => k_is)
    (case k_l_cell_at => k_is)
    (case a_l_bits => k_is)
    (case l_l_bits => k_is)
    (case cc_l_bits => k_is)
    (case k_l_bits => k_is)
    (case a_l_shown => k_is)
    (case l_l_shown => k_is)
    (case cc_l_shown => k_is)
    (case k_l_shown => k_is)
    (case a_l_address_text => k_is)
    (case l_l_address_text => k_is)
    (case cc_l_address_text => k_is)
    (case k_l_address_text => k_is)
    (case a_l_odd => k_is)
    (case l_l_odd => k_is)
    (case cc_l_odd => k_is)
    (case k_l_odd => k_is)
    (case a_l_number => k_is)
    (case l_l_number => k_is)
    (case cc_l_number => k_is)
    (case k_l_number => k_is)
    (case a_l_beginning => k_is)
    (case l_l_beginning => k_is)
    (case cc_l_beginning => k_is)
    (case k_l_beginning => k_is)
    (case a_l_address => k_is)
    (case l_l_address => k_is)
    (case cc_l_address => k_is)
    (case k_l_address => k_is)
    (case a_l_sign_by => k_is)
    (case l_l_sign_by => k_is)
    (case cc_l_sign_by => k_is)
    (case k_l_sign_by => k_is)
    (case a_l_spoilt => k_is)
    (case l_l_spoilt => k_is)
    (case cc_l_spoilt => k_is)
    (case k_l_spoilt => k_is)
    (case a_are_figures => k_is)
    (case l_are_figures => k_is)
    (case cc_are_figures => k_is)
    (case k_are_figures => k_is)
    (case a_is_eight_bits => k_is)
    (case l_is_eight_bits => k_is)
    (case cc_is_eight_bits => k_is)
    (case k_is_eight_bits => k_is)
    (case a_read_address => k_is)
    (case l_read_address => k_is)
    (case cc_read_address => k_is)
    (case k_read_address => k_is)
    (case a_read_beginning => k_is)
    (case l_read_beginning => k_is)
    (case cc_read_beginning => k_is)
    (case k_read_beginning => k_is)
    (case a_l_told => k_is)
    (case l_l_told => k_is)
    (case cc_l_told => k_is)
    (case k_l_told => k_is)
    (case a_l_bits_of => k_is)
    (case l_l_bits_of => k_is)
    (case cc_l_bits_of => k_is)
    (case k_l_bits_of => k_is)
    (case a_l_half => k_is)
    (case l_l_half => k_is)
    (case cc_l_half => k_is)
    (case k_l_half => k_is)
    (case a_l_address_of => k_is)
    (case l_l_address_of => k_is)
    (case cc_l_address_of => k_is)
    (case k_l_address_of => k_is)
    (case a_law => k_is)
    (case l_law => k_is)
    (case cc_law => k_is)
    (case k_law => k_is)
    (case lk_hn => k_is)
    (case lk_tk => k_is)
    (case ow_BadText => kernel_rfl)
    (case lk_cl_BadText => kernel_rfl)
    (case lk_ga_BadText => k_is)
    (case lk_hk_BadText => k_is)
    (case lk_sub_BadText => k_is)
    (case lk_ha_BadText => k_is)
    (case lk_hm_BadText => k_is)
    (case ex_BadText_PostError => kernel_rfl)
    (case y_0_BadText => kernel_rfl)
    (case y_1_BadText => kernel_rfl)
    (case y_2_BadText => kernel_rfl)
    (case z_ValueError => k_is)
    (case z_all => k_is)
    (case z_int => k_is)
    (case z_isinstance => k_is)
    (case z_len => k_is)
    (case z_max => k_is)
    (case z_range => k_is)
    (case z_str => k_is)
    (case v_FIGURES => k_is)
    (case v_WIDTH => k_is)
